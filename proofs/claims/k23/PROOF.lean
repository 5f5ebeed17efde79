import PyProof.Rows.All
import Wide.All
import OpenK.AllK
import Wide.FinOn
import Lean
import PyProof.EqAt
import PyProof.EqKinds
import PyProof.TupleCall
import PyProof.Rows.SortRuns
import PyProof.CompFree
import KE.KSortTup
import PyProof.P3Eq
import PyProof.P3In
import PyProof.NeData
import PyProof.WalkInts
import PyProof.Rows.MinMaxN
import PyProof.StrWalks
import PyProof.StrBlockH
import PyProof.StrLawsIn
import PyProof.FString5
import PyProof.StrOps2
import PyProof.ListStr
import PyProof.ConsumeWalk
import PyProof.Rows.StrJoin2
import PyProof.EnumMake
import PyProof.EnumFor
import PyProof.LayNew
import PyProof.Rows.EnumRows
import PyProof.StrCalls
import PyProof.Rows.StrCase
import PyProof.Rows.StrAscii2
import PyProof.Rows.StrFit
import PyProof.IsRules
import PyProof.DictWalks
import PyProof.TupleOfStr
import PyProof.CollectWalk
import PyProof.WalkLemmas
import PyProof.Rows.Range3
import PyProof.Cells
import KE.KRevSl
import PySem.SetTable
import PySem.SetOps
import PyProof.SetKind
import PyProof.TupleKey
import PyProof.DictKinds
import PyProof.Rows.SetFrom
import PyProof.Seq
import PyProof.SetRoads
import PyProof.Walk
import PyProof.MinMaxWalk
import PyProof.DictRoads
import PyProof.AutoListH
import PyProof.FactsAll.list_3
import PyProof.NeKinds
import PyProof.DictRoadsH
import KE.KDictSum
import PyProof.EnumIter
import PyProof.Rows.SeqMore
import PyProof.Rows.TupAdd
import PyProof.Rows.TupDisplay
import PyProof.DictTable
import KE.KDictOf
import PyProof.DictItems
import PyProof.StrLawsFirst
import KE.KDictList
import PyProof.DictValues
import PySem.Challenge.RW_coverpieces_k23_behind
set_option Elab.async false
set_option linter.all false
set_option maxRecDepth 100000
section
namespace K23
open PySem PyProof.Rows
noncomputable def vw:Program:=PySem.W.view PySem.Challenge.pw_coverpieces_k23_behind [1,2,4,5,6,7,8,10,11,12,13,14,15,16,17,19,21,22,23,24,25,27,29,30,31,32,33,34,35,36,37,38,39,40,41,42,43,44,45,46,47,49,50,51,52,53,54,55,56,57,58,59,60,61,62,63]
set_option maxHeartbeats 0 in
theorem said:PySem.W.OpenLaw.wellSaid PySem.Challenge.rw_coverpieces_k23_behind=true:=by kernel_rfl
end K23
open PySem PySem.W PyProof.Rows
local macro_rules | `(tactic| o_law)=>`(tactic| refine holds_law K23.said λsaid=>?_)
local macro_rules | `(tactic| o_head $H)=>`(tactic| refine(λh hw=>holds_open (q:=K23.vw) (loose:=["TURNINGS_BY_MODE"]) (Xt:=(λs=>xlAt K23.vw [] s&&recOk (RowW.records (OpenLaw.row PySem.Challenge.rw_coverpieces_k23_behind).toRowW) s)) (XP:=XL K23.vw []) (Yf:=Hook.obs $H) (Ya:=Hook.val $H) (YP:=Hook.says $H) (N:=3800) (And.left h) (Hook.of $H) (Hook.keeps $H) (λs e=>xl_of s (Bool.and_eq_true_iff.mp e).1) XL.keeps (by rfl) (by rfl) (by rfl) (λs e=>recFacts_of (Bool.and_eq_true_iff.mp e).2) (by rfl) (by assumption) (by decide +kernel) ⟨rfl,rfl,rfl,rfl,rfl,by decide +kernel⟩ hw (And.right h)) ?hc ?hw)
set_option maxRecDepth 100000 in
set_option maxHeartbeats 0 in
open_top K23.hd for PySem.Challenge.rw_coverpieces_k23_behind
namespace K23
noncomputable def hk:Hook:=kHook K23.hd.heap_1 [2,3,15,17,18,20,21,22,24,25,27,28,29,30,32,33,35,36,37,40,41,42,45,46,47,50,51,52,54,55,57,58,59,61,62,64,65,66,68,69,71,72,73,75,76,78,79,80,83,84,85,87,88,90,91,92,94,95,97,98,99,102,103,104,107,108,109,112,113,114,117,118,119,121,122,124,125,126,128,129,131,132,140,143,144,145,146,147,148,149,152,155,156,157,160,161,162,164,165,167,168,169,171,172,174,175,176,178,179,181,182,183,186,187,188,190,191,193,194,195,198,199,200,203,204,205,208,209,210,212,213,215,216,217,219,220,222,223,224,226,227,229,230,231,234,235,236,238,239,241,242,243,245,246,248,249,250,252,253,255,256,257,259,260,262,263,264,267,268,269,271,272,274,275,276,278,279,281,282,283,286,287,288,291,292,293,295,296,298,299,300,302,303,305,306,307,309,310,312,313,314,317,318,319,322,323,324,327,328,329,332,333,334,337,338] (λ_=>by kernel_rfl)
def Lo(w:World):Prop:=(openEnds treeTable PySem.Challenge.pw_coverpieces_k23_behind w 3800).map (λs=>(openSeen vw ["TURNINGS_BY_MODE"] (importedModules PySem.Challenge.pw_coverpieces_k23_behind.main.body) (λs=>xlAt vw [] s&&recOk (RowW.records (OpenLaw.row PySem.Challenge.rw_coverpieces_k23_behind).toRowW) s) true s,hk.obs s))=some (openGood vw ["TURNINGS_BY_MODE"],hk.val w)
set_option maxHeartbeats 0 in
theorem lf(w:World):Lo (w.withFollow "special-get-raises" false):=by unfold Lo;kernel_rfl
set_option maxHeartbeats 0 in
theorem lt(w:World):Lo (w.withFollow "special-get-raises" true):=by unfold Lo;kernel_rfl
theorem left:∀w,Lo w:=byRow2 "special-get-raises" lf lt
end K23
end
set_option Elab.async false
set_option linter.all false
set_option maxRecDepth 100000
set_option maxHeartbeats 8000000
theorem mw{α0:Sort u0}{α1:Sort u1}{t:α0->α1->Prop}(x0:α0)(x1:α1)(h:t x0 x1):∃x0,∃x1,t x0 x1:=⟨x0,x1,h⟩
theorem pk{α0:Sort u0}{α1:Sort u1}{p0:α0->Prop}{t:α0->α1->Prop}(x0:α0)(h0:p0 x0)(x1:α1)(h:t x0 x1):∃x0,p0 x0/\∃x1,t x0 x1:=⟨x0,h0,x1,h⟩
theorem nq{α0:Sort u0}{α1:Sort u1}{α2:Sort u2}{t:α0->α1->α2->Prop}(x0:α0)(x1:α1)(x2:α2)(h:t x0 x1 x2):∃x0,∃x1,∃x2,t x0 x1 x2:=⟨x0,x1,x2,h⟩
theorem oe{α0:Sort u0}{α1:Sort u1}{p0:α0->Prop}{p1:α0->Prop}{t:α0->α1->Prop}(x0:α0)(h0:p0 x0)(h1:p1 x0)(x1:α1)(h:t x0 x1):∃x0,p0 x0/\p1 x0/\∃x1,t x0 x1:=⟨x0,h0,h1,x1,h⟩
theorem oj{α0:Sort u0}{α1:Sort u1}{α2:Sort u2}{p0:α0->Prop}{t:α0->α1->α2->Prop}(x0:α0)(h0:p0 x0)(x1:α1)(x2:α2)(h:t x0 x1 x2):∃x0,p0 x0/\∃x1,∃x2,t x0 x1 x2:=⟨x0,h0,x1,x2,h⟩
theorem m8{α0:Sort u0}{α1:Sort u1}{α2:Sort u2}{α3:Sort u3}{t:α0->α1->α2->α3->Prop}(x0:α0)(x1:α1)(x2:α2)(x3:α3)(h:t x0 x1 x2 x3):∃x0,∃x1,∃x2,∃x3,t x0 x1 x2 x3:=⟨x0,x1,x2,x3,h⟩
theorem vo{α0:Sort u0}{α1:Sort u1}{α2:Sort u2}{p0:α0->Prop}{p1:α0->α1->Prop}{t:α0->α1->α2->Prop}(x0:α0)(h0:p0 x0)(x1:α1)(h1:p1 x0 x1)(x2:α2)(h:t x0 x1 x2):∃x0,p0 x0/\∃x1,p1 x0 x1/\∃x2,t x0 x1 x2:=⟨x0,h0,x1,h1,x2,h⟩
theorem om{α0:Sort u0}{α1:Sort u1}{α2:Sort u2}{α3:Sort u3}{p0:α0->Prop}{t:α0->α1->α2->α3->Prop}(x0:α0)(h0:p0 x0)(x1:α1)(x2:α2)(x3:α3)(h:t x0 x1 x2 x3):∃x0,p0 x0/\∃x1,∃x2,∃x3,t x0 x1 x2 x3:=⟨x0,h0,x1,x2,x3,h⟩
theorem l9{α0:Sort u0}{α1:Sort u1}{α2:Sort u2}{α3:Sort u3}{α4:Sort u4}{t:α0->α1->α2->α3->α4->Prop}(x0:α0)(x1:α1)(x2:α2)(x3:α3)(x4:α4)(h:t x0 x1 x2 x3 x4):∃x0,∃x1,∃x2,∃x3,∃x4,t x0 x1 x2 x3 x4:=⟨x0,x1,x2,x3,x4,h⟩
theorem se{α0:Sort u0}{α1:Sort u1}{α2:Sort u2}{α3:Sort u3}{p0:α0->Prop}{p1:α0->α1->Prop}{t:α0->α1->α2->α3->Prop}(x0:α0)(h0:p0 x0)(x1:α1)(h1:p1 x0 x1)(x2:α2)(x3:α3)(h:t x0 x1 x2 x3):∃x0,p0 x0/\∃x1,p1 x0 x1/\∃x2,∃x3,t x0 x1 x2 x3:=⟨x0,h0,x1,h1,x2,x3,h⟩
theorem me{α0:Sort u0}{α1:Sort u1}{α2:Sort u2}{α3:Sort u3}{α4:Sort u4}{p0:α0->Prop}{t:α0->α1->α2->α3->α4->Prop}(x0:α0)(h0:p0 x0)(x1:α1)(x2:α2)(x3:α3)(x4:α4)(h:t x0 x1 x2 x3 x4):∃x0,p0 x0/\∃x1,∃x2,∃x3,∃x4,t x0 x1 x2 x3 x4:=⟨x0,h0,x1,x2,x3,x4,h⟩
theorem v9{α0:Sort u0}{α1:Sort u1}{α2:Sort u2}{α3:Sort u3}{p0:α0->α1->Prop}{p1:α0->α1->Prop}{t:α0->α1->α2->α3->Prop}(x0:α0)(x1:α1)(h0:p0 x0 x1)(h1:p1 x0 x1)(x2:α2)(x3:α3)(h:t x0 x1 x2 x3):∃x0,∃x1,p0 x0 x1/\p1 x0 x1/\∃x2,∃x3,t x0 x1 x2 x3:=⟨x0,x1,h0,h1,x2,x3,h⟩
theorem zj{α0:Sort u0}{α1:Sort u1}{α2:Sort u2}{p0:α0->Prop}{p1:α0->Prop}{p2:α0->Prop}{p3:α0->Prop}{t:α0->α1->α2->Prop}(x0:α0)(h0:p0 x0)(h1:p1 x0)(h2:p2 x0)(h3:p3 x0)(x1:α1)(x2:α2)(h:t x0 x1 x2):∃x0,p0 x0/\p1 x0/\p2 x0/\p3 x0/\∃x1,∃x2,t x0 x1 x2:=⟨x0,h0,h1,h2,h3,x1,x2,h⟩
theorem mq{α0:Sort u0}{α1:Sort u1}{α2:Sort u2}{α3:Sort u3}{α4:Sort u4}{p0:α0->Prop}{p1:α0->α1->Prop}{t:α0->α1->α2->α3->α4->Prop}(x0:α0)(h0:p0 x0)(x1:α1)(h1:p1 x0 x1)(x2:α2)(x3:α3)(x4:α4)(h:t x0 x1 x2 x3 x4):∃x0,p0 x0/\∃x1,p1 x0 x1/\∃x2,∃x3,∃x4,t x0 x1 x2 x3 x4:=⟨x0,h0,x1,h1,x2,x3,x4,h⟩
theorem n8{α0:Sort u0}{α1:Sort u1}{α2:Sort u2}{α3:Sort u3}{p0:α0->Prop}{p1:α0->α1->α2->Prop}{p2:α0->α1->α2->Prop}{t:α0->α1->α2->α3->Prop}(x0:α0)(h0:p0 x0)(x1:α1)(x2:α2)(h1:p1 x0 x1 x2)(h2:p2 x0 x1 x2)(x3:α3)(h:t x0 x1 x2 x3):∃x0,p0 x0/\∃x1,∃x2,p1 x0 x1 x2/\p2 x0 x1 x2/\∃x3,t x0 x1 x2 x3:=⟨x0,h0,x1,x2,h1,h2,x3,h⟩
theorem aan{α0:Sort u0}{α1:Sort u1}{α2:Sort u2}{α3:Sort u3}{p0:α0->α1->Prop}{p1:α0->α1->Prop}{p2:α0->α1->Prop}{t:α0->α1->α2->α3->Prop}(x0:α0)(x1:α1)(h0:p0 x0 x1)(h1:p1 x0 x1)(h2:p2 x0 x1)(x2:α2)(x3:α3)(h:t x0 x1 x2 x3):∃x0,∃x1,p0 x0 x1/\p1 x0 x1/\p2 x0 x1/\∃x2,∃x3,t x0 x1 x2 x3:=⟨x0,x1,h0,h1,h2,x2,x3,h⟩
theorem uz{α0:Sort u0}{α1:Sort u1}{α2:Sort u2}{α3:Sort u3}{α4:Sort u4}{p0:α0->Prop}{p1:α0->Prop}{p2:α0->α1->Prop}{t:α0->α1->α2->α3->α4->Prop}(x0:α0)(h0:p0 x0)(h1:p1 x0)(x1:α1)(h2:p2 x0 x1)(x2:α2)(x3:α3)(x4:α4)(h:t x0 x1 x2 x3 x4):∃x0,p0 x0/\p1 x0/\∃x1,p2 x0 x1/\∃x2,∃x3,∃x4,t x0 x1 x2 x3 x4:=⟨x0,h0,h1,x1,h2,x2,x3,x4,h⟩
theorem og{α0:Sort u0}{α1:Sort u1}{α2:Sort u2}{α3:Sort u3}{α4:Sort u4}{p0:α0->Prop}{p1:α0->α1->Prop}{p2:α0->α1->α2->Prop}{t:α0->α1->α2->α3->α4->Prop}(x0:α0)(h0:p0 x0)(x1:α1)(h1:p1 x0 x1)(x2:α2)(h2:p2 x0 x1 x2)(x3:α3)(x4:α4)(h:t x0 x1 x2 x3 x4):∃x0,p0 x0/\∃x1,p1 x0 x1/\∃x2,p2 x0 x1 x2/\∃x3,∃x4,t x0 x1 x2 x3 x4:=⟨x0,h0,x1,h1,x2,h2,x3,x4,h⟩
theorem uv{α0:Sort u0}{α1:Sort u1}{α2:Sort u2}{α3:Sort u3}{p0:α0->Prop}{p1:α0->α1->α2->Prop}{p2:α0->α1->α2->Prop}{p3:α0->α1->α2->Prop}{t:α0->α1->α2->α3->Prop}(x0:α0)(h0:p0 x0)(x1:α1)(x2:α2)(h1:p1 x0 x1 x2)(h2:p2 x0 x1 x2)(h3:p3 x0 x1 x2)(x3:α3)(h:t x0 x1 x2 x3):∃x0,p0 x0/\∃x1,∃x2,p1 x0 x1 x2/\p2 x0 x1 x2/\p3 x0 x1 x2/\∃x3,t x0 x1 x2 x3:=⟨x0,h0,x1,x2,h1,h2,h3,x3,h⟩
theorem sj{α0:Sort u0}{α1:Sort u1}{α2:Sort u2}{α3:Sort u3}{α4:Sort u4}{p0:α0->Prop}{p1:α0->α1->Prop}{p2:α0->α1->α2->α3->Prop}{p3:α0->α1->α2->α3->Prop}{t:α0->α1->α2->α3->α4->Prop}(x0:α0)(h0:p0 x0)(x1:α1)(h1:p1 x0 x1)(x2:α2)(x3:α3)(h2:p2 x0 x1 x2 x3)(h3:p3 x0 x1 x2 x3)(x4:α4)(h:t x0 x1 x2 x3 x4):∃x0,p0 x0/\∃x1,p1 x0 x1/\∃x2,∃x3,p2 x0 x1 x2 x3/\p3 x0 x1 x2 x3/\∃x4,t x0 x1 x2 x3 x4:=⟨x0,h0,x1,h1,x2,x3,h2,h3,x4,h⟩
theorem aex{α0:Sort u0}{α1:Sort u1}{α2:Sort u2}{α3:Sort u3}{α4:Sort u4}{p0:α0->Prop}{p1:α0->α1->α2->Prop}{p2:α0->α1->α2->Prop}{p3:α0->α1->α2->Prop}{t:α0->α1->α2->α3->α4->Prop}(x0:α0)(h0:p0 x0)(x1:α1)(x2:α2)(h1:p1 x0 x1 x2)(h2:p2 x0 x1 x2)(h3:p3 x0 x1 x2)(x3:α3)(x4:α4)(h:t x0 x1 x2 x3 x4):∃x0,p0 x0/\∃x1,∃x2,p1 x0 x1 x2/\p2 x0 x1 x2/\p3 x0 x1 x2/\∃x3,∃x4,t x0 x1 x2 x3 x4:=⟨x0,h0,x1,x2,h1,h2,h3,x3,x4,h⟩
theorem m9{α0:Sort u0}{α1:Sort u1}{α2:Sort u2}{α3:Sort u3}{α4:Sort u4}{p0:α0->α1->Prop}{p1:α0->α1->Prop}{p2:α0->α1->Prop}{p3:α0->α1->α2->α3->Prop}{t:α0->α1->α2->α3->α4->Prop}(x0:α0)(x1:α1)(h0:p0 x0 x1)(h1:p1 x0 x1)(h2:p2 x0 x1)(x2:α2)(x3:α3)(h3:p3 x0 x1 x2 x3)(x4:α4)(h:t x0 x1 x2 x3 x4):∃x0,∃x1,p0 x0 x1/\p1 x0 x1/\p2 x0 x1/\∃x2,∃x3,p3 x0 x1 x2 x3/\∃x4,t x0 x1 x2 x3 x4:=⟨x0,x1,h0,h1,h2,x2,x3,h3,x4,h⟩
theorem ox{α0:Sort u0}{α1:Sort u1}{α2:Sort u2}{α3:Sort u3}{α4:Sort u4}{p0:α0->α1->Prop}{p1:α0->α1->Prop}{p2:α0->α1->α2->α3->Prop}{p3:α0->α1->α2->α3->Prop}{t:α0->α1->α2->α3->α4->Prop}(x0:α0)(x1:α1)(h0:p0 x0 x1)(h1:p1 x0 x1)(x2:α2)(x3:α3)(h2:p2 x0 x1 x2 x3)(h3:p3 x0 x1 x2 x3)(x4:α4)(h:t x0 x1 x2 x3 x4):∃x0,∃x1,p0 x0 x1/\p1 x0 x1/\∃x2,∃x3,p2 x0 x1 x2 x3/\p3 x0 x1 x2 x3/\∃x4,t x0 x1 x2 x3 x4:=⟨x0,x1,h0,h1,x2,x3,h2,h3,x4,h⟩
open PySem renaming wpAny_bind->aa,wpAny_pure->af,wpAny_callSpecial?_slot->ce,wpAny_call_entry->cf,wpAny_newObj_type->cg,wpAny_holding->fk,boot_len->ft,wpAny_truthy_bool->fy,wpAny_setField->gl,wpAny_setState_of->gq,wpAny_field->gr,codeAny_builtin->ik,sizeLine_eq->io,mem_of_lookup->iq,wpAny_mono->iz,wpAny_Call_Name_kw->i7,wpAny_attempt->jd,wpAny_seqItems->jf,wpAny_rule->jz,wpAny_specialOf->j5,plainId_quiet->kq,wpAny_isInstance->kz,wpAny_forIn_list->k5,wpAny_typeNameOfWhole_keyiter->k7,wpAny_typeNameOfWhole_valiter->k8,wpAny_fieldsOf->lh
open List renaming getElem?_eq_getElem->ab,getElem?_eq_some_iff->ae,length_map->ah,mem_singleton->ao,mem_of_getElem?->aq,getElem?_map->aw,mem_append->ax,size_toArray->ay,take_of_length_le->a9,mem_cons_of_mem->bf,mem_map->bi,mem_cons_self->bj,mem_cons->bq,map_append->br,length_append->bu,append_assoc->bx,length_take->b0,length_cons->b8,range->b9,getElem?_append_right->cb,getElem?_of_mem->cn,mem_iff_getElem?->cp,map_map->cq,getElem?_append_left->cr,mem_append_right->cz,map_cons->c5,take_append_drop->df,pairwise_append->dh,getElem_mem->dv,getElem?_take_of_lt->dw,getElem?_eq_none->fc,cons_lt_cons_iff->ff,mem_range->fg,getElem?_drop->fq,take_add_one->f7,length_range->f9,append_nil->gf,length_drop->gk,pairwise_map->gn,mem_of_mem_take->gt,replicate->gw,any_eq_true->gz,map_congr_left->g0,length_singleton->g9,find?_cons->ix,lookup_cons->ja,not_mem_nil->jb,getElem?_range->jj,mem_map_of_mem->jk,getD_eq_getElem?_getD->jm,contains_iff_mem->jr,drop_zero->jt,mem_append_left->jv,take_sublist->jy,ext_getElem?->j4,length_nil->j8,range_succ->j9,all_eq_true->ku,take_length->k6,getElem?_take->lj,mem_filter->ll,nodup_cons->ln
open PySem.W renaming Frag->ai,mg_none_of->cy,nsIn->dg,findIn->gj,kia_one->ii,emptyDict->ip,instObj->jw,fnOf->kb,keepIn->lg
open Bool renaming false_ne_true->aj,false_eq_true->az,and_eq_true->du,eq_iff_iff->ig,not_true->ij
open PySem.Heap renaming get?_push_of_some->ak,get?_push_size->av,lt_size->bn,SameBut->bw,get?_update_self->ck,get?_update_other->c8,ExtBut->ju,size_push->k9
open Nat renaming le_refl->am,lt_of_lt_of_le->cw,ne_of_lt->c9,le_trans->db,zero_le->dq,lt_of_le_of_lt->eu,add_le_add_left->fj,min_eq_left->fx,le_of_lt->gc,le_succ_of_le->gp,pow_le_pow_right->gu,mod_eq_of_lt->gy,lt_irrefl->jc,mul_le_mul->jg,add_assoc->jn,sub_self->ke,pow_succ->kh,le_succ->km
open Array renaming length_toList->au,getElem?_toList->bb,getElem?_eq_some_iff->bm,getElem?_eq_getElem->bz,perm_iff_toList_perm->jl,size_extract->jo
open PyProof.Rows renaming wpS_bind->a8,wpS_pure->bp,callWith_type1->ge,wpS_forRange->gh,slot_tuple_getitem->gm,wpS_mono->iu,boot_tuple->li,boot_isinstance->lq
open PySem.Str renaming ofString->ba
open Option renaming map_eq_some_iff->bv,toList_some->gv
open PySem.PyData renaming depthAll->b7,eqv->cj,eqvAll->fv,canLayAll0->ic,strOk->iw,depth->jh
open Int renaming toNat_natCast->cc,eq_ofNat_of_zero_le->fw,le_refl->ji
open PySem.PassesOwn renaming never->ci
open Option.some renaming inj->cm
open PySem.Builtin.SmallTypes renaming nextOf->cu
open PySem.Heap.SameBut renaming update->cx
open PySem.F renaming plainAttrs_list->da,slot_list_append->dz,type_list_append->ee,slot_tuple_hash->ir,slot_dict_valueiterator_next->iy,called_set->i9,slot_dict_keyiterator_next->je,slot_str_ascii_iterator_next->kg,plain_max_loop->ky
open PySem.Builtin.Tuple renaming tupleHashOf->fh
open Classical renaming byContradiction->f8
open PySem.Around renaming under_plainId->gd
open List.Pairwise renaming sublist->gi,imp_of_mem->j7
open PySem.Obj renaming mapSeq->g8,data_mapFields->i8
open List.Perm renaming append_left->h9
open PySem.SetTable renaming insertAt->ie
open PySem.SeqAt.ReadsAll renaming length->jp
open PySem.Builtin.Dict renaming showsAll->jq
open False renaming elim->jx
namespace L3
end L3
namespace L2
open PySem PySem.Spec PyProof.Rows
noncomputable abbrev Key:=Sum Int Str
noncomputable def asj:Key->Value->Bool
 | .inl k,v=>Value.isInt k v
 | .inr x,v=>Value.isStrOf x v
noncomputable def ax1(w:World):Key->Int
 | .inl k=>hashInt k
 | .inr x=>hashStr w x
theorem p6:∀{k:Key} {v:Value},asj k v=true->(∃i t,k=Sum.inl i/\v=Value.int i t)\/(∃x t,k=Sum.inr x/\v=Value.str x t)
 | .inl i,v,h=>by
  obtain⟨t,e⟩:=Value.isInt_shape (k:=i) (v:=v) h
  exact .inl ⟨i,t,rfl,e⟩
 | .inr x,v,h=>by
  obtain⟨t,e⟩:=Value.isStrOf_shape (x:=x) (v:=v) h
  exact .inr ⟨x,t,rfl,e⟩
theorem as9(a b:Int):decide ((Sum.inl a:Key)=Sum.inl b)=(a==b):=by
 by_cases e:a=b
 .subst e;simp
 .have h:¬(Sum.inl a:Key)=Sum.inl b:=λq=>e (Sum.inl.inj q)
  rw[decide_eq_false h]
  exact(beq_eq_false_iff_ne.mpr e).symm
theorem atd(a b:Str):decide ((Sum.inr a:Key)=Sum.inr b)=decide (a=b):=by
 by_cases e:a=b
 .subst e;simp
 .have h:¬(Sum.inr a:Key)=Sum.inr b:=λq=>e (Sum.inr.inj q)
  rw[decide_eq_false h,decide_eq_false e]
theorem aq0(a:Int)(b:Str):decide ((Sum.inl a:Key)=Sum.inr b)=false:=decide_eq_false (λq=>nomatch q)
theorem arc(a:Str)(b:Int):decide ((Sum.inr a:Key)=Sum.inl b)=false:=decide_eq_false (λq=>nomatch q)
noncomputable def ajd(prog:Program)(w:World):PySem.KeyKind prog w Key where
 is:=asj
 hash:=ax1 w
 inj:=λv a b ha hb=>by
  rcases p6 ha with ⟨i,t,rfl,rfl⟩|⟨x,t,rfl,rfl⟩
  .rcases p6 hb with ⟨j,u,rfl,e⟩|⟨y,u,rfl,e⟩
   .injection e with e1 _;rw[e1]
   .exact nomatch e
  .rcases p6 hb with ⟨j,u,rfl,e⟩|⟨y,u,rfl,e⟩
   .exact nomatch e
   .injection e with e1 _;rw[e1]
 byValue:=λk v h=>by
  rcases p6 h with ⟨i,t,rfl,rfl⟩|⟨x,t,rfl,rfl⟩<;>rfl
 pyHash:=λhv h=>by
  rcases p6 hv with ⟨i,t,rfl,rfl⟩|⟨x,t,rfl,rfl⟩
  .exact wpAny_pyHash_int h
  .exact wpAny_pyHash_str h
 eqBool:=λhu hv h=>by
  rcases p6 hu with ⟨i,t,rfl,rfl⟩|⟨x,t,rfl,rfl⟩
  .rcases p6 hv with ⟨j,u,rfl,rfl⟩|⟨y,u,rfl,rfl⟩
   .rw[as9]at h;exact wpAny_eqBool_int h
   .rw[aq0]at h;exact SeqAt.EqAt.int_str i t y u _ _ _ _ h
  .rcases p6 hv with ⟨j,u,rfl,rfl⟩|⟨y,u,rfl,rfl⟩
   .rw[arc]at h;exact SeqAt.EqAt.str_int x t j u _ _ _ _ h
   .rw[atd]at h;exact wpAny_eqBool_str h
 «strs»:=λk x t v h=>by
  rcases p6 h with ⟨i,u,rfl,e⟩|⟨y,u,rfl,e⟩
  .exact nomatch e
  .injection e with e1 _
   subst e1
   cases v<;>rfl
end L2
namespace L2
open PySem PySem.Spec PyProof.Rows
inductive V where
 | non|bl (b:Bool)|int (i:Int)|str (x:Str)|byt (b:Array UInt8)|flt (b:UInt64)|ref (a:Addr)|ty (n:String)
 deriving DecidableEq
def RelV:V->Value->Prop
 | .non,u=>u=Value.none
 | .bl b,u=>u=Value.bool b
 | .int i,u=>∃t,u=Value.int i t
 | .str x,u=>∃t,u=Value.str x t
 | .byt b,u=>∃t,u=Value.bytes b t
 | .flt b,u=>∃t,u=Value.float b t
 | .ref a,u=>u=Value.ref a
 | .ty n,u=>u=Value.type n
noncomputable abbrev Vals:List V->List Value->Prop:=Paired RelV
theorem Vals.length{xs:List V}{us:List Value}(r:Vals xs us):xs.length=us.length:=Paired.length r
theorem Vals.get:∀{xs:List V} {us:List Value} {i:Nat} {x:V},Vals xs us->xs[i]?=some x->∃u,us[i]?=some u/\RelV x u
 | _,_,_,_,.nil,e=>by simp at e
 | _,_,0,_,.cons r _,e=>by simp at e;subst e;exact⟨_,rfl,r⟩
 | _,_,i+1,x,.cons _ t,e=>by
  obtain⟨u,h1,h2⟩:=Vals.get (i:=i) (x:=x) t (by simpa using e)
  exact⟨u,by simpa using h1,h2⟩
theorem Vals.set{x:V}{u:Value}(r:RelV x u):∀{xs:List V} {us:List Value} (i:Nat),Vals xs us->Vals (xs.set i x) (us.set i u)
 | _,_,_,.nil=>.nil
 | _,_,0,.cons _ t=>.cons r t
 | _,_,i+1,.cons q t=>.cons q (Vals.set r i t)
theorem Vals.append:∀{xs ys:List V} {us ws:List Value},Vals xs us->Vals ys ws->Vals (xs++ys) (us++ws)
 | _,_,_,_,.nil,s=>s
 | _,_,_,_,.cons r t,s=>.cons r (Vals.append t s)
theorem Vals.take:∀{xs:List V} {us:List Value} (n:Nat),Vals xs us->Vals (xs.take n) (us.take n)
 | _,_,0,_=>.nil
 | _,_,_+1,.nil=>.nil
 | _,_,n+1,.cons r t=>.cons r (Vals.take n t)
theorem Vals.drop:∀{xs:List V} {us:List Value} (n:Nat),Vals xs us->Vals (xs.drop n) (us.drop n)
 | _,_,0,r=>r
 | _,_,_+1,.nil=>.nil
 | _,_,n+1,.cons _ t=>Vals.drop n t
def RelO:Option V->Option Value->Prop
 | some v,some u=>RelV v u
 | none,none=>True
 | _,_=>False
def KV{κ:Type}:List (κ×V)->List (κ×Value)->Prop:=Paired λ(p:κ×V) (q:κ×Value)=>p.1=q.1/\RelV p.2 q.2
noncomputable def kV:Key->V
 | .inl i=>.int i
 | .inr x=>.str x
inductive HO where
 | lst (xs:List V)
 | tup (xs:List V)
 | dK (kvs:List (Key×V))|dT (kvs:List (List Key×V))
 | set (S:Int->Bool) (n:Nat)
 | ins (C dx:Addr) (fs:List (Str×V))
 | own (x:Addr)
 | xd (fs:List (Str×V))
 | met (f x:Addr)
 | rng (lo hi:Int)
 | frz (o:Obj) (u:HO)
 | tbl (ps:Array Value)
 | ext (φ:Heap->Prop)
noncomputable abbrev Hp:=Addr->Option HO
noncomputable def upd(H:Hp)(a:Addr)(o:HO):Hp:=λb=>if b=a then some o else H b
theorem mr{H:Hp}{a:Addr}{o:HO}:upd H a o a=some o:=by unfold upd;rw[if_pos rfl]
theorem nj{H:Hp}{a b:Addr}{o:HO}(h:b≠a):upd H a o b=H b:=by unfold upd;rw[if_neg h]
theorem sx{H:Hp}{a b:Addr}{o u:HO}(h:H a=some o)(h':H b=some u)(d:o≠u):a≠b:=by
 intro e;subst e;rw[h]at h';exact d (cm h')
theorem pf{H:Hp}{a b:Addr}{o:HO}(h:H a=some o)(h':H b=none):a≠b:=by
 intro e;subst e;rw[h]at h';cases h'
section
variable(P:Program)(w:World)
def ObjOk(H:Hp)(h:Heap)(a:Addr):HO->Prop
 | .lst xs=>xs.length<=sizeLine/\∃(its:List Value)(n:Nat),Vals xs its/\h.get? a=some {cls:=.type "list",data:=.seq its.toArray n}
 | .tup xs=>xs.length<=sizeLine/\∃its:List Value,Vals xs its/\IsTup h a its.toArray
 | .dK kvs=>kvs.length<=sizeLine/\(a==sysModules)=false/\∃vs,KV kvs vs/\h.DictOf (ajd P w) a vs
 | .dT kvs=>kvs.length<=sizeLine/\(a==sysModules)=false/\∃xs:List (List Key×Addr×Value),
   Paired (λ(p:List Key×V) (q:List Key×Addr×Value)=>p.1=q.1/\H q.2.1=some (.tup (p.1.map kV))/\RelV p.2 q.2.2) kvs xs/\
   ∃o es ep,h.get? a=some o/\o.ExactDict/\o.data=.dict es ep/\es.toList=xs.map (entryOfKey (tupleKind (ajd P w)))/\(xs.map (·.1)).Nodup
 | .set S n=>h.SetOf (intKind P w) a S n
 | .ins C dx fs=>H dx=some (.own a)/\fs.length<=1000/\dx≠a/\h.get? a=some (jw C dx)/\
   ∃mA,h.Ns1 dx mA/\(∀f,RelO (fs.lookup f) (mA f))/\PySem.Within mA (fs.map (·.1))
 | .own _=>∃o,h.get? a=some o
 | .xd fs=>∃mA,h.Ns1 a mA/\∀f,RelO (fs.lookup f) (mA f)
 | .rng lo hi=>∃t u v,h.get? a=some {cls:=.type "range",data:=.fields #[.int lo t,.int hi u,.int 1 v]}
 | .frz o u=>h.get? a=some o/\ObjOk H h a u
 | .tbl ps=>h.get? a=some {cls:=.none,data:=.fields ps}
 | .met f x=>h.get? a=some (PySem.W.methodObj (.ref f) (.ref x))
 | .ext φ=>φ h/\(∃o,h.get? a=some o)/\∀h1 h2:Heap,φ h1->(∀o,h1.get? a=some o->h2.get? a=some o)->φ h2
def HOk(H:Hp)(h:Heap):Prop:=∀a o,H a=some o->ObjOk P w H h a o
end
section
variable{P:Program}{w:World}{H H':Hp}{h h':Heap}{a:Addr}{o:HO}
theorem ObjOk.lt(x:ObjOk P w H h a o):a<h.objs.size:=by
 cases o with
 | lst xs=>obtain⟨_,_,_,_,e⟩:=x;exact bn e
 | tup xs=>obtain⟨_,_,_,p⟩:=x;exact p.lt
 | dK kvs=>obtain⟨_,_,_,_,o,_,_,e,_⟩:=x;exact bn e
 | dT kvs=>obtain⟨_,_,_,_,o,_,_,e,_⟩:=x;exact bn e
 | set S n=>obtain⟨o,_,_,_,e,_⟩:=x;exact bn e
 | ins C dx fs=>obtain⟨_,_,_,e,_⟩:=x;exact bn e
 | own y=>obtain⟨_,e⟩:=x;exact bn e
 | xd fs=>obtain⟨_,⟨_,_,_,e,_⟩,_⟩:=x;exact bn e
 | rng lo hi=>obtain⟨_,_,_,e⟩:=x;exact bn e
 | frz ob u=>obtain⟨e,_⟩:=x;exact bn e
 | tbl ps=>exact bn (show h.get? a=some _ from x)
 | met f y=>exact bn (show h.get? a=some _ from x)
 | ext φ=>obtain⟨_,⟨_,e⟩,_⟩:=x;exact bn e
theorem Paired.mapP{α β:Type}{F G:α->β->Prop}:∀{l₁:List α} {l₂:List β},Paired F l₁ l₂->(∀a b,F a b->G a b)->Paired G l₁ l₂
 | _,_,.nil,_=>.nil
 | _,_,.cons r t,f=>.cons (f _ _ r) (Paired.mapP t f)
theorem ObjOk.stay(x:ObjOk P w H h a o)(k:∀b u,(b=a\/H b=some (.own a))->h.get? b=some u->h'.get? b=some u)
  (ho:∀b,H b=some (.own a)->H' b=some (.own a)) (ht:∀b xs,H b=some (.tup xs)->H' b=some (.tup xs)):ObjOk P w H' h' a o:=by
 induction o with
 | lst xs=>obtain⟨z,its,n,r,e⟩:=x;exact⟨z,its,n,r,k _ _ (.inl rfl) e⟩
 | tup xs=>obtain⟨z,its,r,ob,e,c⟩:=x;exact⟨z,its,r,ob,k _ _ (.inl rfl) e,c⟩
 | dK kvs=>obtain⟨z,y,vs,r,ob,es,ep,e,c⟩:=x;exact⟨z,y,vs,r,ob,es,ep,k _ _ (.inl rfl) e,c⟩
 | dT kvs=>
  obtain⟨z,y,xs,r,ob,es,ep,e,c⟩:=x
  exact⟨z,y,xs,Paired.mapP r λp q z=>⟨z.1,ht _ _ z.2.1,z.2.2⟩,ob,es,ep,k _ _ (.inl rfl) e,c⟩
 | set S n=>obtain⟨ob,es,ep,t,e,c⟩:=x;exact⟨ob,es,ep,t,k _ _ (.inl rfl) e,c⟩
 | ins C dx fs=>
  obtain⟨d,z,ne,e,mA,⟨od,es,ep,e2,c⟩,r⟩:=x
  exact⟨ho _ d,z,ne,k _ _ (.inl rfl) e,mA,⟨od,es,ep,k _ _ (.inr d) e2,c⟩,r⟩
 | own y=>obtain⟨ob,e⟩:=x;exact⟨ob,k _ _ (.inl rfl) e⟩
 | xd fs=>obtain⟨mA,⟨od,es,ep,e,c⟩,r⟩:=x;exact⟨mA,⟨od,es,ep,k _ _ (.inl rfl) e,c⟩,r⟩
 | rng lo hi=>obtain⟨t,u,v,e⟩:=x;exact⟨t,u,v,k _ _ (.inl rfl) e⟩
 | frz ob u ih=>obtain⟨e,q⟩:=x;exact⟨k _ _ (.inl rfl) e,ih q⟩
 | tbl ps=>
  have e:h.get? a=some {cls:=.none,data:=.fields ps}:=x
  show h'.get? a=some {cls:=.none,data:=.fields ps}
  exact k a _ (.inl rfl) e
 | met f y=>
  have e:h.get? a=some (PySem.W.methodObj (.ref f) (.ref y)):=x
  show h'.get? a=some (PySem.W.methodObj (.ref f) (.ref y))
  exact k a _ (.inl rfl) e
 | ext φ=>obtain⟨p,⟨o,e⟩,st⟩:=x;exact⟨st _ _ p λo q=>k _ _ (.inl rfl) q,⟨o,k _ _ (.inl rfl) e⟩,st⟩
theorem HOk.lt(x:HOk P w H h)(e:H a=some o):a<h.objs.size:=(x a o e).lt
theorem HOk.fresh(x:HOk P w H h)(e:h.objs.size<=a):H a=none:=by
 cases q:H a with
 | none=>rfl
 | some u=>exact absurd (cw (x.lt q) e) (jc _)
theorem HOk.kept(x:HOk P w H h)(k:∀b u,h.get? b=some u->h'.get? b=some u):HOk P w H h':=λa o e=>
 (x a o e).stay (λb u _ q=>k b u q) (λ_ q=>q) λ_ _ q=>q
theorem HOk.laid(x:HOk P w H h)(k:∀b u,h.get? b=some u->h'.get? b=some u)(hp:h.objs.size<=a)(new:ObjOk P w (upd H a o) h' a o):HOk P w (upd H a o) h':=λb u e=>by
 have hn:=x.fresh hp
 by_cases hb:b=a
 .subst hb;rw[mr]at e;cases e;exact new
 .rw[nj hb]at e
  exact(x b u e).stay (λc v _ q=>k c v q) (λc q=>by rw[nj (pf q hn)];exact q) λc xs q=>by rw[nj (pf q hn)];exact q
end
def Rd(H:Hp)(a:Addr)(u:HO):Prop:=H a=some u\/∃o,H a=some (.frz o u)
theorem Rd.ok{P:Program}{w:World}{H:Hp}{h:Heap}{a:Addr}{u:HO}(r:Rd H a u)(x:HOk P w H h):ObjOk P w H h a u:=by
 rcases r with r|⟨o,r⟩
 .exact x a u r
 .obtain⟨_,q⟩:=x a _ r
  exact q
def Mut:Option HO->Prop
 | some (.lst _)=>True
 | some (.dK _)=>True
 | some (.dT _)=>True
 | some (.set _ _)=>True
 | some (.ins _ _ _)=>True
 | some (.ext _)=>True
 | _=>False
section
variable{P:Program}{w:World}{H:Hp}{h h':Heap}{x e:Addr}{o':HO}
theorem HOk.write(ok:HOk P w H h)(mu:Mut (H x))(he:e=x\/H e=some (.own x))(k:∀b u,b≠e->h.get? b=some u->h'.get? b=some u)(heo:∃u,h'.get? e=some u)
  (new:ObjOk P w (upd H x o') h' x o'):HOk P w (upd H x o') h':=λb u q=>by
 have nown:∀c y,H c=some (.own y)->c≠x:=λc y r z=>by subst z;rw[r]at mu;exact mu
 have ntup:∀c xs,H c=some (.tup xs)->c≠x:=λc xs r z=>by subst z;rw[r]at mu;exact mu
 by_cases hb:b=x
 .subst hb;rw[mr]at q;cases q;exact new
 .rw[nj hb]at q
  by_cases hbe:b=e
  .have q':H b=some (.own x):=by
    rcases he with z|z
    .exact absurd (hbe.trans z) hb
    .rw[hbe];exact z
   rw[q]at q';cases q'
   obtain⟨v,hv⟩:=heo
   exact⟨v,by rw[hbe];exact hv⟩
  .refine(ok b u q).stay (λc v hc r=>k c v ?_ r) (λc r=>by rw[nj (nown c b r)];exact r) λc xs r=>by rw[nj (ntup c xs r)];exact r
   rcases hc with rfl|hc
   .exact hbe
   .rintro rfl
    rcases he with z|z
    .exact nown c b hc z
    .rw[hc]at z;cases z;exact hb rfl
end
structure Un(fs ex:List Addr)(H H':Hp)(h h':Heap):Prop where
 keep:∀b o,h.get? b=some o->H b=none->b∉fs->b∉ex->h'.get? b=some o
 slot:∀b o,h.get? b=some o->H b=none->b∈fs->b∉ex->∃sl,h'.get? b=some {o with slots:=sl}
 free:∀b o,h.get? b=some o->H b=none->b∉ex->H' b=none
 there:∀b o,h.get? b=some o->b∉ex->∃o',h'.get? b=some o'
 tups:∀b xs,H b=some (.tup xs)->H' b=some (.tup xs)
 frzs:∀b o u,H b=some (.frz o u)->H' b=some (.frz o u)
 tbls:∀b ps,H b=some (.tbl ps)->∃more,H' b=some (.tbl (ps++more))
section
variable{fs fs' ex ex':List Addr}{H H1 H2:Hp}{h h1 h2 h':Heap}{a x e:Addr}{o:HO}
theorem Un.any(u:Un fs ex H H1 h h1){b:Addr}{ob:Obj}(q:h.get? b=some ob)(n:H b=none)(hx:b∉ex):∃sl,h1.get? b=some {ob with slots:=sl}:=by
 by_cases hb:b∈fs
 .exact u.slot b ob q n hb hx
 .exact⟨ob.slots,u.keep b ob q n hb hx⟩
theorem Un.kept(k:∀b u,h.get? b=some u->h'.get? b=some u):Un fs ex H H h h':=
 ⟨λb ob q _ _ _=>k b ob q,λb ob q _ _ _=>⟨ob.slots,k b ob q⟩,λ_ _ _ n _=>n,λb ob q _=>⟨ob,k b ob q⟩,λ_ _ q=>q,λ_ _ _ q=>q,λ_ ps q=>⟨#[],by rw[q];simp⟩⟩
theorem Un.refl:Un fs ex H H h h:=Un.kept λ_ _ q=>q
theorem Un.laid(k:∀b u,h.get? b=some u->h'.get? b=some u)(hp:h.objs.size<=a)(hn:H a=none):Un fs ex H (upd H a o) h h' where
 keep:=λb u q _ _ _=>k b u q
 slot:=λb u q _ _ _=>⟨u.slots,k b u q⟩
 free:=λb u q n _=>by rw[nj (c9 (cw (bn q) hp))];exact n
 there:=λb u q _=>⟨u,k b u q⟩
 tups:=λb xs q=>by rw[nj (pf q hn)];exact q
 frzs:=λb u xs q=>by rw[nj (pf q hn)];exact q
 tbls:=λb ps q=>⟨#[],by rw[nj (pf q hn),q];simp⟩
theorem Un.write(mu:Mut (H x))(he:e=x\/H e=some (.own x))(k:∀b u,b≠e->h.get? b=some u->h'.get? b=some u)(heo:∃u,h'.get? e=some u):Un fs ex H (upd H x o) h h':=by
 have hx:∀b,H b=none->b≠x:=λb n z=>by subst z;rw[n]at mu;exact mu
 have hb:∀b,H b=none->b≠e:=λb n z=>by
  subst z
  rcases he with r|r
  .exact hx b n r
  .rw[n]at r;cases r
 have hm:∀b u,H b=some u->¬Mut (some u)->b≠x:=λb u q nm z=>by subst z;rw[q]at mu;exact nm mu
 refine⟨λb u q n _ _=>k b u (hb b n) q,λb u q n _ _=>⟨u.slots,k b u (hb b n) q⟩,λb u q n _=>by rw[nj (hx b n)];exact n,λb u q _=>?_,
  λb xs q=>by rw[nj (hm b _ q λz=>z)];exact q,λb u xs q=>by rw[nj (hm b _ q λz=>z)];exact q,λb ps q=>⟨#[],by rw[nj (hm b _ q λz=>z),q];simp⟩⟩
 by_cases hbe:b=e
 .subst hbe;exact heo
 .exact⟨u,k b u hbe q⟩
end
noncomputable def trk(h:Heap)(H:Hp):List Addr:=(b9 h.objs.size).filter λa=>(H a).isSome
noncomputable def al0(h:Heap)(H:Hp):Heap:=PySem.W.hideAll h (trk h H)
theorem ah3(h:Heap)(H:Hp):(al0 h H).objs.size=h.objs.size:=PySem.W.hideAll_size _ _
theorem aly{h:Heap}{H:Hp}{b:Addr}{o:Obj}(e:h.get? b=some o)(n:H b=none):(al0 h H).get? b=some o:=
 PySem.W.hideAll_get _ e λhm=>by
  have q:(H b).isSome=true:=(ll.mp hm).2
  rw[n]at q;simp at q
theorem apy{h:Heap}{H:Hp}{b:Addr}{o:Obj}(e:(al0 h H).get? b=some o):h.get? b=some o/\H b=none:=by
 have e':h.get? b=some o:=PySem.W.of_hideAll (trk h H) e
 refine⟨e',?_⟩
 cases q:H b with
 | none=>rfl
 | some x=>
  have hm:b∈trk h H:=ll.mpr ⟨fg.mpr (bn e'),by simp[q]⟩
  have z:(al0 h H).get? b=none:=PySem.W.hideAll_none (trk h H) hm
  rw[z]at e;cases e
end L2
namespace L2
open PySem PySem.Spec PyProof.Rows
structure Mod(K:ai)(mg:Str->Option Value)(base:Heap):Prop where
 kin:K.In base
 glob:base.Ns mainGlobals mg
 blt:∃mb,base.Ns builtinsNs mb/\∀x:Str,x≠"__name__"->mb x=bootBuiltins x
 nolimit:base.NoLimit
structure Cx where
 prog:Program
 w:World
 K:ai
 mg:Str->Option Value
 base:Heap
 A:Around
 N:List Str
 s₀:Shared
 H₀:Hp
 env:Env
 outer:List Env
 stack:List Env
 ex:List Addr
 fn:Str->Bool
 calm:Bool
 pn:List (Addr×Obj)
 xe:Value->Shared->Prop
noncomputable def frs(l:List Env):List Addr:=l.filterMap (·.frame)
noncomputable abbrev Cx.fs(X:Cx):List Addr:=frs X.outer
def Vis(sc:Scope)(x:Str):Prop:=sc.names.lookup x=some .local\/sc.names.lookup x=some .cell\/sc.names.lookup x=some .free
def Loc(sc:Scope)(x:Str):Prop:=sc.names.lookup x=some .local\/sc.names.lookup x=some .cell
def axh(env:Env)(h:Heap)(m:Str->Option Value)(x:Str)(u:Value):Prop:=
 (env.kindOf x=some .local/\m x=some u)\/((env.kindOf x=some .cell\/env.kindOf x=some .free)/\∃c,env.cells.lookup x=some c/\h.IsCell c (some u))
structure Cx.Ok(X:Cx):Prop where
 mod:Mod X.K X.mg X.base
 kind:X.env.scope.kind=.function
 glob:X.env.globals=mainGlobals
 blt:X.env.builtins=builtinsNs
 above:X.s₀.heap.objs.size<=X.env.locals
 inj:∀x y c,X.env.cells.lookup x=some c->X.env.cells.lookup y=some c->x=y
 has:∀x,(X.env.kindOf x=some .cell\/X.env.kindOf x=some .free)->∃c,X.env.cells.lookup x=some c
 cab:∀x c,X.fn x=true->X.env.cells.lookup x=some c->X.s₀.heap.objs.size<=c
 hd:X.calm=true->X.A.handled=none
 frames:X.A.frames=some X.stack
 stk:X.stack=X.outer\/(X.stack=X.env::X.outer/\X.env.frame=some X.env.locals)
 exf:∀b∈X.ex,b≠X.env.locals/\∀x c,X.env.cells.lookup x=some c->c≠b
 bs:∀b o,X.base.get? b=some o->X.s₀.heap.get? b=some o/\X.H₀ b=none
 bsz:X.base.objs.size<=X.s₀.heap.objs.size
 noex:∀b o,X.base.get? b=some o->b∉X.ex
 exfs:∀b∈X.ex,b∉X.fs
 funs:X.s₀.heap.FunFrames X.base X.outer
 frf:∀b∈X.fs,X.H₀ b=none
structure Inv(X:Cx)(pins:List (Addr×Obj))(σ:List (Option V))(H:Hp)(s:Shared):Prop where
 ok:X.Ok
 os:s.os=X.s₀.os
 bare:AllBare s.gens
 base:Un X.fs X.ex X.H₀ H X.s₀.heap s.heap
 loc:∃m,s.heap.Ns X.env.locals m/\∀(i:Nat)(x:Str)(v:V),X.N[i]?=some x->σ[i]?=some (some v)->Vis X.env.scope x->∃u,RelV v u/\axh X.env s.heap m x u
 cell:∀x c,X.env.cells.lookup x=some c->∃v,s.heap.IsCell c v
 free:H X.env.locals=none
 freeC:∀x c,X.env.cells.lookup x=some c->H c=none
 pin:∀p∈X.pn++pins,s.heap.get? p.1=some p.2/\H p.1=none/\p.1≠X.env.locals/\p.1∉X.fs/\∀v,p.2.data≠.cell v
 hok:HOk X.prog X.w H s.heap
 len:σ.length=X.N.length
section
variable{X:Cx}{pins:List (Addr×Obj)}{σ:List (Option V)}{H H':Hp}{s:Shared}{h':Heap}
theorem Cx.Ok.nofr(ok:X.Ok){b:Addr}{o:Obj}(e:X.base.get? b=some o):b∉X.fs:=λhb=>by
 have:=(ok.funs.mem hb).1
 rw[e]at this;cases this
theorem Inv.bs(I:Inv X pins σ H s):∀b o,X.base.get? b=some o->s.heap.get? b=some o/\H b=none:=λb o e=>
 ⟨I.base.keep b o (I.ok.bs b o e).1 (I.ok.bs b o e).2 (I.ok.nofr e) (I.ok.noex b o e),I.base.free b o (I.ok.bs b o e).1 (I.ok.bs b o e).2 (I.ok.noex b o e)⟩
theorem Inv.bk(I:Inv X pins σ H s):∀b o,X.base.get? b=some o->s.heap.get? b=some o:=λb o e=>(I.bs b o e).1
theorem Inv.mod(I:Inv X pins σ H s):Mod X.K X.mg X.base:=I.ok.mod
theorem Inv.kIn(I:Inv X pins σ H s):X.K.In s.heap:=I.ok.mod.kin.keeps I.bk
theorem Inv.lt(I:Inv X pins σ H s):X.env.locals<s.heap.objs.size:=let ⟨_,hn,_⟩:=I.loc;hn.lt
theorem Inv.sz(I:Inv X pins σ H s):X.s₀.heap.objs.size<=s.heap.objs.size:=db I.ok.above (gc I.lt)
theorem Inv.nofs(I:Inv X pins σ H s){a:Addr}(h:s.heap.objs.size<=a):a∉X.fs:=λhb=>by
 obtain⟨_,o,ho,_⟩:=I.ok.funs.mem hb
 exact absurd (cw (bn ho) (db I.sz h)) (jc _)
theorem Inv.cne(I:Inv X pins σ H s):∀x c,X.env.cells.lookup x=some c->c≠X.env.locals:=λx c e z=>by
 obtain⟨v,o,ho,hd⟩:=I.cell x c e
 obtain⟨m,⟨o',es,ep,ho',hd',_⟩,_⟩:=I.loc
 rw[z,ho']at ho;cases ho;rw[hd']at hd;cases hd
theorem Inv.funs(I:Inv X pins σ H s):s.heap.FunFrames X.base X.outer:=by
 have all:∀(l:List Env),(∀b∈frs l,b∈X.fs)->X.s₀.heap.FunFrames X.base l->s.heap.FunFrames X.base l:=by
  intro l
  induction l with
  | nil=>intro _ _;trivial
  | cons env r ih=>
   intro hs hl
   obtain⟨hk,⟨L,o,hf,hn,ho,hd⟩,hr⟩:=hl
   have hL:L∈X.fs:=hs L (by unfold frs;rw[List.filterMap_cons,hf];exact bj)
   obtain⟨sl,e⟩:=I.base.slot L o ho (I.ok.frf L hL) hL λz=>I.ok.exfs L z hL
   exact⟨hk,⟨L,_,hf,hn,e,hd⟩,ih (λb hb=>hs b (by unfold frs;rw[List.filterMap_cons,hf];exact bf _ hb)) hr⟩
 exact all X.outer (λ_ hb=>hb) I.ok.funs
theorem Inv.stack(I:Inv X pins σ H s):s.heap.FunFrames X.base X.stack:=by
 rcases I.ok.stk with e|⟨e,hf⟩
 .rw[e];exact I.funs
 .rw[e]
  obtain⟨m,hn,_⟩:=I.loc
  refine .cons (by rw[I.ok.kind];decide) hf hn ?_ I.funs
  exact Heap.get?_none_of_le (db I.ok.bsz I.ok.above)
theorem Inv.stkSub(I:Inv X pins σ H s):∀b∈frs X.stack,b∈X.env.locals::X.fs:=λb hb=>by
 rcases I.ok.stk with e|⟨e,hf⟩
 .rw[e]at hb;exact bf _ hb
 .rw[e]at hb
  unfold frs at hb
  rw[List.filterMap_cons,hf]at hb
  exact hb
theorem Inv.stkFree(I:Inv X pins σ H s):∀b∈frs X.stack,H b=none:=λb hb=>by
 rcases bq.mp (I.stkSub b hb)with e|hb
 .rw[e];exact I.free
 .obtain⟨_,o,ho,_⟩:=I.ok.funs.mem hb
  exact I.base.free b o ho (I.ok.frf b hb) λz=>I.ok.exfs b z hb
theorem Inv.step{g':Array GenState}{t':Nat}{d':Drawn}{ch:List Addr}(I:Inv X pins σ H s)
  (hch:∀b∈ch,(b∈X.ex\/X.s₀.heap.objs.size<=b)/\b≠X.env.locals/\(∀x c,X.env.cells.lookup x=some c->c≠b)/\∀p∈X.pn++pins,p.1≠b)
  (keep:∀b o,b≠X.env.locals->b∉X.fs->b∉ch->s.heap.get? b=some o->H b=none->h'.get? b=some o)
  (slot:∀b o,b≠X.env.locals->b∈X.fs->b∉ch->s.heap.get? b=some o->H b=none->∃sl,h'.get? b=some {o with slots:=sl}) (free:∀b o,b∉ch->s.heap.get? b=some o->H b=none->H' b=none)
  (there:∀b o,b∉ch->s.heap.get? b=some o->∃o',h'.get? b=some o')
  (tups:∀b xs,H b=some (.tup xs)->H' b=some (.tup xs)) (frzs:∀b o u,H b=some (.frz o u)->H' b=some (.frz o u)) (tbls:∀b ps,H b=some (.tbl ps)->∃more,H' b=some (.tbl (ps++more)))
  (ns:∀m,s.heap.Ns X.env.locals m->h'.Ns X.env.locals m) (hok:HOk X.prog X.w H' h') (hg:AllBare g') :
  Inv X pins σ H' {s with heap:=h',gens:=g',drawn:=d',toks:=t'}:=by
 have neL:∀b o,X.s₀.heap.get? b=some o->b≠X.env.locals:=λb o e=>c9 (cw (bn e) I.ok.above)
 have neC:∀b o,X.s₀.heap.get? b=some o->b∉X.ex->b∉ch:=λb o e hx hb=>by
  rcases(hch b hb).1 with z|z
  .exact hx z
  .exact absurd (cw (bn e) z) (jc _)
 have cellK:∀x c,X.env.cells.lookup x=some c->∀v,s.heap.IsCell c v->h'.IsCell c v:=λx c e v ⟨o,ho,hd⟩=>by
  have nch:c∉ch:=λz=>(hch c z).2.2.1 x c e rfl
  by_cases hc:c∈X.fs
  .obtain⟨sl,q⟩:=slot c o (I.cne x c e) hc nch ho (I.freeC x c e)
   exact⟨_,q,hd⟩
  .exact⟨o,keep c o (I.cne x c e) hc nch ho (I.freeC x c e),hd⟩
 refine⟨I.ok,I.os,hg,⟨λb o e n hb hx=>?_,λb o e n hb hx=>?_,λb o e n hx=>?_,λb o e hx=>?_,λb xs e=>tups b xs (I.base.tups b xs e),λb o xs e=>frzs b o xs (I.base.frzs b o xs e),λb ps e=>?_⟩,?_,λx c e=>?_,?_,λx c e=>?_,λp hp=>?_,hok,I.len⟩
 .exact keep b o (neL b o e) hb (neC b o e hx) (I.base.keep b o e n hb hx) (I.base.free b o e n hx)
 .obtain⟨sl,e1⟩:=I.base.slot b o e n hb hx
  obtain⟨sl',e2⟩:=slot b _ (neL b o e) hb (neC b o e hx) e1 (I.base.free b o e n hx)
  exact⟨sl',e2⟩
 .obtain⟨o',e1⟩:=I.base.there b o e hx
  exact free b o' (neC b o e hx) e1 (I.base.free b o e n hx)
 .obtain⟨o',e1⟩:=I.base.there b o e hx
  exact there b o' (neC b o e hx) e1
 .obtain⟨m1,e1⟩:=I.base.tbls b ps e
  obtain⟨m2,e2⟩:=tbls b _ e1
  exact⟨m1++m2,by rw[e2,Array.append_assoc]⟩
 .obtain⟨m,hn,hl⟩:=I.loc
  refine⟨m,ns m hn,λi x v e1 e2 e3=>?_⟩
  obtain⟨u,r,l⟩:=hl i x v e1 e2 e3
  refine⟨u,r,?_⟩
  rcases l with l|⟨k,c,e,z⟩
  .exact .inl l
  .exact .inr ⟨k,c,e,cellK x c e _ z⟩
 .obtain⟨v,z⟩:=I.cell x c e
  exact⟨v,cellK x c e v z⟩
 .obtain⟨m,⟨o,_,_,ho,_⟩,_⟩:=I.loc
  exact free _ o (λz=>(hch _ z).2.1 rfl) ho I.free
 .obtain⟨v,o,ho,hd⟩:=I.cell x c e
  exact free c o (λz=>(hch c z).2.2.1 x c e rfl) ho (I.freeC x c e)
 .obtain⟨e,n,ne,nf,d⟩:=I.pin p hp
  have nch:p.1∉ch:=λz=>(hch p.1 z).2.2.2 p hp rfl
  exact⟨keep p.1 p.2 ne nf nch e n,free p.1 p.2 nch e n,ne,nf,d⟩
theorem Inv.un{t':Nat}(I:Inv X pins σ H s)(u:Un X.fs [] H H' s.heap h')(hok:HOk X.prog X.w H' h'):Inv X pins σ H' {s with heap:=h',toks:=t'}:=by
 obtain⟨m,⟨o,es,ep,ho,r⟩,_⟩:=id I.loc
 obtain⟨sl,hL⟩:=u.any ho I.free (by simp)
 exact I.step (g':=s.gens) (d':=s.drawn) (ch:=[]) (λ_ z=>nomatch z) (λb o _ hb _ e n=>u.keep b o e n hb (by simp)) (λb o _ hb _ e n=>u.slot b o e n hb (by simp)) (λb o _ e n=>u.free b o e n (by simp)) (λb o _ e=>u.there b o e (by simp)) u.tups u.frzs u.tbls (λm' hm=>by
  obtain⟨o',es',ep',ho',r'⟩:=hm
  rw[ho]at ho';cases ho'
  exact⟨_,es',ep',hL,r'⟩) hok I.bare
theorem Inv.call{g':Array GenState}{t':Nat}{d':Drawn}{ch:List Addr}(I:Inv X pins σ H s)(u:Un (frs X.stack) ch H H' s.heap h')(hok:HOk X.prog X.w H' h')(hg:AllBare g')
  (hch:∀b∈ch,(b∈X.ex\/X.s₀.heap.objs.size<=b)/\b≠X.env.locals/\(∀x c,X.env.cells.lookup x=some c->c≠b)/\∀p∈X.pn++pins,p.1≠b) :
  Inv X pins σ H' {s with heap:=h',gens:=g',drawn:=d',toks:=t'}:=by
 obtain⟨m,⟨o,es,ep,ho,r⟩,_⟩:=id I.loc
 obtain⟨sl,hL⟩:=u.any ho I.free λz=>(hch _ z).2.1 rfl
 exact I.step (ch:=ch) hch (λb o hL hb hc e n=>u.keep b o e n (λz=>(bq.mp (I.stkSub b z)).elim hL hb) hc) (λb o _ _ hc e n=>u.any e n hc) (λb o hc e n=>u.free b o e n hc) (λb o hc e=>u.there b o e hc) u.tups u.frzs u.tbls (λm' hm=>by
  obtain⟨o',es',ep',ho',r'⟩:=hm
  rw[ho]at ho';cases ho'
  exact⟨_,es',ep',hL,r'⟩) hok hg
theorem Inv.turned{t':Nat}{it:Addr}(I:Inv X pins σ H s)(k:∀b o,b≠it->s.heap.get? b=some o->h'.get? b=some o)(hn:H it=none)(hL:it≠X.env.locals)
  (h1:it∈X.ex\/X.s₀.heap.objs.size<=it) (h2:∀x c,X.env.cells.lookup x=some c->c≠it) (h3:∀p∈X.pn++pins,p.1≠it):Inv X pins σ H {s with heap:=h',toks:=t'}:=by
 have nit:∀b u,H b=some u->b≠it:=λb u e z=>by rw[z,hn]at e;cases e
 refine I.step (g':=s.gens) (d':=s.drawn) (ch:=[it]) (λb hb=>?_) (λb o _ _ hc e _=>k b o (λz=>hc (by simp[z])) e) (λb o _ _ hc e _=>⟨o.slots,k b o (λz=>hc (by simp[z])) e⟩) (λ_ _ _ _ n=>n)
  (λb o hc e=>⟨o,k b o (λz=>hc (by simp[z])) e⟩) (λ_ _ e=>e) (λ_ _ _ e=>e) (λb ps e=>⟨#[],by rw[e];simp⟩) (λm hm=>?_) (λb u e=>?_) I.bare
 .have e:b=it:=by simpa using hb
  subst e
  exact⟨h1,hL,h2,h3⟩
 .obtain⟨o,es,ep,ho,r⟩:=hm
  exact⟨o,es,ep,k _ o (Ne.symm hL) ho,r⟩
 .refine(I.hok b u e).stay (λc v hc q=>k c v ?_ q) (λ_ q=>q) λ_ _ q=>q
  rcases hc with z|z
  .rw[z];exact nit b u e
  .exact nit c _ z
theorem Inv.tok(I:Inv X pins σ H s)(t:Nat):Inv X pins σ H {s with toks:=t}:=I.un (h':=s.heap) (t':=t) Un.refl I.hok
theorem Inv.kept{t':Nat}(I:Inv X pins σ H s)(k:∀b u,s.heap.get? b=some u->h'.get? b=some u):Inv X pins σ H {s with heap:=h',toks:=t'}:=I.un (Un.kept k) (I.hok.kept k)
theorem Inv.laid{a:Addr}{o:HO}{t':Nat}(I:Inv X pins σ H s)(k:∀b u,s.heap.get? b=some u->h'.get? b=some u)(hp:s.heap.objs.size<=a)(new:ObjOk X.prog X.w (upd H a o) h' a o) :
  Inv X pins σ (upd H a o) {s with heap:=h',toks:=t'}:=I.un (Un.laid k hp (I.hok.fresh hp)) (I.hok.laid k hp new)
theorem Inv.write{x e:Addr}{o:HO}{t':Nat}(I:Inv X pins σ H s)(mu:Mut (H x))(he:e=x\/H e=some (.own x))(k:∀b u,b≠e->s.heap.get? b=some u->h'.get? b=some u)(heo:∃u,h'.get? e=some u)
  (new:ObjOk X.prog X.w (upd H x o) h' x o):Inv X pins σ (upd H x o) {s with heap:=h',toks:=t'}:=I.un (Un.write mu he k heo) (I.hok.write mu he k heo new)
theorem Inv.weak{σ':List (Option V)}(I:Inv X pins σ H s)(hl:σ'.length=σ.length)(w:∀(i:Nat) v,σ'[i]?=some (some v)->σ[i]?=some (some v)):Inv X pins σ' H s:=
 ⟨I.ok,I.os,I.bare,I.base,let ⟨m,hn,hl'⟩:=I.loc;⟨m,hn,λi x v e1 e2 e3=>hl' i x v e1 (w i v e2) e3⟩,I.cell,I.free,I.freeC,I.pin,I.hok,hl.trans I.len⟩
theorem Inv.pins_of{pins':List (Addr×Obj)}(I:Inv X pins σ H s)(h:∀p∈pins',s.heap.get? p.1=some p.2/\H p.1=none/\p.1≠X.env.locals/\p.1∉X.fs/\∀v,p.2.data≠.cell v):Inv X pins' σ H s:=
 ⟨I.ok,I.os,I.bare,I.base,I.loc,I.cell,I.free,I.freeC,λp hp=>(ax.mp hp).elim (λz=>I.pin p (jv _ z)) (h p),I.hok,I.len⟩
theorem afx{N:List Str}(hN:N.Nodup){i j:Nat}{x:Str}(a:N[i]?=some x)(b:N[j]?=some x):i=j:=by
 obtain⟨h1,e1⟩:=ae.mp a
 obtain⟨h2,e2⟩:=ae.mp b
 exact(List.getElem_inj hN).mp (e1.trans e2.symm)
theorem adr{M:Model}{A:Around}{E:Value->Shared->Prop}{i:Nat}{x:Str}{v:V}{u:Value}{Q:Unit->Shared->Prop}(I:Inv X pins σ H s)(hN:X.N.Nodup)(hi:X.N[i]?=some x)(hx:Loc X.env.scope x)(r:RelV v u)
  (h:∀s',Inv X pins (σ.set i (some v)) H s'->(∃a,bw a s.heap s'.heap/\(a=X.env.locals\/X.env.cells.lookup x=some a))->Q () s') (hf:X.fn x=true\/X.env.scope.names.lookup x=some .local:=by first|exact .inl rfl|exact .inr rfl|assumption):wpAny M A (storeName X.env x u) Q E s:=by
 obtain⟨m,hn,hl⟩:=id I.loc
 have hcls:(X.env.scope.kind==.class||(X.env.scope.kind==.module&&X.env.locals != X.env.globals))=false:=by rw[I.ok.kind];rfl
 have hiσ:i<σ.length:=by rw[I.len];exact(ae.mp hi).1
 have cne:=I.cne
 have tracked:∀{a:Addr} {h':Heap},(∃o,s.heap.get? a=some o/\H a=none)->bw a s.heap h'->HOk X.prog X.w H h':=λ{a h'} ha hs b ob e=>by
  obtain⟨_,_,hfree⟩:=ha
  refine(I.hok b ob e).stay (λc w' hc q=>(hs.2 c ?_).trans q) (λ_ q=>q) λ_ _ q=>q
  rintro rfl
  rcases hc with rfl|hc
  .rw[hfree]at e;cases e
  .rw[hfree]at hc;cases hc
 rcases hx with hk|hk
 .refine wpAny_storeName_local hk hn (λh' hn' hs=>?_) hcls
  obtain⟨oL,_,_,hoL,_⟩:=id hn
  refine h _ ⟨I.ok,I.os,I.bare,⟨λb o e n hb hx=>?_,λb o e n hb hx=>?_,I.base.free,λb o e hx=>?_,I.base.tups,I.base.frzs,I.base.tbls⟩,⟨_,hn',λj y v' e1 e2 e3=>?_⟩,λy c e=>?_,I.free,I.freeC,λp hp=>?_,tracked ⟨oL,hoL,I.free⟩ hs,by simpa using I.len⟩ ⟨_,hs,.inl rfl⟩
  .exact(hs.2 b (c9 (cw (bn e) I.ok.above))).trans (I.base.keep b o e n hb hx)
  .obtain⟨sl,e1⟩:=I.base.slot b o e n hb hx
   exact⟨sl,(hs.2 b (c9 (cw (bn e) I.ok.above))).trans e1⟩
  .obtain⟨o',e1⟩:=I.base.there b o e hx
   exact⟨o',(hs.2 b (c9 (cw (bn e) I.ok.above))).trans e1⟩
  .by_cases hj:j=i
   .subst hj
    rw[hi]at e1;cases e1
    rw[List.getElem?_set_self hiσ]at e2
    cases e2
    exact⟨u,r,.inl ⟨hk,by simp⟩⟩
   .rw[List.getElem?_set_ne (Ne.symm hj)]at e2
    obtain⟨u',r',q⟩:=hl j y v' e1 e2 e3
    refine⟨u',r',?_⟩
    rcases q with ⟨k,e⟩|⟨k,c,e,z⟩
    .refine .inl ⟨k,?_⟩
     have:y≠x:=λe=>hj (afx hN e1 (e▸hi))
     simp[this,e]
    .exact .inr ⟨k,c,e,z.sameBut hs (cne y c e)⟩
  .obtain⟨w',z⟩:=I.cell y c e
   exact⟨w',z.sameBut hs (cne y c e)⟩
  .obtain⟨e,n,ne,nf,d⟩:=I.pin p hp
   exact⟨(hs.2 p.1 ne).trans e,n,ne,nf,d⟩
 .have hfn:X.fn x=true:=by
   rcases hf with z|z
   .exact z
   .rw[z]at hk;cases hk
  obtain⟨c,hc⟩:=I.ok.has x (.inl hk)
  obtain⟨w',z⟩:=I.cell x c hc
  refine wpAny_storeName_cell I.ok.kind hk hc z (λh' hc' hs=>?_)
  obtain⟨oc,hoc,hocd⟩:=id z
  refine h {s with heap:=h'} ⟨I.ok,I.os,I.bare,⟨λb o e n hb hx=>?_,λb o e n hb hx=>?_,I.base.free,λb o e hx=>?_,I.base.tups,I.base.frzs,I.base.tbls⟩,⟨m,hn.sameBut hs (Ne.symm (cne x c hc)),λj y v' e1 e2 e3=>?_⟩,λy c' e=>?_,I.free,I.freeC,λp hp=>?_,tracked ⟨oc,hoc,I.freeC x c hc⟩ hs,by simpa using I.len⟩ ⟨c,hs,.inr hc⟩
  .exact(hs.2 b (c9 (cw (bn e) (I.ok.cab x c hfn hc)))).trans (I.base.keep b o e n hb hx)
  .obtain⟨sl,e1⟩:=I.base.slot b o e n hb hx
   exact⟨sl,(hs.2 b (c9 (cw (bn e) (I.ok.cab x c hfn hc)))).trans e1⟩
  .obtain⟨o',e1⟩:=I.base.there b o e hx
   exact⟨o',(hs.2 b (c9 (cw (bn e) (I.ok.cab x c hfn hc)))).trans e1⟩
  .by_cases hj:j=i
   .subst hj
    rw[hi]at e1;cases e1
    rw[List.getElem?_set_self hiσ]at e2
    cases e2
    exact⟨u,r,.inr ⟨.inl hk,c,hc,hc'⟩⟩
   .rw[List.getElem?_set_ne (Ne.symm hj)]at e2
    obtain⟨u',r',q⟩:=hl j y v' e1 e2 e3
    refine⟨u',r',?_⟩
    rcases q with q|⟨k,c',e,z'⟩
    .exact .inl q
    .refine .inr ⟨k,c',e,z'.sameBut hs ?_⟩
     rintro rfl
     exact hj (afx hN e1 (I.ok.inj _ _ _ e hc▸hi))
  .by_cases hcc:c'=c
   .subst hcc;exact⟨_,hc'⟩
   .obtain⟨w2,z2⟩:=I.cell y c' e
    exact⟨w2,z2.sameBut hs hcc⟩
  .obtain⟨e,n,ne,nf,d⟩:=I.pin p hp
   refine⟨(hs.2 p.1 ?_).trans e,n,ne,nf,d⟩
   intro q
   rw[q,hoc]at e
   have q':oc=p.2:=cm e
   exact d w' (by rw[<-q'];exact hocd)
theorem acd{M:Model}{A:Around}{E:Value->Shared->Prop}{i:Nat}{x:Str}{v:V}{u:Value}{Q:Unit->Shared->Prop}(I:Inv X pins σ H s)(hN:X.N.Nodup)(hi:X.N[i]?=some x)(hx:Loc X.env.scope x)(r:RelV v u)
  (h:∀s',Inv X pins (σ.set i (some v)) H s'->Q () s') (hf:X.fn x=true\/X.env.scope.names.lookup x=some .local:=by first|exact .inl rfl|exact .inr rfl|assumption):wpAny M A (storeName X.env x u) Q E s:=
 adr I hN hi hx r (λs' I' _=>h s' I') hf
theorem Inv.call'{s':Shared}{ch:List Addr}(I:Inv X pins σ H s)(ho:s'.os=s.os)(u:Un (frs X.stack) ch H H' s.heap s'.heap)(hok:HOk X.prog X.w H' s'.heap)(hg:AllBare s'.gens)
  (hch:∀b∈ch,(b∈X.ex\/X.s₀.heap.objs.size<=b)/\b≠X.env.locals/\(∀x c,X.env.cells.lookup x=some c->c≠b)/\∀p∈X.pn++pins,p.1≠b):Inv X pins σ H' s':=by
 obtain⟨h',g',d',t',o'⟩:=s'
 have e:o'=s.os:=ho
 subst e
 exact I.call (g':=g') (t':=t') (d':=d') u hok hg hch
end
abbrev XK:=Value->Option Addr->Hp->Prop
noncomputable abbrev St:=List (Option V)
abbrev VK:=V->Hp->Prop
abbrev TE:=St->Hp->VK->Prop
abbrev TT:=St->Hp->(Bool->Hp->Prop)->Prop
abbrev TA:=St->Hp->(List V->Hp->Prop)->Prop
structure ahi where
 nx:St->Hp->Prop
 rt:VK
 bk:St->Hp->Prop:=λ_ _=>False
 ct:St->Hp->Prop:=λ_ _=>False
abbrev TS:=ahi->St->Hp->Prop
def EP(X:Cx)(pins:List (Addr×Obj))(σ:St)(Q:VK)(u:Value)(s':Shared):Prop:=∃v H',Inv X pins σ H' s'/\RelV v u/\Q v H'
def TP(X:Cx)(pins:List (Addr×Obj))(σ:St)(Q:Bool->Hp->Prop)(b:Bool)(s':Shared):Prop:=∃H',Inv X pins σ H' s'/\Q b H'
def AP(X:Cx)(pins:List (Addr×Obj))(σ:St)(Q:List V->Hp->Prop)(us:List Value)(s':Shared):Prop:=∃vs H',Inv X pins σ H' s'/\Vals vs us/\Q vs H'
def SP(X:Cx)(pins:List (Addr×Obj))(D:ahi)(f:Flow)(s':Shared):Prop:=
 match f with
 | .next=>∃σ' H',Inv X pins σ' H' s'/\D.nx σ' H'
 | .brk=>∃σ' H',Inv X pins σ' H' s'/\D.bk σ' H'
 | .cont=>∃σ' H',Inv X pins σ' H' s'/\D.ct σ' H'
 | .ret u=>∃v σ' H',Inv X pins σ' H' s'/\RelV v u/\D.rt v H'
def PE(X:Cx)(e:Expr)(t:TE):Prop:=
 ∀(pins:List (Addr×Obj)) (s:Shared) (σ:St) (H:Hp) (Q:VK),Inv X pins σ H s->t σ H Q->wpAny (model X.prog X.w) X.A (eval e X.env) (EP X pins σ Q) X.xe s
def PT(X:Cx)(e:Expr)(t:TT):Prop:=
 ∀(pins:List (Addr×Obj)) (s:Shared) (σ:St) (H:Hp) (Q:Bool->Hp->Prop),Inv X pins σ H s->t σ H Q->wpAny (model X.prog X.w) X.A (isTrue e X.env (eval e X.env)) (TP X pins σ Q) X.xe s
def PW(X:Cx)(e:Expr)(t:TT):Prop:=
 ∀(whole:Sem Value) (pins:List (Addr×Obj)) (s:Shared) (σ:St) (H:Hp) (Q:Bool->Hp->Prop),Inv X pins σ H s->t σ H Q->wpAny (model X.prog X.w) X.A (isTrue e X.env whole) (TP X pins σ Q) X.xe s
theorem PW.pt{X:Cx}{e:Expr}{t:TT}(h:PW X e t):PT X e t:=h _
def PA(X:Cx)(es:List Expr)(t:TA):Prop:=
 ∀(pos:Pos) (pins:List (Addr×Obj)) (s:Shared) (σ:St) (H:Hp) (Q:List V->Hp->Prop),Inv X pins σ H s->t σ H Q->wpAny (model X.prog X.w) X.A (spliced (backTo pos (starEach es X.env))) (AP X pins σ Q) X.xe s
def PS(X:Cx)(st:Stmt)(t:TS):Prop:=
 ∀(pins:List (Addr×Obj)) (s:Shared) (σ:St) (H:Hp) (D:ahi),Inv X pins σ H s->t D σ H->wpAny (model X.prog X.w) X.A (exec st X.env) (SP X pins D) X.xe s
def PSs(X:Cx)(st:List Stmt)(t:TS):Prop:=
 ∀(pins:List (Addr×Obj)) (s:Shared) (σ:St) (H:Hp) (D:ahi),Inv X pins σ H s->t D σ H->wpAny (model X.prog X.w) X.A (execs st X.env) (SP X pins D) X.xe s
theorem thn{α:Type}{t:Sem α}{Q Q':α->Shared->Prop}{M:Model}{A:Around}{E:Value->Shared->Prop}{s:Shared}(h:wpAny M A t Q E s)(hQ:∀a s,Q a s->Q' a s):wpAny M A t Q' E s:=iz h hQ λ_ _ x=>x
end L2
namespace L2
open PySem PySem.Spec PyProof.Rows
section
variable{X:Cx}
def aeb(i:Nat):TE:=λσ H Q=>∃v,σ[i]?=some (some v)/\Q v H
def tC(v:V):TE:=λ_ H Q=>Q v H
theorem aro{i:Nat}{x:Str}{pos:Pos}(hN:X.N[i]?=some x)(hv:Vis X.env.scope x)(hd:(x==("__debug__" : Str))=false:=by decide)(hcd:(x==("__classdict__" : Str))=false:=by decide):PE X (.Name x pos) (aeb i):=by
 intro pins s σ H Q I h
 obtain⟨v,e,h⟩:=h
 obtain⟨m,hn,hl⟩:=I.loc
 obtain⟨u,r,l⟩:=hl i x v hN e hv
 have fin:EP X pins σ Q u s:=⟨v,H,I,r,h⟩
 rcases l with ⟨hk,hm⟩|⟨hk,c,hc,hcell⟩
 .exact wpAny_Name (wpAny_loadName_local I.ok.kind hk hn hm fin) hd
 .rcases hk with hk|hk
  .exact wpAny_Name (wpAny_loadName_cell I.ok.kind hk hc hcell fin) hd
  .exact wpAny_Name (wpAny_loadName_free I.ok.kind hk hc hcell fin hcd) hd
theorem l7{i j pos}:PE X (.Constant (.int i) j pos) (tC (.int i)):=λ_ _ _ H _ I h=>wpAny_Constant_int ⟨.int i,H,I.tok _,⟨_,rfl⟩,h⟩
theorem ae1{b j pos}:PE X (.Constant (.bool b) j pos) (tC (.bl b)):=λ_ _ _ H _ I h=>Constant_bool ⟨.bl b,H,I,rfl,h⟩
theorem sr{j pos}:PE X (.Constant .none j pos) (tC .non):=λ_ _ _ H _ I h=>Constant_none ⟨.non,H,I,rfl,h⟩
theorem o6{x j pos}:PE X (.Constant (.str x) j pos) (tC (.str x)):=λ_ _ _ H _ I h=>Calls.Constant_str ⟨.str x,H,I.tok _,⟨_,rfl⟩,h⟩
def Gl(X:Cx)(x:Str):Prop:=X.env.kindOf x=some .globalImplicit
theorem afn{E:Value->Shared->Prop}{pins:List (Addr×Obj)}{s:Shared}{σ:St}{H:Hp}{x:Str}{u:Value}{pos:Pos}{Q:Value->Shared->Prop}(I:Inv X pins σ H s)(hg:Gl X x)(hm:X.mg x=some u)(h:Q u s)
  (hd:(x==("__debug__" : Str))=false:=by decide):wpAny (model X.prog X.w) X.A (eval (.Name x pos) X.env) Q E s:=
 Calls.Name_function_global I.ok.kind hg (Calls.loadGlobal_global (by rw[I.ok.glob];exact I.mod.glob.keeps I.bk) hm h) hd
theorem uq{E:Value->Shared->Prop}{pins:List (Addr×Obj)}{s:Shared}{σ:St}{H:Hp}{x:Str}{u:Value}{pos:Pos}{Q:Value->Shared->Prop}(I:Inv X pins σ H s)(hg:Gl X x)(hm:X.mg x=none)(hv:bootBuiltins x=some u)(h:Q u s)
  (hn:x≠"__name__":=by decide) (hd:(x==("__debug__" : Str))=false:=by decide):wpAny (model X.prog X.w) X.A (eval (.Name x pos) X.env) Q E s:=by
 obtain⟨mb,h1,h2⟩:=I.mod.blt
 exact Calls.Name_function_global I.ok.kind hg (Calls.loadGlobal_builtin (by rw[I.ok.glob];exact I.mod.glob.keeps I.bk) hm (by rw[I.ok.blt];exact h1.keeps I.bk) ((h2 x hn).trans hv) h) hd
theorem ajz{x:Str}{v:V}{u:Value}{pos:Pos}(hg:Gl X x)(hm:X.mg x=some u)(r:RelV v u)(hd:(x==("__debug__" : Str))=false:=by decide):PE X (.Name x pos) (tC v):=
 λ_ _ _ H _ I h=>afn I hg hm ⟨v,H,I,r,h⟩ hd
theorem vh{x:Str}{v:V}{u:Value}{pos:Pos}(hg:Gl X x)(hm:X.mg x=none)(hv:bootBuiltins x=some u)(r:RelV v u)(hn:x≠"__name__":=by decide)(hd:(x==("__debug__" : Str))=false:=by decide):PE X (.Name x pos) (tC v):=
 λ_ _ _ H _ I h=>uq I hg hm hv ⟨v,H,I,r,h⟩ hn hd
variable{a b:Expr}{ta tb:TE}{pos:Pos}
def PC(X:Cx)(op:CmpOp)(a b:Expr)(t:TE):Prop:=
 ∀(pins:List (Addr×Obj)) (s:Shared) (σ:St) (H:Hp) (Q:VK),Inv X pins σ H s->t σ H Q->
  wpAny (model X.prog X.w) X.A (eval a X.env) (λv s₁=>wpAny (model X.prog X.w) X.A (eval b X.env) (λu s₂=>wpAny (model X.prog X.w) X.A (compareOp op v u) (EP X pins σ Q) X.xe s₂) X.xe s₁) X.xe s
def tB(t:TE):TT:=λσ H Q=>t σ H λx H1=>∃c,x=.bl c/\Q c H1
theorem ago{op:CmpOp}{t:TE}(h:PC X op a b t)(h1:behindInMarks op b=false:=by first|exact nobehind _ (by decide) (by decide)|rfl):PT X (.Compare a [op] [b] pos) (tB t):=by
 intro pins s σ H Q I hw
 refine wpAny_isTrue_Compare1 (thn (h pins s σ H _ I hw) λv s1 h1=>thn h1 λu s2 h2=>thn h2 λc s3 ⟨x,H1,I1,r1,q1⟩=>?_) h1
 obtain⟨d,rfl,q⟩:=q1
 cases r1
 exact fy ⟨H1,I1,q⟩
theorem su{e:Expr}{t:TE}(h:PE X e t)(he:∀whole,isTrue e X.env whole=(do let v <-whole;standAt e.pos;holding [v] (truthy v)):=by intro _;rfl):PT X e (tB t):=by
 intro pins s σ H Q I hw
 refine isTrue_plain (thn (h pins s σ H _ I hw) λv s1 ⟨x,H1,I1,r1,q1⟩=>?_) (he _)
 obtain⟨d,rfl,q⟩:=q1
 cases r1
 exact fy ⟨H1,I1,q⟩
variable{tA tB':TT}{rest:List Expr}
def aw2(t u:TT):TT:=λσ H Q=>t σ H λc H1=>if c=true then u σ H1 Q else Q false H1
def tOr(t u:TT):TT:=λσ H Q=>t σ H λc H1=>if c=true then Q true H1 else u σ H1 Q
def axu(t:TT):TT:=λσ H Q=>t σ H λc H1=>Q (!c) H1
theorem vi(ha:PT X a tA):PW X (.BoolOp .And [a] pos) tA:=by
 intro wh pins s σ H Q I h
 refine isTrue_and (thn (ha pins s σ H Q I h) λc s1 e=>?_)
 cases c with
 | true=>exact isTrue_and_nil e
 | false=>exact e
theorem ai7(ha:PT X a tA):PW X (.BoolOp .Or [a] pos) tA:=by
 intro wh pins s σ H Q I h
 refine isTrue_or (thn (ha pins s σ H Q I h) λc s1 e=>?_)
 cases c with
 | false=>exact isTrue_or_nil e
 | true=>exact e
theorem zm(ha:PT X a tA)(hb:PW X (.BoolOp .And (b::rest) pos) tB'):PW X (.BoolOp .And (a::b::rest) pos) (aw2 tA tB'):=by
 intro wh pins s σ H Q I h
 refine isTrue_and (thn (ha pins s σ H _ I h) λc s1 ⟨H1,I1,q1⟩=>?_)
 cases c with
 | true=>exact hb wh pins s1 σ H1 Q I1 q1
 | false=>exact⟨H1,I1,q1⟩
theorem aoy(ha:PT X a tA)(hb:PW X (.BoolOp .Or (b::rest) pos) tB'):PW X (.BoolOp .Or (a::b::rest) pos) (tOr tA tB'):=by
 intro wh pins s σ H Q I h
 refine isTrue_or (thn (ha pins s σ H _ I h) λc s1 ⟨H1,I1,q1⟩=>?_)
 cases c with
 | true=>exact⟨H1,I1,q1⟩
 | false=>exact hb wh pins s1 σ H1 Q I1 q1
theorem ac7(ha:PT X a tA):PT X (.UnaryOp .Not a pos) (axu tA):=by
 intro pins s σ H Q I h
 exact isTrue_not (ha pins s σ H (λc H1=>Q (!c) H1) I h)
def aui(ta tb:TE):TE:=λσ H Q=>ta σ H λx H1=>∃c,x=.bl c/\if c=true then tb σ H1 Q else Q (.bl false) H1
def axl(ta tb:TE):TE:=λσ H Q=>ta σ H λx H1=>∃c,x=.bl c/\if c=true then Q (.bl true) H1 else tb σ H1 Q
def ava(ta:TE):TE:=λσ H Q=>ta σ H λx H1=>∃c,x=.bl c/\Q (.bl (!c)) H1
theorem ada{op}{t:TE}(h:PE X a t):PE X (.BoolOp op [a] pos) t:=λpins s σ H Q I hw=>BoolOp_one (h pins s σ H Q I hw)
theorem aat(ha:PE X a ta)(hb:PE X (.BoolOp .And (b::rest) pos) tb):PE X (.BoolOp .And (a::b::rest) pos) (aui ta tb):=by
 intro pins s σ H Q I h
 refine BoolOp_and (thn (ha pins s σ H _ I h) λv s1 ⟨x,H1,I1,r1,q1⟩=>?_)
 obtain⟨c,rfl,q1⟩:=q1
 cases r1
 refine fy ?_
 cases c with
 | true=>exact hb pins s1 σ H1 Q I1 q1
 | false=>exact⟨.bl false,H1,I1,rfl,q1⟩
theorem avm(ha:PE X a ta)(hb:PE X (.BoolOp .Or (b::rest) pos) tb):PE X (.BoolOp .Or (a::b::rest) pos) (axl ta tb):=by
 intro pins s σ H Q I h
 refine BoolOp_or (thn (ha pins s σ H _ I h) λv s1 ⟨x,H1,I1,r1,q1⟩=>?_)
 obtain⟨c,rfl,q1⟩:=q1
 cases r1
 refine fy ?_
 cases c with
 | false=>exact hb pins s1 σ H1 Q I1 q1
 | true=>exact⟨.bl true,H1,I1,rfl,q1⟩
theorem anl(ha:PE X a ta):PE X (.UnaryOp .Not a pos) (ava ta):=by
 intro pins s σ H Q I h
 refine UnaryOp_ (thn (ha pins s σ H _ I h) λv s1 ⟨x,H1,I1,r1,q1⟩=>?_)
 obtain⟨c,rfl,q1⟩:=q1
 cases r1
 exact not_of (fy ⟨.bl (!c),H1,I1,rfl,q1⟩)
def tIf(t:TT)(ta tb:TE):TE:=λσ H Q=>t σ H λc H1=>if c=true then ta σ H1 Q else tb σ H1 Q
theorem ab3{c:Expr}(hc:PT X c tA)(ha:PE X a ta)(hb:PE X b tb):PE X (.IfExp c a b pos) (tIf tA ta tb):=by
 intro pins s σ H Q I h
 refine wpAny_IfExp (thn (hc pins s σ H _ I h) λd s1 ⟨H1,I1,q1⟩=>?_)
 cases d with
 | true=>exact ha pins s1 σ H1 Q I1 q1
 | false=>exact hb pins s1 σ H1 Q I1 q1
end
end L2
namespace L2
open PySem PySem.Spec PyProof.Rows
def SqL(K:ai)(H:Hp)(a:Addr)(xs:List V):Prop:=
 Rd H a (.lst xs)\/
  ∃(o:Obj)(its:Array Value)(n:Nat),K.lookup a=some o/\o.cls=.type "list"/\o.dict=none/\o.data=.seq its n/\its.size<=sizeLine/\Vals xs its.toList
def SqT(K:ai)(H:Hp)(a:Addr)(xs:List V):Prop:=
 Rd H a (.tup xs)\/
  ∃(o:Obj)(its:Array Value)(n:Nat),K.lookup a=some o/\o.cls=.type "tuple"/\o.data=.seq its n/\its.size<=sizeLine/\Vals xs its.toList
noncomputable def ax6:Value->Option V
 | .none=>some .non
 | .bool b=>some (.bl b)
 | .int i _=>some (.int i)
 | .str x _=>some (.str x)
 | .bytes b _=>some (.byt b)
 | .float b _=>some (.flt b)
 | .ref a=>some (.ref a)
 | .type n=>some (.ty n)
 | _=>none
theorem RelV.abs{x:V}{u:Value}(r:RelV x u):ax6 u=some x:=by
 cases x with
 | non=>cases r;rfl
 | bl _=>cases r;rfl
 | int _=>obtain⟨t,rfl⟩:=r;rfl
 | str _=>obtain⟨t,rfl⟩:=r;rfl
 | byt _=>obtain⟨t,rfl⟩:=r;rfl
 | flt _=>obtain⟨t,rfl⟩:=r;rfl
 | ref _=>cases r;rfl
 | ty _=>cases r;rfl
theorem RelV.inj{x y:V}{u:Value}(r:RelV x u)(q:RelV y u):x=y:=cm (r.abs.symm.trans q.abs)
theorem Vals.inj:∀{xs ys:List V} {us:List Value},Vals xs us->Vals ys us->xs=ys
 | _,_,_,.nil,.nil=>rfl
 | _,_,_,.cons r t,.cons r' t'=>by rw[r.inj r',Vals.inj t t']
section
variable{X:Cx}{pins:List (Addr×Obj)}{σ:St}{H:Hp}{s:Shared}{a:Addr}{xs ys:List V}
theorem SqL.of{K:ai}(h:H a=some (.lst xs)):SqL K H a xs:=.inl (.inl h)
theorem SqT.of{K:ai}(h:H a=some (.tup xs)):SqT K H a xs:=.inl (.inl h)
theorem Inv.list(I:Inv X pins σ H s)(h:SqL X.K H a xs):∃its:List Value,Vals xs its/\PlainL s.heap a its.toArray/\xs.length<=sizeLine:=by
 rcases h with h|⟨o,its,n,hk,hc,hd,hs,hz,r⟩
 .obtain⟨z,its,n,r,e⟩:=h.ok I.hok
  exact⟨its,r,⟨_,n,e,rfl,rfl,rfl⟩,z⟩
 .refine⟨its.toList,r,⟨o,n,I.kIn a o hk,hc,hd,by simpa using hs⟩,?_⟩
  have e:=r.length
  simp only[au]at e
  omega
theorem Inv.tuple(I:Inv X pins σ H s)(h:SqT X.K H a xs):∃its:List Value,Vals xs its/\IsTup s.heap a its.toArray/\xs.length<=sizeLine:=by
 rcases h with h|⟨o,its,n,hk,hc,hs,hz,r⟩
 .obtain⟨z,its,r,p⟩:=h.ok I.hok
  exact⟨its,r,p,z⟩
 .refine⟨its.toList,r,⟨o,I.kIn a o hk,hc,n,by simpa using hs⟩,?_⟩
  have e:=r.length
  simp only[au]at e
  omega
theorem Inv.list_inj(I:Inv X pins σ H s)(h:SqL X.K H a xs)(h':SqL X.K H a ys):xs=ys:=by
 obtain⟨its,r,⟨o,n,e,_,_,d⟩,_⟩:=I.list h
 obtain⟨its',r',⟨o',n',e',_,_,d'⟩,_⟩:=I.list h'
 rw[e]at e';cases e'
 rw[d]at d'
 injection d' with d1 _
 have:its=its':=by simpa using congrArg Array.toList d1
 subst this
 exact r.inj r'
theorem Inv.tuple_inj(I:Inv X pins σ H s)(h:SqT X.K H a xs)(h':SqT X.K H a ys):xs=ys:=by
 obtain⟨its,r,⟨o,e,_,n,d⟩,_⟩:=I.tuple h
 obtain⟨its',r',⟨o',e',_,n',d'⟩,_⟩:=I.tuple h'
 rw[e]at e';cases e'
 rw[d]at d'
 injection d' with d1 _
 have:its=its':=by simpa using congrArg Array.toList d1
 subst this
 exact r.inj r'
end
noncomputable abbrev Cx.wish(X:Cx)(E:Value->Shared->Prop):Cx:={X with xe:=E}
noncomputable abbrev Cx.nox(X:Cx):Cx:=X.wish λ_ _=>False
theorem Cx.Ok.wish{X:Cx}(ok:X.Ok)(E:Value->Shared->Prop):(X.wish E).Ok:=
 ⟨ok.mod,ok.kind,ok.glob,ok.blt,ok.above,ok.inj,ok.has,ok.cab,ok.hd,ok.frames,ok.stk,ok.exf,ok.bs,ok.bsz,ok.noex,ok.exfs,ok.funs,ok.frf⟩
theorem Cx.Ok.unwish{X:Cx}{E:Value->Shared->Prop}(ok:(X.wish E).Ok):X.Ok:=
 ⟨ok.mod,ok.kind,ok.glob,ok.blt,ok.above,ok.inj,ok.has,ok.cab,ok.hd,ok.frames,ok.stk,ok.exf,ok.bs,ok.bsz,ok.noex,ok.exfs,ok.funs,ok.frf⟩
section
variable{X:Cx}{pins:List (Addr×Obj)}{σ:St}{H:Hp}{s:Shared}{E:Value->Shared->Prop}
theorem Inv.wish(I:Inv X pins σ H s)(E:Value->Shared->Prop):Inv (X.wish E) pins σ H s:=⟨I.ok.wish E,I.os,I.bare,I.base,I.loc,I.cell,I.free,I.freeC,I.pin,I.hok,I.len⟩
theorem Inv.unwish(I:Inv (X.wish E) pins σ H s):Inv X pins σ H s:=⟨I.ok.unwish,I.os,I.bare,I.base,I.loc,I.cell,I.free,I.freeC,I.pin,I.hok,I.len⟩
theorem SP.unwish{D:ahi}{f:Flow}{s':Shared}(h:SP (X.wish E) pins D f s'):SP X pins D f s':=by
 cases f with
 | next=>obtain⟨σ',H',I,q⟩:=h;exact⟨σ',H',I.unwish,q⟩
 | brk=>obtain⟨σ',H',I,q⟩:=h;exact⟨σ',H',I.unwish,q⟩
 | cont=>obtain⟨σ',H',I,q⟩:=h;exact⟨σ',H',I.unwish,q⟩
 | ret u=>obtain⟨v,σ',H',I,r,q⟩:=h;exact⟨v,σ',H',I.unwish,r,q⟩
theorem PSs.nox{st:List Stmt}{t:TS}(h:PSs X.nox st t):PSs X st t:=λpins s σ H D I hw=>
 iz (h pins s σ H D (I.wish _) hw) (λ_ _ q=>q.unwish) λ_ _ z=>jx z
end
section
variable{X:Cx}{st:Stmt}{rest:List Stmt}{t u:TS}{e:Expr}{te:TE}{pos:Pos}
def auw:TS:=λD σ H=>D.nx σ H
def aw8(t u:TS):TS:=λD σ H=>t {D with nx:=u D} σ H
theorem o7:PSs X [] auw:=λ_ _ σ H _ I h=>wpAny_execs_nil ⟨σ,H,I,h⟩
theorem lw(h1:PS X st t)(h2:PSs X rest u):PSs X (st::rest) (aw8 t u):=by
 intro pins s σ H D I h
 refine wpAny_execs_cons (thn (h1 pins s σ H {D with nx:=u D} I h) λf s1 q=>?_)
 cases f with
 | next=>
  obtain⟨σ',H',I',q⟩:=q
  exact h2 pins s1 σ' H' D I' q
 | ret v=>exact q
 | brk=>exact q
 | cont=>exact q
theorem ma(h1:PS X st t):PSs X [st] t:=by
 intro pins s σ H D I h
 refine wpAny_execs_cons (thn (h1 pins s σ H D I h) λf s1 q=>?_)
 cases f with
 | next=>exact wpAny_execs_nil q
 | ret v=>exact q
 | brk=>exact q
 | cont=>exact q
def atr:TS:=λD σ H=>D.bk σ H
theorem alt:PS X (.Break pos) atr:=λ_ _ σ H _ I h=>wpAny_Break ⟨σ,H,I,h⟩
theorem Inv.quiet{pins:List (Addr×Obj)}{σ:St}{H:Hp}{s:Shared}(I:Inv X pins σ H s):interactive X.env=false:=by simp[interactive,I.ok.kind]
def avd(te:TE):TS:=λD σ H=>te σ H λ_ H1=>D.nx σ H1
theorem qo(he:PE X e te)(hs:swapsWith e none pos.line X.env=pure false:=by rfl):PS X (.Expr e pos) (avd te):=by
 intro pins s σ H D I h
 exact wpAny_Expr_any (thn (he pins s σ H _ I h) λv s1 ⟨x,H1,I1,r1,q1⟩=>⟨σ,H1,I1,q1⟩) I.quiet hs
def axj(te:TE):TS:=λD σ H=>te σ H D.rt
theorem my(he:PE X e te):PS X (.Return (some e) pos) (axj te):=by
 intro pins s σ H D I h
 exact wpAny_Return_some (thn (he pins s σ H _ I h) λv s1 ⟨x,H1,I1,r1,q1⟩=>⟨x,σ,H1,I1,r1,q1⟩)
def axy(c:TT)(t u:TS):TS:=λD σ H=>c σ H λb H1=>if b=true then t D σ H1 else u D σ H1
theorem qp{c:Expr}{a b:List Stmt}{tc:TT}(hc:PT X c tc)(ha:PSs X a t)(hb:PSs X b u):PS X (.If c a b pos) (axy tc t u):=by
 intro pins s σ H D I h
 refine wpAny_If (thn (hc pins s σ H _ I h) λd s1 ⟨H1,I1,q1⟩=>?_)
 cases d with
 | true=>exact ha pins s1 σ H1 D I1 q1
 | false=>exact hb pins s1 σ H1 D I1 q1
end
abbrev TG:=V->St->Hp->(St->Hp->Prop)->Prop
abbrev TGs:=List V->St->Hp->(St->Hp->Prop)->Prop
def PG(X:Cx)(target:Expr)(t:TG):Prop:=
 ∀(pins:List (Addr×Obj)) (s:Shared) (σ:St) (H:Hp) (v:V) (u:Value) (Q:St->Hp->Prop),Inv X pins σ H s->RelV v u->t v σ H Q->
  wpAny (model X.prog X.w) X.A (assign target X.env u) (λ_ s'=>∃σ' H',Inv X pins σ' H' s'/\Q σ' H') X.xe s
def PGs(X:Cx)(ts:List Expr)(t:TGs):Prop:=
 ∀(pins:List (Addr×Obj)) (s:Shared) (σ:St) (H:Hp) (vs:List V) (us:List Value) (Q:St->Hp->Prop),Inv X pins σ H s->Vals vs us->t vs σ H Q->
  wpAny (model X.prog X.w) X.A (assignInOrder ((assignEach ts X.env).map (·.2)) us) (λ_ s'=>∃σ' H',Inv X pins σ' H' s'/\Q σ' H') X.xe s
abbrev avu:=V->V->V->Hp->(Hp->Prop)->Prop
def awx(X:Cx)(t:avu):Prop:=
 ∀(pins:List (Addr×Obj)) (s:Shared) (σ:St) (H:Hp) (o i v:V) (ov iv u:Value) (Q:Hp->Prop),Inv X pins σ H s->RelV o ov->RelV i iv->RelV v u->t o i v H Q->
  wpAny (model X.prog X.w) X.A (setItem ov iv u) (λ_ s'=>∃H',Inv X pins σ H' s'/\Q H') X.xe s
abbrev TIp:=V->V->Hp->VK->Prop
def PIp(X:Cx)(op:Operator)(t:TIp):Prop:=
 ∀(pins:List (Addr×Obj)) (s:Shared) (σ:St) (H:Hp) (x y:V) (v u:Value) (Q:VK),Inv X pins σ H s->RelV x v->RelV y u->t x y H Q->
  wpAny (model X.prog X.w) X.A (inplaceOp op v u) (EP X pins σ Q) X.xe s
section
variable{X:Cx}{pos:Pos}
def aaq(i:Nat):TG:=λv σ H Q=>Q (σ.set i (some v)) H
theorem mh{i:Nat}{x:Str}(hN:X.N.Nodup)(hi:X.N[i]?=some x)(hx:Loc X.env.scope x)(hf:X.fn x=true\/X.env.scope.names.lookup x=some .local:=by first|exact .inl rfl|exact .inr rfl|assumption):PG X (.Name x pos) (aaq i):=by
 intro pins s σ H v u Q I r h
 exact wpAny_assign_Name (acd I hN hi hx r (λs' I'=>⟨_,H,I',h⟩) hf)
def aut:TGs:=λvs σ H Q=>vs=[]/\Q σ H
def aew(t:TG)(u:TGs):TGs:=λvs σ H Q=>∃v r,vs=v::r/\t v σ H λσ' H'=>u r σ' H' Q
theorem o0:PGs X [] aut:=by
 intro pins s σ H vs us Q I r h
 obtain⟨e,h⟩:=h
 subst e
 cases r
 exact assignInOrder_nil ⟨σ,H,I,h⟩
theorem mn{e:Expr}{es:List Expr}{t:TG}{u:TGs}(h1:PG X e t)(h2:PGs X es u)
  (hs:(assignEach (e::es) X.env).map (·.2)=assign e X.env::(assignEach es X.env).map (·.2):=by rfl):PGs X (e::es) (aew t u):=by
 intro pins s σ H vs us Q I r h
 obtain⟨v,vr,e1,h⟩:=h
 subst e1
 cases r with
 | cons r rr=>
  rw[hs]
  refine assignInOrder_cons (thn (h1 pins s σ H _ _ _ I r h) λ_ s1 ⟨σ1,H1,I1,q1⟩=>?_)
  exact h2 pins s1 σ1 H1 _ _ Q I1 rr q1
def atw(K:ai)(n:Nat)(t:TGs):TG:=λv σ H Q=>∃a xs,v=.ref a/\SqT K H a xs/\xs.length=n/\t xs σ H Q
theorem rj{es:List Expr}{k:Nat}{t:TGs}{n:Nat}(hc:X.calm=true)(h:PGs X es t)
  (hn:(assignEach es X.env).length=n:=by rfl) (hst:(assignEach es X.env).findIdx? (·.1)=none:=by rfl):PG X (.Tuple es k pos) (atw X.K n t):=by
 intro pins s σ H v u Q I r hw
 obtain⟨a,xs,e1,hq,hl,hw⟩:=hw
 subst e1
 cases r
 obtain⟨its,rv,ht,hz⟩:=I.tuple hq
 refine assign_Tuple_tuple (I.ok.hd hc) ht (by simp[hn,<-hl,rv.length]) hst λh' hx=>?_
 have I1:Inv X pins σ H {s with heap:=h'}:=I.kept (t':=s.toks) λb o e=>hx b o (c9 (bn e)) e
 exact h pins _ σ H xs _ Q I1 (by simpa using rv) hw
def axs(to ti:TE)(t:avu):TG:=λv σ H Q=>to σ H λo H1=>ti σ H1 λi H2=>t o i v H2 λH3=>Q σ H3
theorem afq{o i:Expr}{to ti:TE}{t:avu}(ho:PE X o to)(hi:PE X i ti)(hs:awx X t)
  (ha:∀v,assign (.Subscript o i pos) X.env v=(do
   let ov <-holding [v] (eval o X.env)
   let iv <-holding [v,ov] (eval i X.env)
   standAt pos
   holding [v,ov,iv] (setItem ov iv v)
   release [v,ov,iv] []):=by intro _;rfl):PG X (.Subscript o i pos) (axs to ti t):=by
 intro pins s σ H v u Q I r h
 rw[ha]
 refine aa (fk (thn (ho pins s σ H _ I h) λov s1 ⟨x,H1,I1,r1,q1⟩=>?_))
 refine aa (fk (thn (hi pins s1 σ H1 _ I1 q1) λiv s2 ⟨y,H2,I2,r2,q2⟩=>?_))
 refine aa (wpAny_standAt (aa (fk (thn (hs pins s2 σ H2 x y v ov iv u _ I2 r1 r2 r q2) λ_ s3 ⟨H3,I3,q3⟩=>?_))))
 exact wpAny_release ⟨σ,H3,I3,q3⟩
def auh(te:TE)(g:TG):TS:=λD σ H=>te σ H λx H1=>g x σ H1 D.nx
theorem xj{tg e:Expr}{te:TE}{g:TG}(he:PE X e te)(hg:PG X tg g)(hs:swapsWithSole [tg] e pos.line X.env=pure false:=by rfl)(hw:swappedStores [tg] e X.env=pure none:=by rfl)
  (h1:(assignEach [tg] X.env).map (·.2)=[assign tg X.env]:=by rfl):PS X (.Assign [tg] e pos) (auh te g):=by
 intro pins s σ H D I h
 refine wpAny_Assign_stores (thn (he pins s σ H _ I h) λv s1 ⟨x,H1,I1,r1,q1⟩=>?_) hs hw
 rw[h1]
 exact thn (hg pins s1 σ H1 x v _ I1 r1 q1) λ_ s2 q=>q
theorem nc{i:Nat}{x:Str}{e:Expr}{te:TE}{pos':Pos}(hN:X.N.Nodup)(hi:X.N[i]?=some x)(hx:Loc X.env.scope x)(he:PE X e te)(hs:swapsWith e (some (.Name x pos')) pos.line X.env=pure false:=by rfl)(hf:X.fn x=true\/X.env.scope.names.lookup x=some .local:=by first|exact .inl rfl|exact .inr rfl|assumption) :
  PS X (.Assign [.Name x pos'] e pos) (auh te (aaq i)):=by
 intro pins s σ H D I h
 refine wpAny_Assign_Name (thn (he pins s σ H _ I h) λv s1 ⟨y,H1,I1,r1,q1⟩=>?_) hs
 exact acd I1 hN hi hx r1 (λs2 I2=>⟨_,H1,I2,q1⟩) hf
def ax5(i:Nat)(te:TE)(ti:TIp):TS:=λD σ H=>∃x,σ[i]?=some (some x)/\te σ H λy H1=>ti x y H1 λz H2=>D.nx (σ.set i (some z)) H2
theorem ad7{i:Nat}{x:Str}{e:Expr}{te:TE}{op:Operator}{ti:TIp}{pos':Pos}(hN:X.N.Nodup)(hi:X.N[i]?=some x)(hx:Loc X.env.scope x)(he:PE X e te)(ho:PIp X op ti)(hf:X.fn x=true\/X.env.scope.names.lookup x=some .local:=by first|exact .inl rfl|exact .inr rfl|assumption) :
  PS X (.AugAssign (.Name x pos') op e pos) (ax5 i te ti):=by
 intro pins s σ H D I h
 obtain⟨v,e1,h⟩:=h
 obtain⟨m,hn,hl⟩:=I.loc
 have vis:Vis X.env.scope x:=by rcases hx with k|k;exact .inl k;exact .inr (.inl k)
 obtain⟨u,r,l⟩:=hl i x v hi e1 vis
 refine wpAny_AugAssign_Name ?_
 have go:wpAny (model X.prog X.w) X.A (eval e X.env) (λw s₂=>wpAny (model X.prog X.w) X.A (inplaceOp op u w) (λr s₃=>wpAny (model X.prog X.w) X.A (storeName X.env x r) (λ_=>SP X pins D .next) X.xe s₃) X.xe s₂) X.xe s:=by
  refine thn (he pins s σ H _ I h) λw s1 ⟨y,H1,I1,r1,q1⟩=>?_
  refine thn (ho pins s1 σ H1 v y u w _ I1 r r1 q1) λz s2 ⟨zv,H2,I2,r2,q2⟩=>?_
  exact acd I2 hN hi hx r2 (λs3 I3=>⟨_,H2,I3,q2⟩) hf
 rcases l with ⟨hk,hm⟩|⟨hk,c,hc,hcell⟩
 .exact wpAny_loadName_local I.ok.kind hk hn hm go
 .rcases hk with hk|hk
  .exact wpAny_loadName_cell I.ok.kind hk hc hcell go
  .rcases hx with k|k
   .have:X.env.scope.names.lookup x=some .free:=hk
    rw[k]at this;cases this
   .have:X.env.scope.names.lookup x=some .free:=hk
    rw[k]at this;cases this
def ipI(f:Int->Int->Int):TIp:=λx y H Q=>∃i j,x=.int i/\y=.int j/\Q (.int (f i j)) H
theorem aqs:PIp X .Sub (ipI λi j=>i-j):=by
 intro pins s σ H x y v u Q I r1 r2 h
 obtain⟨i,j,e1,e2,q⟩:=h
 subst e1;subst e2
 obtain⟨t,rfl⟩:=r1
 obtain⟨t',rfl⟩:=r2
 exact isub_int ⟨.int _,H,I.tok _,⟨_,rfl⟩,q⟩
end
structure It where
 go:Nat->Hp->Prop
 yld:Nat->Hp->V->Hp->Prop
 stop:Nat->Hp->Prop
def afm(X:Cx)(pins:List (Addr×Obj))(H:Hp)(b:Addr):Prop:=
 H b=none/\b≠X.env.locals/\b∉X.fs/\(b∈X.ex\/X.s₀.heap.objs.size<=b)/\(∀x c,X.env.cells.lookup x=some c->c≠b)/\∀p∈X.pn++pins,p.1≠b
theorem Inv.fpOk{X:Cx}{pins:List (Addr×Obj)}{σ:St}{H H':Hp}{s:Shared}{b:Addr}(I:Inv X pins σ H s)(hb:s.heap.objs.size<=b)(hn:H' b=none):afm X pins H' b:=by
 refine⟨hn,Nat.ne_of_gt (cw I.lt hb),I.nofs hb,.inr (db I.sz hb),λx c e z=>?_,λp hp z=>?_⟩
 .obtain⟨v,q⟩:=I.cell x c e
  exact absurd (cw q.lt (by rw[z];exact hb)) (jc _)
 .exact absurd (cw (bn (I.pin p hp).1) (by rw[z];exact hb)) (jc _)
structure ak2(P:Program)(w:World)(K:ai)(tg:Expr)(J:It)(fp:List Addr)(it:Addr)(tn:Nat->Heap->Prop):Prop where
 mem:it∈fp
 obj:∀i h,tn i h->∀b∈fp,∃o,h.get? b=some o/\∀v,o.data≠.cell v
 keep:∀i h h',tn i h->(∀b∈fp,∀o,h.get? b=some o->h'.get? b=some o)->tn i h'
 item:∀(X:Cx),X.prog=P->X.w=w->X.K=K->X.calm=true->∀(i:Nat) (pins:List (Addr×Obj)) (s:Shared) (σ:St) (H:Hp) (E:Value->Shared->Prop),Inv X pins σ H s->(∀b∈fp,afm X pins H b)->tn i s.heap->J.go i H->
  wpAny (model P w) X.A (pyNext (.ref it)) (λr s1=>∃u,r=some u/\
   wpAny (model P w) X.A (letOwnedTupleGo tg (.ref it) u) (λ_ s2=>∃x H',Inv X pins σ H' s2/\RelV x u/\J.yld i H x H'/\tn (i+1) s2.heap/\∀b∈fp,H' b=none) E s1) E s
 done:∀(X:Cx),X.prog=P->X.w=w->X.K=K->X.calm=true->∀(i:Nat) (pins:List (Addr×Obj)) (s:Shared) (σ:St) (H:Hp) (E:Value->Shared->Prop),Inv X pins σ H s->(∀b∈fp,afm X pins H b)->tn i s.heap->J.stop i H->
  wpAny (model P w) X.A (pyNext (.ref it)) (λr s1=>r=none/\Inv X pins σ H s1) E s
 self:∀(A:Around)(i:Nat)(s:Shared)(Q:Value->Shared->Prop)(E:Value->Shared->Prop),tn i s.heap->Q (.ref it) s->wpAny (model P w) A (pyIter (.ref it)) Q E s
abbrev TI:=St->Hp->(It->Hp->Prop)->Prop
def PIE(X:Cx)(pins:List (Addr×Obj))(σ:St)(tg:Expr)(R:It->Hp->Prop)(itv:Value)(s2:Shared):Prop:=
 ∃(it:Addr)(fp:List Addr)(tn:Nat->Heap->Prop)(J:It)(H':Hp),itv=.ref it/\Inv X pins σ H' s2/\ak2 X.prog X.w X.K tg J fp it tn/\tn 0 s2.heap/\(∀b∈fp,afm X pins H' b)/\R J H'
def PI(X:Cx)(tg iter:Expr)(wi:TI):Prop:=
 ∀(pins:List (Addr×Obj)) (s:Shared) (σ:St) (H:Hp) (R:It->Hp->Prop),Inv X pins σ H s->wi σ H R->
  wpAny (model X.prog X.w) X.A (eval iter X.env) (λv s1=>wpAny (model X.prog X.w) X.A (pyIter v) (PIE X pins σ tg R) X.xe s1) X.xe s
theorem ale{M:Model}{A:Around}{E:Value->Shared->Prop}{s:Shared}{tg:Expr}{it:Addr}{u:Value}{o:Obj}{n:String}{vs:Array Value}{Q:Unit->Shared->Prop}(ho:s.heap.get? it=some o)(hc:o.cls=.type n)(hd:o.data=.fields vs)
  (hn:["enumerate","zip","dict_itemiterator","dict_reverseitemiterator","odict_iterator","itertools.zip_longest","itertools.pairwise"].contains n=false) (hQ:Q () s):wpAny M A (letOwnedTupleGo tg (.ref it) u) Q E s:=by
 unfold letOwnedTupleGo
 cases tg<;>first
  | exact af hQ
  | (cases u<;>first
    | exact af hQ
    | (refine aa (wpAny_load ho ?_)
       rw[hc,hd]
       show wpAny M A (if (["enumerate","zip","dict_itemiterator","dict_reverseitemiterator","odict_iterator","itertools.zip_longest","itertools.pairwise"].contains n&&vs[0]?==some (rawInt _))=true then _ else _) Q E s
       rw[if_neg (by intro h;rw[hn,Bool.false_and]at h;cases h)]
       exact af hQ))
noncomputable def Itl(K:ai)(a:Addr):It:=
 ⟨λi H=>∃xs x,SqL K H a xs/\xs[i]?=some x,λi H x H'=>H'=H/\∀xs,SqL K H a xs->xs[i]?=some x,λi H=>∃xs,SqL K H a xs/\xs.length<=i⟩
noncomputable def Itt(K:ai)(a:Addr):It:=
 ⟨λi H=>∃xs x,SqT K H a xs/\xs[i]?=some x,λi H x H'=>H'=H/\∀xs,SqT K H a xs->xs[i]?=some x,λi H=>∃xs,SqT K H a xs/\xs.length<=i⟩
noncomputable def Itr(lo:Int)(n:Nat):It:=⟨λi _=>i<n,λi H x H'=>H'=H/\x=.int (lo+i),λi _=>n<=i⟩
theorem adh{P:Program}{w:World}{K:ai}{tg:Expr}(a it:Addr):ak2 P w K tg (Itl K a) [it] it (λi h=>h.IsListIter it a i)where
 mem:=by simp
 obj:=λi h st b hb=>by
  have e:b=it:=by simpa using hb
  subst e
  obtain⟨o,e,c,d⟩:=st
  exact⟨o,e,λv z=>by rw[d]at z;cases z⟩
 keep:=λi h h' st k=>st.at λo e=>k it (by simp) o e
 item:=by
  intro X hP hw hK hc i pins s σ H E I hf st hg
  subst hP hw hK
  obtain⟨xs,x,hq,hx⟩:=hg
  obtain⟨its,rv,p,hz⟩:=I.list hq
  obtain⟨u,hu,ru⟩:=rv.get hx
  obtain⟨f0,f1,f2,f3,f4,f5⟩:=hf it (by simp)
  refine wpAny_pyNext_list_item st p.isList (x:=u) (by simpa using hu) λh' st' sb=>?_
  have I1:Inv X pins σ H {s with heap:=h'}:=I.turned (t':=s.toks) (λb o hb e=>(sb.2 b hb).trans e) f0 f1 f3 f4 f5
  obtain⟨o,e,c,d⟩:=id st'
  exact⟨u,rfl,ale (s:={s with heap:=h'}) e c d (by decide) ⟨x,H,I1,ru,⟨rfl,λys hy=>by rw[I.list_inj hy hq];exact hx⟩,st',λb hb=>(hf b hb).1⟩⟩
 done:=by
  intro X hP hw hK hc i pins s σ H E I hf st hg
  subst hP hw hK
  obtain⟨xs,hq,hx⟩:=hg
  obtain⟨its,rv,p,hz⟩:=I.list hq
  obtain⟨f0,f1,f2,f3,f4,f5⟩:=hf it (by simp)
  have hl:=rv.length
  exact wpAny_pyNext_list_end (I.ok.hd hc) st p.isList (by simp;omega) λh' eb=>⟨rfl,I.turned (t':=s.toks) (λb o hb e=>eb b o hb e) f0 f1 f3 f4 f5⟩
 self:=λ_ _ _ _ _ st h=>wpAny_pyIter_listiter st h
theorem abg{P:Program}{w:World}{K:ai}{tg:Expr}(a it:Addr):ak2 P w K tg (Itt K a) [it] it (λi h=>h.IsTupleIter it a i)where
 mem:=by simp
 obj:=λi h st b hb=>by
  have e:b=it:=by simpa using hb
  subst e
  obtain⟨o,e,c,d⟩:=st
  exact⟨o,e,λv z=>by rw[d]at z;cases z⟩
 keep:=λi h h' st k=>st.at λo e=>k it (by simp) o e
 item:=by
  intro X hP hw hK hc i pins s σ H E I hf st hg
  subst hP hw hK
  obtain⟨xs,x,hq,hx⟩:=hg
  obtain⟨its,rv,p,hz⟩:=I.tuple hq
  obtain⟨u,hu,ru⟩:=rv.get hx
  obtain⟨f0,f1,f2,f3,f4,f5⟩:=hf it (by simp)
  refine wpAny_pyNext_tuple_item st (show s.heap.IsTuple a its.toArray from p) (x:=u) (by simpa using hu) λh' st' sb=>?_
  have I1:Inv X pins σ H {s with heap:=h'}:=I.turned (t':=s.toks) (λb o hb e=>(sb.2 b hb).trans e) f0 f1 f3 f4 f5
  obtain⟨o,e,c,d⟩:=id st'
  exact⟨u,rfl,ale (s:={s with heap:=h'}) e c d (by decide) ⟨x,H,I1,ru,⟨rfl,λys hy=>by rw[I.tuple_inj hy hq];exact hx⟩,st',λb hb=>(hf b hb).1⟩⟩
 done:=by
  intro X hP hw hK hc i pins s σ H E I hf st hg
  subst hP hw hK
  obtain⟨xs,hq,hx⟩:=hg
  obtain⟨its,rv,p,hz⟩:=I.tuple hq
  obtain⟨f0,f1,f2,f3,f4,f5⟩:=hf it (by simp)
  have hl:=rv.length
  exact wpAny_pyNext_tuple_end (I.ok.hd hc) st (show s.heap.IsTuple a its.toArray from p) (by simp;omega) λh' eb=>⟨rfl,I.turned (t':=s.toks) (λb o hb e=>eb b o hb e) f0 f1 f3 f4 f5⟩
 self:=λ_ _ _ _ _ st h=>wpAny_pyIter_tupleiter st h
theorem ahf{P:Program}{w:World}{K:ai}{tg:Expr}(it:Addr)(lo:Int)(n:Nat):ak2 P w K tg (Itr lo n) [it] it (λi h=>IsRangeIter h it (lo+(i:Nat)*1) ((n:Int)-(i:Nat)) 1)where
 mem:=by simp
 obj:=λi h st b hb=>by
  have e:b=it:=by simpa using hb
  subst e
  exact⟨_,st,λv z=>by
   have z':Data.fields _=Data.cell v:=z
   cases z'⟩
 keep:=λi h h' st k=>k it (by simp) _ st
 item:=by
  intro X hP hw hK hc i pins s σ H E I hf st hg
  subst hP hw hK
  obtain⟨f0,f1,f2,f3,f4,f5⟩:=hf it (by simp)
  have W:=Walks.range (prog:=X.prog) (w:=X.w) (I.ok.hd hc) it lo 1 n
  refine W.item i s _ _ hg st λv h' tk hv st' kk=>?_
  obtain⟨t,rfl⟩:=hv
  have I1:Inv X pins σ H {s with heap:=h',toks:=tk}:=I.turned (λb o hb e=>kk b o (by simpa using hb) e) f0 f1 f3 f4 f5
  refine⟨_,rfl,ale (s:={s with heap:=h',toks:=tk}) (n:="range_iterator") st' rfl rfl (by decide) ⟨.int (lo+i),H,I1,⟨t,?_⟩,⟨rfl,rfl⟩,st',λb hb=>(hf b hb).1⟩⟩
  rw[Int.mul_one]
 done:=by
  intro X hP hw hK hc i pins s σ H E I hf st hg
  subst hP hw hK
  obtain⟨f0,f1,f2,f3,f4,f5⟩:=hf it (by simp)
  exact wpAny_pyNext_range_end (I.ok.hd hc) st (by have:n<=i:=hg;omega) λh' eb=>⟨rfl,I.turned (t':=s.toks) (λb o hb e=>eb b o hb e) f0 f1 f3 f4 f5⟩
 self:=λ_ _ _ _ _ st h=>wpAny_pyIter_rangeiter st h
end L2
namespace L2
open PySem PySem.Spec PyProof.Rows
section
variable{X:Cx}{tg:Expr}
def aon(K:ai)(tl:TE):TI:=λσ H R=>tl σ H λx H1=>∃a,x=.ref a/\(∃xs,SqL K H1 a xs)/\R (Itl K a) H1
def ax2(K:ai)(tl:TE):TI:=λσ H R=>tl σ H λx H1=>∃a,x=.ref a/\(∃xs,SqT K H1 a xs)/\R (Itt K a) H1
theorem n0{l:Expr}{tl:TE}(hl:PE X l tl):PI X tg l (aon X.K tl):=by
 intro pins s σ H R I h
 refine thn (hl pins s σ H _ I h) λv s1 ⟨x,H1,I1,r1,q1⟩=>?_
 obtain⟨a,e,⟨xs,hq⟩,q⟩:=q1
 subst e
 cases r1
 obtain⟨its,rv,p,hz⟩:=I1.list hq
 refine wpAny_pyIter_list p.isList ?_
 refine⟨s1.heap.objs.size,[s1.heap.objs.size],_,_,H1,rfl,I1.kept (t':=s1.toks) λb o e=>ak _ e,adh a _,⟨_,av _ rfl,rfl,rfl⟩,λb hb=>?_,q⟩
 have e:b=s1.heap.objs.size:=by simpa using hb
 subst e
 exact I1.fpOk (am _) (I1.hok.fresh (am _))
theorem aa1{l:Expr}{tl:TE}(hl:PE X l tl):PI X tg l (ax2 X.K tl):=by
 intro pins s σ H R I h
 refine thn (hl pins s σ H _ I h) λv s1 ⟨x,H1,I1,r1,q1⟩=>?_
 obtain⟨a,e,⟨xs,hq⟩,q⟩:=q1
 subst e
 cases r1
 obtain⟨its,rv,p,hz⟩:=I1.tuple hq
 refine wpAny_pyIter_tuple (show s1.heap.IsTuple a its.toArray from p) ?_
 refine⟨s1.heap.objs.size,[s1.heap.objs.size],_,_,H1,rfl,I1.kept (t':=s1.toks) λb o e=>ak _ e,abg a _,⟨_,av _ rfl,rfl,rfl⟩,λb hb=>?_,q⟩
 have e:b=s1.heap.objs.size:=by simpa using hb
 subst e
 exact I1.fpOk (am _) (I1.hok.fresh (am _))
theorem ak8{pins:List (Addr×Obj)}{σ:St}{H:Hp}{s:Shared}{R:It->Hp->Prop}{E:Value->Shared->Prop}{lo hi:Int}{t u v:Tok}{tk:Nat}(I:Inv X pins σ H s)(h1:-(2^62)<=lo)(h2:lo<2^62)(h3:-(2^62)<=hi)(h4:hi<2^62)
  (q:R (Itr lo (hi-lo).toNat) H):wpAny (model X.prog X.w) X.A (pyIter (.ref s.heap.objs.size)) (PIE X pins σ tg R) E {s with heap:=s.heap.push {cls:=.type "range",data:=.fields #[.int lo t,.int hi u,.int 1 v]},toks:=tk}:=by
 refine wpAny_pyIter_range (IsRange.new ..) (small_one h1 h2 h3 h4) ?_
 have I1:Inv X pins σ H {s with heap:=s.heap.push {cls:=.type "range",data:=.fields #[.int lo t,.int hi u,.int 1 v]},toks:=tk}:=I.kept λb o e=>ak _ e
 refine⟨(s.heap.push {cls:=.type "range",data:=.fields #[.int lo t,.int hi u,.int 1 v]}).objs.size,[(s.heap.push {cls:=.type "range",data:=.fields #[.int lo t,.int hi u,.int 1 v]}).objs.size],_,_,H,rfl,
  I1.kept (t':=tk) λb o e=>ak _ e,ahf _ lo (hi-lo).toNat,?_,λb hb=>?_,q⟩
 .have e1:lo+((0:Nat):Int)*1=lo:=by simp
  have e2:(((hi-lo).toNat:Nat):Int)-((0:Nat):Int)=Builtin.Range.rangeSize lo hi 1:=by rw[rangeSize_one];split<;>omega
  show IsRangeIter _ _ (lo+((0:Nat):Int)*1) ((((hi-lo).toNat:Nat):Int)-((0:Nat):Int)) 1
  rw[e1,e2]
  exact av _ rfl
 .have e:b=(s.heap.push {cls:=.type "range",data:=.fields #[.int lo t,.int hi u,.int 1 v]}).objs.size:=by simpa using hb
  subst e
  exact I1.fpOk (am _) (I1.hok.fresh (am _))
def aqh(ta:TA):TI:=λσ H R=>ta σ H λvs H1=>∃j:Int,vs=[.int j]/\-(2^62)<=j/\j<2^62/\R (Itr 0 j.toNat) H1
theorem aks{a:Expr}{ta:TA}{p pos:Pos}(hg:Gl X "range")(hm:X.mg "range" = none)(ha:PA X [a] ta)(hs:starEach [a] X.env=[(false,eval a X.env)]:=by rfl):PI X tg (.Call (.Name "range" p) [a] [] pos) (aqh ta):=by
 intro pins s σ H R I h
 refine Call_ (uq I hg hm boot_range (ge (thn (ha pos pins s σ H _ I h) λus s1 ⟨vs,H1,I1,r1,q1⟩=>?_) hs rfl))
 obtain⟨j,e,q1,q2,q⟩:=q1
 subst e
 cases r1 with
 | cons r rr=>
  cases rr
  obtain⟨t,rfl⟩:=r
  exact call_range_1 (ak8 I1 (by omega) (by omega) q1 q2 (by simpa using q))
def axr(wi:TI)(g:TG)(tb:TS):TS:=λD σ H=>wi σ H λJ H1=>∃W:Nat->Nat->St->Hp->Prop,(∃m,W 0 m σ H1)/\∀i m σ H,W i m σ H->
 (J.stop i H/\D.nx σ H)\/(J.go i H/\∃N:St->Hp->Prop,(∀σ' H',N σ' H'->∃m',m'<m/\W (i+1) m' σ' H')/\∀x H',J.yld i H x H'->g x σ H' λσ2 H2=>tb {D with nx:=N,ct:=N,bk:=D.nx} σ2 H2)
noncomputable def adt(fp:List Addr)(h:Heap):List (Addr×Obj):=fp.filterMap λb=>(h.get? b).map λo=>(b,o)
theorem uw{fp:List Addr}{h:Heap}{b:Addr}{o:Obj}(hb:b∈fp)(e:h.get? b=some o):(b,o)∈adt fp h:=List.mem_filterMap.mpr ⟨b,hb,by rw[e];rfl⟩
theorem ai6{fp:List Addr}{h:Heap}{p:Addr×Obj}(hp:p∈adt fp h):p.1∈fp/\h.get? p.1=some p.2:=by
 obtain⟨b,hb,e⟩:=List.mem_filterMap.mp hp
 cases q:h.get? b with
 | none=>rw[q]at e;cases e
 | some o=>
  rw[q]at e
  have e':(b,o)=p:=cm e
  subst e'
  exact⟨hb,q⟩
theorem Inv.pinned{pins:List (Addr×Obj)}{σ:St}{H:Hp}{s:Shared}{fp:List Addr}(I:Inv X pins σ H s)(hf:∀b∈fp,afm X pins H b)(ho:∀b∈fp,∃o,s.heap.get? b=some o/\∀v,o.data≠.cell v):Inv X (pins++adt fp s.heap) σ H s:=
 I.pins_of λp hp=>(ax.mp hp).elim (λz=>I.pin p (cz _ z)) λz=>by
  obtain⟨hb,e⟩:=ai6 z
  obtain⟨f0,f1,f2,_⟩:=hf p.1 hb
  obtain⟨o,e',d⟩:=ho p.1 hb
  rw[e]at e';cases e'
  exact⟨e,f0,f1,f2,d⟩
theorem Inv.unpinned{pins pl:List (Addr×Obj)}{σ:St}{H:Hp}{s:Shared}(I:Inv X (pins++pl) σ H s):Inv X pins σ H s:=I.pins_of λp hp=>I.pin p (cz _ (jv _ hp))
theorem p7{iter:Expr}{body:List Stmt}{wi:TI}{g:TG}{tb:TS}{pos:Pos}(hp:PassesOwn (model X.prog X.w) X.A X.env X.xe)(hc:X.calm=true)(hi:PI X tg iter wi)(hg:PG X tg g)(hb:PSs X body tb)
  (hs:∀x,foldedSetIterable iter X.env x=pure x:=by intro _;rfl):PS X (.For tg iter body [] pos) (axr wi g tb):=by
 intro pins s σ H D I h
 refine wpAny_For (thn (hi pins s σ H _ I h) λv s1 h1=>thn h1 λitv s2 h2=>?_) hs
 obtain⟨it,fp,tn,J,H2,e,I2,T,st2,f2,W,⟨m0,w0⟩,turn⟩:=h2
 subst e
 have stat:∀{H':Hp},(∀b∈fp,H' b=none)->∀b∈fp,afm X pins H' b:=λhn b hb=>⟨hn b hb,(f2 b hb).2⟩
 refine codeAny_forLoop_any (λn s'=>∃i σ' H',Inv X pins σ' H' s'/\tn i s'.heap/\(∀b∈fp,H' b=none)/\W i n σ' H') ?_ m0 ⟨0,σ,H2,I2,st2,λb hb=>(f2 b hb).1,w0⟩
 rintro n s3 ⟨i,σ3,H3,I3,st3,fr3,w3⟩
 rcases turn i n σ3 H3 w3 with ⟨stop,qn⟩|⟨go,N,hN,step⟩
 .refine wpAny_passesOwn hp (thn (T.done X rfl rfl rfl hc i pins s3 σ3 H3 X.xe I3 (stat fr3) st3 stop) λr s4 ⟨hr,I4⟩=>?_)
  subst hr
  exact wpAny_execs_nil ⟨σ3,H3,I4,qn⟩
 .refine wpAny_passesOwn hp (thn (T.item X rfl rfl rfl hc i pins s3 σ3 H3 X.xe I3 (stat fr3) st3 go) λr s4 ⟨u,hr,h4⟩=>?_)
  subst hr
  refine wpAny_passesOwn hp (thn h4 λ_ s5 ⟨x,H5,I5,r5,y5,st5,fr5⟩=>?_)
  have I5':=I5.pinned (stat fr5) (T.obj _ _ st5)
  refine wpAny_passesOwn hp (thn (hg _ s5 σ3 H5 x u _ I5' r5 (step x H5 y5)) λ_ s6 ⟨σ6,H6,I6,q6⟩=>?_)
  refine wpAny_passesOwn hp (thn (hb _ s6 σ6 H6 _ I6 q6) λf s7 q7=>?_)
  have again:∀{σ7:St} {H7:Hp},Inv X (pins++adt fp s5.heap) σ7 H7 s7->N σ7 H7->∃m,m<n/\∃i σ' H',Inv X pins σ' H' s7/\tn i s7.heap/\(∀b∈fp,H' b=none)/\W i m σ' H':=λ{σ7 H7} I7 n7=>by
   obtain⟨m',hm,w7⟩:=hN σ7 H7 n7
   refine⟨m',hm,i+1,σ7,H7,I7.unpinned,T.keep _ _ _ st5 λb hb o e=>(I7.pin (b,o) (cz _ (cz _ (uw hb e)))).1,λb hb=>?_,w7⟩
   obtain⟨o,e,d⟩:=T.obj _ _ st5 b hb
   exact(I7.pin (b,o) (cz _ (cz _ (uw hb e)))).2.1
  cases f with
  | next=>obtain⟨σ7,H7,I7,n7⟩:=q7;exact again I7 n7
  | cont=>obtain⟨σ7,H7,I7,n7⟩:=q7;exact again I7 n7
  | brk=>obtain⟨σ7,H7,I7,q7⟩:=q7;exact⟨σ7,H7,I7.unpinned,q7⟩
  | ret v=>obtain⟨x7,σ7,H7,I7,r7,q7⟩:=q7;exact⟨x7,σ7,H7,I7.unpinned,r7,q7⟩
end
theorem qr{K:ai}{a:Addr}{xs:List V}{g:TG}{tb:TS}{D:ahi}{σ:St}{H:Hp}(Pv:Nat->St->Hp->Prop)(h0:Pv 0 σ H)(hl:∀i σ H,i<=xs.length->Pv i σ H->SqL K H a xs)
  (hs:∀i x σ H,xs[i]?=some x->Pv i σ H->g x σ H λσ2 H2=>tb {D with nx:=Pv (i+1),ct:=Pv (i+1),bk:=D.nx} σ2 H2) (hd:∀σ H,Pv xs.length σ H->D.nx σ H) :
  ∃W:Nat->Nat->St->Hp->Prop,(∃m,W 0 m σ H)/\∀i m σ H,W i m σ H->
   ((Itl K a).stop i H/\D.nx σ H)\/((Itl K a).go i H/\∃N:St->Hp->Prop,(∀σ' H',N σ' H'->∃m',m'<m/\W (i+1) m' σ' H')/\∀x H',(Itl K a).yld i H x H'->g x σ H' λσ2 H2=>tb {D with nx:=N,ct:=N,bk:=D.nx} σ2 H2):=by
 refine⟨λi m σ H=>m=xs.length-i/\i<=xs.length/\Pv i σ H,⟨xs.length,by simp,dq _,h0⟩,?_⟩
 rintro i m σ H ⟨rfl,hi,p⟩
 have q:=hl i σ H hi p
 by_cases hlt:i<xs.length
 .refine .inr ⟨⟨xs,xs[i],q,by simp[hlt]⟩,Pv (i+1),λσ' H' p'=>⟨xs.length-(i+1),by omega,rfl,hlt,p'⟩,λx H' y=>?_⟩
  obtain⟨e,y⟩:=y
  subst e
  exact hs i x σ _ (y xs q) p
 .have e:i=xs.length:=by omega
  subst e
  exact .inl ⟨⟨xs,q,am _⟩,hd σ H p⟩
theorem akj{K:ai}{a:Addr}{xs:List V}{g:TG}{tb:TS}{D:ahi}{σ:St}{H:Hp}(Pv:Nat->St->Hp->Prop)(h0:Pv 0 σ H)(hl:∀i σ H,i<=xs.length->Pv i σ H->SqT K H a xs)
  (hs:∀i x σ H,xs[i]?=some x->Pv i σ H->g x σ H λσ2 H2=>tb {D with nx:=Pv (i+1),ct:=Pv (i+1),bk:=D.nx} σ2 H2) (hd:∀σ H,Pv xs.length σ H->D.nx σ H) :
  ∃W:Nat->Nat->St->Hp->Prop,(∃m,W 0 m σ H)/\∀i m σ H,W i m σ H->
   ((Itt K a).stop i H/\D.nx σ H)\/((Itt K a).go i H/\∃N:St->Hp->Prop,(∀σ' H',N σ' H'->∃m',m'<m/\W (i+1) m' σ' H')/\∀x H',(Itt K a).yld i H x H'->g x σ H' λσ2 H2=>tb {D with nx:=N,ct:=N,bk:=D.nx} σ2 H2):=by
 refine⟨λi m σ H=>m=xs.length-i/\i<=xs.length/\Pv i σ H,⟨xs.length,by simp,dq _,h0⟩,?_⟩
 rintro i m σ H ⟨rfl,hi,p⟩
 have q:=hl i σ H hi p
 by_cases hlt:i<xs.length
 .refine .inr ⟨⟨xs,xs[i],q,by simp[hlt]⟩,Pv (i+1),λσ' H' p'=>⟨xs.length-(i+1),by omega,rfl,hlt,p'⟩,λx H' y=>?_⟩
  obtain⟨e,y⟩:=y
  subst e
  exact hs i x σ _ (y xs q) p
 .have e:i=xs.length:=by omega
  subst e
  exact .inl ⟨⟨xs,q,am _⟩,hd σ H p⟩
theorem qj{lo:Int}{n:Nat}{g:TG}{tb:TS}{D:ahi}{σ:St}{H:Hp}(Pv:Nat->St->Hp->Prop)(h0:Pv 0 σ H)
  (hs:∀i σ H,i<n->Pv i σ H->g (.int (lo+i)) σ H λσ2 H2=>tb {D with nx:=Pv (i+1),ct:=Pv (i+1),bk:=D.nx} σ2 H2) (hd:∀σ H,Pv n σ H->D.nx σ H) :
  ∃W:Nat->Nat->St->Hp->Prop,(∃m,W 0 m σ H)/\∀i m σ H,W i m σ H->
   ((Itr lo n).stop i H/\D.nx σ H)\/((Itr lo n).go i H/\∃N:St->Hp->Prop,(∀σ' H',N σ' H'->∃m',m'<m/\W (i+1) m' σ' H')/\∀x H',(Itr lo n).yld i H x H'->g x σ H' λσ2 H2=>tb {D with nx:=N,ct:=N,bk:=D.nx} σ2 H2):=by
 refine⟨λi m σ H=>m=n-i/\i<=n/\Pv i σ H,⟨n,by simp,dq _,h0⟩,?_⟩
 rintro i m σ H ⟨rfl,hi,p⟩
 by_cases hlt:i<n
 .refine .inr ⟨hlt,Pv (i+1),λσ' H' p'=>⟨n-(i+1),by omega,rfl,hlt,p'⟩,λx H' y=>?_⟩
  obtain⟨e,y⟩:=y
  subst e y
  exact hs i σ _ hlt p
 .have e:i=n:=by omega
  subst e
  exact .inl ⟨am _,hd σ H p⟩
end L2
namespace L2
open PySem PySem.Spec PyProof.Rows
abbrev R2:=V->V->Hp->VK->Prop
def OpR(X:Cx)(f:Value->Value->Sem Value)(r:R2):Prop:=
 ∀(pins:List (Addr×Obj)) (s:Shared) (σ:St) (H:Hp) (x y:V) (v u:Value) (Q:VK),Inv X pins σ H s->RelV x v->RelV y u->r x y H Q->
  wpAny (model X.prog X.w) X.A (f v u) (EP X pins σ Q) X.xe s
def UnR(X:Cx)(f:Value->Sem Value)(r:V->Hp->VK->Prop):Prop:=
 ∀(pins:List (Addr×Obj)) (s:Shared) (σ:St) (H:Hp) (x:V) (v:Value) (Q:VK),Inv X pins σ H s->RelV x v->r x H Q->
  wpAny (model X.prog X.w) X.A (f v) (EP X pins σ Q) X.xe s
def sw(X:Cx)(f:Value)(r:List V->Hp->VK->Prop):Prop:=
 ∀(pins:List (Addr×Obj)) (s:Shared) (σ:St) (H:Hp) (xs:List V) (us:List Value) (Q:VK),Inv X pins σ H s->Vals xs us->r xs H Q->
  wpAny (model X.prog X.w) X.A (call f us) (EP X pins σ Q) X.xe s
def tOp(r:R2)(ta tb:TE):TE:=λσ H Q=>ta σ H λx H1=>tb σ H1 λy H2=>r x y H2 Q
def tUn(r:V->Hp->VK->Prop)(ta:TE):TE:=λσ H Q=>ta σ H λx H1=>r x H1 Q
def rI(C:Int->Int->Prop)(g:Int->Int->V):R2:=λx y H Q=>∃i j,x=.int i/\y=.int j/\C i j/\Q (g i j) H
def rI0(g:Int->Int->V):R2:=λx y H Q=>∃i j,x=.int i/\y=.int j/\Q (g i j) H
def rU(g:Int->V):V->Hp->VK->Prop:=λx H Q=>∃i,x=.int i/\Q (g i) H
section
variable{X:Cx}{a b c:Expr}{ta tb tc:TE}{pos:Pos}
theorem av9(ha:PE X a ta)(hb:PE X b tb){pins:List (Addr×Obj)}{s:Shared}{σ:St}{H:Hp}{R:V->V->Hp->Prop}(I:Inv X pins σ H s)
  (h:ta σ H λx H1=>tb σ H1 λy H2=>R x y H2) {Q:Value->Shared->Prop} {f:Value->Value->Sem Value}
  (hf:∀v u s2 x y H2,Inv X pins σ H2 s2->RelV x v->RelV y u->R x y H2->wpAny (model X.prog X.w) X.A (f v u) Q X.xe s2) :
  wpAny (model X.prog X.w) X.A (eval a X.env) (λv s₁=>wpAny (model X.prog X.w) X.A (eval b X.env) (λu s₂=>wpAny (model X.prog X.w) X.A (f v u) Q X.xe s₂) X.xe s₁) X.xe s:=by
 refine thn (ha pins s σ H _ I h) λv s1 ⟨x,H1,I1,r1,q1⟩=>?_
 refine thn (hb pins s1 σ H1 _ I1 q1) λu s2 ⟨y,H2,I2,r2,q2⟩=>?_
 exact hf v u s2 x y H2 I2 r1 r2 q2
theorem ow{op:Operator}{r:R2}(ho:OpR X (binaryOp op) r)(ha:PE X a ta)(hb:PE X b tb):PE X (.BinOp a op b pos) (tOp r ta tb):=by
 intro pins s σ H Q I h
 exact wpAny_BinOp (av9 ha hb I h λv u s2 x y H2 I2 rx ry q=>ho pins s2 σ H2 x y v u Q I2 rx ry q)
theorem apa{op:UnaryOp}{r:V->Hp->VK->Prop}(ho:UnR X (unaryOp op) r)(ha:PE X a ta):PE X (.UnaryOp op a pos) (tUn r ta):=by
 intro pins s σ H Q I h
 exact UnaryOp_ (thn (ha pins s σ H _ I h) λv s1 ⟨x,H1,I1,r1,q1⟩=>ho pins s1 σ H1 x v Q I1 r1 q1)
theorem opI{f:Value->Value->Sem Value}{C:Int->Int->Prop}{g:Int->Int->Int}
  (rule:∀(i j:Int)(t u:Tok)(s:Shared)(Q:Value->Shared->Prop)(E:Value->Shared->Prop),C i j->Q (.int (g i j) s.toks) {s with toks:=s.toks+1}->wpAny (model X.prog X.w) X.A (f (.int i t) (.int j u)) Q E s) :
  OpR X f (rI C λi j=>.int (g i j)):=by
 intro pins s σ H x y v u Q I rx ry h
 obtain⟨i,j,rfl,rfl,hc,q⟩:=h
 obtain⟨t,rfl⟩:=rx
 obtain⟨t',rfl⟩:=ry
 exact rule i j t t' s _ _ hc ⟨.int (g i j),H,I.tok _,⟨_,rfl⟩,q⟩
theorem awt{f:Value->Value->Sem Value}{g:Int->Int->Int}
  (rule:∀(i j:Int)(t u:Tok)(s:Shared)(Q:Value->Shared->Prop)(E:Value->Shared->Prop),Q (.int (g i j) s.toks) {s with toks:=s.toks+1}->wpAny (model X.prog X.w) X.A (f (.int i t) (.int j u)) Q E s) :
  OpR X f (rI0 λi j=>.int (g i j)):=by
 intro pins s σ H x y v u Q I rx ry h
 obtain⟨i,j,rfl,rfl,q⟩:=h
 obtain⟨t,rfl⟩:=rx
 obtain⟨t',rfl⟩:=ry
 exact rule i j t t' s _ _ ⟨.int (g i j),H,I.tok _,⟨_,rfl⟩,q⟩
theorem atx{f:Value->Value->Sem Value}{g:Int->Int->Bool}
  (rule:∀(i j:Int)(t u:Tok)(s:Shared)(Q:Value->Shared->Prop)(E:Value->Shared->Prop),Q (.bool (g i j)) s->wpAny (model X.prog X.w) X.A (f (.int i t) (.int j u)) Q E s) :
  OpR X f (rI0 λi j=>.bl (g i j)):=by
 intro pins s σ H x y v u Q I rx ry h
 obtain⟨i,j,rfl,rfl,q⟩:=h
 obtain⟨t,rfl⟩:=rx
 obtain⟨t',rfl⟩:=ry
 exact rule i j t t' s _ _ ⟨.bl (g i j),H,I,rfl,q⟩
def aw9(i j:Int):Prop:=0<j/\j<1073741824
def axe(i j:Int):Prop:=0<=j/\j<=1000000/\i.natAbs<2^64
def CMul(i j:Int):Prop:=(-(2^64)<i/\i<2^64)\/(-(2^64)<j/\j<2^64)
theorem CMul.ok{i j:Int}(h:CMul i j):IntMulOk i j:=by
 rcases h with ⟨h1,h2⟩|⟨h1,h2⟩
 .exact .of_left (intBits_le_64 h1 h2)
 .exact .of_right (intBits_le_64 h1 h2)
theorem qg:OpR X (binaryOp .Add) (rI0 λi j=>.int (i+j)):=awt λ_ _ _ _ _ _ _ q=>add_int q
theorem u6:OpR X (binaryOp .Sub) (rI0 λi j=>.int (i-j)):=awt λ_ _ _ _ _ _ _ q=>sub_int q
theorem amv:OpR X (binaryOp .Mult) (rI CMul λi j=>.int (i*j)):=opI λ_ _ _ _ _ _ _ hc q=>mul_int q hc.ok
theorem afi:OpR X (binaryOp .FloorDiv) (rI aw9 λi j=>.int (i/j)):=opI λi j _ _ _ _ _ hc q=>by
 have h1:(0:Int)<j:=hc.1
 have h2:j<1073741824:=hc.2
 exact floordiv_int (by omega) (by rw[Int.fdiv_eq_ediv_of_nonneg i (by omega)];exact q) (.inl (PyProof.noPylong_small (by omega)))
theorem yz:OpR X (binaryOp .Mod) (rI (λ_ j=>0<j) λi j=>.int (i % j)):=opI λi j _ _ _ _ _ hc q=>by
 have h1:(0:Int)<j:=hc
 exact mod_int' (by omega) (by rw[Int.fmod_eq_emod_of_nonneg i (by omega)];exact q)
theorem akc:OpR X (binaryOp .Pow) (rI axe λi j=>.int (i^j.toNat)):=opI λ_ _ _ _ _ _ _ hc q=>pow_int_small hc.1 hc.2.1 hc.2.2 q
theorem unI{f:Value->Sem Value}{g:Int->Int}
  (rule:∀(i:Int)(t:Tok)(s:Shared)(Q:Value->Shared->Prop)(E:Value->Shared->Prop),Q (.int (g i) s.toks) {s with toks:=s.toks+1}->wpAny (model X.prog X.w) X.A (f (.int i t)) Q E s) :
  UnR X f (rU λi=>.int (g i)):=by
 intro pins s σ H x v Q I rx h
 obtain⟨i,rfl,q⟩:=h
 obtain⟨t,rfl⟩:=rx
 exact rule i t s _ _ ⟨.int (g i),H,I.tok _,⟨_,rfl⟩,q⟩
theorem aiv:UnR X (unaryOp .USub) (rU λi=>.int (-i)):=unI λ_ _ _ _ _ q=>neg_int q
end
noncomputable def aww:V->V->Bool
 | .non,.non=>true|.non,.int _=>true|.int _,.non=>true|.non,.bl _=>true|.bl _,.non=>true|.non,.str _=>true|.str _,.non=>true
 | .int _,.int _=>true|.bl _,.bl _=>true|.str _,.str _=>true|.byt _,.byt _=>true
 | .int _,.str _=>true|.str _,.int _=>true|.bl _,.str _=>true|.str _,.bl _=>true
 | _,_=>false
def rEq:R2:=λx y H Q=>aww x y=true/\Q (.bl (decide (x=y))) H
def rNe:R2:=λx y H Q=>aww x y=true/\Q (.bl (!decide (x=y))) H
theorem ajk{i j:Int}:decide (V.int i=V.int j)=(i==j):=by
 rw[ig]
 simp
theorem am6{i j:Bool}:decide (V.bl i=V.bl j)=(i==j):=by
 rw[ig]
 simp
theorem vd{i j:Str}:decide (V.str i=V.str j)=(i==j):=by
 rw[ig]
 simp
theorem akz{i j:Array UInt8}:decide (V.byt i=V.byt j)=(i.toList==j.toList):=by
 rw[ig]
 cases i
 cases j
 simp
section
variable{X:Cx}{a b c:Expr}{ta tb tc:TE}{pos:Pos}
theorem oy{pins:List (Addr×Obj)}{σ:St}{H:Hp}{s:Shared}{Q:VK}{k k':Bool}(I:Inv X pins σ H s)(q:Q (.bl k) H)(e:k=k'):EP X pins σ Q (.bool k') s:=by
 subst e
 exact⟨.bl k,H,I,rfl,q⟩
theorem zh:OpR X (compareOp .Eq) rEq:=by
 intro pins s σ H x y v u Q I rx ry h
 obtain⟨hs,q⟩:=h
 cases x with
 | non=>
  cases rx
  cases y with
  | non=>cases ry;exact PySem.EqNone.eq_none_none (oy I q (by simp))
  | bl j=>cases ry;exact PySem.EqNone.eq_none_bool (oy I q (by simp))
  | int j=>obtain⟨t',rfl⟩:=ry;exact PySem.EqNone.eq_none_int (oy I q (by simp))
  | str j=>obtain⟨t',rfl⟩:=ry;exact PySem.EqNone.eq_none_str (oy I q (by simp))
  | _=>exact absurd (show false=true from hs) aj
 | bl i=>
  cases rx
  cases y with
  | non=>cases ry;exact PySem.EqNone.eq_bool_none (oy I q (by simp))
  | bl j=>cases ry;exact eq_bool (oy I q am6)
  | str j=>obtain⟨t',rfl⟩:=ry;exact PySem.EqMixed.eq_bool_str (oy I q (by simp))
  | _=>exact absurd (show false=true from hs) aj
 | int i=>
  obtain⟨t,rfl⟩:=rx
  cases y with
  | non=>cases ry;exact PySem.EqNone.eq_int_none (oy I q (by simp))
  | int j=>obtain⟨t',rfl⟩:=ry;exact eq_int (oy I q ajk)
  | str j=>obtain⟨t',rfl⟩:=ry;exact PySem.EqMixed.eq_int_str (oy I q (by simp))
  | _=>exact absurd (show false=true from hs) aj
 | str i=>
  obtain⟨t,rfl⟩:=rx
  cases y with
  | non=>cases ry;exact PySem.EqNone.eq_str_none (oy I q (by simp))
  | bl j=>cases ry;exact PySem.EqMixed.eq_str_bool (oy I q (by simp))
  | int j=>obtain⟨t',rfl⟩:=ry;exact PySem.EqMixed.eq_str_int (oy I q (by simp))
  | str j=>obtain⟨t',rfl⟩:=ry;exact eq_str (oy I q vd)
  | _=>exact absurd (show false=true from hs) aj
 | byt i=>
  obtain⟨t,rfl⟩:=rx
  cases y with
  | byt j=>obtain⟨t',rfl⟩:=ry;exact PySem.W.eq_bytes (oy I q akz)
  | _=>exact absurd (show false=true from hs) aj
 | _=>cases y<;>exact absurd (show false=true from hs) aj
theorem afh:OpR X (compareOp .NotEq) rNe:=by
 intro pins s σ H x y v u Q I rx ry h
 obtain⟨hs,q⟩:=h
 cases x with
 | non=>
  cases rx
  cases y with
  | non=>cases ry;exact PySem.EqNone.ne_none_none (oy I q (by simp))
  | bl j=>cases ry;exact PySem.EqNone.ne_none_bool (oy I q (by simp))
  | int j=>obtain⟨t',rfl⟩:=ry;exact PySem.EqNone.ne_none_int (oy I q (by simp))
  | str j=>obtain⟨t',rfl⟩:=ry;exact PySem.EqNone.ne_none_str (oy I q (by simp))
  | _=>exact absurd (show false=true from hs) aj
 | bl i=>
  cases rx
  cases y with
  | non=>cases ry;exact PySem.EqNone.ne_bool_none (oy I q (by simp))
  | bl j=>cases ry;exact ne_bool (oy I q (congrArg not am6))
  | str j=>obtain⟨t',rfl⟩:=ry;exact PySem.EqMixed.ne_bool_str (oy I q (by simp))
  | _=>exact absurd (show false=true from hs) aj
 | int i=>
  obtain⟨t,rfl⟩:=rx
  cases y with
  | non=>cases ry;exact PySem.EqNone.ne_int_none (oy I q (by simp))
  | int j=>obtain⟨t',rfl⟩:=ry;exact ne_int (oy I q (congrArg not ajk))
  | str j=>obtain⟨t',rfl⟩:=ry;exact PySem.EqMixed.ne_int_str (oy I q (by simp))
  | _=>exact absurd (show false=true from hs) aj
 | str i=>
  obtain⟨t,rfl⟩:=rx
  cases y with
  | non=>cases ry;exact PySem.EqNone.ne_str_none (oy I q (by simp))
  | bl j=>cases ry;exact PySem.EqMixed.ne_str_bool (oy I q (by simp))
  | int j=>obtain⟨t',rfl⟩:=ry;exact PySem.EqMixed.ne_str_int (oy I q (by simp))
  | str j=>obtain⟨t',rfl⟩:=ry;exact ne_str (oy I q (congrArg not vd))
  | _=>exact absurd (show false=true from hs) aj
 | byt i=>
  obtain⟨t,rfl⟩:=rx
  cases y with
  | byt j=>obtain⟨t',rfl⟩:=ry;exact PySem.W.ne_bytes (oy I q (congrArg not akz))
  | _=>exact absurd (show false=true from hs) aj
 | _=>cases y<;>exact absurd (show false=true from hs) aj
theorem as4:OpR X (compareOp .Lt) (rI0 λi j=>.bl (decide (i<j))):=atx λ_ _ _ _ _ _ _ q=>lt_int q
theorem aqb:OpR X (compareOp .LtE) (rI0 λi j=>.bl (decide (i<=j))):=atx λ_ _ _ _ _ _ _ q=>le_int q
theorem alw:OpR X (compareOp .Gt) (rI0 λi j=>.bl (decide (j<i))):=atx λ_ _ _ _ _ _ _ q=>gt_int q
theorem ar5:OpR X (compareOp .GtE) (rI0 λi j=>.bl (decide (j<=i))):=atx λ_ _ _ _ _ _ _ q=>ge_int q
theorem acq:OpR X (compareOp .Is) (λx y H Q=>y=.non/\Q (.bl (decide (x=.non))) H):=by
 intro pins s σ H x y v u Q I rx ry h
 obtain⟨rfl,q⟩:=h
 cases ry
 refine is_none_gen (oy I q ?_)
 cases x<;>first
  | (cases rx;rfl)
  | (obtain⟨t,rfl⟩:=rx;rfl)
theorem ai0:OpR X (compareOp .IsNot) (λx y H Q=>y=.non/\Q (.bl (!decide (x=.non))) H):=by
 intro pins s σ H x y v u Q I rx ry h
 obtain⟨rfl,q⟩:=h
 cases ry
 refine isnot_none_gen (oy I q ?_)
 cases x<;>first
  | (cases rx;rfl)
  | (obtain⟨t,rfl⟩:=rx;rfl)
theorem adx:OpR X (compareOp .NotIn) (λx y H Q=>∃i j,x=.str i/\y=.str j/\Q (.bl (!(!(Builtin.Str.occurrences j i 0 j.length 1).isEmpty))) H):=by
 intro pins s σ H x y v u Q I rx ry h
 obtain⟨i,j,rfl,rfl,q⟩:=h
 obtain⟨t,rfl⟩:=rx
 obtain⟨t',rfl⟩:=ry
 exact notIn_str (oy I q rfl)
theorem oz(b:Expr){op:CmpOp}(h:op≠.In:=by decide)(h2:op≠.NotIn:=by decide):behindInMarks op b=false:=by
 have e1:(op==CmpOp.In)=false:=by cases op<;>first|rfl|exact absurd rfl h
 have e2:(op==CmpOp.NotIn)=false:=by cases op<;>first|rfl|exact absurd rfl h2
 cases b<;>simp[behindInMarks,e1,e2]
theorem qz{op:CmpOp}{r:R2}(ho:OpR X (compareOp op) r)(ha:PE X a ta)(hb:PE X b tb)(hm:behindInMarks op b=false):PE X (.Compare a [op] [b] pos) (tOp r ta tb):=by
 intro pins s σ H Q I h
 exact wpAny_Compare1 (av9 ha hb I h λv u s2 x y H2 I2 rx ry q=>ho pins s2 σ H2 x y v u Q I2 rx ry q) hm
def arw(t:TE):TT:=λσ H Q=>t σ H λx H'=>∃k,x=.bl k/\Q k H'
theorem oo{op:CmpOp}{r:R2}(ho:OpR X (compareOp op) r)(ha:PE X a ta)(hb:PE X b tb)(hm:behindInMarks op b=false):PT X (.Compare a [op] [b] pos) (arw (tOp r ta tb)):=by
 intro pins s σ H Q I h
 refine wpAny_isTrue_Compare1 (thn (ha pins s σ H _ I h) λv s1 ⟨x,H1,I1,r1,q1⟩=>thn (hb pins s1 σ H1 _ I1 q1) λu s2 ⟨y,H2,I2,r2,q2⟩=>
  thn (ho pins s2 σ H2 x y v u _ I2 r1 r2 q2) λc s3 ⟨z,H3,I3,r3,k,e,q3⟩=>?_) hm
 subst e
 cases r3
 exact fy ⟨H3,I3,q3⟩
def amy(r r':R2)(ta tb tc:TE):TE:=λσ H Q=>ta σ H λx H1=>tb σ H1 λy H2=>r x y H2 λz H3=>∃k,z=.bl k/\
 (if k=true then tc σ H3 λw' H4=>r' y w' H4 Q else Q (.bl false) H3)
theorem agf{op op':CmpOp}{r r':R2}(ho:OpR X (compareOp op) r)(ho':OpR X (compareOp op') r')(ha:PE X a ta)(hb:PE X b tb)(hc:PE X c tc)
  (hm:lastMarks [op,op'] [b,c]=false:=by with_unfolding_all rfl):PE X (.Compare a [op,op'] [b,c] pos) (amy r r' ta tb tc):=by
 intro pins s σ H Q I h
 refine Compare_chain (thn (ha pins s σ H _ I h) λv s1 ⟨x,H1,I1,r1,q1⟩=>chain_link (thn (hb pins s1 σ H1 _ I1 q1) λu s2 ⟨y,H2,I2,r2,q2⟩=>
  thn (ho pins s2 σ H2 x y v u _ I2 r1 r2 q2) λd s3 ⟨z,H3,I3,r3,k,e,q3⟩=>?_)) hm
 subst e
 cases r3
 refine fy ?_
 cases k with
 | false=>exact ite_ff ⟨.bl false,H3,I3,rfl,q3⟩
 | true=>exact ite_tt (chain_last (thn (hc pins s3 σ H3 _ I3 q3) λw' s4 ⟨z',H4,I4,r4,q4⟩=>ho' pins s4 σ H4 y z' u w' Q I4 r2 r4 q4))
theorem agh{op op':CmpOp}{r r':R2}(ho:OpR X (compareOp op) r)(ho':OpR X (compareOp op') r')(ha:PE X a ta)(hb:PE X b tb)(hc:PE X c tc)
  (hm:lastMarks [op,op'] [b,c]=false:=by with_unfolding_all rfl):PT X (.Compare a [op,op'] [b,c] pos) (arw (amy r r' ta tb tc)):=by
 intro pins s σ H Q I h
 refine isTrue_chain (thn (ha pins s σ H _ I h) λv s1 ⟨x,H1,I1,r1,q1⟩=>test_link (thn (hb pins s1 σ H1 _ I1 q1) λu s2 ⟨y,H2,I2,r2,q2⟩=>
  thn (ho pins s2 σ H2 x y v u _ I2 r1 r2 q2) λd s3 ⟨z,H3,I3,r3,k,e,q3⟩=>?_)) hm
 subst e
 cases r3
 refine fy ?_
 cases k with
 | false=>
  obtain⟨k',e',q'⟩:=q3
  cases e'
  exact ite_ff ⟨H3,I3,q'⟩
 | true=>
  refine ite_tt (test_last (thn (hc pins s3 σ H3 _ I3 q3) λw' s4 ⟨z',H4,I4,r4,q4⟩=>thn (ho' pins s4 σ H4 y z' u w' _ I4 r2 r4 q4) λd' s5 ⟨z2,H5,I5,r5,k2,e2,q5⟩=>?_))
  subst e2
  cases r5
  exact fy ⟨H5,I5,q5⟩
theorem aa2:(sizeLine:Nat)<2^63:=by rw[io];decide
theorem ag9:OpR X (binaryOp .Add) (λx y H Q=>∃i j,x=.str i/\y=.str j/\i.length+j.length<=sizeLine/\Q (.str (i++j)) H):=by
 intro pins s σ H x y v u Q I rx ry h
 obtain⟨i,j,rfl,rfl,hz,q⟩:=h
 obtain⟨t,rfl⟩:=rx
 obtain⟨t',rfl⟩:=ry
 exact add_str (λt' tk=>⟨.str (i++j),H,I.tok _,⟨_,rfl⟩,q⟩) hz
theorem sy{x:V}{us:List Value}(r:Vals [x] us):∃u,us=[u]/\RelV x u:=by
 cases r with
 | cons r1 r2=>cases r2;exact⟨_,rfl,r1⟩
theorem aqp{x y:V}{us:List Value}(r:Vals [x,y] us):∃u w',us=[u,w']/\RelV x u/\RelV y w':=by
 cases r with
 | cons r1 r2=>
  cases r2 with
  | cons r3 r4=>cases r4;exact⟨_,_,rfl,r1,r3⟩
theorem acw(hc:X.calm=true):sw X (.builtin "min") (λxs H Q=>∃i j,xs=[.int i,.int j]/\Q (.int (if j<i then j else i)) H):=by
 intro pins s σ H xs us Q I r h
 obtain⟨i,j,rfl,q⟩:=h
 obtain⟨u,w',rfl,⟨t,rfl⟩,⟨t',rfl⟩⟩:=aqp r
 refine min_two_ints (I.ok.hd hc) λh' tk k=>⟨_,H,I.kept k,?_,q⟩
 by_cases hj:j<i
 .rw[if_pos hj,if_pos hj];exact⟨_,rfl⟩
 .rw[if_neg hj,if_neg hj];exact⟨_,rfl⟩
theorem aju:sw X (.type "int") (λxs H Q=>(∃i,xs=[.int i]/\Q (.int i) H)\/∃k,xs=[.bl k]/\Q (.int (if k then 1 else 0)) H):=by
 intro pins s σ H xs us Q I r h
 rcases h with ⟨i,rfl,q⟩|⟨k,rfl,q⟩
 .obtain⟨u,rfl,t,rfl⟩:=sy r
  exact call_int_int ⟨.int i,H,I,⟨_,rfl⟩,q⟩
 .obtain⟨u,rfl,r1⟩:=sy r
  cases r1
  exact call_int_bool ⟨.int (if k then 1 else 0),H,I.tok _,⟨_,rfl⟩,q⟩
end
end L2
namespace L2
open PySem PySem.Spec PyProof.Rows
structure ObjM(h:Heap)(x dx C:Addr)(mA:Str->Option Value):Prop where
 obj:h.get? x=some (jw C dx)
 ns:h.Ns1 dx mA
 ne:dx≠x
theorem aj7{h:Heap}{dx:Addr}{mA:Str->Option Value}(n:h.Ns1 dx mA):∃od,h.get? dx=some od/\∀name,PySem.W.lookIn name od=some (mA name):=by
 obtain⟨o,es,ep,ho,hd,hk,_,hm⟩:=n
 refine⟨o,ho,λname=>?_⟩
 have e:=hm name
 unfold nsFind findBy at e
 rw[<-Array.find?_toList]at e
 unfold PySem.W.lookIn
 rw[hd]
 dsimp only
 split
 .rename_i y q
  rw[q]at e
  exact congrArg some e
 .rename_i q
  rw[q]at e
  have a:es.toList.any (·.refKey)=false:=by
   rw[List.any_eq_false]
   intro y hy
   obtain⟨z,t,hkey⟩:=hk y (Array.mem_toList_iff.mp hy)
   simp[DictEntry.refKey,hkey]
  have a':¬es.toList.any (·.refKey)=true:=by rw[a];exact aj
  rw[if_neg a']
  exact congrArg some e
theorem ObjM.look{h:Heap}{x dx C:Addr}{mA:Str->Option Value}(I:ObjM h x dx C mA):∃od,PySem.W.InstAt h x (jw C dx) C (some od)/\∀name,PySem.W.lookIn name od=some (mA name):=
 let ⟨od,ho,hl⟩:=aj7 I.ns
 ⟨od,⟨I.obj,rfl,rfl,ho⟩,hl⟩
section
variable{prog:Program}{w:World}{A:Around}{E:Value->Shared->Prop}{s:Shared}{K:ai}{x dx C f:Addr}{mA:Str->Option Value}{name:Str}{v:Value}
theorem an2{expr:Bool}{Q:Value->Shared->Prop}(X:K.In s.heap)(I:ObjM s.heap x dx C mA)(hg:PySem.W.plainGet K C name=true)(hh:PySem.W.hasDictIn K C=true)
  (ha:gj K (.ref C) name=some none) (hv:mA name=some v) (hv':PySem.W.handedIn v=true) (h:Q v {s with toks:=s.toks+1}) :
  wpAny (model prog w) A (getAttr (.ref x) name expr) Q E s:=by
 obtain⟨od,J,hl⟩:=I.look
 exact PySem.W.get_value X J (PySem.W.plainGet_of hg).1 (PySem.W.findObj_own hh ha rfl (by rw[hl,hv])) hv' h
theorem aow{ns:List Str}{Q:Unit->Shared->Prop}(X:K.In s.heap)(I:ObjM s.heap x dx C mA)
  (hs:gj K (.ref C) "__setattr__" = some (some (.builtin "object.__setattr__"))) (hp:PySem.W.plainOver K C=true) (ht:PySem.W.takerIn K C name=some none) (hh:PySem.W.hasDictIn K C=true)
  (hw:PySem.Within mA ns) (hsz:ns.length<=sizeLine)
  (h:∀h',ObjM h' x dx C (λy=>if y=name then some v else mA y)->bw dx s.heap h'->Q () {s with heap:=h',toks:=s.toks+2}) :
  wpAny (model prog w) A (setAttr (.ref x) name v) Q E s:=by
 obtain⟨od,J,hl⟩:=I.look
 refine PySem.W.set_plain X J hs (PySem.W.osa_open (s:={s with toks:=s.toks+1}) (r:=none) X J hp ht λb=>?_)
 obtain⟨cd,hc,hd'⟩:=PySem.W.any_some hh
 have hx:s.heap.get? x=some ⟨.ref C,some dx,.plain,#[]⟩:=I.obj
 refine aa (af (aa (aa (wpAny_loadPart hx (aa (PySem.W.Looks.here (s:={s with toks:=s.toks+1}) (PySem.W.looks_clsIn X hc) ?_))))))
 rw[hd']
 refine af (a:=some dx) (aa (af (aa ?_)))
 refine wpAny_nsSet1 (s:={s with toks:=s.toks+1}) I.ns λh' hn2 hs2=>?_
 obtain⟨oD,esD,epD,hoD,hdD,hcD⟩:=hn2.count (PySem.Within.cons name v hw)
 refine aa (wpAny_lookBehind hoD (by rw[hdD];exact pastItsLine_dict (db hcD (by rw[b8];omega))) ?_)
 exact af (h _ ⟨(hs2.2 _ (Ne.symm I.ne)).trans I.obj,hn2,I.ne⟩ hs2)
theorem amm{R:Result->Shared->Prop}{vs:List Value}{kw:List (Str×Value)}(X:K.In s.heap)(hm:PySem.W.makesIn K C=true)
  (hi:gj K (.ref C) "__init__" = some (some (.ref f))) (hf:PySem.W.typeIn K (.ref f)=some (.type "function"))
  (h:codeAny (model prog w) (A.under (.builtin "type.__call__" ⟨.ref C::vs,kw⟩)) (.call (.ref f) ⟨.ref (s.heap.objs.size+1)::vs,kw⟩) (PySem.W.InitBack (s.heap.objs.size+1) R)
   {s with heap:=(s.heap.push ip).push (jw C s.heap.objs.size)}) :
  codeAny (model prog w) A (.call (.ref C) ⟨vs,kw⟩) R s:=by
 obtain⟨hh,g,d,t,os⟩:=s
 exact PySem.W.make_core (PySem.W.makes_of X hm) (PySem.W.looks_findIn X hi) (λself=>PySem.W.bind_fn X self hf) (.inl rfl) h
end
noncomputable def ad9(f:Str)(v:V):List (Str×V)->List (Str×V)
 | []=>[(f,v)]
 | (g,x)::r=>if g=f then(g,v)::r else(g,x)::ad9 f v r
theorem yq(f g:Str)(v:V):∀fs:List (Str×V),(ad9 f v fs).lookup g=if g=f then some v else fs.lookup g
 | []=>by
  show List.lookup g [(f,v)]=_
  by_cases h:g=f
  .have hb:(g==f)=true:=beq_iff_eq.mpr h
   simp only[List.lookup,hb,if_pos h]
  .have hb:(g==f)=false:=beq_eq_false_iff_ne.mpr h
   simp only[List.lookup,hb,if_neg h]
 | (k,x)::r=>by
  have ih:=yq f g v r
  rw[show ad9 f v ((k,x)::r)=(if k=f then(k,v)::r else(k,x)::ad9 f v r)from rfl]
  by_cases hk:k=f
  .rw[if_pos hk]
   by_cases h:g=k
   .have hb:(g==k)=true:=beq_iff_eq.mpr h
    simp only[List.lookup,hb,if_pos (h.trans hk)]
   .have hb:(g==k)=false:=beq_eq_false_iff_ne.mpr h
    simp only[List.lookup,hb,if_neg (λe:g=f=>h (e.trans hk.symm))]
  .rw[if_neg hk]
   by_cases h:g=k
   .have hb:(g==k)=true:=beq_iff_eq.mpr h
    simp only[List.lookup,hb,if_neg (λe:g=f=>hk (h.symm.trans e))]
   .have hb:(g==k)=false:=beq_eq_false_iff_ne.mpr h
    simp only[List.lookup,hb]
    exact ih
theorem ze(f:Str)(v:V):∀fs:List (Str×V),f∈(ad9 f v fs).map (·.1)/\∀g,g∈fs.map (·.1)->g∈(ad9 f v fs).map (·.1)
 | []=>⟨by simp[ad9],λg h=>by simp at h⟩
 | (k,x)::r=>by
  obtain⟨i1,i2⟩:=ze f v r
  rw[show ad9 f v ((k,x)::r)=(if k=f then(k,v)::r else(k,x)::ad9 f v r)from rfl]
  by_cases hk:k=f
  .rw[if_pos hk]
   subst hk
   exact⟨by simp,λg h=>by simpa using h⟩
  .rw[if_neg hk]
   refine⟨?_,λg h=>?_⟩
   .rw[c5]
    exact bf _ i1
   .rw[c5]at h⊢
    rcases bq.mp h with e|e
    .exact bq.mpr (.inl e)
    .exact bf _ (i2 g e)
theorem zx(f:Str)(v:V):∀fs:List (Str×V),(ad9 f v fs).length<=fs.length+1
 | []=>by simp[ad9]
 | (k,x)::r=>by
  have ih:=zx f v r
  rw[show ad9 f v ((k,x)::r)=(if k=f then(k,v)::r else(k,x)::ad9 f v r)from rfl]
  by_cases hk:k=f
  .rw[if_pos hk,b8,b8];omega
  .rw[if_neg hk,b8,b8];omega
theorem RelO.some_of{v:V}{o:Option Value}(r:RelO (some v) o):∃u,o=some u/\RelV v u:=by
 cases o with
 | none=>exact(show False from r).elim
 | some u=>exact⟨u,rfl,r⟩
theorem akp{v:V}{u:Value}(r:RelV v u):PySem.W.handedIn u=true:=by
 cases v with
 | non=>cases (show u=Value.none from r);rfl
 | bl b=>cases (show u=Value.bool b from r);rfl
 | int i=>obtain⟨t,e⟩:=(show ∃t,u=Value.int i t from r);cases e;rfl
 | str x=>obtain⟨t,e⟩:=(show ∃t,u=Value.str x t from r);cases e;rfl
 | byt b=>obtain⟨t,e⟩:=(show ∃t,u=Value.bytes b t from r);cases e;rfl
 | flt b=>obtain⟨t,e⟩:=(show ∃t,u=Value.float b t from r);cases e;rfl
 | ref a=>cases (show u=Value.ref a from r);rfl
 | ty n=>cases (show u=Value.type n from r);rfl
section
variable{P:Program}{w:World}{H H':Hp}{h h':Heap}{a C dx:Addr}{fs fs':List (Str×V)}
theorem aev(hok:HOk P w H h)(e:H a=some (.ins C dx fs)):∃mA,ObjM h a dx C mA/\(∀f,RelO (fs.lookup f) (mA f))/\PySem.Within mA (fs.map (·.1))/\fs.length<=1000/\H dx=some (.own a):=by
 obtain⟨d,z,ne,ob,mA,n,r,q⟩:=(show ObjOk P w H h a (.ins C dx fs)from hok a _ e)
 exact⟨mA,⟨ob,n,ne⟩,r,q,z,d⟩
end
structure Cls(K:ai)(C:Addr):Prop where
 pg:PySem.W.plainGet K C Str.empty=true
 hd:PySem.W.hasDictIn K C=true
 po:PySem.W.plainOver K C=true
 sa:gj K (.ref C) "__setattr__" = some (some (.builtin "object.__setattr__"))
theorem Cls.get{K:ai}{C:Addr}(c:Cls K C)(f:Str):PySem.W.plainGet K C f=true:=c.pg
def NoAttr(K:ai)(C:Addr)(f:Str):Prop:=gj K (.ref C) f=some none
theorem NoAttr.taker{K:ai}{C:Addr}{f:Str}(n:NoAttr K C f):PySem.W.takerIn K C f=some none:=by
 unfold PySem.W.takerIn
 rw[show gj K (.ref C) f=some none from n]
 rfl
section
variable{X:Cx}{pins:List (Addr×Obj)}{σ:St}{H:Hp}{s:Shared}{a C dx:Addr}{fs:List (Str×V)}{f:Str}{v:V}{A:Around}{E:Value->Shared->Prop}
theorem ahq{b:Bool}{Q:Value->Shared->Prop}(I:Inv X pins σ H s)(e:H a=some (.ins C dx fs))(c:Cls X.K C)(n:NoAttr X.K C f)(l:fs.lookup f=some v)
  (h:∀u s',Inv X pins σ H s'->RelV v u->Q u s'):wpAny (model X.prog X.w) A (getAttr (.ref a) f b) Q E s:=by
 obtain⟨mA,O,r,_,_,_⟩:=aev I.hok e
 obtain⟨u,hu,ru⟩:=RelO.some_of (v:=v) (o:=mA f) (by rw[<-l];exact r f)
 exact an2 I.kIn O (c.get f) c.hd n hu (akp ru) (h u _ (I.tok _) ru)
theorem ahn{y:V}{u:Value}{Q:Unit->Shared->Prop}(I:Inv X pins σ H s)(e:H a=some (.ins C dx fs))(c:Cls X.K C)(n:NoAttr X.K C f)(hl:fs.length<1000)(ry:RelV y u)
  (h:∀s',Inv X pins σ (upd H a (.ins C dx (ad9 f y fs))) s'->Q () s'):wpAny (model X.prog X.w) A (setAttr (.ref a) f u) Q E s:=by
 obtain⟨mA,O,r,wi,_,ho⟩:=aev I.hok e
 have hz:(fs.map (·.1)).length<=sizeLine:=by rw[ah,io];omega
 refine aow I.kIn O c.sa c.po n.taker c.hd wi hz λh' O' sb=>h _ ?_
 have hd:∃o,h'.get? dx=some o:=let ⟨o,_,_,e',_⟩:=O'.ns;⟨o,e'⟩
 refine I.write (x:=a) (e:=dx) (by rw[e];exact True.intro) (.inr ho) (λb q hb z=>(sb.2 b hb).trans z) hd ?_
 refine⟨by rw[nj O.ne];exact ho,?_,O.ne,O'.obj,_,O'.ns,λg=>?_,λg hg=>?_⟩
 .have:=zx f y fs;omega
 .show RelO ((ad9 f y fs).lookup g) (if g=f then some u else mA g)
  rw[yq]
  by_cases q:g=f
  .rw[if_pos q,if_pos q];exact ry
  .rw[if_neg q,if_neg q];exact r g
 .by_cases q:g=f
  .rw[q];exact(ze f y fs).1
  .refine(ze f y fs).2 g (wi g λz=>hg ?_)
   show(if g=f then some u else mA g)=none
   rw[if_neg q];exact z
theorem Inv.made(I:Inv X pins σ H s):Inv X pins σ (upd (upd H s.heap.objs.size (.own (s.heap.objs.size+1))) (s.heap.objs.size+1) (.ins C s.heap.objs.size []))
  {s with heap:=(s.heap.push ip).push (jw C s.heap.objs.size)}:=by
 have e1:(s.heap.push ip).get? s.heap.objs.size=some ip:=av s.heap rfl
 have e2:((s.heap.push ip).push (jw C s.heap.objs.size)).get? (s.heap.objs.size+1)=some (jw C s.heap.objs.size):=by
  have:=av (s.heap.push ip) (o:=jw C s.heap.objs.size) rfl
  rwa [k9]at this
 have e3:(s.heap.push ip).Ns s.heap.objs.size (λ_=>none):=⟨ip,#[],_,e1,rfl,(λe he=>absurd he (by simp)),λ_=>rfl⟩
 have I1:=I.laid (a:=s.heap.objs.size) (o:=.own (s.heap.objs.size+1)) (h':=s.heap.push ip) (t':=s.toks) (λb u q=>ak _ q) (am _) ⟨_,e1⟩
 refine I1.laid (a:=s.heap.objs.size+1) (o:=.ins C s.heap.objs.size []) (t':=s.toks) (λb u q=>ak _ q) (Nat.le_of_eq (k9 _ _)) ?_
 have ne:s.heap.objs.size≠s.heap.objs.size+1:=c9 (Nat.lt_succ_self _)
 refine⟨by rw[nj ne,mr],dq _,ne,e2,λ_=>none,(Heap.Ns1.of_empty e3).at λo q=>ak _ q,λ_=>True.intro,λy hy=>absurd rfl hy⟩
theorem aph{prog:Program}{w:World}{env:Env}{e:Expr}{f:Str}{pos:Pos}{s:Shared}{Q:Value->Shared->Prop}(hb:attributeBase e f env (eval e env)=eval e env)
  (h:wpAny (model prog w) A (eval e env) (λo s₁=>wpAny (model prog w) A (getAttr o f true) Q E s₁) E s):wpAny (model prog w) A (eval (.Attribute e f pos) env) Q E s:=
 Attribute_any_ h (by rw[arm_eval_Attribute,hb])
end
def awq(K:ai)(ta:TE)(f:Str):TE:=λσ H Q=>ta σ H λx H1=>∃a C dx fs v,x=.ref a/\H1 a=some (.ins C dx fs)/\Cls K C/\NoAttr K C f/\fs.lookup f=some v/\Q v H1
def aw6(K:ai)(ta tv:TE)(f:Str):TS:=λD σ H=>tv σ H λy H1=>ta σ H1 λx H2=>∃a C dx fs,x=.ref a/\H2 a=some (.ins C dx fs)/\Cls K C/\NoAttr K C f/\fs.length<1000/\
 D.nx σ (upd H2 a (.ins C dx (ad9 f y fs)))
section
variable{X:Cx}{o e value:Expr}{f:Str}{pos pos' tpos:Pos}{ta tv:TE}
theorem xm(he:PE X e ta)(hb:attributeBase e f X.env (eval e X.env)=eval e X.env):PE X (.Attribute e f pos) (awq X.K ta f):=by
 intro pins s σ H Q I h
 refine aph hb (thn (he pins s σ H _ I h) λu s1 ⟨x,H1,I1,rx,a,C,dx,fs,v,ex,ea,c,n,l,q⟩=>?_)
 subst ex
 obtain rfl:u=Value.ref a:=rx
 exact ahq I1 ea c n l λu' s2 I2 ru=>⟨v,H1,I2,ru,q⟩
theorem afy(ha:PE X o ta)(hv:PE X value tv)(hs:swapsWith value (some (.Attribute o f pos')) pos.line X.env=pure false):PS X (.Assign [.Attribute o f pos'] value pos) (aw6 X.K ta tv f):=by
 intro pins s σ H D I h
 refine plainObj_wpAny_Assign_Attribute (thn (hv pins s σ H _ I h) λu s1 ⟨y,H1,I1,ry,q⟩=>thn (ha pins s1 σ H1 _ I1 q) λov s2 ⟨x,H2,I2,rx,a,C,dx,fs,ex,ea,c,n,l,q2⟩=>?_) hs
 subst ex
 obtain rfl:ov=Value.ref a:=rx
 exact ahn I2 ea c n l ry λs3 I3=>⟨σ,_,I3,q2⟩
end
section
variable{X:Cx}{pins:List (Addr×Obj)}{σ:St}{H:Hp}{s:Shared}{A:Around}{E:Value->Shared->Prop}{Q:Value->Shared->Prop}{c:Value}{b:Bool}
inductive agw(K:ai)(H:Hp):V->Value->Prop where
 | non:agw K H .non (.type "NoneType")
 | bl (x:Bool):agw K H (.bl x) (.type "bool")
 | int (i:Int):agw K H (.int i) (.type "int")
 | str (x:Str):agw K H (.str x) (.type "str")
 | flt (x:UInt64):agw K H (.flt x) (.type "float")
 | lst {a:Addr} {xs:List V} (e:H a=some (.lst xs)):agw K H (.ref a) (.type "list")
 | frz {a:Addr} {o:Obj} {xs:List V} (e:H a=some (.frz o (.lst xs))):agw K H (.ref a) (.type "list")
 | tup {a:Addr} {xs:List V} (e:H a=some (.tup xs)):agw K H (.ref a) (.type "tuple")
 | dK {a:Addr} {kvs:List (Key×V)} (e:H a=some (.dK kvs)):agw K H (.ref a) (.type "dict")
 | dT {a:Addr} {kvs:List (List Key×V)} (e:H a=some (.dT kvs)):agw K H (.ref a) (.type "dict")
 | ins {a C dx:Addr} {fs:List (Str×V)} (e:H a=some (.ins C dx fs)) (cl:Cls K C) (ha:gj K (.ref C) "__class__" = some (some (.builtin "object.__class__")))
   (hn:PySem.W.specialIn K (.builtin "object.__class__") "__get__" = some (some (.builtin "getset_descriptor.__get__"))) (htk:PySem.W.takesIn K (.builtin "object.__class__")=some true)
   (hm:PySem.W.mroIn K C (.type "object")=some true):agw K H (.ref a) (.ref C)
theorem ai2{x:V}{u t:Value}(I:Inv X pins σ H s)(rx:RelV x u)(ty:agw X.K H x t)(e:PySem.W.kitOne X.K t c=some b)(h:∀tk,Q (.bool b) {s with toks:=tk}) :
  wpAny (model X.prog X.w) A (call (.builtin "isinstance") [u,c]) Q E s:=by
 cases ty with
 | non=>cases (show u=Value.none from rx);exact ii PySem.W.kitx_none I.kIn True.intro e (λz=>nomatch z) h
 | bl y=>cases (show u=Value.bool y from rx);exact ii PySem.W.kitx_bool I.kIn True.intro e (λz=>nomatch z) h
 | int i=>obtain⟨t,q⟩:=(show ∃t,u=Value.int i t from rx);cases q;exact ii PySem.W.kitx_int I.kIn True.intro e (λz=>nomatch z) h
 | str y=>obtain⟨t,q⟩:=(show ∃t,u=Value.str y t from rx);cases q;exact ii PySem.W.kitx_str I.kIn True.intro e (λz=>nomatch z) h
 | flt y=>obtain⟨t,q⟩:=(show ∃t,u=Value.float y t from rx);cases q;exact ii PySem.W.kitx_float I.kIn True.intro e (λz=>nomatch z) h
 | @lst a xs ea=>
  cases (show u=Value.ref a from rx)
  obtain⟨_,_,n,_,h1⟩:=(show ObjOk X.prog X.w H s.heap a (.lst xs)from I.hok a _ ea)
  exact ii PySem.W.kitx_list I.kIn ⟨_,h1,rfl⟩ e (λz=>nomatch z) h
 | @frz a ob xs ea=>
  cases (show u=Value.ref a from rx)
  obtain⟨_,_,_,n,_,h1⟩:=(show ObjOk X.prog X.w H s.heap a (.frz ob (.lst xs))from I.hok a _ ea)
  exact ii PySem.W.kitx_list I.kIn ⟨_,h1,rfl⟩ e (λz=>nomatch z) h
 | @tup a xs ea=>
  cases (show u=Value.ref a from rx)
  obtain⟨_,_,_,p⟩:=(show ObjOk X.prog X.w H s.heap a (.tup xs)from I.hok a _ ea)
  obtain⟨o,h1,h2,_⟩:=p
  exact ii PySem.W.kitx_tuple I.kIn ⟨o,h1,h2⟩ e (λz=>nomatch z) h
 | @dK a kvs ea=>
  cases (show u=Value.ref a from rx)
  obtain⟨_,_,vs,_,p⟩:=(show ObjOk X.prog X.w H s.heap a (.dK kvs)from I.hok a _ ea)
  obtain⟨o,es,ep,h1,h2,_⟩:=p
  exact ii PySem.W.kitx_dict I.kIn ⟨o,h1,h2.1⟩ e (λz=>nomatch z) h
 | @dT a kvs ea=>
  cases (show u=Value.ref a from rx)
  obtain⟨_,_,xs,_,o,es,ep,h1,h2,_⟩:=(show ObjOk X.prog X.w H s.heap a (.dT kvs)from I.hok a _ ea)
  exact ii PySem.W.kitx_dict I.kIn ⟨o,h1,h2.1⟩ e (λz=>nomatch z) h
 | @ins a C dx fs ea cl ha hn htk hm=>
  cases (show u=Value.ref a from rx)
  obtain⟨mA,O,_⟩:=aev I.hok ea
  obtain⟨od,J,_⟩:=O.look
  exact ii (PySem.W.kitx_own (cl.get _) cl.hd ha hn htk hm) I.kIn J e (λz=>nomatch z) h
end
end L2
namespace L2
open PySem PySem.Spec PyProof.Rows
structure Room(k:Nat)(A:Around):Prop where
 hd:A.handled=none
 dp:A.depth+3*k+5<recursionLimit
 un:A.units+16*k+200<cLine
theorem Room.mono{j k:Nat}{A:Around}(r:Room k A)(h:j<=k):Room j A:=⟨r.hd,by have:=r.dp;omega,by have:=r.un;omega⟩
theorem Room.deeper{k:Nat}{A:Around}(r:Room (k+1) A)(env:Env):Room k (A.deeper env):=
 ⟨r.hd,by have:=r.dp;show A.depth+1+3*k+5<_;omega,by have:=r.un;show A.units+3+16*k+200<_;omega⟩
theorem ahx{A:Around}{C:Addr}{us:List Value}{kw:List (Str×Value)}:(A.under (.builtin "type.__call__" ⟨.ref C::us,kw⟩)).depth=A.depth+1:=by
 first|rfl|simp[Around.under,Code.weight,Code.isCreation,Code.isGuard,Code.isCaller,Code.frames,Code.isFrame,guardIds]
theorem ahv{A:Around}{C:Addr}{us:List Value}{kw:List (Str×Value)}:(A.under (.builtin "type.__call__" ⟨.ref C::us,kw⟩)).units=A.units+1:=by
 first|rfl|simp[Around.under,Code.cUnits,Code.frames,Code.isFrame]
theorem Room.make{k:Nat}{A:Around}(r:Room (k+1) A)(C:Addr)(us:List Value)(kw:List (Str×Value)):Room k (A.under (.builtin "type.__call__" ⟨.ref C::us,kw⟩)):=
 ⟨r.hd,by have:=r.dp;rw[ahx];omega,by have:=r.un;rw[ahv];omega⟩
theorem Room.depth{k:Nat}{A:Around}(r:Room k A):A.depth<recursionLimit:=by have:=r.dp;omega
theorem Room.units{k:Nat}{A:Around}(r:Room k A):A.units+64<cLine:=by have:=r.un;omega
def ap2:TA:=λ_ H Q=>Q [] H
def vf(ta:TE)(tr:TA):TA:=λσ H Q=>ta σ H λx H1=>tr σ H1 λxs H2=>Q (x::xs) H2
section
variable{X:Cx}{e:Expr}{es:List Expr}{te:TE}{t:TA}{pos:Pos}
theorem lv:PA X [] ap2:=λ_ _ _ _ H Q I h=>Calls.spliced_nil ⟨[],H,I,.nil,h⟩
theorem aop(ha:PE X e te)(hr:PA X es t)(hs:starEach (e::es) X.env=(false,eval e X.env)::starEach es X.env:=by rfl):PA X (e::es) (vf te t):=by
 intro pos pins s σ H Q I h
 rw[hs]
 show wpAny _ _ (spliced ((false,eval e X.env)::backTo pos (starEach es X.env))) _ _ s
 refine Calls.spliced_cons (thn (ha pins s σ H _ I h) λu s1 ⟨x,H1,I1,r1,q1⟩=>?_)
 exact thn (hr pos pins s1 σ H1 _ I1 q1) λus s2 ⟨xs,H2,I2,r2,q2⟩=>⟨x::xs,H2,I2,.cons r1 r2,q2⟩
def ar4(t:TA):TE:=λσ H Q=>t σ H λxs H1=>xs.length<=sizeLine/\∀p,H1 p=none->Q (.ref p) (upd H1 p (.tup xs))
def aw4(t:TA):TE:=λσ H Q=>t σ H λxs H1=>xs.length<=sizeLine/\∀p,H1 p=none->Q (.ref p) (upd H1 p (.lst xs))
theorem ni{x1}(h:PA X es t):PE X (.Tuple es x1 pos) (ar4 t):=by
 intro pins s σ H Q I hq
 refine wpAny_Tuple_spliced (thn (h pos pins s σ H _ I hq) λus s1 ⟨xs,H1,I1,r,z,q⟩=>⟨by rw[<-r.length];exact z,?_⟩)
 have hf:H1 s1.heap.objs.size=none:=I1.hok.fresh (am _)
 refine⟨.ref s1.heap.objs.size,upd H1 s1.heap.objs.size (.tup xs),I1.laid (t':=s1.toks) (λb u e=>ak _ e) (am _) ?_,rfl,q _ hf⟩
 exact⟨z,us,r,⟨_,av _ rfl,rfl,_,rfl⟩⟩
theorem ph(h:PA X es t):PE X (.List es pos) (aw4 t):=by
 intro pins s σ H Q I hq
 refine wpAny_List_spliced (thn (h pos pins s σ H _ I hq) λus s1 ⟨xs,H1,I1,r,z,q⟩=>⟨by rw[<-r.length];exact z,?_⟩)
 have hf:H1 s1.heap.objs.size=none:=I1.hok.fresh (am _)
 refine⟨.ref s1.heap.objs.size,upd H1 s1.heap.objs.size (.lst xs),I1.laid (t':=s1.toks) (λb u e=>ak _ e) (am _) ?_,rfl,q _ hf⟩
 exact⟨z,us,0,r,av _ rfl⟩
end
abbrev Sp:=List V->Hp->VK->XK->Prop
abbrev CXT:=List Env->Hp->Shared->XK->Value->Shared->Prop
structure Env0(P:Program)(w:World)(K:ai)(mg:Str->Option Value)(base:Heap)(A:Around)(outer:List Env)(s:Shared)(H:Hp):Prop where
 frames:A.frames=some outer
 mod:Mod K mg base
 bs:∀b o,base.get? b=some o->s.heap.get? b=some o/\H b=none
 bsz:base.objs.size<=s.heap.objs.size
 funs:s.heap.FunFrames base outer
 frf:∀b∈frs outer,H b=none
 hok:HOk P w H s.heap
 bare:AllBare s.gens
def CE(outer:List Env)(P:Program)(w:World)(H:Hp)(s:Shared)(Q:VK)(u:Value)(s':Shared):Prop:=
 ∃v H',s'.os=s.os/\AllBare s'.gens/\Un (frs outer) [] H H' s.heap s'.heap/\HOk P w H' s'.heap/\RelV v u/\Q v H'
def CR(CX:CXT)(outer:List Env)(P:Program)(w:World)(H:Hp)(s:Shared)(Q:VK)(E:XK)(r:Result)(s':Shared):Prop:=
 match r with
 | .ok (.ret u)=>CE outer P w H s Q u s'
 | .ok _=>False
 | .error e=>CX outer H s E e s'
structure qe(P:Program)(w:World)(K:ai)(mg:Str->Option Value)(base:Heap)(CX:CXT)(k:Nat)(f:Addr)(fd:FuncData)(ps:List Str)(sp:Sp):Prop where
 len:∀vs H Q E,sp vs H Q E->vs.length=ps.length
 run:∀(A:Around)(outer:List Env)(s:Shared)(H:Hp)(args:Args)(us:List Value)(vs:List V)(Q:VK)(E:XK),Room k A->Env0 P w K mg base A outer s H->BindsTo s fd args (ps.zip us)->Vals vs us->sp vs H Q E->
  codeAny (model P w) A (.call (.ref f) args) (CR CX outer P w H s Q E) s
theorem Env0.make{P:Program}{w:World}{K:ai}{mg:Str->Option Value}{base:Heap}{A:Around}{outer:List Env}{s:Shared}{H:Hp}(e:Env0 P w K mg base A outer s H)(C:Addr)(us:List Value)(kw:List (Str×Value)) :
  Env0 P w K mg base (A.under (.builtin "type.__call__" ⟨.ref C::us,kw⟩)) outer s H:=⟨by first|exact e.frames|(simpa [Around.under,Code.envs,Code.isFrame,pushEnvs]using e.frames),e.mod,e.bs,e.bsz,e.funs,e.frf,e.hok,e.bare⟩
section
variable{X:Cx}{pins:List (Addr×Obj)}{σ:St}{H:Hp}{s s':Shared}
theorem Inv.env0(I:Inv X pins σ H s):Env0 X.prog X.w X.K X.mg X.base X.A X.stack s H:=
 ⟨I.ok.frames,I.ok.mod,I.bs,db I.ok.bsz I.sz,I.stack,I.stkFree,I.hok,I.bare⟩
theorem Inv.after{Q:VK}{u:Value}(I:Inv X pins σ H s)(h:CE X.stack X.prog X.w H s Q u s'):EP X pins σ Q u s':=by
 obtain⟨v,H',os,bare,un,hok,r,q⟩:=h
 obtain⟨hh,g,d,t,os'⟩:=s'
 obtain rfl:os'=s.os:=os
 exact⟨v,H',I.call (h':=hh) (g':=g) (d':=d) (t':=t) (ch:=[]) un hok bare (λb z=>absurd z (by simp)),r,q⟩
end
def aq1(sp:Sp)(dvs:List V)(E:XK)(t:TA):TE:=λσ H Q=>t σ H λvs H1=>sp (vs++dvs) H1 Q E
def asr(C:Addr)(sp:Sp)(dvs:List V)(E:XK)(t:TA):TE:=λσ H Q=>t σ H λvs H1=>∀x dx,H1 x=none->H1 dx=none->dx≠x->
 sp (.ref x::(vs++dvs)) (upd (upd H1 dx (.own x)) x (.ins C dx [])) (λv H2=>v=.non/\Q (.ref x) H2) E
def Binds(K:ai)(fd:FuncData)(ps:List Str)(ds:List Value):Prop:=
 ∀(s:Shared)(us:List Value),K.In s.heap->(us++ds).length=ps.length->BindsTo s fd ⟨us,[]⟩ (ps.zip (us++ds))
theorem Binds.all{K:ai}{fd:FuncData}{ps:List Str}(h:∀us:List Value,us.length=ps.length->bindArgs fd ⟨us,[]⟩=pure (ps.zip us)):Binds K fd ps []:=λs us _ hl=>by
 rw[gf]at hl⊢
 exact .of_eq (h us hl)
def adl(CX:CXT)(X:Cx)(E:XK):Prop:=∀(pins:List (Addr×Obj)) (σ:St) (H:Hp) (s:Shared) (e:Value) (s':Shared),Inv X pins σ H s->CX X.stack H s E e s'->X.xe e s'
section
variable{X:Cx}{CX:CXT}{k:Nat}{f C:Addr}{fd:FuncData}{ps:List Str}{sp:Sp}{dvs:List V}{ds:List Value}{E:XK}{x m:Str}{p pos apos:Pos}{e o:Expr}{es:List Expr}{ta:TE}{t:TA}
theorem ats{pins:List (Addr×Obj)}{σ:St}{H:Hp}{s:Shared}{Q:VK}{us:List Value}{vs:List V}(F:qe X.prog X.w X.K X.mg X.base CX k f fd ps sp)(hr:Room k X.A)(hb:Binds X.K fd ps ds)(hd:Vals dvs ds)(hx:adl CX X E)
  (I:Inv X pins σ H s) (r:Vals vs us) (h:sp (vs++dvs) H Q E):wpAny (model X.prog X.w) X.A (call (.ref f) us) (EP X pins σ Q) X.xe s:=by
 have r2:Vals (vs++dvs) (us++ds):=r.append hd
 have hl:(us++ds).length=ps.length:=by rw[<-r2.length];exact F.len _ _ _ _ h
 refine wpAny_call (codeAny_mono (F.run X.A X.stack s H ⟨us,[]⟩ (us++ds) (vs++dvs) Q E hr I.env0 (hb s us I.kIn hl) r2 h) λr s' hq=>?_)
 cases r with
 | error e=>exact hx pins σ H s e s' I hq
 | ok fl=>
  cases fl with
  | ret u=>exact I.after hq
  | next=>exact jx hq
  | brk=>exact jx hq
  | cont=>exact jx hq
theorem an9(F:qe X.prog X.w X.K X.mg X.base CX k f fd ps sp)(hr:Room k X.A)(hg:Gl X x)(hm:X.mg x=some (.ref f))(hk:lg X.K (.ref f)=true)(hb:Binds X.K fd ps ds)(hd:Vals dvs ds)(hx:adl CX X E)
  (ha:PA X (e::es) t) (hdb:(x==("__debug__" : Str))=false:=by decide) (he:starEach (e::es) X.env=(false,eval e X.env)::starEach es X.env:=by rfl) (hpl:(backTo pos (starEach es X.env)).any (·.1)=false:=by rfl) :
  PE X (.Call (.Name x p) (e::es) [] pos) (aq1 sp dvs E t):=by
 intro pins s σ H Q I h
 refine i7 (afn I hg hm ?_ hdb)
 refine PySem.W.callWith_K (h₀:=X.base) I.ok.mod.kin hk (thn (ha pos pins s σ H _ I h) λus s1 ⟨vs,H1,I1,r,q⟩=>⟨I1.kIn,?_⟩) he hpl
 exact ats F hr hb hd hx I1 r q
structure Mk(K:ai)(C f:Addr):Prop where
 makes:PySem.W.makesIn K C=true
 init:gj K (.ref C) "__init__" = some (some (.ref f))
 fn:PySem.W.isFn K (.ref f)=true
 kp:lg K (.ref C)=true
theorem alc{pins:List (Addr×Obj)}{σ:St}{H:Hp}{s:Shared}{Q:VK}{us:List Value}{vs:List V}(M:Mk X.K C f)(F:qe X.prog X.w X.K X.mg X.base CX k f fd ps sp)(hr:Room (k+1) X.A)(hb:Binds X.K fd ps ds)(hd:Vals dvs ds)
  (hx:adl CX X E) (I:Inv X pins σ H s) (r:Vals vs us)
  (h:∀x dx,H x=none->H dx=none->dx≠x->sp (.ref x::(vs++dvs)) (upd (upd H dx (.own x)) x (.ins C dx [])) (λv H2=>v=.non/\Q (.ref x) H2) E) :
  wpAny (model X.prog X.w) X.A (call (.ref C) us) (EP X pins σ Q) X.xe s:=by
 have hq:=h (s.heap.objs.size+1) s.heap.objs.size (I.hok.fresh (km _)) (I.hok.fresh (am _)) (c9 (Nat.lt_succ_self _))
 have I2:=Inv.made (C:=C) I
 have r2:Vals (V.ref (s.heap.objs.size+1)::(vs++dvs)) (Value.ref (s.heap.objs.size+1)::(us++ds)):=.cons rfl (r.append hd)
 have hl:(Value.ref (s.heap.objs.size+1)::us++ds).length=ps.length:=by
  have e:=r2.length
  rw[F.len _ _ _ _ hq]at e
  exact e.symm
 refine wpAny_call (amm (f:=f) I.kIn M.makes M.init (beq_iff_eq.mp M.fn) (codeAny_mono (F.run _ X.stack _ _ ⟨Value.ref (s.heap.objs.size+1)::us,[]⟩ (Value.ref (s.heap.objs.size+1)::(us++ds)) _ _ E (hr.make C us [])
  (I2.env0.make C us []) (hb _ (Value.ref (s.heap.objs.size+1)::us) I2.kIn hl) r2 hq) λr s' hq'=>?_))
 cases r with
 | error e=>exact hx pins σ _ _ e s' I2 hq'
 | ok fl=>
  cases fl with
  | ret u=>
   obtain⟨v,H',I3,rv,ev,q3⟩:=I2.after hq'
   subst ev
   exact⟨rv,⟨V.ref (s.heap.objs.size+1),H',I3,rfl,q3⟩⟩
  | next=>exact jx hq'
  | brk=>exact jx hq'
  | cont=>exact jx hq'
theorem aom(M:Mk X.K C f)(F:qe X.prog X.w X.K X.mg X.base CX k f fd ps sp)(hr:Room (k+1) X.A)(hg:Gl X x)(hm:X.mg x=some (.ref C))(hb:Binds X.K fd ps ds)(hd:Vals dvs ds)(hx:adl CX X E)
  (ha:PA X (e::es) t) (hdb:(x==("__debug__" : Str))=false:=by decide) (he:starEach (e::es) X.env=(false,eval e X.env)::starEach es X.env:=by rfl) (hpl:(backTo pos (starEach es X.env)).any (·.1)=false:=by rfl) :
  PE X (.Call (.Name x p) (e::es) [] pos) (asr C sp dvs E t):=by
 intro pins s σ H Q I h
 refine i7 (afn I hg hm ?_ hdb)
 refine PySem.W.callWith_K (h₀:=X.base) I.ok.mod.kin M.kp (thn (ha pos pins s σ H _ I h) λus s1 ⟨vs,H1,I1,r,q⟩=>⟨I1.kIn,?_⟩) he hpl
 exact alc M F hr hb hd hx I1 r q
end
def PK(X:Cx)(kws:List Keyword)(t:TA):Prop:=
 ∀(pos:Pos) (pins:List (Addr×Obj)) (s:Shared) (σ:St) (H:Hp) (Q:List V->Hp->Prop),Inv X pins σ H s->t σ H Q->wpAny (model X.prog X.w) X.A (evalAll ((backToKw pos (keywordEach kws X.env)).map (·.2))) (AP X pins σ Q) X.xe s
section
variable{X:Cx}{CX:CXT}{k:Nat}{f C:Addr}{fd:FuncData}{ps ks:List Str}{sp:Sp}{E:XK}{x m:Str}{p pos apos kpos:Pos}{e o:Expr}{es:List Expr}{kws:List Keyword}{te ta:TE}{t tk:TA}{nm:Option Str}
theorem ane:PK X [] ap2:=λ_ _ _ _ H Q I h=>wpAny_evalAll_nil ⟨[],H,I,.nil,h⟩
theorem ajt(ha:PE X e te)(hr:PK X kws t):PK X (⟨nm,e,kpos⟩::kws) (vf te t):=by
 intro pos pins s σ H Q I h
 show wpAny _ _ (evalAll ((do let v <-eval e X.env;standAt pos;pure v)::(backToKw pos (keywordEach kws X.env)).map (·.2))) _ _ s
 refine wpAny_evalAll_cons (aa (thn (ha pins s σ H _ I h) λu s1 ⟨x,H1,I1,r1,q1⟩=>aa (wpAny_standAt (af ?_))))
 exact thn (hr pos pins s1 σ H1 _ I1 q1) λus s2 ⟨xs,H2,I2,r2,q2⟩=>⟨x::xs,H2,I2,.cons r1 r2,q2⟩
variable{g:List Value->List Value->List Value}{gV:List V->List V->List V}
end
structure mx(N P:List Str)(sc:Scope):Prop where
 kind:sc.kind=.function:=by rfl
 co:sc.isCoroutine=false:=by rfl
 gen:sc.isGenerator=false:=by rfl
 nd:N.Nodup:=by decide +kernel
 pre:N.take P.length=P:=by rfl
 par:∀x∈P,sc.names.lookup x=some .local\/sc.names.lookup x=some .cell:=by decide +kernel
 nofree:∀y∈sc.names,y.2≠.free:=by decide +kernel
theorem adm{kindOf:Str->Option NameKind}{x:Str}:∀{binds:List (Str×Value)} {m:Str->Option Value},(∀v,(x,v)∉binds)->bindL kindOf binds m x=m x
 | [],_,_=>rfl
 | (n,v)::r,m,h=>by
  unfold bindL
  rw[adm λw hw=>h w (bf _ hw)]
  split
  .have:x≠n:=by rintro rfl;exact h v bj
   simp[this]
  .rfl
theorem ad4{kindOf:Str->Option NameKind}{x:Str}:∀{binds:List (Str×Value)} {m:Str->Option Value},(∀v,(x,v)∉binds)->bindC kindOf binds m x=m x
 | [],_,_=>rfl
 | (n,v)::r,m,h=>by
  unfold bindC
  rw[ad4 λw hw=>h w (bf _ hw)]
  split
  .rfl
  .have:x≠n:=by rintro rfl;exact h v bj
   simp[this]
theorem ac5{kindOf:Str->Option NameKind}{x:Str}{v:Value}:∀{P:List Str} {vs:List Value} {i:Nat} {m:Str->Option Value},P.Nodup->P[i]?=some x->vs[i]?=some v->kindOf x=some .local->
  bindL kindOf (P.zip vs) m x=some v
 | [],_,_,_,_,h,_,_=>by simp at h
 | _::_,[],_,_,_,_,h,_=>by simp at h
 | p::P,w::vs,0,m,nd,h1,h2,hk=>by
  simp at h1 h2;subst h1;subst h2
  show bindL kindOf ((p,w)::P.zip vs) m p=_
  unfold bindL
  rw[adm λv hv=>(ln.mp nd).1 (List.of_mem_zip hv).1,if_pos hk]
  simp
 | p::P,w::vs,i+1,m,nd,h1,h2,hk=>by
  show bindL kindOf ((p,w)::P.zip vs) m x=_
  unfold bindL
  exact ac5 (i:=i) (ln.mp nd).2 (by simpa using h1) (by simpa using h2) hk
theorem adz{kindOf:Str->Option NameKind}{x:Str}{v:Value}:∀{P:List Str} {vs:List Value} {i:Nat} {m:Str->Option Value},P.Nodup->P[i]?=some x->vs[i]?=some v->kindOf x≠some .local->
  bindC kindOf (P.zip vs) m x=some v
 | [],_,_,_,_,h,_,_=>by simp at h
 | _::_,[],_,_,_,_,h,_=>by simp at h
 | p::P,w::vs,0,m,nd,h1,h2,hk=>by
  simp at h1 h2;subst h1;subst h2
  show bindC kindOf ((p,w)::P.zip vs) m p=_
  unfold bindC
  rw[ad4 λv hv=>(ln.mp nd).1 (List.of_mem_zip hv).1,if_neg hk]
  simp
 | p::P,w::vs,i+1,m,nd,h1,h2,hk=>by
  show bindC kindOf ((p,w)::P.zip vs) m x=_
  unfold bindC
  exact adz (i:=i) (ln.mp nd).2 (by simpa using h1) (by simpa using h2) hk
noncomputable def adb(N:List Str)(vs:List V):St:=vs.map some++gw (N.length-vs.length) none
noncomputable def ap3(CX:CXT)(P:Program)(w:World)(K:ai)(mg:Str->Option Value)(base:Heap)(N:List Str)(qual:Str)(scope:Scope)(f:Addr)(cd:Value)(A:Around)(outer:List Env)(s:Shared)(H:Hp)(E:XK):Cx where
 prog:=P
 w:=w
 K:=K
 mg:=mg
 base:=base
 A:=A.deeper (envOfC qual scope s.heap.objs.size f cd)
 N:=N
 s₀:=s
 H₀:=H
 env:=envOfC qual scope s.heap.objs.size f cd
 outer:=outer
 stack:=envOfC qual scope s.heap.objs.size f cd::outer
 ex:=[]
 calm:=true
 fn:=λ_=>true
 pn:=[]
 xe:=λe s'=>wpAny (model P w) (A.deeper (envOfC qual scope s.heap.objs.size f cd)) (leaving (envOfC qual scope s.heap.objs.size f cd) e) (λ_ s''=>CX outer H s E e s'') (λe' s''=>CX outer H s E e' s'') s'
theorem af0{sc:Scope}{n:Nat}{x:Str}(h:sc.names.lookup x=some .cell):∃c,(cellsFrom n sc.names []).lookup x=some c:=by
 have q:=PySem.W.cellsFrom_some sc.names n [] (.inl h)
 exact Option.isSome_iff_exists.mp q
theorem ajb{CX:CXT}{P:Program}{w:World}{K:ai}{mg:Str->Option Value}{base:Heap}{N ps:List Str}{qual:Str}{scope:Scope}{f:Addr}{cd:Value}{A:Around}{outer:List Env}{s s1:Shared}{H:Hp}{E:XK}{us:List Value}{vs:List V}
  (S:mx N ps scope) (hd:A.handled=none) (e0:Env0 P w K mg base A outer s H) (hl:vs.length=ps.length) (r:Vals vs us)
  (x:InCallC s s.heap.objs.size (bindL (envOfC qual scope s.heap.objs.size f cd).kindOf (ps.zip us) λ_=>none) (cellsFrom (s.heap.objs.size+1) scope.names []) (bindC (envOfC qual scope s.heap.objs.size f cd).kindOf (ps.zip us) λ_=>none) s1) :
  Inv (ap3 CX P w K mg base N qual scope f cd A outer s H E) [] (adb N vs) H s1:=by
 have hpl:ps.length<=N.length:=by have:=congrArg List.length S.pre;rw[b0]at this;omega
 obtain⟨h1,tk,rfl,hk⟩:=x.done
 have noA:∀b:Addr,b∉(ap3 CX P w K mg base N qual scope f cd A outer s H E).ex:=λb z=>absurd (show b∈([]:List Addr)from z) (by simp)
 refine⟨⟨e0.mod,S.kind,rfl,rfl,am _,λy z c h1 h2=>?_,λy hy=>?_,λy c _ h=>?_,λ_=>hd,Around.frames_deeper e0.frames,.inr ⟨rfl,rfl⟩,λb z=>absurd z (noA b),e0.bs,e0.bsz,λb _ _=>noA b,λb z=>absurd z (noA b),e0.funs,e0.frf⟩,
  rfl,e0.bare,Un.kept hk,⟨_,x.toInCall.ns,λi y v h1 h2 h3=>?_⟩,λy c h=>⟨_,x.cell y c h⟩,e0.hok.fresh (am _),λy c h=>?_,λp hp=>absurd (show p∈([]:List (Addr×Obj))from hp) (by simp),e0.hok.kept hk,?_⟩
 .exact name_of_addr x.apart (iq h1) (iq h2)
 .have hy:scope.names.lookup y=some .cell\/scope.names.lookup y=some .free:=hy
  rcases hy with hy|hy
  .exact af0 hy
  .exact absurd rfl (S.nofree _ (iq hy))
 .exact gc (x.above y c (iq h))
 .have hi:i<vs.length:=by
   unfold adb at h2
   by_cases hi:i<vs.length
   .exact hi
   .rw[cb (by simpa using hi)]at h2
    rw[List.getElem?_replicate]at h2
    split at h2<;>cases h2
  have ha:vs[i]?=some v:=by
   unfold adb at h2
   rw[cr (by simpa using hi),aw]at h2
   cases e:vs[i]? with
   | none=>rw[e]at h2;cases h2
   | some a=>rw[e]at h2;cases h2;rfl
  obtain⟨u,hu,rv⟩:=r.get ha
  have hp:ps[i]?=some y:=by
   rw[<-S.pre,dw (by omega)];exact h1
  have ndP:ps.Nodup:=by rw[<-S.pre];exact S.nd.sublist (jy _ _)
  refine⟨u,rv,?_⟩
  rcases S.par y (aq hp)with k|k
  .exact .inl ⟨k,ac5 ndP hp hu k⟩
  .obtain⟨c,e⟩:=af0 (n:=s.heap.objs.size+1) k
   refine .inr ⟨.inl k,c,e,?_⟩
   have q:=x.cell y c e
   rw[adz ndP hp hu (by show scope.names.lookup y≠_;rw[k];decide)]at q
   exact q
 .exact e0.hok.fresh (gc (x.above y c (iq h)))
 .unfold adb
  show _=N.length
  rw[bu,ah,List.length_replicate]
  omega
theorem at3{CX:CXT}{P:Program}{w:World}{K:ai}{mg:Str->Option Value}{base:Heap}{k:Nat}{f:Addr}{name qual:Str}{params:Arguments}{body:List Stmt}{scope:Scope}{dV kV doc pm cdv ct oc:Value}{an od:Option Addr}
  {osl:Array (Option Value)} {N ps:List Str} {sp:Sp} (lk:K.lookup f=some ⟨oc,od,.func (kb name qual params body scope dV kV doc pm an cdv ct),osl⟩) (hcd:PySem.W.codeIn K cdv qual=true) (S:mx N ps scope)
  (len:∀vs H Q E,sp vs H Q E->vs.length=ps.length)
  (hbody:∀(A:Around)(outer:List Env)(s:Shared)(H:Hp)(vs:List V)(Q:VK)(E:XK),Room k (A.deeper (envOfC qual scope s.heap.objs.size f cdv))->sp vs H Q E->
   ∃t,PSs (ap3 CX P w K mg base N qual scope f cdv A outer s H E) body t/\t {nx:=λ_ H'=>Q .non H',rt:=Q} (adb N vs) H) :
  qe P w K mg base CX (k+1) f (kb name qual params body scope dV kV doc pm an cdv ct) ps sp:=by
 refine⟨len,λA outer s H args us vs Q E hr e0 hb r hsp=>?_⟩
 have hl:=len _ _ _ _ hsp
 have KX:K.In s.heap:=e0.mod.kin.keeps λb o e=>(e0.bs b o e).1
 have lim:s.heap.NoLimit:=e0.mod.nolimit.keeps λb o e=>(e0.bs b o e).1
 have hkind:∀y∈ps.zip us,scope.names.lookup y.1=some .local\/(scope.names.lookup y.1=some .cell/\((cellsFrom (s.heap.objs.size+1) scope.names []).lookup y.1).isSome=true):=λ⟨n,v⟩ hy=>by
  rcases S.par n (List.of_mem_zip hy).1 with q|q
  .exact .inl q
  .exact .inr ⟨q,PySem.W.cellsFrom_some _ _ _ (.inl q)⟩
 refine codeAny_call_function hr.depth (KX _ _ lk) rfl S.co S.gen rfl (PySem.W.codeRec_of KX hcd) (hb _ _ _ _ ?_)
 refine wpAny_newFunctionEnv_cells S.kind hkind λenv he s1 x=>?_
 subst he
 refine⟨lim.keeps x.toInCall.keep,codeAny_func ?_⟩
 obtain⟨t,ht,hq⟩:=hbody A outer s H vs Q E (hr.deeper _) hsp
 have I:Inv (ap3 CX P w K mg base N qual scope f cdv A outer s H E) [] (adb N vs) H s1:=ajb S hr.hd e0 hl r x
 refine iz (ht [] s1 (adb N vs) H _ I hq) (λfl s' hs=>?_) λe s' hs=>hs
 have fin:∀{σ':St} {H':Hp} {v:V} {u:Value},Inv (ap3 CX P w K mg base N qual scope f cdv A outer s H E) [] σ' H' s'->RelV v u->Q v H'->CE outer P w H s Q u s':=
  λ{σ' H' v u} J rv q=>⟨v,H',J.os,J.bare,J.base,J.hok,rv,q⟩
 cases fl with
 | ret u=>
  obtain⟨v,σ',H',J,rv,q⟩:=hs
  exact fin J rv q
 | next=>
  obtain⟨σ',H',J,q⟩:=hs
  exact fin (v:=V.non) (u:=Value.none) J rfl q
 | brk=>
  obtain⟨_,_,_,q⟩:=hs
  exact jx q
 | cont=>
  obtain⟨_,_,_,q⟩:=hs
  exact jx q
end L2
namespace L2
open PySem PySem.Spec PyProof.Rows
section
variable{X:Cx}{x:Str}{p pos:Pos}{e:Expr}{es:List Expr}{t:TA}{id T:String}{r:List V->Hp->VK->Prop}
def tCB(r:List V->Hp->VK->Prop)(t:TA):TE:=λσ H Q=>t σ H λvs H1=>r vs H1 Q
theorem amo(hc:sw X (.builtin id) r)(hg:Gl X x)(hm:X.mg x=none)(hv:bootBuiltins x=some (.builtin id))(ha:PA X (e::es) t)(hn:x≠"__name__":=by decide)(hdb:(x==("__debug__" : Str))=false:=by decide)
  (he:starEach (e::es) X.env=(false,eval e X.env)::starEach es X.env:=by rfl) (hpl:(backTo pos (starEach es X.env)).any (·.1)=false:=by rfl):PE X (.Call (.Name x p) (e::es) [] pos) (tCB r t):=by
 intro pins s σ H Q I h
 refine i7 (uq I hg hm hv ?_ hn hdb)
 exact PyProof.Rows.callWith_builtin1 (thn (ha pos pins s σ H _ I h) λus s1 ⟨vs,H1,I1,r1,q1⟩=>hc pins s1 σ H1 vs us Q I1 r1 q1) he hpl
theorem aj9(hc:sw X (.type T) r)(hg:Gl X x)(hm:X.mg x=none)(hv:bootBuiltins x=some (.type T))(ha:PA X (e::es) t)(hn:x≠"__name__":=by decide)(hdb:(x==("__debug__" : Str))=false:=by decide)
  (he:starEach (e::es) X.env=(false,eval e X.env)::starEach es X.env:=by rfl) (hpl:(backTo pos (starEach es X.env)).any (·.1)=false:=by rfl):PE X (.Call (.Name x p) (e::es) [] pos) (tCB r t):=by
 intro pins s σ H Q I h
 refine i7 (uq I hg hm hv ?_ hn hdb)
 exact ge (thn (ha pos pins s σ H _ I h) λus s1 ⟨vs,H1,I1,r1,q1⟩=>hc pins s1 σ H1 vs us Q I1 r1 q1) he hpl
end
end L2
namespace HT
open PySem PyProof.Rows
section
variable{prog:Program}{w:World}{A:Around}{E:Value->Shared->Prop}{s:Shared}
theorem cat_tup{t b:Addr}{vs ws:List Value}{Q:Value->Shared->Prop}(ht:IsTup s.heap t vs.toArray)(hb:IsTup s.heap b ws.toArray)(hv:vs≠[])
  (h1:ws=[]->Q (.ref t) s) (h2:ws≠[]->Q (.ref s.heap.objs.size) {s with heap:=s.heap.push {cls:=.type "tuple",data:=.seq (vs++ws).toArray}})
  (hsz:vs.length+ws.length<=sizeLine):wpAny (model prog w) A (binaryOp .Add (.ref t) (.ref b)) Q E s:=by
 obtain⟨⟨cls,dd,data,sl⟩,ho,hc,n,hd⟩:=id ht
 obtain⟨⟨cls2,dd2,data2,sl2⟩,ho2,hc2,n2,hd2⟩:=id hb
 simp only at hc hd hc2 hd2
 subst hc hd hc2 hd2
 have e:vs.toArray++ws.toArray=(vs++ws).toArray:=by simp
 by_cases hw:ws=[]
 .exact concat_meets ⟨_,ho,rfl⟩ ⟨_,ho2,rfl⟩ noFill_tuple_add seq_tuple_add PySem.F.slot_tuple_add PySem.F.entry_tuple_add (PySem.F.args_tuple_add_2 _ _)
   (tuple_addW1 t b vs.toArray ws.toArray n n2 dd dd2 sl sl2 (by simpa using hv) (by simp[hw])) ⟨ho,ho2,h1 hw⟩
 .refine concat_meets ⟨_,ho,rfl⟩ ⟨_,ho2,rfl⟩ noFill_tuple_add seq_tuple_add PySem.F.slot_tuple_add PySem.F.entry_tuple_add (PySem.F.args_tuple_add_2 _ _)
   (tuple_addW2 t b vs.toArray ws.toArray n n2 dd dd2 sl sl2 (by simpa using hv) (by simpa using hw) (by rw[ay,ay];exact hsz)) ⟨ho,ho2,?_⟩
  rw[e]
  exact h2 hw
noncomputable def sIx(n d:Nat):Option Int->Nat
 | none=>d
 | some v=>if v<0 then(v+(n:Int)).toNat else min v.toNat n
theorem sIx_none(n d:Nat):sIx n d none=d:=rfl
theorem sIx_nat(n d k:Nat):sIx n d (some (k:Int))=min k n:=by
 show(if (k:Int)<0 then((k:Int)+(n:Int)).toNat else min (k:Int).toNat n)=min k n
 rw[if_neg (by omega),cc]
theorem art(n d:Nat)(hd:d<=n)(o:Option Int):sIx n d o<=n:=by
 cases o with
 | none=>exact hd
 | some v=>
  show(if v<0 then(v+(n:Int)).toNat else min v.toNat n)<=n
  by_cases hv:v<0
  .rw[if_pos hv];omega
  .rw[if_neg hv];exact Nat.min_le_right _ _
theorem ah9(v:Int)(n d:Nat):(if v<0 then max (v+(n:Int)) 0 else min v (n:Int))=((sIx n d (some v):Nat):Int):=by
 show(if v<0 then max (v+(n:Int)) 0 else min v (n:Int))=(((if v<0 then(v+(n:Int)).toNat else min v.toNat n):Nat):Int)
 by_cases hv:v<0
 .simp only[if_pos hv];omega
 .simp only[if_neg hv];omega
theorem ahb(lo hi:Option Int)(n:Nat):Builtin.Slice.sliceAdjust lo hi 1 (n:Int)=(((sIx n 0 lo:Nat):Int),((sIx n n hi:Nat):Int)):=by
 have h1:¬((1:Int)<0):=by omega
 unfold Builtin.Slice.sliceAdjust
 simp only[h1,if_false]
 refine Prod.ext ?_ ?_
 .cases lo with
  | none=>rfl
  | some v=>exact ah9 v n 0
 .cases hi with
  | none=>rfl
  | some v=>exact ah9 v n n
theorem ahm(i j:Nat):Builtin.Slice.slicePlaces (i:Int) (j:Int) 1=j-i:=by
 unfold Builtin.Slice.slicePlaces
 have h1:(1:Int)>0:=by omega
 simp only[h1,if_true,Int.ediv_one]
 split<;>omega
theorem abi{v:Value}{o:Option Int}{Q:Option Int->Shared->Prop}(p:IsPart v o)(h:Q o s):wpAny (model prog w) A (Builtin.Slice.slicePartIndex v) Q E s:=by
 cases p with
 | none=>exact slicePart_none h
 | int i t=>exact slicePart_int h
theorem sv{sl:Addr}{vl vu:Value}{lo hi:Option Int}{n:Nat}{Q:Int×Int×Nat->Shared->Prop}(hs:s.heap.IsSliceOf sl vl vu .none)(pl:IsPart vl lo)(pu:IsPart vu hi)
  (h:Q (((sIx n 0 lo:Nat):Int),1,sIx n n hi-sIx n 0 lo) s):wpAny (model prog w) A (Builtin.Slice.sliceApplied (.ref sl) (pure (n:Int))) Q E s:=by
 obtain⟨os,hos,hcs,hds⟩:=id hs
 unfold Builtin.Slice.sliceApplied Builtin.Slice.sliceFields
 refine aa (aa (gr hos hds (x:=vl) rfl (aa (gr hos hds (x:=vu) rfl (aa (gr hos hds (x:=.none) rfl (af ?_)))))))
 refine aa (slicePart_none ?_)
 show wpAny _ _ (if ((1:Int)==0)=true then _ else _) _ _ s
 rw[if_neg (by decide)]
 refine aa (abi pl (aa (abi pu (aa (af ?_)))))
 show wpAny _ _ (match Builtin.Slice.sliceAdjust lo hi 1 (n:Int)with|(lo,hi)=>pure (lo,(1:Int),Builtin.Slice.slicePlaces lo hi 1)) _ _ s
 rw[ahb lo hi n]
 show wpAny _ _ (pure (((sIx n 0 lo:Nat):Int),(1:Int),Builtin.Slice.slicePlaces ((sIx n 0 lo:Nat):Int) ((sIx n n hi:Nat):Int) 1)) _ _ s
 rw[ahm]
 exact af h
theorem ama(xs:Array Value)(i k:Nat):((b9 k).filterMap λ(m:Nat)=>xs[((i:Int)+(m:Int)*1).toNat]?).toArray=((xs.toList.drop i).take k).toArray:=by
 have e:(λ(m:Nat)=>xs[((i:Int)+(m:Int)*1).toNat]?)=λm=>xs[i+m]?:=by
  funext m
  have:((i:Int)+(m:Int)*1).toNat=i+m:=by omega
  rw[this]
 rw[e]
 have:=pick_run xs i k
 rw[List.filterMap_map]at this
 have e2:((λx=>xs[x]?)∘λx=>i+x)=λm=>xs[i+m]?:=rfl
 rw[e2]at this
 rw[this]
theorem getItem_tuple_cut{t sl:Addr}{items:Array Value}{vl vu:Value}{lo hi:Option Int}{Q:Value->Shared->Prop}(ht:IsTup s.heap t items)(hs:s.heap.IsSliceOf sl vl vu .none)(pl:IsPart vl lo)(pu:IsPart vu hi)
  (hw:¬(sIx items.size 0 lo=0/\sIx items.size items.size hi=items.size))
  (h:Q (.ref s.heap.objs.size) {s with heap:=s.heap.push {cls:=.type "tuple",data:=.seq ((items.toList.drop (sIx items.size 0 lo)).take (sIx items.size items.size hi-sIx items.size 0 lo)).toArray}})
  (hsz:items.size<=sizeLine):wpAny (model prog w) A (getItem (.ref t) (.ref sl)) Q E s:=by
 have htake:sizeOk (.seq ((items.toList.drop (sIx items.size 0 lo)).take (sIx items.size items.size hi-sIx items.size 0 lo)).toArray):=by
  show((items.toList.drop (sIx items.size 0 lo)).take (sIx items.size items.size hi-sIx items.size 0 lo)).toArray.size<=sizeLine
  rw[ay,b0,gk,au]
  omega
 have hj:sIx items.size items.size hi<=items.size:=art _ _ (am _) hi
 obtain⟨os,hos,hcs,hds⟩:=id hs
 have hTs:s.TypeIs (.ref sl) "slice":=⟨os,hos,hcs⟩
 unfold getItem
 try with_reducible refine fk ?_
 first|refine aa (af ?_)|skip
 refine aa (wpAny_sequenceKey ht.typeIs (by decide) ?_)
 refine aa (ce (name:=ba "__getitem__") ht.typeIs gm
  (cf gm ht.typeIs entry_tuple_getitem ?_ (args_tuple_getitem _ _)))
 show wpAny _ _ (Builtin.Tuple.tupleItemsOf (.ref t) >>= _) _ _ s
 refine aa (tupleItemsOf_ ht ?_)
 refine aa (wpAny_typeOf hTs ?_)
 rw[if_pos (by decide)]
 refine aa (sv hs pl pu ?_)
 have hno:¬((((sIx items.size 0 lo:Nat):Int)==0&&(1:Int)==1&&(sIx items.size items.size hi-sIx items.size 0 lo)==items.size)=true):=by
  intro q
  rw[du,du]at q
  have q1:((sIx items.size 0 lo:Nat):Int)=0:=eq_of_beq q.1.1
  have q2:sIx items.size items.size hi-sIx items.size 0 lo=items.size:=eq_of_beq q.2
  exact hw ⟨by omega,by omega⟩
 show wpAny _ _ (if (((sIx items.size 0 lo:Nat):Int)==0&&(1:Int)==1&&(sIx items.size items.size hi-sIx items.size 0 lo)==items.size)=true then _ else _) _ _ s
 rw[if_neg hno,ama]
 first
  | exact aa (m:=Builtin.Tuple.tupleExact _) (cg (af ⟨_,rfl,af h⟩) htake)
  | exact aa (m:=Builtin.Tuple.tupleExact _) (cg (aa (af (af ⟨_,rfl,af h⟩))) htake)
  | exact aa (aa (m:=Builtin.Tuple.tupleExact _) (cg (af (af ⟨_,rfl,af h⟩)) htake))
  | exact aa (aa (m:=Builtin.Tuple.tupleExact _) (cg (af ⟨_,rfl,af h⟩) htake))
end
end HT
namespace L2
open PySem PySem.Spec PyProof.Rows
abbrev TO:=St->Hp->(Option Int->Hp->Prop)->Prop
def PO(X:Cx)(e:Option Expr)(t:TO):Prop:=
 ∀(pins:List (Addr×Obj)) (s:Shared) (σ:St) (H:Hp) (Q:Option Int->Hp->Prop),Inv X pins σ H s->t σ H Q->
  wpAny (model X.prog X.w) X.A (evalPart e X.env) (λu s'=>∃o H',Inv X pins σ H' s'/\IsPart u o/\Q o H') X.xe s
noncomputable def ape:TO:=λ_ H Q=>Q none H
noncomputable def aul(t:TE):TO:=λσ H Q=>t σ H λx H1=>∃i,x=.int i/\Q (some i) H1
theorem abj{ns:List Int}:∀{us:List Value},Vals (ns.map V.int) us->IntsAre us ns:=by
 induction ns with
 | nil=>intro us r;rw[List.map_nil]at r;cases r;exact .nil
 | cons n ns ih=>
  intro us r
  rw[c5]at r
  cases r with
  | cons r1 r2=>
   obtain⟨t,e⟩:=r1
   subst e
   exact .cons n t (ih r2)
section
variable{X:Cx}{e:Expr}{te:TE}{lo hi:Option Expr}{tl th:TO}{pos p2:Pos}
theorem ab1:PO X none ape:=by
 intro pins s σ H Q I h
 rw[evalPart_none]
 exact af ⟨none,H,I,.none,h⟩
theorem wx(h:PE X e te):PO X (some e) (aul te):=by
 intro pins s σ H Q I hw
 rw[evalPart_some]
 refine thn (h pins s σ H _ I hw) λu s1 ⟨x,H1,I1,r1,q1⟩=>?_
 obtain⟨i,rfl,q⟩:=q1
 obtain⟨t,rfl⟩:=r1
 exact⟨some i,H1,I1,.int i t,q⟩
def SlR(X:Cx)(r:V->Option Int->Option Int->Hp->VK->Prop):Prop:=
 ∀(pins:List (Addr×Obj)) (s:Shared) (σ:St) (H:Hp) (x:V) (v vl vu:Value) (lo hi:Option Int) (sl:Addr) (Q:VK),Inv X pins σ H s->RelV x v->s.heap.IsSliceOf sl vl vu .none->IsPart vl lo->IsPart vu hi->r x lo hi H Q->
  ∃T id,typeLookup (.type T) "__getitem__" = pure (some (.builtin id))/\s.TypeIs v T/\wpAny (model X.prog X.w) X.A (getItem v (.ref sl)) (EP X pins σ Q) X.xe s
def tSl(r:V->Option Int->Option Int->Hp->VK->Prop)(te:TE)(tl th:TO):TE:=λσ H Q=>te σ H λx H1=>tl σ H1 λl H2=>th σ H2 λu H3=>r x l u H3 Q
theorem wk{r:V->Option Int->Option Int->Hp->VK->Prop}(hr:SlR X r)(he:PE X e te)(hl:PO X lo tl)(hu:PO X hi th):PE X (.Subscript e (.Slice lo hi none p2) pos) (tSl r te tl th):=by
 intro pins s σ H Q I h
 refine Subscript_ (thn (he pins s σ H _ I h) λv s1 ⟨x,H1,I1,r1,q1⟩=>?_)
 refine wpAny_Slice (thn (hl pins s1 σ H1 _ I1 q1) λvl s2 ⟨l,H2,I2,pl,q2⟩=>thn (hu pins s2 σ H2 _ I2 q2) λvu s3 ⟨u,H3,I3,pu,q3⟩=>?_)
 rw[evalPart_none]
 refine af ?_
 have I4:Inv X pins σ H3 {s3 with heap:=s3.heap.push {cls:=.type "slice",data:=.fields #[vl,vu,.none]}}:=I3.kept (t':=s3.toks) λb ob q=>ak _ q
 obtain⟨T,id,hT,ht,hg⟩:=hr pins {s3 with heap:=s3.heap.push {cls:=.type "slice",data:=.fields #[vl,vu,.none]}} σ H3 x v vl vu l u s3.heap.objs.size Q I4 r1 (Heap.IsSliceOf.new ..) pl pu q3
 show wpAny (model X.prog X.w) X.A (subscriptTail e (.Slice lo hi none p2) v (.ref s3.heap.objs.size)) (EP X pins σ Q) X.xe {s3 with heap:=s3.heap.push {cls:=.type "slice",data:=.fields #[vl,vu,.none]}}
 exact tail_any (ops:=[.ref s3.heap.objs.size,v]) ht hT hg (by with_unfolding_all rfl)
noncomputable def ac4(xs:List V)(lo hi:Option Int):List V:=(xs.drop (HT.sIx xs.length 0 lo)).take (HT.sIx xs.length xs.length hi-HT.sIx xs.length 0 lo)
theorem yy(xs:List V)(lo hi:Option Int):(ac4 xs lo hi).length<=xs.length:=by
 unfold ac4
 rw[b0,gk]
 omega
def axn(K:ai):V->Option Int->Option Int->Hp->VK->Prop:=λx lo hi H Q=>∃a xs,x=.ref a/\SqT K H a xs/\
 ¬(HT.sIx xs.length 0 lo=0/\HT.sIx xs.length xs.length hi=xs.length)/\∀p,H p=none->Q (.ref p) (upd H p (.tup (ac4 xs lo hi)))
theorem ark:SlR X (axn X.K):=by
 intro pins s σ H x v vl vu lo hi sl Q I rx hs pl pu h
 obtain⟨a,xs,rfl,hx,hw,q⟩:=h
 cases rx
 obtain⟨its,r,ht,hz⟩:=I.tuple hx
 have hlen:its.toArray.size=xs.length:=by rw[ay];exact r.length.symm
 refine⟨"tuple",_,gm.lookup,ht.typeIs,?_⟩
 refine HT.getItem_tuple_cut ht hs pl pu (by rw[hlen];exact hw) ?_ (by rw[hlen];exact hz)
 rw[hlen]
 refine⟨.ref s.heap.objs.size,_,I.laid (t':=s.toks) (o:=.tup (ac4 xs lo hi)) (λb ob q=>ak _ q) (am _) ?_,rfl,q _ (I.hok.fresh (am _))⟩
 exact⟨db (yy xs lo hi) hz,_,(r.drop (HT.sIx xs.length 0 lo)).take (HT.sIx xs.length xs.length hi-HT.sIx xs.length 0 lo),IsTup.new _ _⟩
theorem Vals.nil_iff{xs:List V}{us:List Value}(r:Vals xs us):us=[]↔xs=[]:=by
 cases r with
 | nil=>simp
 | cons _ _=>simp
end
end L2
namespace L2
open PySem PySem.Spec PyProof.Rows
noncomputable def ixN(n:Nat)(i:Int):Option Nat:=if 0<=i then(if i<n then some i.toNat else none)else if -(n:Int)<=i then some (i+n).toNat else none
noncomputable def atI{α:Type}(xs:List α)(i:Int):Option α:=(ixN xs.length i).bind λj=>xs[j]?
theorem aim{n:Nat}{i:Int}{j:Nat}(h:ixN n i=some j):seqIndex? i n=some j/\j<n/\-(n:Int)<=i/\i<n:=by
 unfold ixN at h
 by_cases h0:0<=i
 .rw[if_pos h0]at h
  by_cases h1:i<n
  .rw[if_pos h1]at h
   have e:i.toNat=j:=cm h
   exact⟨by rw[seqIndex_of h0 h1,e],by omega,by omega,h1⟩
  .rw[if_neg h1]at h;cases h
 .rw[if_neg h0]at h
  by_cases h1:-(n:Int)<=i
  .rw[if_pos h1]at h
   have e:(i+n).toNat=j:=cm h
   exact⟨by rw[seqIndex_neg (by omega) h1,e],by omega,h1,by omega⟩
  .rw[if_neg h1]at h;cases h
theorem aei{α:Type}{xs:List α}{i:Int}{v:α}(h:atI xs i=some v):∃j,seqIndex? i xs.length=some j/\xs[j]?=some v/\j<xs.length/\-(xs.length:Int)<=i/\i<xs.length:=by
 unfold atI at h
 cases e:ixN xs.length i with
 | none=>rw[e]at h;cases h
 | some j=>
  rw[e]at h
  obtain⟨h1,h2,h3,h4⟩:=aim e
  exact⟨j,h1,h,h2,h3,h4⟩
theorem mm{α:Type}{xs:List α}{j:Nat}{v:α}(h:xs[j]?=some v):atI xs (j:Int)=some v:=by
 have hj:j<xs.length:=(ae.mp h).1
 have e:ixN xs.length (j:Int)=some j:=by
  unfold ixN
  rw[if_pos (by omega),if_pos (by omega)];simp
 unfold atI;rw[e];exact h
def aov(b:Expr):Prop:=∀o i,subscripted b false o i=operate [o,i] (getItem o i)
def IxR(X:Cx)(r:R2):Prop:=
 ∀(value slice:Expr) (pins:List (Addr×Obj)) (s:Shared) (σ:St) (H:Hp) (x y:V) (v u:Value) (Q:VK),Inv X pins σ H s->RelV x v->RelV y u->r x y H Q->
  subscripted slice false v u=operate [v,u] (getItem v u)->wpAny (model X.prog X.w) X.A (subscriptTail value slice v u) (EP X pins σ Q) X.xe s
def MtR(X:Cx)(id:String)(r:V->List V->Hp->VK->Prop):Prop:=
 ∀(pins:List (Addr×Obj)) (s:Shared) (σ:St) (H:Hp) (x:V) (xs:List V) (v:Value) (us:List Value) (Q:VK),Inv X pins σ H s->RelV x v->Vals xs us->r x xs H Q->
  wpAny (model X.prog X.w) X.A (call (.builtin id) (v::us)) (EP X pins σ Q) X.xe s
section
variable{X:Cx}{a b:Expr}{ta tb:TE}{pos:Pos}
theorem ng{r:R2}(hr:IxR X r)(ha:PE X a ta)(hb:PE X b tb)(hs:aov b):PE X (.Subscript a b pos) (tOp r ta tb):=by
 intro pins s σ H Q I h
 exact Subscript_ (av9 ha hb I h λv u s2 x y H2 I2 rx ry q=>hr a b pins s2 σ H2 x y v u Q I2 rx ry q (hs _ _))
def awv(K:ai):R2:=λx y H Q=>∃p xs i v,x=.ref p/\y=.int i/\SqL K H p xs/\atI xs i=some v/\Q v H
def at4(K:ai):R2:=λx y H Q=>∃p xs i v,x=.ref p/\y=.int i/\SqT K H p xs/\atI xs i=some v/\Q v H
def aw3:R2:=λx y H Q=>∃z i c,x=.str z/\y=.int i/\z.length<=sizeLine/\atI z.cps.toList i=some c/\Q (.str ⟨#[c]⟩) H
theorem o9:IxR X (awv X.K):=by
 intro value slice pins s σ H x y v u Q I rx ry h hs
 obtain⟨p,xs,i,z,rfl,rfl,hq,he,q⟩:=h
 cases rx
 obtain⟨t,rfl⟩:=ry
 obtain⟨its,r,pl,hz⟩:=I.list hq
 obtain⟨j,h1,h2,h3,h4,h5⟩:=aei he
 obtain⟨w,ew,rw'⟩:=r.get h2
 have hl:=r.length
 have hn:=aa2
 have fin:EP X pins σ Q w s:=⟨z,H,I,rw',q⟩
 by_cases h0:0<=i
 .have hj:i.toNat=j:=by
   rw[seqIndex_of h0 h5]at h1
   exact cm h1
  exact item_listR pl.isList h0 (by omega) (by rw[hj];simpa using ew) fin hs
 .have hj:(i+(its.toArray.size:Int)).toNat=j:=by
   rw[seqIndex_neg (by omega) h4]at h1
   rw[ay,<-hl]
   exact cm h1
  exact subscriptTail_builtinR (x:=w) pl.isList.typeIs slot_list_getitem.lookup
   (wpAny_getItem_list_neg (Q:=λr s'=>r=w/\EP X pins σ Q r s') pl.isList (by omega) (by rw[ay]<;>omega) (by omega) (by rw[hj];simpa using ew) ⟨rfl,fin⟩) hs
theorem nu:IxR X (at4 X.K):=by
 intro value slice pins s σ H x y v u Q I rx ry h hs
 obtain⟨p,xs,i,z,rfl,rfl,hq,he,q⟩:=h
 cases rx
 obtain⟨t,rfl⟩:=ry
 obtain⟨its,r,pl,hz⟩:=I.tuple hq
 obtain⟨j,h1,h2,h3,h4,h5⟩:=aei he
 obtain⟨w,ew,rw'⟩:=r.get h2
 have hl:=r.length
 have hn:=aa2
 have fin:EP X pins σ Q w s:=⟨z,H,I,rw',q⟩
 exact subscriptTail_builtinR (x:=w) pl.typeIs slot_tuple_getitem.lookup
  (getItem_tuple (j:=j) (Q:=λr s'=>r=w/\EP X pins σ Q r s') pl (by omega) (by omega) (by rw[ay,<-hl];exact h1) (by simpa using ew) ⟨rfl,fin⟩) hs
theorem xk:IxR X aw3:=by
 intro value slice pins s σ H x y v u Q I rx ry h hs
 obtain⟨z,i,c,rfl,rfl,hz,he,q⟩:=h
 obtain⟨t,rfl⟩:=rx
 obtain⟨t',rfl⟩:=ry
 obtain⟨j,h1,h2,h3,h4,h5⟩:=aei he
 have hl:z.cps.toList.length=z.length:=by simp[Str.length]
 rw[hl]at h1 h4 h5
 have hn:=aa2
 exact tail_any (typeIs_str s z t) slot_str_getitem.lookup (getItem_str (c:=c) (by
  have e1:decide (i < -(2^63:Int))=false:=decide_eq_false (by omega)
  have e2:decide (i>=2^63)=false:=decide_eq_false (by omega)
  rw[e1,e2,Bool.or_false]) (by rw[h1];simpa using h2) ⟨.str ⟨#[c]⟩,H,I.tok _,⟨_,rfl⟩,q⟩) hs
theorem ag2(its:List Value)(n j:Nat)(u:Value):g8 (·.setIfInBounds j u) {cls:=.type "list",data:=.seq its.toArray n}={cls:=.type "list",data:=.seq (its.set j u).toArray n}:=by
 simp[g8]
theorem Inv.lst{pins:List (Addr×Obj)}{σ:St}{H:Hp}{s:Shared}{p:Addr}{xs:List V}(I:Inv X pins σ H s)(h:H p=some (.lst xs)) :
  ∃(its:List Value)(n:Nat),Vals xs its/\s.heap.get? p=some {cls:=.type "list",data:=.seq its.toArray n}/\xs.length<=sizeLine:=by
 obtain⟨z,its,n,r,e⟩:=I.hok p _ h
 exact⟨its,n,r,e,z⟩
theorem Inv.lstUpd{pins:List (Addr×Obj)}{σ:St}{H:Hp}{s:Shared}{p:Addr}{xs ys:List V}{its its':List Value}{n n':Nat}{f:Obj->Obj}(I:Inv X pins σ H s)(h:H p=some (.lst xs))
  (ho:s.heap.get? p=some {cls:=.type "list",data:=.seq its.toArray n}) (hf:f {cls:=.type "list",data:=.seq its.toArray n}={cls:=.type "list",data:=.seq its'.toArray n'}) (r:Vals ys its') (hz:ys.length<=sizeLine) (t:Nat) :
  Inv X pins σ (upd H p (.lst ys)) {s with heap:=s.heap.update p f,toks:=t}:=by
 have e:(s.heap.update p f).get? p=some {cls:=.type "list",data:=.seq its'.toArray n'}:=by
  rw[ck f ho (by rw[hf]<;>rfl),hf]
 refine I.write (x:=p) (e:=p) (by rw[h];trivial) (.inl rfl) (λb u hb q=>(c8 _ _ (Ne.symm hb)).trans q) ⟨_,e⟩ ?_
 exact⟨hz,its',n',r,e⟩
def at8:V->V->V->Hp->(Hp->Prop)->Prop:=λo i v H Q=>∃p xs k j,o=.ref p/\i=.int k/\H p=some (.lst xs)/\ixN xs.length k=some j/\Q (upd H p (.lst (xs.set j v)))
theorem yo:awx X at8:=by
 intro pins s σ H o i v ov iv u Q I ro ri rv h
 obtain⟨p,xs,k,j,rfl,rfl,hp,hj,q⟩:=h
 cases ro
 obtain⟨t,rfl⟩:=ri
 obtain⟨its,n,r,ho,hz⟩:=I.lst hp
 obtain⟨h1,h2,h3,h4⟩:=aim hj
 have hl:=r.length
 have hn:=aa2
 have I':Inv X pins σ (upd H p (.lst (xs.set j v))) {s with heap:=s.heap.update p (g8 (·.setIfInBounds j u))}:=
  I.lstUpd hp ho (ag2 its n j u) (r.set rv j) (by rw[List.length_set];exact hz) s.toks
 by_cases h0:0<=k
 .have hk:k.toNat=j:=by
   rw[seqIndex_of h0 h4]at h1
   exact cm h1
  exact PySem.W.ki_setAt ho h0 (by omega) (by rw[ay,<-hl];exact h4) (by rw[hk];exact⟨_,I',q⟩)
 .have hk:(k+(its.toArray.size:Int)).toNat=j:=by
   rw[seqIndex_neg (by omega) h3]at h1
   rw[ay,<-hl]
   exact cm h1
  exact PySem.W.ki_setBack ho (by omega) (by rw[ay,<-hl];exact h3) (by omega) (by rw[hk];exact⟨_,I',q⟩)
theorem adn(lo hi:Option Int)(n:Nat):(sliceBounds lo hi none n).1=((HT.sIx n 0 lo:Nat):Int)/\(sliceBounds lo hi none n).2.1=((HT.sIx n n hi:Nat):Int)/\(sliceBounds lo hi none n).2.2=1:=by
 refine⟨?_,?_,rfl⟩
 .cases lo with
  | none=>simp[sliceBounds,HT.sIx]
  | some i=>
   simp only[sliceBounds,HT.sIx,Option.getD_none,show(1:Int)>0 by decide,if_true]
   by_cases h:i<0
   .simp only[h,if_true]<;>omega
   .simp only[h,if_false]<;>omega
 .cases hi with
  | none=>simp[sliceBounds,HT.sIx]
  | some i=>
   simp only[sliceBounds,HT.sIx,Option.getD_none,show(1:Int)>0 by decide,if_true]
   by_cases h:i<0
   .simp only[h,if_true]<;>omega
   .simp only[h,if_false]<;>omega
theorem abv(its:List Value)(lo hi:Option Int):slicePick its.toArray lo hi none=((its.drop (HT.sIx its.length 0 lo)).take (HT.sIx its.length its.length hi-HT.sIx its.length 0 lo)).toArray:=by
 obtain⟨h1,h2,h3⟩:=adn lo hi its.toArray.size
 unfold slicePick
 rw[h1,h2,h3]
 simp only[sliceRange_one,pick_run,ay]<;>rfl
def axg(K:ai):V->Option Int->Option Int->Hp->VK->Prop:=λx lo hi H Q=>∃a xs,x=.ref a/\SqL K H a xs/\∀p,H p=none->Q (.ref p) (upd H p (.lst (ac4 xs lo hi)))
theorem anz:SlR X (axg X.K):=by
 intro pins s σ H x v vl vu lo hi sl Q I rx hs pl pu h
 obtain⟨a,xs,rfl,hx,q⟩:=h
 cases rx
 obtain⟨its,r,ht,hz⟩:=I.list hx
 have hlen:=r.length
 refine⟨"list",_,slot_list_getitem.lookup,ht.isList.typeIs,?_⟩
 refine wpAny_getItem_list_slice ht.isList hs pl pu .none (by simp) ?_ (by rw[ay]<;>omega)
 rw[abv,<-hlen]
 refine⟨.ref s.heap.objs.size,_,I.laid (t':=s.toks) (o:=.lst (ac4 xs lo hi)) (λb ob q=>ak _ q) (am _) ?_,rfl,q _ (I.hok.fresh (am _))⟩
 exact⟨db (yy xs lo hi) hz,_,0,(r.drop (HT.sIx xs.length 0 lo)).take (HT.sIx xs.length xs.length hi-HT.sIx xs.length 0 lo),av _ rfl⟩
theorem oh:sw X (.builtin "len") (λxs H Q=>∃p ys,xs=[.ref p]/\(SqL X.K H p ys\/SqT X.K H p ys)/\Q (.int ys.length) H):=by
 intro pins s σ H xs us Q I r h
 obtain⟨p,ys,rfl,hq,q⟩:=h
 obtain⟨u,rfl,rx⟩:=sy r
 cases rx
 have hn:=aa2
 rcases hq with hq|hq
 .obtain⟨its,r',pl,hz⟩:=I.list hq
  have hlen:=r'.length
  exact Calls.call_len_list pl.isList (by simp only[ay]<;>omega) ⟨.int ys.length,H,I.tok _,⟨s.toks+1,by rw[ay,hlen]⟩,q⟩
 .obtain⟨its,r',pl,hz⟩:=I.tuple hq
  have hlen:=r'.length
  exact len_tuple pl (by simp only[ay]<;>omega) ⟨.int ys.length,H,I.tok _,⟨s.toks+1,by rw[ay,hlen]⟩,q⟩
theorem rg:sw X (.builtin "len") (λxs H Q=>∃z,xs=[.str z]/\z.length<=sizeLine/\Q (.int z.length) H):=by
 intro pins s σ H xs us Q I r h
 obtain⟨z,rfl,hz,q⟩:=h
 obtain⟨u,rfl,t,rfl⟩:=sy r
 have hn:=aa2
 exact len_str (by omega) ⟨.int z.length,H,I.tok _,⟨_,rfl⟩,q⟩
theorem ad1:sw X (.type "list") (λxs H Q=>∃p ys,xs=[.ref p]/\(SqL X.K H p ys\/SqT X.K H p ys)/\∀l,H l=none->Q (.ref l) (upd H l (.lst ys))):=by
 intro pins s σ H xs us Q I r h
 obtain⟨p,ys,rfl,hq,q⟩:=h
 obtain⟨u,rfl,rx⟩:=sy r
 cases rx
 have fin:∀(its:List Value),Vals ys its->ys.length<=sizeLine->∀(h':Heap)(c':Nat),(∀b o',s.heap.get? b=some o'->h'.get? b=some o')->
   h'.get? s.heap.objs.size=some {cls:=.type "list",dict:=none,data:=.seq its.toArray c',slots:=#[]}->EP X pins σ Q (.ref s.heap.objs.size) {s with heap:=h'}:=λits r' hz h' c' kp e=>
  ⟨.ref s.heap.objs.size,_,I.laid (t':=s.toks) kp (am _) (show ObjOk X.prog X.w _ h' _ (.lst ys)from ⟨hz,its,c',r',e⟩),rfl,q _ (I.hok.fresh (am _))⟩
 rcases hq with hq|hq
 .obtain⟨its,r',pl,hz⟩:=I.list hq
  have hlen:=r'.length
  obtain⟨o,ho,hc,n,hd⟩:=pl.isList
  exact call_list_seq p (.inl rfl) ho hc hd (λh' c' kp e=>fin its r' hz h' c' kp e) (by simp only[ay]<;>omega)
 .obtain⟨its,r',pl,hz⟩:=I.tuple hq
  have hlen:=r'.length
  obtain⟨o,ho,hc,n,hd⟩:=pl
  exact call_list_seq p (.inr rfl) ho hc hd (λh' c' kp e=>fin its r' hz h' c' kp e) (by simp only[ay]<;>omega)
theorem ou:sw X (.type "tuple") (λxs H Q=>∃p ys,xs=[.ref p]/\((SqL X.K H p ys/\∀l,H l=none->Q (.ref l) (upd H l (.tup ys)))\/(SqT X.K H p ys/\Q (.ref p) H))):=by
 intro pins s σ H xs us Q I r h
 obtain⟨p,ys,rfl,h⟩:=h
 obtain⟨u,rfl,rx⟩:=sy r
 cases rx
 rcases h with ⟨hq,q⟩|⟨hq,q⟩
 .obtain⟨its,r',pl,hz⟩:=I.list hq
  have hlen:=r'.length
  refine call_tuple_list pl.isList (λh' kp=>?_) (by simp only[ay]<;>omega)
  have I1:Inv X pins σ H {s with heap:=h'}:=I.kept (t':=s.toks) kp
  have I2:Inv X pins σ (upd H h'.objs.size (.tup ys)) {s with heap:=h'.push {cls:=.type "tuple",data:=.seq its.toArray}}:=
   I1.laid (t':=s.toks) (λb o e=>ak _ e) (am _) (show ObjOk X.prog X.w _ _ _ (.tup ys)from ⟨hz,its,r',IsTup.new _ _⟩)
  exact⟨.ref h'.objs.size,_,I2,rfl,q _ (I1.hok.fresh (am _))⟩
 .obtain⟨its,r',pl,hz⟩:=I.tuple hq
  exact call_tuple_same pl ⟨.ref p,H,I,rfl,q⟩
def tyV(K:ai)(T:String)(x:V)(H:Hp):Prop:=match x with
 | .str _=>T="str"
 | .int _=>T="int"
 | .ref p=>(T="list"/\∃xs,SqL K H p xs)\/(T="tuple"/\∃o,K.lookup p=some o/\o.cls=.type "tuple"/\o.dict=none)\/
   (T="dict"/\((∃kvs,H p=some (.dK kvs))\/∃kvs,H p=some (.dT kvs)))\/(T="set"/\∃S n,H p=some (.set S n))
 | _=>False
theorem am2{pins:List (Addr×Obj)}{σ:St}{H:Hp}{s:Shared}{T:String}{x:V}{v:Value}(I:Inv X pins σ H s)(r:RelV x v)(ty:tyV X.K T x H) :
  s.TypeIs v T/\∀a,v=.ref a->∃ob,s.heap.get? a=some ob/\ob.dict=none:=by
 cases x with
 | str z=>
  obtain⟨t,rfl⟩:=r
  cases (show T="str" from ty)
  exact⟨typeIs_str s z t,λ_ e=>nomatch e⟩
 | int i=>
  obtain⟨t,rfl⟩:=r
  cases (show T="int" from ty)
  exact⟨typeIs_int s i t,λ_ e=>nomatch e⟩
 | ref p=>
  cases r
  rcases ty with ⟨rfl,xs,hq⟩|⟨rfl,o,hk,hc,hd⟩|⟨rfl,hk⟩|⟨rfl,S,n,hk⟩
  .obtain⟨its,_,pl,_⟩:=I.list hq
   refine⟨pl.isList.typeIs,λa e=>?_⟩
   cases e
   obtain⟨o,n,e,c,hd,_⟩:=pl
   exact⟨o,e,hd⟩
  .refine⟨⟨o,I.kIn p o hk,hc⟩,λa e=>?_⟩
   cases e
   exact⟨o,I.kIn _ o hk,hd⟩
  .have z:∃o,s.heap.get? p=some o/\o.ExactDict:=by
    rcases hk with ⟨kvs,hk⟩|⟨kvs,hk⟩
    .obtain⟨_,_,_,_,o,_,_,e,ex,_⟩:=I.hok p _ hk
     exact⟨o,e,ex⟩
    .obtain⟨_,_,_,_,o,_,_,e,ex,_⟩:=I.hok p _ hk
     exact⟨o,e,ex⟩
   obtain⟨o,e,ex⟩:=z
   refine⟨⟨o,e,ex.1⟩,λa e2=>?_⟩
   cases e2
   exact⟨o,e,ex.2.1⟩
  .obtain⟨o,_,_,_,e,ex,_⟩:=I.hok p _ hk
   refine⟨⟨o,e,ex.1⟩,λa e2=>?_⟩
   cases e2
   exact⟨o,e,ex.2.1⟩
 | _=>exact jx ty
def axp(K:ai)(T:String)(r:V->List V->Hp->VK->Prop)(to:TE):TE:=λσ H Q=>to σ H λx H1=>tyV K T x H1/\r x [] H1 Q
def tBM(K:ai)(T:String)(r:V->List V->Hp->VK->Prop)(to:TE)(t:TA):TE:=λσ H Q=>to σ H λx H1=>tyV K T x H1/\t σ H1 λxs H2=>r x xs H2 Q
variable{o e:Expr}{es:List Expr}{to:TE}{t:TA}{name:Str}{apos cpos:Pos}{T id:String}{r:V->List V->Hp->VK->Prop}
theorem aq5(pa:PlainAttrs T)(slot:Slot T name id)(hty:typeOf (.builtin id)=pure (.type "method_descriptor"))(hm:MtR X id r)(ho:PE X o to)
  (hbase:attributeBase o name X.env (eval o X.env)=eval o X.env:=by rfl) (hline:(apos.endLine==cpos.line)=true:=by rfl):PE X (.Call (.Attribute o name apos) [] [] cpos) (axp X.K T r to):=by
 intro pins s σ H Q I h
 refine wpAny_Call_method0_late hbase hline (thn (ho pins s σ H _ I h) λv s1 ⟨x,H1,I1,r1,ty,q1⟩=>?_)
 obtain⟨h1,h2⟩:=am2 I1 r1 ty
 exact⟨T,id,pa,slot,hty,h1,h2,Calls.callWith_builtin rfl (PySem.evalArgs_none (hm pins s1 σ H1 x [] v [] Q I1 r1 .nil q1))⟩
theorem vk(pa:PlainAttrs T)(slot:Slot T name id)(hty:typeOf (.builtin id)=pure (.type "method_descriptor"))(hm:MtR X id r)(ho:PE X o to)(ha:PA X (e::es) t)
  (hbase:attributeBase o name X.env (eval o X.env)=eval o X.env:=by rfl)
  (hfew:((backTo cpos (starEach (e::es) X.env)).all (λx=>!x.1)&&(backToKw cpos (keywordEach [] X.env)).all (λx=>x.1.isSome)
   && decide ((e::es).length+([]:List Keyword).length+(if ([]:List Keyword).isEmpty then 0 else 1)<30))=true:=by rfl)
  (hline:(apos.endLine==cpos.line)=true:=by rfl) (hs:starEach (e::es) X.env=(false,eval e X.env)::starEach es X.env:=by rfl) (hplain:(backTo cpos (starEach es X.env)).any (·.1)=false:=by rfl) :
  PE X (.Call (.Attribute o name apos) (e::es) [] cpos) (tBM X.K T r to t):=by
 intro pins s σ H Q I h
 refine wpAny_Call_method_late hbase hfew hline rfl (thn (ho pins s σ H _ I h) λv s1 ⟨x,H1,I1,r1,ty,q1⟩=>?_)
 obtain⟨h1,h2⟩:=am2 I1 r1 ty
 refine⟨T,id,pa,slot,hty,h1,h2,?_⟩
 have hA:=ha cpos pins s1 σ H1 _ I1 q1
 rw[hs]at hA⊢
 refine Calls.callWith_builtin (by show(false||(backTo cpos (starEach es X.env)).any (·.1))=false;rw[hplain]<;>rfl) (Calls.evalArgs_plain ?_)
 exact thn hA λus s2 ⟨vs,H2,I2,r2,q2⟩=>hm pins s2 σ H2 x vs v us Q I2 r1 r2 q2
end
end L2
namespace L2
open PySem PySem.Spec PyProof.Rows
def MtM(X:Cx)(id:String)(r:V->List V->Hp->VK->Prop):Prop:=
 ∀(pins:List (Addr×Obj)) (s:Shared) (σ:St) (H:Hp) (x:V) (xs:List V) (v:Value) (us:List Value) (Q:VK),Inv X pins σ H s->RelV x v->Vals xs us->r x xs H Q->
  wpAny (model X.prog X.w) X.A (call (.builtin id) (v::us)) (EP X pins σ Q) X.xe s
theorem Vals.one:∀{x:V} {us:List Value},Vals [x] us->∃u,us=[u]/\RelV x u
 | _,_,.cons r .nil=>⟨_,rfl,r⟩
theorem Vals.zero:∀{us:List Value},Vals [] us->us=[]
 | _,.nil=>rfl
theorem Vals.eraseIdx:∀{xs:List V} {us:List Value} (i:Nat),Vals xs us->Vals (xs.eraseIdx i) (us.eraseIdx i)
 | _,_,_,.nil=>.nil
 | _,_,0,.cons _ t=>t
 | _,_,i+1,.cons r t=>.cons r (Vals.eraseIdx i t)
theorem acz{α:Type}:∀(l:List α)(i:Nat),(l.eraseIdx i).length<=l.length
 | [],_=>am _
 | _::_,0=>km _
 | _::r,i+1=>Nat.succ_le_succ (acz r i)
section
variable{X:Cx}{pins:List (Addr×Obj)}{σ:St}{H:Hp}{s:Shared}{l b:Addr}{xs ys zs:List V}
theorem Inv.lset{its its':List Value}{n:Nat}{f:Array Value->Array Value}{t':Nat}(I:Inv X pins σ H s)(hH:H l=some (.lst xs))
  (e:s.heap.get? l=some {cls:=.type "list",data:=.seq its.toArray n}) (hf:f its.toArray=its'.toArray) (hv:Vals ys its') (hz:ys.length<=sizeLine) :
  Inv X pins σ (upd H l (.lst ys)) {s with heap:=s.heap.update l (g8 f),toks:=t'}:=by
 have q:=PySem.IsL.update e f
 rw[hf]at q
 refine I.write (x:=l) (e:=l) (by rw[hH];exact trivial) (.inl rfl) (λb' u hb hu=>(c8 s.heap (g8 f) (Ne.symm hb)).trans hu) ⟨_,q⟩ ?_
 exact⟨hz,its',_,hv,q⟩
theorem Inv.lnew{its:List Value}{t':Nat}(I:Inv X pins σ H s)(hv:Vals ys its)(hz:ys.length<=sizeLine) :
  Inv X pins σ (upd H s.heap.objs.size (.lst ys)) {s with heap:=s.heap.push {cls:=.type "list",data:=.seq its.toArray},toks:=t'}:=
 I.laid (λ_ _ q=>ak _ q) (am _) ⟨hz,its,0,hv,av _ rfl⟩
theorem Inv.fresh(I:Inv X pins σ H s):H s.heap.objs.size=none:=I.hok.fresh (am _)
theorem Inv.lstM(I:Inv X pins σ H s)(hH:H l=some (.lst xs)):xs.length<=sizeLine/\∃(its:List Value)(n:Nat),Vals xs its/\xs.length=its.length/\s.heap.get? l=some {cls:=.type "list",data:=.seq its.toArray n}:=by
 obtain⟨z,its,n,r,e⟩:=I.hok l _ hH
 exact⟨z,its,n,r,r.length,e⟩
theorem ami{n:Nat}(h:n<=sizeLine):Builtin.List.listTooLong n=false:=by
 unfold Builtin.List.listTooLong
 exact decide_eq_false (by omega)
end
section
variable{X:Cx}
def aot:V->List V->Hp->VK->Prop:=λx vs H Q=>∃l xs y,x=.ref l/\vs=[y]/\H l=some (.lst xs)/\xs.length<sizeLine/\Q .non (upd H l (.lst (xs++[y])))
theorem p9:MtM X "list.append" aot:=by
 intro pins s σ H x vs v us Q I rx rv h
 obtain⟨l,xs,y,rfl,rfl,hH,hz,q⟩:=h
 cases rx
 obtain⟨u,rfl,ru⟩:=rv.one
 obtain⟨z,its,n,r,hl,e⟩:=I.lstM hH
 refine call_meets F.slot_list_append ⟨_,e,rfl⟩ F.entry_list_append (F.args_list_append_2 _ _) (PySem.list_append l its.toArray n u (by rw[ay];omega)) ⟨e,?_⟩
 refine⟨.non,_,I.lset (its':=its++[u]) hH e (by simp) (r.append (.cons ru .nil)) ?_,rfl,q⟩
 rw[bu,g9]
 omega
def apw:V->List V->Hp->VK->Prop:=λx vs H Q=>∃l b xs zs,x=.ref l/\vs=[.ref b]/\H l=some (.lst xs)/\H b=some (.lst zs)/\xs.length+zs.length<=sizeLine/\Q .non (upd H l (.lst (xs++zs)))
theorem ain:MtM X "list.extend" apw:=by
 intro pins s σ H x vs v us Q I rx rv h
 obtain⟨l,b,xs,zs,rfl,rfl,hH,hB,hz,q⟩:=h
 cases rx
 obtain⟨u,rfl,ru⟩:=rv.one
 cases ru
 obtain⟨z,its,n,r,hl,e⟩:=I.lstM hH
 obtain⟨z2,its2,n2,r2,hl2,e2⟩:=I.lstM hB
 have hsz:its.toArray.size+its2.toArray.size<=sizeLine:=by rw[ay,ay];omega
 have hlong:¬(!its.toArray.isEmpty&&Builtin.List.listTooLong (its.toArray.size+its2.toArray.size))=true:=by
  rw[ami hsz,Bool.and_false]
  exact aj
 refine call_meets F.slot_list_extend ⟨_,e,rfl⟩ F.entry_list_extend (F.args_list_extend_2 _ _)
  (AutoSeq1.list_extend_list_list_0 l its.toArray n b its2.toArray n2 hlong (by rw[ay];omega) (by omega)) ⟨e,e2,?_⟩
 refine⟨.non,_,I.lset (its':=its++its2) hH e (by simp) (r.append r2) ?_,rfl,q⟩
 rw[bu]
 omega
def ash:V->List V->Hp->VK->Prop:=λx vs H Q=>∃l xs i k y,x=.ref l/\vs=[.int i]/\H l=some (.lst xs)/\-(2^63)<=i/\i<2^63/\seqIndex? i xs.length=some k/\xs[k]?=some y/\Q y (upd H l (.lst (xs.eraseIdx k)))
theorem als:MtM X "list.pop" ash:=by
 intro pins s σ H x vs v us Q I rx rv h
 obtain⟨l,xs,i,k,y,rfl,rfl,hH,h1,h2,hk,hy,q⟩:=h
 cases rx
 obtain⟨u,rfl,ru⟩:=rv.one
 obtain⟨t,rfl⟩:=ru
 obtain⟨z,its,n,r,hl,e⟩:=I.lstM hH
 obtain⟨w,hw,rw'⟩:=r.get hy
 refine call_meets F.slot_list_pop ⟨_,e,rfl⟩ F.entry_list_pop (F.args_list_pop_2 _ _)
  (MeetsSeq.list_pop_at l its.toArray n i t k w (fitsIndex_both h1 h2) (by rw[ay,<-hl];exact hk) (by rw[<-bb];exact hw) (by rw[ay];omega)) ⟨e,?_⟩
 refine⟨y,_,I.lset (its':=its.eraseIdx k) hH e ?_ (r.eraseIdx k) ?_,rw',q⟩
 .show its.toArray.eraseIdxIfInBounds k=(its.eraseIdx k).toArray
  rw[List.eraseIdxIfInBounds_toArray]
 .have:=acz xs k
  omega
def axo:R2:=λx y H Q=>∃l b xs zs,x=.ref l/\y=.ref b/\H l=some (.lst xs)/\H b=some (.lst zs)/\xs.length+zs.length<=sizeLine/\∀p,H p=none->Q (.ref p) (upd H p (.lst (xs++zs)))
theorem ajg:OpR X (binaryOp .Add) axo:=by
 intro pins s σ H x y v u Q I rx ry h
 obtain⟨l,b,xs,zs,rfl,rfl,hH,hB,hz,q⟩:=h
 cases rx
 cases ry
 obtain⟨z,its,n,r,hl,e⟩:=I.lstM hH
 obtain⟨z2,its2,n2,r2,hl2,e2⟩:=I.lstM hB
 refine PySem.P.add_list e e2 ?_ (by rw[ay,ay];omega)
 have ea:its.toArray++its2.toArray=(its++its2).toArray:=by simp
 rw[ea]
 exact⟨.ref _,_,I.lnew (t':=s.toks) (r.append r2) (by rw[bu];omega),rfl,q _ I.fresh⟩
end
end L2
namespace Att
open PySem PySem.W PySem.Calls PyProof.Rows
theorem aal{P:Params}{h:Heap}:∀(ns:List Int)(vs:List Value),WellAll P h vs (ns.map WData.int)->IntsAre vs ns:=by
 intro ns
 induction ns with
 | nil=>
  intro vs w
  rw[List.map_nil]at w
  cases w
  exact .nil
 | cons n ns ih=>
  intro vs w
  rw[c5]at w
  cases w with
  | cons a b=>
   cases a
   exact .cons _ _ (ih _ b)
theorem akq{l:OpenLaw}{n:Nat}(hn:l.most=some n){P:Params}{h:Heap}{args:List WData}{vals:List Value}
  (hpre:l.row.toRowW.claim.pre args=true) (hwl:WellAll P h vals args) :
  ∃a vs ns,vals=[Value.ref a]/\args=[WData.list (ns.map WData.int)]/\h.get? a=some {cls:=.type "list",data:=.seq vs.toArray}/\IntsAre vs ns/\ns.length<=n:=by
 have hsh:WShape.hasAll [] args [.list .int]=true:=(pre_splitW hpre).1
 have hc:l.pre.holds [] {args:=args}=true:=(pre_splitW hpre).2
 obtain⟨d,r,rfl,h1,h2⟩:=hasAllW_cons hsh
 obtain rfl:=hasAllW_nil h2
 obtain⟨xs,rfl,h3⟩:=hasW_list h1
 obtain⟨ns,rfl⟩:=items_int h3
 have hlen:ns.length<=n:=by
  unfold OpenLaw.pre at hc
  have h4:(WTm.not (.lt (.lit (.int (n:Int))) (.len (.arg 0)))).holds [] {args:=[.list (ns.map .int)]}=true:=by
   have h4:=(holds_andW hc).1
   rw[hn]at h4
   exact h4
  have h5:=condW_of h4 (w_not (w_lt w_lit (w_len_list (w_arg rfl))))
  rw[ah]at h5
  refine Nat.le_of_not_lt λq=>?_
  have q':(n:Int)<((ns.length:Nat):Int):=by omega
  first
   | (rw[decide_eq_true q']at h5;exact absurd h5 (by decide))
   | (simp at h5;omega)
 cases hwl with
 | cons w1 w2=>
  cases w2
  cases w1 with
  | list ho hall=>exact⟨_,_,ns,rfl,rfl,ho,aal ns _ hall,hlen⟩
theorem ajq(l:OpenLaw)(args:List WData):l.row.toRowW.claim.post args (.bool true) args=true:=
 postW_of (r:=l.row.toRowW) (X:=(true==true))
  (show WShape.has [] (.bool true) .bool=true by first|rfl|decide|simp[WShape.has,WShape.arms,WShape.armsAll])
  (show(WTm.eq .res (.lit (.bool true))).value [] {args:=args,res:=some (.bool true),after:=args}=some (.bool (true==true))from w_eq_bool (w_res rfl) w_lit) rfl
theorem attach_call{l:OpenLaw}{n:Nat}{q:Program}{loose:List Str}{XP:(Str->Option Value)->Heap->Prop}{YP:World->Heap->Prop}{d:DefRec}
  (hn:l.most=some n) (hdf:d.params.defaults=[])
  (call:∀(w:World)(s₀ s₁:Shared)(mg mb:Str->Option Value)(fa:Addr)(o:Obj)(pm cd doc:Value)(a:Addr)(vs:List Value)(ns:List Int),
   Ground q loose [] XP w s₀ mg mb s₁.heap->YP w s₁.heap->
   s₁.heap.get? fa=some o->o.data=.func (docDef d.name d.params d.body d.scope pm cd doc)->s₁.heap.CodeRec cd d.name->mg d.name=some (.ref fa)->
   s₁.heap.get? a=some {cls:=.type "list",data:=.seq vs.toArray}->IntsAre vs ns->ns.length<=n->s₁.gens=#[]->
   codeAny (model l.prog w) callerA (.call (.ref fa) ⟨[.ref a],[]⟩) (λr s'=>r=.ok (.ret (.bool true))/\OldK s₁.heap s'.heap/\s'.os=s₁.os/\AllBare s'.gens) s₁) :
  WalkO q loose XP YP l.row.toRowW d [] (λf vs=>PySem.call f vs):=by
 intro w s₀ s₁ mg mb G Y fa o pm cd doc dV kV ho hd hcd hD hmg hg args vals as hpre hlay hrd hwl hlo
 obtain rfl:dV=.none:=Dflts.none hD hdf
 obtain rfl:kV=.none:=Dflts.noKw hD
 obtain⟨a,vs,ns,rfl,rfl,hobj,hints,hlen⟩:=akq hn hpre hwl
 refine enter_call (codeAny_mono (call w s₀ s₁ mg mb fa o pm cd doc a vs ns G Y ho (fd_plain hd) hcd hmg hobj hints hlen hg) λr s' hq=>?_)
 obtain⟨rfl,h2,h3,h4⟩:=hq
 exact⟨.inl ⟨.bool true,.bool true,[],rfl,λ_=>rfl,.bool true,ajq l _,λ_=>⟨List.Pairwise.nil,λ_ hm=>(nomatch hm)⟩⟩,h2,h3,h4⟩
end Att
namespace L2
open PySem PySem.Spec PyProof.Rows
theorem acs:∀{vs:List Value} {ns:List Int},IntsAre vs ns->Vals (ns.map V.int) vs
 | _,_,.nil=>.nil
 | _,_,.cons n t h=>.cons ⟨t,rfl⟩ (acs h)
def av4(H:Hp):Prop:=∀b,H b=none\/∃o xs,H b=some (.frz o (.lst xs))
theorem al6{P:Program}{w:World}{K:ai}{mg mb:Str->Option Value}{CX:CXT}{k:Nat}{fa a:Addr}{fd:FuncData}{x:Str}{sp:Sp}{s₁:Shared}{vs:List Value}{ns:List Int}
  (KX:K.In s₁.heap) (hns:s₁.heap.Ns mainGlobals mg) (hb:s₁.heap.Ns builtinsNs mb) (hbb:∀x:Str,x≠"__name__"->mb x=bootBuiltins x) (hlim:s₁.heap.NoLimit) (hg:s₁.gens=#[])
  (ha:s₁.heap.get? a=some {cls:=.type "list",data:=.seq vs.toArray}) (hi:IntsAre vs ns) (hl:ns.length<=sizeLine) (hr:Room k callerA)
  (F:∀base:Heap,K.In base->base.Ns mainGlobals mg->qe P w K mg base CX k fa fd [x] sp) (hbind:∀(s:Shared)(u:Value),BindsTo s fd ⟨[u],[]⟩ [(x,u)])
  (hsp:∀H:Hp,av4 H->SqL K H a (ns.map V.int)->sp [.ref a] H (λv _=>v=.bl true) λ_ _ _=>False)
  (hCX:∀H e s',CX [] H s₁ (λ_ _ _=>False) e s'->False) :
  codeAny (model P w) callerA (.call (.ref fa) ⟨[.ref a],[]⟩) (λr s'=>r=.ok (.ret (.bool true))/\OldK s₁.heap s'.heap/\s'.os=s₁.os/\AllBare s'.gens) s₁:=by
 have rv:=acs hi
 have lenV:=hi.length
 have core:∀H:Hp,av4 H->SqL K H a (ns.map V.int)->HOk P w H s₁.heap->(∀b,H b≠none->b=a)->(H a≠none->K.lookup a=none)->
   codeAny (model P w) callerA (.call (.ref fa) ⟨[.ref a],[]⟩) (λr s'=>r=.ok (.ret (.bool true))/\OldK s₁.heap s'.heap/\s'.os=s₁.os/\AllBare s'.gens) s₁:=by
  intro H hO hS hok hA hK
  have base_of:∀{b:Addr} {o:Obj},s₁.heap.get? b=some o->H b=none->(al0 s₁.heap H).get? b=some o:=λe n=>aly e n
  have noA:∀{b:Addr} {o:Obj} {es:Array DictEntry} {ep:Nat},s₁.heap.get? b=some o->o.data=.dict es ep->H b=none:=λ{b o es ep} e d=>by
   cases q:H b with
   | none=>rfl
   | some u=>
    have e':b=a:=hA b (by rw[q];simp)
    subst e'
    rw[ha]at e;cases e
    have d':Data.seq vs.toArray _=Data.dict es ep:=d
    cases d'
  have nsK:∀{b:Addr} {m:Str->Option Value},s₁.heap.Ns b m->(al0 s₁.heap H).Ns b m:=λ{b m} ⟨o,es,ep,e,d,r⟩=>⟨o,es,ep,base_of e (noA e d),d,r⟩
  have hKb:K.In (al0 s₁.heap H):=λb o e=>base_of (KX b o e) (by
   cases q:H b with
   | none=>rfl
   | some u=>
    have e':b=a:=hA b (by rw[q];simp)
    subst e'
    rw[hK (by rw[q];simp)]at e;cases e)
  have hM:Mod K mg (al0 s₁.heap H):=⟨hKb,nsK hns,⟨mb,nsK hb,hbb⟩,let ⟨mc,h1,h2⟩:=hlim;⟨mc,nsK h1,h2⟩⟩
  have e0:Env0 P w K mg (al0 s₁.heap H) callerA [] s₁ H:=⟨rfl,hM,λb o e=>apy e,Nat.le_of_eq (ah3 _ _),trivial,λb hb=>absurd (show b∈([]:List Addr)from hb) (by simp),hok,.of_eq hg⟩
  refine codeAny_mono ((F _ hKb (nsK hns)).run callerA [] s₁ H ⟨[.ref a],[]⟩ [.ref a] [.ref a] _ _ hr e0 (hbind s₁ (.ref a)) (.cons rfl .nil) (hsp H hO hS)) λr s' h=>?_
  cases r with
  | error e=>exact(hCX H e s' h).elim
  | ok fl=>
   cases fl with
   | next=>exact jx h
   | brk=>exact jx h
   | cont=>exact jx h
   | ret u=>
    obtain⟨v,H',os,bare,un,hok',r',q⟩:=h
    have q':v=.bl true:=q
    subst q'
    obtain rfl:u=Value.bool true:=r'
    refine⟨rfl,OldK.of_keep λb o e=>?_,os,bare⟩
    cases q:H b with
    | none=>exact un.keep b o e q (by intro z;exact absurd (show b∈([]:List Addr)from z) (by simp)) (by simp)
    | some u=>
     rcases hO b with z|⟨ob,xs,z⟩
     .rw[q]at z;cases z
     .have z2:=un.frzs b ob _ z
      obtain⟨e1,_⟩:=hok b _ z
      obtain⟨e2,_⟩:=hok' b _ z2
      rw[e]at e1;cases e1
      exact e2
 cases hk:K.lookup a with
 | some o=>
  have e:=KX a o hk
  rw[ha]at e
  cases e
  refine core (λ_=>none) (λ_=>.inl rfl) (.inr ⟨_,vs.toArray,_,hk,rfl,rfl,rfl,by rw[ay,lenV];exact hl,by simpa using rv⟩) (λb u z=>by have z':(none:Option HO)=some u:=z;cases z') (λb z=>absurd rfl z) λz=>absurd rfl z
 | none=>
  refine core (λb=>if b=a then some (.frz {cls:=.type "list",data:=.seq vs.toArray} (.lst (ns.map V.int)))else none) (λb=>?_) (.inl (.inr ⟨{cls:=.type "list",data:=.seq vs.toArray},if_pos rfl⟩)) (λb u z=>?_) (λb z=>?_) λ_=>hk
  .by_cases hb:b=a
   .exact .inr ⟨_,_,if_pos hb⟩
   .exact .inl (if_neg hb)
  .by_cases hb:b=a
   .have z':=(if_pos hb).symm.trans z
    cases z'
    subst hb
    exact⟨ha,by rw[ah];exact hl,vs,_,rv,ha⟩
   .have z':=(if_neg hb).symm.trans z
    cases z'
  .by_cases hb:b=a
   .exact hb
   .exact absurd (if_neg hb) z
end L2
namespace L2
open PySem PySem.Spec PyProof.Rows
theorem walk_of{l:PySem.W.OpenLaw}{n k:Nat}{q:Program}{loose:List Str}{XP:(Str->Option Value)->Heap->Prop}{YP:World->Heap->Prop}{d:DefRec}{K:Params->ai}{CX:World->CXT}{sp:World->Sp}{x:Str}
  (hn:l.most=some n) (hn2:n<=sizeLine) (hdf:d.params.defaults=[]) (hr:Room k callerA)
  (hY:∀(w:World)(h:Heap),YP w h->(K w.params).In h)
  (F:∀(w:World)(mg:Str->Option Value)(fa:Addr)(h:Heap),(K w.params).In h->h.Ns mainGlobals mg->mg d.name=some (.ref fa)->
   ∃fd:FuncData,(∀(s:Shared)(u:Value),BindsTo s fd ⟨[u],[]⟩ [(x,u)])/\
    ∀base:Heap,(K w.params).In base->base.Ns mainGlobals mg->qe l.prog w (K w.params) mg base (CX w) k fa fd [x] (sp w))
  (hsp:∀(w:World)(H:Hp)(a:Addr)(ns:List Int),ns.length<=n->av4 H->SqL (K w.params) H a (ns.map V.int)->sp w [.ref a] H (λv _=>v=.bl true) λ_ _ _=>False)
  (hCX:∀(w:World)(H:Hp)(s:Shared)(e:Value)(s':Shared),CX w [] H s (λ_ _ _=>False) e s'->False) :
  PySem.W.WalkO q loose XP YP l.row.toRowW d [] (λf vs=>PySem.call f vs):=by
 refine Att.attach_call hn hdf λw s₀ s₁ mg mb fa o pm cd doc a vs ns G Y ho hd hcd hmg hobj hints hlen hg=>?_
 have KX:=hY w _ Y
 obtain⟨fd,hb,hF⟩:=F w mg fa _ KX G.T.g hmg
 exact al6 KX G.T.g G.T.b G.T.builtins G.T.nolimit hg hobj hints (db hlen hn2) hr hF hb (λH hO hS=>hsp w H a ns hlen hO hS) λH e s'=>hCX w H s₁ e s'
end L2
namespace L2
open PySem PySem.Spec PyProof.Rows
noncomputable def uh(s:Stmt):Arguments:=match s with
 | .FunctionDef _ a _ _ _ _ _ _ _ _=>a
 | _=>{posonlyargs:=[],args:=[],vararg:=none,kwonlyargs:=[],kw_defaults:=[],kwarg:=none,defaults:=[]}
noncomputable def sk(s:Stmt):List Stmt:=match s with
 | .FunctionDef _ _ b _ _ _ _ _ _ _=>b
 | _=>[]
noncomputable def mj(s:Stmt):Scope:=match s with
 | .FunctionDef _ _ _ _ _ _ sc _ _ _=>sc
 | _=>{kind:=.function,names:=[],isGenerator:=false,isCoroutine:=false}
noncomputable abbrev CX0:CXT:=λ_ _ _ _ _ _=>False
noncomputable abbrev E0:XK:=λ_ _ _=>False
theorem ase{X:Cx}:adl CX0 X E0:=λ_ _ _ _ _ _ _ h=>h.elim
structure Fun(K:ai)(x qual:Str)(st:Stmt)(f:Addr)(fd:FuncData):Prop where
 ex:∃(oc:Value)(od:Option Addr)(kV doc pm:Value)(an:Option Addr)(cdv ct:Value) (osl:Array (Option Value)),
  fd=kb x qual (uh st) (sk st) (mj st) .none kV doc pm an cdv ct/\K.lookup f=some ⟨oc,od,.func fd,osl⟩/\PySem.W.codeIn K cdv qual=true
 kp:lg K (.ref f)=true
section
variable{P:Program}{w:World}{K:ai}{mg:Str->Option Value}{base:Heap}
theorem Fun.ok{x qual:Str}{st:Stmt}{f:Addr}{fd:FuncData}{N ps:List Str}{k:Nat}{sp:Sp}(F:Fun K x qual st f fd)(S:mx N ps (mj st))(len:∀vs H Q E,sp vs H Q E->vs.length=ps.length)
  (hbody:∀(cdv:Value)(A:Around)(outer:List Env)(s:Shared)(H:Hp)(vs:List V)(Q:VK)(E:XK),Room k (A.deeper (envOfC qual (mj st) s.heap.objs.size f cdv))->sp vs H Q E->
   ∃t,PSs (ap3 CX0 P w K mg base N qual (mj st) f cdv A outer s H E).nox (sk st) t/\t {nx:=λ_ H'=>Q .non H',rt:=Q} (adb N vs) H):qe P w K mg base CX0 (k+1) f fd ps sp:=by
 obtain⟨oc,od,kV,doc,pm,an,cdv,ct,osl,rfl,lk,hcd⟩:=F.ex
 refine at3 lk hcd S len λA outer s H vs Q E hr hsp=>?_
 obtain⟨t,h,q⟩:=hbody cdv A outer s H vs Q E hr hsp
 exact⟨t,h.nox,q⟩
theorem Fun.binds{x qual:Str}{st:Stmt}{f:Addr}{fd:FuncData}{ps:List Str}(F:Fun K x qual st f fd)
  (h:∀(kV doc pm:Value)(an:Option Addr)(cdv ct:Value)(us:List Value),us.length=ps.length->bindArgs (kb x qual (uh st) (sk st) (mj st) .none kV doc pm an cdv ct) ⟨us,[]⟩=pure (ps.zip us)):Binds K fd ps []:=by
 obtain⟨oc,od,kV,doc,pm,an,cdv,ct,osl,rfl,lk,hcd⟩:=F.ex
 exact .all (h kV doc pm an cdv ct)
theorem anj{x qual:Str}{st:Stmt}{f:Addr}{oc:Value}{od an:Option Addr}{osl:Array (Option Value)}{kV doc pm cdv ct:Value}(l:K.lookup f=some ⟨oc,od,.func (kb x qual (uh st) (sk st) (mj st) .none kV doc pm an cdv ct),osl⟩)
  (c:PySem.W.codeIn K cdv qual=true) (k:lg K (.ref f)=true):Fun K x qual st f (kb x qual (uh st) (sk st) (mj st) .none kV doc pm an cdv ct):=⟨⟨oc,od,kV,doc,pm,an,cdv,ct,osl,rfl,l,c⟩,k⟩
end
theorem mz{n:Nat}(h:n<=1000):n<sizeLine:=eu h (by decide)
section
variable{X:Cx}
theorem pv(i:Nat){x:Str}{pos:Pos}(hN:X.N[i]?=some x:=by rfl)(hv:Vis X.env.scope x:=by first|exact Or.inl rfl|exact Or.inr (Or.inl rfl)|exact Or.inr (Or.inr rfl))(hd:(x==("__debug__" : Str))=false:=by decide)
  (hcd:(x==("__classdict__" : Str))=false:=by decide):PE X (.Name x pos) (aeb i):=aro hN hv hd hcd
end
theorem xt{A B:Prop}(h:B):if false=true then A else B:=by
 rw[if_neg aj]
 exact h
theorem si{A B:Prop}(h:A):if true=true then A else B:=by
 rw[if_pos rfl]
 exact h
theorem u8{c A B:Prop}[Decidable c](h1:c->A)(h2:¬c->B):if c then A else B:=by
 by_cases h:c
 .rw[if_pos h]
  exact h1 h
 .rw[if_neg h]
  exact h2 h
def Same(H H':Hp):Prop:=∀b o,H b=some o->H' b=some o
theorem Same.refl(H:Hp):Same H H:=λ_ _ h=>h
theorem Same.trans{H H1 H2:Hp}(a:Same H H1)(b:Same H1 H2):Same H H2:=λc o h=>b c o (a c o h)
theorem Same.free{H H':Hp}(e:Same H H'){l:Addr}(h:H' l=Option.none):H l=Option.none:=by
 cases q:H l with
 | none=>rfl
 | some o=>
  rw[e l o q]at h
  cases h
end L2
namespace L3
theorem hid{G:Prop}(h:∀C:Prop,(G->C)->C):G:=h G id
end L3
namespace L3
open PySem PyProof.Rows
noncomputable def zw:Bool->Keyed->Array Keyed->Nat->Nat->Nat->StateT SortSt Sem (Option Nat):=sortPriv% PySem.Builtin.gallop
noncomputable def acj(left:Bool)(key:Keyed)(arr:Array Keyed)(base i:Nat):StateT SortSt Sem (Option Bool):=do
 let x <-elem' arr (base+i)
 if left then lt' x key else return (<-lt' key x).map (!·)
theorem np{M:Model}{A:Around}{E:Value->Shared->Prop}{s:Shared}{σ α:Type}{c:Prop}[Decidable c]{t e:StateT σ Sem α}{Q:α->σ->Prop}{st:σ}(a:c->wpS M A E s t Q st)(b:¬c->wpS M A E s e Q st):wpS M A E s (if c then t else e) Q st:=by
 by_cases h:c
 .rw[if_pos h];exact a h
 .rw[if_neg h];exact b h
section
variable{prog:Program}{w:World}{A:Around}{E:Value->Shared->Prop}{s:Shared}
def acy(prog:Program)(w:World)(A:Around)(s:Shared)(κ:SortKind)(mem:Keyed->Prop)(lt:Keyed->Keyed->Bool):Prop:=
 ∀x y,mem x->mem y->∀(Q:Bool->Shared->Prop),Q (lt x y) s->wpAny (model prog w) A (keyLt' κ x.1 y.1) Q (λ_ _=>False) s
variable{κ:SortKind}{mem:Keyed->Prop}{lt:Keyed->Keyed->Bool}
theorem adj(C:acy prog w A s κ mem lt){st:SortSt}(hk:kindOf st=κ){x y:Keyed}(hx:mem x)(hy:mem y){Q:Option Bool->SortSt->Prop}(h:Q (some (lt x y)) st):wpS (model prog w) A E s (lt' x y) Q st:=by
 rw[lt'_eq]
 refine a8 (wpS_get ?_)
 rw[hk]
 refine a8 (wpS_lift (jd (iz (C x y hx hy (λb s'=>s'=s/\b=lt x y) ⟨rfl,rfl⟩) (λb s' hb=>⟨hb.1,?_⟩) λ_ _ z=>z.elim)))
 rw[hb.2]
 exact bp h
theorem ag3(C:acy prog w A s κ mem lt){st:SortSt}(hk:kindOf st=κ){left:Bool}{key:Keyed}{arr:Array Keyed}{base i:Nat}{x:Keyed}(hx:arr[base+i]?=some x)(hm:mem x)(hy:mem key){Q:Option Bool->SortSt->Prop}(h:Q (some (if left=true then lt x key else !lt key x)) st) :
  wpS (model prog w) A E s (acj left key arr base i) Q st:=by
 unfold acj
 rw[elem'_eq,hx]
 refine a8 (bp ?_)
 cases left with
 | true=>exact adj C hk hm hy h
 | false=>exact a8 (adj C hk hy hm (bp h))
theorem abb(C:acy prog w A s κ mem lt){st:SortSt}(hk:kindOf st=κ){left:Bool}{key:Keyed}{arr:Array Keyed}{base n hint:Nat}(hkey:mem key)
  (harr:∀i,i<n->∃x,arr[base+i]?=some x/\mem x) (hh:hint<n) (B:Nat->Bool) (hB:∀i x,i<n->arr[base+i]?=some x->B i=(if left=true then lt x key else !lt key x))
  (mono:∀i j,i<=j->j<n->B j=true->B i=true) {Q:Option Nat->SortSt->Prop} (h:∀k,k<=n->(∀i,i<k->B i=true)->(∀i,k<=i->i<n->B i=false)->Q (some k) st) :
  wpS (model prog w) A E s (zw left key arr base n hint) Q st:=by
 have ask:∀(i:Nat)(Q:Option Bool->SortSt->Prop),i<n->Q (some (B i)) st->wpS (model prog w) A E s (acj left key arr base i) Q st:=λi Q hi q=>by
  obtain⟨x,hx,hm⟩:=harr i hi
  rw[hB i x hi hx]at q
  exact ag3 C hk hx hm hkey q
 have fin:∀(lo hi:Nat) ,lo<=hi->hi<=n->(∀i,i<lo->B i=true)->(∀i,hi<=i->i<n->B i=false)->
   wpS (model prog w) A E s (do
    let mut l:=lo
    let mut r:=hi
    for _ in [0:n] do
     if l>=r then break
     let mid:=l+(r-l)/2
     let some up <-acj left key arr base mid|return none
     if up then l:=mid+1 else r:=mid
    return some r) Q st:=by
  intro lo hi h1 h2 h3 h4
  refine a8 (iu (gh (I:=λx c st'=>st'=st/\∃l r,c=(none,l,r)/\l<=r/\r<=n/\r-l<=n-x/\(∀i,i<l->B i=true)/\(∀i,r<=i->i<n->B i=false))
   (Q:=λc st'=>st'=st/\∃l r,c=(none,l,r)/\l=r/\r<=n/\(∀i,i<l->B i=true)/\(∀i,r<=i->i<n->B i=false)) ?step ?fin ?init) ?post)
  case init=>exact⟨rfl,(mw lo hi ⟨rfl,h1,h2,by omega,h3,h4⟩)⟩
  case fin=>
   intro c st' hIh
   refine hid λCg hCg=>?_
   obtain⟨rfl,l,r,rfl,a1,a2,a3,a4,a5⟩:=hIh
   refine hCg ?_
   exact⟨rfl,(mw l r ⟨rfl,by omega,a2,a4,a5⟩)⟩
  case post=>
   intro c st' hIh
   refine hid λCg hCg=>?_
   obtain⟨rfl,l,r,rfl,rfl,a2,a4,a5⟩:=hIh
   refine hCg ?_
   exact bp (h l a2 a4 a5)
  case step=>
   intro x c st' _ hx hIh
   refine hid λCg hCg=>?_
   obtain⟨rfl,l,r,rfl,a1,a2,a3,a4,a5⟩:=hIh
   refine hCg ?_
   dsimp only
   by_cases hge:l>=r
   .rw[if_pos hge]
    exact bp ⟨rfl,(mw l r ⟨rfl,by omega,a2,a4,a5⟩)⟩
   .rw[if_neg hge]
    refine a8 (ask _ _ (by omega) ?_)
    cases hb:B (l+(r-l)/2)with
    | true=>exact bp ⟨rfl,(mw (l+(r-l)/2+1) r ⟨rfl,by omega,a2,by omega,λi hi=>mono _ _ (show i<=l+(r-l)/2 by omega) (by omega) hb,a5⟩)⟩
    | false=>
     refine bp ⟨rfl,(mw l (l+(r-l)/2) ⟨rfl,by omega,by omega,by omega,a4,λi hi hn=>?_⟩)⟩
     cases hbi:B i with
     | false=>rfl
     | true=>rw[mono _ _ hi hn hbi]at hb;cases hb
 refine a8 (ask hint _ hh ?_)
 cases hb0:B hint with
 | true=>
  dsimp only
  simp only[if_true]
  refine a8 (iu (gh (I:=λx c st'=>st'=st/\∃lo ofs,c=(none,lo,ofs)/\x+1<=ofs/\lo<ofs/\hint+lo<n/\B (hint+lo)=true)
   (Q:=λc st'=>st'=st/\∃lo ofs,c=(none,lo,ofs)/\lo<ofs/\hint+lo<n/\B (hint+lo)=true/\(n-hint<=ofs\/(ofs<n-hint/\B (hint+ofs)=false))) ?step ?fin ?init) ?post)
  case init=>exact⟨rfl,(mw 0 1 ⟨rfl,by omega,by omega,by omega,hb0⟩)⟩
  case fin=>
   intro c st' hIh
   refine hid λCg hCg=>?_
   obtain⟨rfl,lo,ofs,rfl,a1,a2,a3,a4⟩:=hIh
   refine hCg ?_
   exact⟨rfl,(mw lo ofs ⟨rfl,a2,a3,a4,.inl (by omega)⟩)⟩
  case step=>
   intro x c st' _ hx hIh
   refine hid λCg hCg=>?_
   obtain⟨rfl,lo,ofs,rfl,a1,a2,a3,a4⟩:=hIh
   refine hCg ?_
   dsimp only
   by_cases hge:ofs>=n-hint
   .rw[if_pos hge]
    exact bp ⟨rfl,(mw lo ofs ⟨rfl,a2,a3,a4,.inl hge⟩)⟩
   .rw[if_neg hge]
    refine a8 (ask _ _ (by omega) ?_)
    cases hb:B (hint+ofs)with
    | false=>exact bp ⟨rfl,(mw lo ofs ⟨rfl,a2,a3,a4,.inr ⟨by omega,hb⟩⟩)⟩
    | true=>exact bp ⟨rfl,(mw ofs (2*ofs+1) ⟨rfl,by omega,by omega,by omega,hb⟩)⟩
  case post=>
   intro c st' hIh
   refine hid λCg hCg=>?_
   obtain⟨rfl,lo,ofs,rfl,a2,a3,a4,a5⟩:=hIh
   refine hCg ?_
   dsimp only
   refine fin _ _ ?_ ?_ (λi hi=>mono _ _ (show i<=hint+lo by omega) a3 a4) λi hi hn=>?_
   .omega
   .omega
   .rcases a5 with h5|⟨h5,h6⟩
    .omega
    .cases hbi:B i with
     | false=>rfl
     | true=>rw[mono _ _ (show hint+ofs<=i by omega) hn hbi]at h6;cases h6
 | false=>
  dsimp only
  simp only[az,if_false]
  refine a8 (iu (gh (I:=λx c st'=>st'=st/\∃lo ofs,c=(none,lo,ofs)/\x+1<=ofs/\lo<ofs/\lo<=hint/\B (hint-lo)=false)
   (Q:=λc st'=>st'=st/\∃lo ofs,c=(none,lo,ofs)/\lo<ofs/\lo<=hint/\B (hint-lo)=false/\(hint+1<=ofs\/(ofs<hint+1/\B (hint-ofs)=true))) ?step ?fin ?init) ?post)
  case init=>exact⟨rfl,(mw 0 1 ⟨rfl,by omega,by omega,by omega,hb0⟩)⟩
  case fin=>
   intro c st' hIh
   refine hid λCg hCg=>?_
   obtain⟨rfl,lo,ofs,rfl,a1,a2,a3,a4⟩:=hIh
   refine hCg ?_
   exact⟨rfl,(mw lo ofs ⟨rfl,a2,a3,a4,.inl (by omega)⟩)⟩
  case step=>
   intro x c st' _ hx hIh
   refine hid λCg hCg=>?_
   obtain⟨rfl,lo,ofs,rfl,a1,a2,a3,a4⟩:=hIh
   refine hCg ?_
   dsimp only
   by_cases hge:ofs>=hint+1
   .rw[if_pos hge]
    exact bp ⟨rfl,(mw lo ofs ⟨rfl,a2,a3,a4,.inl hge⟩)⟩
   .rw[if_neg hge]
    refine a8 (ask _ _ (by omega) ?_)
    cases hb:B (hint-ofs)with
    | true=>exact bp ⟨rfl,(mw lo ofs ⟨rfl,a2,a3,a4,.inr ⟨by omega,hb⟩⟩)⟩
    | false=>exact bp ⟨rfl,(mw ofs (2*ofs+1) ⟨rfl,by omega,by omega,by omega,hb⟩)⟩
  case post=>
   intro c st' hIh
   refine hid λCg hCg=>?_
   obtain⟨rfl,lo,ofs,rfl,a2,a3,a4,a5⟩:=hIh
   refine hCg ?_
   dsimp only
   refine fin _ _ ?_ ?_ (λi hi=>?_) λi hi hn=>?_
   .omega
   .omega
   .rcases a5 with h5|⟨h5,h6⟩
    .omega
    .exact mono _ _ (show i<=hint-ofs by omega) (by omega) h6
   .cases hbi:B i with
    | false=>rfl
    | true=>rw[mono _ _ (show hint-lo<=i by omega) hn hbi]at a4;cases a4
end
structure aep(lt:Keyed->Keyed->Bool):Prop where
 asy:∀x y,lt x y=true->lt y x=false
 tr:∀x y z,lt y x=false->lt z y=false->lt z x=false
def Srt(lt:Keyed->Keyed->Bool)(l:List Keyed):Prop:=l.Pairwise λx y=>lt y x=false
structure Mid(lt:Keyed->Keyed->Bool)(la lb out:List Keyed)(ia ib:Nat):Prop where
 perm:out.Perm (la.take ia++lb.take ib)
 srt:Srt lt out
 leA:∀x∈out,∀y∈la.drop ia,lt y x=false
 leB:∀x∈out,∀y∈lb.drop ib,lt y x=false
section
variable{lt:Keyed->Keyed->Bool}{la lb out:List Keyed}{ia ib:Nat}
theorem ady{l:List Keyed}{i k:Nat}:l.take (i+k)=l.take i++(l.drop i).take k:=by
 rw[List.take_add]
theorem Mid.pushA(m:Mid lt la lb out ia ib)(hA:Srt lt la)(k:Nat)(h:∀x∈(la.drop ia).take k,∀y∈lb.drop ib,lt y x=false):Mid lt la lb (out++(la.drop ia).take k) (ia+k) ib:=by
 have hd:Srt lt (la.drop ia):=gi (List.drop_sublist _ _) hA
 have hs:(la.drop ia).take k++la.drop (ia+k)=la.drop ia:=by
  rw[<-List.drop_drop];exact df k _
 have hd2:=hd
 unfold Srt at hd2
 rw[<-hs,dh]at hd2
 refine⟨?_,?_,λx hx y hy=>?_,λx hx y hy=>?_⟩
 .rw[ady]
  refine((m.perm.append_right _).trans ?_)
  rw[bx,bx]
  exact h9 _ List.perm_append_comm
 .exact dh.mpr ⟨m.srt,hd2.1,λx hx y hy=>m.leA x hx y (gt hy)⟩
 .rcases ax.mp hx with h1|h1
  .exact m.leA x h1 y (by rw[<-hs];exact cz _ hy)
  .exact hd2.2.2 x h1 y hy
 .rcases ax.mp hx with h1|h1
  .exact m.leB x h1 y hy
  .exact h x h1 y hy
theorem Mid.pushB(m:Mid lt la lb out ia ib)(hB:Srt lt lb)(k:Nat)(h:∀x∈(lb.drop ib).take k,∀y∈la.drop ia,lt y x=false):Mid lt la lb (out++(lb.drop ib).take k) ia (ib+k):=by
 have hd:Srt lt (lb.drop ib):=gi (List.drop_sublist _ _) hB
 have hs:(lb.drop ib).take k++lb.drop (ib+k)=lb.drop ib:=by
  rw[<-List.drop_drop];exact df k _
 have hd2:=hd
 unfold Srt at hd2
 rw[<-hs,dh]at hd2
 refine⟨?_,?_,λx hx y hy=>?_,λx hx y hy=>?_⟩
 .rw[ady,<-bx]
  exact m.perm.append_right _
 .exact dh.mpr ⟨m.srt,hd2.1,λx hx y hy=>m.leB x hx y (gt hy)⟩
 .rcases ax.mp hx with h1|h1
  .exact m.leA x h1 y hy
  .exact h x h1 y hy
 .rcases ax.mp hx with h1|h1
  .exact m.leB x h1 y (by rw[<-hs];exact cz _ hy)
  .exact hd2.2.2 x h1 y hy
def pq(lt:Keyed->Keyed->Bool)(la lb out:List Keyed):Prop:=out.Perm (la++lb)/\Srt lt out
theorem Mid.endB(m:Mid lt la lb out ia ib)(hA:Srt lt la)(h:lb.length<=ib):pq lt la lb (out++la.drop ia):=by
 have hd:Srt lt (la.drop ia):=gi (List.drop_sublist _ _) hA
 refine⟨?_,dh.mpr ⟨m.srt,hd,m.leA⟩⟩
 have e:lb.take ib=lb:=a9 h
 have p:=m.perm.append_right (la.drop ia)
 rw[e,bx]at p
 refine p.trans ((h9 _ List.perm_append_comm).trans ?_)
 rw[<-bx,df]
theorem Mid.endA(m:Mid lt la lb out ia ib)(hB:Srt lt lb)(h:la.length<=ia):pq lt la lb (out++lb.drop ib):=by
 have hd:Srt lt (lb.drop ib):=gi (List.drop_sublist _ _) hB
 refine⟨?_,dh.mpr ⟨m.srt,hd,m.leB⟩⟩
 have e:la.take ia=la:=a9 h
 have p:=m.perm.append_right (lb.drop ib)
 rw[e,bx,df]at p
 exact p
theorem Mid.lastA(m:Mid lt la lb out ia ib)(o:aep lt)(hA:Srt lt la)(hB:Srt lt lb)(h:ia+1=la.length)(hl:∀y∈lb,∀x∈la.drop ia,lt y x=true):pq lt la lb (out++lb.drop ib++la.drop ia):=by
 have m2:=m.pushB hB (lb.length-ib) λx hx y hy=>o.asy _ _ (hl x (List.mem_of_mem_drop (gt hx)) y hy)
 have e:(lb.drop ib).take (lb.length-ib)=lb.drop ib:=a9 (by rw[gk];exact am _)
 rw[e]at m2
 exact m2.endB hA (by omega)
end
noncomputable def aca:Nat->StateT SortSt Sem Unit:=sortPriv% PySem.Builtin.setMinGallop
noncomputable abbrev t8(st:SortSt)(g:Nat):SortSt:=SortSt.mk' (kindOf st) (arrOf st) (pendingOf st) g (failedOf st)
noncomputable def amg:Array Keyed->Array Keyed->StateT SortSt Sem (Array Keyed):=sortPriv% PySem.Builtin.mergeLo
def SameG(st st':SortSt):Prop:=kindOf st'=kindOf st/\arrOf st'=arrOf st/\pendingOf st'=pendingOf st/\failedOf st'=failedOf st
theorem SameG.refl(st:SortSt):SameG st st:=⟨rfl,rfl,rfl,rfl⟩
theorem SameG.gal{st st':SortSt}(h:SameG st st')(g:Nat):SameG st (t8 st' g):=h
section
variable{prog:Program}{w:World}{A:Around}{E:Value->Shared->Prop}{s:Shared}
variable{κ:SortKind}{mem:Keyed->Prop}{lt:Keyed->Keyed->Bool}
structure Two(mem:Keyed->Prop)(lt:Keyed->Keyed->Bool)(a b:Array Keyed):Prop where
 mA:∀x∈a.toList,mem x
 mB:∀x∈b.toList,mem x
 sA:Srt lt a.toList
 sB:Srt lt b.toList
 pA:0<a.size
 pB:0<b.size
 first:∀x y,b[0]?=some x->a[0]?=some y->lt x y=true
 last:∀y∈b.toList,∀x,a[a.size-1]?=some x->lt y x=true
theorem aa6{st:SortSt}{g:Nat}{Q:Unit->SortSt->Prop}(q:Q () (t8 st g)):wpS (model prog w) A E s (aca g) Q st:=
 show wpS (model prog w) A E s (modify λz=>t8 z g) Q st from wpS_modify q
theorem o4{arr:Array Keyed}{i:Nat}{x:Keyed}(h:arr[i]?=some x){st:SortSt}{Q:Keyed->SortSt->Prop}(q:Q x st):wpS (model prog w) A E s (elem' arr i) Q st:=by
 rw[elem'_eq,h]
 exact bp q
theorem sf{arr:Array Keyed}{i:Nat}{x:Keyed}(h:arr[i]?=some x):arr.toList.drop i=x::arr.toList.drop (i+1):=by
 obtain⟨hi,e⟩:=bm.mp h
 have:=List.drop_eq_getElem_cons (l:=arr.toList) (i:=i) (by simpa using hi)
 rw[this]
 simp[e]
theorem xu{l:List Keyed}{x:Keyed}{r:List Keyed}(o:aep lt)(hs:Srt lt l)(e:l=x::r):∀z∈l,lt z x=false:=by
 subst e
 intro z hz
 rcases bq.mp hz with h|h
 .rw[h]
  cases q:lt x x with
  | false=>rfl
  | true=>have:=o.asy _ _ q;rw[q]at this;cases this
 .exact(List.pairwise_cons.mp hs).1 z h
theorem yh{l:List Keyed}(hs:Srt lt l)(i:Nat):Srt lt (l.drop i):=gi (List.drop_sublist _ _) hs
theorem vm{arr:Array Keyed}(o:aep lt)(hs:Srt lt arr.toList){i j:Nat}{x y:Keyed}(hij:i<=j)(hx:arr[i]?=some x)(hy:arr[j]?=some y):lt y x=false:=by
 have e:=sf hx
 have hm:y∈arr.toList.drop i:=by
  rw[cp]
  exact⟨j-i,by rw[fq,show i+(j-i)=j by omega];simpa using hy⟩
 exact xu o (yh hs i) e y hm
def ah2(lt:Keyed->Keyed->Bool)(a b out:Array Keyed)(ia ib:Nat):Prop:=Mid lt a.toList b.toList out.toList ia ib/\ia+1<a.size/\ib<b.size
theorem aol{a b out:Array Keyed}{ia ib:Nat}{x:Keyed}(o:aep lt)(T:Two mem lt a b)(m:Mid lt a.toList b.toList out.toList ia ib)(hx:b[ib]?=some x)(h:∀z∈a.toList.drop ia,lt z x=false) :
  Mid lt a.toList b.toList (out.push x).toList ia (ib+1):=by
 have m2:=m.pushB T.sB 1 λu hu y hy=>by
  rw[sf hx]at hu
  have:u=x:=by simpa using hu
  rw[this]
  exact h y hy
 rw[sf hx]at m2
 simpa using m2
theorem as5{a b out:Array Keyed}{ia ib:Nat}{y:Keyed}(o:aep lt)(T:Two mem lt a b)(m:Mid lt a.toList b.toList out.toList ia ib)(hy:a[ia]?=some y)(h:∀z∈b.toList.drop ib,lt z y=false) :
  Mid lt a.toList b.toList (out.push y).toList (ia+1) ib:=by
 have m2:=m.pushA T.sA 1 λu hu z hz=>by
  rw[sf hy]at hu
  have:u=y:=by simpa using hu
  rw[this]
  exact h z hz
 rw[sf hy]at m2
 simpa using m2
theorem aci{arr:Array Keyed}(o:aep lt)(hs:Srt lt arr.toList){i:Nat}{x y:Keyed}(hx:arr[i]?=some x)(h:lt x y=false):∀z∈arr.toList.drop i,lt z y=false:=λz hz=>
 o.tr y x z h (xu o (yh hs i) (sf hx) z hz)
theorem alq{a b out:Array Keyed}{ia ib:Nat}(T:Two mem lt a b)(m:Mid lt a.toList b.toList out.toList ia ib)(h:ib=b.size):pq lt a.toList b.toList (out++a.extract ia a.size++b.extract ib b.size).toList:=by
 have:=m.endB T.sA (by simp[h])
 have e:List.take (a.size-ia) (a.toList.drop ia)=a.toList.drop ia:=a9 (by simp)
 simpa [h,e]using this
theorem aqt{a b out:Array Keyed}{ia ib:Nat}(T:Two mem lt a b)(m:Mid lt a.toList b.toList out.toList ia ib)(h:ia=a.size):pq lt a.toList b.toList (out++a.extract ia a.size++b.extract ib b.size).toList:=by
 have:=m.endA T.sB (by simp[h])
 have e:List.take (b.size-ib) (b.toList.drop ib)=b.toList.drop ib:=a9 (by simp)
 simpa [h,e]using this
theorem ajc{a b out:Array Keyed}{ia ib:Nat}(o:aep lt)(T:Two mem lt a b)(m:Mid lt a.toList b.toList out.toList ia ib)(h:ia+1=a.size):pq lt a.toList b.toList (out++b.extract ib b.size++a.extract ia a.size).toList:=by
 have:=m.lastA o T.sA T.sB (by simpa using h) λy hy x hx=>by
  have hl:a[ia]?=some (a[ia]'(by omega)):=by simp
  rw[sf hl,List.drop_eq_nil_of_le (by simp;omega)]at hx
  have e:x=a[ia]'(by omega):=by simpa using hx
  refine T.last y hy x ?_
  rw[e,show a.size-1=ia by omega]
  exact hl
 have e:List.take (a.size-ia) (a.toList.drop ia)=a.toList.drop ia:=a9 (by simp)
 have e2:List.take (b.size-ib) (b.toList.drop ib)=b.toList.drop ib:=a9 (by simp)
 simpa [e,e2]using this
theorem v7{arr:Array Keyed}{P:Keyed->Prop}{base k:Nat}(h:∀i z,i<k->arr[base+i]?=some z->P z):∀z∈(arr.toList.drop base).take k,P z:=λz hz=>by
 obtain⟨i,hi⟩:=cp.mp hz
 have hik:i<k:=by
  have:=(ae.mp hi).1
  rw[b0]at this
  omega
 rw[dw hik,fq]at hi
 exact h i z hik (by simpa using hi)
theorem act{arr:Array Keyed}{P:Keyed->Prop}{base k:Nat}(h:∀i z,k<=i->arr[base+i]?=some z->P z):∀z∈arr.toList.drop (base+k),P z:=λz hz=>by
 obtain⟨i,hi⟩:=cp.mp hz
 rw[fq]at hi
 exact h (k+i) z (by omega) (by rw[<-jn];simpa using hi)
theorem vq(C:acy prog w A s κ mem lt)(o:aep lt){st:SortSt}(hk:kindOf st=κ){key:Keyed}{arr:Array Keyed}{base n hint:Nat}(hkey:mem key)(hn:base+n<=arr.size)(hm:∀i z,i<n->arr[base+i]?=some z->mem z)(hh:hint<n)
  (hs:∀i j y z,i<=j->j<n->arr[base+i]?=some y->arr[base+j]?=some z->lt z y=false) {Q:Option Nat->SortSt->Prop}
  (h:∀k,k<=n->(∀i z,i<k->arr[base+i]?=some z->lt key z=false)->(∀i z,k<=i->i<n->arr[base+i]?=some z->lt key z=true)->Q (some k) st):wpS (model prog w) A E s (zw false key arr base n hint) Q st:=by
 have ex:∀i,i<n->∃z,arr[base+i]?=some z:=λi hi=>⟨arr[base+i]'(by omega),by simp⟩
 refine abb C hk hkey (λi hi=>?_) hh (λi=>match arr[base+i]? with|some z=>!lt key z|none=>false) (λi z hi hz=>by simp[hz]) (λi j hij hj hb=>?_) λk hkn h1 h2=>h k hkn (λi z hi hz=>?_) λi z hi hn' hz=>?_
 .obtain⟨z,hz⟩:=ex i hi
  exact⟨z,hz,hm i z hi hz⟩
 .obtain⟨y,hy⟩:=ex i (by omega)
  obtain⟨z,hz⟩:=ex j hj
  simp only[hz,hy,Bool.not_eq_true']at hb⊢
  exact o.tr _ _ _ (hs i j y z hij hj hy hz) hb
 .have:=h1 i hi
  simpa [hz]using this
 .have:=h2 i hi hn'
  simpa [hz]using this
theorem ab8(C:acy prog w A s κ mem lt)(o:aep lt){st:SortSt}(hk:kindOf st=κ){key:Keyed}{arr:Array Keyed}{base n hint:Nat}(hkey:mem key)(hn:base+n<=arr.size)(hm:∀i z,i<n->arr[base+i]?=some z->mem z)(hh:hint<n)
  (hs:∀i j y z,i<=j->j<n->arr[base+i]?=some y->arr[base+j]?=some z->lt z y=false) {Q:Option Nat->SortSt->Prop}
  (h:∀k,k<=n->(∀i z,i<k->arr[base+i]?=some z->lt z key=true)->(∀i z,k<=i->i<n->arr[base+i]?=some z->lt z key=false)->Q (some k) st):wpS (model prog w) A E s (zw true key arr base n hint) Q st:=by
 have ex:∀i,i<n->∃z,arr[base+i]?=some z:=λi hi=>⟨arr[base+i]'(by omega),by simp⟩
 refine abb C hk hkey (λi hi=>?_) hh (λi=>match arr[base+i]? with|some z=>lt z key|none=>false) (λi z hi hz=>by simp[hz]) (λi j hij hj hb=>?_) λk hkn h1 h2=>h k hkn (λi z hi hz=>?_) λi z hi hn' hz=>?_
 .obtain⟨z,hz⟩:=ex i hi
  exact⟨z,hz,hm i z hi hz⟩
 .obtain⟨y,hy⟩:=ex i (by omega)
  obtain⟨z,hz⟩:=ex j hj
  simp only[hz,hy]at hb⊢
  cases q:lt y key with
  | true=>rfl
  | false=>rw[o.tr _ _ _ q (hs i j y z hij hj hy hz)]at hb;cases hb
 .have:=h1 i hi
  simpa [hz]using this
 .have:=h2 i hi hn'
  simpa [hz]using this
theorem ae8(C:acy prog w A s κ mem lt)(o:aep lt){st:SortSt}(hk:kindOf st=κ){a b:Array Keyed}(T:Two mem lt a b){Q:Array Keyed->SortSt->Prop}
  (h:∀out st',SameG st st'->pq lt a.toList b.toList out.toList->Q out st'):wpS (model prog w) A E s (amg a b) Q st:=by
 refine a8 (wpS_lift (jz ⟨rfl,?_⟩))
 have hb0:b[0]?=some (b[0]'T.pB):=by simp[T.pB]
 have ha0:a[0]?=some (a[0]'T.pA):=by simp[T.pA]
 refine a8 (o4 hb0 ?_)
 have m0:Mid lt a.toList b.toList (#[]:Array Keyed).toList 0 0:=⟨by simp,List.Pairwise.nil,by simp,by simp⟩
 have m1:=aol o T m0 hb0 λz hz=>o.tr _ _ _ (o.asy _ _ (T.first _ _ hb0 ha0)) (xu o (yh T.sA 0) (sf ha0) z hz)
 dsimp only
 refine np (λ(hb1:(1==b.size)=true)=>?_) (λ(hb1:¬(1==b.size)=true)=>?_)
 .exact bp (h _ _ (SameG.refl _) (alq T m1 (by simpa using hb1)))
 refine np (λ(ha1:(0+1==a.size)=true)=>?_) (λ(ha1:¬(0+1==a.size)=true)=>?_)
 .exact bp (h _ _ (SameG.refl _) (ajc o T m1 (by simpa using ha1)))
 have hb2:1<b.size:=by have:¬1=b.size:=by simpa using hb1
                       have:=T.pB
                       omega
 have ha2:0+1<a.size:=by have:¬0+1=a.size:=by simpa using ha1
                         have:=T.pA
                         omega
 refine a8 (wpS_get ?_)
 refine a8 (iu (gh (I:=λx c st'=>SameG st st'/\∃out ia ib mg,c=(none,out,ia,ib,mg)/\ah2 lt a b out ia ib/\x+1<=ia+ib)
  (Q:=λc st'=>SameG st st'/\∃res r,c=(some res,r)/\pq lt a.toList b.toList res.toList) ?step ?fin ?init) ?post)
 case init=>exact⟨SameG.refl _,(m8 _ _ _ _ ⟨rfl,⟨m1,ha2,hb2⟩,am _⟩)⟩
 case fin=>
  intro c st' hIh
  refine hid λCg hCg=>?_
  obtain⟨_,out,ia,ib,mg,rfl,⟨_,h1,h2⟩,h3⟩:=hIh
  refine hCg ?_
  omega
 case post=>
  intro c st' hIh
  refine hid λCg hCg=>?_
  obtain⟨sg,res,r,rfl,hm⟩:=hIh
  refine hCg ?_
  exact bp (h _ _ sg hm)
 case step=>
  intro x c st' _ hx hIh
  refine hid λCg hCg=>?_
  obtain⟨sg,out,ia,ib,mg,rfl,L,hp⟩:=hIh
  refine hCg ?_
  dsimp only
  refine a8 (iu (gh (I:=λy c st'=>SameG st st'/\∃out' ia' ib' ac bc,c=(none,out',ia',ib',ac,bc)/\ah2 lt a b out' ia' ib'/\ia+ib<=ia'+ib')
   (Q:=λc st'=>SameG st st'/\((∃res r,c=(some res,r)/\pq lt a.toList b.toList res.toList)\/∃out' ia' ib' ac bc,c=(none,out',ia',ib',ac,bc)/\ah2 lt a b out' ia' ib'/\ia+ib<=ia'+ib')) ?istep ?ifin ?iinit) ?ipost)
  case iinit=>exact⟨sg,(l9 _ _ _ _ _ ⟨rfl,L,am _⟩)⟩
  case ifin=>
   rintro c st2 ⟨sg2,rest⟩
   exact⟨sg2,.inr rest⟩
  case istep=>
   intro y c st2 _ hy hIh
   refine hid λCg hCg=>?_
   obtain⟨sg2,out',ia',ib',ac,bc,rfl,⟨m,l1,l2⟩,hp'⟩:=hIh
   refine hCg ?_
   dsimp only
   have hxb:b[ib']?=some (b[ib']'l2):=by simp[l2]
   have hxa:a[ia']?=some (a[ia']'(by omega)):=by simp
   refine a8 (o4 hxb (a8 (o4 hxa (a8 (adj C (sg2.1.trans hk) (T.mB _ (by simp)) (T.mA _ (by simp)) ?_)))))
   cases hl:lt b[ib'] a[ia']with
   | true=>
    dsimp only
    simp only[if_true]
    refine a8 (o4 hxb ?_)
    have m2:=aol o T m hxb (aci o T.sA hxa (o.asy _ _ hl))
    try dsimp only
    refine np (λ(he:(ib'+1==b.size)=true)=>?_) (λ(he:¬(ib'+1==b.size)=true)=>?_)
    .exact bp ⟨sg2,.inl (mw _ _ ⟨rfl,alq T m2 (by simpa using he)⟩)⟩
    .have he':¬ib'+1=b.size:=by simpa using he
     have L2:ah2 lt a b (out'.push b[ib']) ia' (ib'+1):=⟨m2,l1,by omega⟩
     split
     .exact bp ⟨sg2,.inr (l9 _ _ _ _ _ ⟨rfl,L2,by omega⟩)⟩
     .exact bp ⟨sg2,(l9 _ _ _ _ _ ⟨rfl,L2,by omega⟩)⟩
   | false=>
    dsimp only
    simp only[az,if_false]
    refine a8 (o4 hxa ?_)
    have m2:=as5 o T m hxa (aci o T.sB hxb hl)
    try dsimp only
    refine np (λ(he:(ia'+1+1==a.size)=true)=>?_) (λ(he:¬(ia'+1+1==a.size)=true)=>?_)
    .exact bp ⟨sg2,.inl (mw _ _ ⟨rfl,ajc o T m2 (by simpa using he)⟩)⟩
    .have he':¬ia'+1+1=a.size:=by simpa using he
     have L2:ah2 lt a b (out'.push a[ia']) (ia'+1) ib':=⟨m2,by omega,l2⟩
     split
     .exact bp ⟨sg2,.inr (l9 _ _ _ _ _ ⟨rfl,L2,by omega⟩)⟩
     .exact bp ⟨sg2,(l9 _ _ _ _ _ ⟨rfl,L2,by omega⟩)⟩
  case ipost=>
   intro c st2 hIh
   refine hid λCg hCg=>?_
   (rcases hIh with ⟨sg2,(⟨res,r,rfl,hm⟩|⟨out',ia',ib',ac,bc,rfl,L2,hp2⟩)⟩)<;>refine hCg ?_
   .dsimp only
    exact bp ⟨sg2,(mw _ _ ⟨rfl,hm⟩)⟩
   .dsimp only
    refine a8 (wpS_lift (jz ⟨rfl,?_⟩))
    refine a8 (iu (gh (I:=λy c st'=>SameG st st'/\∃out2 ia2 ib2 mg2 ac bc,c=(none,out2,ia2,ib2,mg2,ac,bc)/\ah2 lt a b out2 ia2 ib2/\ia'+ib'+y<=ia2+ib2)
     (Q:=λc st'=>SameG st st'/\((∃res r,c=(some res,r)/\pq lt a.toList b.toList res.toList)\/∃out2 ia2 ib2 mg2 ac bc,c=(none,out2,ia2,ib2,mg2,ac,bc)/\ah2 lt a b out2 ia2 ib2/\ia'+ib'+1<=ia2+ib2)) ?jstep ?jfin ?jinit) ?jpost)
    case jinit=>exact⟨sg2,(l9 _ _ _ _ _ ⟨_,rfl,L2,am _⟩)⟩
    case jfin=>
     intro c st3 hIh
     refine hid λCg hCg=>?_
     obtain⟨sg3,out2,ia2,ib2,mg2,ac2,bc2,rfl,L3,hp3⟩:=hIh
     refine hCg ?_
     exact⟨sg3,.inr (l9 _ _ _ _ _ ⟨_,rfl,L3,by have:=T.pA;omega⟩)⟩
    case jpost=>
     intro c st3 hIh
     refine hid λCg hCg=>?_
     (rcases hIh with ⟨sg3,(⟨res,r,rfl,hm⟩|⟨out2,ia2,ib2,mg2,ac2,bc2,rfl,L3,hp3⟩)⟩)<;>refine hCg ?_
     .dsimp only
      exact bp ⟨sg3,(mw _ _ ⟨rfl,hm⟩)⟩
     .dsimp only
      refine a8 (aa6 ?_)
      exact bp ⟨sg3.gal _,(m8 _ _ _ _ ⟨rfl,L3,by omega⟩)⟩
    case jstep=>
     intro y c st3 _ hy hIh
     refine hid λCg hCg=>?_
     obtain⟨sg3,out2,ia2,ib2,mg2,ac2,bc2,rfl,⟨m3,l3,l4⟩,hp3⟩:=hIh
     refine hCg ?_
     dsimp only
     have hxb:b[ib2]?=some (b[ib2]'l4):=by simp[l4]
     have memA:∀i z,a[i]?=some z->mem z:=λi z hz=>T.mA z (by obtain⟨h1,h2⟩:=bm.mp hz;rw[<-h2];simp)
     have memB:∀i z,b[i]?=some z->mem z:=λi z hz=>T.mB z (by obtain⟨h1,h2⟩:=bm.mp hz;rw[<-h2];simp)
     have body:∀(mg3:Nat)(st4:SortSt),SameG st st4->∀(k:Nat),k<=a.size-ia2->(∀i z,i<k->a[ia2+i]?=some z->lt b[ib2] z=false)->(∀i z,k<=i->i<a.size-ia2->a[ia2+i]?=some z->lt b[ib2] z=true)->
       ∃out3:Array Keyed,out3=out2++a.extract ia2 (ia2+k)/\Mid lt a.toList b.toList out3.toList (ia2+k) ib2/\∀z∈a.toList.drop (ia2+k),lt z b[ib2]=false:=by
      intro mg3 st4 sg4 k hkn h1 h2
      refine⟨_,rfl,?_,?_⟩
      .have m4:=m3.pushA T.sA k λz hz y hy=>aci o T.sB hxb (v7 (P:=λz=>lt b[ib2] z=false) h1 z hz) y hy
       have e:(out2++a.extract ia2 (ia2+k)).toList=out2.toList++(a.toList.drop ia2).take k:=by
        simp
       rw[e]
       exact m4
      .exact act (P:=λz=>lt z b[ib2]=false) λi z hi hz=>o.asy _ _ (h2 i z hi (by have:=(bm.mp hz).1;omega) hz)
     have rest2:∀(out4:Array Keyed)(ia3 ib3 mg3 k k1:Nat)(st4:SortSt),SameG st st4->Mid lt a.toList b.toList out4.toList ia3 ib3->ia3+1<a.size->ib3<b.size->(∀z,a[ia3]?=some z->∀u∈b.toList.drop ib3,lt u z=false)->ia'+ib'+y+1<=ia3+ib3->
       wpS (model prog w) A E s (do
        let z2 <-elem' a ia3
        if (ia3+1+1==a.size)=true then
         pure (ForInStep.done (some (out4.push z2++b.extract ib3 b.size++a.extract (ia3+1) a.size),out4.push z2,ia3+1,ib3,mg3,k,k1))
        else if (decide (k<7)&&decide (k1<7))=true then pure (ForInStep.done (none,out4.push z2,ia3+1,ib3,mg3,k,k1))
        else pure (ForInStep.yield (none,out4.push z2,ia3+1,ib3,mg3,k,k1)))
       (λr st'=>match r with
        | .done c'=>SameG st st'/\((∃res r,c'=(some res,r)/\pq lt a.toList b.toList res.toList)\/∃out2 ia2 ib2 mg2 ac bc,c'=(none,out2,ia2,ib2,mg2,ac,bc)/\ah2 lt a b out2 ia2 ib2/\ia'+ib'+1<=ia2+ib2)
        | .yield c'=>SameG st st'/\∃out2 ia2 ib2 mg2 ac bc,c'=(none,out2,ia2,ib2,mg2,ac,bc)/\ah2 lt a b out2 ia2 ib2/\ia'+ib'+(y+1)<=ia2+ib2) st4:=by
      intro out4 ia3 ib3 mg3 k k1 st4 sg4 m5 l5 l6 hu hp5
      have hxa:a[ia3]?=some (a[ia3]'(by omega)):=by simp
      refine a8 (o4 hxa ?_)
      have m6:=as5 o T m5 hxa (hu _ hxa)
      refine np (λ(he:(ia3+1+1==a.size)=true)=>?_) (λ(he:¬(ia3+1+1==a.size)=true)=>?_)
      .exact bp ⟨sg4,.inl (mw _ _ ⟨rfl,ajc o T m6 (by simpa using he)⟩)⟩
      .have he':¬ia3+1+1=a.size:=by simpa using he
       have L6:ah2 lt a b (out4.push a[ia3]) (ia3+1) ib3:=⟨m6,by omega,l6⟩
       split
       .exact bp ⟨sg4,.inr (l9 _ _ _ _ _ ⟨_,rfl,L6,by omega⟩)⟩
       .exact bp ⟨sg4,(l9 _ _ _ _ _ ⟨_,rfl,L6,by omega⟩)⟩
     have rest:∀(out3:Array Keyed)(ia3 mg3 k:Nat)(st4:SortSt),SameG st st4->Mid lt a.toList b.toList out3.toList ia3 ib2->ia3+1<a.size->(∀z∈a.toList.drop ia3,lt z b[ib2]=false)->ia'+ib'+y<=ia3+ib2->
       wpS (model prog w) A E s (do
        let z <-elem' b ib2
        if (ib2+1==b.size)=true then
         pure (ForInStep.done (some (out3.push z++a.extract ia3 a.size++b.extract (ib2+1) b.size),out3.push z,ia3,ib2+1,mg3,k,bc2))
        else do
         let z1 <-elem' a ia3
         let x <-zw true z1 b (ib2+1) (b.size-(ib2+1)) 0
         match x with
         | some k1=>
          if k1>0 then
           if (ib2+1+k1==b.size)=true then
            pure (ForInStep.done (some (out3.push z++b.extract (ib2+1) (ib2+1+k1)++a.extract ia3 a.size++b.extract (ib2+1+k1) b.size),out3.push z++b.extract (ib2+1) (ib2+1+k1),ia3,ib2+1+k1,mg3,k,k1))
           else do
            let z2 <-elem' a ia3
            if (ia3+1+1==a.size)=true then
             pure (ForInStep.done (some ((out3.push z++b.extract (ib2+1) (ib2+1+k1)).push z2++b.extract (ib2+1+k1) b.size++a.extract (ia3+1) a.size),(out3.push z++b.extract (ib2+1) (ib2+1+k1)).push z2,ia3+1,ib2+1+k1,mg3,k,k1))
            else if (decide (k<7)&&decide (k1<7))=true then pure (ForInStep.done (none,(out3.push z++b.extract (ib2+1) (ib2+1+k1)).push z2,ia3+1,ib2+1+k1,mg3,k,k1))
            else pure (ForInStep.yield (none,(out3.push z++b.extract (ib2+1) (ib2+1+k1)).push z2,ia3+1,ib2+1+k1,mg3,k,k1))
          else do
           let z2 <-elem' a ia3
           if (ia3+1+1==a.size)=true then
            pure (ForInStep.done (some ((out3.push z).push z2++b.extract (ib2+1) b.size++a.extract (ia3+1) a.size),(out3.push z).push z2,ia3+1,ib2+1,mg3,k,k1))
           else if (decide (k<7)&&decide (k1<7))=true then pure (ForInStep.done (none,(out3.push z).push z2,ia3+1,ib2+1,mg3,k,k1))
           else pure (ForInStep.yield (none,(out3.push z).push z2,ia3+1,ib2+1,mg3,k,k1))
         | _=>pure (ForInStep.done (some (out3.push z++a.extract ia3 a.size++b.extract (ib2+1) b.size),out3.push z,ia3,ib2+1,mg3,k,bc2)))
       (λr st'=>match r with
        | .done c'=>SameG st st'/\((∃res r,c'=(some res,r)/\pq lt a.toList b.toList res.toList)\/∃out2 ia2 ib2 mg2 ac bc,c'=(none,out2,ia2,ib2,mg2,ac,bc)/\ah2 lt a b out2 ia2 ib2/\ia'+ib'+1<=ia2+ib2)
        | .yield c'=>SameG st st'/\∃out2 ia2 ib2 mg2 ac bc,c'=(none,out2,ia2,ib2,mg2,ac,bc)/\ah2 lt a b out2 ia2 ib2/\ia'+ib'+(y+1)<=ia2+ib2) st4:=by
      intro out3 ia3 mg3 k st4 sg4 m4 l5 hz4 hp4
      refine a8 (o4 hxb ?_)
      have m5:=aol o T m4 hxb hz4
      refine np (λ(he:(ib2+1==b.size)=true)=>?_) (λ(he:¬(ib2+1==b.size)=true)=>?_)
      .exact bp ⟨sg4,.inl (mw _ _ ⟨rfl,alq T m5 (by simpa using he)⟩)⟩
      have he':¬ib2+1=b.size:=by simpa using he
      have hxa:a[ia3]?=some (a[ia3]'(by omega)):=by simp
      refine a8 (o4 hxa ?_)
      refine a8 (ab8 (st:=st4) (base:=ib2+1) (n:=b.size-(ib2+1)) (hint:=0) C o (sg4.1.trans hk) (memA _ _ hxa) (by omega) (λi z hi hz=>memB _ z hz) (by omega) (λi j y z hij hj hy hz=>vm o T.sB (show ib2+1+i<=ib2+1+j by omega) hy hz) λk1 hkn h1 h2=>?_)
      dsimp only
      have m6:=m5.pushB T.sB k1 λz hz u hu=>aci o T.sA hxa (o.asy _ _ (v7 (P:=λz=>lt z a[ia3]=true) h1 z hz)) u hu
      have e6:(out3.push b[ib2]++b.extract (ib2+1) (ib2+1+k1)).toList=(out3.push b[ib2]).toList++(b.toList.drop (ib2+1)).take k1:=by simp
      rw[<-e6]at m6
      have hu6:∀z,a[ia3]?=some z->∀u∈b.toList.drop (ib2+1+k1),lt u z=false:=λz hz=>by
       rw[hxa]at hz
       cases hz
       exact act (P:=λu=>lt u a[ia3]=false) λi z hi hz=>h2 i z hi (by have:=(bm.mp hz).1;omega) hz
      refine np (λ(hk0:k1>0)=>?_) (λ(hk0:¬(k1>0))=>?_)
      .refine np (λ(he2:(ib2+1+k1==b.size)=true)=>?_) (λ(he2:¬(ib2+1+k1==b.size)=true)=>?_)
       .exact bp ⟨sg4,.inl (mw _ _ ⟨rfl,alq T m6 (by simpa using he2)⟩)⟩
       .have he3:¬ib2+1+k1=b.size:=by simpa using he2
        exact rest2 _ ia3 (ib2+1+k1) mg3 k k1 st4 sg4 m6 l5 (by omega) hu6 (by omega)
      .have e0:k1=0:=by omega
       subst e0
       exact rest2 _ ia3 (ib2+1) mg3 k 0 st4 sg4 m5 l5 (by omega) hu6 (by omega)
     refine np (λ(hmg:mg2>1)=>?_) (λ(hmg:¬(mg2>1))=>?_)
     .refine a8 (aa6 ?_)
      have sg4:SameG st (t8 st3 (mg2-1)):=sg3.gal _
      refine a8 (o4 hxb ?_)
      refine a8 (vq (st:=t8 st3 (mg2-1)) (base:=ia2) (n:=a.size-ia2) (hint:=0) C o (sg4.1.trans hk) (memB _ _ hxb) (by omega) (λi z hi hz=>memA _ z hz) (by omega) (λi j y z hij hj hy hz=>vm o T.sA (show ia2+i<=ia2+j by omega) hy hz) λk hkn h1 h2=>?_)
      obtain⟨out3,e3,m4,hz4⟩:=body 0 st3 sg3 k hkn h1 h2
      dsimp only
      by_cases hk0:k>0
      .rw[if_pos hk0,<-e3]
       refine np (λ(he:(ia2+k+1==a.size)=true)=>?_) (λ(he:¬(ia2+k+1==a.size)=true)=>?_)
       .exact bp ⟨sg4,.inl (mw _ _ ⟨rfl,ajc o T m4 (by simpa using he)⟩)⟩
       have he':¬ia2+k+1=a.size:=by simpa using he
       refine np (λ(he2:(ia2+k==a.size)=true)=>?_) (λ(he2:¬(ia2+k==a.size)=true)=>?_)
       .exact bp ⟨sg4,.inl (mw _ _ ⟨rfl,aqt T m4 (by simpa using he2)⟩)⟩
       have he3:¬ia2+k=a.size:=by simpa using he2
       refine iu (rest out3 (ia2+k) (mg2-1) k _ sg4 m4 (by omega) hz4 (by omega)) λr st' hr=>?_
       cases r<;>exact hr
      .rw[if_neg hk0]
       have e0:k=0:=by omega
       subst e0
       have e5:out3=out2:=Array.ext' (by rw[e3];simp)
       rw[e5]at m4
       refine iu (rest out2 ia2 (mg2-1) 0 _ sg4 m4 l3 hz4 hp3) λr st' hr=>?_
       cases r<;>exact hr
     .refine a8 (aa6 ?_)
      have sg4:SameG st (t8 st3 (mg2)):=sg3.gal _
      refine a8 (o4 hxb ?_)
      refine a8 (vq (st:=t8 st3 (mg2)) (base:=ia2) (n:=a.size-ia2) (hint:=0) C o (sg4.1.trans hk) (memB _ _ hxb) (by omega) (λi z hi hz=>memA _ z hz) (by omega) (λi j y z hij hj hy hz=>vm o T.sA (show ia2+i<=ia2+j by omega) hy hz) λk hkn h1 h2=>?_)
      obtain⟨out3,e3,m4,hz4⟩:=body 0 st3 sg3 k hkn h1 h2
      dsimp only
      by_cases hk0:k>0
      .rw[if_pos hk0,<-e3]
       refine np (λ(he:(ia2+k+1==a.size)=true)=>?_) (λ(he:¬(ia2+k+1==a.size)=true)=>?_)
       .exact bp ⟨sg4,.inl (mw _ _ ⟨rfl,ajc o T m4 (by simpa using he)⟩)⟩
       have he':¬ia2+k+1=a.size:=by simpa using he
       refine np (λ(he2:(ia2+k==a.size)=true)=>?_) (λ(he2:¬(ia2+k==a.size)=true)=>?_)
       .exact bp ⟨sg4,.inl (mw _ _ ⟨rfl,aqt T m4 (by simpa using he2)⟩)⟩
       have he3:¬ia2+k=a.size:=by simpa using he2
       refine iu (rest out3 (ia2+k) (mg2) k _ sg4 m4 (by omega) hz4 (by omega)) λr st' hr=>?_
       cases r<;>exact hr
      .rw[if_neg hk0]
       have e0:k=0:=by omega
       subst e0
       have e5:out3=out2:=Array.ext' (by rw[e3];simp)
       rw[e5]at m4
       refine iu (rest out2 ia2 (mg2) 0 _ sg4 m4 l3 hz4 hp3) λr st' hr=>?_
       cases r<;>exact hr
end
structure MidH(lt:Keyed->Keyed->Bool)(la lb R:List Keyed)(na nb:Nat):Prop where
 perm:R.Perm (la.drop na++lb.drop nb)
 srt:Srt lt R
 geA:∀x∈la.take na,∀y∈R,lt y x=false
 geB:∀x∈lb.take nb,∀y∈R,lt y x=false
section
variable{lt:Keyed->Keyed->Bool}{la lb R:List Keyed}{na nb:Nat}
theorem agq{l:List Keyed}{i n:Nat}(h:i<=n):l.take i++(l.take n).drop i=l.take n:=by
 have:=df i (l.take n)
 rw[List.take_take,fx h]at this
 exact this
theorem agn{l:List Keyed}{i n:Nat}(h:i<=n):(l.take n).drop i++l.drop n=l.drop i:=by
 have e:=df n l
 have:=congrArg (List.drop i) e
 rw[List.drop_append]at this
 by_cases hl:n<=l.length
 .rw[b0,fx hl,show i-n=0 by omega,jt]at this
  exact this
 .rw[List.drop_eq_nil_of_le (show l.length<=n by omega),gf,a9 (by omega)]
theorem MidH.pushA(m:MidH lt la lb R na nb)(hA:Srt lt la){i:Nat}(hi:i<=na)(h:∀x∈lb.take nb,∀y∈(la.take na).drop i,lt y x=false):MidH lt la lb ((la.take na).drop i++R) i nb:=by
 have ht:Srt lt (la.take na):=gi (jy _ _) hA
 have hs:=agq (l:=la) hi
 have ht2:=ht
 unfold Srt at ht2
 rw[<-hs,dh]at ht2
 refine⟨?_,?_,λx hx y hy=>?_,λx hx y hy=>?_⟩
 .rw[<-agn (l:=la) hi,bx]
  exact h9 _ m.perm
 .exact dh.mpr ⟨ht2.2.1,m.srt,λx hx y hy=>m.geA x (List.mem_of_mem_drop hx) y hy⟩
 .rcases ax.mp hy with h1|h1
  .exact ht2.2.2 x hx y h1
  .exact m.geA x (by rw[<-hs];exact jv _ hx) y h1
 .rcases ax.mp hy with h1|h1
  .exact h x hx y h1
  .exact m.geB x hx y h1
theorem MidH.pushB(m:MidH lt la lb R na nb)(hB:Srt lt lb){i:Nat}(hi:i<=nb)(h:∀x∈la.take na,∀y∈(lb.take nb).drop i,lt y x=false):MidH lt la lb ((lb.take nb).drop i++R) na i:=by
 have ht:Srt lt (lb.take nb):=gi (jy _ _) hB
 have hs:=agq (l:=lb) hi
 have ht2:=ht
 unfold Srt at ht2
 rw[<-hs,dh]at ht2
 refine⟨?_,?_,λx hx y hy=>?_,λx hx y hy=>?_⟩
 .rw[<-agn (l:=lb) hi]
  refine(h9 _ m.perm).trans ?_
  rw[<-bx,<-bx]
  exact List.Perm.append_right _ List.perm_append_comm
 .exact dh.mpr ⟨ht2.2.1,m.srt,λx hx y hy=>m.geB x (List.mem_of_mem_drop hx) y hy⟩
 .rcases ax.mp hy with h1|h1
  .exact h x hx y h1
  .exact m.geA x hx y h1
 .rcases ax.mp hy with h1|h1
  .exact ht2.2.2 x hx y h1
  .exact m.geB x (by rw[<-hs];exact jv _ hx) y h1
theorem MidH.endA(m:MidH lt la lb R 0 nb)(hB:Srt lt lb):pq lt la lb (lb.take nb++R):=by
 have ht:Srt lt (lb.take nb):=gi (jy _ _) hB
 refine⟨?_,dh.mpr ⟨ht,m.srt,m.geB⟩⟩
 have p:=h9 (lb.take nb) m.perm
 rw[jt]at p
 refine p.trans ?_
 rw[<-bx]
 refine(List.Perm.append_right _ List.perm_append_comm).trans ?_
 rw[bx,df]
theorem MidH.endB(m:MidH lt la lb R na 0)(hA:Srt lt la):pq lt la lb (la.take na++R):=by
 have ht:Srt lt (la.take na):=gi (jy _ _) hA
 refine⟨?_,dh.mpr ⟨ht,m.srt,m.geA⟩⟩
 have p:=h9 (la.take na) m.perm
 rw[jt,<-bx,df]at p
 exact p
theorem MidH.firstB(m:MidH lt la lb R na 1)(o:aep lt)(hA:Srt lt la)(hB:Srt lt lb)(hl:∀y∈la,∀x∈lb.take 1,lt x y=true):pq lt la lb (lb.take 1++la.take na++R):=by
 have m2:=m.pushA hA (dq na) λx hx y hy=>o.asy _ _ (hl y (gt (List.mem_of_mem_drop hy)) x hx)
 rw[jt]at m2
 have:=m2.endA hB
 rw[bx]
 exact this
end
noncomputable def amh:Array Keyed->Array Keyed->StateT SortSt Sem (Array Keyed):=sortPriv% PySem.Builtin.mergeHi
section
variable{prog:Program}{w:World}{A:Around}{E:Value->Shared->Prop}{s:Shared}
variable{κ:SortKind}{mem:Keyed->Prop}{lt:Keyed->Keyed->Bool}
def xp(lt:Keyed->Keyed->Bool)(a b out:Array Keyed)(na nb:Nat):Prop:=MidH lt a.toList b.toList out.reverse.toList na nb/\0<na/\1<nb/\na<=a.size/\nb<=b.size
theorem zy{arr:Array Keyed}{n:Nat}{x:Keyed}(h:arr[n]?=some x):(arr.toList.take (n+1)).drop n=[x]:=by
 obtain⟨hi,e⟩:=bm.mp h
 have hl:n<arr.toList.length:=by simpa using hi
 rw[List.take_succ,List.drop_append,List.drop_eq_nil_of_le (by rw[b0];omega)]
 have e2:n-min n arr.size=0:=by omega
 simp[h,e2]
theorem ac0{arr:Array Keyed}(o:aep lt)(hs:Srt lt arr.toList){n:Nat}{x y:Keyed}(hx:arr[n]?=some x)(h:lt y x=false):∀z∈arr.toList.take (n+1),lt y z=false:=λz hz=>by
 obtain⟨i,hi⟩:=cp.mp hz
 have hlt:i<n+1:=by
  have:=(ae.mp hi).1
  rw[b0]at this
  omega
 rw[dw hlt]at hi
 exact o.tr z x y (vm o hs (show i<=n by omega) (by simpa using hi) hx) h
theorem afj(out arr:Array Keyed){i n:Nat}(h:i<=n):(out++(arr.extract i n).reverse).reverse.toList=(arr.toList.take n).drop i++out.reverse.toList:=by
 simp[List.take_drop,show i+(n-i)=n by omega]
theorem aef{arr:Array Keyed}{P:Keyed->Prop}{i n:Nat}(h:∀j z,i<=j->j<n->arr[j]?=some z->P z):∀z∈(arr.toList.take n).drop i,P z:=λz hz=>by
 obtain⟨k,hk⟩:=cp.mp hz
 rw[fq]at hk
 have hlt:i+k<n:=by
  have:=(ae.mp hk).1
  rw[b0]at this
  omega
 rw[dw hlt]at hk
 exact h (i+k) z (by omega) hlt (by simpa using hk)
theorem akk{a b out:Array Keyed}{na nb:Nat}{y:Keyed}(T:Two mem lt a b)(m:MidH lt a.toList b.toList out.reverse.toList (na+1) nb)(hy:a[na]?=some y)(h:∀x∈b.toList.take nb,lt y x=false):MidH lt a.toList b.toList (out.push y).reverse.toList na nb:=by
 have m2:=m.pushA T.sA (km na) λx hx u hu=>by
  rw[zy hy]at hu
  rw[ao.mp hu]
  exact h x hx
 rw[zy hy]at m2
 simpa using m2
theorem ana{a b out:Array Keyed}{na nb:Nat}{y:Keyed}(T:Two mem lt a b)(m:MidH lt a.toList b.toList out.reverse.toList na (nb+1))(hy:b[nb]?=some y)(h:∀x∈a.toList.take na,lt y x=false):MidH lt a.toList b.toList (out.push y).reverse.toList na nb:=by
 have m2:=m.pushB T.sB (km nb) λx hx u hu=>by
  rw[zy hy]at hu
  rw[ao.mp hu]
  exact h x hx
 rw[zy hy]at m2
 simpa using m2
theorem ac6{a b out:Array Keyed}{na nb:Nat}(T:Two mem lt a b)(m:MidH lt a.toList b.toList out.reverse.toList na nb)(h:na=0):pq lt a.toList b.toList (a.extract 0 na++b.extract 0 nb++out.reverse).toList:=by
 subst h
 have:=m.endA T.sB
 simpa using this
theorem as6{a b out:Array Keyed}{na nb:Nat}(T:Two mem lt a b)(m:MidH lt a.toList b.toList out.reverse.toList na nb)(h:nb=0):pq lt a.toList b.toList (a.extract 0 na++b.extract 0 nb++out.reverse).toList:=by
 subst h
 have:=m.endB T.sA
 simpa using this
theorem age{a b out:Array Keyed}{na nb:Nat}(o:aep lt)(T:Two mem lt a b)(m:MidH lt a.toList b.toList out.reverse.toList na nb)(h:nb=1):pq lt a.toList b.toList (b.extract 0 nb++a.extract 0 na++out.reverse).toList:=by
 subst h
 have pB:=T.pB
 have pA:=T.pA
 have hb0:b[0]?=some (b[0]'T.pB):=by simp[T.pB]
 have ha0:a[0]?=some (a[0]'T.pA):=by simp[T.pA]
 have:=m.firstB o T.sA T.sB λy hy x hx=>by
  have e1:=zy hb0
  rw[jt]at e1
  rw[e1]at hx
  rw[ao.mp hx]
  have hya:lt y a[0]=false:=xu o (yh T.sA 0) (sf ha0) y (by rw[jt];exact hy)
  cases q:lt b[0] y with
  | true=>rfl
  | false=>have:=o.tr _ _ _ hya q;rw[T.first _ _ hb0 ha0]at this;cases this
 simpa using this
theorem aeo(C:acy prog w A s κ mem lt)(o:aep lt){st:SortSt}(hk:kindOf st=κ){a b:Array Keyed}(T:Two mem lt a b){Q:Array Keyed->SortSt->Prop}
  (h:∀out st',SameG st st'->pq lt a.toList b.toList out.toList->Q out st'):wpS (model prog w) A E s (amh a b) Q st:=by
 refine a8 (wpS_lift (jz ⟨rfl,?_⟩))
 have memA:∀i z,a[i]?=some z->mem z:=λi z hz=>T.mA z (by obtain⟨h1,h2⟩:=bm.mp hz;rw[<-h2];simp)
 have memB:∀i z,b[i]?=some z->mem z:=λi z hz=>T.mB z (by obtain⟨h1,h2⟩:=bm.mp hz;rw[<-h2];simp)
 have hpA:=T.pA
 have hpB:=T.pB
 have hal:a[a.size-1]?=some (a[a.size-1]'(by omega)):=by simp
 refine a8 (o4 hal ?_)
 have m0:MidH lt a.toList b.toList (#[]:Array Keyed).reverse.toList (a.size-1+1) b.size:=by
  rw[show a.size-1+1=a.size by omega]
  exact⟨by simp,List.Pairwise.nil,by simp,by simp⟩
 have m1:=akk T m0 hal λx hx=>o.asy _ _ (T.last x (gt hx) _ hal)
 dsimp only
 refine np (λ(ha1:(a.size-1==0)=true)=>?_) (λ(ha1:¬(a.size-1==0)=true)=>?_)
 .exact bp (h _ _ (SameG.refl _) (ac6 T m1 (by simpa using ha1)))
 refine np (λ(hb1:(b.size==1)=true)=>?_) (λ(hb1:¬(b.size==1)=true)=>?_)
 .exact bp (h _ _ (SameG.refl _) (age o T m1 (by simpa using hb1)))
 have ha2:¬a.size-1=0:=by simpa using ha1
 have hb2:¬b.size=1:=by simpa using hb1
 refine a8 (wpS_get ?_)
 refine a8 (iu (gh (I:=λx c st'=>SameG st st'/\∃na nb out mg,c=(none,na,nb,out,mg)/\xp lt a b out na nb/\na+nb+x+1<=a.size+b.size)
  (Q:=λc st'=>SameG st st'/\∃res r,c=(some res,r)/\pq lt a.toList b.toList res.toList) ?step ?fin ?init) ?post)
 case init=>exact⟨SameG.refl _,(m8 _ _ _ _ ⟨rfl,⟨m1,by omega,by omega,by omega,by omega⟩,by omega⟩)⟩
 case fin=>
  intro c st' hIh
  refine hid λCg hCg=>?_
  obtain⟨_,na,nb,out,mg,rfl,⟨_,h1,h2,h3,h4⟩,h5⟩:=hIh
  refine hCg ?_
  omega
 case post=>
  intro c st' hIh
  refine hid λCg hCg=>?_
  obtain⟨sg,res,r,rfl,hm⟩:=hIh
  refine hCg ?_
  exact bp (h _ _ sg hm)
 case step=>
  intro x c st' _ hx hIh
  refine hid λCg hCg=>?_
  obtain⟨sg,na,nb,out,mg,rfl,L,hp⟩:=hIh
  refine hCg ?_
  dsimp only
  refine a8 (iu (gh (I:=λy c st'=>SameG st st'/\∃na' nb' out' ac bc,c=(none,na',nb',out',ac,bc)/\xp lt a b out' na' nb'/\na'+nb'<=na+nb)
   (Q:=λc st'=>SameG st st'/\((∃res r,c=(some res,r)/\pq lt a.toList b.toList res.toList)\/∃na' nb' out' ac bc,c=(none,na',nb',out',ac,bc)/\xp lt a b out' na' nb'/\na'+nb'<=na+nb)) ?istep ?ifin ?iinit) ?ipost)
  case iinit=>exact⟨sg,(l9 _ _ _ _ _ ⟨rfl,L,am _⟩)⟩
  case ifin=>
   rintro c st2 ⟨sg2,rest⟩
   exact⟨sg2,.inr rest⟩
  case istep=>
   intro y c st2 _ hy hIh
   refine hid λCg hCg=>?_
   obtain⟨sg2,na',nb',out',ac,bc,rfl,⟨m,l1,l2,l3,l4⟩,hp'⟩:=hIh
   refine hCg ?_
   obtain⟨n1,rfl⟩:∃n1,na'=n1+1:=⟨na'-1,by omega⟩
   obtain⟨n2,rfl⟩:∃n2,nb'=n2+1:=⟨nb'-1,by omega⟩
   dsimp only[Nat.add_sub_cancel]
   have hxb:b[n2]?=some (b[n2]'(by omega)):=by simp
   have hxa:a[n1]?=some (a[n1]'(by omega)):=by simp
   refine a8 (o4 hxb (a8 (o4 hxa (a8 (adj C (sg2.1.trans hk) (memB _ _ hxb) (memA _ _ hxa) ?_)))))
   cases hl:lt b[n2] a[n1]with
   | true=>
    dsimp only
    simp only[if_true]
    refine a8 (o4 hxa ?_)
    have m2:=akk T m hxa (ac0 o T.sB hxb (o.asy _ _ hl))
    try simp only[Nat.add_sub_cancel]
    refine np (λ(he:(n1==0)=true)=>?_) (λ(he:¬(n1==0)=true)=>?_)
    .exact bp ⟨sg2,.inl (mw _ _ ⟨rfl,ac6 T m2 (by simpa using he)⟩)⟩
    .have he':¬n1=0:=by simpa using he
     have L2:xp lt a b (out'.push a[n1]) n1 (n2+1):=⟨m2,by omega,by omega,by omega,by omega⟩
     split
     .exact bp ⟨sg2,.inr (l9 _ _ _ _ _ ⟨rfl,L2,by omega⟩)⟩
     .exact bp ⟨sg2,(l9 _ _ _ _ _ ⟨rfl,L2,by omega⟩)⟩
   | false=>
    dsimp only
    simp only[az,if_false]
    refine a8 (o4 hxb ?_)
    have m2:=ana T m hxb (ac0 o T.sA hxa hl)
    try simp only[Nat.add_sub_cancel]
    refine np (λ(he:(n2==1)=true)=>?_) (λ(he:¬(n2==1)=true)=>?_)
    .exact bp ⟨sg2,.inl (mw _ _ ⟨rfl,age o T m2 (by simpa using he)⟩)⟩
    .have he':¬n2=1:=by simpa using he
     have L2:xp lt a b (out'.push b[n2]) (n1+1) n2:=⟨m2,by omega,by omega,by omega,by omega⟩
     split
     .exact bp ⟨sg2,.inr (l9 _ _ _ _ _ ⟨rfl,L2,by omega⟩)⟩
     .exact bp ⟨sg2,(l9 _ _ _ _ _ ⟨rfl,L2,by omega⟩)⟩
  case ipost=>
   intro c st2 hIh
   refine hid λCg hCg=>?_
   (rcases hIh with ⟨sg2,(⟨res,r,rfl,hm⟩|⟨na',nb',out',ac,bc,rfl,L2,hp2⟩)⟩)<;>refine hCg ?_
   .dsimp only
    exact bp ⟨sg2,(mw _ _ ⟨rfl,hm⟩)⟩
   .dsimp only
    refine a8 (wpS_lift (jz ⟨rfl,?_⟩))
    refine a8 (iu (gh (I:=λy c st'=>SameG st st'/\∃na2 nb2 out2 mg2 ac bc,c=(none,na2,nb2,out2,mg2,ac,bc)/\xp lt a b out2 na2 nb2/\na2+nb2+y<=na'+nb')
     (Q:=λc st'=>SameG st st'/\((∃res r,c=(some res,r)/\pq lt a.toList b.toList res.toList)\/∃na2 nb2 out2 mg2 ac bc,c=(none,na2,nb2,out2,mg2,ac,bc)/\xp lt a b out2 na2 nb2/\na2+nb2+1<=na'+nb')) ?jstep ?jfin ?jinit) ?jpost)
    case jinit=>exact⟨sg2,(l9 _ _ _ _ _ ⟨_,rfl,L2,am _⟩)⟩
    case jfin=>
     intro c st3 hIh
     refine hid λCg hCg=>?_
     obtain⟨sg3,na2,nb2,out2,mg2,ac2,bc2,rfl,L3,hp3⟩:=hIh
     refine hCg ?_
     exact⟨sg3,.inr (l9 _ _ _ _ _ ⟨_,rfl,L3,by omega⟩)⟩
    case jpost=>
     intro c st3 hIh
     refine hid λCg hCg=>?_
     (rcases hIh with ⟨sg3,(⟨res,r,rfl,hm⟩|⟨na2,nb2,out2,mg2,ac2,bc2,rfl,L3,hp3⟩)⟩)<;>refine hCg ?_
     .dsimp only
      exact bp ⟨sg3,(mw _ _ ⟨rfl,hm⟩)⟩
     .dsimp only
      refine a8 (aa6 ?_)
      exact bp ⟨sg3.gal _,(m8 _ _ _ _ ⟨rfl,L3,by omega⟩)⟩
    case jstep=>
     intro y c st3 _ hy hIh
     refine hid λCg hCg=>?_
     obtain⟨sg3,na2,nb2,out2,mg2,ac2,bc2,rfl,⟨m3,l1,l2,l3,l4⟩,hp3⟩:=hIh
     refine hCg ?_
     dsimp only
     have hxb:b[nb2-1]?=some (b[nb2-1]'(by omega)):=by simp
     have rest2:∀(out4:Array Keyed)(na3 nb3 mg3 k k1:Nat)(st4:SortSt),SameG st st4->MidH lt a.toList b.toList out4.reverse.toList na3 nb3->0<na3->1<nb3->na3<=a.size->nb3<=b.size->(∀z,a[na3-1]?=some z->∀u∈b.toList.take nb3,lt z u=false)->na3+nb3+y+1<=na'+nb'->
       wpS (model prog w) A E s (do
        let z2 <-elem' a (na3-1)
        if (na3-1==0)=true then
         pure (ForInStep.done (some (a.extract 0 (na3-1)++b.extract 0 nb3++(out4.push z2).reverse),na3-1,nb3,out4.push z2,mg3,k,k1))
        else if (decide (k<7)&&decide (k1<7))=true then pure (ForInStep.done (none,na3-1,nb3,out4.push z2,mg3,k,k1))
        else pure (ForInStep.yield (none,na3-1,nb3,out4.push z2,mg3,k,k1)))
       (λr st'=>match r with
        | .done c'=>SameG st st'/\((∃res r,c'=(some res,r)/\pq lt a.toList b.toList res.toList)\/∃na2 nb2 out2 mg2 ac bc,c'=(none,na2,nb2,out2,mg2,ac,bc)/\xp lt a b out2 na2 nb2/\na2+nb2+1<=na'+nb')
        | .yield c'=>SameG st st'/\∃na2 nb2 out2 mg2 ac bc,c'=(none,na2,nb2,out2,mg2,ac,bc)/\xp lt a b out2 na2 nb2/\na2+nb2+(y+1)<=na'+nb') st4:=by
      intro out4 na3 nb3 mg3 k k1 st4 sg4 m5 q1 q2 q3 q4 hu hp5
      have hxa:a[na3-1]?=some (a[na3-1]'(by omega)):=by simp
      refine a8 (o4 hxa ?_)
      have m6:=akk (na:=na3-1) T (by rw[show na3-1+1=na3 by omega];exact m5) hxa (hu _ hxa)
      refine np (λ(he:(na3-1==0)=true)=>?_) (λ(he:¬(na3-1==0)=true)=>?_)
      .exact bp ⟨sg4,.inl (mw _ _ ⟨rfl,ac6 T m6 (by simpa using he)⟩)⟩
      .have he':¬na3-1=0:=by simpa using he
       have L6:xp lt a b (out4.push a[na3-1]) (na3-1) nb3:=⟨m6,by omega,by omega,by omega,by omega⟩
       split
       .exact bp ⟨sg4,.inr (l9 _ _ _ _ _ ⟨_,rfl,L6,by omega⟩)⟩
       .exact bp ⟨sg4,(l9 _ _ _ _ _ ⟨_,rfl,L6,by omega⟩)⟩
     have rest:∀(out3:Array Keyed)(na3 mg3 k:Nat)(st4:SortSt),SameG st st4->MidH lt a.toList b.toList out3.reverse.toList na3 nb2->0<na3->na3<=a.size->(∀z∈a.toList.take na3,lt b[nb2-1] z=false)->na3+nb2+y<=na'+nb'->
       wpS (model prog w) A E s (do
        let z <-elem' b (nb2-1)
        if (nb2-1==1)=true then
         pure (ForInStep.done (some (b.extract 0 (nb2-1)++a.extract 0 na3++(out3.push z).reverse),na3,nb2-1,out3.push z,mg3,k,bc2))
        else do
         let z1 <-elem' a (na3-1)
         let x <-zw true z1 b 0 (nb2-1) (nb2-1-1)
         match x with
         | some at1=>
          if nb2-1-at1>0 then
           if (at1==1)=true then
            pure (ForInStep.done (some (b.extract 0 at1++a.extract 0 na3++(out3.push z++(b.extract at1 (nb2-1)).reverse).reverse),na3,at1,(out3.push z++(b.extract at1 (nb2-1)).reverse),mg3,k,nb2-1-at1))
           else if (at1==0)=true then
            pure (ForInStep.done (some (a.extract 0 na3++b.extract 0 at1++(out3.push z++(b.extract at1 (nb2-1)).reverse).reverse),na3,at1,(out3.push z++(b.extract at1 (nb2-1)).reverse),mg3,k,nb2-1-at1))
           else do
            let z2 <-elem' a (na3-1)
            if (na3-1==0)=true then
             pure (ForInStep.done (some (a.extract 0 (na3-1)++b.extract 0 at1++((out3.push z++(b.extract at1 (nb2-1)).reverse).push z2).reverse),na3-1,at1,(out3.push z++(b.extract at1 (nb2-1)).reverse).push z2,mg3,k,nb2-1-at1))
            else if (decide (k<7)&&decide (nb2-1-at1<7))=true then pure (ForInStep.done (none,na3-1,at1,(out3.push z++(b.extract at1 (nb2-1)).reverse).push z2,mg3,k,nb2-1-at1))
            else pure (ForInStep.yield (none,na3-1,at1,(out3.push z++(b.extract at1 (nb2-1)).reverse).push z2,mg3,k,nb2-1-at1))
          else do
           let z2 <-elem' a (na3-1)
           if (na3-1==0)=true then
            pure (ForInStep.done (some (a.extract 0 (na3-1)++b.extract 0 (nb2-1)++((out3.push z).push z2).reverse),na3-1,(nb2-1),(out3.push z).push z2,mg3,k,nb2-1-at1))
           else if (decide (k<7)&&decide (nb2-1-at1<7))=true then pure (ForInStep.done (none,na3-1,(nb2-1),(out3.push z).push z2,mg3,k,nb2-1-at1))
           else pure (ForInStep.yield (none,na3-1,(nb2-1),(out3.push z).push z2,mg3,k,nb2-1-at1))
         | _=>pure (ForInStep.done (some (a.extract 0 na3++b.extract 0 (nb2-1)++(out3.push z).reverse),na3,nb2-1,out3.push z,mg3,k,bc2)))
       (λr st'=>match r with
        | .done c'=>SameG st st'/\((∃res r,c'=(some res,r)/\pq lt a.toList b.toList res.toList)\/∃na2 nb2 out2 mg2 ac bc,c'=(none,na2,nb2,out2,mg2,ac,bc)/\xp lt a b out2 na2 nb2/\na2+nb2+1<=na'+nb')
        | .yield c'=>SameG st st'/\∃na2 nb2 out2 mg2 ac bc,c'=(none,na2,nb2,out2,mg2,ac,bc)/\xp lt a b out2 na2 nb2/\na2+nb2+(y+1)<=na'+nb') st4:=by
      intro out3 na3 mg3 k st4 sg4 m4 q1 q3 hz4 hp4
      refine a8 (o4 hxb ?_)
      have m5:=ana (nb:=nb2-1) T (by rw[show nb2-1+1=nb2 by omega];exact m4) hxb hz4
      refine np (λ(he:(nb2-1==1)=true)=>?_) (λ(he:¬(nb2-1==1)=true)=>?_)
      .exact bp ⟨sg4,.inl (mw _ _ ⟨rfl,age o T m5 (by simpa using he)⟩)⟩
      have he':¬nb2-1=1:=by simpa using he
      have hxa:a[na3-1]?=some (a[na3-1]'(by omega)):=by simp
      refine a8 (o4 hxa ?_)
      refine a8 (ab8 (st:=st4) (base:=0) (n:=nb2-1) (hint:=nb2-1-1) C o (sg4.1.trans hk) (memA _ _ hxa) (by omega) (λi z hi hz=>memB _ z hz) (by omega) (λi j y z hij hj hy hz=>vm o T.sB (show 0+i<=0+j by omega) hy hz) λat1 hkn h1 h2=>?_)
      dsimp only
      have m6:=m5.pushB T.sB (i:=at1) hkn λx hx u hu=>by
       have hu2:lt u a[na3-1]=false:=aef (P:=λu=>lt u a[na3-1]=false) (λi z hi hn hz=>h2 i z hi hn (by rw[Nat.zero_add];exact hz)) u hu
       exact ac0 o T.sA hxa hu2 x (by rw[show na3-1+1=na3 by omega];exact hx)
      have e6:(out3.push b[nb2-1]++(b.extract at1 (nb2-1)).reverse).reverse.toList=(b.toList.take (nb2-1)).drop at1++(out3.push b[nb2-1]).reverse.toList:=afj _ _ hkn
      rw[<-e6]at m6
      have hu6:∀z,a[na3-1]?=some z->∀u∈b.toList.take at1,lt z u=false:=λz hz=>by
       rw[hxa]at hz
       cases hz
       intro u hu
       refine o.asy _ _ (v7 (base:=0) (P:=λu=>lt u a[na3-1]=true) h1 u ?_)
       rw[jt]
       exact hu
      refine np (λ(hk0:nb2-1-at1>0)=>?_) (λ(hk0:¬(nb2-1-at1>0))=>?_)
      .refine np (λ(he2:(at1==1)=true)=>?_) (λ(he2:¬(at1==1)=true)=>?_)
       .exact bp ⟨sg4,.inl (mw _ _ ⟨rfl,age o T m6 (by simpa using he2)⟩)⟩
       have he3:¬at1=1:=by simpa using he2
       refine np (λ(he4:(at1==0)=true)=>?_) (λ(he4:¬(at1==0)=true)=>?_)
       .exact bp ⟨sg4,.inl (mw _ _ ⟨rfl,as6 T m6 (by simpa using he4)⟩)⟩
       have he5:¬at1=0:=by simpa using he4
       exact rest2 _ na3 at1 mg3 k _ st4 sg4 m6 q1 (by omega) q3 (by omega) hu6 (by omega)
      .have e0:at1=nb2-1:=by omega
       rw[e0]at hu6
       exact rest2 _ na3 (nb2-1) mg3 k _ st4 sg4 m5 q1 (by omega) q3 (by omega) hu6 (by omega)
     refine np (λ(hmg:mg2>1)=>?_) (λ(hmg:¬(mg2>1))=>?_)
     .refine a8 (aa6 ?_)
      have sg4:SameG st (t8 st3 (mg2-1)):=sg3.gal _
      refine a8 (o4 hxb ?_)
      refine a8 (vq (st:=t8 st3 (mg2-1)) (base:=0) (n:=na2) (hint:=na2-1) C o (sg4.1.trans hk) (memB _ _ hxb) (by omega) (λi z hi hz=>memA _ z hz) (by omega) (λi j y z hij hj hy hz=>vm o T.sA (show 0+i<=0+j by omega) hy hz) λat1 hkn h1 h2=>?_)
      have m4:=m3.pushA T.sA (i:=at1) hkn λx hx u hu=>by
       have hu2:lt b[nb2-1] u=true:=aef (P:=λu=>lt b[nb2-1] u=true) (λi z hi hn hz=>h2 i z hi hn (by rw[Nat.zero_add];exact hz)) u hu
       exact ac0 o T.sB hxb (o.asy _ _ hu2) x (by rw[show nb2-1+1=nb2 by omega];exact hx)
      have e4:(out2++(a.extract at1 na2).reverse).reverse.toList=(a.toList.take na2).drop at1++out2.reverse.toList:=afj _ _ hkn
      rw[<-e4]at m4
      have hz4:∀z∈a.toList.take at1,lt b[nb2-1] z=false:=λz hz=>v7 (base:=0) (P:=λz=>lt b[nb2-1] z=false) h1 z (by rw[jt];exact hz)
      dsimp only
      refine np (λ(hk0:na2-at1>0)=>?_) (λ(hk0:¬(na2-at1>0))=>?_)
      .refine np (λ(he:(at1==0)=true)=>?_) (λ(he:¬(at1==0)=true)=>?_)
       .exact bp ⟨sg4,.inl (mw _ _ ⟨rfl,ac6 T m4 (by simpa using he)⟩)⟩
       have he':¬at1=0:=by simpa using he
       refine iu (rest _ at1 (mg2-1) _ _ sg4 m4 (by omega) (by omega) hz4 (by omega)) λr st' hr=>?_
       cases r<;>exact hr
      .have e0:at1=na2:=by omega
       rw[e0]at hz4
       refine iu (rest out2 na2 (mg2-1) _ _ sg4 m3 (by omega) (by omega) hz4 hp3) λr st' hr=>?_
       cases r<;>exact hr
     .refine a8 (aa6 ?_)
      have sg4:SameG st (t8 st3 (mg2)):=sg3.gal _
      refine a8 (o4 hxb ?_)
      refine a8 (vq (st:=t8 st3 (mg2)) (base:=0) (n:=na2) (hint:=na2-1) C o (sg4.1.trans hk) (memB _ _ hxb) (by omega) (λi z hi hz=>memA _ z hz) (by omega) (λi j y z hij hj hy hz=>vm o T.sA (show 0+i<=0+j by omega) hy hz) λat1 hkn h1 h2=>?_)
      have m4:=m3.pushA T.sA (i:=at1) hkn λx hx u hu=>by
       have hu2:lt b[nb2-1] u=true:=aef (P:=λu=>lt b[nb2-1] u=true) (λi z hi hn hz=>h2 i z hi hn (by rw[Nat.zero_add];exact hz)) u hu
       exact ac0 o T.sB hxb (o.asy _ _ hu2) x (by rw[show nb2-1+1=nb2 by omega];exact hx)
      have e4:(out2++(a.extract at1 na2).reverse).reverse.toList=(a.toList.take na2).drop at1++out2.reverse.toList:=afj _ _ hkn
      rw[<-e4]at m4
      have hz4:∀z∈a.toList.take at1,lt b[nb2-1] z=false:=λz hz=>v7 (base:=0) (P:=λz=>lt b[nb2-1] z=false) h1 z (by rw[jt];exact hz)
      dsimp only
      refine np (λ(hk0:na2-at1>0)=>?_) (λ(hk0:¬(na2-at1>0))=>?_)
      .refine np (λ(he:(at1==0)=true)=>?_) (λ(he:¬(at1==0)=true)=>?_)
       .exact bp ⟨sg4,.inl (mw _ _ ⟨rfl,ac6 T m4 (by simpa using he)⟩)⟩
       have he':¬at1=0:=by simpa using he
       refine iu (rest _ at1 (mg2) _ _ sg4 m4 (by omega) (by omega) hz4 (by omega)) λr st' hr=>?_
       cases r<;>exact hr
      .have e0:at1=na2:=by omega
       rw[e0]at hz4
       refine iu (rest out2 na2 (mg2) _ _ sg4 m3 (by omega) (by omega) hz4 hp3) λr st' hr=>?_
       cases r<;>exact hr
end
noncomputable def Fk(f:Keyed->Int)(xs:Array Keyed)(i:Nat):Int:=(xs[i]?.map f).getD 0
noncomputable abbrev fl(f:Keyed->Int)(x y:Keyed):Bool:=decide (f x<f y)
theorem afw(f:Keyed->Int):aep (fl f):=⟨λx y h=>by simp at h⊢;omega,λx y z h1 h2=>by simp at h1 h2⊢;omega⟩
def Seg(f:Keyed->Int)(xs:Array Keyed)(lo n:Nat):Prop:=∀i j,lo<=i->i<=j->j<lo+n->Fk f xs i<=Fk f xs j
def Dsc(f:Keyed->Int)(xs:Array Keyed)(lo n:Nat):Prop:=∀i j,lo<=i->i<=j->j<lo+n->Fk f xs j<=Fk f xs i
structure TB(κ:SortKind)(a₀:Array Keyed)(st:SortSt):Prop where
 perm:(arrOf st).Perm a₀
 kind:kindOf st=κ
 failed:failedOf st=none
structure Fr(lo:Nat)(st st':SortSt):Prop where
 pend:pendingOf st'=pendingOf st
 low:∀i,i<lo->(arrOf st')[i]?=(arrOf st)[i]?
theorem Fr.refl(lo:Nat)(st:SortSt):Fr lo st st:=⟨rfl,λ_ _=>rfl⟩
theorem Fr.trans{lo:Nat}{a b c:SortSt}(h:Fr lo a b)(k:Fr lo b c):Fr lo a c:=⟨k.pend.trans h.pend,λi hi=>(k.low i hi).trans (h.low i hi)⟩
theorem TB.size{κ:SortKind}{a₀:Array Keyed}{st:SortSt}(h:TB κ a₀ st):(arrOf st).size=a₀.size:=h.perm.size_eq
theorem TB.set{κ:SortKind}{a₀:Array Keyed}{st:SortSt}(h:TB κ a₀ st){xs:Array Keyed}(hp:xs.Perm (arrOf st)):TB κ a₀ (setArr st xs):=⟨hp.trans h.perm,h.kind,h.failed⟩
theorem wo{f:Keyed->Int}{xs ys:Array Keyed}{i j:Nat}(h:xs[i]?=ys[j]?):Fk f xs i=Fk f ys j:=by unfold Fk;rw[h]
theorem aj4{f:Keyed->Int}{xs:Array Keyed}{i j:Nat}(hj:j<=xs.size)(k:Nat):Fk f (mirror xs i j ((j-i)/2)) k=if i<=k/\k<j then Fk f xs (i+j-1-k)else Fk f xs k:=by
 have e:=getElem?_mirror_all (i:=i) hj k
 split
 .rename_i h;rw[if_pos h]at e;exact wo e
 .rename_i h;rw[if_neg h]at e;exact wo e
theorem wc{f:Keyed->Int}{xs:Array Keyed}{i j:Nat}(hj:j<=xs.size)(he:∀k,i<=k->k<j->Fk f xs k=Fk f xs (j-1))(k:Nat):Fk f (mirror xs i j ((j-i)/2)) k=Fk f xs k:=by
 rw[aj4 hj]
 split
 .rw[he _ (by omega) (by omega),he k (by omega) (by omega)]
 .rfl
theorem ann{f:Keyed->Int}{xs:Array Keyed}{c d:Nat}(hs:c<xs.size)(hd:d<=c)(k:Nat) :
  Fk f (bubble xs c d) k=if k=c-d then Fk f xs c else if c-d<k/\k<=c then Fk f xs (k-1)else Fk f xs k:=by
 have e:=getElem?_bubble hs d hd k
 split
 .rename_i h;rw[if_pos h]at e;exact wo e
 .rename_i h
  rw[if_neg h]at e
  split
  .rename_i h2;rw[if_pos h2]at e;exact wo e
  .rename_i h2;rw[if_neg h2]at e;exact wo e
theorem Fr.mir{lo:Nat}{st:SortSt}{i j:Nat}(hi:lo<=i)(hj:j<=(arrOf st).size):Fr lo st (setArr st (mirror (arrOf st) i j ((j-i)/2))):=
 ⟨rfl,λk hk=>by show(mirror (arrOf st) i j ((j-i)/2))[k]?=_;rw[getElem?_mirror_all hj,if_neg (by omega)]⟩
theorem Fr.bub{lo:Nat}{st:SortSt}{c d:Nat}(hs:c<(arrOf st).size)(hd:lo<=c-d)(hd2:d<=c):Fr lo st (setArr st (bubble (arrOf st) c d)):=
 ⟨rfl,λk hk=>by show(bubble (arrOf st) c d)[k]?=_;rw[getElem?_bubble hs d hd2,if_neg (by omega),if_neg (by omega)]⟩
section
variable{prog:Program}{w:World}{A:Around}{E:Value->Shared->Prop}{s:Shared}
variable{κ:SortKind}{mem:Keyed->Prop}{f:Keyed->Int}{a₀:Array Keyed}
theorem TB.at{st:SortSt}(h:TB κ a₀ st)(hm:∀x∈a₀.toList,mem x){i:Nat}(hi:i<a₀.size):∃x,(arrOf st)[i]?=some x/\mem x/\f x=Fk f (arrOf st) i:=by
 have hi':i<(arrOf st).size:=by rw[h.size];exact hi
 have e:(arrOf st)[i]?=some (arrOf st)[i]:=getElem?_pos _ i hi'
 refine⟨_,e,hm _ ((jl.mp h.perm).mem_iff.mp (by simp)),?_⟩
 unfold Fk
 rw[e]
 rfl
theorem aap(C:acy prog w A s κ mem (fl f))(hm:∀x∈a₀.toList,mem x){st:SortSt}(B:TB κ a₀ st){i j:Nat}(hi:i<a₀.size)(hj:j<a₀.size){Q:Option Bool->SortSt->Prop}
  (h:Q (some (decide (Fk f (arrOf st) i<Fk f (arrOf st) j))) st):wpS (model prog w) A E s (ltAt' i j) Q st:=by
 obtain⟨x,e1,m1,k1⟩:=B.at (f:=f) hm hi
 obtain⟨y,e2,m2,k2⟩:=B.at (f:=f) hm hj
 rw[ltAt'_eq]
 refine a8 (wpS_get (a8 (o4 e1 (a8 (o4 e2 (adj C B.kind m1 m2 ?_))))))
 rw[<-k1,<-k2]at h
 exact h
theorem acg{st:SortSt}{i j:Nat}{Q:Unit->SortSt->Prop}(h:Q () (setArr st (mirror (arrOf st) i j ((j-i)/2)))):wpS (model prog w) A E s (reverseSlice' i j) Q st:=by
 rw[reverseSlice'_eq];exact wpS_modify h
noncomputable abbrev UpS:=Option (Option Nat)×Nat
noncomputable abbrev DnS:=Option (Option Nat)×Nat×Nat
noncomputable def ac3(lo a nrem:Nat):StateT SortSt Sem UpS:=forIn [a:nrem] ((none,a):UpS) λ_ c=>do
 let q <-ltAt' (lo+c.snd) (lo+c.snd-1)
 match q with
 | some b=>if b=true then pure (.done (none,c.snd))else pure (.yield (none,c.snd+1))
 | _=>pure (.done (some none,c.snd))
noncomputable def adq(lo n nrem:Nat):StateT SortSt Sem (Option Nat):=do
 reverseSlice' lo (lo+n)
 let c <-ac3 lo n nrem
 match c.fst with
 | some r=>pure r
 | none=>pure (some c.snd)
noncomputable def agv(lo n nrem:Nat):StateT SortSt Sem DnS:=forIn [n:nrem] ((none,n,0):DnS) λ_ c=>do
 let q <-ltAt' (lo+c.snd.fst) (lo+c.snd.fst-1)
 match q with
 | some b=>
  if b=true then
   if c.snd.snd>0 then do
    reverseSlice' (lo+c.snd.fst-(c.snd.snd+1)) (lo+c.snd.fst)
    pure (.yield (none,c.snd.fst+1,0))
   else pure (.yield (none,c.snd.fst+1,0))
  else do
   let q2 <-ltAt' (lo+c.snd.fst-1) (lo+c.snd.fst)
   match q2 with
   | some b2=>if b2=true then pure (.done (none,c.snd.fst,c.snd.snd))else pure (.yield (none,c.snd.fst+1,c.snd.snd+1))
   | _=>pure (.done (some none,c.snd.fst,c.snd.snd))
 | _=>pure (.done (some none,c.snd.fst,c.snd.snd))
noncomputable def adf(lo n nrem:Nat):StateT SortSt Sem (Option Nat):=do
 liftM (rule "list.sort.descending-run")
 let c <-agv lo (n+1) nrem
 match c.fst with
 | some r=>pure r
 | none=>
  if c.snd.snd>0 then do
   reverseSlice' (lo+c.snd.fst-(c.snd.snd+1)) (lo+c.snd.fst)
   adq lo c.snd.fst nrem
  else adq lo c.snd.fst nrem
theorem alk(lo nrem:Nat):countRun' lo nrem=(do
  let c <-ac3 lo 1 nrem
  match c.fst with
  | some r=>pure r
  | none=>
   if (c.snd==nrem)=true then pure (some c.snd)
   else if c.snd>1 then do
    let q <-ltAt' lo (lo+c.snd-1)
    match q with
    | some b=>if b=true then pure (some c.snd)else do
      reverseSlice' lo (lo+c.snd)
      adf lo c.snd nrem
    | _=>pure none
   else adf lo c.snd nrem):=by
 rw[countRun'_eq]
 dsimp only
 unfold adf adq agv ac3
 congr 1
 funext c
 obtain⟨r,n⟩:=c
 cases r with
 | some r=>rfl
 | none=>
  dsimp only
  split
  .rfl
  .split
   .congr 1
    funext x
    cases x with
    | none=>rfl
    | some b=>
     dsimp only
     split
     .rfl
     .congr 1
      funext _r
      (congr 1;funext _u;congr 1;congr 1;funext c2;obtain⟨r2,n2,q2⟩:=c2;cases r2 with
       | some r2=>rfl
       | none=>(dsimp only;split;(congr 1;funext _v;(congr 1;funext _w;congr 1;(funext c3;obtain⟨r3,n3⟩:=c3;cases r3<;>rfl)));(congr 1;funext _w;congr 1;(funext c3;obtain⟨r3,n3⟩:=c3;cases r3<;>rfl))))
   ·(congr 1;funext _u;congr 1;congr 1;funext c2;obtain⟨r2,n2,q2⟩:=c2;cases r2 with
     | some r2=>rfl
     | none=>(dsimp only;split;(congr 1;funext _v;(congr 1;funext _w;congr 1;(funext c3;obtain⟨r3,n3⟩:=c3;cases r3<;>rfl)));(congr 1;funext _w;congr 1;(funext c3;obtain⟨r3,n3⟩:=c3;cases r3<;>rfl))))
theorem am1(C:acy prog w A s κ mem (fl f))(hm:∀x∈a₀.toList,mem x){st:SortSt}{lo a nrem:Nat}{Q:UpS->SortSt->Prop}(hn:lo+nrem<=a₀.size)(ha:1<=a)(han:a<=nrem)(B:TB κ a₀ st)(hs:Seg f (arrOf st) lo a)
  (h:∀n,a<=n->n<=nrem->Seg f (arrOf st) lo n->(n=nrem\/Fk f (arrOf st) (lo+n)<Fk f (arrOf st) (lo+n-1))->Q (none,n) st):wpS (model prog w) A E s (ac3 lo a nrem) Q st:=by
 unfold ac3
 refine gh (I:=λx c st'=>st'=st/\c=(none,x)/\Seg f (arrOf st) lo x) ?step ?fin ⟨rfl,rfl,hs⟩
 case fin=>
  rintro c st' ⟨rfl,rfl,hs'⟩
  rw[show max a nrem=nrem from Nat.max_eq_right (by omega)]at hs'⊢
  exact h nrem han (am _) hs' (.inl rfl)
 case step=>
  rintro x c st' hax hxn ⟨rfl,rfl,hs'⟩
  dsimp only
  refine a8 (aap C hm B (by omega) (by omega) ?_)
  by_cases hl:Fk f (arrOf st') (lo+x)<Fk f (arrOf st') (lo+x-1)
  .simp only[hl,decide_true,if_true]
   exact bp (h x hax (by omega) hs' (.inr hl))
  .simp only[hl,decide_false,az,if_false]
   refine bp ⟨rfl,rfl,λi j hi hij hj=>?_⟩
   by_cases hjx:j<lo+x
   .exact hs' i j hi hij hjx
   .obtain rfl:j=lo+x:=by omega
    by_cases hi':i=lo+x
    .rw[hi'];exact ji _
    .have:=hs' i (lo+x-1) hi (by omega) (by omega);omega
noncomputable abbrev aed(f:Keyed->Int)(κ:SortKind)(a₀:Array Keyed)(lo nrem:Nat)(st:SortSt)(Q:Option Nat->SortSt->Prop):Prop:=
 ∀m st',TB κ a₀ st'->Fr lo st st'->1<=m->m<=nrem->Seg f (arrOf st') lo m->Q (some m) st'
theorem aay(C:acy prog w A s κ mem (fl f))(hm:∀x∈a₀.toList,mem x){st0 st:SortSt}{lo n nrem:Nat}{Q:Option Nat->SortSt->Prop}(hn:lo+nrem<=a₀.size)(h1:1<=n)(hnn:n<=nrem)(B:TB κ a₀ st)(F:Fr lo st0 st)(hs:Dsc f (arrOf st) lo n)
  (h:aed f κ a₀ lo nrem st0 Q):wpS (model prog w) A E s (adq lo n nrem) Q st:=by
 unfold adq
 have hsz:lo+n<=(arrOf st).size:=by rw[B.size];omega
 refine a8 (acg ?_)
 have B':TB κ a₀ (setArr st (mirror (arrOf st) lo (lo+n) ((lo+n-lo)/2))):=B.set (mirror_perm _ _ _ _)
 have F':=F.trans (Fr.mir (am lo) hsz)
 refine a8 (am1 C hm hn h1 hnn B' ?_ λm hm1 hm2 hsm _=>bp (h m _ B' F' (by omega) hm2 hsm))
 intro i j hi hij hj
 show Fk f (mirror (arrOf st) lo (lo+n) ((lo+n-lo)/2)) i<=Fk f (mirror (arrOf st) lo (lo+n) ((lo+n-lo)/2)) j
 rw[aj4 hsz,aj4 hsz,if_pos (by omega),if_pos (by omega)]
 exact hs _ _ (by omega) (by omega) (by omega)
theorem v8{xs ys:Array Keyed}{lo x:Nat}(h1:1<=x)(hs:Dsc f xs lo x)(hk:∀k,Fk f ys k=Fk f xs k)(hl:Fk f xs (lo+x)<=Fk f xs (lo+x-1)):Dsc f ys lo (x+1):=by
 intro i j hi hij hj
 rw[hk,hk]
 by_cases hjx:j<lo+x
 .exact hs i j hi hij hjx
 .obtain rfl:j=lo+x:=by omega
  by_cases hi':i=lo+x
  .rw[hi'];exact ji _
  .have:=hs i (lo+x-1) hi (by omega) (by omega);omega
theorem ahj(C:acy prog w A s κ mem (fl f))(hm:∀x∈a₀.toList,mem x){st0 st:SortSt}{lo n nrem:Nat}{Q:DnS->SortSt->Prop}(hn:lo+nrem<=a₀.size)(h1:1<=n)(hnn:n<=nrem)(B:TB κ a₀ st)(F:Fr lo st0 st)(hs:Dsc f (arrOf st) lo n)
  (h:∀m q st',TB κ a₀ st'->Fr lo st0 st'->n<=m->m<=nrem->Dsc f (arrOf st') lo m->q+1<=m->(∀i,lo+m-(q+1)<=i->i<lo+m->Fk f (arrOf st') i=Fk f (arrOf st') (lo+m-1))->Q (none,m,q) st') :
  wpS (model prog w) A E s (agv lo n nrem) Q st:=by
 unfold agv
 refine gh (I:=λx c st'=>∃q,c=(none,x,q)/\TB κ a₀ st'/\Fr lo st0 st'/\Dsc f (arrOf st') lo x/\q+1<=x/\∀i,lo+x-(q+1)<=i->i<lo+x->Fk f (arrOf st') i=Fk f (arrOf st') (lo+x-1)) ?step ?fin ⟨0,rfl,B,F,hs,by omega,λi h1 h2=>by congr 1;omega⟩
 case fin=>
  intro c st' hIh
  refine hid λCg hCg=>?_
  obtain⟨q,rfl,B',F',hs',hq,he⟩:=hIh
  refine hCg ?_
  rw[show max n nrem=nrem from Nat.max_eq_right (by omega)]at hs' hq he⊢
  exact h nrem q st' B' F' hnn (am _) hs' hq he
 case step=>
  intro x c st' hax hxn hIh
  refine hid λCg hCg=>?_
  obtain⟨q,rfl,B',F',hs',hq,he⟩:=hIh
  refine hCg ?_
  dsimp only
  have hsz:lo+x<=(arrOf st').size:=by rw[B'.size];omega
  refine a8 (aap C hm B' (by omega) (by omega) ?_)
  by_cases hl:Fk f (arrOf st') (lo+x)<Fk f (arrOf st') (lo+x-1)
  .simp only[hl,decide_true,if_true]
   refine np (λ(hq0:q>0)=>?_) (λ(hq0:¬(q>0))=>?_)
   .exact a8 (acg (bp ⟨0,rfl,B'.set (mirror_perm _ _ _ _),F'.trans (Fr.mir (by omega) hsz),v8 (by omega) hs' (wc hsz he) (Int.le_of_lt hl),by omega,λi h1 h2=>by congr 1;omega⟩))
   .exact bp ⟨0,rfl,B',F',v8 (by omega) hs' (λ_=>rfl) (Int.le_of_lt hl),by omega,λi h1 h2=>by congr 1;omega⟩
  .simp only[hl,decide_false,az,if_false]
   refine a8 (aap C hm B' (by omega) (by omega) ?_)
   by_cases hg:Fk f (arrOf st') (lo+x-1)<Fk f (arrOf st') (lo+x)
   .simp only[hg,decide_true,if_true]
    exact bp (h x q st' B' F' hax (by omega) hs' hq he)
   .simp only[hg,decide_false,az,if_false]
    have hx:Fk f (arrOf st') (lo+x)=Fk f (arrOf st') (lo+x-1):=by omega
    refine bp ⟨q+1,rfl,B',F',v8 (by omega) hs' (λ_=>rfl) (by omega),by omega,λi h1 h2=>?_⟩
    rw[show lo+(x+1)-1=lo+x by omega]
    by_cases hix:i=lo+x
    .rw[hix]
    .rw[hx];exact he i (by omega) (by omega)
theorem aa8(C:acy prog w A s κ mem (fl f))(hm:∀x∈a₀.toList,mem x){st0 st:SortSt}{lo n nrem:Nat}{Q:Option Nat->SortSt->Prop}(hn:lo+nrem<=a₀.size)(hnn:n+1<=nrem)(B:TB κ a₀ st)(F:Fr lo st0 st)(hs:Dsc f (arrOf st) lo (n+1))
  (h:aed f κ a₀ lo nrem st0 Q):wpS (model prog w) A E s (adf lo n nrem) Q st:=by
 unfold adf
 refine a8 (wpS_lift (jz ⟨rfl,?_⟩))
 refine a8 (ahj C hm hn (by omega) hnn B F hs λm q st' B' F' hm1 hm2 hs' hq he=>?_)
 dsimp only
 have hsz:lo+m<=(arrOf st').size:=by rw[B'.size];omega
 refine np (λ(hq0:q>0)=>?_) (λ(hq0:¬(q>0))=>?_)
 .refine a8 (acg (aay C hm hn (by omega) hm2 (B'.set (mirror_perm _ _ _ _)) (F'.trans (Fr.mir (by omega) hsz)) ?_ h))
  intro i j hi hij hj
  show Fk f (mirror (arrOf st') _ _ _) j<=Fk f (mirror (arrOf st') _ _ _) i
  rw[wc hsz he,wc hsz he]
  exact hs' i j hi hij hj
 .exact aay C hm hn (by omega) hm2 B' F' hs' h
theorem apu(C:acy prog w A s κ mem (fl f))(hm:∀x∈a₀.toList,mem x){st:SortSt}{lo nrem:Nat}{Q:Option Nat->SortSt->Prop}(hn:lo+nrem<=a₀.size)(h1:1<=nrem)(B:TB κ a₀ st)(h:aed f κ a₀ lo nrem st Q) :
  wpS (model prog w) A E s (countRun' lo nrem) Q st:=by
 rw[alk]
 refine a8 (am1 C hm hn (am 1) h1 B (λi j hi hij hj=>by obtain rfl:i=j:=by omega
                                                        exact ji _) λn hn1 hn2 hsn hor=>?_)
 dsimp only
 by_cases hnn:n=nrem
 .rw[if_pos (by simpa using hnn)]
  exact bp (h n st B (Fr.refl _ _) hn1 hn2 hsn)
 .rw[if_neg (by simpa using hnn)]
  have hlt:Fk f (arrOf st) (lo+n)<Fk f (arrOf st) (lo+n-1):=hor.resolve_left hnn
  refine np (λ(hgt:n>1)=>?_) (λ(hgt:¬(n>1))=>?_)
  .refine a8 (aap C hm B (by omega) (by omega) ?_)
   by_cases hr:Fk f (arrOf st) lo<Fk f (arrOf st) (lo+n-1)
   .simp only[hr,decide_true,if_true]
    exact bp (h n st B (Fr.refl _ _) hn1 hn2 hsn)
   .simp only[hr,decide_false,az,if_false]
    have hsz:lo+n<=(arrOf st).size:=by rw[B.size];omega
    have hall:∀k,lo<=k->k<lo+n->Fk f (arrOf st) k=Fk f (arrOf st) (lo+n-1):=by
     intro k hlk hk
     have a1:=hsn lo k (by omega) hlk hk
     have a2:=hsn k (lo+n-1) (by omega) (by omega) (by omega)
     omega
    refine a8 (acg (aa8 C hm hn (by omega) (B.set (mirror_perm _ _ _ _)) (Fr.mir (am lo) hsz) (v8 (xs:=arrOf st) hn1 ?_ (wc hsz hall) (Int.le_of_lt hlt)) h))
    intro i j hi hij hj
    rw[hall i (by omega) (by omega),hall j (by omega) hj]
    exact ji _
  .obtain rfl:n=1:=by omega
   refine aa8 C hm hn (by omega) B (Fr.refl _ _) (v8 (xs:=arrOf st) hn1 ?_ (λ_=>rfl) (Int.le_of_lt hlt)) h
   intro i j hi hij hj
   obtain rfl:i=j:=by omega
   exact ji _
theorem apc(C:acy prog w A s κ mem (fl f))(hm:∀x∈a₀.toList,mem x){st:SortSt}{lo n ok:Nat}{Q:Bool->SortSt->Prop}(hn:lo+n<=a₀.size)(hok:ok<=n)(B:TB κ a₀ st)(hs:Seg f (arrOf st) lo ok)
  (h:∀st',TB κ a₀ st'->Fr lo st st'->Seg f (arrOf st') lo n->Q true st'):wpS (model prog w) A E s (binarySort' lo n ok) Q st:=by
 rw[binarySort'_eq]
 refine a8 (iu (gh (I:=λk c st'=>c=(none,())/\TB κ a₀ st'/\Fr lo st st'/\Seg f (arrOf st') lo (min k n)) (Q:=λc st'=>c=(none,())/\TB κ a₀ st'/\Fr lo st st'/\Seg f (arrOf st') lo n) ?step ?fin ?init) ?post)
 case post=>
  intro c st' hIh
  refine hid λCg hCg=>?_
  obtain⟨rfl,B',F',hs'⟩:=hIh
  refine hCg ?_
  exact bp (h st' B' F' hs')
 case init=>
  refine⟨rfl,B,Fr.refl _ _,λi j hi hij hj=>?_⟩
  by_cases h1:ok=0
  .obtain rfl:i=j:=by omega
   exact ji _
  .exact hs i j hi hij (by omega)
 case fin=>
  intro c st' hIh
  refine hid λCg hCg=>?_
  obtain⟨hc,B',F',hs'⟩:=hIh
  refine hCg ?_
  refine⟨hc,B',F',?_⟩
  rwa [show min (max (max ok 1) n) n=n from Nat.min_eq_right (Nat.le_max_right _ _)]at hs'
 case step=>
  intro k c st' hak hkn hIh
  refine hid λCg hCg=>?_
  obtain⟨rfl,B',F',hs'⟩:=hIh
  refine hCg ?_
  rw[show min k n=k from fx (by omega)]at hs'
  have hk:lo+k<a₀.size:=by omega
  refine a8 (iu (gh (I:=λx c st''=>st''=st'/\∃l r,c=(none,l,r)/\l<=r/\r<=k/\r-l<=k-x/\(∀i,i<l->Fk f (arrOf st') (lo+i)<=Fk f (arrOf st') (lo+k))/\∀i,r<=i->i<k->Fk f (arrOf st') (lo+k)<Fk f (arrOf st') (lo+i))
   (Q:=λc st''=>st''=st'/\∃l r,c=(none,l,r)/\l<=k/\(∀i,i<l->Fk f (arrOf st') (lo+i)<=Fk f (arrOf st') (lo+k))/\∀i,l<=i->i<k->Fk f (arrOf st') (lo+k)<Fk f (arrOf st') (lo+i)) ?istep ?ifin ?iinit) ?ipost)
  case iinit=>exact⟨rfl,(mw 0 k ⟨rfl,by omega,by omega,by omega,λi hi=>by omega,λi h1 h2=>by omega⟩)⟩
  case ifin=>
   intro c st'' hIh
   refine hid λCg hCg=>?_
   obtain⟨rfl,l,r,rfl,hlr,hrk,hmm,hlo,hhi⟩:=hIh
   refine hCg ?_
   obtain rfl:l=r:=by omega
   exact⟨rfl,(mw l l ⟨rfl,hrk,hlo,hhi⟩)⟩
  case istep=>
   intro x c st'' _ hxk hIh
   refine hid λCg hCg=>?_
   obtain⟨rfl,l,r,rfl,hlr,hrk,hmm,hlo,hhi⟩:=hIh
   refine hCg ?_
   dsimp only
   refine np (λ(hge:l>=r)=>?_) (λ(hge:¬(l>=r))=>?_)
   .obtain rfl:l=r:=by omega
    exact bp ⟨rfl,(mw l l ⟨rfl,hrk,hlo,hhi⟩)⟩
   .refine a8 (aap C hm B' hk (by omega) ?_)
    by_cases hl:Fk f (arrOf st'') (lo+k)<Fk f (arrOf st'') (lo+(l+r)/2)
    .simp only[hl,decide_true,if_true]
     refine bp ⟨rfl,(mw l ((l+r)/2) ⟨rfl,by omega,by omega,by omega,hlo,λi h1 h2=>?_⟩)⟩
     have:=hs' (lo+(l+r)/2) (lo+i) (by omega) (by omega) (by omega)
     omega
    .simp only[hl,decide_false,az,if_false]
     refine bp ⟨rfl,(mw ((l+r)/2+1) r ⟨rfl,by omega,by omega,by omega,λi h1=>?_,hhi⟩)⟩
     have:=hs' (lo+i) (lo+(l+r)/2) (by omega) (by omega) (by omega)
     omega
  case ipost=>
   intro c st'' hIh
   refine hid λCg hCg=>?_
   obtain⟨rfl,l,r,rfl,hlk,hlo,hhi⟩:=hIh
   refine hCg ?_
   show wpS _ _ _ _ (do moveDown' (lo+k) (lo+l);pure (ForInStep.yield (none,()))) _ _
   rw[moveDown'_eq]
   have hks:lo+k<(arrOf st'').size:=by rw[B'.size];exact hk
   refine a8 (wpS_modify (bp ⟨rfl,B'.set (bubble_perm _ _ _),F'.trans (Fr.bub hks (by omega) (by omega)),?_⟩))
   rw[show min (k+1) n=k+1 from fx (by omega)]
   intro i j hi hij hj
   show Fk f (bubble (arrOf st'') (lo+k) (lo+k-(lo+l))) i<=Fk f (bubble (arrOf st'') (lo+k) (lo+k-(lo+l))) j
   rw[ann hks (by omega),ann hks (by omega),show lo+k-(lo+k-(lo+l))=lo+l by omega]
   have hlo':∀i,lo<=i->i<lo+l->Fk f (arrOf st'') i<=Fk f (arrOf st'') (lo+k):=λi a1 a2=>by
    have:=hlo (i-lo) (by omega)
    rwa [show lo+(i-lo)=i by omega]at this
   have hhi':∀i,lo+l<=i->i<lo+k->Fk f (arrOf st'') (lo+k)<Fk f (arrOf st'') i:=λi a1 a2=>by
    have:=hhi (i-lo) (by omega) (by omega)
    rwa [show lo+(i-lo)=i by omega]at this
   repeat' split
   all_goals first
    | (exfalso;omega)
    | exact ji _
    | exact hlo' _ (by omega) (by omega)
    | exact Int.le_of_lt (hhi' _ (by omega) (by omega))
    | exact hs' _ _ (by omega) (by omega) (by omega)
end
noncomputable def qx(arr:Array Keyed)(l:List (Keyed×Nat))(sa:Nat):Array Keyed:=l.foldl (λa q=>a.setIfInBounds (sa+q.2) q.1) arr
theorem qu(sa:Nat):∀(l:List Keyed)(o:Nat)(arr:Array Keyed),sa+o+l.length<=arr.size->∀k,(qx arr (l.zipIdx o) sa)[k]?=if sa+o<=k/\k<sa+o+l.length then l[k-(sa+o)]? else arr[k]?
 | [],o,arr,h,k=>by
  show arr[k]?=_
  rw[if_neg (by show ¬(sa+o<=k/\k<sa+o+0);omega)]
 | x::l,o,arr,h,k=>by
  have h':sa+o+(l.length+1)<=arr.size:=by simpa using h
  show(qx (arr.setIfInBounds (sa+o) x) (l.zipIdx (o+1)) sa)[k]?=_
  rw[qu sa l (o+1) _ (by simp;omega) k]
  by_cases hk:k=sa+o
  .rw[if_neg (by omega),if_pos (by simp;omega),hk]
   simp[Array.getElem?_setIfInBounds]
   omega
  .by_cases h2:sa+(o+1)<=k/\k<sa+(o+1)+l.length
   .rw[if_pos h2,if_pos (by simp;omega)]
    obtain⟨d,hd⟩:∃d,k-(sa+o)=d+1:=⟨k-(sa+o)-1,by omega⟩
    rw[hd,List.getElem?_cons_succ]
    congr 1
    omega
   .rw[if_neg h2,if_neg (by simp;omega),Array.getElem?_setIfInBounds_ne (by omega)]
theorem afk{arr:Array Keyed}{l:List Keyed}{sa:Nat}(h:sa+l.length<=arr.size):(qx arr l.zipIdx sa).toList=arr.toList.take sa++l++arr.toList.drop (sa+l.length):=by
 apply j4
 intro k
 have e:=qu sa l 0 arr (by omega) k
 rw[bb,e]
 have hs:arr.toList.length=arr.size:=by simp
 by_cases h1:k<sa
 .rw[if_neg (by omega),bx,cr (by simp;omega),dw h1,bb]
 .by_cases h2:k<sa+l.length
  .rw[if_pos (by omega),bx,cb (by simp;omega),cr (by simp;omega)]
   congr 1
   simp
   omega
  .rw[if_neg (by omega),cb (by simp;omega),fq,bb]
   congr 1
   simp
   omega
theorem aeg{arr:Array Keyed}{l:List Keyed}{sa e:Nat}(he:sa<=e)(h:e<=arr.size)(hp:l.Perm (arr.extract sa e).toList):(qx arr l.zipIdx sa).Perm arr:=by
 have hl:l.length=e-sa:=by rw[hp.length_eq,au,jo,fx h]
 rw[jl,afk (by omega)]
 have e2:arr.toList=arr.toList.take sa++(arr.extract sa e).toList++arr.toList.drop (sa+l.length):=by
  rw[hl,show sa+(e-sa)=e by omega]
  have:(arr.extract sa e).toList=(arr.toList.drop sa).take (e-sa):=by simp
  rw[this]
  conv=>lhs;rw[<-df sa arr.toList,<-df (e-sa) (arr.toList.drop sa),List.drop_drop,show sa+(e-sa)=e by omega]
  rw[bx]
 refine List.Perm.trans ?_ (List.Perm.of_eq e2.symm)
 exact(h9 _ hp).append_right _
theorem ae3{f:Keyed->Int}{arr:Array Keyed}{l:List Keyed}{sa e:Nat}(he:sa<=e)(h:e<=arr.size)(hp:l.Perm (arr.extract sa e).toList){k:Nat}(h1:sa<=k)(h2:k<e):∃q,sa<=q/\q<e/\Fk f (qx arr l.zipIdx sa) k=Fk f arr q:=by
 have hl:l.length=e-sa:=by rw[hp.length_eq,au,jo,fx h]
 have e1:=qu sa l 0 arr (by omega) k
 rw[if_pos (by omega)]at e1
 have hk:k-(sa+0)<l.length:=by omega
 have hx:l[k-(sa+0)]∈(arr.extract sa e).toList:=hp.mem_iff.mp (dv hk)
 obtain⟨q,hq⟩:=cp.mp hx
 rw[bb]at hq
 have hq2:q<(arr.extract sa e).size:=(bm.mp hq).1
 have hq3:q<e-sa:=by rw[jo,fx h]at hq2;exact hq2
 rw[Array.getElem?_extract,if_pos (by rw[fx h];exact hq3)]at hq
 refine⟨sa+q,by omega,by omega,wo ?_⟩
 rw[e1,hq,getElem?_pos l _ hk]
theorem aht{f:Keyed->Int}{arr:Array Keyed}{l:List Keyed}{sa e:Nat}(he:sa<=e)(h:e<=arr.size)(hl:l.length=e-sa){k:Nat}(h1:k<sa\/e<=k):(qx arr l.zipIdx sa)[k]?=arr[k]?:=by
 rw[qu sa l 0 arr (by omega) k,if_neg (by omega)]
theorem agz{f:Keyed->Int}{arr:Array Keyed}{l:List Keyed}{sa e:Nat}(he:sa<=e)(h:e<=arr.size)(hl:l.length=e-sa)(hs:Srt (fl f) l):Seg f (qx arr l.zipIdx sa) sa (e-sa):=by
 intro i j hi hij hj
 have e1:=qu sa l 0 arr (by omega) i
 have e2:=qu sa l 0 arr (by omega) j
 rw[if_pos (by omega)]at e1 e2
 have hi2:i-(sa+0)<l.length:=by omega
 have hj2:j-(sa+0)<l.length:=by omega
 rw[getElem?_pos l _ hi2]at e1
 rw[getElem?_pos l _ hj2]at e2
 unfold Fk
 rw[e1,e2]
 show f _<=f _
 by_cases hq:i=j
 .subst hq;exact ji _
 .have:=List.pairwise_iff_getElem.mp hs (i-(sa+0)) (j-(sa+0)) hi2 hj2 (by omega)
  simpa using this
section
variable{prog:Program}{w:World}{A:Around}{E:Value->Shared->Prop}{s:Shared}
variable{κ:SortKind}{mem:Keyed->Prop}{f:Keyed->Int}{a₀:Array Keyed}
theorem ata{st st':SortSt}{Q:PUnit->SortSt->Prop}(h:Q ⟨⟩ st'):wpS (model prog w) A E s (set st':StateT SortSt Sem PUnit) Q st:=by
 unfold wpS;rw[StateT.run_set];exact af ⟨rfl,h⟩
theorem ug{xs:Array Keyed}{i:Nat}{x:Keyed}(h:xs[i]?=some x):Fk f xs i=f x:=by unfold Fk;rw[h];rfl
theorem ae7(C:acy prog w A s κ mem (fl f))(hm:∀x∈a₀.toList,mem x){st:SortSt}{i sa na pa sb nb pb:Nat}(B:TB κ a₀ st)(hi:(pendingOf st)[i]?=some (sa,na,pa))(hi1:(pendingOf st)[i+1]?=some (sb,nb,pb))(hsb:sb=sa+na)(hna:1<=na)(hnb:1<=nb)(hsz:sb+nb<=a₀.size)
  (sA:Seg f (arrOf st) sa na) (sB:Seg f (arrOf st) sb nb) {Q:Bool->SortSt->Prop}
  (h:∀st',TB κ a₀ st'->pendingOf st'=((pendingOf st).setIfInBounds i (sa,na+nb,pa)).eraseIdxIfInBounds (i+1)->(∀k,k<sa\/sb+nb<=k->(arrOf st')[k]?=(arrOf st)[k]?)->Seg f (arrOf st') sa (na+nb)->Q true st') :
  wpS (model prog w) A E s (mergeAt' i) Q st:=by
 refine a8 (wpS_get ?_)
 rw[hi,hi1]
 dsimp only
 refine a8 (ata ?_)
 have B1:TB κ a₀ (SortSt.mk' (kindOf st) (arrOf st) (((pendingOf st).setIfInBounds i (sa,na+nb,pa)).eraseIdxIfInBounds (i+1)) (gallopOf st) (failedOf st)):=⟨B.perm,B.kind,B.failed⟩
 have h1:=h _ B1 rfl
 have h2:∀(g:Nat)(arr':Array Keyed),arr'.Perm (arrOf st)->(∀k,k<sa\/sb+nb<=k->arr'[k]?=(arrOf st)[k]?)->Seg f arr' sa (na+nb)->Q true (SortSt.mk' (kindOf st) arr' (((pendingOf st).setIfInBounds i (sa,na+nb,pa)).eraseIdxIfInBounds (i+1)) g (failedOf st)):=
  λg arr' hp ho hs=>h (SortSt.mk' (kindOf st) arr' (((pendingOf st).setIfInBounds i (sa,na+nb,pa)).eraseIdxIfInBounds (i+1)) g (failedOf st)) ⟨hp.trans B.perm,B.kind,B.failed⟩ rfl ho hs
 have hsize:=B.size
 show wpS (model prog w) A E s _ Q (SortSt.mk' (kindOf st) (arrOf st) (((pendingOf st).setIfInBounds i (sa,na+nb,pa)).eraseIdxIfInBounds (i+1)) (gallopOf st) (failedOf st))
 generalize hst1:SortSt.mk' (kindOf st) (arrOf st) (((pendingOf st).setIfInBounds i (sa,na+nb,pa)).eraseIdxIfInBounds (i+1)) (gallopOf st) (failedOf st)=st1 at B1 h1⊢
 obtain⟨xb,exb,mxb,fxb⟩:=B.at (f:=f) hm (show sb<a₀.size by omega)
 have memA:∀i z,(arrOf st)[i]?=some z->mem z:=λi z hz=>hm z ((jl.mp B.perm).mem_iff.mp (by obtain⟨h1,h2⟩:=bm.mp hz;rw[<-h2];simp))
 have isA:arrOf st1=arrOf st:=by rw[<-hst1]
 refine a8 (o4 exb (a8 (vq (st:=st1) (base:=sa) (n:=na) (hint:=0) C (afw f) B1.kind mxb (by omega) (λi z hi hz=>memA _ z hz) (by omega) (λi j y z hij hj hy hz=>?_) λk hkn g1 g2=>?_)))
 .have:=sA (sa+i) (sa+j) (by omega) (by omega) (by omega)
  rw[ug hy,ug hz]at this
  simpa using this
 have g1':∀q,sa<=q->q<sa+k->Fk f (arrOf st) q<=Fk f (arrOf st) sb:=λq q1 q2=>by
  obtain⟨z,ez,_,fz⟩:=B.at (f:=f) hm (show q<a₀.size by omega)
  have:=g1 (q-sa) z (by omega) (by rw[show sa+(q-sa)=q by omega];exact ez)
  rw[<-fxb,<-fz]
  simpa using this
 dsimp only
 refine np (λ(hk0:(na-k==0)=true)=>?_) (λ(hk0:¬(na-k==0)=true)=>?_)
 .have hk1:na-k=0:=by simpa using hk0
  refine bp (h1 (λq _=>by rw[isA]) ?_)
  rw[isA]
  intro i j hi hij hj
  by_cases hj2:j<sb
  .exact sA i j hi hij (by omega)
  .by_cases hi2:i<sb
   .have a1:=g1' i hi (by omega)
    have a2:=sB sb j (am _) (by omega) (by omega)
    omega
   .exact sB i j (by omega) hij (by omega)
 have hk1:k<na:=by have:¬na-k=0:=by simpa using hk0
                   omega
 obtain⟨xl,exl,mxl,fxl⟩:=B.at (f:=f) hm (show sb-1<a₀.size by omega)
 have exl':(arrOf st)[sa+k+(na-k)-1]?=some xl:=by rw[show sa+k+(na-k)-1=sb-1 by rw[jn,Nat.add_sub_cancel' (gc hk1),<-hsb]];exact exl
 refine a8 (o4 exl' (a8 (ab8 (st:=st1) (base:=sb) (n:=nb) (hint:=nb-1) C (afw f) B1.kind mxl (by omega) (λi z hi hz=>memA _ z hz) (by omega) (λi j y z hij hj hy hz=>?_) λn2 hn2 g3 g4=>?_)))
 .have:=sB (sb+i) (sb+j) (by omega) (by omega) (by omega)
  rw[ug hy,ug hz]at this
  simpa using this
 have g4':∀q,sb+n2<=q->q<sb+nb->Fk f (arrOf st) (sb-1)<=Fk f (arrOf st) q:=λq q1 q2=>by
  obtain⟨z,ez,_,fz⟩:=B.at (f:=f) hm (show q<a₀.size by omega)
  have:=g4 (q-sb) z (by omega) (by omega) (by rw[show sb+(q-sb)=q by omega];exact ez)
  rw[<-fxl,<-fz]
  simpa using this
 dsimp only
 refine np (λ(hn0:(n2==0)=true)=>?_) (λ(hn0:¬(n2==0)=true)=>?_)
 .have hn1:n2=0:=by simpa using hn0
  refine bp (h1 (λq _=>by rw[isA]) ?_)
  rw[isA]
  intro i j hi hij hj
  by_cases hj2:j<sb
  .exact sA i j hi hij (by omega)
  .by_cases hi2:i<sb
   .have a1:=sA i (sb-1) hi (by omega) (by omega)
    have a2:=g4' j (by omega) (by omega)
    omega
   .exact sB i j (by omega) hij (by omega)
 have hn1:1<=n2:=by have:¬n2=0:=by simpa using hn0
                    omega
 have ga:∀q,((arrOf st).extract (sa+k) sb)[q]?=if q<sb-(sa+k)then(arrOf st)[sa+k+q]? else none:=λq=>by
  rw[Array.getElem?_extract]
  have:min sb (arrOf st).size=sb:=fx (by omega)
  rw[this]
 have gb:∀q,((arrOf st).extract sb (sb+n2))[q]?=if q<n2 then(arrOf st)[sb+q]? else none:=λq=>by
  rw[Array.getElem?_extract]
  have:min (sb+n2) (arrOf st).size-sb=n2:=by rw[fx (by omega)];exact Nat.add_sub_cancel_left _ _
  rw[this]
 have za:((arrOf st).extract (sa+k) sb).size=sb-(sa+k):=by rw[jo,fx (by omega)]
 have zb:((arrOf st).extract sb (sb+n2)).size=n2:=by rw[jo,fx (by omega)];exact Nat.add_sub_cancel_left _ _
 have inA:∀z∈((arrOf st).extract (sa+k) sb).toList,∃q,sa+k<=q/\q<sb/\(arrOf st)[q]?=some z:=λz hz=>by
  obtain⟨q,hq⟩:=cp.mp hz
  rw[bb,ga]at hq
  by_cases hq2:q<sb-(sa+k)
  .rw[if_pos hq2]at hq;exact⟨_,by omega,by omega,hq⟩
  .rw[if_neg hq2]at hq;cases hq
 have inB:∀z∈((arrOf st).extract sb (sb+n2)).toList,∃q,q<n2/\(arrOf st)[sb+q]?=some z:=λz hz=>by
  obtain⟨q,hq⟩:=cp.mp hz
  rw[bb,gb]at hq
  by_cases hq2:q<n2
  .rw[if_pos hq2]at hq;exact⟨_,hq2,hq⟩
  .rw[if_neg hq2]at hq;cases hq
 have srtOf:∀(lo m:Nat),lo+m<=(arrOf st).size->Seg f (arrOf st) lo m->Srt (fl f) ((arrOf st).extract lo (lo+m)).toList:=λlo m hlm hs=>by
  refine List.pairwise_iff_getElem.mpr λi j hi hj hij=>?_
  have zi:((arrOf st).extract lo (lo+m)).toList.length=m:=by rw[au,jo,fx hlm];exact Nat.add_sub_cancel_left _ _
  have:=hs (lo+i) (lo+j) (by omega) (by omega) (by omega)
  rw[ug (getElem?_pos (arrOf st) (lo+i) (by omega)),ug (getElem?_pos (arrOf st) (lo+j) (by omega))]at this
  simpa using this
 have T:Two mem (fl f) ((arrOf st).extract (sa+k) sb) ((arrOf st).extract sb (sb+n2)):=by
  refine⟨λz hz=>?_,λz hz=>?_,?_,srtOf sb n2 (by omega) λi j hi hij hj=>sB i j hi hij (by omega),by omega,by omega,λx y hx hy=>?_,λy hy x hx=>?_⟩
  .obtain⟨q,_,_,hq⟩:=inA z hz
   exact memA q z hq
  .obtain⟨q,_,hq⟩:=inB z hz
   exact memA _ z hq
  .have:=srtOf (sa+k) (na-k) (by omega) λi j hi hij hj=>sA i j (by omega) hij (by omega)
   rwa [show sa+k+(na-k)=sb by rw[jn,Nat.add_sub_cancel' (gc hk1),<-hsb]]at this
  .rw[gb,if_pos (by omega)]at hx
   rw[ga,if_pos (by omega)]at hy
   have e0:x=xb:=by rw[Nat.add_zero,exb]at hx;exact(cm hx).symm
   rw[e0]
   exact g2 k y (am _) hk1 (by simpa using hy)
  .obtain⟨q,hq1,hq⟩:=inB y hy
   rw[za,ga,if_pos (by omega),show sa+k+(sb-(sa+k)-1)=sb-1 by rw[<-Nat.add_sub_assoc (by omega),Nat.add_sub_cancel' (by omega)],exl]at hx
   rw[<-cm hx]
   exact g3 q y hq1 hq
 have whole:((arrOf st).extract (sa+k) sb).toList++((arrOf st).extract sb (sb+n2)).toList=((arrOf st).extract (sa+k) (sb+n2)).toList:=by
  rw[<-Array.toList_append,Array.extract_append_extract]
  congr 2<;>omega
 have fin:∀(out:Array Keyed)(st':SortSt),SameG st1 st'->pq (fl f) ((arrOf st).extract (sa+k) sb).toList ((arrOf st).extract sb (sb+n2)).toList out.toList->Q true (setArr st' (qx (arrOf st') out.toList.zipIdx (sa+k))):=by
  intro out st' G M
  have hp:out.toList.Perm ((arrOf st).extract (sa+k) (sb+n2)).toList:=by rw[<-whole];exact M.1
  have hl:out.toList.length=sb+n2-(sa+k):=by rw[hp.length_eq,au,jo,fx (by omega)]
  have e1:setArr st' (qx (arrOf st') out.toList.zipIdx (sa+k))=SortSt.mk' (kindOf st) (qx (arrOf st) out.toList.zipIdx (sa+k)) (((pendingOf st).setIfInBounds i (sa,na+nb,pa)).eraseIdxIfInBounds (i+1)) (gallopOf st') (failedOf st):=by
   show SortSt.mk' (kindOf st') (qx (arrOf st') _ _) (pendingOf st') (gallopOf st') (failedOf st')=_
   rw[G.1,G.2.1,G.2.2.1,G.2.2.2,<-hst1]
  rw[e1]
  have sM:=agz (f:=f) (arr:=arrOf st) (show sa+k<=sb+n2 by omega) (by omega) hl M.2
  have from':∀q,sa+k<=q->q<sb+n2->∃p,sa+k<=p/\p<sb+n2/\Fk f (qx (arrOf st) out.toList.zipIdx (sa+k)) q=Fk f (arrOf st) p:=λq q1 q2=>ae3 (f:=f) (show sa+k<=sb+n2 by omega) (by omega) hp q1 q2
  have out':∀q,q<sa+k\/sb+n2<=q->(qx (arrOf st) out.toList.zipIdx (sa+k))[q]?=(arrOf st)[q]?:=λq hq=>aht (f:=f) (show sa+k<=sb+n2 by omega) (by omega) hl hq
  refine h2 _ _ (aeg (show sa+k<=sb+n2 by omega) (by omega) hp) (λq hq=>out' q (by omega)) ?_
  have lowAll:∀i p,sa<=i->i<sa+k->sa+k<=p->p<sb+nb->Fk f (arrOf st) i<=Fk f (arrOf st) p:=λi p i1 i2 p1 p2=>by
   by_cases hp2:p<sb
   .exact sA i p i1 (by omega) (by omega)
   .have a1:=g1' i i1 i2
    have a2:=sB sb p (am _) (by omega) (by omega)
    omega
  have hiAll:∀p j,sa<=p->p<sb+n2->sb+n2<=j->j<sb+nb->Fk f (arrOf st) p<=Fk f (arrOf st) j:=λp j p1 p2 j1 j2=>by
   by_cases hp2:p<sb
   .have a1:=sA p (sb-1) p1 (by omega) (by omega)
    have a2:=g4' j j1 j2
    omega
   .exact sB p j (by omega) (by omega) (by omega)
  intro i j hi hij hj
  by_cases hi2:i<sa+k
  .rw[wo (f:=f) (out' i (.inl hi2))]
   by_cases hj2:j<sa+k
   .rw[wo (f:=f) (out' j (.inl hj2))]
    exact sA i j hi hij (by omega)
   .by_cases hj3:j<sb+n2
    .obtain⟨p,p1,p2,ep⟩:=from' j (by omega) hj3
     rw[ep]
     exact lowAll i p hi hi2 p1 (by omega)
    .rw[wo (f:=f) (out' j (.inr (by omega)))]
     exact lowAll i j hi hi2 (by omega) (by omega)
  .by_cases hi3:i<sb+n2
   .by_cases hj3:j<sb+n2
    .exact sM i j (by omega) hij (by omega)
    .obtain⟨p,p1,p2,ep⟩:=from' i (by omega) hi3
     rw[ep,wo (f:=f) (out' j (.inr (by omega)))]
     exact hiAll p j (by omega) p2 (by omega) (by omega)
   .rw[wo (f:=f) (out' i (.inr (by omega))),wo (f:=f) (out' j (.inr (by omega)))]
    exact sB i j (by omega) hij (by omega)
 have done:∀(out:Array Keyed)(st':SortSt),SameG st1 st'->pq (fl f) ((arrOf st).extract (sa+k) sb).toList ((arrOf st).extract sb (sb+n2)).toList out.toList->
   wpS (model prog w) A E s (do
    modify λz=>setArr z (qx (arrOf z) out.toList.zipIdx (sa+k))
    let z <-get
    pure (failedOf z).isNone) Q st':=by
  intro out st' G M
  refine a8 (wpS_modify (a8 (wpS_get (bp ?_))))
  have e:(failedOf (setArr st' (qx (arrOf st') out.toList.zipIdx (sa+k)))).isNone=true:=by
   show(failedOf st').isNone=true
   rw[G.2.2.2,B1.failed]
   rfl
  rw[e]
  exact fin out st' G M
 refine np (λ(hle:na-k<=n2)=>?_) (λ(hle:¬(na-k<=n2))=>?_)
 .exact a8 (ae8 C (afw f) B1.kind T done)
 .exact a8 (aeo C (afw f) B1.kind T done)
end
def ajp:Nat->List (Nat×Nat×Nat)->Nat->Prop
 | a,[],b=>a=b
 | a,e::r,b=>e.1=a/\1<=e.2.1/\ajp (a+e.2.1) r b
theorem tile_app:∀{l1 l2:List (Nat×Nat×Nat)} {a b:Nat},ajp a (l1++l2) b↔∃c,ajp a l1 c/\ajp c l2 b
 | [],l2,a,b=>⟨λh=>⟨a,rfl,h⟩,λ⟨c,h1,h2⟩=>by cases h1;exact h2⟩
 | e::r,l2,a,b=>⟨λh=>by
   obtain⟨c,h1,h2⟩:=tile_app.mp h.2.2
   exact⟨c,⟨h.1,h.2.1,h1⟩,h2⟩,λ⟨c,h1,h2⟩=>⟨h1.1,h1.2.1,tile_app.mpr ⟨c,h1.2.2,h2⟩⟩⟩
theorem ym:∀{l:List (Nat×Nat×Nat)} {a b:Nat},ajp a l b->a+l.length<=b
 | [],a,b,h=>by cases h;exact am _
 | e::r,a,b,h=>by
  have:=ym h.2.2
  have:=h.2.1
  simp only[b8]
  omega
theorem xx:∀{l:List (Nat×Nat×Nat)} {a b:Nat},ajp a l b->∀e∈l,a<=e.1/\e.1+e.2.1<=b
 | [],a,b,h,e,he=>by simp at he
 | d::r,a,b,h,e,he=>by
  have l:=ym h.2.2
  have:=h.1
  have:=h.2.1
  rcases bq.mp he with rfl|he
  .omega
  .have:=xx h.2.2 e he
   omega
noncomputable abbrev prT(e:Nat×Nat×Nat):Nat×Nat:=(e.1,e.2.1)
theorem acu:∀{l l':List (Nat×Nat×Nat)} {a b:Nat},l'.map prT=l.map prT->ajp a l b->ajp a l' b
 | [],[],a,b,_,h=>h
 | [],e::r,a,b,q,h=>by simp at q
 | d::r,[],a,b,q,h=>by simp at q
 | d::r,e::r',a,b,q,h=>by
  rw[c5,c5]at q
  obtain⟨q1,q2⟩:=List.cons.inj q
  obtain⟨e1,e2⟩:e.1=d.1/\e.2.1=d.2.1:=Prod.mk.inj q1
  refine⟨e1.trans h.1,by rw[e2];exact h.2.1,?_⟩
  rw[e2]
  exact acu q2 h.2.2
theorem ado(p:Array (Nat×Nat×Nat))(k w:Nat):(p.modify k λx=>(x.fst,x.2.fst,w)).toList.map prT=p.toList.map prT:=by
 apply j4
 intro i
 rw[aw,aw,bb,bb,Array.getElem?_modify]
 split
 .cases p[i]?<;>rfl
 .rfl
structure PInv(f:Keyed->Int)(κ:SortKind)(a₀:Array Keyed)(lo:Nat)(st:SortSt):Prop where
 base:TB κ a₀ st
 tile:ajp 0 (pendingOf st).toList lo
 segs:∀e∈(pendingOf st).toList,Seg f (arrOf st) e.1 e.2.1
 top:lo<=a₀.size
theorem wp{f:Keyed->Int}{xs ys:Array Keyed}{lo n:Nat}(h:Seg f xs lo n)(e:∀k,lo<=k->k<lo+n->ys[k]?=xs[k]?):Seg f ys lo n:=λi j hi hij hj=>by
 rw[wo (f:=f) (e i hi (by omega)),wo (f:=f) (e j (by omega) hj)]
 exact h i j hi hij hj
section
variable{κ:SortKind}{f:Keyed->Int}{a₀:Array Keyed}{lo:Nat}{st st':SortSt}
theorem PInv.frame(P:PInv f κ a₀ lo st)(B:TB κ a₀ st')(F:Fr lo st st'):PInv f κ a₀ lo st':=by
 refine⟨B,by rw[F.pend];exact P.tile,λe he=>?_,P.top⟩
 rw[F.pend]at he
 have:=xx P.tile e he
 exact wp (P.segs e he) λk h1 h2=>F.low k (by omega)
theorem PInv.like(P:PInv f κ a₀ lo st){p:Array (Nat×Nat×Nat)}(h:p.toList.map prT=(pendingOf st).toList.map prT):PInv f κ a₀ lo (setPending st p):=by
 refine⟨⟨P.base.perm,P.base.kind,P.base.failed⟩,acu h P.tile,λe he=>?_,P.top⟩
 have h1:prT e∈(pendingOf st).toList.map prT:=by rw[<-h];exact bi.mpr ⟨e,he,rfl⟩
 obtain⟨d,hd,ed⟩:=bi.mp h1
 obtain⟨e1,e2⟩:d.1=e.1/\d.2.1=e.2.1:=Prod.mk.inj ed
 have:=P.segs d hd
 rw[e1,e2]at this
 exact this
theorem PInv.push(P:PInv f κ a₀ lo st){n w:Nat}(h1:1<=n)(ht:lo+n<=a₀.size)(hs:Seg f (arrOf st) lo n):PInv f κ a₀ (lo+n) (setPending st ((pendingOf st).push (lo,n,w))):=by
 refine⟨⟨P.base.perm,P.base.kind,P.base.failed⟩,?_,λe he=>?_,ht⟩
 .show ajp 0 ((pendingOf st).push (lo,n,w)).toList (lo+n)
  rw[Array.toList_push]
  exact tile_app.mpr ⟨lo,P.tile,rfl,h1,rfl⟩
 .have he':e∈((pendingOf st).push (lo,n,w)).toList:=he
  rw[Array.toList_push]at he'
  rcases ax.mp he' with h|h
  .exact P.segs e h
  .rw[ao.mp h]
   exact hs
end
section
variable{prog:Program}{w:World}{A:Around}{E:Value->Shared->Prop}{s:Shared}
variable{κ:SortKind}{mem:Keyed->Prop}{f:Keyed->Int}{a₀:Array Keyed}
theorem xf(C:acy prog w A s κ mem (fl f))(hm:∀x∈a₀.toList,mem x){st:SortSt}{i lo:Nat}(P:PInv f κ a₀ lo st)(hi:i+1<(pendingOf st).size){Q:Bool->SortSt->Prop}
  (h:∀st',PInv f κ a₀ lo st'->(pendingOf st').size+1=(pendingOf st).size->(∀k,lo<=k->(arrOf st')[k]?=(arrOf st)[k]?)->Q true st'):wpS (model prog w) A E s (mergeAt' i) Q st:=by
 obtain⟨⟨sa,na,pa⟩,e1⟩:∃e,(pendingOf st)[i]?=some e:=⟨_,getElem?_pos _ i (by omega)⟩
 obtain⟨⟨sb,nb,pb⟩,e2⟩:∃e,(pendingOf st)[i+1]?=some e:=⟨_,getElem?_pos _ (i+1) hi⟩
 obtain⟨l1,l2,hl,hlen⟩:∃l1 l2,(pendingOf st).toList=l1++(sa,na,pa)::(sb,nb,pb)::l2/\l1.length=i:=by
  refine(mw ((pendingOf st).toList.take i) ((pendingOf st).toList.drop (i+2)) ⟨?_,by simp;omega⟩)
  have hi0:i<(pendingOf st).toList.length:=by simp;omega
  have hi1:i+1<(pendingOf st).toList.length:=by simp;omega
  conv=>lhs;rw[<-df i (pendingOf st).toList,List.drop_eq_getElem_cons hi0,List.drop_eq_getElem_cons hi1]
  have a1:(pendingOf st).toList[i]=(sa,na,pa):=by
   have:=e1;rw[<-bb,getElem?_pos _ i hi0]at this;exact cm this
  have a2:(pendingOf st).toList[i+1]=(sb,nb,pb):=by
   have:=e2;rw[<-bb,getElem?_pos _ (i+1) hi1]at this;exact cm this
  rw[a1,a2]
 have ht:=P.tile
 rw[hl]at ht
 obtain⟨c,t1,t2⟩:=tile_app.mp ht
 obtain⟨h1,h2,h3,h4,t3⟩:=t2
 dsimp only at h1 h2 h3 h4 t3
 have hlast:=ym t3
 have sA:=P.segs (sa,na,pa) (by rw[hl];simp)
 have sB:=P.segs (sb,nb,pb) (by rw[hl];simp)
 have top:=P.top
 refine ae7 C hm P.base e1 e2 (by omega) h2 h4 (by omega) sA sB λst' B' hp ho hs=>h st' ?_ ?_ λk hk=>ho k (.inr (by omega))
 .have hp2:(pendingOf st').toList=l1++(sa,na+nb,pa)::l2:=by
   rw[hp,Array.toList_eraseIdxIfInBounds,Array.toList_setIfInBounds,hl]
   rw[List.set_append_right _ _ (by omega),hlen,ke,List.set_cons_zero,List.eraseIdx_append_of_length_le (by omega),hlen,show i+1-i=1 by omega]
   rfl
  refine⟨B',?_,λe he=>?_,top⟩
  .rw[hp2]
   refine tile_app.mpr ⟨c,t1,h1,by show 1<=na+nb;omega,?_⟩
   show ajp (c+(na+nb)) l2 lo
   rw[show c+(na+nb)=c+na+nb by omega]
   exact t3
  .rw[hp2]at he
   rcases ax.mp he with q|q
   .have a1:=xx t1 e q
    exact wp (P.segs e (by rw[hl];exact jv _ q)) λk k1 k2=>ho k (.inl (by omega))
   .rcases bq.mp q with q|q
    .rw[q];exact hs
    .have a1:=xx t3 e q
     exact wp (P.segs e (by rw[hl];simp[q])) λk k1 k2=>ho k (.inr (by omega))
 .have:=congrArg List.length (show(pendingOf st').toList=l1++(sa,na+nb,pa)::l2 by
   rw[hp,Array.toList_eraseIdxIfInBounds,Array.toList_setIfInBounds,hl]
   rw[List.set_append_right _ _ (by omega),hlen,ke,List.set_cons_zero,List.eraseIdx_append_of_length_le (by omega),hlen,show i+1-i=1 by omega]
   rfl)
  have q:=congrArg List.length hl
  simp at this q
  omega
theorem aey(C:acy prog w A s κ mem (fl f))(hm:∀x∈a₀.toList,mem x){st:SortSt}(B:TB κ a₀ st)(h0:pendingOf st=#[]){Q:Unit->SortSt->Prop}
  (h:∀st',TB κ a₀ st'->Seg f (arrOf st') 0 a₀.size->Q () st'):wpS (model prog w) A E s sortRuns' Q st:=by
 rw[sortRuns'_eq]
 refine a8 (wpS_get ?_)
 dsimp only
 simp only[B.size]
 refine a8 (iu (gh (I:=λx c st'=>∃lo,c=(none,lo)/\x<=lo/\PInv f κ a₀ lo st') (Q:=λc st'=>c=(none,a₀.size)/\PInv f κ a₀ a₀.size st') ?step ?fin ?init) ?post)
 case init=>exact⟨0,rfl,am _,B,by rw[h0];rfl,λe he=>by rw[h0]at he;simp at he,dq _⟩
 case fin=>
  intro c st' hIh
  refine hid λCg hCg=>?_
  obtain⟨lo,rfl,hx,P⟩:=hIh
  refine hCg ?_
  have:=P.top
  obtain rfl:lo=a₀.size:=by omega
  exact⟨rfl,P⟩
 case step=>
  intro x c st' _ hx hIh
  refine hid λCg hCg=>?_
  obtain⟨lo,rfl,hlo,P⟩:=hIh
  refine hCg ?_
  dsimp only
  have top:=P.top
  refine np (λ(hge:lo>=a₀.size)=>?_) (λ(hge:¬(lo>=a₀.size))=>?_)
  .obtain rfl:lo=a₀.size:=by omega
   exact bp ⟨rfl,P⟩
  refine a8 (apu C hm (by omega) (by omega) P.base λn st2 B2 F2 n1 n2 s2=>?_)
  dsimp only
  refine np (λ(hmin:n<minRun' a₀.size a₀.size 0)=>?_) (λ(hmin:¬(n<minRun' a₀.size a₀.size 0))=>?_)
  .refine a8 (wpS_lift (jz ⟨rfl,?_⟩))
   refine a8 (apc C hm (by omega) (by omega) B2 s2 λst3 B3 F3 s3=>?_)
   rw[if_neg (by simp)]
   have f1:1<=(min (a₀.size-lo) (minRun' a₀.size a₀.size 0)):=by omega
   have P3:PInv f κ a₀ lo st3:=P.frame B3 (F2.trans F3)
   refine a8 (wpS_get ?_)
   cases hb:(pendingOf st3).back? with
   | none=>
    dsimp only
    exact a8 (wpS_modify (bp ⟨_,rfl,by omega,P3.push f1 (by omega) s3⟩))
   | some e=>
    obtain⟨s1,m1,w1⟩:=e
    dsimp only
    refine a8 (iu (gh (I:=λ_ c st4=>c=(none,())/\PInv f κ a₀ lo st4/\Seg f (arrOf st4) lo (min (a₀.size-lo) (minRun' a₀.size a₀.size 0))) (Q:=λc st4=>c=(none,())/\PInv f κ a₀ lo st4/\Seg f (arrOf st4) lo (min (a₀.size-lo) (minRun' a₀.size a₀.size 0))) ?_ (λ_ _ hh=>hh) ⟨rfl,P3,s3⟩) ?_)
    .rintro y c st4 _ hy ⟨rfl,P4,s4⟩
     refine a8 (wpS_get ?_)
     by_cases h2:(pendingOf st4).size>1
     .rw[if_pos h2,getElem?_pos (pendingOf st4) ((pendingOf st4).size-2) (by omega)]
      dsimp only
      split
      .exact bp ⟨rfl,P4,s4⟩
      .refine a8 (xf C hm P4 (by omega) λst5 P5 _ ho=>?_)
       rw[if_neg (by simp)]
       exact bp ⟨rfl,P5,wp s4 λk k1 _=>ho k k1⟩
     .rw[if_neg h2]
      exact bp ⟨rfl,P4,s4⟩
    .rintro c st4 ⟨rfl,P4,s4⟩
     dsimp only
     refine a8 (wpS_modify ?_)
     have P5:=P4.like (p:=(pendingOf st4).modify ((pendingOf st4).size-1) λx=>(x.fst,x.2.fst,power' a₀.size (2*s1+m1) (2*s1+m1+m1+(min (a₀.size-lo) (minRun' a₀.size a₀.size 0))) a₀.size)) (ado _ _ _)
     exact a8 (wpS_modify (bp ⟨_,rfl,by omega,P5.push f1 (by omega) s4⟩))
  .have P3:PInv f κ a₀ lo st2:=P.frame B2 F2
   refine a8 (wpS_get ?_)
   cases hb:(pendingOf st2).back? with
   | none=>
    dsimp only
    exact a8 (wpS_modify (bp ⟨_,rfl,by omega,P3.push n1 (by omega) s2⟩))
   | some e=>
    obtain⟨s1,m1,w1⟩:=e
    dsimp only
    refine a8 (iu (gh (I:=λ_ c st4=>c=(none,())/\PInv f κ a₀ lo st4/\Seg f (arrOf st4) lo n) (Q:=λc st4=>c=(none,())/\PInv f κ a₀ lo st4/\Seg f (arrOf st4) lo n) ?_ (λ_ _ hh=>hh) ⟨rfl,P3,s2⟩) ?_)
    .rintro y c st4 _ hy ⟨rfl,P4,s4⟩
     refine a8 (wpS_get ?_)
     by_cases h2:(pendingOf st4).size>1
     .rw[if_pos h2,getElem?_pos (pendingOf st4) ((pendingOf st4).size-2) (by omega)]
      dsimp only
      split
      .exact bp ⟨rfl,P4,s4⟩
      .refine a8 (xf C hm P4 (by omega) λst5 P5 _ ho=>?_)
       rw[if_neg (by simp)]
       exact bp ⟨rfl,P5,wp s4 λk k1 _=>ho k k1⟩
     .rw[if_neg h2]
      exact bp ⟨rfl,P4,s4⟩
    .rintro c st4 ⟨rfl,P4,s4⟩
     dsimp only
     refine a8 (wpS_modify ?_)
     have P5:=P4.like (p:=(pendingOf st4).modify ((pendingOf st4).size-1) λx=>(x.fst,x.2.fst,power' a₀.size (2*s1+m1) (2*s1+m1+m1+n) a₀.size)) (ado _ _ _)
     exact a8 (wpS_modify (bp ⟨_,rfl,by omega,P5.push n1 (by omega) s4⟩))
 case post=>
  rintro c st' ⟨rfl,P⟩
  dsimp only
  refine a8 (iu (gh (I:=λx c st''=>c=(none,())/\PInv f κ a₀ a₀.size st''/\(pendingOf st'').size<=max 1 (a₀.size-x)) (Q:=λc st''=>c=(none,())/\PInv f κ a₀ a₀.size st''/\(pendingOf st'').size<=1) ?_ ?_ ?_) ?_)
  .rintro x c st'' _ hx ⟨rfl,P2,hsz⟩
   refine a8 (wpS_get ?_)
   refine np (λ(h1:(pendingOf st'').size<=1)=>?_) (λ(h1:¬((pendingOf st'').size<=1))=>?_)
   .exact bp ⟨rfl,P2,h1⟩
   .refine a8 (xf C hm P2 (by(repeat' split)<;>omega) λst5 P5 hz _=>?_)
    rw[if_neg (by simp)]
    exact bp ⟨rfl,P5,by omega⟩
  .rintro c st'' ⟨rfl,P2,hsz⟩
   exact⟨rfl,P2,by omega⟩
  .refine⟨rfl,P,?_⟩
   have:=ym P.tile
   simp at this
   omega
  .rintro c st'' ⟨rfl,P2,hsz⟩
   refine bp (h st'' P2.base ?_)
   have t:=P2.tile
   have sg:=P2.segs
   have hl:(pendingOf st'').toList.length<=1:=by simpa using hsz
   match hq:(pendingOf st'').toList,hl with
   | [],_=>
    rw[hq]at t
    intro i j hi hij hj
    have:0=a₀.size:=t
    omega
   | [e],_=>
    rw[hq]at t sg
    have a1:=t.1
    have a2:0+e.2.1=a₀.size:=t.2.2
    have a3:=sg e (by simp)
    rw[a1,show e.2.1=a₀.size by omega]at a3
    exact a3
end
end L3
namespace L3
open PySem PySem.Spec PyProof.Rows L2
structure CZ where
 cl:List (Str×Addr)
 C:Addr
 s:Shared
 H:Hp
 ex:List Addr
noncomputable def nv(X:Cx)(N:List Str)(scope:Scope)(z:CZ):Cx where
 prog:=X.prog
 w:=X.w
 K:=X.K
 mg:=X.mg
 base:=X.base
 A:=X.A
 N:=N
 s₀:=z.s
 H₀:=z.H
 env:=compEnvC scope z.cl z.C X.env
 outer:=X.stack
 stack:=X.stack
 ex:=z.ex
 calm:=X.calm
 fn:=λ_=>false
 pn:=[]
 xe:=λ_ _=>False
noncomputable def qh(cells:List (Str×Addr)):List (Str×NameKind)->List (Str×Addr)->List (Str×Addr)
 | [],cs=>cs
 | (n,k)::r,cs=>if (k==NameKind.free)=true then(match cells.lookup n with|some c=>qh cells r ((n,c)::cs)|none=>qh cells r cs)else qh cells r cs
theorem v5{scope:Scope}{env:Env}(h:∀x∈scope.names,x.2=.free->∃c,env.cells.lookup x.1=some c):closureFor scope env=pure (qh env.cells scope.names []):=by
 have go:∀(l:List (Str×NameKind)) (cs:List (Str×Addr)),(∀x∈l,x.2=.free->∃c,env.cells.lookup x.1=some c)->
   (forIn l cs λ(x:Str×NameKind) (cs:List (Str×Addr))=>if (x.2==NameKind.free)=true then do let a <-cellOf env x.1;pure (ForInStep.yield ((x.1,a)::cs))else pure (ForInStep.yield cs):Sem (List (Str×Addr)))=pure (qh env.cells l cs):=by
  intro l
  induction l with
  | nil=>intro cs _;rfl
  | cons x r ih=>
   intro cs hx
   obtain⟨n,k⟩:=x
   rw[List.forIn_cons]
   have ih':=λcs=>ih cs λy hy=>hx y (bf _ hy)
   unfold qh
   dsimp only
   by_cases hk:(k==NameKind.free)=true
   .obtain⟨c,hc⟩:=hx (n,k) bj (by simpa using hk)
    rw[if_pos hk,if_pos hk]
    simp only at hc
    simp only[cellOf,hc,pure_bind]
    exact ih' _
   .rw[if_neg hk,if_neg hk]
    simp only[pure_bind]
    exact ih' _
 unfold closureFor
 have e:=go scope.names [] h
 simp only[bind_pure]at e⊢
 exact e
theorem wf{cells:List (Str×Addr)}{x:Str}{c:Addr}:∀{l:List (Str×NameKind)} {cs:List (Str×Addr)},(qh cells l cs).lookup x=some c->cells.lookup x=some c\/cs.lookup x=some c
 | [],cs,h=>.inr h
 | (n,k)::r,cs,h=>by
  unfold qh at h
  split at h
  .split at h
   .rename_i c0 e
    rcases wf h with q|q
    .exact .inl q
    .rw[ja]at q
     split at q
     .rename_i hx
      have hx':x=n:=by simpa using hx
      cases q
      rw[hx']
      exact .inl e
     .exact .inr q
   .exact wf h
  .exact wf h
theorem rh{cells:List (Str×Addr)}{x:Str}:∀{l:List (Str×NameKind)} {cs:List (Str×Addr)},(∃c,cs.lookup x=some c)->∃c,(qh cells l cs).lookup x=some c
 | [],cs,h=>h
 | (n,k)::r,cs,h=>by
  unfold qh
  split
  .split
   .refine rh ?_
    rw[ja]
    split
    .exact⟨_,rfl⟩
    .exact h
   .exact rh h
  .exact rh h
theorem uu{cells:List (Str×Addr)}{x:Str}:∀{l:List (Str×NameKind)} {cs:List (Str×Addr)},(x,NameKind.free)∈l->(∃c,cells.lookup x=some c)->∃c,(qh cells l cs).lookup x=some c
 | (n,k)::r,cs,hm,h=>by
  unfold qh
  rcases bq.mp hm with e|hm
  .cases e
   obtain⟨c,hc⟩:=h
   rw[if_pos (show(NameKind.free==NameKind.free)=true from rfl),hc]
   refine rh ?_
   rw[ja]
   simp
  .split
   .split
    .exact uu hm h
    .exact uu hm h
   .exact uu hm h
theorem aec{scope:Scope}{env:Env}{x:Str}(hnc:∀y∈scope.names,y.2≠.cell)(h:(relabel scope env).names.lookup x=some .cell\/(relabel scope env).names.lookup x=some .free):(x,NameKind.free)∈scope.names:=by
 rcases h with h|h
 .have hm:=iq h
  obtain⟨⟨n,k⟩,hy,e⟩:=bi.mp hm
  dsimp only at e
  split at e
  .rename_i hc
   simp only[du,beq_iff_eq]at hc
   cases e
   rw[hc.1.1]at hy
   exact hy
  .cases e
   exact absurd rfl (hnc _ hy)
 .have hm:=iq h
  obtain⟨⟨n,k⟩,hy,e⟩:=bi.mp hm
  dsimp only at e
  split at e
  .cases e
  .cases e
   exact hy
theorem xn{env:Env}:∀{names:List (Str×NameKind)} {x:Str},names.lookup x=some .free->
  ((names.map λ(n,k)=>if (k==NameKind.free&&env.scope.kind==.function&&env.kindOf n==some .cell)then(n,NameKind.cell)else(n,k)).lookup x=some .cell\/
   (names.map λ(n,k)=>if (k==NameKind.free&&env.scope.kind==.function&&env.kindOf n==some .cell)then(n,NameKind.cell)else(n,k)).lookup x=some .free)
 | [],_,h=>by simp at h
 | (n,k)::r,x,h=>by
  have ih:=@xn env r x
  show(List.lookup x ((if (k==NameKind.free&&env.scope.kind==.function&&env.kindOf n==some .cell)=true then(n,NameKind.cell)else(n,k))::_)=_)\/(List.lookup x ((if (k==NameKind.free&&env.scope.kind==.function&&env.kindOf n==some .cell)=true then(n,NameKind.cell)else(n,k))::_)=_)
  cases hx:x==n with
  | true=>
   simp only[ja,hx]at h
   cases h
   by_cases hc:((NameKind.free:NameKind)==NameKind.free&&env.scope.kind==.function&&env.kindOf n==some .cell)=true
   .rw[if_pos hc];left;simp only[ja,hx]
   .rw[if_neg hc];right;simp only[ja,hx]
  | false=>
   simp only[ja,hx]at h
   by_cases hc:(k==NameKind.free&&env.scope.kind==.function&&env.kindOf n==some .cell)=true
   .rw[if_pos hc];simp only[ja,hx];exact ih h
   .rw[if_neg hc];simp only[ja,hx];exact ih h
noncomputable def qt(sl:List (Option Nat))(σ:L2.St):L2.St:=sl.map λo=>o.bind λj=>(σ[j]?).getD none
noncomputable def slOk(N N':List Str)(sl:List (Option Nat))(sc osc:Scope):Bool:=
 sl.length==N'.length&&(List.zip N' sl).all λp=>match p.2 with
  | none=>true
  | some j=>N[j]?==some p.1&&sc.names.lookup p.1==some .free&&(osc.names.lookup p.1==some .cell||osc.names.lookup p.1==some .free)
theorem slOk.len{N N':List Str}{sl:List (Option Nat)}{sc osc:Scope}(h:slOk N N' sl sc osc=true):sl.length=N'.length:=by
 unfold slOk at h
 rw[du]at h
 simpa using h.1
theorem slOk.at{N N':List Str}{sl:List (Option Nat)}{sc osc:Scope}(h:slOk N N' sl sc osc=true){k j:Nat}{x:Str}(h1:N'[k]?=some x)(h2:sl[k]?=some (some j)) :
  N[j]?=some x/\sc.names.lookup x=some .free/\(osc.names.lookup x=some .cell\/osc.names.lookup x=some .free):=by
 unfold slOk at h
 rw[du,ku]at h
 have hm:(x,some j)∈List.zip N' sl:=by
  refine aq (i:=k) ?_
  rw[List.getElem?_zip_eq_some]
  exact⟨h1,h2⟩
 have q:=h.2 _ hm
 simp only[du,Bool.or_eq_true,beq_iff_eq]at q
 exact⟨q.1.1,q.1.2,q.2⟩
noncomputable def frOk(sc osc:Scope):Bool:=sc.names.all λx=>!(x.2==.free)||(osc.names.lookup x.1==some .cell||osc.names.lookup x.1==some .free)
theorem frOk.of{sc osc:Scope}(h:frOk sc osc=true):∀x∈sc.names,x.2=.free->osc.names.lookup x.1=some .cell\/osc.names.lookup x.1=some .free:=λx hx e=>by
 have q:=ku.mp h x hx
 rw[e]at q
 simp only[beq_self_eq_true,ij,Bool.false_or,Bool.or_eq_true,beq_iff_eq]at q
 exact q
def Agree(σ σ':L2.St):Prop:=σ'.length=σ.length/\∀(i:Nat) v,σ[i]?=some (some v)->σ'[i]?=some (some v)
theorem Agree.refl(σ:L2.St):Agree σ σ:=⟨rfl,λ_ _ h=>h⟩
theorem Agree.set{σ σ':L2.St}(a:Agree σ σ'){i:Nat}{v:Option V}(h:σ[i]?=some none):Agree σ (σ'.set i v):=by
 refine⟨by rw[List.length_set];exact a.1,λj w e=>?_⟩
 by_cases hij:i=j
 .subst hij;rw[h]at e;cases e
 .rw[List.getElem?_set_ne hij];exact a.2 j w e
section
variable{fs ex:List Addr}{H H':Hp}{h h1 h2:Heap}{C:Addr}
theorem Un.but(u:Un fs ex H H' h h1)(hC:h.get? C=none)(sb:∀b o,b≠C->h1.get? b=some o->h2.get? b=some o):Un fs ex H H' h h2 where
 keep:=λb o e n hb hx=>sb b o (by rintro rfl;rw[hC]at e;cases e) (u.keep b o e n hb hx)
 slot:=λb o e n hb hx=>by
  obtain⟨sl,q⟩:=u.slot b o e n hb hx
  exact⟨sl,sb b _ (by rintro rfl;rw[hC]at e;cases e) q⟩
 free:=u.free
 there:=λb o e hx=>by
  obtain⟨o',q⟩:=u.there b o e hx
  exact⟨o',sb b o' (by rintro rfl;rw[hC]at e;cases e) q⟩
 tups:=u.tups
 frzs:=u.frzs
 tbls:=u.tbls
theorem HOk.but{P:Program}{w:World}(x:HOk P w H h1)(hC:H C=none)(sb:∀b o,b≠C->h1.get? b=some o->h2.get? b=some o):HOk P w H h2:=λa o e=>
 (x a o e).stay (λb u hc q=>sb b u (by
  rintro rfl
  rcases hc with hc|hc
  .rw[<-hc,hC]at e;cases e
  .rw[hC]at hc;cases hc) q) (λ_ q=>q) λ_ _ q=>q
end
theorem ahu{X:Cx}{pins:List (Addr×Obj)}{σ:L2.St}{H:Hp}{s:Shared}(I:Inv X pins σ H s){scope:Scope}{N':List Str}{sl:List (Option Nat)}{fp:List Addr}{h₁:Heap}{m:Str->Option Value}{tk:Nat}
  (hk:scope.kind=.function) (hnc:∀y∈scope.names,y.2≠.cell) (hfree:∀x∈scope.names,x.2=.free->X.env.scope.names.lookup x.1=some .cell\/X.env.scope.names.lookup x.1=some .free)
  (hsl:slOk X.N N' sl scope X.env.scope=true) (hfp:∀b∈fp,afm X pins H b) (hlt:∀b∈fp,b<s.heap.objs.size)
  (hns:h₁.Ns s.heap.objs.size m) (hkeep:∀b o,s.heap.get? b=some o->h₁.get? b=some o) :
  Inv (nv X N' scope ⟨qh X.env.cells scope.names [],s.heap.objs.size,s,H,fp⟩) [] (qt sl σ) H {s with heap:=h₁,toks:=tk}:=by
 have cof:∀x c,(qh X.env.cells scope.names []).lookup x=some c->X.env.cells.lookup x=some c:=λx c e=>by
  rcases wf e with q|q
  .exact q
  .cases q
 have has:∀x,(x,NameKind.free)∈scope.names->∃c,(qh X.env.cells scope.names []).lookup x=some c:=λx hx=>
  uu hx (I.ok.has x (hfree _ hx rfl))
 refine⟨⟨I.ok.mod,hk,I.ok.glob,I.ok.blt,am _,λx y c h1 h2=>I.ok.inj x y c (cof x c h1) (cof y c h2),λx hx=>has x (aec hnc hx),λx c hf _=>absurd hf aj,I.ok.hd,I.ok.frames,.inl rfl,
   λb hb=>⟨c9 (hlt b hb),λx c e=>(hfp b hb).2.2.2.2.1 x c (cof x c e)⟩,I.bs,db I.ok.bsz I.sz,λb o e hb=>?_,λb hb hz=>?_,I.stack,I.stkFree⟩,
  rfl,I.bare,Un.kept hkeep,⟨m,hns,λi x v h1 h2 _=>?_⟩,λx c e=>?_,I.hok.fresh (am _),λx c e=>I.freeC x c (cof x c e),λp hp=>absurd (show p∈([]:List (Addr×Obj))from hp) (by simp),I.hok.kept hkeep,?_⟩
 .rcases(hfp b hb).2.2.2.1 with z|z
  .exact I.ok.noex b o e z
  .exact absurd (cw (bn (I.ok.bs b o e).1) z) (jc _)
 .rcases bq.mp (I.stkSub b hz)with z|z
  .exact(hfp b hb).2.1 z
  .exact(hfp b hb).2.2.1 z
 .have h2':(qt sl σ)[i]?=some (some v):=h2
  unfold qt at h2'
  rw[aw]at h2'
  cases q:sl[i]? with
  | none=>rw[q]at h2';cases h2'
  | some o=>
   rw[q]at h2'
   cases o with
   | none=>cases h2'
   | some j=>
    have e:(σ[j]?).getD none=some v:=by simpa using h2'
    have e2:σ[j]?=some (some v):=by
     cases r:σ[j]? with
     | none=>rw[r]at e;cases e
     | some w=>rw[r]at e;simp at e;rw[e]
    obtain⟨a1,a2,a3⟩:=slOk.at hsl h1 q
    obtain⟨mo,_,hl⟩:=I.loc
    obtain⟨u,r,l⟩:=hl j x v a1 e2 (.inr a3)
    refine⟨u,r,.inr ⟨xn a2,?_⟩⟩
    have a4:X.env.kindOf x=some .cell\/X.env.kindOf x=some .free:=a3
    rcases l with ⟨l,_⟩|⟨_,c,e3,z⟩
    .rcases a4 with a4|a4 <;> · rw[l]at a4;cases a4
    .obtain⟨c',e4⟩:=has x (iq a2)
     have e5:=cof x c' e4
     rw[e3]at e5;cases e5
     obtain⟨o,ho,hd⟩:=z
     exact(pk c e4 o ⟨hkeep _ _ ho,hd⟩)
 .obtain⟨v,o,ho,hd⟩:=I.cell x c (cof x c e)
  exact(mw v o ⟨hkeep _ _ ho,hd⟩)
 .show(qt sl σ).length=N'.length
  unfold qt
  rw[ah]
  exact slOk.len hsl
def PTs(X:Cx)(ifs:List Expr)(t:TT):Prop:=
 ∀(pins:List (Addr×Obj)) (s:Shared) (σ:L2.St) (H:Hp) (Q:Bool->Hp->Prop),Inv X pins σ H s->t σ H Q->
  wpAny (model X.prog X.w) X.A (forIn ifs true λc r=>if r=true then do let ok <-isTrue c X.env (eval c X.env);pure (ForInStep.yield ok)else pure (ForInStep.yield r)) (TP X pins σ Q) X.xe s
def yb:TT:=λ_ H Q=>Q true H
theorem o8{X:Cx}:PTs X [] yb:=λ_ _ _ H _ I h=>wpAny_tests_nil ⟨H,I,h⟩
theorem tq{X:Cx}{c:Expr}{t:TT}(h:PT X c t):PTs X [c] t:=λpins s σ H Q I q=>wpAny_tests_one (h pins s σ H Q I q)
theorem ad5{prog:Program}{w:World}{A:Around}{R:Result->Shared->Prop}{s:Shared}{elt target iter:Expr}{ifs:List Expr}{scope:Scope}{pos:Pos}{it acc:Value}{env:Env}(I:Nat->Shared->Prop)
  (turn:∀n s,I n s->wpAny (model prog w) A (pyNext it) (λr s₁=>match r with
   | none=>R (.ok .next) s₁
   | some v=>wpAny (model prog w) A (letOwnedTupleGo target it v) (λ_ s₂=>wpAny (model prog w) A (assign target env v) (λ_ s₃=>
     wpAny (model prog w) A (forIn ifs true λc r=>if r=true then do let ok <-isTrue c env (eval c env);pure (ForInStep.yield ok)else pure (ForInStep.yield r)) (λok s₄=>
      if ok=true then wpAny (model prog w) A (eval elt env) (λx s₅=>
       wpAny (model prog w) A (call (.builtin "list.append") [acc,x]) (λ_ s₆=>∃m,m<n/\I m s₆) (λ_ _=>False) s₅) (λ_ _=>False) s₄
      else ∃m,m<n/\I m s₄) (λ_ _=>False) s₃) (λ_ _=>False) s₂) (λ_ _=>False) s₁) (λ_ _=>False) s)
  (n:Nat) (h:I n s) :
  codeAny (model prog w) A (.compLoop (.ListComp elt [⟨target,iter,ifs,0⟩] scope pos) 0 it acc env) R s:=by
 refine codeAny_loop rfl I (λn s hI=>?_) n h
 show wpAny _ A ((compTurn (.ListComp elt [⟨target,iter,ifs,0⟩] scope pos) 0 it acc env).onRaise (λx=>do noteFrame x env;theTreesLotGoes x)) _ _ s
 refine wpAny_noted ?_
 rw[compTurn_list]
 refine aa (wpAny_standAt (aa (iz (turn n s hI) (λr s₁ h₁=>?_) λ_ _ h'=>h'.elim)))
 cases r with
 | none=>exact af h₁
 | some v=>
  refine aa (iz h₁ (λ_ s₂ h₂=>?_) λ_ _ h'=>h'.elim)
  refine aa (iz h₂ (λ_ s₃ h₃=>aa (iz h₃ (λok s₄ h₄=>?_) λ_ _ h'=>h'.elim)) λ_ _ h'=>h'.elim)
  cases ok with
  | false=>exact af ⟨rfl,h₄⟩
  | true=>
   exact aa (aa (iz h₄ (λx s₅ h₅=>aa (iz h₅ (λ_ s₆ h₆=>af (af ⟨rfl,h₆⟩)) λ_ _ h'=>h'.elim)) λ_ _ h'=>h'.elim))
def acl(J:It)(sl:List (Option Nat))(g:TG)(tt:TT)(te:TE)(σ:L2.St)(H1:Hp)(D:Addr)(Q:VK):Prop:=
 ∃W:Nat->Nat->Hp->Prop,(∃m,W 0 m (upd H1 D (.lst [])))/\∀i m H,W i m H->(J.stop i H/\Q (.ref D) H)\/
  (J.go i H/\∃N:Hp->Prop,(∀H',N H'->∃m',m'<m/\W (i+1) m' H')/\∀x H',J.yld i H x H'->g x (qt sl σ) H' λσ2 H2=>Agree (qt sl σ) σ2/\tt σ2 H2 λb H3=>
   if b=true then te σ2 H3 λy H4=>∃xs,H4 D=some (.lst xs)/\xs.length<sizeLine/\N (upd H4 D (.lst (xs++[y])))else N H3)
def aky(wi:TI)(sl:List (Option Nat))(g:TG)(tt:TT)(te:TE):TE:=λσ H Q=>wi σ H λJ H1=>∀D,H1 D=none->acl J sl g tt te σ H1 D Q
section
variable{X:Cx}{elt target iter:Expr}{ifs:List Expr}{scope:Scope}{pos:Pos}
theorem aa3{N':List Str}{sl:List (Option Nat)}{g:TG}{tt:TT}{te:TE}{pins:List (Addr×Obj)}{s₂:Shared}{σ:L2.St}{H2:Hp}{Q:VK}{RR:Value->Addr->Result->Shared->Prop}{E:Value->Shared->Prop}
  {it:Addr} {fp:List Addr} {tn:Nat->Heap->Prop} {J:It} (hc:X.calm=true) (hkind:scope.kind=.function)
  (hnc:∀y∈scope.names,y.2≠.cell) (hfree:∀x∈scope.names,x.2=.free->X.env.scope.names.lookup x.1=some .cell\/X.env.scope.names.lookup x.1=some .free)
  (hsl:slOk X.N N' sl scope X.env.scope=true)
  (hg:∀z,PG (nv X N' scope z) target g) (ht:∀z,PTs (nv X N' scope z) ifs tt) (he:∀z,PE (nv X N' scope z) elt te)
  (I2:Inv X pins σ H2 s₂) (T:ak2 X.prog X.w X.K target J fp it tn) (st2:tn 0 s₂.heap) (f2:∀b∈fp,afm X pins H2 b) (hw:∀D,H2 D=none->acl J sl g tt te σ H2 D Q)
  (hR:∀D C H' s',H' C=none->(∃m,s'.heap.Ns C m)->afm X pins H' C->(∀h',bw C s'.heap h'->Inv X pins σ H' {s' with heap:=h'})->Inv X pins σ H' s'->Q (.ref D) H'->RR (.ref D) C (.ok .next) s') :
  wpAny (model X.prog X.w) X.A (newList []) (λacc s₃=>wpAny (model X.prog X.w) X.A (newFunctionEnv scope X.env.globals (qh X.env.cells scope.names []) [] X.env.qual none .none (some X.env)) (λcenv s₄=>
   codeAny (model X.prog X.w) X.A (.compStart (.ListComp elt [⟨target,iter,ifs,0⟩] scope pos) 0 (.ref it) acc {cenv with scope:=relabel scope X.env}) (RR acc cenv.locals) s₄) E s₃) E s₂:=by
 have hlt2:∀b∈fp,b<s₂.heap.objs.size:=λb hb=>by
  obtain⟨o,e,_⟩:=T.obj _ _ st2 b hb
  exact bn e
 have hD:H2 s₂.heap.objs.size=none:=I2.hok.fresh (am _)
 obtain⟨W,⟨m0,w0⟩,turn⟩:=hw _ hD
 refine wpAny_newList ?_ (dq _)
 have I3:=I2.lnew (ys:=[]) (its:=[]) (t':=s₂.toks) .nil (dq _)
 refine wpAny_newFunctionEnv hnc (by intro y hy;simp at hy) (λh₁ hns₁ hsb₁=>?_) hkind
 generalize hs3:({s₂ with heap:=s₂.heap.push {cls:=.type "list",data:=.seq ([]:List Value).toArray}}:Shared)=s₃ at *
 have hs3':s₃.heap=s₂.heap.push {cls:=.type "list",data:=.seq ([]:List Value).toArray}:=by rw[<-hs3]
 have hC3:s₃.heap.objs.size=s₂.heap.objs.size+1:=by rw[hs3',k9]
 have keep23:∀b o,s₂.heap.get? b=some o->s₃.heap.get? b=some o:=λb o e=>by rw[hs3'];exact ak _ e
 have keep3:∀b o,s₃.heap.get? b=some o->h₁.get? b=some o:=λb o e=>hsb₁.extBut b o (c9 (bn e)) (ak _ e)
 have hne:∀b∈fp,b≠s₂.heap.objs.size:=λb hb=>c9 (hlt2 b hb)
 have f3:∀b∈fp,afm X pins (upd H2 s₂.heap.objs.size (.lst [])) b:=λb hb=>⟨by rw[nj (hne b hb)];exact(f2 b hb).1,(f2 b hb).2⟩
 have hlt3:∀b∈fp,b<s₃.heap.objs.size:=λb hb=>by rw[hC3];exact Nat.lt_succ_of_lt (hlt2 b hb)
 have I4:=ahu (tk:=s₃.toks+([]:List (Str×Value)).length) I3 hkind hnc hfree hsl f3 hlt3 hns₁ keep3
 have st4:tn 0 h₁:=T.keep _ _ _ st2 λb _ o e=>keep3 b o (keep23 b o e)
 generalize hz:(⟨qh X.env.cells scope.names [],s₃.heap.objs.size,s₃,upd H2 s₂.heap.objs.size (.lst []),fp⟩:CZ)=z at I4
 have ezC:z.C=s₃.heap.objs.size:=by rw[<-hz]
 have ezx:z.ex=fp:=by rw[<-hz]
 have stat:∀{H':Hp},(∀b∈fp,H' b=none)->∀b∈fp,afm (nv X _ scope z) [] H' b:=λhn b hb=>by
  subst hz
  have q:=I4.ok.exf b hb
  exact⟨hn b hb,q.1,I4.ok.exfs b hb,.inl hb,q.2,λp hp=>absurd (show p∈([]:List (Addr×Obj))from hp) (by simp)⟩
 have loop:∀s₄:Shared,s₄={s₃ with heap:=h₁,toks:=s₃.toks+([]:List (Str×Value)).length}->
   codeAny (model X.prog X.w) X.A (.compLoop (.ListComp elt [⟨target,iter,ifs,0⟩] scope pos) 0 (.ref it) (.ref s₂.heap.objs.size) (nv X N' scope z).env) (RR (.ref s₂.heap.objs.size) s₃.heap.objs.size) s₄:=by
  rintro s₄ rfl
  refine ad5 (λn s'=>∃i H',Inv (nv X N' scope z) [] (qt sl σ) H' s'/\tn i s'.heap/\(∀b∈fp,H' b=none)/\W i n H') ?_ m0 (mw 0 _ ⟨I4,st4,λb hb=>(f3 b hb).1,w0⟩)
  rintro n s5 ⟨i,H5,I5,st5,fr5,w5⟩
  rcases turn i n H5 w5 with ⟨stop,qn⟩|⟨go,N,hN,step⟩
  .refine thn (T.done (nv X N' scope z) rfl rfl rfl hc i [] s5 _ H5 _ I5 (stat fr5) st5 stop) λr s6 ⟨hr,I6⟩=>?_
   subst hr
   have un:Un (frs X.stack) fp (upd H2 s₂.heap.objs.size (.lst [])) H5 s₃.heap s6.heap:=by subst hz;exact I6.base
   have os6:s6.os=s₃.os:=by subst hz;exact I6.os
   have fC:H5 s₃.heap.objs.size=none:=by subst hz;exact I6.free
   have hch:∀b∈fp,(b∈X.ex\/X.s₀.heap.objs.size<=b)/\b≠X.env.locals/\(∀x c,X.env.cells.lookup x=some c->c≠b)/\∀p∈X.pn++pins,p.1≠b:=λb hb=>⟨(f2 b hb).2.2.2.1,(f2 b hb).2.1,(f2 b hb).2.2.2.2.1,(f2 b hb).2.2.2.2.2⟩
   have nC:s₃.heap.get? s₃.heap.objs.size=none:=Heap.get?_none_of_le (am _)
   have ns:∃m,s6.heap.Ns s₃.heap.objs.size m:=by
    subst hz
    obtain⟨m,hn,_⟩:=I6.loc
    exact⟨m,hn⟩
   refine hR _ _ H5 s6 fC ns (I3.fpOk (am _) fC) (λh' sb=>?_) (I3.call' (ch:=fp) os6 un I6.hok I6.bare hch) qn
   exact I3.call' (s':={s6 with heap:=h'}) (ch:=fp) os6 (Un.but un nC sb.extBut) (HOk.but I6.hok fC sb.extBut) I6.bare hch
  .refine thn (T.item (nv X N' scope z) rfl rfl rfl hc i [] s5 _ H5 _ I5 (stat fr5) st5 go) λr s6 ⟨u,hr,h6⟩=>?_
   subst hr
   refine thn h6 λ_ s7 ⟨x,H7,I7,r7,y7,st7,fr7⟩=>?_
   have I7':=I7.pinned (stat fr7) (T.obj _ _ st7)
   refine thn (hg z _ s7 _ H7 x u _ I7' r7 (step x H7 y7)) λ_ s8 ⟨σ8,H8,I8,ag,q8⟩=>?_
   have again:∀{s9:Shared} {H9:Hp},Inv (nv X N' scope z) ([]++adt fp s7.heap) σ8 H9 s9->N H9->∃m,m<n/\∃i H',Inv (nv X N' scope z) [] (qt sl σ) H' s9/\tn i s9.heap/\(∀b∈fp,H' b=none)/\W i m H':=λ{s9 H9} I9 n9=>by
    obtain⟨m',hm,w9⟩:=hN H9 n9
    refine(oj m' hm (i+1) H9 ⟨(I9.weak ag.1.symm ag.2).unpinned,T.keep _ _ _ st7 λb hb o e=>(I9.pin (b,o) (cz _ (cz _ (uw hb e)))).1,λb hb=>?_,w9⟩)
    obtain⟨o,e,d⟩:=T.obj _ _ st7 b hb
    exact(I9.pin (b,o) (cz _ (cz _ (uw hb e)))).2.1
   refine thn (ht z _ s8 σ8 H8 _ I8 q8) λok s9 ⟨H9,I9,q9⟩=>?_
   cases ok with
   | false=>exact again I9 q9
   | true=>
    refine thn (he z _ s9 σ8 H9 _ I9 q9) λu10 s10 ⟨y,H10,I10,r10,xs,hx,hz10,n10⟩=>?_
    exact thn (p9 _ s10 σ8 H10 (.ref s₂.heap.objs.size) [y] (.ref s₂.heap.objs.size) [u10] (λ_ H'=>N H') I10 rfl (.cons r10 .nil) (nq _ xs y ⟨rfl,rfl,hx,hz10,n10⟩)) λ_ s11 ⟨_,H11,I11,_,n11⟩=>again I11 n11
 have eenv:(nv X N' scope z).env=compEnvC scope (qh X.env.cells scope.names []) s₃.heap.objs.size X.env:=by rw[<-hz];rfl
 rw[eenv]at loop
 exact codeAny_compStart_list (loop _ rfl) (T.self _ 0 _ _ _ st4 (loop _ rfl))
theorem oq(N':List Str)(sl:List (Option Nat)){wi:TI}{g:TG}{tt:TT}{te:TE}(hc:X.calm=true)(hkind:scope.kind=.function)
  (hnames:∀x∈scope.names,x.2=.local->scope.names.lookup x.1=some .local)
  (hnc:∀y∈scope.names,y.2≠.cell) (hfr:frOk scope X.env.scope=true)
  (hsl:slOk X.N N' sl scope X.env.scope=true) (hi:PI X target iter wi)
  (hg:∀z,PG (nv X N' scope z) target g) (ht:∀z,PTs (nv X N' scope z) ifs tt) (he:∀z,PE (nv X N' scope z) elt te)
  (hs:∀x,foldedSetIterable iter X.env x=pure x:=by intro _;rfl) :
  PE X (.ListComp elt [⟨target,iter,ifs,0⟩] scope pos) (aky wi sl g tt te):=by
 have hfree:=frOk.of hfr
 intro pins s σ H Q I h
 rw[eval_ListComp]
 have hcl:closureFor scope X.env=pure (qh X.env.cells scope.names []):=v5 λx hx hk=>I.ok.has x.1 (hfree x hx hk)
 refine wpAny_comprehension_free (use:=none) rfl hs hcl hkind hnames (thn (hi pins s σ H _ I h) λxv s₁ h₁=>thn h₁ λitv s₂ h₂=>?_)
 obtain⟨it,fp,tn,J,H2,e,I2,T,st2,f2,hw⟩:=h₂
 subst e
 refine aa3 (RR:=λacc C=>compPost (model X.prog X.w) X.A X.xe none (EP X pins σ Q) acc C) hc hkind hnc hfree hsl hg ht he I2 T st2 f2 hw ?_
 intro D C H' s' fC ns _ hI _ q
 obtain⟨m,hn⟩:=ns
 exact⟨m,hn,λh' sb=>(mw (.ref D) H' ⟨hI h' sb,rfl,q⟩)⟩
theorem ai9(N':List Str)(sl:List (Option Nat)){wi:TI}{g:TG}{tt:TT}{te:TE}{i:Nat}{y:Str}{py spos:Pos}(hN:X.N.Nodup)(hyi:X.N[i]?=some y)(hx:Loc X.env.scope y)
  (hsw:swapsWith (.ListComp elt [⟨target,iter,ifs,0⟩] scope pos) (some (.Name y py)) spos.line X.env=pure true) (hc:X.calm=true) (hkind:scope.kind=.function)
  (hnames:∀x∈scope.names,x.2=.local->scope.names.lookup x.1=some .local)
  (hnc:∀y∈scope.names,y.2≠.cell) (hfr:frOk scope X.env.scope=true)
  (hsl:slOk X.N N' sl scope X.env.scope=true) (hi:PI X target iter wi)
  (hg:∀z,PG (nv X N' scope z) target g) (ht:∀z,PTs (nv X N' scope z) ifs tt) (he:∀z,PE (nv X N' scope z) elt te)
  (hs:∀x,foldedSetIterable iter X.env x=pure x:=by intro _;rfl) (hf:X.fn y=true\/X.env.scope.names.lookup y=some .local:=by first|exact .inl rfl|exact .inr rfl|assumption) :
  PS X (.Assign [.Name y py] (.ListComp elt [⟨target,iter,ifs,0⟩] scope pos) spos) (auh (aky wi sl g tt te) (aaq i)):=by
 have hfree:=frOk.of hfr
 intro pins s σ H D I h
 rw[exec_Assign_Name_used _ _ _ _ hsw]
 refine aa (wpAny_standAt (aa ?_))
 show wpAny _ _ (do let _ <-comprehension (.ListComp elt [⟨target,iter,ifs,0⟩] scope pos) scope X.env _ (newList []) false (eval iter X.env) (some (assign (.Name y py) X.env))) _ _ s
 have hcl:closureFor scope X.env=pure (qh X.env.cells scope.names []):=v5 λx hx hk=>I.ok.has x.1 (hfree x hx hk)
 refine aa (iz (wpAny_comprehension_free (use:=some (assign (.Name y py) X.env)) (Q:=λ_ s'=>SP X pins D .next s') rfl hs hcl hkind hnames
  (thn (hi pins s σ H _ I h) λxv s₁ h₁=>thn h₁ λitv s₂ h₂=>?_)) (λ_ s' hq=>af (af hq)) λ_ _ e=>e)
 obtain⟨it,fp,tn,J,H2,e,I2,T,st2,f2,hw⟩:=h₂
 subst e
 refine aa3 (RR:=λacc C=>compPost (model X.prog X.w) X.A X.xe (some (assign (.Name y py) X.env)) (λ_ s'=>SP X pins D .next s') acc C) hc hkind hnc hfree hsl hg ht he I2 T st2 f2 hw ?_
 intro E C H' s' fC ns fp hI I' q
 obtain⟨m,hn⟩:=ns
 show wpAny _ _ (assign (.Name y py) X.env (.ref E)) _ _ _
 refine wpAny_assign_Name (adr I' hN hyi hx (v:=.ref E) rfl (λs2 I2 ⟨a,sb,ha⟩=>?_) hf)
 have hCa:C≠a:=by
  rcases ha with ha|ha
  .rw[ha];exact fp.2.1
  .exact λz=>fp.2.2.2.2.1 _ _ ha z.symm
 exact⟨m,hn.sameBut sb hCa,λh3 sb3=>(mw _ H' ⟨I2.turned (t':=s2.toks) (λb o hb e=>(sb3.2 b hb).trans e) fp.1 fp.2.1 fp.2.2.2.1 fp.2.2.2.2.1 fp.2.2.2.2.2,q⟩)⟩
end
mutual
def Rep(H:Hp):PyData->V->Prop
 | .none,v=>v=.non
 | .bool b,v=>v=.bl b
 | .int i,v=>v=.int i
 | .str x,v=>v=.str x/\iw x=true
 | .tuple ds,v=>∃a xs,v=.ref a/\H a=some (.tup xs)/\RepAll H ds xs
 | .list ds,v=>∃a xs,v=.ref a/\H a=some (.lst xs)/\RepAll H ds xs
 | .dict _,_=>False
def RepAll(H:Hp):List PyData->List V->Prop
 | [],xs=>xs=[]
 | d::ds,xs=>∃x r,xs=x::r/\Rep H d x/\RepAll H ds r
end
mutual
noncomputable def imm:PyData->Bool
 | .none=>true
 | .bool _=>true
 | .int _=>true
 | .str _=>true
 | .tuple ds=>pj ds
 | .list _=>false
 | .dict _=>false
noncomputable def pj:List PyData->Bool
 | []=>true
 | d::ds=>imm d&&pj ds
end
def Tk(H H':Hp):Prop:=∀b xs,H b=some (.tup xs)->H' b=some (.tup xs)
theorem Tk.refl(H:Hp):Tk H H:=λ_ _ h=>h
theorem Tk.trans{H H1 H2:Hp}(a:Tk H H1)(b:Tk H1 H2):Tk H H2:=λc o h=>b c o (a c o h)
theorem Tk.of_same{H H':Hp}(h:Same H H'):Tk H H':=λb xs q=>h b _ q
theorem Tk.lst{H:Hp}{p:Addr}{xs:List V}{o:HO}(h:H p=some (.lst xs)):Tk H (upd H p o):=λb ys q=>by rw[nj (sx q h (by intro z;cases z))];exact q
mutual
theorem Rep.tk{H H':Hp}(t:Tk H H'):∀{d:PyData} {v:V},imm d=true->Rep H d v->Rep H' d v
 | .none,_,_,h=>h
 | .bool _,_,_,h=>h
 | .int _,_,_,h=>h
 | .str _,_,_,h=>h
 | .tuple ds,v,hi,h=>by
  obtain⟨a,xs,e,ha,r⟩:=h
  exact(mw a xs ⟨e,t _ _ ha,RepAll.tk t hi r⟩)
 | .list _,_,hi,_=>absurd hi aj
 | .dict _,_,hi,_=>absurd hi aj
theorem RepAll.tk{H H':Hp}(t:Tk H H'):∀{ds:List PyData} {xs:List V},pj ds=true->RepAll H ds xs->RepAll H' ds xs
 | [],_,_,h=>h
 | d::ds,xs,hi,h=>by
  obtain⟨x,r,e,h1,h2⟩:=h
  have hi':(imm d&&pj ds)=true:=hi
  rw[du]at hi'
  exact(mw x r ⟨e,Rep.tk t hi'.1 h1,RepAll.tk t hi'.2 h2⟩)
end
mutual
theorem Rep.same{H H':Hp}(t:Same H H'):∀{d:PyData} {v:V},Rep H d v->Rep H' d v
 | .none,_,h=>h
 | .bool _,_,h=>h
 | .int _,_,h=>h
 | .str _,_,h=>h
 | .tuple ds,v,h=>by
  obtain⟨a,xs,e,ha,r⟩:=h
  exact(mw a xs ⟨e,t _ _ ha,RepAll.same t r⟩)
 | .list ds,v,h=>by
  obtain⟨a,xs,e,ha,r⟩:=h
  exact(mw a xs ⟨e,t _ _ ha,RepAll.same t r⟩)
 | .dict _,_,h=>h
theorem RepAll.same{H H':Hp}(t:Same H H'):∀{ds:List PyData} {xs:List V},RepAll H ds xs->RepAll H' ds xs
 | [],_,h=>h
 | d::ds,xs,h=>by
  obtain⟨x,r,e,h1,h2⟩:=h
  exact(mw x r ⟨e,Rep.same t h1,RepAll.same t h2⟩)
end
theorem RepAll.length{H:Hp}:∀{ds:List PyData} {xs:List V},RepAll H ds xs->xs.length=ds.length
 | [],xs,h=>by have e:xs=[]:=h;rw[e];rfl
 | d::ds,xs,h=>by
  obtain⟨x,r,e,_,h2⟩:=h
  rw[e,b8,b8,RepAll.length h2]
theorem RepAll.get{H:Hp}:∀{ds:List PyData} {xs:List V} {i:Nat} {d:PyData},RepAll H ds xs->ds[i]?=some d->∃x,xs[i]?=some x/\Rep H d x
 | [],_,_,_,_,e=>by simp at e
 | d::ds,xs,0,d',h,e=>by
  obtain⟨x,r,e1,h1,_⟩:=h
  subst e1
  simp at e;subst e
  exact⟨x,rfl,h1⟩
 | d::ds,xs,i+1,d',h,e=>by
  obtain⟨x,r,e1,_,h2⟩:=h
  subst e1
  obtain⟨y,h3,h4⟩:=RepAll.get (i:=i) h2 (by simpa using e)
  exact⟨y,by simpa using h3,h4⟩
theorem RepAll.at{H:Hp}{ds:List PyData}{xs:List V}{i:Nat}{x:V}(h:RepAll H ds xs)(e:xs[i]?=some x):∃d,ds[i]?=some d/\Rep H d x:=by
 have hi:i<xs.length:=(ae.mp e).1
 have hi':i<ds.length:=by rw[<-h.length];exact hi
 obtain⟨y,h1,h2⟩:=h.get (ab hi')
 rw[e]at h1;cases h1
 exact⟨_,ab hi',h2⟩
theorem RepAll.append{H:Hp}:∀{ds es:List PyData} {xs ys:List V},RepAll H ds xs->RepAll H es ys->RepAll H (ds++es) (xs++ys)
 | [],es,xs,ys,h,h'=>by have e:xs=[]:=h;rw[e];exact h'
 | d::ds,es,xs,ys,h,h'=>by
  obtain⟨x,r,e,h1,h2⟩:=h
  subst e
  exact(mw x (r++ys) ⟨rfl,h1,RepAll.append h2 h'⟩)
theorem RepAll.snoc{H:Hp}{ds:List PyData}{d:PyData}{xs:List V}{x:V}(h:RepAll H ds xs)(h':Rep H d x):RepAll H (ds++[d]) (xs++[x]):=h.append (mw x ([]) ⟨rfl,h',rfl⟩)
mutual
theorem Rep.lay{H:Hp}:∀{d:PyData} {v:V},Rep H d v->d.canLay0=true
 | .none,_,_=>rfl
 | .bool _,_,_=>rfl
 | .int _,_,_=>rfl
 | .str _,_,h=>h.2
 | .tuple ds,_,h=>by
  obtain⟨_,_,_,_,r⟩:=h
  exact RepAll.lay r
 | .list ds,_,h=>by
  obtain⟨_,_,_,_,r⟩:=h
  exact RepAll.lay r
 | .dict _,_,h=>h.elim
theorem RepAll.lay{H:Hp}:∀{ds:List PyData} {xs:List V},RepAll H ds xs->ic ds=true
 | [],_,_=>rfl
 | d::ds,_,h=>by
  obtain⟨x,r,e,h1,h2⟩:=h
  show(d.canLay0&&ic ds)=true
  rw[Rep.lay h1,RepAll.lay h2]
  rfl
end
section
variable{X:Cx}{pins:List (Addr×Obj)}{σ:L2.St}{H:Hp}{s:Shared}
mutual
theorem Rep.reads(I:Inv X pins σ H s):∀{d:PyData} {v:V} {u:Value},Rep H d v->RelV v u->∃as,Reads s.heap u d as
 | .none,v,u,h,r=>by cases (show v=.non from h);cases (show u=Value.none from r);exact⟨_,.none⟩
 | .bool b,v,u,h,r=>by cases (show v=.bl b from h);cases (show u=Value.bool b from r);exact⟨_,.bool b⟩
 | .int i,v,u,h,r=>by
  cases (show v=.int i from h)
  obtain⟨t,e⟩:=(show ∃t,u=Value.int i t from r)
  cases e;exact⟨_,.int i t⟩
 | .str x,v,u,h,r=>by
  cases (show v=.str x from h.1)
  obtain⟨t,e⟩:=(show ∃t,u=Value.str x t from r)
  cases e;exact⟨_,.str x t⟩
 | .tuple ds,v,u,h,r=>by
  obtain⟨a,xs,e,ha,q⟩:=h
  subst e
  cases (show u=Value.ref a from r)
  obtain⟨its,rv,⟨o,e1,e2,n,e3⟩,_⟩:=I.tuple (SqT.of (K:=X.K) ha)
  obtain⟨as,z⟩:=RepAll.reads I q rv
  exact⟨as,.tuple e1 e2 e3 z⟩
 | .list ds,v,u,h,r=>by
  obtain⟨a,xs,e,ha,q⟩:=h
  subst e
  cases (show u=Value.ref a from r)
  obtain⟨its,rv,⟨o,n,e1,e2,_,e3⟩,_⟩:=I.list (SqL.of (K:=X.K) ha)
  obtain⟨as,z⟩:=RepAll.reads I q rv
  exact⟨_,.list e1 e2 e3 z⟩
 | .dict _,_,_,h,_=>h.elim
theorem RepAll.reads(I:Inv X pins σ H s):∀{ds:List PyData} {xs:List V} {us:List Value},RepAll H ds xs->Vals xs us->∃as,ReadsAll s.heap us ds as
 | [],xs,us,h,r=>by
  cases (show xs=[]from h)
  cases r
  exact⟨_,.nil⟩
 | d::ds,xs,us,h,r=>by
  obtain⟨x,t,e,h1,h2⟩:=h
  subst e
  cases r with
  | cons r1 r2=>
   obtain⟨as,z1⟩:=Rep.reads I h1 r1
   obtain⟨bs,z2⟩:=RepAll.reads I h2 r2
   exact⟨_,.cons z1 z2⟩
end
end
def awu(neg:Bool):R2:=λx y H Q=>∃dx dy,Rep H dx x/\Rep H dy y/\dx.depth<=60/\Q (.bl (if neg then !PyData.eqv dx dy else cj dx dy)) H
section
variable{X:Cx}
theorem ass(hu:X.A.units+64<cLine):OpR X (compareOp .Eq) (awu false):=by
 intro pins s σ H x y v u Q I rx ry h
 obtain⟨dx,dy,hx,hy,hd,q⟩:=h
 obtain⟨as,r1⟩:=hx.reads I rx
 obtain⟨bs,r2⟩:=hy.reads I ry
 exact SeqAt.compareEq_reads r1 r2 hx.lay hy.lay (by have:=Nat.min_le_left dx.depth dy.depth;omega) (mw (.bl _) H ⟨I,rfl,q⟩)
theorem atp(hu:X.A.units+64<cLine):OpR X (compareOp .NotEq) (awu true):=by
 intro pins s σ H x y v u Q I rx ry h
 obtain⟨dx,dy,hx,hy,hd,q⟩:=h
 obtain⟨as,r1⟩:=hx.reads I rx
 obtain⟨bs,r2⟩:=hy.reads I ry
 exact SeqAt.compareNe_reads r1 r2 hx.lay hy.lay (by have:=Nat.min_le_left dx.depth dy.depth;omega) (mw (.bl _) H ⟨I,rfl,q⟩)
def awz(neg:Bool):R2:=λx y H Q=>∃d p xs ds,Rep H d x/\y=.ref p/\(H p=some (.lst xs)\/H p=some (.tup xs))/\RepAll H ds xs/\d.depth<=60/\
 Q (.bl (if neg then !(ds.any λe=>cj e d)else ds.any λe=>cj e d)) H
theorem af7(hu:X.A.units+64<cLine):OpR X (compareOp .In) (awz false):=by
 intro pins s σ H x y v u Q I rx ry h
 obtain⟨d,p,xs,ds,hx,rfl,hp,hds,hd,q⟩:=h
 cases ry
 obtain⟨bs,r2⟩:=hx.reads I rx
 have room:X.A.units+1+min (b7 ds) d.depth<cLine:=by have:=Nat.min_le_right (b7 ds) d.depth;omega
 rcases hp with hp|hp
 .obtain⟨as,r1⟩:=Rep.reads I (d:=.list ds) (v:=.ref p) (u:=.ref p) (mw p xs ⟨rfl,hp,hds⟩) rfl
  exact SeqAt.in_list_reads r1 r2 hds.lay hx.lay room (mw (.bl _) H ⟨I,rfl,q⟩)
 .obtain⟨as,r1⟩:=Rep.reads I (d:=.tuple ds) (v:=.ref p) (u:=.ref p) (mw p xs ⟨rfl,hp,hds⟩) rfl
  exact SeqAt.in_tuple_reads r1 r2 hds.lay hx.lay room (mw (.bl _) H ⟨I,rfl,q⟩)
theorem aik(hu:X.A.units+64<cLine):OpR X (compareOp .NotIn) (awz true):=by
 intro pins s σ H x y v u Q I rx ry h
 obtain⟨d,p,xs,ds,hx,rfl,hp,hds,hd,q⟩:=h
 cases ry
 obtain⟨bs,r2⟩:=hx.reads I rx
 have room:X.A.units+1+min (b7 ds) d.depth<cLine:=by have:=Nat.min_le_right (b7 ds) d.depth;omega
 rcases hp with hp|hp
 .obtain⟨as,r1⟩:=Rep.reads I (d:=.list ds) (v:=.ref p) (u:=.ref p) (mw p xs ⟨rfl,hp,hds⟩) rfl
  exact SeqAt.notIn_list_reads r1 r2 hds.lay hx.lay room (mw (.bl _) H ⟨I,rfl,q⟩)
 .obtain⟨as,r1⟩:=Rep.reads I (d:=.tuple ds) (v:=.ref p) (u:=.ref p) (mw p xs ⟨rfl,hp,hds⟩) rfl
  exact SeqAt.notIn_tuple_reads r1 r2 hds.lay hx.lay room (mw (.bl _) H ⟨I,rfl,q⟩)
theorem ql:sw X (.builtin "isinstance") (λxs H Q=>∃x T t b,xs=[x,.ty T]/\agw X.K H x t/\PySem.W.kitOne X.K t (.type T)=some b/\Q (.bl b) H):=by
 intro pins s σ H xs us Q I r h
 obtain⟨x,T,t,b,rfl,ty,e,q⟩:=h
 obtain⟨u,w',rfl,r1,r2⟩:=aqp r
 cases (show w'=Value.type T from r2)
 exact ai2 I r1 ty e λtk=>(mw (.bl b) H ⟨I.tok _,rfl,q⟩)
end
noncomputable def apt:PyData->PyData->Bool
 | .int a,.int b=>decide (a<b)
 | .str a,.str b=>decide (a.cps.toList<b.cps.toList)
 | _,_=>false
noncomputable def tz:List PyData->List PyData->Bool
 | [],[]=>false
 | [],_::_=>true
 | _::_,[]=>false
 | x::xs,y::ys=>if cj x y=true then tz xs ys else apt x y
def Row:List Bool->List PyData->Prop
 | [],ds=>ds=[]
 | true::ks,ds=>∃i r,ds=.int i::r/\Row ks r
 | false::ks,ds=>∃x r,ds=.str x::r/\Row ks r
noncomputable def aod:PyData->List PyData
 | .tuple ds=>ds
 | _=>[]
section
variable{prog:Program}{w:World}{A:Around}{E:Value->Shared->Prop}{s:Shared}{Q:Bool->Shared->Prop}
theorem acn:∀{ks:List Bool} {xs ys:List PyData} {us vs:List Value} {as bs:List Addr} {i:Nat},Row ks xs->Row ks ys->ReadsAll s.heap us xs as->ReadsAll s.heap vs ys bs->Q (tz xs ys) s->
  PySem.W.KatLex prog w A true false Q (us.zip vs) i s
 | [],xs,ys,us,vs,as,bs,i,h1,h2,r1,r2,q=>by
  cases (show xs=[]from h1);cases (show ys=[]from h2)
  cases r1;cases r2
  exact q
 | true::ks,xs,ys,us,vs,as,bs,i,h1,h2,r1,r2,q=>by
  obtain⟨a,xr,rfl,h1⟩:=h1
  obtain⟨b,yr,rfl,h2⟩:=h2
  cases r1 with
  | cons ra r1=>
   cases r2 with
   | cons rb r2=>
    cases ra with
    | int _ t=>
     cases rb with
     | int _ u=>
      rw[List.zip_cons_cons]
      refine PySem.W.kat_cons (SeqAt.EqAt.int_int a t b u prog w _ _ ?_)
      have q':Q (if cj (.int a) (.int b)=true then tz xr yr else apt (.int a) (.int b)) s:=q
      have e:cj (.int a) (.int b)=(a==b):=rfl
      rw[e]at q'
      cases hb:(a==b)with
      | true=>rw[hb,if_pos rfl]at q';exact PySem.W.kat_yes (acn h1 h2 r1 r2 q')
      | false=>
       rw[hb,if_neg aj]at q'
       refine PySem.W.kat_no ?_
       cases hi:(i==0)with
       | true=>exact oneLt_int q'
       | false=>exact PySem.W.kat_one _ _ (lt_int q')
 | false::ks,xs,ys,us,vs,as,bs,i,h1,h2,r1,r2,q=>by
  obtain⟨a,xr,rfl,h1⟩:=h1
  obtain⟨b,yr,rfl,h2⟩:=h2
  cases r1 with
  | cons ra r1=>
   cases r2 with
   | cons rb r2=>
    cases ra with
    | str _ t=>
     cases rb with
     | str _ u=>
      rw[List.zip_cons_cons]
      refine PySem.W.kat_cons (SeqAt.EqAt.str_str a t b u prog w _ _ ?_)
      have q':Q (if cj (.str a) (.str b)=true then tz xr yr else apt (.str a) (.str b)) s:=q
      have e:cj (.str a) (.str b)=(a==b):=rfl
      rw[e]at q'
      cases hb:(a==b)with
      | true=>rw[hb,if_pos rfl]at q';exact PySem.W.kat_yes (acn h1 h2 r1 r2 q')
      | false=>
       rw[hb,if_neg aj]at q'
       refine PySem.W.kat_no ?_
       cases hi:(i==0)with
       | true=>exact oneLt_str q'
       | false=>exact PySem.W.kat_one _ _ (PyProof.Rows.lt_str q')
end
theorem Row.len{ks:List Bool}:∀{ds:List PyData},Row ks ds->ds.length=ks.length:=by
 induction ks with
 | nil=>intro ds h;cases (show ds=[]from h);rfl
 | cons k ks ih=>
  intro ds h
  cases k with
  | true=>obtain⟨i,r,rfl,h⟩:=h;rw[b8,b8,ih h]
  | false=>obtain⟨i,r,rfl,h⟩:=h;rw[b8,b8,ih h]
def Rows(ks:List Bool)(ds:List PyData):Prop:=∀d∈ds,∃r,d=.tuple r/\Row (true::ks) r
section
variable{X:Cx}
theorem ank(I:Inv X pins σ H s){ks:List Bool}{d:PyData}{v:V}{u:Value}(h:Rep H d v)(r:RelV v u){row:List PyData}(e:d=.tuple row)(hr:Row (true::ks) row) :
  ∃a o vs n as i t,u=.ref a/\s.heap.get? a=some o/\o.cls=.type "tuple"/\o.data=.seq vs n/\ReadsAll s.heap vs.toList row as/\vs[0]?=some (.int i t):=by
 subst e
 obtain⟨as,z⟩:=h.reads I r
 cases z with
 | @tuple a o vs n _ _ e1 e2 e3 z=>
  obtain⟨i,rr,rfl,_⟩:=hr
  have z':=z
  generalize hv:vs.toList=vl at z
  cases z with
  | cons ra rb=>
   cases ra with
   | int _ t=>
    refine(l9 a o vs n _ (mw i t ⟨rfl,e1,e2,e3,z',?_⟩))
    rw[<-bb,hv]
    rfl
theorem agu(I:Inv X pins σ H s){ks:List Bool}:∀{ds:List PyData} {xs:List V} {us:List Value},RepAll H ds xs->Vals xs us->Rows ks ds->∃fs:List Value,PySem.W.KatTups s.heap us fs/\fs.length=ds.length/\∀v∈fs,∃i t,v=Value.int i t
 | [],xs,us,h,r,_=>by
  cases (show xs=[]from h);cases r
  exact⟨[],trivial,rfl,λv hv=>by cases hv⟩
 | d::ds,xs,us,h,r,hr=>by
  obtain⟨x,t,e,h1,h2⟩:=h
  subst e
  cases r with
  | cons r1 r2=>
   obtain⟨row,e,hrow⟩:=hr d bj
   obtain⟨a,o,vs,n,as,i,tk,rfl,e1,e2,e3,_,e4⟩:=ank I h1 r1 e hrow
   obtain⟨fs,k1,k2,k3⟩:=agu I h2 r2 λd hd=>hr d (bf _ hd)
   refine⟨.int i tk::fs,PySem.W.KatTups.cons e1 e2 e3 e4 k1,by rw[b8,b8,k2],λv hv=>?_⟩
   rcases bq.mp hv with rfl|hv
   .exact(mw i tk rfl)
   .exact k3 v hv
theorem KatTups.keeps{h h':Heap}(k:∀b o,h.get? b=some o->h'.get? b=some o):∀{vs fs:List Value},PySem.W.KatTups h vs fs->PySem.W.KatTups h' vs fs
 | [],[],_=>trivial
 | v::vs,f::fs,x=>by
  obtain⟨⟨a,o,xs,n,e,e1,e2⟩,r⟩:=x
  exact⟨(m8 a o xs n ⟨e,k _ _ e1,e2⟩),KatTups.keeps k r⟩
 | [],_::_,x=>x.elim
 | _::_,[],x=>x.elim
end
end L3
namespace L3
open PySem PySem.Spec PyProof.Rows
theorem ajy(a v:Value):argsOk "max" ⟨[a],[(ba "default",v)]⟩:=by unfold argsOk;kernel_rfl
section
variable{prog:Program}{w:World}{A:Around}{E:Value->Shared->Prop}{s:Shared}
theorem aiy{l:Addr}{vs:List Value}{ns:List Int}{Q:Value->Shared->Prop}(hh:A.handled=none)(hl:s.heap.IsList l vs.toArray)(hi:IntsAre vs ns)(hne:0<ns.length)
  (h:∀h' M (t:Tok) tk,(∀b o,s.heap.get? b=some o->h'.get? b=some o)->M∈ns->(∀a,a∈ns->M<=a)->Q (.int M t) {s with heap:=h',toks:=tk}) :
  wpAny (model prog w) A (call (.builtin "min") [.ref l]) Q E s:=by
 obtain⟨xs,e⟩:=hi.allInts.items
 have hns:ns=xs.toList.map (·.1):=by rw[<-hi.numsOf,<-nums_intItems,<-e]
 have hsz:0<xs.size:=by
  have h3:=hne;rw[hns,ah,au]at h3;exact h3
 rw[e]at hl
 refine min_intList hh hl hsz λv h' tk hv hk=>?_
 obtain⟨t,rfl⟩:=intItems_at hv
 obtain⟨h1,h2⟩:=argBest_lt (numAt xs) (xs.size-1)
 refine h _ _ t tk hk ?_ λa ha=>?_
 .rw[hns,numAt_eq];exact getD_mem (by rw[ah,au];omega)
 .rw[hns]at ha
  obtain⟨j,hj,rfl⟩:=mem_getD ha
  rw[ah,au]at hj
  rw[<-numAt_eq];exact h2 j (by omega)
end
end L3
namespace L3
open PySem PySem.Spec PyProof.Rows L2
noncomputable def qa:Expr->Bool
 | .Starred _ _=>false
 | _=>true
theorem o5{e:Expr}{es:List Expr}{env:Env}(h:qa e=true):starEach (e::es) env=(false,eval e env)::starEach es env:=by
 cases e<;>first|rfl|exact absurd h aj
theorem uk{pos:Pos}{env:Env}:∀{es:List Expr},es.all qa=true->(backTo pos (starEach es env)).any (·.1)=false
 | [],_=>rfl
 | e::es,h=>by
  rw[List.all_cons,du]at h
  rw[o5 h.1]
  show(false||(backTo pos (starEach es env)).any (·.1))=false
  rw[uk h.2]
  rfl
theorem mf{X:Cx}{e:Expr}{es:List Expr}{te:TE}{t:TA}(ha:PE X e te)(hr:PA X es t)(h:qa e=true:=by rfl):PA X (e::es) (vf te t):=aop ha hr (o5 h)
theorem p8{X:Cx}{x:Str}{p pos:Pos}{e:Expr}{es:List Expr}{t:TA}{id:String}{r:List V->Hp->VK->Prop}(hc:sw X (.builtin id) r)(hg:Gl X x)(hm:X.mg x=none)(hv:bootBuiltins x=some (.builtin id))(ha:PA X (e::es) t)
  (hn:x≠"__name__":=by decide) (hdb:(x==("__debug__" : Str))=false:=by decide) (h1:qa e=true:=by rfl) (h2:es.all qa=true:=by rfl):PE X (.Call (.Name x p) (e::es) [] pos) (tCB r t):=
 amo hc hg hm hv ha hn hdb (o5 h1) (uk h2)
theorem wv{X:Cx}{x:Str}{p pos:Pos}{e:Expr}{es:List Expr}{t:TA}{T:String}{r:List V->Hp->VK->Prop}(hc:sw X (.type T) r)(hg:Gl X x)(hm:X.mg x=none)(hv:bootBuiltins x=some (.type T))(ha:PA X (e::es) t)
  (hn:x≠"__name__":=by decide) (hdb:(x==("__debug__" : Str))=false:=by decide) (h1:qa e=true:=by rfl) (h2:es.all qa=true:=by rfl):PE X (.Call (.Name x p) (e::es) [] pos) (tCB r t):=
 aj9 hc hg hm hv ha hn hdb (o5 h1) (uk h2)
theorem zp{X:Cx}{tg a:Expr}{ta:TA}{p pos:Pos}(hg:Gl X "range")(hm:X.mg "range" = none)(ha:PA X [a] ta)(h:qa a=true:=by rfl):PI X tg (.Call (.Name "range" p) [a] [] pos) (aqh ta):=
 aks hg hm ha (o5 h)
def Fn(P:Program)(w:World)(K:ai)(mg:Str->Option Value)(base:Heap)(x:Str)(k:Nat)(ps:List Str)(sp:Sp):Prop:=
 ∃f fd,qe P w K mg base CX0 k f fd ps sp/\mg x=some (.ref f)/\lg K (.ref f)=true/\Binds K fd ps []
section
variable{X:Cx}{k j:Nat}{ps:List Str}{sp:Sp}{x:Str}{p pos kpos:Pos}{e e2:Expr}{es:List Expr}{t tk:TA}{te:TE}
theorem nh(F:Fn X.prog X.w X.K X.mg X.base x k ps sp)(hr:Room j X.A)(hk:k<=j)(hg:Gl X x)
  (ha:PA X (e::es) t) (hdb:(x==("__debug__" : Str))=false:=by decide) (h1:qa e=true:=by rfl) (h2:es.all qa=true:=by rfl) :
  PE X (.Call (.Name x p) (e::es) [] pos) (aq1 sp [] E0 t):=by
 obtain⟨f,fd,F,m,kp,b⟩:=F
 exact an9 F (hr.mono hk) hg m kp b .nil ase ha hdb (o5 h1) (uk h2)
def axd:List V->Hp->VK->Prop:=λxs H Q=>∃q,∃ns:List Int,xs=[.ref q]/\H q=some (.lst (ns.map V.int))/\0<ns.length/\∀M,M∈ns->(∀a∈ns,M<=a)->Q (.int M) H
theorem ac1(hc:X.calm=true):sw X (.builtin "min") axd:=by
 intro pins s σ H xs us Q I r h
 obtain⟨q,ns,rfl,hq,hn,h⟩:=h
 obtain⟨u,rfl,r1⟩:=sy r
 cases (show u=Value.ref q from r1)
 obtain⟨its,rv,pl,hz⟩:=I.list (SqL.of (K:=X.K) hq)
 exact aiy (I.ok.hd hc) pl.isList (abj rv) hn λh' M t tk k h1 h2=>(mw (.int M) H ⟨I.kept k,⟨_,rfl⟩,h M h1 h2⟩)
end
theorem qv{X:Cx}{N:List Str}{scope:Scope}{z:CZ}{es:List Expr}{k:Nat}{pos:Pos}{t:TGs}{n:Nat}(hc:X.calm=true)(h:PGs (nv X N scope z) es t)
  (hn:(assignEach es (nv X N scope z).env).length=n:=by rfl) (hst:(assignEach es (nv X N scope z).env).findIdx? (·.1)=none:=by rfl):PG (nv X N scope z) (.Tuple es k pos) (atw X.K n t):=
 rj (X:=nv X N scope z) hc h hn hst
section
variable{X:Cx}{N:List Str}{scope:Scope}{z:CZ}
theorem u9:IxR (nv X N scope z) (at4 X.K):=nu (X:=nv X N scope z)
theorem al3:IxR (nv X N scope z) (awv X.K):=o9 (X:=nv X N scope z)
theorem xh:sw (nv X N scope z) (.builtin "isinstance") (λxs H Q=>∃x T t b,xs=[x,.ty T]/\agw X.K H x t/\PySem.W.kitOne X.K t (.type T)=some b/\Q (.bl b) H):=ql (X:=nv X N scope z)
end
section
variable{K:ai}{a D:Addr}{xs:List V}{sl:List (Option Nat)}{g:TG}{tt:TT}{te:TE}{σ:L2.St}{H1:Hp}{Q:VK}
def Nx(D:Addr)(i:Nat)(Pv:Nat->List V->Hp->Prop):Hp->Prop:=λH'=>∃ys,H' D=some (.lst ys)/\ys.length<=i+1/\Pv (i+1) ys H'
theorem pi{i:Nat}{Pv:Nat->List V->Hp->Prop}{H:Hp}{ys:List V}{y:V}(hi:i<1000)(hD:H D=some (.lst ys))(hl:ys.length<=i)(h:Pv (i+1) (ys++[y]) (upd H D (.lst (ys++[y])))) :
  ∃xs,H D=some (.lst xs)/\xs.length<sizeLine/\Nx D i Pv (upd H D (.lst (xs++[y]))):=
 (oe ys hD (mz (by omega)) (ys++[y]) ⟨mr,by rw[bu,g9];omega,h⟩)
theorem ab7(J:It)(n:Nat)(Pv:Nat->List V->Hp->Prop)(h0:Pv 0 [] (upd H1 D (.lst [])))
  (hgo:∀i ys H,i<n->Pv i ys H->J.go i H) (hst:∀ys H,Pv n ys H->J.stop n H)
  (hs:∀i x ys H H',i<n->J.yld i H x H'->H D=some (.lst ys)->ys.length<=i->Pv i ys H->g x (qt sl σ) H' λσ2 H2=>Agree (qt sl σ) σ2/\tt σ2 H2 λb H3=>
   if b=true then te σ2 H3 λy H4=>∃xs,H4 D=some (.lst xs)/\xs.length<sizeLine/\Nx D i Pv (upd H4 D (.lst (xs++[y])))else Nx D i Pv H3)
  (hd:∀ys H,H D=some (.lst ys)->ys.length<=n->Pv n ys H->Q (.ref D) H):acl J sl g tt te σ H1 D Q:=by
 refine⟨λi m H=>m=n-i/\i<=n/\∃ys,H D=some (.lst ys)/\ys.length<=i/\Pv i ys H,(oe n (by simp) (dq _) ([]) ⟨mr,am _,h0⟩),?_⟩
 rintro i m H ⟨rfl,hi,ys,hy,hl,p⟩
 by_cases hlt:i<n
 .refine .inr ⟨hgo i ys H hlt p,Nx D i Pv,λH' ⟨ys',e1,e2,e3⟩=>⟨n-(i+1),by omega,rfl,hlt,ys',e1,e2,e3⟩,λx H' y=>hs i x ys H H' hlt y hy hl p⟩
 .have e:i=n:=by omega
  subst e
  exact .inl ⟨hst ys H p,hd ys H hy hl p⟩
theorem ny(Pv:Nat->List V->Hp->Prop)(h0:Pv 0 [] (upd H1 D (.lst [])))(hl:∀i ys H,Pv i ys H->SqL K H a xs)
  (hs:∀i x ys H,xs[i]?=some x->i<xs.length->H D=some (.lst ys)->ys.length<=i->Pv i ys H->g x (qt sl σ) H λσ2 H2=>Agree (qt sl σ) σ2/\tt σ2 H2 λb H3=>
   if b=true then te σ2 H3 λy H4=>∃xs,H4 D=some (.lst xs)/\xs.length<sizeLine/\Nx D i Pv (upd H4 D (.lst (xs++[y])))else Nx D i Pv H3)
  (hd:∀ys H,H D=some (.lst ys)->ys.length<=xs.length->Pv xs.length ys H->Q (.ref D) H):acl (Itl K a) sl g tt te σ H1 D Q:=by
 refine ab7 (Itl K a) xs.length Pv h0 (λi ys H hi p=>(mw xs (xs[i]) ⟨hl i ys H p,by simp[hi]⟩)) (λys H p=>⟨xs,hl _ ys H p,am _⟩) (λi x ys H H' hi y hD hyl p=>?_) hd
 obtain⟨e,y⟩:=y
 subst e
 exact hs i x ys _ (y xs (hl i ys _ p)) hi hD hyl p
theorem wt(Pv:Nat->List V->Hp->Prop)(h0:Pv 0 [] (upd H1 D (.lst [])))(hl:∀i ys H,Pv i ys H->SqT K H a xs)
  (hs:∀i x ys H,xs[i]?=some x->i<xs.length->H D=some (.lst ys)->ys.length<=i->Pv i ys H->g x (qt sl σ) H λσ2 H2=>Agree (qt sl σ) σ2/\tt σ2 H2 λb H3=>
   if b=true then te σ2 H3 λy H4=>∃xs,H4 D=some (.lst xs)/\xs.length<sizeLine/\Nx D i Pv (upd H4 D (.lst (xs++[y])))else Nx D i Pv H3)
  (hd:∀ys H,H D=some (.lst ys)->ys.length<=xs.length->Pv xs.length ys H->Q (.ref D) H):acl (Itt K a) sl g tt te σ H1 D Q:=by
 refine ab7 (Itt K a) xs.length Pv h0 (λi ys H hi p=>(mw xs (xs[i]) ⟨hl i ys H p,by simp[hi]⟩)) (λys H p=>⟨xs,hl _ ys H p,am _⟩) (λi x ys H H' hi y hD hyl p=>?_) hd
 obtain⟨e,y⟩:=y
 subst e
 exact hs i x ys _ (y xs (hl i ys _ p)) hi hD hyl p
theorem abk{lo:Int}{n:Nat}(Pv:Nat->List V->Hp->Prop)(h0:Pv 0 [] (upd H1 D (.lst [])))
  (hs:∀i ys H,i<n->H D=some (.lst ys)->ys.length<=i->Pv i ys H->g (.int (lo+i)) (qt sl σ) H λσ2 H2=>Agree (qt sl σ) σ2/\tt σ2 H2 λb H3=>
   if b=true then te σ2 H3 λy H4=>∃xs,H4 D=some (.lst xs)/\xs.length<sizeLine/\Nx D i Pv (upd H4 D (.lst (xs++[y])))else Nx D i Pv H3)
  (hd:∀ys H,H D=some (.lst ys)->ys.length<=n->Pv n ys H->Q (.ref D) H):acl (Itr lo n) sl g tt te σ H1 D Q:=by
 refine ab7 (Itr lo n) n Pv h0 (λi ys H hi p=>hi) (λys H p=>am _) (λi x ys H H' hi y hD hyl p=>?_) hd
 obtain⟨e,e2⟩:=y
 subst e e2
 exact hs i ys _ hi hD hyl p
end
def Ex(W:List Addr)(H H':Hp):Prop:=∀b o,b∉W->H b=some o->H' b=some o
theorem Ex.refl(W:List Addr)(H:Hp):Ex W H H:=λ_ _ _ h=>h
theorem Ex.trans{W:List Addr}{H H1 H2:Hp}(a:Ex W H H1)(b:Ex W H1 H2):Ex W H H2:=λc o hc h=>b c o hc (a c o hc h)
theorem Ex.of_same{W:List Addr}{H H':Hp}(a:Same H H'):Ex W H H':=λc o _ h=>a c o h
theorem Ex.fresh{W:List Addr}{H:Hp}{p:Addr}{o:HO}(h:H p=none):Ex W H (upd H p o):=λb u _ q=>by rw[nj (pf q h)];exact q
theorem Ex.upd{W:List Addr}{H:Hp}{p:Addr}{o:HO}(h:p∈W):Ex W H (upd H p o):=λb u hb q=>by rw[nj (show b≠p from λe=>hb (by rw[e];exact h))];exact q
theorem Ex.new{W:List Addr}{H H':Hp}{p:Addr}{o:HO}(a:Ex W H H')(h:H p=none):Ex W H (L2.upd H' p o):=λb u hb q=>by rw[nj (pf q h)];exact a b u hb q
theorem Ex.tk{W:List Addr}{H H':Hp}(a:Ex W H H')(h:∀b∈W,∃xs,H b=some (.lst xs)):Tk H H':=λb xs q=>a b _ (λhb=>by
 obtain⟨ys,e⟩:=h b hb
 rw[q]at e;cases e) q
theorem Ex.one{st:Addr}{H H':Hp}{xs:List V}(a:Ex [st] H H')(h:H st=some (.lst xs)):Tk H H':=a.tk λb hb=>⟨xs,by rw[ao.mp hb];exact h⟩
theorem Ex.at{st:Addr}{H H':Hp}{b:Addr}{o:HO}(a:Ex [st] H H')(hb:b≠st)(h:H b=some o):H' b=some o:=a b o (by simpa using hb) h
theorem _root_.L2.Same.new{H H':Hp}{p:Addr}{o:HO}(a:Same H H')(h:H p=none):Same H (upd H' p o):=λb u q=>by rw[nj (pf q h)];exact a b u q
theorem _root_.L2.Same.fresh{H:Hp}{p:Addr}(o:HO)(h:H p=none):Same H (upd H p o):=(Same.refl H).new h
def Cells(cs:List PyData):Prop:=∀d∈cs,∃r c:Int,d=.tuple [.int r,.int c]
def Spots(ds:List PyData):Prop:=∀d∈ds,∃(r c:Int)(x:Str),d=.tuple [.int r,.int c,.str x]
theorem qc:∀{ds:List PyData},(∀d∈ds,imm d=true)->pj ds=true
 | [],_=>rfl
 | d::ds,h=>by
  show(imm d&&pj ds)=true
  rw[h d bj,qc λe he=>h e (bf _ he)]
  rfl
theorem Cells.imm{cs:List PyData}(h:Cells cs):pj cs=true:=qc λd hd=>by obtain⟨r,c,rfl⟩:=h d hd;rfl
theorem Spots.imm{ds:List PyData}(h:Spots ds):pj ds=true:=qc λd hd=>by obtain⟨r,c,x,rfl⟩:=h d hd;rfl
theorem alz{H:Hp}{r c:Int}{v:V}(h:Rep H (.tuple [.int r,.int c]) v):∃a,v=.ref a/\H a=some (.tup [.int r,.int c]):=by
 obtain⟨a,xs,e,ha,x1,r1,e1,h1,x2,r2,e2,h2,e3⟩:=h
 cases (show x1=.int r from h1);cases (show x2=.int c from h2);cases (show r2=[]from e3)
 subst e1 e2
 exact⟨a,e,ha⟩
theorem sn{H:Hp}{r c:Int}{x:Str}{v:V}(h:Rep H (.tuple [.int r,.int c,.str x]) v):∃a,v=.ref a/\H a=some (.tup [.int r,.int c,.str x])/\iw x=true:=by
 obtain⟨a,xs,e,ha,x1,r1,e1,h1,x2,r2,e2,h2,x3,r3,e3,h3,e4⟩:=h
 cases (show x1=.int r from h1);cases (show x2=.int c from h2);cases (show x3=.str x from h3.1);cases (show r3=[]from e4)
 subst e1 e2 e3
 exact⟨a,e,ha,h3.2⟩
theorem ux{H:Hp}{a:Addr}{r c:Int}(h:H a=some (.tup [.int r,.int c])):Rep H (.tuple [.int r,.int c]) (.ref a):=(ox a _ rfl h _ _ rfl rfl _ ⟨_,rfl,rfl,rfl⟩)
theorem xz{H:Hp}{a:Addr}{r c:Int}{x:Str}(h:H a=some (.tup [.int r,.int c,.str x]))(hx:iw x=true):Rep H (.tuple [.int r,.int c,.str x]) (.ref a):=
 (ox a _ rfl h _ _ rfl rfl _ (oe _ rfl rfl _ ⟨_,rfl,⟨rfl,hx⟩,rfl⟩))
theorem Spots.at{H:Hp}{ds:List PyData}{xs:List V}{i:Nat}{v:V}(h:Spots ds)(r:RepAll H ds xs)(e:xs[i]?=some v) :
  ∃(a:Addr)(p q:Int)(x:Str),v=.ref a/\H a=some (.tup [.int p,.int q,.str x])/\iw x=true/\ds[i]?=some (.tuple [.int p,.int q,.str x]):=by
 obtain⟨d,e1,e2⟩:=r.at e
 obtain⟨p,q,x,rfl⟩:=h d (aq e1)
 obtain⟨a,e3,e4,e5⟩:=sn e2
 exact(m8 a p q x ⟨e3,e4,e5,e1⟩)
noncomputable def yi:PyData->Int
 | .tuple (.int r::_)=>r
 | _=>0
noncomputable def yg:PyData->Int
 | .tuple (_::.int c::_)=>c
 | _=>0
noncomputable def xy:List Int->Int
 | []=>0
 | [a]=>a
 | a::b::r=>if a<=xy (b::r)then a else xy (b::r)
theorem yj:∀{ns:List Int},0<ns.length->xy ns∈ns
 | [],h=>by simp at h
 | [a],_=>by simp[xy]
 | a::b::r,_=>by
  unfold xy
  split
  .exact bj
  .exact bf _ (yj (by simp))
theorem wz:∀{ns:List Int},∀a∈ns,xy ns<=a
 | [],a,h=>by cases h
 | [a],b,h=>by
  have e:b=a:=by simpa using h
  rw[e];exact ji _
 | a::b::r,x,h=>by
  unfold xy
  rcases bq.mp h with e|h
  .rw[e]
   split
   .exact ji _
   .omega
  .have:=wz (ns:=b::r) x h
   split
   .omega
   .exact this
theorem zo{ns:List Int}{M:Int}(h1:M∈ns)(h2:∀a∈ns,M<=a):M=xy ns:=by
 have hp:0<ns.length:=List.length_pos_of_mem h1
 have a1:=h2 _ (yj hp)
 have a2:=wz M h1
 omega
noncomputable def aa9(t l:Int):PyData->PyData
 | .tuple [.int r,.int c,.str x]=>.tuple [.int (r-t),.int (c-l),.str x]
 | d=>d
noncomputable def v4(ds:List PyData):List PyData:=ds.map (aa9 (xy (ds.map yi)) (xy (ds.map yg)))
section
variable{K:ai}{a:Addr}{xs:List V}{ds:List PyData}{σ:L2.St}{H:Hp}{Q:VK}
theorem nw{α β:Type}(f:α->β){l:List α}{i:Nat}{x:α}(h:l[i]?=some x):(l.take (i+1)).map f=(l.take i).map f++[f x]:=by
 rw[f7,h]
 simp
end
noncomputable def sLt(x y:Str):Bool:=decide (x.cps.toList<y.cps.toList)
theorem anu{x y:Str}(h:sLt x y=true):sLt y x=false:=by
 have h':x.cps.toList<y.cps.toList:=of_decide_eq_true h
 exact decide_eq_false (List.lt_asymm h')
theorem arf{a b c:Str}(h1:sLt b a=false)(h2:sLt c b=false):sLt c a=false:=by
 have h1':a.cps.toList<=b.cps.toList:=of_decide_eq_false h1
 have h2':b.cps.toList<=c.cps.toList:=of_decide_eq_false h2
 exact decide_eq_false (List.le_trans h1' h2')
theorem arv{a b:Str}(h1:sLt a b=false)(h2:sLt b a=false):a=b:=by
 have h1':b.cps.toList<=a.cps.toList:=of_decide_eq_false h1
 have h2':a.cps.toList<=b.cps.toList:=of_decide_eq_false h2
 have e:=List.le_antisymm h2' h1'
 cases a;cases b
 simp only at e
 congr
 exact Array.ext' e
theorem apq(a:Str):sLt a a=false:=decide_eq_false (List.lt_irrefl _)
theorem amw(i j:Int)(r r':List PyData):tz (.int i::r) (.int j::r')=if i=j then tz r r' else decide (i<j):=by
 show(if (i==j)=true then tz r r' else decide (i<j))=_
 by_cases h:i=j
 .rw[if_pos h,if_pos (by rw[h];simp)]
 .rw[if_neg h,if_neg (by simpa using h)]
theorem anp(x y:Str)(r r':List PyData):tz (.str x::r) (.str y::r')=if x=y then tz r r' else sLt x y:=by
 show(if (x==y)=true then tz r r' else decide (x.cps.toList<y.cps.toList))=_
 by_cases h:x=y
 .rw[if_pos h,if_pos (by rw[h];simp)]
 .rw[if_neg h,if_neg (by simpa using h)]
  rfl
theorem ak0:∀{ks:List Bool} {xs ys:List PyData},Row ks xs->Row ks ys->tz xs ys=true->tz ys xs=false
 | [],xs,ys,h1,h2,h=>by
  cases (show xs=[]from h1);cases (show ys=[]from h2)
  rfl
 | true::ks,xs,ys,h1,h2,h=>by
  obtain⟨i,r,rfl,h1⟩:=h1
  obtain⟨j,r',rfl,h2⟩:=h2
  rw[amw]at h⊢
  by_cases e:i=j
  .rw[if_pos e]at h;rw[if_pos e.symm];exact ak0 h1 h2 h
  .rw[if_neg e]at h;rw[if_neg (Ne.symm e)]
   have:=of_decide_eq_true h
   exact decide_eq_false (by omega)
 | false::ks,xs,ys,h1,h2,h=>by
  obtain⟨i,r,rfl,h1⟩:=h1
  obtain⟨j,r',rfl,h2⟩:=h2
  rw[anp]at h⊢
  by_cases e:i=j
  .rw[if_pos e]at h;rw[if_pos e.symm];exact ak0 h1 h2 h
  .rw[if_neg e]at h;rw[if_neg (Ne.symm e)]
   exact anu h
theorem ao2:∀{ks:List Bool} {a b c:List PyData},Row ks a->Row ks b->Row ks c->tz b a=false->tz c b=false->tz c a=false
 | [],a,b,c,h1,h2,h3,h4,h5=>by
  cases (show a=[]from h1);cases (show c=[]from h3)
  rfl
 | true::ks,a,b,c,h1,h2,h3,h4,h5=>by
  obtain⟨i,r,rfl,h1⟩:=h1
  obtain⟨j,r',rfl,h2⟩:=h2
  obtain⟨k,r'',rfl,h3⟩:=h3
  rw[amw]at h4 h5⊢
  by_cases e1:j=i
  .rw[if_pos e1]at h4
   by_cases e2:k=j
   .rw[if_pos e2]at h5;rw[if_pos (e2.trans e1)];exact ao2 h1 h2 h3 h4 h5
   .rw[if_neg e2]at h5;rw[if_neg (by omega)]
    have:=of_decide_eq_false h5
    exact decide_eq_false (by omega)
  .rw[if_neg e1]at h4
   have q1:=of_decide_eq_false h4
   by_cases e2:k=j
   .rw[if_neg (by omega)];exact decide_eq_false (by omega)
   .rw[if_neg e2]at h5
    have q2:=of_decide_eq_false h5
    rw[if_neg (by omega)];exact decide_eq_false (by omega)
 | false::ks,a,b,c,h1,h2,h3,h4,h5=>by
  obtain⟨i,r,rfl,h1⟩:=h1
  obtain⟨j,r',rfl,h2⟩:=h2
  obtain⟨k,r'',rfl,h3⟩:=h3
  rw[anp]at h4 h5⊢
  by_cases e1:j=i
  .rw[if_pos e1]at h4
   by_cases e2:k=j
   .rw[if_pos e2]at h5;rw[if_pos (e2.trans e1)];exact ao2 h1 h2 h3 h4 h5
   .rw[if_neg e2]at h5;rw[if_neg (by rw[<-e1];exact e2),<-e1];exact h5
  .rw[if_neg e1]at h4
   by_cases e2:k=j
   .rw[if_neg (by rw[e2];exact e1),e2];exact h4
   .rw[if_neg e2]at h5
    by_cases e3:k=i
    .subst e3
     exact absurd (arv h5 h4) e2
    .rw[if_neg e3];exact arf h4 h5
end L3
namespace L3
open PySem PySem.Spec PyProof.Rows
section
variable{prog:Program}{w:World}{A:Around}{R:Result->Shared->Prop}{I:Addr}{fp wr:List Addr}{n:Nat}{P:Nat->Value->Prop}{St:Nat->Heap->Prop}
theorem ajm(kw:List (Str×Value))(W:Walks prog w A.in1 I fp wr n P St)(bt:Nat->Nat->Bool)(hcmp:CmpOf prog w A.in1 .Gt P bt)(S:Addr)(hSf:S∉fp) :
  ∀(k j:Nat)(s:Shared)(vb:Value)(c:Nat),n-(j+1)=k->j+1<=n->St (j+1) s.heap->P (argBest bt j) vb->
  s.heap.get? S=some {cls:=.type "list",dict:=none,data:=.seq #[vb,vb] c,slots:=#[]}->
  (∀v h' tk,P (argBest bt (n-1)) v->(∀b o,b∉wr->b≠S->s.heap.get? b=some o->h'.get? b=some o)->R (.ok (.ret v)) {s with heap:=h',toks:=tk})->
  codeAny (model prog w) A (.builtin "max.loop" ⟨[.ref I,.none,.ref S],kw⟩) R s:=by
 have hSw:S∉wr:=λh=>hSf (W.sub _ h)
 have nm:(toString "max" ++ toString ".loop" : String)="max.loop":=by decide
 intro k
 induction k with
 | zero=>
  intro j s vb c hk hj hst hPb hS hR
  have hin:j+1=n:=by omega
  refine ik F.entry_max_loop ?_
  rw[gd ky _]
  show wpAny _ A.in1 (seqItems? (.ref S) >>= _) _ _ s
  refine aa (jf hS rfl ?_)
  show wpAny _ A.in1 (tryCatch (pyNext (.ref I)) _ >>= _) _ _ s
  refine aa (wpAny_tryCatch (W.done s _ _ (hin▸hst) λh' tk hk'=>?_))
  have hS':=hk' S _ hSw hS
  show wpAny _ A.in1 (updateSeq S (λ_=>#[]) >>= _) _ _ _
  refine aa (wpAny_updateSeq hS' rfl (aa (wpAny_letGo (af ?_))))
  exact hR vb _ tk (by rw[<-hin];exact hPb) λb o hbw hbS e=>(c8 _ _ (Ne.symm hbS)).trans (hk' b o hbw e)
 | succ k ih=>
  intro j s vb c hk hj hst hPb hS hR
  have hlt:j+1<n:=by omega
  refine ik F.entry_max_loop ?_
  rw[gd ky _]
  show wpAny _ A.in1 (seqItems? (.ref S) >>= _) _ _ s
  refine aa (jf hS rfl ?_)
  show wpAny _ A.in1 (tryCatch (pyNext (.ref I)) _ >>= _) _ _ s
  refine aa (wpAny_tryCatch (W.item (j+1) s _ _ hlt hst λv h' tk hP hst' hk'=>?_))
  have hS':=hk' S _ hSw hS
  show wpAny _ A.in1 (tryCatch (holding [v,v] (richCompare .Gt v vb >>= _)) _ >>= _) _ _ _
  refine aa (wpAny_tryCatch (fk (aa (hcmp (j+1) (argBest bt j) v vb _ _ _ hP hPb ?_))))
  refine aa (fk (fy ?_))
  refine aa (wpAny_letGo (af ?_))
  cases hb:bt (j+1) (argBest bt j)with
  | true=>
   simp only[if_true]
   refine aa (wpAny_updateSeq hS' rfl (aa (wpAny_letGo ?_)))
   rw[nm]
   refine af ⟨kq ky _,ih (j+1) _ v _ (by omega) hlt (W.frame _ _ _ hst' λb hbf o e=>?_) (by simp only[argBest,hb,if_true];exact hP) (ck _ hS' rfl) λv' h'' tk'' hP' hk''=>?_⟩
   .exact(c8 _ _ (λh:S=b=>hSf (by rw[h];exact hbf))).trans e
   .exact hR v' h'' tk'' hP' λb o hbw hbS e=>hk'' b o hbw hbS ((c8 _ _ (Ne.symm hbS)).trans (hk' b o hbw e))
  | false=>
   simp only[az,if_false]
   refine aa (wpAny_letGo ?_)
   rw[nm]
   refine af ⟨kq ky _,ih (j+1) _ vb c (by omega) hlt hst' (by simp only[argBest,hb,az,if_false];exact hPb) hS' λv' h'' tk'' hP' hk''=>?_⟩
   exact hR v' h'' tk'' hP' λb o hbw hbS e=>hk'' b o hbw hbS (hk' b o hbw e)
theorem ag6(kw:List (Str×Value))(W:Walks prog w A.in1 I fp wr n P St)(bt:Nat->Nat->Bool)(hcmp:CmpOf prog w A.in1 .Gt P bt)(S:Addr)(hSf:S∉fp)(hn:0<n){s:Shared}{c:Nat}(hst:St 0 s.heap)
  (hS:s.heap.get? S=some {cls:=.type "list",dict:=none,data:=.seq #[] c,slots:=#[]})
  (hR:∀v h' tk,P (argBest bt (n-1)) v->(∀b o,b∉wr->b≠S->s.heap.get? b=some o->h'.get? b=some o)->R (.ok (.ret v)) {s with heap:=h',toks:=tk}) :
  codeAny (model prog w) A (.builtin "max.loop" ⟨[.ref I,.none,.ref S],kw⟩) R s:=by
 have hSw:S∉wr:=λh=>hSf (W.sub _ h)
 have nm:(toString "max" ++ toString ".loop" : String)="max.loop":=by decide
 refine ik F.entry_max_loop ?_
 rw[gd ky _]
 show wpAny _ A.in1 (seqItems? (.ref S) >>= _) _ _ s
 refine aa (jf hS rfl ?_)
 show wpAny _ A.in1 (tryCatch (pyNext (.ref I)) _ >>= _) _ _ s
 refine aa (wpAny_tryCatch (W.item 0 s _ _ hn hst λv h' tk hP hst' hk'=>?_))
 have hS':=hk' S _ hSw hS
 show wpAny _ A.in1 (updateSeq S (λ_=>#[v,v]) >>= _) _ _ _
 refine aa (wpAny_updateSeq hS' rfl ?_)
 rw[nm]
 refine af ⟨kq ky _,ajm kw W bt hcmp S hSf _ 0 _ v _ rfl hn (W.frame _ _ _ hst' λb hbf o e=>?_) hP (ck _ hS' rfl) λv' h'' tk'' hP' hk''=>?_⟩
 .exact(c8 _ _ (λh:S=b=>hSf (by rw[h];exact hbf))).trans e
 .exact hR v' h'' tk'' hP' λb o hbw hbS e=>hk'' b o hbw hbS ((c8 _ _ (Ne.symm hbS)).trans (hk' b o hbw e))
end
section
variable{prog:Program}{w:World}{A:Around}{E:Value->Shared->Prop}{s:Shared}
theorem afa{x d:Value}{Q:Value->Shared->Prop}
  (h:wpAny (model prog w) A.in1 (pyIter x) (λit s₂=>∃I fp wr n P St bt,it=.ref I/\Walks prog w A.in1 I fp wr n P St/\St 0 s₂.heap/\(∀b∈fp,b<s₂.heap.objs.size)/\0<n/\CmpOf prog w A.in1 .Gt P bt/\
   ∀v h' tk,P (argBest bt (n-1)) v->(∀b o,b∉wr->s₂.heap.get? b=some o->h'.get? b=some o)->Q v {s₂ with heap:=h',toks:=tk}) E s) :
  wpAny (model prog w) A (call (.builtin "max") [x] [(ba "default",d)]) Q E s:=by
 have nm:(toString "max" ++ toString ".loop" : String)="max.loop":=by decide
 refine wpAny_call (codeAny_call_builtin F.plain_max F.entry_max ?_)
 simp only[checkBuiltinCall,F.kind_max]
 have go:wpAny (model prog w) A.in1 (Builtin.«max» ⟨[x],[(ba "default",d)]⟩) (λfin s'=>match fin with
   | .done f=>(match (Except.ok f:Result)with|.ok (.ret v)=>Q v s'|.ok _=>False|.error e=>E e s')
   | .again c'=>c'.quiet=true/\codeAny (model prog w) A c' (λr s'=>match r with|.ok (.ret v)=>Q v s'|.ok _=>False|.error e=>E e s') s') E s:=by
  show wpAny _ A.in1 (Builtin.Builtins.bindParams "max" ["key","default"] 0 ⟨[],[(ba "default",d)]⟩ >>= _) _ _ s
  refine aa (wpAny_of_eq (show Builtin.Builtins.bindParams "max" ["key","default"] 0 ⟨[],[(ba "default",d)]⟩=pure [none,some d]from rfl) ?_)
  refine aa (af ?_)
  refine aa (iz h (λit s₂ h₂=>?_) λ_ _ e=>e)
  obtain⟨I,fp,wr,n,P,St,bt,rfl,W,hst,hfp,hn,hcmp,hQ⟩:=h₂
  refine aa (cg ?_)
  have hSf:s₂.heap.objs.size∉fp:=λhm=>jc _ (hfp _ hm)
  rw[nm]
  refine af ⟨kq ky _,ag6 _ W bt hcmp s₂.heap.objs.size hSf hn (W.frame _ _ _ hst λb _ o e=>ak _ e) (av _ rfl) λv h' tk hP hk=>?_⟩
  exact hQ v h' tk hP λb o hbw e=>hk b o hbw (c9 (bn e)) (ak _ e)
 cases hsig:Manifest.signature? "max" with
 | none=>exact af go
 | some sig=>
  have ha':Bind.checkArgs "max" sig ⟨[x],[(ba "default",d)]⟩=pure ():=by
   have:=ajy x d
   simpa only [argsOk,hsig]using this
  simp only[ha']
  exact af go
theorem ak1{l:Addr}{d:Value}{vs:List Value}{ns:List Int}{Q:Value->Shared->Prop}(hh:A.handled=none)(hl:s.heap.IsList l vs.toArray)(hi:IntsAre vs ns)(hne:0<ns.length)
  (h:∀h' M (t:Tok) tk,(∀b o,s.heap.get? b=some o->h'.get? b=some o)->M∈ns->(∀a,a∈ns->a<=M)->Q (.int M t) {s with heap:=h',toks:=tk}) :
  wpAny (model prog w) A (call (.builtin "max") [.ref l] [(ba "default",d)]) Q E s:=by
 obtain⟨xs,e⟩:=hi.allInts.items
 have hns:ns=xs.toList.map (·.1):=by rw[<-hi.numsOf,<-nums_intItems,<-e]
 have hsz:0<xs.size:=by
  have h3:=hne;rw[hns,ah,au]at h3;exact h3
 rw[e]at hl
 refine afa (iter_intList hl λs₂ e st hfp hlI=>?_)
 subst e
 refine(l9 _ _ _ _ _ (mw _ _ ⟨rfl,Walks.list (A:=A.in1) hh _ l hlI (intItems xs),st,hfp,by simpa [intItems]using hsz,CmpOf.ints_gt (numAt xs) (λ_ _=>intItems_at),λv h' tk hP hk=>?_⟩))
 have hv:(intItems xs)[argBest (λi j=>decide (numAt xs i>numAt xs j)) (xs.size-1)]?=some v:=by simpa [intItems]using hP
 obtain⟨t,rfl⟩:=intItems_at hv
 obtain⟨h1,h2⟩:=argBest_gt (numAt xs) (xs.size-1)
 refine h _ _ t tk (old_kept hk) ?_ λa ha=>?_
 .rw[hns,numAt_eq];exact getD_mem (by rw[ah,au];omega)
 .rw[hns]at ha
  obtain⟨j,hj,rfl⟩:=mem_getD ha
  rw[ah,au]at hj
  rw[<-numAt_eq];exact h2 j (by omega)
end
end L3
namespace L3
end L3
namespace L3
open PySem PySem.Spec PyProof.Rows L2
section
variable{X:Cx}{x:Str}{p pos kpos:Pos}{e e2:Expr}{es:List Expr}{t tk:TA}{te:TE}
def axw:List V->Hp->VK->Prop:=λxs H Q=>∃q,∃ns:List Int,xs=[.ref q]/\H q=some (.lst (ns.map V.int))/\0<ns.length/\∀M,M∈ns->(∀a∈ns,a<=M)->Q (.int M) H
def aub(t tk:TA):TE:=λσ H Q=>t σ H λvs H1=>tk σ H1 λzs H2=>zs.length=1/\axw vs H2 Q
theorem ajo(hc:X.calm=true)(hg:Gl X "max")(hm:X.mg "max" = none)(ha:PA X [e] t)(hkw:PK X [⟨some "default",e2,kpos⟩] tk)
  (he:backTo pos (starEach [e] X.env)=(false,eval e X.env)::backTo pos (starEach [] X.env):=by rfl) (hpl:(backTo pos (starEach [e] X.env)).any (·.1)=false:=by rfl) :
  PE X (.Call (.Name "max" p) [e] [⟨some "default",e2,kpos⟩] pos) (aub t tk):=by
 intro pins s σ H Q I h
 refine i7 (uq I hg hm boot_max ?_ (by decide) (by decide))
 refine callWith_kw (thn (ha pos pins s σ H _ I h) λus s1 ⟨vs,H1,I1,r,q⟩=>thn (hkw pos pins s1 σ H1 _ I1 q) λws s2 ⟨zs,H2,I2,rz,hz1,q2⟩=>?_) he hpl
 obtain⟨d,rfl⟩:∃d,ws=[d]:=by
  have hl:ws.length=1:=rz.length.symm.trans hz1
  match ws,hl with
  | [d],_=>exact⟨d,rfl⟩
 obtain⟨l,ns,rfl,hq,hn,hQ⟩:=q2
 obtain⟨u,rfl,r1⟩:=sy r
 cases (show u=Value.ref l from r1)
 obtain⟨its,rv,pl,hz⟩:=I2.list (SqL.of (K:=X.K) hq)
 exact ak1 (I2.ok.hd hc) pl.isList (abj rv) hn λh' M t tk k h1 h2=>(mw (.int M) H2 ⟨I2.kept k,⟨_,rfl⟩,hQ M h1 h2⟩)
end
noncomputable def ad8:List Int->Int
 | []=>0
 | [a]=>a
 | a::b::r=>if ad8 (b::r)<=a then a else ad8 (b::r)
theorem abq:∀{ns:List Int},0<ns.length->ad8 ns∈ns
 | [],h=>by simp at h
 | [a],_=>by simp[ad8]
 | a::b::r,_=>by
  unfold ad8
  split
  .exact bj
  .exact bf _ (abq (by simp))
theorem aek:∀{ns:List Int},∀a∈ns,a<=ad8 ns
 | [],a,h=>by cases h
 | [a],b,h=>by
  have e:b=a:=by simpa using h
  rw[e];exact ji _
 | a::b::r,x,h=>by
  unfold ad8
  rcases bq.mp h with e|h
  .rw[e]
   split
   .exact ji _
   .omega
  .have:=aek (ns:=b::r) x h
   split
   .omega
   .exact this
theorem ajr{ns:List Int}{M:Int}(h1:M∈ns)(h2:∀a∈ns,a<=M):M=ad8 ns:=by
 have hp:0<ns.length:=List.length_pos_of_mem h1
 have a1:=h2 _ (abq hp)
 have a2:=aek M h1
 omega
noncomputable def ap5(m:Int):PyData->PyData
 | .tuple [.int r,.int c,.str x]=>.tuple [.int r,.int (m-c),.str x]
 | d=>d
noncomputable def ap6(m:Int):PyData->PyData
 | .tuple [.int r,.int c,.str x]=>.tuple [.int c,.int (m-r),.str x]
 | d=>d
noncomputable def afd(ds:List PyData):List PyData:=ds.map (ap5 (ad8 (ds.map yg)))
noncomputable def ae9(ds:List PyData):List PyData:=ds.map (ap6 (ad8 (ds.map yi)))
noncomputable def ah4(t:Nat)(ds:List PyData):List PyData:=(b9 (t % 4)).foldl (λa _=>ae9 a) (if 4<=t then afd ds else ds)
theorem ah6{ds:List PyData}(h:Spots ds)(m:Int):Spots (ds.map (ap5 m)):=λd hd=>by
 obtain⟨e,he,rfl⟩:=bi.mp hd
 obtain⟨r,c,x,rfl⟩:=h e he
 exact(nq _ _ _ rfl)
theorem aje{ds:List PyData}(h:Spots ds)(m:Int):Spots (ds.map (ap6 m)):=λd hd=>by
 obtain⟨e,he,rfl⟩:=bi.mp hd
 obtain⟨r,c,x,rfl⟩:=h e he
 exact(nq _ _ _ rfl)
theorem aax{ds:List PyData}(h:Spots ds):Rows [true,false] ds:=λd hd=>by
 obtain⟨r,c,x,rfl⟩:=h d hd
 exact(oj _ rfl _ _ ⟨rfl,(mw _ _ ⟨rfl,(mw _ _ ⟨rfl,rfl⟩)⟩)⟩)
section
variable{K:ai}{a:Addr}{xs:List V}{ds:List PyData}{σ:L2.St}{H:Hp}{Q:VK}
theorem abh{i0:Nat}(j:Int)(pr:PyData->Int)(hj:∀(r c:Int)(x:Str),atI [V.int r,.int c,.str x] j=some (.int (pr (.tuple [.int r,.int c,.str x]))))
  (hσ:σ[i0]?=some (some (.ref a))) (ha:H a=some (.lst xs)) (hr:RepAll H ds xs) (hs:Spots ds) (hl:ds.length<=64)
  (q:∀D H',Same H H'->H' D=some (.lst ((ds.map pr).map V.int))->Q (.ref D) H') :
  aky (aon K (aeb i0)) [none] (aaq 0) yb (tOp (at4 K) (aeb 0) (tC (.int j))) σ H Q:=by
 have hlen:=hr.length
 refine(pk _ hσ a ⟨rfl,⟨_,SqL.of ha⟩,λD hD=>?_⟩)
 refine ny (xs:=xs) (λi ys H'=>Same H H'/\ys=((ds.take i).map pr).map V.int) ⟨Same.fresh _ hD,rfl⟩ (λi ys H' p=>SqL.of (p.1 _ _ ha)) (λi x ys H' hx hi hDy hyl p=>?_) (λys H' hDy hyl p=>?_)
 .obtain⟨p1,rfl⟩:=p
  obtain⟨b,r,c,z,rfl,hb,hz,hd⟩:=hs.at hr hx
  refine⟨Agree.set (Agree.refl _) rfl,?_⟩
  dsimp only[yb]
  refine si ?_
  refine(me _ rfl b _ _ _ ⟨rfl,rfl,SqT.of (p1 _ _ hb),hj r c z,pi (by omega) hDy hyl ⟨p1.new hD,?_⟩⟩)
  rw[nw pr hd,br]
  rfl
 .obtain⟨p1,rfl⟩:=p
  refine q D H' p1 ?_
  rw[hDy,a9 (by omega)]
theorem aqq(r c:Int)(x:Str):atI [V.int r,.int c,.str x] 0=some (.int (yi (.tuple [.int r,.int c,.str x]))):=rfl
theorem atf(r c:Int)(x:Str):atI [V.int r,.int c,.str x] 1=some (.int (yg (.tuple [.int r,.int c,.str x]))):=rfl
theorem ad3{m:Int}{i0 j:Nat}{ta tb:TE}(f:Int->PyData->PyData)(hσ:σ[i0]?=some (some (.ref a)))(h1:σ[j]?=some (some (.int m)))(ha:H a=some (.lst xs))(hr:RepAll H ds xs)(hs:Spots ds)(hl:ds.length<=64)
  (hread:∀(r c:Int)(z:Str)(H':Hp)(Q':VK),(∃u v:Int,f m (.tuple [.int r,.int c,.str z])=.tuple [.int u,.int v,.str z]/\∀n,H' n=none->Q' (.ref n) (upd H' n (.tup [.int u,.int v,.str z])))->
   ar4 (vf ta (vf tb (vf (aeb 2) ap2))) [some (.int r),some (.int c),some (.str z),some (.int m)] H' Q')
  (q:∀D ys H',H D=none->Same H H'->H' D=some (.lst ys)->RepAll H' (ds.map (f m)) ys->Q (.ref D) H')
  (hsp:∀(r c:Int)(z:Str),∃u v:Int,f m (.tuple [.int r,.int c,.str z])=.tuple [.int u,.int v,.str z]) :
  aky (aon K (aeb i0)) [none,none,none,some j] (atw K 3 (aew (aaq 0) (aew (aaq 1) (aew (aaq 2) aut)))) yb (ar4 (vf ta (vf tb (vf (aeb 2) ap2)))) σ H Q:=by
 have hlen:=hr.length
 refine(pk _ hσ a ⟨rfl,⟨_,SqL.of ha⟩,λD hD=>?_⟩)
 have hp:qt [none,none,none,some j] σ=[none,none,none,some (.int m)]:=by
  unfold qt
  simp[h1]
 have im:∀es:List PyData,(∀d∈es,d∈ds)->Spots (es.map (f m)):=λes he d hd=>by
  obtain⟨d0,h0,rfl⟩:=bi.mp hd
  obtain⟨r0,c0,x0,rfl⟩:=hs d0 (he d0 h0)
  obtain⟨u,v,e⟩:=hsp r0 c0 x0
  exact(nq u v x0 e)
 refine ny (xs:=xs) (λi ys H'=>Same H H'/\RepAll H' ((ds.take i).map (f m)) ys) ⟨Same.fresh _ hD,rfl⟩ (λi ys H' p=>SqL.of (p.1 _ _ ha)) (λi x ys H' hx hi hDy hyl p=>?_) (λys H' hDy hyl p=>?_)
 .obtain⟨p1,p2⟩:=p
  obtain⟨b,r,c,z,rfl,hb,hz,hd⟩:=hs.at hr hx
  rw[hp]
  refine(m9 b _ rfl (SqT.of (p1 _ _ hb)) rfl _ _ rfl _ (oj _ rfl _ _ ⟨rfl,rfl,?_⟩))
  refine⟨Agree.set (Agree.set (Agree.set (Agree.refl _) rfl) rfl) rfl,?_⟩
  dsimp only[yb]
  refine si ?_
  obtain⟨u,v,ef⟩:=hsp r c z
  refine hread r c z H' _ (mw u v ⟨ef,λn hn=>?_⟩)
  have s2:Same H' (upd H' n (.tup [.int u,.int v,.str z])):=Same.fresh _ hn
  have n2:upd H' n (.tup [.int u,.int v,.str z]) n=some (.tup [.int u,.int v,.str z]):=mr
  generalize upd H' n (.tup [.int u,.int v,.str z])=H2 at *
  have hD2:=s2 _ _ hDy
  refine pi (by omega) hD2 hyl ⟨(p1.trans s2).new hD,?_⟩
  have rep:RepAll H2 ((ds.take i).map (f m)++[f m (.tuple [.int r,.int c,.str z])]) (ys++[.ref n]):=by
   rw[ef]
   exact(p2.same s2).snoc (xz n2 hz)
  rw[<-nw (f m) hd]at rep
  exact rep.tk (Tk.lst hD2) (Spots.imm (im _ λd hd'=>gt hd'))
 .obtain⟨p1,p2⟩:=p
  rw[a9 (by omega)]at p2
  exact q D ys H' hD p1 hDy p2
end
def awp(K:ai)(tl:TE):TI:=λσ H R=>tl σ H λx H1=>∃a,x=.ref a/\(((∃xs,SqL K H1 a xs)/\R (Itl K a) H1)\/((∃xs,SqT K H1 a xs)/\R (Itt K a) H1))
section
variable{X:Cx}{tg:Expr}
theorem asu{l:Expr}{tl:TE}(hl:PE X l tl):PI X tg l (awp X.K tl):=by
 intro pins s σ H R I h
 refine thn (hl pins s σ H _ I h) λv s1 ⟨x,H1,I1,r1,q1⟩=>?_
 obtain⟨a,e,⟨⟨xs,hq⟩,q⟩|⟨⟨xs,hq⟩,q⟩⟩:=q1
 .subst e
  cases r1
  obtain⟨its,rv,p,hz⟩:=I1.list hq
  refine wpAny_pyIter_list p.isList ?_
  refine(l9 s1.heap.objs.size ([s1.heap.objs.size]) _ _ H1 ⟨rfl,I1.kept (t':=s1.toks) λb o e=>ak _ e,adh a _,⟨_,av _ rfl,rfl,rfl⟩,λb hb=>?_,q⟩)
  have e:b=s1.heap.objs.size:=by simpa using hb
  subst e
  exact I1.fpOk (am _) (I1.hok.fresh (am _))
 .subst e
  cases r1
  obtain⟨its,rv,p,hz⟩:=I1.tuple hq
  refine wpAny_pyIter_tuple (show s1.heap.IsTuple a its.toArray from p) ?_
  refine(l9 s1.heap.objs.size ([s1.heap.objs.size]) _ _ H1 ⟨rfl,I1.kept (t':=s1.toks) λb o e=>ak _ e,abg a _,⟨_,av _ rfl,rfl,rfl⟩,λb hb=>?_,q⟩)
  have e:b=s1.heap.objs.size:=by simpa using hb
  subst e
  exact I1.fpOk (am _) (I1.hok.fresh (am _))
end
section
variable{K:ai}{a:Addr}{xs:List V}{ds:List PyData}{σ:L2.St}{H:Hp}{Q:VK}{sl:List (Option Nat)}{g:TG}{tt:L2.TT}{te:TE}
theorem ams(ha:H a=some (.lst xs)\/H a=some (.tup xs))(Pv:Addr->Nat->List V->Hp->Prop)(h0:∀D,H D=none->Pv D 0 [] (upd H D (.lst [])))(hk:∀D i ys G,Pv D i ys G->Same H G)
  (hs:∀D i x ys G,H D=none->xs[i]?=some x->i<xs.length->G D=some (.lst ys)->ys.length<=i->Pv D i ys G->g x (qt sl σ) G λσ2 H2=>Agree (qt sl σ) σ2/\tt σ2 H2 λb H3=>
   if b=true then te σ2 H3 λy H4=>∃xs,H4 D=some (.lst xs)/\xs.length<sizeLine/\Nx D i (Pv D) (upd H4 D (.lst (xs++[y])))else Nx D i (Pv D) H3)
  (hd:∀D ys G,H D=none->G D=some (.lst ys)->ys.length<=xs.length->Pv D xs.length ys G->Q (.ref D) G) :
  ((∃xs,SqL K H a xs)/\∀D,H D=none->acl (Itl K a) sl g tt te σ H D Q)\/((∃xs,SqT K H a xs)/\∀D,H D=none->acl (Itt K a) sl g tt te σ H D Q):=by
 rcases ha with ha|ha
 .exact .inl ⟨⟨_,SqL.of ha⟩,λD hD=>ny (xs:=xs) (Pv D) (h0 D hD) (λi ys G p=>SqL.of (hk D i ys G p _ _ ha)) (λi x ys G=>hs D i x ys G hD) λys G=>hd D ys G hD⟩
 .exact .inr ⟨⟨_,SqT.of ha⟩,λD hD=>wt (xs:=xs) (Pv D) (h0 D hD) (λi ys G p=>SqT.of (hk D i ys G p _ _ ha)) (λi x ys G=>hs D i x ys G hD) λys G=>hd D ys G hD⟩
theorem ah0{i0:Nat}{rest:L2.St}(f:PyData->PyData)(hσ:σ[i0]?=some (some (.ref a)))(hp:qt sl σ=none::none::none::rest)(ha:H a=some (.lst xs)\/H a=some (.tup xs))(hr:RepAll H ds xs)(hs:Spots ds)(hl:ds.length<=64)
  (hread:∀(r c:Int)(z:Str)(H':Hp)(Q':VK),(∃u v:Int,f (.tuple [.int r,.int c,.str z])=.tuple [.int u,.int v,.str z]/\∀n,H' n=none->Q' (.ref n) (upd H' n (.tup [.int u,.int v,.str z])))->
   te (some (.int r)::some (.int c)::some (.str z)::rest) H' Q')
  (hsp:∀(r c:Int)(z:Str),∃u v:Int,f (.tuple [.int r,.int c,.str z])=.tuple [.int u,.int v,.str z])
  (q:∀D ys H',H D=none->Same H H'->H' D=some (.lst ys)->RepAll H' (ds.map f) ys->Q (.ref D) H') :
  aky (awp K (aeb i0)) sl (atw K 3 (aew (aaq 0) (aew (aaq 1) (aew (aaq 2) aut)))) yb te σ H Q:=by
 have hlen:=hr.length
 have im:∀es:List PyData,(∀d∈es,d∈ds)->Spots (es.map f):=λes he d hd=>by
  obtain⟨d0,h0,rfl⟩:=bi.mp hd
  obtain⟨r0,c0,x0,rfl⟩:=hs d0 (he d0 h0)
  obtain⟨u,v,e⟩:=hsp r0 c0 x0
  exact(nq u v x0 e)
 refine(pk _ hσ a ⟨rfl,ams ha (λD i ys H'=>Same H H'/\RepAll H' ((ds.take i).map f) ys) (λD hD=>⟨Same.fresh _ hD,rfl⟩) (λD i ys H' p=>p.1) (λD i x ys H' hD hx hi hDy hyl p=>?_) (λD ys H' hD hDy hyl p=>?_)⟩)
 .obtain⟨p1,p2⟩:=p
  obtain⟨b,r,c,z,rfl,hb,hz,hd⟩:=hs.at hr hx
  rw[hp]
  refine(m9 b _ rfl (SqT.of (p1 _ _ hb)) rfl _ _ rfl _ (oj _ rfl _ _ ⟨rfl,rfl,?_⟩))
  refine⟨Agree.set (Agree.set (Agree.set (Agree.refl _) rfl) rfl) rfl,?_⟩
  dsimp only[yb]
  refine si ?_
  obtain⟨u,v,ef⟩:=hsp r c z
  refine hread r c z H' _ (mw u v ⟨ef,λn hn=>?_⟩)
  have s2:Same H' (upd H' n (.tup [.int u,.int v,.str z])):=Same.fresh _ hn
  have n2:upd H' n (.tup [.int u,.int v,.str z]) n=some (.tup [.int u,.int v,.str z]):=mr
  generalize upd H' n (.tup [.int u,.int v,.str z])=H2 at *
  have hD2:=s2 _ _ hDy
  refine pi (by omega) hD2 hyl ⟨(p1.trans s2).new hD,?_⟩
  have rep:RepAll H2 ((ds.take i).map f++[f (.tuple [.int r,.int c,.str z])]) (ys++[.ref n]):=by
   rw[ef]
   exact(p2.same s2).snoc (xz n2 hz)
  rw[<-nw f hd]at rep
  exact rep.tk (Tk.lst hD2) (Spots.imm (im _ λd hd'=>gt hd'))
 .obtain⟨p1,p2⟩:=p
  rw[a9 (by omega)]at p2
  exact q D ys H' hD p1 hDy p2
end
section
variable{X:Cx}{x:Str}{pos:Pos}
theorem qf{z:Str}(h:∃t,X.mg x=some (.str z t))(hg:Gl X x)(hd:(x==("__debug__" : Str))=false:=by decide):PE X (.Name x pos) (tC (.str z)):=by
 obtain⟨t,h⟩:=h
 exact ajz hg h ⟨t,rfl⟩ hd
end
section
variable{X:Cx}
theorem wq:OpR X (compareOp .LtE) (λx y H Q=>∃i j,x=.str i/\y=.str j/\Q (.bl (!decide (j.cps.toList<i.cps.toList))) H):=by
 intro pins s σ H x y v u Q I rx ry h
 obtain⟨i,j,rfl,rfl,q⟩:=h
 obtain⟨t,rfl⟩:=rx
 obtain⟨t',rfl⟩:=ry
 exact PySem.P.le_str (mw (.bl _) H ⟨I,rfl,q⟩)
def axi:V->Option Int->Option Int->Hp->VK->Prop:=λx lo hi H Q=>∃z,x=.str z/\z.length<=sizeLine/\Q (.str (Txt.slice z lo hi)) H
theorem aqc:SlR X axi:=by
 intro pins s σ H x v vl vu lo hi sl Q I rx hs pl pu h
 obtain⟨z,rfl,hz,q⟩:=h
 obtain⟨t,rfl⟩:=rx
 obtain⟨o,ho,hc,hd⟩:=hs
 have fin:∀t' k,EP X pins σ Q (.str (Txt.slice z lo hi) t') {s with toks:=k}:=λt' k=>(mw (.str _) H ⟨I.tok _,⟨_,rfl⟩,q⟩)
 refine(mw ("str") _ ⟨F.slot_str_getitem.lookup,typeIs_str _ _ _,?_⟩)
 cases pl with
 | none=>
  cases pu with
  | none=>exact wpAny_getItem_str_slice (l:=none) (u:=none) (st:=none) ⟨o,ho,hc,hd⟩ rfl (post_val_or_str ⟨db (Txt.slice_le z _ _) hz,fin⟩)
  | int j uj=>exact wpAny_getItem_str_slice (l:=none) (u:=some (j,uj)) (st:=none) ⟨o,ho,hc,hd⟩ rfl (post_val_or_str ⟨db (Txt.slice_le z _ _) hz,fin⟩)
 | int i ui=>
  cases pu with
  | none=>exact wpAny_getItem_str_slice (l:=some (i,ui)) (u:=none) (st:=none) ⟨o,ho,hc,hd⟩ rfl (post_val_or_str ⟨db (Txt.slice_le z _ _) hz,fin⟩)
  | int j uj=>exact wpAny_getItem_str_slice (l:=some (i,ui)) (u:=some (j,uj)) (st:=none) ⟨o,ho,hc,hd⟩ rfl (post_val_or_str ⟨db (Txt.slice_le z _ _) hz,fin⟩)
theorem agi(x:Array Nat):∀(k:Nat)(acc:Array Nat),((gw k x).foldl (· ++ ·) acc).size=acc.size+k*x.size
 | 0,acc=>by simp
 | k+1,acc=>by
  rw[List.replicate_succ,List.foldl_cons,agi x k]
  simp only[Array.size_append]
  rw[Nat.add_mul]
  omega
theorem afr(x:Array Nat):∀(k:Nat)(acc:Array Nat)(c:Nat),c∈((gw k x).foldl (· ++ ·) acc).toList->c∈acc.toList\/c∈x.toList
 | 0,acc,c,h=>.inl (by simpa using h)
 | k+1,acc,c,h=>by
  rw[List.replicate_succ,List.foldl_cons]at h
  rcases afr x k _ c h with h|h
  .simpa using h
  .exact .inr h
def avk:R2:=λx y H Q=>∃(z:Str)(n:Int),x=.str z/\y=.int n/\0<=n/\n<=1000/\z.length<=1000/\∀w:Str,w.length=z.length*n.toNat->(∀c∈w.cps.toList,c∈z.cps.toList)->Q (.str w) H
theorem apx:OpR X (binaryOp .Mult) avk:=by
 intro pins s σ H x y v u Q I rx ry h
 obtain⟨z,n,rfl,rfl,h0,h1,hz,q⟩:=h
 obtain⟨t,rfl⟩:=rx
 obtain⟨t',rfl⟩:=ry
 have hprod:z.length*n.toNat<=1000000:=by
  have a1:n.toNat<=1000:=by omega
  calc z.length*n.toNat<=1000*1000:=jg hz a1
   _=1000000:=rfl
 refine PySem.P.mul_str (by rw[decide_eq_false (by omega),decide_eq_false (by omega)];rfl) (λh2 _=>?_) (λ_ _=>?_) ?_
 .have h3:(1:Int)<=n:=by omega
  have h4:((2:Int)^63-1)/n>=(2^63-1)/1000:=by
   refine(Int.le_ediv_iff_mul_le (by omega)).mpr ?_
   calc ((2:Int)^63-1)/1000*n<=((2:Int)^63-1)/1000*1000:=Int.mul_le_mul_of_nonneg_left h1 (by decide)
    _<=2^63-1:=by decide
  have h5:((2:Int)^63-1)/1000>=1000:=by decide
  omega
 .unfold PySem.Builtin.Str.tooLong
  rw[io]
  exact decide_eq_false (by omega)
 .by_cases hn:n<1
  .rw[if_pos hn]
   have e:n=0:=by omega
   subst e
   exact⟨by decide,(mw (.str Str.empty) H ⟨I.tok _,⟨_,rfl⟩,q _ (by simp[Str.empty,Str.length]) (by simp[Str.empty])⟩)⟩
  .rw[if_neg hn]
   by_cases hc:(n==1||z.length==0)=true
   .rw[if_pos hc]
    refine(mw (.str z) H ⟨I,⟨_,rfl⟩,q _ ?_ λc hc=>hc⟩)
    simp only[Bool.or_eq_true,beq_iff_eq]at hc
    rcases hc with e|e
    .rw[e];simp
    .rw[e];simp
   .rw[if_neg hc]
    have e:(⟨(gw n.toNat z.cps).foldl (· ++ ·) #[]⟩:Str).length=z.length*n.toNat:=by
     show((gw n.toNat z.cps).foldl (· ++ ·) #[]).size=_
     rw[agi,Nat.mul_comm]
     simp[Str.length]
    refine⟨by rw[e,io];omega,(mw (.str _) H ⟨I.tok _,⟨_,rfl⟩,q _ e λc hc=>?_⟩)⟩
    rcases afr z.cps n.toNat #[] c (by simpa using hc)with h|h
    .simp at h
    .exact h
theorem aiz:∀{ys:List Str} {us:List Value},Vals (ys.map V.str) us->StrsAre us ys
 | [],us,h=>by cases h;exact .nil
 | y::ys,us,h=>by
  cases h with
  | cons r t=>
   obtain⟨k,e⟩:=(show ∃t,_=Value.str y t from r)
   subst e
   exact .cons y k (aiz t)
def auq:V->List V->Hp->VK->Prop:=λx vs H Q=>∃(z:Str)(l:Addr)(ys:List Str),x=.str z/\vs=[.ref l]/\H l=some (.lst (ys.map V.str))/\(ys.map (·.length)).sum+ys.length*z.length<=1000000/\Q (.str (Txt.join z ys)) H
theorem aih:MtR X "str.join" auq:=by
 intro pins s σ H x vs v us Q I rx rv h
 obtain⟨z,l,ys,rfl,rfl,hl,hz,q⟩:=h
 obtain⟨t,rfl⟩:=rx
 obtain⟨u,rfl,r1⟩:=sy rv
 cases (show u=Value.ref l from r1)
 obtain⟨its,r,pl,_⟩:=I.list (SqL.of (K:=X.K) hl)
 exact join_list pl.isList (by simpa using aiz r) (by omega) λt' k=>(mw (.str _) H ⟨I.tok _,⟨_,rfl⟩,q⟩)
def axq:List V->Hp->VK->Prop:=λxs H Q=>∃(p:Addr)(bs:List Bool),xs=[.ref p]/\H p=some (.lst (bs.map V.bl))/\Q (.bl (bs.all id)) H
theorem akm:∀(bs:List Bool),((b9 bs.length).all λi=>(bs[i]?).getD true)=bs.all id:=λbs=>by
 rw[ig,ku,ku]
 constructor
 .intro h b hb
  obtain⟨i,hi,rfl⟩:=List.mem_iff_getElem.mp hb
  have:=h i (by simpa using hi)
  simpa [hi]using this
 .intro h i hi
  have hi':i<bs.length:=by simpa using hi
  have:=h bs[i] (dv hi')
  simpa [hi']using this
theorem abp(hc:X.calm=true):sw X (.builtin "all") axq:=by
 intro pins s σ H xs us Q I r h
 obtain⟨p,bs,rfl,hp,q⟩:=h
 obtain⟨u,rfl,r1⟩:=sy r
 cases (show u=Value.ref p from r1)
 obtain⟨its,rv,pl,hz⟩:=I.list (SqL.of (K:=X.K) hp)
 have hlt:p<s.heap.objs.size:=by obtain⟨_,_,e,_⟩:=pl;exact bn e
 have hlen:its.length=bs.length:=by rw[<-rv.length,ah]
 refine call_all_walk (wpAny_pyIter_list pl.isList ?_)
 refine⟨s.heap.objs.size,[s.heap.objs.size,p],[s.heap.objs.size],its.toArray.size,_,_,λi=>(bs[i]?).getD true,rfl,Walks.list (A:=X.A.in1) (I.ok.hd hc) _ p (c9 hlt) its.toArray,
  ⟨⟨_,av _ rfl,rfl,rfl⟩,pl.isList.push _⟩,λi v s' Q' E' hP hQ=>?_,λh' tk hk=>?_⟩
 .have hi:its[i]?=some v:=by simpa using hP
  have hi2:i<bs.length:=by rw[<-hlen];exact(ae.mp hi).1
  obtain⟨u',e1,e2⟩:=rv.get (i:=i) (x:=.bl bs[i]) (by rw[aw,ab hi2];rfl)
  rw[hi]at e1;cases e1
  cases (show v=Value.bool bs[i]from e2)
  have hQ2:Q' ((bs[i]?).getD true) s':=hQ
  rw[ab hi2]at hQ2
  exact fy hQ2
 .refine(mw (.bl _) H ⟨I.kept (λb o e=>hk b o (λhm=>?_) (ak _ e)),rfl,?_⟩)
  .rw[ao.mp hm]at e
   exact jc _ (bn e)
  .rw[ay,hlen,akm]
   exact q
end
theorem afo:∀{ys:List V} {us:List Value},ys.length=us.length->(∀(i:Nat)(y:V)(u:Value),ys[i]?=some y->us[i]?=some u->RelV y u)->Vals ys us
 | [],[],_,_=>.nil
 | [],_::_,h,_=>by cases h
 | _::_,[],h,_=>by cases h
 | y::ys,u::us,h,r=>.cons (r 0 y u rfl rfl) (afo (by simpa using h) λi y' u' e e'=>r (i+1) y' u' (by simpa using e) (by simpa using e'))
theorem ahr{X:Cx}(hc:X.calm=true):sw X (.type "list") (λxs H Q=>∃z:Str,xs=[.str z]/\z.length<=1000/\∀l,H l=none->Q (.ref l) (upd H l (.lst (z.cps.toList.map λc=>V.str ⟨#[c]⟩)))):=by
 intro pins s σ H xs us Q I r h
 obtain⟨z,rfl,hz,q⟩:=h
 obtain⟨u,rfl,t,rfl⟩:=sy r
 have hz':z.cps.size<=sizeLine:=gc (by have:=io;unfold Str.length at hz;omega)
 refine call_list_str (I.ok.hd hc) z t (λh' tk acc' c' kp e hacc=>?_) hz'
 refine(mw (.ref s.heap.objs.size) _ ⟨I.laid (t':=tk) kp (am _) (show ObjOk X.prog X.w _ h' _ (.lst (z.cps.toList.map λc=>V.str ⟨#[c]⟩))from ⟨by simpa using hz',(mw acc'.toList c' ⟨afo (by simpa using hacc.1.symm) λi y u' e1 e2=>?_,by simpa using e⟩)⟩),rfl,q _ (I.hok.fresh (am _))⟩)
 obtain⟨c,k,e3,e4⟩:=hacc.2 i u' (by simpa using e2)
 rw[aw,show z.cps.toList[i]?=some c by simpa using e3]at e1
 cases e1
 exact⟨k,e4⟩
def Tx(z:Str):Prop:=z.length<=80/\∀c∈z.cps.toList,c<128
theorem Tx.ok{z:Str}(h:Tx z):iw z=true:=by
 unfold iw
 rw[Array.all_eq_true']
 intro c hc
 have:=h.2 c (by simpa using hc)
 simp only[decide_eq_true_eq]
 omega
noncomputable def sgB(c:Nat):Bool:=(c==35||c==46||c==44)||(decide (65<=c)&&decide (c<=90))||(decide (97<=c)&&decide (c<=122))
theorem aqi{g:Array Nat}(hg:g=#[]):∀(l:List Str)(a:Array Nat),(l.foldl (λacc p=>acc++g++p.cps) a).toList=a.toList++(l.map λp=>p.cps.toList).flatten
 | [],a=>by simp
 | p::l,a=>by
  rw[List.foldl_cons,aqi hg l,hg]
  simp
theorem adp{g:Str}(hg:g.cps=#[]):∀ys:List Str,(Txt.join g ys).cps.toList=(ys.map λp=>p.cps.toList).flatten
 | []=>by simp[Txt.join,PySem.Builtin.Str.glued,Str.empty]
 | y::ys=>by
  show((ys.foldl (λacc p=>acc++g.cps++p.cps) y.cps)).toList=_
  rw[aqi hg]
  simp
section
variable{prog:Program}{w:World}{A:Around}{E:Value->Shared->Prop}{s:Shared}
theorem aqo{I a:Addr}{k:Nat}{ys:Array Value}{v:Value}{R:Value->Shared->Prop}(st:s.heap.IsTupleIter I a k)(tp:s.heap.IsTuple a ys)(hv:ys[k]?=some v)
  (q:∀g,g.IsTupleIter I a (k+1)->bw I s.heap g->R v {s with heap:=g}):wpAny (model prog w) A (cu (.ref I)) R E s:=by
 obtain⟨u,hu,uc,ud⟩:=id st
 obtain⟨z,hz,_,nz,zd⟩:=tp
 unfold cu
 refine aa (ce (name:=ba "__next__") st.typeIs F.slot_tuple_iterator_next (cf F.slot_tuple_iterator_next st.typeIs F.entry_tuple_iterator_next ?_ (F.args_tuple_iterator_next_1 _)))
 refine(aa (gr hu ud (x:=.ref a) rfl ?_):wpAny _ _ (field (.ref I) 0 >>= _) _ _ s)
 refine(?_:wpAny _ _ (if (Value.ref a==Value.none)=true then _ else _) _ _ s)
 rw[if_neg (show ¬(Value.ref a==Value.none)=true from aj)]
 refine(aa (gr hu ud (x:=.int k 0) rfl ?_):wpAny _ _ (field (.ref I) 1 >>= _) _ _ s)
 refine(aa (jf hz zd ?_):wpAny _ _ (seqItems? (.ref a) >>= _) _ _ s)
 simp only[cc,hv]
 refine aa (gl hu ud (by simp) (af ⟨v,rfl,af (q _ ⟨_,ck _ hu (Obj.isFreed_of_fields (i8 ud _)),?_,?_⟩ (cx ..))⟩))
 .exact(Obj.cls_mapFields ..).trans uc
 .rw[i8 ud];simp[rawInt]
theorem aqy{I:Addr}{z:Str}{t:Tok}{k c:Nat}{R:Value->Shared->Prop}(st:s.heap.IsStrIter I "str_ascii_iterator" z t k)(hv:z.cps[k]?=some c)
  (q:∀g,g.IsStrIter I "str_ascii_iterator" z t (k+1)->bw I s.heap g->R (.str ⟨#[c]⟩ s.toks) {s with heap:=g,toks:=s.toks+1}):wpAny (model prog w) A (cu (.ref I)) R E s:=by
 obtain⟨u,hu,uc,ud⟩:=id st
 unfold cu
 refine aa (ce (name:=ba "__next__") st.typeIs kg (cf kg st.typeIs F.entry_str_ascii_iterator_next ?_ (F.args_str_ascii_iterator_next_1 _)))
 refine(aa (gr hu ud (x:=.str z t) rfl ?_):wpAny _ _ (field (.ref I) 0 >>= _) _ _ s)
 refine(aa (gr hu ud (x:=.int k 0) rfl ?_):wpAny _ _ (field (.ref I) 1 >>= _) _ _ s)
 simp only[cc,hv]
 refine aa (gl hu ud (by simp) (aa (wpAny_mkStr (af ⟨_,rfl,af (q _ ⟨_,ck _ hu (Obj.isFreed_of_fields (i8 ud _)),?_,?_⟩ (cx ..))⟩) (by show 1<=sizeLine;decide))))
 .exact(Obj.cls_mapFields ..).trans uc
 .rw[i8 ud];simp[rawInt]
theorem yt{X:Addr}{h1:Heap}{k:Value->Sem Fin}(hh:A.handled=none)(keep:ju X s.heap h1)
  (q:∀g e,ju X s.heap g->(∃o,g.get? e=some o/\o.cls=.type "StopIteration")->E (.ref e) {s with heap:=g}) {R:Fin->Shared->Prop}
  (ek:∀v,k v=(raiseNew v:Sem Fin)):wpAny (model prog w) A (newExc (.type "StopIteration") [] >>= k) R E {s with heap:=h1}:=by
 refine aa ?_
 simp only[newExc,newTuple]
 refine aa (cg ?_ (by size_fits))
 refine aa (m:=firstArgMember _ _) (wpAny_of_eq (a:=Value.none) (by first|rfl|(simp only[firstArgMember];rfl)) (cg ?_ (by size_fits)))
 rw[ek]
 simp only[raiseNew]
 refine aa (wpAny_handled ?_)
 rw[hh]
 exact aa (af (wpAny_throw (q _ _ ((keep.push _).push _) ⟨_,av _ rfl,rfl⟩)))
theorem ag1{I a:Addr}{k:Nat}{ys:Array Value}{R:Value->Shared->Prop}(hh:A.handled=none)(st:s.heap.IsTupleIter I a k)(tp:s.heap.IsTuple a ys)(hv:ys[k]?=none)
  (q:∀g e,ju I s.heap g->(∃o,g.get? e=some o/\o.cls=.type "StopIteration")->E (.ref e) {s with heap:=g}):wpAny (model prog w) A (cu (.ref I)) R E s:=by
 obtain⟨u,hu,uc,ud⟩:=id st
 obtain⟨z,hz,_,nz,zd⟩:=tp
 unfold cu
 refine aa (ce (name:=ba "__next__") st.typeIs F.slot_tuple_iterator_next (cf F.slot_tuple_iterator_next st.typeIs F.entry_tuple_iterator_next ?_ (F.args_tuple_iterator_next_1 _)))
 refine(aa (gr hu ud (x:=.ref a) rfl ?_):wpAny _ _ (field (.ref I) 0 >>= _) _ _ s)
 refine(?_:wpAny _ _ (if (Value.ref a==Value.none)=true then _ else _) _ _ s)
 rw[if_neg (show ¬(Value.ref a==Value.none)=true from aj)]
 refine(aa (gr hu ud (x:=.int k 0) rfl ?_):wpAny _ _ (field (.ref I) 1 >>= _) _ _ s)
 refine(aa (jf hz zd ?_):wpAny _ _ (seqItems? (.ref a) >>= _) _ _ s)
 simp only[cc,hv]
 refine aa (jz (aa (gl hu ud (by simp) ?_)))
 exact yt (A:=A.in1) hh (cx ..).extBut q λ_=>rfl
theorem ahk{I:Addr}{z:Str}{t:Tok}{k:Nat}{R:Value->Shared->Prop}(hh:A.handled=none)(st:s.heap.IsStrIter I "str_ascii_iterator" z t k)(hv:z.cps[k]?=none)
  (q:∀g e,ju I s.heap g->(∃o,g.get? e=some o/\o.cls=.type "StopIteration")->E (.ref e) {s with heap:=g}):wpAny (model prog w) A (cu (.ref I)) R E s:=by
 obtain⟨u,hu,uc,ud⟩:=id st
 unfold cu
 refine aa (ce (name:=ba "__next__") st.typeIs kg (cf kg st.typeIs F.entry_str_ascii_iterator_next ?_ (F.args_str_ascii_iterator_next_1 _)))
 refine(aa (gr hu ud (x:=.str z t) rfl ?_):wpAny _ _ (field (.ref I) 0 >>= _) _ _ s)
 refine(aa (gr hu ud (x:=.int k 0) rfl ?_):wpAny _ _ (field (.ref I) 1 >>= _) _ _ s)
 simp only[cc,hv]
 refine aa (jz (aa (gl hu ud (by simp) (aa (wpAny_letGo ?_)))))
 exact yt (A:=A.in1) hh (cx ..).extBut q λ_=>rfl
theorem aib{e I:Addr}{i:Nat}{old:Value}{Y:Value->Prop}{N:Heap->Prop}{Q:Option Value->Shared->Prop}(he:IsEnum s.heap e I i old)(hne:e≠I)
  (hN:∀g g',N g->(∀o,g.get? I=some o->g'.get? I=some o)->N g')
  (hnx:∀(A':Around)(R:Value->Shared->Prop)(E':Value->Shared->Prop),(∀x g tk,Y x->N g->bw I s.heap g->R x {s with heap:=g,toks:=tk})->wpAny (model prog w) A' (cu (.ref I)) R E' s)
  (hQ:∀x g tk tk2,Y x->IsEnumOut g e I ((i:Int)+1) x s.heap.objs.size->N g->g.get? s.heap.objs.size=some {cls:=.type "tuple",data:=.seq #[.int i tk2,x]}->(∀b o,b≠e->b≠I->s.heap.get? b=some o->g.get? b=some o)->Q (some (.ref s.heap.objs.size)) {s with heap:=g,toks:=tk}) :
  wpAny (model prog w) A (pyNext (.ref e)) Q E s:=by
 obtain⟨h0,ga,dr,t0,os⟩:=s
 have ty:Shared.TypeIs ⟨h0,ga,dr,t0,os⟩ (.ref e) "enumerate":=⟨_,he,rfl⟩
 replace he:IsEnum h0 e I i old:=he
 have hel:e<h0.objs.size:=bn he
 unfold pyNext
 refine aa (jd (ce (name:=ba "__next__") ty F.slot_enumerate_next (cf F.slot_enumerate_next ty F.entry_enumerate_next ?_ (F.args_enumerate_next_1 _))))
 show wpAny _ _ (field (.ref e) 2 >>= _) _ _ ⟨h0,ga,dr,t0,os⟩
 refine aa (gr he rfl (x:=.ref I) rfl (aa (hnx _ _ _ λx g1 tk yx n1 sb1=>?_)))
 replace sb1:bw I h0 g1:=sb1
 have e1:IsEnum g1 e I i old:=(sb1.2 e hne).trans he
 have z1:g1.objs.size=h0.objs.size:=sb1.1
 have k1:∀b o,b≠e->b≠I->h0.get? b=some o->g1.get? b=some o:=λb o _ hb h=>(sb1.2 b hb).trans h
 clear sb1
 show wpAny _ _ (field (.ref e) 3 >>= _) _ _ ⟨g1,ga,dr,tk,os⟩
 refine aa (gr e1 rfl (x:=rawInt i) rfl ?_)
 show wpAny _ _ (field (.ref e) 4 >>= _) _ _ ⟨g1,ga,dr,tk,os⟩
 refine aa (gr e1 rfl (x:=.none) rfl ?_)
 show wpAny _ _ (mkInt i >>= _) _ _ ⟨g1,ga,dr,tk,os⟩
 refine aa (wpAny_mkInt ?_)
 show wpAny _ _ (setField (.ref e) 3 (rawInt ((i:Int)+1)) >>= _) _ _ ⟨g1,ga,dr,tk+1,os⟩
 refine aa (wpAny_setField_rec e1 (by simp) λg2 e2 sb2=>?_)
 replace sb2:bw e g1 g2:=sb2
 replace e2:IsEnum g2 e I ((i:Int)+1) old:=e2
 have z2:g2.objs.size=h0.objs.size:=sb2.1.trans z1
 have n2:N g2:=hN _ _ n1 λo h=>(sb2.2 I (Ne.symm hne)).trans h
 have k2:∀b o,b≠e->b≠I->h0.get? b=some o->g2.get? b=some o:=λb o hb hI h=>(sb2.2 b hb).trans (k1 b o hb hI h)
 clear sb2 n1 k1 e1 z1
 show wpAny _ _ (setField (.ref e) 4 .none >>= _) _ _ ⟨g2,ga,dr,tk+1,os⟩
 refine aa (wpAny_setField_rec e2 (by simp) λg3 e3 sb3=>?_)
 replace sb3:bw e g2 g3:=sb3
 replace e3:IsEnum g3 e I ((i:Int)+1) old:=e3
 have z3:g3.objs.size=h0.objs.size:=sb3.1.trans z2
 have n3:N g3:=hN _ _ n2 λo h=>(sb3.2 I (Ne.symm hne)).trans h
 have k3:∀b o,b≠e->b≠I->h0.get? b=some o->g3.get? b=some o:=λb o hb hI h=>(sb3.2 b hb).trans (k2 b o hb hI h)
 clear sb3 n2 k2 e2 z2
 show wpAny _ _ (newTuple [.int i tk,x] >>= _) _ _ ⟨g3,ga,dr,tk+1,os⟩
 refine aa (wpAny_newTuple ?_)
 have e4:IsEnum (g3.push {cls:=.type "tuple",data:=.seq #[.int i tk,x]}) e I ((i:Int)+1) old:=ak _ e3
 have n4:N (g3.push {cls:=.type "tuple",data:=.seq #[.int i tk,x]}):=hN _ _ n3 λo h=>ak _ h
 have k4:∀b o,b≠e->b≠I->h0.get? b=some o->(g3.push {cls:=.type "tuple",data:=.seq #[.int i tk,x]}).get? b=some o:=λb o hb hI h=>ak _ (k3 b o hb hI h)
 have t4:(g3.push {cls:=.type "tuple",data:=.seq #[.int i tk,x]}).get? h0.objs.size=some {cls:=.type "tuple",data:=.seq #[.int i tk,x]}:=by
  have h:=av g3 (o:={cls:=.type "tuple",data:=.seq #[.int i tk,x]}) rfl
  rw[z3]at h;exact h
 generalize hg4:g3.push {cls:=.type "tuple",data:=.seq #[.int i tk,x]}=g4 at *
 show wpAny _ _ (Builtin.SmallTypes.ownedTupleIsFree (.ref e) >>= _) _ _ ⟨g4,ga,dr,tk+1,os⟩
 rw[z3]
 clear hg4 n3 k3 e3 z3 g3
 refine aa ?_
 unfold Builtin.SmallTypes.ownedTupleIsFree
 refine aa (gr e4 rfl (x:=.none) rfl (af ?_))
 simp only[if_true]
 refine aa (jz (aa (gr e4 rfl (x:=old) rfl (aa (wpAny_setField_rec e4 (by simp) λg5 e5 sb5=>?_)))))
 replace sb5:bw e g4 g5:=sb5
 replace e5:IsEnum g5 e I ((i:Int)+1) x:=e5
 show wpAny _ _ (Builtin.SmallTypes.ownedTupleHandOut (.ref e) (.ref h0.objs.size) >>= _) _ _ ⟨g5,ga,dr,tk+1,os⟩
 refine aa ?_
 unfold Builtin.SmallTypes.ownedTupleHandOut
 refine aa (wpAny_setField_rec e5 (by simp) λg6 e6 sb6=>?_)
 replace sb6:bw e g5 g6:=sb6
 replace e6:IsEnumOut g6 e I ((i:Int)+1) x h0.objs.size:=e6
 refine wpAny_setField_rec e6 (by simp) λg7 e7 sb7=>?_
 replace sb7:bw e g6 g7:=sb7
 replace e7:IsEnumOut g7 e I ((i:Int)+1) x h0.objs.size:=e7
 have all:∀b o,b≠e->g4.get? b=some o->g7.get? b=some o:=λb o hb h=>(sb7.2 b hb).trans ((sb6.2 b hb).trans ((sb5.2 b hb).trans h))
 exact aa (wpAny_letGo (af ⟨_,rfl,af (hQ x g7 _ tk yx e7 (hN _ _ n4 λo h=>all I o (Ne.symm hne) h) (all _ _ (Nat.ne_of_gt hel) t4) λb o hb hI h=>all b o hb (k4 b o hb hI h))⟩))
theorem alp{e I:Addr}{i:Int}{old:Value}{Q:Option Value->Shared->Prop}(he:IsEnum s.heap e I i old)
  (hnx:∀(R:Value->Shared->Prop)(E':Value->Shared->Prop),(∀g x,ju I s.heap g->(∃o,g.get? x=some o/\o.cls=.type "StopIteration")->E' (.ref x) {s with heap:=g})->wpAny (model prog w) A.in1 (cu (.ref I)) R E' s)
  (hQ:∀g,ju I s.heap g->Q none {s with heap:=g}):wpAny (model prog w) A (pyNext (.ref e)) Q E s:=by
 have ty:s.TypeIs (.ref e) "enumerate":=⟨_,he,rfl⟩
 unfold pyNext
 refine aa (jd (ce (name:=ba "__next__") ty F.slot_enumerate_next (cf F.slot_enumerate_next ty F.entry_enumerate_next ?_ (F.args_enumerate_next_1 _))))
 show wpAny _ _ (field (.ref e) 2 >>= _) _ _ s
 refine aa (gr he rfl (x:=.ref I) rfl (aa (hnx _ _ λg x kp ⟨o,ho,hc⟩=>?_)))
 exact aa (kz (T:="StopIteration") (b:=true) ⟨o,ho,hc⟩ isSubtype_stop (af (hQ _ kp)))
end
theorem ajf(a:Addr)(ys:Array Value)(n:Nat)(dct:Option Addr)(sl:Array (Option Value)) :
  Meets (Builtin.«enumerate.__new__» ⟨[.type "enumerate",.ref a],[]⟩) (λ_ R s=>s.heap.get? a=some {cls:=.type "tuple",dict:=dct,data:=.seq ys n,slots:=sl}/\
   R (.ok (.ret (.ref (s.heap.push {cls:=.type "tuple_iterator",data:=.fields #[.ref a,.int 0 0]}).objs.size)))
    {s with heap:=(s.heap.push {cls:=.type "tuple_iterator",data:=.fields #[.ref a,.int 0 0]}).push {cls:=.type "enumerate",data:=.fields #[.none,.bool false,.ref s.heap.objs.size,rawInt 0,.none,.none]}}):=
 .of_wp λprog w A R s h=>by
  obtain⟨h0,ga,dr,tk,os⟩:=s;obtain⟨ha,h⟩:=h
  have hsub:=sub_enumerate
  have hT:Heap.IsTuple (Shared.heap ⟨h0,ga,dr,tk,os⟩) a ys:=(oe _ ha rfl n rfl)
  wp_walk using AutoSeq1.wpAny_loadPart' ha
  refine wpAny_stack_any λst=>af ?_
  split
  .rename_i c _ _ _ _ _
   cases (c==Value.type "enumerate")
   .wp_walk using AutoSeq1.wpAny_loadPart' ha,wpAny_pyIter_tuple hT
    exact⟨_,rfl,h⟩
   .wp_walk using AutoSeq1.wpAny_loadPart' ha,wpAny_pyIter_tuple hT
    exact⟨_,rfl,h⟩
  .wp_walk using AutoSeq1.wpAny_loadPart' ha,wpAny_pyIter_tuple hT
   exact⟨_,rfl,h⟩
section
variable{prog:Program}{w:World}{A:Around}{E:Value->Shared->Prop}{s:Shared}
theorem agy{a:Addr}{ys:Array Value}{Q:Value->Shared->Prop}(hT:s.heap.IsTuple a ys)
  (h:∀g,IsEnum g (s.heap.objs.size+1) s.heap.objs.size 0 .none->g.IsTupleIter s.heap.objs.size a 0->(∀b o,s.heap.get? b=some o->g.get? b=some o)->Q (.ref (s.heap.objs.size+1)) {s with heap:=g}) :
  wpAny (model prog w) A (call (.type "enumerate") [.ref a]) Q E s:=by
 obtain⟨⟨c,dct,dt,sl⟩,ha,hc,n,hd⟩:=hT
 replace hc:c=.type "tuple":=hc
 replace hd:dt=.seq ys n:=hd
 subst hc hd
 refine callType_new F.called_enumerate (by decide) (F.typeCall_enumerate_1 _) (F.newCall_enumerate_1 _) (λobj=>F.args_object_init_2 obj _) F.entry_enumerate_new (ajf a ys n dct sl) ⟨ha,?_⟩
 have hz:(s.heap.push {cls:=.type "tuple_iterator",data:=.fields #[.ref a,.int 0 0]}).objs.size=s.heap.objs.size+1:=k9 ..
 refine(?_:_/\_)
 rw[hz]
 have he:IsEnum ((s.heap.push {cls:=.type "tuple_iterator",data:=.fields #[.ref a,.int 0 0]}).push {cls:=.type "enumerate",data:=.fields #[.none,.bool false,.ref s.heap.objs.size,rawInt 0,.none,.none]}) (s.heap.objs.size+1) s.heap.objs.size 0 .none:=by
  have h:=av (s.heap.push {cls:=.type "tuple_iterator",data:=.fields #[.ref a,.int 0 0]}) (o:={cls:=.type "enumerate",data:=.fields #[.none,.bool false,.ref s.heap.objs.size,rawInt 0,.none,.none]}) rfl
  rw[hz]at h;exact h
 exact⟨⟨_,he,rfl⟩,h _ he ⟨_,ak _ (av _ rfl),rfl,rfl⟩ λb o x=>ak _ (ak _ x)⟩
end
section
variable{X:Cx}{pins:List (Addr×Obj)}{σ:L2.St}{H:Hp}{s:Shared}{h':Heap}
theorem aoz{t':Nat}{e it:Addr}(I:Inv X pins σ H s)(k:∀b o,b≠e->b≠it->s.heap.get? b=some o->h'.get? b=some o)(fe:afm X pins H e)(fi:afm X pins H it):Inv X pins σ H {s with heap:=h',toks:=t'}:=by
 obtain⟨e0,e1,e2,e3,e4,e5⟩:=fe
 obtain⟨i0,i1,i2,i3,i4,i5⟩:=fi
 have nn:∀b u,H b=some u->b≠e/\b≠it:=λb u q=>⟨λz=>(by rw[z,e0]at q;cases q),λz=>(by rw[z,i0]at q;cases q)⟩
 have sp:∀b,b∉[e,it]->b≠e/\b≠it:=λb hb=>by simpa using hb
 refine I.step (g':=s.gens) (d':=s.drawn) (ch:=[e,it]) (λb hb=>?_) (λb o _ _ hc q _=>k b o (sp b hc).1 (sp b hc).2 q) (λb o _ _ hc q _=>⟨o.slots,k b o (sp b hc).1 (sp b hc).2 q⟩) (λ_ _ _ _ n=>n)
  (λb o hc q=>⟨o,k b o (sp b hc).1 (sp b hc).2 q⟩) (λ_ _ q=>q) (λ_ _ _ q=>q) (λb ps q=>⟨#[],by rw[q];simp⟩) (λm hm=>?_) (λb u q=>?_) I.bare
 .rcases bq.mp hb with z|z
  .subst z;exact⟨e3,e1,e4,e5⟩
  .rw[ao.mp z];exact⟨i3,i1,i4,i5⟩
 .obtain⟨o,es,ep,ho,r⟩:=hm
  exact(nq o es ep ⟨k _ o (Ne.symm e1) (Ne.symm i1) ho,r⟩)
 .refine(I.hok b u q).stay (λc v hc r=>k c v ?_ ?_ r) (λ_ r=>r) λ_ _ r=>r
  .rcases hc with z|z
   .rw[z];exact(nn b u q).1
   .exact(nn c _ z).1
  .rcases hc with z|z
   .rw[z];exact(nn b u q).2
   .exact(nn c _ z).2
end
theorem aac{P:Program}{w:World}{K:ai}{elts:List Expr}{x1}{pos:Pos}(J:It)(e I:Addr)(hne:e≠I)(M:Nat->Heap->Prop)
  (hobj:∀i h,M i h->∃o,h.get? I=some o/\∀v,o.data≠.cell v) (hkeep:∀i h h',M i h->(∀o,h.get? I=some o->h'.get? I=some o)->M i h')
  (hitem:∀(X:Cx),X.prog=P->X.w=w->X.K=K->∀(i:Nat) pins (s:Shared) σ H,Inv X pins σ H s->M i s.heap->J.go i H->∃Y:Value->Prop,
   (∀u,Y u->∃x,RelV x u/\J.yld i H (.ref s.heap.objs.size) (upd H s.heap.objs.size (.tup [.int i,x])))/\
   ∀(A':Around)(R:Value->Shared->Prop)(E':Value->Shared->Prop),(∀u g tk,Y u->M (i+1) g->bw I s.heap g->R u {s with heap:=g,toks:=tk})->wpAny (model P w) A' (cu (.ref I)) R E' s)
  (hdone:∀(X:Cx),X.prog=P->X.w=w->X.K=K->∀(i:Nat) pins (s:Shared) σ H,Inv X pins σ H s->M i s.heap->J.stop i H->
   ∀(A':Around)(R:Value->Shared->Prop)(E':Value->Shared->Prop),A'.handled=none->(∀g u,ju I s.heap g->(∃o,g.get? u=some o/\o.cls=.type "StopIteration")->E' (.ref u) {s with heap:=g})->wpAny (model P w) A' (cu (.ref I)) R E' s) :
  ak2 P w K (.Tuple elts x1 pos) J [e,I] e (λi h=>(∃old,IsEnum h e I i old)/\M i h)where
 mem:=by simp
 obj:=λi h st b hb=>by
  obtain⟨⟨old,he⟩,m⟩:=st
  rcases bq.mp hb with z|z
  .subst z
   exact⟨_,he,λv z=>by cases z⟩
  .rw[ao.mp z]
   exact hobj i h m
 keep:=λi h h' st k=>by
  obtain⟨⟨old,he⟩,m⟩:=st
  exact⟨⟨old,k e (by simp) _ he⟩,hkeep i h h' m λo q=>k I (by simp) o q⟩
 item:=by
  intro X hP hw hK hc i pins s σ H E Iv hf st hg
  obtain⟨⟨old,he⟩,m⟩:=st
  obtain⟨Y,hY,hnx⟩:=hitem X hP hw hK i pins s σ H Iv m hg
  subst hP hw hK
  have fe:=hf e (by simp)
  have fi:=hf I (by simp)
  have hel:e<s.heap.objs.size:=bn he
  obtain⟨oi,hoi,_⟩:=hobj i _ m
  have hil:I<s.heap.objs.size:=bn hoi
  refine aib he hne (N:=M (i+1)) (λg g' n k=>hkeep _ _ _ n k) hnx (λu g tk tk2 yu eo n t4 k=>⟨_,rfl,?_⟩)
  refine wpAny_letOwnedTupleGo_enum (s:={s with heap:=g,toks:=tk}) eo λg' e' sb=>?_
  obtain⟨v,rv,yl⟩:=hY u yu
  have I1:Inv X pins σ (upd H s.heap.objs.size (.tup [.int i,v])) {s with heap:=s.heap.push {cls:=.type "tuple",data:=.seq #[.int i tk2,u]},toks:=tk}:=
   Iv.laid (t':=tk) (λb o q=>ak _ q) (am _) ⟨by show 2<=sizeLine;decide,[.int i tk2,u],.cons ⟨tk2,rfl⟩ (.cons rv .nil),(oe _ (av _ rfl) rfl _ rfl)⟩
  have up:∀b,b<s.heap.objs.size->afm X pins H b->afm X pins (upd H s.heap.objs.size (.tup [.int i,v])) b:=λb hb q=>⟨by rw[nj (c9 hb)];exact q.1,q.2⟩
  have I2:Inv X pins σ (upd H s.heap.objs.size (.tup [.int i,v])) {s with heap:=g,toks:=tk}:=aoz (s:={s with heap:=s.heap.push {cls:=.type "tuple",data:=.seq #[.int i tk2,u]},toks:=tk}) (t':=tk) I1 (λb o h1 h2 q=>by
   rcases Heap.get?_push_cases q with ⟨z1,z2⟩|z
   .rw[z1,z2];exact t4
   .exact k b o h1 h2 z) (up e hel fe) (up I hil fi)
  have fe2:=up e hel fe
  have I3:Inv X pins σ (upd H s.heap.objs.size (.tup [.int i,v])) {s with heap:=g',toks:=tk}:=Inv.turned (s:={s with heap:=g,toks:=tk}) (t':=tk) I2 (λb o hb q=>(sb.2 b hb).trans q) fe2.1 fe2.2.1 fe2.2.2.2.1 fe2.2.2.2.2.1 fe2.2.2.2.2.2
  refine(mw (.ref s.heap.objs.size) _ ⟨I3,rfl,yl,⟨⟨u,e'⟩,hkeep _ _ _ n λo q=>(sb.2 I (Ne.symm hne)).trans q⟩,λb hb=>?_⟩)
  rcases bq.mp hb with z|z
  .subst z;exact fe2.1
  .rw[ao.mp z];exact(up I hil fi).1
 done:=by
  intro X hP hw hK hc i pins s σ H E Iv hf st hg
  obtain⟨⟨old,he⟩,m⟩:=st
  have hd:=hdone X hP hw hK i pins s σ H Iv m hg
  subst hP hw hK
  have fi:=hf I (by simp)
  exact alp he (λR E' q=>hd _ R E' (Iv.ok.hd hc) q) λg kp=>⟨rfl,Iv.turned (t':=s.toks) (λb o hb q=>kp b o hb q) fi.1 fi.2.1 fi.2.2.2.1 fi.2.2.2.2.1 fi.2.2.2.2.2⟩
 self:=λ_ _ _ _ _ st h=>by
  obtain⟨⟨old,he⟩,_⟩:=st
  exact wpAny_pyIter_enum he h
noncomputable def Jet(K:ai)(a:Addr):It:=
 ⟨λi H=>∃xs x,SqT K H a xs/\xs[i]?=some x,λi H v H'=>∃p x,H p=none/\v=.ref p/\H'=upd H p (.tup [.int i,x])/\∀xs,SqT K H a xs->xs[i]?=some x,λi H=>∃xs,SqT K H a xs/\xs.length<=i⟩
noncomputable def Jes(z:Str):It:=
 ⟨λi _=>i<z.cps.toList.length,λi H v H'=>∃p c,H p=none/\v=.ref p/\H'=upd H p (.tup [.int i,.str ⟨#[c]⟩])/\z.cps.toList[i]?=some c,λi _=>z.cps.toList.length<=i⟩
theorem ahe{P:Program}{w:World}{K:ai}{elts:List Expr}{x1}{pos:Pos}(a e I:Addr)(hne:e≠I) :
  ak2 P w K (.Tuple elts x1 pos) (Jet K a) [e,I] e (λi h=>(∃old,IsEnum h e I i old)/\h.IsTupleIter I a i):=by
 refine aac (Jet K a) e I hne (λi h=>h.IsTupleIter I a i) (λi h st=>?_) (λi h h' st k=>st.at k) (λX hP hw hK i pins s σ H Iv st hg=>?_) (λX hP hw hK i pins s σ H Iv st hg A' R E' hh q=>?_)
 .obtain⟨o,ho,c,d⟩:=st
  exact⟨o,ho,λv z=>by rw[d]at z;cases z⟩
 .subst hP hw hK
  obtain⟨xs,x,hq,hx⟩:=hg
  obtain⟨its,rv,p,hz⟩:=Iv.tuple hq
  obtain⟨u,hu,ru⟩:=rv.get hx
  refine⟨λu'=>u'=u,λu' hu'=>?_,λA' R E' q=>?_⟩
  .subst hu'
   exact(oj x ru s.heap.objs.size x ⟨Iv.hok.fresh (am _),rfl,rfl,λys hy=>by rw[Iv.tuple_inj hy hq];exact hx⟩)
  .exact aqo st (show s.heap.IsTuple a its.toArray from p) (v:=u) (by simpa using hu) λg st' sb=>q u g s.toks rfl st' sb
 .subst hP hw hK
  obtain⟨xs,hq,hx⟩:=hg
  obtain⟨its,rv,p,hz⟩:=Iv.tuple hq
  have hl:=rv.length
  exact ag1 hh st (show s.heap.IsTuple a its.toArray from p) (by simp;omega) q
theorem ahc{P:Program}{w:World}{K:ai}{elts:List Expr}{x1}{pos:Pos}(z:Str)(t:Tok)(e I:Addr)(hne:e≠I) :
  ak2 P w K (.Tuple elts x1 pos) (Jes z) [e,I] e (λi h=>(∃old,IsEnum h e I i old)/\h.IsStrIter I "str_ascii_iterator" z t i):=by
 refine aac (Jes z) e I hne (λi h=>h.IsStrIter I "str_ascii_iterator" z t i) (λi h st=>?_) (λi h h' st k=>?_) (λX hP hw hK i pins s σ H Iv st hg=>?_) (λX hP hw hK i pins s σ H Iv st hg A' R E' hh q=>?_)
 .obtain⟨o,ho,c,d⟩:=st
  exact⟨o,ho,λv z=>by rw[d]at z;cases z⟩
 .obtain⟨o,ho,r⟩:=st
  exact⟨o,k o ho,r⟩
 .subst hP hw hK
  have hi:i<z.cps.size:=by simpa [Jes]using hg
  refine⟨λu=>∃tk,u=.str ⟨#[z.cps[i]]⟩ tk,λu hu=>?_,λA' R E' q=>?_⟩
  .obtain⟨tk,rfl⟩:=hu
   exact(oj (.str ⟨#[z.cps[i]]⟩) ⟨tk,rfl⟩ s.heap.objs.size (z.cps[i]) ⟨Iv.hok.fresh (am _),rfl,rfl,by simp[hi]⟩)
  .exact aqy st (c:=z.cps[i]) (by simp[hi]) λg st' sb=>q _ g _ ⟨_,rfl⟩ st' sb
 .subst hP hw hK
  have hi:z.cps.size<=i:=by simpa [Jes]using hg
  exact ahk hh st (by simp;omega) q
section
variable{X:Cx}{elts:List Expr}{x1:Nat}{tpos p pos:Pos}{a:Expr}{ta:TA}
def axc(K:ai)(ta:TA):TI:=λσ H R=>ta σ H λvs H1=>∃a,vs=[.ref a]/\(∃xs,SqT K H1 a xs)/\R (Jet K a) H1
def ax4(ta:TA):TI:=λσ H R=>ta σ H λvs H1=>∃z:Str,vs=[.str z]/\(∀c∈z.cps.toList,c<128)/\R (Jes z) H1
theorem akv(hg:Gl X "enumerate")(hm:X.mg "enumerate" = none)(ha:PA X [a] ta)(hs:qa a=true:=by rfl):PI X (.Tuple elts x1 tpos) (.Call (.Name "enumerate" p) [a] [] pos) (axc X.K ta):=by
 intro pins s σ H R I h
 refine Call_ (uq I hg hm boot_enumerate (ge (thn (ha pos pins s σ H _ I h) λus s1 ⟨vs,H1,I1,r1,q1⟩=>?_) (o5 hs) rfl))
 obtain⟨b,e,⟨xs,hq⟩,q⟩:=q1
 subst e
 obtain⟨u,rfl,ru⟩:=sy r1
 cases (show u=Value.ref b from ru)
 obtain⟨its,rv,pl,hz⟩:=I1.tuple hq
 refine agy (show s1.heap.IsTuple b its.toArray from pl) λg he hi kp=>wpAny_pyIter_enum (s:={s1 with heap:=g}) he ?_
 refine(l9 (s1.heap.objs.size+1) ([s1.heap.objs.size+1,s1.heap.objs.size]) _ _ H1 ⟨rfl,I1.kept (t':=s1.toks) kp,ahe b (s1.heap.objs.size+1) s1.heap.objs.size (Nat.succ_ne_self _),⟨⟨_,he⟩,hi⟩,λc hc=>?_,q⟩)
 rcases bq.mp hc with z|z
 .subst z;exact I1.fpOk (by omega) (I1.hok.fresh (by omega))
 .rw[ao.mp z];exact I1.fpOk (am _) (I1.hok.fresh (am _))
theorem ara(hg:Gl X "enumerate")(hm:X.mg "enumerate" = none)(ha:PA X [a] ta)(hs:qa a=true:=by rfl):PI X (.Tuple elts x1 tpos) (.Call (.Name "enumerate" p) [a] [] pos) (ax4 ta):=by
 intro pins s σ H R I h
 refine Call_ (uq I hg hm boot_enumerate (ge (thn (ha pos pins s σ H _ I h) λus s1 ⟨vs,H1,I1,r1,q1⟩=>?_) (o5 hs) rfl))
 obtain⟨z,e,hz,q⟩:=q1
 subst e
 obtain⟨u,rfl,t,rfl⟩:=sy r1
 have asc:strIterType z="str_ascii_iterator":=by
  unfold strIterType
  rw[if_pos]
  rw[Array.all_eq_true']
  intro c hc
  simpa using hz c (by simpa using hc)
 refine call_enumerate_str λg he hi _ kp=>wpAny_pyIter_enum (s:={s1 with heap:=g}) he ?_
 rw[asc]at hi
 refine(l9 (s1.heap.objs.size+1) ([s1.heap.objs.size+1,s1.heap.objs.size]) _ _ H1 ⟨rfl,I1.kept (t':=s1.toks) kp,ahc z t (s1.heap.objs.size+1) s1.heap.objs.size (Nat.succ_ne_self _),⟨⟨_,he⟩,hi⟩,λc hc=>?_,q⟩)
 rcases bq.mp hc with z|z
 .subst z;exact I1.fpOk (by omega) (I1.hok.fresh (by omega))
 .rw[ao.mp z];exact I1.fpOk (am _) (I1.hok.fresh (am _))
end
theorem aer(J:It)(n:Nat){g:TG}{tb:TS}{D:ahi}{σ:L2.St}{H:Hp}(Pv:Nat->L2.St->Hp->Prop)(h0:Pv 0 σ H)(hgo:∀i σ H,i<n->Pv i σ H->J.go i H)(hst:∀σ H,Pv n σ H->J.stop n H)
  (hs:∀i v σ H H',i<n->Pv i σ H->J.yld i H v H'->g v σ H' λσ2 H2=>tb {D with nx:=Pv (i+1),ct:=Pv (i+1),bk:=D.nx} σ2 H2) (hd:∀σ H,Pv n σ H->D.nx σ H) :
  ∃W:Nat->Nat->L2.St->Hp->Prop,(∃m,W 0 m σ H)/\∀i m σ H,W i m σ H->
   (J.stop i H/\D.nx σ H)\/(J.go i H/\∃N:L2.St->Hp->Prop,(∀σ' H',N σ' H'->∃m',m'<m/\W (i+1) m' σ' H')/\∀v H',J.yld i H v H'->g v σ H' λσ2 H2=>tb {D with nx:=N,ct:=N,bk:=D.nx} σ2 H2):=by
 refine⟨λi m σ H=>m=n-i/\i<=n/\Pv i σ H,⟨n,by simp,dq _,h0⟩,?_⟩
 rintro i m σ H ⟨rfl,hi,p⟩
 by_cases hlt:i<n
 .exact .inr ⟨hgo i σ H hlt p,Pv (i+1),λσ' H' p'=>⟨n-(i+1),by omega,rfl,hlt,p'⟩,λv H' y=>hs i v σ H H' hlt p y⟩
 .have e:i=n:=by omega
  subst e
  exact .inl ⟨hst σ H p,hd σ H p⟩
theorem afg{K:ai}{a:Addr}{xs:List V}{g:TG}{tb:TS}{D:ahi}{σ:L2.St}{H:Hp}(Pv:Nat->L2.St->Hp->Prop)(h0:Pv 0 σ H)(hl:∀i σ H,Pv i σ H->SqT K H a xs)
  (hs:∀i x p σ H,xs[i]?=some x->H p=none->Pv i σ H->g (.ref p) σ (upd H p (.tup [.int (i:Nat),x])) λσ2 H2=>tb {D with nx:=Pv (i+1),ct:=Pv (i+1),bk:=D.nx} σ2 H2) (hd:∀σ H,Pv xs.length σ H->D.nx σ H) :
  ∃W:Nat->Nat->L2.St->Hp->Prop,(∃m,W 0 m σ H)/\∀i m σ H,W i m σ H->
   ((Jet K a).stop i H/\D.nx σ H)\/((Jet K a).go i H/\∃N:L2.St->Hp->Prop,(∀σ' H',N σ' H'->∃m',m'<m/\W (i+1) m' σ' H')/\∀v H',(Jet K a).yld i H v H'->g v σ H' λσ2 H2=>tb {D with nx:=N,ct:=N,bk:=D.nx} σ2 H2):=by
 refine aer (Jet K a) xs.length Pv h0 (λi σ H hi p=>(mw xs (xs[i]) ⟨hl i σ H p,by simp[hi]⟩)) (λσ H p=>⟨xs,hl _ σ H p,am _⟩) (λi v σ H H' hi p y=>?_) hd
 obtain⟨b,x,hb,rfl,rfl,hx⟩:=y
 exact hs i x b σ H (hx xs (hl i σ H p)) hb p
theorem aor{z:Str}{g:TG}{tb:TS}{D:ahi}{σ:L2.St}{H:Hp}(Pv:Nat->L2.St->Hp->Prop)(h0:Pv 0 σ H)
  (hs:∀i c p σ H,z.cps.toList[i]?=some c->H p=none->Pv i σ H->g (.ref p) σ (upd H p (.tup [.int (i:Nat),.str ⟨#[c]⟩])) λσ2 H2=>tb {D with nx:=Pv (i+1),ct:=Pv (i+1),bk:=D.nx} σ2 H2) (hd:∀σ H,Pv z.cps.toList.length σ H->D.nx σ H) :
  ∃W:Nat->Nat->L2.St->Hp->Prop,(∃m,W 0 m σ H)/\∀i m σ H,W i m σ H->
   ((Jes z).stop i H/\D.nx σ H)\/((Jes z).go i H/\∃N:L2.St->Hp->Prop,(∀σ' H',N σ' H'->∃m',m'<m/\W (i+1) m' σ' H')/\∀v H',(Jes z).yld i H v H'->g v σ H' λσ2 H2=>tb {D with nx:=N,ct:=N,bk:=D.nx} σ2 H2):=by
 refine aer (Jes z) z.cps.toList.length Pv h0 (λi σ H hi p=>hi) (λσ H p=>am _) (λi v σ H H' hi p y=>?_) hd
 obtain⟨b,c,hb,rfl,rfl,hc⟩:=y
 exact hs i c b σ H hc hb p
theorem aqm{c:Nat}(h:c<128):Txt.upper ⟨#[c]⟩=⟨#[up1 c]⟩:=by
 rw[upper_ascii (λd hd=>by have e:d=c:=by simpa using hd
                           omega)]
 simp
section
variable{X:Cx}
theorem ali:MtR X "str.upper" (λx vs H Q=>∃c:Nat,x=.str ⟨#[c]⟩/\vs=[]/\c<128/\Q (.str ⟨#[up1 c]⟩) H):=by
 intro pins s σ H x vs v us Q I rx rv h
 obtain⟨c,rfl,rfl,hc,q⟩:=h
 obtain⟨t,rfl⟩:=rx
 have hus:=rv.zero
 subst hus
 refine SC.upper (fit_upper (by show 1<=5592405;omega)) (mw (.str _) H ⟨I.tok _,⟨_,rfl⟩,?_⟩)
 rw[aqm hc]
 exact q
end
end L3
namespace L2
open PySem PySem.Spec PyProof.Rows
section
variable{κ:Type}[DecidableEq κ]
theorem RelO.isSome_eq{o:Option V}{u:Option Value}(r:RelO o u):o.isSome=u.isSome:=by
 cases o with
 | none=>cases u with
  | none=>rfl
  | some _=>exact(show False from r).elim
 | some _=>cases u with
  | none=>exact(show False from r).elim
  | some _=>rfl
end
section
variable{X:Cx}{pins:List (Addr×Obj)}{σ:St}{H:Hp}{s:Shared}{a:Addr}{y v:V}{u r:Value}{o:Option V}{A:Around}{E:Value->Shared->Prop}
theorem Inv.big(I:Inv X pins σ H s):sysModules<s.heap.objs.size:=by
 have h:mainGlobals<s.heap.objs.size:=(I.mod.glob.keeps I.bk).lt
 exact Nat.lt_trans (by decide) h
theorem anw{h':Heap}{t':Nat}{ob:HO}(I:Inv X pins σ H s)(mu:Mut (H a))(hs:bw a s.heap h')(he:∃q,h'.get? a=some q)(new:ObjOk X.prog X.w (upd H a ob) h' a ob) :
  Inv X pins σ (upd H a ob) {s with heap:=h',toks:=t'}:=
 I.write (x:=a) (e:=a) mu (.inl rfl) (λb q hb z=>(hs.2 b hb).trans z) he new
end
def avb(i:Expr):Prop:=∀ov iv,subscripted i false ov iv=operate [ov,iv] (getItem ov iv)
theorem apn{prog:Program}{w:World}{A:Around}{E:Value->Shared->Prop}{s:Shared}{env:Env}{value slice:Expr}{pos:Pos}{T id:String}{Q:Value->Shared->Prop}
  (hl:typeLookup (.type T) "__getitem__" = pure (some (.builtin id))) (hs:avb slice)
  (h:wpAny (model prog w) A (eval value env) (λo s₁=>wpAny (model prog w) A (eval slice env) (λi s₂=>s₂.TypeIs o T/\wpAny (model prog w) A (getItem o i) Q E s₂) E s₁) E s) :
  wpAny (model prog w) A (eval (.Subscript value slice pos) env) Q E s:=by
 refine Subscript_ (iz h (λo s₁ h₁=>iz h₁ (λi s₂ h₂=>?_) λ_ _ x=>x) λ_ _ x=>x)
 obtain⟨hT,h₂⟩:=h₂
 unfold subscriptTail
 refine aa ?_
 rw[getitemInPython_of_ne hT.not_modules]
 refine aa (j5 hT hl ?_)
 have fin:wpAny (model prog w) A (subscripted slice false o i) (λr s₃=>wpAny (model prog w) A (letTemporaryGo value o r >>= λ_=>pure r) Q E s₃) E s₂:=by
  rw[hs o i]
  exact wpAny_operating (iz h₂ (λr s₃ h₃=>aa (wpAny_letTemporaryGo (af h₃))) λ_ _ x=>x)
 first
  | exact af (aa fin)
  | exact aa (af (aa fin))
  | exact aa fin
end L2
namespace L3
open PySem
open AutoSeq1 (wpAny_loadPart')
end L3
namespace L3
open PySem PySem.Spec PyProof.Rows L2
end L3
namespace L3
structure Mat where
 h:Nat
 w:Nat
 g:Nat->Nat->Nat
noncomputable def qm(M:Mat)(r:Nat):List Nat:=(b9 M.w).map (M.g r)
structure OkM(P:Nat->Prop)(M:Mat):Prop where
 h1:0<M.h
 h8:M.h<=8
 w1:0<M.w
 w8:M.w<=8
 sg:∀r c,r<M.h->c<M.w->P (M.g r c)
end L3
namespace L3
open PySem PySem.W PySem.Calls PyProof.Rows
theorem ajw{vs:List Value}{p:Keyed}(h:p∈(vs.toArray.zip vs.toArray).toList):p.1=p.2/\p.1∈vs:=mem_zip_self (by simpa using h)
theorem aml{vs:List Value}{arr:Array Keyed}(h:arr.Perm (vs.toArray.zip vs.toArray)):(arr.map (·.2)).toList.Perm vs:=by
 have h1:=(jl.mp h).map (·.2)
 have e:(vs.toArray.zip vs.toArray).toList.map (·.2)=vs:=by
  rw[show(vs.toArray.zip vs.toArray).toList=vs.zip vs by simp]
  exact List.map_snd_zip (am _)
 rw[e]at h1
 rw[Array.toList_map]
 exact h1
theorem arm{g:Value->Int}{vs:List Value}{arr:Array Keyed}(h:arr.Perm (vs.toArray.zip vs.toArray))(hs:Seg (λp=>g p.1) arr 0 (vs.toArray.zip vs.toArray).size):(arr.map (·.2)).toList.Pairwise λx y=>g x<=g y:=by
 have hsz:=h.size_eq
 rw[Array.toList_map,gn]
 refine List.pairwise_iff_getElem.mpr λi j hi hj hij=>?_
 have hi':i<arr.size:=by simpa using hi
 have hj':j<arr.size:=by simpa using hj
 have q:=hs i j (dq _) (by omega) (by omega)
 rw[ug (getElem?_pos arr i hi'),ug (getElem?_pos arr j hj')]at q
 have two:∀k (hk:k<arr.size),arr[k].1=arr[k].2:=λk hk=>(ajw ((jl.mp h).mem_iff.mp (by simp))).1
 rw[two i hi',two j hj']at q
 simpa using q
section
variable{prog:Program}{w:World}{A:Around}{E:Value->Shared->Prop}{s:Shared}
theorem vt{a:Addr}{vs:List Value}{n:Nat}{κ:SortKind}{g:Value->Int}{P:PySem.Fin->Shared->Prop}(ho:s.heap.get? a=some (seqObj "list" vs.toArray n))(hz:vs.length<=sizeLine)
  (hk:2<=vs.length->∀s':Shared,(∀b o,b≠a->s.heap.get? b=some o->s'.heap.get? b=some o)->
   (∀(Q:SortKind->Shared->Prop)(E:Value->Shared->Prop),Q κ s'->wpAny (model prog w) A (keyKind' vs.toArray) Q E s')/\
   ∀x y,x∈vs->y∈vs->∀(Q:Bool->Shared->Prop),Q (decide (g x<g y)) s'->wpAny (model prog w) A (keyLt' κ x y) Q (λ_ _=>False) s')
  (h:∀us:List Value,us.Perm vs->us.Pairwise (λx y=>g x<=g y)->P (.done (.ret .none)) {s with heap:=sortedHeap s.heap a vs us.toArray}) :
  wpAny (model prog w) A (Builtin.«list.sort» ⟨[.ref a],[]⟩) P E s:=by
 have ha:a<s.heap.objs.size:=bn ho
 obtain⟨e1,ho1⟩:∃e1,(s.heap.update a (g8 λ_=>(#[]:Array Value))).get? a=some (seqObj "list" #[] e1):=⟨_,get?_update_seq ho λ_=>#[]⟩
 have ho6:(((s.heap.update a (g8 λ_=>(#[]:Array Value))).push (seqObj "tuple" vs.toArray 0)).push (seqObj "list" #[] 0)).get? a=some (seqObj "list" #[] e1):=
  ak _ (ak _ ho1)
 have kept:∀b o,b≠a->s.heap.get? b=some o->(((s.heap.update a (g8 λ_=>(#[]:Array Value))).push (seqObj "tuple" vs.toArray 0)).push (seqObj "list" #[] 0)).get? b=some o:=λb o hb e=>
  ak _ (ak _ ((c8 s.heap _ (Ne.symm hb)).trans e))
 rw[list_sort_plain]
 refine aa (listItems_at ho rfl ?_)
 refine aa (listUpdate_at ho rfl ?_ (by rw[ay];exact hz) (dq _))
 refine aa (seqEpoch_at ho1 rfl ?_)
 refine aa (wpAny_newTuple ?_ (by show vs.length<=_;exact hz))
 refine aa (wpAny_newList ?_ (dq _))
 refine fk ?_
 show wpAny (model prog w) A _ P E {s with heap:=((s.heap.update a (g8 λ_=>(#[]:Array Value))).push (seqObj "tuple" vs.toArray 0)).push (seqObj "list" #[] 0)}
 dsimp only
 have rest:∀(st':SortSt),(arrOf st').Perm (vs.toArray.zip vs.toArray)->failedOf st'=none->Seg (λp=>g p.1) (arrOf st') 0 (vs.toArray.zip vs.toArray).size->∃us:List Value,us.Perm vs/\us.Pairwise (λx y=>g x<=g y)/\(arrOf st').map (·.2)=us.toArray:=λst' hp hf hs=>
  ⟨_,aml hp,arm hp hs,Array.toArray_toList.symm⟩
 by_cases h2:vs.toArray.size<2
 .have h2':vs.length<2:=by simpa using h2
  rw[if_pos h2,if_pos h2]
  refine aa (af ?_)
  rw[StateT.run_pure]
  refine aa (af ?_)
  dsimp only
  obtain⟨us,u1,u2,e0⟩:=rest (SortSt.mk' general' (vs.toArray.zip vs.toArray) #[] 7 none) (Array.Perm.refl _) rfl (λi j hi hij hj=>by
   have hz2:(vs.toArray.zip vs.toArray).size=vs.length:=by simp
   obtain rfl:i=j:=by omega
   exact ji _)
  have hul:=u1.length_eq
  rw[e0]
  refine aa (seqEpoch_at ho6 rfl ?_)
  refine aa (listUpdate_at ho6 rfl ?_ (dq _) (by rw[ay,hul];exact gp hz))
  simp only[bne_self_eq_false,az,if_false]
  exact af (h us u1 u2)
 .have h2':2<=vs.length:=by have:¬vs.length<2:=by simpa using h2
                            omega
  rw[if_neg h2,if_neg h2]
  obtain⟨k1,k2⟩:=hk h2' {s with heap:=((s.heap.update a (g8 λ_=>(#[]:Array Value))).push (seqObj "tuple" vs.toArray 0)).push (seqObj "list" #[] 0)} kept
  refine aa (k1 _ _ ?_)
  refine aa (iz (aey (E:=E) (κ:=κ) (a₀:=vs.toArray.zip vs.toArray) (f:=λp=>g p.1) (mem:=λp=>p.1∈vs) (Q:=λ_ st'=>∃us:List Value,us.Perm vs/\us.Pairwise (λx y=>g x<=g y)/\(arrOf st').map (·.2)=us.toArray/\failedOf st'=none)
   (λx y hx hy Q hq=>k2 x.1 y.1 hx hy Q hq) (λx hx=>(ajw hx).2) ⟨Array.Perm.refl _,rfl,rfl⟩ rfl (λst' B hs=>?_)) ?_ λ_ _ e=>e)
  .obtain⟨us,u1,u2,e0⟩:=rest st' B.perm B.failed hs
   exact⟨us,u1,u2,e0,B.failed⟩
  .rintro⟨⟨⟩,st'⟩ s' ⟨rfl,us,u1,u2,hout,hf⟩
   have hul:=u1.length_eq
   dsimp only at hout hf⊢
   rw[hout]
   refine aa (seqEpoch_at ho6 rfl ?_)
   refine aa (listUpdate_at ho6 rfl ?_ (dq _) (by rw[ay,hul];exact gp hz))
   rw[hf]
   simp only[bne_self_eq_false,az,if_false]
   exact af (h us u1 u2)
theorem aha{l:Addr}{vs:List Value}{κ:SortKind}{g:Value->Int}{Q:Value->Shared->Prop}(hl:s.heap.IsList l vs.toArray)(hz:vs.length<=sizeLine)
  (hk:2<=vs.length->∀s':Shared,(∀b o,s.heap.get? b=some o->s'.heap.get? b=some o)->
   (∀(Q:SortKind->Shared->Prop)(E:Value->Shared->Prop),Q κ s'->wpAny (model prog w) A.in1.in1 (keyKind' vs.toArray) Q E s')/\
   ∀x y,x∈vs->y∈vs->∀(Q:Bool->Shared->Prop),Q (decide (g x<g y)) s'->wpAny (model prog w) A.in1.in1 (keyLt' κ x y) Q (λ_ _=>False) s')
  (h:∀us:List Value,us.Perm vs->us.Pairwise (λx y=>g x<=g y)->Q (.ref (s.heap.objs.size+1)) {s with heap:=sortedAll s.heap vs us.toArray}) :
  wpAny (model prog w) A (call (.builtin "sorted") [.ref l]) Q E s:=by
 refine Calls.call_function_entry kind_sorted plain_sorted entry_sorted (args_sorted1 _) ?_
 unfold Builtin.«sorted»
 refine aa (m:=checkCount "sorted" 1 1 _) (af ?_)
 refine aa (collect_list hl ?_ hz)
 refine aa (wpAny_newList ?_ hz)
 have hsz:((s.heap.push (seqObj "list" #[] 0)).update s.heap.objs.size (g8 (· ++ vs.toArray))).objs.size=s.heap.objs.size+1:=by
  rw[Heap.size_update,size_push']
 have hoL:(((s.heap.push (seqObj "list" #[] 0)).update s.heap.objs.size (g8 (· ++ vs.toArray))).push (seqObj "list" vs.toArray 0)).get? (s.heap.objs.size+1)=some (seqObj "list" vs.toArray 0):=by
  rw[<-hsz];exact av _ rfl
 have keep:∀b o,s.heap.get? b=some o->(((s.heap.push (seqObj "list" #[] 0)).update s.heap.objs.size (g8 (· ++ vs.toArray))).push (seqObj "list" vs.toArray 0)).get? b=some o:=λb o q=>by
  have hlt:b<s.heap.objs.size:=bn q
  exact ak _ ((c8 _ _ (Ne.symm (c9 hlt))).trans (ak _ q))
 show wpAny _ _ _ _ _ {s with heap:=((s.heap.push (seqObj "list" #[] 0)).update s.heap.objs.size (g8 (· ++ vs.toArray))).push (seqObj "list" vs.toArray 0)}
 rw[hsz]
 refine aa (fk (cf slot_list_sort ⟨_,hoL,rfl⟩ entry_list_sort ?body (args_list_sort _)))
 case body=>
  refine vt (κ:=κ) (g:=g) hoL hz (λh2 s' k=>hk h2 s' λb o e=>k b o (c9 (Nat.lt_succ_of_lt (bn e))) (keep b o e)) λus u1 u2=>?_
  exact⟨_,rfl,af ⟨_,rfl,h us u1 u2⟩⟩
end
end L3
namespace L3
open PySem PySem.Spec PyProof.Rows L2
theorem ade{α β:Type}(g:α->β){us vs:List β}(p:us.Perm vs):∀{l:List α},l.map g=vs->∃l':List α,l'.Perm l/\l'.map g=us:=by
 induction p with
 | nil=>intro l e;exact⟨l,List.Perm.refl _,e⟩
 | cons x p ih=>
  intro l e
  match l,e with
  | a::l,e=>
   rw[c5]at e
   obtain⟨e1,e2⟩:=List.cons.inj e
   obtain⟨l',p1,e3⟩:=ih e2
   exact⟨a::l',p1.cons a,by rw[c5,e1,e3]⟩
 | swap x y r=>
  intro l e
  match l,e with
  | a::b::l,e=>
   rw[c5,c5]at e
   obtain⟨e1,e'⟩:=List.cons.inj e
   obtain⟨e2,e3⟩:=List.cons.inj e'
   exact⟨b::a::l,List.Perm.swap _ _ _,by rw[c5,c5,e1,e2,e3]⟩
 | trans p q ih1 ih2=>
  intro l e
  obtain⟨l1,p1,e1⟩:=ih2 e
  obtain⟨l2,p2,e2⟩:=ih1 e1
  exact⟨l2,p2.trans p1,e2⟩
theorem aah{α:Type}{p q:α->Bool}:∀{l:List α},(∀e∈l,p e=true->q e=true)->(∃e∈l,q e=true/\p e=false)->l.countP p<l.countP q
 | [],_,⟨e,he,_⟩=>by simp at he
 | a::l,h,⟨e,he,h1,h2⟩=>by
  have hl:∀e∈l,p e=true->q e=true:=λe he=>h e (bf _ he)
  have mono:l.countP p<=l.countP q:=List.countP_mono_left hl
  rcases bq.mp he with rfl|he
  .rw[List.countP_cons_of_neg (by simp[h2]),List.countP_cons_of_pos h1]
   omega
  .have ih:=aah hl ⟨e,he,h1,h2⟩
   cases hp:p a with
   | true=>rw[List.countP_cons_of_pos hp,List.countP_cons_of_pos (h a bj hp)];omega
   | false=>
    rw[List.countP_cons_of_neg (by simp[hp])]
    have:=List.countP_le_length (p:=q) (l:=l)
    cases hq:q a with
    | true=>rw[List.countP_cons_of_pos hq];omega
    | false=>rw[List.countP_cons_of_neg (by simp[hq])];exact ih
structure anh(lt:PyData->PyData->Bool)(ds:List PyData):Prop where
 asy:∀x∈ds,∀y∈ds,lt x y=true->lt y x=false
 tr:∀x∈ds,∀y∈ds,∀z∈ds,lt y x=false->lt z y=false->lt z x=false
noncomputable def abz(lt:PyData->PyData->Bool)(ds:List PyData)(d:PyData):Int:=((ds.countP λe=>lt e d:Nat):Int)
theorem ab6{lt:PyData->PyData->Bool}{ds:List PyData}(o:anh lt ds){d e:PyData}(hd:d∈ds)(he:e∈ds):decide (abz lt ds d<abz lt ds e)=lt d e:=by
 have irr:∀x∈ds,lt x x=false:=λx hx=>by
  cases q:lt x x with
  | false=>rfl
  | true=>have:=o.asy x hx x hx q;rw[q]at this;exact this
 unfold abz
 cases h:lt d e with
 | true=>
  refine decide_eq_true ?_
  have:=aah (p:=λz=>lt z d) (q:=λz=>lt z e) (l:=ds) (λz hz h1=>?_) ⟨d,hd,h,irr d hd⟩
  .omega
  .show lt z e=true
   cases q:lt z e with
   | true=>rfl
   | false=>rw[o.tr d hd e he z hz (o.asy d hd e he h) q]at h1;exact h1
 | false=>
  refine decide_eq_false ?_
  have:=List.countP_mono_left (p:=λz=>lt z e) (q:=λz=>lt z d) (l:=ds) λz hz h1=>?_
  .omega
  .show lt z d=true
   cases q:lt z d with
   | true=>rfl
   | false=>rw[o.tr e he d hd z hz h q]at h1;exact h1
theorem aaw{α:Type}{H:Hp}{f:α->PyData}{g:α->V}:∀{l:List α},(∀t∈l,Rep H (f t) (g t))->RepAll H (l.map f) (l.map g)
 | [],_=>rfl
 | t::l,h=>(mw _ _ ⟨rfl,h t bj,aaw λt ht=>h t (bf _ ht)⟩)
theorem afs{α:Type}{f:α->V}{g:α->Value}:∀{l:List α},(∀t∈l,RelV (f t) (g t))->Vals (l.map f) (l.map g)
 | [],_=>.nil
 | t::l,h=>.cons (h t bj) (afs λt ht=>h t (bf _ ht))
section
variable{X:Cx}{pins:List (Addr×Obj)}{σ:L2.St}{H:Hp}{s:Shared}{A:Around}{E:Value->Shared->Prop}
open Classical in
theorem aam(I:Inv X pins σ H s){p:Addr}{ds:List PyData}{xs:List V}{its:List Value}{κ:SortKind}{lt:PyData->PyData->Bool}{Q:V->Hp->Prop}(hp:H p=some (.lst xs))(hds:RepAll H ds xs)(rv:Vals xs its)(pl:s.heap.IsList p its.toArray)(hz:xs.length<=sizeLine)(o:anh lt ds)
  (hk:2<=its.length->∀s':Shared,(∀b o,s.heap.get? b=some o->s'.heap.get? b=some o)->∀(Q:SortKind->Shared->Prop)(E:Value->Shared->Prop),Q κ s'->wpAny (model X.prog X.w) A.in1.in1 (keyKind' its.toArray) Q E s')
  (hc:∀s':Shared,(∀b o,s.heap.get? b=some o->s'.heap.get? b=some o)->∀(i j:Nat)(d e:PyData)(u v:Value),ds[i]?=some d->its[i]?=some u->ds[j]?=some e->its[j]?=some v->∀(Q:Bool->Shared->Prop),Q (lt d e) s'->wpAny (model X.prog X.w) A.in1.in1 (keyLt' κ u v) Q (λ_ _=>False) s')
  (q:∀l ys es,H l=none->es.Perm ds->es.Pairwise (λx y=>lt y x=false)->RepAll (upd H l (.lst ys)) es ys->Q (.ref l) (upd H l (.lst ys))) :
  wpAny (model X.prog X.w) A (call (.builtin "sorted") [.ref p]) (λu s'=>∃v H',Inv X pins σ H' s'/\RelV v u/\Q v H') E s:=by
 have l1:xs.length=ds.length:=hds.length
 have l2:xs.length=its.length:=rv.length
 obtain⟨g,hg⟩:∃g:Value->Int,∀(i:Nat)(d:PyData)(u:Value),ds[i]?=some d->its[i]?=some u->g u=abz lt ds d:=by
  refine⟨λu=>if h:∃d,∃as,Reads s.heap u d as/\d∈ds then abz lt ds h.choose else 0,λi d u h1 h2=>?_⟩
  obtain⟨x,e1,r1⟩:=hds.get h1
  obtain⟨u',e2,r2⟩:=rv.get e1
  rw[h2]at e2;cases e2
  obtain⟨as,rd⟩:=r1.reads I r2
  have hx:∃d,∃as,Reads s.heap u d as/\d∈ds:=(mw d as ⟨rd,aq h1⟩)
  show(if h:∃d,∃as,Reads s.heap u d as/\d∈ds then abz lt ds h.choose else 0)=_
  rw[dif_pos hx]
  obtain⟨bs,rb,_⟩:=hx.choose_spec
  rw[SeqAt.Reads.unique d hx.choose u as bs r1.lay rd rb]
 refine aha (κ:=κ) (g:=g) pl (by omega) (λh2 s' k=>⟨hk h2 s' k,λx y hx hy Q' hq=>?_⟩) λus u1 u2=>?_
 .obtain⟨i,hi⟩:=cp.mp hx
  obtain⟨j,hj⟩:=cp.mp hy
  have hi':i<ds.length:=by have:=(ae.mp hi).1;omega
  have hj':j<ds.length:=by have:=(ae.mp hj).1;omega
  have di:=ab hi'
  have dj:=ab hj'
  rw[hg i _ x di hi,hg j _ y dj hj,ab6 o (dv hi') (dv hj')]at hq
  exact hc s' k i j _ _ x y di hi dj hj Q' hq
 .have third:(ds.zip (xs.zip its)).map (λt=>t.2.2)=its:=by
   have:(ds.zip (xs.zip its)).map (λt=>t.2.2)=((ds.zip (xs.zip its)).map Prod.snd).map Prod.snd:=by rw[cq];rfl
   rw[this,List.map_snd_zip (by rw[List.length_zip];omega),List.map_snd_zip (by omega)]
  have first:(ds.zip (xs.zip its)).map (λt=>t.1)=ds:=List.map_fst_zip (by rw[List.length_zip];omega)
  obtain⟨T,tp,te⟩:=ade (λt:PyData×V×Value=>t.2.2) u1 third
  have tm:∀t∈T,∃i:Nat,ds[i]?=some t.1/\xs[i]?=some t.2.1/\its[i]?=some t.2.2:=λt ht=>by
   obtain⟨i,hi⟩:=cp.mp (tp.mem_iff.mp ht)
   obtain⟨a1,a2⟩:=List.getElem?_zip_eq_some.mp hi
   obtain⟨a3,a4⟩:=List.getElem?_zip_eq_some.mp a2
   exact⟨i,a1,a3,a4⟩
  have tl:T.length=its.length:=by rw[tp.length_eq];have:=congrArg List.length third;simpa using this
  obtain⟨e,he⟩:=sortedAll_at s.heap its us.toArray
  have hn:H (s.heap.objs.size+1)=none:=I.hok.fresh (km _)
  have hv:Vals (T.map λt=>t.2.1) us:=by
   rw[<-te]
   exact afs λt ht=>by
    obtain⟨i,_,a2,a3⟩:=tm t ht
    obtain⟨u,b1,b2⟩:=rv.get a2
    rw[a3]at b1;cases b1
    exact b2
  have hz':(T.map λt=>t.2.1).length<=sizeLine:=by rw[ah];omega
  have hsame:Same H (upd H (s.heap.objs.size+1) (.lst (T.map λt=>t.2.1))):=λb o q=>by rw[nj (pf q hn)];exact q
  refine(mw (.ref (s.heap.objs.size+1)) _ ⟨I.laid (t':=s.toks) (o:=.lst (T.map λt=>t.2.1)) (λb u e=>sortedAll_old e) (km _) ⟨hz',(mw _ e ⟨hv,he⟩)⟩,rfl,q _ _ (T.map λt=>t.1) hn ?_ ?_ ?_⟩)
  .rw[<-first]
   exact tp.map _
  .rw[gn]
   have u3:=u2
   rw[<-te,gn]at u3
   refine j7 (λ{a b} ha hb hab=>?_) u3
   obtain⟨i,a1,_,a3⟩:=tm a ha
   obtain⟨j,b1,_,b3⟩:=tm b hb
   rw[hg i _ _ a1 a3,hg j _ _ b1 b3]at hab
   rw[<-ab6 o (aq b1) (aq a1)]
   exact decide_eq_false (by omega)
  .refine RepAll.same hsame (aaw λt ht=>?_)
   obtain⟨i,a1,a2,_⟩:=tm t ht
   obtain⟨x,b1,b2⟩:=hds.get a1
   rw[a2]at b1;cases b1
   exact b2
end
noncomputable def ltR(x y:PyData):Bool:=tz (aod x) (aod y)
theorem al5{ks:List Bool}{ds:List PyData}(h:Rows ks ds):anh ltR ds:=by
 have at':∀d∈ds,Row (true::ks) (aod d):=λd hd=>by
  obtain⟨r,e,hr⟩:=h d hd
  rw[e];exact hr
 exact⟨λx hx y hy q=>ak0 (at' x hx) (at' y hy) q,λx hx y hy z hz q1 q2=>ao2 (at' x hx) (at' y hy) (at' z hz) q1 q2⟩
section
variable{X:Cx}
theorem xo:sw X (.builtin "sorted") (λvs H Q=>∃p xs ds ks,vs=[.ref p]/\H p=some (.lst xs)/\RepAll H ds xs/\Rows ks ds/\
  ∀l ys es,H l=none->es.Perm ds->es.Pairwise (λx y=>ltR y x=false)->RepAll (upd H l (.lst ys)) es ys->Q (.ref l) (upd H l (.lst ys))):=by
 intro pins s σ H xs us Q I r h
 obtain⟨p,xs,ds,ks,rfl,hp,hds,hrows,q⟩:=h
 obtain⟨u,rfl,r1⟩:=sy r
 cases (show u=Value.ref p from r1)
 obtain⟨its,rv,pl,hz⟩:=I.list (SqL.of (K:=X.K) hp)
 have l1:xs.length=ds.length:=hds.length
 have l2:xs.length=its.length:=rv.length
 obtain⟨fs,kt,kf,ki⟩:=agu I hds rv hrows
 refine aam (κ:=tuples' true) (lt:=ltR) I hp hds rv pl.isList (by omega) (al5 hrows) (λh2 s' k Q' E' hq=>?_) (λs' k i j d e u v di ui dj vj Q' hq=>?_) q
 .refine PySem.W.kat_kind (T:=Value.type "int") (KatTups.keeps k kt) (by omega) (λv hv=>?_) rfl hq
  obtain⟨i,t,rfl⟩:=ki v hv
  exact PySem.W.Looks.of_pure rfl
 .have tup:∀(i:Nat)(d:PyData)(u:Value),ds[i]?=some d->its[i]?=some u->∃a o vs n bs row,u=.ref a/\d=.tuple row/\Row (true::ks) row/\s'.heap.get? a=some o/\o.data=.seq vs n/\ReadsAll s'.heap vs.toList row bs:=λi d u hd hu=>by
   obtain⟨x,e1,e2⟩:=hds.get hd
   obtain⟨u',e3,e4⟩:=rv.get e1
   rw[hu]at e3;cases e3
   obtain⟨row,e5,hrow⟩:=hrows _ (aq hd)
   obtain⟨a,o,vs,n,bs,_,_,rfl,g1,_,g3,g4,_⟩:=ank I e2 e4 e5 hrow
   exact(l9 a o vs n bs ⟨row,rfl,e5,hrow,k _ _ g1,g3,ReadsAll.keeps k g4⟩)
  obtain⟨a,o,vs,n,as1,row,rfl,rfl,e3,e4,e5,e6⟩:=tup i d u di ui
  obtain⟨a',o',vs',n',as2,row',rfl,rfl,f3,f4,f5,f6⟩:=tup j e v dj vj
  have hq':Q' (tz row row') s':=hq
  have z1:vs.size=ks.length+1:=by have q1:=jp _ _ _ e6;have q2:=e3.len;simp at q1 q2;omega
  have z2:vs'.size=ks.length+1:=by have q1:=jp _ _ _ f6;have q2:=f3.len;simp at q1 q2;omega
  refine PySem.W.kat_lt e4 e5 f4 f5 ?_
  rw[decide_eq_false (by omega)]
  exact acn e3 f3 e6 f6 hq'
end
noncomputable def ak4(M:Mat)(r c:Nat):PyData:=.tuple [.int (r:Nat),.int (c:Nat),.str ⟨#[M.g r c]⟩]
noncomputable def tf(M:Mat):List Str:=(b9 M.h).map λr=>⟨(qm M r).toArray⟩
theorem aba{w r c:Nat}(hc:c<w):(r*w+c)/w=r:=by
 rw[Nat.mul_comm,Nat.mul_add_div (by omega),Nat.div_eq_of_lt hc,Nat.add_zero]
theorem aas{w r c:Nat}(hc:c<w):(r*w+c) % w=c:=by
 rw[Nat.mul_comm,Nat.mul_add_mod,gy hc]
def SgP(c:Nat):Prop:=sgB c=true
theorem aiw{c:Nat}(h:SgP c):c<128:=by
 unfold SgP sgB at h
 simp at h
 omega
def FlM(H:Hp)(a:Addr)(M:Mat):Prop:=H a=some (.tup ((tf M).map V.str))/\OkM SgP M
theorem FlM.same{H H':Hp}{a:Addr}{M:Mat}(h:FlM H a M)(s:Same H H'):FlM H' a M:=⟨s _ _ h.1,h.2⟩
theorem rk(M:Mat):(tf M).length=M.h:=by unfold tf;simp
theorem afl{M:Mat}{r:Nat}(h:r<M.h):(tf M)[r]?=some ⟨(qm M r).toArray⟩:=by
 unfold tf
 rw[aw,jj h]
 rfl
theorem yk(M:Mat)(r:Nat):(qm M r).length=M.w:=by unfold qm;simp
theorem acb{M:Mat}{r c:Nat}(h:c<M.w):(qm M r)[c]?=some (M.g r c):=by
 unfold qm
 rw[aw,jj h]
 rfl
theorem aog{M:Mat}(o:OkM SgP M){r:Nat}(hr:r<M.h):∀c∈qm M r,SgP c:=λc hc=>by
 unfold qm at hc
 obtain⟨k,hk,rfl⟩:=bi.mp hc
 exact o.sg r k hr (by simpa using hk)
theorem amf{M:Mat}{z:Str}(h:z∈tf M):∃r,r<M.h/\z=⟨(qm M r).toArray⟩:=by
 unfold tf at h
 obtain⟨r,hr,rfl⟩:=bi.mp h
 exact⟨r,by simpa using hr,rfl⟩
end L3
namespace L3
open PySem
noncomputable def sm5:Nat->Nat
 | 0=>0
 | m+1=>5*sm5 m+1
noncomputable def g5(m i:Nat):Nat:=5^m*i+sm5 m
theorem afe(m i:Nat):g5 (m+1) i=5*g5 m i+1:=by
 show 5^(m+1)*i+(5*sm5 m+1)=5*(5^m*i+sm5 m)+1
 rw[kh,Nat.mul_add,Nat.mul_comm (5^m) 5,Nat.mul_assoc,jn]
theorem anc(m n i:Nat):g5 (m+n) i=g5 m (g5 n i):=by
 induction m with
 | zero=>rw[Nat.zero_add];unfold g5 sm5;simp
 | succ m ih=>rw[Nat.succ_add,afe,ih,afe]
theorem anx(m n:Nat):sm5 (m+n)=5^m*sm5 n+sm5 m:=by
 have h:=anc m n 0
 unfold g5 at h
 simpa using h
theorem af5:∀k,∃c d:Nat,5^(2^k)=1+2^(k+2)*c/\sm5 (2^k)=2^k*(2*d+1)
 | 0=>(mw 1 0 ⟨rfl,rfl⟩)
 | k+1=>by
  obtain⟨c,d,h1,h2⟩:=af5 k
  have e:2^(k+1)=2^k+2^k:=by rw[kh];omega
  refine(mw (c+2^(k+1)*c*c) (d+2^k*c*(2*d+1)) ⟨?_,?_⟩)
  .rw[e,Nat.pow_add,h1,show 2^(k+1+2)=8*2^k by rw[Nat.pow_add,Nat.pow_add];omega,show 2^(k+2)=4*2^k by rw[Nat.pow_add];omega]
   generalize 2^k=A
   grind
  .rw[e,anx,h1,h2,show 2^(k+2)=4*2^k by rw[Nat.pow_add];omega]
   generalize 2^k=A
   grind
theorem aps(k i:Nat):g5 (2^k) i % 2^(k+1)=(i+2^k) % 2^(k+1):=by
 obtain⟨c,d,h1,h2⟩:=af5 k
 unfold g5
 rw[h1,h2]
 have e3:2^(k+2)=2^(k+1)*2:=by rw[show k+2=(k+1)+1 by omega,kh]
 have e:(1+2^(k+2)*c)*i+2^k*(2*d+1)=(i+2^k)+2^(k+1)*(2*(c*i)+d):=by
  rw[e3,kh]
  generalize 2^k=A
  simp only[Nat.add_mul,Nat.mul_add,Nat.one_mul,Nat.mul_one,Nat.mul_assoc,Nat.mul_comm,Nat.mul_left_comm]
  omega
 rw[e,Nat.add_mul_mod_self_left]
theorem ah7:∀(k i j:Nat),∃m,m<2^k/\g5 m i % 2^k=j % 2^k
 | 0,i,j=>⟨0,by decide,by simp[Nat.mod_one]⟩
 | k+1,i,j=>by
  obtain⟨m,hm,e⟩:=ah7 k i j
  have e2:2^(k+1)=2*2^k:=by rw[kh];omega
  by_cases h:g5 m i % 2^(k+1)=j % 2^(k+1)
  .exact⟨m,by omega,h⟩
  .refine⟨2^k+m,by omega,?_⟩
   rw[anc,aps]
   have a:=Nat.mod_add_div (g5 m i) (2^(k+1))
   have l1:g5 m i % 2^(k+1)<2^(k+1):=Nat.mod_lt _ (by rw[e2];have:=Nat.two_pow_pos k;omega)
   have l2:j % 2^(k+1)<2^(k+1):=Nat.mod_lt _ (by rw[e2];have:=Nat.two_pow_pos k;omega)
   have m1:g5 m i % 2^(k+1) % 2^k=g5 m i % 2^k:=Nat.mod_mod_of_dvd _ ⟨2,by rw[e2];omega⟩
   have m2:j % 2^(k+1) % 2^k=j % 2^k:=Nat.mod_mod_of_dvd _ ⟨2,by rw[e2];omega⟩
   rw[Nat.add_mod,gy (show 2^k<2^(k+1) by have:=Nat.two_pow_pos k;omega)]
   generalize g5 m i % 2^(k+1)=x at *
   generalize j % 2^(k+1)=y at *
   rw[<-m1,<-m2]at e
   generalize 2^(k+1)=A at *
   generalize 2^k=B at *
   subst e2
   have hx:x % B=if x<B then x else x-B:=by
    split
    .exact gy (by assumption)
    .rw[Nat.mod_eq_sub_mod (by omega),gy (by omega)]
   have hy:y % B=if y<B then y else y-B:=by
    split
    .exact gy (by assumption)
    .rw[Nat.mod_eq_sub_mod (by omega),gy (by omega)]
   rw[hx,hy]at e
   have hz:(x+B) % (2*B)=if x+B<2*B then x+B else x+B-2*B:=by
    split
    .exact gy (by assumption)
    .rw[Nat.mod_eq_sub_mod (by omega),gy (by omega)]
   rw[hz]
   split at e<;>split at e<;>split<;>omega
open SetTable
noncomputable def itn{α:Type}(f:α->α):Nat->α->α
 | 0,x=>x
 | n+1,x=>itn f n (f x)
theorem rm{α:Type}(f:α->α):∀(m n:Nat)(x:α),itn f (m+n) x=itn f n (itn f m x)
 | 0,n,x=>by rw[Nat.zero_add];rfl
 | m+1,n,x=>by rw[Nat.succ_add];exact rm f m n (f x)
theorem abr{α:Type}(f:α->α)(n:Nat)(x:α):itn f (n+1) x=f (itn f n x):=by
 rw[rm f n 1 x];rfl
noncomputable def adv(mask:Nat)(p:Probe):Probe:=
 if p.more>0 then{p with j:=p.j+1,more:=p.more-1}else
 {p with j:=(leap mask p.i p.perturb).1,more:=runEnd mask (leap mask p.i p.perturb).1-(leap mask p.i p.perturb).1,i:=(leap mask p.i p.perturb).1,perturb:=(leap mask p.i p.perturb).2}
noncomputable def lp(mask:Nat)(x:Nat×Nat):Nat×Nat:=leap mask x.1 x.2
noncomputable def at0(mask:Nat)(x:Nat×Nat)(d:Option Nat):Probe:=⟨x.1,runEnd mask x.1-x.1,x.1,x.2,d⟩
theorem anf(mask i:Nat):runEnd mask i-i<=9:=by unfold runEnd;split<;>omega
theorem abw(mask:Nat):∀(m:Nat)(p:Probe),p.more=m->itn (adv mask) (m+1) p=at0 mask (lp mask (p.i,p.perturb)) p.dummy
 | 0,p,h=>by
  show adv mask p=_
  unfold adv
  rw[if_neg (by omega)]
  rfl
 | m+1,p,h=>by
  show itn (adv mask) (m+1) (adv mask p)=_
  have e:adv mask p={p with j:=p.j+1,more:=p.more-1}:=by unfold adv;rw[if_pos (by omega)]
  rw[e,abw mask m _ (by show p.more-1=m;omega)]
theorem apb(mask:Nat):∀(m:Nat)(x:Nat×Nat)(d:Option Nat),∃n,n<=10*m/\itn (adv mask) n (at0 mask x d)=at0 mask (itn (lp mask) m x) d
 | 0,x,d=>⟨0,am _,rfl⟩
 | m+1,x,d=>by
  have h:=abw mask _ (at0 mask x d) rfl
  obtain⟨n,hn,e⟩:=apb mask m (lp mask x) d
  refine⟨((at0 mask x d).more+1)+n,?_,?_⟩
  .have:(at0 mask x d).more<=9:=anf mask x.1
   omega
  .rw[rm,h]
   exact e
theorem zf(mask:Nat):∀(m:Nat)(x:Nat×Nat)(b:Nat),x.2<32^b->(itn (lp mask) m x).2<32^(b-m)
 | 0,x,b,h=>by simpa [itn]using h
 | m+1,x,b,h=>by
  have h':(lp mask x).2<32^(b-1):=by
   show x.2/32<32^(b-1)
   cases b with
   | zero=>simp at h;simp[h]
   | succ b=>
    rw[kh]at h
    simpa using Nat.div_lt_of_lt_mul (by omega)
  have:=zf mask m (lp mask x) (b-1) h'
  rw[show b-(m+1)=b-1-m by omega]
  exact this
theorem va{mask k:Nat}(hk:mask+1=2^k):∀(m i:Nat),i<2^k->itn (lp mask) m (i,0)=(g5 m i % 2^k,0)
 | 0,i,h=>by
  have e:g5 0 i=i:=by unfold g5 sm5;simp
  rw[e,gy h]
  rfl
 | m+1,i,h=>by
  rw[abr,va hk m i h]
  show((g5 m i % 2^k*5+1+0/32) % (mask+1),0/32)=_
  rw[hk,afe]
  have e:(g5 m i % 2^k*5+1+0/32) % 2^k=(5*g5 m i+1) % 2^k:=by
   rw[show 0/32=0 from rfl,Nat.add_zero,Nat.mul_comm,Nat.add_mod,Nat.mul_mod,Nat.mod_mod,<-Nat.mul_mod,<-Nat.add_mod]
  rw[e]
theorem anr{mask k:Nat}(hk:mask+1=2^k)(x:Nat×Nat):(lp mask x).1<2^k:=by
 show(x.1*5+1+x.2/32) % (mask+1)<2^k
 rw[hk]
 exact Nat.mod_lt _ (Nat.two_pow_pos k)
theorem asx{mask k:Nat}(hk:mask+1=2^k)(p:Probe)(hm:p.more<=9)(hp:p.perturb<2^64)(j:Nat)(hj:j<=mask):∃n,n<10*turns mask/\(itn (adv mask) n p).j=j:=by
 have h1:=abw mask p.more p rfl
 obtain⟨n2,hn2,e2⟩:=apb mask 12 (lp mask (p.i,p.perturb)) p.dummy
 have hz:(itn (lp mask) 12 (lp mask (p.i,p.perturb))).2<32^(13-13):=by
  have:=zf mask 13 (p.i,p.perturb) 13 (by show p.perturb<32^13;exact cw hp (by decide))
  exact this
 have hz0:(itn (lp mask) 12 (lp mask (p.i,p.perturb))).2=0:=by simpa using hz
 have hi:(itn (lp mask) 12 (lp mask (p.i,p.perturb))).1<2^k:=by
  rw[abr]
  exact anr hk _
 generalize itn (lp mask) 12 (lp mask (p.i,p.perturb))=y at *
 obtain⟨y1,y2⟩:=y
 simp only at hz0 hi
 subst hz0
 obtain⟨m,hm2,e3⟩:=ah7 k y1 j
 obtain⟨n3,hn3,e4⟩:=apb mask m (y1,0) p.dummy
 rw[va hk m y1 hi,e3,gy (by omega)]at e4
 refine⟨(p.more+1)+(n2+n3),?_,?_⟩
 .unfold turns
  omega
 .rw[rm,h1,rm,e2,e4]
  rfl
end L3
namespace L3
open PySem SetTable
def Low(xs:Array Nat)(j b:Nat):Prop:=b<=xs.size/\(∀i v,i<b->xs[i]?=some v->v<j)/\(∀i v,b<=i->xs[i]?=some v->j<=v)
theorem acf{xs:Array Nat}(h:xs.toList.Pairwise (· < ·)){i k v u:Nat}(hi:xs[i]?=some v)(hk:xs[k]?=some u)(hik:i<k):v<u:=by
 rw[<-bb]at hi hk
 obtain⟨h1,rfl⟩:=ae.mp hi
 obtain⟨h2,rfl⟩:=ae.mp hk
 exact List.pairwise_iff_getElem.mp h i k h1 h2 hik
theorem acm{xs:Array Nat}(h:xs.toList.Pairwise (· < ·))(j:Nat):∀(fuel lo hi:Nat),hi-lo<=fuel->lo<=hi->hi<=xs.size->(∀i v,i<lo->xs[i]?=some v->v<j)->(∀i v,hi<=i->xs[i]?=some v->j<=v)->
  Low xs j (below.go xs j fuel lo hi)
 | 0,lo,hi,h1,h2,h3,a,b=>by
  have e:lo=hi:=by omega
  subst e
  exact⟨h3,a,b⟩
 | fuel+1,lo,hi,h1,h2,h3,a,b=>by
  unfold below.go
  by_cases hlt:lo<hi
  .rw[if_pos hlt]
   have hm:(lo+hi)/2<xs.size:=by omega
   have e:xs.getD ((lo+hi)/2) j=xs[(lo+hi)/2]:=by simp[Array.getD,hm]
   have e':xs[(lo+hi)/2]?=some xs[(lo+hi)/2]:=by simp[hm]
   dsimp only
   rw[e]
   by_cases hc:xs[(lo+hi)/2]<j
   .rw[if_pos hc]
    refine acm h j fuel _ _ (by omega) (by omega) h3 (λi v hi' hv=>?_) b
    by_cases q:i=(lo+hi)/2
    .subst q;rw[e']at hv;cases hv;exact hc
    .have:=acf h hv e' (by omega)
     omega
   .rw[if_neg hc]
    refine acm h j fuel _ _ (by omega) (by omega) (by omega) a (λi v hi' hv=>?_)
    by_cases q:i=(lo+hi)/2
    .subst q;rw[e']at hv;cases hv;omega
    .have:=acf h e' hv (by omega)
     omega
  .rw[if_neg hlt]
   have e:lo=hi:=by omega
   subst e
   exact⟨h3,a,b⟩
theorem um{xs:Array Nat}(h:xs.toList.Pairwise (· < ·))(j:Nat):Low xs j (below xs j):=
 acm h j xs.size 0 xs.size (by omega) (by omega) (am _) (λi v hi=>by omega) (λi v hi hv=>by
  have:=(bm.mp hv).1
  omega)
theorem ack{xs:Array Nat}(h:xs.toList.Pairwise (· < ·)){i j:Nat}(hi:xs[i]?=some j):below xs j=i:=by
 obtain⟨a,b,c⟩:=um h j
 by_cases q:i<below xs j
 .have:=b i j q hi;omega
 by_cases q2:below xs j<i
 .have hl:=(bm.mp hi).1
  have e':xs[below xs j]?=some xs[below xs j]:=by simp
  have:=acf h e' hi q2
  have:=c _ _ (am _) e'
  omega
 .omega
theorem zg{t:SetTable}(h:t.place.toList.Pairwise (· < ·)){i j:Nat}(hi:t.place[i]?=some j):t.slot j=.live i:=by
 unfold slot
 rw[ack h hi]
 dsimp only
 rw[hi,if_pos (by simp)]
theorem aho{t:SetTable}(h:t.place.toList.Pairwise (· < ·))(hd:t.dummies=#[]){j:Nat}(hj:j∉t.place.toList):t.slot j=.empty:=by
 unfold slot
 dsimp only
 rw[if_neg,if_neg]
 .rw[hd];unfold has;simp
 .intro e
  have e':t.place[below t.place j]?=some j:=by simpa using e
  apply hj
  rw[<-bb]at e'
  exact aq e'
theorem alh{t:SetTable}{j:Nat}(hj:j∈t.place.toList):∃i:Nat,t.place[i]?=some j:=by
 obtain⟨i,h⟩:=cn hj
 exact⟨i,by rw[<-bb];exact h⟩
theorem p5{α:Type}(xs:Array α)(p:Nat)(x:α):(insertAt xs p x).toList=xs.toList.take p++x::xs.toList.drop p:=by
 unfold insertAt
 simp[Array.toList_extract]
 rw[a9 (by simp)]
theorem aeq{xs:Array Nat}(h:xs.toList.Pairwise (· < ·)){j:Nat}(hj:j∉xs.toList):(insertAt xs (below xs j) j).toList.Pairwise (· < ·):=by
 obtain⟨a,b,c⟩:=um h j
 rw[p5,dh]
 refine⟨h.sublist (jy _ _),?_,?_⟩
 .rw[List.pairwise_cons]
  refine⟨λv hv=>?_,h.sublist (List.drop_sublist _ _)⟩
  obtain⟨i,hi⟩:=cn hv
  rw[fq,bb]at hi
  have:=c _ v (by omega) hi
  have:v≠j:=λe=>hj (by rw[<-e];rw[<-bb]at hi;exact aq hi)
  omega
 .intro u hu v hv
  obtain⟨i,hi⟩:=cn hu
  have hi2:i<below xs j:=by
   have:=(ae.mp hi).1
   rw[b0]at this
   omega
  rw[dw hi2,bb]at hi
  have h1:=b i u hi2 hi
  rcases bq.mp hv with rfl|hv
  .exact h1
  .obtain⟨i',hi'⟩:=cn hv
   rw[fq,bb]at hi'
   have:=c _ v (by omega) hi'
   omega
def ap4(ps:List Nat)(es:List (Int×Value))(j:Nat)(e:Int×Value):Prop:=∃i:Nat,ps[i]?=some j/\es[i]?=some e
theorem aez{ps:List Nat}{es:List (Int×Value)}(hl:ps.length=es.length)(p j0:Nat)(hp:p<=ps.length)(e0:Int×Value){j:Nat}{e:Int×Value} :
  ap4 (ps.take p++j0::ps.drop p) (es.take p++e0::es.drop p) j e↔(j=j0/\e=e0)\/ap4 ps es j e:=by
 have l1:(ps.take p).length=p:=by rw[b0];omega
 have l2:(es.take p).length=p:=by rw[b0];omega
 constructor
 .rintro⟨i,h1,h2⟩
  by_cases hi:i<p
  .rw[cr (by omega),dw hi]at h1 h2
   exact .inr ⟨i,h1,h2⟩
  .rw[cb (by omega),l1]at h1
   rw[cb (by omega),l2]at h2
   cases hq:i-p with
   | zero=>rw[hq]at h1 h2;cases h1;cases h2;exact .inl ⟨rfl,rfl⟩
   | succ q=>
    rw[hq,List.getElem?_cons_succ,fq]at h1 h2
    exact .inr ⟨p+q,h1,h2⟩
 .rintro(⟨rfl,rfl⟩|⟨i,h1,h2⟩)
  .exact⟨p,by rw[cb (by omega),l1,ke];rfl,by rw[cb (by omega),l2,ke];rfl⟩
  .by_cases hi:i<p
   .exact⟨i,by rw[cr (by omega),dw hi];exact h1,by rw[cr (by omega),dw hi];exact h2⟩
   .refine⟨i+1,?_,?_⟩
    .rw[cb (by omega),l1,show i+1-p=(i-p)+1 by omega,List.getElem?_cons_succ,fq,show p+(i-p)=i by omega];exact h1
    .rw[cb (by omega),l2,show i+1-p=(i-p)+1 by omega,List.getElem?_cons_succ,fq,show p+(i-p)=i by omega];exact h2
noncomputable def st0(mask:Nat)(h:Int):Probe:=at0 mask (bits h % (mask+1),bits h) none
theorem ald(t:SetTable)(h:Int):t.probeStart h=st0 t.mask h:=rfl
noncomputable def qi(mask:Nat)(h:Int)(n:Nat):Nat:=(itn (adv mask) n (st0 mask h)).j
theorem afp(h:Int):bits h<2^64:=by unfold bits;omega
def ace(mask:Nat)(p:Probe):Prop:=p.more<=9/\p.perturb<2^64/\p.j+p.more<=mask
theorem adg(mask:Nat)(x:Nat×Nat)(d:Option Nat)(h1:x.1<=mask)(h2:x.2<2^64):ace mask (at0 mask x d):=by
 refine⟨anf mask x.1,h2,?_⟩
 show x.1+(runEnd mask x.1-x.1)<=mask
 unfold runEnd
 split<;>omega
theorem akr{mask:Nat}{p:Probe}(h:ace mask p):ace mask (adv mask p):=by
 obtain⟨h1,h2,h3⟩:=h
 unfold adv
 split
 .exact⟨by simp only;omega,h2,by simp only;omega⟩
 .refine adg mask (leap mask p.i p.perturb) p.dummy ?_ ?_
  .show(p.i*5+1+p.perturb/32) % (mask+1)<=mask
   have:=Nat.mod_lt (p.i*5+1+p.perturb/32) (show 0<mask+1 by omega)
   omega
  .show p.perturb/32<2^64
   omega
theorem aae{mask:Nat}:∀(n:Nat) {p:Probe},ace mask p->ace mask (itn (adv mask) n p)
 | 0,_,h=>h
 | n+1,_,h=>aae n (akr h)
theorem wl(mask:Nat)(h:Int):ace mask (st0 mask h):=adg mask _ _ (by
 have:=Nat.mod_lt (bits h) (show 0<mask+1 by omega)
 show bits h % (mask+1)<=mask
 omega) (afp h)
theorem an5(mask:Nat)(h:Int)(n:Nat):qi mask h n<=mask:=by
 have:=(aae n (wl mask h)).2.2
 unfold qi
 omega
structure TOk(t:SetTable)(es:Array (Int×Value)):Prop where
 two:∃k,t.mask+1=2^k/\3<=k/\k<=13/\k % 2=1
 dm:t.dummies=#[]
 rise:t.place.toList.Pairwise (· < ·)
 bd:∀j∈t.place.toList,j<=t.mask
 sz:t.place.size=es.size
 fit:t.place.size<=t.mask
 onroad:∀j e,ap4 t.place.toList es.toList j e->∃n,qi t.mask e.1 n=j/\∀n',n'<n->qi t.mask e.1 n'∈t.place.toList
theorem ani{ps:List Nat}{m:Nat}(h:ps.length<=m):∃j,j<=m/\j∉ps:=by
 apply f8
 intro hn
 have hall:∀j,j<=m->j∈ps:=λj hj=>f8 λq=>hn ⟨j,hj,q⟩
 have:=List.Nodup.length_le_of_subset (l₁:=b9 (m+1)) (l₂:=ps) List.nodup_range (λj hj=>hall j (by have:=fg.mp hj;omega))
 rw[f9]at this
 omega
theorem ajs{t:SetTable}{es:Array (Int×Value)}(ok:TOk t es)(hashAt:Nat->Int)(h:Int):∀(fuel:Nat)(p:Probe),(∃n,n<fuel/\(itn (adv t.mask) n p).j∉t.place.toList)->
  (∃n,probe.go t hashAt h fuel p=some (.empty (itn (adv t.mask) n p).j p.dummy)/\(itn (adv t.mask) n p).j∉t.place.toList/\∀n',n'<n->∃i:Nat,t.place[i]?=some (itn (adv t.mask) n' p).j/\hashAt i≠h)\/
  (∃n i,probe.go t hashAt h fuel p=some (.candidate (itn (adv t.mask) n p).j i (itn (adv t.mask) (n+1) p))/\t.place[i]?=some (itn (adv t.mask) n p).j/\hashAt i=h/\∀n',n'<n->∃i':Nat,t.place[i']?=some (itn (adv t.mask) n' p).j/\hashAt i'≠h)
 | 0,p,⟨n,hn,_⟩=>by omega
 | fuel+1,p,⟨n,hn,hfree⟩=>by
  by_cases hp:p.j∈t.place.toList
  .obtain⟨i,hi⟩:=alh hp
   have hs:=zg ok.rise hi
   by_cases hh:hashAt i=h
   .refine .inr (mw 0 i ⟨?_,hi,hh,λn' hn'=>by omega⟩)
    unfold probe.go
    rw[hs]
    dsimp only
    rw[if_pos (by simp[hh])]
    rfl
   .have hrest:∃n,n<fuel/\(itn (adv t.mask) n (adv t.mask p)).j∉t.place.toList:=by
     cases n with
     | zero=>exact absurd hp hfree
     | succ n=>exact⟨n,by omega,hfree⟩
    have hgo:probe.go t hashAt h (fuel+1) p=probe.go t hashAt h fuel (adv t.mask p):=by
     rw[probe.go,hs]
     dsimp only
     rw[if_neg (by simp[hh])]
     rfl
    have hd:(adv t.mask p).dummy=p.dummy:=by unfold adv;split<;>rfl
    have lift:∀{n:Nat},(∀n',n'<n->∃i':Nat,t.place[i']?=some (itn (adv t.mask) n' (adv t.mask p)).j/\hashAt i'≠h)->∀n',n'<n+1->∃i':Nat,t.place[i']?=some (itn (adv t.mask) n' p).j/\hashAt i'≠h:=λH n' hn'=>by
     cases n' with
     | zero=>exact⟨i,hi,hh⟩
     | succ n'=>exact H n' (by omega)
    rcases ajs ok hashAt h fuel (adv t.mask p) hrest with ⟨m,e,f,g⟩|⟨m,i',e,f,g,g'⟩
    .exact .inl ⟨m+1,by rw[hgo,e,hd];rfl,f,lift g⟩
    .exact .inr (mw (m+1) i' ⟨by rw[hgo,e];rfl,f,g,lift g'⟩)
  .refine .inl ⟨0,?_,hp,λn' hn'=>by omega⟩
   unfold probe.go
   rw[aho ok.rise ok.dm hp]
   rfl
theorem ahl{t:SetTable}{es:Array (Int×Value)}(ok:TOk t es)(hashAt:Nat->Int)(h:Int){p:Probe}(st:ace t.mask p) :
  (∃n,t.probe hashAt h p=some (.empty (itn (adv t.mask) n p).j p.dummy)/\(itn (adv t.mask) n p).j∉t.place.toList/\∀n',n'<n->∃i:Nat,t.place[i]?=some (itn (adv t.mask) n' p).j/\hashAt i≠h)\/
  (∃n i,t.probe hashAt h p=some (.candidate (itn (adv t.mask) n p).j i (itn (adv t.mask) (n+1) p))/\t.place[i]?=some (itn (adv t.mask) n p).j/\hashAt i=h/\∀n',n'<n->∃i':Nat,t.place[i']?=some (itn (adv t.mask) n' p).j/\hashAt i'≠h):=by
 obtain⟨k,hk,_,_⟩:=ok.two
 obtain⟨j,hj,hn⟩:=ani (ps:=t.place.toList) (m:=t.mask) (by rw[au];exact ok.fit)
 obtain⟨n,hl,e⟩:=asx hk p st.1 st.2.1 j hj
 exact ajs ok hashAt h _ p ⟨n,hl,by rw[e];exact hn⟩
theorem TOk.ahead{t:SetTable}{es:Array (Int×Value)}(ok:TOk t es){j:Nat}{e:Int×Value}(hs:ap4 t.place.toList es.toList j e){n:Nat}(hf:qi t.mask e.1 n∉t.place.toList):∃m,m<n/\qi t.mask e.1 m=j:=by
 obtain⟨m,h1,h2⟩:=ok.onroad j e hs
 refine⟨m,?_,h1⟩
 apply f8
 intro hm
 by_cases q:n<m
 .exact hf (h2 n q)
 .have:m=n:=by omega
  subst this
  rw[h1]at hf
  obtain⟨i,hi,_⟩:=hs
  exact hf (aq hi)
theorem TOk.put{t:SetTable}{es:Array (Int×Value)}(ok:TOk t es){h:Int}{x:Value}{n:Nat}(hf:qi t.mask h n∉t.place.toList)(hr:∀n',n'<n->qi t.mask h n'∈t.place.toList)(hroom:t.place.size+1<=t.mask) :
  TOk (t.put (qi t.mask h n)).1 (insertAt es (t.put (qi t.mask h n)).2 (h,x))/\(t.put (qi t.mask h n)).1.mask=t.mask/\(t.put (qi t.mask h n)).2<=es.size/\(t.put (qi t.mask h n)).1.place.size=t.place.size+1:=by
 have hlow:=um ok.rise (qi t.mask h n)
 have hnod:has t.dummies (qi t.mask h n)=false:=by rw[ok.dm];unfold has;simp
 have hput:t.put (qi t.mask h n)=({t with place:=insertAt t.place (below t.place (qi t.mask h n)) (qi t.mask h n),dummies:=#[]},below t.place (qi t.mask h n)):=by
  unfold SetTable.put
  rw[hnod,ok.dm]
  rfl
 rw[hput]
 have hsize:(insertAt t.place (below t.place (qi t.mask h n)) (qi t.mask h n)).size=t.place.size+1:=by
  rw[<-au,p5,bu,b8,b0,gk,au]
  have:=hlow.1
  omega
 have hsz:=ok.sz
 have hmem:∀j,j∈(insertAt t.place (below t.place (qi t.mask h n)) (qi t.mask h n)).toList↔j=qi t.mask h n\/j∈t.place.toList:=λj=>by
  rw[p5]
  constructor
  .intro hj
   rcases ax.mp hj with q|q
   .exact .inr (gt q)
   .rcases bq.mp q with q|q
    .exact .inl q
    .exact .inr (List.mem_of_mem_drop q)
  .rintro(rfl|hj)
   .exact cz _ bj
   .rw[<-df (below t.place (qi t.mask h n)) t.place.toList]at hj
    rcases ax.mp hj with q|q
    .exact jv _ q
    .exact cz _ (bf _ q)
 refine⟨⟨ok.two,rfl,aeq ok.rise hf,?_,?_,?_,?_⟩,rfl,?_,hsize⟩
 .intro j hj
  rcases(hmem j).mp hj with rfl|q
  .exact an5 _ _ _
  .exact ok.bd j q
 .show(insertAt t.place _ _).size=(insertAt es (below t.place (qi t.mask h n)) (h,x)).size
  rw[hsize,<-au (xs:=insertAt es _ _),p5,bu,b8,b0,gk,au]
  have:=hlow.1
  omega
 .show(insertAt t.place _ _).size<=t.mask
  rw[hsize];exact hroom
 .intro j e hs
  have hs':ap4 (t.place.toList.take (below t.place (qi t.mask h n))++qi t.mask h n::t.place.toList.drop (below t.place (qi t.mask h n))) (es.toList.take (below t.place (qi t.mask h n))++(h,x)::es.toList.drop (below t.place (qi t.mask h n))) j e:=by
   have hs2:ap4 (insertAt t.place (below t.place (qi t.mask h n)) (qi t.mask h n)).toList (insertAt es (below t.place (qi t.mask h n)) (h,x)).toList j e:=hs
   rw[p5,p5]at hs2
   exact hs2
  rcases(aez (by rw[au,au];exact hsz) _ _ (by rw[au];exact hlow.1) _).mp hs' with ⟨rfl,rfl⟩|q
  .exact⟨n,rfl,λn' hn'=>(hmem _).mpr (.inr (hr n' hn'))⟩
  .obtain⟨m,h1,h2⟩:=ok.onroad j e q
   exact⟨m,h1,λn' hn'=>(hmem _).mpr (.inr (h2 n' hn'))⟩
 .show below t.place _<=es.size
  have:=hlow.1
  omega
theorem TOk.fits{t:SetTable}{es:Array (Int×Value)}(ok:TOk t es):t.fits es.size=true:=by
 unfold SetTable.fits SetTable.fill
 rw[ok.dm]
 simp[ok.sz]
 have:=ok.fit
 have:=ok.sz
 omega
theorem TOk.noway{t:SetTable}{es:Array (Int×Value)}(ok:TOk t es):t.gaveWay=false:=by
 obtain⟨k,hk,h3,_⟩:=ok.two
 unfold SetTable.gaveWay
 have:2^k % 2=0:=by
  rw[show k=(k-1)+1 by omega,kh]
  omega
 simp
 omega
theorem TOk.fresh(finger moves:Nat)(led:Bool):TOk (.fresh finger moves led) #[]:=
 ⟨⟨3,rfl,by decide,by decide,rfl⟩,rfl,List.Pairwise.nil,(λj hj=>by cases hj),rfl,(by show 0<=7;decide),(λj e ⟨i,h,_⟩=>by simp[SetTable.fresh]at h)⟩
theorem asf{mask k:Nat}(hk:mask+1=2^k)(x:Nat×Nat)(hp:x.2<2^64)(j:Nat)(hj:j<=mask):∃m,m<turns mask/\(itn (lp mask) m x).1=j:=by
 have hz:(itn (lp mask) 13 x).2<32^(13-13):=zf mask 13 x 13 (cw hp (by decide))
 have hz0:(itn (lp mask) 13 x).2=0:=by simpa using hz
 have hi:(itn (lp mask) 13 x).1<2^k:=by
  rw[abr]
  exact anr hk _
 have e0:∀m,itn (lp mask) (13+m) x=itn (lp mask) m (itn (lp mask) 13 x):=λm=>rm _ _ _ _
 generalize itn (lp mask) 13 x=y at *
 obtain⟨y1,y2⟩:=y
 simp only at hz0 hi
 subst hz0
 obtain⟨m,hm2,e3⟩:=ah7 k y1 j
 refine⟨13+m,?_,?_⟩
 .unfold turns
  omega
 .rw[e0,va hk m y1 hi]
  show g5 m y1 % 2^k=j
  rw[e3,gy (by omega)]
theorem amu(mask:Nat):∀(q:Nat)(p:Probe),q<=p.more->(itn (adv mask) q p).j=p.j+q
 | 0,p,_=>rfl
 | q+1,p,h=>by
  show(itn (adv mask) q (adv mask p)).j=_
  have e:adv mask p={p with j:=p.j+1,more:=p.more-1}:=by unfold adv;rw[if_pos (by omega)]
  rw[e,amu mask q _ (by show q<=p.more-1;omega)]
  show p.j+1+q=p.j+(q+1)
  omega
def aja(owner:Array (Option Nat))(j:Nat):Prop:=∃q,owner[j]?=some (some q)
theorem ad6{mask k:Nat}(hk:mask+1=2^k){owner:Array (Option Nat)}(hs:owner.size=mask+1){f:Nat}(hf:owner[f]?=some none):∀(fuel:Nat)(x:Nat×Nat),x.1<=mask->x.2<2^64->(∃m,m<fuel/\(itn (lp mask) m x).1=f)->
  ∃j n,layClean.free mask owner fuel x.1 x.2=some j/\(itn (adv mask) n (at0 mask x none)).j=j/\owner[j]?=some none/\∀n',n'<n->aja owner (itn (adv mask) n' (at0 mask x none)).j
 | 0,x,_,_,⟨m,hm,_⟩=>by omega
 | fuel+1,x,h1,h2,⟨m,hm,em⟩=>by
  have hrun:(at0 mask x none).more=runEnd mask x.1-x.1:=rfl
  have hend:runEnd mask x.1<=mask/\x.1<=runEnd mask x.1:=by
   unfold runEnd
   split<;>omega
  have get:∀q,(hq:q<runEnd mask x.1+1-x.1)->owner.getD (x.1+q) (some 0)=owner[x.1+q]'(by omega):=λq hq=>by
   simp only[Array.getD]
   rw[dif_pos (show x.1+q<owner.size by omega)]
   rfl
  have pos:∀q,q<runEnd mask x.1+1-x.1->(itn (adv mask) q (at0 mask x none)).j=x.1+q:=λq hq=>amu mask q _ (by rw[hrun];omega)
  have occ:∀q (hq:q<runEnd mask x.1+1-x.1),(owner.getD (x.1+q) (some 0)).isNone=false->aja owner (x.1+q):=λq hq hn=>by
   rw[get q hq]at hn
   cases hv:owner[x.1+q]'(by omega)with
   | none=>rw[hv]at hn;cases hn
   | some v=>exact⟨v,by rw[bz (by omega),hv]⟩
  unfold layClean.free
  cases hfd:(b9 (runEnd mask x.1+1-x.1)).find? λk=>(owner.getD (x.1+k) (some 0)).isNone with
  | some q=>
   rw[List.find?_range_eq_some]at hfd
   obtain⟨a,b,c⟩:=hfd
   have hq:q<runEnd mask x.1+1-x.1:=fg.mp b
   refine(mw (x.1+q) q ⟨rfl,pos q hq,?_,λn' hn'=>?_⟩)
   .rw[get q hq]at a
    rw[bz (by omega)]
    cases hv:owner[x.1+q]'(by omega)with
    | none=>rfl
    | some v=>rw[hv]at a;cases a
   .rw[pos n' (by omega)]
    exact occ n' (by omega) (by simpa using c n' hn')
  | none=>
   rw[List.find?_range_eq_none]at hfd
   dsimp only
   cases m with
   | zero=>
    have e0:x.1=f:=em
    have:=hfd 0 (by omega)
    rw[Nat.add_zero]at this
    have g:=get 0 (by omega)
    simp only[Nat.add_zero]at g
    rw[g]at this
    subst e0
    rw[bz (by omega)]at hf
    injection hf with hf
    rw[hf]at this
    cases this
   | succ m=>
    have hl1:(lp mask x).1<=mask:=by have:=anr hk x;omega
    have hl2:(lp mask x).2<2^64:=by show x.2/32<2^64;omega
    obtain⟨j,n,e1,e2,e3,e4⟩:=ad6 hk hs hf fuel (lp mask x) hl1 hl2 ⟨m,by omega,em⟩
    have tl:=abw mask _ (at0 mask x none) rfl
    refine(mw j ((at0 mask x none).more+1+n) ⟨e1,?_,e3,λn' hn'=>?_⟩)
    .rw[rm,tl];exact e2
    .by_cases hq:n'<(at0 mask x none).more+1
     .have hq':n'<runEnd mask x.1+1-x.1:=by rw[hrun]at hq;omega
      rw[pos n' hq']
      exact occ n' hq' (by simpa using hfd n' hq')
     .have:=e4 (n'-((at0 mask x none).more+1)) (by omega)
      rw[show n'=(at0 mask x none).more+1+(n'-((at0 mask x none).more+1)) by omega,rm,tl]
      exact this
structure Own(mask:Nat)(hs:List Int)(owner:Array (Option Nat))(k:Nat):Prop where
 size:owner.size=mask+1
 o1:∀j q:Nat,owner[j]?=some (some q)->q<k/\∃h,hs[q]?=some h/\∃n,qi mask h n=j/\∀n',n'<n->aja owner (qi mask h n')
 o2:∀q:Nat,q<k->∃j:Nat,owner[j]?=some (some q)
 o3:∀j j' q:Nat,owner[j]?=some (some q)->owner[j']?=some (some q)->j=j'
theorem Own.free{mask:Nat}{hs:List Int}{owner:Array (Option Nat)}{k:Nat}(o:Own mask hs owner k)(hk:k<=mask):∃f,f<=mask/\owner[f]?=some none:=by
 apply f8
 intro hn
 have hall:∀j,j<=mask->∃q,owner[j]?=some (some q):=λj hj=>by
  have hj':j<owner.size:=by rw[o.size];omega
  cases hv:owner[j]with
  | none=>exact absurd ⟨j,hj,by rw[bz hj',hv]⟩ hn
  | some q=>exact⟨q,by rw[bz hj',hv]⟩
 have val:∀(j q:Nat),owner[j]?=some (some q)->((owner[j]?).getD none).getD 0=q:=λj q h=>by rw[h];rfl
 have nd:((b9 (mask+1)).map λj=>((owner[j]?).getD none).getD 0).Nodup:=by
  show List.Pairwise _ _
  rw[gn]
  refine j7 ?_ (List.nodup_range (n:=mask+1))
  intro a b ha hb hab e
  obtain⟨q,hq⟩:=hall a (by have:=fg.mp ha;omega)
  obtain⟨q',hq'⟩:=hall b (by have:=fg.mp hb;omega)
  rw[val a q hq,val b q' hq']at e
  subst e
  exact hab (o.o3 a b q hq hq')
 have:=List.Nodup.length_le_of_subset (l₂:=b9 k) nd (λv hv=>by
  obtain⟨j,hj,rfl⟩:=bi.mp hv
  obtain⟨q,hq⟩:=hall j (by have:=fg.mp hj;omega)
  rw[val j q hq]
  exact fg.mpr (o.o1 j q hq).1)
 rw[ah,f9,f9]at this
 omega
noncomputable def aee(mask:Nat)(acc:Option (Array (Option Nat)×Nat))(h:Int):Option (Array (Option Nat)×Nat):=do
 let (owner,k) <-acc
 let j <-layClean.free mask owner (turns mask) (bits h % (mask+1)) (bits h)
 pure (owner.setIfInBounds j (some k),k+1)
theorem ae2(mask:Nat)(hs:Array Int):layClean mask hs=(hs.toList.foldl (aee mask) (some (Array.replicate (mask+1) none,0))).map (·.1):=by
 unfold layClean
 rw[<-Array.foldl_toList]
 rfl
theorem w6{owner:Array (Option Nat)}{j:Nat}{v:Option Nat}(hj:j<owner.size)(i:Nat):(owner.setIfInBounds j v)[i]?=if i=j then some v else owner[i]?:=by
 rw[Array.getElem?_setIfInBounds]
 by_cases e:j=i
 .subst e;rw[if_pos rfl,if_pos hj,if_pos rfl]
 .rw[if_neg e,if_neg (Ne.symm e)]
theorem aft{mask k0:Nat}(hk0:mask+1=2^k0)(hs:List Int)(hle:hs.length<=mask):∀(rest:List Int)(k:Nat) (owner:Array (Option Nat)),hs.drop k=rest->k<=hs.length->Own mask hs owner k->
  ∃owner',rest.foldl (aee mask) (some (owner,k))=some (owner',hs.length)/\Own mask hs owner' hs.length
 | [],k,owner,hd,hk,o=>by
  have:hs.length<=k:=by
   have:=congrArg List.length hd
   rw[gk]at this
   simp at this
   omega
  have e:k=hs.length:=by omega
  subst e
  exact⟨owner,rfl,o⟩
 | h::rest,k,owner,hd,hk,o=>by
  have hkl:k<hs.length:=by
   have:=congrArg List.length hd
   rw[gk]at this
   simp at this
   omega
  have hat:hs[k]?=some h:=by
   have:(hs.drop k)[0]?=some h:=by rw[hd];rfl
   rw[fq]at this
   simpa using this
  obtain⟨f,hfm,hf⟩:=o.free (by omega)
  obtain⟨m,hm,em⟩:=asf hk0 (bits h % (mask+1),bits h) (afp h) f hfm
  have hb:bits h % (mask+1)<=mask:=by have:=Nat.mod_lt (bits h) (show 0<mask+1 by omega);omega
  obtain⟨j,n,e1,e2,e3,e4⟩:=ad6 hk0 o.size hf (turns mask) (bits h % (mask+1),bits h) hb (afp h) ⟨m,hm,em⟩
  have ej:qi mask h n=j:=e2
  have hjs:j<owner.size:=by
   have:=(bm.mp e3).1
   exact this
  have hstep:aee mask (some (owner,k)) h=some (owner.setIfInBounds j (some k),k+1):=by
   show(layClean.free mask owner (turns mask) (bits h % (mask+1)) (bits h)).bind _=_
   rw[e1]
   rfl
  have tk:∀i,aja owner i->aja (owner.setIfInBounds j (some k)) i:=λi ⟨q,hq⟩=>by
   by_cases e:i=j
   .exact⟨k,by rw[w6 hjs,if_pos e]⟩
   .exact⟨q,by rw[w6 hjs,if_neg e];exact hq⟩
  have o':Own mask hs (owner.setIfInBounds j (some k)) (k+1):=by
   refine⟨by rw[Array.size_setIfInBounds];exact o.size,λi q hq=>?_,λq hq=>?_,λi i' q hq hq'=>?_⟩
   .rw[w6 hjs]at hq
    by_cases e:i=j
    .rw[if_pos e]at hq
     cases hq
     exact⟨by omega,(pk h hat n ⟨by rw[ej,e],λn' hn'=>tk _ (e4 n' hn')⟩)⟩
    .rw[if_neg e]at hq
     obtain⟨a,h',b,n',c,d⟩:=o.o1 i q hq
     exact⟨by omega,(pk h' b n' ⟨c,λn'' hn''=>tk _ (d n'' hn'')⟩)⟩
   .by_cases e:q=k
    .exact⟨j,by rw[w6 hjs,if_pos rfl,e]⟩
    .obtain⟨i,hi⟩:=o.o2 q (by omega)
     have:i≠j:=λe'=>by rw[e',e3]at hi;cases hi
     exact⟨i,by rw[w6 hjs,if_neg this];exact hi⟩
   .rw[w6 hjs]at hq hq'
    by_cases e:i=j<;>by_cases e':i'=j
    .rw[e,e']
    .rw[if_pos e]at hq;rw[if_neg e']at hq'
     cases hq
     have:=(o.o1 i' k hq').1
     omega
    .rw[if_neg e]at hq;rw[if_pos e']at hq'
     cases hq'
     have:=(o.o1 i k hq).1
     omega
    .rw[if_neg e]at hq;rw[if_neg e']at hq'
     exact o.o3 i i' q hq hq'
  rw[List.foldl_cons,hstep]
  refine aft hk0 hs hle rest (k+1) _ ?_ (by omega) o'
  rw[<-List.drop_drop,hd]
  rfl
theorem ab0{mask k0:Nat}(hk0:mask+1=2^k0)(hs:Array Int)(hle:hs.size<=mask):∃owner,layClean mask hs=some owner/\Own mask hs.toList owner hs.size:=by
 rw[ae2]
 obtain⟨o,e,ok⟩:=aft hk0 hs.toList (by rw[au];exact hle) hs.toList 0 (Array.replicate (mask+1) none) rfl (dq _) (by
  refine⟨by simp,λj q hq=>?_,λq hq=>by omega,λj j' q hq hq'=>?_⟩
  .rw[Array.getElem?_replicate]at hq
   split at hq<;>cases hq
  .rw[Array.getElem?_replicate]at hq
   split at hq<;>cases hq)
 rw[e]
 exact⟨o,rfl,by rw[au]at ok;exact ok⟩
theorem ua:∀(fuel k n:Nat),∃k',sizeAbove.go n fuel (2^k)=2^k'/\k<=k'/\k'<=k+fuel/\(n<2^(k+fuel)->n<2^k')/\(k'=k\/2^k'<=2*n)
 | 0,k,n=>⟨k,rfl,am _,am _,id,.inl rfl⟩
 | fuel+1,k,n=>by
  unfold sizeAbove.go
  by_cases h:2^k<=n
  .rw[if_pos h,show 2^k*2=2^(k+1)from (kh ..).symm]
   obtain⟨k',a,b,c,d,e⟩:=ua fuel (k+1) n
   refine⟨k',a,by omega,by omega,λq=>d (by rw[show k+1+fuel=k+(fuel+1) by omega];exact q),?_⟩
   rcases e with e|e
   .rw[e,kh];omega
   .exact .inr e
  .rw[if_neg h]
   exact⟨k,rfl,am _,by omega,λ_=>by omega,.inl rfl⟩
theorem rs(n:Nat)(hn:n<2^13):∃k,sizeAbove n=2^k/\3<=k/\k<=13/\n<2^k:=by
 obtain⟨k,a,b,c,d,e⟩:=ua 64 3 n
 refine⟨k,a,b,?_,d (Nat.lt_trans hn (Nat.pow_lt_pow_right (by decide) (by decide)))⟩
 rcases e with e|e
 .omega
 .apply f8
  intro h
  have:2^14<=2^k:=gu (by decide) (by omega)
  have e14:2^14=2*2^13:=by decide
  omega
theorem abu(n:Nat)(h8:8<=n)(hn:n<2^13){k:Nat}(e:sizeAbove n=2^k):k<=13/\n<2^k/\2^k<=2*n:=by
 obtain⟨k',a,b,c,d,e'⟩:=ua 64 3 n
 obtain⟨k2,a2,_,b2,c2⟩:=rs n hn
 have e1:k=k2:=(Nat.pow_right_inj (by decide)).mp (e.symm.trans a2)
 have e2:k2=k':=(Nat.pow_right_inj (by decide)).mp (a2.symm.trans a)
 subst e1
 refine⟨b2,c2,?_⟩
 rcases e' with e'|e'
 .rw[e2,e'];omega
 .rw[e2];exact e'
theorem amk{m n k k':Nat}(hk:m+1=2^k)(k3:3<=k)(k13:k<=13)(ko:k % 2=1)(h1:m*3<=n*5)(h2:(n-1)*5<m*3)(h4:n<=4000)(h13:k'<=13)(l1:n*4<2^k')(l2:2^k'<=2*(n*4)):k' % 2=1:=by
 have p3:2^3<=2^k:=gu (by decide) k3
 have a:¬k'<=k+1:=λh=>by
  have h:=gu (show 0<2 by decide) h
  rw[kh]at h
  omega
 have b:¬k+3<=k':=λh=>by
  have h:=gu (show 0<2 by decide) h
  rw[Nat.pow_add]at h
  omega
 omega
theorem ag0{m n k:Nat}(hk:m+1=2^k)(k3:3<=k)(k13:k<=13)(ko:k % 2=1)(h1:m*3<=n*5)(h2:(n-1)*5<m*3)(h4:n<=4000):n*4<2^13/\2<=n:=by
 have p3:2^3<=2^k:=gu (by decide) k3
 have a:k≠13:=λh=>by subst h;omega
 have h:=gu (show 0<2 by decide) (show k<=11 by omega)
 omega
theorem wn{α β:Type}{f:α->Option β}{g:α->β}:∀(l:List α),(∀x∈l,f x=some (g x))->l.filterMap f=l.map g
 | [],_=>rfl
 | a::l,h=>by
  rw[List.filterMap_cons,h a bj,c5,wn l λx hx=>h x (bf _ hx)]
theorem ae4{t:SetTable}{es:Array (Int×Value)}{wanted:Nat}(hw:es.size*4<=wanted)(hw2:wanted<2^13)(hodd:∀k,sizeAbove wanted=2^k->k % 2=1)(hpos:0<es.size) :
  ∃t' order,t.relaid (es.map (·.1)) wanted=some (t',order)/\TOk t' (order.filterMap (es[·]?))/\(order.filterMap (es[·]?)).toList.Perm es.toList/\t'.place.size*5<t'.mask*3/\t'.led=t.led:=by
 obtain⟨k,ek,k3,k13,hn⟩:=rs wanted hw2
 have ko:=hodd k ek
 have hmask:sizeAbove wanted-1+1=2^k:=by rw[ek];have:=Nat.two_pow_pos k;omega
 have hle:(es.map (·.1)).size<=sizeAbove wanted-1:=by rw[Array.size_map,ek];omega
 obtain⟨owner,eo,ok⟩:=ab0 hmask (es.map (·.1)) hle
 rw[Array.size_map]at ok
 generalize hm:sizeAbove wanted-1=mask at *
 let live:=(b9 (mask+1)).filterMap λj=>(owner.getD j none).map λq=>(j,q)
 have hlive:∀j q,(j,q)∈live↔owner[j]?=some (some q):=λj q=>by
  show(j,q)∈(b9 (mask+1)).filterMap _↔_
  rw[List.mem_filterMap]
  constructor
  .rintro⟨a,ha,e⟩
   have hs:a<owner.size:=by rw[ok.size];exact fg.mp ha
   simp only[Array.getD,dif_pos hs]at e
   cases hv:owner[a]with
   | none=>
    have e':(owner[a]).map (λq=>(a,q))=some (j,q):=e
    rw[hv]at e';cases e'
   | some v=>
    have e':(owner[a]).map (λq=>(a,q))=some (j,q):=e
    rw[hv]at e';cases e'
    rw[bz hs,hv]
  .intro h
   obtain⟨hs,hv⟩:=bm.mp h
   refine⟨j,fg.mpr (by rw[<-ok.size];exact hs),?_⟩
   simp only[Array.getD,dif_pos hs]
   show(owner[j]).map (λq=>(j,q))=some (j,q)
   rw[hv];rfl
 have hrise:(live.map (·.1)).Pairwise (· < ·):=by
  rw[gn]
  show((b9 (mask+1)).filterMap _).Pairwise _
  rw[List.pairwise_filterMap]
  refine List.Pairwise.imp ?_ (List.pairwise_lt_range (n:=mask+1))
  intro a b hab x hx y hy
  obtain⟨q,_,rfl⟩:=bv.mp hx
  obtain⟨q',_,rfl⟩:=bv.mp hy
  exact hab
 have hnd:(live.map (·.2)).Nodup:=by
  show List.Pairwise _ _
  rw[gn]
  have h1:live.Pairwise λa b=>a.1<b.1:=by rw[gn]at hrise;exact hrise
  refine j7 ?_ h1
  intro a b ha hb hab e
  have:=ok.o3 a.1 b.1 a.2 ((hlive _ _).mp ha) (by rw[e];exact(hlive _ _).mp hb)
  omega
 have hperm:(live.map (·.2)).Perm (b9 es.size):=by
  rw[List.perm_ext_iff_of_nodup hnd List.nodup_range]
  intro q
  rw[bi,fg]
  constructor
  .rintro⟨⟨j,q'⟩,h,rfl⟩
   exact(ok.o1 j q' ((hlive _ _).mp h)).1
  .intro h
   obtain⟨j,hj⟩:=ok.o2 q h
   exact⟨(j,q),(hlive _ _).mpr hj,rfl⟩
 have hlen:live.length=es.size:=by have:=hperm.length_eq;rw[ah,f9]at this;exact this
 have hfm:((live.map (·.2)).toArray.filterMap (es[·]?)).toList=live.map λx=>es[x.2]?.getD (0,.none):=by
  rw[Array.toList_filterMap]
  show List.filterMap _ (live.map (·.2))=_
  rw[List.filterMap_map]
  have:∀x∈live,es[x.2]?=some (es[x.2]?.getD (0,.none)):=λx hx=>by
   have hlt:=(ok.o1 x.1 x.2 ((hlive x.1 x.2).mp hx)).1
   rw[bz hlt];rfl
  exact wn live this
 have hesl:(live.map λx=>es[x.2]?.getD (0,.none)).Perm es.toList:=by
  have h1:=hperm.map λq=>es[q]?.getD (0,.none)
  rw[cq]at h1
  have h2:(b9 es.size).map (λq=>es[q]?.getD (0,.none))=es.toList:=by
   apply List.ext_getElem
   .simp
   .intro i a b
    simp
    rw[bz (by simpa using b)]
    rfl
  rw[h2]at h1
  exact h1
 refine(mw ⟨mask,(live.map (·.1)).toArray,#[],t.finger,t.led,t.movedTo mask,t.plain⟩ ((live.map (·.2)).toArray) ⟨?_,?_,?_,?_,rfl⟩)
 .unfold SetTable.relaid SetTable.laid
  rw[hm,eo]
  rfl
 .refine⟨⟨k,hmask,k3,k13,ko⟩,rfl,by simpa using hrise,?_,?_,?_,?_⟩
  .intro j hj
   have hj':j∈live.map (·.1):=by simpa using hj
   obtain⟨⟨j',q⟩,h,rfl⟩:=bi.mp hj'
   have:=(bm.mp ((hlive _ _).mp h)).1
   rw[ok.size]at this
   show j'<=mask
   omega
  .rw[<-au (xs:=Array.filterMap _ _),hfm]
   simp
  .show(live.map (·.1)).toArray.size<=mask
   simp
   rw[Array.size_map]at hle
   omega
  .intro j e hs
   rw[hfm]at hs
   obtain⟨i,h1,h2⟩:=hs
   have h1':(live.map (·.1))[i]?=some j:=by simpa using h1
   rw[aw]at h1' h2
   cases hl:live[i]? with
   | none=>rw[hl]at h1';cases h1'
   | some x=>
    rw[hl]at h1' h2
    obtain⟨j',q⟩:=x
    cases h1'
    obtain⟨hq,h,a,n,b,c⟩:=ok.o1 j' q ((hlive _ _).mp (aq hl))
    have e2:es[q]?.getD (0,.none)=e:=by cases h2;rfl
    have e3:e.1=h:=by
     rw[<-e2,bz hq]
     have a':(es.map (·.1))[q]?=some h:=by rw[<-bb];exact a
     rw[Array.getElem?_map,bz hq]at a'
     simpa using a'
    rw[e3]
    refine⟨n,b,λn' hn'=>?_⟩
    obtain⟨q',hq'⟩:=c n' hn'
    have:qi mask h n'∈live.map (·.1):=bi.mpr ⟨(qi mask h n',q'),(hlive _ _).mpr hq',rfl⟩
    simpa using this
 .rw[hfm];exact hesl
 .show(live.map (·.1)).toArray.size*5<mask*3
  simp
  rw[hlen]
  omega
end L3
namespace L3
open PySem
variable{Pv:Value->PyData->Prop}
mutual
noncomputable def kd:PyData->Bool
 | .int _=>true
 | .str _=>true
 | .tuple ds=>rq ds
 | .none=>false
 | .bool _=>false
 | .list _=>false
 | .dict _=>false
noncomputable def rq:List PyData->Bool
 | []=>true
 | d::ds=>kd d&&rq ds
end
mutual
noncomputable def ve(w:World):PyData->Int
 | .int i=>hashInt i
 | .str x=>hashStr w x
 | .tuple ds=>reduceHash (fh (qb w ds))
 | .none=>0
 | .bool _=>0
 | .list _=>0
 | .dict _=>0
noncomputable def qb(w:World):List PyData->List Int
 | []=>[]
 | d::ds=>ve w d::qb w ds
end
def agt(d:PyData):Prop:=∀(prog:Program)(w:World)(A:Around)(E:Value->Shared->Prop)(s:Shared)(v:Value)(as:List Addr)(Q:Int->Shared->Prop),Reads s.heap v d as->A.units+d.depth<cLine->(∀tk,s.toks<=tk->Q (ve w d) {s with toks:=tk})->wpAny (model prog w) A (pyHash v) Q E s
theorem ahy{ds:List PyData}(H:∀d∈ds,agt d):agt (.tuple ds):=λprog w A E s v as Q r hu h=>by
 cases r with
 | @tuple a o vs n _ _ ho hc hd hi=>
 have hT:s.TypeIs (.ref a) "tuple":=⟨o,ho,hc⟩
 have hu':A.units+(b7 ds+1)<cLine:=hu
 unfold pyHash
 first|unfold pyHashByItsType|skip
 first|refine aa (wpAny_cRoomFor_or (.inr (show A.units<cLine by omega)) ?_)|skip
 refine aa (j5 (name:="__hash__") hT ir.lookup ?_)
 show wpAny _ _ (if (some (Value.builtin "tuple.__hash__")==some Value.none)=true then _ else _) _ _ _
 rw[if_neg (show ¬_ by rw[beq_builtin_none];exact aj)]
 refine aa (j5 (name:="__hash__") hT ir.lookup ?_)
 show wpAny _ _ (callSpecialIfBoundUnlessNone? (.ref a) "__hash__" _ >>= _) _ _ _
 refine aa (wpAny_callSpecialIfBoundUnlessNone?_slot (name:="__hash__") hT ir (cf (name:="__hash__") ir hT F.entry_tuple_hash ?_ (F.args_tuple_hash_1 _)))
 show wpAny _ _ (Builtin.Tuple.tupleItemsOf (.ref a) >>= _) _ _ _
 refine aa (wpAny_tupleItemsOf (n:=n) ho hd ?_)
 refine aa ?_
 rw[<-Array.forIn_toList]
 refine k5 _
  (λrest (b:Array Int) s'=>∃done left bs tk,ds=done++left/\ReadsAll s.heap rest left bs/\b.toList=qb w done/\s'={s with toks:=tk}/\s.toks<=tk)
  _ (λx rest b s' hI=>?_) (λb s' hI=>?_) _ _ (m8 ([]) ds as s.toks ⟨rfl,hi,rfl,rfl,am _⟩)
 .obtain⟨done,left,bs,tk,e,hl,hb,rfl,hk⟩:=hI
  cases hl with
  | @cons _ _ d ds' _ _ h1 hl'=>
   have hmem:d∈ds:=by rw[e];simp
   have hdep:∀(l:List PyData),d∈l->d.depth<=b7 l:=λl=>by
    induction l with
    | nil=>intro q;cases q
    | cons y l ih=>
     intro q
     show _<=max y.depth (b7 l)
     rcases bq.mp q with rfl|q
     .exact Nat.le_max_left _ _
     .exact db (ih q) (Nat.le_max_right _ _)
   have hd1:=hdep ds hmem
   refine aa (H d hmem prog w _ E {s with toks:=tk} x _ _ h1 (by show A.units+1+d.depth<cLine;omega) λtk' hk'=>?_)
   have hap:∀(l:List PyData),qb w (l++[d])=qb w l++[ve w d]:=λl=>by
    induction l with
    | nil=>rfl
    | cons y l ih=>show ve w y::qb w (l++[d])=_;rw[ih];rfl
   first
    | exact af (m8 (done++[d]) ds' _ tk' ⟨by simp[e],hl',by simp[hb,hap],rfl,db hk hk'⟩)
    | exact aa (af (af ⟨done++[d],ds',_,tk',by simp[e],hl',by simp[hb,hap],rfl,db hk hk'⟩))
 .obtain⟨done,left,bs,tk,e,hl,hb,rfl,hk⟩:=hI
  cases hl
  rw[gf]at e
  subst e
  show wpAny _ _ (retInt (fh b.toList)) _ _ _
  rw[hb]
  refine wpAny_ret_mkInt ?_
  show wpAny _ _ (if (decide (-(2:Int)^63<=fh (qb w ds))&&decide (fh (qb w ds)<2^63))=true then _ else _) _ _ _
  have h':∀tk,s.toks<=tk->Q (reduceHash (fh (qb w ds))) {s with toks:=tk}:=h
  unfold reduceHash at h'
  split
  .rename_i hr
   rw[if_pos hr]at h'
   exact af (h' _ (by simp only;omega))
  .rename_i hr
   rw[if_neg hr]at h'
   exact aa (jz (af (h' _ (by simp only;omega))))
mutual
theorem aa5:∀(d:PyData),kd d=true->agt d
 | .int i,_=>λprog w A E s v as Q r hu h=>by
  cases r with
  | int=>exact wpAny_pyHash_int (h _ (by omega))
 | .str x,_=>λprog w A E s v as Q r hu h=>by
  cases r with
  | str=>exact wpAny_pyHash_str (h _ (by omega))
 | .tuple ds,hk=>ahy (vz ds hk)
 | .none,hk=>absurd hk aj
 | .bool _,hk=>absurd hk aj
 | .list _,hk=>absurd hk aj
 | .dict _,hk=>absurd hk aj
theorem vz:∀(ds:List PyData),rq ds=true->∀d∈ds,agt d
 | [],_,d,hd=>by cases hd
 | e::ds,hk,d,hd=>by
  have hk':(kd e&&rq ds)=true:=hk
  rw[du]at hk'
  rcases bq.mp hd with h|hd
  .rw[h];exact aa5 e hk'.1
  .exact vz ds hk'.2 d hd
end
mutual
theorem aj0:∀(d e:PyData),kd d=true->kd e=true->cj d e=true->d=e
 | .int i,e,_,he,h=>by
  cases e<;>simp[cj,kd]at h he⊢
  exact h
 | .str x,e,_,he,h=>by
  cases e<;>simp[cj,kd]at h he⊢
  exact h
 | .tuple ds,e,hd,he,h=>by
  cases e with
  | tuple es=>
   have:=adk ds es hd he (by simpa [cj]using h)
   rw[this]
  | _=>simp[cj,kd]at h he
 | .none,_,hd,_,_=>absurd hd aj
 | .bool _,_,hd,_,_=>absurd hd aj
 | .list _,_,hd,_,_=>absurd hd aj
 | .dict _,_,hd,_,_=>absurd hd aj
theorem adk:∀(ds es:List PyData),rq ds=true->rq es=true->fv ds es=true->ds=es
 | [],[],_,_,_=>rfl
 | [],_::_,_,_,h=>by simp[fv]at h
 | _::_,[],_,_,h=>by simp[fv]at h
 | d::ds,e::es,hd,he,h=>by
  have hd':(kd d&&rq ds)=true:=hd
  have he':(kd e&&rq es)=true:=he
  rw[du]at hd' he'
  have h':cj d e=true/\fv ds es=true:=by simpa [fv]using h
  rw[aj0 d e hd'.1 he'.1 h'.1,adk ds es hd'.2 he'.2 h'.2]
end
theorem qq{h:Heap}:∀{vs:List Value} {ds:List PyData} {as:List Addr},ReadsAll h vs ds as->∀v∈vs,∃d bs,d∈ds/\Reads h v d bs
 | _,_,_,.nil,v,hv=>by cases hv
 | _,_,_,.cons h1 h2,v,hv=>by
  rcases bq.mp hv with e|hv
  .rw[e];exact(mw _ _ ⟨bj,h1⟩)
  .obtain⟨d,bs,q1,q2⟩:=qq h2 v hv
   exact(mw d bs ⟨bf _ q1,q2⟩)
theorem afv:∀{ds:List PyData},rq ds=true->∀d∈ds,kd d=true
 | [],_,d,hd=>by cases hd
 | e::ds,hk,d,hd=>by
  have hk':(kd e&&rq ds)=true:=hk
  rw[du]at hk'
  rcases bq.mp hd with h|hd
  .rw[h];exact hk'.1
  .exact afv hk'.2 d hd
theorem abt:∀{ds:List PyData},∀d∈ds,d.depth<=b7 ds
 | [],d,hd=>by cases hd
 | e::ds,d,hd=>by
  show _<=max e.depth (b7 ds)
  rcases bq.mp hd with h|hd
  .rw[h];exact Nat.le_max_left _ _
  .exact db (abt d hd) (Nat.le_max_right _ _)
section
variable{prog:Program}{w:World}{A:Around}{E:Value->Shared->Prop}{s:Shared}
theorem vp(n:Nat):∀{v:Value} {d:PyData} {as:List Addr} {Q:Bool->Shared->Prop},kd d=true->Reads s.heap v d as->d.depth<n->Q true s->wpAny (model prog w) A (eqIsQuiet n v) Q E s:=by
 induction n with
 | zero=>intro v d as Q hk r hn q;exact absurd hn (Nat.not_lt_zero _)
 | succ n ih=>
  intro v d as Q hk r hn q
  cases d with
  | int i=>cases r with|int=>rw[eqIsQuiet_byValue _ rfl];exact af q
  | str x=>cases r with|str=>rw[eqIsQuiet_byValue _ rfl];exact af q
  | tuple ds=>
    cases r with
    | @tuple a o vs m _ _ ho hc hd hi=>
    have hT:s.TypeIs (.ref a) "tuple":=⟨o,ho,hc⟩
    have hn':b7 ds+1<n+1:=hn
    unfold eqIsQuiet
    refine aa (j5 (name:="__eq__") hT F.slot_tuple_eq.lookup ?_)
    show wpAny _ _ (isInstance (.ref a) (.type "tuple") >>= _) _ _ _
    refine aa (kz (T:="tuple") hT isSubtype_tuple_tuple ?_)
    simp only[ij,az,if_false]
    refine aa (jf (n:=m) ho hd ?_)
    refine aa ?_
    show wpAny _ _ (forIn vs _ _) _ _ _
    rw[<-Array.forIn_toList]
    refine k5 _ (λrest r s'=>r.1=none/\s'=s/\∀v∈rest,v∈vs.toList) _ (λv rest r s' hI=>?_) (λr s' hI=>?_) _ _ ⟨rfl,rfl,λv hv=>hv⟩
    .obtain⟨hr,es,hall⟩:=hI
     rw[es]
     obtain⟨d,bs,hd1,hd2⟩:=qq hi v (hall v bj)
     refine aa (ih (afv hk d hd1) hd2 (by have:=abt d hd1;omega) ?_)
     simp only[ij,az,if_false]
     exact af ⟨rfl,rfl,λu hu=>hall u (bf _ hu)⟩
    .obtain⟨r1,r2⟩:=r
     obtain⟨hr,rfl,_⟩:=hI
     simp only at hr
     subst hr
     exact af q
  | none=>exact absurd hk aj
  | bool _=>exact absurd hk aj
  | list _=>exact absurd hk aj
  | dict _=>exact absurd hk aj
theorem zu(n:Nat):∀{v:Value} {d:PyData} {as:List Addr} {Q:Bool->Shared->Prop},kd d=true->Reads s.heap v d as->d.depth<n->Q false s->wpAny (model prog w) A (ofAClassStatement n v) Q E s:=by
 induction n with
 | zero=>intro v d as Q hk r hn q;exact absurd hn (Nat.not_lt_zero _)
 | succ n ih=>
  intro v d as Q hk r hn q
  cases d with
  | int i=>cases r with|int=>unfold ofAClassStatement;exact af q
  | str x=>cases r with|str=>unfold ofAClassStatement;exact af q
  | tuple ds=>
    cases r with
    | @tuple a o vs m _ _ ho hc hd hi=>
    have hT:s.TypeIs (.ref a) "tuple":=⟨o,ho,hc⟩
    have hn':b7 ds+1<n+1:=hn
    unfold ofAClassStatement
    refine aa (wpAny_typeOf (T:="tuple") hT ?_)
    dsimp only
    rw[if_pos (by decide)]
    refine aa (af ?_)
    simp only[ij,az,if_false]
    refine aa (jf (n:=m) ho hd ?_)
    dsimp only
    refine aa ?_
    rw[<-Array.forIn_toList]
    refine k5 _ (λrest r s'=>r.1=none/\s'=s/\∀v∈rest,v∈vs.toList) _ (λv rest r s' hI=>?_) (λr s' hI=>?_) _ _ ⟨rfl,rfl,λv hv=>hv⟩
    .obtain⟨hr,es,hall⟩:=hI
     rw[es]
     obtain⟨d,bs,hd1,hd2⟩:=qq hi v (hall v bj)
     refine aa (ih (afv hk d hd1) hd2 (by have:=abt d hd1;omega) ?_)
     simp only[az,if_false]
     exact af ⟨rfl,rfl,λu hu=>hall u (bf _ hu)⟩
    .obtain⟨r1,r2⟩:=r
     obtain⟨hr,rfl,_⟩:=hI
     simp only at hr
     subst hr
     exact af q
  | none=>exact absurd hk aj
  | bool _=>exact absurd hk aj
  | list _=>exact absurd hk aj
  | dict _=>exact absurd hk aj
theorem yp:∀(n:Nat) {v:Value} {d:PyData} {as:List Addr} {Q:Bool->Shared->Prop},kd d=true->Reads s.heap v d as->(∀b,Q b s)->wpAny (model prog w) A (hashByValue n v) Q E s
 | n,v,.int i,as,Q,hk,r,q=>by
  cases r with|int=>unfold hashByValue;exact af (q _)
 | n,v,.str x,as,Q,hk,r,q=>by
  cases r with|str=>unfold hashByValue;exact af (q _)
 | 0,v,.tuple ds,as,Q,hk,r,q=>by
  cases r with|tuple=>unfold hashByValue;exact af (q _)
 | n+1,v,.tuple ds,as,Q,hk,r,q=>by
  cases r with
  | @tuple a o vs m _ _ ho hc hd hi=>
  have hT:s.TypeIs (.ref a) "tuple":=⟨o,ho,hc⟩
  unfold hashByValue
  refine aa (j5 (name:="__hash__") hT ir.lookup ?_)
  dsimp only
  refine aa (jf (n:=m) ho hd ?_)
  refine aa ?_
  show wpAny _ _ (forIn vs _ _) _ _ _
  rw[<-Array.forIn_toList]
  refine k5 _ (λrest r s'=>r.1=none/\s'=s/\∀v∈rest,v∈vs.toList) _ (λv rest r s' hI=>?_) (λr s' hI=>?_) _ _ ⟨rfl,rfl,λv hv=>hv⟩
  .obtain⟨hr,es,hall⟩:=hI
   rw[es]
   obtain⟨d,bs,hd1,hd2⟩:=qq hi v (hall v bj)
   refine aa (yp n (afv hk d hd1) hd2 λb=>?_)
   cases b with
   | true=>
    simp only[ij,az,if_false]
    exact af ⟨rfl,rfl,λu hu=>hall u (bf _ hu)⟩
   | false=>
    simp only[Bool.not_false,if_true]
    exact af (af (q _))
  .obtain⟨r1,r2⟩:=r
   obtain⟨hr,rfl,_⟩:=hI
   simp only at hr
   subst hr
   exact af (q _)
 | _,_,.none,_,_,hk,_,_=>absurd hk aj
 | _,_,.bool _,_,_,hk,_,_=>absurd hk aj
 | _,_,.list _,_,_,hk,_,_=>absurd hk aj
 | _,_,.dict _,_,_,hk,_,_=>absurd hk aj
structure El(Pv:Value->PyData->Prop)(w:World)(h:Heap)(e:Int×Value)(d:PyData):Prop where
 own:Pv e.2 d
 hash:e.1=ve w d
 key:kd d=true
 tup:∃ds,d=.tuple ds
 lay:d.canLay0=true
 deep:d.depth<8
 reads:∃as,Reads h e.2 d as
theorem El.ref{w:World}{h:Heap}{e:Int×Value}{d:PyData}(x:El Pv w h e d):∃a,e.2=.ref a:=by
 obtain⟨ds,rfl⟩:=x.tup
 obtain⟨as,r⟩:=x.reads
 generalize e.2=v at r
 cases r with
 | tuple=>exact⟨_,rfl⟩
theorem El.eq{h:Heap}{A:Around}{e e':Int×Value}{d d':PyData}(hs:s.heap=h)(x:El Pv w h e d)(y:El Pv w h e' d')(hu:A.units+8<cLine){Q:Bool->Shared->Prop}(q:∀b:Bool,(b=true↔d=d')->Q b s):wpAny (model prog w) A (eqBool e.2 e'.2) Q E s:=by
 subst hs
 obtain⟨as,r⟩:=x.reads
 obtain⟨bs,r'⟩:=y.reads
 refine SeqAt.eqBoolOverData prog w A E s _ _ d d' as bs Q r r' x.lay y.lay (by have:=x.deep;have:=Nat.min_le_left d.depth d'.depth;omega) ?_
 refine q _ ⟨λz=>aj0 d d' x.key y.key z,λz=>?_⟩
 rw[<-z]
 exact SeqAt.eqv_refl _ x.lay
theorem an7{x:Int×Value}{d:PyData}(hx:El Pv w s.heap x d):∀(ys:List Value) {Q:Bool->Shared->Prop},(∀y∈ys,∃h e,El Pv w s.heap (h,y) e)->Q false s->wpAny (model prog w) A (searchCouldBeSeen x.2 ys) Q E s:=by
 intro ys Q hy q
 unfold searchCouldBeSeen
 refine aa ?_
 refine k5 _ (λrest r s'=>r.1=none/\s'=s/\∀v∈rest,v∈ys) _ (λv rest r s' hI=>?_) (λr s' hI=>?_) _ _ ⟨rfl,rfl,λv hv=>hv⟩
 .obtain⟨hr,rfl,hall⟩:=hI
  obtain⟨h,e,hE⟩:=hy v (hall v bj)
  obtain⟨a,ea⟩:=hx.ref
  obtain⟨b,eb⟩:=hE.ref
  obtain⟨as,r1⟩:=hx.reads
  obtain⟨bs,r2⟩:=hE.reads
  have nxt:∀u∈rest,u∈ys:=λu hu=>hall u (bf _ hu)
  simp only at eb r2
  have stay:wpAny (model prog w) A (pure (ForInStep.yield ((none:Option Bool),())):Sem (ForInStep (Option Bool×Unit))) (λr s'_1=>match r with
   | ForInStep.yield b'=>b'.fst=none/\s'_1=s'/\∀(v:Value),v∈rest->v∈ys
   | ForInStep.done b'=>wpAny (model prog w) A (match b'.fst with|some r=>pure r|none=>pure false) Q E s'_1) E s':=af ⟨rfl,rfl,nxt⟩
  subst eb
  rw[ea]at r1⊢
  dsimp only
  split
  .exact stay
  .refine aa (vp 8 hx.key r1 hx.deep ?_)
   simp only[ij,az,if_false]
   refine aa (vp 8 hE.key r2 hE.deep ?_)
   simp only[ij,az,if_false]
   refine aa (zu 8 hx.key r1 hx.deep ?_)
   simp only[az,if_false]
   refine aa (zu 8 hE.key r2 hE.deep ?_)
   simp only[az,if_false]
   exact stay
 .obtain⟨r1,r2⟩:=r
  obtain⟨hr,rfl,_⟩:=hI
  simp only at hr
  subst hr
  exact af q
def Els(Pv:Value->PyData->Prop)(w:World)(h:Heap)(es:List (Int×Value))(ds:List PyData):Prop:=es.length=ds.length/\∀(i:Nat) e d,es[i]?=some e->ds[i]?=some d->El Pv w h e d
theorem Els.at{h:Heap}{es:List (Int×Value)}{ds:List PyData}(x:Els Pv w h es ds){i:Nat}{e:Int×Value}(he:es[i]?=some e):∃d,ds[i]?=some d/\El Pv w h e d:=by
 have hl:=(ae.mp he).1
 have hd:ds[i]?=some (ds[i]'(by rw[<-x.1];exact hl)):=ab _
 exact⟨_,hd,x.2 i e _ he hd⟩
theorem akt{t:SetTable}{es:Array (Int×Value)}(ok:TOk t es){f:Nat->Int}{h:Int}{p:SetTable.Probe}(st:ace t.mask p) :
  ∃met,t.probe f h p=some met/\((∃n,met=.empty (itn (adv t.mask) n p).j p.dummy/\(itn (adv t.mask) n p).j∉t.place.toList/\∀n',n'<n->∃i:Nat,t.place[i]?=some (itn (adv t.mask) n' p).j/\f i≠h)\/
  (∃n i,met=.candidate (itn (adv t.mask) n p).j i (itn (adv t.mask) (n+1) p)/\t.place[i]?=some (itn (adv t.mask) n p).j/\f i=h/\∀n',n'<n->∃i':Nat,t.place[i']?=some (itn (adv t.mask) n' p).j/\f i'≠h)):=by
 rcases ahl ok f h st with ⟨n,e,r⟩|⟨n,i,e,r⟩
 .exact⟨_,e,.inl ⟨n,rfl,r⟩⟩
 .exact⟨_,e,.inr (mw n i ⟨rfl,r⟩)⟩
theorem acr(mask:Nat):∀(n:Nat)(p:SetTable.Probe),(itn (adv mask) n p).dummy=p.dummy
 | 0,_=>rfl
 | n+1,p=>by
  show(itn (adv mask) n (adv mask p)).dummy=_
  rw[acr mask n]
  unfold adv
  split<;>rfl
theorem aa0{a:Addr}{o:Obj}{es:Array (Int×Value)}{ep:Nat}{t:SetTable}{ds:List PyData}{x:Int×Value}{d:PyData}{Q:SetFound->Shared->Prop}
  (ho:s.heap.get? a=some o) (hd:o.data=.set es ep t) (ok:TOk t es) (els:Els Pv w s.heap es.toList ds) (hx:El Pv w s.heap x d) (hu:A.units+8<cLine)
  (q1:d∈ds->Q (.there none) s) (q2:∀n,d∉ds->qi t.mask x.1 n∉t.place.toList->(∀n',n'<n->qi t.mask x.1 n'∈t.place.toList)->Q (.free (qi t.mask x.1 n) false) s) :
  ∀(fuel m N:Nat)(stand:Option SetTable.Probe),stand.getD (st0 t.mask x.1)=itn (adv t.mask) m (st0 t.mask x.1)->qi t.mask x.1 N∉t.place.toList->N<m+fuel->
   (∀n',n'<m->∃i:Nat,t.place[i]?=some (qi t.mask x.1 n')/\ds[i]?≠some d)->wpAny (model prog w) A (setSearchFrom a x.2 x.1 true fuel stand) Q E s
 | 0,m,N,stand,hst,hN,hf,hm=>by
  exfalso
  obtain⟨i,h1,h2⟩:=hm N (by omega)
  exact hN (by rw[<-bb]at h1;exact aq h1)
 | fuel+1,m,N,stand,hst,hN,hf,hm=>by
  unfold setSearchFrom
  refine aa (gq ho hd ok.fits ?_)
  dsimp only
  rw[ok.noway]
  simp only[az,if_false]
  rw[ald,hst]
  have hstand:ace t.mask (itn (adv t.mask) m (st0 t.mask x.1)):=aae m (wl _ _)
  have roadm:∀n,(itn (adv t.mask) n (itn (adv t.mask) m (st0 t.mask x.1))).j=qi t.mask x.1 (m+n):=λn=>by unfold qi;rw[rm]
  have inj:∀{i i' j:Nat},t.place[i]?=some j->t.place[i']?=some j->i=i':=λ{i i' j} h1 h2=>by rw[<-ack ok.rise h1,ack ok.rise h2]
  have entry:∀{i j:Nat},t.place[i]?=some j->∃e di,es[i]?=some e/\ds[i]?=some di/\El Pv w s.heap e di:=λ{i j} h1=>by
   have hl:=(bm.mp h1).1
   have he:es[i]?=some (es[i]'(by rw[<-ok.sz];exact hl)):=bz _
   obtain⟨di,h2,h3⟩:=els.at (by rw[bb];exact he)
   exact(mw _ di ⟨he,h2,h3⟩)
  obtain⟨met,hp,hmet⟩:=akt ok (f:=_) (h:=x.1) hstand
  rw[hp]
  have away:∀{n i:Nat},t.place[i]?=some (itn (adv t.mask) n (itn (adv t.mask) m (st0 t.mask x.1))).j->(es[i]?.map (·.1)).getD 0≠x.1->ds[i]?≠some d:=λ{n i} h1 h2 h3=>by
   obtain⟨e,di,g1,g2,g3⟩:=entry h1
   rw[g2]at h3
   cases h3
   apply h2
   rw[g1]
   show e.1=x.1
   rw[g3.hash,hx.hash]
  rcases hmet with ⟨n,rfl,hfree,hbef⟩|⟨n,i,rfl,hpl,hfi,hbef⟩
  .have hbef':∀n',n'<n->∃i:Nat,t.place[i]?=some (itn (adv t.mask) n' (itn (adv t.mask) m (st0 t.mask x.1))).j/\ds[i]?≠some d:=λn' hn'=>by
    obtain⟨i',h1,h2⟩:=hbef n' hn'
    exact⟨i',h1,away h1 h2⟩
   dsimp only
   rw[acr]
   show wpAny _ _ (pure _) _ _ _
   rw[roadm]at hfree⊢
   have before:∀n',n'<m+n->∃i:Nat,t.place[i]?=some (qi t.mask x.1 n')/\ds[i]?≠some d:=λn' hn'=>by
    by_cases hq:n'<m
    .exact hm n' hq
    .obtain⟨i',h1,h2⟩:=hbef' (n'-m) (by omega)
     rw[roadm,show m+(n'-m)=n' by omega]at h1
     exact⟨i',h1,h2⟩
   refine af (q2 (m+n) (λhin=>?_) hfree λn' hn'=>?_)
   .obtain⟨k,hk⟩:=cn hin
    have hkl:=(ae.mp hk).1
    have hke:es.toList[k]?=some (es.toList[k]'(by rw[els.1];exact hkl)):=ab _
    have hel:=els.2 k _ d hke hk
    have hkp:t.place[k]?=some (t.place[k]'(by rw[ok.sz,<-au,els.1];exact hkl)):=bz _
    obtain⟨n',hn',hr⟩:=ok.ahead (j:=t.place[k]'(by rw[ok.sz,<-au,els.1];exact hkl)) (e:=es.toList[k]'(by rw[els.1];exact hkl)) ⟨k,by rw[bb];exact hkp,hke⟩ (n:=m+n) (by rw[hel.hash,<-hx.hash];exact hfree)
    rw[hel.hash,<-hx.hash]at hr
    obtain⟨i',g1,g2⟩:=before n' hn'
    rw[hr]at g1
    have e:=inj hkp g1
    rw[<-e]at g2
    exact g2 hk
   .obtain⟨i',g1,_⟩:=before n' hn'
    rw[<-bb]at g1
    exact aq g1
  .obtain⟨e,di,g1,g2,g3⟩:=entry hpl
   obtain⟨eh,y⟩:=e
   obtain⟨ya,ey⟩:=g3.ref
   have ey':y=.ref ya:=ey
   subst ey'
   dsimp only
   have fin:wpAny (model prog w) A (setSearchFrom a x.2 x.1 true fuel (some (itn (adv t.mask) (n+1) (itn (adv t.mask) m (st0 t.mask x.1))))) Q E s\/di=d:=by
    by_cases hq:di=d
    .exact .inr hq
    .refine .inl (aa0 ho hd ok els hx hu q1 q2 fuel (m+n+1) N _ ?_ hN (by omega) λn' hn'=>?_)
     .show itn (adv t.mask) (n+1) (itn (adv t.mask) m (st0 t.mask x.1))=_
      rw[<-rm];rfl
     .by_cases hq1:n'<m
      .exact hm n' hq1
      .by_cases hq2:n'-m<n
       .obtain⟨i',h1,h2⟩:=hbef (n'-m) hq2
        have h3:=away h1 h2
        rw[roadm,show m+(n'-m)=n' by omega]at h1
        exact⟨i',h1,h3⟩
       .rw[roadm,show m+n=n' by omega]at hpl
        exact⟨i,hpl,by rw[g2];intro z;cases z;exact hq rfl⟩
   have cand:∀(b:Bool),(b=true↔di=d)->(b=true->wpAny (model prog w) A (pure (SetFound.there none)) Q E s):=λb hb hbt=>af (q1 (by
    rw[<-hb.mp hbt]
    exact aq g2))
   rw[g1]
   dsimp only
   have sm:t.sameMemory t.moves t.mask=some true:=by unfold SetTable.sameMemory;simp
   cases hled:t.led with
   | true=>
    simp only[ij,az,if_false]
    refine aa (fk (El.eq rfl g3 hx hu λb hb=>?_))
    refine aa (gq ho hd ok.fits ?_)
    cases b with
    | true=>
     simp only[Bool.and_self,if_true]
     exact cand true hb rfl
    | false=>
     simp only[Bool.and_false,az,if_false]
     rw[sm]
     dsimp only
     rw[if_pos rfl,zg ok.rise hpl]
     dsimp only
     rw[g1]
     dsimp only
     refine aa (wpAny_isSame_ref_self ?_)
     refine aa (af ?_)
     simp only[if_true,az,if_false]
     rcases fin with f|f
     .exact f
     .exact absurd (hb.mpr f) (by simp)
   | false=>
    simp only[Bool.not_false,if_true]
    refine aa (an7 hx _ (λy hy=>?_) ?_)
    .obtain⟨e,he,rfl⟩:=bi.mp hy
     have he':e∈es.toList:=by
      rw[Array.toList_filter]at he
      exact(ll.mp he).1
     obtain⟨k,hk⟩:=cn he'
     obtain⟨dk,_,hE⟩:=els.at hk
     exact(mw e.1 dk hE)
    simp only[az,if_false]
    refine aa (fk (El.eq rfl g3 hx hu λb hb=>?_))
    refine aa (gq ho hd ok.fits ?_)
    cases b with
    | true=>
     simp only[Bool.and_self,if_true]
     exact cand true hb rfl
    | false=>
     simp only[Bool.and_false,az,if_false]
     rw[sm]
     dsimp only
     rw[if_pos rfl,zg ok.rise hpl]
     dsimp only
     rw[g1]
     dsimp only
     refine aa (wpAny_isSame_ref_self ?_)
     refine aa (af ?_)
     simp only[if_true,az,if_false]
     rcases fin with f|f
     .exact f
     .exact absurd (hb.mpr f) (by simp)
end
end L3
namespace L3
open PySem
variable{Pv:Value->PyData->Prop}
theorem akh{w:World}{h:Heap}{ds:List PyData}(x:Els Pv w h [] ds):ds=[]:=List.length_eq_zero_iff.mp x.1.symm
theorem wm{w:World}{h:Heap}{e:Int×Value}{es:List (Int×Value)}{ds:List PyData}(x:Els Pv w h (e::es) ds):∃d ds',ds=d::ds'/\El Pv w h e d/\Els Pv w h es ds':=by
 match ds,x with
 | [],x=>exact absurd x.1 (by simp)
 | d::ds',x=>exact(mw d ds' ⟨rfl,x.2 0 e d rfl rfl,by have:=x.1;simpa using this,λi e' d' h1 h2=>x.2 (i+1) e' d' h1 h2⟩)
theorem Els.cons{w:World}{h:Heap}{e:Int×Value}{d:PyData}{es:List (Int×Value)}{ds:List PyData}(hd:El Pv w h e d)(x:Els Pv w h es ds):Els Pv w h (e::es) (d::ds):=by
 refine⟨by rw[b8,b8,x.1],λi e' d' h1 h2=>?_⟩
 cases i with
 | zero=>cases h1;cases h2;exact hd
 | succ i=>exact x.2 i e' d' h1 h2
theorem Els.nil{w:World}{h:Heap}:Els Pv w h [] []:=⟨rfl,λi e d h1 _=>by simp at h1⟩
theorem Els.append{w:World}{h:Heap}:∀{es fs:List (Int×Value)} {ds gs:List PyData},Els Pv w h es ds->Els Pv w h fs gs->Els Pv w h (es++fs) (ds++gs)
 | [],fs,ds,gs,x,y=>by rw[akh x];exact y
 | e::es,fs,ds,gs,x,y=>by
  obtain⟨d,ds',rfl,h1,h2⟩:=wm x
  exact Els.cons h1 (h2.append y)
theorem Els.take{w:World}{h:Heap}{es:List (Int×Value)}{ds:List PyData}(x:Els Pv w h es ds)(n:Nat):Els Pv w h (es.take n) (ds.take n):=by
 refine⟨by rw[b0,b0,x.1],λi e d h1 h2=>?_⟩
 have hi:i<n:=by
  have:=(ae.mp h1).1
  rw[b0]at this
  omega
 rw[dw hi]at h1 h2
 exact x.2 i e d h1 h2
theorem Els.drop{w:World}{h:Heap}{es:List (Int×Value)}{ds:List PyData}(x:Els Pv w h es ds)(n:Nat):Els Pv w h (es.drop n) (ds.drop n):=by
 refine⟨by rw[gk,gk,x.1],λi e d h1 h2=>?_⟩
 rw[fq]at h1 h2
 exact x.2 _ e d h1 h2
theorem Els.perm{w:World}{h:Heap}{es fs:List (Int×Value)}(p:es.Perm fs):∀{ds:List PyData},Els Pv w h fs ds->∃ds',ds'.Perm ds/\Els Pv w h es ds':=by
 induction p with
 | nil=>intro ds x;exact⟨ds,List.Perm.refl _,x⟩
 | cons e p ih=>
  intro ds x
  obtain⟨d,ds1,rfl,h1,h2⟩:=wm x
  obtain⟨ds2,p2,x2⟩:=ih h2
  exact⟨d::ds2,p2.cons d,x2.cons h1⟩
 | swap a b l=>
  intro ds x
  obtain⟨d,ds1,rfl,h1,h2⟩:=wm x
  obtain⟨d',ds2,rfl,h3,h4⟩:=wm h2
  exact⟨d'::d::ds2,List.Perm.swap _ _ _,(h4.cons h1).cons h3⟩
 | trans p1 p2 ih1 ih2=>
  intro ds x
  obtain⟨ds1,q1,x1⟩:=ih2 x
  obtain⟨ds2,q2,x2⟩:=ih1 x1
  exact⟨ds2,q2.trans q1,x2⟩
def r9(h h':Heap):Prop:=∀b ob,h.get? b=some ob->ob.cls=.type "tuple"->h'.get? b=some ob
mutual
theorem abm{h h':Heap}(t:r9 h h'):∀(d:PyData) {v:Value} {as:List Addr},kd d=true->Reads h v d as->Reads h' v d as
 | .int i,v,as,_,r=>by cases r with|int=>exact .int _ _
 | .str x,v,as,_,r=>by cases r with|str=>exact .str _ _
 | .tuple ds,v,as,hk,r=>by
  cases r with
  | tuple ho hc hd hi=>exact .tuple (t _ _ ho hc) hc hd (we t ds hk hi)
 | .none,_,_,hk,_=>absurd hk aj
 | .bool _,_,_,hk,_=>absurd hk aj
 | .list _,_,_,hk,_=>absurd hk aj
 | .dict _,_,_,hk,_=>absurd hk aj
theorem we{h h':Heap}(t:r9 h h'):∀(ds:List PyData) {vs:List Value} {as:List Addr},rq ds=true->ReadsAll h vs ds as->ReadsAll h' vs ds as
 | [],vs,as,_,r=>by cases r;exact .nil
 | d::ds,vs,as,hk,r=>by
  have hk':(kd d&&rq ds)=true:=hk
  rw[du]at hk'
  cases r with
  | cons h1 h2=>exact .cons (abm t d hk'.1 h1) (we t ds hk'.2 h2)
end
theorem El.stay{w:World}{h h':Heap}(t:r9 h h'){e:Int×Value}{d:PyData}(x:El Pv w h e d):El Pv w h' e d:=
 ⟨x.own,x.hash,x.key,x.tup,x.lay,x.deep,let ⟨as,r⟩:=x.reads;⟨as,abm t d x.key r⟩⟩
theorem Els.stay{w:World}{h h':Heap}(t:r9 h h'){es:List (Int×Value)}{ds:List PyData}(x:Els Pv w h es ds):Els Pv w h' es ds:=⟨x.1,λi e d h1 h2=>(x.2 i e d h1 h2).stay t⟩
theorem agp{h h':Heap}{a:Addr}{o:Obj}(ho:h.get? a=some o)(hc:o.cls=.type "set")(hs:bw a h h'):r9 h h':=λb ob hb ht=>by
 have:b≠a:=λe=>by
  subst e
  rw[ho]at hb
  cases hb
  rw[hc]at ht
  exact absurd ht (by decide)
 rw[hs.2 b this]
 exact hb
noncomputable def byT(w:World):Bool:=w.params.followText "set-order"
def SetD(Pv:Value->PyData->Prop)(w:World)(h:Heap)(a:Addr)(ds:List PyData):Prop:=
 ∃o es ep t,h.get? a=some o/\o.ExactSet/\o.data=.set es ep t/\TOk t es/\t.place.size*5<t.mask*3/\Els Pv w h es.toList ds/\ds.Nodup/\t.led = !byT w
theorem SetD.fresh{w:World}{h:Heap}{led:Bool}(hled:led = !byT w):SetD Pv w (h.push {cls:=.type "set",dict:=none,data:=.set #[] 0 (.fresh 0 0 led)}) h.objs.size []:=
 (m8 _ (#[]) 0 _ ⟨av _ rfl,⟨rfl,rfl,rfl⟩,rfl,TOk.fresh 0 0 led,(by show 0*5<7*3;decide),Els.nil,List.nodup_nil,hled⟩)
theorem TOk.withPlain{t:SetTable}{es:Array (Int×Value)}(ok:TOk t es)(b:Bool):TOk {t with plain:=b} es:=⟨ok.two,ok.dm,ok.rise,ok.bd,ok.sz,ok.fit,ok.onroad⟩
section
variable{prog:Program}{w:World}{A:Around}{E:Value->Shared->Prop}{s:Shared}
theorem amr{a:Addr}{o:Obj}{es:Array (Int×Value)}{ep:Nat}{t:SetTable}{ds:List PyData}{wanted:Nat}{Q:Unit->Shared->Prop}
  (ho:s.heap.get? a=some o) (hex:o.ExactSet) (hd:o.data=.set es ep t) (ok:TOk t es) (els:Els Pv w s.heap es.toList ds) (hnd:ds.Nodup) (hled:t.led = !byT w) (hw:es.size*4<=wanted) (hw2:wanted<2^13) (hodd:∀k,SetTable.sizeAbove wanted=2^k->k % 2=1) (hpos:0<es.size)
  (q:∀h' ds',bw a s.heap h'->SetD Pv w h' a ds'->ds'.Perm ds->Q () {s with heap:=h'}):wpAny (model prog w) A (setRelay a wanted) Q E s:=by
 obtain⟨t',order,e,ok',pm,few,eled⟩:=ae4 (t:=t) hw hw2 hodd hpos
 obtain⟨k,ek,k3,k13,hn⟩:=rs wanted hw2
 have hline:¬SetTable.sizeAbove wanted>sizeLine:=by
  rw[ek,io]
  have:2^k<=2^13:=gu (by decide) k13
  omega
 have hsz:(order.filterMap (es[·]?)).size=es.size:=by have:=pm.length_eq;rw[au,au]at this;exact this
 obtain⟨ds',pd,els'⟩:=els.perm pm
 unfold setRelay
 refine aa (gq ho hd ok.fits ?_)
 dsimp only
 rw[if_neg hline,e]
 refine aa ?_
 show wpAny _ _ (ite _ _ _) _ _ _
 rw[if_neg (by simp[hsz])]
 refine af ?_
 have hs13:es.size<=sizeLine:=by rw[io];omega
 refine wpAny_storeSet_of ho hd ?_ (by rw[hsz];exact hs13)
 have hg:(s.heap.update a (Obj.putSet (order.filterMap (es[·]?)) t')).get? a=some {o with data:=.set (order.filterMap (es[·]?)) (ep+1) t'}:=by
  have:=ck (Obj.putSet (order.filterMap (es[·]?)) t') ho (by rw[putSet_of _ t' hd];rfl)
  rw[putSet_of _ t' hd]at this;exact this
 have hsb:=cx s.heap a (Obj.putSet (order.filterMap (es[·]?)) t')
 exact q _ ds' hsb (m8 _ _ _ _ ⟨hg,hex,rfl,ok',few,els'.stay (agp ho hex.1 hsb),(pd.nodup_iff).mpr hnd,eled.trans hled⟩) pd
theorem ag7{a:Addr}{ds:List PyData}{x:Int×Value}{d:PyData}{Q:Bool->Shared->Prop}(hS:SetD Pv w s.heap a ds)(hx:El Pv w s.heap x d)(hu:A.units+8<cLine)(hroom:ds.length<4000)
  (q:∀h' ds' b,bw a s.heap h'->SetD Pv w h' a ds'->(d∈ds->ds'=ds)->(d∉ds->ds'.Perm (d::ds))->Q b {s with heap:=h'}) :
  wpAny (model prog w) A (setAddHashed a x.2 x.1) Q E s:=by
 obtain⟨o,es,ep,t,ho,hex,hd,ok,few,els,hnd,hled⟩:=hS
 obtain⟨xa,ex⟩:=hx.ref
 obtain⟨k,hk,k3,k13,ko⟩:=ok.two
 have hel:=els.1
 rw[au]at hel
 have hsz:=ok.sz
 obtain⟨j,hj,hfree⟩:=ani (ps:=t.place.toList) (m:=t.mask) (by rw[au];exact ok.fit)
 unfold setAddHashed setAddHashedIn
 refine fk (aa (gq ho hd ok.fits ?_))
 dsimp only
 have hns:byScan x.2 es=false:=by rw[ex];rfl
 rw[hns]
 simp only[az,if_false]
 unfold setSearch
 obtain⟨N,hN,eN⟩:=asx hk (st0 t.mask x.1) (wl _ _).1 (wl _ _).2.1 j hj
 have hmask:10*SetTable.turns t.mask<=100000:=by
  unfold SetTable.turns
  have:2^k<=2^13:=gu (by decide) k13
  omega
 refine aa (aa0 ho hd ok els hx hu (λhin=>?_) (λn hnin hf hr=>?_) 100000 0 N none rfl (by unfold qi;rw[eN];exact hfree) (by omega) (λn' hn'=>by omega))
 .dsimp only
  refine af ?_
  have e:s={s with heap:=s.heap}:=by cases s;rfl
  rw[e]
  exact q s.heap ds false (bw.refl a s.heap) (m8 o es ep t ⟨ho,hex,hd,ok,few,els,hnd,hled⟩) (λ_=>rfl) (λz=>absurd hin z)
 .dsimp only
  have hm7:7<=t.mask:=by
   have:2^3<=2^k:=gu (by decide) k3
   omega
  obtain⟨ok1,em,hp1,hs1⟩:=ok.put (x:=x.2) hf hr (by omega)
  have els1:Els Pv w s.heap (ie es (t.put (qi t.mask x.1 n)).2 (x.1,x.2)).toList (ds.take (t.put (qi t.mask x.1 n)).2++d::ds.drop (t.put (qi t.mask x.1 n)).2):=by
   rw[p5]
   exact(els.take _).append ((els.drop _).cons hx)
  have pm1:(ds.take (t.put (qi t.mask x.1 n)).2++d::ds.drop (t.put (qi t.mask x.1 n)).2).Perm (d::ds):=by
   have:=List.perm_middle (a:=d) (l₁:=ds.take (t.put (qi t.mask x.1 n)).2) (l₂:=ds.drop (t.put (qi t.mask x.1 n)).2)
   rw[df]at this
   exact this
  have nd1:(ds.take (t.put (qi t.mask x.1 n)).2++d::ds.drop (t.put (qi t.mask x.1 n)).2).Nodup:=by
   rw[pm1.nodup_iff,ln]
   exact⟨hnin,hnd⟩
  have es1:(ie es (t.put (qi t.mask x.1 n)).2 (x.1,x.2)).size=es.size+1:=by rw[<-ok1.sz,hs1,hsz]
  refine aa (gq ho hd ok.fits ?_)
  dsimp only
  have hled1:(t.put (qi t.mask x.1 n)).1.led=t.led:=rfl
  generalize hpt:t.put (qi t.mask x.1 n)=pt at *
  obtain⟨t1,p⟩:=pt
  simp only at ok1 em hp1 hs1 els1 pm1 nd1 es1 hled1⊢
  have fin:∀t2:SetTable,TOk t2 (ie es p (x.1,x.2))->t2.mask=t1.mask->t2.place=t1.place->t2.led=t1.led->wpAny (model prog w) A (storeSet a (ie es p (x.1,x.2)) t2 >>= λ_=>if (!false&&t2.tooFull)=true then setRelay a (SetTable.grown (es.size+1)) >>= λ_=>pure true else pure true) Q E s:=λt2 ok2 e1 e2 e3=>by
   have hled2:t2.led = !byT w:=e3.trans (hled1.trans hled)
   have hline:(ie es p (x.1,x.2)).size<=sizeLine:=by rw[es1,io];omega
   refine aa (wpAny_storeSet_of ho hd ?_ hline)
   have hg:(s.heap.update a (Obj.putSet (ie es p (x.1,x.2)) t2)).get? a=some {o with data:=.set (ie es p (x.1,x.2)) (ep+1) t2}:=by
    have:=ck (Obj.putSet (ie es p (x.1,x.2)) t2) ho (by rw[putSet_of _ t2 hd];rfl)
    rw[putSet_of _ t2 hd]at this;exact this
   have hsb:=cx s.heap a (Obj.putSet (ie es p (x.1,x.2)) t2)
   have els2:=els1.stay (agp ho hex.1 hsb)
   by_cases hfull:t2.tooFull=true
   .rw[if_pos (by rw[hfull];rfl)]
    have hes:es.size<4000:=by rw[hel];exact hroom
    have htf:t2.mask*3<=(es.size+1)*5:=by
     unfold SetTable.tooFull SetTable.fill at hfull
     rw[ok2.dm]at hfull
     have:=ok2.sz
     have:=es1
     simp at hfull
     omega
    have hmk:t2.mask+1=2^k:=by rw[e1,em];exact hk
    have hfw:(es.size+1-1)*5<t2.mask*3:=by rw[e1,em];have:=ok.sz;omega
    have hgs:=ag0 hmk k3 k13 ko htf hfw (by omega)
    have hgr:SetTable.grown (es.size+1)=(es.size+1)*4:=by unfold SetTable.grown;rw[if_neg (by omega)]
    refine aa (amr (s:={s with heap:=s.heap.update a (Obj.putSet (ie es p (x.1,x.2)) t2)}) hg hex rfl ok2 els2 nd1 hled2 (by rw[es1,hgr];exact am _) (by rw[hgr];exact hgs.1) (λk' ek'=>?_) (by rw[es1];omega) λh' ds' hsb' hS' pd'=>?_)
    .rw[hgr]at ek'
     obtain⟨a1,a2,a3⟩:=abu _ (by omega) hgs.1 ek'
     exact amk hmk k3 k13 ko htf hfw (by omega) a1 a2 a3
    .exact af (q h' ds' true (hsb.trans hsb') hS' (λz=>absurd z hnin) (λ_=>pd'.trans pm1))
   .rw[if_neg (by simpa using hfull)]
    have few2:t2.place.size*5<t2.mask*3:=by
     unfold SetTable.tooFull SetTable.fill at hfull
     rw[ok2.dm]at hfull
     simpa using hfull
    exact af (q _ _ true hsb (m8 _ _ _ _ ⟨hg,hex,rfl,ok2,few2,els2,nd1,hled2⟩) (λz=>absurd z hnin) (λ_=>pm1))
  obtain⟨as,rx⟩:=hx.reads
  split
  .refine aa (yp 8 hx.key rx λb=>?_)
   cases b with
   | true=>
    simp only[if_true]
    exact fin t1 ok1 rfl rfl rfl
   | false=>
    simp only[az,if_false]
    exact fin _ (ok1.withPlain false) rfl rfl rfl
  .refine aa (af ?_)
   simp only[if_true]
   exact fin t1 ok1 rfl rfl rfl
end
end L3
namespace L3
open PySem PyProof.Rows
variable{Pv:Value->PyData->Prop}
def Keep(h0 h:Heap):Prop:=∀b o,h0.get? b=some o->h.get? b=some o
theorem Keep.tups{h0 h:Heap}(k:Keep h0 h):r9 h0 h:=λb o e _=>k b o e
theorem SetD.moved{w:World}{h h':Heap}{S:Addr}{ds:List PyData}(x:SetD Pv w h S ds)(hS:∀o,h.get? S=some o->h'.get? S=some o)(t:r9 h h'):SetD Pv w h' S ds:=by
 obtain⟨o,es,ep,tb,ho,hex,hd,ok,few,els,nd,hled⟩:=x
 exact(m8 o es ep tb ⟨hS o ho,hex,hd,ok,few,els.stay t,nd,hled⟩)
section
variable{prog:Program}{w:World}{A:Around}{R:Result->Shared->Prop}{I:Addr}{fp wr:List Addr}{G:Array GenState->Array GenState->Prop}{n:Nat}{P:Nat->Value->Prop}{St:Nat->Shared->Prop}
theorem acx(W:WalksS prog w A.in1 I fp wr G n P St)(S:Addr)(hSf:S∉fp)(h0:Heap)(hwr:∀b∈wr,h0.get? b=none)(hS0:h0.get? S=none)(hwt:∀i s,St i s->∀b∈wr,∀ob,s.heap.get? b=some ob->ob.cls≠.type "tuple")
  (val:Nat->PyData) (hval:∀i v,P i v->El Pv w h0 (ve w (val i),v) (val i)) (hu:A.units+9<cLine) (hb:n<4000) :
  ∀(k i:Nat)(s:Shared)(ds:List PyData),n-i=k->i<=n->St i s->Keep h0 s.heap->SetD Pv w s.heap S ds->(∀d,d∈ds↔∃j,j<i/\val j=d)->ds.length<=i->
   (∀s' ds',Moved (S::wr) G s s'->Keep h0 s'.heap->SetD Pv w s'.heap S ds'->(∀d,d∈ds'↔∃j,j<n/\val j=d)->ds'.length<=n->R (.ok (.ret .none)) s')->
   codeAny (model prog w) A (.builtin "set.update.loop" ⟨[.ref S,.ref I],[]⟩) R s:=by
 have hSw:S∉wr:=λh=>hSf (W.sub _ h)
 have mono:∀b∈wr,b∈S::wr:=λb hb=>bf _ hb
 have mv:∀{i:Nat} {s s':Shared} {ds:List PyData},St i s->Moved wr G s s'->Keep h0 s.heap->SetD Pv w s.heap S ds->Keep h0 s'.heap/\SetD Pv w s'.heap S ds:=λ{i s s' ds} hst hm hk hS=>by
  refine⟨λb o e=>hm.heap b o (λz=>by rw[hwr b z]at e;cases e) (hk b o e),hS.moved (λo e=>hm.heap S o hSw e) λb o e ht=>hm.heap b o (λz=>hwt i s hst b z o e ht) e⟩
 intro k
 induction k with
 | zero=>
  intro i s ds hk hi hst hkp hS hmem hlen hR
  have hin:i=n:=by omega
  subst hin
  refine ik F.entry_set_update_loop (show _ from ?_)
  rw[gd F.plain_set_update_loop (_:Args)]
  show wpAny _ A.in1 (pyNext (.ref I) >>= _) _ _ _
  refine aa (W.done s _ _ hst λs' hm=>?_)
  obtain⟨k1,S1⟩:=mv hst hm hkp hS
  exact af (hR s' ds (hm.mono mono) k1 S1 hmem hlen)
 | succ k ih=>
  intro i s ds hk hi hst hkp hS hmem hlen hR
  have hlt:i<n:=by omega
  refine ik F.entry_set_update_loop (show _ from ?_)
  rw[gd F.plain_set_update_loop (_:Args)]
  show wpAny _ A.in1 (pyNext (.ref I) >>= _) _ _ _
  refine aa (W.item i s _ _ hlt hst λv s' hP hst' hm=>?_)
  obtain⟨k1,S1⟩:=mv hst hm hkp hS
  have hE:=(hval i v hP).stay k1.tups
  obtain⟨as,rv⟩:=hE.reads
  show wpAny _ A.in1 (holding [v] (setAdd S v) >>= _) _ _ _
  refine aa (fk ?_)
  unfold setAdd
  refine fk ?_
  refine aa (aa5 (val i) hE.key prog w A.in1 _ s' v as _ rv (by show A.units+1+_<cLine;have:=hE.deep;omega) λtk htk=>?_)
  refine ag7 (s:={s' with toks:=tk}) (x:=(ve w (val i),v)) S1 hE (by show A.units+1+8<cLine;omega) (by omega) λh' ds' b hsb hS' e1 e2=>?_
  have k2:Keep h0 h':=λb o e=>by
   rw[hsb.2 b (λz=>by rw[z,hS0]at e;cases e)]
   exact k1 b o e
  have hmem':∀d,d∈ds'↔∃j,j<i+1/\val j=d:=λd=>by
   have base:(∃j,j<i+1/\val j=d)↔(d∈ds\/val i=d):=by
    rw[hmem d]
    constructor
    .rintro⟨j,hj,e⟩
     by_cases q:j=i
     .subst q;exact .inr e
     .exact .inl ⟨j,by omega,e⟩
    .rintro(⟨j,hj,e⟩|e)
     .exact⟨j,by omega,e⟩
     .exact⟨i,by omega,e⟩
   rw[base]
   by_cases q:val i∈ds
   .rw[e1 q]
    exact⟨.inl,λz=>z.elim id λe=>e▸q⟩
   .rw[(e2 q).mem_iff,bq]
    exact⟨λz=>z.elim (λe=>.inr e.symm) .inl,λz=>z.elim .inr λe=>.inl e.symm⟩
  have hlen':ds'.length<=i+1:=by
   by_cases q:val i∈ds
   .rw[e1 q];omega
   .rw[(e2 q).length_eq,b8];omega
  refine af ⟨kq F.plain_set_update_loop _,ih (i+1) _ ds' (by omega) hlt (W.frame _ s' _ _ hst' htk λb hb o e=>?_) k2 hS' hmem' hlen' λs'' ds'' hm'' k'' S'' m'' l''=>?_⟩
  .rw[hsb.2 b (λh:b=S=>hSf (by rw[<-h];exact hb))];exact e
  .refine hR s'' ds'' (Moved.trans W.gtrans ((hm.mono mono).then_heap htk λb o hb e=>?_) hm'') k'' S'' m'' l''
   rw[hsb.2 b (λh:b=S=>hb (by rw[h];exact bj))];exact e
end
section
variable{prog:Program}{w:World}{A:Around}{E:Value->Shared->Prop}{s:Shared}
theorem aco(a:Value){Q₁:Value->Shared->Prop}
  (h:Q₁ (.ref s.heap.objs.size) {s with heap:=s.heap.push {cls:=.type "set",dict:=none,data:=.set #[] 0 (.fresh 0 0 (!byT w))}}) :
  codeAny (model prog w) A (.call (.builtin "set.__new__") ⟨[.type "set",a],[]⟩) (wants Q₁ E) s:=by
 refine codeAny_of_tree (show _ from ?_)
 show wpAny _ A.in1 (do checkBuiltinCall "set.__new__" ⟨[.type "set",a],[]⟩;again (.builtin "set.__new__" ⟨[.type "set",a],[]⟩)) _ _ _
 refine aa (wpAny_of_eq (PySem.F.newCall_set_1 a) (af ⟨kq PySem.F.plain_set_new _,ik PySem.F.entry_set_new (show _ from ?_)⟩))
 rw[gd PySem.F.plain_set_new (_:Args)]
 unfold Builtin.«set.__new__» Builtin.Frozenset.newClass
 have hsub:=sub_set_self
 obtain⟨hp,g,d,tk,os⟩:=s
 dsimp only
 wp_walk
 refine wpAny_askSetting (af ?_)
 dsimp only
 simp only[newObj]
 refine aa (wpAny_alloc (af ?_))
 exact af h
theorem ai3{l:Addr}{items:Array Value}{ds:List PyData}{Q:Value->Shared->Prop}
  (hh:A.handled=none) (hl:s.heap.IsList l items) (hi:items.size=ds.length) (hE:∀(i:Nat) v d,items[i]?=some v->ds[i]?=some d->El Pv w s.heap (ve w d,v) d) (hb:ds.length<4000) (hu:A.units+20<cLine)
  (h:∀(h':Heap)(tk:Nat)(ds':List PyData),SetD Pv w h' s.heap.objs.size ds'->(∀d,d∈ds'↔d∈ds)->ds'.length<=ds.length->Keep s.heap h'->s.toks<=tk->Q (.ref s.heap.objs.size) {s with heap:=h',toks:=tk}) :
  wpAny (model prog w) A (call (.type "set") [.ref l]) Q E s:=by
 obtain⟨c,tl,hmro⟩:=i9.mro
 have hmade:=i9.made
 have hsub:=i9.sub
 refine wpAny_call (codeAny_of_tree (show _ from ?_))
 show wpAny _ _ (callAny (.type "set") _) _ _ s
 refine af ⟨Code.quiet_builtin _ (by decide +kernel),ik F.entry_type_call (show _ from ?_)⟩
 rw[Around.under_plain (weight_type_call_type "set" [.ref l] []) (rfl:_=_)]
 have h1:=i9.notType
 have h2:=i9.canCreate
 have hct:=PySem.F.typeCall_set_1 (.ref l)
 repeat (any_goals (first|assumption|(wp_step)))
 refine codeAny_mono (aco (.ref l) (E:=E) (Q₁:=λobj s₁=>∃led:Bool,led=(!byT w)/\obj=.ref s.heap.objs.size/\s₁={s with heap:=s.heap.push {cls:=.type "set",dict:=none,data:=.set #[] 0 (.fresh 0 0 led)}}) ⟨_,rfl,rfl,rfl⟩) λr s₁ hr=>?_
 match r,hr with
 | .error e,hr=>exact hr
 | .ok (.ret obj),hr=>
   obtain⟨led,hled,rfl,rfl⟩:=hr
   obtain⟨emp,hemp⟩:∃ob:Obj,ob={cls:=.type "set",dict:=none,data:=.set #[] 0 (.fresh 0 0 led)}:=⟨_,rfl⟩
   have hS:(s.heap.push emp).get? s.heap.objs.size=some emp:=av _ (by rw[hemp];rfl)
   have hT:Shared.TypeIs {s with heap:=s.heap.push emp} (.ref s.heap.objs.size) "set":=⟨_,hS,by rw[hemp]⟩
   have hSD:SetD Pv w (s.heap.push emp) s.heap.objs.size []:=by rw[hemp];exact SetD.fresh hled
   rw[<-hemp]
   have hli:=i9.init.lookup
   have hbi:=i9.init.bind (.ref s.heap.objs.size)
   repeat (any_goals (first|assumption|(wp_step)))
   refine codeAny_mono (codeAny_call_builtin (R:=wants (λr s₂=>r=.none/\∃h' tk ds',s₂={s with heap:=h',toks:=tk}/\SetD Pv w h' s.heap.objs.size ds'/\(∀d,d∈ds'↔d∈ds)/\ds'.length<=ds.length/\Keep s.heap h'/\s.toks<=tk) E) i9.init.plain F.entry_set_init (check_set_init_1 hT ?_)) λr₂ s₂ hr₂=>?_
   .obtain⟨ol,hol,hcl,nl,hdl⟩:=hl
    obtain⟨ocls,odict,odata,oslots⟩:=ol
    simp only at hcl hdl
    subst hcl;subst hdl
    have hol':(s.heap.push emp).get? l=some {cls:=.type "list",dict:=odict,data:=.seq items nl,slots:=oslots}:=ak _ hol
    have hsls:=PySem.F.sub_list_set
    have hslf:=PySem.F.sub_list_frozenset
    have hne:(Value.type "list" == Value.type "dict")=false:=by decide
    have hl1:(s.heap.push emp).IsList l items:=(oe _ hol' rfl nl rfl)
    unfold Builtin.«set.__init__» noKeywords Builtin.Frozenset.updateFrom
    generalize hPI:pyIter=PI
    subst hemp
    wp_walk
    subst hPI
    refine wpAny_pyIter_list hl1 ?_
    refine aa (wpAny_runValue ?_)
    have none_at:∀b,s.heap.objs.size<=b->s.heap.get? b=none:=λb hb'=>by
     cases hq:s.heap.get? b with
     | none=>rfl
     | some ob=>exact absurd (bn hq) (Nat.not_lt.mpr hb')
    have hlS:l<s.heap.objs.size:=bn hol
    have hh3:A.in1.in1.in1.handled=none:=by simp[hh]
    have hIs:(s.heap.push {cls:=.type "set",dict:=none,data:=.set #[] 0 (.fresh 0 0 led)}).objs.size=s.heap.objs.size+1:=k9 _ _
    have hneI:l≠(s.heap.push {cls:=.type "set",dict:=none,data:=.set #[] 0 (.fresh 0 0 led)}).objs.size:=by rw[hIs];exact c9 (Nat.lt_succ_of_lt hlS)
    have hSf:s.heap.objs.size∉[(s.heap.push {cls:=.type "set",dict:=none,data:=.set #[] 0 (.fresh 0 0 led)}).objs.size,l]:=by
     rw[hIs];simp only[bq,jb,or_false,not_or]
     exact⟨c9 (Nat.lt_succ_self _),Nat.ne_of_gt hlS⟩
    have hval:∀(i:Nat)(v:Value),items[i]?=some v->El Pv w s.heap (ve w (ds.getD i .none),v) (ds.getD i .none):=λi v hv=>by
     have hlt:=(bm.mp hv).1
     have hd:ds[i]?=some (ds.getD i .none):=by
      rw[jm,ab (by omega)];rfl
     exact hE i v _ hv hd
    refine acx (A:=A.in1.in1) ((Walks.list hh3 _ l hneI items).toS) s.heap.objs.size hSf s.heap (λb hb'=>none_at b (by rw[ao.mp hb',hIs];exact km _)) (none_at _ (am _)) (λi s' hst b hb' ob e=>?hwt)
     (λi=>ds.getD i .none) hval (by show A.units+1+1+9<cLine;omega) (by omega) (items.size-0) 0 _ [] (by omega) (dq _)
     ⟨⟨_,av _ rfl,rfl,rfl⟩,(hl1.push _)⟩ ?hK0 ?hS0 (λd=>by simp) (by simp) ?hR
    case hwt=>
     obtain⟨⟨oi,ho,hc,_⟩,_⟩:=hst
     rw[ao.mp hb',ho]at e
     cases e
     rw[hc]
     decide
    case hK0=>exact λb o e=>ak _ (ak _ e)
    case hS0=>exact hSD.moved (λo e=>ak _ e) λb o e _=>ak _ e
    case hR=>
     intro s' ds' hm k' S' m' l'
     obtain⟨h',g',d',tk',os'⟩:=s'
     have eg:g'=s.gens:=hm.gens
     have ed:d'=s.drawn:=hm.drawn
     have eo:os'=s.os:=hm.os
     subst eg;subst ed;subst eo
     show wpAny _ _ _ _ _ _
     refine af ?_
     show wpAny _ _ (ret Value.none) _ _ _
     refine af ⟨rfl,(nq h' tk' ds' ⟨rfl,S',λd=>?_,by omega,k',hm.toks⟩)⟩
     rw[m' d]
     constructor
     .rintro⟨j,hj,rfl⟩
      rw[jm,ab (by omega)]
      exact dv _
     .intro hd
      obtain⟨j,hj⟩:=cn hd
      have hjl:=(ae.mp hj).1
      exact⟨j,by omega,by rw[jm,hj];rfl⟩
   .match r₂,hr₂ with
    | .error e,hr₂=>exact hr₂
    | .ok (.ret r),hr₂=>
      obtain⟨rfl,h',tk,ds',rfl,hS',hm',hl',hk',ht'⟩:=hr₂
      repeat (any_goals (first|assumption|(wp_step)))
      exact h _ _ ds' hS' hm' hl' hk' ht'
    | .ok .next,hr₂=>exact hr₂.elim
    | .ok .brk,hr₂=>exact hr₂.elim
    | .ok .cont,hr₂=>exact hr₂.elim
 | .ok .next,hr=>exact hr.elim
 | .ok .brk,hr=>exact hr.elim
 | .ok .cont,hr=>exact hr.elim
end
end L3
namespace L3
open PySem PySem.Spec PyProof.Rows L2
variable{Pv:Value->PyData->Prop}
def atu(d:PyData):Prop:=kd d=true/\(∃ds,d=.tuple ds)/\d.depth<8
theorem agm{h:Heap}:∀{us:List Value} {ds:List PyData} {as:List Addr} {i:Nat} {u:Value} {d:PyData},ReadsAll h us ds as->us[i]?=some u->ds[i]?=some d->∃bs,Reads h u d bs
 | _,_,_,i,u,d,.nil,h1,_=>by simp at h1
 | _,_,_,0,u,d,.cons a b,h1,h2=>by
  cases h1;cases h2
  exact⟨_,a⟩
 | _,_,_,i+1,u,d,.cons a b,h1,h2=>agm b (by simpa using h1) (by simpa using h2)
theorem akn:∀{ds:List PyData},ic ds=true->∀d∈ds,d.canLay0=true
 | [],_,d,hd=>by cases hd
 | e::ds,hk,d,hd=>by
  have hk':(e.canLay0&&ic ds)=true:=hk
  rw[du]at hk'
  rcases bq.mp hd with h|hd
  .rw[h];exact hk'.1
  .exact akn hk'.2 d hd
end L3
namespace L3
open PySem
theorem slot_setit_next:Slot "set_iterator" "__next__" "set_iterator.__next__":=
 .of (owner:="set_iterator") (n:="__next__") (by rw[typeLookup_type,builtinLookup_eq_fast];kernel_rfl) (by decide +kernel) (by decide +kernel) (by decide +kernel) (by first|exact .inl (by decide +kernel)|exact .inr (by decide +kernel)) (by rw[isSubtype_type];kernel_rfl)
theorem qd:entryFor table "set_iterator.__next__" = some Builtin.«set_iterator.__next__»:=entryFor_of_tree (by kernel_rfl)
theorem qk(a:Value):argsOk "set_iterator.__next__" ⟨[a],[]⟩:=by unfold argsOk;kernel_rfl
theorem aad:entryFor table "set.__iter__" = some Builtin.«frozenset.__iter__»:=entryFor_alias (id':="frozenset.__iter__") (by kernel_rfl) rfl (by decide +kernel) (by kernel_rfl)
theorem w4{α:Type}:∀(l:List α)(i:Nat)(h:i<l.length),(l[i]::l.eraseIdx i).Perm l
 | a::l,0,h=>List.Perm.refl _
 | a::l,i+1,h=>by
  have h':i<l.length:=by simpa using h
  show(l[i]::a::l.eraseIdx i).Perm (a::l)
  exact(List.Perm.swap _ _ _).trans ((w4 l i h').cons a)
theorem ai1{α:Type}(next:Nat->Nat):∀(fuel k:Nat)(left:List α)(out:Array α),left.length=fuel->((pickOrder.go next fuel k left out).toList).Perm (out.toList++left)
 | 0,k,left,out,h=>by
  have:left=[]:=List.length_eq_zero_iff.mp h
  subst this
  rw[gf]
  exact List.Perm.refl _
 | fuel+1,k,left,out,h=>by
  unfold pickOrder.go
  have hl:next k % left.length<left.length:=Nat.mod_lt _ (by omega)
  rw[ab hl]
  dsimp only
  refine(ai1 next fuel (k+1) _ _ (by rw[List.length_eraseIdx_of_lt hl];omega)).trans ?_
  rw[Array.toList_push,bx]
  refine h9 _ ?_
  exact(w4 _ _ hl)
theorem ait{α:Type}(next:Nat->Nat)(xs:Array α):(pickOrder next xs).toList.Perm xs.toList:=by
 unfold pickOrder
 have:=ai1 next xs.size 0 xs.toList #[] (by simp)
 simpa using this
section
variable{prog:Program}{w:World}{A:Around}{E:Value->Shared->Prop}{s:Shared}
theorem ab5{src:Source}{n:Nat}{Q:Nat->Shared->Prop}(hn:0<n)(h:∀i dr,i<n->Q i {s with drawn:=dr}):wpAny (model prog w) A (choose src n) Q E s:=λΓ p hΓ=>by
 show n≠0/\_
 exact⟨by omega,h _ _ (Nat.mod_lt _ hn)⟩
theorem acp{α:Type}:∀(n:Nat)(xs:List α)(s:Shared) {Q:List α->Shared->Prop},xs.length=n->(∀ys dr,ys.Perm xs->Q ys {s with drawn:=dr})->wpAny (model prog w) A (drawOrder n xs) Q E s
 | 0,xs,s,Q,h,q=>by
  have:xs=[]:=List.length_eq_zero_iff.mp h
  subst this
  unfold drawOrder
  exact af (q [] s.drawn (List.Perm.refl _))
 | n+1,[],s,Q,h,q=>by simp at h
 | n+1,x::xs,s,Q,h,q=>by
  unfold drawOrder
  refine aa (ab5 (by simp) λi dr hi=>?_)
  rw[ab hi]
  dsimp only
  refine aa (acp n _ {s with drawn:=dr} (by rw[List.length_eraseIdx_of_lt hi];omega) λys dr' p=>?_)
  exact af (q _ dr' ((List.Perm.cons _ p).trans (w4 _ _ hi)))
noncomputable def vg(first:Value)(i:Nat)(a:Addr)(n ep:Nat):Obj:={cls:=.type "set_iterator",data:=.fields #[first,.int i 0,.ref a,.int n 0,.int ep 0]}
theorem af4{I a:Addr}{slot slot' i ep:Nat}{o:Obj}{es:Array (Int×Value)}{t:SetTable}{x:Value}{Q:Option Value->Shared->Prop}(hit:s.heap.get? I=some (vg (.int slot 0) i a es.size ep))(ho:s.heap.get? a=some o)(hd:o.data=.set es ep t)(hf:t.fits es.size=true)
  (hnx:∀{A:Around} {E:Value->Shared->Prop} {Q:Option (Value×Nat)->Shared->Prop},Q (some (x,slot')) s->wpAny (model prog w) A (setNext a slot i ep) Q E s)
  (hQ:∀h',h'.get? I=some (vg (.int slot' 0) (i+1) a es.size ep)->bw I s.heap h'->Q (some x) {s with heap:=h'}):wpAny (model prog w) A (pyNext (.ref I)) Q E s:=by
 have hT:s.TypeIs (.ref I) "set_iterator":=⟨_,hit,rfl⟩
 unfold pyNext
 refine aa (jd (ce (name:=ba "__next__") hT slot_setit_next (cf slot_setit_next hT qd ?_ (qk _))))
 unfold Builtin.«set_iterator.__next__» slotArgs
 simp only[List.isEmpty_nil,ij,az,↓reduceIte,bind_assoc,j8,bne_self_eq_false]
 refine aa (af ?_)
 dsimp only
 refine aa (lh hit rfl ?_)
 show wpAny _ _ (setEntries a >>= _) _ _ _
 refine aa (wpAny_setEntries_of ho hd hf ?_)
 rw[if_neg (by simp)]
 show wpAny _ _ (setNext a (slot:Int).toNat (i:Int).toNat (ep:Int).toNat >>= _) _ _ _
 simp only[cc]
 refine aa (hnx ?_)
 dsimp only
 refine aa (gl hit rfl (by show 0<5;decide) ?_)
 have g1:=ck (Obj.mapFields (·.setIfInBounds 0 (rawInt slot'))) hit rfl
 refine aa (gl g1 rfl (by show 1<5;decide) ?_)
 have g2:=ck (Obj.mapFields (·.setIfInBounds 1 (rawInt (i+1)))) g1 rfl
 exact af ⟨x,rfl,af (hQ _ g2 ((cx ..).trans (cx ..)))⟩
theorem aix{I a:Addr}{slot i ep:Nat}{o:Obj}{es:Array (Int×Value)}{t:SetTable}{Q:Option Value->Shared->Prop}(hh:A.handled=none)(hit:s.heap.get? I=some (vg (.int slot 0) i a es.size ep))(ho:s.heap.get? a=some o)(hd:o.data=.set es ep t)(hf:t.fits es.size=true)
  (hnx:∀{A:Around} {E:Value->Shared->Prop} {Q:Option (Value×Nat)->Shared->Prop},Q none s->wpAny (model prog w) A (setNext a slot i ep) Q E s)
  (hQ:∀h',ju I s.heap h'->Q none {s with heap:=h'}):wpAny (model prog w) A (pyNext (.ref I)) Q E s:=by
 have hT:s.TypeIs (.ref I) "set_iterator":=⟨_,hit,rfl⟩
 unfold pyNext
 refine aa (jd (ce (name:=ba "__next__") hT slot_setit_next (cf slot_setit_next hT qd ?_ (qk _))))
 unfold Builtin.«set_iterator.__next__» slotArgs
 simp only[List.isEmpty_nil,ij,az,↓reduceIte,bind_assoc,j8,bne_self_eq_false]
 refine aa (af ?_)
 dsimp only
 refine aa (lh hit rfl ?_)
 show wpAny _ _ (setEntries a >>= _) _ _ _
 refine aa (wpAny_setEntries_of ho hd hf ?_)
 rw[if_neg (by simp)]
 show wpAny _ _ (setNext a (slot:Int).toNat (i:Int).toNat (ep:Int).toNat >>= _) _ _ _
 simp only[cc]
 refine aa (hnx ?_)
 dsimp only
 refine aa (gl hit rfl (by show 2<5;decide) ?_)
 show wpAny _ _ (newExc (.type "StopIteration") [] >>= _) _ _ _
 refine aa ?_
 simp only[newExc,newTuple]
 refine aa (cg ?_ (by size_fits))
 refine aa (m:=firstArgMember _ _) (wpAny_of_eq (a:=Value.none) (by first|rfl|(simp only[firstArgMember];rfl)) ?_)
 refine cg ?_ (by size_fits)
 simp only[raiseNew]
 refine aa (wpAny_handled ?_)
 rw[show A.in1.handled=none from hh]
 refine aa (af (wpAny_throw ?_))
 refine aa (kz (T:="StopIteration") (b:=true) ⟨_,av _ rfl,rfl⟩ isSubtype_stop ?_)
 exact af (hQ _ (((cx ..).extBut.push _).push _))
theorem aj6{I a tp:Addr}{i ep p:Nat}{o op:Obj}{es:Array (Int×Value)}{t:SetTable}{ps:Array Value}{c:Nat}{e:Int×Value}{Q:Option Value->Shared->Prop}(hit:s.heap.get? I=some (vg (.ref tp) i a es.size ep))(ho:s.heap.get? a=some o)(hd:o.data=.set es ep t)(hf:t.fits es.size=true)
  (hp:s.heap.get? tp=some op) (hpd:op.data=.seq ps c) (hps:ps[i]?=some (.int p 0)) (hes:es[p]?=some e)
  (hQ:∀h',h'.get? I=some (vg (.ref tp) (i+1) a es.size ep)->bw I s.heap h'->Q (some e.2) {s with heap:=h'}):wpAny (model prog w) A (pyNext (.ref I)) Q E s:=by
 have hT:s.TypeIs (.ref I) "set_iterator":=⟨_,hit,rfl⟩
 unfold pyNext
 refine aa (jd (ce (name:=ba "__next__") hT slot_setit_next (cf slot_setit_next hT qd ?_ (qk _))))
 unfold Builtin.«set_iterator.__next__» slotArgs
 simp only[List.isEmpty_nil,ij,az,↓reduceIte,bind_assoc,j8,bne_self_eq_false]
 refine aa (af ?_)
 dsimp only
 refine aa (lh hit rfl ?_)
 show wpAny _ _ (setEntries a >>= _) _ _ _
 refine aa (wpAny_setEntries_of ho hd hf ?_)
 rw[if_neg (by simp)]
 show wpAny _ _ (seqItems? (.ref tp) >>= _) _ _ _
 refine aa (jf hp hpd ?_)
 dsimp only
 simp only[cc,hps]
 refine aa ?_
 unfold setNextDrawn
 refine aa (gq ho hd hf ?_)
 dsimp only
 rw[if_neg (by simp)]
 simp only[cc,hes]
 refine af ?_
 refine aa (gl hit rfl (by show 1<5;decide) ?_)
 have g2:=ck (Obj.mapFields (·.setIfInBounds 1 (rawInt (i+1)))) hit rfl
 exact af ⟨e.2,rfl,af (hQ _ g2 (cx ..))⟩
theorem alo{I a tp:Addr}{i ep:Nat}{o op:Obj}{es:Array (Int×Value)}{t:SetTable}{ps:Array Value}{c:Nat}{Q:Option Value->Shared->Prop}(hh:A.handled=none)(hit:s.heap.get? I=some (vg (.ref tp) i a es.size ep))(ho:s.heap.get? a=some o)(hd:o.data=.set es ep t)(hf:t.fits es.size=true)
  (hp:s.heap.get? tp=some op) (hpd:op.data=.seq ps c) (hps:ps[i]?=none)
  (hQ:∀h',ju I s.heap h'->Q none {s with heap:=h'}):wpAny (model prog w) A (pyNext (.ref I)) Q E s:=by
 have hT:s.TypeIs (.ref I) "set_iterator":=⟨_,hit,rfl⟩
 unfold pyNext
 refine aa (jd (ce (name:=ba "__next__") hT slot_setit_next (cf slot_setit_next hT qd ?_ (qk _))))
 unfold Builtin.«set_iterator.__next__» slotArgs
 simp only[List.isEmpty_nil,ij,az,↓reduceIte,bind_assoc,j8,bne_self_eq_false]
 refine aa (af ?_)
 dsimp only
 refine aa (lh hit rfl ?_)
 show wpAny _ _ (setEntries a >>= _) _ _ _
 refine aa (wpAny_setEntries_of ho hd hf ?_)
 rw[if_neg (by simp)]
 show wpAny _ _ (seqItems? (.ref tp) >>= _) _ _ _
 refine aa (jf hp hpd ?_)
 dsimp only
 simp only[cc,hps]
 refine aa (gl hit rfl (by show 0<5;decide) ?_)
 have g1:=ck (Obj.mapFields (·.setIfInBounds 0 (rawInt 0))) hit rfl
 refine aa (gl g1 rfl (by show 2<5;decide) ?_)
 show wpAny _ _ (newExc (.type "StopIteration") [] >>= _) _ _ _
 refine aa ?_
 simp only[newExc,newTuple]
 refine aa (cg ?_ (by size_fits))
 refine aa (m:=firstArgMember _ _) (wpAny_of_eq (a:=Value.none) (by first|rfl|(simp only[firstArgMember];rfl)) ?_)
 refine cg ?_ (by size_fits)
 simp only[raiseNew]
 refine aa (wpAny_handled ?_)
 rw[show A.in1.handled=none from hh]
 refine aa (af (wpAny_throw ?_))
 refine aa (kz (T:="StopIteration") (b:=true) ⟨_,av _ rfl,rfl⟩ isSubtype_stop ?_)
 exact af (hQ _ ((((cx ..).trans (cx ..)).extBut.push _).push _))
theorem xi{a:Addr}{slot given ep:Nat}{o:Obj}{es:Array (Int×Value)}{t:SetTable}{Q:Option (Value×Nat)->Shared->Prop}(hb:byT w=true)(ho:s.heap.get? a=some o)(hd:o.data=.set es ep t)(hf:t.fits es.size=true)
  (h:Q (((pickOrder (w.params.setOrder a ep) es)[given]?).map λe=>(e.2,slot)) s):wpAny (model prog w) A (setNext a slot given ep) Q E s:=by
 have hb':w.params.followText "set-order" = true:=hb
 unfold setNext
 refine aa (gq ho hd hf ?_)
 dsimp only
 unfold setsByText
 refine aa (aa (wpAny_askSetting (af ?_)))
 show wpAny _ _ (if w.params.followText "set-order" = true then _ else _) _ _ _
 rw[if_pos hb']
 rw[if_neg (by simp)]
 refine aa ?_
 unfold setWalk
 refine aa (gq ho hd hf ?_)
 dsimp only
 unfold setsByText
 refine aa (aa (wpAny_askSetting (af ?_)))
 show wpAny _ _ (if w.params.followText "set-order" = true then _ else _) _ _ _
 rw[if_pos hb']
 refine aa (wpAny_askSetting (af ?_))
 exact af h
theorem vy{a:Addr}{slot given ep:Nat}{o:Obj}{es:Array (Int×Value)}{t:SetTable}{Q:Option (Value×Nat)->Shared->Prop}(hb:byT w=false)(hled:t.led=true)(hdr:(!t.plain&&decide (es.size>1))=false)(ho:s.heap.get? a=some o)(hd:o.data=.set es ep t)(hf:t.fits es.size=true)
  (h:Q (match es[SetTable.below t.place slot]?,t.place[SetTable.below t.place slot]? with|some (_,x),some j=>some (x,j+1)|_,_=>none) s):wpAny (model prog w) A (setNext a slot given ep) Q E s:=by
 have hb':w.params.followText "set-order" = false:=hb
 unfold setNext
 refine aa (gq ho hd hf ?_)
 dsimp only
 unfold setsByText
 refine aa (aa (wpAny_askSetting (af ?_)))
 show wpAny _ _ (if w.params.followText "set-order" = true then _ else _) _ _ _
 rw[if_neg (by rw[hb'];exact aj)]
 show wpAny _ _ (if (!t.plain&&decide (es.size>1))=true then _ else _) _ _ _
 rw[hdr,if_neg aj]
 refine aa ?_
 show wpAny _ _ (if (!t.led && !es.isEmpty)=true then _ else _) _ _ _
 rw[hled,if_neg (by simp)]
 refine af ?_
 exact af h
end
theorem ahw{xs:Array Nat}(h:xs.toList.Pairwise (· < ·)):SetTable.below xs 0=0:=by
 obtain⟨a,b,c⟩:=um h 0
 apply f8
 intro hn
 have h0:0<xs.size:=by omega
 have:=b 0 xs[0] (by omega) (by simp[h0])
 omega
theorem ahs{xs:Array Nat}(h:xs.toList.Pairwise (· < ·)){i j:Nat}(hi:xs[i]?=some j):SetTable.below xs (j+1)=i+1:=by
 obtain⟨a,b,c⟩:=um h (j+1)
 have hl:=(bm.mp hi).1
 by_cases q:SetTable.below xs (j+1)<=i
 .have:=c i j q hi
  omega
 by_cases q2:i+1<SetTable.below xs (j+1)
 .have hl2:i+1<xs.size:=by omega
  have e:xs[i+1]?=some xs[i+1]:=by simp[hl2]
  have h1:=b (i+1) _ q2 e
  have h2:=acf h hi e (by omega)
  omega
 .omega
def WalkAt(w:World)(a I:Addr)(es:Array (Int×Value))(ep:Nat)(t:SetTable)(os:List Value)(i:Nat)(h:Heap):Prop:=
 (∃o,h.get? a=some o/\o.cls=.type "set"/\o.data=.set es ep t)/\
 ((byT w=true/\os=(pickOrder (w.params.setOrder a ep) es).toList.map (·.2)/\∃slot,h.get? I=some (vg (.int (slot:Nat) 0) i a es.size ep))\/
  (byT w=false/\(!t.plain&&decide (es.size>1))=false/\os=es.toList.map (·.2)/\∃slot,h.get? I=some (vg (.int (slot:Nat) 0) i a es.size ep)/\SetTable.below t.place slot=i)\/
  (∃tp op c,∃ord:List Nat,h.get? I=some (vg (.ref tp) i a es.size ep)/\h.get? tp=some op/\op.cls=.type "tuple"/\op.data=.seq (ord.map λ(p:Nat)=>Value.int (p:Int) 0).toArray c/\os.length=ord.length/\∀(k:Nat) p,ord[k]?=some p->∃e,es[p]?=some e/\os[k]?=some e.2))
section
variable{prog:Program}{w:World}{A:Around}{E:Value->Shared->Prop}{s:Shared}{a I:Addr}{es:Array (Int×Value)}{ep:Nat}{t:SetTable}{os:List Value}{i:Nat}
theorem WalkAt.keep{h h':Heap}(x:WalkAt w a I es ep t os i h)(k:∀b o,h.get? b=some o->(o.cls=.type "set"\/o.cls=.type "set_iterator"\/o.cls=.type "tuple")->h'.get? b=some o):WalkAt w a I es ep t os i h':=by
 obtain⟨⟨o,h1,h2,h3⟩,hm⟩:=x
 refine⟨⟨o,k _ _ h1 (.inl h2),h2,h3⟩,?_⟩
 rcases hm with ⟨b1,b2,slot,b3⟩|⟨b1,b2,b3,slot,b4,b5⟩|⟨tp,op,c,ord,b1,b2,b3,b4,b5,b6⟩
 .exact .inl ⟨b1,b2,slot,k _ _ b3 (.inr (.inl rfl))⟩
 .exact .inr (.inl ⟨b1,b2,b3,slot,k _ _ b4 (.inr (.inl rfl)),b5⟩)
 .exact .inr (.inr (m8 tp op c ord ⟨k _ _ b1 (.inr (.inl rfl)),k _ _ b2 (.inr (.inr b3)),b3,b4,b5,b6⟩))
theorem ajn{x:Value}{Q:Option Value->Shared->Prop}(ok:TOk t es)(hled:t.led = !byT w)(hw:WalkAt w a I es ep t os i s.heap)(hx:os[i]?=some x)
  (hQ:∀h',WalkAt w a I es ep t os (i+1) h'->bw I s.heap h'->Q (some x) {s with heap:=h'}):wpAny (model prog w) A (pyNext (.ref I)) Q E s:=by
 obtain⟨⟨o,h1,h2,h3⟩,hm⟩:=hw
 have keepA:∀{h':Heap} {fo:Obj},s.heap.get? I=some fo->fo.cls=.type "set_iterator"->bw I s.heap h'->h'.get? a=some o:=λ{h' fo} hi hc sb=>by
  rw[sb.2 a (λe=>by subst e;rw[h1]at hi;cases hi;rw[h2]at hc;exact absurd hc (by decide))]
  exact h1
 rcases hm with ⟨b1,b2,slot,b3⟩|⟨b1,b2,b3,slot,b4,b5⟩|⟨tp,op,c,ord,b1,b2,b3,b4,b5,b6⟩
 .subst b2
  rw[aw,bb]at hx
  obtain⟨e,he,rfl⟩:=bv.mp hx
  refine af4 (slot':=slot) b3 h1 h3 ok.fits (λq=>xi b1 h1 h3 ok.fits (by rw[he];exact q)) λh' g sb=>?_
  exact hQ h' ⟨⟨o,keepA b3 rfl sb,h2,h3⟩,.inl ⟨b1,rfl,slot,g⟩⟩ sb
 .subst b3
  rw[aw,bb]at hx
  obtain⟨e,he,rfl⟩:=bv.mp hx
  have hil:=(bm.mp he).1
  have hpl:t.place[i]?=some (t.place[i]'(by rw[ok.sz];exact hil)):=bz _
  have hl:t.led=true:=by rw[hled,b1];rfl
  obtain⟨eh,ev⟩:=e
  refine af4 (slot':=t.place[i]'(by rw[ok.sz];exact hil)+1) b4 h1 h3 ok.fits (λq=>vy b1 hl b2 h1 h3 ok.fits (by rw[b5,he,hpl];exact q)) λh' g sb=>?_
  exact hQ h' ⟨⟨o,keepA b4 rfl sb,h2,h3⟩,.inr (.inl ⟨b1,b2,rfl,_,g,ahs ok.rise hpl⟩)⟩ sb
 .have hil:=(ae.mp hx).1
  have hio:ord[i]?=some (ord[i]'(by omega)):=ab _
  obtain⟨e,e1,e2⟩:=b6 i _ hio
  rw[hx]at e2
  cases e2
  refine aj6 b1 h1 h3 ok.fits b2 b4 (by rw[List.getElem?_toArray,aw,hio];rfl) e1 λh' g sb=>?_
  have nt:tp≠I:=λe=>by subst e;rw[b2]at b1;cases b1;exact absurd b3 (by show ¬(Value.type "set_iterator" = Value.type "tuple");decide)
  exact hQ h' ⟨⟨o,keepA b1 rfl sb,h2,h3⟩,.inr (.inr (m8 tp op c ord ⟨g,by rw[sb.2 tp nt];exact b2,b3,b4,b5,b6⟩))⟩ sb
theorem alr{Q:Option Value->Shared->Prop}(hh:A.handled=none)(ok:TOk t es)(hled:t.led = !byT w)(hw:WalkAt w a I es ep t os i s.heap)(hx:os.length<=i)
  (hQ:∀h',ju I s.heap h'->Q none {s with heap:=h'}):wpAny (model prog w) A (pyNext (.ref I)) Q E s:=by
 obtain⟨⟨o,h1,h2,h3⟩,hm⟩:=hw
 rcases hm with ⟨b1,b2,slot,b3⟩|⟨b1,b2,b3,slot,b4,b5⟩|⟨tp,op,c,ord,b1,b2,b3,b4,b5,b6⟩
 .subst b2
  rw[ah,au]at hx
  refine aix hh b3 h1 h3 ok.fits (λq=>xi b1 h1 h3 ok.fits (by rw[Array.getElem?_eq_none hx];exact q)) hQ
 .subst b3
  rw[ah,au]at hx
  have hl:t.led=true:=by rw[hled,b1];rfl
  refine aix hh b4 h1 h3 ok.fits (λq=>vy b1 hl b2 h1 h3 ok.fits (by rw[b5,Array.getElem?_eq_none hx];exact q)) hQ
 .exact alo hh b1 h1 h3 ok.fits b2 b4 (by rw[List.getElem?_toArray,aw,fc (by omega)];rfl) hQ
theorem ag8{o:Obj}{Q:Value->Shared->Prop}(ho:s.heap.get? a=some o)(hex:o.ExactSet)(hd:o.data=.set es ep t)(ok:TOk t es)(hled:t.led = !byT w)(hsz:es.size<=4000)
  (hQ:∀h' I os dr,os.Perm (es.toList.map (·.2))->WalkAt w a I es ep t os 0 h'->(∀b o,s.heap.get? b=some o->h'.get? b=some o)->s.heap.objs.size<=I->Q (.ref I) {s with heap:=h',drawn:=dr}):wpAny (model prog w) A (pyIter (.ref a)) Q E s:=by
 have hT:s.TypeIs (.ref a) "set":=⟨o,ho,hex.1⟩
 refine wpAny_pyIter_slot hT PySem.F.slot_set_iter (cf PySem.F.slot_set_iter hT aad ?_ (PySem.F.args_set_iter_1 _))
 unfold Builtin.«frozenset.__iter__» Builtin.Frozenset.slot0 slotArgs
 simp only[List.isEmpty_nil,ij,az,↓reduceIte,bind_assoc,j8,bne_self_eq_false]
 unfold Builtin.Frozenset.addrOf Builtin.Frozenset.sizeOf
 refine aa (af ?_)
 dsimp only
 refine aa (af ?_)
 refine aa (aa (wpAny_setEntries_of ho hd ok.fits (af ?_)))
 have hdrn:∀{Q:Bool->Shared->Prop},Q (!byT w&&(!t.plain&&decide (es.size>1))) s->wpAny (model prog w) A.in1 (setDrawn a) Q E s:=λ{Q} q=>by
  unfold setDrawn
  refine aa (gq ho hd ok.fits ?_)
  dsimp only
  unfold setsByText
  refine aa (aa (wpAny_askSetting (af ?_)))
  exact af q
 refine aa (hdrn ?_)
 cases hc:(!byT w&&(!t.plain&&decide (es.size>1)))with
 | true=>
  rw[if_pos rfl]
  refine aa (acp es.size (b9 es.size) s (by rw[f9]) λord dr hp=>?_)
  simp only[newTuple]
  have hol:ord.length=es.size:=by rw[hp.length_eq,f9]
  obtain⟨tob,htob⟩:∃ob:Obj,ob={cls:=.type "tuple",data:=.seq (ord.map λ(p:Nat)=>Value.int (p:Int) 0).toArray}:=⟨_,rfl⟩
  have hline:((ord.map λ(p:Nat)=>Value.int (p:Int) 0).toArray).size<=sizeLine:=by rw[ay,ah,hol,io];omega
  refine aa (cg ?_ hline)
  show wpAny _ _ _ _ _ {s with heap:=s.heap.push {cls:=.type "tuple",data:=.seq (ord.map λ(p:Nat)=>Value.int (p:Int) 0).toArray},drawn:=dr}
  rw[<-htob]
  have kp1:∀b ob,s.heap.get? b=some ob->(s.heap.push tob).get? b=some ob:=λb ob e=>ak _ e
  have ht1:(s.heap.push tob).get? s.heap.objs.size=some tob:=av _ (by rw[htob];rfl)
  refine aa (wpAny_setEpoch_of (kp1 _ _ ho) hd ok.fits ?_)
  have hg:((s.heap.push tob).push (vg (.ref s.heap.objs.size) 0 a es.size ep)).get? (s.heap.push tob).objs.size=some (vg (.ref s.heap.objs.size) 0 a es.size ep):=av _ rfl
  have kp2:∀b ob,(s.heap.push tob).get? b=some ob->((s.heap.push tob).push (vg (.ref s.heap.objs.size) 0 a es.size ep)).get? b=some ob:=λb ob e=>ak _ e
  refine aa (cg (af (oj _ rfl ("set_iterator") _ ⟨⟨_,hg,rfl⟩,slot_setit_next.lookup,?_⟩)))
  have hperm:(ord.map λp=>(es[p]?.map (·.2)).getD Value.none).Perm (es.toList.map (·.2)):=by
   have h1:=hp.map λp=>(es[p]?.map (·.2)).getD Value.none
   have h2:(b9 es.size).map (λp=>(es[p]?.map (·.2)).getD Value.none)=es.toList.map (·.2):=by
    apply List.ext_getElem
    .simp
    .intro k a1 b1
     have hk:k<es.size:=by simpa using b1
     simp[hk]
   rw[h2]at h1
   exact h1
  refine hQ _ _ _ dr hperm ⟨⟨o,kp2 _ _ (kp1 _ _ ho),hex.1,hd⟩,.inr (.inr (m8 s.heap.objs.size tob 0 ord ⟨hg,kp2 _ _ ht1,by rw[htob],by rw[htob],by rw[ah],λk p hk=>?_⟩))⟩ (λb ob e=>kp2 _ _ (kp1 _ _ e)) (by rw[k9];exact km _)
  have hpl:p<es.size:=fg.mp (hp.mem_iff.mp (aq hk))
  refine⟨es[p],bz hpl,?_⟩
  rw[aw,hk]
  show some ((es[p]?.map (·.2)).getD Value.none)=_
  rw[bz hpl]
  rfl
 | false=>
  rw[if_neg aj]
  refine aa (af ?_)
  refine aa (wpAny_setEpoch_of ho hd ok.fits ?_)
  have hg:(s.heap.push (vg (.int ((0:Nat):Int) 0) 0 a es.size ep)).get? s.heap.objs.size=some (vg (.int ((0:Nat):Int) 0) 0 a es.size ep):=av _ rfl
  have kp:∀b ob,s.heap.get? b=some ob->(s.heap.push (vg (.int ((0:Nat):Int) 0) 0 a es.size ep)).get? b=some ob:=λb ob e=>ak _ e
  refine aa (cg (af (oj _ rfl ("set_iterator") _ ⟨⟨_,hg,rfl⟩,slot_setit_next.lookup,?_⟩)))
  cases hb:byT w with
  | true=>exact hQ _ _ _ s.drawn ((ait _ es).map _) ⟨⟨o,kp _ _ ho,hex.1,hd⟩,.inl ⟨hb,rfl,0,hg⟩⟩ kp (am _)
  | false=>
   rw[hb]at hc
   exact hQ _ _ _ s.drawn (List.Perm.refl _) ⟨⟨o,kp _ _ ho,hex.1,hd⟩,.inr (.inl ⟨hb,by simpa using hc,rfl,0,hg,ahw ok.rise⟩)⟩ kp (am _)
end
theorem al1:typeLookup (.type "set") "__len__" = pure (some (.builtin "set.__len__")):=by rw[typeLookup_type,builtinLookup_eq_fast];kernel_rfl
section
variable{prog:Program}{w:World}{A:Around}{a I S:Addr}{es:Array (Int×Value)}{ep:Nat}{t:SetTable}{os:List Value}{R:Result->Shared->Prop}
theorem ac8(hh:A.in1.handled=none)(ok:TOk t es)(hled:t.led = !byT w)(hos:os.length<=4000)(res:Value)(h0:Heap)(hI0:h0.get? I=none)(hS0:h0.get? S=none) :
  ∀(k i:Nat)(s:Shared)(c:Nat),os.length-i=k->i<=os.length->WalkAt w a I es ep t os i s.heap->s.heap.get? S=some {cls:=.type "list",dict:=none,data:=.seq (os.take i).toArray c,slots:=#[]}->(∀b o,h0.get? b=some o->s.heap.get? b=some o)->
  (∀h' c',h'.get? S=some {cls:=.type "list",dict:=none,data:=.seq os.toArray c',slots:=#[]}->(∀b o,h0.get? b=some o->h'.get? b=some o)->R (.ok (.ret res)) {s with heap:=h'})->
  codeAny (model prog w) A (.builtin "list.extend.loop" ⟨[.ref S,.ref I,res],[]⟩) R s:=by
 intro k
 induction k with
 | zero=>
  intro i s c hk hi hw hS hkp hR
  have hin:i=os.length:=by omega
  subst hin
  rw[k6]at hS
  refine ik PySem.F.entry_extend_loop (show _ from ?_)
  rw[gd PySem.F.plain_extend_loop (_:Args)]
  show wpAny _ A.in1 (pyNext (.ref I) >>= _) _ _ s
  have nSI:S≠I:=λe=>by
   subst e
   rcases hw.2 with ⟨_,_,slot,b3⟩|⟨_,_,_,slot,b4,_⟩|⟨tp,op,c,ord,b1,_⟩
   .rw[hS]at b3;injection b3 with b3;injection b3 with b3;exact absurd b3 (by decide)
   .rw[hS]at b4;injection b4 with b4;injection b4 with b4;exact absurd b4 (by decide)
   .rw[hS]at b1;injection b1 with b1;injection b1 with b1;exact absurd b1 (by decide)
  refine aa (alr hh ok hled hw (am _) λh' hx=>?_)
  exact af (hR h' c (hx S _ nSI hS) λb o e=>hx b o (λz=>by rw[z,hI0]at e;cases e) (hkp b o e))
 | succ k ih=>
  intro i s c hk hi hw hS hkp hR
  have hlt:i<os.length:=by omega
  refine ik PySem.F.entry_extend_loop (show _ from ?_)
  rw[gd PySem.F.plain_extend_loop (_:Args)]
  show wpAny _ A.in1 (pyNext (.ref I) >>= _) _ _ s
  have nSI:S≠I:=λe=>by
   subst e
   rcases hw.2 with ⟨_,_,slot,b3⟩|⟨_,_,_,slot,b4,_⟩|⟨tp,op,c,ord,b1,_⟩
   .rw[hS]at b3;injection b3 with b3;injection b3 with b3;exact absurd b3 (by decide)
   .rw[hS]at b4;injection b4 with b4;injection b4 with b4;exact absurd b4 (by decide)
   .rw[hS]at b1;injection b1 with b1;injection b1 with b1;exact absurd b1 (by decide)
  refine aa (ajn ok hled hw (ab hlt) λh' hw' sb=>?_)
  have hS':h'.get? S=some {cls:=.type "list",dict:=none,data:=.seq (os.take i).toArray c,slots:=#[]}:=by rw[sb.2 S nSI];exact hS
  show wpAny _ A.in1 (updateSeq S (·.push os[i]) >>= _) _ _ _
  refine aa ?_
  have hz1:(os.take i).toArray.size<=sizeLine:=by rw[ay,b0,io];omega
  have hz2:((os.take i).toArray.push os[i]).size<=sizeLine+1:=by rw[Array.size_push];omega
  refine wpAny_updateSeq hS' rfl (af ⟨kq PySem.F.plain_extend_loop _,ih (i+1) _ (c+1) (by omega) hlt (hw'.keep λb o e hc=>?_) ?_ (λb o e=>?_) λh'' c' g kp=>?_⟩) hz1 hz2
  .have:b≠S:=λz=>by
    subst z
    rw[hS']at e
    cases e
    have hc':Value.type "list" = .type "set"\/Value.type "list" = .type "set_iterator"\/Value.type "list" = .type "tuple":=hc
    revert hc'
    decide
   exact(c8 _ _ (Ne.symm this)).trans e
  .have g:=ck (g8 (·.push os[i])) hS' rfl
   have e1:(os.take i).toArray.push os[i]=(os.take (i+1)).toArray:=by rw[List.push_toArray,List.take_append_getElem hlt]
   rw[<-e1]
   exact g.trans (congrArg some (Obj.mapSeq_push_plain _ _ _))
  .have nb:b≠S:=λz=>by rw[z,hS0]at e;cases e
   refine(c8 _ _ (Ne.symm nb)).trans ?_
   rw[sb.2 b (λz=>by rw[z,hI0]at e;cases e)]
   exact hkp b o e
  .exact hR h'' c' g kp
theorem adi{o:Obj}{E:Value->Shared->Prop}{Q:List Value->Shared->Prop}{s:Shared}(hh:A.handled=none)(ho:s.heap.get? a=some o)(hex:o.ExactSet)(hd:o.data=.set es ep t)(ok:TOk t es)(hled:t.led = !byT w)(hsz:es.size<=4000)
  (hQ:∀h' os dr,os.Perm (es.toList.map (·.2))->(∀b o,s.heap.get? b=some o->h'.get? b=some o)->Q os {s with heap:=h',drawn:=dr}):wpAny (model prog w) A (collect (.ref a)) Q E s:=by
 unfold collect
 refine aa (wpAny_runValue (ik PySem.F.entry_proto_collect ?_))
 rw[gd PySem.F.plain_proto_collect _]
 show wpAny _ A.in1 (newList [] >>= λl=>again (.builtin "list.__iadd__" ⟨[l,.ref a],[]⟩)) _ _ s
 refine aa (cg ?_)
 refine af ⟨kq PySem.F.plain_list_iadd _,ik PySem.F.entry_list_iadd ?_⟩
 rw[gd PySem.F.plain_list_iadd _]
 show wpAny _ A.in1 (Builtin.List.listExtendWith (.ref s.heap.objs.size) (.ref a) (.ref s.heap.objs.size)) _ _ _
 have hla:=bn ho
 unfold Builtin.List.listExtendWith
 generalize hH:s.heap.push {cls:=.type "list",data:=.seq ([]:List Value).toArray}=H
 have hHs:H.objs.size=s.heap.objs.size+1:=by rw[<-hH,k9]
 have kp:∀b ob,s.heap.get? b=some ob->H.get? b=some ob:=λb ob e=>hH▸ak _ e
 have hHS:H.get? s.heap.objs.size=some {cls:=.type "list",data:=.seq ([]:List Value).toArray}:=hH▸av _ rfl
 have hT:∀(s':Shared),s'.heap.get? a=some o->s'.TypeIs (.ref a) "set":=λs' e=>⟨o,e,hex.1⟩
 refine aa (wpAny_typeOf (T:="set") (hT _ (kp _ _ ho)) ?_)
 have h1:Builtin.List.listSameRef (.ref s.heap.objs.size) (.ref a)=false:=by show(s.heap.objs.size==a)=false;exact beq_false_of_ne (Nat.ne_of_gt hla)
 have h2:(Value.type "set" == Value.type "list")=false:=by decide
 have h3:(Value.type "set" == Value.type "tuple")=false:=by decide
 simp only[h1,h2,h3,Bool.or_false,az,if_false]
 refine aa (ag8 (kp _ _ ho) hex hd ok hled hsz λh1 I os dr hp hw k1 hI=>?_)
 refine aa (fk ?_)
 unfold Builtin.List.listLengthHint
 have ho1:h1.get? a=some o:=k1 _ _ (kp _ _ ho)
 refine aa (j5 (T:="set") (v:=.ref a) (hT _ ho1) al1 ?_)
 wp_delta
 refine aa (kz (T:="set") (v:=.ref a) (b:=true) (hT _ ho1) (by rw[isSubtype_type];kernel_rfl) ?_)
 show wpAny _ A.in1 (typeOf (Value.ref a) >>= _) _ _ _
 refine aa (wpAny_typeOf (T:="set") (v:=.ref a) (hT _ ho1) ?_)
 refine af ?_
 rw[if_pos (by decide)]
 show wpAny _ A.in1 (rule "list.extend.makes-room" >>= λ_=>Builtin.List.listTouch (.ref s.heap.objs.size) >>= λ_=>
  again (.builtin "list.extend.loop" ⟨[.ref s.heap.objs.size,.ref I,.ref s.heap.objs.size],[]⟩)) _ _ _
 refine aa (jz ?_)
 refine aa ?_
 show wpAny _ A.in1 (updateSeq s.heap.objs.size (·.push .none) >>= λ_=>updateSeq s.heap.objs.size (·.pop)) _ _ _
 have hS:h1.get? s.heap.objs.size=some {cls:=.type "list",data:=.seq ([]:List Value).toArray}:=k1 _ _ hHS
 refine aa (wpAny_updateSeq hS rfl ?_)
 have hS₂:=ck (g8 (·.push Value.none)) hS rfl
 refine wpAny_updateSeq (hz:=by seq_fits) hS₂ rfl ?_
 have hS₃:=ck (g8 (·.pop)) hS₂ rfl
 have oth:∀b ob,b≠s.heap.objs.size->h1.get? b=some ob->((h1.update s.heap.objs.size (g8 (·.push Value.none))).update s.heap.objs.size (g8 (·.pop))).get? b=some ob:=
  λb ob hb e=>(c8 _ _ (Ne.symm hb)).trans ((c8 _ _ (Ne.symm hb)).trans e)
 have hI0:s.heap.get? I=none:=by
  cases q:s.heap.get? I with
  | none=>rfl
  | some ob=>
   have hI':H.objs.size<=I:=hI
   exact absurd (bn q) (Nat.not_lt.mpr (db (by rw[hHs];exact km _) hI'))
 have hS0:s.heap.get? s.heap.objs.size=none:=by
  cases q:s.heap.get? s.heap.objs.size with
  | none=>rfl
  | some ob=>exact absurd (bn q) (jc _)
 refine af ⟨kq PySem.F.plain_extend_loop _,ac8 hh ok hled (by rw[hp.length_eq,ah,au];exact hsz) _ s.heap hI0 hS0 os.length 0 _ _ rfl (dq _) (hw.keep λb ob e hc=>oth b ob (λz=>?_) e) hS₃ (λb ob e=>oth b ob (λz=>?_) (k1 _ _ (kp _ _ e))) λh2 c2 g2 k2=>?_⟩
 .subst z
  rw[hS]at e
  cases e
  have hc':Value.type "list" = .type "set"\/Value.type "list" = .type "set_iterator"\/Value.type "list" = .type "tuple":=hc
  revert hc'
  decide
 .subst z
  rw[hS0]at e
  cases e
 .show wpAny _ A (load s.heap.objs.size >>= _) _ _ _
  refine aa (wpAny_load g2 ?_)
  refine af ?_
  exact hQ h2 os dr hp k2
end
end L3
namespace L3
open PySem PySem.Spec PyProof.Rows L2
mutual
def Cmp:PyData->PyData->Prop
 | .int _,.int _=>True
 | .str _,.str _=>True
 | .tuple xs,.tuple ys=>ah1 xs ys
 | _,_=>False
def ah1:List PyData->List PyData->Prop
 | [],_=>True
 | _::_,[]=>True
 | x::xs,y::ys=>Cmp x y/\ah1 xs ys
end
mutual
noncomputable def ltD:PyData->PyData->Bool
 | .int a,.int b=>decide (a<b)
 | .str a,.str b=>sLt a b
 | .tuple xs,.tuple ys=>ltL xs ys
 | _,_=>false
noncomputable def ltL:List PyData->List PyData->Bool
 | [],[]=>false
 | [],_::_=>true
 | _::_,[]=>false
 | x::xs,y::ys=>if cj x y=true then ltL xs ys else ltD x y
end
noncomputable def aij(xs:List Nat):List Int:=xs.map λ(c:Nat)=>(c:Int)+1
mutual
noncomputable def enc:PyData->List Int
 | .int a=>[1,a]
 | .str x=>2::(aij x.cps.toList++[0])
 | .tuple ds=>3::(afb ds++[0])
 | .none=>[9]
 | .bool _=>[9]
 | .list _=>[9]
 | .dict _=>[9]
noncomputable def afb:List PyData->List Int
 | []=>[]
 | d::ds=>enc d++afb ds
end
theorem ake:∀(xs ys:List Nat)(r r':List Int),(aij xs++0::r<aij ys++0::r')↔(xs<ys\/xs=ys/\r<r')
 | [],[],r,r'=>by simp[aij,ff]
 | [],y::ys,r,r'=>by
  have:(0:Int)<(y:Int)+1:=by omega
  simp[aij,ff,this]
 | x::xs,[],r,r'=>by
  have h1:¬((x:Int)+1<0):=by omega
  have h2:¬((x:Int)+1=0):=by omega
  simp[aij,ff,h1,h2]
 | x::xs,y::ys,r,r'=>by
  have ih:=ake xs ys r r'
  unfold aij at ih⊢
  simp only[c5,List.cons_append,ff,ih,List.cons.injEq]
  have h1:((x:Int)+1<(y:Int)+1)↔x<y:=by omega
  have h2:((x:Int)+1=(y:Int)+1)↔x=y:=by omega
  rw[h1,h2]
  constructor
  .rintro(h|⟨h,h'|⟨h',h''⟩⟩)
   .exact .inl (.inl h)
   .exact .inl (.inr ⟨h,h'⟩)
   .exact .inr ⟨⟨h,h'⟩,h''⟩
  .rintro((h|⟨h,h'⟩)|⟨⟨h,h'⟩,h''⟩)
   .exact .inl h
   .exact .inr ⟨h,.inl h'⟩
   .exact .inr ⟨h,.inr ⟨h',h''⟩⟩
theorem ail:∀(d:PyData)(r:List Int),∃a t,enc d++r=a::t/\(0:Int)<a
 | .int a,r=>(mw 1 _ ⟨rfl,by decide⟩)
 | .str x,r=>(mw 2 _ ⟨rfl,by decide⟩)
 | .tuple ds,r=>(mw 3 _ ⟨rfl,by decide⟩)
 | .none,r=>(mw 9 _ ⟨rfl,by decide⟩)
 | .bool _,r=>(mw 9 _ ⟨rfl,by decide⟩)
 | .list _,r=>(mw 9 _ ⟨rfl,by decide⟩)
 | .dict _,r=>(mw 9 _ ⟨rfl,by decide⟩)
mutual
theorem am3:∀(x y:PyData)(r r':List Int),Cmp x y->((enc x++r<enc y++r')↔(if cj x y=true then r<r' else ltD x y=true))
 | .int a,.int b,r,r',_=>by
  have e:cj (.int a) (.int b)=(a==b):=rfl
  rw[e]
  show(1::a::r<1::b::r')↔_
  simp only[ff,ltD]
  by_cases h:a=b
  .subst h;simp
  .simp[h]
 | .str a,.str b,r,r',_=>by
  have e:cj (.str a) (.str b)=(a==b):=rfl
  rw[e]
  show(2::((aij a.cps.toList++[0])++r)<2::((aij b.cps.toList++[0])++r'))↔_
  rw[ff,bx,bx]
  show(_\/_/\(aij a.cps.toList++0::r<aij b.cps.toList++0::r'))↔_
  rw[ake]
  have hx:a=b↔a.cps.toList=b.cps.toList:=⟨λh=>by rw[h],λh=>by cases a;cases b;simp only at h;congr;exact Array.ext' h⟩
  by_cases h:a=b
  .subst h;simp[List.lt_irrefl]
  .have h':¬a.cps.toList=b.cps.toList:=λz=>h (hx.mpr z)
   simp[h,h',ltD,sLt]
 | .tuple xs,.tuple ys,r,r',hc=>by
  have e:cj (.tuple xs) (.tuple ys)=fv xs ys:=by simp[cj]
  rw[e]
  show(3::((afb xs++[0])++r)<3::((afb ys++[0])++r'))↔_
  rw[ff,bx,bx]
  show(_\/_/\(afb xs++0::r<afb ys++0::r'))↔(if fv xs ys=true then r<r' else ltL xs ys=true)
  rw[ako xs ys r r' hc]
  simp
theorem ako:∀(xs ys:List PyData)(r r':List Int),ah1 xs ys->((afb xs++0::r<afb ys++0::r')↔(if fv xs ys=true then r<r' else ltL xs ys=true))
 | [],[],r,r',_=>by simp[afb,fv,ff]
 | [],y::ys,r,r',_=>by
  obtain⟨a,t,e,h⟩:=ail y (afb ys++0::r')
  show(0::r<(enc y++afb ys)++0::r')↔_
  rw[bx,e,ff]
  simp[h,fv,ltL]
 | x::xs,[],r,r',_=>by
  obtain⟨a,t,e,h⟩:=ail x (afb xs++0::r)
  show((enc x++afb xs)++0::r<0::r')↔_
  rw[bx,e,ff]
  have h1:¬a<0:=by omega
  have h2:¬a=0:=by omega
  simp[h1,h2,fv,ltL]
 | x::xs,y::ys,r,r',hc=>by
  have hc':Cmp x y/\ah1 xs ys:=hc
  show((enc x++afb xs)++0::r<(enc y++afb ys)++0::r')↔(if (cj x y&&fv xs ys)=true then r<r' else(if cj x y=true then ltL xs ys else ltD x y)=true)
  rw[bx,bx,am3 x y _ _ hc'.1]
  cases h:cj x y with
  | true=>
   simp only[if_true,Bool.true_and]
   exact ako xs ys r r' hc'.2
  | false=>simp
end
mutual
theorem ak3:∀(x y:PyData),Cmp x y->cj x y=true->ltD x y=false
 | .int a,.int b,_,h=>by
  have e:cj (.int a) (.int b)=(a==b):=rfl
  rw[e]at h
  have:a=b:=by simpa using h
  subst this
  simp[ltD]
 | .str a,.str b,_,h=>by
  have e:cj (.str a) (.str b)=(a==b):=rfl
  rw[e]at h
  have:a=b:=by simpa using h
  subst this
  exact apq a
 | .tuple xs,.tuple ys,hc,h=>afz xs ys hc (by simpa [cj]using h)
theorem afz:∀(xs ys:List PyData),ah1 xs ys->fv xs ys=true->ltL xs ys=false
 | [],[],_,_=>rfl
 | [],_::_,_,h=>by simp[fv]at h
 | _::_,[],_,h=>by simp[fv]at h
 | x::xs,y::ys,hc,h=>by
  have h':cj x y=true/\fv xs ys=true:=by simpa [fv]using h
  show(if cj x y=true then ltL xs ys else ltD x y)=false
  rw[if_pos h'.1]
  exact afz xs ys (show Cmp x y/\ah1 xs ys from hc).2 h'.2
end
theorem zn{x y:PyData}(h:Cmp x y):ltD x y=decide (enc x<enc y):=by
 have k:=am3 x y [] [] h
 rw[gf,gf]at k
 cases he:cj x y with
 | true=>
  rw[he,if_pos rfl]at k
  rw[ak3 x y h he]
  exact(decide_eq_false λz=>List.lt_irrefl _ (k.mp z)).symm
 | false=>
  rw[he,if_neg aj]at k
  cases hl:ltD x y with
  | true=>exact(decide_eq_true (k.mpr hl)).symm
  | false=>exact(decide_eq_false λz=>by have:=k.mp z;rw[hl]at this;cases this).symm
def CmpA(ds:List PyData):Prop:=(∀x∈ds,∀y∈ds,Cmp x y)/\∀x∈ds,kd x=true
theorem CmpA.sub{ds es:List PyData}(h:CmpA ds)(hs:∀x∈es,x∈ds):CmpA es:=⟨λx hx y hy=>h.1 x (hs x hx) y (hs y hy),λx hx=>h.2 x (hs x hx)⟩
def LtAt(A:Around)(s:Shared)(u v:Value)(b:Bool):Prop:=∀(prog:Program)(w:World)(E:Value->Shared->Prop)(Q:Value->Shared->Prop),Q (.bool b) s->wpAny (model prog w) A (richCompare .Lt u v) Q E s
theorem LtAt.int{A:Around}{s:Shared}(a:Int)(t:Tok)(c:Int)(u:Tok):LtAt A s (.int a t) (.int c u) (decide (a<c)):=λprog w E Q h=>
 (PyProof.Rows.lt_int h:wpAny (model prog w) A (compareOp .Lt (.int a t) (.int c u)) Q E s)
theorem LtAt.str{A:Around}{s:Shared}(a:Str)(t:Tok)(c:Str)(u:Tok):LtAt A s (.str a t) (.str c u) (sLt a c):=λprog w E Q h=>
 (PyProof.Rows.lt_str h:wpAny (model prog w) A (compareOp .Lt (.str a t) (.str c u)) Q E s)
def adw(A:Around)(s:Shared):List Value->List Value->List PyData->List PyData->Prop
 | v::vs,w::ws,x::xs,y::ys=>SeqAt.EqAt A s v w (cj x y)/\LtAt A s v w (ltD x y)/\adw A s vs ws xs ys
 | [],_,[],_=>True
 | _::_,[],_::_,[]=>True
 | _,_,_,_=>False
section
open PySem.SeqAt
open PySem.AutoSeq1 (wpAny_loadPart')
open PySem.MeetsSeq PySem.MeetsSeq2 PySem.MeetsSeq3
theorem ab9(l b:Addr)(items items2:Array Value)(n n2:Nat)(dd dd2:Option Addr)(sl sl2:Array (Option Value))(xs ys:List PyData)(hi:items.toList.length=xs.length)(hj:items2.toList.length=ys.length) :
  Meets (Builtin.«tuple.__lt__» ⟨[.ref l,.ref b],[]⟩)
   (λA R s=>s.heap.get? l=some {cls:=.type "tuple",dict:=dd,data:=.seq items n,slots:=sl}/\s.heap.get? b=some {cls:=.type "tuple",dict:=dd2,data:=.seq items2 n2,slots:=sl2}/\
    adw A.in1 s items.toList items2.toList xs ys/\R (.ok (.ret (.bool (ltL xs ys)))) s):=
 .of_wp λprog w A R s h=>by
  obtain⟨hp,g,d,tk,os⟩:=s;obtain⟨hl,hb,hP,h⟩:=h
  have f2:=AutoSeq1.sub_tuple_tuple
  have z1:items.size=xs.length:=by rw[<-hi];simp
  have z2:items2.size=ys.length:=by rw[<-hj];simp
  wp_walk using wpAny_loadPart' hl,wpAny_loadPart' hb,k5 _ (λrest b s'=>b.1=none/\s'=⟨hp,g,d,tk,os⟩/\∃(vs ws:List Value)(ns' ms':List PyData),rest=vs.zip ws/\
   vs.length=ns'.length/\ws.length=ms'.length/\adw A.in1 ⟨hp,g,d,tk,os⟩ vs ws ns' ms'/\ns'.length+items2.size=ms'.length+items.size/\R (.ok (.ret (.bool (ltL ns' ms')))) ⟨hp,g,d,tk,os⟩) _
  case turn=>
   rintro⟨y,x⟩ rest b s' ⟨hb',rfl,vs,ws,ns',ms',hz,hvi,hwi,hpa,hlen,hR⟩
   cases vs with
   | nil=>rw[List.zip_nil_left]at hz;cases hz
   | cons v vs=>
    cases ws with
    | nil=>rw[List.zip_nil_right]at hz;cases hz
    | cons w' ws=>
     cases ns' with
     | nil=>cases hvi
     | cons n' ns'=>
      cases ms' with
      | nil=>cases hwi
      | cons m' ms'=>
       rw[List.zip_cons_cons]at hz
       injection hz with hyx hrest
       injection hyx with hy hx
       subst hy hx
       obtain⟨he,hlt,hpa'⟩:=hpa
       have hR':R (.ok (.ret (.bool (if cj n' m'=true then ltL ns' ms' else ltD n' m')))) ⟨hp,g,d,tk,os⟩:=hR
       simp only[b8]at hlen hvi hwi
       refine aa (he prog w _ _ ?_)
       cases hq:cj n' m' with
       | true=>
        rw[hq,if_pos rfl]at hR'
        wp_walk
        exact⟨rfl,rfl,(m8 _ _ _ _ ⟨hrest,by omega,by omega,hpa',by omega,hR'⟩)⟩
       | false=>
        rw[hq,if_neg aj]at hR'
        have hri:=hlt prog w
        wp_walk using hri
        exact⟨_,rfl,by simpa using hR'⟩
  case fin=>
   rintro⟨b1,b2⟩ s' ⟨hb',rfl,vs,ws,ns',ms',hz,hvi,hwi,hpa,hlen,hR⟩
   simp only at hb'
   subst hb'
   have hv:ltL ns' ms'=decide (items.size<items2.size):=by
    cases ns' with
    | nil=>
     cases ms' with
     | nil=>
      simp only[j8]at hlen
      show false=_
      exact(decide_eq_false (by omega)).symm
     | cons c u=>
      simp only[j8,b8]at hlen
      show true=_
      exact(decide_eq_true (by omega)).symm
    | cons a t=>
     cases ms' with
     | nil=>
      simp only[j8,b8]at hlen
      show false=_
      exact(decide_eq_false (by omega)).symm
     | cons c u=>
      cases vs with
      | nil=>cases hvi
      | cons v vs=>
       cases ws with
       | nil=>cases hwi
       | cons w' ws=>
        rw[List.zip_cons_cons]at hz
        cases hz
   rw[hv]at hR
   wp_walk
   exact⟨_,rfl,by simpa [Builtin.Tuple.tupleCompareSizes]using hR⟩
  case h=>
   exact⟨rfl,rfl,(m8 items.toList items2.toList xs ys ⟨rfl,hi,hj,hP,by omega,h⟩)⟩
end
mutual
theorem ahz:∀(x y:PyData),Cmp x y->∀(A:Around)(s:Shared)(u v:Value)(as bs:List Addr),Reads s.heap u x as->Reads s.heap v y bs->x.canLay0=true->y.canLay0=true->
  A.units+min x.depth y.depth<cLine->LtAt A s u v (ltD x y)
 | .int a,.int b,_=>by
  intro A s u v as bs r1 r2 _ _ _
  cases r1;cases r2
  exact LtAt.int _ _ _ _
 | .str a,.str b,_=>by
  intro A s u v as bs r1 r2 _ _ _
  cases r1;cases r2
  exact LtAt.str _ _ _ _
 | .tuple xs,.tuple ys,hc=>by
  intro A s u v as bs r1 r2 h1 h2 hu
  cases r1 with
  | @tuple a o vs n _ _ e1 e2 e3 z=>
   cases r2 with
   | @tuple a' o' vs' n' _ _ f1 f2 f3 z'=>
    obtain⟨cls,dd,data,sl⟩:=o
    obtain⟨cls2,dd2,data2,sl2⟩:=o'
    simp only at e2 e3 f2 f3
    subst e2 e3 f2 f3
    intro prog w E Q hq
    have hp:=ut xs ys hc A.in1 s _ _ _ _ z z' h1 h2 (SeqAt.room_in hu)
    exact richCompare_meets_room (op:=.Lt) ⟨_,e1,rfl⟩ ⟨_,f1,rfl⟩ PySem.F.slot_tuple_lt PySem.F.entry_tuple_lt (PySem.F.args_tuple_lt_2 _ _) (ab9 a a' vs vs' n n' dd dd2 sl sl2 xs ys (jp _ _ _ z) (jp _ _ _ z'))
     ⟨e1,f1,hp,show Value.bool (ltL xs ys)≠Value.notImplemented/\Q (.bool (ltL xs ys)) s from ⟨(λx=>nomatch x),hq⟩⟩ (SeqAt.room_here hu)
theorem ut:∀(xs ys:List PyData),ah1 xs ys->∀(A:Around)(s:Shared)(vs ws:List Value)(as bs:List Addr),ReadsAll s.heap vs xs as->ReadsAll s.heap ws ys bs->ic xs=true->ic ys=true->
  A.units+min (b7 xs) (b7 ys)<cLine->adw A s vs ws xs ys
 | [],_,_=>by
  intro A s vs ws as bs r1 r2 _ _ _
  cases r1
  cases r2 with
  | nil=>exact True.intro
  | cons _ _=>exact True.intro
 | x::xs,[],_=>by
  intro A s vs ws as bs r1 r2 _ _ _
  cases r1;cases r2
  exact True.intro
 | x::xs,y::ys,hc=>by
  intro A s vs ws as bs r1 r2 h1 h2 hu
  have h1':x.canLay0=true/\ic xs=true:=by simpa [ic]using h1
  have h2':y.canLay0=true/\ic ys=true:=by simpa [ic]using h2
  cases r1 with
  | cons ra rb=>
   cases r2 with
   | cons rc rd=>
    exact⟨SeqAt.eqAt_reads x y A s _ _ _ _ ra rc h1'.1 h2'.1 (SeqAt.room_head hu),ahz x y (show Cmp x y/\ah1 xs ys from hc).1 A s _ _ _ _ ra rc h1'.1 h2'.1 (SeqAt.room_head hu),
     ut xs ys (show Cmp x y/\ah1 xs ys from hc).2 A s _ _ _ _ rb rd h1'.2 h2'.2 (SeqAt.room_tail hu)⟩
end
section
variable{prog:Program}{w:World}{A:Around}{E:Value->Shared->Prop}{s:Shared}{Q:Bool->Shared->Prop}
theorem af6{b fin:Bool}:∀(xs ys:List PyData)(vs ws:List Value)(i:Nat),(b=false\/0<i)->vs.length=xs.length->ws.length=ys.length->adw A s vs ws xs ys->fin=decide (xs.length<ys.length)->Q (ltL xs ys) s->
  PySem.W.KatLex prog w A b fin Q (vs.zip ws) i s
 | [],ys,vs,ws,i,hb,l1,l2,hp,hf,q=>by
  cases vs with
  | cons v vs=>cases l1
  | nil=>
   rw[List.zip_nil_left]
   refine PySem.W.kat_nil ?_
   rw[hf]
   cases ys with
   | nil=>exact q
   | cons y ys=>exact q
 | x::xs,[],vs,ws,i,hb,l1,l2,hp,hf,q=>by
  cases ws with
  | cons v vs=>cases l2
  | nil=>
   rw[List.zip_nil_right]
   refine PySem.W.kat_nil ?_
   rw[hf]
   exact q
 | x::xs,y::ys,vs,ws,i,hb,l1,l2,hp,hf,q=>by
  cases vs with
  | nil=>cases l1
  | cons v vs=>
   cases ws with
   | nil=>cases l2
   | cons w' ws=>
    rw[List.zip_cons_cons]
    obtain⟨he,hlt,hp'⟩:=hp
    have q':Q (if cj x y=true then ltL xs ys else ltD x y) s:=q
    refine PySem.W.kat_cons (he prog w _ _ ?_)
    cases hq:cj x y with
    | true=>
     rw[hq,if_pos rfl]at q'
     refine PySem.W.kat_yes (af6 xs ys vs ws (i+1) (.inr (Nat.succ_pos _)) (by simpa using l1) (by simpa using l2) hp' ?_ q')
     rw[hf]
     simp
    | false=>
     rw[hq,if_neg aj]at q'
     refine PySem.W.kat_no ?_
     have hb':(b&&i==0)=false:=by
      rcases hb with h|h
      .rw[h];rfl
      .have:(i==0)=false:=by simp;omega
       rw[this];simp
     rw[hb']
     exact PySem.W.kat_one _ _ (hlt prog w _ _ q')
theorem asv{u v:Value}{x y:PyData}{as bs:List Addr}(r1:Reads s.heap u x as)(r2:Reads s.heap v y bs)(hx:∃xs,x=.tuple xs)(hy:∃ys,y=.tuple ys)(l1:x.canLay0=true)(l2:y.canLay0=true)(hc:Cmp x y)
  (hu:A.units+min x.depth y.depth<cLine) (q:Q (ltD x y) s):wpAny (model prog w) A (keyLt' (tuples' false) u v) Q E s:=by
 obtain⟨xs,rfl⟩:=hx
 obtain⟨ys,rfl⟩:=hy
 cases r1 with
 | @tuple a o vs n _ _ e1 e2 e3 z=>
  cases r2 with
  | @tuple a' o' vs' n' _ _ f1 f2 f3 z'=>
   have k1:=jp _ _ _ z
   have k2:=jp _ _ _ z'
   refine PySem.W.kat_lt e1 e3 f1 f3 (af6 xs ys _ _ 0 (.inl rfl) k1 k2 (ut xs ys hc A s _ _ _ _ z z' l1 l2 ?_) ?_ q)
   .have h1:(PyData.tuple xs).depth=b7 xs+1:=rfl
    have h2:(PyData.tuple ys).depth=b7 ys+1:=rfl
    rw[h1,h2]at hu
    omega
   .rw[au]at k1 k2
    rw[k1,k2]
end
def TT(d:PyData):Prop:=∃r rest,d=.tuple (.tuple r::rest)
theorem aga{h:Heap}:∀(os:List Value)(ds:List PyData),os.length=ds.length->(∀(i:Nat) v d,os[i]?=some v->ds[i]?=some d->TT d/\∃as,Reads h v d as)->
  ∃fs:List Value,PySem.W.KatTups h os fs/\fs.length=os.length/\∀v∈fs,∃a o,v=.ref a/\h.get? a=some o/\o.cls=.type "tuple"
 | [],_,_,_=>⟨[],trivial,rfl,λv hv=>by cases hv⟩
 | v::os,[],hl,_=>by cases hl
 | v::os,d::ds,hl,hr=>by
  obtain⟨⟨r,rest,rfl⟩,as,rd⟩:=hr 0 v d rfl rfl
  obtain⟨fs,k1,k2,k3⟩:=aga os ds (by simpa using hl) λi v d h1 h2=>hr (i+1) v d (by simpa using h1) (by simpa using h2)
  cases rd with
  | @tuple a o vs n _ _ e1 e2 e3 z=>
   generalize hv:vs.toList=vl at z
   cases z with
   | cons ra rb=>
    cases ra with
    | @tuple a' o' vs' n' _ _ f1 f2 f3 z'=>
     refine⟨.ref a'::fs,PySem.W.KatTups.cons e1 e2 e3 (by rw[<-bb,hv];rfl) k1,by rw[b8,b8,k2],λv hv=>?_⟩
     rcases bq.mp hv with rfl|hv
     .exact(mw a' o' ⟨rfl,f1,f2⟩)
     .exact k3 v hv
def RL(R:Value->PyData->Prop):List Value->List PyData->Prop
 | [],[]=>True
 | v::vs,d::ds=>R v d/\RL R vs ds
 | _,_=>False
theorem RL.perm{R:Value->PyData->Prop}{os vs:List Value}(p:os.Perm vs):∀{ds:List PyData},RL R vs ds->∃dos,dos.Perm ds/\RL R os dos:=by
 induction p with
 | nil=>intro ds h;exact⟨ds,.refl _,h⟩
 | cons x p ih=>
  intro ds h
  cases ds with
  | nil=>exact h.elim
  | cons d ds=>
   obtain⟨dos,p',h'⟩:=ih h.2
   exact⟨d::dos,p'.cons d,h.1,h'⟩
 | swap x y l=>
  intro ds h
  match ds,h with
  | d1::d2::ds,h=>exact⟨d2::d1::ds,.swap _ _ _,h.2.1,h.1,h.2.2⟩
 | trans p1 p2 ih1 ih2=>
  intro ds h
  obtain⟨d1,q1,h1⟩:=ih2 h
  obtain⟨d2,q2,h2⟩:=ih1 h1
  exact⟨d2,q2.trans q1,h2⟩
theorem RL.length{R:Value->PyData->Prop}:∀{vs:List Value} {ds:List PyData},RL R vs ds->vs.length=ds.length
 | [],[],_=>rfl
 | v::vs,d::ds,h=>by rw[b8,b8,RL.length h.2]
 | [],_::_,h=>h.elim
 | _::_,[],h=>h.elim
theorem RL.at{R:Value->PyData->Prop}:∀{vs:List Value} {ds:List PyData} {i:Nat} {v:Value} {d:PyData},RL R vs ds->vs[i]?=some v->ds[i]?=some d->R v d
 | v::vs,d::ds,0,_,_,h,h1,h2=>by cases h1;cases h2;exact h.1
 | v::vs,d::ds,i+1,_,_,h,h1,h2=>RL.at h.2 (by simpa using h1) (by simpa using h2)
 | [],_,_,_,_,_,h1,_=>by simp at h1
 | _::_,[],_,_,_,h,_,_=>h.elim
theorem RL.els{Pv:Value->PyData->Prop}{w:World}{h:Heap}:∀{es:List (Int×Value)} {ds:List PyData},Els Pv w h es ds->RL (λv d=>∃k,El Pv w h (k,v) d) (es.map (·.2)) ds
 | [],ds,x=>by rw[akh x];exact True.intro
 | e::es,ds,x=>by
  obtain⟨d,ds',rfl,h1,h2⟩:=wm x
  exact⟨⟨e.1,h1⟩,RL.els h2⟩
theorem Inv.drawn{X:Cx}{pins:List (Addr×Obj)}{σ:L2.St}{H:Hp}{s:Shared}(I:Inv X pins σ H s)(dr:Drawn):Inv X pins σ H {s with drawn:=dr}:=⟨I.ok,I.os,I.bare,I.base,I.loc,I.cell,I.free,I.freeC,I.pin,I.hok,I.len⟩
def axx(prog:Program)(w:World)(K:ai):R2:=λx y H Q=>∃(p:Addr)(k:Str)(o:Obj) (kvs:List (Str×Value)) (v:Int) (t:Tok),x=.ref p/\y=.str k/\K.lookup p=some o/\o.IsDictOf (strKind prog w) kvs/\valueAt kvs k=some (.int v t)/\Q (.int v) H
section
variable{X:Cx}{x:Str}{pos:Pos}
theorem ao4:IxR X (axx X.prog X.w X.K):=by
 intro value slice pins s σ H x y v u Q I rx ry h hs
 obtain⟨p,k,o,kvs,n,t,rfl,rfl,hk,hd,hv,q⟩:=h
 cases rx
 obtain⟨t',rfl⟩:=ry
 have hm:s.heap.DictOf (strKind X.prog X.w) p kvs:=Heap.dictOf_iff.mpr ⟨o,I.kIn p o hk,hd⟩
 exact tail_any hm.typeIs slot_dict_getitem.lookup (wpAny_getItem_of (strKind_is _ _ k t') hm.mapOf hv (mw (.int n) H ⟨I.tok _,⟨t,rfl⟩,q⟩)) hs
theorem ame{a:Addr}(h:X.mg x=some (.ref a))(hg:Gl X x)(hd:(x==("__debug__" : Str))=false:=by decide):PE X (.Name x pos) (tC (.ref a)):=ajz hg h rfl hd
end
open Classical in
theorem ah5{h:Heap}{lt:PyData->PyData->Bool}{os:List Value}{dos:List PyData}(hl:os.length=dos.length)(rd:∀(i:Nat)(v:Value)(d:PyData),os[i]?=some v->dos[i]?=some d->d.canLay0=true/\∃as,Reads h v d as)(o:anh lt dos) :
  ∃g:Value->Int,(∀(i j:Nat)(u v:Value)(d e:PyData),os[i]?=some u->dos[i]?=some d->os[j]?=some v->dos[j]?=some e->decide (g u<g v)=lt d e)/\
   ∀us:List Value,us.Perm os->us.Pairwise (λx y=>g x<=g y)->∃T:List (PyData×Value),T.map (·.2)=us/\(T.map (·.1)).Perm dos/\(T.map (·.1)).Pairwise (λx y=>lt y x=false)/\∀t∈T,∃i:Nat,dos[i]?=some t.1/\os[i]?=some t.2:=by
 obtain⟨g,hg⟩:∃g:Value->Int,∀(i:Nat)(d:PyData)(u:Value),dos[i]?=some d->os[i]?=some u->g u=abz lt dos d:=by
  refine⟨λu=>if h:∃d,∃as,Reads h u d as/\d∈dos then abz lt dos h.choose else 0,λi d u h1 h2=>?_⟩
  obtain⟨lay,as,r⟩:=rd i u d h2 h1
  have hx:∃d,∃as,Reads h u d as/\d∈dos:=(mw d as ⟨r,aq h1⟩)
  show(if h:∃d,∃as,Reads h u d as/\d∈dos then abz lt dos h.choose else 0)=_
  rw[dif_pos hx]
  obtain⟨bs,rb,_⟩:=hx.choose_spec
  rw[SeqAt.Reads.unique d hx.choose u as bs lay r rb]
 refine⟨g,λi j u v d e u1 d1 v1 e1=>?_,λus p up=>?_⟩
 .rw[hg i d u d1 u1,hg j e v e1 v1]
  exact ab6 o (aq d1) (aq e1)
 .have second:(dos.zip os).map (λt=>t.2)=os:=List.map_snd_zip (by omega)
  have first:(dos.zip os).map (λt=>t.1)=dos:=List.map_fst_zip (by omega)
  obtain⟨T,tp,te⟩:=ade (λt:PyData×Value=>t.2) p second
  have tm:∀t∈T,∃i:Nat,dos[i]?=some t.1/\os[i]?=some t.2:=λt ht=>by
   obtain⟨i,hi⟩:=cp.mp (tp.mem_iff.mp ht)
   obtain⟨a1,a2⟩:=List.getElem?_zip_eq_some.mp hi
   exact⟨i,a1,a2⟩
  refine⟨T,te,?_,?_,tm⟩
  .have:=tp.map (λt=>t.1)
   rw[first]at this
   exact this
  .rw[gn]
   rw[<-te,gn]at up
   refine j7 (λ{a b} ha hb hab=>?_) up
   obtain⟨i,a1,a3⟩:=tm a ha
   obtain⟨j,b1,b3⟩:=tm b hb
   rw[hg i _ _ a1 a3,hg j _ _ b1 b3]at hab
   rw[<-ab6 o (aq b1) (aq a1)]
   exact decide_eq_false (by omega)
section
variable{prog:Program}{w:World}{A:Around}{E:Value->Shared->Prop}{s:Shared}
theorem aeu{a:Addr}{o:Obj}{es:Array (Int×Value)}{ep:Nat}{t:SetTable}{κ:SortKind}{Q:Value->Shared->Prop}(hh:A.handled=none)(ho:s.heap.get? a=some o)(hex:o.ExactSet)(hd:o.data=.set es ep t)(ok:TOk t es)(hled:t.led = !byT w)(hsz:es.size<=4000)
  (h:∀os:List Value,os.Perm (es.toList.map (·.2))->∃g:Value->Int,(2<=os.length->∀s':Shared,Keep s.heap s'.heap->
   (∀(Q:SortKind->Shared->Prop)(E:Value->Shared->Prop),Q κ s'->wpAny (model prog w) A.in1.in1 (keyKind' os.toArray) Q E s')/\
   ∀x y,x∈os->y∈os->∀(Q:Bool->Shared->Prop),Q (decide (g x<g y)) s'->wpAny (model prog w) A.in1.in1 (keyLt' κ x y) Q (λ_ _=>False) s')/\
   ∀(us:List Value)(h1 h2:Heap) dr e,us.Perm os->us.Pairwise (λx y=>g x<=g y)->Keep s.heap h1->Keep h1 h2->h2.get? h1.objs.size=some (seqObj "list" us.toArray e)->Q (.ref h1.objs.size) {s with heap:=h2,drawn:=dr}) :
  wpAny (model prog w) A (call (.builtin "sorted") [.ref a]) Q E s:=by
 refine Calls.call_function_entry kind_sorted plain_sorted entry_sorted (args_sorted1 _) ?_
 unfold Builtin.«sorted»
 refine aa (m:=checkCount "sorted" 1 1 _) (af ?_)
 refine aa (adi (A:=A.in1) hh ho hex hd ok hled hsz λh1 os dr hp k1=>?_)
 obtain⟨g,hk,h⟩:=h os hp
 have hol:os.length<=sizeLine:=by rw[hp.length_eq,ah,au,io];omega
 refine aa (wpAny_newList ?_ hol)
 have hoL:(h1.push (seqObj "list" os.toArray 0)).get? h1.objs.size=some (seqObj "list" os.toArray 0):=av _ rfl
 have keep:Keep h1 (h1.push (seqObj "list" os.toArray 0)):=λb o q=>ak _ q
 show wpAny _ _ _ _ _ {s with heap:=h1.push (seqObj "list" os.toArray 0),drawn:=dr}
 refine aa (fk (cf slot_list_sort ⟨_,hoL,rfl⟩ entry_list_sort ?body (args_list_sort _)))
 case body=>
  refine vt (κ:=κ) (g:=g) hoL hol (λh2 s' k=>hk h2 s' λb o e=>k b o (c9 (bn (k1 b o e))) (keep b o (k1 b o e))) λus u1 u2=>?_
  obtain⟨e,he⟩:=sortedHeap_at (out:=us.toArray) hoL
  refine⟨_,rfl,af ⟨_,rfl,h us h1 _ dr e u1 u2 k1 (λb ob q=>?_) he⟩⟩
  exact(sortedHeap_old (c9 (bn q)) (by rw[size_push'];exact Nat.lt_succ_of_lt (bn q))).trans (keep b ob q)
end
structure aic(prog:Program)(w:World)(A:Around)(κ:SortKind)(lt:PyData->PyData->Bool)(ds:List PyData):Prop where
 ord:anh lt ds
 kind:∀(s:Shared)(os:List Value)(dos:List PyData),(∀d∈dos,d∈ds)->os.length=dos.length->2<=os.length->(∀(i:Nat)(v:Value)(d:PyData),os[i]?=some v->dos[i]?=some d->∃as,Reads s.heap v d as)->
  ∀(Q:SortKind->Shared->Prop)(E:Value->Shared->Prop),Q κ s->wpAny (model prog w) A (keyKind' os.toArray) Q E s
 key:∀(s:Shared)(u v:Value)(d e:PyData)(as bs:List Addr),d∈ds->e∈ds->Reads s.heap u d as->Reads s.heap v e bs->d.canLay0=true->e.canLay0=true->∀(Q:Bool->Shared->Prop),Q (lt d e) s->wpAny (model prog w) A (keyLt' κ u v) Q (λ_ _=>False) s
section
variable{X:Cx}{pins:List (Addr×Obj)}{σ:L2.St}{H:Hp}{s:Shared}
theorem aai(I:Inv X pins σ H s){Pv:Value->PyData->Prop}(hPv:∀v d,Pv v d->∃x,RelV x v/\Rep H d x){a:Addr}{ds:List PyData}(hc:X.calm=true)(hS:SetD Pv X.w s.heap a ds)(hlen:ds.length<=4000){κ:SortKind}{lt:PyData->PyData->Bool}(sa:aic X.prog X.w X.A.in1.in1 κ lt ds){Q:VK}
  (q:∀(es:List PyData)(l:Addr)(ys:List V),es.Perm ds->es.Pairwise (λx y=>lt y x=false)->H l=none->RepAll (upd H l (.lst ys)) es ys->Q (.ref l) (upd H l (.lst ys))) :
  wpAny (model X.prog X.w) X.A (call (.builtin "sorted") [.ref a]) (EP X pins σ Q) X.xe s:=by
 obtain⟨o,es,ep,tb,ho,hex,hdat,ok,few,els,nd,hled⟩:=hS
 have hsz:es.size=ds.length:=by have:=els.1;rw[au]at this;exact this
 refine aeu (κ:=κ) (I.ok.hd hc) ho hex hdat ok hled (by omega) λos hperm=>?_
 obtain⟨dos,pd,rl⟩:=RL.perm hperm (RL.els els)
 have hol:os.length=dos.length:=rl.length
 have elt:∀(i:Nat) v d,os[i]?=some v->dos[i]?=some d->∃k,El Pv X.w s.heap (k,v) d:=λi v d h1 h2=>rl.at h1 h2
 have sub:∀d∈dos,d∈ds:=λd hd=>pd.mem_iff.mp hd
 have odos:anh lt dos:=⟨λx hx y hy=>sa.ord.asy x (sub x hx) y (sub y hy),λx hx y hy z hz=>sa.ord.tr x (sub x hx) y (sub y hy) z (sub z hz)⟩
 obtain⟨g,g1,g2⟩:=ah5 (h:=s.heap) hol (λi v d h1 h2=>by
  obtain⟨k,el⟩:=elt i v d h1 h2
  exact⟨el.lay,el.reads⟩) odos
 refine⟨g,λh2 s' kp=>⟨λQ' E' hq=>?_,λx y hx hy Q' hq=>?_⟩,λus h1 h2 dr e u1 u2 kp1 kp2 hg3=>?_⟩
 .refine sa.kind s' os dos sub hol h2 (λi v d h1 h2=>?_) Q' E' hq
  obtain⟨k,el⟩:=elt i v d h1 h2
  obtain⟨bs,rd⟩:=el.reads
  exact⟨bs,Reads.keeps kp rd⟩
 .obtain⟨i,hi⟩:=cp.mp hx
  obtain⟨j,hj⟩:=cp.mp hy
  have hi':i<dos.length:=by have:=(ae.mp hi).1;omega
  have hj':j<dos.length:=by have:=(ae.mp hj).1;omega
  have di:=ab hi'
  have dj:=ab hj'
  obtain⟨k,el⟩:=elt i _ _ hi di
  obtain⟨k',el'⟩:=elt j _ _ hj dj
  obtain⟨bs,rd⟩:=el.reads
  obtain⟨bs',rd'⟩:=el'.reads
  rw[g1 i j x y _ _ hi di hj dj]at hq
  exact sa.key s' x y _ _ bs bs' (sub _ (dv hi')) (sub _ (dv hj')) (Reads.keeps kp rd) (Reads.keeps kp rd') el.lay el'.lay Q' hq
 .obtain⟨T,te,tp,tu,tm⟩:=g2 us u1 u2
  have tr:∀t∈T,∃x,RelV x t.2/\Rep H t.1 x:=λt ht=>by
   obtain⟨i,a1,a2⟩:=tm t ht
   obtain⟨k,el⟩:=elt i _ _ a2 a1
   exact hPv _ _ el.own
  obtain⟨ys,v1,v2⟩:∃ys,Vals ys us/\RepAll H (T.map (·.1)) ys:=by
   rw[<-te]
   clear te tp tu tm
   induction T with
   | nil=>exact⟨[],.nil,rfl⟩
   | cons t T ih=>
    obtain⟨x,x1,x2⟩:=tr t bj
    obtain⟨ys,y1,y2⟩:=ih λt ht=>tr t (bf _ ht)
    exact(oj (x::ys) (.cons x1 y1) x ys ⟨rfl,x2,y2⟩)
  have I3:Inv X pins σ H {s with heap:=h1,drawn:=dr}:=(L3.Inv.drawn I dr).kept (t':=s.toks) kp1
  have hn:H h1.objs.size=none:=I3.hok.fresh (am _)
  have hyl:=v2.length
  have htl:=tp.length_eq
  have hpl:=pd.length_eq
  have hz':ys.length<=sizeLine:=by rw[io];omega
  have hsame:Same H (upd H h1.objs.size (.lst ys)):=λb o q=>by rw[nj (pf q hn)];exact q
  exact(mw (.ref h1.objs.size) _ ⟨I3.laid (t':=s.toks) (o:=.lst ys) kp2 (am _) ⟨hz',(mw _ e ⟨v1,hg3⟩)⟩,rfl,q (T.map (·.1)) _ ys (tp.trans pd) tu hn (v2.same hsame)⟩)
end
theorem aoc{ds:List PyData}(h:CmpA ds):anh ltD ds:=⟨λx hx y hy q=>by
  rw[zn (h.1 x hx y hy)]at q
  rw[zn (h.1 y hy x hx)]
  exact decide_eq_false (List.lt_asymm (of_decide_eq_true q)),λx hx y hy z hz q1 q2=>by
  rw[zn (h.1 y hy x hx)]at q1
  rw[zn (h.1 z hz y hy)]at q2
  rw[zn (h.1 z hz x hx)]
  have h1:enc x<=enc y:=of_decide_eq_false q1
  have h2:enc y<=enc z:=of_decide_eq_false q2
  exact decide_eq_false (List.le_trans h1 h2)⟩
theorem aii{prog:Program}{w:World}{A B:Around}{ds:List PyData}(hu:B.units+64<cLine)(hB:A=B.in1.in1)(hkey:∀d∈ds,atu d/\TT d)(hcmp:CmpA ds):aic prog w A (tuples' false) ltD ds where
 ord:=aoc hcmp
 kind:=λs os dos hs hl h2 r Q E q=>by
  obtain⟨fs,k1,k2,k3⟩:=aga (h:=s.heap) os dos hl λi v d h1 h2=>by
   obtain⟨bs,rd⟩:=r i v d h1 h2
   exact⟨(hkey d (hs d (aq h2))).2,bs,rd⟩
  refine PySem.W.kat_kind (T:=Value.type "tuple") k1 (by omega) (λv hv=>?_) rfl q
  obtain⟨a,o,rfl,g1,g2⟩:=k3 v hv
  rw[<-g2]
  exact(PySem.W.Looks.ld g1).andThen .now
 key:=λs u v d e as bs hd he r1 r2 l1 l2 Q q=>by
  refine asv r1 r2 (hkey _ hd).1.2.1 (hkey _ he).1.2.1 l1 l2 (hcmp.1 _ hd _ he) ?_ q
  have:=(hkey _ hd).1.2.2
  have:=Nat.min_le_left d.depth e.depth
  subst hB
  show B.units+1+1+_<_
  omega
section
variable{X:Cx}
def ax3:List V->Hp->VK->Prop:=λxs H Q=>∃(p:Addr)(bs:List Bool),xs=[.ref p]/\H p=some (.lst (bs.map V.bl))/\Q (.bl (bs.any id)) H
theorem akx:∀(bs:List Bool),((b9 bs.length).any λi=>(bs[i]?).getD true)=bs.any id:=λbs=>by
 rw[ig,gz,gz]
 constructor
 .rintro⟨i,hi,h⟩
  have hi':i<bs.length:=by simpa using hi
  exact⟨bs[i],dv hi',by simpa [hi']using h⟩
 .rintro⟨b,hb,h⟩
  obtain⟨i,hi,rfl⟩:=List.mem_iff_getElem.mp hb
  exact⟨i,by simpa using hi,by simpa [hi]using h⟩
theorem xw(hc:X.calm=true):sw X (.builtin "any") ax3:=by
 intro pins s σ H xs us Q I r h
 obtain⟨p,bs,rfl,hp,q⟩:=h
 obtain⟨u,rfl,r1⟩:=sy r
 cases (show u=Value.ref p from r1)
 obtain⟨its,rv,pl,hz⟩:=I.list (SqL.of (K:=X.K) hp)
 have hlt:p<s.heap.objs.size:=by obtain⟨_,_,e,_⟩:=pl;exact bn e
 have hlen:its.length=bs.length:=by rw[<-rv.length,ah]
 refine call_any_walk (wpAny_pyIter_list pl.isList ?_)
 refine⟨s.heap.objs.size,[s.heap.objs.size,p],[s.heap.objs.size],its.toArray.size,_,_,λi=>(bs[i]?).getD true,rfl,Walks.list (A:=X.A.in1) (I.ok.hd hc) _ p (c9 hlt) its.toArray,
  ⟨⟨_,av _ rfl,rfl,rfl⟩,pl.isList.push _⟩,λi v s' Q' E' hP hQ=>?_,λh' tk hk=>?_⟩
 .have hi:its[i]?=some v:=by simpa using hP
  have hi2:i<bs.length:=by rw[<-hlen];exact(ae.mp hi).1
  obtain⟨u',e1,e2⟩:=rv.get (i:=i) (x:=.bl bs[i]) (by rw[aw,ab hi2];rfl)
  rw[hi]at e1;cases e1
  cases (show v=Value.bool bs[i]from e2)
  have hQ2:Q' ((bs[i]?).getD true) s':=hQ
  rw[ab hi2]at hQ2
  exact fy hQ2
 .refine(mw (.bl _) H ⟨I.kept (λb o e=>hk b o (λhm=>?_) (ak _ e)),rfl,?_⟩)
  .rw[ao.mp hm]at e
   exact jc _ (bn e)
  .rw[ay,hlen,akx]
   exact q
end
end L3
namespace HT
open PySem PyProof.Rows
section
variable{prog:Program}{w:World}{A:Around}{E:Value->Shared->Prop}{s:Shared}
theorem getItem_tuple_all{t sl:Addr}{items:Array Value}{vl vu:Value}{lo hi:Option Int}{Q:Value->Shared->Prop}(ht:IsTup s.heap t items)(hs:s.heap.IsSliceOf sl vl vu .none)(pl:IsPart vl lo)(pu:IsPart vu hi)
  (hw:sIx items.size 0 lo=0/\sIx items.size items.size hi=items.size) (h:Q (.ref t) s):wpAny (model prog w) A (getItem (.ref t) (.ref sl)) Q E s:=by
 obtain⟨os,hos,hcs,hds⟩:=id hs
 have hTs:s.TypeIs (.ref sl) "slice":=⟨os,hos,hcs⟩
 unfold getItem
 try with_reducible refine fk ?_
 first|refine aa (af ?_)|skip
 refine aa (wpAny_sequenceKey ht.typeIs (by decide) ?_)
 refine aa (ce (name:=ba "__getitem__") ht.typeIs gm
  (cf gm ht.typeIs entry_tuple_getitem ?_ (args_tuple_getitem _ _)))
 show wpAny _ _ (Builtin.Tuple.tupleItemsOf (.ref t) >>= _) _ _ s
 refine aa (tupleItemsOf_ ht ?_)
 refine aa (wpAny_typeOf hTs ?_)
 rw[if_pos (by decide)]
 refine aa (sv hs pl pu ?_)
 have hyes:(((sIx items.size 0 lo:Nat):Int)==0&&(1:Int)==1&&(sIx items.size items.size hi-sIx items.size 0 lo)==items.size)=true:=by
  rw[hw.1,hw.2]
  simp
 show wpAny _ _ (if (((sIx items.size 0 lo:Nat):Int)==0&&(1:Int)==1&&(sIx items.size items.size hi-sIx items.size 0 lo)==items.size)=true then _ else _) _ _ s
 rw[if_pos hyes]
 refine aa (m:=Builtin.Tuple.tupleIsExact _) ?_
 unfold Builtin.Tuple.tupleIsExact
 refine aa (wpAny_typeOf ht.typeIs (af ?_))
 rw[if_pos (by decide)]
 exact aa (jz (af ⟨_,rfl,af h⟩))
end
end HT
namespace L3
open PySem PySem.Spec PyProof.Rows L2
section
variable{X:Cx}
def awg(K:ai):V->Option Int->Option Int->Hp->VK->Prop:=λx lo hi H Q=>∃a xs,x=.ref a/\SqT K H a xs/\
 ((HT.sIx xs.length 0 lo=0/\HT.sIx xs.length xs.length hi=xs.length)->Q (.ref a) H)/\(¬(HT.sIx xs.length 0 lo=0/\HT.sIx xs.length xs.length hi=xs.length)->∀p,H p=none->Q (.ref p) (upd H p (.tup (ac4 xs lo hi))))
theorem aos:SlR X (awg X.K):=by
 intro pins s σ H x v vl vu lo hi sl Q I rx hs pl pu h
 obtain⟨a,xs,rfl,hx,q1,q2⟩:=h
 by_cases hw:HT.sIx xs.length 0 lo=0/\HT.sIx xs.length xs.length hi=xs.length
 .cases rx
  obtain⟨its,r,ht,hz⟩:=I.tuple hx
  have hlen:its.toArray.size=xs.length:=by rw[ay];exact r.length.symm
  refine(mw ("tuple") _ ⟨gm.lookup,ht.typeIs,?_⟩)
  exact HT.getItem_tuple_all ht hs pl pu (by rw[hlen];exact hw) (mw (.ref a) H ⟨I,rfl,q1 hw⟩)
 .exact ark pins s σ H _ v vl vu lo hi sl Q I rx hs pl pu (mw a xs ⟨rfl,hx,hw,q2 hw⟩)
end
end L3
namespace L3
open PySem PySem.Spec PyProof.Rows L2
end L3
namespace L3
open PySem PyProof.Rows L2
theorem avc{P:List Value->Prop}(h:P []):∀us:List Value,us.length=0->P us:=λus e=>by cases us with|nil=>exact h|cons a t=>cases e
theorem al2{P:List Value->Prop}{n:Nat}(h:∀a (t:List Value),t.length=n->P (a::t)):∀us:List Value,us.length=n+1->P us:=λus e=>by cases us with|nil=>cases e|cons a t=>exact h a t (Nat.succ.inj e)
theorem ars{P:List Value->Prop}(h:∀a,P [a]):∀us:List Value,us.length=1->P us:=al2 (n:=0) λa=>avc (P:=λt=>P (a::t)) (h a)
theorem aoa{P:List Value->Prop}(h:∀a b,P [a,b]):∀us:List Value,us.length=2->P us:=al2 (n:=1) λa=>ars (P:=λt=>P (a::t)) (h a)
theorem atm{P:List Value->Prop}(h:∀a b c,P [a,b,c]):∀us:List Value,us.length=3->P us:=al2 (n:=2) λa=>aoa (P:=λt=>P (a::t)) (h a)
theorem auz{P:List Value->Prop}(h:∀a b c d,P [a,b,c,d]):∀us:List Value,us.length=4->P us:=al2 (n:=3) λa=>atm (P:=λt=>P (a::t)) (h a)
def Df(K:ai)(n:Str)(st:Stmt):Prop:=∃f fd,dg K mainGlobals n=some (some (.ref f))/\Fun K n n st f fd
theorem df_mk{K:ai}{n:Str}{st:Stmt}{f:Addr}{oc:Value}{od an:Option Addr}{sl:Array (Option Value)}{kV dc pm cd ct:Value}(a:dg K mainGlobals n=some (some (.ref f)))
  (l:K.lookup f=some ⟨oc,od,.func (kb n n (uh st) (sk st) (mj st) .none kV dc pm an cd ct),sl⟩) (c:PySem.W.codeIn K cd n=true) (k:lg K (.ref f)=true):Df K n st:=(mw f _ ⟨a,anj l c k⟩)
theorem Df.fn{P:Program}{w:World}{K:ai}{h base:Heap}{mg:Str->Option Value}{n:Str}{st:Stmt}{d:Nat}{ps:List Str}{sp:Sp}(D:Df K n st)(X:K.In h)(G:h.Ns mainGlobals mg)(ok:∀{f fd},Fun K n n st f fd->qe P w K mg base CX0 d f fd ps sp)
  (b:∀(kV doc pm:Value)(an:Option Addr)(cdv ct:Value)(us:List Value),us.length=ps.length->bindArgs (kb n n (uh st) (sk st) (mj st) .none kV doc pm an cdv ct) ⟨us,[]⟩=pure (ps.zip us):=by
   intro _ _ _ _ _ _
   first
   | exact ars (λ_=>rfl)
   | exact aoa (λ_ _=>rfl)
   | exact atm (λ_ _ _=>rfl)
   | exact auz (λ_ _ _ _=>rfl)):Fn P w K mg base n d ps sp:=by
 obtain⟨f,fd,a,F⟩:=D
 exact(mw f fd ⟨ok F,PySem.W.mg_of X G a,F.kp,F.binds b⟩)
end L3
namespace K23
open PySem PyProof.Rows L2 L3
noncomputable def top(i:Nat):Stmt:=PySem.Challenge.pw_coverpieces_k23_behind.main.body.getD i (.Pass ⟨0,0,0,0⟩)
noncomputable abbrev aua:Stmt:=top 1
noncomputable abbrev aig:Stmt:=top 2
noncomputable abbrev sTd:Stmt:=top 5
noncomputable abbrev av7:Stmt:=top 6
noncomputable abbrev sTr:Stmt:=top 7
noncomputable abbrev ai8:Stmt:=top 8
noncomputable abbrev sAt:Stmt:=top 12
noncomputable abbrev aoh:Stmt:=top 13
noncomputable abbrev ao6:Stmt:=top 14
noncomputable abbrev anq:Stmt:=top 15
noncomputable abbrev sOc:Stmt:=top 16
noncomputable abbrev aid:Stmt:=top 17
noncomputable abbrev avf:Stmt:=top 19
noncomputable abbrev avn:Stmt:=top 21
noncomputable abbrev avg:Stmt:=top 22
noncomputable abbrev avz:Stmt:=top 23
noncomputable abbrev avq:Stmt:=top 24
noncomputable abbrev aug:Stmt:=top 25
noncomputable abbrev avj:Stmt:=top 27
noncomputable abbrev ans:Stmt:=top 32
noncomputable abbrev awa:Stmt:=top 33
noncomputable abbrev at5:Stmt:=top 34
noncomputable abbrev awh:Stmt:=top 35
noncomputable abbrev au3:Stmt:=top 36
noncomputable abbrev at7:Stmt:=top 37
noncomputable abbrev atz:Stmt:=top 38
noncomputable abbrev aty:Stmt:=top 39
noncomputable abbrev av1:Stmt:=top 40
noncomputable abbrev avo:Stmt:=top 41
noncomputable abbrev avi:Stmt:=top 42
noncomputable abbrev awm:Stmt:=top 43
noncomputable abbrev au9:Stmt:=top 44
noncomputable abbrev avy:Stmt:=top 45
noncomputable abbrev awb:Stmt:=top 46
noncomputable abbrev awl:Stmt:=top 47
noncomputable abbrev apd:Stmt:=top 49
noncomputable abbrev avl:Stmt:=top 50
noncomputable abbrev ao7:Stmt:=top 51
noncomputable abbrev aie:Stmt:=top 52
noncomputable abbrev akb:Stmt:=top 53
noncomputable abbrev au6:Stmt:=top 54
noncomputable abbrev auc:Stmt:=top 55
noncomputable abbrev av0:Stmt:=top 56
noncomputable abbrev avr:Stmt:=top 57
noncomputable abbrev aud:Stmt:=top 58
noncomputable abbrev auv:Stmt:=top 59
noncomputable abbrev at2:Stmt:=top 60
noncomputable abbrev avh:Stmt:=top 61
noncomputable abbrev avv:Stmt:=top 62
noncomputable abbrev ap1:Stmt:=top 63
noncomputable def tj:List Str:=["len","min","max","sorted","tuple","list","isinstance","bool","range","str","int","enumerate","all","any","set","zip","sum"]
section
variable{P:Program}{w:World}{K:ai}{mg:Str->Option Value}{base:Heap}{f:Addr}{fd:FuncData}
def alf(g:List PyData->List PyData):Sp:=λvs H Q _=>∃(a:Addr)(xs:List V)(ds:List PyData),vs=[.ref a]/\H a=some (.lst xs)/\RepAll H ds xs/\Spots ds/\0<ds.length/\ds.length<=64/\
 ∀(D:Addr)(ys:List V)(H':Hp),Same H H'->H' D=some (.lst ys)->RepAll H' (g ds) ys->Q (.ref D) H'
theorem scMir:mx ["spots","last"] ["spots"] (mj av7):={}
theorem scTr:mx ["spots","last"] ["spots"] (mj sTr):={}
theorem axv(m:Int)(r c:Int)(z:Str)(H':Hp)(Q':VK)(h:∃u v:Int,ap5 m (.tuple [.int r,.int c,.str z])=.tuple [.int u,.int v,.str z]/\∀n,H' n=none->Q' (.ref n) (upd H' n (.tup [.int u,.int v,.str z]))) :
  ar4 (vf (aeb 0) (vf (tOp (rI0 λi j=>.int (i-j)) (aeb 3) (aeb 1)) (vf (aeb 2) ap2))) [some (.int r),some (.int c),some (.str z),some (.int m)] H' Q':=by
 obtain⟨u,v,e,q⟩:=h
 cases (show PyData.tuple [.int r,.int (m-c),.str z]=.tuple [.int u,.int v,.str z]from e)
 exact(og _ rfl _ rfl _ rfl _ _ ⟨rfl,rfl,_,rfl,(by show 3<=sizeLine;decide),q⟩)
theorem axm(m:Int)(r c:Int)(z:Str)(H':Hp)(Q':VK)(h:∃u v:Int,ap6 m (.tuple [.int r,.int c,.str z])=.tuple [.int u,.int v,.str z]/\∀n,H' n=none->Q' (.ref n) (upd H' n (.tup [.int u,.int v,.str z]))) :
  ar4 (vf (aeb 1) (vf (tOp (rI0 λi j=>.int (i-j)) (aeb 3) (aeb 0)) (vf (aeb 2) ap2))) [some (.int r),some (.int c),some (.str z),some (.int m)] H' Q':=by
 obtain⟨u,v,e,q⟩:=h
 cases (show PyData.tuple [.int c,.int (m-r),.str z]=.tuple [.int u,.int v,.str z]from e)
 exact(og _ rfl _ rfl _ rfl _ _ ⟨rfl,rfl,_,rfl,(by show 3<=sizeLine;decide),q⟩)
theorem ate(B:∀x∈tj,mg x=none)(F:Fun K "mirrored" "mirrored" av7 f fd):qe P w K mg base CX0 1 f fd ["spots"] (alf afd):=by
 refine F.ok (k:=0) scMir (λvs H Q E h=>?_) (λcdv A outer s H vs Q E hr h=>?_)
 .obtain⟨a,xs,ds,rfl,_⟩:=h
  rfl
 obtain⟨a,xs,ds,rfl,ha,hrep,hs,hpos,h64,q⟩:=h
 refine⟨_,(lw (nc (i:=1) scMir.nd rfl (Or.inr rfl) (ajo rfl rfl (B "max" (by decide)) (mf (oq ["spot"] [none] rfl rfl (by decide +kernel) (by decide +kernel) rfl rfl (n0 (pv 0)) (λ_=>(mh (i:=0) (show(["spot"]:List PySem.Str).Nodup by decide +kernel) rfl (Or.inl rfl))) (λ_=>o8) (λ_=>(ng u9 (pv 0) l7 (λ_ _=>rfl)))) lv) (ajt l7 ane)))
  (ma (my (oq ["row","column","sign","last"] [none,none,none,some 1] rfl rfl (by decide +kernel) (by decide +kernel) rfl rfl (n0 (pv 0)) (λ_=>(qv (n:=3) rfl (mn (mh (i:=0) (show(["row","column","sign","last"]:List PySem.Str).Nodup by decide +kernel) rfl (Or.inl rfl)) (mn (mh (i:=1) (show(["row","column","sign","last"]:List PySem.Str).Nodup by decide +kernel) rfl (Or.inl rfl)) (mn (mh (i:=2) (show(["row","column","sign","last"]:List PySem.Str).Nodup by decide +kernel) rfl (Or.inl rfl)) o0))))) (λ_=>o8) (λ_=>(ni (mf (pv 0) (mf (ow u6 (pv 3) (pv 1)) (mf (pv 2) lv))))))))),?_⟩
 refine abh 1 yg atf rfl ha hrep hs h64 λD1 H1 s1 hD1=>?_
 refine⟨rfl,(mw D1 _ ⟨rfl,hD1,by rw[ah];exact hpos,λM1 m1 m1'=>?_⟩)⟩
 have em:=ajr m1 m1'
 refine ad3 ap5 rfl rfl (s1 _ _ ha) (hrep.same s1) hs h64 (axv M1) (λD ys H' hD s2 hDy rep=>q D ys H' (s1.trans s2) hDy (by unfold afd;rw[<-em];exact rep)) (λr c z=>(mw _ _ rfl))
theorem av5(B:∀x∈tj,mg x=none)(F:Fun K "turned_right" "turned_right" sTr f fd):qe P w K mg base CX0 1 f fd ["spots"] (alf ae9):=by
 refine F.ok (k:=0) scTr (λvs H Q E h=>?_) (λcdv A outer s H vs Q E hr h=>?_)
 .obtain⟨a,xs,ds,rfl,_⟩:=h
  rfl
 obtain⟨a,xs,ds,rfl,ha,hrep,hs,hpos,h64,q⟩:=h
 refine⟨_,(lw (nc (i:=1) scTr.nd rfl (Or.inr rfl) (ajo rfl rfl (B "max" (by decide)) (mf (oq ["spot"] [none] rfl rfl (by decide +kernel) (by decide +kernel) rfl rfl (n0 (pv 0)) (λ_=>(mh (i:=0) (show(["spot"]:List PySem.Str).Nodup by decide +kernel) rfl (Or.inl rfl))) (λ_=>o8) (λ_=>(ng u9 (pv 0) l7 (λ_ _=>rfl)))) lv) (ajt l7 ane)))
  (ma (my (oq ["row","column","sign","last"] [none,none,none,some 1] rfl rfl (by decide +kernel) (by decide +kernel) rfl rfl (n0 (pv 0)) (λ_=>(qv (n:=3) rfl (mn (mh (i:=0) (show(["row","column","sign","last"]:List PySem.Str).Nodup by decide +kernel) rfl (Or.inl rfl)) (mn (mh (i:=1) (show(["row","column","sign","last"]:List PySem.Str).Nodup by decide +kernel) rfl (Or.inl rfl)) (mn (mh (i:=2) (show(["row","column","sign","last"]:List PySem.Str).Nodup by decide +kernel) rfl (Or.inl rfl)) o0))))) (λ_=>o8) (λ_=>(ni (mf (pv 1) (mf (ow u6 (pv 3) (pv 0)) (mf (pv 2) lv))))))))),?_⟩
 refine abh 0 yi aqq rfl ha hrep hs h64 λD1 H1 s1 hD1=>?_
 refine⟨rfl,(mw D1 _ ⟨rfl,hD1,by rw[ah];exact hpos,λM1 m1 m1'=>?_⟩)⟩
 have em:=ajr m1 m1'
 refine ad3 ap6 rfl rfl (s1 _ _ ha) (hrep.same s1) hs h64 (axm M1) (λD ys H' hD s2 hDy rep=>q D ys H' (s1.trans s2) hDy (by unfold ae9;rw[<-em];exact rep)) (λr c z=>(mw _ _ rfl))
end
noncomputable def iter(i:Nat)(ds:List PyData):List PyData:=(b9 i).foldl (λa _=>ae9 a) ds
theorem aaj(i:Nat)(ds:List PyData):iter (i+1) ds=ae9 (iter i ds):=by
 unfold iter
 rw[j9,List.foldl_append]
 rfl
section
variable{P:Program}{w:World}{K:ai}{mg:Str->Option Value}{base:Heap}{f:Addr}{fd:FuncData}
def aw0:Sp:=λvs H Q _=>∃(a:Addr)(t:Nat)(xs:List V)(ds:List PyData),vs=[.ref a,.int (t:Nat)]/\(H a=some (.lst xs)\/H a=some (.tup xs))/\RepAll H ds xs/\Spots ds/\0<ds.length/\ds.length<=64/\t<8/\
 ∀(r:Addr)(H':Hp)(es:List PyData),Same H H'->es.Perm (ah4 t ds)->es.Pairwise (λx y=>ltR y x=false)->Rep H' (.tuple es) (.ref r)->Q (.ref r) H'
theorem scTd:mx ["form","t","spots","step"] ["form","t"] (mj sTd):={}
theorem aue(B:∀x∈tj,mg x=none)(Fmir:Fn P w K mg base "mirrored" 1 ["spots"] (alf afd))(Ftr:Fn P w K mg base "turned_right" 1 ["spots"] (alf ae9))(F:Fun K "turned" "turned" sTd f fd):qe P w K mg base CX0 2 f fd ["form","t"] aw0:=by
 refine F.ok (k:=1) scTd (λvs H Q E h=>?_) (λcdv A outer s H vs Q E hr h=>?_)
 .obtain⟨a,t,xs,ds,rfl,_⟩:=h
  rfl
 obtain⟨a,t,ys,ds,rfl,ha,rep0,hs0,hpos,h64,ht,q⟩:=h
 refine⟨_,(lw (nc (i:=2) scTd.nd rfl (Or.inl rfl) (wv ad1 rfl (B "list" (by decide)) boot_list (mf (pv 0) lv)))
  (lw (qp (oo ar5 (pv 1) l7 (oz _)) (ma (nc (i:=2) scTd.nd rfl (Or.inl rfl) (nh Fmir hr (by decide) rfl (mf (pv 2) lv)))) o7)
  (lw (p7 ci rfl (zp rfl (B "range" (by decide)) (mf (ow yz (pv 1) l7) lv)) (mh (i:=3) scTd.nd rfl (Or.inl rfl)) (ma (nc (i:=2) scTd.nd rfl (Or.inl rfl) (nh Ftr hr (by decide) rfl (mf (pv 2) lv)))))
  (ma (my (wv ou rfl (B "tuple" (by decide)) li (mf (p8 xo rfl (B "sorted" (by decide)) boot_sorted (mf (pv 2) lv)) lv))))))),?_⟩
 refine(oj _ rfl a ys ⟨rfl,ha.imp SqL.of SqT.of,λD hD0=>?_⟩)
 have sm:Same H (upd H D (.lst ys)):=Same.fresh _ hD0
 have hDy:upd H D (.lst ys) D=some (.lst ys):=mr
 have rep:=rep0.same sm
 generalize upd H D (.lst ys)=H2 at *
 refine(n8 _ rfl _ _ rfl rfl _ ⟨rfl,?_⟩)
 refine u8 (λh4=>?ga) (λh4=>?gb)
 case' ga=>
  have h4':4<=t:=by have:(t:Int)>=4:=of_decide_eq_true h4
                    omega
  refine(om _ rfl D ys ds ⟨rfl,hDy,rep,hs0,hpos,h64,λD ys H3 s3 hDy rep=>?_⟩)
  replace sm:=sm.trans s3
  obtain⟨ds1,e1⟩:∃d,d=(if 4<=t then afd ds else ds):=⟨_,rfl⟩
  have e2:ds1=afd ds:=by rw[e1,if_pos h4']
  rw[<-e2]at rep
  have sp1:Spots ds1:=by rw[e2];exact ah6 hs0 _
  have l1:ds1.length=ds.length:=by rw[e2];simp[afd]
  generalize H3=H2 at *
 case' gb=>
  have h4':¬4<=t:=by have:¬(t:Int)>=4:=by simpa using h4
                     omega
  obtain⟨ds1,e1⟩:∃d,d=(if 4<=t then afd ds else ds):=⟨_,rfl⟩
  have e2:ds1=ds:=by rw[e1,if_neg h4']
  rw[<-e2]at rep
  have sp1:Spots ds1:=by rw[e2];exact hs0
  have l1:ds1.length=ds.length:=by rw[e2]
 all_goals
  refine(uv _ rfl _ _ rfl rfl (by show(0:Int)<4;decide) _ ⟨rfl,by omega,by omega,?_⟩)
  refine qj (lo:=0) (λi σ' H'=>∃(y3:Option V)(D:Addr)(ys:List V),σ'=[some (.ref a),some (.int (t:Nat)),some (.ref D),y3]/\Same H H'/\H' D=some (.lst ys)/\RepAll H' (iter i ds1) ys/\Spots (iter i ds1)/\(iter i ds1).length=ds.length) ?_ (λi σ' H' hi h=>?_) (λσ' H' h=>?_)
  .exact(nq _ D ys ⟨rfl,sm,hDy,rep,sp1,l1⟩)
  .obtain⟨y3,D,ys,rfl,sm,hDy,rep,sp,hl⟩:=h
   refine(om _ rfl D ys _ ⟨rfl,hDy,rep,sp,by omega,by omega,λD2 ys2 H3 s3 hD3 rep3=>?_⟩)
   refine(nq _ D2 ys2 ⟨rfl,sm.trans s3,hD3,by rw[aaj];exact rep3,by rw[aaj];exact aje sp _,by rw[aaj];simp[ae9,hl]⟩)
  .obtain⟨y3,D,ys,rfl,sm,hDy,rep,sp,hl⟩:=h
   have et:(((t:Nat):Int) % 4).toNat=t % 4:=by omega
   rw[et]at rep sp hl
   refine(me _ rfl D ys _ ([true,false]) ⟨rfl,hDy,rep,aax sp,λl zs es hl1 pe ue hz=>?_⟩)
   refine(mw l zs ⟨rfl,.inl ⟨SqL.of mr,λl2 hl2=>?_⟩⟩)
   have s1:Same H' (upd H' l (.lst zs)):=Same.fresh _ hl1
   have s2:Same (upd H' l (.lst zs)) (upd (upd H' l (.lst zs)) l2 (.tup zs)):=Same.fresh _ hl2
   refine q l2 _ es ((sm.trans s1).trans s2) ?_ ue (mw l2 zs ⟨rfl,mr,hz.same s2⟩)
   rw[show ah4 t ds=iter (t % 4) ds1 by rw[e1];rfl]
   exact pe
end
end K23
namespace L3
open PySem PySem.Spec PyProof.Rows L2
noncomputable def cl(d:PyData):Int×Int:=(yi d,yg d)
def SgD(d:PyData):Prop:=∃(r c:Int)(k:Nat),d=.tuple [.int r,.int c,.str ⟨#[k]⟩]/\65<=k/\k<=90
structure Pre(ds:List PyData):Prop where
 sg:∀d∈ds,SgD d
 pos:0<ds.length
 six:ds.length<=6
 nd:(ds.map cl).Nodup
structure Zr(ds:List PyData):Prop where
 pre:Pre ds
 r0:xy (ds.map yi)=0
 c0:xy (ds.map yg)=0
theorem Pre.spots{ds:List PyData}(h:Pre ds):Spots ds:=λd hd=>by
 obtain⟨r,c,k,e,_⟩:=h.sg d hd
 exact(nq r c _ e)
theorem Pre.map{ds:List PyData}(h:Pre ds){f:PyData->PyData}{g:Int×Int->Int×Int}(hf:∀d,SgD d->SgD (f d)/\cl (f d)=g (cl d))(hi:∀a b,g a=g b->a=b):Pre (ds.map f):=by
 have e:(ds.map f).map cl=(ds.map cl).map g:=by
  rw[cq,cq]
  exact g0 λd hd=>(hf d (h.sg d hd)).2
 refine⟨λd hd=>?_,by rw[ah];exact h.pos,by rw[ah];exact h.six,?_⟩
 .obtain⟨x,hx,rfl⟩:=bi.mp hd
  exact(hf x (h.sg x hx)).1
 .rw[e]
  exact List.Pairwise.map g (λa b hab z=>hab (hi a b z)) h.nd
theorem Pre.perm{ds es:List PyData}(h:Pre ds)(p:es.Perm ds):Pre es:=
 ⟨λd hd=>h.sg d (p.mem_iff.mp hd),by rw[p.length_eq];exact h.pos,by rw[p.length_eq];exact h.six,(p.map cl).nodup_iff.mpr h.nd⟩
theorem af3{ns ms:List Int}(p:ns.Perm ms)(h:0<ns.length):xy ns=xy ms:=
 zo (p.mem_iff.mp (yj h)) λa ha=>wz a (p.mem_iff.mpr ha)
theorem Zr.perm{ds es:List PyData}(h:Zr ds)(p:es.Perm ds):Zr es:=by
 have hp:=h.pre.perm p
 exact⟨hp,(af3 (p.map yi) (by rw[ah];exact hp.pos)).trans h.r0,(af3 (p.map yg) (by rw[ah];exact hp.pos)).trans h.c0⟩
theorem ae5{d:PyData}(m:Int)(h:SgD d):SgD (ap5 m d)/\cl (ap5 m d)=((cl d).1,m-(cl d).2):=by
 obtain⟨r,c,k,rfl,h1,h2⟩:=h
 exact⟨(nq r (m-c) k ⟨rfl,h1,h2⟩),rfl⟩
theorem aeh{d:PyData}(m:Int)(h:SgD d):SgD (ap6 m d)/\cl (ap6 m d)=((cl d).2,m-(cl d).1):=by
 obtain⟨r,c,k,rfl,h1,h2⟩:=h
 exact⟨(nq c (m-r) k ⟨rfl,h1,h2⟩),rfl⟩
theorem aao{d:PyData}(a b:Int)(h:SgD d):SgD (aa9 a b d)/\cl (aa9 a b d)=((cl d).1-a,(cl d).2-b):=by
 obtain⟨r,c,k,rfl,h1,h2⟩:=h
 exact⟨(nq (r-a) (c-b) k ⟨rfl,h1,h2⟩),rfl⟩
theorem aj3(d:PyData):yi d=(cl d).1:=rfl
theorem ah8(d:PyData):yg d=(cl d).2:=rfl
theorem agj{ns:List Int}(h:0<ns.length):xy (ns.map λx=>ad8 ns-x)=0:=by
 refine(zo ?_ λa ha=>?_).symm
 .exact bi.mpr ⟨ad8 ns,abq h,by omega⟩
 .obtain⟨x,hx,rfl⟩:=bi.mp ha
  have:=aek x hx
  omega
theorem aj8{ns:List Int}(h:0<ns.length):xy (ns.map λx=>x-xy ns)=0:=by
 refine(zo ?_ λa ha=>?_).symm
 .exact bi.mpr ⟨xy ns,yj h,by omega⟩
 .obtain⟨x,hx,rfl⟩:=bi.mp ha
  have:=wz x hx
  omega
theorem Zr.mir{ds:List PyData}(h:Zr ds):Zr (afd ds):=by
 have hp:Pre (afd ds):=h.pre.map (g:=λa=>(a.1,ad8 (ds.map yg)-a.2)) (λd hd=>ae5 _ hd) (λa b e=>by
  injection e with e1 e2
  exact Prod.ext e1 (by omega))
 refine⟨hp,?_,?_⟩
 .rw[show(afd ds).map yi=ds.map yi by
   unfold afd
   rw[cq]
   exact g0 λd hd=>by rw[Function.comp,aj3,(ae5 _ (h.pre.sg d hd)).2];rfl]
  exact h.r0
 .rw[show(afd ds).map yg=(ds.map yg).map λx=>ad8 (ds.map yg)-x by
   unfold afd
   rw[cq,cq]
   exact g0 λd hd=>by rw[Function.comp,ah8,(ae5 _ (h.pre.sg d hd)).2];rfl]
  exact agj (by rw[ah];exact h.pre.pos)
theorem Zr.tur{ds:List PyData}(h:Zr ds):Zr (ae9 ds):=by
 have hp:Pre (ae9 ds):=h.pre.map (g:=λa=>(a.2,ad8 (ds.map yi)-a.1)) (λd hd=>aeh _ hd) (λa b e=>by
  injection e with e1 e2
  exact Prod.ext (by omega) e1)
 refine⟨hp,?_,?_⟩
 .rw[show(ae9 ds).map yi=ds.map yg by
   unfold ae9
   rw[cq]
   exact g0 λd hd=>by rw[Function.comp,aj3,(aeh _ (h.pre.sg d hd)).2];rfl]
  exact h.c0
 .rw[show(ae9 ds).map yg=(ds.map yi).map λx=>ad8 (ds.map yi)-x by
   unfold ae9
   rw[cq,cq]
   exact g0 λd hd=>by rw[Function.comp,ah8,(aeh _ (h.pre.sg d hd)).2];rfl]
  exact agj (by rw[ah];exact h.pre.pos)
theorem Zr.shift{ds:List PyData}(h:Pre ds):Zr (v4 ds):=by
 have hp:Pre (v4 ds):=h.map (g:=λa=>(a.1-xy (ds.map yi),a.2-xy (ds.map yg))) (λd hd=>aao _ _ hd) (λa b e=>by
  injection e with e1 e2
  exact Prod.ext (by omega) (by omega))
 refine⟨hp,?_,?_⟩
 .rw[show(v4 ds).map yi=(ds.map yi).map λx=>x-xy (ds.map yi) by
   unfold v4
   rw[cq,cq]
   exact g0 λd hd=>by rw[Function.comp,aj3,(aao _ _ (h.sg d hd)).2];rfl]
  exact aj8 (by rw[ah];exact h.pos)
 .rw[show(v4 ds).map yg=(ds.map yg).map λx=>x-xy (ds.map yg) by
   unfold v4
   rw[cq,cq]
   exact g0 λd hd=>by rw[Function.comp,ah8,(aao _ _ (h.sg d hd)).2];rfl]
  exact aj8 (by rw[ah];exact h.pos)
noncomputable def aji(i:Nat)(ds:List PyData):List PyData:=(b9 i).foldl (λa _=>ae9 a) ds
theorem ahg(i:Nat)(ds:List PyData):aji (i+1) ds=ae9 (aji i ds):=by
 unfold aji
 rw[j9,List.foldl_append]
 rfl
theorem Zr.iter{ds:List PyData}(h:Zr ds):∀i,Zr (aji i ds)
 | 0=>h
 | i+1=>by rw[ahg];exact(h.iter i).tur
theorem Zr.turned{ds:List PyData}(h:Zr ds)(t:Nat):Zr (ah4 t ds):=by
 show Zr (aji (t % 4) (if 4<=t then afd ds else ds))
 refine Zr.iter ?_ _
 split
 .exact h.mir
 .exact h
theorem aun{d:PyData}(h:SgD d):kd d=true:=by
 obtain⟨r,c,k,rfl,_⟩:=h
 rfl
theorem ai5:∀{ds:List PyData},(∀d∈ds,SgD d)->rq ds=true
 | [],_=>rfl
 | d::ds,h=>by
  show(kd d&&rq ds)=true
  rw[aun (h d bj),ai5 λe he=>h e (bf _ he)]
  rfl
theorem asp{d e:PyData}(h:SgD d)(h':SgD e):Cmp d e:=by
 obtain⟨r,c,k,rfl,_⟩:=h
 obtain⟨r',c',k',rfl,_⟩:=h'
 exact⟨True.intro,True.intro,True.intro,True.intro⟩
theorem ae6:∀{ds es:List PyData},(∀d∈ds,SgD d)->(∀d∈es,SgD d)->ah1 ds es
 | [],_,_,_=>by unfold ah1;exact True.intro
 | d::ds,[],_,_=>by unfold ah1;exact True.intro
 | d::ds,e::es,h,h'=>⟨asp (h d bj) (h' e bj),ae6 (λx hx=>h x (bf _ hx)) λx hx=>h' x (bf _ hx)⟩
theorem abl{ds:List PyData}(h:Spots ds):b7 ds<=2:=by
 induction ds with
 | nil=>simp[b7]
 | cons d t ih=>
  obtain⟨r,c,x,rfl⟩:=h d (by simp)
  have:=ih λe he=>h e (by simp[he])
  simp[b7,jh]
  omega
def aiq:List V->Hp->VK->Prop:=λvs H Q=>∃(p:Addr)(xs:List V)(ds:List PyData),vs=[.ref p]/\H p=some (.lst xs)/\RepAll H ds xs/\(∀d∈ds,atu d/\TT d)/\CmpA ds/\ds.length<4000/\
 ∀(es:List PyData)(l:Addr)(ys:List V),es.length<=ds.length->(∀d∈es,d∈ds)->H l=none->RepAll (upd H l (.lst ys)) es ys->Q (.ref l) (upd H l (.lst ys))
section
variable{X:Cx}{p p2 pos pos2:Pos}{e:Expr}{t:TA}
theorem aaa(hc:X.calm=true)(hu:X.A.units+64<cLine)(hg:Gl X "sorted")(hm:X.mg "sorted" = none)(hg2:Gl X "set")(hm2:X.mg "set" = none)(ha:PA X [e] t)(h1:qa e=true:=by rfl) :
  PE X (.Call (.Name "sorted" p) [.Call (.Name "set" p2) [e] [] pos2] [] pos) (tCB aiq t):=by
 intro pins s σ H Q I h
 refine i7 (uq I hg hm boot_sorted ?_ (by decide) (by decide))
 refine PyProof.Rows.callWith_builtin1 ?_ (o5 rfl) rfl
 rw[o5 rfl]
 show wpAny _ _ (spliced ((false,eval (.Call (.Name "set" p2) [e] [] pos2) X.env)::backTo pos (starEach [] X.env))) _ _ s
 refine Calls.spliced_cons ?_
 refine i7 (uq I hg2 hm2 boot_set ?_ (by decide) (by decide))
 refine ge (thn (ha pos2 pins s σ H _ I h) λus s1 ⟨vs,H1,I1,r1,q1⟩=>?_) (o5 h1) rfl
 obtain⟨pl,xs,ds,rfl,hp,hds,hkey,hcmp,hb,q⟩:=q1
 obtain⟨u,rfl,ru⟩:=sy r1
 cases (show u=Value.ref pl from ru)
 obtain⟨its,rv,il,hz⟩:=I1.list (SqL.of (K:=X.K) hp)
 obtain⟨as,rds⟩:=RepAll.reads I1 hds rv
 have hlay:=hds.lay
 have hl1:xs.length=ds.length:=hds.length
 have hl2:xs.length=its.length:=rv.length
 refine ai3 (Pv:=λv d=>∃i:Nat,its[i]?=some v/\ds[i]?=some d) (ds:=ds) (I1.ok.hd hc) il.isList (by rw[ay];omega) (λi v d hv hd=>?_) (by omega) (by omega) λh' tk ds' hS hmem hlen hk ht=>?_
 .rw[List.getElem?_toArray]at hv
  obtain⟨bs,rd⟩:=agm rds hv hd
  have hm':=aq hd
  exact⟨⟨i,hv,hd⟩,rfl,(hkey d hm').1.1,(hkey d hm').1.2.1,akn hlay d hm',(hkey d hm').1.2.2,bs,rd⟩
 .refine Calls.spliced_nil ?_
  have I2:Inv X pins σ H1 {s1 with heap:=h',toks:=tk}:=I1.kept hk
  have sub:∀d∈ds',d∈ds:=λd hd=>(hmem d).mp hd
  refine aai I2 (λv d hg=>by
   obtain⟨i,g1,g2⟩:=hg
   obtain⟨x,x1,x2⟩:=hds.get g2
   obtain⟨u,u1,u2⟩:=rv.get x1
   have:u=v:=by rw[u1]at g1;cases g1;rfl
   subst this
   exact⟨x,u2,x2⟩) hc hS (by omega) (aii (B:=X.A) hu rfl (λd hd=>hkey d (sub d hd)) (hcmp.sub sub)) λes l ys pe _ hl re=>?_
  exact q es l ys (by rw[pe.length_eq];exact hlen) (λd hd=>sub d (pe.mem_iff.mp hd)) hl re
end
end L3
namespace K23
open PySem PyProof.Rows L2 L3
def FrmD(d:PyData):Prop:=∃es,d=.tuple es/\Zr es
theorem FrmD.key{d:PyData}(h:FrmD d):atu d/\TT d:=by
 obtain⟨es,rfl,hz⟩:=h
 have hd:=abl hz.pre.spots
 refine⟨⟨ai5 hz.pre.sg,⟨_,rfl⟩,by simp[jh];omega⟩,?_⟩
 cases e:es with
 | nil=>have:=hz.pre.pos;rw[e]at this;exact absurd this (by simp)
 | cons d ds=>
  have hs:=hz.pre.sg
  rw[e]at hs
  obtain⟨r,c,k,rfl,_⟩:=hs d bj
  exact(mw _ _ rfl)
theorem FrmD.cmp{ds:List PyData}(h:∀d∈ds,FrmD d):CmpA ds:=
 ⟨λx hx y hy=>by
  obtain⟨es,rfl,hz⟩:=h x hx
  obtain⟨es',rfl,hz'⟩:=h y hy
  exact ae6 hz.pre.sg hz'.pre.sg,λx hx=>(h x hx).key.1.1⟩
theorem FrmD.imm{ds:List PyData}(h:∀d∈ds,FrmD d):pj ds=true:=qc λd hd=>by
 obtain⟨es,rfl,hz⟩:=h d hd
 exact Spots.imm hz.pre.spots
def ag4(m:Str)(n:Nat):Prop:=(m="still"/\n=1)\/(m="turn"/\n=4)\/(m="flip"/\n=8)
def apm(P:Program)(w:World)(K:ai)(mg:Str->Option Value):Prop:=∃aD oD kvs,mg "TURNINGS_BY_MODE" = some (.ref aD)/\K.lookup aD=some oD/\oD.IsDictOf (strKind P w) kvs/\∀m n,ag4 m n->∃t,valueAt kvs m=some (.int (n:Nat) t)
def aki:Sp:=λvs H Q _=>∃(r:Addr)(m:Str)(n:Nat)(xs:List V)(es:List PyData),vs=[.ref r,.str m]/\H r=some (.tup xs)/\RepAll H es xs/\Zr es/\ag4 m n/\
 ∀(l:Addr)(ys:List V)(ds:List PyData)(H':Hp),Same H H'->H l=none->H' l=some (.lst ys)->(∀d∈ds,FrmD d)->ds.length<=8->RepAll H' ds ys->Q (.ref l) H'
section
variable{P:Program}{w:World}{K:ai}{mg:Str->Option Value}{base:Heap}{f:Addr}{fd:FuncData}
theorem aoq:mx ["form","mode"] ["form","mode"] (mj ai8):={}
theorem aln(B:∀x∈tj,mg x=none)(hM:apm P w K mg)(Ftd:Fn P w K mg base "turned" 2 ["form","t"] aw0)
  (F:Fun K "forms_of" "forms_of" ai8 f fd):qe P w K mg base CX0 3 f fd ["form","mode"] aki:=by
 obtain⟨aD,oD,kvs,hD,hL,hI,hV⟩:=hM
 refine F.ok (k:=2) aoq (λvs H Q E h=>?_) (λcdv A outer s H vs Q E hr h=>?_)
 .obtain⟨r,m,n,xs,es,rfl,_⟩:=h
  rfl
 obtain⟨r,m,n,xs,es,rfl,hr0,rep,hz,hm,q⟩:=h
 have hu:=hr.units
 obtain⟨tk,hv⟩:=hV m n hm
 refine⟨_,(ma (my (aaa rfl hu rfl (B "sorted" (by decide)) rfl (B "set" (by decide)) (mf (oq ["t","form"] [none,some 0] rfl rfl (by decide +kernel) (by decide +kernel) rfl rfl (zp rfl (B "range" (by decide)) (mf (ng ao4 (ame hD rfl) (pv 1) (λ_ _=>rfl)) lv)) (λ_=>(mh (i:=0) (show(["t","form"]:List PySem.Str).Nodup by decide +kernel) rfl (Or.inl rfl))) (λ_=>o8) (λ_=>(nh Ftd hr (by decide) rfl (mf (pv 1) (mf (pv 0) lv))))) lv)))),?_⟩
 refine(me _ rfl aD m oD kvs (mw n tk ⟨rfl,rfl,hL,hI,hv,?_⟩))
 have hn:n<=8:=by rcases hm with h|h|h<;>omega
 refine⟨(n:Nat),rfl,by omega,by omega,λD hD0=>?_⟩
 rw[cc]
 refine abk (lo:=0) (n:=n) (λi ys G=>Same H G/\∃ds,ds.length=i/\RepAll G ds ys/\∀d∈ds,FrmD d) ⟨Same.fresh _ hD0,[],rfl,rfl,λd hd=>by cases hd⟩ (λi ys G hi hDy hyl p=>?_) (λys G hDy hyl p=>?_)
 .obtain⟨p1,ds,hl,p2,hF⟩:=p
  refine⟨Agree.set (Agree.refl _) rfl,?_⟩
  dsimp only[yb]
  refine si ?_
  refine(mq _ rfl _ rfl r i xs ⟨es,by rw[Int.zero_add];rfl,.inr (p1 _ _ hr0),rep.same p1,hz.pre.spots,hz.pre.pos,by have:=hz.pre.six;omega,by omega,λr2 H2 e2 s2 pe ue rep2=>?_⟩)
  have hD2:=s2 _ _ hDy
  have hF':∀d∈ds++[.tuple e2],FrmD d:=λd hd=>by
   rcases ax.mp hd with h|h
   .exact hF d h
   .rw[ao.mp h];exact⟨e2,rfl,(hz.turned i).perm pe⟩
  exact pi (by omega) hD2 hyl ⟨(p1.trans s2).new hD0,_,by rw[bu,hl];rfl,((p2.same s2).snoc rep2).tk (Tk.lst hD2) (FrmD.imm hF'),hF'⟩
 .obtain⟨p1,ds,hl,p2,hF⟩:=p
  refine(nq D ys ds ⟨rfl,hDy,p2,λd hd=>(hF d hd).key,FrmD.cmp hF,by omega,λes' l zs hle hsub hl0 rz=>?_⟩)
  exact q l zs es' _ (p1.trans (Same.fresh _ hl0)) (p1.free hl0) mr (λd hd=>hF d (hsub d hd)) (by omega) rz
end
theorem anv(z:Str):z.cps.toList.length=z.length:=by simp[Str.length]
theorem ok1{c:Nat}(h:c<128):iw (⟨#[c]⟩:Str)=true:=Tx.ok ⟨by show 1<=80;omega,λx hx=>by
 have:x=c:=by simpa using hx
 omega⟩
def Rw(zs:List Str):Prop:=0<zs.length/\zs.length<=8/\∃wd,0<wd/\wd<=8/\∀z∈zs,(Tx z/\∀c∈z.cps.toList,sgB c=true)/\z.length=wd
def Fl(H:Hp)(a:Addr)(zs:List Str):Prop:=H a=some (.tup (zs.map V.str))/\Rw zs
theorem Fl.tx{H:Hp}{a:Addr}{zs:List Str}(h:Fl H a zs):∀z∈zs,Tx z:=λz hz=>by
 obtain⟨_,_,_,wd,_,_,hw⟩:=h
 exact(hw z hz).1.1
noncomputable def aag(r:Nat)(cs:List Nat):Nat->List PyData
 | 0=>[]
 | k+1=>aag r cs k++(match cs[k]? with|some c=>[.tuple [.int r,.int k,.str ⟨#[c]⟩]]|none=>[])
noncomputable def xc(zs:List Str):Nat->List PyData
 | 0=>[]
 | k+1=>xc zs k++(match zs[k]? with|some z=>aag k z.cps.toList z.cps.toList.length|none=>[])
theorem vc(r:Nat)(cs:List Nat):∀k,Spots (aag r cs k)
 | 0,d,h=>by cases h
 | k+1,d,h=>by
  unfold aag at h
  rcases ax.mp h with h|h
  .exact vc r cs k d h
  .cases e:cs[k]? with
   | none=>rw[e]at h;cases h
   | some c=>rw[e]at h;rw[ao.mp h];exact(nq _ _ _ rfl)
theorem yw(zs:List Str):∀k,Spots (xc zs k)
 | 0,d,h=>by cases h
 | k+1,d,h=>by
  unfold xc at h
  rcases ax.mp h with h|h
  .exact yw zs k d h
  .cases e:zs[k]? with
   | none=>rw[e]at h;cases h
   | some z=>rw[e]at h;exact vc _ _ _ d h
theorem Spots.app{a b:List PyData}(h:Spots a)(k:Spots b):Spots (a++b):=λd hd=>(ax.mp hd).elim (h d) (k d)
theorem abd{r:Nat}{cs:List Nat}{k c:Nat}(h:cs[k]?=some c):aag r cs (k+1)=aag r cs k++[.tuple [.int r,.int k,.str ⟨#[c]⟩]]:=by
 show aag r cs k++_=_
 rw[h]
theorem abe{zs:List Str}{k:Nat}{z:Str}(h:zs[k]?=some z):xc zs (k+1)=xc zs k++aag k z.cps.toList z.cps.toList.length:=by
 show xc zs k++_=_
 rw[h]
section
variable{P:Program}{w:World}{K:ai}{mg:Str->Option Value}{base:Heap}{f:Addr}{fd:FuncData}
def aff:Sp:=λvs H Q _=>∃(a:Addr)(zs:List Str),vs=[.ref a]/\Fl H a zs/\∀(D:Addr)(ys:List V)(H':Hp),Same H H'->H' D=some (.lst ys)->ys.length<=64->RepAll H' (xc zs zs.length) ys->Q (.ref D) H'
theorem scSpots:mx ["floor","spots","row","signs","column","sign"] ["floor"] (mj aid):={}
theorem alv(B:∀x∈tj,mg x=none)(F:Fun K "floor_spots" "floor_spots" aid f fd):qe P w K mg base CX0 1 f fd ["floor"] aff:=by
 refine F.ok (k:=0) scSpots (λvs H Q E h=>?_) (λcdv A outer s H vs Q E hr h=>?_)
 .obtain⟨a,zs,rfl,_⟩:=h
  rfl
 obtain⟨a,zs,rfl,hf,q⟩:=h
 have htx:=hf.tx
 obtain⟨ha,hz0,hz8,wd,hw0,hw8,hw⟩:=hf
 refine⟨_,(lw (nc (i:=1) scSpots.nd rfl (Or.inl rfl) (ph lv))
  (lw (p7 ci rfl (akv rfl (B "enumerate" (by decide)) (mf (pv 0) lv)) (rj (n:=2) rfl (mn (mh (i:=2) scSpots.nd rfl (Or.inl rfl)) (mn (mh (i:=3) scSpots.nd rfl (Or.inl rfl)) o0))) (ma (p7 ci rfl (ara rfl (B "enumerate" (by decide)) (mf (pv 3) lv)) (rj (n:=2) rfl (mn (mh (i:=4) scSpots.nd rfl (Or.inl rfl)) (mn (mh (i:=5) scSpots.nd rfl (Or.inl rfl)) o0))) (ma (qo (vk da dz ee p9 (pv 1) (mf (ni (mf (pv 2) (mf (pv 4) (mf (pv 5) lv)))) lv)))))))
  (ma (my (pv 1))))),?_⟩
 refine⟨(by show 0<=sizeLine;decide),λD hD=>?_⟩
 refine(pk _ rfl a ⟨rfl,⟨_,SqT.of (by rw[nj (pf ha hD)];exact ha)⟩,?_⟩)
 refine afg (xs:=zs.map V.str) (λi σ' H'=>∃(y2 y3 y4 y5:Option V)(ys:List V),σ'=[some (.ref a),some (.ref D),y2,y3,y4,y5]/\Same H H'/\H' D=some (.lst ys)/\RepAll H' (xc zs i) ys/\ys.length<=8*i) ?_ (λi σ' H' h=>?_) (λi x p σ' H' hx hp h=>?_) (λσ' H' h=>?_)
 .exact(l9 _ _ _ _ ([]) ⟨rfl,Same.fresh _ hD,mr,rfl,dq _⟩)
 .obtain⟨_,_,_,_,_,_,s1,_⟩:=h
  exact SqT.of (s1 _ _ ha)
 .obtain⟨y2,y3,y4,y5,ys,rfl,s1,hDy,rep,hyl⟩:=h
  rw[aw]at hx
  cases hz:zs[i]? with
  | none=>rw[hz]at hx;cases hx
  | some z=>
   rw[hz]at hx
   cases hx
   have hzm:=aq hz
   have hil:i<zs.length:=(ae.mp hz).1
   have hzl:=(hw z hzm).2
   have hL:=anv z
   refine(m9 p _ rfl (SqT.of mr) rfl _ _ rfl _ ⟨_,rfl,rfl,?_⟩)
   have s2:Same H' (upd H' p (.tup [.int (i:Nat),.str z])):=Same.fresh _ hp
   generalize upd H' p (.tup [.int (i:Nat),.str z])=H2 at *
   refine(pk _ rfl z ⟨rfl,(htx z hzm).2,?_⟩)
   refine aor (z:=z) (λj σ' H3=>∃(y4 y5:Option V)(ys:List V),σ'=[some (.ref a),some (.ref D),some (.int (i:Nat)),some (.str z),y4,y5]/\Same H H3/\H3 D=some (.lst ys)/\RepAll H3 (xc zs i++aag i z.cps.toList j) ys/\ys.length<=8*i+j) ?_ (λj c p3 σ' H3 hc hp3 h=>?_) (λσ' H3 h=>?_)
   .refine(nq _ _ ys ⟨rfl,s1.trans s2,s2 _ _ hDy,?_,by omega⟩)
    show RepAll H2 (xc zs i++[]) ys
    rw[gf]
    exact rep.same s2
   .obtain⟨y4,y5,ys3,rfl,s3,hD3,rep3,hl3⟩:=h
    have hjl:j<z.cps.toList.length:=(ae.mp hc).1
    have hc128:c<128:=(htx z hzm).2 c (aq hc)
    refine(m9 p3 _ rfl (SqT.of mr) rfl _ _ rfl _ ⟨_,rfl,rfl,?_⟩)
    have s4:Same H3 (upd H3 p3 (.tup [.int (j:Nat),.str ⟨#[c]⟩])):=Same.fresh _ hp3
    generalize upd H3 p3 (.tup [.int (j:Nat),.str ⟨#[c]⟩])=H4 at *
    have hD4:=s4 _ _ hD3
    refine(oe _ rfl (.inl ⟨rfl,_,SqL.of hD4⟩) _ ⟨rfl,(pk _ rfl _ ⟨rfl,(by show 3<=sizeLine;decide),λt ht=>?_⟩)⟩)
    have s5:Same H4 (upd H4 t (.tup [.int (i:Nat),.int (j:Nat),.str ⟨#[c]⟩])):=Same.fresh _ ht
    have t5:upd H4 t (.tup [.int (i:Nat),.int (j:Nat),.str ⟨#[c]⟩]) t=some (.tup [.int (i:Nat),.int (j:Nat),.str ⟨#[c]⟩]):=mr
    generalize upd H4 t (.tup [.int (i:Nat),.int (j:Nat),.str ⟨#[c]⟩])=H5 at *
    have hD5:=s5 _ _ hD4
    refine(nq D ys3 (.ref t) ⟨rfl,rfl,hD5,mz (by omega),?_⟩)
    have rep5:RepAll H5 ((xc zs i++aag i z.cps.toList j)++[.tuple [.int (i:Nat),.int (j:Nat),.str ⟨#[c]⟩]]) (ys3++[.ref t]):=((rep3.same s4).same s5).snoc (xz t5 (ok1 hc128))
    rw[bx,<-abd hc]at rep5
    refine(nq _ _ (ys3++[.ref t]) ⟨rfl,((s3.trans s4).trans s5).new hD,mr,rep5.tk (Tk.lst hD5) (Spots.imm (Spots.app (yw _ _) (vc _ _ _))),?_⟩)
    rw[bu,g9]
    omega
   .obtain⟨y4,y5,ys3,rfl,s3,hD3,rep3,hl3⟩:=h
    rw[<-abe hz]at rep3
    exact(l9 _ _ _ _ ys3 ⟨rfl,s3,hD3,rep3,by omega⟩)
 .obtain⟨y2,y3,y4,y5,ys,rfl,s1,hDy,rep,hyl⟩:=h
  rw[ah]at rep hyl
  exact⟨_,rfl,q D ys H' s1 hDy (by omega) rep⟩
end
theorem aa4(M:Mat)(r:Nat):∀c,c<=M.w->aag r (qm M r) c=(b9 c).map λk=>ak4 M r k
 | 0,_=>rfl
 | c+1,h=>by
  rw[abd (acb (M:=M) (r:=r) (c:=c) (by omega)),aa4 M r c (by omega),j9,br]
  rfl
theorem wu(M:Mat):∀k,k<=M.h->xc (tf M) k=(b9 (k*M.w)).map λi=>ak4 M (i/M.w) (i % M.w)
 | 0,_=>by simp[xc]
 | k+1,h=>by
  rw[abe (afl (M:=M) (r:=k) (by omega)),wu M k (by omega)]
  have e:((⟨(qm M k).toArray⟩:Str).cps.toList)=qm M k:=by simp
  rw[e,yk,aa4 M k M.w (am _),Nat.add_mul,Nat.one_mul,List.range_add,br,cq]
  congr 1
  refine g0 λc hc=>?_
  have hc':c<M.w:=by simpa using hc
  show ak4 M k c=ak4 M ((k*M.w+c)/M.w) ((k*M.w+c) % M.w)
  rw[aba hc',aas hc']
theorem an3{M:Mat}(o:OkM SgP M){z:Str}(h:z∈tf M):(Tx z/\∀c∈z.cps.toList,sgB c=true)/\z.length=M.w:=by
 obtain⟨r,hr,rfl⟩:=amf h
 have hs:=aog o hr
 have hl:(⟨(qm M r).toArray⟩:Str).length=M.w:=by show(qm M r).toArray.size=_;rw[ay,yk]
 have hw:=o.w8
 have e:((⟨(qm M r).toArray⟩:Str).cps.toList)=qm M r:=by simp
 refine⟨⟨⟨by omega,λc hc=>?_⟩,λc hc=>?_⟩,hl⟩
 .rw[e]at hc;exact aiw (hs c hc)
 .rw[e]at hc;exact hs c hc
theorem FlM.fl{H:Hp}{a:Addr}{M:Mat}(h:FlM H a M):Fl H a (tf M):=
 ⟨h.1,by rw[rk];exact h.2.h1,by rw[rk];exact h.2.h8,M.w,h.2.w1,h.2.w8,λz hz=>an3 h.2 hz⟩
theorem am7{zs:List Str}(h:Rw zs):∃M:Mat,zs=tf M/\OkM SgP M:=by
 obtain⟨h1,h8,wd,w1,w8,hz⟩:=h
 refine⟨⟨zs.length,wd,λr c=>((zs[r]?.map λz=>z.cps.toList).getD []).getD c 0⟩,?_,⟨h1,h8,w1,w8,λr c hr hc=>?_⟩⟩
 .apply j4
  intro r
  by_cases hr:r<zs.length
  .rw[afl (M:=⟨zs.length,wd,_⟩) hr,ab hr]
   have hz':=hz _ (dv hr)
   have hl:zs[r].cps.toList.length=wd:=by rw[anv];exact hz'.2
   have e:qm ⟨zs.length,wd,λr c=>((zs[r]?.map λz=>z.cps.toList).getD []).getD c 0⟩ r=zs[r].cps.toList:=by
    apply j4
    intro c
    by_cases hc:c<wd
    .rw[acb (M:=⟨zs.length,wd,λr c=>((zs[r]?.map λz=>z.cps.toList).getD []).getD c 0⟩) hc]
     show some (((zs[r]?.map λz=>z.cps.toList).getD []).getD c 0)=_
     rw[ab hr]
     show some (zs[r].cps.toList.getD c 0)=_
     rw[jm,ab (by omega)]
     rfl
    .rw[fc (by rw[yk];exact Nat.le_of_not_lt hc),fc (by omega)]
   rw[e]
  .rw[fc (by omega),fc (by rw[rk];exact Nat.le_of_not_lt hr)]
 .have hr':r<zs.length:=hr
  have hc':c<wd:=hc
  have hz':=hz _ (dv hr')
  have hl:zs[r].cps.toList.length=wd:=by rw[anv];exact hz'.2
  show sgB (((zs[r]?.map λz=>z.cps.toList).getD []).getD c 0)=true
  rw[ab hr']
  show sgB (zs[r].cps.toList.getD c 0)=true
  rw[jm,ab (by omega)]
  exact hz'.1.2 _ (dv _)
def KindK(H:Hp)(v:V)(k:List PyData×Nat):Prop:=∃b nm u1 u2 m fr xs,v=.ref b/\H b=some (.tup [.str nm,u1,u2,.str m,.ref fr])/\H fr=some (.tup xs)/\RepAll H k.1 xs/\Zr k.1/\ag4 m k.2
theorem KindK.same{H H':Hp}{v:V}{k:List PyData×Nat}(h:KindK H v k)(s:Same H H'):KindK H' v k:=by
 obtain⟨b,nm,u1,u2,m,fr,xs,rfl,h1,h2,h3,h4,h5⟩:=h
 exact(l9 b nm u1 u2 m (mw fr xs ⟨rfl,s _ _ h1,s _ _ h2,h3.same s,h4,h5⟩))
def KindsK(H:Hp)(kvs:List V)(ks:List (List PyData×Nat)):Prop:=kvs.length=ks.length/\∀(i:Nat) v k,kvs[i]?=some v->ks[i]?=some k->KindK H v k
theorem KindsK.same{H H':Hp}{kvs:List V}{ks:List (List PyData×Nat)}(h:KindsK H kvs ks)(s:Same H H'):KindsK H' kvs ks:=⟨h.1,λi v k h1 h2=>(h.2 i v k h1 h2).same s⟩
def PzK(H:Hp)(p:Addr)(M:Mat)(ks:List (List PyData×Nat)):Prop:=∃fl kr e kvs,H p=some (.tup [.ref fl,.ref kr,.ref e])/\FlM H fl M/\H kr=some (.tup kvs)/\KindsK H kvs ks/\ks.length<=6
section
variable{P:Program}{w:World}{K:ai}{mg:Str->Option Value}{base:Heap}{f:Addr}{fd:FuncData}
def apj:Sp:=λvs H Q _=>∃c:Nat,vs=[.str ⟨#[c]⟩]/\Q (.bl (decide (65<=c)&&decide (c<=90))) H
def ajl:Sp:=λvs H Q _=>∃c:Nat,vs=[.str ⟨#[c]⟩]/\Q (.bl (decide (97<=c)&&decide (c<=122))) H
theorem awf:mx ["found"] ["found"] (mj aua):={}
theorem ao8:mx ["found"] ["found"] (mj aig):={}
theorem le1(a b:Nat):(!decide ([b]<[a]))=decide (a<=b):=by
 have h:([b]<[a])↔b<a:=by simp[ff]
 rw[decide_eq_decide.mpr h]
 by_cases c:b<a
 .rw[decide_eq_true c,decide_eq_false (by omega)];rfl
 .rw[decide_eq_false c,decide_eq_true (by omega)];rfl
theorem aiu{c lo hi:Nat}{a z:Str}{R:V->Prop}{A B:Prop}(ha:a.cps.toList=[lo])(hz:z.cps.toList=[hi])(q:R (.bl (decide (lo<=c)&&decide (c<=hi))))
  (hA:R (.bl (!decide (z.cps.toList<[c])))->A) (hB:R (.bl false)->B):if (!decide ((⟨#[c]⟩:Str).cps.toList<a.cps.toList))=true then A else B:=by
 have e:(⟨#[c]⟩:Str).cps.toList=[c]:=rfl
 rw[e,ha,le1]
 rw[hz,le1]at hA
 by_cases h:lo<=c
 .rw[decide_eq_true h]at *
  rw[if_pos rfl]
  exact hA q
 .rw[decide_eq_false h]at *
  rw[if_neg aj]
  exact hB q
theorem aws(c:Nat):(⟨#[c]⟩:Str).length<=sizeLine:=by show 1<=sizeLine;decide
theorem aq4(B:∀x∈tj,mg x=none)(F:Fun K "is_sign" "is_sign" aua f fd):qe P w K mg base CX0 1 f fd ["found"] apj:=by
 refine F.ok (k:=0) awf (λvs H Q E h=>?_) (λcdv A outer s H vs Q E hr h=>?_)
 .obtain⟨c,rfl,_⟩:=h
  rfl
 obtain⟨c,rfl,q⟩:=h
 refine⟨_,(ma (my (aat (p8 ql rfl (B "isinstance" (by decide)) lq (mf (pv 0) (mf (vh (v:=.ty "str") rfl (B "str" (by decide)) boot_str rfl) lv))) (aat (qz zh (p8 rg rfl (B "len" (by decide)) ft (mf (pv 0) lv)) l7 (oz _)) (ada (agf wq wq o6 (pv 0) o6)))))),?_⟩
 refine(me _ rfl _ _ _ true ⟨rfl,.str _,rfl,true,rfl,?_⟩)
 refine si ?_
 refine(pk _ rfl _ ⟨rfl,aws c,rfl,true,rfl,?_⟩)
 refine si ?_
 exact(n8 _ rfl _ _ rfl rfl _ ⟨rfl,aiu (a:=ba "A") (z:=ba "Z") (R:=λv=>Q v H) (by decide +kernel) (by decide +kernel) q (λh=>(mw _ _ ⟨rfl,rfl,h⟩)) (λh=>h)⟩)
theorem alb(B:∀x∈tj,mg x=none)(F:Fun K "is_small" "is_small" aig f fd):qe P w K mg base CX0 1 f fd ["found"] ajl:=by
 refine F.ok (k:=0) ao8 (λvs H Q E h=>?_) (λcdv A outer s H vs Q E hr h=>?_)
 .obtain⟨c,rfl,_⟩:=h
  rfl
 obtain⟨c,rfl,q⟩:=h
 refine⟨_,(ma (my (aat (p8 ql rfl (B "isinstance" (by decide)) lq (mf (pv 0) (mf (vh (v:=.ty "str") rfl (B "str" (by decide)) boot_str rfl) lv))) (aat (qz zh (p8 rg rfl (B "len" (by decide)) ft (mf (pv 0) lv)) l7 (oz _)) (ada (agf wq wq o6 (pv 0) o6)))))),?_⟩
 refine(me _ rfl _ _ _ true ⟨rfl,.str _,rfl,true,rfl,?_⟩)
 refine si ?_
 refine(pk _ rfl _ ⟨rfl,aws c,rfl,true,rfl,?_⟩)
 refine si ?_
 exact(n8 _ rfl _ _ rfl rfl _ ⟨rfl,aiu (a:=ba "a") (z:=ba "z") (R:=λv=>Q v H) (by decide +kernel) (by decide +kernel) q (λh=>(mw _ _ ⟨rfl,rfl,h⟩)) (λh=>h)⟩)
end
def GS(mg:Str->Option Value)(x z:Str):Prop:=∃t,mg x=some (.str z t)
theorem eH:ba "#" = ⟨#[35]⟩:=by decide +kernel
theorem vd(c d:Nat){z:Str}(hz:z=⟨#[d]⟩):decide (V.str ⟨#[c]⟩=V.str z)=(c==d):=by
 subst hz
 rw[ig,decide_eq_true_eq,beq_iff_eq]
 constructor
 .intro h
  injection h with h
  injection h with h
  injection h with h
  injection h with h
 .intro h
  rw[h]
theorem abo{M:Mat}{r:Nat}(h:r<M.h):((tf M).map V.str)[r]?=some (V.str ⟨(qm M r).toArray⟩):=by rw[aw,afl h];rfl
theorem pw(N:Mat)(r:Nat):(⟨(qm N r).toArray⟩:Str).length=N.w:=by show(qm N r).toArray.size=_;rw[ay,yk]
theorem akf{N:Mat}(o:OkM SgP N):N.w<=sizeLine:=gc (mz (by have:=o.w8;omega))
noncomputable def gA(M:Mat)(r c:Nat):Nat:=if r<M.h/\c<M.w then M.g r c else 35
theorem apo{M:Mat}(o:OkM SgP M)(r c:Nat):sgB (gA M r c)=true:=by
 unfold gA
 split
 .rename_i h;exact o.sg r c h.1 h.2
 .decide
noncomputable def big(c:Nat):Bool:=decide (65<=c)&&decide (c<=90)
noncomputable def aar(c:Nat):Bool:=decide (97<=c)&&decide (c<=122)
noncomputable def okS(g k:Nat):Bool:=g==46||g==44||g==k||g==lo1 k
theorem asq{g k:Nat}(h:sgB g=true)(h1:65<=k)(h2:k<=90):(!(g==35)&&(!(big g||aar g)||up1 g==k))=okS g k:=by
 have:∀g<128,sgB g=true->∀k<91,65<=k->(!(g==35)&&(!(big g||aar g)||up1 g==k))=okS g k:=by decide +kernel
 exact this g (aiw h) h k (by omega) h1
seal L2.PE L2.PT L2.PW L2.PA L2.PS L2.PSs L2.PG L2.PGs L2.PI L2.PO
section
variable{P:Program}{w:World}{K:ai}{mg:Str->Option Value}{base:Heap}{f:Addr}{fd:FuncData}
def ang(R:Nat->V):Sp:=λvs H Q _=>∃(a b:Addr)(M:Mat)(r c:Nat),vs=[.ref a,.ref b]/\FlM H a M/\H b=some (.tup [.int (r:Nat),.int (c:Nat)])/\Q (R (gA M r c)) H
theorem scAt:mx ["floor","cell","row","column"] ["floor","cell"] (mj sAt):={}
theorem av6(B:∀x∈tj,mg x=none)(gC:GS mg "CLOSED" "#")(F:Fun K "sign_at" "sign_at" sAt f fd):qe P w K mg base CX0 1 f fd ["floor","cell"] (ang λk=>.str ⟨#[k]⟩):=by
 refine F.ok (k:=0) scAt (λvs H Q E h=>?_) (λcdv A outer s H vs Q E hr h=>?_)
 .obtain⟨a,b,M,r,c,rfl,_⟩:=h
  rfl
 obtain⟨a,b,M,r,c,rfl,hf,hb,q⟩:=h
 dsimp only at q
 obtain⟨ha,okM⟩:=hf
 have out:¬(r<M.h/\c<M.w)->Q (.str (ba "#")) H:=λh=>by
  unfold gA at q
  rw[if_neg h]at q
  rw[eH]
  exact q
 refine⟨_,(lw (nc (i:=2) scAt.nd rfl (Or.inl rfl) (ng nu (pv 1) l7 (λ_ _=>rfl)))
  (lw (nc (i:=3) scAt.nd rfl (Or.inl rfl) (ng nu (pv 1) l7 (λ_ _=>rfl)))
  (lw (qp (PW.pt (zm (agh aqb as4 l7 (pv 2) (p8 oh rfl (B "len" (by decide)) ft (mf (pv 0) lv))) (vi (agh aqb as4 l7 (pv 3) (p8 rg rfl (B "len" (by decide)) ft (mf (ng nu (pv 0) (pv 2) (λ_ _=>rfl)) lv)))))) (ma (my (ng xk (ng nu (pv 0) (pv 2) (λ_ _=>rfl)) (pv 3) (λ_ _=>rfl)))) o7)
  (ma (my (qf gC rfl)))))),?_⟩
 refine(me _ rfl b _ _ _ ⟨rfl,rfl,SqT.of hb,mm (j:=0) rfl,?_⟩)
 refine(me _ rfl b _ _ _ ⟨rfl,rfl,SqT.of hb,mm (j:=1) rfl,?_⟩)
 refine(n8 _ rfl _ _ rfl rfl _ ⟨rfl,?_⟩)
 refine u8 (λc1=>?_) (λc1=>absurd (decide_eq_true (by show(0:Int)<=(r:Nat);omega)) c1)
 refine(n8 _ rfl a _ rfl (.inr (SqT.of ha)) _ (oe _ rfl rfl _ ⟨rfl,?_⟩))
 refine u8 (λc2=>?_) (λc2=>?_)
 .have hrM:r<M.h:=by
   have:((r:Nat):Int)<(((tf M).map V.str).length:Nat):=of_decide_eq_true c2
   rw[ah,rk]at this
   omega
  have hat:atI ((tf M).map V.str) (r:Int)=some (.str ⟨(qm M r).toArray⟩):=mm (abo hrM)
  have zl:(⟨(qm M r).toArray⟩:Str).length<=sizeLine:=by rw[pw];exact akf okM
  refine(n8 _ rfl _ _ rfl rfl _ ⟨rfl,?_⟩)
  refine u8 (λc3=>?_) (λc3=>absurd (decide_eq_true (by show(0:Int)<=(c:Nat);omega)) c3)
  refine(mq _ rfl _ rfl a _ _ ⟨_,rfl,rfl,SqT.of ha,hat,(oe _ rfl zl _ (oe _ rfl rfl _ ⟨rfl,?_⟩))⟩)
  refine u8 (λc4=>?_) (λc4=>?_)
  .have hcM:c<M.w:=by
    have:((c:Nat):Int)<((⟨(qm M r).toArray⟩:Str).length:Nat):=of_decide_eq_true c4
    rw[pw]at this
    omega
   unfold gA at q
   rw[if_pos ⟨hrM,hcM⟩]at q
   refine(mq _ rfl _ rfl a _ _ ⟨_,rfl,rfl,SqT.of ha,hat,(om _ rfl _ _ (M.g r c) ⟨rfl,rfl,zl,?_,q⟩)⟩)
   refine mm ?_
   show(qm M r).toArray.toList[c]?=_
   rw[List.toList_toArray]
   exact acb hcM
  .have c4':¬(((c:Nat):Int)<((⟨(qm M r).toArray⟩:Str).length:Nat)):=by simpa using c4
   rw[pw]at c4'
   exact out (by omega)
 .have c2':¬(((r:Nat):Int)<(((tf M).map V.str).length:Nat)):=by simpa using c2
  rw[ah,rk]at c2'
  refine xt ?_
  exact out (by omega)
theorem aqu:mx ["floor","cell"] ["floor","cell"] (mj aoh):={}
theorem scWant:mx ["floor","cell","sign"] ["floor","cell"] (mj anq):={}
noncomputable abbrev av8(P:Program)(w:World)(K:ai)(mg:Str->Option Value)(base:Heap):Prop:=Fn P w K mg base "sign_at" 1 ["floor","cell"] (ang λk=>.str ⟨#[k]⟩)
theorem ao1(gC:GS mg "CLOSED" "#")(Fat:av8 P w K mg base)(F:Fun K "is_open" "is_open" aoh f fd):qe P w K mg base CX0 2 f fd ["floor","cell"] (ang λk=>.bl (!(k==35))):=by
 refine F.ok (k:=1) aqu (λvs H Q E h=>?_) (λcdv A outer s H vs Q E hr h=>?_)
 .obtain⟨a,b,M,r,c,rfl,_⟩:=h
  rfl
 obtain⟨a,b,M,r,c,rfl,hf,hb,q⟩:=h
 dsimp only at q
 refine⟨_,(ma (my (qz afh (nh Fat hr (by decide) rfl (mf (pv 0) (mf (pv 1) lv))) (qf gC rfl) (oz _)))),?_⟩
 refine(mq _ rfl _ rfl a b M (mw r c ⟨rfl,hf,hb,rfl,?_⟩))
 rw[vd _ 35 eH]
 exact q
noncomputable def an6(k:Nat):V:=if (big k||aar k)=true then .str ⟨#[up1 k]⟩else .non
theorem api(Fat:av8 P w K mg base)(Fbig:Fn P w K mg base "is_sign" 1 ["found"] apj)(Fsmall:Fn P w K mg base "is_small" 1 ["found"] ajl)(F:Fun K "wanted" "wanted" anq f fd) :
  qe P w K mg base CX0 2 f fd ["floor","cell"] (ang an6):=by
 refine F.ok (k:=1) scWant (λvs H Q E h=>?_) (λcdv A outer s H vs Q E hr h=>?_)
 .obtain⟨a,b,M,r,c,rfl,_⟩:=h
  rfl
 obtain⟨a,b,M,r,c,rfl,hf,hb,q⟩:=h
 have h128:=aiw (apo hf.2 r c)
 refine⟨_,(lw (nc (i:=2) scWant.nd rfl (Or.inl rfl) (nh Fat hr (by decide) rfl (mf (pv 0) (mf (pv 1) lv))))
  (ma (my (ab3 (PW.pt (aoy (su (nh Fbig hr (by decide) rfl (mf (pv 2) lv))) (ai7 (su (nh Fsmall hr (by decide) rfl (mf (pv 2) lv)))))) (aq5 PySem.F.plainAttrs_str PySem.F.slot_str_upper PySem.F.type_str_upper ali (pv 2)) sr)))),?_⟩
 refine(mq _ rfl _ rfl a b M (mw r c ⟨rfl,hf,hb,?_⟩))
 generalize gA M r c=g at *
 refine(vo _ rfl _ rfl _ ⟨rfl,?_⟩)
 have q':∀t:Bool,(big g||aar g)=t->Q (if t=true then .str ⟨#[up1 g]⟩else .non) H:=λt ht=>by rw[<-ht];exact q
 refine u8 (λh1=>?_) (λh1=>?_)
 .refine si ?_
  refine(oe _ rfl rfl _ ⟨rfl,rfl,h128,q' true ?_⟩)
  have h1':big g=true:=h1
  rw[h1'];rfl
 .have h1':big g=false:=Bool.eq_false_iff.mpr h1
  refine(vo _ rfl _ rfl _ ⟨rfl,?_⟩)
  refine u8 (λh2=>?_) (λh2=>?_)
  .refine(oe _ rfl rfl _ ⟨rfl,rfl,h128,q' true ?_⟩)
   have h2':aar g=true:=h2
   rw[h2',Bool.or_true]
  .refine q' false ?_
   have h2':aar g=false:=Bool.eq_false_iff.mpr h2
   rw[h1',h2'];rfl
end
def SgN(d:PyData):Prop:=∃r c k:Nat,d=.tuple [.int (r:Nat),.int (c:Nat),.str ⟨#[k]⟩]/\65<=k/\k<=90
theorem SgN.spots{ds:List PyData}(h:∀d∈ds,SgN d):Spots ds:=λd hd=>by
 obtain⟨r,c,k,e,_⟩:=h d hd
 exact(nq r c _ e)
noncomputable def alu(M:Mat):PyData->Bool
 | .tuple [.int r,.int c,.str z]=>okS (gA M r.toNat c.toNat) (z.cps.toList.headD 0)
 | _=>false
theorem amz(M:Mat)(r c k:Nat):alu M (.tuple [.int (r:Nat),.int (c:Nat),.str ⟨#[k]⟩])=okS (gA M r c) k:=by
 show okS (gA M (Int.toNat (r:Nat)) (Int.toNat (c:Nat))) k=_
 rw[cc,cc]
noncomputable def sh1(dn rt:Int):PyData->PyData
 | .tuple [.int r,.int c,.str z]=>.tuple [.int (r+dn),.int (c+rt),.str z]
 | d=>d
theorem SgN.sh{dn rt:Nat}{d:PyData}(h:SgN d):SgN (sh1 (dn:Nat) (rt:Nat) d):=by
 obtain⟨r,c,k,rfl,hk⟩:=h
 refine(nq (r+dn) (c+rt) k ⟨?_,hk⟩)
 show PyData.tuple [.int ((r:Nat)+(dn:Nat)),.int ((c:Nat)+(rt:Nat)),.str ⟨#[k]⟩]=_
 rw[Int.natCast_add,Int.natCast_add]
theorem SgN.shs{dn rt:Nat}{ds:List PyData}(h:∀d∈ds,SgN d):∀d∈ds.map (sh1 (dn:Nat) (rt:Nat)),SgN d:=λd hd=>by
 obtain⟨e,he,rfl⟩:=bi.mp hd
 exact(h e he).sh
theorem auf{g:Nat}(h:g<128):up1 g<128:=by
 have:∀g<128,up1 g<128:=by decide +kernel
 exact this g h
theorem amp{g k:Nat}:([PyData.none,PyData.str ⟨#[k]⟩].any λe=>cj e (if (big g||aar g)=true then .str ⟨#[up1 g]⟩else .none))=(!(big g||aar g)||up1 g==k):=by
 by_cases h:(big g||aar g)=true
 .rw[if_pos h,h]
  show(false||(((⟨#[k]⟩:Str)==⟨#[up1 g]⟩)||false))=(false||up1 g==k)
  rw[Bool.false_or,Bool.or_false,Bool.false_or,ig,beq_iff_eq,beq_iff_eq]
  constructor
  .intro e
   injection e with e
   injection e with e
   injection e with e
   exact e.symm
  .intro e
   rw[e]
 .rw[if_neg h,Bool.eq_false_iff.mpr h]
  rfl
section
variable{P:Program}{w:World}{K:ai}{mg:Str->Option Value}{base:Heap}{f:Addr}{fd:FuncData}
def arz:Sp:=λvs H Q _=>∃(a b:Addr)(M:Mat)(r c k:Nat),vs=[.ref a,.ref b,.str ⟨#[k]⟩]/\FlM H a M/\H b=some (.tup [.int (r:Nat),.int (c:Nat)])/\65<=k/\k<=90/\∀H',Same H H'->Q (.bl (okS (gA M r c) k)) H'
theorem au0:mx ["floor","cell","sign"] ["floor","cell","sign"] (mj aug):={}
theorem aq7(Fopen:Fn P w K mg base "is_open" 2 ["floor","cell"] (ang λk=>.bl (!(k==35))))(Fwant:Fn P w K mg base "wanted" 2 ["floor","cell"] (ang an6))(F:Fun K "may_cover" "may_cover" aug f fd):qe P w K mg base CX0 3 f fd ["floor","cell","sign"] arz:=by
 refine F.ok (k:=2) au0 (λvs H Q E h=>?_) (λcdv A outer s H vs Q E hr h=>?_)
 .obtain⟨a,b,M,r,c,k,rfl,_⟩:=h
  rfl
 obtain⟨a,b,M,r,c,k,rfl,hf,hb,hk1,hk2,q⟩:=h
 have hu:=hr.units
 have hm:=asq (apo hf.2 r c) hk1 hk2
 have h128:=aiw (apo hf.2 r c)
 rw[<-hm]at q
 refine⟨_,(ma (my (aat (nh Fopen hr (by decide) rfl (mf (pv 0) (mf (pv 1) lv))) (ada (qz (af7 hu) (nh Fwant hr (by decide) rfl (mf (pv 0) (mf (pv 1) lv))) (ni (mf sr (mf (pv 2) lv))) rfl))))),?_⟩
 refine(mq _ rfl _ rfl a b M (mw r c ⟨rfl,hf,hb,_,rfl,?_⟩))
 refine u8 (λh1=>?_) (λh1=>?_)
 .rw[h1,Bool.true_and]at q
  refine(mq _ rfl _ rfl a b M (mw r c ⟨rfl,hf,hb,_,rfl,(by show 2<=sizeLine;decide),λp hp=>?_⟩))
  have s1:Same H (upd H p (.tup [.non,.str ⟨#[k]⟩])):=Same.fresh _ hp
  have c1:upd H p (.tup [.non,.str ⟨#[k]⟩]) p=some (.tup [.non,.str ⟨#[k]⟩]):=mr
  generalize upd H p (.tup [.non,.str ⟨#[k]⟩])=H1 at *
  generalize gA M r c=g at *
  refine(m8 (if (big g||aar g)=true then .str ⟨#[up1 g]⟩else .none) p _ ([.none,.str ⟨#[k]⟩]) ⟨?_,rfl,.inr c1,?_,?_,?_⟩)
  .unfold an6
   split
   .exact⟨rfl,ok1 (auf h128)⟩
   .rfl
  .exact(v9 _ _ rfl rfl _ _ ⟨rfl,⟨rfl,ok1 (by omega)⟩,rfl⟩)
  .split<;>simp[jh]
  .rw[if_neg aj,amp]
   exact q H1 s1
 .rw[Bool.eq_false_iff.mpr h1,Bool.false_and]at q
  exact q H (Same.refl _)
end
noncomputable def amn(M:Mat):PyData->Bool
 | .tuple es=>es.all (alu M)
 | _=>false
noncomputable def shT(M:Mat)(es:List PyData)(i:Nat):PyData:=.tuple (es.map (sh1 ((i/M.w:Nat):Int) ((i % M.w:Nat):Int)))
noncomputable def plS(M:Mat)(es:List PyData)(k:Nat):List PyData:=((b9 k).map (shT M es)).filter (amn M)
theorem agk(M:Mat)(es:List PyData)(k:Nat):plS M es (k+1)=plS M es k++if amn M (shT M es k)=true then[shT M es k]else[]:=by
 unfold plS
 rw[j9,br,List.filter_append]
 congr 1
 cases h:amn M (shT M es k)<;>simp[h]
theorem aoi(M:Mat)(es:List PyData)(k:Nat):(plS M es k).length<=k:=by
 have:=List.length_filter_le (amn M) ((b9 k).map (shT M es))
 rw[ah,f9]at this
 exact this
theorem plS_mem{M:Mat}{es:List PyData}{k:Nat}{d:PyData}:d∈plS M es k↔∃i,i<k/\d=shT M es i/\amn M d=true:=by
 unfold plS
 rw[ll,bi]
 constructor
 .rintro⟨⟨i,hi,rfl⟩,h⟩
  exact⟨i,fg.mp hi,rfl,h⟩
 .rintro⟨i,hi,rfl,h⟩
  exact⟨⟨i,fg.mpr hi,rfl⟩,h⟩
theorem aj5{M:Mat}{es:List PyData}(h:∀d∈es,SgN d){ds:List PyData}(hd:∀d∈ds,∃i,d=shT M es i):pj ds=true:=qc λd hx=>by
 obtain⟨i,rfl⟩:=hd d hx
 exact Spots.imm (SgN.spots (SgN.shs h))
theorem ao3{M:Mat}{es:List PyData}{i:Nat}{d:PyData}(h:es[i]?=some d):((es.take (i+1)).map (alu M)).map V.bl=((es.take i).map (alu M)).map V.bl++[V.bl (alu M d)]:=by
 rw[nw (alu M) h,br]
 rfl
section
variable{P:Program}{w:World}{K:ai}{mg:Str->Option Value}{base:Heap}{f:Addr}{fd:FuncData}
def ap9:Sp:=λvs H Q _=>∃(a b:Addr)(M:Mat)(xs:List V)(es:List PyData),vs=[.ref a,.ref b]/\FlM H a M/\H b=some (.tup xs)/\RepAll H es xs/\(∀d∈es,SgN d)/\es.length<=6/\∀H',Same H H'->Q (.bl (amn M (.tuple es))) H'
theorem auu:mx ["floor","spots"] ["floor","spots"] (mj avq):={}
theorem aoj(B:∀x∈tj,mg x=none)(Fmcv:Fn P w K mg base "may_cover" 3 ["floor","cell","sign"] arz)(F:Fun K "may_lie" "may_lie" avq f fd):qe P w K mg base CX0 4 f fd ["floor","spots"] ap9:=by
 refine F.ok (k:=3) auu (λvs H Q E h=>?_) (λcdv A outer s H vs Q E hr h=>?_)
 .obtain⟨a,b,M,xs,es,rfl,_⟩:=h
  rfl
 obtain⟨a,b,M,xs,es,rfl,hf,hb,rep,hs,h6,q⟩:=h
 have hl:=rep.length
 refine⟨_,(ma (my (p8 (abp rfl) rfl (B "all" (by decide)) boot_all (mf (oq ["row","column","sign","floor"] [none,none,none,some 0] rfl rfl (by decide +kernel) (by decide +kernel) rfl rfl (aa1 (pv 1)) (λ_=>(qv (n:=3) rfl (mn (mh (i:=0) (show(["row","column","sign","floor"]:List PySem.Str).Nodup by decide +kernel) rfl (Or.inl rfl)) (mn (mh (i:=1) (show(["row","column","sign","floor"]:List PySem.Str).Nodup by decide +kernel) rfl (Or.inl rfl)) (mn (mh (i:=2) (show(["row","column","sign","floor"]:List PySem.Str).Nodup by decide +kernel) rfl (Or.inl rfl)) o0))))) (λ_=>o8) (λ_=>(nh Fmcv hr (by decide) rfl (mf (pv 3) (mf (ni (mf (pv 0) (mf (pv 1) lv))) (mf (pv 2) lv)))))) lv)))),?_⟩
 refine(pk _ rfl b ⟨rfl,⟨_,SqT.of hb⟩,λD hD=>?_⟩)
 refine wt (xs:=xs) (λi zs G=>Same H G/\zs=((es.take i).map (alu M)).map V.bl) ⟨Same.fresh _ hD,rfl⟩ (λi zs G p=>SqT.of (p.1 _ _ hb)) (λi x zs G hx hi hDy hzl p=>?_) (λzs G hDy hzl p=>?_)
 .obtain⟨p1,rfl⟩:=p
  obtain⟨d,hd,rd⟩:=rep.at hx
  obtain⟨r,c,k,rfl,hk1,hk2⟩:=hs d (aq hd)
  obtain⟨b',rfl,hb',_⟩:=sn rd
  refine(m9 b' _ rfl (SqT.of (p1 _ _ hb')) rfl _ _ rfl _ (oj _ rfl _ _ ⟨rfl,rfl,?_⟩))
  refine⟨Agree.set (Agree.set (Agree.set (Agree.refl _) rfl) rfl) rfl,?_⟩
  dsimp only[yb]
  refine si ?_
  refine(vo _ rfl _ rfl _ ⟨rfl,(by show 2<=sizeLine;decide),λp hp=>?_⟩)
  have s2:Same G (upd G p (.tup [.int (r:Nat),.int (c:Nat)])):=Same.fresh _ hp
  have c2:upd G p (.tup [.int (r:Nat),.int (c:Nat)]) p=some (.tup [.int (r:Nat),.int (c:Nat)]):=mr
  generalize upd G p (.tup [.int (r:Nat),.int (c:Nat)])=G2 at *
  refine(me _ rfl a p M r (mw c k ⟨rfl,hf.same (p1.trans s2),c2,hk1,hk2,λG3 s3=>?_⟩))
  refine pi (by omega) (s3 _ _ (s2 _ _ hDy)) hzl ⟨((p1.trans s2).trans s3).new hD,?_⟩
  rw[ao3 hd,amz]
 .obtain⟨p1,rfl⟩:=p
  rw[a9 (by omega)]at hDy
  refine(mw D _ ⟨rfl,hDy,?_⟩)
  rw[List.all_map]
  exact q G p1
def aqf:Sp:=λvs H Q _=>∃(b:Addr)(dn rt:Int)(xs:List V)(es:List PyData),vs=[.ref b,.int dn,.int rt]/\H b=some (.tup xs)/\RepAll H es xs/\Spots es/\es.length<=64/\∀r ys H',Same H H'->H r=none->H' r=some (.tup ys)->RepAll H' (es.map (sh1 dn rt)) ys->Q (.ref r) H'
theorem au7:mx ["spots","down","right"] ["spots","down","right"] (mj avz):={}
theorem ap8(B:∀x∈tj,mg x=none)(F:Fun K "shifted" "shifted" avz f fd):qe P w K mg base CX0 1 f fd ["spots","down","right"] aqf:=by
 refine F.ok (k:=0) au7 (λvs H Q E h=>?_) (λcdv A outer s H vs Q E hr h=>?_)
 .obtain⟨b,dn,rt,xs,es,rfl,_⟩:=h
  rfl
 obtain⟨b,dn,rt,xs,es,rfl,hb,rep,hs,h64,q⟩:=h
 refine⟨_,(ma (my (wv ou rfl (B "tuple" (by decide)) li (mf (oq ["row","column","sign","down","right"] [none,none,none,some 1,some 2] rfl rfl (by decide +kernel) (by decide +kernel) rfl rfl (asu (pv 0)) (λ_=>(qv (n:=3) rfl (mn (mh (i:=0) (show(["row","column","sign","down","right"]:List PySem.Str).Nodup by decide +kernel) rfl (Or.inl rfl)) (mn (mh (i:=1) (show(["row","column","sign","down","right"]:List PySem.Str).Nodup by decide +kernel) rfl (Or.inl rfl)) (mn (mh (i:=2) (show(["row","column","sign","down","right"]:List PySem.Str).Nodup by decide +kernel) rfl (Or.inl rfl)) o0))))) (λ_=>o8) (λ_=>(ni (mf (ow qg (pv 0) (pv 3)) (mf (ow qg (pv 1) (pv 4)) (mf (pv 2) lv)))))) lv)))),?_⟩
 refine ah0 (sh1 dn rt) rfl rfl (.inr hb) rep hs h64 (λr c z H' Q' h=>?_) (λr c z=>(mw _ _ rfl)) λD ys H2 hD sm hDy rep2=>?_
 .obtain⟨u,v,e,q⟩:=h
  cases (show PyData.tuple [.int (r+dn),.int (c+rt),.str z]=.tuple [.int u,.int v,.str z]from e)
  exact(sj _ rfl _ rfl _ _ rfl rfl _ ⟨rfl,(n8 _ rfl _ _ rfl rfl _ ⟨rfl,(by show 3<=sizeLine;decide),q⟩)⟩)
 .refine(mw D ys ⟨rfl,.inl ⟨SqL.of hDy,λl hl=>?_⟩⟩)
  have s2:Same H2 (upd H2 l (.tup ys)):=Same.fresh _ hl
  exact q l ys _ (sm.trans s2) (sm.free hl) mr (rep2.same s2)
end
section
variable{P:Program}{w:World}{K:ai}{mg:Str->Option Value}{base:Heap}{f:Addr}{fd:FuncData}
def ath:Sp:=λvs H Q _=>∃(a b:Addr)(M:Mat)(xs:List V)(es:List PyData),vs=[.ref a,.ref b]/\FlM H a M/\H b=some (.tup xs)/\RepAll H es xs/\(∀d∈es,SgN d)/\es.length<=6/\
 ∀(D:Addr)(ys:List V)(H':Hp),Same H H'->H' D=some (.lst ys)->RepAll H' (plS M es (M.h*M.w)) ys->Q (.ref D) H'
theorem scPla:mx ["floor","form","shifts"] ["floor","form"] (mj avg):={}
theorem aqj(B:∀x∈tj,mg x=none)(Fspots:Fn P w K mg base "floor_spots" 1 ["floor"] aff)(Fshf:Fn P w K mg base "shifted" 1 ["spots","down","right"] aqf)(Fmay:Fn P w K mg base "may_lie" 4 ["floor","spots"] ap9)(F:Fun K "places" "places" avg f fd):qe P w K mg base CX0 5 f fd ["floor","form"] ath:=by
 refine F.ok (k:=4) scPla (λvs H Q E h=>?_) (λcdv A outer s H vs Q E hr h=>?_)
 .obtain⟨a,b,M,xs,es,rfl,_⟩:=h
  rfl
 obtain⟨a,b,M,xs,es,rfl,hf,hb,rep,hs,h6,q⟩:=h
 have okM:=hf.2
 have hw1:=okM.w1
 have hhw:M.h*M.w<=64:=jg okM.h8 okM.w8
 refine⟨_,(lw (ai9 (i:=2) ["row","column","sign","form"] [none,none,none,some 1] scPla.nd rfl (Or.inl rfl) rfl rfl rfl (by decide +kernel) (by decide +kernel) rfl rfl (n0 (nh Fspots hr (by decide) rfl (mf (pv 0) lv))) (λ_=>(qv (n:=3) rfl (mn (mh (i:=0) (show(["row","column","sign","form"]:List PySem.Str).Nodup by decide +kernel) rfl (Or.inl rfl)) (mn (mh (i:=1) (show(["row","column","sign","form"]:List PySem.Str).Nodup by decide +kernel) rfl (Or.inl rfl)) (mn (mh (i:=2) (show(["row","column","sign","form"]:List PySem.Str).Nodup by decide +kernel) rfl (Or.inl rfl)) o0))))) (λ_=>o8) (λ_=>(nh Fshf hr (by decide) rfl (mf (pv 3) (mf (pv 0) (mf (pv 1) lv))))))
  (ma (my (oq ["spots","floor"] [none,some 0] rfl rfl (by decide +kernel) (by decide +kernel) rfl rfl (n0 (pv 2)) (λ_=>(mh (i:=0) (show(["spots","floor"]:List PySem.Str).Nodup by decide +kernel) rfl (Or.inl rfl))) (λ_=>tq (su (nh Fmay hr (by decide) rfl (mf (pv 1) (mf (pv 0) lv))))) (λ_=>(pv 0)))))),?_⟩
 refine(oj _ rfl a (tf M) ⟨rfl,FlM.fl hf,λD1 ys1 H1 s1 hD1 hl1 rep1=>?_⟩)
 rw[rk,wu M M.h (am _)]at rep1
 have ly1:=rep1.length
 rw[ah,f9]at ly1
 refine⟨D1,rfl,⟨_,SqL.of hD1⟩,λD hD=>?_⟩
 refine ny (xs:=ys1) (λi zs G=>Same H1 G/\RepAll G ((b9 i).map (shT M es)) zs) ⟨Same.fresh _ hD,rfl⟩ (λi zs G p=>SqL.of (p.1 _ _ hD1)) (λi x zs G hx hi hDy hzl p=>?_) (λzs G hDy hzl p=>?_)
 .obtain⟨p1,p2⟩:=p
  obtain⟨d,hd,rd⟩:=rep1.at hx
  rw[aw,jj (by omega)]at hd
  cases hd
  obtain⟨b',rfl,hb',_⟩:=sn rd
  refine(m9 b' _ rfl (SqT.of (p1 _ _ hb')) rfl _ _ rfl _ (oj _ rfl _ _ ⟨rfl,rfl,?_⟩))
  refine⟨Agree.set (Agree.set (Agree.set (Agree.refl _) rfl) rfl) rfl,?_⟩
  dsimp only[yb]
  refine si ?_
  have sG:=s1.trans p1
  refine(og _ rfl _ rfl _ rfl b ((i/M.w:Nat):Int) (nq ((i % M.w:Nat):Int) xs es ⟨rfl,sG _ _ hb,rep.same sG,SgN.spots hs,by omega,λr ys G2 s2 _ hr2 rep2=>?_⟩))
  have hD2:=s2 _ _ hDy
  refine pi (by omega) hD2 hzl ⟨(p1.trans s2).new hD,?_⟩
  rw[j9,br]
  refine((p2.same s2).snoc (show Rep G2 (shT M es i) (.ref r)from ⟨r,ys,rfl,hr2,rep2⟩)).tk (Tk.lst hD2) (aj5 (M:=M) hs λd hd=>?_)
  rcases ax.mp hd with h|h
  .obtain⟨j,_,rfl⟩:=bi.mp h
   exact⟨j,rfl⟩
  .exact⟨i,ao.mp h⟩
 .obtain⟨p1,p2⟩:=p
  have lz:=p2.length
  rw[ah,f9]at lz
  have sG:=s1.trans p1
  refine(pk _ rfl D ⟨rfl,⟨_,SqL.of hDy⟩,λD3 hD3=>?_⟩)
  refine ny (xs:=zs) (λi us G3=>Same G G3/\RepAll G3 (plS M es i) us) ⟨Same.fresh _ hD3,rfl⟩ (λi us G3 p=>SqL.of (p.1 _ _ hDy)) (λi x us G3 hx hi hDy3 hul p=>?_) (λus G3 hDy3 hul p=>?_)
  .obtain⟨p3,p4⟩:=p
   obtain⟨d,hd,rd⟩:=p2.at hx
   rw[aw,jj (by omega)]at hd
   cases hd
   have rd0:=id rd
   obtain⟨c',ys',rfl,hc',rep'⟩:=rd
   refine⟨Agree.set (Agree.refl _) rfl,?_⟩
   refine(mq _ rfl _ rfl a c' M (mw ys' _ ⟨rfl,hf.same (sG.trans p3),p3 _ _ hc',rep'.same p3,SgN.shs hs,by rw[ah];exact h6,λG4 s4=>?_⟩))
   refine⟨_,rfl,?_⟩
   have hD4:=s4 _ _ hDy3
   have im:pj (plS M es (i+1))=true:=aj5 (M:=M) hs λd hd=>by
    obtain⟨j,_,e,_⟩:=plS_mem.mp hd
    exact⟨j,e⟩
   refine u8 (λh1=>?_) (λh1=>?_)
   .refine⟨_,rfl,?_⟩
    refine pi (by omega) hD4 hul ⟨(p3.trans s4).new hD3,?_⟩
    have e1:plS M es (i+1)=plS M es i++[shT M es i]:=by rw[agk,if_pos (show amn M (shT M es i)=true from h1)]
    rw[e1]at im
    rw[e1]
    exact((p4.same s4).snoc (Rep.same (p3.trans s4) rd0)).tk (Tk.lst hD4) im
   .refine⟨_,hD4,by omega,p3.trans s4,?_⟩
    rw[agk,if_neg (show ¬amn M (shT M es i)=true from h1),gf]
    exact p4.same s4
  .obtain⟨p3,p4⟩:=p
   rw[lz,ly1]at p4
   exact q D3 us G3 (sG.trans p3) hDy3 p4
end
theorem arh{es:List PyData}(h:Zr es):∀d∈es,SgN d:=λd hd=>by
 obtain⟨r,c,k,rfl,hk⟩:=h.pre.sg d hd
 have h1:xy (es.map yi)<=r:=wz _ (jk (f:=yi) hd)
 have h2:xy (es.map yg)<=c:=wz _ (jk (f:=yg) hd)
 rw[h.r0]at h1
 rw[h.c0]at h2
 refine(nq r.toNat c.toNat k ⟨?_,hk⟩)
 rw[Int.toNat_of_nonneg h1,Int.toNat_of_nonneg h2]
def PlD(d:PyData):Prop:=∃es n,d=.tuple [.tuple es,.int n]/\(∀e∈es,SgN e)/\0<es.length/\es.length<=6
def KsZ(ks:List (List PyData×Nat)):Prop:=∀k∈ks,Zr k.1/\k.2<=8
theorem am0(es:List PyData)(a b:Int):(es.map (sh1 a b)).length=es.length:=ah _
def RawD(M:Mat)(nk:Nat)(d:PyData):Prop:=∃es i n,Zr es/\d=.tuple [shT M es i,.int (n:Nat)]/\amn M (shT M es i)=true/\n<nk
theorem RawD.pl{M:Mat}{nk:Nat}{d:PyData}(h:RawD M nk d):PlD d:=by
 obtain⟨es,i,n,hz,rfl,_⟩:=h
 exact(mw _ _ ⟨rfl,SgN.shs (arh hz),by rw[am0];exact hz.pre.pos,by rw[am0];exact hz.pre.six⟩)
theorem SgN.sg{d:PyData}(h:SgN d):SgD d:=by
 obtain⟨r,c,k,e,hk⟩:=h
 exact(nq r c k ⟨e,hk⟩)
theorem PlD.key{d:PyData}(h:PlD d):atu d/\L3.TT d:=by
 obtain⟨es,n,rfl,hs,_⟩:=h
 have hd:=abl (SgN.spots hs)
 refine⟨⟨?_,⟨_,rfl⟩,by simp[jh,b7];omega⟩,(mw _ _ rfl)⟩
 show(rq es&&(true&&true))=true
 rw[ai5 λd hd=>(hs d hd).sg]
 rfl
theorem PlD.cmp{ds:List PyData}(h:∀d∈ds,PlD d):CmpA ds:=
 ⟨λx hx y hy=>by
  obtain⟨es,n,rfl,hs,_⟩:=h x hx
  obtain⟨fs,m,rfl,hs',_⟩:=h y hy
  exact⟨ae6 (λd hd=>(hs d hd).sg) (λd hd=>(hs' d hd).sg),trivial,trivial⟩,λx hx=>(h x hx).key.1.1⟩
theorem PlD.imm:∀{ds:List PyData},(∀d∈ds,PlD d)->pj ds=true
 | [],_=>rfl
 | d::ds,a=>by
  obtain⟨es,n,rfl,hs,_⟩:=a d bj
  have h1:=Spots.imm (SgN.spots hs)
  have h2:=PlD.imm λx hx=>a x (bf _ hx)
  show(_root_.L3.imm (.tuple [.tuple es,.int n])&&pj ds)=true
  rw[h2,Bool.and_true]
  show(pj es&&true)=true
  rw[h1]
  rfl
theorem KindsK.z{H:Hp}{kvs:List V}{ks:List (List PyData×Nat)}(h:KindsK H kvs ks):KsZ ks:=λk hk=>by
 obtain⟨i,hi,rfl⟩:=List.getElem_of_mem hk
 have hi':i<kvs.length:=by rw[h.1];exact hi
 obtain⟨b,nm,u1,u2,m,fr,xs,_,_,_,_,hz,hm⟩:=h.2 i _ _ (ab hi') (ab hi)
 exact⟨hz,by rcases hm with h|h|h<;>omega⟩
theorem ao0{s:List PyData}{n:Nat}{i:Nat}{x:PyData}(h:s[i]?=some x):(s.take (i+1)).map (λs=>PyData.tuple [s,.int (n:Nat)])=(s.take i).map (λs=>PyData.tuple [s,.int (n:Nat)])++[.tuple [x,.int (n:Nat)]]:=nw _ h
section
variable{P:Program}{w:World}{K:ai}{mg:Str->Option Value}{base:Heap}{f:Addr}{fd:FuncData}
def as7:Sp:=λvs H Q _=>∃(p:Addr)(M:Mat) (ks:List (List PyData×Nat)),vs=[.ref p]/\PzK H p M ks/\∀(l:Addr)(ys:List V)(ds:List PyData)(H':Hp),Same H H'->H l=none->H' l=some (.lst ys)->RepAll H' ds ys->(∀d∈ds,RawD M ks.length d)->ds.length<=3072->Q (.ref l) H'
theorem scPlc:mx ["puzzle","found","number","kind","form"] ["puzzle"] (mj avn):={}
theorem ati(B:∀x∈tj,mg x=none)(Fforms:Fn P w K mg base "forms_of" 3 ["form","mode"] aki)(Fpla:Fn P w K mg base "places" 5 ["floor","form"] ath)(F:Fun K "placements" "placements" avn f fd):qe P w K mg base CX0 6 f fd ["puzzle"] as7:=by
 refine F.ok (k:=5) scPlc (λvs H Q E h=>?_) (λcdv A outer s H vs Q E hr h=>?_)
 .obtain⟨p,M,ks,rfl,_⟩:=h
  rfl
 obtain⟨p,M,ks,rfl,⟨fl,kr,e,kvs,hp,hfl,hkr,hks,h6⟩,q⟩:=h
 have hu:=hr.units
 have okM:=hfl.2
 have hKZ:=hks.z
 refine⟨_,(lw (nc (i:=1) scPlc.nd rfl (Or.inl rfl) (ph lv))
  (lw (p7 ci rfl (akv rfl (B "enumerate" (by decide)) (mf (ng nu (pv 0) l7 (λ_ _=>rfl)) lv)) (rj (n:=2) rfl (mn (mh (i:=2) scPlc.nd rfl (Or.inr rfl)) (mn (mh (i:=3) scPlc.nd rfl (Or.inl rfl)) o0))) (ma (p7 ci rfl (n0 (nh Fforms hr (by decide) rfl (mf (ng nu (pv 3) l7 (λ_ _=>rfl)) (mf (ng nu (pv 3) l7 (λ_ _=>rfl)) lv)))) (mh (i:=4) scPlc.nd rfl (Or.inl rfl)) (ma (qo (vk da PySem.F.slot_list_extend PySem.F.type_list_extend ain (pv 1) (mf (oq ["spots","number"] [none,some 2] rfl rfl (by decide +kernel) (by decide +kernel) rfl rfl (n0 (nh Fpla hr (by decide) rfl (mf (ng nu (pv 0) l7 (λ_ _=>rfl)) (mf (pv 4) lv)))) (λ_=>(mh (i:=0) (show(["spots","number"]:List PySem.Str).Nodup by decide +kernel) rfl (Or.inl rfl))) (λ_=>o8) (λ_=>(ni (mf (pv 0) (mf (pv 1) lv))))) lv)))))))
  (ma (my (aaa rfl hu rfl (B "sorted" (by decide)) rfl (B "set" (by decide)) (mf (pv 1) lv)))))),?_⟩
 refine⟨(by show 0<=sizeLine;decide),λD hD=>?_⟩
 have s1:Same H (upd H D (.lst [])):=Same.fresh _ hD
 have d1:upd H D (.lst []) D=some (.lst ([]:List V)):=mr
 generalize upd H D (.lst [])=H1 at *
 refine(me _ rfl p _ _ _ ⟨rfl,rfl,SqT.of (s1 _ _ hp),mm (j:=1) rfl,kr,rfl,⟨_,SqT.of (s1 _ _ hkr)⟩,?_⟩)
 refine afg (xs:=kvs) (λi σ' G=>∃(y2 y3 y4:Option V)(ys:List V)(ds:List PyData),σ'=[some (.ref p),some (.ref D),y2,y3,y4]/\Same H G/\G D=some (.lst ys)/\RepAll G ds ys/\(∀d∈ds,RawD M ks.length d)/\ds.length<=i*512) ?_ (λi σ' G h=>?_) (λi x pr σ' G hx hpr h=>?_) (λσ' G h=>?_)
 .exact(l9 _ _ _ ([]) ([]) ⟨rfl,s1,d1,rfl,(λd hd=>by cases hd),dq _⟩)
 .obtain⟨_,_,_,_,_,_,sg,_⟩:=h
  exact SqT.of (sg _ _ hkr)
 .obtain⟨y2,y3,y4,ys,ds,rfl,sg,hG,rep,hR,hdl⟩:=h
  have hi:i<kvs.length:=(ae.mp hx).1
  have hik:i<ks.length:=by rw[<-hks.1];exact hi
  have hkj:=ab hik
  have hk:=(hks.2 i x _ hx hkj).same sg
  generalize ks[i]=kk at *
  obtain⟨es,n⟩:=kk
  obtain⟨b,nm,u1,u2,m,fr,xs,rfl,hb,hfr,repE,hz,hm⟩:=hk
  have repE:RepAll G es xs:=repE
  have hz:Zr es:=hz
  have hm:ag4 m n:=hm
  refine(m9 pr _ rfl (SqT.of mr) rfl _ _ rfl _ ⟨_,rfl,rfl,?_⟩)
  have s2:Same G (upd G pr (.tup [.int (i:Nat),.ref b])):=Same.fresh _ hpr
  generalize upd G pr (.tup [.int (i:Nat),.ref b])=G2 at *
  refine(me _ rfl b _ _ _ ⟨rfl,rfl,SqT.of (s2 _ _ hb),mm (j:=4) rfl,(me _ rfl b _ _ _ ⟨rfl,rfl,SqT.of (s2 _ _ hb),mm (j:=3) rfl,?_⟩)⟩)
  refine(l9 fr m n xs es ⟨rfl,s2 _ _ hfr,repE.same s2,hz,hm,λl fs fd G3 s3 hl0 hl hF hFl repF=>?_⟩)
  have lf:=repF.length
  have sg3:=(sg.trans s2).trans s3
  refine⟨l,rfl,⟨_,SqL.of hl⟩,?_⟩
  refine qr (xs:=fs) (λj σ' G4=>∃(y4:Option V)(zs:List V)(ds:List PyData),σ'=[some (.ref p),some (.ref D),some (.int (i:Nat)),some (.ref b),y4]/\Ex [D] G3 G4/\Same H G4/\G4 D=some (.lst zs)/\RepAll G4 ds zs/\(∀d∈ds,RawD M ks.length d)/\ds.length<=i*512+j*64) ?_ (λj σ' G4 hj h=>?_) (λj x σ' G4 hx h=>?_) (λσ' G4 h=>?_)
  .exact(nq _ ys ds ⟨rfl,Ex.refl _ _,sg3,s3 _ _ (s2 _ _ hG),rep.same (s2.trans s3),hR,by omega⟩)
  .obtain⟨_,_,_,_,ex,_⟩:=h
   exact SqL.of (ex.at (λz=>by rw[z,s2 _ _ hG]at hl0;cases hl0) hl)
  .obtain⟨y4,zs,ds,rfl,ex,sg4,hG4,rep4,hR,hdl⟩:=h
   have hj:j<fs.length:=(ae.mp hx).1
   obtain⟨d,hd,rd⟩:=repF.at hx
   obtain⟨es2,rfl,hz2⟩:=hF d (aq hd)
   obtain⟨fb,xs2,rfl,hfb,rep2⟩:=rd
   have nfb:fb≠D:=λz=>by rw[z,s3 _ _ (s2 _ _ hG)]at hfb;cases hfb
   have tk4:Tk G3 G4:=ex.one (s3 _ _ (s2 _ _ hG))
   refine⟨_,rfl,.inl ⟨rfl,_,SqL.of hG4⟩,?_⟩
   refine(me _ rfl p _ _ _ ⟨rfl,rfl,SqT.of (sg4 _ _ hp),mm (j:=0) rfl,(me _ rfl fl fb M xs2 ⟨es2,rfl,hfl.same sg4,ex.at nfb hfb,rep2.tk tk4 (Spots.imm hz2.pre.spots),arh hz2,hz2.pre.six,λD5 ys5 G5 s5 hD5 rep5=>?_⟩)⟩)
   have l5:=rep5.length
   have hp64:=aoi M es2 (M.h*M.w)
   have hhw:M.h*M.w<=64:=jg okM.h8 okM.w8
   have hRn:∀d∈(plS M es2 (M.h*M.w)).map λs=>PyData.tuple [s,.int (i:Nat)],RawD M ks.length d:=λd hd=>by
    obtain⟨s,hs,rfl⟩:=bi.mp hd
    obtain⟨i',_,rfl,hf⟩:=plS_mem.mp hs
    exact(nq es2 i' i ⟨hz2,rfl,hf,hik⟩)
   refine⟨D5,rfl,⟨_,SqL.of hD5⟩,λD6 hD6=>?_⟩
   refine ny (xs:=ys5) (λt us G6=>Same G5 G6/\RepAll G6 (((plS M es2 (M.h*M.w)).take t).map λs=>PyData.tuple [s,.int (i:Nat)]) us) ⟨Same.fresh _ hD6,rfl⟩ (λt us G6 p=>SqL.of (p.1 _ _ hD5)) (λt x us G6 hx6 hi6 hDy6 hul6 p=>?_) (λus G6 hDy6 hul6 p=>?_)
   .obtain⟨p1,p2⟩:=p
    obtain⟨d6,hd6,rd6⟩:=rep5.at hx6
    refine⟨Agree.set (Agree.refl _) rfl,?_⟩
    dsimp only[yb]
    refine si ?_
    refine(pk _ rfl _ ⟨rfl,(by show 2<=sizeLine;decide),λt7 ht7=>?_⟩)
    have s7:Same G6 (upd G6 t7 (.tup [x,.int (i:Nat)])):=Same.fresh _ ht7
    have c7:upd G6 t7 (.tup [x,.int (i:Nat)]) t7=some (.tup [x,.int (i:Nat)]):=mr
    generalize upd G6 t7 (.tup [x,.int (i:Nat)])=G7 at *
    have hD7:=s7 _ _ hDy6
    refine pi (by omega) hD7 hul6 ⟨(p1.trans s7).new hD6,?_⟩
    rw[ao0 hd6]
    have rx:Rep G7 (.tuple [d6,.int (i:Nat)]) (.ref t7):=(ox t7 _ rfl c7 _ _ rfl (Rep.same (p1.trans s7) rd6) _ ⟨_,rfl,rfl,rfl⟩)
    refine((p2.same s7).snoc rx).tk (Tk.lst hD7) (PlD.imm λdx hdx=>(hRn dx ?_).pl)
    rcases ax.mp hdx with h|h
    .obtain⟨y,hy,rfl⟩:=bi.mp h
     exact jk (gt hy)
    .rw[ao.mp h]
     exact jk (aq hd6)
   .obtain⟨p1,p2⟩:=p
    rw[a9 (by omega)]at p2
    have sB:=s5.trans p1
    have hG6:=sB _ _ hG4
    have lz:=rep4.length
    have lu:=p2.length
    rw[ah]at lu
    have hR':∀d∈ds++(plS M es2 (M.h*M.w)).map λs=>PyData.tuple [s,.int (i:Nat)],RawD M ks.length d:=λd hd=>(ax.mp hd).elim (hR d) (hRn d)
    refine(m8 D D6 zs us ⟨rfl,rfl,hG6,hDy6,gc (by rw[io];omega),?_⟩)
    exact(nq _ (zs++us) _ ⟨rfl,(ex.trans (Ex.of_same (W:=[D]) sB)).trans (Ex.upd (by simp)),(sg4.trans sB).new hD,mr,((rep4.same sB).append p2).tk (Tk.lst hG6) (PlD.imm λd hd=>(hR' d hd).pl),hR',by rw[bu,ah];omega⟩)
  .obtain⟨y4,zs,ds,rfl,ex,sg4,hG4,rep4,hR,hdl⟩:=h
   exact(l9 _ _ _ zs ds ⟨rfl,sg4,hG4,rep4,hR,by omega⟩)
 .obtain⟨y2,y3,y4,ys,ds,rfl,sg,hG,rep,hR,hdl⟩:=h
  have hl:=hks.1
  refine(om _ rfl D ys ds ⟨rfl,hG,rep,λd hd=>(hR d hd).pl.key,PlD.cmp λd hd=>(hR d hd).pl,by omega,λes l zs hle hsub hl2 rz=>?_⟩)
  exact q l zs es _ (sg.trans (Same.fresh _ hl2)) (sg.free hl2) mr rz (λd hd=>hR d (hsub d hd)) (by omega)
end
end K23
namespace L3
open PySem
mutual
noncomputable def drw:PyData->Nat
 | .tuple ds=>uf ds+1
 | .int _=>1
 | .str _=>1
 | .none=>1
 | .bool _=>1
 | .list _=>1
 | .dict _=>1
noncomputable def uf:List PyData->Nat
 | []=>0
 | d::ds=>drw d+uf ds
end
theorem sq(d:PyData):∀l:List PyData,uf (l++[d])=uf l+drw d
 | []=>by show drw d+0=0+drw d;omega
 | e::l=>by show drw e+uf (l++[d])=drw e+uf l+drw d;rw[sq d l];omega
theorem ul(w:World)(d:PyData):∀l:List PyData,qb w (l++[d])=qb w l++[ve w d]
 | []=>rfl
 | y::l=>by show ve w y::qb w (l++[d])=_;rw[ul w d l];rfl
def amq(d:PyData):Prop:=∀(prog:Program)(w:World)(A:Around)(E:Value->Shared->Prop)(s:Shared)(v:Value)(as:List Addr)(Q:Int->Shared->Prop),Reads s.heap v d as->A.units+d.depth<cLine->Q (ve w d) {s with toks:=s.toks+drw d}->wpAny (model prog w) A (pyHash v) Q E s
theorem aen{ds:List PyData}(H:∀d∈ds,amq d):amq (.tuple ds):=λprog w A E s v as Q r hu h=>by
 cases r with
 | @tuple a o vs n _ _ ho hc hd hi=>
 have hT:s.TypeIs (.ref a) "tuple":=⟨o,ho,hc⟩
 have hu':A.units+(b7 ds+1)<cLine:=hu
 unfold pyHash
 first|unfold pyHashByItsType|skip
 first|refine aa (wpAny_cRoomFor_or (.inr (show A.units<cLine by omega)) ?_)|skip
 refine aa (j5 (name:="__hash__") hT ir.lookup ?_)
 show wpAny _ _ (if (some (Value.builtin "tuple.__hash__")==some Value.none)=true then _ else _) _ _ _
 rw[if_neg (show ¬_ by rw[beq_builtin_none];exact aj)]
 refine aa (j5 (name:="__hash__") hT ir.lookup ?_)
 show wpAny _ _ (callSpecialIfBoundUnlessNone? (.ref a) "__hash__" _ >>= _) _ _ _
 refine aa (wpAny_callSpecialIfBoundUnlessNone?_slot (name:="__hash__") hT ir (cf (name:="__hash__") ir hT F.entry_tuple_hash ?_ (F.args_tuple_hash_1 _)))
 show wpAny _ _ (Builtin.Tuple.tupleItemsOf (.ref a) >>= _) _ _ _
 refine aa (wpAny_tupleItemsOf (n:=n) ho hd ?_)
 refine aa ?_
 rw[<-Array.forIn_toList]
 refine k5 _
  (λrest (b:Array Int) s'=>∃done left bs,ds=done++left/\ReadsAll s.heap rest left bs/\b.toList=qb w done/\s'={s with toks:=s.toks+uf done})
  _ (λx rest b s' hI=>?_) (λb s' hI=>?_) _ _ ⟨[],ds,as,rfl,hi,rfl,rfl⟩
 .obtain⟨done,left,bs,e,hl,hb,rfl⟩:=hI
  cases hl with
  | @cons _ _ d ds' _ _ h1 hl'=>
   have hmem:d∈ds:=by rw[e];simp
   have hd1:=abt d hmem
   refine aa (H d hmem prog w _ E {s with toks:=s.toks+uf done} x _ _ h1 (by show A.units+1+d.depth<cLine;omega) ?_)
   have ht:s.toks+uf done+drw d=s.toks+uf (done++[d]):=by rw[sq];omega
   first
    | exact af ⟨done++[d],ds',_,by simp[e],hl',by simp[hb,ul],by simp[sq,jn]⟩
    | exact aa (af (af ⟨done++[d],ds',_,by simp[e],hl',by simp[hb,ul],by simp[sq,jn]⟩))
 .obtain⟨done,left,bs,e,hl,hb,rfl⟩:=hI
  cases hl
  rw[gf]at e
  subst e
  show wpAny _ _ (retInt (fh b.toList)) _ _ _
  rw[hb]
  refine wpAny_ret_mkInt ?_
  show wpAny _ _ (if (decide (-(2:Int)^63<=fh (qb w ds))&&decide (fh (qb w ds)<2^63))=true then _ else _) _ _ _
  have h':Q (reduceHash (fh (qb w ds))) {s with toks:=s.toks+(uf ds+1)}:=h
  unfold reduceHash at h'
  split
  .rename_i hr
   rw[if_pos hr]at h'
   exact af (by simpa [jn]using h')
  .rename_i hr
   rw[if_neg hr]at h'
   exact aa (jz (af (by simpa [jn]using h')))
mutual
theorem zk:∀(d:PyData),kd d=true->amq d
 | .int i,_=>λprog w A E s v as Q r hu h=>by
  cases r with
  | int=>exact wpAny_pyHash_int h
 | .str x,_=>λprog w A E s v as Q r hu h=>by
  cases r with
  | str=>exact wpAny_pyHash_str h
 | .tuple ds,hk=>aen (u7 ds hk)
 | .none,hk=>absurd hk aj
 | .bool _,hk=>absurd hk aj
 | .list _,hk=>absurd hk aj
 | .dict _,hk=>absurd hk aj
theorem u7:∀(ds:List PyData),rq ds=true->∀d∈ds,amq d
 | [],_,d,hd=>by cases hd
 | e::ds,hk,d,hd=>by
  have hk':(kd e&&rq ds)=true:=hk
  rw[du]at hk'
  rcases bq.mp hd with h|hd
  .rw[h];exact zk e hk'.1
  .exact u7 ds hk'.2 d hd
end
structure axb(h:Heap)(d:PyData)(a:Addr):Prop where
 key:kd d=true
 lay:d.canLay0=true
 deep:d.depth<8
 reads:∃as,Reads h (.ref a) d as
mutual
theorem aaz{h h':Heap}{d:Addr}{o:Obj}{es:Array DictEntry}{ep:Nat}(ho:h.get? d=some o)(hd:o.data=.dict es ep)(hs:bw d h h'):∀{v:Value} {x:PyData} {as:List Addr},kd x=true->Reads h v x as->Reads h' v x as
 | _,_,_,_,.none=>.none
 | _,_,_,_,.bool b=>.bool b
 | _,_,_,_,.int i t=>.int i t
 | _,_,_,_,.str x t=>.str x t
 | _,_,_,hk,.list _ _ _ _=>absurd hk aj
 | _,_,_,hk,.tuple (a:=a) h1 h2 h3 h4=>by
  have hne:a≠d:=by
   intro e;subst e
   rw[ho]at h1;cases h1
   rw[hd]at h3;exact nomatch h3
  exact .tuple ((hs.2 a hne).trans h1) h2 h3 (v6 ho hd hs hk h4)
 | _,_,_,hk,.dict _ _ _ _ _=>absurd hk aj
theorem v6{h h':Heap}{d:Addr}{o:Obj}{es:Array DictEntry}{ep:Nat}(ho:h.get? d=some o)(hd:o.data=.dict es ep)(hs:bw d h h'):∀{vs:List Value} {xs:List PyData} {as:List Addr},rq xs=true->ReadsAll h vs xs as->ReadsAll h' vs xs as
 | _,_,_,_,.nil=>.nil
 | _::_,y::ys,_,hk,.cons h1 h2=>by
  have hk':(kd y&&rq ys)=true:=hk
  rw[du]at hk'
  exact .cons (aaz ho hd hs hk'.1 h1) (v6 ho hd hs hk'.2 h2)
end
noncomputable instance decD:DecidableEq PyData:=λa b=>Classical.propDecidable (a=b)
noncomputable def rf(prog:Program)(w:World):HeapKind prog w PyData where
 is:=axb
 hash:=ve w
 draws:=drw
 room:=λA=>A.units+8<cLine
 inj:=λ{h a x y} hx hy=>by
  obtain⟨as,r⟩:=hx.reads
  obtain⟨bs,r'⟩:=hy.reads
  exact SeqAt.Reads.unique _ _ _ _ _ hx.lay r r'
 keeps:=λ{h h' k a d o es ep} hx ho hd hs=>by
  obtain⟨as,r⟩:=hx.reads
  exact⟨hx.key,hx.lay,hx.deep,as,aaz ho hd hs hx.key r⟩
 pyHash:=λ{A E s k a Q} hu hx h=>by
  obtain⟨as,r⟩:=hx.reads
  exact zk k hx.key prog w A E s _ as Q r (by have:=hx.deep;omega) h
 eqBool:=λ{A E s x y a b Q} hu hx hy h=>by
  obtain⟨as,r⟩:=hx.reads
  obtain⟨bs,r'⟩:=hy.reads
  refine SeqAt.eqBoolOverData prog w A E s _ _ x y as bs Q r r' hx.lay hy.lay (by have:=hx.deep;have:=Nat.min_le_left x.depth y.depth;omega) ?_
  have e:cj x y=decide (x=y):=by
   by_cases z:x=y
   .rw[decide_eq_true z,<-z];exact SeqAt.eqv_refl _ hx.lay
   .rw[decide_eq_false z]
    cases q:cj x y with
    | false=>rfl
    | true=>exact absurd (aj0 x y hx.key hy.key q) z
  rw[e];exact h
 quiet:=λ{A E s k a Q} hx h=>by
  obtain⟨as,r⟩:=hx.reads
  exact vp 8 hx.key r hx.deep h
end L3
namespace L3
open PySem PySem.Spec PyProof.Rows L2
def DE(h:Heap)(d:Addr)(es:Array DictEntry)(ep:Nat):Prop:=∃o,h.get? d=some o/\o.ExactDict/\o.data=.dict es ep
theorem DE.ty{s:Shared}{d:Addr}{es:Array DictEntry}{ep:Nat}(x:DE s.heap d es ep):s.TypeIs (.ref d) "dict":=by
 obtain⟨o,h1,h2,_⟩:=x
 exact⟨o,h1,h2.1⟩
theorem DE.on{h h':Heap}{d:Addr}{es:Array DictEntry}{ep:Nat}(x:DE h d es ep)(k:∀o,h.get? d=some o->h'.get? d=some o):DE h' d es ep:=by
 obtain⟨o,h1,h2⟩:=x
 exact⟨o,k o h1,h2⟩
section
variable{prog:Program}{w:World}{A:Around}{E:Value->Shared->Prop}{s:Shared}{d it:Addr}{es:Array DictEntry}{ep i:Nat}
theorem avw{Q:Value->Shared->Prop}(lo:(d==sysModules)=false)(hm:DE s.heap d es ep)(q:Q (.ref s.heap.objs.size) {s with heap:=s.heap.push {cls:=.type "dict_keyiterator",data:=.fields #[.ref d,.int 0 0,.int es.size 0,.int ep 0]}}):wpAny (model prog w) A (pyIter (.ref d)) Q E s:=by
 have T:=hm.ty
 obtain⟨o,ho,_,hdat⟩:=id hm
 refine wpAny_pyIter_slot T F.slot_dict_iter (cf F.slot_dict_iter T F.entry_dict_iter (aa (aa (wpAny_notOrdered_dict T ?_))) (F.args_dict_iter_1 _))
 refine(af ?_:wpAny _ _ (pure (Value.ref d)) _ _ s)
 have sh:jq d=pure ():=by unfold jq;rw[if_neg (by rw[lo];simp)]
 refine(?_:wpAny _ _ (jq d >>= _) _ _ s)
 rw[sh]
 refine aa (af (aa (wpAny_dictEntries ho hdat (aa (wpAny_dictEpoch ho hdat (aa (cg (af (oj _ rfl "dict_keyiterator" _ ⟨⟨_,av _ rfl,rfl⟩,je.lookup,?_⟩)))))))))
 simpa [rawInt]using q
theorem akw:Builtin.Dict_items.ownsTuple "dict_keyiterator" = false:=by decide
theorem awe{Q:Option Value->Shared->Prop}(hit:s.heap.IsKeyIter it d i es.size ep)(hm:DE s.heap d es ep){e:DictEntry}(hx:es[i]?=some e)
  (q:∀h',h'.IsKeyIter it d (i+1) es.size ep->bw it s.heap h'->Q (some e.key) {s with heap:=h'}):wpAny (model prog w) A (pyNext (.ref it)) Q E s:=by
 have T:=hit.typeIs
 obtain⟨o,ho,hc,hd⟩:=id hit
 obtain⟨od,hod,_,hdd⟩:=id hm
 unfold pyNext
 refine aa (jd (ce (name:="__next__") T je (cf je T F.entry_dict_keyiterator_next (aa (af (aa (aa (?_))))) (F.args_dict_keyiterator_next_1 _))))
 refine aa (k7 T (af (aa (lh ho hd ?_))))
 rw[if_neg (by rw[akw];simp)]
 refine(?_:wpAny _ _ (if (Value.ref d==Value.none)=true then _ else _) _ _ s)
 rw[if_neg (by intro z;cases z)]
 refine aa (af (aa (wpAny_dictEntries hod hdd ?_)))
 rw[if_neg (by simp)]
 refine aa (af (aa (wpAny_dictEpoch hod hdd ?_)))
 rw[if_neg (by simp)]
 refine af ?_
 have nn:¬((i:Int)<0):=by omega
 simp only[nn,if_false,cc,hx]
 refine aa (aa (k7 T (af (aa (wpAny_isOneOf_keyiter T ?_)))))
 refine(aa (gl ho hd (by simp) ?_):wpAny _ _ (setField (.ref it) 1 (rawInt ((i:Int)+1)) >>= _) _ _ s)
 have hit':(s.heap.update it (Obj.mapFields (·.setIfInBounds 1 (rawInt ((i:Int)+1))))).IsKeyIter it d (i+1) es.size ep:=
  ⟨_,ck _ ho (Obj.isFreed_of_fields (i8 hd _)),by rw[Obj.cls_mapFields];exact hc,by rw[i8 hd];simp[rawInt]⟩
 refine aa (fk (aa (wpAny_isOneOf_keyiter (s:={s with heap:=_}) hit'.typeIs ?_)))
 refine(?_:wpAny _ _ (pure e.key) _ _ _)
 refine af (af ⟨_,rfl,?_⟩)
 exact af (q _ hit' (cx ..))
theorem axa{Q:Option Value->Shared->Prop}(hh:A.handled=none)(hit:s.heap.IsKeyIter it d es.size es.size ep)(hm:DE s.heap d es ep)
  (q:∀h',ju it s.heap h'->Q none {s with heap:=h'}):wpAny (model prog w) A (pyNext (.ref it)) Q E s:=by
 have T:=hit.typeIs
 obtain⟨o,ho,hc,hd⟩:=id hit
 obtain⟨od,hod,_,hdd⟩:=id hm
 unfold pyNext
 refine aa (jd (ce (name:="__next__") T je (cf je T F.entry_dict_keyiterator_next (aa (af (aa (aa (?_))))) (F.args_dict_keyiterator_next_1 _))))
 refine aa (k7 T (af (aa (lh ho hd ?_))))
 rw[if_neg (by rw[akw];simp)]
 refine(?_:wpAny _ _ (if (Value.ref d==Value.none)=true then _ else _) _ _ s)
 rw[if_neg (by intro z;cases z)]
 refine aa (af (aa (wpAny_dictEntries hod hdd ?_)))
 rw[if_neg (by simp)]
 refine aa (af (aa (wpAny_dictEpoch hod hdd ?_)))
 rw[if_neg (by simp)]
 refine af ?_
 have nn:¬((es.size:Int)<0):=by omega
 have no:es[es.size]?=none:=Array.getElem?_eq_none (am _)
 simp only[nn,if_false,cc,no]
 refine aa (aa (k7 T (af ?_)))
 refine(aa (gl ho hd (by simp) ?_):wpAny _ _ (setField (.ref it) 0 .none >>= _) _ _ s)
 refine(aa ?_:wpAny _ _ (newExc (.type "StopIteration") [] >>= _) _ _ _)
 unfold newExc newTuple
 refine aa (cg (aa (wpAny_of_eq (a:=Value.none) rfl (cg ?_ (by size_fits)))) (by size_fits))
 unfold raiseNew
 refine aa (wpAny_handled ?_)
 rw[show A.in1.handled=none from hh]
 refine aa (af (wpAny_throw (aa ?_)))
 refine kz (T:="StopIteration") (b:=true) (⟨_,av _ rfl,rfl⟩) isSubtype_stop ?_
 exact af (q _ (((cx ..).extBut.push _).push _))
end
noncomputable abbrev KA:=PyData×Addr×V
noncomputable abbrev KAR:List KA->List (PyData×Addr×Value)->Prop:=Paired λp q=>p.1=q.1/\p.2.1=q.2.1/\RelV p.2.2 q.2.2
noncomputable def DNo(w:World)(a:Addr)(xs:List KA)(ep:Nat):HO:=.ext λh=>∃ys,KAR xs ys/\∃o es,h.get? a=some o/\o.ExactDict/\o.data=.dict es ep/\
 es.toList=ys.map (λy:PyData×Addr×Value=>(⟨ve w y.1,.ref y.2.1,y.2.2⟩:DictEntry))/\(ys.map (·.1)).Nodup
structure KRep(H:Hp)(d:PyData)(b:Addr):Prop where
 key:kd d=true
 deep:d.depth<8
 rep:Rep H d (.ref b)
structure DN(w:World)(H:Hp)(a:Addr)(xs:List KA)(ep:Nat):Prop where
 obj:H a=some (DNo w a xs ep)
 keys:∀x∈xs,KRep H x.1 x.2.1
 len:xs.length<=sizeLine
 sys:(a==sysModules)=false
mutual
theorem am9:∀{d:PyData},kd d=true->imm d=true
 | .int _,_=>rfl
 | .str _,_=>rfl
 | .tuple ds,h=>ad0 (ds:=ds) h
 | .none,_=>rfl
 | .bool _,_=>rfl
 | .list _,h=>absurd h aj
 | .dict _,h=>absurd h aj
theorem ad0:∀{ds:List PyData},rq ds=true->pj ds=true
 | [],_=>rfl
 | d::ds,h=>by
  have h':(kd d&&rq ds)=true:=h
  rw[du]at h'
  show(imm d&&pj ds)=true
  rw[am9 h'.1,ad0 h'.2];rfl
end
theorem KRep.tk{H H':Hp}{d:PyData}{b:Addr}(x:KRep H d b)(t:Tk H H'):KRep H' d b:=⟨x.key,x.deep,x.rep.tk t (am9 x.key)⟩
section
variable{X:Cx}{pins:List (Addr×Obj)}{σ:L2.St}{H:Hp}{s:Shared}{a b:Addr}{xs:List KA}{d:PyData}{v:V}{u r:Value}{ep:Nat}{A:Around}{E:Value->Shared->Prop}
theorem KRep.at(x:KRep H d b)(I:Inv X pins σ H s):(rf X.prog X.w).is s.heap d b:=by
 obtain⟨as,q⟩:=Rep.reads I (u:=.ref b) x.rep rfl
 exact⟨x.key,x.rep.lay,x.deep,as,q⟩
noncomputable def r8(xs:List KA)(d:PyData):Option V:=(xs.find? λx=>decide (x.1=d)).map (·.2.2)
noncomputable def xq(xs:List KA)(d:PyData)(b:Addr)(v:V):List KA:=
 if (r8 xs d).isSome then xs.map λx=>if x.1=d then(x.1,x.2.1,v)else x else xs++[(d,b,v)]
theorem KAR.val{xs:List KA}{ys:List (PyData×Addr×Value)}(r:KAR xs ys)(d:PyData):RelO (r8 xs d) ((atKey ys d).map (·.2)):=by
 induction r with
 | nil=>exact True.intro
 | @cons p q ps qs h t ih=>
  obtain⟨h1,_,h2⟩:=h
  by_cases e:p.1=d
  .have e':q.1=d:=h1.symm.trans e
   have c:atKey (q::qs) d=some q.2:=by simp[atKey,ix,e']
   have c':r8 (p::ps) d=some p.2.2:=by simp[r8,ix,e]
   rw[c',c];exact h2
  .have e':¬q.1=d:=λz=>e (h1.trans z)
   have c:atKey (q::qs) d=atKey qs d:=by simp[atKey,ix,e']
   have c':r8 (p::ps) d=r8 ps d:=by simp[r8,ix,e]
   rw[c',c];exact ih
theorem KAR.repl{xs:List KA}{ys:List (PyData×Addr×Value)}(r:KAR xs ys)(d:PyData){y:V}{u:Value}(ry:RelV y u) :
  KAR (xs.map λx=>if x.1=d then(x.1,x.2.1,y)else x) (ys.map (putAt d u)):=by
 induction r with
 | nil=>exact .nil
 | @cons p q ps qs h t ih=>
  rw[c5,c5]
  refine .cons ?_ ih
  obtain⟨h1,h2,h3⟩:=h
  unfold putAt
  by_cases e:p.1=d
  .rw[if_pos e,if_pos (h1.symm.trans e)];exact⟨h1,h2,ry⟩
  .rw[if_neg e,if_neg (λz=>e (h1.trans z))];exact⟨h1,h2,h3⟩
theorem KAR.put{xs:List KA}{ys:List (PyData×Addr×Value)}(r:KAR xs ys)(d:PyData){b:Addr}{y:V}{u:Value}(ry:RelV y u) :
  KAR (xq xs d b y) (storedH ys d b u):=by
 have e:(r8 xs d).isSome=(atKey ys d).isSome:=by
  rw[(r.val d).isSome_eq,Option.isSome_map]
 unfold xq storedH
 rw[e]
 by_cases q:(atKey ys d).isSome=true
 .rw[if_pos q,if_pos q];exact r.repl d ry
 .rw[if_neg q,if_neg q];exact Paired.snoc r ⟨rfl,rfl,ry⟩
theorem KAR.get{xs:List KA}{ys:List (PyData×Addr×Value)}(r:KAR xs ys):∀{i:Nat} {x:KA},xs[i]?=some x->∃y,ys[i]?=some y/\x.1=y.1/\x.2.1=y.2.1/\RelV x.2.2 y.2.2:=by
 induction r with
 | nil=>intro i x h;cases h
 | @cons p q ps qs h t ih=>
  intro i x hx
  cases i with
  | zero=>cases hx;exact⟨q,rfl,h⟩
  | succ i=>exact ih (i:=i) hx
theorem DN.at(D:DN X.w H a xs ep)(I:Inv X pins σ H s):∃ys,KAR xs ys/\s.heap.DictOfH (rf X.prog X.w) a ys:=by
 obtain⟨⟨ys,r,o,es,h1,h2,h3,h4,h5⟩,_⟩:=(show ObjOk X.prog X.w H s.heap a (DNo X.w a xs ep)from I.hok a _ D.obj)
 refine⟨ys,r,o,es,ep,h1,h2,h3,h4,?_,h5⟩
 have all:∀{l:List KA} {m:List (PyData×Addr×Value)},KAR l m->(∀x∈l,KRep H x.1 x.2.1)->∀y∈m,(rf X.prog X.w).is s.heap y.1 y.2.1:=by
  intro l m q
  induction q with
  | nil=>intro _ y hy;exact nomatch hy
  | @cons p q ps qs hq t ih=>
   intro hk y hy
   rcases bq.mp hy with e|hy
   .subst e
    have:=(hk p bj).at I
    rw[hq.1,hq.2.1]at this
    exact this
   .exact ih (λx hx=>hk x (bf _ hx)) y hy
 exact all r D.keys
theorem DN.de(D:DN X.w H a xs ep)(I:Inv X pins σ H s):∃es,DE s.heap a es ep/\es.size=xs.length/\∀(i:Nat)(x:KA),xs[i]?=some x->∃e:DictEntry,es[i]?=some e/\e.key=.ref x.2.1/\RelV x.2.2 e.val:=by
 obtain⟨⟨ys,r,o,es,h1,h2,h3,h4,h5⟩,_⟩:=(show ObjOk X.prog X.w H s.heap a (DNo X.w a xs ep)from I.hok a _ D.obj)
 have hl:=Paired.length r
 refine⟨es,⟨o,h1,h2,h3⟩,by rw[<-au,h4,ah,hl],λi x hx=>?_⟩
 obtain⟨y,hy,q1,q2,q3⟩:=r.get hx
 refine⟨⟨ve X.w y.1,.ref y.2.1,y.2.2⟩,?_,?_,q3⟩
 .rw[<-bb,h4,aw,hy];rfl
 .show Value.ref _=_;rw[q2]
theorem DN.ext{w:World}{P:Program}{H':Hp}{h':Heap}{ys:List (PyData×Addr×Value)}(r:KAR xs ys)(dd:h'.DictOfH (rf P w) a ys):∃ep,ObjOk P w H' h' a (DNo w a xs ep):=by
 obtain⟨o,es,ep,h1,h2,h3,h4,_,h5⟩:=dd
 refine⟨ep,⟨ys,r,o,es,h1,h2,h3,h4,h5⟩,⟨o,h1⟩,λg1 g2 q k=>?_⟩
 obtain⟨zs,r',o',es',k1,k2⟩:=q
 exact⟨zs,r',o',es',k o' k1,k2⟩
theorem DN.tk{w:World}{H':Hp}(D:DN w H a xs ep)(t:Tk H H')(e:H' a=some (DNo w a xs ep)):DN w H' a xs ep:=⟨e,λx hx=>(D.keys x hx).tk t,D.len,D.sys⟩
theorem DN.same{w:World}{H':Hp}(D:DN w H a xs ep)(t:Same H H'):DN w H' a xs ep:=D.tk (Tk.of_same t) (t _ _ D.obj)
theorem air{Q:Value->Shared->Prop}(hu:A.units+9<cLine)(I:Inv X pins σ H s)(D:DN X.w H a xs ep)(k:KRep H d b)(l:r8 xs d=some v)(h:∀w' s',Inv X pins σ H s'->RelV v w'->Q w' s') :
  wpAny (model X.prog X.w) A (getItem (.ref a) (.ref b)) Q E s:=by
 obtain⟨ys,rel,dd⟩:=D.at I
 obtain⟨w',hw,rw'⟩:=RelO.some_of (v:=v) (o:=(atKey ys d).map (·.2)) (by rw[<-l];exact rel.val d)
 obtain⟨p,hp,hp2⟩:=bv.mp hw
 refine wpAny_getItem_heap (knd:=rf X.prog X.w) (show A.units+1+8<cLine by omega) (k.at I) dd hp ?_
 rw[hp2]
 exact h w' _ (I.tok _) rw'
theorem axt{Q:Value->Shared->Prop}(hu:A.units+9<cLine)(I:Inv X pins σ H s)(D:DN X.w H a xs ep)(k:KRep H d b)(h:∀s',Inv X pins σ H s'->Q (.bool (r8 xs d).isSome) s') :
  wpAny (model X.prog X.w) A (compareOp .In (.ref b) (.ref a)) Q E s:=by
 obtain⟨ys,rel,dd⟩:=D.at I
 refine wpAny_in_heap (knd:=rf X.prog X.w) (show A.units+1+8<cLine by omega) (k.at I) D.sys dd ?_
 have q:=(rel.val d).isSome_eq
 rw[Option.isSome_map]at q
 rw[<-q]
 exact h _ (I.tok _)
theorem vn(xs:List KA)(d:PyData)(b:Addr)(v:V):(xq xs d b v).length<=xs.length+1:=by
 unfold xq
 split
 .rw[ah];omega
 .rw[bu];exact am _
theorem ala{xs:List KA}{d:PyData}{b:Addr}{v:V}{x:KA}(h:x∈xq xs d b v):(∃y∈xs,y.1=x.1/\y.2.1=x.2.1)\/(x.1=d/\x.2.1=b):=by
 unfold xq at h
 split at h
 .obtain⟨y,hy,e⟩:=bi.mp h
  refine .inl ⟨y,hy,?_⟩
  subst e
  split<;>exact⟨rfl,rfl⟩
 .rcases ax.mp h with h|h
  .exact .inl ⟨x,h,rfl,rfl⟩
  .rw[ao.mp h];exact .inr ⟨rfl,rfl⟩
theorem aka{Q:Unit->Shared->Prop}(hu:A.units+9<cLine)(I:Inv X pins σ H s)(D:DN X.w H a xs ep)(k:KRep H d b)(l:xs.length<sizeLine)(rv:RelV v r)
  (h:∀ep' s',Inv X pins σ (upd H a (DNo X.w a (xq xs d b v) ep')) s'->Q () s'):wpAny (model X.prog X.w) A (setItem (.ref a) (.ref b) r) Q E s:=by
 obtain⟨ys,rel,dd⟩:=D.at I
 have hz:ys.length<=sizeLine:=by rw[<-Paired.length rel];exact D.len
 refine wpAny_setItem_heap (knd:=rf X.prog X.w) (hsz:=hz) (show A.units+1+8<cLine by omega) (k.at I) dd λh' dd' hs=>?_
 have he:∃q,h'.get? a=some q:=let ⟨q,_,_,hq,_⟩:=dd';⟨q,hq⟩
 obtain⟨ep',ok⟩:=DN.ext (H':=upd H a (DNo X.w a (xq xs d b v) 0)) (rel.put d rv) dd'
 refine h ep' _ ?_
 exact anw I (by rw[D.obj];exact True.intro) hs he ok
theorem DN.put{w:World}(D:DN w H a xs ep)(k:KRep H d b)(l:xs.length<sizeLine)(v:V)(ep':Nat):DN w (upd H a (DNo w a (xq xs d b v) ep')) a (xq xs d b v) ep':=by
 have t:Tk H (upd H a (DNo w a (xq xs d b v) ep')):=λc ys q=>by rw[nj (sx q D.obj (by intro z;cases z))];exact q
 refine⟨mr,λx hx=>?_,by have:=vn xs d b v;omega,D.sys⟩
 rcases ala hx with ⟨y,hy,e1,e2⟩|⟨e1,e2⟩
 .rw[<-e1,<-e2];exact(D.keys y hy).tk t
 .rw[e1,e2];exact k.tk t
end
end L3
namespace L3
open PySem PySem.Spec PyProof.Rows L2
theorem DN.ty{X:Cx}{pins:List (Addr×Obj)}{σ:L2.St}{H:Hp}{s:Shared}{a:Addr}{xs:List KA}{ep:Nat}(D:DN X.w H a xs ep)(I:Inv X pins σ H s) :
  s.TypeIs (.ref a) "dict"/\(∀b,Value.ref a=.ref b->∃ob,s.heap.get? b=some ob/\ob.dict=none):=by
 obtain⟨ys,_,dd⟩:=D.at I
 refine⟨dd.typeIs,λb q=>?_⟩
 cases q
 obtain⟨ob,_,_,h1,h2,_⟩:=dd
 exact⟨ob,h1,h2.2.1⟩
def aso(w:World)(td ty:TE):TE:=λσ H Q=>td σ H λx H1=>ty σ H1 λy H2=>∃a xs ep d b v,x=.ref a/\y=.ref b/\DN w H2 a xs ep/\KRep H2 d b/\r8 xs d=some v/\Q v H2
def awr(w:World)(ty td:TE):TE:=λσ H Q=>ty σ H λy H1=>td σ H1 λx H2=>∃a xs ep d b,x=.ref a/\y=.ref b/\DN w H2 a xs ep/\KRep H2 d b/\Q (.bl (r8 xs d).isSome) H2
def aum(w:World)(td ty tv:TE):TS:=λD σ H=>tv σ H λv H1=>td σ H1 λx H2=>ty σ H2 λy H3=>∃a xs ep d b,x=.ref a/\y=.ref b/\DN w H3 a xs ep/\KRep H3 d b/\xs.length<sizeLine/\∀ep',D.nx σ (upd H3 a (DNo w a (xq xs d b v) ep'))
def auo(w:World):TE:=λ_ H Q=>∀p,H p=none->(p==sysModules)=false->Q (.ref p) (upd H p (DNo w p [] 0))
section
variable{X:Cx}{o i e f value:Expr}{pos pos' tpos apos cpos:Pos}{td ty tv tx:TE}
theorem aem(hu:X.A.units+9<cLine)(ho:PE X o td)(hi:PE X i ty)(hs:avb i):PE X (.Subscript o i pos) (aso X.w td ty):=by
 intro pins s σ H Q I h
 refine apn PySem.F.slot_dict_getitem.lookup hs (thn (ho pins s σ H _ I h) λu s1 ⟨x,H1,I1,rx,q1⟩=>thn (hi pins s1 σ H1 _ I1 q1) λiv s2 ⟨y,H2,I2,ry,a,xs,ep,d,b,v,ex,ey,D,k,l,q2⟩=>?_)
 subst ex ey
 obtain rfl:u=Value.ref a:=rx
 obtain rfl:iv=Value.ref b:=ry
 exact⟨(D.ty I2).1,air hu I2 D k l λw' s3 I3 rw'=>⟨v,H2,I3,rw',q2⟩⟩
theorem ast(hu:X.A.units+9<cLine)(hi:PE X i ty)(ho:PE X o td):PC X .In i o (awr X.w ty td):=by
 intro pins s σ H Q I h
 refine thn (hi pins s σ H _ I h) λiv s1 ⟨y,H1,I1,ry,q1⟩=>thn (ho pins s1 σ H1 _ I1 q1) λu s2 ⟨x,H2,I2,rx,a,xs,ep,d,b,ex,ey,D,k,q2⟩=>?_
 subst ex ey
 obtain rfl:u=Value.ref a:=rx
 obtain rfl:iv=Value.ref b:=ry
 exact axt hu I2 D k λs3 I3=>⟨.bl (r8 xs d).isSome,H2,I3,rfl,q2⟩
theorem ach(hu:X.A.units+9<cLine)(ho:PE X o td)(hi:PE X i ty)(hv:PE X value tv)(hs:swapsWith value (some (.Subscript o i pos')) pos.line X.env=pure false) :
  PS X (.Assign [.Subscript o i pos'] value pos) (aum X.w td ty tv):=by
 intro pins s σ H D I h
 refine wpAny_Assign_Subscript (thn (hv pins s σ H _ I h) λr s1 ⟨v,H1,I1,rv,q1⟩=>thn (ho pins s1 σ H1 _ I1 q1) λu s2 ⟨x,H2,I2,rx,q2⟩=>thn (hi pins s2 σ H2 _ I2 q2) λiv s3 ⟨y,H3,I3,ry,a,xs,ep,d,b,ex,ey,dn,k,l,q3⟩=>?_) hs
 subst ex ey
 obtain rfl:u=Value.ref a:=rx
 obtain rfl:iv=Value.ref b:=ry
 exact aka hu I3 dn k l rv λep' s4 I4=>⟨σ,_,I4,q3 ep'⟩
theorem alm{P:Program}{w:World}{H:Hp}(h:Heap):ObjOk P w H (h.push {cls:=.type "dict",data:=.dict #[]}) h.objs.size (DNo w h.objs.size [] 0):=
 ⟨⟨[],.nil,_,#[],av _ rfl,⟨rfl,rfl,rfl⟩,rfl,rfl,List.nodup_nil⟩,⟨_,av _ rfl⟩,λ_ _ ⟨zs,r',o',es',k1,k2⟩ k=>⟨zs,r',o',es',k o' k1,k2⟩⟩
theorem ael:PE X (.Dict [] [] pos) (auo X.w):=λpins s σ H Q I h=>
 wpAny_Dict_empty ⟨.ref s.heap.objs.size,_,I.laid (a:=s.heap.objs.size) (o:=DNo X.w s.heap.objs.size [] 0) (t':=s.toks) (λ_ _ q=>ak _ q) (am _) (alm s.heap),rfl,
  h _ (I.hok.fresh (am _)) (beq_eq_false_iff_ne.mpr (Ne.symm (c9 I.big)))⟩
theorem DN.new{w:World}{H:Hp}{p:Addr}(h:(p==sysModules)=false):DN w (upd H p (DNo w p [] 0)) p [] 0:=⟨mr,(λx hx=>nomatch hx),dq _,h⟩
end
noncomputable def Jel(K:ai)(a:Addr):It:=
 ⟨λi H=>∃xs x,SqL K H a xs/\xs[i]?=some x,λi H v H'=>∃p x,H p=none/\v=.ref p/\H'=upd H p (.tup [.int i,x])/\∀xs,SqL K H a xs->xs[i]?=some x,λi H=>∃xs,SqL K H a xs/\xs.length<=i⟩
theorem ahd{P:Program}{w:World}{K:ai}{elts:List Expr}{x1}{pos:Pos}(a e I:Addr)(hne:e≠I) :
  ak2 P w K (.Tuple elts x1 pos) (Jel K a) [e,I] e (λi h=>(∃old,IsEnum h e I i old)/\h.IsListIter I a i):=by
 refine aac (Jel K a) e I hne (λi h=>h.IsListIter I a i) (λi h st=>?_) (λi h h' st k=>?_) (λX hP hw hK i pins s σ H Iv st hg=>?_) (λX hP hw hK i pins s σ H Iv st hg A' R E' hh q=>?_)
 .obtain⟨o,ho,c,d⟩:=st
  exact⟨o,ho,λv z=>by rw[d]at z;cases z⟩
 .obtain⟨o,ho,r⟩:=st
  exact⟨o,k o ho,r⟩
 .subst hP hw hK
  obtain⟨xs,x,hq,hx⟩:=hg
  obtain⟨its,rv,p,hz⟩:=Iv.list hq
  obtain⟨u,hu,ru⟩:=rv.get hx
  refine⟨λu'=>u'=u,λu' hu'=>?_,λA' R E' q=>?_⟩
  .subst hu'
   exact⟨x,ru,s.heap.objs.size,x,Iv.hok.fresh (am _),rfl,rfl,λys hy=>by rw[Iv.list_inj hy hq];exact hx⟩
  .exact wpAny_nextOf_list_item st p.isList (x:=u) (by simpa using hu) λg st' sb=>q u g s.toks rfl st' sb
 .subst hP hw hK
  obtain⟨xs,hq,hx⟩:=hg
  obtain⟨its,rv,p,hz⟩:=Iv.list hq
  have hl:=rv.length
  exact wpAny_nextOf_list_end hh st p.isList (by simp;omega) q
section
variable{X:Cx}{elts:List Expr}{x1:Nat}{tpos p pos:Pos}{a:Expr}{ta:TA}
def axk(K:ai)(ta:TA):TI:=λσ H R=>ta σ H λvs H1=>∃a,vs=[.ref a]/\(∃xs,SqL K H1 a xs)/\R (Jel K a) H1
theorem asi(hg:Gl X "enumerate")(hm:X.mg "enumerate" = none)(ha:PA X [a] ta)(hs:qa a=true:=by rfl):PI X (.Tuple elts x1 tpos) (.Call (.Name "enumerate" p) [a] [] pos) (axk X.K ta):=by
 intro pins s σ H R I h
 refine Call_ (uq I hg hm boot_enumerate (ge (thn (ha pos pins s σ H _ I h) λus s1 ⟨vs,H1,I1,r1,q1⟩=>?_) (o5 hs) rfl))
 obtain⟨b,e,⟨xs,hq⟩,q⟩:=q1
 subst e
 obtain⟨u,rfl,ru⟩:=sy r1
 cases (show u=Value.ref b from ru)
 obtain⟨its,rv,pl,hz⟩:=I1.list hq
 refine call_enumerate_list (l:=b) pl.isList λg he hi _ kp=>wpAny_pyIter_enum (s:={s1 with heap:=g}) he ?_
 refine⟨s1.heap.objs.size+1,[s1.heap.objs.size+1,s1.heap.objs.size],_,_,H1,rfl,I1.kept (t':=s1.toks) kp,ahd b (s1.heap.objs.size+1) s1.heap.objs.size (Nat.succ_ne_self _),⟨⟨_,he⟩,hi⟩,λc hc=>?_,q⟩
 rcases bq.mp hc with z|z
 .subst z;exact I1.fpOk (by omega) (I1.hok.fresh (by omega))
 .rw[ao.mp z];exact I1.fpOk (am _) (I1.hok.fresh (am _))
end
theorem apl{K:ai}{a:Addr}{xs:List V}{g:TG}{tb:TS}{D:ahi}{σ:L2.St}{H:Hp}(Pv:Nat->L2.St->Hp->Prop)(h0:Pv 0 σ H)(hl:∀i σ H,Pv i σ H->SqL K H a xs)
  (hs:∀i x p σ H,xs[i]?=some x->H p=none->Pv i σ H->g (.ref p) σ (upd H p (.tup [.int (i:Nat),x])) λσ2 H2=>tb {D with nx:=Pv (i+1),ct:=Pv (i+1),bk:=D.nx} σ2 H2) (hd:∀σ H,Pv xs.length σ H->D.nx σ H) :
  ∃W:Nat->Nat->L2.St->Hp->Prop,(∃m,W 0 m σ H)/\∀i m σ H,W i m σ H->
   ((Jel K a).stop i H/\D.nx σ H)\/((Jel K a).go i H/\∃N:L2.St->Hp->Prop,(∀σ' H',N σ' H'->∃m',m'<m/\W (i+1) m' σ' H')/\∀v H',(Jel K a).yld i H v H'->g v σ H' λσ2 H2=>tb {D with nx:=N,ct:=N,bk:=D.nx} σ2 H2):=by
 refine aer (Jel K a) xs.length Pv h0 (λi σ H hi p=>⟨xs,xs[i],hl i σ H p,by simp[hi]⟩) (λσ H p=>⟨xs,hl _ σ H p,am _⟩) (λi v σ H H' hi p y=>?_) hd
 obtain⟨b,x,hb,rfl,rfl,hx⟩:=y
 exact hs i x b σ H (hx xs (hl i σ H p)) hb p
section
variable{X:Cx}{N:List Str}{scope:Scope}{z:CZ}{i o:Expr}{ty td:TE}
theorem an1(hu:X.A.units+9<cLine)(hi:PE (nv X N scope z) i ty)(ho:PE (nv X N scope z) o td):PC (nv X N scope z) .In i o (awr X.w ty td):=ast (X:=nv X N scope z) hu hi ho
end
theorem aob{D:Addr}{i:Nat}{Pv:Nat->List V->Hp->Prop}{G:Hp}{ys:List V}{y:V}(hi:i<4000)(hD:G D=some (.lst ys))(hl:ys.length<=i)(h:Pv (i+1) (ys++[y]) (upd G D (.lst (ys++[y])))):∃xs,G D=some (.lst xs)/\xs.length<sizeLine/\Nx D i Pv (upd G D (.lst (xs++[y]))):=
 ⟨ys,hD,by rw[io];omega,ys++[y],mr,by rw[bu,g9];omega,h⟩
section
variable{X:Cx}
def au4(K:ai):R2:=λx y H Q=>∃a b xs ys,x=.ref a/\y=.ref b/\SqT K H a xs/\SqT K H b ys/\xs.length+ys.length<=sizeLine/\
 (xs=[]->Q (.ref b) H)/\(xs≠[]->ys=[]->Q (.ref a) H)/\(xs≠[]->ys≠[]->∀p,H p=none->Q (.ref p) (upd H p (.tup (xs++ys))))
theorem ant:OpR X (binaryOp .Add) (au4 X.K):=by
 intro pins s σ H x y v u Q I rx ry h
 obtain⟨a,b,xs,ys,rfl,rfl,ha,hb,hz,q0,q1,q2⟩:=h
 cases rx
 cases ry
 obtain⟨its,r1,p1,_⟩:=I.tuple ha
 obtain⟨its2,r2,p2,_⟩:=I.tuple hb
 by_cases hx:xs=[]
 .have hv:its=[]:=r1.nil_iff.mpr hx
  obtain⟨⟨cls,dd,data,sl⟩,ho,hc,n,hd⟩:=p1
  obtain⟨⟨cls2,dd2,data2,sl2⟩,ho2,hc2,n2,hd2⟩:=p2
  simp only at hc hd hc2 hd2
  subst hc hd hc2 hd2
  exact concat_meets ⟨_,ho,rfl⟩ ⟨_,ho2,rfl⟩ noFill_tuple_add seq_tuple_add PySem.F.slot_tuple_add PySem.F.entry_tuple_add (PySem.F.args_tuple_add_2 _ _)
   (tuple_addW0 a b its.toArray its2.toArray n n2 dd dd2 sl sl2 (by simp[hv])) ⟨ho,ho2,(mw (.ref b) H ⟨I,rfl,q0 hx⟩)⟩
 .refine HT.cat_tup p1 p2 (λz=>hx (r1.nil_iff.mp z)) (λz=>(mw (.ref a) H ⟨I,rfl,q1 hx (r2.nil_iff.mp z)⟩)) (λz=>?_) (by rw[<-r1.length,<-r2.length];exact hz)
  refine(mw (.ref s.heap.objs.size) _ ⟨I.laid (t':=s.toks) (o:=.tup (xs++ys)) (λb ob q=>ak _ q) (am _) ?_,rfl,q2 hx (λe=>z (r2.nil_iff.mpr e)) _ (I.hok.fresh (am _))⟩)
  exact⟨by rw[bu];exact hz,_,r1.append r2,IsTup.new _ _⟩
def awi:R2:=λx y H Q=>∃a b xs ys,x=.ref a/\y=.ref b/\H a=some (.tup xs)/\H b=some (.tup ys)/\xs.length+ys.length<=sizeLine/\∀c H',Same H H'->H' c=some (.tup (xs++ys))->Q (.ref c) H'
theorem aio:OpR X (binaryOp .Add) awi:=by
 intro pins s σ H x y v u Q I rx ry h
 obtain⟨a,b,xs,ys,rfl,rfl,ha,hb,hz,q⟩:=h
 refine ant pins s σ H _ _ v u Q I rx ry (m8 a b xs ys ⟨rfl,rfl,SqT.of ha,SqT.of hb,hz,λe=>?_,λ_ e=>?_,λ_ _ p hp=>?_⟩)
 .subst e;exact q b H (Same.refl _) hb
 .subst e;exact q a H (Same.refl _) (by rw[gf];exact ha)
 .exact q p _ (Same.fresh _ hp) mr
def at9:V->Option Int->Option Int->Hp->VK->Prop:=λx lo hi H Q=>∃a xs,x=.ref a/\H a=some (.tup xs)/\∀c H',Same H H'->H' c=some (.tup (ac4 xs lo hi))->Q (.ref c) H'
theorem ae0:SlR X at9:=by
 intro pins s σ H x v vl vu lo hi sl Q I rx hs pl pu h
 obtain⟨a,xs,rfl,ha,q⟩:=h
 refine aos pins s σ H _ v vl vu lo hi sl Q I rx hs pl pu (mw a xs ⟨rfl,SqT.of ha,λe=>?_,λ_ p hp=>?_⟩)
 .refine q a H (Same.refl _) ?_
  have:ac4 xs lo hi=xs:=by unfold ac4;rw[e.1,e.2];simp
  rw[this]
  exact ha
 .exact q p _ (Same.fresh _ hp) mr
end
noncomputable def ltX:PyData->PyData->Bool
 | .str a,.str b=>decide (a.cps.toList<b.cps.toList)
 | _,_=>false
theorem aw5{ds:List PyData}(h:∀d∈ds,∃z,d=.str z):anh ltX ds:=⟨λx hx y hy q=>by
  obtain⟨a,rfl⟩:=h x hx
  obtain⟨b,rfl⟩:=h y hy
  exact decide_eq_false (List.lt_asymm (of_decide_eq_true q)),λx hx y hy z hz q1 q2=>by
  obtain⟨a,rfl⟩:=h x hx
  obtain⟨b,rfl⟩:=h y hy
  obtain⟨c,rfl⟩:=h z hz
  have h1:a.cps.toList<=b.cps.toList:=of_decide_eq_false q1
  have h2:b.cps.toList<=c.cps.toList:=of_decide_eq_false q2
  exact decide_eq_false (List.le_trans h1 h2)⟩
section
variable{X:Cx}
theorem adu:sw X (.builtin "sorted") (λvs H Q=>∃p xs ds,vs=[.ref p]/\H p=some (.lst xs)/\RepAll H ds xs/\(∀d∈ds,∃z,d=.str z)/\
  ∀l ys es,H l=none->es.Perm ds->RepAll (upd H l (.lst ys)) es ys->Q (.ref l) (upd H l (.lst ys))):=by
 intro pins s σ H xs us Q I r h
 obtain⟨p,xs,ds,rfl,hp,hds,hstr,q⟩:=h
 obtain⟨u,rfl,r1⟩:=sy r
 cases (show u=Value.ref p from r1)
 obtain⟨its,rv,pl,hz⟩:=I.list (SqL.of (K:=X.K) hp)
 have l1:xs.length=ds.length:=hds.length
 have l2:xs.length=its.length:=rv.length
 have each:∀(i:Nat)(d:PyData)(u:Value),ds[i]?=some d->its[i]?=some u->∃z t,d=.str z/\u=.str z t:=λi d u hd hu=>by
  obtain⟨x,e1,e2⟩:=hds.get hd
  obtain⟨u',e3,e4⟩:=rv.get e1
  rw[hu]at e3;cases e3
  obtain⟨z,rfl⟩:=hstr d (aq hd)
  obtain⟨rfl,_⟩:=e2
  obtain⟨t,rfl⟩:=e4
  exact⟨z,t,rfl,rfl⟩
 refine aam (κ:=oneType') (lt:=ltX) I hp hds rv pl.isList (by omega) (aw5 hstr) (λh2 s' k Q' E' hq=>?_) (λs' k i j d e u v di ui dj vj Q' hq=>?_) (λl ys es h1 h2 _ h3=>q l ys es h1 h2 h3)
 .refine PySem.W.kas_kind (T:=Value.type "str") h2 (λv hv=>?_) (by decide) rfl hq
  obtain⟨i,hi⟩:=cp.mp hv
  obtain⟨z,t,_,rfl⟩:=each i _ v (ab (by have:=(ae.mp hi).1;omega)) hi
  exact PySem.W.Looks.of_pure rfl
 .obtain⟨z,t,rfl,rfl⟩:=each i d u di ui
  obtain⟨z',t',rfl,rfl⟩:=each j e v dj vj
  exact PySem.W.kas_lt_str hq
end
def FnM(P:Program)(w:World)(K:ai)(mg:Str->Option Value)(base:Heap)(x:Str)(C:Addr)(k:Nat)(ps:List Str)(sp:Sp):Prop:=
 ∃f fd,Mk K C f/\qe P w K mg base CX0 k f fd ps sp/\mg x=some (.ref C)/\Binds K fd ps []
section
variable{X:Cx}{x:Str}{k j:Nat}{ps:List Str}{sp:Sp}{p pos:Pos}{e:Expr}{es:List Expr}{t:TA}{C:Addr}
theorem asg(F:FnM X.prog X.w X.K X.mg X.base x C k ps sp)(hr:Room j X.A)(hk:k+1<=j)(hg:Gl X x)
  (ha:PA X (e::es) t) (hdb:(x==("__debug__" : Str))=false:=by decide) (h1:qa e=true:=by rfl) (h2:es.all qa=true:=by rfl):PE X (.Call (.Name x p) (e::es) [] pos) (asr C sp [] E0 t):=by
 obtain⟨f,fd,M,F,m,b⟩:=F
 exact aom M F (hr.mono hk) hg m b .nil ase ha hdb (o5 h1) (uk h2)
end
section
variable{X:Cx}{N:List Str}{scope:Scope}{z:CZ}{e d:Expr}{f:Str}{pos:Pos}{ta td ty:TE}
theorem afc(he:PE (nv X N scope z) e ta)(hb:attributeBase e f (nv X N scope z).env (eval e (nv X N scope z).env)=eval e (nv X N scope z).env):PE (nv X N scope z) (.Attribute e f pos) (awq X.K ta f):=xm (X:=nv X N scope z) he hb
theorem agr(hu:X.A.units+9<cLine)(ho:PE (nv X N scope z) e td)(hi:PE (nv X N scope z) d ty)(hs:avb d):PE (nv X N scope z) (.Subscript e d pos) (aso X.w td ty):=aem (X:=nv X N scope z) hu ho hi hs
end
noncomputable def aq9(s:Stmt)(j:Nat):Stmt:=match s with
 | .ClassDef _ _ _ body _ _ _ _ _ _ _=>body.getD j s
 | _=>s
end L3
namespace K23
open PySem PyProof.Rows L2 L3
theorem al{H H':Hp}{a:Addr}{o:HO}(h:H a=none)(g:upd H a o=H'):Same H H'/\H' a=some o:=by
 subst g
 exact⟨Same.fresh _ h,mr⟩
noncomputable def clD(r c:Int):PyData:=.tuple [.int r,.int c]
noncomputable def awk(r c:Int):List PyData:=[clD (r-1) c,clD r (c-1),clD r (c+1),clD (r+1) c]
theorem ur{H:Hp}{a:Addr}{r c:Int}(h:H a=some (.tup [.int r,.int c])):Rep H (clD r c) (.ref a):=(ox a _ rfl h _ _ rfl rfl _ ⟨_,rfl,rfl,rfl⟩)
theorem acv{H:Hp}{r c:Int}{v:V}(h:Rep H (clD r c) v):∃a,v=.ref a/\H a=some (.tup [.int r,.int c]):=by
 obtain⟨a,xs,rfl,ha,z1,t1,rfl,h1,z2,t2,rfl,h2,rfl⟩:=h
 cases (show z1=_ from h1)
 cases (show z2=_ from h2)
 exact⟨a,rfl,ha⟩
noncomputable def chV(k:Nat):V:=.str ⟨#[k]⟩
theorem ch_inj{a b:Nat}:chV a=chV b↔a=b:=by
 constructor
 .intro e
  unfold chV at e
  injection e with e
  injection e with e
  simpa using e
 .rintro rfl;rfl
noncomputable def aea(r c:Int):List (Int×Int):=[(r-1,c),(r,c-1),(r,c+1),(r+1,c)]
noncomputable def cD(p:Int×Int):PyData:=clD p.1 p.2
theorem kr2{H:Hp}{a:Addr}{r c:Int}(h:H a=some (.tup [.int r,.int c])):KRep H (clD r c) a:=⟨rfl,by simp[clD,jh,b7],ux h⟩
noncomputable def amc(k:Nat):Bool:=k==46||big k
noncomputable def oix(M:Mat)(k:Nat):List Nat:=(b9 k).filter λi=>!(M.g (i/M.w) (i % M.w)==35)
noncomputable def cdx(M:Mat)(i:Nat):PyData:=clD ((i/M.w:Nat):Int) ((i % M.w:Nat):Int)
theorem agl(M:Mat)(k:Nat):oix M (k+1)=oix M k++if (!(M.g (k/M.w) (k % M.w)==35))=true then[k]else[]:=by
 unfold oix
 rw[j9,List.filter_append]
 congr 1
 cases h:!(M.g (k/M.w) (k % M.w)==35)<;>simp[h]
theorem ww(M:Mat)(k:Nat):(oix M k).length<=k:=by
 unfold oix
 have:=List.length_filter_le (λi=>!(M.g (i/M.w) (i % M.w)==35)) (b9 k)
 rw[f9]at this
 exact this
theorem akd(M:Mat)(l:List Nat):pj (l.map (cdx M))=true:=qc λd hd=>by
 obtain⟨i,_,rfl⟩:=bi.mp hd
 rfl
seal L2.PE L2.PT L2.PW L2.PA L2.PS L2.PSs L2.PG L2.PGs L2.PI L2.PO
set_option pp.maxSteps 3000
section
variable{P:Program}{w:World}{K:ai}{mg:Str->Option Value}{base:Heap}{f:Addr}{fd:FuncData}
def amb:Sp:=λvs H Q _=>∃(a:Addr)(r c:Int),vs=[.ref a]/\H a=some (.tup [.int r,.int c])/\∀(l:Addr)(ys:List V)(H':Hp),Same H H'->H l=none->H' l=some (.lst ys)->RepAll H' (awk r c) ys->Q (.ref l) H'
theorem scAro:mx ["cell","row","column"] ["cell"] (mj avf):={}
theorem aqv(F:Fun K "around" "around" avf f fd):qe P w K mg base CX0 1 f fd ["cell"] amb:=by
 refine F.ok (k:=0) scAro (λvs H Q E h=>?_) (λcdv A outer s H vs Q E hr h=>?_)
 .obtain⟨_,_,_,rfl,_⟩:=h
  rfl
 obtain⟨a,r,c,rfl,ha,q⟩:=h
 refine⟨_,(lw (nc (i:=1) scAro.nd rfl (Or.inl rfl) (ng nu (pv 0) l7 (λ_ _=>rfl)))
  (lw (nc (i:=2) scAro.nd rfl (Or.inl rfl) (ng nu (pv 0) l7 (λ_ _=>rfl)))
  (ma (my (ph (mf (ni (mf (ow u6 (pv 1) l7) (mf (pv 2) lv))) (mf (ni (mf (pv 1) (mf (ow u6 (pv 2) l7) lv))) (mf (ni (mf (pv 1) (mf (ow qg (pv 2) l7) lv))) (mf (ni (mf (ow qg (pv 1) l7) (mf (pv 2) lv))) lv))))))))),?_⟩
 refine(me _ rfl a _ _ _ ⟨rfl,rfl,SqT.of ha,mm (j:=0) rfl,(me _ rfl a _ _ _ ⟨rfl,rfl,SqT.of ha,mm (j:=1) rfl,?_⟩)⟩)
 refine(n8 _ rfl _ _ rfl rfl _ ⟨rfl,(by show 2<=sizeLine;decide),λa1 h1=>?_⟩)
 generalize g1:upd H a1 _=H1 at *
 obtain⟨s1,e1⟩:=al h1 g1
 refine(se _ rfl _ rfl _ _ ⟨rfl,rfl,(by show 2<=sizeLine;decide),λa2 h2=>?_⟩)
 generalize g2:upd H1 a2 _=H2 at *
 obtain⟨s2,e2⟩:=al h2 g2
 refine(se _ rfl _ rfl _ _ ⟨rfl,rfl,(by show 2<=sizeLine;decide),λa3 h3=>?_⟩)
 generalize g3:upd H2 a3 _=H3 at *
 obtain⟨s3,e3⟩:=al h3 g3
 refine(n8 _ rfl _ _ rfl rfl _ ⟨rfl,(by show 2<=sizeLine;decide),λa4 h4=>?_⟩)
 generalize g4:upd H3 a4 _=H4 at *
 obtain⟨s4,e4⟩:=al h4 g4
 refine⟨(by show 4<=sizeLine;decide),λl hl=>?_⟩
 generalize g5:upd H4 l _=H5 at *
 obtain⟨s5,e5⟩:=al hl g5
 exact q l _ H5 ((((s1.trans s2).trans s3).trans s4).trans s5) ((((s1.trans s2).trans s3).trans s4).free hl) e5
  (ox _ _ rfl (ur ((((s2.trans s3).trans s4).trans s5) _ _ e1)) _ _ rfl (ur (((s3.trans s4).trans s5) _ _ e2)) _ (oe _ rfl (ur ((s4.trans s5) _ _ e3)) _ ⟨_,rfl,ur (s5 _ _ e4),rfl⟩))
theorem scMust:mx ["floor","cell","sign"] ["floor","cell"] (mj ao6):={}
theorem apz(gV:GS mg "COVERED" ".")(Fat:av8 P w K mg base)(Fbig:Fn P w K mg base "is_sign" 1 ["found"] apj)(F:Fun K "must_be" "must_be" ao6 f fd):qe P w K mg base CX0 2 f fd ["floor","cell"] (ang λk=>.bl (amc k)):=by
 refine F.ok (k:=1) scMust (λvs H Q E h=>?_) (λcdv A outer s H vs Q E hr h=>?_)
 .obtain⟨a,b,M,r,c,rfl,_⟩:=h
  rfl
 obtain⟨a,b,M,r,c,rfl,hf,hb,q⟩:=h
 dsimp only at q
 refine⟨_,(lw (nc (i:=2) scMust.nd rfl (Or.inl rfl) (nh Fat hr (by decide) rfl (mf (pv 0) (mf (pv 1) lv))))
  (ma (my (avm (qz zh (pv 2) (qf gV rfl) (oz _)) (ada (nh Fbig hr (by decide) rfl (mf (pv 2) lv))))))),?_⟩
 refine(mq _ rfl _ rfl a b M (mw r c ⟨rfl,hf,hb,?_⟩))
 generalize gA M r c=g at *
 have e46:ba "." = ⟨#[46]⟩:=by decide +kernel
 have ed:decide (V.str ⟨#[g]⟩=V.str (ba "."))=(g==46):=vd _ 46 e46
 refine(oe _ rfl rfl _ ⟨rfl,?_⟩)
 rw[ed]
 refine u8 (λh=>?_) (λh=>?_)
 .unfold amc at q
  rw[h,Bool.true_or]at q
  exact q
 .have h':(g==46)=false:=Bool.eq_false_iff.mpr h
  unfold amc at q
  rw[h',Bool.false_or]at q
  exact(pk _ rfl _ ⟨rfl,q⟩)
def ap7:Sp:=λvs H Q _=>∃(a:Addr)(M:Mat),vs=[.ref a]/\FlM H a M/\∀(D:Addr)(ys:List V)(H':Hp),Same H H'->H D=none->H' D=some (.lst ys)->RepAll H' ((oix M (M.h*M.w)).map (cdx M)) ys->Q (.ref D) H'
theorem ax0:mx ["floor"] ["floor"] (mj sOc):={}
theorem avx(gC:GS mg "CLOSED" "#")(Fspots:Fn P w K mg base "floor_spots" 1 ["floor"] aff)(F:Fun K "open_cells" "open_cells" sOc f fd):qe P w K mg base CX0 2 f fd ["floor"] ap7:=by
 refine F.ok (k:=1) ax0 (λvs H Q E h=>?_) (λcdv A outer s H vs Q E hr h=>?_)
 .obtain⟨a,M,rfl,_⟩:=h
  rfl
 obtain⟨a,M,rfl,hf,q⟩:=h
 have okM:=hf.2
 have hw1:=okM.w1
 have hhw:M.h*M.w<=64:=jg okM.h8 okM.w8
 refine⟨_,(ma (my (oq ["row","column","sign"] [none,none,none] rfl rfl (by decide +kernel) (by decide +kernel) rfl rfl (n0 (nh Fspots hr (by decide) rfl (mf (pv 0) lv))) (λ_=>(qv (n:=3) rfl (mn (mh (i:=0) (show(["row","column","sign"]:List PySem.Str).Nodup by decide +kernel) rfl (Or.inl rfl)) (mn (mh (i:=1) (show(["row","column","sign"]:List PySem.Str).Nodup by decide +kernel) rfl (Or.inl rfl)) (mn (mh (i:=2) (show(["row","column","sign"]:List PySem.Str).Nodup by decide +kernel) rfl (Or.inl rfl)) o0))))) (λ_=>tq (oo afh (pv 2) (qf gC rfl) (oz _))) (λ_=>(ni (mf (pv 0) (mf (pv 1) lv))))))),?_⟩
 refine(oj _ rfl a (tf M) ⟨rfl,FlM.fl hf,λD1 ys1 H1 s1 hD1 hl1 rep1=>?_⟩)
 rw[rk,wu M M.h (am _)]at rep1
 have ly1:=rep1.length
 rw[ah,f9]at ly1
 refine⟨D1,rfl,⟨_,SqL.of hD1⟩,λD hD=>?_⟩
 refine ny (xs:=ys1) (λi zs G=>Same H1 G/\RepAll G ((oix M i).map (cdx M)) zs) ⟨Same.fresh _ hD,rfl⟩ (λi zs G p=>SqL.of (p.1 _ _ hD1)) (λi x zs G hx hi hDy hzl p=>?_) (λzs G hDy hzl p=>?_)
 .obtain⟨p1,p2⟩:=p
  obtain⟨d,hd,rd⟩:=rep1.at hx
  rw[aw,jj (by omega)]at hd
  cases hd
  obtain⟨b',rfl,hb',_⟩:=sn rd
  refine(m9 b' _ rfl (SqT.of (p1 _ _ hb')) rfl _ _ rfl _ (oj _ rfl _ _ ⟨rfl,rfl,?_⟩))
  refine⟨Agree.set (Agree.set (Agree.set (Agree.refl _) rfl) rfl) rfl,?_⟩
  have e35:ba "#" = ⟨#[35]⟩:=by decide +kernel
  have ed:(!decide (V.str ⟨#[M.g (i/M.w) (i % M.w)]⟩=V.str (ba "#"))) = !(M.g (i/M.w) (i % M.w)==35):=by rw[vd _ 35 e35]
  refine(oe _ rfl rfl _ ⟨rfl,?_⟩)
  rw[ed]
  have os:=agl M i
  refine u8 (λh=>?_) (λh=>?_)
  .rw[if_pos h]at os
   refine(pk _ rfl _ ⟨rfl,(by show 2<=sizeLine;decide),λt ht=>?_⟩)
   generalize g1:upd G t _=G2 at *
   obtain⟨s2,e2⟩:=al ht g1
   have hD2:=s2 _ _ hDy
   refine pi (by omega) hD2 hzl ⟨(p1.trans s2).new hD,?_⟩
   rw[os,br]
   refine((p2.same s2).snoc (ux e2)).tk (Tk.lst hD2) ?_
   have:=akd M (oix M i++[i])
   rw[br]at this
   exact this
  .rw[if_neg h,gf]at os
   exact⟨_,hDy,gp hzl,p1,by rw[os];exact p2⟩
 .obtain⟨p1,p2⟩:=p
  rw[ly1]at p2
  exact q D zs G (s1.trans p1) (s1.free hD) hDy p2
noncomputable def wj(xs:List KA)(r c:Int):List V:=(aea r c).filterMap λp=>r8 xs (cD p)
def anb(w:World):Sp:=λvs H Q _=>∃(D b:Addr)(xs:List KA)(ep:Nat)(r c:Int),vs=[.ref D,.ref b]/\DN w H D xs ep/\H b=some (.tup [.int r,.int c])/\∀(l:Addr)(H':Hp),Same H H'->H l=none->H' l=some (.lst (wj xs r c))->Q (.ref l) H'
theorem ar1:mx ["places","cell"] ["places","cell"] (mj ans):={}
theorem apf(Faro:Fn P w K mg base "around" 1 ["cell"] amb)(F:Fun K "near_places" "near_places" ans f fd):qe P w K mg base CX0 2 f fd ["places","cell"] (anb w):=by
 refine F.ok (k:=1) ar1 (λvs H Q E h=>?_) (λcdv A outer s H vs Q E hr h=>?_)
 .obtain⟨_,_,_,_,_,_,rfl,_⟩:=h
  rfl
 obtain⟨D,b,xs,ep,r,c,rfl,dn,hb,q⟩:=h
 have hu:=hr.units
 refine⟨_,(ma (my (oq ["other","places"] [none,some 0] rfl rfl (by decide +kernel) (by decide +kernel) rfl rfl (n0 (nh Faro hr (by decide) rfl (mf (pv 1) lv))) (λ_=>(mh (i:=0) (show(["other","places"]:List PySem.Str).Nodup by decide +kernel) rfl (Or.inl rfl))) (λ_=>tq (ago (an1 (eu (fj (by decide) _) hu) (pv 0) (pv 1)))) (λ_=>(agr (eu (fj (by decide) _) hu) (pv 1) (pv 0) (λ_ _=>rfl)))))),?_⟩
 refine(om _ rfl b r c ⟨rfl,hb,λl ys H1 s1 hl0 hl rep=>⟨l,rfl,⟨_,SqL.of hl⟩,λE1 hE1=>?_⟩⟩)
 have ly:=rep.length
 have dn1:=dn.same s1
 refine ny (xs:=ys) (λi zs G=>Same H1 G/\zs=((aea r c).take i).filterMap λp=>r8 xs (cD p)) ⟨Same.fresh _ hE1,rfl⟩ (λi zs G p=>SqL.of (p.1 _ _ hl)) (λi x zs G hx hi hDy hzl p=>?_) (λzs G hDy hzl p=>?_)
 .obtain⟨p1,rfl⟩:=p
  have hi4:i<4:=by rw[ly]at hi;exact hi
  obtain⟨d,hd,rd⟩:=rep.at hx
  rw[show awk r c=(aea r c).map cD from rfl,aw]at hd
  obtain⟨pc,hpc,rfl⟩:=bv.mp hd
  obtain⟨ca,rfl,hca⟩:=acv rd
  have fs:((aea r c).take (i+1)).filterMap (λp=>r8 xs (cD p))=((aea r c).take i).filterMap (λp=>r8 xs (cD p))++(r8 xs (cD pc)).toList:=by
   rw[f7,hpc,List.filterMap_append]
   cases h:r8 xs (cD pc)<;>simp[h]
  refine⟨Agree.set (Agree.refl _) rfl,?_⟩
  refine(mq _ rfl _ rfl D xs ep (mw (cD pc) ca ⟨rfl,rfl,dn1.same p1,kr2 (p1 _ _ hca),_,rfl,?_⟩))
  cases hv:r8 xs (cD pc)with
  | none=>
   refine xt ?_
   rw[hv]at fs
   exact⟨_,hDy,gp hzl,p1,by rw[fs];simp⟩
  | some v=>
   refine si ?_
   rw[hv]at fs
   refine(mq _ rfl _ rfl D xs ep (nq (cD pc) ca v ⟨rfl,rfl,dn1.same p1,kr2 (p1 _ _ hca),hv,?_⟩))
   exact pi (by omega) hDy hzl ⟨p1.new hE1,fs.symm⟩
 .obtain⟨p1,rfl⟩:=p
  rw[ly,show(awk r c).length=(aea r c).length from rfl,k6]at hDy
  exact q E1 G (s1.trans p1) (s1.free hE1) hDy
end
end K23
namespace L3
open PySem PySem.Spec PyProof.Rows L2
noncomputable def Jkn(w:World)(a:Addr)(xs:List KA)(ep:Nat):It:=
 ⟨λi H=>DN w H a xs ep/\i<xs.length,λi H v H'=>∃x,xs[i]?=some x/\v=.ref x.2.1/\H'=H,λi H=>DN w H a xs ep/\xs.length<=i⟩
theorem ahp{P:Program}{w:World}{K:ai}{tg:Expr}(a it:Addr)(xs:List KA)(ep:Nat) :
  ak2 P w K tg (Jkn w a xs ep) [it] it (λi h=>h.IsKeyIter it a i xs.length ep/\i<=xs.length)where
 mem:=by simp
 obj:=λi h st b hb=>by
  obtain⟨⟨o,he,_,hd⟩,_⟩:=st
  rw[ao.mp hb]
  exact⟨_,he,λv z=>by rw[hd]at z;cases z⟩
 keep:=λi h h' st k=>⟨st.1.at λo e=>k it (by simp) o e,st.2⟩
 item:=by
  intro X hP hw hK hc i pins s σ H E Iv hf st hg
  obtain⟨D,hi⟩:=hg
  obtain⟨st,_⟩:=st
  subst hP hw hK
  have fe:=hf it (by simp)
  obtain⟨es,de,hz,hx⟩:=D.de Iv
  obtain⟨e,h1,h2,h3⟩:=hx i xs[i] (ab hi)
  rw[<-hz]at st
  refine awe st de h1 λg st' sb=>⟨_,rfl,?_⟩
  obtain⟨o',ho',hc',hd'⟩:=id st'
  refine ale (s:={s with heap:=g}) ho' hc' hd' (by decide) ?_
  have I2:=Iv.turned (h':=g) (t':=s.toks) (λb o hb z=>(sb.2 b hb).trans z) fe.1 fe.2.1 fe.2.2.2.1 fe.2.2.2.2.1 fe.2.2.2.2.2
  rw[hz]at st'
  exact⟨.ref xs[i].2.1,H,I2,h2,⟨_,ab hi,rfl,rfl⟩,⟨st',hi⟩,λb hb=>by rw[ao.mp hb];exact fe.1⟩
 done:=by
  intro X hP hw hK hc i pins s σ H E Iv hf st hg
  obtain⟨D,hi⟩:=hg
  obtain⟨st,hi'⟩:=st
  subst hP hw hK
  have fi:=hf it (by simp)
  obtain⟨es,de,hz,hx⟩:=D.de Iv
  have e:i=es.size:=by omega
  rw[e,<-hz]at st
  exact axa (Iv.ok.hd hc) st de λg kp=>⟨rfl,Iv.turned (t':=s.toks) (λb o hb q=>kp b o hb q) fi.1 fi.2.1 fi.2.2.2.1 fi.2.2.2.2.1 fi.2.2.2.2.2⟩
 self:=λA i s Q E st h=>wpAny_pyIter_keyiter st.1 h
def ar0(w:World)(to:TE):TI:=λσ H R=>to σ H λv H1=>∃a xs ep,v=.ref a/\DN w H1 a xs ep/\R (Jkn w a xs ep) H1
theorem ak9{X:Cx}{o tg:Expr}{to:TE}(ho:PE X o to):PI X tg o (ar0 X.w to):=by
 intro pins s σ H R I h
 refine thn (ho pins s σ H _ I h) λv s1 ⟨x,H1,I1,r1,a,xs,ep,e,D,q⟩=>?_
 subst e
 cases (show v=Value.ref a from r1)
 obtain⟨es,de,hz,_⟩:=D.de I1
 refine avw D.sys de ?_
 refine⟨_,[_],_,_,H1,rfl,I1.kept (t':=s1.toks) (λb o e=>ak _ e),ahp a _ xs ep,⟨?_,dq _⟩,λc hc=>?_,q⟩
 .rw[<-hz];exact⟨_,av _ rfl,rfl,rfl⟩
 .rw[ao.mp hc]
  exact I1.fpOk (am _) (I1.hok.fresh (am _))
theorem agx{w:World}{a:Addr}{xs:List KA}{ep:Nat}{sl:List (Option Nat)}{g:TG}{tt:L2.TT}{te:TE}{σ:L2.St}{H1:Hp}{D:Addr}{Q:VK}(Pv:Nat->List V->Hp->Prop)(h0:Pv 0 [] (upd H1 D (.lst [])))(hl:∀i ys H,Pv i ys H->DN w H a xs ep)
  (hs:∀i x zs G,xs[i]?=some x->G D=some (.lst zs)->zs.length<=i->Pv i zs G->g (.ref x.2.1) (qt sl σ) G λσ2 H2=>Agree (qt sl σ) σ2/\tt σ2 H2 λb H3=>
   if b=true then te σ2 H3 λy H4=>∃xs,H4 D=some (.lst xs)/\xs.length<sizeLine/\Nx D i Pv (upd H4 D (.lst (xs++[y])))else Nx D i Pv H3)
  (hd:∀zs G,G D=some (.lst zs)->zs.length<=xs.length->Pv xs.length zs G->Q (.ref D) G):acl (Jkn w a xs ep) sl g tt te σ H1 D Q:=by
 refine ab7 (Jkn w a xs ep) xs.length Pv h0 (λi zs G hi p=>⟨hl i zs G p,hi⟩) (λzs G p=>⟨hl _ zs G p,am _⟩) (λi v zs G G' hi y hD hzl p=>?_) hd
 obtain⟨x,hx,rfl,rfl⟩:=y
 exact hs i x zs _ hx hD hzl p
end L3
namespace K23
open PySem PyProof.Rows L2 L3
noncomputable abbrev ap0:Stmt:=aq9 (top 31) 0
def PlX(M:Mat)(oc:List Nat)(xs:List KA):Prop:=xs.length=oc.length/\∀(i k:Nat),oc[i]?=some k->∃a,xs[i]?=some (cdx M k,a,.int (i:Nat))
theorem valN_mem{xs:List KA}{d:PyData}:(r8 xs d).isSome=true↔d∈xs.map (·.1):=by
 unfold r8
 rw[Option.isSome_map,List.find?_isSome,bi]
 exact exists_congr λx=>and_congr Iff.rfl decide_eq_true_iff
theorem aaf{M:Mat}(hw:0<M.w){i j:Nat}(h:cdx M i=cdx M j):i=j:=by
 unfold cdx clD at h
 injection h with h
 injection h with h1 h
 injection h with h2 _
 injection h1 with h1
 injection h2 with h2
 have e1:i/M.w=j/M.w:=by omega
 have e2:i % M.w=j % M.w:=by omega
 rw[<-Nat.div_add_mod i M.w,<-Nat.div_add_mod j M.w,e1,e2]
theorem abc(M:Mat)(k:Nat):(oix M k).Nodup:=List.Pairwise.filter _ List.nodup_range
theorem PlX.put{M:Mat}(hw:0<M.w){oc:List Nat}{xs:List KA}{i k:Nat}(h:PlX M (oc.take i) xs)(hk:oc[i]?=some k)(nd:oc.Nodup)(b:Addr):PlX M (oc.take (i+1)) (xq xs (cdx M k) b (.int (i:Nat))):=by
 have hi:=(ae.mp hk).1
 have hl:xs.length=i:=by rw[h.1,b0];omega
 have hno:¬(r8 xs (cdx M k)).isSome=true:=λz=>by
  obtain⟨y,hy,e⟩:=bi.mp (valN_mem.mp z)
  obtain⟨j,hj⟩:=cn hy
  have hjl:=(ae.mp hj).1
  have hjo:(oc.take i)[j]?=some (oc[j]'(by omega)):=by rw[lj,if_pos (by omega)];exact ab _
  obtain⟨a,ha⟩:=h.2 j _ hjo
  rw[hj]at ha
  cases ha
  have e2:=aaf hw e
  have e3:oc[j]?=oc[i]?:=by rw[hk,<-e2];exact ab (by omega)
  have:=(List.getElem?_inj (by omega) nd).mp e3
  omega
 unfold xq
 rw[if_neg hno]
 refine⟨by rw[bu,g9,hl,b0];omega,λj k' hj=>?_⟩
 have hj':=(ae.mp hj).1
 rw[b0]at hj'
 by_cases hji:j<i
 .have hj2:(oc.take i)[j]?=some k':=by rw[lj,if_pos hji];rw[lj,if_pos (by omega)]at hj;exact hj
  obtain⟨a,ha⟩:=h.2 j k' hj2
  exact⟨a,by rw[cr (by omega)];exact ha⟩
 .have e:j=i:=by omega
  subst e
  rw[lj,if_pos (by omega),hk]at hj
  cases hj
  exact⟨b,by rw[cb (by omega),hl,ke];rfl⟩
noncomputable abbrev fsG(kr e D nl:Addr):List (Str×V):=[("kinds",.ref kr),("apart",.ref e),("places",.ref D),("near",.ref nl)]
structure GrF(w:World)(H:Hp)(D nl:Addr)(M:Mat)(xs:List KA)(ep:Nat)(nvs:List V):Prop where
 dn:DN w H D xs ep
 px:PlX M (oix M (M.h*M.w)) xs
 nl:H nl=some (.lst nvs)
 nn:nvs.length=(oix M (M.h*M.w)).length
 nr:∀(i k:Nat),(oix M (M.h*M.w))[i]?=some k->∃a,nvs[i]?=some (.ref a)/\H a=some (.lst (wj xs ((k/M.w:Nat):Int) ((k % M.w:Nat):Int)))
structure ClG(K:ai)(C:Addr):Prop where
 cl:Cls K C
 n1:NoAttr K C "kinds"
 n2:NoAttr K C "apart"
 n3:NoAttr K C "places"
 n4:NoAttr K C "near"
seal L2.PE L2.PT L2.PW L2.PA L2.PS L2.PSs L2.PG L2.PGs L2.PI L2.PO
set_option pp.maxSteps 3000
section
variable{P:Program}{w:World}{K:ai}{mg:Str->Option Value}{base:Heap}{f:Addr}{fd:FuncData}{C:Addr}
def ak6(w:World)(C:Addr):Sp:=λvs H Q _=>∃(x dx pz fl kr e:Addr)(M:Mat),vs=[.ref x,.ref pz]/\H x=some (.ins C dx [])/\H pz=some (.tup [.ref fl,.ref kr,.ref e])/\FlM H fl M/\
 ∀(D nl:Addr)(xs:List KA)(ep:Nat)(nvs:List V)(H':Hp),Ex [x] H H'->H' x=some (.ins C dx (fsG kr e D nl))->GrF w H' D nl M xs ep nvs->Q .non H'
theorem scIni:mx ["self","puzzle","place","cell"] ["self","puzzle"] (mj ap0):={}
theorem arq(B:∀x∈tj,mg x=none)(cG:ClG K C)(Foc:Fn P w K mg base "open_cells" 2 ["floor"] ap7)(Fnear:Fn P w K mg base "near_places" 2 ["places","cell"] (anb w))(F:Fun K "__init__" "Ground.__init__" ap0 f fd):qe P w K mg base CX0 3 f fd ["self","puzzle"] (ak6 w C):=by
 refine F.ok (k:=2) scIni (λvs H Q E h=>?_) (λcdv A outer s H vs Q E hr h=>?_)
 .obtain⟨_,_,_,_,_,_,_,rfl,_⟩:=h
  rfl
 obtain⟨x,dx,pz,fl,kr,e,M,rfl,hx,hpz,hM,q⟩:=h
 have hu:=hr.units
 have okM:=hM.2
 have hhw:M.h*M.w<=64:=jg okM.h8 okM.w8
 have npx:pz≠x:=sx hpz hx (by intro z;cases z)
 refine⟨_,(lw (afy (pv 0) (ng nu (pv 1) l7 (λ_ _=>rfl)) rfl)
  (lw (afy (pv 0) (ng nu (pv 1) l7 (λ_ _=>rfl)) rfl)
  (lw (afy (pv 0) ael rfl)
  (lw (p7 ci rfl (asi rfl (B "enumerate" (by decide)) (mf (nh Foc hr (by decide) rfl (mf (ng nu (pv 1) l7 (λ_ _=>rfl)) lv)) lv)) (rj (n:=2) rfl (mn (mh (i:=2) scIni.nd rfl (Or.inl rfl)) (mn (mh (i:=3) scIni.nd rfl (Or.inl rfl)) o0))) (ma (ach (eu (fj (by decide) _) hu) (xm (pv 0) rfl) (pv 3) (pv 2) rfl)))
  (ma (afy (pv 0) (oq ["cell","self"] [none,some 0] rfl rfl (by decide +kernel) (by decide +kernel) rfl rfl (ak9 (xm (pv 0) rfl)) (λ_=>(mh (i:=0) (show(["cell","self"]:List PySem.Str).Nodup by decide +kernel) rfl (Or.inl rfl))) (λ_=>o8) (λ_=>(nh Fnear hr (by decide) rfl (mf (afc (pv 1) rfl) (mf (pv 0) lv))))) rfl)))))),?_⟩
 refine(me _ rfl pz _ _ _ ⟨rfl,rfl,SqT.of hpz,mm (j:=1) rfl,(me _ rfl x C dx _ ⟨rfl,hx,cG.cl,cG.n1,by decide,?_⟩)⟩)
 generalize g1:upd H x _=H1 at *
 have ex1:Ex [x] H H1:=by rw[<-g1];exact Ex.upd (by simp)
 have x1:H1 x=some (.ins C dx [("kinds",.ref kr)]):=by rw[<-g1];exact mr
 clear g1
 refine(me _ rfl pz _ _ _ ⟨rfl,rfl,SqT.of (ex1.at npx hpz),mm (j:=2) rfl,(me _ rfl x C dx _ ⟨rfl,x1,cG.cl,cG.n2,(by show 1<1000;decide),?_⟩)⟩)
 generalize g1:upd H1 x _=H2 at *
 have ex2:Ex [x] H H2:=by rw[<-g1];exact ex1.trans (Ex.upd (by simp))
 have x2:H2 x=some (.ins C dx [("kinds",.ref kr),("apart",.ref e)]):=by rw[<-g1];exact mr
 clear g1
 refine λD hD hsys=>?_
 generalize gg:upd H2 D _=H3 at *
 have s3:Same H2 H3:=(al hD gg).1
 have d3:DN w H3 D [] 0:=by rw[<-gg];exact DN.new hsys
 clear gg
 have nDx:D≠x:=λz=>by rw[z,x2]at hD;cases hD
 refine(me _ rfl x C dx _ ⟨rfl,s3 _ _ x2,cG.cl,cG.n3,(by show 2<1000;decide),?_⟩)
 generalize g1:upd H3 x _=H4 at *
 have ex34:Ex [x] H3 H4:=by rw[<-g1];exact Ex.upd (by simp)
 have ex4:Ex [x] H H4:=(ex2.trans (Ex.of_same s3)).trans ex34
 have x4:H4 x=some (.ins C dx [("kinds",.ref kr),("apart",.ref e),("places",.ref D)]):=by rw[<-g1];exact mr
 have d4:DN w H4 D [] 0:=d3.tk (λb ys h=>ex34.at (sx h (s3 _ _ x2) (by intro z;cases z)) h) (ex34.at nDx d3.obj)
 clear g1
 have M4:FlM H4 fl M:=⟨ex4.at (sx hM.1 hx (by intro z;cases z)) hM.1,hM.2⟩
 refine(me _ rfl pz _ _ _ ⟨rfl,rfl,SqT.of (ex4.at npx hpz),mm (j:=0) rfl,(mw fl M ⟨rfl,M4,λol oys H5 s5 hol0 hol repO=>?_⟩)⟩)
 have lo:=repO.length
 rw[ah]at lo
 have hol64:=ww M (M.h*M.w)
 have d5:=d4.same s5
 have x5:=s5 _ _ x4
 have nlD:ol≠D:=λz=>by rw[z,d4.obj]at hol0;cases hol0
 have ndO:=abc M (M.h*M.w)
 refine⟨ol,rfl,⟨_,SqL.of hol⟩,?_⟩
 refine apl (xs:=oys) (λi σ' G=>∃(y2 y3:Option V)(xs:List KA)(ep:Nat),σ'=[some (.ref x),some (.ref pz),y2,y3]/\Ex [D] H5 G/\DN w G D xs ep/\PlX M ((oix M (M.h*M.w)).take i) xs) ?_ (λi σ' G h=>?_) (λi v pr σ' G hv hpr h=>?_) (λσ' G h=>?_)
 .exact(m8 _ _ ([]) 0 ⟨rfl,Ex.refl _ _,d5,rfl,λi k h=>by rw[List.take_zero]at h;cases h⟩)
 .obtain⟨_,_,_,_,_,ex,_⟩:=h
  exact SqL.of (ex.at nlD hol)
 .obtain⟨y2,y3,xs,ep,rfl,ex,dn,px⟩:=h
  have hi:=(ae.mp hv).1
  obtain⟨d,hd,rd⟩:=repO.at hv
  rw[aw]at hd
  obtain⟨k,hk,rfl⟩:=bv.mp hd
  obtain⟨ca,rfl,hca⟩:=acv rd
  have nca:ca≠D:=sx hca d5.obj (by intro z;cases z)
  generalize g1:upd G pr _=G1 at *
  obtain⟨s1,e1⟩:=al hpr g1
  clear g1
  refine(m9 pr _ rfl (SqT.of e1) rfl _ _ rfl _ ⟨_,rfl,rfl,?_⟩)
  have xG:=s1 _ _ (ex.at (Ne.symm nDx) x5)
  have caG:=s1 _ _ (ex.at nca hca)
  have hxl:=px.1
  rw[b0]at hxl
  refine(mq _ rfl _ rfl x C dx (mw _ _ ⟨rfl,xG,cG.cl,cG.n3,rfl,(me _ rfl D xs ep (cdx M k) ⟨ca,rfl,rfl,dn.same s1,kr2 caG,mz (by omega),λep2=>?_⟩)⟩))
  exact(m8 _ _ _ ep2 ⟨rfl,ex.trans ((Ex.of_same s1).trans (Ex.upd (by simp))),(dn.same s1).put (kr2 caG) (mz (by omega)) _ ep2,px.put okM.w1 hk ndO ca⟩)
 .obtain⟨y2,y3,xs,ep,rfl,ex,dn,px⟩:=h
  rw[a9 (by omega)]at px
  have xG:=ex.at (Ne.symm nDx) x5
  have lx:=px.1
  refine(me _ rfl x C dx _ ⟨_,rfl,xG,cG.cl,cG.n3,rfl,(nq D xs ep ⟨rfl,dn,λnl hnl=>?_⟩)⟩)
  have nlx:nl≠x:=λz=>by rw[z,xG]at hnl;cases hnl
  refine agx (λi zs J=>Same G J/\zs.length=i/\∀(j k:Nat),j<i->(oix M (M.h*M.w))[j]?=some k->∃a,zs[j]?=some (.ref a)/\a≠nl/\J a=some (.lst (wj xs ((k/M.w:Nat):Int) ((k % M.w:Nat):Int)))) ⟨Same.fresh _ hnl,rfl,λj k h=>absurd h (Nat.not_lt_zero _)⟩ (λi zs J p=>dn.same p.1) (λi y zs J hy hDy hyl p=>?_) (λzs J hDy hyl p=>?_)
  .obtain⟨p1,hzl,hz⟩:=p
   have hi:=(ae.mp hy).1
   obtain⟨k,hk⟩:∃k,(oix M (M.h*M.w))[i]?=some k:=⟨_,ab (by omega)⟩
   obtain⟨ca,hca⟩:=px.2 i k hk
   rw[hy]at hca
   cases hca
   obtain⟨ca',e',hcaG⟩:=acv (dn.keys _ (aq hy)).rep
   cases e'
   refine⟨Agree.set (Agree.refl _) rfl,?_⟩
   dsimp only[yb]
   refine si ?_
   refine(me _ rfl x C dx _ ⟨_,rfl,p1 _ _ xG,cG.cl,cG.n3,rfl,(me _ rfl D ca xs ep (mw _ _ ⟨rfl,dn.same p1,p1 _ _ hcaG,λl J2 s2 hl0 hl=>?_⟩))⟩)
   have nln:l≠nl:=λz=>by rw[z,hDy]at hl0;cases hl0
   refine pi (by omega) (s2 _ _ hDy) hyl ⟨(p1.trans s2).new hnl,by rw[bu,hzl];rfl,λj k' hj hk'=>?_⟩
   by_cases hji:j<i
   .obtain⟨a,ha,hna,hJa⟩:=hz j k' hji hk'
    exact⟨a,by rw[cr (by omega)];exact ha,hna,by rw[nj hna];exact s2 _ _ hJa⟩
   .have ej:j=i:=by omega
    subst ej
    rw[hk]at hk'
    cases hk'
    exact⟨l,by rw[cb (by omega),hzl,ke];rfl,nln,by rw[nj nln];exact hl⟩
  .obtain⟨p1,hzl,hz⟩:=p
   have xJ:=p1 _ _ xG
   refine(me _ rfl x C dx _ ⟨rfl,xJ,cG.cl,cG.n4,(by show 3<1000;decide),?_⟩)
   generalize g1:upd J x _=J1 at *
   have exJ:Ex [x] J J1:=by rw[<-g1];exact Ex.upd (by simp)
   have xJ1:J1 x=some (.ins C dx (fsG kr e D nl)):=by rw[<-g1];exact mr
   clear g1
   have tkJ:Tk J J1:=λb ys h=>exJ.at (sx h xJ (by intro z;cases z)) h
   have hDn:∀b o,b≠x->H b=some o->J1 b=some o:=λb o hb h=>exJ.at hb (p1 _ _ (ex.at (λz=>by rw[z,show H D=none from (by cases hh:H D with|none=>rfl|some o=>have:=ex2.at nDx hh;rw[this]at hD;cases hD)]at h;cases h) (s5 _ _ (ex4.at hb h))))
   refine q D nl xs ep zs J1 (λb o hb h=>hDn b o (by simpa using hb) h) xJ1 ⟨(dn.same p1).tk tkJ (exJ.at nDx (p1 _ _ dn.obj)),px,exJ.at nlx hDy,by omega,λi k hk=>?_⟩
   have hi:=(ae.mp hk).1
   obtain⟨a,ha,_,hJa⟩:=hz i k (by omega) hk
   exact⟨a,ha,exJ.at (λz=>by rw[z,xJ]at hJa;cases hJa) hJa⟩
end
end K23
namespace L3
open PySem PySem.Spec PyProof.Rows L2
theorem sub_one{z:Str}{c i:Nat}:(i+1<=z.length/\Builtin.Str.subAt z ⟨#[c]⟩ i=true)↔z.cps.toList[i]?=some c:=by
 unfold Builtin.Str.subAt
 rw[beq_iff_eq]
 show(i+1<=z.cps.size/\z.cps.extract i (i+1)=#[c])↔_
 rw[bb]
 constructor
 .rintro⟨h1,h2⟩
  have:=congrArg (λa=>a[0]?) h2
  simp only[Array.getElem?_extract]at this
  rw[if_pos (by omega)]at this
  simpa using this
 .intro h
  have hi:i<z.cps.size:=by
   obtain⟨hi,_⟩:=bm.mp h
   exact hi
  refine⟨by omega,?_⟩
  apply Array.ext
  .simp;omega
  .intro j h1 h2
   have hj:j=0:=by simp at h2;omega
   subst hj
   obtain⟨_,e⟩:=bm.mp h
   simpa using e
theorem al9(z:Str)(c:Nat):(∃i:Nat,Txt.find z ⟨#[c]⟩=((i:Nat):Int)/\z.cps.toList[i]?=some c/\(!(Builtin.Str.occurrences z ⟨#[c]⟩ 0 z.length 1).isEmpty)=true)\/(c∉z.cps.toList/\(!(Builtin.Str.occurrences z ⟨#[c]⟩ 0 z.length 1).isEmpty)=false):=by
 rcases StrLaws.occ_head z ⟨#[c]⟩ 1 (am _)with ⟨h0,hn⟩|⟨i,r,h0,ha,_⟩
 .refine .inr ⟨λhm=>?_,by rw[h0];rfl⟩
  obtain⟨i,hi⟩:=cn hm
  exact hn i (sub_one.mpr hi)
 .refine .inl ⟨i,?_,sub_one.mp ha,by rw[h0];rfl⟩
  unfold Txt.find
  rw[h0]
section
variable{X:Cx}
theorem apr:MtR X "str.find" (λx vs H Q=>∃z y:Str,x=.str z/\vs=[.str y]/\Q (.int (Txt.find z y)) H):=by
 intro pins s σ H x vs v us Q I rx rv h
 obtain⟨z,y,rfl,rfl,q⟩:=h
 obtain⟨t,rfl⟩:=rx
 obtain⟨u,rfl,t',rfl⟩:=rv.one
 exact SC.find (mw (.int _) H ⟨I.tok _,⟨_,rfl⟩,q⟩)
end
end L3
namespace K23
open PySem PyProof.Rows L2 L3
noncomputable def ajj:Option Int->V
 | none=>.non
 | some m=>.int m
noncomputable def wb(le:Int)(m:Option Int)(n:Int):Int:=match m with
 | none=>if le<n then le else n
 | some _=>n
def BndK(H:Hp)(kvs:List V)(lms:List (Int×Option Int)):Prop:=kvs.length=lms.length/\lms.length<=6/\∀(i:Nat) v q,kvs[i]?=some v->lms[i]?=some q->∃b u0 u3 u4,v=.ref b/\H b=some (.tup [u0,.int q.1,ajj q.2,u3,u4])
theorem BndK.same{H H':Hp}{kvs:List V}{lms:List (Int×Option Int)}(h:BndK H kvs lms)(s:Same H H'):BndK H' kvs lms:=⟨h.1,h.2.1,λi v m h1 h2=>by
 obtain⟨b,u0,u3,u4,e,hb⟩:=h.2.2 i v m h1 h2
 exact(m8 b u0 u3 u4 ⟨e,s _ _ hb⟩)⟩
theorem aof{l:List Nat}{c n:Nat}(h:l.length=n)(hc:∀x∈l,x=c):l=gw n c:=by
 rw[<-h]
 exact List.eq_replicate_iff.mpr ⟨rfl,hc⟩
theorem asw(z:Str)(c:Nat):(!(Builtin.Str.occurrences z ⟨#[c]⟩ 0 z.length 1).isEmpty)=z.cps.toList.contains c:=by
 rcases al9 z c with ⟨i,_,hi,e⟩|⟨hn,e⟩
 .rw[e]
  exact(jr.mpr (aq hi)).symm
 .rw[e]
  exact(Bool.eq_false_iff.mpr λh=>hn (jr.mp h)).symm
theorem ahh{z:Str}{c:Nat}(hm:c∈z.cps.toList):∃i:Nat,Txt.find z ⟨#[c]⟩=((i:Nat):Int)/\z.cps.toList[i]?=some c/\∀j,j<i->z.cps.toList[j]?≠some c:=by
 rcases StrLaws.occ_head z ⟨#[c]⟩ 1 (am _)with ⟨h0,hn⟩|⟨i,r,h0,ha,hf⟩
 .obtain⟨i,hi⟩:=cn hm
  exact absurd (sub_one.mpr hi) (hn i)
 .refine⟨i,?_,sub_one.mp ha,λj hj e=>hf j hj (sub_one.mpr e)⟩
  unfold Txt.find
  rw[h0]
seal L2.PE L2.PT L2.PW L2.PA L2.PS L2.PSs L2.PG L2.PGs L2.PI L2.PO
set_option pp.maxSteps 3000
section
variable{P:Program}{w:World}{K:ai}{mg:Str->Option Value}{base:Heap}{f:Addr}{fd:FuncData}{C:Addr}
theorem eU:ba "?" = ⟨#[63]⟩:=by decide +kernel
def aou:Sp:=λvs H Q _=>∃(s:Addr)(z:Str)(v:V),vs=[.ref s]/\H s=some (.tup [.str z,v])/\63∈z.cps.toList/\∀i:Nat,z.cps.toList[i]?=some 63->(∀j,j<i->z.cps.toList[j]?≠some 63)->Q (.int (i:Nat)) H
theorem au1:mx ["state"] ["state"] (mj atz):={}
theorem aqa(gU:GS mg "UNDECIDED" "?")(F:Fun K "first_undecided" "first_undecided" atz f fd):qe P w K mg base CX0 1 f fd ["state"] aou:=by
 refine F.ok (k:=0) au1 (λvs H Q E h=>?_) (λcdv A outer s H vs Q E hr h=>?_)
 .obtain⟨_,_,_,rfl,_⟩:=h
  rfl
 obtain⟨a,z,v,rfl,ha,hm,q⟩:=h
 refine⟨_,(ma (my (vk PySem.F.plainAttrs_str PySem.F.slot_str_find PySem.F.type_str_find apr (ng nu (pv 0) l7 (λ_ _=>rfl)) (mf (qf gU rfl) lv)))),?_⟩
 refine(me _ rfl a _ _ _ ⟨rfl,rfl,SqT.of ha,mm (j:=0) rfl,rfl,(mw z _ ⟨rfl,rfl,?_⟩)⟩)
 rw[eU]
 obtain⟨i,e,hi,hf⟩:=ahh hm
 rw[e]
 exact q i hi hf
def aq6:Sp:=λvs H Q _=>∃(s:Addr)(z:Str)(v:V),vs=[.ref s]/\H s=some (.tup [.str z,v])/\Q (.bl (!z.cps.toList.contains 63)) H
theorem avp:mx ["state"] ["state"] (mj awl):={}
theorem arx(gU:GS mg "UNDECIDED" "?")(F:Fun K "ended" "ended" awl f fd):qe P w K mg base CX0 1 f fd ["state"] aq6:=by
 refine F.ok (k:=0) avp (λvs H Q E h=>?_) (λcdv A outer s H vs Q E hr h=>?_)
 .obtain⟨_,_,_,rfl,_⟩:=h
  rfl
 obtain⟨a,z,v,rfl,ha,q⟩:=h
 refine⟨_,(ma (my (qz adx (qf gU rfl) (ng nu (pv 0) l7 (λ_ _=>rfl)) rfl))),?_⟩
 refine(me _ rfl a _ _ _ ⟨rfl,rfl,SqT.of ha,mm (j:=0) rfl,(mw _ z ⟨rfl,rfl,?_⟩)⟩)
 rw[eU,asw]
 exact q
def aok:Sp:=λvs H Q _=>∃(b:Addr)(u0 u3 u4:V)(le n:Int)(m:Option Int),vs=[.ref b,.int n]/\H b=some (.tup [u0,.int le,ajj m,u3,u4])/\Q (.int (wb le m n)) H
theorem awo:mx ["kind","laid"] ["kind","laid"] (mj at5):={}
theorem aqx(B:∀x∈tj,mg x=none)(F:Fun K "used_of" "used_of" at5 f fd):qe P w K mg base CX0 1 f fd ["kind","laid"] aok:=by
 refine F.ok (k:=0) awo (λvs H Q E h=>?_) (λcdv A outer s H vs Q E hr h=>?_)
 .obtain⟨_,_,_,_,_,_,_,rfl,_⟩:=h
  rfl
 obtain⟨b,u0,u3,u4,le,n,m,rfl,hb,q⟩:=h
 refine⟨_,(ma (my (ab3 (oo acq (ng nu (pv 0) l7 (λ_ _=>rfl)) sr (oz _)) (p8 (acw rfl) rfl (B "min" (by decide)) boot_min (mf (pv 1) (mf (ng nu (pv 0) l7 (λ_ _=>rfl)) lv))) (pv 1)))),?_⟩
 refine(me _ rfl b _ _ _ ⟨rfl,rfl,SqT.of hb,mm (j:=2) rfl,rfl,_,rfl,?_⟩)
 cases m with
 | none=>
  refine si ?_
  exact(mq _ rfl _ rfl b _ _ (zj _ rfl rfl (SqT.of hb) (mm (j:=1) rfl) _ _ ⟨rfl,q⟩))
 | some m=>
  refine xt ?_
  exact⟨_,rfl,q⟩
def ato:Sp:=λvs H Q _=>∃(pz fl kr:Addr)(e:V)(M:Mat)(kvs:List V) (lms:List (Int×Option Int)),vs=[.ref pz]/\H pz=some (.tup [.ref fl,.ref kr,e])/\FlM H fl M/\H kr=some (.tup kvs)/\BndK H kvs lms/\
 ∀(r u:Addr)(z:Str)(H':Hp),Same H H'->z.cps.toList=gw (oix M (M.h*M.w)).length 63->H' r=some (.tup [.str z,.ref u])->H' u=some (.tup (lms.map λq=>V.int (wb q.1 q.2 0)))->Q (.ref r) H'
theorem scBeg:mx ["puzzle","marks"] ["puzzle"] (mj awa):={}
theorem atn(B:∀x∈tj,mg x=none)(gU:GS mg "UNDECIDED" "?")(Foc:Fn P w K mg base "open_cells" 2 ["floor"] ap7)(Fuof:Fn P w K mg base "used_of" 1 ["kind","laid"] aok)(F:Fun K "begin" "begin" awa f fd):qe P w K mg base CX0 3 f fd ["puzzle"] ato:=by
 refine F.ok (k:=2) scBeg (λvs H Q E h=>?_) (λcdv A outer s H vs Q E hr h=>?_)
 .obtain⟨_,_,_,_,_,_,_,rfl,_⟩:=h
  rfl
 obtain⟨pz,fl,kr,e,M,kvs,lms,rfl,hpz,hM,hkr,hK,q⟩:=h
 have hhw:M.h*M.w<=64:=jg hM.2.h8 hM.2.w8
 have hol:=ww M (M.h*M.w)
 refine⟨_,(lw (nc (i:=1) scBeg.nd rfl (Or.inl rfl) (ow apx (qf gU rfl) (p8 oh rfl (B "len" (by decide)) ft (mf (nh Foc hr (by decide) rfl (mf (ng nu (pv 0) l7 (λ_ _=>rfl)) lv)) lv))))
  (ma (my (ni (mf (pv 1) (mf (wv ou rfl (B "tuple" (by decide)) li (mf (oq ["kind"] [none] rfl rfl (by decide +kernel) (by decide +kernel) rfl rfl (aa1 (ng nu (pv 0) l7 (λ_ _=>rfl))) (λ_=>(mh (i:=0) (show(["kind"]:List PySem.Str).Nodup by decide +kernel) rfl (Or.inl rfl))) (λ_=>o8) (λ_=>(nh Fuof hr (by decide) rfl (mf (pv 0) (mf l7 lv))))) lv)) lv)))))),?_⟩
 refine(me _ rfl pz _ _ _ ⟨rfl,rfl,SqT.of hpz,mm (j:=0) rfl,(mw fl M ⟨rfl,hM,λol oys H1 s1 hol0 hol1 rep=>?_⟩)⟩)
 have lo:=rep.length
 rw[ah]at lo
 have l1:(ba "?").length=1:=by decide +kernel
 have c1:(ba "?").cps.toList=[63]:=by decide +kernel
 refine(v9 ol oys rfl (.inl (SqL.of hol1)) _ _ ⟨rfl,rfl,by omega,by omega,(by rw[l1];decide),λz hz hzc=>?_⟩)
 rw[l1,Nat.one_mul,cc,lo]at hz
 rw[c1]at hzc
 have ez:z.cps.toList=gw (oix M (M.h*M.w)).length 63:=aof (by rw[au];exact hz) λx hx=>ao.mp (hzc x hx)
 refine(mq _ rfl _ rfl pz _ _ ⟨_,rfl,rfl,SqT.of (s1 _ _ hpz),mm (j:=1) rfl,kr,rfl,⟨_,SqT.of (s1 _ _ hkr)⟩,λD hD=>?_⟩)
 have lk:=hK.1
 refine wt (xs:=kvs) (λi zs G=>Same H1 G/\zs=(lms.take i).map λq=>V.int (wb q.1 q.2 0)) ⟨Same.fresh _ hD,rfl⟩ (λi zs G p=>SqT.of (p.1 _ _ (s1 _ _ hkr))) (λi x zs G hx hi hDy hzl p=>?_) (λzs G hDy hzl p=>?_)
 .obtain⟨p1,rfl⟩:=p
  obtain⟨lm,hlm⟩:∃lm,lms[i]?=some lm:=⟨_,ab (by omega)⟩
  obtain⟨b,u0,u3,u4,rfl,hb⟩:=hK.2.2 i x lm hx hlm
  have h6:=hK.2.1
  refine⟨Agree.set (Agree.refl _) rfl,?_⟩
  dsimp only[yb]
  refine si ?_
  refine(me _ rfl b u0 u3 u4 (nq lm.1 0 lm.2 ⟨rfl,p1 _ _ (s1 _ _ hb),pi (by omega) hDy hzl ⟨p1.new hD,?_⟩⟩))
  exact(nw (λq:Int×Option Int=>V.int (wb q.1 q.2 0)) hlm).symm
 .obtain⟨p1,rfl⟩:=p
  rw[a9 (by omega)]at hDy
  refine(mw D _ ⟨rfl,.inl ⟨SqL.of hDy,λu hu=>?_⟩⟩)
  generalize g1:upd G u _=G1 at *
  obtain⟨s2,e2⟩:=al hu g1
  clear g1
  refine⟨(by show 2<=sizeLine;decide),λr hr0=>?_⟩
  generalize g1:upd G1 r _=G2 at *
  obtain⟨s3,e3⟩:=al hr0 g1
  exact q r u z G2 (((s1.trans p1).trans s2).trans s3) ez e3 (s3 _ _ e2)
end
noncomputable abbrev Sg:=Nat×Nat×Nat
noncomputable def sgD(s:Sg):PyData:=.tuple [.int (s.1:Nat),.int (s.2.1:Nat),.str ⟨#[s.2.2]⟩]
noncomputable def plD(ss:List Sg)(n:Int):PyData:=.tuple [.tuple (ss.map sgD),.int n]
noncomputable def cix(M:Mat)(s:Sg):Nat:=(oix M (M.h*M.w)).idxOf (s.1*M.w+s.2.1)
noncomputable def cvS(M:Mat)(s:Sg):PyData:=.tuple [.int (cix M s:Nat),.str ⟨#[s.2.2]⟩]
def OpS(M:Mat)(s:Sg):Prop:=s.1<M.h/\s.2.1<M.w/\M.g s.1 s.2.1≠35
theorem xg{M:Mat}{s:Sg}(h:OpS M s):(oix M (M.h*M.w))[cix M s]?=some (s.1*M.w+s.2.1):=by
 obtain⟨h1,h2,h3⟩:=h
 have hm:s.1*M.w+s.2.1∈oix M (M.h*M.w):=by
  unfold oix
  refine ll.mpr ⟨fg.mpr ?_,?_⟩
  .have:(s.1+1)*M.w<=M.h*M.w:=Nat.mul_le_mul_right _ h1
   rw[Nat.add_mul,Nat.one_mul]at this
   omega
  .rw[aba h2,aas h2]
   simpa using h3
 have hl:=List.idxOf_lt_length_iff.mpr hm
 unfold cix
 rw[ab hl,List.getElem_idxOf hl]
theorem afu{M:Mat}{r c:Nat}(h:c<M.w):cdx M (r*M.w+c)=clD (r:Nat) (c:Nat):=by
 unfold cdx
 rw[aba h,aas h]
theorem PlX.val{M:Mat}(hw:0<M.w){oc:List Nat}{xs:List KA}(h:PlX M oc xs)(nd:oc.Nodup){i k:Nat}(hk:oc[i]?=some k):r8 xs (cdx M k)=some (.int (i:Nat)):=by
 obtain⟨a,ha⟩:=h.2 i k hk
 have hs:(r8 xs (cdx M k)).isSome=true:=valN_mem.mpr (bi.mpr ⟨_,aq ha,rfl⟩)
 unfold r8 at hs⊢
 cases hf:xs.find? (λx=>decide (x.1=cdx M k))with
 | none=>rw[hf]at hs;cases hs
 | some y=>
  have hy:=List.mem_of_find?_eq_some hf
  have hp:y.1=cdx M k:=of_decide_eq_true (List.find?_some (p:=λx:KA=>decide (x.1=cdx M k)) hf)
  obtain⟨j,hj⟩:=cn hy
  have hjl:=(ae.mp hj).1
  have hlen:=h.1
  obtain⟨kj,hkj⟩:∃kj,oc[j]?=some kj:=⟨_,ab (by omega)⟩
  obtain⟨a',ha'⟩:=h.2 j kj hkj
  rw[hj]at ha'
  cases ha'
  have e2:=aaf hw hp
  subst e2
  have:=(List.getElem?_inj (by omega) nd).mp (hkj.trans hk.symm)
  subst this
  rfl
set_option pp.maxSteps 3000
section
variable{P:Program}{w:World}{K:ai}{mg:Str->Option Value}{base:Heap}{f:Addr}{fd:FuncData}{C:Addr}
def as8:Sp:=λvs H Q _=>∃(e:Addr)(a b:Nat)(avs:List V)(ads:List PyData),vs=[.ref e,chV a,chV b]/\a<128/\b<128/\H e=some (.tup avs)/\RepAll H ads avs/\∀(t:Bool)(H':Hp),Same H H'->Q (.bl t) H'
theorem au2:mx ["apart","sign","other"] ["apart","sign","other"] (mj avj):={}
theorem aqg(B:∀x∈tj,mg x=none)(F:Fun K "is_kept_apart" "is_kept_apart" avj f fd):qe P w K mg base CX0 1 f fd ["apart","sign","other"] as8:=by
 refine F.ok (k:=0) au2 (λvs H Q E h=>?_) (λcdv A outer s H vs Q E hr h=>?_)
 .obtain⟨_,_,_,_,_,rfl,_⟩:=h
  rfl
 obtain⟨e,a,b,avs,ads,rfl,ha,hb,he,rep,q⟩:=h
 have hu:=hr.units
 refine⟨_,(ma (my (qz (af7 hu) (wv ou rfl (B "tuple" (by decide)) li (mf (p8 adu rfl (B "sorted" (by decide)) boot_sorted (mf (ph (mf (pv 1) (mf (pv 2) lv))) lv)) lv)) (pv 0) rfl))),?_⟩
 refine(pk _ rfl _ ⟨rfl,(by show 2<=sizeLine;decide),λl hl=>?_⟩)
 generalize g1:upd H l _=H1 at *
 obtain⟨s1,e1⟩:=al hl g1
 clear g1
 refine(nq l _ ([.str ⟨#[a]⟩,.str ⟨#[b]⟩]) ⟨rfl,e1,(v9 _ _ rfl ⟨rfl,ok1 ha⟩ _ _ ⟨rfl,⟨rfl,ok1 hb⟩,rfl⟩),(λd hd=>?_),λl2 ys es hl2 pe re=>?_⟩)
 .simp only[bq,jb,or_false]at hd
  rcases hd with rfl|rfl<;>exact⟨_,rfl⟩
 generalize g1:upd H1 l2 _=H2 at *
 obtain⟨s2,e2⟩:=al hl2 g1
 clear g1
 refine(mw l2 ys ⟨rfl,.inl ⟨SqL.of e2,λt ht=>?_⟩⟩)
 generalize g1:upd H2 t _=H3 at *
 obtain⟨s3,e3⟩:=al ht g1
 clear g1
 have s13:=(s1.trans s2).trans s3
 have dep:(PyData.tuple es).depth<=60:=by
  have:∀ds:List PyData,(∀d∈ds,∃z,d=.str z)->b7 ds<=1:=λds=>by
   induction ds with
   | nil=>intro _;simp[b7]
   | cons d ds ih=>
    intro h
    obtain⟨z,rfl⟩:=h d bj
    have:=ih λx hx=>h x (bf _ hx)
    simp[b7,jh]
    omega
  have:=this es λd hd=>by
   have:=pe.mem_iff.mp hd
   simp only[bq,jb,or_false]at this
   rcases this with rfl|rfl<;>exact⟨_,rfl⟩
  simp[jh]
  omega
 exact(me _ rfl (.tuple es) e avs ads ⟨(mw t ys ⟨rfl,e3,re.same s3⟩),rfl,.inr (s13 _ _ he),rep.same s13,dep,q _ H3 s13⟩)
def an8(w:World)(C:Addr):Sp:=λvs H Q _=>∃(g dx kr e D nl p:Addr)(M:Mat)(xs:List KA)(ep:Nat)(nvs:List V)(ss:List Sg)(n:Int),vs=[.ref g,.ref p]/\H g=some (.ins C dx (fsG kr e D nl))/\GrF w H D nl M xs ep nvs/\0<M.w/\Rep H (plD ss n) (.ref p)/\(∀s∈ss,OpS M s/\s.2.2<128)/\ss.length<=6/\
 ∀(l:Addr)(ys:List V)(H':Hp),Same H H'->H l=none->H' l=some (.lst ys)->RepAll H' (ss.map (cvS M)) ys->Q (.ref l) H'
theorem auj:mx ["ground","placement"] ["ground","placement"] (mj av1):={}
theorem atg(cG:ClG K C)(F:Fun K "covers" "covers" av1 f fd):qe P w K mg base CX0 1 f fd ["ground","placement"] (an8 w C):=by
 refine F.ok (k:=0) auj (λvs H Q E h=>?_) (λcdv A outer s H vs Q E hr h=>?_)
 .obtain⟨_,_,_,_,_,_,_,_,_,_,_,_,_,rfl,_⟩:=h
  rfl
 obtain⟨g,dx,kr,e,D,nl,p,M,xs,ep,nvs,ss,n,rfl,hg,hG,hw,hp,hss,h6,q⟩:=h
 have hu:=hr.units
 obtain⟨pp,pxs,hpp,hpx,y0,t0,rfl,⟨b,bxs,rfl,hb,repB⟩,_⟩:=hp
 cases hpp
 have lb:=repB.length
 rw[ah]at lb
 refine⟨_,(ma (my (oq ["row","column","sign","ground"] [none,none,none,some 0] rfl rfl (by decide +kernel) (by decide +kernel) rfl rfl (aa1 (ng nu (pv 1) l7 (λ_ _=>rfl))) (λ_=>(qv (n:=3) rfl (mn (mh (i:=0) (show(["row","column","sign","ground"]:List PySem.Str).Nodup by decide +kernel) rfl (Or.inl rfl)) (mn (mh (i:=1) (show(["row","column","sign","ground"]:List PySem.Str).Nodup by decide +kernel) rfl (Or.inl rfl)) (mn (mh (i:=2) (show(["row","column","sign","ground"]:List PySem.Str).Nodup by decide +kernel) rfl (Or.inl rfl)) o0))))) (λ_=>o8) (λ_=>(ni (mf (agr (eu (fj (by decide) _) hu) (afc (pv 3) rfl) (ni (mf (pv 0) (mf (pv 1) lv))) (λ_ _=>rfl)) (mf (pv 2) lv))))))),?_⟩
 refine(me _ rfl p _ _ _ ⟨rfl,rfl,SqT.of hpx,mm (j:=0) rfl,b,rfl,⟨_,SqT.of hb⟩,λL hL=>?_⟩)
 have imC:∀l:List Sg,pj (l.map (cvS M))=true:=λl=>qc λd hd=>by
  obtain⟨s,_,rfl⟩:=bi.mp hd
  rfl
 refine wt (xs:=bxs) (λi zs G=>Same H G/\RepAll G ((ss.take i).map (cvS M)) zs) ⟨Same.fresh _ hL,rfl⟩ (λi zs G p=>SqT.of (p.1 _ _ hb)) (λi x zs G hx hi hDy hzl p=>?_) (λzs G hDy hzl p=>?_)
 .obtain⟨p1,p2⟩:=p
  obtain⟨d,hd,rd⟩:=repB.at hx
  rw[aw]at hd
  obtain⟨⟨r,c,k⟩,hs,rfl⟩:=bv.mp hd
  obtain⟨b',rfl,hb',hok⟩:=sn rd
  obtain⟨ho,hk⟩:=hss _ (aq hs)
  have hv:=hG.px.val hw (abc M _) (xg ho)
  rw[afu ho.2.1]at hv
  refine(m9 b' _ rfl (SqT.of (p1 _ _ hb')) rfl _ _ rfl _ (oj _ rfl _ _ ⟨rfl,rfl,?_⟩))
  refine⟨Agree.set (Agree.set (Agree.set (Agree.refl _) rfl) rfl) rfl,?_⟩
  dsimp only[yb]
  refine si ?_
  refine(me _ rfl g C dx _ ⟨_,rfl,p1 _ _ hg,cG.cl,cG.n3,rfl,(pk _ rfl _ ⟨rfl,(by show 2<=sizeLine;decide),λt ht=>?_⟩)⟩)
  generalize g1:upd G t _=G1 at *
  obtain⟨s1,e1⟩:=al ht g1
  clear g1
  refine(l9 D xs ep (clD (r:Nat) (c:Nat)) t ⟨_,rfl,rfl,hG.dn.same (p1.trans s1),kr2 e1,hv,_,rfl,(by show 2<=sizeLine;decide),λu hu0=>?_⟩)
  generalize g1:upd G1 u _=G2 at *
  obtain⟨s2,e2⟩:=al hu0 g1
  clear g1
  have hD2:=(s1.trans s2) _ _ hDy
  refine pi (by omega) hD2 hzl ⟨(p1.trans (s1.trans s2)).new hL,?_⟩
  have im:=imC (ss.take (i+1))
  rw[nw (cvS M) hs]at im⊢
  exact((p2.same (s1.trans s2)).snoc (show Rep G2 (cvS M (r,c,k)) (.ref u)from (ox u _ rfl e2 _ _ rfl rfl _ ⟨_,rfl,⟨rfl,ok1 hk⟩,rfl⟩))).tk (Tk.lst hD2) im
 .obtain⟨p1,p2⟩:=p
  rw[a9 (by omega)]at p2
  exact q L zs G p1 hL hDy p2
end
noncomputable def ocn(M:Mat):List Nat:=oix M (M.h*M.w)
noncomputable def cell(M:Mat)(k:Nat):Int×Int:=(((k/M.w:Nat):Int),((k % M.w:Nat):Int))
theorem alg{M:Mat}(hw:0<M.w){i j:Nat}(h:cell M i=cell M j):i=j:=aaf hw (by unfold cdx clD;unfold cell at h;injection h with h1 h2;rw[h1,h2])
noncomputable def nb(M:Mat)(i:Nat):List Nat:=(b9 (ocn M).length).filter λj=>(match (ocn M)[i]?,(ocn M)[j]? with|some k,some k'=>(aea (cell M k).1 (cell M k).2).contains (cell M k')|_,_=>false)
theorem apg{a b c d:Int}(h:(a,b)∈aea c d):(c,d)∈aea a b:=by
 have y:∀x:Int,x-1+1=x:=λx=>Int.sub_add_cancel x 1
 have z:∀x:Int,x+1-1=x:=λx=>Int.add_sub_cancel x 1
 unfold aea at h⊢
 rcases h with _|⟨_,_|⟨_,_|⟨_,_|⟨_,h⟩⟩⟩⟩
 .rw[y];exact .tail _ (.tail _ (.tail _ (.head _)))
 .rw[y];exact .tail _ (.tail _ (.head _))
 .rw[z];exact .tail _ (.head _)
 .rw[z];exact .head _
 .cases h
theorem mem_nb{M:Mat}{i j:Nat}:j∈nb M i↔∃k k',(ocn M)[i]?=some k/\(ocn M)[j]?=some k'/\cell M k'∈aea (cell M k).1 (cell M k).2:=by
 unfold nb
 rw[ll,fg]
 constructor
 .rintro⟨_,h⟩
  cases e1:(ocn M)[i]? with
  | none=>rw[e1]at h;cases h
  | some k=>
   cases e2:(ocn M)[j]? with
   | none=>rw[e1,e2]at h;cases h
   | some k'=>
    rw[e1,e2]at h
    exact(mw k k' ⟨rfl,rfl,jr.mp h⟩)
 .rintro⟨k,k',e1,e2,h⟩
  refine⟨(ae.mp e2).1,?_⟩
  rw[e1,e2]
  exact jr.mpr h
theorem ar2{M:Mat}{i j:Nat}(h:j∈nb M i):i∈nb M j:=by
 obtain⟨k,k',e1,e2,h⟩:=mem_nb.mp h
 exact mem_nb.mpr (mw k' k ⟨e2,e1,apg h⟩)
theorem af8{M:Mat}(hw:0<M.w){xs:List KA}(h:PlX M (ocn M) xs){i k:Nat}(hk:(ocn M)[i]?=some k)(j:Nat):V.int (j:Nat)∈wj xs ((k/M.w:Nat):Int) ((k % M.w:Nat):Int)↔j∈nb M i:=by
 have nd:(ocn M).Nodup:=abc M _
 rw[mem_nb]
 unfold wj
 rw[List.mem_filterMap]
 constructor
 .rintro⟨p,hp,hv⟩
  obtain⟨x,hx,e1,e2⟩:∃x∈xs,x.1=cD p/\x.2.2=V.int (j:Nat):=by
   unfold r8 at hv
   obtain⟨x,hx,e⟩:=bv.mp hv
   exact⟨x,List.mem_of_find?_eq_some hx,of_decide_eq_true (List.find?_some (p:=λx:KA=>decide (x.1=cD p)) hx),e⟩
  obtain⟨j',hj'⟩:=cn hx
  have hjl:=(ae.mp hj').1
  rw[h.1]at hjl
  obtain⟨a,ha⟩:=h.2 j' _ (ab hjl)
  rw[hj']at ha
  cases ha
  have ej:j'=j:=by
   have e2:V.int (j':Nat)=V.int (j:Nat):=e2
   injection e2 with e2
   omega
  subst ej
  refine(mw k _ ⟨hk,ab hjl,?_⟩)
  have e1:cdx M (ocn M)[j']=cD p:=e1
  have ep:p=cell M (ocn M)[j']:=by
   unfold cdx cD clD at e1
   injection e1 with e1
   injection e1 with a1 e1
   injection e1 with a2 _
   injection a1 with a1
   injection a2 with a2
   exact Prod.ext a1.symm a2.symm
  rw[<-ep]
  exact hp
 .rintro⟨k0,k',e1,e2,hm⟩
  rw[hk]at e1
  cases e1
  exact⟨cell M k',hm,h.val hw nd e2⟩
noncomputable abbrev Kn:=Nat->Option Nat
noncomputable def tch(M:Mat)(kn:Kn)(i:Nat):Bool:=(nb M i).any λj=>(kn j).isNone
noncomputable def mk1(M:Mat)(kn:Kn)(i:Nat):Nat:=match kn i with
 | none=>63
 | some c=>if tch M kn i=true then c else 45
noncomputable def mkL(M:Mat)(kn:Kn):List Nat:=(b9 (ocn M).length).map (mk1 M kn)
theorem vx{M:Mat}{kn:Kn}{i:Nat}(h:i<(ocn M).length):(mkL M kn)[i]?=some (mk1 M kn i):=by
 unfold mkL
 rw[aw,jj h]
 rfl
theorem qy(M:Mat)(kn:Kn):(mkL M kn).length=(ocn M).length:=by unfold mkL;simp
def Sgn(kn:Kn):Prop:=∀i c,kn i=some c->c<128/\c≠63
theorem zc{M:Mat}{kn:Kn}(h:Sgn kn)(i:Nat):mk1 M kn i=63↔kn i=none:=by
 unfold mk1
 cases e:kn i with
 | none=>simp
 | some c=>
  have:=(h i c e).2
  dsimp only
  split
  .simp[this]
  .simp
noncomputable def knS(kn:Kn)(js:List (Nat×Nat)):Kn:=λi=>match js.find? λq=>q.1==i with
 | some q=>some q.2
 | none=>kn i
noncomputable def agc(l:List Nat)(js:List (Nat×Nat)):List Nat:=js.foldl (λl q=>l.set q.1 q.2) l
theorem af9(l:List Nat)(js:List (Nat×Nat)):(agc l js).length=l.length:=by
 unfold agc
 induction js generalizing l with
 | nil=>rfl
 | cons q js ih=>rw[List.foldl_cons,ih,List.length_set]
theorem aip(l:List Nat)(js:List (Nat×Nat))(q:Nat×Nat):agc l (js++[q])=(agc l js).set q.1 q.2:=by
 unfold agc
 rw[List.foldl_append]
 rfl
theorem ye{l:List Nat}{js:List (Nat×Nat)}{i:Nat}(h:i∉js.map (·.1)):(agc l js)[i]?=l[i]?:=by
 unfold agc
 induction js generalizing l with
 | nil=>rfl
 | cons q js ih=>
  rw[c5,bq,not_or]at h
  rw[List.foldl_cons,ih h.2,List.getElem?_set,if_neg λz=>h.1 z.symm]
theorem ajh{l:List Nat}{js:List (Nat×Nat)}(nd:(js.map (·.1)).Nodup){q:Nat×Nat}(hq:q∈js)(hl:q.1<l.length):(agc l js)[q.1]?=some q.2:=by
 induction js generalizing l with
 | nil=>cases hq
 | cons p js ih=>
  rw[c5,ln]at nd
  show(agc (l.set p.1 p.2) js)[q.1]?=_
  rcases bq.mp hq with rfl|h
  .rw[ye nd.1,List.getElem?_set,if_pos rfl,if_pos hl]
  .exact ih nd.2 h (by rw[List.length_set];exact hl)
theorem rn{kn:Kn}{js:List (Nat×Nat)}{i:Nat}(h:i∉js.map (·.1)):knS kn js i=kn i:=by
 unfold knS
 have:js.find? (λq=>q.1==i)=none:=List.find?_eq_none.mpr λq hq e=>h (bi.mpr ⟨q,hq,by simpa using e⟩)
 rw[this]
theorem wg{kn:Kn}{js:List (Nat×Nat)}(nd:(js.map (·.1)).Nodup){q:Nat×Nat}(hq:q∈js):knS kn js q.1=some q.2:=by
 unfold knS
 induction js with
 | nil=>cases hq
 | cons p js ih=>
  rw[c5,ln]at nd
  rcases bq.mp hq with rfl|h
  .simp
  .have hne:(p.1==q.1)=false:=beq_false_of_ne λz=>nd.1 (z▸bi.mpr ⟨q,h,rfl⟩)
   rw[ix,hne]
   exact ih nd.2 h
theorem alx{M:Mat}{kn:Kn}{js:List (Nat×Nat)}{i:Nat}(nd:(js.map (·.1)).Nodup)(h:tch M (knS kn js) i=true):tch M kn i=true:=by
 obtain⟨j,hj,e⟩:=gz.mp h
 refine gz.mpr ⟨j,hj,?_⟩
 by_cases hm:j∈js.map (·.1)
 .obtain⟨q,hq,rfl⟩:=bi.mp hm
  rw[wg nd hq]at e
  cases e
 .rw[rn hm]at e
  exact e
structure Dcd(M:Mat)(kn:Kn)(js:List (Nat×Nat)):Prop where
 nd:(js.map (·.1)).Nodup
 lt:∀q∈js,q.1<(ocn M).length/\q.2<128/\q.2≠63
 un:∀q∈js,kn q.1=none
theorem Dcd.sgn{M:Mat}{kn:Kn}{js:List (Nat×Nat)}(h:Dcd M kn js)(s:Sgn kn):Sgn (knS kn js):=λi c e=>by
 by_cases hm:i∈js.map (·.1)
 .obtain⟨q,hq,rfl⟩:=bi.mp hm
  rw[wg h.nd hq]at e
  cases e
  exact(h.lt q hq).2
 .rw[rn hm]at e
  exact s i c e
def prc(M:Mat)(js:List (Nat×Nat))(i:Nat):Prop:=∃q∈js,i=q.1\/i∈nb M q.1
theorem ak7{M:Mat}{kn:Kn}{js:List (Nat×Nat)}(h:Dcd M kn js){i c:Nat}(hi:i<(ocn M).length)(e:knS kn js i=some c)(t:tch M (knS kn js) i=true):(agc (mkL M kn) js)[i]?=some c:=by
 by_cases hm:i∈js.map (·.1)
 .obtain⟨q,hq,rfl⟩:=bi.mp hm
  rw[wg h.nd hq]at e
  rw[ajh h.nd hq (by rw[qy];exact hi)]
  exact e
 .rw[rn hm]at e
  rw[ye hm,vx hi]
  unfold mk1
  rw[e]
  dsimp only
  rw[if_pos (alx h.nd t)]
theorem ar9{M:Mat}{kn:Kn}{js:List (Nat×Nat)}(h:Dcd M kn js){i:Nat}(hi:i<(ocn M).length)(hp:¬prc M js i):(agc (mkL M kn) js)[i]?=some (mk1 M (knS kn js) i):=by
 have hm:i∉js.map (·.1):=λz=>by
  obtain⟨q,hq,e⟩:=bi.mp z
  exact hp ⟨q,hq,.inl e.symm⟩
 have ht:tch M (knS kn js) i=tch M kn i:=by
  have key:∀j∈nb M i,knS kn js j=kn j:=λj hj=>rn λz=>by
   obtain⟨q,hq,rfl⟩:=bi.mp z
   exact hp ⟨q,hq,.inr (ar2 hj)⟩
  unfold tch
  rw[ig,gz,gz]
  exact⟨λ⟨j,hj,e⟩=>⟨j,hj,by rw[<-key j hj];exact e⟩,λ⟨j,hj,e⟩=>⟨j,hj,by rw[key j hj];exact e⟩⟩
 rw[ye hm,vx hi]
 unfold mk1
 rw[rn hm,ht]
theorem av3{M:Mat}{kn:Kn}{js:List (Nat×Nat)}(h:Dcd M kn js)(s:Sgn kn){i:Nat}(hi:i<(ocn M).length):(agc (mkL M kn) js)[i]?=some 63↔knS kn js i=none:=by
 by_cases hm:i∈js.map (·.1)
 .obtain⟨q,hq,rfl⟩:=bi.mp hm
  rw[wg h.nd hq,ajh h.nd hq (by rw[qy];exact hi)]
  have:=(h.lt q hq).2.2
  simp[this]
 .rw[rn hm,ye hm,vx hi,<-zc (M:=M) s i]
  simp
def Half(M:Mat)(kn:Kn)(js:List (Nat×Nat))(Pr:Nat->Prop)(cs:List Nat):Prop:=cs.length=(ocn M).length/\∀i,i<(ocn M).length->(Pr i->cs[i]?=some (mk1 M (knS kn js) i))/\(¬Pr i->cs[i]?=(agc (mkL M kn) js)[i]?)
theorem Half.congr{M:Mat}{kn:Kn}{js:List (Nat×Nat)}{Pr Pr':Nat->Prop}{cs:List Nat}(h:Half M kn js Pr cs)(e:∀i,Pr i↔Pr' i):Half M kn js Pr' cs:=⟨h.1,λi hi=>⟨λp=>(h.2 i hi).1 ((e i).mpr p),λp=>(h.2 i hi).2 λz=>p ((e i).mp z)⟩⟩
theorem Half.q{M:Mat}{kn:Kn}{js:List (Nat×Nat)}{Pr:Nat->Prop}{cs:List Nat}(h:Half M kn js Pr cs)(d:Dcd M kn js)(s:Sgn kn){i:Nat}(hi:i<(ocn M).length):cs[i]?=some 63↔knS kn js i=none:=by
 by_cases hp:Pr i
 .rw[(h.2 i hi).1 hp,<-zc (M:=M) (d.sgn s) i]
  simp
 .rw[(h.2 i hi).2 hp]
  exact av3 d s hi
theorem Half.done{M:Mat}{kn:Kn}{js:List (Nat×Nat)}{Pr:Nat->Prop}{cs:List Nat}(h:Half M kn js Pr cs)(d:Dcd M kn js)(hp:∀i,prc M js i->Pr i):cs=mkL M (knS kn js):=by
 apply j4
 intro i
 by_cases hi:i<(ocn M).length
 .rw[vx hi]
  by_cases h1:Pr i
  .exact(h.2 i hi).1 h1
  .rw[(h.2 i hi).2 h1]
   exact ar9 d hi λz=>h1 (hp i z)
 .rw[fc (by rw[h.1];omega),fc (by rw[qy];omega)]
theorem Half.put{M:Mat}{kn:Kn}{js:List (Nat×Nat)}{Pr Pr':Nat->Prop}{cs:List Nat}{k:Nat}(h:Half M kn js Pr cs)(d:Dcd M kn js)(s:Sgn kn)(hk:k<(ocn M).length)(hP:∀i,Pr' i↔Pr i\/i=k)(hc:cs[k]?≠some 63)(ht:tch M (knS kn js) k=false):Half M kn js Pr' (cs.set k 45):=by
 refine⟨by rw[List.length_set];exact h.1,λi hi=>⟨λhp=>?_,λhp=>?_⟩⟩
 .rw[List.getElem?_set]
  by_cases e:k=i
  .subst e
   rw[if_pos rfl,if_pos (by rw[h.1];exact hk)]
   unfold mk1
   cases z:knS kn js k with
   | none=>exact absurd ((h.q d s hk).mpr z) hc
   | some c=>dsimp only;rw[if_neg (by rw[ht];decide)]
  .rw[if_neg e]
   rcases(hP i).mp hp with a|a
   .exact(h.2 i hi).1 a
   .exact absurd a.symm e
 .have hn:=mt (hP i).mpr hp
  rw[List.getElem?_set,if_neg λz=>hn (.inr z.symm)]
  exact(h.2 i hi).2 λz=>hn (.inl z)
theorem Half.stay{M:Mat}{kn:Kn}{js:List (Nat×Nat)}{Pr Pr':Nat->Prop}{cs:List Nat}{k:Nat}(h:Half M kn js Pr cs)(d:Dcd M kn js)(s:Sgn kn)(hk:k<(ocn M).length)(hP:∀i,Pr' i↔Pr i\/i=k)(hc:cs[k]?=some 63\/tch M (knS kn js) k=true):Half M kn js Pr' cs:=by
 refine⟨h.1,λi hi=>⟨λhp=>?_,λhp=>(h.2 i hi).2 λz=>hp ((hP i).mpr (.inl z))⟩⟩
 rcases(hP i).mp hp with a|rfl
 .exact(h.2 i hi).1 a
 .by_cases hpr:Pr i
  .exact(h.2 i hi).1 hpr
  .cases z:knS kn js i with
   | none=>
    rw[(h.q d s hk).mpr z]
    unfold mk1
    rw[z]
   | some c=>
    have ht:tch M (knS kn js) i=true:=hc.resolve_left λe=>by rw[(h.q d s hk).mp e]at z;cases z
    rw[(h.2 i hi).2 hpr,ak7 d hk z ht]
    unfold mk1
    rw[z]
    dsimp only
    rw[if_pos ht]
theorem abx{M:Mat}{oc:List Nat}{xs:List KA}(h:PlX M oc xs){r c:Int}{v:V}(hv:v∈wj xs r c):∃j:Nat,v=.int (j:Nat)/\j<oc.length:=by
 obtain⟨p,_,hp⟩:=List.mem_filterMap.mp hv
 unfold r8 at hp
 obtain⟨y,hy,rfl⟩:=bv.mp hp
 obtain⟨j,hj⟩:=cn (List.mem_of_find?_eq_some hy)
 have hjl:=(ae.mp hj).1
 have hlen:=h.1
 obtain⟨a,ha⟩:=h.2 j _ (ab (by omega))
 rw[hj]at ha
 cases ha
 exact⟨j,rfl,by omega⟩
theorem ab4(xs:List KA)(r c:Int):(wj xs r c).length<=4:=db (List.length_filterMap_le _ _) (am 4)
noncomputable def fB(cs:List Nat):V->Bool
 | .int j=>decide (cs[j.toNat]?=some 63)
 | _=>false
set_option pp.maxSteps 3000
section
variable{P:Program}{w:World}{K:ai}{mg:Str->Option Value}{base:Heap}{f:Addr}{fd:FuncData}{C:Addr}
def asm(w:World)(C:Addr):Sp:=λvs H Q _=>∃(g dx kr e D nl sl:Addr)(M:Mat)(xs:List KA)(ep:Nat)(nvs:List V)(cs:List Nat)(i:Nat),vs=[.ref g,.ref sl,.int (i:Nat)]/\H g=some (.ins C dx (fsG kr e D nl))/\GrF w H D nl M xs ep nvs/\H sl=some (.lst (cs.map chV))/\cs.length=(oix M (M.h*M.w)).length/\i<cs.length/\0<M.w/\∀(t:Bool)(H':Hp),Same H H'->(t=true↔∃j∈nb M i,cs[j]?=some 63)->Q (.bl t) H'
theorem av2:mx ["ground","signs","place"] ["ground","signs","place"] (mj avy):={}
theorem aqw(B:∀x∈tj,mg x=none)(gU:GS mg "UNDECIDED" "?")(cG:ClG K C)(F:Fun K "touches_undecided" "touches_undecided" avy f fd):qe P w K mg base CX0 1 f fd ["ground","signs","place"] (asm w C):=by
 refine F.ok (k:=0) av2 (λvs H Q E h=>?_) (λcdv A outer s H vs Q E hr h=>?_)
 .obtain⟨_,_,_,_,_,_,_,_,_,_,_,_,_,rfl,_⟩:=h
  rfl
 obtain⟨g,dx,kr,e,D,nl,sl,M,xs,ep,nvs,cs,i,rfl,hg,hG,hsl,hcs,hi,hw,q⟩:=h
 obtain⟨a,ha,hal⟩:=hG.nr i _ (ab (by omega))
 refine⟨_,(ma (my (p8 (xw rfl) rfl (B "any" (by decide)) boot_any (mf (oq ["other","signs"] [none,some 1] rfl rfl (by decide +kernel) (by decide +kernel) rfl rfl (n0 (ng o9 (xm (pv 0) rfl) (pv 2) (λ_ _=>rfl))) (λ_=>(mh (i:=0) (show(["other","signs"]:List PySem.Str).Nodup by decide +kernel) rfl (Or.inl rfl))) (λ_=>o8) (λ_=>(qz zh (ng al3 (pv 1) (pv 0) (λ_ _=>rfl)) (qf gU rfl) (oz _)))) lv)))),?_⟩
 refine(me _ rfl g C dx _ ⟨_,rfl,hg,cG.cl,cG.n4,rfl,(me _ rfl nl nvs _ _ ⟨rfl,rfl,SqL.of hG.nl,mm ha,a,rfl,⟨_,SqL.of hal⟩,λL hL=>?_⟩)⟩)
 have hn4:=ab4 xs (((oix M (M.h*M.w))[i]'(by omega)/M.w:Nat):Int) (((oix M (M.h*M.w))[i]'(by omega) % M.w:Nat):Int)
 have hnI:∀v∈wj xs (((oix M (M.h*M.w))[i]'(by omega)/M.w:Nat):Int) (((oix M (M.h*M.w))[i]'(by omega) % M.w:Nat):Int),_:=λv hv=>abx hG.px hv
 have hnb:=af8 hw hG.px (ab (show i<(oix M (M.h*M.w)).length by omega))
 generalize wj xs _ _=nr at *
 refine ny (xs:=nr) (λi zs G=>Same H G/\zs=((nr.take i).map (fB cs)).map V.bl) ⟨Same.fresh _ hL,rfl⟩ (λi zs G p=>SqL.of (p.1 _ _ hal)) (λi x zs G hx hi hDy hzl p=>?_) (λzs G hDy hzl p=>?_)
 .obtain⟨p1,rfl⟩:=p
  obtain⟨j,rfl,hj⟩:=hnI x (aq hx)
  refine⟨Agree.set (Agree.refl _) rfl,?_⟩
  dsimp only[yb]
  refine si ?_
  refine(mq _ rfl _ rfl sl _ _ ⟨chV (cs[j]'(by omega)),rfl,rfl,SqL.of (p1 _ _ hsl),mm (by rw[aw,ab (by omega)];rfl),rfl,?_⟩)
  have eb:decide (chV (cs[j]'(by omega))=V.str (ba "?"))=fB cs (.int (j:Nat)):=by
   show _=decide (cs[(Int.ofNat j).toNat]?=some 63)
   rw[eU]
   show _=decide (cs[j]?=some 63)
   rw[ab (by omega)]
   exact decide_eq_decide.mpr ⟨λh=>by rw[ch_inj.mp h],λh=>by rw[cm h];rfl⟩
  rw[eb]
  refine pi (by omega) hDy hzl ⟨p1.new hL,?_⟩
  rw[nw (fB cs) hx,br]
  rfl
 .obtain⟨p1,rfl⟩:=p
  rw[k6]at hDy
  refine(mw L _ ⟨rfl,hDy,q _ G p1 ?_⟩)
  rw[List.any_map,gz]
  constructor
  .rintro⟨v,hv,e⟩
   obtain⟨j,rfl,_⟩:=hnI v hv
   exact⟨j,(hnb j).mp hv,of_decide_eq_true e⟩
  .rintro⟨j,hj,e⟩
   exact⟨_,(hnb j).mpr hj,decide_eq_true e⟩
def att(w:World)(C:Addr):Sp:=λvs H Q _=>∃(g dx kr e D nl:Addr)(M:Mat)(xs:List KA)(ep:Nat)(nvs avs:List V)(ads:List PyData)(z:Str)(i k:Nat),vs=[.ref g,.str z,.int (i:Nat),chV k]/\k<128/\H g=some (.ins C dx (fsG kr e D nl))/\GrF w H D nl M xs ep nvs/\H e=some (.tup avs)/\RepAll H ads avs/\z.cps.toList.length=(oix M (M.h*M.w)).length/\(∀c∈z.cps.toList,c<128)/\z.length<=sizeLine/\i<(oix M (M.h*M.w)).length/\∀(t:Bool)(H':Hp),Same H H'->Q (.bl t) H'
theorem au5:mx ["ground","marks","place","sign"] ["ground","marks","place","sign"] (mj avo):={}
theorem arn(B:∀x∈tj,mg x=none)(cG:ClG K C)(Fkap:Fn P w K mg base "is_kept_apart" 1 ["apart","sign","other"] as8)(F:Fun K "is_barred" "is_barred" avo f fd):qe P w K mg base CX0 2 f fd ["ground","marks","place","sign"] (att w C):=by
 refine F.ok (k:=1) au5 (λvs H Q E h=>?_) (λcdv A outer s H vs Q E hr h=>?_)
 .obtain⟨_,_,_,_,_,_,_,_,_,_,_,_,_,_,_,rfl,_⟩:=h
  rfl
 obtain⟨g,dx,kr,e,D,nl,M,xs,ep,nvs,avs,ads,z,i,k,rfl,hk,hg,hG,he,rep,hzl,hz8,hzs,hi,q⟩:=h
 obtain⟨a,ha,hal⟩:=hG.nr i _ (ab (by omega))
 refine⟨_,(ma (my (p8 (xw rfl) rfl (B "any" (by decide)) boot_any (mf (oq ["other","ground","sign","marks"] [none,some 0,some 3,some 1] rfl rfl (by decide +kernel) (by decide +kernel) rfl rfl (n0 (ng o9 (xm (pv 0) rfl) (pv 2) (λ_ _=>rfl))) (λ_=>(mh (i:=0) (show(["other","ground","sign","marks"]:List PySem.Str).Nodup by decide +kernel) rfl (Or.inl rfl))) (λ_=>o8) (λ_=>(nh Fkap hr (by decide) rfl (mf (afc (pv 1) rfl) (mf (pv 2) (mf (ng xk (pv 3) (pv 0) (λ_ _=>rfl)) lv)))))) lv)))),?_⟩
 refine(me _ rfl g C dx _ ⟨_,rfl,hg,cG.cl,cG.n4,rfl,(me _ rfl nl nvs _ _ ⟨rfl,rfl,SqL.of hG.nl,mm ha,a,rfl,⟨_,SqL.of hal⟩,λL hL=>?_⟩)⟩)
 have hn4:=ab4 xs (((oix M (M.h*M.w))[i]'(by omega)/M.w:Nat):Int) (((oix M (M.h*M.w))[i]'(by omega) % M.w:Nat):Int)
 have hnI:∀v∈wj xs (((oix M (M.h*M.w))[i]'(by omega)/M.w:Nat):Int) (((oix M (M.h*M.w))[i]'(by omega) % M.w:Nat):Int),_:=λv hv=>abx hG.px hv
 generalize wj xs (((oix M (M.h*M.w))[i]'(by omega)/M.w:Nat):Int) (((oix M (M.h*M.w))[i]'(by omega) % M.w:Nat):Int)=nr at *
 refine ny (xs:=nr) (λi zs G=>Same H G/\∃bs:List Bool,zs=bs.map V.bl) ⟨Same.fresh _ hL,[],rfl⟩ (λi zs G p=>SqL.of (p.1 _ _ hal)) (λi x zs G hx hi hDy hzl' p=>?_) (λzs G hDy hzl' p=>?_)
 .obtain⟨p1,bs,rfl⟩:=p
  obtain⟨j,rfl,hj⟩:=hnI x (aq hx)
  have hjz:j<z.cps.toList.length:=by omega
  refine⟨Agree.set (Agree.refl _) rfl,?_⟩
  dsimp only[yb]
  refine si ?_
  refine(me _ rfl g C dx _ ⟨_,rfl,p1 _ _ hg,cG.cl,cG.n2,rfl,(og _ rfl _ rfl _ rfl z _ ⟨_,rfl,rfl,hzs,mm (ab hjz),?_⟩)⟩)
  refine(l9 e k _ avs ads ⟨rfl,hk,hz8 _ (dv hjz),p1 _ _ he,rep.same p1,λt G2 s2=>?_⟩)
  exact pi (by omega) (s2 _ _ hDy) hzl' ⟨(p1.trans s2).new hL,bs++[t],by rw[br];rfl⟩
 .obtain⟨p1,bs,rfl⟩:=p
  exact(mw L bs ⟨rfl,hDy,q _ G p1⟩)
end
theorem GrF.same{w:World}{H H':Hp}{D nl:Addr}{M:Mat}{xs:List KA}{ep:Nat}{nvs:List V}(h:GrF w H D nl M xs ep nvs)(s:Same H H'):GrF w H' D nl M xs ep nvs:=⟨h.dn.same s,h.px,s _ _ h.nl,h.nn,λi k hk=>by
 obtain⟨a,h1,h2⟩:=h.nr i k hk
 exact⟨a,h1,s _ _ h2⟩⟩
def StH(H:Hp)(s:Addr)(z:Str)(us:List Int):Prop:=∃u,H s=some (.tup [.str z,.ref u])/\H u=some (.tup (us.map V.int))
theorem StH.same{H H':Hp}{s:Addr}{z:Str}{us:List Int}(h:StH H s z us)(k:Same H H'):StH H' s z us:=by
 obtain⟨u,h1,h2⟩:=h
 exact⟨u,k _ _ h1,k _ _ h2⟩
structure MkF(M:Mat)(z:Str):Prop where
 len:z.cps.toList.length=(oix M (M.h*M.w)).length
 asc:∀c∈z.cps.toList,c<128
 few:z.length<=sizeLine
def OpV(H:Hp)(M:Mat)(nk:Nat)(v:V)(o:Option (List Sg×Nat)):Prop:=match o with
 | none=>v=.non
 | some q=>∃p,v=.ref p/\Rep H (plD q.1 (q.2:Nat)) (.ref p)/\(∀s∈q.1,OpS M s/\s.2.2<128)/\q.1.length<=6/\q.2<nk
def Und(M:Mat)(z:Str)(o:Option (List Sg×Nat)):Prop:=∀q,o=some q->∀s∈q.1,z.cps.toList[cix M s]?=some 63
set_option pp.maxSteps 3000
section
variable{P:Program}{w:World}{K:ai}{mg:Str->Option Value}{base:Heap}{f:Addr}{fd:FuncData}{C:Addr}
def ary(w:World)(C:Addr):Sp:=λvs H Q _=>∃(g dx kr e D nl st:Addr)(M:Mat)(xs:List KA)(ep:Nat)(nvs avs kvs:List V)(ads:List PyData)(z:Str)(us:List Int) (lms:List (Int×Option Int)) (v:V) (o:Option (List Sg×Nat)),vs=[.ref g,.ref st,v]/\H g=some (.ins C dx (fsG kr e D nl))/\GrF w H D nl M xs ep nvs/\0<M.w/\H e=some (.tup avs)/\RepAll H ads avs/\H kr=some (.tup kvs)/\BndK H kvs lms/\StH H st z us/\us.length=lms.length/\MkF M z/\OpV H M lms.length v o/\
 ∀(t:Bool)(H':Hp),Same H H'->(t=true->Und M z o)->Q (.bl t) H'
theorem scGoe:mx ["ground","state","option","most","taken"] ["ground","state","option"] (mj aty):={}
theorem atc(B:∀x∈tj,mg x=none)(gU:GS mg "UNDECIDED" "?")(cG:ClG K C)(Fcov:Fn P w K mg base "covers" 1 ["ground","placement"] (an8 w C))(Fisb:Fn P w K mg base "is_barred" 2 ["ground","marks","place","sign"] (att w C))(F:Fun K "goes" "goes" aty f fd):qe P w K mg base CX0 3 f fd ["ground","state","option"] (ary w C):=by
 refine F.ok (k:=2) scGoe (λvs H Q E h=>?_) (λcdv A outer s H vs Q E hr h=>?_)
 .obtain⟨_,_,_,_,_,_,_,_,_,_,_,_,_,_,_,_,_,_,_,rfl,_⟩:=h
  rfl
 obtain⟨g,dx,kr,e,D,nl,st,M,xs,ep,nvs,avs,kvs,ads,z,us,lms,v,o,rfl,hg,hG,hw,he,repA,hkr,hK,hst,hus,hmk,hop,q⟩:=h
 refine⟨_,(lw (qp (oo acq (pv 2) sr (oz _)) (ma (my ae1)) o7)
  (lw (nc (i:=3) scGoe.nd rfl (Or.inl rfl) (ng nu (ng nu (xm (pv 0) rfl) (ng nu (pv 2) l7 (λ_ _=>rfl)) (λ_ _=>rfl)) l7 (λ_ _=>rfl)))
  (lw (qp (PW.pt (zm (oo ai0 (pv 3) sr (oz _)) (vi (oo ar5 (ng nu (ng nu (pv 1) l7 (λ_ _=>rfl)) (ng nu (pv 2) l7 (λ_ _=>rfl)) (λ_ _=>rfl)) (pv 3) (oz _))))) (ma (my ae1)) o7)
  (lw (nc (i:=4) scGoe.nd rfl (Or.inl rfl) (nh Fcov hr (by decide) rfl (mf (pv 0) (mf (pv 2) lv))))
  (lw (qp (su (p8 (xw rfl) rfl (B "any" (by decide)) boot_any (mf (oq ["place","sign","state"] [none,none,some 1] rfl rfl (by decide +kernel) (by decide +kernel) rfl rfl (n0 (pv 4)) (λ_=>(qv (n:=2) rfl (mn (mh (i:=0) (show(["place","sign","state"]:List PySem.Str).Nodup by decide +kernel) rfl (Or.inl rfl)) (mn (mh (i:=1) (show(["place","sign","state"]:List PySem.Str).Nodup by decide +kernel) rfl (Or.inl rfl)) o0)))) (λ_=>o8) (λ_=>(qz afh (ng xk (ng u9 (pv 2) l7 (λ_ _=>rfl)) (pv 0) (λ_ _=>rfl)) (qf gU rfl) (oz _)))) lv))) (ma (my ae1)) o7)
  (ma (my (anl (p8 (xw rfl) rfl (B "any" (by decide)) boot_any (mf (oq ["place","sign","ground","state"] [none,none,some 0,some 1] rfl rfl (by decide +kernel) (by decide +kernel) rfl rfl (n0 (pv 4)) (λ_=>(qv (n:=2) rfl (mn (mh (i:=0) (show(["place","sign","ground","state"]:List PySem.Str).Nodup by decide +kernel) rfl (Or.inl rfl)) (mn (mh (i:=1) (show(["place","sign","ground","state"]:List PySem.Str).Nodup by decide +kernel) rfl (Or.inl rfl)) o0)))) (λ_=>o8) (λ_=>(nh Fisb hr (by decide) rfl (mf (pv 2) (mf (ng u9 (pv 3) l7 (λ_ _=>rfl)) (mf (pv 0) (mf (pv 1) lv))))))) lv)))))))))),?_⟩
 cases o with
 | none=>
  cases (show v=V.non from hop)
  refine(oe _ rfl rfl _ ⟨rfl,si ?_⟩)
  exact q true H (Same.refl _) λ_ q hq=>by cases hq
 | some od=>
  obtain⟨ss,n⟩:=od
  obtain⟨p,rfl,hp,hss,h6,hn⟩:=hop
  have h6:ss.length<=6:=h6
  have hn:n<lms.length:=hn
  obtain⟨pp,pxs,hpp,hpx,y0,t0,rfl,r0,y1,t1,rfl,e1,rfl⟩:=id hp
  cases hpp
  cases (show y1=_ from e1)
  obtain⟨u,hs1,hu1⟩:=id hst
  obtain⟨lk,l6,hKs⟩:=id hK
  obtain⟨lm,hlm⟩:∃lm,lms[n]?=some lm:=⟨_,ab hn⟩
  obtain⟨kv,hkv⟩:∃kv,kvs[n]?=some kv:=⟨_,ab (by omega)⟩
  obtain⟨b,u0,u3,u4,rfl,hb⟩:=hKs n kv lm hkv hlm
  have hun:n<us.length:=by omega
  refine(oe _ rfl rfl _ ⟨rfl,xt ?_⟩)
  refine(me _ rfl g C dx _ ⟨_,rfl,hg,cG.cl,cG.n1,rfl,(me _ rfl p _ _ _ ⟨rfl,rfl,SqT.of hpx,mm (j:=1) rfl,(m8 kr _ _ _ ⟨rfl,rfl,SqT.of hkr,mm (j:=n) hkv,(m8 b _ _ _ ⟨rfl,rfl,SqT.of hb,mm (j:=2) rfl,?_⟩)⟩)⟩)⟩)
  refine(oe _ rfl rfl _ ⟨rfl,?_⟩)
  obtain⟨le,mo⟩:=lm
  obtain _|m:=mo
  case' none=>refine xt (xt ?_)
  case' some=>
   refine si ?_
   refine(me _ rfl st _ _ _ ⟨rfl,rfl,SqT.of hs1,mm (j:=1) rfl,(me _ rfl p _ _ _ ⟨rfl,rfl,SqT.of hpx,mm (j:=1) rfl,(m8 u _ _ (.int (us[n]'hun)) ⟨rfl,rfl,SqT.of hu1,mm (by rw[aw,ab hun];rfl),(n8 _ rfl _ _ rfl rfl _ ⟨rfl,u8 (λ_=>?gx) (λ_=>?gb)⟩)⟩)⟩)⟩)
   case gx=>exact q false H (Same.refl _) λz=>by cases z
  all_goals
   refine(mq _ rfl _ rfl g dx kr (l9 e D nl p M (l9 xs ep nvs ss (n:Nat) ⟨rfl,hg,hG,hw,hp,hss,h6,λtk tys H1 s1 htk0 htk repT=>?_⟩)))
   have lt:=repT.length
   rw[ah]at lt
   have tat:∀{i:Nat} {x:V} {G:Hp},tys[i]?=some x->Same H1 G->∃(s:Sg)(a:Addr),ss[i]?=some s/\x=.ref a/\G a=some (.tup [.int (cix M s:Nat),.str ⟨#[s.2.2]⟩]):=λhx sm=>by
    obtain⟨d,hd,rd⟩:=repT.at hx
    rw[aw]at hd
    obtain⟨s,hs,rfl⟩:=bv.mp hd
    obtain⟨a,ys,rfl,ha,z1,r1,rfl,h1,z2,r2,rfl,h2,rfl⟩:=rd
    cases (show z1=_ from h1)
    cases (show z2=_ from h2.1)
    exact(mw s a ⟨hs,rfl,sm _ _ ha⟩)
   refine(pk _ rfl tk ⟨rfl,⟨_,SqL.of htk⟩,λL hL=>?_⟩)
   refine ny (xs:=tys) (λi zs G=>Same H1 G/\zs=((ss.take i).map λs=>!decide (z.cps.toList[cix M s]?=some 63)).map V.bl) ⟨Same.fresh _ hL,rfl⟩ (λi zs G p=>SqL.of (p.1 _ _ htk)) (λi x zs G hx hi hDy hzl pp=>?_) (λzs G hDy hzl pp=>?_)
   .obtain⟨p1,rfl⟩:=pp
    obtain⟨s,a,hs,rfl,ha⟩:=tat hx p1
    have ho:=(hss s (aq hs)).1
    have hcl:cix M s<z.cps.toList.length:=by rw[hmk.len];exact(ae.mp (xg ho)).1
    refine(m9 a _ rfl (SqT.of ha) rfl _ _ rfl _ ⟨_,rfl,rfl,?_⟩)
    refine⟨Agree.set (Agree.set (Agree.refl _) rfl) rfl,?_⟩
    dsimp only[yb]
    refine si ?_
    refine(me _ rfl st _ _ _ ⟨rfl,rfl,SqT.of ((s1.trans p1) _ _ hs1),mm (j:=0) rfl,(om _ rfl z _ (z.cps.toList[cix M s]) ⟨rfl,rfl,hmk.few,mm (ab hcl),rfl,?_⟩)⟩)
    have eb:(!decide (V.str ⟨#[z.cps.toList[cix M s]]⟩=V.str (ba "?"))) = !decide (z.cps.toList[cix M s]?=some 63):=by
     rw[eU,ab hcl]
     congr 1
     exact decide_eq_decide.mpr ⟨λh=>by rw[ch_inj.mp h],λh=>by rw[cm h]⟩
    rw[eb]
    refine pi (by omega) hDy hzl ⟨p1.new hL,?_⟩
    rw[nw (λs=>!decide (z.cps.toList[cix M s]?=some 63)) hs,br]
    rfl
   obtain⟨p1,rfl⟩:=pp
   rw[a9 (by omega)]at hDy
   refine(mw L _ ⟨rfl,hDy,_,rfl,?_⟩)
   refine u8 (λhany=>?_) (λhany=>?_)
   .exact q false G (s1.trans p1) λz=>by cases z
   have hund:Und M z (some (ss,n)):=λq' hq s hs=>by
    cases hq
    refine f8 λhno=>hany ?_
    rw[List.any_map]
    exact gz.mpr ⟨s,hs,by show(!decide _)=true;rw[decide_eq_false hno];rfl⟩
   have sG:=s1.trans p1
   refine(pk _ rfl tk ⟨rfl,⟨_,SqL.of (p1 _ _ htk)⟩,λL2 hL2=>?_⟩)
   refine ny (xs:=tys) (λi zs J=>Same G J/\∃bs:List Bool,zs=bs.map V.bl) ⟨Same.fresh _ hL2,[],rfl⟩ (λi zs J p=>SqL.of (p.1 _ _ (p1 _ _ htk))) (λi x zs J hx hi hDz hzl2 pp=>?_) (λzs J hDz hzl2 pp=>?_)
   .obtain⟨p2,bs,rfl⟩:=pp
    obtain⟨s,a,hs,rfl,ha⟩:=tat hx (p1.trans p2)
    obtain⟨ho,hk⟩:=hss s (aq hs)
    have hci:=(ae.mp (xg ho)).1
    have sJ:=sG.trans p2
    refine(m9 a _ rfl (SqT.of ha) rfl _ _ rfl _ ⟨_,rfl,rfl,?_⟩)
    refine⟨Agree.set (Agree.set (Agree.refl _) rfl) rfl,?_⟩
    dsimp only[yb]
    refine si ?_
    refine(mq _ rfl _ rfl st _ _ ⟨_,rfl,rfl,SqT.of (sJ _ _ hs1),mm (j:=0) rfl,(mq _ rfl _ rfl g dx kr (l9 e D nl M xs (l9 ep nvs avs ads z (mw (cix M s) s.2.2 ⟨rfl,hk,sJ _ _ hg,hG.same sJ,sJ _ _ he,repA.same sJ,hmk.len,hmk.asc,hmk.few,hci,λt J2 s2=>?_⟩))))⟩)
    exact pi (by omega) (s2 _ _ hDz) hzl2 ⟨(p2.trans s2).new hL2,bs++[t],by rw[br];rfl⟩
   .obtain⟨p2,bs,rfl⟩:=pp
    exact(mw L2 bs ⟨rfl,hDz,_,rfl,q _ J (sG.trans p2) λ_=>hund⟩)
end
theorem al4{xs:List V}{k:Nat}(hk:k<=xs.length):ac4 xs (some (k:Int)) none=xs.drop k:=by
 unfold ac4
 rw[HT.sIx_none,HT.sIx_nat,show min k xs.length=k by omega,a9 (by rw[gk];exact am _)]
theorem am4{xs:List V}{k:Nat}(hk:k<=xs.length):ac4 xs none (some (k:Int))=xs.take k:=by
 unfold ac4
 rw[HT.sIx_none,HT.sIx_nat,show min k xs.length=k by omega]
 simp
theorem ac9(l:List Nat):Txt.join (ba "") (l.map λc=>(⟨#[c]⟩:Str))=⟨l.toArray⟩:=by
 have e:=adp (g:=ba "") (by decide +kernel) (l.map λc=>(⟨#[c]⟩:Str))
 have e2:((l.map λc=>(⟨#[c]⟩:Str)).map λp=>p.cps.toList).flatten=l:=by
  clear e
  rw[cq]
  induction l with
  | nil=>rfl
  | cons a t ih=>rw[c5,List.flatten_cons];exact congrArg (a :: ·) ih
 rw[e2]at e
 have e3:(Txt.join (ba "") (l.map λc=>(⟨#[c]⟩:Str))).cps=l.toArray:=Array.toList_inj.mp (by rw[e])
 calc Txt.join (ba "") (l.map λc=>(⟨#[c]⟩:Str))=⟨(Txt.join (ba "") (l.map λc=>(⟨#[c]⟩:Str))).cps⟩:=rfl
  _=⟨l.toArray⟩:=by rw[e3]
theorem abn{n j:Nat}(h:j<n):ixN n (j:Int)=some j:=by
 unfold ixN
 rw[if_pos (by omega),if_pos (by omega)]
 simp
set_option pp.maxSteps 3000
section
variable{P:Program}{w:World}{K:ai}{mg:Str->Option Value}{base:Heap}{f:Addr}{fd:FuncData}{C:Addr}
def aql:Sp:=λvs H Q _=>∃(kr u:Addr)(kvs:List V) (lms:List (Int×Option Int)) (us:List Int) (n:Nat),vs=[.ref kr,.ref u,.int (n:Nat)]/\H kr=some (.tup kvs)/\BndK H kvs lms/\H u=some (.tup (us.map V.int))/\us.length=lms.length/\n<us.length/\
 ∀(r:Addr)(lm:Int×Option Int)(x:Int)(H':Hp),Same H H'->lms[n]?=some lm->us[n]?=some x->H' r=some (.tup ((us.set n (wb lm.1 lm.2 (x+1))).map V.int))->Q (.ref r) H'
theorem auk:mx ["kinds","used","number"] ["kinds","used","number"] (mj awb):={}
theorem arp(Fuof:Fn P w K mg base "used_of" 1 ["kind","laid"] aok)(F:Fun K "used_behind" "used_behind" awb f fd):qe P w K mg base CX0 2 f fd ["kinds","used","number"] aql:=by
 refine F.ok (k:=1) auk (λvs H Q E h=>?_) (λcdv A outer s H vs Q E hr h=>?_)
 .obtain⟨_,_,_,_,_,_,rfl,_⟩:=h
  rfl
 obtain⟨kr,u,kvs,lms,us,n,rfl,hkr,hK,hu1,hus,hn,q⟩:=h
 obtain⟨lk,l6,hKs⟩:=id hK
 obtain⟨lm,hlm⟩:∃lm,lms[n]?=some lm:=⟨_,ab (by omega)⟩
 obtain⟨kv,hkv⟩:∃kv,kvs[n]?=some kv:=⟨_,ab (by omega)⟩
 obtain⟨x,hx⟩:∃x,us[n]?=some x:=⟨_,ab hn⟩
 obtain⟨b,u0,u3,u4,rfl,hb⟩:=hKs n kv lm hkv hlm
 refine⟨_,(ma (my (ow aio (ow aio (wk ae0 (pv 1) ab1 (wx (pv 2))) (ni (mf (nh Fuof hr (by decide) rfl (mf (ng nu (pv 0) (pv 2) (λ_ _=>rfl)) (mf (ow qg (ng nu (pv 1) (pv 2) (λ_ _=>rfl)) l7) lv))) lv))) (wk ae0 (pv 1) (wx (ow qg (pv 2) l7)) ab1)))),?_⟩
 refine(og _ rfl _ rfl _ rfl u _ ⟨rfl,hu1,λc1 H1 s1 e1=>?_⟩)
 rw[am4 (by rw[ah];omega)]at e1
 refine(mq _ rfl _ rfl kr _ _ ⟨_,rfl,rfl,SqT.of (s1 _ _ hkr),mm (j:=n) hkv,(mq _ rfl _ rfl u _ _ (zj (.int x) rfl rfl (SqT.of (s1 _ _ hu1)) (mm (by rw[aw,hx];rfl)) _ _ ⟨rfl,rfl,(l9 b u0 u3 u4 lm.1 (mw (x+1) lm.2 ⟨rfl,s1 _ _ hb,(by show 1<=sizeLine;decide),λc2 hc2=>?_⟩))⟩))⟩)
 generalize g1:upd H1 c2 _=H2 at *
 obtain⟨s2,e2⟩:=al hc2 g1
 clear g1
 refine(m8 c1 c2 _ _ ⟨rfl,rfl,s2 _ _ e1,e2,gc (mz (by rw[b0,ah];show _+1<=1000;omega)),λc3 H3 s3 e3=>?_⟩)
 refine(sj _ rfl _ rfl _ _ rfl rfl _ ⟨rfl,(mw u _ ⟨rfl,((s1.trans s2).trans s3) _ _ hu1,λc4 H4 s4 e4=>?_⟩)⟩)
 have e4':H4 c4=some (.tup ((us.map V.int).drop (n+1))):=by
  have:=al4 (xs:=us.map V.int) (k:=n+1) (by rw[ah];omega)
  rw[<-this]
  exact e4
 refine(m8 c3 c4 _ _ ⟨rfl,rfl,s4 _ _ e3,e4',gc (mz (by rw[bu,b0,gk,ah];show _+1+_<=1000;omega)),λr H5 s5 e5=>?_⟩)
 refine q r lm x H5 ((((s1.trans s2).trans s3).trans s4).trans s5) hlm hx ?_
 rw[e5,List.set_eq_take_append_cons_drop,if_pos hn,br,c5,List.map_take,List.map_drop,bx]
 rfl
noncomputable def dcD(q:Nat×Nat):PyData:=.tuple [.int (q.1:Nat),.str ⟨#[q.2]⟩]
def asb(w:World)(C:Addr):Sp:=λvs H Q _=>∃(g dx kr e D nl dl:Addr)(M:Mat)(xs:List KA)(ep:Nat)(nvs tys:List V)(z:Str)(kn:Kn) (js:List (Nat×Nat)),vs=[.ref g,.str z,.ref dl]/\H g=some (.ins C dx (fsG kr e D nl))/\GrF w H D nl M xs ep nvs/\0<M.w/\z.cps.toList=mkL M kn/\Sgn kn/\z.length<=1000/\H dl=some (.lst tys)/\RepAll H (js.map dcD) tys/\Dcd M kn js/\js.length<=6/\
 ∀(z':Str)(H':Hp),Same H H'->z'.cps.toList=mkL M (knS kn js)->Q (.str z') H'
theorem scMkb:mx ["ground","marks","decided","signs","place","sign","other"] ["ground","marks","decided"] (mj au9):={}
theorem atk(B:∀x∈tj,mg x=none)(gU:GS mg "UNDECIDED" "?")(gDn:GS mg "DONE" "-")(cG:ClG K C)(Ftun:Fn P w K mg base "touches_undecided" 1 ["ground","signs","place"] (asm w C))(F:Fun K "marks_behind" "marks_behind" au9 f fd):qe P w K mg base CX0 2 f fd ["ground","marks","decided"] (asb w C):=by
 refine F.ok (k:=1) scMkb (λvs H Q E h=>?_) (λcdv A outer s H vs Q E hr h=>?_)
 .obtain⟨_,_,_,_,_,_,_,_,_,_,_,_,_,_,_,rfl,_⟩:=h
  rfl
 obtain⟨g,dx,kr,e,D,nl,dl,M,xs,ep,nvs,tys,z,kn,js,rfl,hg,hG,hw,hz,hkn,hz1,hdl,repT,hD,h6,q⟩:=h
 have lt:=repT.length
 rw[ah]at lt
 have hL:(mkL M kn).length=(ocn M).length:=qy M kn
 refine⟨_,(lw (nc (i:=3) scMkb.nd rfl (Or.inl rfl) (wv (ahr rfl) rfl (B "list" (by decide)) boot_list (mf (pv 1) lv)))
  (lw (p7 ci rfl (n0 (pv 2)) (rj (n:=2) rfl (mn (mh (i:=4) scMkb.nd rfl (Or.inl rfl)) (mn (mh (i:=5) scMkb.nd rfl (Or.inl rfl)) o0))) (ma (xj (pv 5) (afq (pv 3) (pv 4) yo))))
  (lw (p7 ci rfl (n0 (pv 2)) (rj (n:=2) rfl (mn (mh (i:=4) scMkb.nd rfl (Or.inl rfl)) (mn (mh (i:=5) scMkb.nd rfl (Or.inl rfl)) o0))) (ma (p7 ci rfl (n0 (ow ajg (ph (mf (pv 4) lv)) (ng o9 (xm (pv 0) rfl) (pv 4) (λ_ _=>rfl)))) (mh (i:=6) scMkb.nd rfl (Or.inl rfl)) (ma (qp (PW.pt (zm (oo afh (ng o9 (pv 3) (pv 6) (λ_ _=>rfl)) (qf gU rfl) (oz _)) (vi (ac7 (su (nh Ftun hr (by decide) rfl (mf (pv 0) (mf (pv 3) (mf (pv 6) lv))))))))) (ma (xj (qf gDn rfl) (afq (pv 3) (pv 6) yo))) o7)))))
  (ma (my (vk PySem.F.plainAttrs_str PySem.F.slot_str_join PySem.F.type_str_join aih o6 (mf (pv 3) lv))))))),?_⟩
 refine(pk _ rfl z ⟨rfl,hz1,λsl hsl=>?_⟩)
 generalize g1:upd H sl _=H1 at *
 obtain⟨s1,e1⟩:=al hsl g1
 clear g1
 have e1:H1 sl=some (.lst (z.cps.toList.map chV)):=e1
 rw[hz]at e1
 have tat:∀{i:Nat} {x:V},tys[i]?=some x->∃(q:Nat×Nat)(a:Addr),js[i]?=some q/\x=.ref a/\H a=some (.tup [.int (q.1:Nat),.str ⟨#[q.2]⟩]):=λhx=>by
  obtain⟨d,hd,rd⟩:=repT.at hx
  rw[aw]at hd
  obtain⟨s,hs,rfl⟩:=bv.mp hd
  obtain⟨a,ys,rfl,ha,z1,r1,rfl,h1,z2,r2,rfl,h2,rfl⟩:=rd
  cases (show z1=_ from h1)
  cases (show z2=_ from h2.1)
  exact(mw s a ⟨hs,rfl,ha⟩)
 have keep:∀{G:Hp},Ex [sl] H1 G->Same H G:=λex b o hb=>ex.at (λzz=>by rw[zz,hsl]at hb;cases hb) (s1 _ _ hb)
 refine(pk _ rfl dl ⟨rfl,⟨_,SqL.of (s1 _ _ hdl)⟩,?_⟩)
 refine qr (xs:=tys) (λi σ' G=>∃(y4 y5 y6:Option V),σ'=[some (.ref g),some (.str z),some (.ref dl),some (.ref sl),y4,y5,y6]/\Ex [sl] H1 G/\G sl=some (.lst ((agc (mkL M kn) (js.take i)).map chV))) ?_ (λi σ' G hi h=>?_) (λi x σ' G hx h=>?_) (λσ' G h=>?_)
 .exact(nq _ _ _ ⟨rfl,Ex.refl _ _,e1⟩)
 .obtain⟨_,_,_,_,ex,_⟩:=h
  exact SqL.of (keep ex _ _ hdl)
 .obtain⟨y4,y5,y6,rfl,ex,hs⟩:=h
  obtain⟨⟨j,c⟩,a,hj,rfl,ha⟩:=tat hx
  have hjl:j<(ocn M).length:=(hD.lt _ (aq hj)).1
  refine(m9 a _ rfl (SqT.of (keep ex _ _ ha)) rfl _ _ rfl _ ⟨_,rfl,rfl,?_⟩)
  refine(og _ rfl _ rfl _ rfl sl _ (mw _ j ⟨rfl,rfl,hs,abn (by rw[ah,af9,hL];exact hjl),?_⟩))
  refine(nq _ _ _ ⟨rfl,ex.trans (Ex.upd (by simp)),?_⟩)
  rw[f7,hj,gv,aip,List.map_set]
  exact mr
 .obtain⟨y4,y5,y6,rfl,ex,hs⟩:=h
  rw[a9 (by omega)]at hs
  refine(pk _ rfl dl ⟨rfl,⟨_,SqL.of (keep ex _ _ hdl)⟩,?_⟩)
  refine qr (xs:=tys) (λi σ' J=>∃(y4 y5 y6:Option V)(cs:List Nat),σ'=[some (.ref g),some (.str z),some (.ref dl),some (.ref sl),y4,y5,y6]/\Ex [sl] H1 J/\J sl=some (.lst (cs.map chV))/\Half M kn js (prc M (js.take i)) cs) ?_ (λi σ' J hi h=>?_) (λi x σ' J hx h=>?_) (λσ' J h=>?_)
  .refine(m8 _ _ _ _ ⟨rfl,ex,hs,by rw[af9,hL],λk _=>⟨λhp=>?_,λ_=>rfl⟩⟩)
   obtain⟨q,hq,_⟩:=hp
   rw[List.take_zero]at hq
   cases hq
  .obtain⟨_,_,_,_,_,ex,_⟩:=h
   exact SqL.of (keep ex _ _ hdl)
  .obtain⟨y4,y5,y6,cs,rfl,ex,hs,hH⟩:=h
   obtain⟨⟨j,c⟩,a,hj,rfl,ha⟩:=tat hx
   have hjl:j<(ocn M).length:=(hD.lt _ (aq hj)).1
   refine(m9 a _ rfl (SqT.of (keep ex _ _ ha)) rfl _ _ rfl _ ⟨_,rfl,rfl,?_⟩)
   refine⟨_,rfl,(by show 1<=sizeLine;decide),λl1 hl1=>?_⟩
   generalize g1:upd J l1 _=J1 at *
   obtain⟨s2,e2⟩:=al hl1 g1
   clear g1
   have sJ1:=(keep ex).trans s2
   obtain⟨na,hna,hnal⟩:=(hG.same sJ1).nr j _ (ab hjl)
   have hn4:=ab4 xs (((ocn M)[j]/M.w:Nat):Int) (((ocn M)[j] % M.w:Nat):Int)
   have hnI:=λv (hv:v∈wj xs (((ocn M)[j]/M.w:Nat):Int) (((ocn M)[j] % M.w:Nat):Int))=>abx hG.px hv
   have hnb:=af8 hw hG.px (ab hjl)
   change J1 na=some (.lst (wj xs (((ocn M)[j]/M.w:Nat):Int) (((ocn M)[j] % M.w:Nat):Int)))at hnal
   generalize wj xs (((ocn M)[j]/M.w:Nat):Int) (((ocn M)[j] % M.w:Nat):Int)=nr at *
   refine(me _ rfl g C dx _ ⟨_,rfl,sJ1 _ _ hg,cG.cl,cG.n4,rfl,(me _ rfl nl nvs _ _ ⟨rfl,rfl,SqL.of (hG.same sJ1).nl,mm hna,(m8 l1 na _ _ ⟨rfl,rfl,e2,hnal,gc (mz (by show 1+nr.length<=1000;omega)),λl2 hl2=>?_⟩)⟩)⟩)
   generalize g1:upd J1 l2 _=J2 at *
   obtain⟨s3,e3⟩:=al hl2 g1
   clear g1
   have nls:l2≠sl:=λzz=>by rw[zz,s2 _ _ hs]at hl2;cases hl2
   have hint:∀v∈[V.int (j:Nat)]++nr,∃k:Nat,v=.int (k:Nat)/\k<(ocn M).length:=λv hv=>by
    rcases ax.mp hv with h|h
    .exact⟨j,ao.mp h,hjl⟩
    .exact hnI v h
   have s23:=s2.trans s3
   refine⟨l2,rfl,⟨_,SqL.of e3⟩,?_⟩
   refine qr (xs:=[V.int (j:Nat)]++nr) (λt σ' W=>∃(y4 y5 y6:Option V)(cs:List Nat),σ'=[some (.ref g),some (.str z),some (.ref dl),some (.ref sl),y4,y5,y6]/\Ex [sl] J2 W/\W sl=some (.lst (cs.map chV))/\Half M kn js (λk=>prc M (js.take i) k\/V.int (k:Nat)∈([V.int (j:Nat)]++nr).take t) cs) ?_ (λt σ' W hi h=>?_) (λt x σ' W hx h=>?_) (λσ' W h=>?_)
   .exact(m8 _ _ _ cs ⟨rfl,Ex.refl _ _,s23 _ _ hs,hH.congr λk=>by simp⟩)
   .obtain⟨_,_,_,_,_,ex',_⟩:=h
    exact SqL.of (ex'.at nls e3)
   .obtain⟨y4,y5,y6,cs,rfl,ex',hs',hH'⟩:=h
    obtain⟨k,rfl,hk⟩:=hint x (aq hx)
    have hkc:k<cs.length:=by rw[hH'.1];exact hk
    have hP:∀i',(prc M (js.take i) i'\/V.int (i':Nat)∈([V.int (j:Nat)]++nr).take (t+1))↔(prc M (js.take i) i'\/V.int (i':Nat)∈([V.int (j:Nat)]++nr).take t)\/i'=k:=λi'=>by
     rw[f7,hx,gv,ax,ao,or_assoc]
     have:(V.int (i':Nat)=V.int (k:Nat))↔i'=k:=⟨λz=>by injection z with z;omega,λz=>by rw[z]⟩
     rw[this]
    have exW:Ex [sl] H1 W:=(ex.trans (Ex.of_same s23)).trans ex'
    have sW:=keep exW
    refine(mq _ rfl _ rfl sl _ _ ⟨chV (cs[k]'hkc),rfl,rfl,SqL.of hs',mm (by rw[aw,ab hkc];rfl),rfl,_,rfl,?_⟩)
    have ek:decide (chV (cs[k]'hkc)=V.str (ba "?"))=decide (cs[k]?=some 63):=by
     rw[eU,ab hkc]
     exact decide_eq_decide.mpr ⟨λh=>by rw[ch_inj.mp h],λh=>by rw[cm h];rfl⟩
    rw[ek]
    refine u8 (λhne=>?_) (λhne=>xt (m8 _ _ _ cs ⟨rfl,ex',hs',hH'.stay hD hkn hk hP (.inl (by simpa using hne))⟩))
    have hck:cs[k]?≠some 63:=by simpa using hne
    refine(og _ rfl _ rfl _ rfl g dx (l9 kr e D nl sl (l9 M xs ep nvs cs ⟨k,rfl,sW _ _ hg,hG.same sW,hs',hH'.1,hkc,hw,λtt W2 s4 htt=>⟨_,rfl,?_⟩⟩)))
    have hs4:=s4 _ _ hs'
    have hte:tt=tch M (knS kn js) k:=by
     rw[ig,htt]
     unfold tch
     rw[gz]
     refine exists_congr λj'=>and_congr_right λhj'=>?_
     obtain⟨_,k',_,e2,_⟩:=mem_nb.mp hj'
     rw[hH'.q hD hkn (ae.mp e2).1,Option.isNone_iff_eq_none]
    cases tt with
    | true=>exact xt (m8 _ _ _ cs ⟨rfl,ex'.trans (Ex.of_same s4),hs4,hH'.stay hD hkn hk hP (.inr hte.symm)⟩)
    | false=>
     refine si ?_
     have eDn:V.str (ba "-")=chV 45:=congrArg V.str (by decide +kernel)
     refine(mq _ rfl _ rfl sl _ _ ⟨k,rfl,rfl,hs4,abn (by rw[ah];exact hkc),?_⟩)
     exact(m8 _ _ _ (cs.set k 45) ⟨rfl,(ex'.trans (Ex.of_same s4)).trans (Ex.upd (by simp)),by rw[List.map_set,<-eDn];exact mr,hH'.put hD hkn hk hP hck hte.symm⟩)
   .obtain⟨y4,y5,y6,cs,rfl,ex',hs',hH'⟩:=h
    refine(m8 _ _ _ cs ⟨rfl,(ex.trans (Ex.of_same s23)).trans ex',hs',hH'.congr λk=>?_⟩)
    rw[k6,f7,hj,gv]
    unfold prc
    constructor
    .rintro(⟨q,hq,h⟩|h)
     .exact⟨q,ax.mpr (.inl hq),h⟩
     .refine⟨(j,c),ax.mpr (.inr (ao.mpr rfl)),?_⟩
      rcases ax.mp h with h|h
      .left
       have h:=ao.mp h
       injection h with h
       show k=j
       omega
      .exact .inr ((hnb k).mp h)
    .rintro⟨q,hq,h⟩
     rcases ax.mp hq with hq|hq
     .exact .inl ⟨q,hq,h⟩
     .rw[ao.mp hq]at h
      right
      rcases h with rfl|h
      .exact ax.mpr (.inl (ao.mpr rfl))
      .exact ax.mpr (.inr ((hnb k).mpr h))
  .obtain⟨y4,y5,y6,cs,rfl,ex,hs,hH⟩:=h
   rw[a9 (by omega)]at hH
   have hcs:=hH.done hD λ_ h=>h
   have e0:(ba "").length=0:=by decide +kernel
   have em:cs.map chV=(cs.map λc=>(⟨#[c]⟩:Str)).map V.str:=by rw[cq];rfl
   have hsum:=PySem.StrLaws.sumLen_le (B:=1) (cs.map λc=>(⟨#[c]⟩:Str)) λy hy=>by
    obtain⟨c,_,rfl⟩:=bi.mp hy
    exact am 1
   rw[ah]at hsum
   have hz1':z.cps.toList.length<=1000:=by rw[au];exact hz1
   rw[hz,hL]at hz1'
   have hl:=hH.1
   refine⟨rfl,(om _ rfl _ sl (cs.map λc=>(⟨#[c]⟩:Str)) ⟨rfl,rfl,by rw[<-em];exact hs,by rw[e0];omega,?_⟩)⟩
   rw[ac9]
   exact q ⟨cs.toArray⟩ J (keep ex) hcs
end
noncomputable def ag5(M:Mat)(kn:Kn):Nat:=((b9 (ocn M).length).find? λi=>(kn i).isNone).getD 0
theorem aku{M:Mat}{kn:Kn}{i:Nat}(hi:i<(ocn M).length)(h:kn i=none)(hf:∀j,j<i->kn j≠none):ag5 M kn=i:=by
 unfold ag5
 have:(b9 (ocn M).length).find? (λi=>(kn i).isNone)=some i:=by
  rw[List.find?_eq_some_iff_append]
  refine⟨by rw[h];rfl,(mw (b9 i) (List.range' (i+1) ((ocn M).length-(i+1))) ⟨?_,λj hj=>?_⟩)⟩
  .rw[List.range_eq_range',List.range_eq_range',<-List.range'_succ,show(ocn M).length-(i+1)+1=(ocn M).length-i by omega]
   have:=List.range'_append (s:=0) (m:=i) (n:=(ocn M).length-i) (step:=1)
   rw[Nat.one_mul,Nat.zero_add,show i+((ocn M).length-i)=(ocn M).length by omega]at this
   exact this.symm
  .have:=hf j (fg.mp hj)
   cases e:kn j with
   | none=>exact absurd e this
   | some _=>rfl
 rw[this]
 rfl
noncomputable abbrev Opt:=Option (List Sg×Nat)
noncomputable def dcO(M:Mat)(kn:Kn):Opt->List (Nat×Nat)
 | none=>[(ag5 M kn,45)]
 | some q=>q.1.map λs=>(cix M s,s.2.2)
noncomputable def stp(M:Mat)(kn:Kn)(o:Opt):Kn:=knS kn (dcO M kn o)
noncomputable def usS(lms:List (Int×Option Int))(us:List Int):Opt->List Int
 | none=>us
 | some q=>us.set q.2 (wb (lms[q.2]?.getD (0,none)).1 (lms[q.2]?.getD (0,none)).2 (us[q.2]?.getD 0+1))
def Fit(M:Mat)(kn:Kn)(nk:Nat)(o:Opt):Prop:=(∃i,i<(ocn M).length/\kn i=none)/\∀q,o=some q->q.2<nk/\0<q.1.length/\q.1.length<=6/\(q.1.map (cix M)).Nodup/\∀s∈q.1,OpS M s/\s.2.2<128/\s.2.2≠63/\kn (cix M s)=none
theorem awn{P:Nat->Prop}{n:Nat}(h:P n):∃i,i<=n/\P i/\∀j,j<i->¬P j:=by
 induction n using Nat.strongRecOn with
 | _ n ih=>
  by_cases hx:∃j,j<n/\P j
  .obtain⟨j,hj,hp⟩:=hx
   obtain⟨i,h1,h2,h3⟩:=ih j hj hp
   exact⟨i,by omega,h2,h3⟩
  .exact⟨n,am _,h,λj hj hp=>hx ⟨j,hj,hp⟩⟩
theorem aes{M:Mat}{kn:Kn}(h:∃i,i<(ocn M).length/\kn i=none):ag5 M kn<(ocn M).length/\kn (ag5 M kn)=none/\∀j,j<ag5 M kn->kn j≠none:=by
 obtain⟨n,hn,hk⟩:=h
 obtain⟨i,h1,h2,h3⟩:=awn (P:=λi=>kn i=none) hk
 rw[aku (by omega) h2 h3]
 exact⟨by omega,h2,h3⟩
theorem amt{M:Mat}{s:Sg}(h:OpS M s):cix M s<(ocn M).length:=(ae.mp (xg h)).1
theorem Fit.dcd{M:Mat}{kn:Kn}{nk:Nat}{o:Opt}(h:Fit M kn nk o):Dcd M kn (dcO M kn o):=by
 cases o with
 | none=>
  obtain⟨h1,h2,_⟩:=aes h.1
  refine⟨by simp[dcO],λq hq=>?_,λq hq=>?_⟩
  .rw[ao.mp hq];exact⟨h1,(by show 45<128;decide),(by show 45≠63;decide)⟩
  .rw[ao.mp hq];exact h2
 | some q=>
  obtain⟨_,_,_,hn,hs⟩:=h.2 q rfl
  refine⟨?_,λp hp=>?_,λp hp=>?_⟩
  .show((q.1.map λs=>(cix M s,s.2.2)).map (·.1)).Nodup
   rw[cq]
   exact hn
  .obtain⟨s,hs',rfl⟩:=bi.mp hp
   obtain⟨a,b,c,_⟩:=hs s hs'
   exact⟨amt a,b,c⟩
  .obtain⟨s,hs',rfl⟩:=bi.mp hp
   exact(hs s hs').2.2.2
theorem Fit.sgn{M:Mat}{kn:Kn}{nk:Nat}{o:Opt}(h:Fit M kn nk o)(s:Sgn kn):Sgn (stp M kn o):=h.dcd.sgn s
set_option pp.maxSteps 3000
section
variable{P:Program}{w:World}{K:ai}{mg:Str->Option Value}{base:Heap}{f:Addr}{fd:FuncData}{C:Addr}
def aq8(w:World)(C:Addr):Sp:=λvs H Q _=>∃(g dx kr e D nl st:Addr)(M:Mat)(xs:List KA)(ep:Nat)(nvs kvs:List V)(z:Str)(us:List Int) (lms:List (Int×Option Int)) (v:V) (o:Opt) (kn:Kn),vs=[.ref g,.ref st,v]/\H g=some (.ins C dx (fsG kr e D nl))/\GrF w H D nl M xs ep nvs/\0<M.w/\H kr=some (.tup kvs)/\BndK H kvs lms/\StH H st z us/\us.length=lms.length/\z.cps.toList=mkL M kn/\Sgn kn/\z.length<=1000/\OpV H M lms.length v o/\Fit M kn lms.length o/\
 ∀(r:Addr)(z':Str)(H':Hp),Same H H'->z'.cps.toList=mkL M (stp M kn o)->StH H' r z' (usS lms us o)->Q (.ref r) H'
theorem at6:mx ["ground","state","option"] ["ground","state","option"] (mj awm):={}
theorem aqd(gDn:GS mg "DONE" "-")(cG:ClG K C)(Ffun:Fn P w K mg base "first_undecided" 1 ["state"] aou)(Fcov:Fn P w K mg base "covers" 1 ["ground","placement"] (an8 w C))(Fmkb:Fn P w K mg base "marks_behind" 2 ["ground","marks","decided"] (asb w C))(Fube:Fn P w K mg base "used_behind" 2 ["kinds","used","number"] aql)(F:Fun K "behind_on" "behind_on" awm f fd):qe P w K mg base CX0 3 f fd ["ground","state","option"] (aq8 w C):=by
 refine F.ok (k:=2) at6 (λvs H Q E h=>?_) (λcdv A outer s H vs Q E hr h=>?_)
 .obtain⟨_,_,_,_,_,_,_,_,_,_,_,_,_,_,_,_,_,_,rfl,_⟩:=h
  rfl
 obtain⟨g,dx,kr,e,D,nl,st,M,xs,ep,nvs,kvs,z,us,lms,v,o,kn,rfl,hg,hG,hw,hkr,hK,hst,hus,hz,hkn,hz1,hop,hfit,q⟩:=h
 obtain⟨u,hs1,hu1⟩:=id hst
 have hD:=hfit.dcd
 obtain⟨f1,f2,f3⟩:=aes hfit.1
 have h63:63∈z.cps.toList:=by
  rw[hz]
  exact aq (by rw[vx f1,(zc hkn _).mpr f2])
 refine⟨_,(lw (qp (oo acq (pv 2) sr (oz _)) (ma (my (ni (mf (nh Fmkb hr (by decide) rfl (mf (pv 0) (mf (ng nu (pv 1) l7 (λ_ _=>rfl)) (mf (ph (mf (ni (mf (nh Ffun hr (by decide) rfl (mf (pv 1) lv)) (mf (qf gDn rfl) lv))) lv)) lv)))) (mf (ng nu (pv 1) l7 (λ_ _=>rfl)) lv))))) o7)
  (ma (my (ni (mf (nh Fmkb hr (by decide) rfl (mf (pv 0) (mf (ng nu (pv 1) l7 (λ_ _=>rfl)) (mf (nh Fcov hr (by decide) rfl (mf (pv 0) (mf (pv 2) lv))) lv)))) (mf (nh Fube hr (by decide) rfl (mf (xm (pv 0) rfl) (mf (ng nu (pv 1) l7 (λ_ _=>rfl)) (mf (ng nu (pv 2) l7 (λ_ _=>rfl)) lv)))) lv)))))),?_⟩
 cases o with
 | none=>
  cases (show v=V.non from hop)
  refine(oe _ rfl rfl _ ⟨rfl,si ?_⟩)
  refine(mq _ rfl _ rfl st _ _ ⟨_,rfl,rfl,SqT.of hs1,mm (j:=0) rfl,(om _ rfl st z _ ⟨rfl,hs1,h63,λi hi hfi=>?_⟩)⟩)
  refine⟨(by show 2<=sizeLine;decide),λt ht=>?_⟩
  generalize g1:upd H t _=H1 at *
  obtain⟨s1,e1⟩:=al ht g1
  clear g1
  refine⟨(by show 1<=sizeLine;decide),λl hl=>?_⟩
  generalize g1:upd H1 l _=H2 at *
  obtain⟨s2,e2⟩:=al hl g1
  clear g1
  have s12:=s1.trans s2
  have eD:ba "-" = ⟨#[45]⟩:=by decide +kernel
  rw[eD]at e1
  have hil:=(ae.mp hi).1
  rw[hz,qy]at hil
  have ei:ag5 M kn=i:=aku hil ((zc (M:=M) hkn i).mp (by rw[hz,vx hil]at hi;exact cm hi)) λj hj ej=>hfi j hj (by rw[hz,vx (by omega),(zc hkn j).mpr ej])
  refine(l9 g dx kr e D (l9 nl l M xs ep (l9 nvs _ z kn (dcO M kn none) ⟨rfl,s12 _ _ hg,hG.same s12,hw,hz,hkn,hz1,e2,?_,hD,(by show 1<=6;decide),λz' H3 s3 hz3=>?_⟩)))
  .show RepAll H2 [dcD (ag5 M kn,45)] _
   rw[ei]
   exact(mw _ _ ⟨rfl,(ox t _ rfl (s2 _ _ e1) _ _ rfl rfl _ ⟨_,rfl,⟨rfl,ok1 (by show 45<128;decide)⟩,rfl⟩),rfl⟩)
  .have s13:=s12.trans s3
   refine(me _ rfl st _ _ _ ⟨rfl,rfl,SqT.of (s13 _ _ hs1),mm (j:=1) rfl,(by show 2<=sizeLine;decide),λr hr0=>?_⟩)
   generalize g1:upd H3 r _=H4 at *
   obtain⟨s4,e4⟩:=al hr0 g1
   exact q r z' H4 (s13.trans s4) hz3 ⟨u,e4,(s13.trans s4) _ _ hu1⟩
 | some od=>
  obtain⟨ss,n⟩:=od
  obtain⟨p,rfl,hp,hss,h6,hn⟩:=hop
  have h6:ss.length<=6:=h6
  have hn:n<lms.length:=hn
  have hp:Rep H (plD ss (n:Nat)) (.ref p):=hp
  have hss:∀s∈ss,OpS M s/\s.2.2<128:=hss
  obtain⟨pp,pxs,hpp,hpx,y0,t0,rfl,r0,y1,t1,rfl,e1,rfl⟩:=id hp
  cases hpp
  cases (show y1=_ from e1)
  refine(oe _ rfl rfl _ ⟨rfl,xt ?_⟩)
  refine(mq _ rfl _ rfl st _ _ ⟨_,rfl,rfl,SqT.of hs1,mm (j:=0) rfl,(mq _ rfl _ rfl g dx kr (l9 e D nl p M (l9 xs ep nvs ss (n:Nat) ⟨rfl,hg,hG,hw,hp,hss,h6,λtk tys H1 s1 htk0 htk repT=>?_⟩)))⟩)
  have eJ:ss.map (cvS M)=(dcO M kn (some (ss,n))).map dcD:=by unfold dcO;rw[cq];rfl
  rw[eJ]at repT
  refine(l9 g dx kr e D (l9 nl tk M xs ep (l9 nvs tys z kn _ ⟨rfl,s1 _ _ hg,hG.same s1,hw,hz,hkn,hz1,htk,repT,hD,(by unfold dcO;rw[ah];exact h6),λz' H2 s2 hz2=>?_⟩)))
  have s12:=s1.trans s2
  refine(me _ rfl g C dx _ ⟨_,rfl,s12 _ _ hg,cG.cl,cG.n1,rfl,(me _ rfl st _ _ _ ⟨rfl,rfl,SqT.of (s12 _ _ hs1),mm (j:=1) rfl,(me _ rfl p _ _ _ ⟨rfl,rfl,SqT.of (s12 _ _ hpx),mm (j:=1) rfl,(l9 kr u kvs lms us ⟨n,rfl,s12 _ _ hkr,hK.same s12,s12 _ _ hu1,hus,by omega,λru lm x H3 s3 hlm hx e3=>?_⟩)⟩)⟩)⟩)
  refine⟨(by show 2<=sizeLine;decide),λr hr0=>?_⟩
  generalize g1:upd H3 r _=H4 at *
  obtain⟨s4,e4⟩:=al hr0 g1
  refine q r z' H4 ((s12.trans s3).trans s4) hz2 ⟨ru,e4,?_⟩
  unfold usS
  dsimp only
  rw[hlm,hx]
  exact s4 _ _ e3
end
end K23
namespace L3
open PySem PySem.Spec PyProof.Rows L2
section
variable{prog:Program}{w:World}{A:Around}{E:Value->Shared->Prop}{s:Shared}{d it v:Addr}{es:Array DictEntry}{ep i:Nat}
theorem ab2:Builtin.Dict_items.ownsTuple "dict_valueiterator" = false:=by decide
theorem aus{Q:Value->Shared->Prop}(lo:(d==sysModules)=false)(hm:DE s.heap d es ep)(z:Q (.ref s.heap.objs.size) {s with heap:=s.heap.push {cls:=.type "dict_values",data:=.fields #[.ref d]}}) :
  wpAny (model prog w) A (call (.builtin "dict.values") [.ref d]) Q E s:=by
 have T:=hm.ty
 refine cf F.slot_dict_values T F.entry_dict_values (aa (aa (wpAny_notOrdered_dict T ?_))) (F.args_dict_values_1 _)
 refine(af ?_:wpAny _ _ (pure d) _ _ s)
 have sh:jq d=pure ():=by unfold jq;rw[if_neg (by rw[lo];simp)]
 refine(?_:wpAny _ _ (jq d >>= _) _ _ s)
 rw[sh]
 exact aa (af (aa (cg (af ⟨_,rfl,z⟩))))
theorem awj{Q:Value->Shared->Prop}(hv:s.heap.IsValuesView v d)(hm:DE s.heap d es ep)
  (z:Q (.ref s.heap.objs.size) {s with heap:=s.heap.push {cls:=.type "dict_valueiterator",data:=.fields #[.ref d,.int 0 0,.int es.size 0,.int ep 0]}}):wpAny (model prog w) A (pyIter (.ref v)) Q E s:=by
 obtain⟨ov,hov,_,hdv⟩:=id hv
 obtain⟨o,ho,_,hdat⟩:=id hm
 refine wpAny_pyIter_slot hv.typeIs F.slot_dict_values_iter (cf F.slot_dict_values_iter hv.typeIs F.entry_dict_values_iter (aa (af (aa (aa (gr hov hdv (x:=.ref d) rfl (af (aa ?_))))))) (F.args_dict_values_iter_1 _))
 refine(aa (wpAny_dictEntries ho hdat (aa (wpAny_dictEpoch ho hdat ?_))))
 simp only[ab2,az,if_false]
 refine cg (af (oj _ rfl "dict_valueiterator" _ ⟨⟨_,av _ rfl,rfl⟩,iy.lookup,?_⟩))
 simpa [rawInt]using z
theorem aux{Q:Option Value->Shared->Prop}(hit:s.heap.IsValIter it d i es.size ep)(hm:DE s.heap d es ep){e:DictEntry}(hx:es[i]?=some e)
  (q:∀h',h'.IsValIter it d (i+1) es.size ep->bw it s.heap h'->Q (some e.val) {s with heap:=h'}):wpAny (model prog w) A (pyNext (.ref it)) Q E s:=by
 have T:=hit.typeIs
 obtain⟨o,ho,hc,hd⟩:=id hit
 obtain⟨od,hod,_,hdd⟩:=id hm
 unfold pyNext
 refine aa (jd (ce (name:="__next__") T iy (cf iy T F.entry_dict_valueiterator_next (aa (af (aa (aa (?_))))) (F.args_dict_valueiterator_next_1 _))))
 refine aa (k8 T (af (aa (lh ho hd ?_))))
 rw[if_neg (by rw[ab2];simp)]
 refine(?_:wpAny _ _ (if (Value.ref d==Value.none)=true then _ else _) _ _ s)
 rw[if_neg (by intro z;cases z)]
 refine aa (af (aa (wpAny_dictEntries hod hdd ?_)))
 rw[if_neg (by simp)]
 refine aa (af (aa (wpAny_dictEpoch hod hdd ?_)))
 rw[if_neg (by simp)]
 refine af ?_
 have nn:¬((i:Int)<0):=by omega
 simp only[nn,if_false,cc,hx]
 refine aa (aa (k8 T (af (aa (wpAny_isOneOf_valiter T ?_)))))
 refine(aa (gl ho hd (by simp) ?_):wpAny _ _ (setField (.ref it) 1 (rawInt ((i:Int)+1)) >>= _) _ _ s)
 have hit':(s.heap.update it (Obj.mapFields (·.setIfInBounds 1 (rawInt ((i:Int)+1))))).IsValIter it d (i+1) es.size ep:=
  ⟨_,ck _ ho (Obj.isFreed_of_fields (i8 hd _)),by rw[Obj.cls_mapFields];exact hc,by rw[i8 hd];simp[rawInt]⟩
 refine aa (fk (aa (wpAny_isOneOf_valiter (s:={s with heap:=_}) hit'.typeIs (aa (wpAny_isOneOf_valiter (s:={s with heap:=_}) hit'.typeIs ?_)))))
 refine(?_:wpAny _ _ (pure e.val) _ _ _)
 refine af (af ⟨_,rfl,?_⟩)
 exact af (q _ hit' (cx ..))
theorem ax7{Q:Option Value->Shared->Prop}(hh:A.handled=none)(hit:s.heap.IsValIter it d es.size es.size ep)(hm:DE s.heap d es ep)
  (q:∀h',ju it s.heap h'->Q none {s with heap:=h'}):wpAny (model prog w) A (pyNext (.ref it)) Q E s:=by
 have T:=hit.typeIs
 obtain⟨o,ho,hc,hd⟩:=id hit
 obtain⟨od,hod,_,hdd⟩:=id hm
 unfold pyNext
 refine aa (jd (ce (name:="__next__") T iy (cf iy T F.entry_dict_valueiterator_next (aa (af (aa (aa (?_))))) (F.args_dict_valueiterator_next_1 _))))
 refine aa (k8 T (af (aa (lh ho hd ?_))))
 rw[if_neg (by rw[ab2];simp)]
 refine(?_:wpAny _ _ (if (Value.ref d==Value.none)=true then _ else _) _ _ s)
 rw[if_neg (by intro z;cases z)]
 refine aa (af (aa (wpAny_dictEntries hod hdd ?_)))
 rw[if_neg (by simp)]
 refine aa (af (aa (wpAny_dictEpoch hod hdd ?_)))
 rw[if_neg (by simp)]
 refine af ?_
 have nn:¬((es.size:Int)<0):=by omega
 have no:es[es.size]?=none:=Array.getElem?_eq_none (am _)
 simp only[nn,if_false,cc,no]
 refine aa (aa (k8 T (af ?_)))
 refine(aa (gl ho hd (by simp) ?_):wpAny _ _ (setField (.ref it) 0 .none >>= _) _ _ s)
 refine(aa ?_:wpAny _ _ (newExc (.type "StopIteration") [] >>= _) _ _ _)
 unfold newExc newTuple
 refine aa (cg (aa (wpAny_of_eq (a:=Value.none) rfl (cg ?_ (by size_fits)))) (by size_fits))
 unfold raiseNew
 refine aa (wpAny_handled ?_)
 rw[show A.in1.handled=none from hh]
 refine aa (af (wpAny_throw (aa ?_)))
 refine kz (T:="StopIteration") (b:=true) (⟨_,av _ rfl,rfl⟩) isSubtype_stop ?_
 exact af (q _ (((cx ..).extBut.push _).push _))
theorem axf{r:Addr}:PySem.W.KdlSrc prog w "dict_values" r d es.size (λi v=>∃e,es[i]?=some e/\v=e.val) (λh=>h.IsValuesView r d/\DE h d es ep)where
 type:=λ_ hm=>hm.1.typeIs
 there:=λ_ ⟨⟨_,h0,_⟩,⟨_,h1,_⟩⟩=>⟨bn h0,bn h1⟩
 keep:=λ_ _ ⟨⟨o,h0,x⟩,hm⟩ k=>⟨⟨o,k r (.inl rfl) o h0,x⟩,hm.on (k d (.inr rfl))⟩
 notList:=by decide
 notTuple:=by decide
 hint:=λ_ _ _ _ hm q=>PySem.W.kdl_hint_values hm.1.typeIs q
 iter:=λA s hh ⟨hv,hm⟩=>by
  refine⟨_,λi h=>h.IsValIter s.heap.objs.size d i es.size ep/\DE h d es ep,λ_ _ q=>awj hv hm q,?_,⟨_,av _ rfl,rfl,rfl⟩,hm.on λo e=>ak _ e⟩
  have hne:d≠s.heap.objs.size:=by
   obtain⟨_,h1,_⟩:=hm
   exact c9 (bn h1)
  exact{
   sub:=λb hb=>by rw[ao.mp hb];exact bj
   frame:=λ_ _ _ st hk=>⟨st.1.at λo e=>hk _ bj o e,st.2.on λo e=>hk d (bf _ bj) o e⟩
   item:=λi s' Q E hi st q=>by
    refine aux st.1 st.2 (bz hi) λh' k sb=>?_
    exact q _ h' s'.toks ⟨_,bz hi,rfl⟩ ⟨k,st.2.on λo e=>sb.extBut d o hne e⟩ λb o hb e=>sb.extBut b o (λz=>hb (by rw[z];exact bj)) e
   done:=λs' Q E st q=>ax7 hh st.1 st.2 λh' eb=>q h' s'.toks λb o hb e=>eb b o (λz=>hb (by rw[z];exact bj)) e
   self:=λ_ _ _ _ st q=>wpAny_pyIter_valiter st.1 q}
end
def aj1(w:World)(td:TE):TE:=λσ H Q=>td σ H λx H1=>∃a xs ep,x=.ref a/\DN w H1 a xs ep/\∀l,H1 l=none->Q (.ref l) (upd H1 l (.lst (xs.map (·.2.2))))
theorem aet{X:Cx}{o:Expr}{p apos pos pos2:Pos}{td:TE}(hc:X.calm=true)(hg:Gl X "list")(hm:X.mg "list" = none)(ho:PE X o td)
  (hbase:attributeBase o "values" X.env (eval o X.env)=eval o X.env:=by rfl) (hline:(apos.endLine==pos2.line)=true:=by rfl):PE X (.Call (.Name "list" p) [.Call (.Attribute o "values" apos) [] [] pos2] [] pos) (aj1 X.w td):=by
 intro pins s σ H Q I h
 refine i7 (uq I hg hm boot_list ?_ (by decide) (by decide))
 refine ge ?_ (o5 rfl) rfl
 rw[o5 rfl]
 show wpAny _ _ (spliced ((false,eval (.Call (.Attribute o "values" apos) [] [] pos2) X.env)::backTo pos (starEach [] X.env))) _ _ s
 refine Calls.spliced_cons ?_
 refine wpAny_Call_method0_late hbase hline (thn (ho pins s σ H _ I h) λv s1 ⟨x,H1,I1,r1,a,xs,ep,ex,D,q1⟩=>?_)
 subst ex
 obtain rfl:v=Value.ref a:=r1
 obtain⟨t1,t2⟩:=D.ty I1
 obtain⟨es,de,hz,hx⟩:=D.de I1
 refine(mw ("dict") _ ⟨PySem.F.plainAttrs_dict,PySem.F.slot_dict_values,PySem.F.type_dict_values,t1,t2,Calls.callWith_builtin rfl (PySem.evalArgs_none (aus D.sys de ?_))⟩)
 refine Calls.spliced_nil ?_
 have de':DE (s1.heap.push {cls:=.type "dict_values",data:=.fields #[.ref a]}) a es ep:=de.on λo e=>ak _ e
 have hlen:=D.len
 refine PySem.W.kdl_call (axf (es:=es) (ep:=ep)) (I1.ok.hd hc) ⟨⟨_,av _ rfl,rfl,rfl⟩,de'⟩ (by omega) λh' tk acc' c' kp e2 hacc=>?_
 have hsz:(s1.heap.push {cls:=.type "dict_values",data:=.fields #[.ref a]}).objs.size=s1.heap.objs.size+1:=k9 ..
 replace hsz:({s1 with heap:=s1.heap.push {cls:=.type "dict_values",data:=.fields #[.ref a]}}:Shared).heap.objs.size=s1.heap.objs.size+1:=hsz
 rw[hsz]at e2⊢
 have hn:H1 (s1.heap.objs.size+1)=none:=I1.hok.fresh (km _)
 have hv:Vals (xs.map (·.2.2)) acc'.toList:=by
  refine afo ?_ λi y u' h1 h2=>?_
  .have h5:acc'.size=es.size:=hacc.1
   have h7:acc'.toList.length=acc'.size:=au
   rw[ah,h7,h5,hz]
  .rw[aw]at h1
   obtain⟨x,hxi,rfl⟩:=bv.mp h1
   obtain⟨e,he,_,rv⟩:=hx i x hxi
   obtain⟨e',he',rfl⟩:=hacc.2 i u' (by simpa using h2)
   rw[he]at he'
   cases he'
   exact rv
 refine⟨.ref (s1.heap.objs.size+1),_,I1.laid (t':=tk) (o:=.lst (xs.map (·.2.2))) (λb o hb=>kp b o (ak _ hb)) (km _) ⟨by rw[ah];omega,acc'.toList,c',hv,by simpa using e2⟩,rfl,q1 _ hn⟩
end L3
namespace K23
open PySem PyProof.Rows L2 L3
structure PzB(H:Hp)(pz fl kr e:Addr)(M:Mat)(kvs:List V)(ks:List (List PyData×Nat))(lms:List (Int×Option Int))(avs:List V)(ads:List PyData):Prop where
 pz:H pz=some (.tup [.ref fl,.ref kr,.ref e])
 fl:FlM H fl M
 kr:H kr=some (.tup kvs)
 ks:KindsK H kvs ks
 lm:BndK H kvs lms
 ap:H e=some (.tup avs)
 ra:RepAll H ads avs
theorem PzB.same{H H':Hp}{pz fl kr e:Addr}{M:Mat}{kvs:List V}{ks:List (List PyData×Nat)}{lms:List (Int×Option Int)}{avs:List V}{ads:List PyData}(h:PzB H pz fl kr e M kvs ks lms avs ads)(s:Same H H'):PzB H' pz fl kr e M kvs ks lms avs ads:=
 ⟨s _ _ h.pz,h.fl.same s,s _ _ h.kr,h.ks.same s,h.lm.same s,s _ _ h.ap,h.ra.same s⟩
theorem PzB.k{H:Hp}{pz fl kr e:Addr}{M:Mat}{kvs:List V}{ks:List (List PyData×Nat)}{lms:List (Int×Option Int)}{avs:List V}{ads:List PyData}(h:PzB H pz fl kr e M kvs ks lms avs ads):PzK H pz M ks:=
 (m8 fl kr e kvs ⟨h.pz,h.fl,h.kr,h.ks,by rw[<-h.ks.1,h.lm.1];exact h.lm.2.1⟩)
theorem aak{H H':Hp}{x dx C:Addr}(hx:H x=none)(hd:H dx=none)(ex:Ex [x] (upd (upd H dx (.own x)) x (.ins C dx [])) H'):Same H H':=λb o hb=>by
 have n1:b≠x:=λz=>by rw[z,hx]at hb;cases hb
 have n2:b≠dx:=λz=>by rw[z,hd]at hb;cases hb
 exact ex.at n1 (by rw[nj n1,nj n2];exact hb)
theorem ad2{H:Hp}{x dx C:Addr}(hx:H x=none)(hd:H dx=none):Same H (upd (upd H dx (.own x)) x (.ins C dx [])):=aak hx hd (Ex.refl _ _)
def OpG(M:Mat)(o:Option (List Sg×Nat)):Prop:=∀q,o=some q->0<q.1.length/\(q.1.map (cix M)).Nodup/\∀s∈q.1,s.2.2≠63
theorem OpV.tk{H H':Hp}{M:Mat}{nk:Nat}{v:V}{o:Option (List Sg×Nat)}(h:OpV H M nk v o)(t:Tk H H'):OpV H' M nk v o:=by
 cases o with
 | none=>exact h
 | some q=>
  obtain⟨p,rfl,r,h1⟩:=h
  refine⟨p,rfl,Rep.tk t ?_ r,h1⟩
  have:pj (q.1.map sgD)=true:=qc λd hd=>by
   obtain⟨s,_,rfl⟩:=bi.mp hd
   rfl
  unfold plD
  simp[imm,pj,this]
seal L2.PE L2.PT L2.PW L2.PA L2.PS L2.PSs L2.PG L2.PGs L2.PI L2.PO
set_option pp.maxSteps 3000
section
variable{P:Program}{w:World}{K:ai}{mg:Str->Option Value}{base:Heap}{f:Addr}{fd:FuncData}{C:Addr}
def are:Sp:=λvs H Q _=>∃(pz fl kr e st:Addr)(M:Mat)(kvs:List V) (ks:List (List PyData×Nat)) (lms:List (Int×Option Int)) (avs:List V) (ads:List PyData) (z:Str) (us:List Int) (v:V) (o:Opt) (kn:Kn),vs=[.ref pz,.ref st,v]/\PzB H pz fl kr e M kvs ks lms avs ads/\StH H st z us/\us.length=lms.length/\z.cps.toList=mkL M kn/\Sgn kn/\z.length<=1000/\OpV H M lms.length v o/\Fit M kn lms.length o/\
 ∀(r:Addr)(z':Str)(H':Hp),Same H H'->z'.cps.toList=mkL M (stp M kn o)->StH H' r z' (usS lms us o)->Q (.ref r) H'
theorem ave:mx ["puzzle","state","option"] ["puzzle","state","option"] (mj avi):={}
theorem ar6(FG:FnM P w K mg base "Ground" C 3 ["self","puzzle"] (ak6 w C))(Fbon:Fn P w K mg base "behind_on" 3 ["ground","state","option"] (aq8 w C))(F:Fun K "behind" "behind" avi f fd):qe P w K mg base CX0 5 f fd ["puzzle","state","option"] are:=by
 refine F.ok (k:=4) ave (λvs H Q E h=>?_) (λcdv A outer s H vs Q E hr h=>?_)
 .obtain⟨_,_,_,_,_,_,_,_,_,_,_,_,_,_,_,_,rfl,_⟩:=h
  rfl
 obtain⟨pz,fl,kr,e,st,M,kvs,ks,lms,avs,ads,z,us,v,o,kn,rfl,hP,hst,hus,hz,hkn,hz1,hop,hfit,q⟩:=h
 refine⟨_,(ma (my (nh Fbon hr (by decide) rfl (mf (asg FG hr (by decide) rfl (mf (pv 0) lv)) (mf (pv 1) (mf (pv 2) lv)))))),?_⟩
 refine⟨_,rfl,λx dx hx hd hne=>?_⟩
 have sL:=ad2 (C:=C) hx hd
 refine(l9 x dx pz fl kr (mw e M ⟨rfl,mr,sL _ _ hP.pz,hP.fl.same sL,λD nl xs ep nvs H1 ex h1 hG=>⟨rfl,?_⟩⟩))
 have s1:=aak hx hd ex
 refine(mq _ rfl _ rfl x dx kr (l9 e D nl st M (l9 xs ep nvs kvs z (l9 us lms v o kn ⟨rfl,h1,hG,hP.fl.2.w1,s1 _ _ hP.kr,hP.lm.same s1,hst.same s1,hus,hz,hkn,hz1,hop.tk (Tk.of_same s1),hfit,λr z' H2 s2=>?_⟩))))
 exact q r z' H2 (s1.trans s2)
end
noncomputable def apk:PyData->Sg
 | .tuple [.int r,.int c,.str z]=>(r.toNat,c.toNat,z.cps.toList.headD 0)
 | _=>(0,0,0)
theorem SgN.to{d:PyData}(h:SgN d):sgD (apk d)=d/\65<=(apk d).2.2/\(apk d).2.2<=90:=by
 obtain⟨r,c,k,rfl,h1,h2⟩:=h
 exact⟨rfl,h1,h2⟩
theorem ano{M:Mat}{d:PyData}(h:SgN d)(f:alu M d=true):OpS M (apk d):=by
 obtain⟨r,c,k,rfl,h1,h2⟩:=h
 rw[amz]at f
 show r<M.h/\c<M.w/\M.g r c≠35
 have n:gA M r c≠35:=λz=>by
  rw[z]at f
  have h3:(35==k)=false:=beq_false_of_ne (by omega)
  have h4:(35==lo1 k)=false:=beq_false_of_ne (by unfold lo1;split<;>omega)
  unfold okS at f
  rw[h3,h4]at f
  cases f
 unfold gA at n
 by_cases hh:r<M.h/\c<M.w
 .rw[if_pos hh]at n
  exact⟨hh.1,hh.2,n⟩
 .rw[if_neg hh]at n
  exact absurd rfl n
theorem apv{M:Mat}{s t:Sg}(hs:OpS M s)(ht:OpS M t)(e:cix M s=cix M t):s.1=t.1/\s.2.1=t.2.1:=by
 have h1:=xg hs
 rw[e,xg ht]at h1
 have h1:=cm h1
 have a:=aba (r:=s.1) hs.2.1
 have b:=aas (r:=s.1) hs.2.1
 rw[<-h1]at a b
 rw[aba ht.2.1]at a
 rw[aas ht.2.1]at b
 exact⟨a.symm,b.symm⟩
theorem aup{M:Mat}{nk:Nat}{d:PyData}(h:RawD M nk d):∃ss n,d=plD ss ((n:Nat):Int)/\(∀s∈ss,OpS M s/\s.2.2<128)/\ss.length<=6/\n<nk/\OpG M (some (ss,n)):=by
 obtain⟨es,i,n,hz',rfl,h4,hn⟩:=h
 have hS:∀x∈es.map (sh1 ((i/M.w:Nat):Int) ((i % M.w:Nat):Int)),SgN x:=SgN.shs (arh hz')
 have hF:∀x∈es.map (sh1 ((i/M.w:Nat):Int) ((i % M.w:Nat):Int)),alu M x=true:=ku.mp h4
 have hO:∀x∈es,OpS M (apk (sh1 ((i/M.w:Nat):Int) ((i % M.w:Nat):Int) x)):=λx hx=>ano (hS _ (jk hx)) (hF _ (jk hx))
 refine(mw ((es.map (sh1 ((i/M.w:Nat):Int) ((i % M.w:Nat):Int))).map apk) n ⟨?_,λs hs=>?_,?_,hn,λq hq=>?_⟩)
 .show PyData.tuple [.tuple _,_]=PyData.tuple [.tuple _,_]
  rw[cq]
  have:(es.map (sh1 ((i/M.w:Nat):Int) ((i % M.w:Nat):Int))).map (sgD∘apk)=(es.map (sh1 ((i/M.w:Nat):Int) ((i % M.w:Nat):Int))).map id:=g0 λx hx=>(hS x hx).to.1
  rw[this,List.map_id]
 .obtain⟨x,hx,rfl⟩:=bi.mp hs
  exact⟨ano (hS x hx) (hF x hx),by have:=(hS x hx).to.2.2;omega⟩
 .rw[ah,ah]
  exact hz'.pre.six
 .cases hq
  refine⟨by rw[ah,ah];exact hz'.pre.pos,?_,λs hs=>?_⟩
  .show((_:List Sg).map (cix M)).Nodup
   rw[cq,cq]
   refine gn.mpr (j7 (λ{x y} hx hy hne he=>?_) (gn.mp hz'.pre.nd))
   obtain⟨a,b⟩:=apv (hO x hx) (hO y hy) he
   obtain⟨r,c,k,rfl,_⟩:=arh hz' x hx
   obtain⟨r',c',k',rfl,_⟩:=arh hz' y hy
   apply hne
   have a:((r:Int)+((i/M.w:Nat):Int)).toNat=((r':Int)+((i/M.w:Nat):Int)).toNat:=a
   have b:((c:Int)+((i % M.w:Nat):Int)).toNat=((c':Int)+((i % M.w:Nat):Int)).toNat:=b
   show((r:Int),(c:Int))=((r':Int),(c':Int))
   clear hO hF hS hne he h4
   generalize i/M.w=u at a
   generalize i % M.w=u' at b
   have e1:r=r':=by omega
   have e2:c=c':=by omega
   rw[e1,e2]
  .obtain⟨x,hx,rfl⟩:=bi.mp hs
   have:=(hS x hx).to.2.1
   omega
theorem ais{xs:List KA}{d:PyData}{v:V}(h:r8 xs d=some v):∃x∈xs,x.1=d/\x.2.2=v:=by
 unfold r8 at h
 obtain⟨x,hx,rfl⟩:=bv.mp h
 exact⟨x,List.mem_of_find?_eq_some hx,of_decide_eq_true (List.find?_some (p:=λx:KA=>decide (x.1=d)) hx),rfl⟩
def OpsL(H:Hp)(M:Mat)(nk m:Nat)(a:Addr):Prop:=∃ys,H a=some (.lst ys)/\ys.length<=m/\∀y∈ys,∃o,OpV H M nk y o/\OpG M o
theorem OpsL.ex{H H':Hp}{M:Mat}{nk m:Nat}{a:Addr}(h:OpsL H M nk m a)(t:Tk H H')(e:∀o,H a=some o->H' a=some o):OpsL H' M nk m a:=by
 obtain⟨ys,h1,h2,h3⟩:=h
 refine⟨ys,e _ h1,h2,λy hy=>?_⟩
 obtain⟨o,ho,g⟩:=h3 y hy
 exact⟨o,ho.tk t,g⟩
theorem OpsL.up{H:Hp}{M:Mat}{nk m m':Nat}{a:Addr}(h:OpsL H M nk m a)(hm:m<=m'):OpsL H M nk m' a:=by
 obtain⟨ys,h1,h2,h3⟩:=h
 exact⟨ys,h1,db h2 hm,h3⟩
set_option pp.maxSteps 3000
section
variable{P:Program}{w:World}{K:ai}{mg:Str->Option Value}{base:Heap}{f:Addr}{fd:FuncData}{C:Addr}
def aqn:Sp:=λvs H Q _=>∃(pz fl kr e:Addr)(M:Mat)(kvs:List V) (ks:List (List PyData×Nat)) (lms:List (Int×Option Int)) (avs:List V) (ads:List PyData),vs=[.ref pz]/\PzB H pz fl kr e M kvs ks lms avs ads/\
 ∀(l:Addr)(lvs:List V)(H':Hp),Same H H'->H' l=some (.lst lvs)->lvs.length=(oix M (M.h*M.w)).length->(∀v∈lvs,∃a,v=.ref a/\OpsL H' M lms.length 3073 a)->Q (.ref l) H'
theorem scSto:mx ["puzzle","starts","cell","placement","row","column","sign"] ["puzzle"] (mj au3):={}
theorem as3(B:∀x∈tj,mg x=none)(Foc:Fn P w K mg base "open_cells" 2 ["floor"] ap7)(Fmust:Fn P w K mg base "must_be" 2 ["floor","cell"] (ang λk=>.bl (amc k)))(Fplc:Fn P w K mg base "placements" 6 ["puzzle"] as7)(F:Fun K "starting_options" "starting_options" au3 f fd):qe P w K mg base CX0 7 f fd ["puzzle"] aqn:=by
 refine F.ok (k:=6) scSto (λvs H Q E h=>?_) (λcdv A outer s H vs Q E hr h=>?_)
 .obtain⟨_,_,_,_,_,_,_,_,_,_,rfl,_⟩:=h
  rfl
 obtain⟨pz,fl,kr,e,M,kvs,ks,lms,avs,ads,rfl,hP,q⟩:=h
 have hu:=hr.units
 have okM:=hP.fl.2
 have hhw:M.h*M.w<=64:=jg okM.h8 okM.w8
 have ndO:=abc M (M.h*M.w)
 have hol64:=ww M (M.h*M.w)
 refine⟨_,(lw (nc (i:=1) scSto.nd rfl (Or.inl rfl) ael)
  (lw (p7 ci rfl (n0 (nh Foc hr (by decide) rfl (mf (ng nu (pv 0) l7 (λ_ _=>rfl)) lv))) (mh (i:=2) scSto.nd rfl (Or.inl rfl)) (ma (ach (eu (fj (by decide) _) hu) (pv 1) (pv 2) (ab3 (su (nh Fmust hr (by decide) rfl (mf (ng nu (pv 0) l7 (λ_ _=>rfl)) (mf (pv 2) lv)))) (ph lv) (ph (mf sr lv))) rfl)))
  (lw (p7 ci rfl (n0 (nh Fplc hr (by decide) rfl (mf (pv 0) lv))) (mh (i:=3) scSto.nd rfl (Or.inl rfl)) (ma (p7 ci rfl (aa1 (wk ae0 (ng nu (pv 3) l7 (λ_ _=>rfl)) ab1 (wx l7))) (rj (n:=3) rfl (mn (mh (i:=4) scSto.nd rfl (Or.inl rfl)) (mn (mh (i:=5) scSto.nd rfl (Or.inl rfl)) (mn (mh (i:=6) scSto.nd rfl (Or.inl rfl)) o0)))) (ma (qo (vk da dz ee p9 (aem (eu (fj (by decide) _) hu) (pv 1) (ni (mf (pv 4) (mf (pv 5) lv))) (λ_ _=>rfl)) (mf (pv 3) lv)))))))
  (ma (my (aet rfl rfl (B "list" (by decide)) (pv 1))))))),?_⟩
 refine λD hD hsys=>?_
 generalize gg:upd H D _=H1 at *
 have s1:Same H H1:=(al hD gg).1
 have d1:DN w H1 D [] 0:=by rw[<-gg];exact DN.new hsys
 clear gg
 have P1:=hP.same s1
 refine(me _ rfl pz _ _ _ ⟨rfl,rfl,SqT.of P1.pz,mm (j:=0) rfl,(mw fl M ⟨rfl,P1.fl,λol oys H2 s2 hol0 hol repO=>?_⟩)⟩)
 have lo:=repO.length
 rw[ah]at lo
 have nlD:ol≠D:=λz=>by rw[z,d1.obj]at hol0;cases hol0
 have keep:∀{G:Hp},Ex [D] H2 G->Same H G:=λex b o hb=>ex.at (λz=>by rw[z,hD]at hb;cases hb) (s2 _ _ (s1 _ _ hb))
 refine⟨ol,rfl,⟨_,SqL.of hol⟩,?_⟩
 refine qr (xs:=oys) (λi σ' G=>∃(y2 y3 y4 y5 y6:Option V)(xs:List KA)(ep:Nat),σ'=[some (.ref pz),some (.ref D),y2,y3,y4,y5,y6]/\Ex [D] H2 G/\DN w G D xs ep/\xs.map (·.1)=((oix M (M.h*M.w)).take i).map (cdx M)/\∀x∈xs,∃a,x.2.2=.ref a/\H a=none/\OpsL G M lms.length 1 a) ?_ (λi σ' G hi h=>?_) (λi v σ' G hv h=>?_) (λσ' G h=>?_)
 .exact(l9 _ _ _ _ _ (mw ([]) 0 ⟨rfl,Ex.refl _ _,d1.same s2,rfl,λx hx=>by cases hx⟩))
 .obtain⟨_,_,_,_,_,_,_,_,ex,_⟩:=h
  exact SqL.of (ex.at nlD hol)
 .obtain⟨y2,y3,y4,y5,y6,xs,ep,rfl,ex,dn,kx,hx⟩:=h
  obtain⟨d,hd,rd⟩:=repO.at hv
  rw[aw]at hd
  obtain⟨k,hk,rfl⟩:=bv.mp hd
  obtain⟨ca,rfl,hca⟩:=acv rd
  have nca:ca≠D:=sx hca (d1.same s2).obj (by intro z;cases z)
  have hil:=(ae.mp hk).1
  have lx:xs.length=i:=by
   have:=congrArg List.length kx
   rw[ah,ah,b0]at this
   omega
  have hno:¬(r8 xs (cdx M k)).isSome=true:=λz=>by
   have hm:=valN_mem.mp z
   rw[kx]at hm
   obtain⟨k2,hk2,e2⟩:=bi.mp hm
   have e3:=aaf okM.w1 e2
   subst e3
   obtain⟨j,hj⟩:=cn hk2
   have hjl:=(ae.mp hj).1
   rw[b0]at hjl
   rw[lj,if_pos (by omega)]at hj
   have:=(List.getElem?_inj (by omega) ndO).mp (hj.trans hk.symm)
   omega
  have keys:∀b v,(xq xs (cdx M k) b v)=xs++[(cdx M k,b,v)]:=λb v=>by unfold xq;rw[if_neg hno]
  have hst:∀(G1:Hp)(la:Addr)(ys:List V)(ep2:Nat),Same G G1->G la=none->G1 la=some (.lst ys)->ys.length<=1->(∀y∈ys,y=V.non)->∃xs' ep',DN w (upd G1 D (DNo w D (xq xs (cdx M k) ca (.ref la)) ep2)) D xs' ep'/\xs'.map (·.1)=((oix M (M.h*M.w)).take (i+1)).map (cdx M)/\∀x∈xs',∃a,x.2.2=.ref a/\H a=none/\OpsL (upd G1 D (DNo w D (xq xs (cdx M k) ca (.ref la)) ep2)) M lms.length 1 a:=λG1 la ys ep2 sg hn0 hla hl1 hyn=>by
   have caG:=sg _ _ (ex.at nca hca)
   have d2:DN w (upd G1 D (DNo w D (xq xs (cdx M k) ca (.ref la)) ep2)) D (xq xs (cdx M k) ca (.ref la)) ep2:=(dn.same sg).put (kr2 caG) (mz (by omega)) (.ref la) ep2
   have ob:=(dn.same sg).obj
   have tk:Tk G1 (upd G1 D (DNo w D (xq xs (cdx M k) ca (.ref la)) ep2)):=λb ys h=>by rw[nj (sx h ob (by intro z;cases z))];exact h
   have up:∀a,(∃ys,G1 a=some (.lst ys))->∀o,G1 a=some o->upd G1 D (DNo w D (xq xs (cdx M k) ca (.ref la)) ep2) a=some o:=λa ⟨ys,ha⟩ o h=>by rw[nj (sx ha ob (by intro z;cases z))];exact h
   refine(mw _ _ ⟨d2,?_,λx hx'=>?_⟩)
   .rw[keys,br,kx,nw (cdx M) hk]
    rfl
   .rw[keys]at hx'
    rcases ax.mp hx' with h|h
    .obtain⟨a,e1,ha0,ho⟩:=hx x h
     have ho1:=ho.ex (Tk.of_same sg) λo h=>sg _ _ h
     obtain⟨ys',h1',_⟩:=id ho1
     exact⟨a,e1,ha0,ho1.ex tk (up a ⟨ys',h1'⟩)⟩
    .rw[ao.mp h]
     refine(oe la rfl ((keep ex).free hn0) ys ⟨up la ⟨ys,hla⟩ _ hla,hl1,λy hy=>⟨none,hyn y hy,λq hq=>by cases hq⟩⟩)
  have hPG:=hP.same (keep ex)
  refine(me _ rfl pz _ _ _ ⟨rfl,rfl,SqT.of hPG.pz,mm (j:=0) rfl,(me _ rfl fl ca M (k/M.w) ⟨k % M.w,rfl,hPG.fl,ex.at nca hca,?_⟩)⟩)
  refine⟨_,rfl,u8 (λ_=>?_) (λ_=>?_)⟩
  .refine⟨(by show 0<=sizeLine;decide),λla hla=>?_⟩
   generalize g1:upd G la _=G1 at *
   obtain⟨sg,eg⟩:=al hla g1
   clear g1
   refine(mq _ rfl _ rfl D xs ep (mw (cdx M k) ca ⟨rfl,rfl,dn.same sg,kr2 (sg _ _ (ex.at nca hca)),mz (by omega),λep2=>?_⟩))
   obtain⟨xs',ep',a1,a2,a3⟩:=hst G1 la [] ep2 sg hla eg (dq _) (λy hy=>by cases hy)
   exact(l9 _ _ _ _ _ (mw xs' ep' ⟨rfl,ex.trans ((Ex.of_same sg).trans (Ex.upd (by simp))),a1,a2,a3⟩))
  .refine⟨(by show 1<=sizeLine;decide),λla hla=>?_⟩
   generalize g1:upd G la _=G1 at *
   obtain⟨sg,eg⟩:=al hla g1
   clear g1
   refine(mq _ rfl _ rfl D xs ep (mw (cdx M k) ca ⟨rfl,rfl,dn.same sg,kr2 (sg _ _ (ex.at nca hca)),mz (by omega),λep2=>?_⟩))
   obtain⟨xs',ep',a1,a2,a3⟩:=hst G1 la [V.non] ep2 sg hla eg (am _) (λy hy=>ao.mp hy)
   exact(l9 _ _ _ _ _ (mw xs' ep' ⟨rfl,ex.trans ((Ex.of_same sg).trans (Ex.upd (by simp))),a1,a2,a3⟩))
 .obtain⟨y2,y3,y4,y5,y6,xs,ep,rfl,ex,dn,kx,hx⟩:=h
  rw[a9 (by omega)]at kx
  have hPG:=hP.same (keep ex)
  have sHG:=keep ex
  clear keep
  refine(om _ rfl pz M ks ⟨rfl,hPG.k,λpl pys pds G2 s3 hpl0 hpl repP hraw hL=>?_⟩)
  have lp:=repP.length
  have hlk:ks.length=lms.length:=by rw[<-hP.ks.1,hP.lm.1]
  have lx:xs.length=(oix M (M.h*M.w)).length:=by
   have:=congrArg List.length kx
   rw[ah,ah]at this
   exact this
  have d3:=dn.same s3
  refine⟨pl,rfl,⟨_,SqL.of hpl⟩,?_⟩
  refine qr (xs:=pys) (λj σ' W=>∃(y2 y3 y4 y5 y6:Option V),σ'=[some (.ref pz),some (.ref D),y2,y3,y4,y5,y6]/\Same H W/\Tk G2 W/\W pl=some (.lst pys)/\DN w W D xs ep/\∀x∈xs,∃a,x.2.2=.ref a/\H a=none/\a≠pl/\OpsL W M lms.length (j+1) a) ?_ (λj σ' W hj h=>?_) (λj v σ' W hv h=>?_) (λσ' W h=>?_)
  .refine(l9 _ _ _ _ _ ⟨rfl,sHG.trans s3,Tk.refl _,hpl,d3,λx hx'=>?_⟩)
   obtain⟨a,e1,ha0,ho⟩:=hx x hx'
   exact⟨a,e1,ha0,(λz=>by obtain⟨ys,h1,_⟩:=ho;rw[z,hpl0]at h1;cases h1),(ho.ex (Tk.of_same s3) λo h=>s3 _ _ h)⟩
  .obtain⟨_,_,_,_,_,_,_,_,hp,_⟩:=h
   exact SqL.of hp
  .obtain⟨y2,y3,y4,y5,y6,rfl,sW,tW,hpW,dW,hxW⟩:=h
   have hjl:=(ae.mp hv).1
   obtain⟨d,hd,rd⟩:=repP.at hv
   obtain⟨ss,n,rfl,hss,hs6,hn,hog⟩:=aup (hraw _ (aq hd))
   obtain⟨hpos,_,_⟩:=hog _ rfl
   rw[hlk]at hn
   have rv:OpV G2 M lms.length v (some (ss,n)):=by
    obtain⟨p,_,rfl,_⟩:=id rd
    exact⟨p,rfl,rd,hss,hs6,hn⟩
   have rW:=rv.tk tW
   obtain⟨p,rfl,rp,_⟩:=id rW
   obtain⟨pp,pxs,hpp,hpx,y0,t0,rfl,⟨b,bxs,rfl,hb,repB⟩,y1,t1,rfl,e1,rfl⟩:=id rp
   cases hpp
   have lb:=repB.length
   rw[ah]at lb
   refine(me _ rfl p _ _ _ ⟨rfl,rfl,SqT.of hpx,mm (j:=0) rfl,(oj _ rfl b _ ⟨rfl,hb,λc W1 s4 e4=>?_⟩)⟩)
   have ec:ac4 bxs none (some 1)=bxs.take 1:=am4 (k:=1) (by show 1<=bxs.length;have:0<ss.length:=hpos;omega)
   rw[ec]at e4
   refine⟨c,rfl,⟨_,SqT.of e4⟩,?_⟩
   refine akj (xs:=bxs.take 1) (λi σ' Z=>∃(y4 y5 y6:Option V),σ'=[some (.ref pz),some (.ref D),y2,some (.ref p),y4,y5,y6]/\Same H Z/\Tk G2 Z/\Tk W1 Z/\Z pl=some (.lst pys)/\DN w Z D xs ep/\∀x∈xs,∃a,x.2.2=.ref a/\H a=none/\a≠pl/\OpsL Z M lms.length (j+1+i) a) ?_ (λi σ' Z hi h=>?_) (λi x σ' Z hx' h=>?_) (λσ' Z h=>?_)
   .refine(nq _ _ _ ⟨rfl,sW.trans s4,λb ys h=>s4 _ _ (tW b ys h),Tk.refl _,s4 _ _ hpW,dW.same s4,λx hx'=>?_⟩)
    obtain⟨a,e1,ha0,hap,ho⟩:=hxW x hx'
    exact⟨a,e1,ha0,hap,ho.ex (Tk.of_same s4) λo h=>s4 _ _ h⟩
   .obtain⟨_,_,_,_,_,_,tk1,_⟩:=h
    exact SqT.of (tk1 _ _ e4)
   .obtain⟨y4,y5,y6,rfl,sZ,tZ,tZ1,hpZ,dZ,hxZ⟩:=h
    rw[lj]at hx'
    have hi1:i<1:=by
     by_cases hc:i<1
     .exact hc
     .rw[if_neg hc]at hx';cases hx'
    rw[if_pos hi1]at hx'
    obtain⟨sd,hsd,rsd⟩:=repB.at hx'
    rw[aw]at hsd
    obtain⟨⟨r0,c0,k0⟩,hs,rfl⟩:=bv.mp hsd
    obtain⟨b',rfl,hb',_⟩:=sn rsd
    obtain⟨ho,hk⟩:=hss _ (aq hs)
    have hZb:=tZ1 _ _ (s4 _ _ hb')
    refine(m9 b' _ rfl (SqT.of hZb) rfl _ _ rfl _ (oj _ rfl _ _ ⟨rfl,rfl,?_⟩))
    have hm:cdx M (r0*M.w+c0)∈xs.map (·.1):=by rw[kx];exact jk (aq (xg ho))
    rw[afu ho.2.1]at hm
    obtain⟨v0,hv0⟩:=Option.isSome_iff_exists.mp (valN_mem.mpr hm)
    obtain⟨x0,hx0,_,rfl⟩:=ais hv0
    obtain⟨a,ea,ha0,hap,ho0⟩:=hxZ x0 hx0
    rw[ea]at hv0
    refine(vo _ rfl _ rfl _ ⟨rfl,(by show 2<=sizeLine;decide),λt ht=>?_⟩)
    generalize g1:upd Z t _=Z1 at *
    obtain⟨s5,e5⟩:=al ht g1
    clear g1
    have ho1:=ho0.ex (Tk.of_same s5) λo h=>s5 _ _ h
    obtain⟨ys,hya,hyl,hyo⟩:=id ho1
    refine(l9 D xs ep (clD (r0:Nat) (c0:Nat)) t ⟨_,rfl,rfl,dZ.same s5,kr2 e5,hv0,.inl ⟨rfl,_,SqL.of hya⟩,(om _ rfl a ys _ ⟨rfl,rfl,hya,(by rw[io];omega),?_⟩)⟩)
    have tk:Tk Z1 (upd Z1 a (.lst (ys++[.ref p]))):=Tk.lst hya
    have nDa:D≠a:=λz=>sx (dZ.same s5).obj hya (by intro z;cases z) z
    refine(nq _ _ _ ⟨rfl,(sZ.trans s5).new ha0,(tZ.trans (Tk.of_same s5)).trans tk,(tZ1.trans (Tk.of_same s5)).trans tk,?_,(dZ.same s5).tk tk (by rw[nj nDa];exact(dZ.same s5).obj),λx hx2=>?_⟩)
    .rw[nj (Ne.symm hap)]
     exact s5 _ _ hpZ
    .obtain⟨a2,e2,ha2,hap2,ho2⟩:=hxZ x hx2
     refine⟨a2,e2,ha2,hap2,?_⟩
     by_cases hc:a2=a
     .subst hc
      refine⟨_,mr,by rw[bu];show ys.length+1<=_;omega,λy hy=>?_⟩
      rcases ax.mp hy with h|h
      .obtain⟨o,h1,h2⟩:=hyo y h
       exact⟨o,h1.tk tk,h2⟩
      .rw[ao.mp h]
       exact⟨some (ss,n),(rv.tk (tZ.trans (Tk.of_same s5))).tk tk,hog⟩
     .exact((ho2.ex (Tk.of_same s5) λo h=>s5 _ _ h).ex tk λo h=>by rw[nj hc];exact h).up (by omega)
   .obtain⟨y4,y5,y6,rfl,sZ,tZ,tZ1,hpZ,dZ,hxZ⟩:=h
    refine(l9 _ _ _ _ _ ⟨rfl,sZ,tZ,hpZ,dZ,λx hx'=>?_⟩)
    obtain⟨a,e1,ha0,hap,ho⟩:=hxZ x hx'
    exact⟨a,e1,ha0,hap,ho.up (by rw[b0];omega)⟩
  .obtain⟨y2,y3,y4,y5,y6,rfl,sW,tW,hpW,dW,hxW⟩:=h
   refine(om _ rfl D xs ep ⟨rfl,dW,λl hl=>?_⟩)
   generalize g1:upd W l _=W1 at *
   obtain⟨s4,e4⟩:=al hl g1
   clear g1
   refine q l _ W1 (sW.trans s4) e4 (by rw[ah,lx]) λv hv=>?_
   obtain⟨x,hx',rfl⟩:=bi.mp hv
   obtain⟨a,e1,_,_,ho⟩:=hxW x hx'
   exact⟨a,e1,(ho.ex (Tk.of_same s4) λo h=>s4 _ _ h).up (by omega)⟩
end
set_option pp.maxSteps 3000
def awy(H:Hp)(M:Mat)(nk:Nat)(z:Str)(r:Addr):Prop:=∃ys,H r=some (.lst ys)/\ys.length<=3073/\(∀y∈ys,∃o,OpV H M nk y o/\OpG M o/\Und M z o)/\(63∉z.cps.toList->ys=[])
section
variable{P:Program}{w:World}{K:ai}{mg:Str->Option Value}{base:Heap}{f:Addr}{fd:FuncData}{C:Addr}
def asn(w:World)(C:Addr):Sp:=λvs H Q _=>∃(g dx kr e D nl st l:Addr)(M:Mat)(xs:List KA)(ep:Nat)(nvs avs kvs lvs:List V)(ads:List PyData)(z:Str)(us:List Int) (lms:List (Int×Option Int)),vs=[.ref g,.ref l,.ref st]/\H g=some (.ins C dx (fsG kr e D nl))/\GrF w H D nl M xs ep nvs/\0<M.w/\H e=some (.tup avs)/\RepAll H ads avs/\H kr=some (.tup kvs)/\BndK H kvs lms/\StH H st z us/\us.length=lms.length/\MkF M z/\H l=some (.lst lvs)/\lvs.length=(oix M (M.h*M.w)).length/\(∀v∈lvs,∃a,v=.ref a/\OpsL H M lms.length 3073 a)/\
 ∀(r:Addr)(H':Hp),Same H H'->awy H' M lms.length z r->H r=none->Q (.ref r) H'
theorem aur:mx ["ground","starts","state"] ["ground","starts","state"] (mj at7):={}
theorem arl(B:∀x∈tj,mg x=none)(Fend:Fn P w K mg base "ended" 1 ["state"] aq6)(Ffun:Fn P w K mg base "first_undecided" 1 ["state"] aou)(Fgoe:Fn P w K mg base "goes" 3 ["ground","state","option"] (ary w C))(F:Fun K "options_among" "options_among" at7 f fd):qe P w K mg base CX0 4 f fd ["ground","starts","state"] (asn w C):=by
 refine F.ok (k:=3) aur (λvs H Q E h=>?_) (λcdv A outer s H vs Q E hr h=>?_)
 .obtain⟨_,_,_,_,_,_,_,_,_,_,_,_,_,_,_,_,_,_,_,rfl,_⟩:=h
  rfl
 obtain⟨g,dx,kr,e,D,nl,st,l,M,xs,ep,nvs,avs,kvs,lvs,ads,z,us,lms,rfl,hg,hG,hw,he,repA,hkr,hK,hst,hus,hmk,hl,hll,hlo,q⟩:=h
 obtain⟨u,hs1,hu1⟩:=id hst
 refine⟨_,(lw (qp (su (nh Fend hr (by decide) rfl (mf (pv 2) lv))) (ma (my (ph lv))) o7)
  (ma (my (oq ["option","ground","state"] [none,some 0,some 2] rfl rfl (by decide +kernel) (by decide +kernel) rfl rfl (n0 (ng o9 (pv 1) (nh Ffun hr (by decide) rfl (mf (pv 2) lv)) (λ_ _=>rfl))) (λ_=>(mh (i:=0) (show(["option","ground","state"]:List PySem.Str).Nodup by decide +kernel) rfl (Or.inl rfl))) (λ_=>tq (su (nh Fgoe hr (by decide) rfl (mf (pv 1) (mf (pv 2) (mf (pv 0) lv)))))) (λ_=>(pv 0)))))),?_⟩
 refine(om _ rfl st z _ ⟨rfl,hs1,_,rfl,?_⟩)
 cases hc:z.cps.toList.contains 63 with
 | false=>
  have hno:63∉z.cps.toList:=λhm=>by rw[jr.mpr hm]at hc;cases hc
  refine si ⟨(by show 0<=sizeLine;decide),λr hr0=>?_⟩
  exact q r _ (Same.fresh _ hr0) ⟨[],mr,dq _,(λy hy=>by cases hy),λ_=>rfl⟩ hr0
 | true=>
  have h63:63∈z.cps.toList:=jr.mp hc
  refine xt ?_
  refine(mq _ rfl _ rfl st z _ ⟨rfl,hs1,h63,λi hi _=>?_⟩)
  have hil:=(ae.mp hi).1
  have hil2:i<lvs.length:=by rw[hll,<-hmk.len];exact hil
  obtain⟨a,ea,ys,hya,hyl,hyo⟩:=hlo _ (dv hil2)
  refine(m8 l _ _ _ ⟨rfl,rfl,SqL.of hl,mm (ab hil2),a,ea,⟨_,SqL.of hya⟩,λR hR=>?_⟩)
  refine ny (xs:=ys) (λi zs G=>Same H G/\∀y∈zs,∃o,OpV G M lms.length y o/\OpG M o/\Und M z o) ⟨Same.fresh _ hR,λy hy=>by cases hy⟩ (λi zs G p=>SqL.of (p.1 _ _ hya)) (λi x zs G hx hi hDy hzl p=>?_) (λzs G hDy hzl p=>?_)
  .obtain⟨p1,p2⟩:=p
   obtain⟨o,ho,hog⟩:=hyo x (aq hx)
   have hoG:=ho.tk (Tk.of_same p1)
   refine⟨Agree.set (Agree.refl _) rfl,?_⟩
   refine(og _ rfl _ rfl _ rfl g dx (l9 kr e D nl st (l9 M xs ep nvs avs (l9 kvs ads z us lms (mw x o ⟨rfl,p1 _ _ hg,hG.same p1,hw,p1 _ _ he,repA.same p1,p1 _ _ hkr,hK.same p1,hst.same p1,hus,hmk,hoG,λt G2 s2 htt=>⟨_,rfl,?_⟩⟩)))))
   have old:∀y∈zs,∃o,OpV G2 M lms.length y o/\OpG M o/\Und M z o:=λy hy=>by
    obtain⟨o',h1,h2⟩:=p2 y hy
    exact⟨o',h1.tk (Tk.of_same s2),h2⟩
   have hD2:=s2 _ _ hDy
   cases t with
   | false=>exact xt ⟨_,hD2,gp hzl,p1.trans s2,old⟩
   | true=>
    refine si ⟨_,rfl,aob (by omega) hD2 hzl ⟨(p1.trans s2).new hR,λy hy=>?_⟩⟩
    rcases ax.mp hy with h|h
    .obtain⟨o',h1,h2⟩:=old y h
     exact⟨o',h1.tk (Tk.lst hD2),h2⟩
    .rw[ao.mp h]
     exact⟨o,(hoG.tk (Tk.of_same s2)).tk (Tk.lst hD2),hog,htt rfl⟩
  .obtain⟨p1,p2⟩:=p
   exact q R G p1 ⟨zs,hDy,by omega,p2,λhno=>absurd h63 hno⟩ hR
def aqr:Sp:=λvs H Q _=>∃(pz fl kr e st:Addr)(M:Mat)(kvs:List V) (ks:List (List PyData×Nat)) (lms:List (Int×Option Int)) (avs:List V) (ads:List PyData) (z:Str) (us:List Int),vs=[.ref pz,.ref st]/\PzB H pz fl kr e M kvs ks lms avs ads/\StH H st z us/\us.length=lms.length/\MkF M z/\
 ∀(r:Addr)(H':Hp),Same H H'->awy H' M lms.length z r->H r=none->Q (.ref r) H'
theorem awd:mx ["puzzle","state"] ["puzzle","state"] (mj awh):={}
theorem ard(FG:FnM P w K mg base "Ground" C 3 ["self","puzzle"] (ak6 w C))(Fsto:Fn P w K mg base "starting_options" 7 ["puzzle"] aqn)(Fopa:Fn P w K mg base "options_among" 4 ["ground","starts","state"] (asn w C))(F:Fun K "options" "options" awh f fd):qe P w K mg base CX0 8 f fd ["puzzle","state"] aqr:=by
 refine F.ok (k:=7) awd (λvs H Q E h=>?_) (λcdv A outer s H vs Q E hr h=>?_)
 .obtain⟨_,_,_,_,_,_,_,_,_,_,_,_,_,rfl,_⟩:=h
  rfl
 obtain⟨pz,fl,kr,e,st,M,kvs,ks,lms,avs,ads,z,us,rfl,hP,hst,hus,hmk,q⟩:=h
 refine⟨_,(ma (my (nh Fopa hr (by decide) rfl (mf (asg FG hr (by decide) rfl (mf (pv 0) lv)) (mf (nh Fsto hr (by decide) rfl (mf (pv 0) lv)) (mf (pv 1) lv)))))),?_⟩
 refine⟨_,rfl,λx dx hx hd hne=>?_⟩
 have sL:=ad2 (C:=C) hx hd
 refine(l9 x dx pz fl kr (mw e M ⟨rfl,mr,sL _ _ hP.pz,hP.fl.same sL,λD nl xs ep nvs H1 ex h1 hG=>⟨rfl,?_⟩⟩))
 have s1:=aak hx hd ex
 refine(me _ rfl pz fl kr e (l9 M kvs ks lms avs ⟨ads,rfl,hP.same s1,λl lvs H2 s2 hl hll hlo=>?_⟩))
 have s12:=s1.trans s2
 have P2:=hP.same s12
 refine(me _ rfl x dx kr e (l9 D nl st l M (l9 xs ep nvs avs kvs (l9 lvs ads z us lms ⟨rfl,s2 _ _ h1,hG.same s2,hP.fl.2.w1,P2.ap,P2.ra,P2.kr,P2.lm,hst.same s12,hus,hmk,hl,hll,hlo,λr H3 s3 ho hr0=>?_⟩))))
 exact q r H3 (s12.trans s3) ho (s12.free hr0)
end
theorem aw1:(0:Int)<2^(Int.toNat 61)-1:=by decide
theorem aw7:(0:Int)<10^(Int.toNat 30):=by decide
theorem atv{α:Type}{xs:List α}{i:Int}(h0:0<=i)(h1:i<xs.length):∃x,atI xs i=some x/\x∈xs:=by
 obtain⟨j,rfl⟩:=fw h0
 have hj:j<xs.length:=by omega
 exact⟨xs[j],mm (ab hj),dv hj⟩
def StL(n:List V):Prop:=∃(x:Int)(ns:List Int),n=V.int x::ns.map V.int/\ns.length<=70
set_option pp.maxSteps 3000
section
variable{P:Program}{w:World}{K:ai}{mg:Str->Option Value}{base:Heap}{f:Addr}{fd:FuncData}
def amx:Sp:=λvs H Q _=>∃(st:Addr)(n:List V)(m:Int),vs=[.ref st,.int m]/\H st=some (.lst n)/\StL n/\0<m/\m<=4000/\∀(n':List V)(i:Int)(H':Hp),Ex [st] H H'->H' st=some (.lst n')->StL n'->0<=i->i<m->Q (.int i) H'
theorem scNext:mx ["_law_state_here","_law_many","_law_digit"] ["_law_state_here","_law_many"] (mj apd):={}
theorem aoe(B:∀x∈tj,mg x=none)(F:Fun K "_law_next" "_law_next" apd f fd):qe P w K mg base CX0 1 f fd ["_law_state_here","_law_many"] amx:=by
 refine F.ok (k:=0) scNext (λvs H Q E h=>?_) (λcdv A outer s H vs Q E hr h=>?_)
 .obtain⟨st,n,m,rfl,_⟩:=h
  rfl
 obtain⟨st,_,m,rfl,hst,⟨x,ns,rfl,h70⟩,hm,hm1,q⟩:=h
 have hu:=hr.units
 refine⟨_,(lw (qp (oo alw (p8 oh rfl (B "len" (by decide)) ft (mf (pv 0) lv)) l7 (oz _)) (lw (nc (i:=2) scNext.nd rfl (Or.inl rfl) (ow yz (ng o9 (pv 0) l7 (λ_ _=>rfl)) (pv 1)))
  (lw (xj (ow afi (ng o9 (pv 0) l7 (λ_ _=>rfl)) (pv 1)) (afq (pv 0) l7 yo))
  (lw (qp (PW.pt (zm (oo (af7 hu) (ng o9 (pv 0) l7 (λ_ _=>rfl)) (ni (mf l7 (mf (apa aiv l7) lv))) rfl) (vi (oo alw (p8 oh rfl (B "len" (by decide)) ft (mf (pv 0) lv)) l7 (oz _))))) (ma (qo (vk da PySem.F.slot_list_pop PySem.F.type_list_pop als (pv 0) (mf l7 lv)))) o7)
  (ma (my (pv 2)))))) o7)
  (lw (xj (ow yz (ow qg (ow amv (ng o9 (pv 0) l7 (λ_ _=>rfl)) l7) l7) (ow u6 (ow akc l7 l7) l7)) (afq (pv 0) l7 yo))
  (ma (my (ow yz (ow afi (ng o9 (pv 0) l7 (λ_ _=>rfl)) l7) (pv 1)))))),?_⟩
 refine(n8 _ rfl st _ rfl (.inl (SqL.of hst)) _ (oe _ rfl rfl _ ⟨rfl,u8 (λh1=>?_) (λ_=>?_)⟩))
 .refine(me _ rfl st _ _ _ ⟨rfl,rfl,SqL.of hst,mm (j:=0) rfl,(oj _ rfl _ _ ⟨rfl,rfl,hm,?_⟩)⟩)
  refine(me _ rfl st _ _ _ ⟨rfl,rfl,SqL.of hst,mm (j:=0) rfl,(oj _ rfl _ _ ⟨rfl,rfl,⟨hm,by omega⟩,?_⟩)⟩)
  refine(me _ rfl st _ _ 0 ⟨rfl,rfl,hst,abn (j:=0) (Nat.succ_pos _),?_⟩)
  generalize g1:upd H st _=H1 at *
  have ex1:Ex [st] H H1:=by rw[<-g1];exact Ex.upd (by simp)
  have e1:H1 st=some (.lst (V.int (x/m)::ns.map V.int)):=by rw[<-g1];exact mr
  clear g1
  have r1:=Int.emod_nonneg x (b:=m) (by omega)
  have r2:=Int.emod_lt_of_pos x hm
  refine(me _ rfl st _ _ _ ⟨rfl,rfl,SqL.of e1,mm (j:=0) rfl,_,rfl,(by show 2<=sizeLine;decide),λt ht=>?_⟩)
  generalize g1:upd H1 t _=H2 at *
  obtain⟨s2,e2⟩:=al ht g1
  clear g1
  have e3:=s2 _ _ e1
  have ex3:=ex1.trans (Ex.of_same s2)
  refine(m8 (.int (x/m)) t _ ([.int 0,.int (-1)]) ⟨rfl,rfl,.inr e2,(v9 _ _ rfl rfl _ _ ⟨rfl,rfl,rfl⟩),(by simp[jh]),_,rfl,?_⟩)
  refine u8 (λ_=>?_) (λ_=>xt ?_)
  .refine(n8 _ rfl st _ rfl (.inl (SqL.of e3)) _ (oe _ rfl rfl _ ⟨rfl,u8 (λh2=>?_) (λ_=>?_)⟩))
   .obtain _|⟨y,ns'⟩:=ns
    .simp at h2
    refine(oe _ rfl (.inl ⟨rfl,_,SqL.of e3⟩) st (m8 _ 0 0 _ ⟨rfl,rfl,e3,by decide,by decide,(by simp[seqIndex?];omega),rfl,?_⟩))
    rw[b8]at h70
    exact⟨_,rfl,q _ _ _ (ex3.trans (Ex.upd (by simp))) mr (mw y ns' ⟨rfl,by omega⟩) r1 r2⟩
   .exact⟨_,rfl,q _ _ _ ex3 e3 (mw _ ns ⟨rfl,h70⟩) r1 r2⟩
  .exact⟨_,rfl,q _ _ _ ex3 e3 (mw _ ns ⟨rfl,h70⟩) r1 r2⟩
 .refine(me _ rfl st _ _ _ ⟨rfl,rfl,SqL.of hst,mm (j:=0) rfl,(aan _ _ rfl rfl (.inr ⟨by decide,by decide⟩) _ _ ⟨rfl,rfl,(aan _ _ rfl rfl ⟨by decide,by decide,by decide⟩ _ _ ⟨rfl,rfl,(mw _ _ ⟨rfl,rfl,aw1,?_⟩)⟩)⟩)⟩)
  refine(me _ rfl st _ _ 0 ⟨rfl,rfl,hst,abn (j:=0) (Nat.succ_pos _),?_⟩)
  refine(me _ rfl st _ _ _ ⟨rfl,rfl,SqL.of mr,mm (j:=0) rfl,(mw _ _ ⟨rfl,rfl,⟨by decide,by decide⟩,(oj _ rfl _ _ ⟨rfl,rfl,hm,?_⟩)⟩)⟩)
  exact q _ _ _ (Ex.upd (by simp)) mr (mw _ ns ⟨rfl,h70⟩) (Int.emod_nonneg _ (by omega)) (Int.emod_lt_of_pos _ hm)
noncomputable abbrev abf(P:Program)(w:World)(K:ai)(mg:Str->Option Value)(base:Heap):Prop:=Fn P w K mg base "_law_next" 1 ["_law_state_here","_law_many"] amx
def ari(K:ai):Sp:=λvs H Q _=>∃(a:Addr)(ns:List Int),vs=[.ref a]/\SqL K H a (ns.map V.int)/\ns.length<=63/\∀(p:Addr)(n:List V)(H':Hp),Same H H'->H p=none->H' p=some (.lst n)->StL n->Q (.ref p) H'
theorem scDrw:mx ["_law_script","_law_seed","_law_cell"] ["_law_script"] (mj avl):={}
theorem ak5{K:ai}{H H':Hp}{a:Addr}{xs:List V}(h:SqL K H a xs)(k:∀o,H a=some o->H' a=some o):SqL K H' a xs:=by
 rcases h with (h|⟨o,h⟩)|h
 .exact .inl (.inl (k _ h))
 .exact .inl (.inr ⟨o,k _ h⟩)
 .exact .inr h
theorem aqe(B:∀x∈tj,mg x=none)(F:Fun K "_law_drawn" "_law_drawn" avl f fd):qe P w K mg base CX0 1 f fd ["_law_script"] (ari K):=by
 refine F.ok (k:=0) scDrw (λvs H Q E h=>?_) (λcdv A outer s H vs Q E hr h=>?_)
 .obtain⟨_,_,rfl,_⟩:=h
  rfl
 obtain⟨a,ns,rfl,ha,h63,q⟩:=h
 refine⟨_,(lw (qp (PW.pt (zm (oo alw (p8 oh rfl (B "len" (by decide)) ft (mf (pv 0) lv)) l7 (oz _)) (vi (oo zh (ow yz (ng o9 (pv 0) l7 (λ_ _=>rfl)) l7) l7 (oz _))))) (ma (my (ow ajg (ow ajg (ph (mf (ow afi (ng o9 (pv 0) l7 (λ_ _=>rfl)) l7) lv)) (wk anz (pv 0) (wx l7) (wx l7))) (ph (mf l7 lv))))) o7)
  (lw (nc (i:=1) scDrw.nd rfl (Or.inl rfl) l7)
  (lw (p7 ci rfl (n0 (pv 0)) (mh (i:=2) scDrw.nd rfl (Or.inl rfl)) (ma (nc (i:=1) scDrw.nd rfl (Or.inl rfl) (ow yz (ow qg (ow qg (ow amv (pv 1) l7) (ow yz (pv 2) (ow akc l7 l7))) l7) (ow u6 (ow akc l7 l7) l7)))))
  (ma (my (ph (mf (pv 1) lv))))))),?_⟩
 refine(n8 _ rfl a _ rfl (.inl ha) _ (oe _ rfl rfl _ ⟨rfl,u8 (λh1=>?p1) (λ_=>xt ?f1)⟩))
 case' p1=>
  rw[ah]at h1
  have hpos:0<ns.length:=by simpa using h1
  have hx:(ns.map V.int)[0]?=some (.int (ns[0]'hpos)):=by rw[aw,ab hpos];rfl
  refine(me _ rfl a _ _ _ ⟨rfl,rfl,ha,mm (j:=0) hx,(mw _ _ ⟨rfl,rfl,(by show(0:Int)<2;decide),rfl,_,rfl,u8 (λ_=>?ret) (λ_=>?f2)⟩)⟩)
 case ret=>
  refine(me _ rfl a _ _ _ ⟨rfl,rfl,ha,mm (j:=0) hx,(mw _ _ ⟨rfl,rfl,⟨by decide,by decide⟩,(by show 1<=sizeLine;decide),λl1 hl1=>?_⟩)⟩)
  generalize g1:upd H l1 _=H1 at *
  obtain⟨s1,e1⟩:=al hl1 g1
  clear g1
  refine(og _ rfl _ rfl _ rfl a _ ⟨rfl,ak5 ha λo h=>s1 _ _ h,λl2 hl2=>?_⟩)
  generalize g1:upd H1 l2 _=H2 at *
  obtain⟨s2,e2⟩:=al hl2 g1
  clear g1
  obtain⟨ms,em,lm⟩:∃ms:List Int,ac4 (ns.map V.int) (some 1) (some 63)=ms.map V.int/\ms.length<=63:=by
   refine⟨(ns.drop (HT.sIx (ns.map V.int).length 0 (some 1))).take (HT.sIx (ns.map V.int).length (ns.map V.int).length (some 63)-HT.sIx (ns.map V.int).length 0 (some 1)),?_,?_⟩
   .unfold ac4
    rw[List.map_take,List.map_drop]
   .rw[b0,gk]
    omega
  rw[em]at e2
  refine(m8 l1 l2 _ _ ⟨rfl,rfl,s2 _ _ e1,e2,gc (mz (by rw[ah];show 1+ms.length<=1000;omega)),λl3 hl3=>?_⟩)
  generalize g1:upd H2 l3 _=H3 at *
  obtain⟨s3,e3⟩:=al hl3 g1
  clear g1
  refine⟨(by show 1<=sizeLine;decide),λl4 hl4=>?_⟩
  generalize g1:upd H3 l4 _=H4 at *
  obtain⟨s4,e4⟩:=al hl4 g1
  clear g1
  refine(m8 l3 l4 _ _ ⟨rfl,rfl,s4 _ _ e3,e4,gc (mz (by rw[bu,ah];show 1+ms.length+1<=1000;omega)),λl5 hl5=>?_⟩)
  generalize g1:upd H4 l5 _=H5 at *
  obtain⟨s5,e5⟩:=al hl5 g1
  clear g1
  have s14:=((s1.trans s2).trans s3).trans s4
  exact q l5 _ H5 (s14.trans s5) (s14.free hl5) e5 (mw _ (ms++[0]) ⟨by rw[br];rfl,by rw[bu];show ms.length+1<=70;omega⟩)
 all_goals
  refine(pk _ rfl a ⟨rfl,⟨_,ha⟩,?_⟩)
  refine qr (xs:=ns.map V.int) (λi σ' G=>∃(n:Int)(y:Option V),σ'=[some (.ref a),some (.int n),y]/\G=H) (mw _ _ ⟨rfl,rfl⟩) (λi σ' G hi h=>by obtain⟨_,_,_,rfl⟩:=h;exact ha) (λi x σ' G hx h=>?_) (λσ' G h=>?_)
  .obtain⟨n,y,rfl,rfl⟩:=h
   rw[aw]at hx
   obtain⟨c,_,rfl⟩:=bv.mp hx
   refine(uv _ rfl _ _ rfl rfl (.inr ⟨by decide,by decide⟩) _ ⟨rfl,(aan _ _ rfl rfl ⟨by decide,by decide,by decide⟩ _ _ ⟨rfl,rfl,aw7,(ox _ _ rfl rfl _ _ rfl rfl _ ⟨_,rfl,rfl,⟨by decide,by decide,by decide⟩,(v9 _ _ rfl rfl _ _ ⟨rfl,rfl,aw1,?_⟩)⟩)⟩)⟩)
   exact(mw _ _ ⟨rfl,rfl⟩)
  .obtain⟨n,y,rfl,rfl⟩:=h
   refine⟨_,rfl,(by show 1<=sizeLine;decide),λp hp=>?_⟩
   exact q p _ _ (Same.fresh _ hp) hp mr (mw n ([]) ⟨rfl,dq _⟩)
end
theorem yf{H:Hp}{cs:List PyData}{xs:List V}{i:Nat}{v:V}(h:Cells cs)(r:RepAll H cs xs)(e:xs[i]?=some v):∃(a:Addr)(p q:Int),v=.ref a/\H a=some (.tup [.int p,.int q])/\cs[i]?=some (.tuple [.int p,.int q]):=by
 obtain⟨d,e1,e2⟩:=r.at e
 obtain⟨p,q,rfl⟩:=h d (aq e1)
 obtain⟨a,e3,e4⟩:=alz e2
 exact(nq a p q ⟨e3,e4,e1⟩)
theorem an4{ds:List PyData}{r c:Int}(hcs:Cells ds)(hnd:(ds.map cl).Nodup)(hnew:(!(ds.any λe=>cj e (.tuple [.int r,.int c])))=true)(hl:(PyData.tuple [.int r,.int c]).canLay0=true):((ds++[PyData.tuple [.int r,.int c]]).map cl).Nodup:=by
 rw[br,List.nodup_append]
 refine⟨hnd,by simp,λx hx y hy=>?_⟩
 have ey:y=(r,c):=ao.mp hy
 intro exy
 rw[exy,ey]at hx
 obtain⟨z,hz,ez⟩:=bi.mp hx
 obtain⟨r0,c0,rfl⟩:=hcs z hz
 have ez':(r0,c0)=(r,c):=ez
 injection ez' with e1 e2
 rw[Bool.not_eq_true',List.any_eq_false]at hnew
 exact hnew _ hz (by rw[e1,e2];exact SeqAt.eqv_refl _ hl)
theorem aab{j:Nat}(h:j<3):∃k,(ba "AAB").cps.toList[j]?=some k/\65<=k/\k<=90:=by
 have:∀j<3,∃k,(ba "AAB").cps.toList[j]?=some k/\65<=k/\k<=90:=λj hj=>by
  match j,hj with
  | 0,_=>exact⟨65,by decide +kernel,by decide,by decide⟩
  | 1,_=>exact⟨65,by decide +kernel,by decide,by decide⟩
  | 2,_=>exact⟨66,by decide +kernel,by decide,by decide⟩
 exact this j h
theorem an0{st a:Addr}{H H':Hp}(ex:Ex [st] H H')(n:a≠st)(h:H' a=none):H a=none:=by
 cases z:H a with
 | none=>rfl
 | some o=>have z':=ex a o (by simpa using n) z;rw[z']at h;cases h
theorem aia{ds:List PyData}(t l:Int)(h:∀d∈ds,SgD d):pj (ds.map (aa9 t l))=true:=Spots.imm λd hd=>by
 obtain⟨x,hx,rfl⟩:=bi.mp hd
 obtain⟨r,c,k,rfl,_⟩:=h x hx
 exact(nq _ _ _ rfl)
set_option pp.maxSteps 3000
section
variable{P:Program}{w:World}{K:ai}{mg:Str->Option Value}{base:Heap}{f:Addr}{fd:FuncData}
def am5:Sp:=λvs H Q _=>∃(st:Addr)(n:List V)(m:Int),vs=[.ref st,.int m]/\H st=some (.lst n)/\StL n/\0<m/\m<=6/\
 ∀(r:Addr)(H':Hp)(n':List V)(es:List PyData),Ex [st] H H'->H' st=some (.lst n')->StL n'->Zr es->Rep H' (.tuple es) (.ref r)->Q (.ref r) H'
theorem scForm:mx ["_law_state_here","_law_most","_law_cells_here","_law_k","_law_row","_law_column","_law_down","_law_right","_law_top","_law_left"] ["_law_state_here","_law_most"] (mj ao7):={}
theorem ao5(B:∀x∈tj,mg x=none)(Fnext:abf P w K mg base)(F:Fun K "_law_form" "_law_form" ao7 f fd):qe P w K mg base CX0 2 f fd ["_law_state_here","_law_most"] am5:=by
 refine F.ok (k:=1) scForm (λvs H Q E h=>?_) (λcdv A outer s H vs Q E hr h=>?_)
 .obtain⟨_,_,_,rfl,_⟩:=h
  rfl
 obtain⟨st,n,m,rfl,hst,hn,hm0,hm1,q⟩:=h
 have hu:=hr.units
 refine⟨_,(lw (nc (i:=2) scForm.nd rfl (Or.inl rfl) (ph (mf (ni (mf l7 (mf l7 lv))) lv)))
  (lw (p7 ci rfl (zp rfl (B "range" (by decide)) (mf (nh Fnext hr (by decide) rfl (mf (pv 0) (mf (pv 1) lv))) lv)) (mh (i:=3) scForm.nd rfl (Or.inl rfl)) (lw (xj (ng o9 (pv 2) (nh Fnext hr (by decide) rfl (mf (pv 0) (mf (p8 oh rfl (B "len" (by decide)) ft (mf (pv 2) lv)) lv))) (λ_ _=>rfl)) (rj (n:=2) rfl (mn (mh (i:=4) scForm.nd rfl (Or.inl rfl)) (mn (mh (i:=5) scForm.nd rfl (Or.inl rfl)) o0))))
  (lw (xj (ng o9 (ph (mf (ni (mf l7 (mf l7 lv))) (mf (ni (mf l7 (mf l7 lv))) (mf (ni (mf l7 (mf (apa aiv l7) lv))) (mf (ni (mf (apa aiv l7) (mf l7 lv))) lv))))) (nh Fnext hr (by decide) rfl (mf (pv 0) (mf l7 lv))) (λ_ _=>rfl)) (rj (n:=2) rfl (mn (mh (i:=6) scForm.nd rfl (Or.inl rfl)) (mn (mh (i:=7) scForm.nd rfl (Or.inl rfl)) o0))))
  (ma (qp (oo (aik hu) (ni (mf (ow qg (pv 4) (pv 6)) (mf (ow qg (pv 5) (pv 7)) lv))) (pv 2) rfl) (ma (qo (vk da dz ee p9 (pv 2) (mf (ni (mf (ow qg (pv 4) (pv 6)) (mf (ow qg (pv 5) (pv 7)) lv))) lv)))) o7)))))
  (lw (nc (i:=8) scForm.nd rfl (Or.inr rfl) (p8 (ac1 rfl) rfl (B "min" (by decide)) boot_min (mf (oq ["_law_cell"] [none] rfl rfl (by decide +kernel) (by decide +kernel) rfl rfl (n0 (pv 2)) (λ_=>(mh (i:=0) (show(["_law_cell"]:List PySem.Str).Nodup by decide +kernel) rfl (Or.inl rfl))) (λ_=>o8) (λ_=>(ng u9 (pv 0) l7 (λ_ _=>rfl)))) lv)))
  (lw (nc (i:=9) scForm.nd rfl (Or.inr rfl) (p8 (ac1 rfl) rfl (B "min" (by decide)) boot_min (mf (oq ["_law_cell"] [none] rfl rfl (by decide +kernel) (by decide +kernel) rfl rfl (n0 (pv 2)) (λ_=>(mh (i:=0) (show(["_law_cell"]:List PySem.Str).Nodup by decide +kernel) rfl (Or.inl rfl))) (λ_=>o8) (λ_=>(ng u9 (pv 0) l7 (λ_ _=>rfl)))) lv)))
  (ma (my (wv ou rfl (B "tuple" (by decide)) li (mf (p8 xo rfl (B "sorted" (by decide)) boot_sorted (mf (oq ["_law_row","_law_column","_law_top","_law_left","_law_state_here"] [none,none,some 8,some 9,some 0] rfl rfl (by decide +kernel) (by decide +kernel) rfl rfl (n0 (pv 2)) (λ_=>(qv (n:=2) rfl (mn (mh (i:=0) (show(["_law_row","_law_column","_law_top","_law_left","_law_state_here"]:List PySem.Str).Nodup by decide +kernel) rfl (Or.inl rfl)) (mn (mh (i:=1) (show(["_law_row","_law_column","_law_top","_law_left","_law_state_here"]:List PySem.Str).Nodup by decide +kernel) rfl (Or.inl rfl)) o0)))) (λ_=>o8) (λ_=>(ni (mf (ow u6 (pv 0) (pv 2)) (mf (ow u6 (pv 1) (pv 3)) (mf (ng xk o6 (nh Fnext hr (by decide) rfl (mf (pv 4) (mf l7 lv))) (λ_ _=>rfl)) lv)))))) lv)) lv)))))))),?_⟩
 refine⟨(by show 2<=sizeLine;decide),λp1 hp1=>?_⟩
 generalize g1:upd H p1 _=Ha at *
 obtain⟨sa,ea⟩:=al hp1 g1
 clear g1
 refine⟨(by show 1<=sizeLine;decide),λp2 hp2=>?_⟩
 generalize g1:upd Ha p2 _=H1 at *
 obtain⟨sb,c1⟩:=al hp2 g1
 clear g1
 have hp2H:=sa.free hp2
 have n2:st≠p2:=pf hst hp2H
 have s1:=sa.trans sb
 have b1:=sb _ _ ea
 have st1:=s1 _ _ hst
 have nb:p1≠st:=sx b1 st1 (by intro z;cases z)
 refine(mq _ rfl _ rfl st n m ⟨rfl,st1,hn,hm0,by omega,λn' j Hj exj stj hnj hj0 hj1=>⟨j,rfl,by omega,by omega,?_⟩⟩)
 refine qj (n:=j.toNat) (lo:=0) (λi σ' G=>∃(x3 x4 x5 x6 x7 x8 x9:Option V)(n':List V)(xs:List V)(cs:List PyData),σ'=[some (.ref st),some (.int m),some (.ref p2),x3,x4,x5,x6,x7,x8,x9]/\Ex [st] H G/\G st=some (.lst n')/\StL n'/\G p2=some (.lst xs)/\RepAll G cs xs/\Cells cs/\(cs.map cl).Nodup/\0<cs.length/\cs.length<=i+1) ?_ (λi σ' G hi h=>?_) (λσ' G h=>?_)
 .refine(l9 _ _ _ _ _ (l9 _ _ n' ([.ref p1]) ([.tuple [.int 0,.int 0]]) ⟨rfl,(Ex.of_same s1).trans exj,stj,hnj,exj.at (Ne.symm n2) c1,(mw _ _ ⟨rfl,ux (exj.at nb b1),rfl⟩),λd hd=>?_,by simp,by simp,by simp⟩))
  rw[ao.mp hd]
  exact(mw 0 0 rfl)
 .obtain⟨x3,x4,x5,x6,x7,x8,x9,n1,xs,cs,rfl,ex,hs,hn1,hp,rep,hcs,hnd,hpos,hlen⟩:=h
  have hxl:=rep.length
  refine(og _ rfl _ rfl _ rfl p2 xs ⟨rfl,.inl (SqL.of hp),(nq st n1 _ ⟨rfl,hs,hn1,by omega,by omega,λn3 i2 GA xA stA hnA h20 h21=>?_⟩)⟩)
  obtain⟨j2,rfl⟩:=fw h20
  have hj2:j2<xs.length:=by omega
  obtain⟨b,r,c,hv,hb,hdat⟩:=yf hcs rep (ab hj2)
  have nbs:b≠st:=sx hb hs (by intro z;cases z)
  have exA:=ex.trans xA
  have pA:=xA.at (Ne.symm n2) hp
  have rA:=rep.tk (xA.one hs) hcs.imm
  refine(m8 p2 xs _ (.ref b) ⟨rfl,rfl,SqL.of pA,mm (by rw[ab hj2,hv]),(m9 b _ rfl (SqT.of (xA.at nbs hb)) rfl _ _ rfl _ ⟨_,rfl,rfl,?_⟩)⟩)
  refine⟨(by show 2<=sizeLine;decide),λq1 hq1=>?_⟩
  generalize g1:upd GA q1 _=G1 at *
  obtain⟨t1,u1⟩:=al hq1 g1
  clear g1
  refine⟨(by show 2<=sizeLine;decide),λq2 hq2=>?_⟩
  generalize g1:upd G1 q2 _=G2 at *
  obtain⟨t2,u2⟩:=al hq2 g1
  clear g1
  refine⟨_,rfl,(by show 2<=sizeLine;decide),λq3 hq3=>?_⟩
  generalize g1:upd G2 q3 _=G3 at *
  obtain⟨t3,u3⟩:=al hq3 g1
  clear g1
  refine⟨_,rfl,(by show 2<=sizeLine;decide),λq4 hq4=>?_⟩
  generalize g1:upd G3 q4 _=G4 at *
  obtain⟨t4,u4⟩:=al hq4 g1
  clear g1
  refine⟨(by show 4<=sizeLine;decide),λq5 hq5=>?_⟩
  generalize g1:upd G4 q5 _=G5 at *
  obtain⟨t5,u5⟩:=al hq5 g1
  clear g1
  have tA:Same GA G5:=(((t1.trans t2).trans t3).trans t4).trans t5
  have four:∀m:Nat,m<4->∃(b':Addr)(d e:Int),[V.ref q1,.ref q2,.ref q3,.ref q4][m]?=some (.ref b')/\G5 b'=some (.tup [.int d,.int e]):=λm hm=>by
   match m,hm with
   | 0,_=>exact(nq q1 _ _ ⟨rfl,t5 _ _ (t4 _ _ (t3 _ _ (t2 _ _ u1)))⟩)
   | 1,_=>exact(nq q2 _ _ ⟨rfl,t5 _ _ (t4 _ _ (t3 _ _ u2))⟩)
   | 2,_=>exact(nq q3 _ _ ⟨rfl,t5 _ _ (t4 _ _ u3)⟩)
   | 3,_=>exact(nq q4 _ _ ⟨rfl,t5 _ _ u4⟩)
  have stB:=tA _ _ stA
  have nq5:q5≠st:=λe=>by rw[e,stB]at u5;cases hn3:hnA;rename_i h;obtain⟨_,h,_⟩:=h;rw[h]at u5;simp at u5
  refine(om _ rfl st n3 4 ⟨rfl,stB,hnA,by decide,by decide,λn4 i3 GC xC stC hnC h30 h31=>?_⟩)
  obtain⟨j3,rfl⟩:=fw h30
  obtain⟨b',d,e,hb',hbd⟩:=four j3 (by omega)
  have nb':b'≠st:=sx hbd stB (by intro z;cases z)
  have exC:=(exA.trans (Ex.of_same tA)).trans xC
  have pC:=xC.at (Ne.symm n2) (tA _ _ pA)
  have rC:=(rA.same tA).tk (xC.one stB) hcs.imm
  refine(m8 q5 _ _ (.ref b') ⟨rfl,rfl,SqL.of (xC.at nq5 u5),mm hb',(m9 b' _ rfl (SqT.of (xC.at nb' hbd)) rfl _ _ rfl _ ⟨_,rfl,rfl,?_⟩)⟩)
  refine(sj _ rfl _ rfl _ _ rfl rfl _ ⟨rfl,(oj _ rfl _ _ ⟨rfl,rfl,(by show 2<=sizeLine;decide),λt6 ht6=>?_⟩)⟩)
  generalize g1:upd GC t6 _=GD at *
  obtain⟨s6,c6⟩:=al ht6 g1
  clear g1
  have pD:=s6 _ _ pC
  refine(me _ rfl (.tuple [.int (r+d),.int (c+e)]) p2 xs cs ⟨ux c6,rfl,.inl pD,rC.same s6,(by simp[jh,b7]),_,rfl,?_⟩)
  have exD:=exC.trans (Ex.of_same s6)
  refine u8 (λhnew=>?_) (λ_=>?_)
  .refine(oe _ rfl (.inl ⟨rfl,_,SqL.of pD⟩) _ ⟨rfl,(n8 _ rfl _ _ rfl rfl _ ⟨rfl,(oj _ rfl _ _ ⟨rfl,rfl,(by show 2<=sizeLine;decide),λt7 ht7=>?_⟩)⟩)⟩)
   generalize g1:upd GD t7 _=GE at *
   obtain⟨s7,c7⟩:=al ht7 g1
   clear g1
   have pE:=s7 _ _ pD
   refine(nq p2 xs (.ref t7) ⟨rfl,rfl,pE,mz (by omega),?_⟩)
   have hcs':Cells (cs++[.tuple [.int (r+d),.int (c+e)]]):=λz hz=>by
    rcases ax.mp hz with h|h
    .exact hcs z h
    .rw[ao.mp h];exact(mw _ _ rfl)
   refine(l9 _ _ _ _ _ (l9 _ _ n4 (xs++[.ref t7]) (cs++[.tuple [.int (r+d),.int (c+e)]]) ⟨rfl,(exD.trans (Ex.of_same s7)).new hp2H,by rw[nj n2];exact s7 _ _ (s6 _ _ stC),hnC,mr,((rC.same (s6.trans s7)).snoc (ux c7)).tk (Tk.lst pE) hcs'.imm,hcs',?_,by simp,by simp;omega⟩))
   exact an4 hcs hnd (by rw[if_pos rfl]at hnew;exact hnew) (ux c6).lay
  .exact(l9 _ _ _ _ _ (l9 _ _ n4 xs cs ⟨rfl,exD,s6 _ _ stC,hnC,pD,rC.same s6,hcs,hnd,hpos,by omega⟩))
 .obtain⟨x3,x4,x5,x6,x7,x8,x9,n1,xs,cs,rfl,ex,hs,hn1,hp,repG,hcs,hnd,hpos,hlen⟩:=h
  have hxl:=repG.length
  refine(pk _ rfl p2 ⟨rfl,⟨_,SqL.of hp⟩,λD1 hD1=>?_⟩)
  refine ny (xs:=xs) (λi zs J=>Same G J/\zs=((cs.take i).map yi).map V.int) ⟨Same.fresh _ hD1,rfl⟩ (λi zs J p=>SqL.of (p.1 _ _ hp)) (λi x zs J hx hi hDy hzl p=>?_) (λzs G1 hD1y hzl p=>?_)
  .obtain⟨p1,rfl⟩:=p
   obtain⟨b,r,c,rfl,hb,hdat⟩:=yf hcs repG hx
   refine⟨Agree.set (Agree.refl _) rfl,?_⟩
   dsimp only[yb]
   refine si ?_
   refine(me _ rfl b _ _ _ ⟨rfl,rfl,SqT.of (p1 _ _ hb),mm (j:=0) rfl,pi (by omega) hDy hzl ⟨p1.new hD1,?_⟩⟩)
   rw[nw yi hdat,br]
   rfl
  obtain⟨sD1,rfl⟩:=p
  rw[a9 (by omega)]at hD1y
  refine(mw D1 _ ⟨rfl,hD1y,by rw[ah];exact hpos,λmD1 aD1 bD1=>?_⟩)
  have eD1:=zo aD1 bD1
  clear aD1 bD1
  have hp1':=sD1 _ _ hp
  have repG1:=repG.same sD1
  refine(pk _ rfl p2 ⟨rfl,⟨_,SqL.of hp1'⟩,λD2 hD2=>?_⟩)
  refine ny (xs:=xs) (λi zs J=>Same G1 J/\zs=((cs.take i).map yg).map V.int) ⟨Same.fresh _ hD2,rfl⟩ (λi zs J p=>SqL.of (p.1 _ _ hp1')) (λi x zs J hx hi hDy hzl p=>?_) (λzs G2 hD2y hzl p=>?_)
  .obtain⟨p1,rfl⟩:=p
   obtain⟨b,r,c,rfl,hb,hdat⟩:=yf hcs repG1 hx
   refine⟨Agree.set (Agree.refl _) rfl,?_⟩
   dsimp only[yb]
   refine si ?_
   refine(me _ rfl b _ _ _ ⟨rfl,rfl,SqT.of (p1 _ _ hb),mm (j:=1) rfl,pi (by omega) hDy hzl ⟨p1.new hD2,?_⟩⟩)
   rw[nw yg hdat,br]
   rfl
  obtain⟨sD2,rfl⟩:=p
  rw[a9 (by omega)]at hD2y
  refine(mw D2 _ ⟨rfl,hD2y,by rw[ah];exact hpos,λmD2 aD2 bD2=>?_⟩)
  have eD2:=zo aD2 bD2
  clear aD2 bD2
  have s02:=sD1.trans sD2
  have hpx:=s02 _ _ hp
  have rep2:=repG.same s02
  have hs2:=s02 _ _ hs
  refine(pk _ rfl p2 ⟨rfl,⟨_,SqL.of hpx⟩,λD hD=>?_⟩)
  have nD:D≠st:=λe=>by rw[e,hs2]at hD;cases hD
  refine ny (xs:=xs) (λi zs J=>Ex [st] G2 J/\(∃n:List V,J st=some (.lst n)/\StL n)/\∃ds:List PyData,ds.length=i/\RepAll J (ds.map (aa9 mD1 mD2)) zs/\(∀d∈ds,SgD d)/\ds.map cl=(cs.take i).map cl) ⟨Ex.fresh hD,⟨n1,by rw[nj (Ne.symm nD)];exact hs2,hn1⟩,[],rfl,rfl,(λd hd=>by cases hd),rfl⟩ (λi zs J p=>SqL.of (p.1.at (Ne.symm n2) hpx)) (λi x zs J hx hi hDy hzl p=>?_) (λzs J hDy hzl p=>?_)
  .obtain⟨p1,⟨n5,st5,hn5⟩,ds,hel,repE,hsgd,hecl⟩:=p
   obtain⟨b,r,c,rfl,hb,hdat⟩:=yf hcs rep2 hx
   have nb':b≠st:=sx hb hs2 (by intro z;cases z)
   refine(m9 b _ rfl (SqT.of (p1.at nb' hb)) rfl _ _ rfl _ ⟨_,rfl,rfl,?_⟩)
   refine⟨Agree.set (Agree.set (Agree.refl _) rfl) rfl,?_⟩
   dsimp only[yb]
   refine si ?_
   refine(sj _ rfl _ rfl _ _ rfl rfl _ ⟨rfl,(n8 _ rfl _ _ rfl rfl _ ⟨rfl,(nq st n5 3 ⟨rfl,st5,hn5,by decide,by decide,λn6 i6 J6 ex6 st6 hn6 h60 h61=>?_⟩)⟩)⟩)
   obtain⟨j6,rfl⟩:=fw h60
   obtain⟨k,hk,hk6⟩:=aab (j:=j6) (by omega)
   refine(nq _ _ k ⟨rfl,rfl,(by decide +kernel),mm hk,(by show 3<=sizeLine;decide),λt ht=>?_⟩)
   generalize g1:upd J6 t _=J7 at *
   obtain⟨s7,e7⟩:=al ht g1
   clear g1
   have D8:=s7 _ _ (ex6.at nD hDy)
   have hsg':∀d∈ds++[PyData.tuple [.int r,.int c,.str ⟨#[k]⟩]],SgD d:=λd hd=>by
    rcases ax.mp hd with h|h
    .exact hsgd d h
    .rw[ao.mp h];exact(nq r c _ ⟨rfl,hk6.1,hk6.2⟩)
   refine pi (by omega) D8 hzl ⟨(p1.trans (ex6.trans (Ex.of_same s7))).new (s02.free hD |> λ_=>hD),⟨n6,by rw[nj (Ne.symm nD)];exact s7 _ _ st6,hn6⟩,ds++[.tuple [.int r,.int c,.str ⟨#[k]⟩]],by rw[bu,hel];rfl,?_,hsg',?_⟩
   .rw[br]
    have im:=aia mD1 mD2 hsg'
    rw[br]at im
    exact(((repE.tk (ex6.one st5) (aia _ _ hsgd)).same s7).snoc (xz e7 (ok1 (by have:=hk6.2;omega)))).tk (Tk.lst D8) im
   .rw[br,hecl,nw cl hdat]
    rfl
  .obtain⟨p1,⟨n5,st5,hn5⟩,ds,hel,repE,hsgd,hecl⟩:=p
   rw[a9 (by omega)]at hecl
   have pre:Pre ds:=⟨hsgd,by omega,by omega,by rw[hecl];exact hnd⟩
   have er:ds.map yi=cs.map yi:=by have:=congrArg (List.map Prod.fst) hecl;rw[cq,cq]at this;exact this
   have ec:ds.map yg=cs.map yg:=by have:=congrArg (List.map Prod.snd) hecl;rw[cq,cq]at this;exact this
   have esh:ds.map (aa9 mD1 mD2)=v4 ds:=by unfold v4;rw[er,ec,eD1,eD2]
   rw[esh]at repE
   have zr:=Zr.shift pre
   obtain⟨kk,hrows⟩:∃kk,Rows kk (v4 ds):=⟨_,aax zr.pre.spots⟩
   refine(m8 D zs _ kk ⟨rfl,hDy,repE,hrows,λl ys es hl pe _ re=>?_⟩)
   generalize g1:upd J l _=J1 at *
   obtain⟨s8,e8⟩:=al hl g1
   clear g1
   refine(mw l ys ⟨rfl,.inl ⟨SqL.of e8,λt ht=>?_⟩⟩)
   generalize g1:upd J1 t _=J2 at *
   obtain⟨s9,e9⟩:=al ht g1
   clear g1
   exact q t J2 n5 es ((ex.trans (Ex.of_same s02)).trans (p1.trans (Ex.of_same (s8.trans s9)))) ((s8.trans s9) _ _ st5) hn5 (zr.perm pe) (mw t ys ⟨rfl,e9,re.same s9⟩)
end
end K23
namespace L3
open PySem PySem.Spec PyProof.Rows L2 SeqAt
open AutoSeq1 (wpAny_loadPart')
def ipS:TIp:=λx y H Q=>∃a b:Str,x=.str a/\y=.str b/\a.length+b.length<=sizeLine/\Q (.str (a++b)) H
theorem aby{X:Cx}:PIp X .Add ipS:=by
 intro pins s σ H x y v u Q I r1 r2 h
 obtain⟨i,j,e1,e2,hz,q⟩:=h
 subst e1;subst e2
 obtain⟨t,rfl⟩:=r1
 obtain⟨t',rfl⟩:=r2
 exact iadd_str (λt'' tk=>⟨.str _,H,I.tok _,⟨_,rfl⟩,q⟩) hz
end L3
namespace K23
open PySem PyProof.Rows L2 L3
theorem xyz{j:Nat}(h:j<3):∃c,(ba "xyz").cps.toList[j]?=some c:=⟨_,ab (by rw[show(ba "xyz").cps.toList.length=3 by decide +kernel];exact h)⟩
def KindM(H:Hp)(v:V)(k:List PyData×Nat)(m:Int×Option Int):Prop:=∃b nm md fr xs,v=.ref b/\H b=some (.tup [.str nm,.int m.1,ajj m.2,.str md,.ref fr])/\H fr=some (.tup xs)/\RepAll H k.1 xs/\Zr k.1/\ag4 md k.2
theorem KindM.tk{H H':Hp}{v:V}{k:List PyData×Nat}{m:Int×Option Int}(h:KindM H v k m)(t:Tk H H'):KindM H' v k m:=by
 obtain⟨b,nm,md,fr,xs,rfl,h1,h2,h3,h4,h5⟩:=h
 exact(l9 b nm md fr xs ⟨rfl,t _ _ h1,t _ _ h2,h3.tk t (Spots.imm h4.pre.spots),h4,h5⟩)
def KindsM(H:Hp)(kvs:List V)(ks:List (List PyData×Nat))(ms:List (Int×Option Int)):Prop:=kvs.length=ks.length/\kvs.length=ms.length/\∀(i:Nat) v k m,kvs[i]?=some v->ks[i]?=some k->ms[i]?=some m->KindM H v k m
theorem KindsM.tk{H H':Hp}{kvs:List V}{ks:List (List PyData×Nat)}{ms:List (Int×Option Int)}(h:KindsM H kvs ks ms)(t:Tk H H'):KindsM H' kvs ks ms:=⟨h.1,h.2.1,λi v k m h1 h2 h3=>(h.2.2 i v k m h1 h2 h3).tk t⟩
theorem zq{α:Type}{xs:List α}{x y:α}{i:Nat}(h:(xs++[x])[i]?=some y):xs[i]?=some y\/(i=xs.length/\x=y):=by
 by_cases hi:i<xs.length
 .rw[cr hi]at h
  exact .inl h
 .have hl:=(ae.mp h).1
  rw[bu,g9]at hl
  have e:i=xs.length:=by omega
  subst e
  rw[cb (am _),ke]at h
  exact .inr ⟨rfl,cm h⟩
theorem KindsM.snoc{H:Hp}{kvs:List V}{ks:List (List PyData×Nat)}{ms:List (Int×Option Int)}{v:V}{k:List PyData×Nat}{m:Int×Option Int}(h:KindsM H kvs ks ms)(h':KindM H v k m):KindsM H (kvs++[v]) (ks++[k]) (ms++[m]):=by
 obtain⟨l1,l2,hs⟩:=h
 refine⟨by simp[l1],by simp[l2],λi v' k' m' h1 h2 h3=>?_⟩
 rcases zq h1 with a1|⟨e1,rfl⟩
 .have hi:=(ae.mp a1).1
  rcases zq h2 with a2|⟨e2,_⟩
  .rcases zq h3 with a3|⟨e3,_⟩
   .exact hs i _ _ _ a1 a2 a3
   .omega
  .omega
 .rcases zq h2 with a2|⟨_,rfl⟩
  .have:=(ae.mp a2).1
   omega
  .rcases zq h3 with a3|⟨_,rfl⟩
   .have:=(ae.mp a3).1
    omega
   .exact h'
theorem KindsM.kinds{H:Hp}{kvs:List V}{ks:List (List PyData×Nat)}{ms:List (Int×Option Int)}(h:KindsM H kvs ks ms)(h6:ms.length<=6):KindsK H kvs ks/\BndK H kvs ms:=by
 obtain⟨l1,l2,hs⟩:=h
 refine⟨⟨l1,λi v k h1 h2=>?_⟩,l2,h6,λi v m h1 h3=>?_⟩
 .have hi:=(ae.mp h1).1
  obtain⟨b,nm,md,fr,xs,rfl,g1,g2,g3,g4,g5⟩:=hs i v k _ h1 h2 (ab (by omega))
  exact(l9 b nm _ _ md (mw fr xs ⟨rfl,g1,g2,g3,g4,g5⟩))
 .have hi:=(ae.mp h1).1
  obtain⟨b,nm,md,fr,xs,rfl,g1,g2,g3,g4,g5⟩:=hs i v _ m h1 (ab (by omega)) h3
  exact(m8 b _ _ _ ⟨rfl,g1⟩)
seal L2.PE L2.PT L2.PW L2.PA L2.PS L2.PSs L2.PG L2.PGs L2.PI L2.PO
set_option pp.maxSteps 3000
section
variable{P:Program}{w:World}{K:ai}{mg:Str->Option Value}{base:Heap}{f:Addr}{fd:FuncData}
def ajx:Sp:=λvs H Q _=>∃(st:Addr)(n:List V)(m:Int),vs=[.ref st,.int m]/\H st=some (.lst n)/\StL n/\0<m/\m<=3/\
 ∀(r:Addr)(H':Hp)(n':List V)(kvs:List V) (ks:List (List PyData×Nat)) (ms:List (Int×Option Int)),Ex [st] H H'->H' st=some (.lst n')->StL n'->H' r=some (.tup kvs)->KindsM H' kvs ks ms->0<ms.length->ms.length<=3->(∀q∈ms,0<=q.1)->Q (.ref r) H'
theorem scKinds:mx ["_law_state_here","_law_many","_law_kinds_here","_law_k","_law_least","_law_most","_law_mode","_law_name","_law_size"] ["_law_state_here","_law_many"] (mj aie):={}
theorem alj(B:∀x∈tj,mg x=none)(Fnext:abf P w K mg base)(Fform:Fn P w K mg base "_law_form" 2 ["_law_state_here","_law_most"] am5)(F:Fun K "_law_kinds" "_law_kinds" aie f fd):qe P w K mg base CX0 3 f fd ["_law_state_here","_law_many"] ajx:=by
 refine F.ok (k:=2) scKinds (λvs H Q E h=>?_) (λcdv A outer s H vs Q E hr h=>?_)
 .obtain⟨_,_,_,rfl,_⟩:=h
  rfl
 obtain⟨st,n,m,rfl,hst,hn,hm0,hm1,q⟩:=h
 have hu:=hr.units
 have l3:(ba "xyz").length<=sizeLine:=by decide +kernel
 have l8:(ba "abcdefgh").length=8:=by decide +kernel
 refine⟨_,(lw (nc (i:=2) scKinds.nd rfl (Or.inl rfl) (ph lv))
  (lw (p7 ci rfl (zp rfl (B "range" (by decide)) (mf (ow qg l7 (nh Fnext hr (by decide) rfl (mf (pv 0) (mf (pv 1) lv)))) lv)) (mh (i:=3) scKinds.nd rfl (Or.inl rfl)) (lw (nc (i:=4) scKinds.nd rfl (Or.inl rfl) (ng o9 (ph (mf l7 (mf l7 (mf l7 (mf l7 lv))))) (nh Fnext hr (by decide) rfl (mf (pv 0) (mf l7 lv))) (λ_ _=>rfl)))
  (lw (nc (i:=5) scKinds.nd rfl (Or.inl rfl) (ng o9 (ph (mf sr (mf sr (mf (ow qg (pv 4) (nh Fnext hr (by decide) rfl (mf (pv 0) (mf l7 lv)))) (mf (ow qg l7 (nh Fnext hr (by decide) rfl (mf (pv 0) (mf l7 lv)))) lv))))) (nh Fnext hr (by decide) rfl (mf (pv 0) (mf l7 lv))) (λ_ _=>rfl)))
  (lw (nc (i:=6) scKinds.nd rfl (Or.inl rfl) (ng o9 (ph (mf o6 (mf o6 (mf o6 lv)))) (nh Fnext hr (by decide) rfl (mf (pv 0) (mf l7 lv))) (λ_ _=>rfl)))
  (lw (nc (i:=7) scKinds.nd rfl (Or.inl rfl) (ow ag9 (wk aqc o6 ab1 (wx (ow qg l7 (nh Fnext hr (by decide) rfl (mf (pv 0) (mf l7 lv)))))) (ng xk o6 (pv 3) (λ_ _=>rfl))))
  (lw (nc (i:=8) scKinds.nd rfl (Or.inl rfl) (ng o9 (ph (mf l7 (mf l7 (mf l7 (mf l7 lv))))) (nh Fnext hr (by decide) rfl (mf (pv 0) (mf l7 lv))) (λ_ _=>rfl)))
  (ma (qo (vk da dz ee p9 (pv 2) (mf (ni (mf (pv 7) (mf (pv 4) (mf (pv 5) (mf (pv 6) (mf (nh Fform hr (by decide) rfl (mf (pv 0) (mf (pv 8) lv))) lv)))))) lv))))))))))
  (ma (my (wv ou rfl (B "tuple" (by decide)) li (mf (pv 2) lv)))))),?_⟩
 refine⟨(by show 0<=sizeLine;decide),λkl hkl=>?_⟩
 generalize g1:upd H kl _=H4 at *
 obtain⟨s4,e4⟩:=al hkl g1
 clear g1
 have nkl:kl≠st:=λe=>by rw[e,hst]at hkl;cases hkl
 have ex4:Ex [st] H H4:=Ex.of_same s4
 refine(mq _ rfl _ rfl st n m ⟨rfl,s4 _ _ hst,hn,hm0,by omega,λn5 i5 H5 ex5' st5 hn5 h50 h51=>(mw _ _ ⟨rfl,rfl,?_⟩)⟩)
 have ex5:=ex4.trans ex5'
 have kl5:=ex5'.at nkl e4
 obtain⟨kn,ekn,hk1,hk6⟩:∃kn:Nat,1+i5=((kn:Nat):Int)/\0<kn/\kn<=3:=⟨(1+i5).toNat,by omega,by omega,by omega⟩
 refine⟨(kn:Nat),congrArg (λz=>[V.int z]) ekn,by omega,by omega,?_⟩
 rw[cc]
 refine qj (lo:=0) (λi σ' G=>∃(y3 y4 y5 y6 y7 y8:Option V)(n:List V)(kvs:List V) (ks:List (List PyData×Nat)) (ms:List (Int×Option Int)),σ'=[some (.ref st),some (.int m),some (.ref kl),y3,y4,y5,y6,y7,y8]/\(∀b o,b≠st->b≠kl->H5 b=some o->G b=some o)/\G st=some (.lst n)/\StL n/\G kl=some (.lst kvs)/\KindsM G kvs ks ms/\kvs.length=i/\∀q∈ms,0<=q.1) ?_ (λi σ' G hi h=>?_) (λσ' G h=>?_)
 .exact(l9 _ _ _ _ _ (l9 _ n5 ([]) ([]) ([]) ⟨rfl,λb o _ _ h=>h,st5,hn5,kl5,⟨rfl,rfl,λi v k m h=>by cases h⟩,rfl,λq hq=>by cases hq⟩))
 .obtain⟨y3,y4,y5,y6,y7,y8,m0,kvs,ks,ms,rfl,ex,stG,hm0',klG,hK,hkl0,hms⟩:=h
  refine⟨(by show 4<=sizeLine;decide),λa1 h1=>?_⟩
  generalize g1:upd G a1 _=G1 at *
  obtain⟨s1,e1⟩:=al h1 g1
  clear g1
  have na1:a1≠st:=λe=>by rw[e,stG]at h1;cases h1
  refine(om _ rfl st m0 4 ⟨rfl,s1 _ _ stG,hm0',by decide,by decide,λm1 d1 G2 x2 st2 hm1' d10 d11=>?_⟩)
  obtain⟨v,hv,hvm⟩:=atv (α:=V) (xs:=[V.int 0,V.int 0,V.int 0,V.int 1]) d10 d11
  obtain⟨le,rfl,hle⟩:∃le:Int,v=.int le/\0<=le:=by
   simp only[bq,jb,or_false]at hvm
   rcases hvm with rfl|rfl|rfl|rfl<;>exact⟨_,rfl,by decide⟩
  refine(m8 a1 _ _ (.int le) ⟨rfl,rfl,SqL.of (x2.at na1 e1),hv,?_⟩)
  have tk2:Tk G G2:=Tk.trans (Tk.of_same s1) (x2.one (s1 _ _ stG))
  have ex2:∀b o,b≠st->G b=some o->G2 b=some o:=λb o hb h=>x2.at hb (s1 _ _ h)
  clear hv hvm e1
  refine(mq _ rfl _ rfl st m1 3 ⟨rfl,st2,hm1',by decide,by decide,λm2 d2 G3 x3 st3 hm2 d20 d21=>(mw _ _ ⟨rfl,rfl,?_⟩)⟩)
  refine(om _ rfl st m2 63 ⟨rfl,st3,hm2,by decide,by decide,λm2' d2' G3' x3' st3' hm2' d20' d21'=>(mw _ _ ⟨rfl,rfl,(by show 4<=sizeLine;decide),λa2 h2=>?_⟩)⟩)
  generalize g1:upd G3' a2 _=G4 at *
  obtain⟨s4',e4'⟩:=al h2 g1
  clear g1
  have na2:a2≠st:=λe=>by rw[e,st3']at h2;cases h2
  refine(om _ rfl st m2' 4 ⟨rfl,s4' _ _ st3',hm2',by decide,by decide,λm3 d3 G5 x5 st5' hm3 d30 d31=>?_⟩)
  obtain⟨v,hv,hvm⟩:=atv (α:=V) (xs:=[V.non,V.non,V.int (le+d2),V.int (2+d2')]) d30 d31
  obtain⟨fm,rfl⟩:∃fm,v=ajj fm:=by
   simp only[bq,jb,or_false]at hvm
   rcases hvm with rfl|rfl|rfl|rfl
   .exact⟨none,rfl⟩
   .exact⟨none,rfl⟩
   .exact⟨some _,rfl⟩
   .exact⟨some _,rfl⟩
  refine(m8 a2 _ _ (ajj fm) ⟨rfl,rfl,SqL.of (x5.at na2 e4'),hv,?_⟩)
  have tk5:Tk G G5:=Tk.trans tk2 (Tk.trans (x3.one st2) (Tk.trans (x3'.one st3) (Tk.trans (Tk.of_same s4') (x5.one (s4' _ _ st3')))))
  have ex5'':∀b o,b≠st->G b=some o->G5 b=some o:=λb o hb h=>x5.at hb (s4' _ _ (x3'.at hb (x3.at hb (ex2 b o hb h))))
  clear hv hvm e4'
  refine⟨(by show 3<=sizeLine;decide),λa3 h3=>?_⟩
  generalize g1:upd G5 a3 _=G6 at *
  obtain⟨s6,e6⟩:=al h3 g1
  clear g1
  have na3:a3≠st:=λe=>by rw[e,st5']at h3;cases h3
  refine(om _ rfl st m3 3 ⟨rfl,s6 _ _ st5',hm3,by decide,by decide,λm4 d4 G7 x7 st7 hm4 d40 d41=>?_⟩)
  obtain⟨v,hv,hvm⟩:=atv (α:=V) (xs:=[V.str "still",V.str "turn",V.str "flip"]) d40 d41
  obtain⟨md,kk,rfl,hmd⟩:∃md kk,v=.str md/\ag4 md kk:=by
   simp only[bq,jb,or_false]at hvm
   rcases hvm with rfl|rfl|rfl
   .exact(mw _ 1 ⟨rfl,.inl ⟨rfl,rfl⟩⟩)
   .exact(mw _ 4 ⟨rfl,.inr (.inl ⟨rfl,rfl⟩)⟩)
   .exact(mw _ 8 ⟨rfl,.inr (.inr ⟨rfl,rfl⟩)⟩)
  refine(m8 a3 _ _ (.str md) ⟨rfl,rfl,SqL.of (x7.at na3 e6),hv,?_⟩)
  have tk7:Tk G G7:=Tk.trans tk5 (Tk.trans (Tk.of_same s6) (x7.one (s6 _ _ st5')))
  have ex7:∀b o,b≠st->G b=some o->G7 b=some o:=λb o hb h=>x7.at hb (s6 _ _ (ex5'' b o hb h))
  clear hv hvm e6
  obtain⟨ch,hch⟩:=xyz (j:=i) (by omega)
  refine(om _ rfl st m4 6 ⟨rfl,st7,hm4,by decide,by decide,λm5 d5 G8 x8 st8 hm5 d50 d51=>(mw _ _ ⟨rfl,rfl,(pk _ rfl _ ⟨rfl,(by rw[l8];decide),?_⟩)⟩)⟩)
  have hsl:=Txt.slice_le (ba "abcdefgh") none (some (1+d5))
  rw[l8]at hsl
  generalize Txt.slice (ba "abcdefgh") none (some (1+d5))=za at *
  refine(om _ rfl _ _ ch ⟨rfl,rfl,l3,(by rw[Int.zero_add];exact mm hch),(mw _ _ ⟨rfl,rfl,(by show za.length+1<=sizeLine;exact gc (mz (by omega))),?_⟩)⟩)
  generalize za++(⟨#[ch]⟩:Str)=nm at *
  have tk8:=Tk.trans tk7 (x8.one st7)
  have ex8:∀b o,b≠st->G b=some o->G8 b=some o:=λb o hb h=>x8.at hb (ex7 b o hb h)
  refine⟨(by show 4<=sizeLine;decide),λa4 h4=>?_⟩
  generalize g1:upd G8 a4 _=G9 at *
  obtain⟨s9,e9⟩:=al h4 g1
  clear g1
  have na4:a4≠st:=λe=>by rw[e,st8]at h4;cases h4
  refine(om _ rfl st m5 4 ⟨rfl,s9 _ _ st8,hm5,by decide,by decide,λm6 d6 Ga xa sta hm6 d60 d61=>?_⟩)
  obtain⟨v,hv,hvm⟩:=atv (α:=V) (xs:=[V.int 4,V.int 4,V.int 4,V.int 6]) d60 d61
  obtain⟨sz,rfl,hsz0,hsz1⟩:∃sz:Int,v=.int sz/\0<sz/\sz<=6:=by
   simp only[bq,jb,or_false]at hvm
   rcases hvm with rfl|rfl|rfl|rfl<;>exact⟨_,rfl,by decide,by decide⟩
  refine(m8 a4 _ _ (.int sz) ⟨rfl,rfl,SqL.of (xa.at na4 e9),hv,?_⟩)
  have tka:Tk G Ga:=Tk.trans tk8 (Tk.trans (Tk.of_same s9) (xa.one (s9 _ _ st8)))
  have exa:∀b o,b≠st->G b=some o->Ga b=some o:=λb o hb h=>xa.at hb (s9 _ _ (ex8 b o hb h))
  clear hv hvm e9
  refine(oe _ rfl (.inl ⟨rfl,_,SqL.of (exa _ _ nkl klG)⟩) _ ⟨rfl,(vo _ rfl _ rfl _ ⟨rfl,(mq _ rfl _ rfl st m6 sz ⟨rfl,sta,hm6,hsz0,hsz1,λr Gb m7 es xb stb hm7 zr repb=>?_⟩)⟩)⟩)
  refine⟨(by show 5<=sizeLine;decide),λb hb=>?_⟩
  generalize g1:upd Gb b _=Gc at *
  obtain⟨sc,ec⟩:=al hb g1
  clear g1
  have exc:∀c o,c≠st->G c=some o->Gc c=some o:=λc o hc h=>sc _ _ (xb.at hc (exa c o hc h))
  have tkc:Tk G Gc:=Tk.trans tka (Tk.trans (xb.one sta) (Tk.of_same sc))
  have klc:=exc _ _ nkl klG
  obtain⟨r',rxs,er,hrb,repb⟩:=repb
  cases er
  have kM:KindM Gc (.ref b) (es,kk) (le,fm):=(l9 b _ md r rxs ⟨rfl,ec,sc _ _ hrb,repb.same sc,zr,hmd⟩)
  refine(nq kl kvs (.ref b) ⟨rfl,rfl,klc,mz (by omega),?_⟩)
  have hK':=((hK.tk tkc).snoc kM).tk (Tk.lst (o:=.lst (kvs++[.ref b])) klc)
  refine(l9 _ _ _ _ _ (l9 _ m7 (kvs++[.ref b]) (ks++[(es,kk)]) (ms++[(le,fm)]) ⟨rfl,λc o hc1 hc2 h=>?_,?_,hm7,mr,hK',by simp[hkl0],λq hq=>?_⟩))
  .rw[nj hc2]
   exact exc c o hc1 (ex c o hc1 hc2 h)
  .rw[nj (Ne.symm nkl)]
   exact sc _ _ stb
  .rcases ax.mp hq with h|h
   .exact hms q h
   .rw[ao.mp h];exact hle
 .obtain⟨y3,y4,y5,y6,y7,y8,m0,kvs,ks,ms,rfl,ex,stG,hm0',klG,hK,hkl0,hms⟩:=h
  have l1:=hK.1
  have l2:=hK.2.1
  refine(oj _ rfl kl kvs ⟨rfl,.inl ⟨SqL.of klG,λt ht=>?_⟩⟩)
  generalize g1:upd G t _=G1 at *
  obtain⟨s1,e1⟩:=al ht g1
  clear g1
  refine q t G1 m0 kvs ks ms (λb o hb h=>?_) (s1 _ _ stG) hm0' e1 (hK.tk (Tk.of_same s1)) (by omega) (by omega) hms
  have nb:b≠kl:=λz=>by rw[z,hkl]at h;cases h
  exact s1 _ _ (ex b o (by simpa using hb) nb (ex5 b o hb h))
end
noncomputable def menu:Str:=ba "......,,,,.##Aab"
theorem aj2{j:Nat}(h:j<16):∃c,menu.cps.toList[j]?=some c/\sgB c=true:=by
 have l:menu.cps.toList.length=16:=by decide +kernel
 have a:∀c∈menu.cps.toList,sgB c=true:=by decide +kernel
 exact⟨_,ab (by omega),a _ (dv _)⟩
theorem af2:menu.length<=sizeLine:=by decide +kernel
theorem auy(ws:List Nat)(k:Nat):(⟨ws.toArray⟩:Str)++(⟨#[k]⟩:Str)=⟨(ws++[k]).toArray⟩:=by
 show(⟨ws.toArray ++ #[k]⟩:Str)=_
 congr 1
 simp
def RwS(wd:Nat)(z:Str):Prop:=(Tx z/\∀c∈z.cps.toList,sgB c=true)/\z.length=wd
theorem am8{ws:List Nat}(h:∀c∈ws,sgB c=true)(h8:ws.length<=8):RwS ws.length ⟨ws.toArray⟩:=by
 refine⟨⟨⟨by show ws.toArray.size<=80;rw[ay];omega,λc hc=>?_⟩,λc hc=>?_⟩,by show ws.toArray.size=_;rw[ay]⟩
 .exact aiw (h c (by simpa using hc))
 .exact h c (by simpa using hc)
set_option pp.maxSteps 3000
section
variable{P:Program}{w:World}{K:ai}{mg:Str->Option Value}{base:Heap}{f:Addr}{fd:FuncData}
def arb:Sp:=λvs H Q _=>∃(st:Addr)(n:List V)(wd:Nat),vs=[.ref st,.int (wd:Nat)]/\H st=some (.lst n)/\StL n/\0<wd/\wd<=8/\
 ∀(p:Addr)(H':Hp)(n':List V)(M:Mat),Ex [st] H H'->H' st=some (.lst n')->StL n'->FlM H' p M->Q (.ref p) H'
theorem scTwo:mx ["_law_state_here","_law_wide","_law_rows","_law_row"] ["_law_state_here","_law_wide"] (mj au6):={}
theorem ar8(B:∀x∈tj,mg x=none)(Fnext:abf P w K mg base)(F:Fun K "_law_two_rows" "_law_two_rows" au6 f fd):qe P w K mg base CX0 2 f fd ["_law_state_here","_law_wide"] arb:=by
 refine F.ok (k:=1) scTwo (λvs H Q E h=>?_) (λcdv A outer s H vs Q E hr h=>?_)
 .obtain⟨_,_,_,rfl,_⟩:=h
  rfl
 obtain⟨st,n,wd,rfl,hst,hn,hw0,hw8,q⟩:=h
 refine⟨_,(lw (nc (i:=2) scTwo.nd rfl (Or.inl rfl) (ph lv))
  (lw (p7 ci rfl (zp rfl (B "range" (by decide)) (mf l7 lv)) (mh (i:=3) scTwo.nd rfl (Or.inl rfl)) (ma (qo (vk da dz ee p9 (pv 2) (mf (vk PySem.F.plainAttrs_str PySem.F.slot_str_join PySem.F.type_str_join aih o6 (mf (oq ["_law_column","_law_state_here"] [none,some 0] rfl rfl (by decide +kernel) (by decide +kernel) rfl rfl (zp rfl (B "range" (by decide)) (mf (pv 1) lv)) (λ_=>(mh (i:=0) (show(["_law_column","_law_state_here"]:List PySem.Str).Nodup by decide +kernel) rfl (Or.inl rfl))) (λ_=>o8) (λ_=>(ng xk o6 (nh Fnext hr (by decide) rfl (mf (pv 1) (mf l7 lv))) (λ_ _=>rfl)))) lv)) lv)))))
  (ma (my (wv ou rfl (B "tuple" (by decide)) li (mf (pv 2) lv)))))),?_⟩
 refine⟨(by show 0<=sizeLine;decide),λr hr0=>?_⟩
 generalize g1:upd H r _=H1 at *
 obtain⟨s1,e1⟩:=al hr0 g1
 clear g1
 have nr:r≠st:=λe=>by rw[e,hst]at hr0;cases hr0
 refine⟨2,rfl,by decide,by decide,?_⟩
 refine qj (n:=2) (lo:=0) (λi σ' G=>∃(y3:Option V)(n:List V)(zs:List Str),σ'=[some (.ref st),some (.int (wd:Nat)),some (.ref r),y3]/\Ex [st] H G/\G st=some (.lst n)/\StL n/\G r=some (.lst (zs.map V.str))/\zs.length=i/\∀z∈zs,RwS wd z) ?_ (λi σ' G hi h=>?_) (λσ' G h=>?_)
 .exact(nq _ n ([]) ⟨rfl,Ex.of_same s1,s1 _ _ hst,hn,e1,rfl,λz hz=>by cases hz⟩)
 .obtain⟨y3,n4,zs,rfl,ex4,st4,hn4,r4,hl4,hz4⟩:=h
  refine⟨_,rfl,.inl ⟨rfl,_,SqL.of r4⟩,rfl,?_⟩
  refine(pk _ rfl _ ⟨rfl,by omega,by omega,λD hD=>?_⟩)
  have nD:D≠st:=λe=>by rw[e,st4]at hD;cases hD
  have nDr:D≠r:=λe=>by rw[e,r4]at hD;cases hD
  rw[cc]
  refine abk (lo:=0) (λj ys J=>∃(n5:List V)(ws:List Nat),Ex [st] G J/\J st=some (.lst n5)/\StL n5/\ys=ws.map chV/\ws.length=j/\∀c∈ws,sgB c=true) ?_ (λj ys J hj hDy hyl p=>?_) (λys J hDy hyl p=>?_)
  .exact(mw n4 ([]) ⟨Ex.fresh hD,by rw[nj (Ne.symm nD)];exact st4,hn4,rfl,rfl,λw hw=>by cases hw⟩)
  .obtain⟨n5,ws,fx5,st6,hn5,rfl,hl5,hw5⟩:=p
   refine⟨Agree.set (Agree.refl _) rfl,?_⟩
   dsimp only[yb]
   refine si ?_
   refine(om _ rfl st n5 16 ⟨rfl,st6,hn5,by decide,by decide,λn6 i6 J6 x6 st7 hn6 h60 h61=>?_⟩)
   obtain⟨j6,rfl⟩:=fw h60
   obtain⟨c,hc,hsb⟩:=aj2 (j:=j6) (by omega)
   refine(nq _ _ c ⟨rfl,rfl,af2,mm hc,?_⟩)
   refine pi (by omega) (x6.at nD hDy) hyl (mw n6 (ws++[c]) ⟨(fx5.trans x6).new hD,?_,hn6,by rw[br];rfl,by simp[hl5],λw hw=>?_⟩)
   .rw[nj (Ne.symm nD)];exact st7
   .rcases ax.mp hw with h|h
    .exact hw5 w h
    .rw[ao.mp h]
     exact hsb
  .obtain⟨n5,ws,fx5,st6,hn5,rfl,hl5,hw5⟩:=p
   have e0:(ba "").length=0:=by decide +kernel
   have em:ws.map chV=(ws.map λc=>(⟨#[c]⟩:Str)).map V.str:=by rw[cq];rfl
   have hsum:=PySem.StrLaws.sumLen_le (B:=1) (ws.map λc=>(⟨#[c]⟩:Str)) λy hy=>by
    obtain⟨c,_,rfl⟩:=bi.mp hy
    exact am 1
   rw[ah]at hsum
   refine(nq _ D (ws.map λc=>(⟨#[c]⟩:Str)) ⟨rfl,rfl,by rw[<-em];exact hDy,by rw[e0];omega,?_⟩)
   rw[ac9]
   have r6:J r=some (.lst (zs.map V.str)):=fx5.at nr r4
   refine(nq r (zs.map V.str) _ ⟨rfl,rfl,r6,mz (by rw[ah];omega),?_⟩)
   have hz:=am8 hw5 (by omega)
   rw[hl5]at hz
   refine(nq _ n5 (zs++[⟨ws.toArray⟩]) ⟨rfl,(ex4.trans fx5).new hr0,?_,hn5,?_,by simp[hl4],λz hz'=>?_⟩)
   .rw[nj (Ne.symm nr)];exact st6
   .rw[br];exact mr
   .rcases ax.mp hz' with h|h
    .exact hz4 z h
    .rw[ao.mp h];exact hz
 .obtain⟨y3,n4,zs,rfl,ex4,st4,hn4,r4,hl4,hz4⟩:=h
  refine(oj _ rfl r (zs.map V.str) ⟨rfl,.inl ⟨SqL.of r4,λp hp=>?_⟩⟩)
  generalize g1:upd G p _=G1 at *
  obtain⟨s5,e5⟩:=al hp g1
  clear g1
  obtain⟨M,eM,oM⟩:=am7 (zs:=zs) ⟨by omega,by omega,wd,by omega,by omega,hz4⟩
  exact q p G1 n4 M (ex4.trans (Ex.of_same s5)) (s5 _ _ st4) hn4 ⟨by rw[<-eM];exact e5,oM⟩
def akg:Sp:=λvs H Q _=>∃(st:Addr)(n:List V)(m:Int),vs=[.ref st,.int m]/\H st=some (.lst n)/\StL n/\0<=m/\m<=64/\
 ∀(p:Addr)(H':Hp)(n':List V)(M:Mat),Ex [st] H H'->H' st=some (.lst n')->StL n'->FlM H' p M->Q (.ref p) H'
theorem scFloor:mx ["_law_state_here","_law_most","_law_high","_law_wide","_law_left","_law_rows","_law_row","_law_line","_law_column","_law_sign"] ["_law_state_here","_law_most"] (mj akb):={}
theorem amj(B:∀x∈tj,mg x=none)(Fnext:abf P w K mg base)(Ftwo:Fn P w K mg base "_law_two_rows" 2 ["_law_state_here","_law_wide"] arb)(F:Fun K "_law_floor" "_law_floor" akb f fd):qe P w K mg base CX0 3 f fd ["_law_state_here","_law_most"] akg:=by
 refine F.ok (k:=2) scFloor (λvs H Q E h=>?_) (λcdv A outer s H vs Q E hr h=>?_)
 .obtain⟨_,_,_,rfl,_⟩:=h
  rfl
 obtain⟨st,n,m,rfl,hst,hn,hm0,hm1,q⟩:=h
 refine⟨_,(lw (qp (oo zh (nh Fnext hr (by decide) rfl (mf (pv 0) (mf l7 lv))) l7 (oz _)) (ma (my (nh Ftwo hr (by decide) rfl (mf (pv 0) (mf (ow qg l7 (nh Fnext hr (by decide) rfl (mf (pv 0) (mf l7 lv)))) lv))))) o7)
  (lw (xj (ng o9 (ph (mf (ni (mf l7 (mf l7 lv))) (mf (ni (mf l7 (mf l7 lv))) (mf (ni (mf l7 (mf l7 lv))) (mf (ni (mf l7 (mf l7 lv))) (mf (ni (mf l7 (mf l7 lv))) (mf (ni (mf l7 (mf l7 lv))) (mf (ni (mf l7 (mf l7 lv))) (mf (ni (mf l7 (mf l7 lv))) lv))))))))) (nh Fnext hr (by decide) rfl (mf (pv 0) (mf l7 lv))) (λ_ _=>rfl)) (rj (n:=2) rfl (mn (mh (i:=2) scFloor.nd rfl (Or.inl rfl)) (mn (mh (i:=3) scFloor.nd rfl (Or.inl rfl)) o0))))
  (lw (nc (i:=4) scFloor.nd rfl (Or.inl rfl) (pv 1))
  (lw (nc (i:=5) scFloor.nd rfl (Or.inl rfl) (ph lv))
  (lw (p7 ci rfl (zp rfl (B "range" (by decide)) (mf (pv 2) lv)) (mh (i:=6) scFloor.nd rfl (Or.inl rfl)) (lw (nc (i:=7) scFloor.nd rfl (Or.inl rfl) o6)
  (lw (p7 ci rfl (zp rfl (B "range" (by decide)) (mf (pv 3) lv)) (mh (i:=8) scFloor.nd rfl (Or.inl rfl)) (lw (nc (i:=9) scFloor.nd rfl (Or.inl rfl) (ng xk o6 (nh Fnext hr (by decide) rfl (mf (pv 0) (mf l7 lv))) (λ_ _=>rfl)))
  (lw (qp (oo zh (pv 4) l7 (oz _)) (ma (nc (i:=9) scFloor.nd rfl (Or.inl rfl) o6)) o7)
  (lw (ad7 (i:=4) scFloor.nd rfl (Or.inl rfl) (wv aju rfl (B "int" (by decide)) PyProof.Rows.boot_int (mf (qz afh (pv 9) o6 (oz _)) lv)) aqs)
  (ma (ad7 (i:=7) scFloor.nd rfl (Or.inl rfl) (pv 9) aby))))))
  (ma (qo (vk da dz ee p9 (pv 5) (mf (pv 7) lv)))))))
  (ma (my (wv ou rfl (B "tuple" (by decide)) li (mf (pv 5) lv))))))))),?_⟩
 refine(om _ rfl st n 8 ⟨rfl,hst,hn,by decide,by decide,λn1 i1 H1 x1 st1 hn1 h10 h11=>⟨rfl,_,rfl,?_⟩⟩)
 refine u8 (λ_=>?_) (λ_=>?_)
 .refine(mq _ rfl _ rfl st n1 2 ⟨rfl,st1,hn1,by decide,by decide,λn2 i2 H2 x2 st2 hn2 h20 h21=>(mw _ _ ⟨rfl,rfl,?_⟩)⟩)
  obtain⟨j2,rfl⟩:=fw h20
  exact(nq st n2 (7+j2) ⟨rfl,st2,hn2,by omega,by omega,λp H3 n3 M x3=>q p H3 n3 M ((x1.trans x2).trans x3)⟩)
 refine⟨(by show 2<=sizeLine;decide),λa0 ha0=>?_⟩
 generalize g1:upd H1 a0 _=A0 at *
 obtain⟨s0',e0'⟩:=al ha0 g1
 clear g1
 refine⟨(by show 2<=sizeLine;decide),λa1 ha1=>?_⟩
 generalize g1:upd A0 a1 _=A1 at *
 obtain⟨s1',e1'⟩:=al ha1 g1
 clear g1
 refine⟨(by show 2<=sizeLine;decide),λa2 ha2=>?_⟩
 generalize g1:upd A1 a2 _=A2 at *
 obtain⟨s2',e2'⟩:=al ha2 g1
 clear g1
 refine⟨(by show 2<=sizeLine;decide),λa3 ha3=>?_⟩
 generalize g1:upd A2 a3 _=A3 at *
 obtain⟨s3',e3'⟩:=al ha3 g1
 clear g1
 refine⟨(by show 2<=sizeLine;decide),λa4 ha4=>?_⟩
 generalize g1:upd A3 a4 _=A4 at *
 obtain⟨s4',e4'⟩:=al ha4 g1
 clear g1
 refine⟨(by show 2<=sizeLine;decide),λa5 ha5=>?_⟩
 generalize g1:upd A4 a5 _=A5 at *
 obtain⟨s5',e5'⟩:=al ha5 g1
 clear g1
 refine⟨(by show 2<=sizeLine;decide),λa6 ha6=>?_⟩
 generalize g1:upd A5 a6 _=A6 at *
 obtain⟨s6',e6'⟩:=al ha6 g1
 clear g1
 refine⟨(by show 2<=sizeLine;decide),λa7 ha7=>?_⟩
 generalize g1:upd A6 a7 _=A7 at *
 obtain⟨s7',e7'⟩:=al ha7 g1
 clear g1
 refine⟨(by show 8<=sizeLine;decide),λal8 hal8=>?_⟩
 generalize g1:upd A7 al8 _=H2 at *
 obtain⟨s8',e8'⟩:=al hal8 g1
 clear g1
 have sA:Same H1 H2:=((((((((s0'.trans s1').trans s2').trans s3').trans s4').trans s5').trans s6').trans s7').trans s8')
 have eight:∀m:Nat,m<8->∃(b':Addr)(d e:Nat),[V.ref a0,.ref a1,.ref a2,.ref a3,.ref a4,.ref a5,.ref a6,.ref a7][m]?=some (.ref b')/\H2 b'=some (.tup [.int (d:Nat),.int (e:Nat)])/\0<d/\d<=8/\0<e/\e<=8:=λm hm=>by
  match m,hm with
  | 0,_=>exact(nq a0 1 4 ⟨rfl,(((((((s1'.trans s2').trans s3').trans s4').trans s5').trans s6').trans s7').trans s8') _ _ e0',by decide,by decide,by decide,by decide⟩)
  | 1,_=>exact(nq a1 2 2 ⟨rfl,((((((s2'.trans s3').trans s4').trans s5').trans s6').trans s7').trans s8') _ _ e1',by decide,by decide,by decide,by decide⟩)
  | 2,_=>exact(nq a2 2 3 ⟨rfl,(((((s3'.trans s4').trans s5').trans s6').trans s7').trans s8') _ _ e2',by decide,by decide,by decide,by decide⟩)
  | 3,_=>exact(nq a3 3 2 ⟨rfl,((((s4'.trans s5').trans s6').trans s7').trans s8') _ _ e3',by decide,by decide,by decide,by decide⟩)
  | 4,_=>exact(nq a4 1 6 ⟨rfl,(((s5'.trans s6').trans s7').trans s8') _ _ e4',by decide,by decide,by decide,by decide⟩)
  | 5,_=>exact(nq a5 3 3 ⟨rfl,((s6'.trans s7').trans s8') _ _ e5',by decide,by decide,by decide,by decide⟩)
  | 6,_=>exact(nq a6 2 4 ⟨rfl,(s7'.trans s8') _ _ e6',by decide,by decide,by decide,by decide⟩)
  | 7,_=>exact(nq a7 1 1 ⟨rfl,s8' _ _ e7',by decide,by decide,by decide,by decide⟩)
 have st2:=sA _ _ st1
 have nal:al8≠st:=λe=>by rw[e,(((((((s0'.trans s1').trans s2').trans s3').trans s4').trans s5').trans s6').trans s7') _ _ st1]at hal8;cases hal8
 refine(om _ rfl st n1 8 ⟨rfl,st2,hn1,by decide,by decide,λn3 i3 H3 x3 st3 hn3 h30 h31=>?_⟩)
 obtain⟨j3,rfl⟩:=fw h30
 obtain⟨b',hi,wi,hb',hbd,hi0,hi8,wi0,wi8⟩:=eight j3 (by omega)
 have nb':b'≠st:=sx hbd st2 (by intro z;cases z)
 refine(m8 al8 _ _ (.ref b') ⟨rfl,rfl,SqL.of (x3.at nal e8'),mm hb',(m9 b' _ rfl (SqT.of (x3.at nb' hbd)) rfl _ _ rfl _ ⟨_,rfl,rfl,?_⟩)⟩)
 have exA:Ex [st] H H3:=(x1.trans (Ex.of_same sA)).trans x3
 clear eight
 refine⟨_,rfl,(by show 0<=sizeLine;decide),λr hr0=>?_⟩
 generalize g1:upd H3 r _=H4 at *
 obtain⟨s4,e4⟩:=al hr0 g1
 clear g1
 have nr:r≠st:=λe=>by rw[e,st3]at hr0;cases hr0
 have hrH:H r=none:=an0 exA nr hr0
 have ex4:=exA.trans (Ex.of_same s4)
 refine(pk _ rfl _ ⟨rfl,by omega,by omega,?_⟩)
 rw[cc]
 refine qj (lo:=0) (λi σ' G=>∃(y6 y7 y8 y9:Option V)(lf:Int)(n:List V)(zs:List Str),σ'=[some (.ref st),some (.int m),some (.int (hi:Nat)),some (.int (wi:Nat)),some (.int lf),some (.ref r),y6,y7,y8,y9]/\Ex [st] H G/\G st=some (.lst n)/\StL n/\G r=some (.lst (zs.map V.str))/\zs.length=i/\∀z∈zs,RwS wi z) ?_ (λi σ' G hi' h=>?_) (λσ' G h=>?_)
 .exact(l9 _ _ _ _ _ (mw n3 ([]) ⟨rfl,ex4,s4 _ _ st3,hn3,e4,rfl,λz hz=>by cases hz⟩))
 .obtain⟨y6,y7,y8,y9,lf,n4,zs,rfl,exG,stG,hn4,rG,hl4,hz4⟩:=h
  refine(pk _ rfl _ ⟨rfl,by omega,by omega,?_⟩)
  rw[cc]
  refine qj (lo:=0) (λc σ' J=>∃(y8 y9:Option V)(lf:Int)(n:List V)(ws:List Nat),σ'=[some (.ref st),some (.int m),some (.int (hi:Nat)),some (.int (wi:Nat)),some (.int lf),some (.ref r),some (.int (0+(i:Int))),some (.str ⟨ws.toArray⟩),y8,y9]/\Ex [st] G J/\J st=some (.lst n)/\StL n/\ws.length=c/\∀c∈ws,sgB c=true) ?_ (λc σ' J hc h=>?_) (λσ' J h=>?_)
  .exact(l9 _ _ _ n4 ([]) ⟨rfl,Ex.refl _ _,stG,hn4,rfl,λw hw=>by cases hw⟩)
  .obtain⟨y8,y9,lf,n5,ws,rfl,exJ,stJ,hn5,hl5,hw5⟩:=h
   refine(om _ rfl st n5 16 ⟨rfl,stJ,hn5,by decide,by decide,λn6 i6 J6 x6 st6 hn6 h60 h61=>?_⟩)
   obtain⟨j6,rfl⟩:=fw h60
   obtain⟨k,hk,hsb⟩:=aj2 (j:=j6) (by omega)
   refine(nq _ _ k ⟨rfl,rfl,af2,mm hk,?_⟩)
   refine(oe _ rfl rfl _ ⟨rfl,u8 (λ_=>?_) (λ_=>?_)⟩)
   .have e35:ba "#" = ⟨#[35]⟩:=by decide +kernel
    refine(pk _ rfl _ ⟨rfl,rfl,.inr (oj _ rfl _ _ ⟨rfl,rfl,?_⟩)⟩)
    refine(se _ rfl _ rfl _ _ ⟨rfl,rfl,(by show ws.toArray.size+_<=sizeLine;rw[ay,e35];exact gc (mz (by show ws.length+1<=1000;omega))),?_⟩)
    have ez:(⟨ws.toArray⟩:Str)++ba "#" = ⟨(ws++[35]).toArray⟩:=by rw[e35];exact auy ws 35
    rw[ez]
    refine(l9 _ _ _ n6 (ws++[35]) ⟨rfl,exJ.trans x6,st6,hn6,by simp[hl5],λw hw=>?_⟩)
    rcases ax.mp hw with h|h
    .exact hw5 w h
    .rw[ao.mp h];decide
   .refine(pk _ rfl _ ⟨rfl,rfl,.inr (oj _ rfl _ _ ⟨rfl,rfl,?_⟩)⟩)
    refine(se _ rfl _ rfl _ _ ⟨rfl,rfl,(by show ws.toArray.size+1<=sizeLine;rw[ay];exact gc (mz (by omega))),?_⟩)
    rw[auy]
    refine(l9 _ _ _ n6 (ws++[k]) ⟨rfl,exJ.trans x6,st6,hn6,by simp[hl5],λw hw=>?_⟩)
    rcases ax.mp hw with h|h
    .exact hw5 w h
    .rw[ao.mp h];exact hsb
  .obtain⟨y8,y9,lf,n5,ws,rfl,exJ,stJ,hn5,hl5,hw5⟩:=h
   have rJ:=exJ.at nr rG
   refine(uz _ rfl (.inl ⟨rfl,_,SqL.of rJ⟩) _ rfl r (zs.map V.str) _ ⟨rfl,rfl,rJ,mz (by rw[ah];omega),?_⟩)
   have hz:=am8 hw5 (by omega)
   rw[hl5]at hz
   refine(l9 _ _ _ _ _ (mw n5 (zs++[⟨ws.toArray⟩]) ⟨rfl,(exG.trans exJ).new hrH,?_,hn5,?_,by simp[hl4],λz hz'=>?_⟩))
   .rw[nj (Ne.symm nr)];exact stJ
   .rw[br];exact mr
   .rcases ax.mp hz' with h|h
    .exact hz4 z h
    .rw[ao.mp h];exact hz
 .obtain⟨y6,y7,y8,y9,lf,n4,zs,rfl,exG,stG,hn4,rG,hl4,hz4⟩:=h
  refine(oj _ rfl r (zs.map V.str) ⟨rfl,.inl ⟨SqL.of rG,λp hp=>?_⟩⟩)
  generalize g1:upd G p _=G1 at *
  obtain⟨s5,e5⟩:=al hp g1
  clear g1
  obtain⟨M,eM,oM⟩:=am7 (zs:=zs) ⟨by omega,by omega,wi,by omega,by omega,hz4⟩
  exact q p G1 n4 M (exG.trans (Ex.of_same s5)) (s5 _ _ stG) hn4 ⟨by rw[<-eM];exact e5,oM⟩
end
theorem agg{H:Hp}{a:Addr}{x y:Str}(h:H a=some (.tup [.str x,.str y]))(hx:iw x=true)(hy:iw y=true):Rep H (.tuple [.str x,.str y]) (.ref a):=(ox a _ rfl h _ _ rfl ⟨rfl,hx⟩ _ ⟨_,rfl,⟨rfl,hy⟩,rfl⟩)
set_option pp.maxSteps 3000
section
variable{P:Program}{w:World}{K:ai}{mg:Str->Option Value}{base:Heap}{f:Addr}{fd:FuncData}
def asz:Sp:=λvs H Q _=>∃(st:Addr)(n:List V),vs=[.ref st]/\H st=some (.lst n)/\StL n/\
 ∀(p:Addr)(H':Hp)(n' avs:List V)(ads:List PyData),Ex [st] H H'->H' st=some (.lst n')->StL n'->H' p=some (.tup avs)->RepAll H' ads avs->pj ads=true->Q (.ref p) H'
theorem scApt:mx ["_law_state_here","_law_pairs"] ["_law_state_here"] (mj auc):={}
theorem arj(B:∀x∈tj,mg x=none)(Fnext:abf P w K mg base)(F:Fun K "_law_apart" "_law_apart" auc f fd):qe P w K mg base CX0 2 f fd ["_law_state_here"] asz:=by
 refine F.ok (k:=1) scApt (λvs H Q E h=>?_) (λcdv A outer s H vs Q E hr h=>?_)
 .obtain⟨_,_,rfl,_⟩:=h
  rfl
 obtain⟨st,n,rfl,hst,hn,q⟩:=h
 refine⟨_,(lw (qp (oo zh (nh Fnext hr (by decide) rfl (mf (pv 0) (mf l7 lv))) l7 (oz _)) (ma (my (ni lv))) o7)
  (lw (nc (i:=1) scApt.nd rfl (Or.inl rfl) (ph (mf (ni (mf o6 (mf o6 lv))) (mf (ni (mf o6 (mf o6 lv))) (mf (ni (mf o6 (mf o6 lv))) (mf (ni (mf o6 (mf o6 lv))) lv))))))
  (ma (my (wv ou rfl (B "tuple" (by decide)) li (mf (oq ["_law_pair","_law_state_here"] [none,some 0] rfl rfl (by decide +kernel) (by decide +kernel) rfl rfl (n0 (pv 1)) (λ_=>(mh (i:=0) (show(["_law_pair","_law_state_here"]:List PySem.Str).Nodup by decide +kernel) rfl (Or.inl rfl))) (λ_=>tq (oo zh (nh Fnext hr (by decide) rfl (mf (pv 1) (mf l7 lv))) l7 (oz _))) (λ_=>(pv 0))) lv)))))),?_⟩
 refine(om _ rfl st n 2 ⟨rfl,hst,hn,by decide,by decide,λn1 i1 H1 x1 st1 hn1 h10 h11=>⟨rfl,_,rfl,?_⟩⟩)
 refine u8 (λ_=>?_) (λ_=>?_)
 .refine⟨(by show 0<=sizeLine;decide),λp hp=>?_⟩
  generalize g1:upd H1 p _=H2 at *
  obtain⟨s2,e2⟩:=al hp g1
  exact q p H2 n1 [] [] (x1.trans (Ex.of_same s2)) (s2 _ _ st1) hn1 e2 rfl rfl
 refine⟨(by show 2<=sizeLine;decide),λa0 h0=>?_⟩
 generalize g1:upd H1 a0 _=A0 at *
 obtain⟨s0,e0⟩:=al h0 g1
 clear g1
 refine⟨(by show 2<=sizeLine;decide),λa1 h1=>?_⟩
 generalize g1:upd A0 a1 _=A1 at *
 obtain⟨s1,e1⟩:=al h1 g1
 clear g1
 refine⟨(by show 2<=sizeLine;decide),λa2 h2=>?_⟩
 generalize g1:upd A1 a2 _=A2 at *
 obtain⟨s2,e2⟩:=al h2 g1
 clear g1
 refine⟨(by show 2<=sizeLine;decide),λa3 h3=>?_⟩
 generalize g1:upd A2 a3 _=A3 at *
 obtain⟨s3,e3⟩:=al h3 g1
 clear g1
 refine⟨(by show 4<=sizeLine;decide),λpl hpl=>?_⟩
 generalize g1:upd A3 pl _=H2 at *
 obtain⟨s4,e4⟩:=al hpl g1
 clear g1
 have sA:Same H1 H2:=(((s0.trans s1).trans s2).trans s3).trans s4
 have rA:RepAll H2 [.tuple [.str "A",.str "A"],.tuple [.str "A",.str "B"],.tuple [.str "B",.str "B"],.tuple [.str "B",.str "C"]] [.ref a0,.ref a1,.ref a2,.ref a3]:=
  (ox _ _ rfl (agg ((((s1.trans s2).trans s3).trans s4) _ _ e0) (by decide +kernel) (by decide +kernel)) _ _ rfl (agg (((s2.trans s3).trans s4) _ _ e1) (by decide +kernel) (by decide +kernel)) _ (oe _ rfl (agg ((s3.trans s4) _ _ e2) (by decide +kernel) (by decide +kernel)) _ ⟨_,rfl,agg (s4 _ _ e3) (by decide +kernel) (by decide +kernel),rfl⟩))
 have st2:=sA _ _ st1
 have npl:pl≠st:=λe=>by rw[e,(((s0.trans s1).trans s2).trans s3) _ _ st1]at hpl;cases hpl
 refine(pk _ rfl pl ⟨rfl,⟨_,SqL.of e4⟩,λD hD=>?_⟩)
 have nD:D≠st:=λe=>by rw[e,st2]at hD;cases hD
 generalize hPS:[PyData.tuple [.str "A",.str "A"],.tuple [.str "A",.str "B"],.tuple [.str "B",.str "B"],.tuple [.str "B",.str "C"]]=PS at *
 have imP:∀ds:List PyData,(∀d∈ds,d∈PS)->pj ds=true:=λds h=>qc λd hd=>by
  have:=h d hd
  rw[<-hPS]at this
  simp only[bq,jb,or_false]at this
  rcases this with rfl|rfl|rfl|rfl<;>rfl
 refine ny (xs:=[.ref a0,.ref a1,.ref a2,.ref a3]) (λi zs J=>Ex [st] H2 J/\(∃n:List V,J st=some (.lst n)/\StL n)/\∃ds:List PyData,RepAll J ds zs/\∀d∈ds,d∈PS) ⟨Ex.fresh hD,⟨n1,by rw[nj (Ne.symm nD)];exact st2,hn1⟩,[],rfl,λd hd=>by cases hd⟩ (λi zs J p=>SqL.of (p.1.at npl e4)) (λi x zs J hx hi hDy hzl p=>?_) (λzs J hDy hzl p=>?_)
 .obtain⟨p1,⟨n5,st5,hn5⟩,ds,rep,hds⟩:=p
  obtain⟨d,hd,rd⟩:=rA.at hx
  have hdm:=aq hd
  refine⟨Agree.set (Agree.refl _) rfl,?_⟩
  refine(om _ rfl st n5 3 ⟨rfl,st5,hn5,by decide,by decide,λn6 i6 J6 x6 st6 hn6 h60 h61=>⟨rfl,_,rfl,?_⟩⟩)
  have imd:imm d=true:=by have:=imP [d] (λe he=>by rw[ao.mp he];exact hdm);simpa [pj]using this
  have rep6:=rep.tk (x6.one st5) (imP ds hds)
  have D6:=x6.at nD hDy
  refine u8 (λ_=>?_) (λ_=>?_)
  .have hds':∀e∈ds++[d],e∈PS:=λe he=>by
    rcases ax.mp he with h|h
    .exact hds e h
    .rw[ao.mp h];exact hdm
   refine⟨_,rfl,pi (by have:i<4:=hi;omega) D6 hzl ⟨(p1.trans x6).new hD,⟨n6,by rw[nj (Ne.symm nD)];exact st6,hn6⟩,ds++[d],?_,hds'⟩⟩
   exact(rep6.snoc (Rep.tk (Tk.trans (p1.one st2) (x6.one st5)) imd rd)).tk (Tk.lst D6) (imP _ hds')
  .exact⟨_,D6,gp hzl,p1.trans x6,⟨n6,st6,hn6⟩,ds,rep6,hds⟩
 .obtain⟨p1,⟨n5,st5,hn5⟩,ds,rep,hds⟩:=p
  refine(mw D zs ⟨rfl,.inl ⟨SqL.of hDy,λt ht=>?_⟩⟩)
  generalize g1:upd J t _=J1 at *
  obtain⟨s9,e9⟩:=al ht g1
  exact q t J1 n5 zs ds ((x1.trans (Ex.of_same sA)).trans (p1.trans (Ex.of_same s9))) (s9 _ _ st5) hn5 e9 (rep.same s9) (imP ds hds)
def aru:Sp:=λvs H Q _=>∃(st:Addr)(n:List V)(m k:Int),vs=[.ref st,.int m,.int k]/\H st=some (.lst n)/\StL n/\0<=m/\m<=64/\0<k/\k<=3/\
 ∀(pz:Addr)(H':Hp)(n':List V)(fl kr e:Addr)(M:Mat)(kvs:List V) (ks:List (List PyData×Nat)) (lms:List (Int×Option Int)) (avs:List V) (ads:List PyData),Ex [st] H H'->H' st=some (.lst n')->StL n'->PzB H' pz fl kr e M kvs ks lms avs ads->0<lms.length->(∀q∈lms,0<=q.1)->pj ads=true->Q (.ref pz) H'
theorem scLpz:mx ["_law_state_here","_law_most","_law_many","_law_kinds_here","_law_floor_here"] ["_law_state_here","_law_most","_law_many"] (mj av0):={}
theorem as0(Fkinds:Fn P w K mg base "_law_kinds" 3 ["_law_state_here","_law_many"] ajx)(Ffloor:Fn P w K mg base "_law_floor" 3 ["_law_state_here","_law_most"] akg)(Fapt:Fn P w K mg base "_law_apart" 2 ["_law_state_here"] asz)(F:Fun K "_law_puzzle" "_law_puzzle" av0 f fd):qe P w K mg base CX0 4 f fd ["_law_state_here","_law_most","_law_many"] aru:=by
 refine F.ok (k:=3) scLpz (λvs H Q E h=>?_) (λcdv A outer s H vs Q E hr h=>?_)
 .obtain⟨_,_,_,_,rfl,_⟩:=h
  rfl
 obtain⟨st,n,m,k,rfl,hst,hn,hm0,hm1,hk0,hk1,q⟩:=h
 refine⟨_,(lw (nc (i:=3) scLpz.nd rfl (Or.inl rfl) (nh Fkinds hr (by decide) rfl (mf (pv 0) (mf (pv 2) lv))))
  (lw (nc (i:=4) scLpz.nd rfl (Or.inl rfl) (nh Ffloor hr (by decide) rfl (mf (pv 0) (mf (pv 1) lv))))
  (ma (my (ni (mf (pv 4) (mf (pv 3) (mf (nh Fapt hr (by decide) rfl (mf (pv 0) lv)) lv)))))))),?_⟩
 refine(mq _ rfl _ rfl st n k ⟨rfl,hst,hn,hk0,hk1,λkr H1 n1 kvs ks ms x1 st1 hn1 hkr hK hp0 hp3 hms=>?_⟩)
 refine(mq _ rfl _ rfl st n1 m ⟨rfl,st1,hn1,hm0,hm1,λfl H2 n2 M x2 st2 hn2 hM=>?_⟩)
 refine(og _ rfl _ rfl _ rfl st n2 ⟨rfl,st2,hn2,λe H3 n3 avs ads x3 st3 hn3 hap hra hia=>?_⟩)
 refine⟨(by show 3<=sizeLine;decide),λpz hpz=>?_⟩
 generalize g1:upd H3 pz _=H4 at *
 obtain⟨s4,e4⟩:=al hpz g1
 have t12:=x2.one st1
 have t23:=x3.one st2
 have t34:=Tk.of_same s4
 obtain⟨k1,k2⟩:=((hK.tk t12).tk t23).kinds (by omega)
 exact q pz H4 n3 fl kr e M kvs ks ms avs ads ((x1.trans x2).trans (x3.trans (Ex.of_same s4))) (s4 _ _ st3) hn3 ⟨e4,⟨(t23.trans t34) _ _ hM.1,hM.2⟩,(t12.trans (t23.trans t34)) _ _ hkr,k1.same s4,k2.same s4,s4 _ _ hap,hra.same s4⟩ hp0 hms hia
end
end K23
namespace L3
open PySem PySem.Spec PyProof.Rows L2
def aif(w:World)(ty td:TE):TE:=λσ H Q=>ty σ H λy H1=>td σ H1 λx H2=>∃a xs ep d b,x=.ref a/\y=.ref b/\DN w H2 a xs ep/\KRep H2 d b/\Q (.bl (!(r8 xs d).isSome)) H2
section
variable{X:Cx}{i o:Expr}{ty td:TE}
theorem adc(hu:X.A.units+9<cLine)(hi:PE X i ty)(ho:PE X o td):PC X .NotIn i o (aif X.w ty td):=by
 intro pins s σ H Q I h
 refine thn (hi pins s σ H _ I h) λiv s1 ⟨y,H1,I1,ry,q1⟩=>thn (ho pins s1 σ H1 _ I1 q1) λu s2 ⟨x,H2,I2,rx,a,xs,ep,d,b,ex,ey,D,k,q2⟩=>?_
 subst ex ey
 obtain rfl:u=Value.ref a:=rx
 obtain rfl:iv=Value.ref b:=ry
 obtain⟨ys,rel,dd⟩:=D.at I2
 refine wpAny_notIn_heap (knd:=rf X.prog X.w) (show X.A.units+1+8<cLine by omega) (k.at I2) D.sys dd ?_
 have q:=(rel.val d).isSome_eq
 rw[Option.isSome_map]at q
 rw[<-q]
 exact⟨.bl (!(r8 xs d).isSome),H2,I2.tok _,rfl,q2⟩
end
theorem aau{X:Cx}{N:List Str}{scope:Scope}{z:CZ}{i o:Expr}{ty td:TE}(hu:X.A.units+9<cLine)(hi:PE (nv X N scope z) i ty)(ho:PE (nv X N scope z) o td):PC (nv X N scope z) .NotIn i o (aif X.w ty td):=adc (X:=nv X N scope z) hu hi ho
end L3
namespace K23
open PySem PyProof.Rows L2 L3
noncomputable def knF(M:Mat)(os:List Opt):Kn:=os.foldl (stp M) λ_=>none
theorem uy(M:Mat)(os:List Opt)(o:Opt):knF M (os++[o])=stp M (knF M os) o:=by unfold knF;rw[List.foldl_append];rfl
def FitA(M:Mat)(nk:Nat)(os:List Opt):Prop:=∀i o,os[i]?=some o->Fit M (knF M (os.take i)) nk o
theorem FitA.snoc{M:Mat}{nk:Nat}{os:List Opt}{o:Opt}(h:FitA M nk os)(h':Fit M (knF M os) nk o):FitA M nk (os++[o]):=λi o' e=>by
 by_cases hi:i<os.length
 .rw[cr hi]at e
  rw[List.take_append_of_le_length (by omega)]
  exact h i o' e
 .have hl:=(ae.mp e).1
  rw[bu,g9]at hl
  have:i=os.length:=by omega
  subst this
  rw[cb (am _),ke]at e
  cases e
  rw[List.take_left]
  exact h'
theorem axz:Sgn λ_=>none:=λi c h=>by cases h
theorem FitA.sgn{M:Mat}{nk:Nat}{os:List Opt}(h:FitA M nk os):∀i,Sgn (knF M (os.take i)):=λi=>by
 induction i with
 | zero=>rw[List.take_zero];exact axz
 | succ i ih=>
  rw[f7]
  cases e:os[i]? with
  | none=>simpa using ih
  | some o=>
   rw[gv,uy]
   exact(h i o e).sgn ih
def ChH(H:Hp)(M:Mat)(nk:Nat)(cvs:List V)(os:List Opt):Prop:=cvs.length=os.length/\∀(i:Nat) v o,cvs[i]?=some v->os[i]?=some o->OpV H M nk v o
theorem ChH.tk{H H':Hp}{M:Mat}{nk:Nat}{cvs:List V}{os:List Opt}(h:ChH H M nk cvs os)(t:Tk H H'):ChH H' M nk cvs os:=⟨h.1,λi v o a b=>(h.2 i v o a b).tk t⟩
theorem ChH.at{H:Hp}{M:Mat}{nk:Nat}{cvs:List V}{os:List Opt}(h:ChH H M nk cvs os){i:Nat}{v:V}(e:cvs[i]?=some v):∃o,os[i]?=some o/\OpV H M nk v o:=by
 have hi:=(ae.mp e).1
 have hi':i<os.length:=by rw[<-h.1];exact hi
 exact⟨_,ab hi',h.2 i v _ e (ab hi')⟩
noncomputable def isK(n:Nat):Opt->Bool
 | none=>false
 | some q=>q.2==n
noncomputable def usL(lms:List (Int×Option Int))(os:List Opt):List Int:=(b9 lms.length).map λn=>wb (lms[n]?.getD (0,none)).1 (lms[n]?.getD (0,none)).2 ((os.countP (isK n):Nat):Int)
theorem qw(lms:List (Int×Option Int))(os:List Opt):(usL lms os).length=lms.length:=by unfold usL;simp
theorem aa7{lms:List (Int×Option Int)}{os:List Opt}{n:Nat}(h:n<lms.length):(usL lms os)[n]?=some (wb (lms[n]?.getD (0,none)).1 (lms[n]?.getD (0,none)).2 ((os.countP (isK n):Nat):Int)):=by
 unfold usL
 rw[aw,jj h]
 rfl
theorem aoo(le:Int)(m:Option Int)(c:Nat):wb le m (wb le m (c:Nat)+1)=wb le m (((c+1:Nat)):Int):=by
 unfold wb
 cases m with
 | none=>
  dsimp only
  split<;>split<;>(try split)<;>omega
 | some _=>dsimp only;omega
theorem ags(lms:List (Int×Option Int))(os:List Opt)(o:Opt):usS lms (usL lms os) o=usL lms (os++[o]):=by
 apply j4
 intro n
 by_cases hn:n<lms.length
 .rw[aa7 hn,List.countP_append]
  cases o with
  | none=>
   show(usL lms os)[n]?=_
   rw[aa7 hn]
   rfl
  | some q=>
   show((usL lms os).set q.2 _)[n]?=_
   rw[List.getElem?_set]
   by_cases hq:q.2=n
   .subst hq
    rw[if_pos rfl,if_pos (by rw[qw];exact hn),aa7 hn,Option.getD_some,aoo]
    have:List.countP (isK q.2) [some q]=1:=by simp[isK]
    rw[this]
   .rw[if_neg hq,aa7 hn]
    have:List.countP (isK n) [some q]=0:=by simp[isK,hq]
    rw[this]
    rfl
 .rw[fc (by cases o with|none=>show(usL lms os).length<=n;rw[qw];omega|some q=>show((usL lms os).set _ _).length<=n;rw[List.length_set,qw];omega),fc (by rw[qw];omega)]
def KnD(M:Mat)(kn:Kn)(xs:List KA):Prop:=∀i k,(ocn M)[i]?=some k->r8 xs (cdx M k)=(kn i).map chV
theorem akl{xs:List KA}{d d':PyData}{b:Addr}{v:V}:r8 (xq xs d b v) d'=if d'=d then some v else r8 xs d':=by
 unfold xq
 by_cases h:(r8 xs d).isSome=true
 .rw[if_pos h]
  unfold r8 at h⊢
  induction xs with
  | nil=>cases h
  | cons x xs ih=>
   rw[c5,ix,ix]
   rw[ix]at h
   by_cases hx:x.1=d
   .by_cases hd:d'=d
    .subst hd;simp[hx]
    .have h1:¬x.1=d':=λz=>hd (z.symm.trans hx)
     have h2:¬d=d':=λz=>hd z.symm
     simp only[hx,if_true,decide_true,h2,decide_false,if_neg hd]
     have:∀l:List KA,Option.map (·.2.2) ((l.map λx=>if x.1=d then(x.1,x.2.1,v)else x).find? λx=>decide (x.1=d'))=Option.map (·.2.2) (l.find? λx=>decide (x.1=d')):=λl=>by
      induction l with
      | nil=>rfl
      | cons y l ih2=>
       rw[c5,ix,ix]
       by_cases hy:y.1=d
       .simp only[hy,if_true,h2,decide_false]
        exact ih2
       .simp only[hy,if_false]
        cases decide (y.1=d')with
        | true=>rfl
        | false=>exact ih2
     exact this xs
   .simp only[hx,decide_false,if_false]at h⊢
    by_cases hd:x.1=d'
    .have h2:¬d'=d:=λz=>hx (hd.trans z)
     simp[hd,h2]
    .simp only[hd,decide_false]
     exact ih h
 .rw[if_neg h]
  unfold r8 at h⊢
  rw[List.find?_append]
  cases e:xs.find? (λx=>decide (x.1=d'))with
  | some y=>
   have hy:y.1=d':=of_decide_eq_true (List.find?_some (p:=λx:KA=>decide (x.1=d')) e)
   have hd:¬d'=d:=λz=>h (by rw[<-z,e];rfl)
   simp[hd]
  | none=>
   by_cases hd:d'=d
   .subst hd;simp
   .have h2:¬d=d':=λz=>hd z.symm
    simp[hd,h2]
theorem ai4{M:Mat}(hw:0<M.w){kn:Kn}{xs:List KA}(h:KnD M kn xs){i k c:Nat}(hk:(ocn M)[i]?=some k)(b:Addr):KnD M (knS kn [(i,c)]) (xq xs (cdx M k) b (chV c)):=λj k' hj=>by
 rw[akl]
 by_cases e:k'=k
 .subst e
  have ej:j=i:=(List.getElem?_inj (ae.mp hj).1 (abc M _)).mp (hj.trans hk.symm)
  subst ej
  have:=wg (kn:=kn) (js:=[(j,c)]) (by simp) (q:=(j,c)) (ao.mpr rfl)
  rw[this]
  simp
 .have e2:cdx M k'≠cdx M k:=λz=>e (aaf hw z)
  have e3:j≠i:=λz=>by rw[z,hk]at hj;exact e (cm hj).symm
  rw[rn (by simpa using e3),<-h j k' hj]
  simp[e2]
theorem amd(kn:Kn)(js:List (Nat×Nat))(q:Nat×Nat)(nd:((js++[q]).map (·.1)).Nodup):knS (knS kn js) [q]=knS kn (js++[q]):=by
 funext i
 by_cases hi:i=q.1
 .subst hi
  rw[wg (by simp) (ao.mpr rfl),wg nd (ax.mpr (.inr (ao.mpr rfl)))]
 .rw[rn (by simpa using hi)]
  by_cases hm:i∈js.map (·.1)
  .obtain⟨p,hp,rfl⟩:=bi.mp hm
   have nd1:(js.map (·.1)).Nodup:=by rw[br]at nd;exact(List.nodup_append.mp nd).1
   rw[wg nd1 hp,wg nd (ax.mpr (.inl hp))]
  .rw[rn hm,rn (by rw[br,ax];simpa [hm]using hi)]
seal L2.PE L2.PT L2.PW L2.PA L2.PS L2.PSs L2.PG L2.PGs L2.PI L2.PO
set_option pp.maxSteps 3000
section
variable{P:Program}{w:World}{K:ai}{mg:Str->Option Value}{base:Heap}{f:Addr}{fd:FuncData}
theorem scBes:mx ["_law_cell","_law_row","_law_column"] ["_law_cell"] (mj aud):={}
theorem asl(F:Fun K "_law_beside" "_law_beside" aud f fd):qe P w K mg base CX0 1 f fd ["_law_cell"] amb:=by
 refine F.ok (k:=0) scBes (λvs H Q E h=>?_) (λcdv A outer s H vs Q E hr h=>?_)
 .obtain⟨_,_,_,rfl,_⟩:=h
  rfl
 obtain⟨a,r,c,rfl,ha,q⟩:=h
 refine⟨_,(lw (xj (pv 0) (rj (n:=2) rfl (mn (mh (i:=1) scBes.nd rfl (Or.inl rfl)) (mn (mh (i:=2) scBes.nd rfl (Or.inl rfl)) o0))))
  (ma (my (ph (mf (ni (mf (ow u6 (pv 1) l7) (mf (pv 2) lv))) (mf (ni (mf (pv 1) (mf (ow u6 (pv 2) l7) lv))) (mf (ni (mf (pv 1) (mf (ow qg (pv 2) l7) lv))) (mf (ni (mf (ow qg (pv 1) l7) (mf (pv 2) lv))) lv)))))))),?_⟩
 refine(aex _ rfl a _ rfl (SqT.of ha) rfl _ _ ⟨rfl,(mw _ _ ⟨rfl,rfl,?_⟩)⟩)
 refine(n8 _ rfl _ _ rfl rfl _ ⟨rfl,(by show 2<=sizeLine;decide),λa1 h1=>?_⟩)
 generalize g1:upd H a1 _=H1 at *
 obtain⟨s1,e1⟩:=al h1 g1
 refine(se _ rfl _ rfl _ _ ⟨rfl,rfl,(by show 2<=sizeLine;decide),λa2 h2=>?_⟩)
 generalize g2:upd H1 a2 _=H2 at *
 obtain⟨s2,e2⟩:=al h2 g2
 refine(se _ rfl _ rfl _ _ ⟨rfl,rfl,(by show 2<=sizeLine;decide),λa3 h3=>?_⟩)
 generalize g3:upd H2 a3 _=H3 at *
 obtain⟨s3,e3⟩:=al h3 g3
 refine(n8 _ rfl _ _ rfl rfl _ ⟨rfl,(by show 2<=sizeLine;decide),λa4 h4=>?_⟩)
 generalize g4:upd H3 a4 _=H4 at *
 obtain⟨s4,e4⟩:=al h4 g4
 refine⟨(by show 4<=sizeLine;decide),λl hl=>?_⟩
 generalize g5:upd H4 l _=H5 at *
 obtain⟨s5,e5⟩:=al hl g5
 exact q l _ H5 ((((s1.trans s2).trans s3).trans s4).trans s5) ((((s1.trans s2).trans s3).trans s4).free hl) e5
  (ox _ _ rfl (ur ((((s2.trans s3).trans s4).trans s5) _ _ e1)) _ _ rfl (ur (((s3.trans s4).trans s5) _ _ e2)) _ (oe _ rfl (ur ((s4.trans s5) _ _ e3)) _ ⟨_,rfl,ur (s5 _ _ e4),rfl⟩))
theorem scCel:mx ["_law_floor_here","_law_cells_here","_law_row","_law_column"] ["_law_floor_here"] (mj avr):={}
theorem aqk(B:∀x∈tj,mg x=none)(F:Fun K "_law_cells" "_law_cells" avr f fd):qe P w K mg base CX0 1 f fd ["_law_floor_here"] ap7:=by
 refine F.ok (k:=0) scCel (λvs H Q E h=>?_) (λcdv A outer s H vs Q E hr h=>?_)
 .obtain⟨_,_,rfl,_⟩:=h
  rfl
 obtain⟨a,M,rfl,hf,q⟩:=h
 have okM:=hf.2
 have h1:=okM.h1
 have h8:=okM.h8
 have w1:=okM.w1
 have w8:=okM.w8
 have hhw:M.h*M.w<=64:=jg h8 w8
 have ls:((tf M).map V.str).length=M.h:=by rw[ah,rk]
 refine⟨_,(lw (nc (i:=1) scCel.nd rfl (Or.inl rfl) (ph lv))
  (lw (p7 ci rfl (zp rfl (B "range" (by decide)) (mf (p8 oh rfl (B "len" (by decide)) ft (mf (pv 0) lv)) lv)) (mh (i:=2) scCel.nd rfl (Or.inl rfl)) (ma (p7 ci rfl (zp rfl (B "range" (by decide)) (mf (p8 rg rfl (B "len" (by decide)) ft (mf (ng nu (pv 0) l7 (λ_ _=>rfl)) lv)) lv)) (mh (i:=3) scCel.nd rfl (Or.inl rfl)) (ma (qp (oo afh (ng xk (ng nu (pv 0) (pv 2) (λ_ _=>rfl)) (pv 3) (λ_ _=>rfl)) o6 (oz _)) (ma (qo (vk da dz ee p9 (pv 1) (mf (ni (mf (pv 2) (mf (pv 3) lv))) lv)))) o7)))))
  (ma (my (pv 1))))),?_⟩
 refine⟨(by show 0<=sizeLine;decide),λD hD=>?_⟩
 generalize g1:upd H D _=H1 at *
 obtain⟨s1,e1⟩:=al hD g1
 clear g1
 have hfl:=hf.1
 refine(n8 _ rfl a _ rfl (.inr (SqT.of (s1 _ _ hfl))) _ ⟨rfl,by rw[ls];omega,by rw[ls];omega,?_⟩)
 rw[ls,cc]
 refine qj (lo:=0) (λr σ' G=>∃(y2 y3:Option V)(ys:List V),σ'=[some (.ref a),some (.ref D),y2,y3]/\Same H G/\G D=some (.lst ys)/\RepAll G ((oix M (r*M.w)).map (cdx M)) ys) ?_ (λr σ' G hr' h=>?_) (λσ' G h=>?_)
 .exact(nq _ _ ([]) ⟨rfl,s1,e1,by rw[Nat.zero_mul];rfl⟩)
 .obtain⟨y2,y3,ys,rfl,sG,hG,rep⟩:=h
  have l0:=abo (M:=M) (r:=0) h1
  refine(me _ rfl a _ _ _ ⟨rfl,rfl,SqT.of (sG _ _ hfl),mm (j:=0) l0,(oe _ rfl (by rw[pw];exact akf okM) _ ⟨rfl,by rw[pw];omega,by rw[pw];omega,?_⟩)⟩)
  rw[pw,cc]
  refine qj (lo:=0) (λc σ' J=>∃(y3:Option V)(ys:List V),σ'=[some (.ref a),some (.ref D),some (.int (0+(r:Int))),y3]/\Same H J/\J D=some (.lst ys)/\RepAll J ((oix M (r*M.w+c)).map (cdx M)) ys) ?_ (λc σ' J hc h=>?_) (λσ' J h=>?_)
  .exact(mw _ ys ⟨rfl,sG,hG,rep⟩)
  .obtain⟨y3,ys,rfl,sJ,hJ,rep⟩:=h
   have hrl:=abo (M:=M) hr'
   have lr:=rep.length
   rw[ah]at lr
   have ol:=ww M (r*M.w+c)
   have hrc:r*M.w+c<M.h*M.w:=by
    have:(r+1)*M.w<=M.h*M.w:=Nat.mul_le_mul_right _ hr'
    rw[Nat.add_mul,Nat.one_mul]at this
    omega
   have os:=agl M (r*M.w+c)
   rw[aba hc,aas hc]at os
   have e35:ba "#" = ⟨#[35]⟩:=by decide +kernel
   have ed:(!decide (V.str ⟨#[M.g r c]⟩=V.str (ba "#"))) = !(M.g r c==35):=by rw[vd _ 35 e35]
   refine(mq _ rfl _ rfl a _ _ ⟨_,rfl,rfl,SqT.of (sJ _ _ hfl),(by rw[Int.zero_add];exact mm hrl),(om _ rfl _ _ (M.g r c) ⟨rfl,rfl,by rw[pw];exact akf okM,(by rw[Int.zero_add];exact mm (acb hc)),rfl,_,rfl,?_⟩)⟩)
   rw[ed]
   refine u8 (λh=>?_) (λh=>?_)
   .rw[if_pos h]at os
    refine(oe _ rfl (.inl ⟨rfl,_,SqL.of hJ⟩) _ ⟨rfl,_,rfl,(by show 2<=sizeLine;decide),λt ht=>?_⟩)
    generalize g1:upd J t _=J1 at *
    obtain⟨s2,e2⟩:=al ht g1
    clear g1
    have hD2:=s2 _ _ hJ
    refine(nq D ys _ ⟨rfl,rfl,hD2,mz (by omega),?_⟩)
    refine(mw _ _ ⟨rfl,(sJ.trans s2).new hD,mr,?_⟩)
    rw[<-jn,os,br]
    rw[Int.zero_add,Int.zero_add]at e2
    have im:=akd M (oix M (r*M.w+c)++[r*M.w+c])
    rw[br]at im
    refine((rep.same s2).snoc (show Rep J1 (cdx M (r*M.w+c)) (.ref t)from ?_)).tk (Tk.lst hD2) im
    rw[afu hc]
    exact ur e2
   .rw[if_neg h,gf]at os
    exact(mw _ ys ⟨rfl,sJ,hJ,by rw[<-jn,os];exact rep⟩)
  .obtain⟨y3,ys,rfl,sJ,hJ,rep⟩:=h
   exact(nq _ _ ys ⟨rfl,sJ,hJ,by rw[Nat.add_mul,Nat.one_mul];exact rep⟩)
 .obtain⟨y2,y3,ys,rfl,sG,hG,rep⟩:=h
  exact⟨_,rfl,q D ys G sG hD hG rep⟩
end
theorem eDn:V.str (ba "-")=chV 45:=congrArg V.str (by decide +kernel)
theorem ajv{p:Nat->Bool}{n:Nat}(h:∃i,i<n/\p i=true):∃t,(b9 n).filter p=((b9 n).find? p).getD 0::t:=by
 obtain⟨i,hi,hp⟩:=h
 cases e:(b9 n).filter p with
 | nil=>exact absurd (ll.mpr ⟨fg.mpr hi,hp⟩) (by rw[e];simp)
 | cons a t=>
  have:(b9 n).find? p=some a:=by rw[<-List.head?_filter,e];rfl
  rw[this]
  exact⟨t,rfl⟩
set_option pp.maxSteps 3000
section
variable{P:Program}{w:World}{K:ai}{mg:Str->Option Value}{base:Heap}{f:Addr}{fd:FuncData}
def ar3(w:World):Sp:=λvs H Q _=>∃(cl ch:Addr)(M:Mat)(ys cvs:List V)(os:List Opt)(nk:Nat),vs=[.ref cl,.ref ch]/\0<M.w/\(ocn M).length<=64/\H cl=some (.lst ys)/\RepAll H ((ocn M).map (cdx M)) ys/\H ch=some (.lst cvs)/\ChH H M nk cvs os/\FitA M nk os/\os.length<=20/\
 ∀(D:Addr)(xs:List KA)(ep:Nat)(H':Hp),Same H H'->DN w H' D xs ep->KnD M (knF M os) xs->Q (.ref D) H'
theorem scDec:mx ["_law_cells_here","_law_chosen","_law_known","_law_one","_law_row","_law_column","_law_sign"] ["_law_cells_here","_law_chosen"] (mj at2):={}
theorem asd(F:Fun K "_law_decided" "_law_decided" at2 f fd):qe P w K mg base CX0 1 f fd ["_law_cells_here","_law_chosen"] (ar3 w):=by
 refine F.ok (k:=0) scDec (λvs H Q E h=>?_) (λcdv A outer s H vs Q E hr h=>?_)
 .obtain⟨_,_,_,_,_,_,_,rfl,_⟩:=h
  rfl
 obtain⟨cl,ch,M,ys,cvs,os,nk,rfl,hw,h64,hcl,repC,hch,hO,hF,h20,q⟩:=h
 have hu:=hr.units
 have lc:=repC.length
 rw[ah]at lc
 have lo:=hO.1
 refine⟨_,(lw (nc (i:=2) scDec.nd rfl (Or.inr rfl) ael)
  (lw (p7 ci rfl (n0 (pv 1)) (mh (i:=3) scDec.nd rfl (Or.inl rfl)) (ma (qp (oo acq (pv 3) sr (oz _)) (ma (ach (eu (fj (by decide) _) hu) (pv 2) (ng o9 (oq ["_law_cell","_law_known"] [none,some 2] rfl rfl (by decide +kernel) (by decide +kernel) rfl rfl (n0 (pv 0)) (λ_=>(mh (i:=0) (show(["_law_cell","_law_known"]:List PySem.Str).Nodup by decide +kernel) rfl (Or.inl rfl))) (λ_=>tq (ago (aau (eu (fj (by decide) _) hu) (pv 0) (pv 1)))) (λ_=>(pv 0))) l7 (λ_ _=>rfl)) o6 rfl)) (ma (p7 ci rfl (aa1 (ng nu (pv 3) l7 (λ_ _=>rfl))) (rj (n:=3) rfl (mn (mh (i:=4) scDec.nd rfl (Or.inl rfl)) (mn (mh (i:=5) scDec.nd rfl (Or.inl rfl)) (mn (mh (i:=6) scDec.nd rfl (Or.inl rfl)) o0)))) (ma (ach (eu (fj (by decide) _) hu) (pv 2) (ni (mf (pv 4) (mf (pv 5) lv))) (pv 6) rfl)))))))
  (ma (my (pv 2))))),?_⟩
 refine λD hD hsys=>?_
 generalize gg:upd H D _=H1 at *
 have s1:Same H H1:=(al hD gg).1
 have d1:DN w H1 D [] 0:=by rw[<-gg];exact DN.new hsys
 clear gg
 have keep:∀{G:Hp},Ex [D] H1 G->Same H G:=λex b o hb=>ex.at (λz=>by rw[z,hD]at hb;cases hb) (s1 _ _ hb)
 refine(pk _ rfl ch ⟨rfl,⟨_,SqL.of (s1 _ _ hch)⟩,?_⟩)
 refine qr (xs:=cvs) (λi σ' G=>∃(y3 y4 y5 y6:Option V)(xs:List KA)(ep:Nat),σ'=[some (.ref cl),some (.ref ch),some (.ref D),y3,y4,y5,y6]/\Ex [D] H1 G/\DN w G D xs ep/\KnD M (knF M (os.take i)) xs/\xs.length<=6*i) ?_ (λi σ' G hi h=>?_) (λi v σ' G hv h=>?_) (λσ' G h=>?_)
 .exact(l9 _ _ _ _ ([]) ⟨0,rfl,Ex.refl _ _,d1,λi k _=>rfl,dq _⟩)
 .obtain⟨_,_,_,_,_,_,_,ex,_⟩:=h
  exact SqL.of (keep ex _ _ hch)
 .obtain⟨y3,y4,y5,y6,xs,ep,rfl,ex,dn,hkn,hxl⟩:=h
  have sG:=keep ex
  have hil:=(ae.mp hv).1
  obtain⟨o,ho,hov⟩:=(hO.tk (Tk.of_same sG)).at hv
  have hfit:=hF i o ho
  have ek:knF M (os.take (i+1))=stp M (knF M (os.take i)) o:=by rw[f7,ho,gv,uy]
  rw[ek]
  generalize knF M (os.take i)=kn at *
  cases o with
  | none=>
   cases (show v=V.non from hov)
   refine(oe _ rfl rfl _ ⟨rfl,si ?_⟩)
   refine(vo _ rfl _ rfl cl ⟨rfl,⟨_,SqL.of (sG _ _ hcl)⟩,λL hL=>?_⟩)
   have repG:=repC.same sG
   refine ny (xs:=ys) (λt zs J=>Same G J/\RepAll J (((b9 t).filter λj=>(kn j).isNone).map λj=>cdx M ((ocn M)[j]?.getD 0)) zs) ⟨Same.fresh _ hL,rfl⟩ (λt zs J p=>SqL.of (p.1 _ _ (sG _ _ hcl))) (λt x zs J hx ht hDy hzl p=>?_) (λzs J hDy hzl p=>?_)
   .obtain⟨p1,p2⟩:=p
    obtain⟨d,hd,rd⟩:=repG.at hx
    rw[aw]at hd
    obtain⟨k,hk,rfl⟩:=bv.mp hd
    obtain⟨ca,rfl,hca⟩:=acv rd
    have hcJ:=p1 _ _ hca
    refine⟨Agree.set (Agree.refl _) rfl,?_⟩
    refine(mq _ rfl _ rfl D xs ep (mw (cdx M k) ca ⟨rfl,rfl,dn.same p1,kr2 hcJ,_,rfl,?_⟩))
    have ev:(!(r8 xs (cdx M k)).isSome)=(kn t).isNone:=by rw[hkn t k hk];cases kn t<;>rfl
    rw[ev]
    have fs:(((b9 (t+1)).filter λj=>(kn j).isNone).map λj=>cdx M ((ocn M)[j]?.getD 0))=(((b9 t).filter λj=>(kn j).isNone).map λj=>cdx M ((ocn M)[j]?.getD 0))++if (kn t).isNone=true then[cdx M k]else[]:=by
     rw[j9,List.filter_append,br]
     congr 1
     cases e:(kn t).isNone<;>simp[e,hk]
    refine u8 (λh=>?_) (λh=>?_)
    .rw[if_pos h]at fs
     refine⟨_,rfl,pi (by omega) hDy hzl ⟨p1.new hL,?_⟩⟩
     rw[fs]
     have im:pj ((((b9 t).filter λj=>(kn j).isNone).map λj=>cdx M ((ocn M)[j]?.getD 0))++[cdx M k])=true:=qc λd hd=>by
      rcases ax.mp hd with h|h
      .obtain⟨j,_,rfl⟩:=bi.mp h
       rfl
      .rw[ao.mp h]
       rfl
     exact(p2.snoc (ur hcJ)).tk (Tk.lst hDy) im
    .rw[if_neg h,gf]at fs
     exact⟨_,hDy,gp hzl,p1,by rw[fs];exact p2⟩
   obtain⟨p1,p2⟩:=p
   rw[lc]at p2
   obtain⟨f1,f2,_⟩:=aes hfit.1
   obtain⟨t,et⟩:=ajv (p:=λj=>(kn j).isNone) (n:=(ocn M).length) ⟨_,f1,by rw[f2];rfl⟩
   rw[et,c5]at p2
   obtain⟨z0,zt,rfl,r0,_⟩:=p2
   have e0:(ocn M)[ag5 M kn]?=some ((ocn M)[ag5 M kn]'f1):=ab f1
   have r0:Rep J (cdx M ((ocn M)[ag5 M kn]?.getD 0)) z0:=r0
   rw[e0,Option.getD_some]at r0
   obtain⟨ca,rfl,hca⟩:=acv r0
   refine(m8 L _ _ (.ref ca) ⟨rfl,rfl,SqL.of hDy,mm (j:=0) rfl,(l9 D xs ep (cdx M ((ocn M)[ag5 M kn]'f1)) ca ⟨rfl,rfl,dn.same p1,kr2 hca,mz (by omega),λep2=>?_⟩)⟩)
   rw[eDn]
   have hl:=vn xs (cdx M ((ocn M)[ag5 M kn]'f1)) ca (chV 45)
   exact(l9 _ _ _ _ _ ⟨ep2,rfl,ex.trans ((Ex.of_same p1).trans (Ex.upd (by simp))),(dn.same p1).put (kr2 hca) (mz (by omega)) _ ep2,ai4 hw hkn e0 ca,db hl (by omega)⟩)
  | some od=>
   obtain⟨ss,n⟩:=od
   obtain⟨_,_,h6,hnd,hss⟩:=hfit.2 _ rfl
   have h6:ss.length<=6:=h6
   have hnd:(ss.map (cix M)).Nodup:=hnd
   have hss:∀s∈ss,OpS M s/\s.2.2<128/\s.2.2≠63/\kn (cix M s)=none:=hss
   obtain⟨p,rfl,hp,_⟩:=hov
   obtain⟨pp,pxs,hpp,hpx,y0,t0,rfl,⟨b,bxs,rfl,hb,repB⟩,_⟩:=hp
   cases hpp
   have lb:=repB.length
   rw[ah]at lb
   have lb:bxs.length=ss.length:=lb
   refine(oe _ rfl rfl _ ⟨rfl,xt ?_⟩)
   refine(me _ rfl p _ _ _ ⟨rfl,rfl,SqT.of hpx,mm (j:=0) rfl,b,rfl,⟨_,SqT.of hb⟩,?_⟩)
   refine akj (xs:=bxs) (λt σ' J=>∃(y4 y5 y6:Option V)(xs:List KA)(ep:Nat),σ'=[some (.ref cl),some (.ref ch),some (.ref D),some (.ref p),y4,y5,y6]/\Ex [D] G J/\DN w J D xs ep/\KnD M (knS kn ((ss.take t).map λs=>(cix M s,s.2.2))) xs/\xs.length<=6*i+t) ?_ (λt σ' J ht h=>?_) (λt x σ' J hx h=>?_) (λσ' J h=>?_)
   .exact(l9 _ _ _ xs ep ⟨rfl,Ex.refl _ _,dn,hkn,by omega⟩)
   .obtain⟨_,_,_,_,_,_,ex',_⟩:=h
    exact SqT.of (ex'.at (sx hb dn.obj (by intro z;cases z)) hb)
   .obtain⟨y4,y5,y6,xs,ep,rfl,ex',dn',hkn',hxl'⟩:=h
    obtain⟨sd,hsd,rsd⟩:=repB.at hx
    rw[aw]at hsd
    obtain⟨⟨r0,c0,k0⟩,hs,rfl⟩:=bv.mp hsd
    have htl:=(ae.mp hs).1
    obtain⟨b',rfl,hb',_⟩:=sn rsd
    obtain⟨ho',_⟩:=hss _ (aq hs)
    have nb':b'≠D:=sx hb' dn.obj (by intro z;cases z)
    refine(m9 b' _ rfl (SqT.of (ex'.at nb' hb')) rfl _ _ rfl _ (oj _ rfl _ _ ⟨rfl,rfl,?_⟩))
    refine(vo _ rfl _ rfl _ ⟨rfl,_,rfl,(by show 2<=sizeLine;decide),λta hta=>?_⟩)
    generalize g1:upd J ta _=J1 at *
    obtain⟨s5,e5⟩:=al hta g1
    clear g1
    have kt:=hkn'
    have hput:=ai4 hw hkn' (c:=k0) (xg ho') ta
    rw[afu ho'.2.1]at hput
    have hl:=vn xs (clD (r0:Nat) (c0:Nat)) ta (chV k0)
    refine(l9 D xs ep (clD (r0:Nat) (c0:Nat)) ta ⟨rfl,rfl,dn'.same s5,kr2 e5,mz (by omega),λep2=>?_⟩)
    refine(l9 _ _ _ _ ep2 ⟨rfl,ex'.trans ((Ex.of_same s5).trans (Ex.upd (by simp))),(dn'.same s5).put (kr2 e5) (mz (by omega)) _ ep2,?_,db hl (by omega)⟩)
    have nd':(((ss.take t).map (λs=>(cix M s,s.2.2))++[(cix M (r0,c0,k0),k0)]).map (·.1)).Nodup:=by
     have e:((ss.take t).map (λs=>(cix M s,s.2.2))++[(cix M (r0,c0,k0),k0)]).map (·.1)=(ss.take (t+1)).map (cix M):=by
      rw[f7,hs,gv,br,br,cq]
      rfl
     rw[e,List.map_take]
     exact List.Nodup.sublist (jy _ _) hnd
    rw[amd _ _ _ nd']at hput
    rw[f7,hs,gv,br]
    exact hput
   .obtain⟨y4,y5,y6,xs,ep,rfl,ex',dn',hkn',hxl'⟩:=h
    rw[a9 (by omega)]at hkn'
    exact(l9 _ _ _ _ xs ⟨ep,rfl,ex.trans ex',dn',hkn',by omega⟩)
 .obtain⟨y3,y4,y5,y6,xs,ep,rfl,ex,dn,hkn,hxl⟩:=h
  rw[a9 (by omega)]at hkn
  exact⟨_,rfl,q D xs ep G (keep ex) dn hkn⟩
def atq:Sp:=λvs H Q _=>∃(kr ch:Addr)(M:Mat)(kvs cvs:List V) (lms:List (Int×Option Int)) (os:List Opt),vs=[.ref kr,.ref ch]/\H kr=some (.tup kvs)/\BndK H kvs lms/\H ch=some (.lst cvs)/\ChH H M lms.length cvs os/\os.length<=20/\
 ∀(r:Addr)(H':Hp),Same H H'->H' r=some (.tup ((usL lms os).map V.int))->Q (.ref r) H'
theorem scLus:mx ["_law_kinds_here","_law_chosen","_law_used_here","_law_number","_law_kind","_law_many"] ["_law_kinds_here","_law_chosen"] (mj auv):={}
theorem aq3(B:∀x∈tj,mg x=none)(F:Fun K "_law_used" "_law_used" auv f fd):qe P w K mg base CX0 1 f fd ["_law_kinds_here","_law_chosen"] atq:=by
 refine F.ok (k:=0) scLus (λvs H Q E h=>?_) (λcdv A outer s H vs Q E hr h=>?_)
 .obtain⟨_,_,_,_,_,_,_,rfl,_⟩:=h
  rfl
 obtain⟨kr,ch,M,kvs,cvs,lms,os,rfl,hkr,hK,hch,hO,h20,q⟩:=h
 have lo:=hO.1
 have lk:=hK.1
 have l6:=hK.2.1
 refine⟨_,(lw (nc (i:=2) scLus.nd rfl (Or.inl rfl) (ph lv))
  (lw (p7 ci rfl (akv rfl (B "enumerate" (by decide)) (mf (pv 0) lv)) (rj (n:=2) rfl (mn (mh (i:=3) scLus.nd rfl (Or.inr rfl)) (mn (mh (i:=4) scLus.nd rfl (Or.inl rfl)) o0))) (lw (nc (i:=5) scLus.nd rfl (Or.inl rfl) (p8 oh rfl (B "len" (by decide)) ft (mf (oq ["_law_one","_law_number"] [none,some 3] rfl rfl (by decide +kernel) (by decide +kernel) rfl rfl (n0 (pv 1)) (λ_=>(mh (i:=0) (show(["_law_one","_law_number"]:List PySem.Str).Nodup by decide +kernel) rfl (Or.inl rfl))) (λ_=>tq (PW.pt (zm (oo ai0 (pv 0) sr (oz _)) (vi (oo zh (ng u9 (pv 0) l7 (λ_ _=>rfl)) (pv 1) (oz _)))))) (λ_=>(pv 0))) lv)))
  (lw (qp (oo acq (ng nu (pv 4) l7 (λ_ _=>rfl)) sr (oz _)) (ma (nc (i:=5) scLus.nd rfl (Or.inl rfl) (p8 (acw rfl) rfl (B "min" (by decide)) boot_min (mf (pv 5) (mf (ng nu (pv 4) l7 (λ_ _=>rfl)) lv))))) o7)
  (ma (qo (vk da dz ee p9 (pv 2) (mf (pv 5) lv)))))))
  (ma (my (wv ou rfl (B "tuple" (by decide)) li (mf (pv 2) lv)))))),?_⟩
 refine⟨(by show 0<=sizeLine;decide),λD hD=>?_⟩
 generalize g1:upd H D _=H1 at *
 obtain⟨s1,e1⟩:=al hD g1
 clear g1
 refine(pk _ rfl kr ⟨rfl,⟨_,SqT.of (s1 _ _ hkr)⟩,?_⟩)
 refine afg (xs:=kvs) (λi σ' G=>∃(y3 y4 y5:Option V),σ'=[some (.ref kr),some (.ref ch),some (.ref D),y3,y4,y5]/\Same H G/\G D=some (.lst (((usL lms os).take i).map V.int))) ?_ (λi σ' G h=>?_) (λi x pr σ' G hx hpr h=>?_) (λσ' G h=>?_)
 .exact(nq _ _ _ ⟨rfl,s1,e1⟩)
 .obtain⟨_,_,_,_,sG,_⟩:=h
  exact SqT.of (sG _ _ hkr)
 .obtain⟨y3,y4,y5,rfl,sG,hG⟩:=h
  have hi:=(ae.mp hx).1
  obtain⟨lm,hlm⟩:∃lm,lms[i]?=some lm:=⟨_,ab (by omega)⟩
  obtain⟨b,u0,u3,u4,rfl,hb⟩:=hK.2.2 i x lm hx hlm
  generalize g1:upd G pr _=G1 at *
  obtain⟨s2,e2⟩:=al hpr g1
  clear g1
  have s12:=sG.trans s2
  refine(m9 pr _ rfl (SqT.of e2) rfl _ _ rfl _ ⟨_,rfl,rfl,?_⟩)
  refine(pk _ rfl ch ⟨rfl,⟨_,SqL.of (s12 _ _ hch)⟩,λL hL=>?_⟩)
  refine ny (xs:=cvs) (λt zs J=>Same G1 J/\zs.length=(os.take t).countP (isK i)) ⟨Same.fresh _ hL,rfl⟩ (λt zs J p=>SqL.of (p.1 _ _ (s12 _ _ hch))) (λt x zs J hx ht hDy hzl p=>?_) (λzs J hDy hzl p=>?_)
  .obtain⟨p1,p2⟩:=p
   obtain⟨o,ho,hov⟩:=(hO.tk (Tk.of_same (s12.trans p1))).at hx
   have cs:(os.take (t+1)).countP (isK i)=(os.take t).countP (isK i)+if isK i o=true then 1 else 0:=by
    rw[f7,ho,gv,List.countP_append]
    cases h:isK i o<;>simp[h]
   refine⟨Agree.set (Agree.refl _) rfl,?_⟩
   cases o with
   | none=>
    cases (show x=V.non from hov)
    refine(oe _ rfl rfl _ ⟨rfl,xt ?_⟩)
    rw[if_neg (by simp[isK])]at cs
    exact xt ⟨_,hDy,gp hzl,p1,by rw[cs];exact p2⟩
   | some od=>
    obtain⟨ss,n⟩:=od
    obtain⟨p,rfl,hp,_⟩:=hov
    obtain⟨pp,pxs,hpp,hpx,y0,t0,rfl,_,y1,t1,rfl,e1',rfl⟩:=hp
    cases hpp
    cases (show y1=_ from e1')
    refine(oe _ rfl rfl _ ⟨rfl,si ?_⟩)
    refine(me _ rfl p _ _ _ ⟨rfl,rfl,SqT.of hpx,mm (j:=1) rfl,(oe _ rfl rfl _ ⟨rfl,?_⟩)⟩)
    have ei:decide (V.int (n:Nat)=V.int (i:Nat))=isK i (some (ss,n)):=by
     unfold isK
     rw[ig,decide_eq_true_iff,beq_iff_eq]
     exact⟨λh=>by injection h with h;exact Int.ofNat.inj h,λh=>by rw[show n=i from h]⟩
    refine u8 (λh=>?_) (λh=>?_)
    .rw[if_pos (ei.symm.trans h)]at cs
     exact⟨_,rfl,pi (by omega) hDy hzl ⟨p1.new hL,by rw[bu,p2,cs];rfl⟩⟩
    .rw[if_neg (λz=>h (ei.trans z))]at cs
     exact⟨_,hDy,gp hzl,p1,by rw[cs];exact p2⟩
  obtain⟨p1,p2⟩:=p
  rw[a9 (by omega)]at p2
  have sJ:=s12.trans p1
  have DJ:=(s2.trans p1) _ _ hG
  have hul:=aa7 (os:=os) (n:=i) (show i<lms.length by omega)
  rw[hlm,Option.getD_some]at hul
  refine(mw L zs ⟨rfl,.inl (SqL.of hDy),?_⟩)
  rw[p2]
  refine(me _ rfl b _ _ _ ⟨rfl,rfl,SqT.of (sJ _ _ hb),mm (j:=2) rfl,rfl,_,rfl,?_⟩)
  have lt6:((usL lms os).take i).length<=6:=by rw[b0,qw];omega
  have fin:∀v:Int,v=wb lm.1 lm.2 ((os.countP (isK i):Nat):Int)->(((usL lms os).take i).map V.int)++[V.int v]=((usL lms os).take (i+1)).map V.int:=λv hv=>by rw[f7,hul,gv,br,hv];rfl
  obtain⟨le,mo⟩:=lm
  cases mo with
  | none=>
   refine si ?_
   refine(mq _ rfl _ rfl b _ _ (zj _ rfl rfl (SqT.of (sJ _ _ hb)) (mm (j:=1) rfl) _ _ ⟨rfl,?_⟩))
   refine(uz _ rfl (.inl ⟨rfl,_,SqL.of DJ⟩) _ rfl D _ _ ⟨rfl,rfl,DJ,mz (by rw[ah];omega),?_⟩)
   exact(nq _ _ _ ⟨rfl,sJ.new hD,by rw[<-fin _ rfl];exact mr⟩)
  | some m=>
   refine xt ?_
   refine(uz _ rfl (.inl ⟨rfl,_,SqL.of DJ⟩) _ rfl D _ _ ⟨rfl,rfl,DJ,mz (by rw[ah];omega),?_⟩)
   exact(nq _ _ _ ⟨rfl,sJ.new hD,by rw[<-fin _ rfl];exact mr⟩)
 .obtain⟨y3,y4,y5,rfl,sG,hG⟩:=h
  rw[a9 (by rw[qw];omega)]at hG
  refine(oj _ rfl D _ ⟨rfl,.inl ⟨SqL.of hG,λt ht=>?_⟩⟩)
  generalize g1:upd G t _=G1 at *
  obtain⟨s2,e2⟩:=al ht g1
  exact q t G1 (sG.trans s2) e2
end
theorem anm(a b r c:Int):cj (clD a b) (clD r c)=true↔a=r/\b=c:=by
 show((a==r)&&((b==c)&&true))=true↔_
 simp
theorem in_cells{M:Mat}{r c:Int}:(((ocn M).map (cdx M)).any λe=>cj e (clD r c))=true↔∃j k:Nat,(ocn M)[j]?=some k/\cell M k=(r,c):=by
 rw[List.any_map,gz]
 constructor
 .rintro⟨k,hk,e⟩
  obtain⟨j,hj⟩:=cn hk
  obtain⟨e1,e2⟩:=(anm _ _ _ _).mp e
  exact(mw j k ⟨hj,Prod.ext e1 e2⟩)
 .rintro⟨j,k,hj,e⟩
  refine⟨k,aq hj,(anm _ _ _ _).mpr ?_⟩
  unfold cell at e
  injection e with e1 e2
  exact⟨e1,e2⟩
def Opn(M:Mat)(kn:Kn)(p:Int×Int):Prop:=∃j k:Nat,(ocn M)[j]?=some k/\cell M k=p/\kn j=none
theorem aox{M:Mat}{kn:Kn}{i k:Nat}(hk:(ocn M)[i]?=some k):tch M kn i=true↔∃p∈aea (cell M k).1 (cell M k).2,Opn M kn p:=by
 unfold tch
 rw[gz]
 constructor
 .rintro⟨j,hj,e⟩
  obtain⟨k0,k',e1,e2,hm⟩:=mem_nb.mp hj
  rw[hk]at e1
  cases e1
  exact(oj _ hm j k' ⟨e2,rfl,Option.isNone_iff_eq_none.mp e⟩)
 .rintro⟨p,hp,j,k',e2,rfl,e⟩
  exact⟨j,mem_nb.mpr (mw k k' ⟨hk,e2,hp⟩),Option.isNone_iff_eq_none.mpr e⟩
set_option pp.maxSteps 3000
section
variable{P:Program}{w:World}{K:ai}{mg:Str->Option Value}{base:Heap}{f:Addr}{fd:FuncData}
def atj:Sp:=λvs H Q _=>∃(pz fl kr e ch:Addr)(M:Mat)(kvs:List V) (ks:List (List PyData×Nat)) (lms:List (Int×Option Int)) (avs:List V) (ads:List PyData) (cvs:List V) (os:List Opt),vs=[.ref pz,.ref ch]/\PzB H pz fl kr e M kvs ks lms avs ads/\H ch=some (.lst cvs)/\ChH H M lms.length cvs os/\FitA M lms.length os/\os.length<=20/\
 ∀(r:Addr)(z:Str)(H':Hp),Same H H'->z.cps.toList=mkL M (knF M os)->StH H' r z (usL lms os)->Q (.ref r) H'
theorem scSta:mx ["_law_puzzle_here","_law_chosen","_law_cells_here","_law_known","_law_marks","_law_cell","_law_open_beside"] ["_law_puzzle_here","_law_chosen"] (mj avh):={}
theorem atb(B:∀x∈tj,mg x=none)(Fcel:Fn P w K mg base "_law_cells" 1 ["_law_floor_here"] ap7)(Fbes:Fn P w K mg base "_law_beside" 1 ["_law_cell"] amb)(Fdec:Fn P w K mg base "_law_decided" 1 ["_law_cells_here","_law_chosen"] (ar3 w))(Flus:Fn P w K mg base "_law_used" 1 ["_law_kinds_here","_law_chosen"] atq)(F:Fun K "_law_state" "_law_state" avh f fd):qe P w K mg base CX0 2 f fd ["_law_puzzle_here","_law_chosen"] atj:=by
 refine F.ok (k:=1) scSta (λvs H Q E h=>?_) (λcdv A outer s H vs Q E hr h=>?_)
 .obtain⟨_,_,_,_,_,_,_,_,_,_,_,_,_,rfl,_⟩:=h
  rfl
 obtain⟨pz,fl,kr,e,ch,M,kvs,ks,lms,avs,ads,cvs,os,rfl,hP,hch,hO,hF,h20,q⟩:=h
 have hu:=hr.units
 have okM:=hP.fl.2
 have hw:=okM.w1
 have hhw:M.h*M.w<=64:=jg okM.h8 okM.w8
 have h64:(ocn M).length<=64:=db (ww M _) hhw
 have hkS:=hF.sgn os.length
 rw[k6]at hkS
 refine⟨_,(lw (nc (i:=2) scSta.nd rfl (Or.inr rfl) (nh Fcel hr (by decide) rfl (mf (ng nu (pv 0) l7 (λ_ _=>rfl)) lv)))
  (lw (nc (i:=3) scSta.nd rfl (Or.inr rfl) (nh Fdec hr (by decide) rfl (mf (pv 2) (mf (pv 1) lv))))
  (lw (nc (i:=4) scSta.nd rfl (Or.inl rfl) o6)
  (lw (p7 ci rfl (n0 (pv 2)) (mh (i:=5) scSta.nd rfl (Or.inl rfl)) (lw (ai9 (i:=6) ["_law_one","_law_cells_here","_law_known"] [none,some 2,some 3] scSta.nd rfl (Or.inl rfl) rfl rfl rfl (by decide +kernel) (by decide +kernel) rfl rfl (n0 (nh Fbes hr (by decide) rfl (mf (pv 5) lv))) (λ_=>(mh (i:=0) (show(["_law_one","_law_cells_here","_law_known"]:List PySem.Str).Nodup by decide +kernel) rfl (Or.inl rfl))) (λ_=>tq (PW.pt (zm (oo (af7 hu) (pv 0) (pv 1) rfl) (vi (ago (aau (eu (fj (by decide) _) hu) (pv 0) (pv 2))))))) (λ_=>(pv 0)))
  (ma (qp (ago (adc (eu (fj (by decide) _) hu) (pv 5) (pv 3))) (ma (ad7 (i:=4) scSta.nd rfl (Or.inl rfl) o6 aby)) (ma (qp (oo alw (p8 oh rfl (B "len" (by decide)) ft (mf (pv 6) lv)) l7 (oz _)) (ma (ad7 (i:=4) scSta.nd rfl (Or.inl rfl) (aem (eu (fj (by decide) _) hu) (pv 3) (pv 5) (λ_ _=>rfl)) aby)) (ma (ad7 (i:=4) scSta.nd rfl (Or.inl rfl) o6 aby))))))))
  (ma (my (ni (mf (pv 4) (mf (nh Flus hr (by decide) rfl (mf (ng nu (pv 0) l7 (λ_ _=>rfl)) (mf (pv 1) lv))) lv))))))))),?_⟩
 refine(me _ rfl pz _ _ _ ⟨rfl,rfl,SqT.of hP.pz,mm (j:=0) rfl,(mw fl M ⟨rfl,hP.fl,λcl ys H1 s1 hcl0 hcl repC=>?_⟩)⟩)
 refine(mq _ rfl _ rfl cl ch M (m8 ys cvs os lms.length ⟨rfl,hw,h64,hcl,repC,s1 _ _ hch,hO.tk (Tk.of_same s1),hF,h20,λD xs ep H2 s2 dn hkn=>?_⟩))
 have lc:=repC.length
 rw[ah]at lc
 have lc:ys.length=(ocn M).length:=lc
 have hcl2:=s2 _ _ hcl
 have rep2:=repC.same s2
 have s12:=s1.trans s2
 generalize knF M os=kn at *
 refine(pk _ rfl cl ⟨rfl,⟨_,SqL.of hcl2⟩,?_⟩)
 refine qr (xs:=ys) (λi σ' G=>∃(y5 y6:Option V),σ'=[some (.ref pz),some (.ref ch),some (.ref cl),some (.ref D),some (.str ⟨((b9 i).map (mk1 M kn)).toArray⟩),y5,y6]/\Same H2 G) ?_ (λi σ' G hi h=>?_) (λi v σ' G hv h=>?_) (λσ' G h=>?_)
 .exact(mw _ _ ⟨rfl,Same.refl _⟩)
 .obtain⟨_,_,_,sG⟩:=h
  exact SqL.of (sG _ _ hcl2)
 .obtain⟨y5,y6,rfl,sG⟩:=h
  have hil:=(ae.mp hv).1
  obtain⟨d,hd,rd⟩:=rep2.at hv
  rw[aw]at hd
  obtain⟨k,hk,rfl⟩:=bv.mp hd
  have hk:(ocn M)[i]?=some k:=hk
  obtain⟨ca,rfl,hca⟩:=acv rd
  have hcG:=sG _ _ hca
  have dG:=dn.same sG
  refine(om _ rfl ca _ _ ⟨rfl,hcG,λbl bys G1 sb hbl0 hbl repB=>?_⟩)
  have dB:=dG.same sb
  have lb:=repB.length
  refine⟨bl,rfl,⟨_,SqL.of hbl⟩,λL hL=>?_⟩
  refine ny (xs:=bys) (λt zs J=>Same G1 J/\(0<zs.length↔∃p∈(aea (cell M k).1 (cell M k).2).take t,Opn M kn p)) ⟨Same.fresh _ hL,by simp⟩ (λt zs J p=>SqL.of (p.1 _ _ hbl)) (λt x zs J hx ht hDy hzl p=>?_) (λzs J hDy hzl p=>?_)
  .obtain⟨p1,p2⟩:=p
   obtain⟨d,hd,rd⟩:=repB.at hx
   have hd:((aea (cell M k).1 (cell M k).2).map cD)[t]?=some d:=hd
   rw[aw]at hd
   obtain⟨⟨r0,c0⟩,hp,rfl⟩:=bv.mp hd
   obtain⟨pa,rfl,hpa⟩:=acv rd
   have hpJ:=p1 _ _ hpa
   have sJ:=sG.trans (sb.trans p1)
   have ht4:t<4:=(ae.mp hp).1
   have ts:∀X:Prop,(X↔Opn M kn (r0,c0))->((∃p∈(aea (cell M k).1 (cell M k).2).take (t+1),Opn M kn p)↔(0<zs.length)\/X):=λX hX=>by
    rw[f7,hp,gv,p2,hX]
    constructor
    .rintro⟨p,hm,ho⟩
     rcases ax.mp hm with h|h
     .exact .inl ⟨p,h,ho⟩
     .rw[ao.mp h]at ho;exact .inr ho
    .rintro(⟨p,hm,ho⟩|ho)
     .exact⟨p,ax.mpr (.inl hm),ho⟩
     .exact⟨_,ax.mpr (.inr (ao.mpr rfl)),ho⟩
   refine⟨Agree.set (Agree.refl _) rfl,?_⟩
   refine(mq _ rfl _ rfl (clD r0 c0) cl ys ⟨_,ur hpJ,rfl,.inl (sJ _ _ hcl2),rep2.same sJ,(by simp[clD,jh,b7]),_,rfl,?_⟩)
   rw[if_neg (by decide)]
   refine u8 (λh=>?_) (λh=>?_)
   .obtain⟨j,k',hj,ej⟩:=in_cells.mp h
    have evk:cdx M k'=clD r0 c0:=by
     unfold cell at ej
     injection ej with a1 a2
     unfold cdx
     rw[a1,a2]
    have hval:=hkn j k' hj
    rw[evk]at hval
    have hopn:kn j=none↔Opn M kn (r0,c0):=⟨λz=>(mw j k' ⟨hj,ej,z⟩),λ⟨j2,k2,h2,e2,z⟩=>by
     have:k2=k':=alg hw (e2.trans ej.symm)
     subst this
     have:j2=j:=(List.getElem?_inj (ae.mp h2).1 (abc M _)).mp (h2.trans hj.symm)
     rw[<-this]
     exact z⟩
    refine(mq _ rfl _ rfl D xs ep (mw (clD r0 c0) pa ⟨rfl,rfl,dn.same sJ,kr2 hpJ,_,rfl,?_⟩))
    rw[hval]
    cases hkj:kn j with
    | none=>
     refine si ⟨_,rfl,pi (by omega) hDy hzl ⟨p1.new hL,?_⟩⟩
     rw[ts True ⟨λ_=>hopn.mp hkj,λ_=>trivial⟩,bu]
     simp
    | some c=>
     refine xt ⟨_,hDy,gp hzl,p1,?_⟩
     rw[ts False ⟨λz=>z.elim,λz=>by rw[hopn.mpr z]at hkj;cases hkj⟩]
     simp
   .refine xt ⟨_,hDy,gp hzl,p1,?_⟩
    rw[ts False ⟨λz=>z.elim,λ⟨j,k',hj,ej,_⟩=>h (in_cells.mpr (mw j k' ⟨hj,ej⟩))⟩]
    simp
  obtain⟨p1,p2⟩:=p
  have lb:bys.length=(aea (cell M k).1 (cell M k).2).length:=lb
  rw[lb,k6,<-aox hk]at p2
  have sJ:=sG.trans (sb.trans p1)
  have hcJ:=(sb.trans p1) _ _ hcG
  have kv:r8 xs (cdx M k)=(kn i).map chV:=hkn i k hk
  have lz:(⟨((b9 i).map (mk1 M kn)).toArray⟩:Str).length=i:=by show((b9 i).map (mk1 M kn)).toArray.size=i;simp
  have fin:∀{σ':L2.St} (c:Nat),c=mk1 M kn i->σ'=[some (.ref pz),some (.ref ch),some (.ref cl),some (.ref D),some (.str (⟨((b9 i).map (mk1 M kn)).toArray⟩++(⟨#[c]⟩:Str))),some (.ref ca),some (.ref L)]->∃(y5 y6:Option V),σ'=[some (.ref pz),some (.ref ch),some (.ref cl),some (.ref D),some (.str ⟨((b9 (i+1)).map (mk1 M kn)).toArray⟩),y5,y6]/\Same H2 J:=λc hc hσ=>by
   refine(mw (some (.ref ca)) (some (.ref L)) ⟨?_,sJ⟩)
   rw[hσ,auy,j9,br,hc]
   rfl
  have few:(⟨((b9 i).map (mk1 M kn)).toArray⟩:Str).length+1<=sizeLine:=by rw[lz];exact gc (mz (by omega))
  refine(mq _ rfl _ rfl D xs ep (mw (cdx M k) ca ⟨rfl,rfl,dn.same sJ,kr2 hcJ,_,rfl,?_⟩))
  rw[kv]
  cases hki:kn i with
  | none=>
   refine si (oj _ rfl _ _ ⟨rfl,rfl,(by rw[eU];exact few),?_⟩)
   rw[eU]
   exact fin 63 (by unfold mk1;rw[hki]) rfl
  | some c=>
   refine xt (n8 _ rfl L zs rfl (.inl (SqL.of hDy)) _ (oe _ rfl rfl _ ⟨rfl,u8 (λh=>?_) (λh=>?_)⟩))
   .have ht:tch M kn i=true:=p2.mp (by simpa using h)
    refine(og _ rfl _ rfl _ rfl D xs (m8 ep (cdx M k) ca (chV c) ⟨rfl,rfl,dn.same sJ,kr2 hcJ,by rw[kv,hki];rfl,(mw _ ⟨#[c]⟩ ⟨rfl,rfl,few,?_⟩)⟩))
    exact fin c (by unfold mk1;rw[hki];dsimp only;rw[if_pos ht]) rfl
   .have ht:¬tch M kn i=true:=λz=>h (by have:=p2.mpr z;simpa using this)
    have eD:ba "-" = ⟨#[45]⟩:=by decide +kernel
    refine(oj _ rfl _ _ ⟨rfl,rfl,(by rw[eD];exact few),?_⟩)
    rw[eD]
    exact fin 45 (by unfold mk1;rw[hki];dsimp only;rw[if_neg ht]) rfl
 .obtain⟨y5,y6,rfl,sG⟩:=h
  have sA:=s12.trans sG
  have PG:=hP.same sA
  refine(mq _ rfl _ rfl pz _ _ ⟨_,rfl,rfl,SqT.of PG.pz,mm (j:=1) rfl,(me _ rfl kr ch M kvs (nq cvs lms os ⟨rfl,PG.kr,PG.lm,sA _ _ hch,hO.tk (Tk.of_same sA),h20,λu G1 s3 hu1=>?_⟩))⟩)
  refine⟨(by show 2<=sizeLine;decide),λr hr0=>?_⟩
  generalize g1:upd G1 r _=G2 at *
  obtain⟨s4,e4⟩:=al hr0 g1
  refine q r _ G2 (sA.trans (s3.trans s4)) ?_ ⟨u,e4,s4 _ _ hu1⟩
  rw[lc]
  rfl
def asa:Sp:=λvs H Q _=>∃(a b:Addr)(z:Str)(us:List Int),vs=[.ref a,.ref b]/\StH H a z us/\StH H b z us/\iw z=true/\us.length<=6/\∀H',Same H H'->Q (.bl true) H'
theorem awc:mx ["_law_found","_law_due"] ["_law_found","_law_due"] (mj avv):={}
theorem agd{H:Hp}:∀us:List Int,RepAll H (us.map PyData.int) (us.map V.int)
 | []=>rfl
 | _::l=>(mw _ _ ⟨rfl,rfl,agd l⟩)
theorem aav:∀us:List Int,b7 (us.map PyData.int)<=1
 | []=>by simp[b7]
 | _::l=>by
  have:=aav l
  simp[b7,jh]
  omega
theorem StH.rep{H:Hp}{a:Addr}{z:Str}{us:List Int}(h:StH H a z us)(ok:iw z=true):Rep H (.tuple [.str z,.tuple (us.map .int)]) (.ref a):=by
 obtain⟨u,h1,h2⟩:=h
 exact(ox a _ rfl h1 _ _ rfl ⟨rfl,ok⟩ _ ⟨_,rfl,(mw u _ ⟨rfl,h2,agd us⟩),rfl⟩)
theorem agb(z:Str)(us:List Int):(PyData.tuple [.str z,.tuple (us.map .int)]).depth<=60:=by
 have:=aav us
 simp[jh,b7]
 omega
theorem atl(B:∀x∈tj,mg x=none)(F:Fun K "_law_same" "_law_same" avv f fd):qe P w K mg base CX0 1 f fd ["_law_found","_law_due"] asa:=by
 refine F.ok (k:=0) awc (λvs H Q E h=>?_) (λcdv A outer s H vs Q E hr h=>?_)
 .obtain⟨_,_,_,_,rfl,_⟩:=h
  rfl
 obtain⟨a,b,z,us,rfl,ha,hb,hok,h6,q⟩:=h
 have hu:=hr.units
 have R1:=ha.rep hok
 have R2:=hb.rep hok
 obtain⟨u,h1,h2⟩:=ha
 refine⟨_,(lw (qp (PW.pt (aoy (ac7 (su (p8 ql rfl (B "isinstance" (by decide)) lq (mf (pv 0) (mf (vh (v:=.ty "tuple") rfl (B "tuple" (by decide)) li rfl) lv))))) (ai7 (oo afh (p8 oh rfl (B "len" (by decide)) ft (mf (pv 0) lv)) l7 (oz _))))) (ma (my ae1)) o7)
  (lw (qp (PW.pt (aoy (ac7 (su (p8 ql rfl (B "isinstance" (by decide)) lq (mf (ng nu (pv 0) l7 (λ_ _=>rfl)) (mf (vh (v:=.ty "str") rfl (B "str" (by decide)) boot_str rfl) lv))))) (ai7 (ac7 (su (p8 ql rfl (B "isinstance" (by decide)) lq (mf (ng nu (pv 0) l7 (λ_ _=>rfl)) (mf (vh (v:=.ty "tuple") rfl (B "tuple" (by decide)) li rfl) lv)))))))) (ma (my ae1)) o7)
  (lw (qp (oo (atp hu) (pv 0) (pv 1) (oz _)) (ma (my ae1)) o7)
  (ma (my (p8 (abp rfl) rfl (B "all" (by decide)) boot_all (mf (oq ["_law_number"] [none] rfl rfl (by decide +kernel) (by decide +kernel) rfl rfl (aa1 (ng nu (pv 0) l7 (λ_ _=>rfl))) (λ_=>(mh (i:=0) (show(["_law_number"]:List PySem.Str).Nodup by decide +kernel) rfl (Or.inl rfl))) (λ_=>o8) (λ_=>(aat (p8 xh rfl (B "isinstance" (by decide)) lq (mf (pv 0) (mf (vh (v:=.ty "int") rfl (B "int" (by decide)) PyProof.Rows.boot_int rfl) lv))) (ada (anl (p8 xh rfl (B "isinstance" (by decide)) lq (mf (pv 0) (mf (vh (v:=.ty "bool") rfl (B "bool" (by decide)) boot_bool rfl) lv)))))))) lv))))))),?_⟩
 refine(me _ rfl _ _ _ true ⟨rfl,.tup h1,rfl,true,rfl,xt ?_⟩)
 refine(uv _ rfl a _ rfl (.inr (SqT.of h1)) rfl _ ⟨rfl,xt ?_⟩)
 refine(me _ rfl a _ _ _ ⟨rfl,rfl,SqT.of h1,mm (j:=0) rfl,(m8 _ _ _ true ⟨rfl,.str z,rfl,true,rfl,xt ?_⟩)⟩)
 refine(me _ rfl a _ _ _ ⟨rfl,rfl,SqT.of h1,mm (j:=1) rfl,(m8 _ _ _ true ⟨rfl,.tup h2,rfl,true,rfl,xt ?_⟩)⟩)
 refine(se _ rfl _ rfl _ _ ⟨R1,R2,agb z us,_,rfl,?_⟩)
 refine u8 (λh=>absurd h (by rw[if_pos rfl,SeqAt.eqv_refl _ R1.lay];decide)) (λ_=>?_)
 refine(me _ rfl a _ _ _ ⟨rfl,rfl,SqT.of h1,mm (j:=1) rfl,u,rfl,⟨_,SqT.of h2⟩,λL hL=>?_⟩)
 refine wt (xs:=us.map V.int) (λi zs J=>Same H J/\zs=(gw i true).map V.bl) ⟨Same.fresh _ hL,rfl⟩ (λi zs J p=>SqT.of (p.1 _ _ h2)) (λi x zs J hx hi hDz hzl2 p=>?_) (λzs J hDz hzl2 p=>?_)
 .obtain⟨p1,rfl⟩:=p
  rw[aw]at hx
  obtain⟨n,hn,rfl⟩:=bv.mp hx
  rw[ah]at hi
  refine⟨Agree.set (Agree.refl _) rfl,?_⟩
  dsimp only[yb]
  refine si ?_
  refine(me _ rfl _ _ _ true ⟨rfl,.int n,rfl,true,rfl,si ?_⟩)
  refine(me _ rfl _ _ _ false ⟨rfl,.int n,rfl,false,rfl,?_⟩)
  refine pi (by omega) hDz hzl2 ⟨p1.new hL,?_⟩
  rw[List.replicate_succ',br]
  rfl
 .obtain⟨p1,rfl⟩:=p
  refine(mw L _ ⟨rfl,hDz,?_⟩)
  have ea:(gw (us.map V.int).length true).all id=true:=by rw[ku];intro x hx;exact(List.mem_replicate.mp hx).2
  rw[ea]
  exact q J p1
end
theorem KindK.tk{H H':Hp}{v:V}{k:List PyData×Nat}(h:KindK H v k)(t:Tk H H'):KindK H' v k:=by
 obtain⟨b,nm,u1,u2,md,fr,xs,rfl,h1,h2,h3,h4,h5⟩:=h
 exact(l9 b nm u1 u2 md (mw fr xs ⟨rfl,t _ _ h1,t _ _ h2,h3.tk t (Spots.imm h4.pre.spots),h4,h5⟩))
theorem PzB.tk{H H':Hp}{pz fl kr e:Addr}{M:Mat}{kvs:List V}{ks:List (List PyData×Nat)}{lms:List (Int×Option Int)}{avs:List V}{ads:List PyData}(h:PzB H pz fl kr e M kvs ks lms avs ads)(im:pj ads=true)(t:Tk H H'):PzB H' pz fl kr e M kvs ks lms avs ads:=
 ⟨t _ _ h.pz,⟨t _ _ h.fl.1,h.fl.2⟩,t _ _ h.kr,⟨h.ks.1,λi v k h1 h2=>(h.ks.2 i v k h1 h2).tk t⟩,⟨h.lm.1,h.lm.2.1,λi v m h1 h2=>by
  obtain⟨b,u0,u3,u4,e,hb⟩:=h.lm.2.2 i v m h1 h2
  exact(m8 b u0 u3 u4 ⟨e,t _ _ hb⟩)⟩,t _ _ h.ap,h.ra.tk t im⟩
theorem StH.tk{H H':Hp}{s:Addr}{z:Str}{us:List Int}(h:StH H s z us)(k:Tk H H'):StH H' s z us:=by
 obtain⟨u,h1,h2⟩:=h
 exact⟨u,k _ _ h1,k _ _ h2⟩
theorem aej{lo:Int}{n:Nat}{g:TG}{tb:TS}{D:ahi}{σ:L2.St}{H:Hp}(Pv:Nat->L2.St->Hp->Prop)(Fin:L2.St->Hp->Prop)(hf:∀σ H,Fin σ H->D.nx σ H)(h0:Pv 0 σ H)
  (hs:∀N:L2.St->Hp->Prop,(∀σ H,Fin σ H->N σ H)->∀i σ H,i<n->Pv i σ H->g (.int (lo+i)) σ H λσ2 H2=>tb {D with nx:=Pv (i+1),ct:=Pv (i+1),bk:=N} σ2 H2) (hd:∀σ H,Pv n σ H->Fin σ H) :
  ∃W:Nat->Nat->L2.St->Hp->Prop,(∃m,W 0 m σ H)/\∀i m σ H,W i m σ H->
   ((Itr lo n).stop i H/\D.nx σ H)\/((Itr lo n).go i H/\∃N:L2.St->Hp->Prop,(∀σ' H',N σ' H'->∃m',m'<m/\W (i+1) m' σ' H')/\∀x H',(Itr lo n).yld i H x H'->g x σ H' λσ2 H2=>tb {D with nx:=N,ct:=N,bk:=D.nx} σ2 H2):=
 qj Pv h0 (hs D.nx hf) λσ H p=>hf σ H (hd σ H p)
theorem af1{z y:Str}(h:z.cps.toList=y.cps.toList):z=y:=by
 have:z.cps=y.cps:=Array.toList_inj.mp h
 calc z=⟨z.cps⟩:=rfl
  _=⟨y.cps⟩:=by rw[this]
theorem au8(M:Mat):mkL M (λ_=>none)=gw (ocn M).length 63:=by
 unfold mkL mk1
 rw[List.map_const',f9]
theorem avt(lms:List (Int×Option Int)):(lms.map λq=>V.int (wb q.1 q.2 0))=(usL lms []).map V.int:=by
 apply j4
 intro n
 rw[aw,aw]
 by_cases hn:n<lms.length
 .rw[aa7 hn,ab hn]
  rfl
 .rw[fc (by omega),fc (by rw[qw];omega)]
  rfl
theorem ao9{M:Mat}{kn:Kn}(h:Sgn kn):∀c∈mkL M kn,c<128:=λc hc=>by
 obtain⟨i,_,rfl⟩:=bi.mp hc
 unfold mk1
 cases e:kn i with
 | none=>exact(by decide:63<128)
 | some c=>
  dsimp only
  split
  .exact(h i c e).1
  .decide
def WayS(G:Hp)(M:Mat)(lms:List (Int×Option Int))(v:V):Prop:=∃(t a l:Addr)(vv:V)(os:List Opt)(o:Opt)(z z':Str),v=.ref t/\G t=some (.tup [.ref a,vv,.ref l])/\StH G a z (usL lms os)/\z.cps.toList=mkL M (knF M os)/\Sgn (knF M os)/\OpV G M lms.length vv o/\Fit M (knF M os) lms.length o/\StH G l z' (usL lms (os++[o]))/\z'.cps.toList=mkL M (knF M (os++[o]))
theorem WayS.tk{G G':Hp}{M:Mat}{lms:List (Int×Option Int)}{v:V}(h:WayS G M lms v)(t:Tk G G'):WayS G' M lms v:=by
 obtain⟨ta,a,l,vv,os,o,z,z',e,h1,h2,h3,h4,h5,h6,h7,h8⟩:=h
 exact(l9 ta a l vv os (nq o z z' ⟨e,t _ _ h1,h2.tk t,h3,h4,h5.tk t,h6,h7.tk t,h8⟩))
structure aqz(G:Hp)(st pz fl kr e h ch wy:Addr)(n:List V)(M:Mat)(kvs:List V)(ks:List (List PyData×Nat))(lms:List (Int×Option Int))(avs:List V)(ads:List PyData)(z:Str)(cvs wvs:List V)(os:List Opt):Prop where
 hst:G st=some (.lst n)
 sl:StL n
 hpz:PzB G pz fl kr e M kvs ks lms avs ads
 hh:StH G h z (usL lms os)
 hz:z.cps.toList=mkL M (knF M os)
 hch:G ch=some (.lst cvs)
 hO:ChH G M lms.length cvs os
 hF:FitA M lms.length os
 hwy:G wy=some (.lst wvs)
 hW:∀v∈wvs,WayS G M lms v
 n1:ch≠st
 n2:wy≠st
 n3:ch≠wy
set_option pp.maxSteps 3000
section
variable{P:Program}{w:World}{K:ai}{mg:Str->Option Value}{base:Heap}{f:Addr}{fd:FuncData}
def al7(K:ai):Sp:=λvs H Q _=>∃(a:Addr)(ns:List Int),vs=[.ref a]/\SqL K H a (ns.map V.int)/\ns.length<=63/\∀H',Q (.bl true) H'
theorem scLaw:mx ["_law_script","_law_state_here","_law_puzzle_here","_law_here","_law_chosen","_law_way","_law_turn","_law_some","_law_option","_law_later"] ["_law_script"] (mj ap1):={}
theorem aq2(B:∀x∈tj,mg x=none)(Fdrw:Fn P w K mg base "_law_drawn" 1 ["_law_script"] (ari K))(Fnext:abf P w K mg base)(Flpz:Fn P w K mg base "_law_puzzle" 4 ["_law_state_here","_law_most","_law_many"] aru)(Fbeg:Fn P w K mg base "begin" 3 ["puzzle"] ato)(Fopt:Fn P w K mg base "options" 8 ["puzzle","state"] aqr)(Fbeh:Fn P w K mg base "behind" 5 ["puzzle","state","option"] are)(Fsta:Fn P w K mg base "_law_state" 2 ["_law_puzzle_here","_law_chosen"] atj)(Fsam:Fn P w K mg base "_law_same" 1 ["_law_found","_law_due"] asa)(F:Fun K "law" "law" ap1 f fd):qe P w K mg base CX0 9 f fd ["_law_script"] (al7 K):=by
 refine F.ok (k:=8) scLaw (λvs H Q E h=>?_) (λcdv A outer s H vs Q E hr h=>?_)
 .obtain⟨_,_,rfl,_⟩:=h
  rfl
 obtain⟨a,ns,rfl,ha,h63,q⟩:=h
 have hu:=hr.units
 refine⟨_,(lw (nc (i:=1) scLaw.nd rfl (Or.inl rfl) (nh Fdrw hr (by decide) rfl (mf (pv 0) lv)))
  (lw (nc (i:=2) scLaw.nd rfl (Or.inr rfl) (nh Flpz hr (by decide) rfl (mf (pv 1) (mf l7 (mf l7 lv)))))
  (lw (nc (i:=3) scLaw.nd rfl (Or.inl rfl) (nh Fbeg hr (by decide) rfl (mf (pv 2) lv)))
  (lw (nc (i:=4) scLaw.nd rfl (Or.inl rfl) (ph lv))
  (lw (nc (i:=5) scLaw.nd rfl (Or.inl rfl) (ph lv))
  (lw (p7 ci rfl (zp rfl (B "range" (by decide)) (mf l7 lv)) (mh (i:=6) scLaw.nd rfl (Or.inl rfl)) (lw (nc (i:=7) scLaw.nd rfl (Or.inl rfl) (nh Fopt hr (by decide) rfl (mf (pv 2) (mf (pv 3) lv))))
  (lw (qp (oo zh (p8 oh rfl (B "len" (by decide)) ft (mf (pv 7) lv)) l7 (oz _)) (ma alt) o7)
  (lw (nc (i:=8) scLaw.nd rfl (Or.inl rfl) (ng o9 (pv 7) (nh Fnext hr (by decide) rfl (mf (pv 1) (mf (p8 oh rfl (B "len" (by decide)) ft (mf (pv 7) lv)) lv))) (λ_ _=>rfl)))
  (lw (nc (i:=9) scLaw.nd rfl (Or.inl rfl) (nh Fbeh hr (by decide) rfl (mf (pv 2) (mf (pv 3) (mf (pv 8) lv)))))
  (lw (qo (vk da dz ee p9 (pv 4) (mf (pv 8) lv)))
  (lw (qp (ac7 (su (nh Fsam hr (by decide) rfl (mf (pv 9) (mf (nh Fsta hr (by decide) rfl (mf (pv 2) (mf (pv 4) lv))) lv))))) (ma (my ae1)) o7)
  (lw (qo (vk da dz ee p9 (pv 5) (mf (ni (mf (pv 3) (mf (pv 8) (mf (pv 9) lv)))) lv)))
  (ma (nc (i:=3) scLaw.nd rfl (Or.inl rfl) (pv 9)))))))))))
  (ma (my (p8 (abp rfl) rfl (B "all" (by decide)) boot_all (mf (oq ["_law_ahead","_law_option","_law_later","_law_puzzle_here"] [none,none,none,some 2] rfl rfl (by decide +kernel) (by decide +kernel) rfl rfl (n0 (pv 5)) (λ_=>(qv (n:=3) rfl (mn (mh (i:=0) (show(["_law_ahead","_law_option","_law_later","_law_puzzle_here"]:List PySem.Str).Nodup by decide +kernel) rfl (Or.inl rfl)) (mn (mh (i:=1) (show(["_law_ahead","_law_option","_law_later","_law_puzzle_here"]:List PySem.Str).Nodup by decide +kernel) rfl (Or.inl rfl)) (mn (mh (i:=2) (show(["_law_ahead","_law_option","_law_later","_law_puzzle_here"]:List PySem.Str).Nodup by decide +kernel) rfl (Or.inl rfl)) o0))))) (λ_=>o8) (λ_=>(qz (ass hu) (nh Fbeh hr (by decide) rfl (mf (pv 3) (mf (pv 0) (mf (pv 1) lv)))) (pv 2) (oz _)))) lv)))))))))),?_⟩
 refine(oj _ rfl a ns ⟨rfl,ha,h63,λst n1 H1 s1 hst0 st1 hn1=>?_⟩)
 refine(me _ rfl st n1 8 2 ⟨rfl,st1,hn1,by decide,by decide,by decide,by decide,λpz H2 n2 fl kr e M kvs ks lms avs ads x2 st2 hn2 hP hlp hle hia=>?_⟩)
 have okM:=hP.fl.2
 have hhw:M.h*M.w<=64:=jg okM.h8 okM.w8
 have h64:(ocn M).length<=64:=db (ww M _) hhw
 have l6:=hP.lm.2.1
 refine(me _ rfl pz fl kr (.ref e) (nq M kvs lms ⟨rfl,hP.pz,hP.fl,hP.kr,hP.lm,λr u z H3 s3 hz hr1 hu1=>?_⟩))
 rw[avt]at hu1
 refine⟨(by show 0<=sizeLine;decide),λch hch=>?_⟩
 generalize g1:upd H3 ch _=H4 at *
 obtain⟨s4,e4⟩:=al hch g1
 clear g1
 refine⟨(by show 0<=sizeLine;decide),λwy hwy=>?_⟩
 generalize g1:upd H4 wy _=H5 at *
 obtain⟨s5,e5⟩:=al hwy g1
 clear g1
 have s35:=s4.trans s5
 have st3:=s3 _ _ st2
 have L0:aqz H5 st pz fl kr e r ch wy n2 M kvs ks lms avs ads z [] [] []:=⟨s35 _ _ st3,hn2,hP.same (s3.trans s35),⟨u,s35 _ _ hr1,s35 _ _ hu1⟩,by rw[hz];exact(au8 M).symm,s5 _ _ e4,⟨rfl,λi v o h=>by cases h⟩,(λi o h=>by cases h),e5,(λv hv=>by cases hv),(λz=>by rw[z,st3]at hch;cases hch),(λz=>by rw[z,s4 _ _ st3]at hwy;cases hwy),λz=>by rw[<-z,e4]at hwy;cases hwy⟩
 clear e5 hwy e4 hch s35 s5 s4 hr1 hu1 hz s3 st3 hP st2 x2 st1 s1 hst0 hn1 hn2
 refine⟨18,rfl,by decide,by decide,?_⟩
 refine aej (n:=18) (lo:=0) (λi σ' G=>∃(y6 y7 y8 y9:Option V)(h:Addr)(n:List V)(z:Str)(cvs wvs:List V)(os:List Opt),σ'=[some (.ref a),some (.ref st),some (.ref pz),some (.ref h),some (.ref ch),some (.ref wy),y6,y7,y8,y9]/\aqz G st pz fl kr e h ch wy n M kvs ks lms avs ads z cvs wvs os/\os.length<=i/\wvs.length<=i) (λσ' G=>∃(y3 y6 y7 y8 y9:Option V)(wvs:List V),σ'=[some (.ref a),some (.ref st),some (.ref pz),y3,some (.ref ch),some (.ref wy),y6,y7,y8,y9]/\PzB G pz fl kr e M kvs ks lms avs ads/\G wy=some (.lst wvs)/\(∀v∈wvs,WayS G M lms v)/\wvs.length<=18) (λσ' G h=>?_) ?_ (λN hN i σ' G hi h=>?_) (λσ' G h=>?_)
 .obtain⟨y3,y6,y7,y8,y9,wvs,rfl,PG,hwG,hW,hwl⟩:=h
  refine(pk _ rfl wy ⟨rfl,⟨_,SqL.of hwG⟩,λD hD=>?_⟩)
  refine ny (xs:=wvs) (λi zs J=>Same G J/\zs=(gw i true).map V.bl) ⟨Same.fresh _ hD,rfl⟩ (λi zs J p=>SqL.of (p.1 _ _ hwG)) (λi x zs J hx hi hDy hzl p=>?_) (λzs J hDy hzl p=>?_)
  .obtain⟨p1,rfl⟩:=p
   obtain⟨t,b,l,vv,os,o,zb,zl,rfl,ht,hb,hzb,hsg,hov,hfit,hl,hzl2⟩:=(hW x (aq hx)).tk (Tk.of_same p1)
   have PJ:=PG.same p1
   refine(m9 t _ rfl (SqT.of ht) rfl _ _ rfl _ (oj _ rfl _ _ ⟨rfl,rfl,?_⟩))
   refine⟨Agree.set (Agree.set (Agree.set (Agree.refl _) rfl) rfl) rfl,?_⟩
   dsimp only[yb]
   refine si ?_
   have lb:zb.length<=1000:=by rw[<-anv,hzb,qy];omega
   refine(og _ rfl _ rfl _ rfl pz fl (l9 kr e b M kvs (l9 ks lms avs ads zb (m8 _ vv o (knF M os) ⟨rfl,PJ,hb,qw _ _,hzb,hsg,lb,hov,hfit,λr z' J2 s2 hz2 hS2=>?_⟩))))
   rw[<-uy]at hz2
   rw[ags]at hS2
   have ez:=af1 (hz2.trans hzl2.symm)
   subst ez
   have hsg':=hfit.sgn hsg
   rw[<-uy]at hsg'
   have ok:iw z'=true:=Tx.ok ⟨by show z'.length<=80;rw[<-anv,hz2,qy];omega,λc hc=>ao9 hsg' c (by rw[<-hz2];exact hc)⟩
   have R1:=hS2.rep ok
   have R2:=(hl.tk (Tk.of_same s2)).rep ok
   refine(oj _ rfl _ _ ⟨R1,R2,agb _ _,?_⟩)
   rw[if_neg (by decide),SeqAt.eqv_refl _ R1.lay]
   refine pi (by omega) (s2 _ _ hDy) hzl ⟨(p1.trans s2).new hD,?_⟩
   rw[List.replicate_succ',br]
   rfl
  .obtain⟨p1,rfl⟩:=p
   refine(mw D _ ⟨rfl,hDy,?_⟩)
   have ea:(gw wvs.length true).all id=true:=by rw[ku];intro x hx;exact(List.mem_replicate.mp hx).2
   rw[ea]
   exact q _
 .exact(l9 _ _ _ _ r (l9 n2 z ([]) ([]) ([]) ⟨rfl,L0,am _,am _⟩))
 .obtain⟨y6,y7,y8,y9,h,n,z,cvs,wvs,os,rfl,L,hol,hwl⟩:=h
  clear L0
  have hsg:=L.hF.sgn os.length
  rw[k6]at hsg
  have lz:z.length=(ocn M).length:=by rw[<-anv,L.hz,qy]
  have hmk:MkF M z:=⟨by rw[L.hz,qy];rfl,by rw[L.hz];exact ao9 hsg,by rw[lz];exact gc (mz (by omega))⟩
  refine(mq _ rfl _ rfl pz fl kr (l9 e h M kvs ks (l9 lms avs ads z _ ⟨rfl,L.hpz,L.hh,qw _ _,hmk,λso J s1 ho hso0=>?_⟩)))
  obtain⟨ys,hso,hyl,hyo,hye⟩:=ho
  have t1:=Tk.of_same s1
  have hW1:∀v∈wvs,WayS J M lms v:=λv hv=>(L.hW v hv).tk t1
  have P1:=L.hpz.same s1
  have wy1:=s1 _ _ L.hwy
  refine(uv _ rfl so ys rfl (.inl (SqL.of hso)) rfl _ ⟨rfl,u8 (λhh=>?_) (λhh=>?_)⟩)
  .exact hN _ _ (l9 _ _ _ _ _ ⟨wvs,rfl,P1,wy1,hW1,by omega⟩)
  have st1:=s1 _ _ L.hst
  have nso:so≠st:=λz=>by rw[z,L.hst]at hso0;cases hso0
  have hpos:0<ys.length:=by
   cases ys with
   | nil=>exact(hh (by simp)).elim
   | cons _ _=>exact Nat.succ_pos _
  have h63:63∈z.cps.toList:=f8 λhc=>by rw[hye hc]at hpos;exact absurd hpos (jc _)
  refine(og _ rfl _ rfl _ rfl so ys ⟨rfl,.inl (SqL.of hso),(nq st n _ ⟨rfl,st1,L.sl,by omega,by omega,λn3 i3 J3 x3 st3 hn3 h30 h31=>?_⟩)⟩)
  obtain⟨j3,rfl⟩:=fw h30
  have hj3:j3<ys.length:=by omega
  obtain⟨o,hov,hog,hund⟩:=hyo _ (dv hj3)
  have t3:Tk J J3:=x3.one st1
  refine(m8 so ys _ (ys[j3]) ⟨rfl,rfl,SqL.of (x3.at nso hso),mm (ab hj3),?_⟩)
  have ov3:=hov.tk t3
  generalize ys[j3]=v at *
  have hfit:Fit M (knF M os) lms.length o:=by
   refine⟨?_,λq hq=>?_⟩
   .obtain⟨p,hp⟩:=cn h63
    have hpl:=(ae.mp hp).1
    rw[L.hz,qy]at hpl
    rw[L.hz,vx hpl]at hp
    exact⟨p,hpl,(zc hsg p).mp (cm hp)⟩
   .subst hq
    obtain⟨_,_,_,h1,h2,h3⟩:=hov
    obtain⟨g1,g2,g3⟩:=hog q rfl
    refine⟨h3,g1,h2,g2,λs hs=>⟨(h1 s hs).1,(h1 s hs).2,g3 s hs,?_⟩⟩
    have:=hund q rfl s hs
    rw[L.hz,vx (amt (h1 s hs).1)]at this
    exact(zc hsg _).mp (cm this)
  have t13:=Tk.trans t1 t3
  have P3:=P1.tk hia t3
  have hS3:=L.hh.tk t13
  refine(og _ rfl _ rfl _ rfl pz fl (l9 kr e h M kvs (l9 ks lms avs ads z (m8 _ v o (knF M os) ⟨rfl,P3,hS3,qw _ _,L.hz,hsg,by omega,ov3,hfit,λr z' J4 s4 hz4 hS4=>?_⟩))))
  rw[<-uy]at hz4
  rw[ags]at hS4
  have hsg':=hfit.sgn hsg
  rw[<-uy]at hsg'
  have ch4:=s4 _ _ (x3.at L.n1 (s1 _ _ L.hch))
  have wy4:=s4 _ _ (x3.at L.n2 wy1)
  have st4:=s4 _ _ st3
  have t4:=Tk.trans t13 (Tk.of_same s4)
  have ov4:=ov3.tk (Tk.of_same s4)
  have lO:=L.hO.1
  refine(uz _ rfl (.inl ⟨rfl,_,SqL.of ch4⟩) _ rfl ch cvs v ⟨rfl,rfl,ch4,mz (by omega),?_⟩)
  generalize g1:upd J4 ch _=J5 at *
  have t45:Tk J4 J5:=by rw[<-g1];exact Tk.lst ch4
  have ch5:J5 ch=some (.lst (cvs++[v])):=by rw[<-g1];exact mr
  have wy5:J5 wy=some (.lst wvs):=by rw[<-g1,nj (Ne.symm L.n3)];exact wy4
  have st5:J5 st=some (.lst n3):=by rw[<-g1,nj (Ne.symm L.n1)];exact st4
  clear g1
  have t5:=Tk.trans t4 t45
  have P5:=L.hpz.tk hia t5
  have hS5:=hS4.tk t45
  have O5:ChH J5 M lms.length (cvs++[v]) (os++[o]):=by
   refine⟨by simp[lO],λi' v' o' h1 h2=>?_⟩
   by_cases hi':i'<cvs.length
   .rw[cr hi']at h1
    rw[cr (by omega)]at h2
    exact(L.hO.2 i' v' o' h1 h2).tk t5
   .have hl:=(ae.mp h1).1
    rw[bu,g9]at hl
    have e1:i'=cvs.length:=by omega
    rw[e1,cb (am _),ke]at h1
    rw[e1,lO,cb (am _),ke]at h2
    cases h1
    cases h2
    exact ov4.tk t45
  have F5:=L.hF.snoc hfit
  refine(og _ rfl _ rfl _ rfl pz fl (l9 kr e ch M kvs (l9 ks lms avs ads _ ⟨os++[o],rfl,P5,ch5,O5,F5,by rw[bu];show os.length+1<=20;omega,λr2 z2 J6 s6 hz6 hS6=>?_⟩)))
  have ez:=af1 (hz6.trans hz4.symm)
  subst ez
  have ok:iw z2=true:=Tx.ok ⟨by show z2.length<=80;rw[<-anv,hz4,qy];omega,λc hc=>ao9 hsg' c (by rw[<-hz4];exact hc)⟩
  refine(m8 r r2 z2 _ ⟨rfl,hS5.tk (Tk.of_same s6),hS6,ok,by rw[qw];exact l6,λJ7 s7=>⟨true,rfl,xt ?_⟩⟩)
  have s67:=s6.trans s7
  have t7:=Tk.trans t5 (Tk.of_same s67)
  have wy7:=s67 _ _ wy5
  refine(oe _ rfl (.inl ⟨rfl,_,SqL.of wy7⟩) _ ⟨rfl,(pk _ rfl _ ⟨rfl,(by show 3<=sizeLine;decide),λt ht=>?_⟩)⟩)
  generalize g1:upd J7 t _=J8 at *
  obtain⟨s8,e8⟩:=al ht g1
  clear g1
  have wy8:=s8 _ _ wy7
  refine(nq wy wvs _ ⟨rfl,rfl,wy8,mz (by omega),?_⟩)
  generalize g1:upd J8 wy _=J9 at *
  have t89:Tk J8 J9:=by rw[<-g1];exact Tk.lst wy8
  have wy9:J9 wy=some (.lst (wvs++[.ref t])):=by rw[<-g1];exact mr
  have s68:=s67.trans s8
  have ch9:J9 ch=some (.lst (cvs++[v])):=by rw[<-g1,nj L.n3];exact s68 _ _ ch5
  have st9:J9 st=some (.lst n3):=by rw[<-g1,nj (Ne.symm L.n2)];exact s68 _ _ st5
  clear g1
  have t59:=Tk.trans (Tk.of_same s68) t89
  have t9:=Tk.trans t5 t59
  have t49:=Tk.trans t45 t59
  refine(me _ rfl _ _ _ _ (l9 r n3 z2 (cvs++[v]) (wvs++[.ref t]) ⟨os++[o],rfl,⟨st9,hn3,L.hpz.tk hia t9,hS4.tk t49,hz4,ch9,O5.tk t59,F5,wy9,λv' hv'=>?_,L.n1,L.n2,L.n3⟩,by rw[bu];show os.length+1<=i+1;omega,by rw[bu];show wvs.length+1<=i+1;omega⟩))
  rcases ax.mp hv' with h'|h'
  .exact(L.hW v' h').tk t9
  .rw[ao.mp h']
   exact(l9 t h r v os (nq o z z2 ⟨rfl,t89 _ _ e8,L.hh.tk t9,L.hz,hsg,ov4.tk t49,hfit,hS4.tk t49,hz4⟩))
 .obtain⟨y6,y7,y8,y9,h,n,z,cvs,wvs,os,rfl,L,hol,hwl⟩:=h
  exact(l9 _ _ _ _ _ ⟨wvs,rfl,L.hpz,L.hwy,L.hW,hwl⟩)
end
end K23
namespace K23
open PySem PyProof.Rows L2 L3
theorem ar7{P:Program}{w:World}{K:ai}{mg:Str->Option Value}{aD:Addr}{u1 v1 u2 v2 u3 v3:Tok}{ep:Nat}(h:mg "TURNINGS_BY_MODE" = some (.ref aD))(ld:K.lookup aD=some ⟨.type "dict",none,.dict #[⟨hashStr w "still",.str "still" u1,.int 1 v1⟩,⟨hashStr w "turn",.str "turn" u2,.int 4 v2⟩,⟨hashStr w "flip",.str "flip" u3,.int 8 v3⟩] ep,#[]⟩):apm P w K mg:=by
 refine⟨aD,_,[("still",.int 1 v1),("turn",.int 4 v2),("flip",.int 8 v3)],h,ld,⟨_,ep,⟨rfl,rfl,rfl⟩,rfl,λe he=>?_,?_,(show((["still","turn","flip"]:List Str).Nodup) by decide)⟩,λm n hm=>?_⟩
 .have he':e=⟨hashStr w "still",.str "still" u1,.int 1 v1⟩\/e=⟨hashStr w "turn",.str "turn" u2,.int 4 v2⟩\/e=⟨hashStr w "flip",.str "flip" u3,.int 8 v3⟩:=by simpa using he
  rcases he' with rfl|rfl|rfl
  .exact⟨"still",strKind_is P w _ u1,rfl⟩
  .exact⟨"turn",strKind_is P w _ u2,rfl⟩
  .exact⟨"flip",strKind_is P w _ u3,rfl⟩
 .exact .cons (strKind_is P w _ u1) rfl (.cons (strKind_is P w _ u2) rfl (.cons (strKind_is P w _ u3) rfl .nil))
 .rcases hm with ⟨rfl,rfl⟩|⟨rfl,rfl⟩|⟨rfl,rfl⟩
  .exact⟨v1,rfl⟩
  .exact⟨v2,rfl⟩
  .exact⟨v3,rfl⟩
theorem all_mk{l:PySem.W.OpenLaw}{w:World}{K:ai}{h:Heap}{mg:Str->Option Value}{fa:Addr}(X:K.In h)(G:h.Ns mainGlobals mg)(hfa:mg "law" = some (.ref fa))
  (d1:Df K "is_sign" aua)
  (d2:Df K "is_small" aig)
  (d3:Df K "turned" sTd)
  (d4:Df K "mirrored" av7)
  (d5:Df K "turned_right" sTr)
  (d6:Df K "forms_of" ai8)
  (d7:Df K "sign_at" sAt)
  (d8:Df K "is_open" aoh)
  (d9:Df K "must_be" ao6)
  (d10:Df K "wanted" anq)
  (d11:Df K "open_cells" sOc)
  (d12:Df K "floor_spots" aid)
  (d13:Df K "around" avf)
  (d14:Df K "placements" avn)
  (d15:Df K "places" avg)
  (d16:Df K "shifted" avz)
  (d17:Df K "may_lie" avq)
  (d18:Df K "may_cover" aug)
  (d19:Df K "is_kept_apart" avj)
  (d20:Df K "near_places" ans)
  (d21:Df K "begin" awa)
  (d22:Df K "used_of" at5)
  (d23:Df K "options" awh)
  (d24:Df K "starting_options" au3)
  (d25:Df K "options_among" at7)
  (d26:Df K "first_undecided" atz)
  (d27:Df K "goes" aty)
  (d28:Df K "covers" av1)
  (d29:Df K "is_barred" avo)
  (d30:Df K "behind" avi)
  (d31:Df K "behind_on" awm)
  (d32:Df K "marks_behind" au9)
  (d33:Df K "touches_undecided" avy)
  (d34:Df K "used_behind" awb)
  (d35:Df K "ended" awl)
  (d36:Df K "_law_next" apd)
  (d37:Df K "_law_drawn" avl)
  (d38:Df K "_law_form" ao7)
  (d39:Df K "_law_kinds" aie)
  (d40:Df K "_law_floor" akb)
  (d41:Df K "_law_two_rows" au6)
  (d42:Df K "_law_apart" auc)
  (d43:Df K "_law_puzzle" av0)
  (d44:Df K "_law_cells" avr)
  (d45:Df K "_law_beside" aud)
  (d46:Df K "_law_used" auv)
  (d47:Df K "_law_decided" at2)
  (d48:Df K "_law_state" avh)
  (d49:Df K "_law_same" avv)
  (d50:Df K "law" ap1)
  {aD C fI:Addr} {u1 v1 u2 v2 u3 v3 tC tV tU tN:Tok} {ep:Nat} {od an:Option Addr} {sl:Array (Option Value)} {oc0 kV0 dc0 pm0 cd0 ct0:Value} (yd:dg K mainGlobals "TURNINGS_BY_MODE" = some (some (.ref aD))) (ld:K.lookup aD=some ⟨.type "dict",none,.dict #[⟨hashStr w "still",.str "still" u1,.int 1 v1⟩,⟨hashStr w "turn",.str "turn" u2,.int 4 v2⟩,⟨hashStr w "flip",.str "flip" u3,.int 8 v3⟩] ep,#[]⟩) (yc:dg K mainGlobals "CLOSED" = some (some (.str "#" tC))) (yv:dg K mainGlobals "COVERED" = some (some (.str "." tV))) (yu:dg K mainGlobals "UNDECIDED" = some (some (.str "?" tU))) (yn:dg K mainGlobals "DONE" = some (some (.str "-" tN))) (yG:dg K mainGlobals "Ground" = some (some (.ref C))) (a1:gj K (.ref C) "__init__" = some (some (.ref fI))) (i1:PySem.W.isFn K (.ref fI)=true) (l1:K.lookup fI=some ⟨oc0,od,.func (kb "__init__" "Ground.__init__" (uh ap0) (sk ap0) (mj ap0) .none kV0 dc0 pm0 an cd0 ct0),sl⟩) (c1:PySem.W.codeIn K cd0 "Ground.__init__" = true) (k1:lg K (.ref fI)=true) (pg:PySem.W.plainGet K C Str.empty=true) (hd:PySem.W.hasDictIn K C=true) (po:PySem.W.plainOver K C=true) (sa:gj K (.ref C) "__setattr__" = some (some (.builtin "object.__setattr__"))) (mk:PySem.W.makesIn K C=true) (kc:lg K (.ref C)=true) (n1:gj K (.ref C) "kinds" = some none) (n2:gj K (.ref C) "apart" = some none) (n3:gj K (.ref C) "places" = some none) (n4:gj K (.ref C) "near" = some none)
  (z1:dg K mainGlobals "len" = some none) (z2:dg K mainGlobals "min" = some none) (z3:dg K mainGlobals "max" = some none) (z4:dg K mainGlobals "sorted" = some none) (z5:dg K mainGlobals "tuple" = some none) (z6:dg K mainGlobals "list" = some none) (z7:dg K mainGlobals "isinstance" = some none) (z8:dg K mainGlobals "bool" = some none) (z9:dg K mainGlobals "range" = some none) (z10:dg K mainGlobals "str" = some none) (z11:dg K mainGlobals "int" = some none) (z12:dg K mainGlobals "enumerate" = some none) (z13:dg K mainGlobals "all" = some none) (z14:dg K mainGlobals "any" = some none) (z15:dg K mainGlobals "set" = some none) (z16:dg K mainGlobals "zip" = some none) (z17:dg K mainGlobals "sum" = some none) :
  ∃fd:FuncData,(∀(s:Shared)(v:Value),BindsTo s fd ⟨[v],[]⟩ [("_law_script",v)])/\∀base:Heap,K.In base->base.Ns mainGlobals mg->qe l.prog w K mg base CX0 9 fa fd ["_law_script"] (al7 K):=by
 obtain⟨f,fd,a,F⟩:=d50
 cases hfa.symm.trans (PySem.W.mg_of X G a)
 have B:∀x∈tj,mg x=none:=by
  intro x hx
  simp only[tj,bq,jb,or_false]at hx
  rcases hx with rfl|rfl|rfl|rfl|rfl|rfl|rfl|rfl|rfl|rfl|rfl|rfl|rfl|rfl|rfl|rfl|rfl
  .exact cy X G z1
  .exact cy X G z2
  .exact cy X G z3
  .exact cy X G z4
  .exact cy X G z5
  .exact cy X G z6
  .exact cy X G z7
  .exact cy X G z8
  .exact cy X G z9
  .exact cy X G z10
  .exact cy X G z11
  .exact cy X G z12
  .exact cy X G z13
  .exact cy X G z14
  .exact cy X G z15
  .exact cy X G z16
  .exact cy X G z17
 obtain⟨oc,od,kV,doc,pm,an,cdv,ct,osl,rfl,lk,hcd⟩:=id F.ex
 refine⟨kb "law" "law" (uh ap1) (sk ap1) (mj ap1) .none kV doc pm an cdv ct,λs v=>.of_eq rfl,λbase _ _=>?_⟩
 have dm:apm l.prog w K mg:=ar7 (PySem.W.mg_of X G yd) ld
 have gC:GS mg "CLOSED" "#":=⟨_,PySem.W.mg_of X G yc⟩
 have gV:GS mg "COVERED" ".":=⟨_,PySem.W.mg_of X G yv⟩
 have gU:GS mg "UNDECIDED" "?":=⟨_,PySem.W.mg_of X G yu⟩
 have gN:GS mg "DONE" "-":=⟨_,PySem.W.mg_of X G yn⟩
 have cG:ClG K C:=⟨⟨pg,hd,po,sa⟩,n1,n2,n3,n4⟩
 have FI:=anj (st:=ap0) l1 c1 k1
 have bI:=FI.binds (ps:=["self","puzzle"]) λ_ _ _ _ _ _=>aoa (λ_ _=>rfl)
 have bg:=d1.fn (P:=l.prog) (w:=w) (base:=base) X G (aq4 B)
 have sm:=d2.fn (P:=l.prog) (w:=w) (base:=base) X G (alb B)
 have mi:=d4.fn (P:=l.prog) (w:=w) (base:=base) X G (ate B)
 have tr:=d5.fn (P:=l.prog) (w:=w) (base:=base) X G (av5 B)
 have td:=d3.fn (P:=l.prog) (w:=w) (base:=base) X G (aue B mi tr)
 have fo:=d6.fn (P:=l.prog) (w:=w) (base:=base) X G (aln B dm td)
 have ta:=d7.fn (P:=l.prog) (w:=w) (base:=base) X G (av6 B gC)
 have op:=d8.fn (P:=l.prog) (w:=w) (base:=base) X G (ao1 gC ta)
 have mu:=d9.fn (P:=l.prog) (w:=w) (base:=base) X G (apz gV ta bg)
 have wa:=d10.fn (P:=l.prog) (w:=w) (base:=base) X G (api ta bg sm)
 have sp:=d12.fn (P:=l.prog) (w:=w) (base:=base) X G (alv B)
 have oc:=d11.fn (P:=l.prog) (w:=w) (base:=base) X G (avx gC sp)
 have mc:=d18.fn (P:=l.prog) (w:=w) (base:=base) X G (aq7 op wa)
 have ml:=d17.fn (P:=l.prog) (w:=w) (base:=base) X G (aoj B mc)
 have sh:=d16.fn (P:=l.prog) (w:=w) (base:=base) X G (ap8 B)
 have pl:=d15.fn (P:=l.prog) (w:=w) (base:=base) X G (aqj B sp sh ml)
 have pc:=d14.fn (P:=l.prog) (w:=w) (base:=base) X G (ati B fo pl)
 have ar:=d13.fn (P:=l.prog) (w:=w) (base:=base) X G (aqv)
 have ka:=d19.fn (P:=l.prog) (w:=w) (base:=base) X G (aqg B)
 have nr:=d20.fn (P:=l.prog) (w:=w) (base:=base) X G (apf ar)
 have fG:FnM l.prog w K mg base "Ground" C 3 ["self","puzzle"] (ak6 w C):=⟨fI,_,⟨mk,a1,i1,kc⟩,arq B cG oc nr FI,PySem.W.mg_of X G yG,bI⟩
 have uo:=d22.fn (P:=l.prog) (w:=w) (base:=base) X G (aqx B)
 have be:=d21.fn (P:=l.prog) (w:=w) (base:=base) X G (atn B gU oc uo)
 have fu:=d26.fn (P:=l.prog) (w:=w) (base:=base) X G (aqa gU)
 have en:=d35.fn (P:=l.prog) (w:=w) (base:=base) X G (arx gU)
 have cv:=d28.fn (P:=l.prog) (w:=w) (base:=base) X G (atg cG)
 have ib:=d29.fn (P:=l.prog) (w:=w) (base:=base) X G (arn B cG ka)
 have go:=d27.fn (P:=l.prog) (w:=w) (base:=base) X G (atc B gU cG cv ib)
 have st:=d24.fn (P:=l.prog) (w:=w) (base:=base) X G (as3 B oc mu pc)
 have oa:=d25.fn (P:=l.prog) (w:=w) (base:=base) X G (arl B en fu go)
 have ot:=d23.fn (P:=l.prog) (w:=w) (base:=base) X G (ard fG st oa)
 have tu:=d33.fn (P:=l.prog) (w:=w) (base:=base) X G (aqw B gU cG)
 have mb:=d32.fn (P:=l.prog) (w:=w) (base:=base) X G (atk B gU gN cG tu)
 have ub:=d34.fn (P:=l.prog) (w:=w) (base:=base) X G (arp uo)
 have bo:=d31.fn (P:=l.prog) (w:=w) (base:=base) X G (aqd gN cG fu cv mb ub)
 have bh:=d30.fn (P:=l.prog) (w:=w) (base:=base) X G (ar6 fG bo)
 have nx:=d36.fn (P:=l.prog) (w:=w) (base:=base) X G (aoe B)
 have dr:=d37.fn (P:=l.prog) (w:=w) (base:=base) X G (aqe B)
 have fm:=d38.fn (P:=l.prog) (w:=w) (base:=base) X G (ao5 B nx)
 have kd:=d39.fn (P:=l.prog) (w:=w) (base:=base) X G (alj B nx fm)
 have tw:=d41.fn (P:=l.prog) (w:=w) (base:=base) X G (ar8 B nx)
 have fl:=d40.fn (P:=l.prog) (w:=w) (base:=base) X G (amj B nx tw)
 have ap:=d42.fn (P:=l.prog) (w:=w) (base:=base) X G (arj B nx)
 have lz:=d43.fn (P:=l.prog) (w:=w) (base:=base) X G (as0 kd fl ap)
 have cl:=d44.fn (P:=l.prog) (w:=w) (base:=base) X G (aqk B)
 have bs:=d45.fn (P:=l.prog) (w:=w) (base:=base) X G (asl)
 have lu:=d46.fn (P:=l.prog) (w:=w) (base:=base) X G (aq3 B)
 have dc:=d47.fn (P:=l.prog) (w:=w) (base:=base) X G (asd)
 have sta:=d48.fn (P:=l.prog) (w:=w) (base:=base) X G (atb B cl bs dc lu)
 have sam:=d49.fn (P:=l.prog) (w:=w) (base:=base) X G (atl B)
 exact aq2 B dr nx lz be ot bh sta sam F
theorem walk{l:PySem.W.OpenLaw}{q:Program}{loose:List Str}{XP:(Str->Option Value)->Heap->Prop}{YP:World->Heap->Prop}{d:DefRec}{K:Params->ai}(hn:l.most=some 63)(hdf:d.params.defaults=[])
  (hY:∀(w:World)(h:Heap),YP w h->(K w.params).In h)
  (F:∀(w:World)(mg:Str->Option Value)(fa:Addr)(h:Heap),(K w.params).In h->h.Ns mainGlobals mg->mg d.name=some (.ref fa)->
   ∃fd:FuncData,(∀(s:Shared)(u:Value),BindsTo s fd ⟨[u],[]⟩ [("_law_script",u)])/\∀base:Heap,(K w.params).In base->base.Ns mainGlobals mg->qe l.prog w (K w.params) mg base CX0 9 fa fd ["_law_script"] (al7 (K w.params))) :
  PySem.W.WalkO q loose XP YP l.row.toRowW d [] (λf vs=>PySem.call f vs):=
 L2.walk_of (n:=63) (k:=9) (x:="_law_script") (CX:=λ_=>CX0) (sp:=λw=>al7 (K w.params)) hn (by decide) hdf ⟨rfl,by decide,by decide⟩ hY F (λ_ _ a ns hl _ hS=>⟨a,ns,rfl,hS,hl,λ_=>rfl⟩) λ_ _ _ _ _ z=>z
end K23
open PySem PySem.W PyProof.Rows
set_option maxRecDepth 100000 in
set_option maxHeartbeats 0 in
theorem PySem.Challenge.cw_coverpieces_k23_behind_holds : PySem.Challenge.rw_coverpieces_k23_behind.Holds := by
 refine K23.hd ⟨K23.left,?_⟩
 k_fill
 refine K23.walk (l:=PySem.Challenge.rw_coverpieces_k23_behind) rfl rfl (λw h Y=>PySem.W.kIn_of Y) ?F
 case F=>
  intro w mg fa h KX G hmg
  refine' K23.all_mk KX G hmg ?d1 ?d2 ?d3 ?d4 ?d5 ?d6 ?d7 ?d8 ?d9 ?d10 ?d11 ?d12 ?d13 ?d14 ?d15 ?d16 ?d17 ?d18 ?d19 ?d20 ?d21 ?d22 ?d23 ?d24 ?d25 ?d26 ?d27 ?d28 ?d29 ?d30 ?d31 ?d32 ?d33 ?d34 ?d35 ?d36 ?d37 ?d38 ?d39 ?d40 ?d41 ?d42 ?d43 ?d44 ?d45 ?d46 ?d47 ?d48 ?d49 ?d50 ?yd ?ld ?yc ?yv ?yu ?yn ?yG ?a1 ?i1 ?l1 ?c1 ?k1 ?pg ?hd ?po ?sa ?mk ?kc ?n1 ?n2 ?n3 ?n4 ?z1 ?z2 ?z3 ?z4 ?z5 ?z6 ?z7 ?z8 ?z9 ?z10 ?z11 ?z12 ?z13 ?z14 ?z15 ?z16 ?z17
  case d1|d2|d3|d4|d5|d6|d7|d8|d9|d10|d11|d12|d13|d14|d15|d16|d17|d18|d19|d20|d21|d22|d23|d24|d25|d26|d27|d28|d29|d30|d31|d32|d33|d34|d35|d36|d37|d38|d39|d40|d41|d42|d43|d44|d45|d46|d47|d48|d49|d50=>refine' L3.df_mk ?a ?l ?c ?k;(case a=>k_is);(case l=>k_is);(case c=>k_is);(case k=>k_is)
  case yd=>k_is
  case ld=>k_is
  case yc=>k_is
  case yv=>k_is
  case yu=>k_is
  case yn=>k_is
  case yG=>k_is
  case a1=>k_is
  case i1=>k_is
  case l1=>k_is
  case c1=>k_is
  case k1=>k_is
  case pg=>k_is
  case hd=>k_is
  case po=>k_is
  case sa=>k_is
  case mk=>k_is
  case kc=>k_is
  case n1=>k_is
  case n2=>k_is
  case n3=>k_is
  case n4=>k_is
  case z1|z2|z3|z4|z5|z6|z7|z8|z9|z10|z11|z12|z13|z14|z15|z16|z17=>k_is
