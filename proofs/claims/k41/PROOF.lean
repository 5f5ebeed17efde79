import PyProof.Rows.All
import Wide.All
import OpenK.AllK
import Wide.FinOn
import Lean
import PyProof.EqAt
import PyProof.EqKinds
import PyProof.TupleCall
import PyProof.Rows.SortRuns
import PyProof.CompFree
import KE.KSortTup
import PyProof.P3Eq
import PyProof.P3In
import PyProof.NeData
import PyProof.WalkInts
import PyProof.Rows.MinMaxN
import PyProof.StrWalks
import PyProof.StrBlockH
import PyProof.StrLawsIn
import PyProof.FString5
import PyProof.StrOps2
import PyProof.ListStr
import PyProof.ConsumeWalk
import PyProof.Rows.StrJoin2
import PyProof.EnumMake
import PyProof.EnumFor
import PyProof.LayNew
import PyProof.Rows.EnumRows
import PyProof.StrCalls
import PyProof.Rows.StrCase
import PyProof.Rows.StrAscii2
import PyProof.Rows.StrFit
import PyProof.IsRules
import PyProof.DictWalks
import PyProof.TupleOfStr
import PyProof.CollectWalk
import PyProof.WalkLemmas
import PyProof.Rows.Range3
import PyProof.Cells
import KE.KRevSl
import PySem.SetTable
import PySem.SetOps
import PyProof.SetKind
import PyProof.TupleKey
import PyProof.DictKinds
import PyProof.Rows.SetFrom
import PyProof.Seq
import PyProof.SetRoads
import PyProof.Walk
import PyProof.MinMaxWalk
import PyProof.DictRoads
import PyProof.AutoListH
import PyProof.FactsAll.list_3
import PyProof.NeKinds
import PyProof.DictRoadsH
import KE.KDictSum
import PyProof.EnumIter
import PyProof.Rows.SeqMore
import PyProof.Rows.TupAdd
import PySem.Challenge.RW_coverpieces_k41_going
set_option Elab.async false
set_option linter.all false
set_option maxRecDepth 100000
section
namespace K41
open PySem PyProof.Rows
noncomputable def vw:Program:=PySem.W.view PySem.Challenge.pw_coverpieces_k41_going [1,2,4,5,6,7,8,10,11,12,13,14,16,18,19,20,21,22,24,25,26,27,28,29,31,32,33,34,35,36,37,38,39,40,41,42,43,44]
set_option maxHeartbeats 0 in
theorem said:PySem.W.OpenLaw.wellSaid PySem.Challenge.rw_coverpieces_k41_going=true:=by kernel_rfl
end K41
open PySem PySem.W PyProof.Rows
local macro_rules | `(tactic| o_law)=>`(tactic| refine holds_law K41.said λsaid=>?_)
local macro_rules | `(tactic| o_head $H)=>`(tactic| refine(λh hw=>holds_open (q:=K41.vw) (loose:=["TURNINGS_BY_MODE"]) (Xt:=(λs=>xlAt K41.vw [] s&&recOk (RowW.records (OpenLaw.row PySem.Challenge.rw_coverpieces_k41_going).toRowW) s)) (XP:=XL K41.vw []) (Yf:=Hook.obs $H) (Ya:=Hook.val $H) (YP:=Hook.says $H) (N:=2462) (And.left h) (Hook.of $H) (Hook.keeps $H) (λs e=>xl_of s (Bool.and_eq_true_iff.mp e).1) XL.keeps (by rfl) (by rfl) (by rfl) (λs e=>recFacts_of (Bool.and_eq_true_iff.mp e).2) (by rfl) (by assumption) (by decide +kernel) ⟨rfl,rfl,rfl,rfl,rfl,by decide +kernel⟩ hw (And.right h)) ?hc ?hw)
set_option maxRecDepth 100000 in
set_option maxHeartbeats 0 in
open_top K41.hd for PySem.Challenge.rw_coverpieces_k41_going
namespace K41
noncomputable def hk:Hook:=kHook K41.hd.heap_1 [2,3,15,17,18,20,21,22,24,25,27,28,29,30,32,33,35,36,37,40,41,42,45,46,47,50,51,52,54,55,57,58,59,61,62,64,65,66,68,69,71,72,73,75,76,78,79,80,82,83,85,86,87,90,91,92,95,96,97,100,101,102,105,106,107,109,110,112,113,114,116,117,119,120,121,124,125,126,129,130,131,133,134,136,137,138,141,142,143,146,147,148,150,151,153,154,155,157,158,160,161,162,164,165,167,168,169,172,173,174,177,178,179,182,183,184,186,187,189,190,191,194,195,196,198,199,201,202,203,206,207,208,210,211,213,214,215,218,219,220,223,224,225,228,229] (λ_=>by kernel_rfl)
noncomputable def Lo(w:World):Prop:=(openEnds treeTable PySem.Challenge.pw_coverpieces_k41_going w 2462).map (λs=>(openSeen vw ["TURNINGS_BY_MODE"] (importedModules PySem.Challenge.pw_coverpieces_k41_going.main.body) (λs=>xlAt vw [] s&&recOk (RowW.records (OpenLaw.row PySem.Challenge.rw_coverpieces_k41_going).toRowW) s) true s,hk.obs s))=some (openGood vw ["TURNINGS_BY_MODE"],hk.val w)
set_option maxHeartbeats 0 in
theorem lf(w:World):Lo (w.withFollow "special-get-raises" false):=by unfold Lo;kernel_rfl
set_option maxHeartbeats 0 in
theorem lt(w:World):Lo (w.withFollow "special-get-raises" true):=by unfold Lo;kernel_rfl
theorem left:∀w,Lo w:=byRow2 "special-get-raises" lf lt
end K41
end
set_option Elab.async false
set_option linter.all false
set_option maxRecDepth 100000
set_option maxHeartbeats 8000000
theorem x_EE{α0:Sort u0}{α1:Sort u1}{t:α0->α1->Prop}(x0:α0)(x1:α1)(h:t x0 x1):∃x0,∃x1,t x0 x1:=⟨x0,x1,h⟩
theorem x_EAE{α0:Sort u0}{α1:Sort u1}{p0:α0->Prop}{t:α0->α1->Prop}(x0:α0)(h0:p0 x0)(x1:α1)(h:t x0 x1):∃x0,p0 x0/\∃x1,t x0 x1:=⟨x0,h0,x1,h⟩
theorem x_EEE{α0:Sort u0}{α1:Sort u1}{α2:Sort u2}{t:α0->α1->α2->Prop}(x0:α0)(x1:α1)(x2:α2)(h:t x0 x1 x2):∃x0,∃x1,∃x2,t x0 x1 x2:=⟨x0,x1,x2,h⟩
theorem x_EAAE{α0:Sort u0}{α1:Sort u1}{p0:α0->Prop}{p1:α0->Prop}{t:α0->α1->Prop}(x0:α0)(h0:p0 x0)(h1:p1 x0)(x1:α1)(h:t x0 x1):∃x0,p0 x0/\p1 x0/\∃x1,t x0 x1:=⟨x0,h0,h1,x1,h⟩
theorem o5{α0:Sort u0}{α1:Sort u1}{α2:Sort u2}{p0:α0->Prop}{t:α0->α1->α2->Prop}(x0:α0)(h0:p0 x0)(x1:α1)(x2:α2)(h:t x0 x1 x2):∃x0,p0 x0/\∃x1,∃x2,t x0 x1 x2:=⟨x0,h0,x1,x2,h⟩
theorem nv{α0:Sort u0}{α1:Sort u1}{α2:Sort u2}{α3:Sort u3}{t:α0->α1->α2->α3->Prop}(x0:α0)(x1:α1)(x2:α2)(x3:α3)(h:t x0 x1 x2 x3):∃x0,∃x1,∃x2,∃x3,t x0 x1 x2 x3:=⟨x0,x1,x2,x3,h⟩
theorem lg{α0:Sort u0}{α1:Sort u1}{α2:Sort u2}{α3:Sort u3}{α4:Sort u4}{t:α0->α1->α2->α3->α4->Prop}(x0:α0)(x1:α1)(x2:α2)(x3:α3)(x4:α4)(h:t x0 x1 x2 x3 x4):∃x0,∃x1,∃x2,∃x3,∃x4,t x0 x1 x2 x3 x4:=⟨x0,x1,x2,x3,x4,h⟩
theorem x_EAEEEE{α0:Sort u0}{α1:Sort u1}{α2:Sort u2}{α3:Sort u3}{α4:Sort u4}{p0:α0->Prop}{t:α0->α1->α2->α3->α4->Prop}(x0:α0)(h0:p0 x0)(x1:α1)(x2:α2)(x3:α3)(x4:α4)(h:t x0 x1 x2 x3 x4):∃x0,p0 x0/\∃x1,∃x2,∃x3,∃x4,t x0 x1 x2 x3 x4:=⟨x0,h0,x1,x2,x3,x4,h⟩
theorem x_EAEEAAE{α0:Sort u0}{α1:Sort u1}{α2:Sort u2}{α3:Sort u3}{p0:α0->Prop}{p1:α0->α1->α2->Prop}{p2:α0->α1->α2->Prop}{t:α0->α1->α2->α3->Prop}(x0:α0)(h0:p0 x0)(x1:α1)(x2:α2)(h1:p1 x0 x1 x2)(h2:p2 x0 x1 x2)(x3:α3)(h:t x0 x1 x2 x3):∃x0,p0 x0/\∃x1,∃x2,p1 x0 x1 x2/\p2 x0 x1 x2/\∃x3,t x0 x1 x2 x3:=⟨x0,h0,x1,x2,h1,h2,x3,h⟩
theorem x_EAEAEEAAE{α0:Sort u0}{α1:Sort u1}{α2:Sort u2}{α3:Sort u3}{α4:Sort u4}{p0:α0->Prop}{p1:α0->α1->Prop}{p2:α0->α1->α2->α3->Prop}{p3:α0->α1->α2->α3->Prop}{t:α0->α1->α2->α3->α4->Prop}(x0:α0)(h0:p0 x0)(x1:α1)(h1:p1 x0 x1)(x2:α2)(x3:α3)(h2:p2 x0 x1 x2 x3)(h3:p3 x0 x1 x2 x3)(x4:α4)(h:t x0 x1 x2 x3 x4):∃x0,p0 x0/\∃x1,p1 x0 x1/\∃x2,∃x3,p2 x0 x1 x2 x3/\p3 x0 x1 x2 x3/\∃x4,t x0 x1 x2 x3 x4:=⟨x0,h0,x1,h1,x2,x3,h2,h3,x4,h⟩
theorem x_EEAAAEEAE{α0:Sort u0}{α1:Sort u1}{α2:Sort u2}{α3:Sort u3}{α4:Sort u4}{p0:α0->α1->Prop}{p1:α0->α1->Prop}{p2:α0->α1->Prop}{p3:α0->α1->α2->α3->Prop}{t:α0->α1->α2->α3->α4->Prop}(x0:α0)(x1:α1)(h0:p0 x0 x1)(h1:p1 x0 x1)(h2:p2 x0 x1)(x2:α2)(x3:α3)(h3:p3 x0 x1 x2 x3)(x4:α4)(h:t x0 x1 x2 x3 x4):∃x0,∃x1,p0 x0 x1/\p1 x0 x1/\p2 x0 x1/\∃x2,∃x3,p3 x0 x1 x2 x3/\∃x4,t x0 x1 x2 x3 x4:=⟨x0,x1,h0,h1,h2,x2,x3,h3,x4,h⟩
theorem x_EEAAEEAAE{α0:Sort u0}{α1:Sort u1}{α2:Sort u2}{α3:Sort u3}{α4:Sort u4}{p0:α0->α1->Prop}{p1:α0->α1->Prop}{p2:α0->α1->α2->α3->Prop}{p3:α0->α1->α2->α3->Prop}{t:α0->α1->α2->α3->α4->Prop}(x0:α0)(x1:α1)(h0:p0 x0 x1)(h1:p1 x0 x1)(x2:α2)(x3:α3)(h2:p2 x0 x1 x2 x3)(h3:p3 x0 x1 x2 x3)(x4:α4)(h:t x0 x1 x2 x3 x4):∃x0,∃x1,p0 x0 x1/\p1 x0 x1/\∃x2,∃x3,p2 x0 x1 x2 x3/\p3 x0 x1 x2 x3/\∃x4,t x0 x1 x2 x3 x4:=⟨x0,x1,h0,h1,x2,x3,h2,h3,x4,h⟩
open PySem renaming wpAny_bind->aa,wpAny_pure->af,wpAny_callSpecial?_slot->b8,wpAny_call_entry->b9,wpAny_newObj_type->cp,wpAny_holding->ei,wpAny_truthy_bool->f8,wpAny_setState_of->gc,codeAny_builtin->gf,sizeLine_eq->gi,wpAny_field->gj,wpAny_setField->gz,boot_len->g0,mem_of_lookup->ie,wpAny_Call_Name_kw->ip,wpAny_seqItems->iy,wpAny_pyIter_tuple->ja,wpAny_mono->jg,wpAny_rule->jh,wpAny_attempt->jn,plainId_quiet->jo,wpAny_forIn_list->js,wpAny_typeNameOfWhole_keyiter->jt,wpAny_specialOf->j8
open List renaming getElem?_eq_getElem->ab,length_map->aj,getElem?_eq_some_iff->ak,mem_of_getElem?->am,mem_cons_self->au,mem_cons_of_mem->av,mem_cons->ax,size_toArray->az,take_of_length_le->a7,mem_singleton->ba,getElem?_map->be,append_assoc->bf,mem_map->bi,mem_append->bm,length_append->bo,map_map->bp,length_cons->bu,length_take->bx,mem_iff_getElem?->bz,getD_eq_getElem?_getD->cb,cons_lt_cons_iff->cf,append_nil->ck,map_append->cm,mem_append_right->cq,range->cx,take_append_drop->cz,getElem?_append_right->c9,pairwise_append->da,getElem_mem->df,getElem?_take_of_lt->dh,mem_of_mem_take->dq,mem_filter->dv,getElem?_drop->eu,map_cons->e9,map_congr_left->fc,mem_flatMap->fh,pairwise_iff_getElem->fj,pairwise_map->fk,pairwise_cons->fu,length_singleton->fw,mem_range->f7,getElem?_append_left->gd,length_range->gk,length_filter_le->gy,getElem?_of_mem->h9,take_add_one->ig,getElem?_eq_none->io,length_drop->iq,lookup_cons->ir,not_mem_nil->iu,length_nil->i7,drop_zero->jd,getElem?_zip_eq_some->je,mem_append_left->jf,range_succ->jk,length_eq_zero_iff->jq,zip_cons_cons->jw,nodup_cons->jy,getElem?_toArray->j9
open Bool renaming false_ne_true->ah,false_eq_true->a8,and_eq_true->cg,eq_iff_iff->fg,not_true->h7,or_eq_true->j5
open PySem.Heap renaming get?_push_of_some->ai,get?_push_size->ay,lt_size->a9,SameBut->bw,get?_update_self->ce,get?_update_other->cr,ExtBut->jp,size_push->ju
open Nat renaming le_refl->ao,ne_of_lt->cc,lt_of_lt_of_le->cj,min_eq_left->dg,zero_le->en,mod_eq_of_lt->gh,le_trans->gl,le_of_lt->ic,lt_irrefl->iw,lt_succ_of_lt->ji,lt_of_le_of_lt->jv,pow_succ->j7
open PySem.W renaming Frag->aq,mg_none_of->cw,nsIn->dz,kia_one->g9,KatTups->jj,fnOf->jz
open Array renaming length_toList->aw,getElem?_toList->a0,getElem?_eq_some_iff->bh,getElem?_eq_getElem->br,getElem?_eq_none->i8,perm_iff_toList_perm->i9,size_extract->jb
open PyProof.Rows renaming wpS_bind->a6,wpS_pure->bj,wpS_forRange->fx,slot_tuple_getitem->f9,callWith_type1->g8,wpS_mono->ij
open PySem.PyData renaming eqv->bn,depthAll->bv,eqvAll->cn,canLayAll0->gq,depth->gu
open PySem.Str renaming ofString->bq
open Int renaming toNat_natCast->b0,eq_ofNat_of_zero_le->db,le_refl->iz,zero_add->ka
open PySem.PassesOwn renaming never->b7
open PySem.Builtin.SmallTypes renaming nextOf->ci
open Option renaming map_eq_some_iff->cu,isSome_map->jl
open PySem.F renaming called_set->cv,plainAttrs_list->ff,slot_list_append->gv,type_list_append->gw,slot_tuple_hash->ii,slot_dict_keyiterator_next->ix,slot_str_ascii_iterator_next->jm,plain_max_loop->jr
open Option.some renaming inj->cy
open PySem.Heap.SameBut renaming update->c5
open PySem.Builtin.Tuple renaming tupleHashOf->dw
open PySem.Around renaming under_plainId->fq
open List.Pairwise renaming imp_of_mem->fv,sublist->fy
open PySem.Obj renaming mapSeq->gm,data_mapFields->jx
open List.Perm renaming append_left->gp,refl->jc
open PySem.SeqAt.ReadsAll renaming length->gr
open PySem.SetTable renaming insertAt->gt
open Classical renaming byContradiction->ik
namespace L3
structure Ord(lt:Nat->Nat->Bool):Prop where
 asy:∀a b,lt a b=true->lt b a=false
 tr:∀a b c,lt b a=false->lt c b=false->lt c a=false
noncomputable def insN(lt:Nat->Nat->Bool)(x:Nat):List Nat->List Nat
 | []=>[x]
 | y::l=>if lt y x=true then y::insN lt x l else x::y::l
noncomputable def srtL(lt:Nat->Nat->Bool):List Nat->List Nat
 | []=>[]
 | x::l=>insN lt x (srtL lt l)
noncomputable def srt(lt:Nat->Nat->Bool)(n:Nat):List Nat:=srtL lt (cx n)
theorem insN_perm(lt:Nat->Nat->Bool)(x:Nat):∀l,(insN lt x l).Perm (x::l)
 | []=>jc _
 | y::l=>by
  unfold insN
  split
  .exact((insN_perm lt x l).cons y).trans (List.Perm.swap x y l)
  .exact jc _
theorem srtL_perm(lt:Nat->Nat->Bool):∀l,(srtL lt l).Perm l
 | []=>jc _
 | x::l=>(insN_perm lt x _).trans ((srtL_perm lt l).cons x)
theorem srt_perm(lt:Nat->Nat->Bool)(n:Nat):(srt lt n).Perm (cx n):=srtL_perm lt _
theorem srt_length(lt:Nat->Nat->Bool)(n:Nat):(srt lt n).length=n:=by rw[(srt_perm lt n).length_eq,gk]
theorem Ord.irr{lt:Nat->Nat->Bool}(o:Ord lt)(a:Nat):lt a a=false:=by
 cases h:lt a a with
 | false=>rfl
 | true=>exact h.symm.trans (o.asy a a h)
theorem insN_up{lt:Nat->Nat->Bool}(o:Ord lt)(x:Nat):∀{l:List Nat},l.Pairwise (λa b=>lt b a=false)->(insN lt x l).Pairwise (λa b=>lt b a=false)
 | [],_=>by simp[insN]
 | y::l,h=>by
  have h':=fu.mp h
  unfold insN
  split
  .rename_i hy
   refine fu.mpr ⟨λz hz=>?_,insN_up o x h'.2⟩
   rcases ax.mp ((insN_perm lt x l).mem_iff.mp hz)with rfl|hz
   .exact o.asy _ _ hy
   .exact h'.1 z hz
  .rename_i hy
   have hy':lt y x=false:=by simpa using hy
   refine fu.mpr ⟨λz hz=>?_,h⟩
   rcases ax.mp hz with rfl|hz
   .exact hy'
   .exact o.tr _ _ _ hy' (h'.1 z hz)
theorem srtL_up{lt:Nat->Nat->Bool}(o:Ord lt):∀l,(srtL lt l).Pairwise (λa b=>lt b a=false)
 | []=>List.Pairwise.nil
 | x::l=>insN_up o x (srtL_up o l)
theorem srt_up{lt:Nat->Nat->Bool}(o:Ord lt)(n:Nat){i j:Nat}(h1:i<=j)(h2:j<n):lt ((srt lt n).getD j 0) ((srt lt n).getD i 0)=false:=by
 have hl:=srt_length lt n
 have hj:j<(srt lt n).length:=by omega
 have hi:i<(srt lt n).length:=by omega
 rw[cb,cb,ab hj,ab hi]
 show lt (srt lt n)[j] (srt lt n)[i]=false
 by_cases e:i=j
 .subst e;exact o.irr _
 .exact fj.mp (srtL_up o (cx n)) i j hi hj (by omega)
end L3
namespace L2
open PySem PySem.Spec PyProof.Rows
noncomputable abbrev Key:=Sum Int Str
noncomputable def keyIs:Key->Value->Bool
 | .inl k,v=>Value.isInt k v
 | .inr x,v=>Value.isStrOf x v
noncomputable def keyH(w:World):Key->Int
 | .inl k=>hashInt k
 | .inr x=>hashStr w x
theorem mq:∀{k:Key} {v:Value},keyIs k v=true->(∃i t,k=Sum.inl i/\v=Value.int i t)\/(∃x t,k=Sum.inr x/\v=Value.str x t)
 | .inl i,v,h=>by
  obtain⟨t,e⟩:=Value.isInt_shape (k:=i) (v:=v) h
  exact .inl ⟨i,t,rfl,e⟩
 | .inr x,v,h=>by
  obtain⟨t,e⟩:=Value.isStrOf_shape (x:=x) (v:=v) h
  exact .inr ⟨x,t,rfl,e⟩
theorem key_ll(a b:Int):decide ((Sum.inl a:Key)=Sum.inl b)=(a==b):=by
 by_cases e:a=b
 .subst e;simp
 .have h:¬(Sum.inl a:Key)=Sum.inl b:=λq=>e (Sum.inl.inj q)
  rw[decide_eq_false h]
  exact(beq_eq_false_iff_ne.mpr e).symm
theorem key_rr(a b:Str):decide ((Sum.inr a:Key)=Sum.inr b)=decide (a=b):=by
 by_cases e:a=b
 .subst e;simp
 .have h:¬(Sum.inr a:Key)=Sum.inr b:=λq=>e (Sum.inr.inj q)
  rw[decide_eq_false h,decide_eq_false e]
theorem key_lr(a:Int)(b:Str):decide ((Sum.inl a:Key)=Sum.inr b)=false:=decide_eq_false (λq=>nomatch q)
theorem key_rl(a:Str)(b:Int):decide ((Sum.inr a:Key)=Sum.inl b)=false:=decide_eq_false (λq=>nomatch q)
noncomputable def mixKind(prog:Program)(w:World):PySem.KeyKind prog w Key where
 is:=keyIs
 hash:=keyH w
 inj:=λv a b ha hb=>by
  rcases mq ha with ⟨i,t,rfl,rfl⟩|⟨x,t,rfl,rfl⟩
  .rcases mq hb with ⟨j,u,rfl,e⟩|⟨y,u,rfl,e⟩
   .injection e with e1 _;rw[e1]
   .exact nomatch e
  .rcases mq hb with ⟨j,u,rfl,e⟩|⟨y,u,rfl,e⟩
   .exact nomatch e
   .injection e with e1 _;rw[e1]
 byValue:=λk v h=>by
  rcases mq h with ⟨i,t,rfl,rfl⟩|⟨x,t,rfl,rfl⟩<;>rfl
 pyHash:=λhv h=>by
  rcases mq hv with ⟨i,t,rfl,rfl⟩|⟨x,t,rfl,rfl⟩
  .exact wpAny_pyHash_int h
  .exact wpAny_pyHash_str h
 eqBool:=λhu hv h=>by
  rcases mq hu with ⟨i,t,rfl,rfl⟩|⟨x,t,rfl,rfl⟩
  .rcases mq hv with ⟨j,u,rfl,rfl⟩|⟨y,u,rfl,rfl⟩
   .rw[key_ll]at h;exact wpAny_eqBool_int h
   .rw[key_lr]at h;exact SeqAt.EqAt.int_str i t y u _ _ _ _ h
  .rcases mq hv with ⟨j,u,rfl,rfl⟩|⟨y,u,rfl,rfl⟩
   .rw[key_rl]at h;exact SeqAt.EqAt.str_int x t j u _ _ _ _ h
   .rw[key_rr]at h;exact wpAny_eqBool_str h
 «strs»:=λk x t v h=>by
  rcases mq h with ⟨i,u,rfl,e⟩|⟨y,u,rfl,e⟩
  .exact nomatch e
  .injection e with e1 _
   subst e1
   cases v<;>rfl
end L2
namespace L2
open PySem PySem.Spec PyProof.Rows
inductive V where
 | non|bl (b:Bool)|int (i:Int)|str (x:Str)|byt (b:Array UInt8)|flt (b:UInt64)|ref (a:Addr)|ty (n:String)
 deriving DecidableEq
noncomputable def RelV:V->Value->Prop
 | .non,u=>u=Value.none
 | .bl b,u=>u=Value.bool b
 | .int i,u=>∃t,u=Value.int i t
 | .str x,u=>∃t,u=Value.str x t
 | .byt b,u=>∃t,u=Value.bytes b t
 | .flt b,u=>∃t,u=Value.float b t
 | .ref a,u=>u=Value.ref a
 | .ty n,u=>u=Value.type n
noncomputable abbrev Vals:List V->List Value->Prop:=Paired RelV
theorem Vals.length{xs:List V}{us:List Value}(r:Vals xs us):xs.length=us.length:=Paired.length r
theorem Vals.get:∀{xs:List V} {us:List Value} {i:Nat} {x:V},Vals xs us->xs[i]?=some x->∃u,us[i]?=some u/\RelV x u
 | _,_,_,_,.nil,e=>by simp at e
 | _,_,0,_,.cons r _,e=>by simp at e;subst e;exact⟨_,rfl,r⟩
 | _,_,i+1,x,.cons _ t,e=>by
  obtain⟨u,h1,h2⟩:=Vals.get (i:=i) (x:=x) t (by simpa using e)
  exact⟨u,by simpa using h1,h2⟩
theorem Vals.set{x:V}{u:Value}(r:RelV x u):∀{xs:List V} {us:List Value} (i:Nat),Vals xs us->Vals (xs.set i x) (us.set i u)
 | _,_,_,.nil=>.nil
 | _,_,0,.cons _ t=>.cons r t
 | _,_,i+1,.cons q t=>.cons q (Vals.set r i t)
theorem Vals.append:∀{xs ys:List V} {us ws:List Value},Vals xs us->Vals ys ws->Vals (xs++ys) (us++ws)
 | _,_,_,_,.nil,s=>s
 | _,_,_,_,.cons r t,s=>.cons r (Vals.append t s)
theorem Vals.take:∀{xs:List V} {us:List Value} (n:Nat),Vals xs us->Vals (xs.take n) (us.take n)
 | _,_,0,_=>.nil
 | _,_,_+1,.nil=>.nil
 | _,_,n+1,.cons r t=>.cons r (Vals.take n t)
theorem Vals.drop:∀{xs:List V} {us:List Value} (n:Nat),Vals xs us->Vals (xs.drop n) (us.drop n)
 | _,_,0,r=>r
 | _,_,_+1,.nil=>.nil
 | _,_,n+1,.cons _ t=>Vals.drop n t
noncomputable def RelO:Option V->Option Value->Prop
 | some v,some u=>RelV v u
 | none,none=>True
 | _,_=>False
noncomputable def KV{κ:Type}:List (κ×V)->List (κ×Value)->Prop:=Paired λ(p:κ×V) (q:κ×Value)=>p.1=q.1/\RelV p.2 q.2
noncomputable def kV:Key->V
 | .inl i=>.int i
 | .inr x=>.str x
inductive HO where
 | lst (xs:List V)
 | tup (xs:List V)
 | dK (kvs:List (Key×V))|dT (kvs:List (List Key×V))
 | set (S:Int->Bool) (n:Nat)
 | ins (C dx:Addr) (fs:List (Str×V))
 | own (x:Addr)
 | xd (fs:List (Str×V))
 | met (f x:Addr)
 | rng (lo hi:Int)
 | frz (o:Obj) (u:HO)
 | tbl (ps:Array Value)
 | ext (φ:Heap->Prop)
noncomputable abbrev Hp:=Addr->Option HO
noncomputable def upd(H:Hp)(a:Addr)(o:HO):Hp:=λb=>if b=a then some o else H b
theorem kh{H:Hp}{a:Addr}{o:HO}:upd H a o a=some o:=by unfold upd;rw[if_pos rfl]
theorem kv{H:Hp}{a b:Addr}{o:HO}(h:b≠a):upd H a o b=H b:=by unfold upd;rw[if_neg h]
theorem ne_of{H:Hp}{a b:Addr}{o u:HO}(h:H a=some o)(h':H b=some u)(d:o≠u):a≠b:=by
 intro e;subst e;rw[h]at h';exact d (cy h')
theorem lh{H:Hp}{a b:Addr}{o:HO}(h:H a=some o)(h':H b=none):a≠b:=by
 intro e;subst e;rw[h]at h';cases h'
section
variable(P:Program)(w:World)
noncomputable def ObjOk(H:Hp)(h:Heap)(a:Addr):HO->Prop
 | .lst xs=>xs.length<=sizeLine/\∃(its:List Value) (n:Nat),Vals xs its/\h.get? a=some {cls:=.type "list",data:=.seq its.toArray n}
 | .tup xs=>xs.length<=sizeLine/\∃its:List Value,Vals xs its/\IsTup h a its.toArray
 | .dK kvs=>kvs.length<=sizeLine/\(a==sysModules)=false/\∃vs,KV kvs vs/\h.DictOf (mixKind P w) a vs
 | .dT kvs=>kvs.length<=sizeLine/\(a==sysModules)=false/\∃xs:List (List Key×Addr×Value),
   Paired (λ(p:List Key×V) (q:List Key×Addr×Value)=>p.1=q.1/\H q.2.1=some (.tup (p.1.map kV))/\RelV p.2 q.2.2) kvs xs/\
   ∃o es ep,h.get? a=some o/\o.ExactDict/\o.data=.dict es ep/\es.toList=xs.map (entryOfKey (tupleKind (mixKind P w)))/\(xs.map (·.1)).Nodup
 | .set S n=>h.SetOf (intKind P w) a S n
 | .ins C dx fs=>H dx=some (.own a)/\fs.length<=1000/\dx≠a/\h.get? a=some (PySem.W.instObj C dx)/\
   ∃mA,h.Ns1 dx mA/\(∀f,RelO (fs.lookup f) (mA f))/\PySem.Within mA (fs.map (·.1))
 | .own _=>∃o,h.get? a=some o
 | .xd fs=>∃mA,h.Ns1 a mA/\∀f,RelO (fs.lookup f) (mA f)
 | .rng lo hi=>∃t u v,h.get? a=some {cls:=.type "range",data:=.fields #[.int lo t,.int hi u,.int 1 v]}
 | .frz o u=>h.get? a=some o/\ObjOk H h a u
 | .tbl ps=>h.get? a=some {cls:=.none,data:=.fields ps}
 | .met f x=>h.get? a=some (PySem.W.methodObj (.ref f) (.ref x))
 | .ext φ=>φ h/\(∃o,h.get? a=some o)/\∀h1 h2:Heap,φ h1->(∀o,h1.get? a=some o->h2.get? a=some o)->φ h2
noncomputable def HOk(H:Hp)(h:Heap):Prop:=∀a o,H a=some o->ObjOk P w H h a o
end
section
variable{P:Program}{w:World}{H H':Hp}{h h':Heap}{a:Addr}{o:HO}
theorem ObjOk.lt(x:ObjOk P w H h a o):a<h.objs.size:=by
 cases o with
 | lst xs=>obtain⟨_,_,_,_,e⟩:=x;exact a9 e
 | tup xs=>obtain⟨_,_,_,p⟩:=x;exact p.lt
 | dK kvs=>obtain⟨_,_,_,_,o,_,_,e,_⟩:=x;exact a9 e
 | dT kvs=>obtain⟨_,_,_,_,o,_,_,e,_⟩:=x;exact a9 e
 | set S n=>obtain⟨o,_,_,_,e,_⟩:=x;exact a9 e
 | ins C dx fs=>obtain⟨_,_,_,e,_⟩:=x;exact a9 e
 | own y=>obtain⟨_,e⟩:=x;exact a9 e
 | xd fs=>obtain⟨_,⟨_,_,_,e,_⟩,_⟩:=x;exact a9 e
 | rng lo hi=>obtain⟨_,_,_,e⟩:=x;exact a9 e
 | frz ob u=>obtain⟨e,_⟩:=x;exact a9 e
 | tbl ps=>exact a9 (show h.get? a=some _ from x)
 | met f y=>exact a9 (show h.get? a=some _ from x)
 | ext φ=>obtain⟨_,⟨_,e⟩,_⟩:=x;exact a9 e
theorem Paired.mapP{α β:Type}{F G:α->β->Prop}:∀{l₁:List α} {l₂:List β},Paired F l₁ l₂->(∀a b,F a b->G a b)->Paired G l₁ l₂
 | _,_,.nil,_=>.nil
 | _,_,.cons r t,f=>.cons (f _ _ r) (Paired.mapP t f)
theorem ObjOk.stay(x:ObjOk P w H h a o)(k:∀b u,(b=a\/H b=some (.own a))->h.get? b=some u->h'.get? b=some u)
  (ho:∀b,H b=some (.own a)->H' b=some (.own a)) (ht:∀b xs,H b=some (.tup xs)->H' b=some (.tup xs)):ObjOk P w H' h' a o:=by
 induction o with
 | lst xs=>obtain⟨z,its,n,r,e⟩:=x;exact⟨z,its,n,r,k _ _ (.inl rfl) e⟩
 | tup xs=>obtain⟨z,its,r,ob,e,c⟩:=x;exact⟨z,its,r,ob,k _ _ (.inl rfl) e,c⟩
 | dK kvs=>obtain⟨z,y,vs,r,ob,es,ep,e,c⟩:=x;exact⟨z,y,vs,r,ob,es,ep,k _ _ (.inl rfl) e,c⟩
 | dT kvs=>
  obtain⟨z,y,xs,r,ob,es,ep,e,c⟩:=x
  exact⟨z,y,xs,Paired.mapP r λp q z=>⟨z.1,ht _ _ z.2.1,z.2.2⟩,ob,es,ep,k _ _ (.inl rfl) e,c⟩
 | set S n=>obtain⟨ob,es,ep,t,e,c⟩:=x;exact⟨ob,es,ep,t,k _ _ (.inl rfl) e,c⟩
 | ins C dx fs=>
  obtain⟨d,z,ne,e,mA,⟨od,es,ep,e2,c⟩,r⟩:=x
  exact⟨ho _ d,z,ne,k _ _ (.inl rfl) e,mA,⟨od,es,ep,k _ _ (.inr d) e2,c⟩,r⟩
 | own y=>obtain⟨ob,e⟩:=x;exact⟨ob,k _ _ (.inl rfl) e⟩
 | xd fs=>obtain⟨mA,⟨od,es,ep,e,c⟩,r⟩:=x;exact⟨mA,⟨od,es,ep,k _ _ (.inl rfl) e,c⟩,r⟩
 | rng lo hi=>obtain⟨t,u,v,e⟩:=x;exact⟨t,u,v,k _ _ (.inl rfl) e⟩
 | frz ob u ih=>obtain⟨e,q⟩:=x;exact⟨k _ _ (.inl rfl) e,ih q⟩
 | tbl ps=>
  have e:h.get? a=some {cls:=.none,data:=.fields ps}:=x
  show h'.get? a=some {cls:=.none,data:=.fields ps}
  exact k a _ (.inl rfl) e
 | met f y=>
  have e:h.get? a=some (PySem.W.methodObj (.ref f) (.ref y)):=x
  show h'.get? a=some (PySem.W.methodObj (.ref f) (.ref y))
  exact k a _ (.inl rfl) e
 | ext φ=>obtain⟨p,⟨o,e⟩,st⟩:=x;exact⟨st _ _ p λo q=>k _ _ (.inl rfl) q,⟨o,k _ _ (.inl rfl) e⟩,st⟩
theorem HOk.lt(x:HOk P w H h)(e:H a=some o):a<h.objs.size:=(x a o e).lt
theorem HOk.fresh(x:HOk P w H h)(e:h.objs.size<=a):H a=none:=by
 cases q:H a with
 | none=>rfl
 | some u=>exact absurd (cj (x.lt q) e) (iw _)
theorem HOk.kept(x:HOk P w H h)(k:∀b u,h.get? b=some u->h'.get? b=some u):HOk P w H h':=λa o e=>
 (x a o e).stay (λb u _ q=>k b u q) (λ_ q=>q) λ_ _ q=>q
theorem HOk.laid(x:HOk P w H h)(k:∀b u,h.get? b=some u->h'.get? b=some u)(hp:h.objs.size<=a)(new:ObjOk P w (upd H a o) h' a o):HOk P w (upd H a o) h':=λb u e=>by
 have hn:=x.fresh hp
 by_cases hb:b=a
 .subst hb;rw[kh]at e;cases e;exact new
 .rw[kv hb]at e
  exact(x b u e).stay (λc v _ q=>k c v q) (λc q=>by rw[kv (lh q hn)];exact q) λc xs q=>by rw[kv (lh q hn)];exact q
end
noncomputable def Rd(H:Hp)(a:Addr)(u:HO):Prop:=H a=some u\/∃o,H a=some (.frz o u)
theorem Rd.ok{P:Program}{w:World}{H:Hp}{h:Heap}{a:Addr}{u:HO}(r:Rd H a u)(x:HOk P w H h):ObjOk P w H h a u:=by
 rcases r with r|⟨o,r⟩
 .exact x a u r
 .obtain⟨_,q⟩:=x a _ r
  exact q
noncomputable def Mut:Option HO->Prop
 | some (.lst _)=>True
 | some (.dK _)=>True
 | some (.dT _)=>True
 | some (.set _ _)=>True
 | some (.ins _ _ _)=>True
 | some (.ext _)=>True
 | _=>False
section
variable{P:Program}{w:World}{H:Hp}{h h':Heap}{x e:Addr}{o':HO}
theorem HOk.write(ok:HOk P w H h)(mu:Mut (H x))(he:e=x\/H e=some (.own x))(k:∀b u,b≠e->h.get? b=some u->h'.get? b=some u)(heo:∃u,h'.get? e=some u)
  (new:ObjOk P w (upd H x o') h' x o'):HOk P w (upd H x o') h':=λb u q=>by
 have nown:∀c y,H c=some (.own y)->c≠x:=λc y r z=>by subst z;rw[r]at mu;exact mu
 have ntup:∀c xs,H c=some (.tup xs)->c≠x:=λc xs r z=>by subst z;rw[r]at mu;exact mu
 by_cases hb:b=x
 .subst hb;rw[kh]at q;cases q;exact new
 .rw[kv hb]at q
  by_cases hbe:b=e
  .have q':H b=some (.own x):=by
    rcases he with z|z
    .exact absurd (hbe.trans z) hb
    .rw[hbe];exact z
   rw[q]at q';cases q'
   obtain⟨v,hv⟩:=heo
   exact⟨v,by rw[hbe];exact hv⟩
  .refine(ok b u q).stay (λc v hc r=>k c v ?_ r) (λc r=>by rw[kv (nown c b r)];exact r) λc xs r=>by rw[kv (ntup c xs r)];exact r
   rcases hc with rfl|hc
   .exact hbe
   .rintro rfl
    rcases he with z|z
    .exact nown c b hc z
    .rw[hc]at z;cases z;exact hb rfl
end
structure Un(fs ex:List Addr)(H H':Hp)(h h':Heap):Prop where
 keep:∀b o,h.get? b=some o->H b=none->b∉fs->b∉ex->h'.get? b=some o
 slot:∀b o,h.get? b=some o->H b=none->b∈fs->b∉ex->∃sl,h'.get? b=some {o with slots:=sl}
 free:∀b o,h.get? b=some o->H b=none->b∉ex->H' b=none
 there:∀b o,h.get? b=some o->b∉ex->∃o',h'.get? b=some o'
 tups:∀b xs,H b=some (.tup xs)->H' b=some (.tup xs)
 frzs:∀b o u,H b=some (.frz o u)->H' b=some (.frz o u)
 tbls:∀b ps,H b=some (.tbl ps)->∃more,H' b=some (.tbl (ps++more))
section
variable{fs fs' ex ex':List Addr}{H H1 H2:Hp}{h h1 h2 h':Heap}{a x e:Addr}{o:HO}
theorem Un.any(u:Un fs ex H H1 h h1){b:Addr}{ob:Obj}(q:h.get? b=some ob)(n:H b=none)(hx:b∉ex):∃sl,h1.get? b=some {ob with slots:=sl}:=by
 by_cases hb:b∈fs
 .exact u.slot b ob q n hb hx
 .exact⟨ob.slots,u.keep b ob q n hb hx⟩
theorem Un.kept(k:∀b u,h.get? b=some u->h'.get? b=some u):Un fs ex H H h h':=
 ⟨λb ob q _ _ _=>k b ob q,λb ob q _ _ _=>⟨ob.slots,k b ob q⟩,λ_ _ _ n _=>n,λb ob q _=>⟨ob,k b ob q⟩,λ_ _ q=>q,λ_ _ _ q=>q,λ_ ps q=>⟨#[],by rw[q];simp⟩⟩
theorem Un.refl:Un fs ex H H h h:=Un.kept λ_ _ q=>q
theorem Un.laid(k:∀b u,h.get? b=some u->h'.get? b=some u)(hp:h.objs.size<=a)(hn:H a=none):Un fs ex H (upd H a o) h h' where
 keep:=λb u q _ _ _=>k b u q
 slot:=λb u q _ _ _=>⟨u.slots,k b u q⟩
 free:=λb u q n _=>by rw[kv (cc (cj (a9 q) hp))];exact n
 there:=λb u q _=>⟨u,k b u q⟩
 tups:=λb xs q=>by rw[kv (lh q hn)];exact q
 frzs:=λb u xs q=>by rw[kv (lh q hn)];exact q
 tbls:=λb ps q=>⟨#[],by rw[kv (lh q hn),q];simp⟩
theorem Un.write(mu:Mut (H x))(he:e=x\/H e=some (.own x))(k:∀b u,b≠e->h.get? b=some u->h'.get? b=some u)(heo:∃u,h'.get? e=some u):Un fs ex H (upd H x o) h h':=by
 have hx:∀b,H b=none->b≠x:=λb n z=>by subst z;rw[n]at mu;exact mu
 have hb:∀b,H b=none->b≠e:=λb n z=>by
  subst z
  rcases he with r|r
  .exact hx b n r
  .rw[n]at r;cases r
 have hm:∀b u,H b=some u->¬Mut (some u)->b≠x:=λb u q nm z=>by subst z;rw[q]at mu;exact nm mu
 refine⟨λb u q n _ _=>k b u (hb b n) q,λb u q n _ _=>⟨u.slots,k b u (hb b n) q⟩,λb u q n _=>by rw[kv (hx b n)];exact n,λb u q _=>?_,
  λb xs q=>by rw[kv (hm b _ q λz=>z)];exact q,λb u xs q=>by rw[kv (hm b _ q λz=>z)];exact q,λb ps q=>⟨#[],by rw[kv (hm b _ q λz=>z),q];simp⟩⟩
 by_cases hbe:b=e
 .subst hbe;exact heo
 .exact⟨u,k b u hbe q⟩
end
noncomputable def trk(h:Heap)(H:Hp):List Addr:=(cx h.objs.size).filter λa=>(H a).isSome
noncomputable def hidT(h:Heap)(H:Hp):Heap:=PySem.W.hideAll h (trk h H)
theorem hidT_size(h:Heap)(H:Hp):(hidT h H).objs.size=h.objs.size:=PySem.W.hideAll_size _ _
theorem hidT_get{h:Heap}{H:Hp}{b:Addr}{o:Obj}(e:h.get? b=some o)(n:H b=none):(hidT h H).get? b=some o:=
 PySem.W.hideAll_get _ e λhm=>by
  have q:(H b).isSome=true:=(dv.mp hm).2
  rw[n]at q;simp at q
theorem of_hidT{h:Heap}{H:Hp}{b:Addr}{o:Obj}(e:(hidT h H).get? b=some o):h.get? b=some o/\H b=none:=by
 have e':h.get? b=some o:=PySem.W.of_hideAll (trk h H) e
 refine⟨e',?_⟩
 cases q:H b with
 | none=>rfl
 | some x=>
  have hm:b∈trk h H:=dv.mpr ⟨f7.mpr (a9 e'),by simp[q]⟩
  have z:(hidT h H).get? b=none:=PySem.W.hideAll_none (trk h H) hm
  rw[z]at e;cases e
end L2
namespace L2
open PySem PySem.Spec PyProof.Rows
structure Mod(K:aq)(mg:Str->Option Value)(base:Heap):Prop where
 kin:K.In base
 glob:base.Ns mainGlobals mg
 blt:∃mb,base.Ns builtinsNs mb/\∀x:Str,x≠"__name__"->mb x=bootBuiltins x
 nolimit:base.NoLimit
structure Cx where
 prog:Program
 w:World
 K:aq
 mg:Str->Option Value
 base:Heap
 A:Around
 N:List Str
 s₀:Shared
 H₀:Hp
 env:Env
 outer:List Env
 stack:List Env
 ex:List Addr
 fn:Str->Bool
 calm:Bool
 pn:List (Addr×Obj)
 xe:Value->Shared->Prop
noncomputable def frs(l:List Env):List Addr:=l.filterMap (·.frame)
noncomputable abbrev Cx.fs(X:Cx):List Addr:=frs X.outer
noncomputable def Vis(sc:Scope)(x:Str):Prop:=sc.names.lookup x=some .local\/sc.names.lookup x=some .cell\/sc.names.lookup x=some .free
noncomputable def Loc(sc:Scope)(x:Str):Prop:=sc.names.lookup x=some .local\/sc.names.lookup x=some .cell
noncomputable def Look(env:Env)(h:Heap)(m:Str->Option Value)(x:Str)(u:Value):Prop:=
 (env.kindOf x=some .local/\m x=some u)\/((env.kindOf x=some .cell\/env.kindOf x=some .free)/\∃c,env.cells.lookup x=some c/\h.IsCell c (some u))
structure Cx.Ok(X:Cx):Prop where
 mod:Mod X.K X.mg X.base
 kind:X.env.scope.kind=.function
 glob:X.env.globals=mainGlobals
 blt:X.env.builtins=builtinsNs
 above:X.s₀.heap.objs.size<=X.env.locals
 inj:∀x y c,X.env.cells.lookup x=some c->X.env.cells.lookup y=some c->x=y
 has:∀x,(X.env.kindOf x=some .cell\/X.env.kindOf x=some .free)->∃c,X.env.cells.lookup x=some c
 cab:∀x c,X.fn x=true->X.env.cells.lookup x=some c->X.s₀.heap.objs.size<=c
 hd:X.calm=true->X.A.handled=none
 frames:X.A.frames=some X.stack
 stk:X.stack=X.outer\/(X.stack=X.env::X.outer/\X.env.frame=some X.env.locals)
 exf:∀b∈X.ex,b≠X.env.locals/\∀x c,X.env.cells.lookup x=some c->c≠b
 bs:∀b o,X.base.get? b=some o->X.s₀.heap.get? b=some o/\X.H₀ b=none
 bsz:X.base.objs.size<=X.s₀.heap.objs.size
 noex:∀b o,X.base.get? b=some o->b∉X.ex
 exfs:∀b∈X.ex,b∉X.fs
 funs:X.s₀.heap.FunFrames X.base X.outer
 frf:∀b∈X.fs,X.H₀ b=none
structure Inv(X:Cx)(pins:List (Addr×Obj))(σ:List (Option V))(H:Hp)(s:Shared):Prop where
 ok:X.Ok
 os:s.os=X.s₀.os
 bare:AllBare s.gens
 base:Un X.fs X.ex X.H₀ H X.s₀.heap s.heap
 loc:∃m,s.heap.Ns X.env.locals m/\∀(i:Nat) (x:Str) (v:V),X.N[i]?=some x->σ[i]?=some (some v)->Vis X.env.scope x->∃u,RelV v u/\Look X.env s.heap m x u
 cell:∀x c,X.env.cells.lookup x=some c->∃v,s.heap.IsCell c v
 free:H X.env.locals=none
 freeC:∀x c,X.env.cells.lookup x=some c->H c=none
 pin:∀p∈X.pn++pins,s.heap.get? p.1=some p.2/\H p.1=none/\p.1≠X.env.locals/\p.1∉X.fs/\∀v,p.2.data≠.cell v
 hok:HOk X.prog X.w H s.heap
 len:σ.length=X.N.length
section
variable{X:Cx}{pins:List (Addr×Obj)}{σ:List (Option V)}{H H':Hp}{s:Shared}{h':Heap}
theorem Cx.Ok.nofr(ok:X.Ok){b:Addr}{o:Obj}(e:X.base.get? b=some o):b∉X.fs:=λhb=>by
 have:=(ok.funs.mem hb).1
 rw[e]at this;cases this
theorem Inv.bs(I:Inv X pins σ H s):∀b o,X.base.get? b=some o->s.heap.get? b=some o/\H b=none:=λb o e=>
 ⟨I.base.keep b o (I.ok.bs b o e).1 (I.ok.bs b o e).2 (I.ok.nofr e) (I.ok.noex b o e),I.base.free b o (I.ok.bs b o e).1 (I.ok.bs b o e).2 (I.ok.noex b o e)⟩
theorem Inv.bk(I:Inv X pins σ H s):∀b o,X.base.get? b=some o->s.heap.get? b=some o:=λb o e=>(I.bs b o e).1
theorem Inv.mod(I:Inv X pins σ H s):Mod X.K X.mg X.base:=I.ok.mod
theorem Inv.kIn(I:Inv X pins σ H s):X.K.In s.heap:=I.ok.mod.kin.keeps I.bk
theorem Inv.lt(I:Inv X pins σ H s):X.env.locals<s.heap.objs.size:=let ⟨_,hn,_⟩:=I.loc;hn.lt
theorem Inv.sz(I:Inv X pins σ H s):X.s₀.heap.objs.size<=s.heap.objs.size:=gl I.ok.above (ic I.lt)
theorem Inv.nofs(I:Inv X pins σ H s){a:Addr}(h:s.heap.objs.size<=a):a∉X.fs:=λhb=>by
 obtain⟨_,o,ho,_⟩:=I.ok.funs.mem hb
 exact absurd (cj (a9 ho) (gl I.sz h)) (iw _)
theorem Inv.cne(I:Inv X pins σ H s):∀x c,X.env.cells.lookup x=some c->c≠X.env.locals:=λx c e z=>by
 obtain⟨v,o,ho,hd⟩:=I.cell x c e
 obtain⟨m,⟨o',es,ep,ho',hd',_⟩,_⟩:=I.loc
 rw[z,ho']at ho;cases ho;rw[hd']at hd;cases hd
theorem Inv.funs(I:Inv X pins σ H s):s.heap.FunFrames X.base X.outer:=by
 have all:∀(l:List Env),(∀b∈frs l,b∈X.fs)->X.s₀.heap.FunFrames X.base l->s.heap.FunFrames X.base l:=by
  intro l
  induction l with
  | nil=>intro _ _;trivial
  | cons env r ih=>
   intro hs hl
   obtain⟨hk,⟨L,o,hf,hn,ho,hd⟩,hr⟩:=hl
   have hL:L∈X.fs:=hs L (by unfold frs;rw[List.filterMap_cons,hf];exact au)
   obtain⟨sl,e⟩:=I.base.slot L o ho (I.ok.frf L hL) hL λz=>I.ok.exfs L z hL
   exact⟨hk,⟨L,_,hf,hn,e,hd⟩,ih (λb hb=>hs b (by unfold frs;rw[List.filterMap_cons,hf];exact av _ hb)) hr⟩
 exact all X.outer (λ_ hb=>hb) I.ok.funs
theorem Inv.stack(I:Inv X pins σ H s):s.heap.FunFrames X.base X.stack:=by
 rcases I.ok.stk with e|⟨e,hf⟩
 .rw[e];exact I.funs
 .rw[e]
  obtain⟨m,hn,_⟩:=I.loc
  refine .cons (by rw[I.ok.kind];decide) hf hn ?_ I.funs
  exact Heap.get?_none_of_le (gl I.ok.bsz I.ok.above)
theorem Inv.stkSub(I:Inv X pins σ H s):∀b∈frs X.stack,b∈X.env.locals::X.fs:=λb hb=>by
 rcases I.ok.stk with e|⟨e,hf⟩
 .rw[e]at hb;exact av _ hb
 .rw[e]at hb
  unfold frs at hb
  rw[List.filterMap_cons,hf]at hb
  exact hb
theorem Inv.stkFree(I:Inv X pins σ H s):∀b∈frs X.stack,H b=none:=λb hb=>by
 rcases ax.mp (I.stkSub b hb)with e|hb
 .rw[e];exact I.free
 .obtain⟨_,o,ho,_⟩:=I.ok.funs.mem hb
  exact I.base.free b o ho (I.ok.frf b hb) λz=>I.ok.exfs b z hb
theorem Inv.step{g':Array GenState}{t':Nat}{d':Drawn}{ch:List Addr}(I:Inv X pins σ H s)
  (hch:∀b∈ch,(b∈X.ex\/X.s₀.heap.objs.size<=b)/\b≠X.env.locals/\(∀x c,X.env.cells.lookup x=some c->c≠b)/\∀p∈X.pn++pins,p.1≠b)
  (keep:∀b o,b≠X.env.locals->b∉X.fs->b∉ch->s.heap.get? b=some o->H b=none->h'.get? b=some o)
  (slot:∀b o,b≠X.env.locals->b∈X.fs->b∉ch->s.heap.get? b=some o->H b=none->∃sl,h'.get? b=some {o with slots:=sl}) (free:∀b o,b∉ch->s.heap.get? b=some o->H b=none->H' b=none)
  (there:∀b o,b∉ch->s.heap.get? b=some o->∃o',h'.get? b=some o')
  (tups:∀b xs,H b=some (.tup xs)->H' b=some (.tup xs)) (frzs:∀b o u,H b=some (.frz o u)->H' b=some (.frz o u)) (tbls:∀b ps,H b=some (.tbl ps)->∃more,H' b=some (.tbl (ps++more)))
  (ns:∀m,s.heap.Ns X.env.locals m->h'.Ns X.env.locals m) (hok:HOk X.prog X.w H' h') (hg:AllBare g') :
  Inv X pins σ H' {s with heap:=h',gens:=g',drawn:=d',toks:=t'}:=by
 have neL:∀b o,X.s₀.heap.get? b=some o->b≠X.env.locals:=λb o e=>cc (cj (a9 e) I.ok.above)
 have neC:∀b o,X.s₀.heap.get? b=some o->b∉X.ex->b∉ch:=λb o e hx hb=>by
  rcases(hch b hb).1 with z|z
  .exact hx z
  .exact absurd (cj (a9 e) z) (iw _)
 have cellK:∀x c,X.env.cells.lookup x=some c->∀v,s.heap.IsCell c v->h'.IsCell c v:=λx c e v ⟨o,ho,hd⟩=>by
  have nch:c∉ch:=λz=>(hch c z).2.2.1 x c e rfl
  by_cases hc:c∈X.fs
  .obtain⟨sl,q⟩:=slot c o (I.cne x c e) hc nch ho (I.freeC x c e)
   exact⟨_,q,hd⟩
  .exact⟨o,keep c o (I.cne x c e) hc nch ho (I.freeC x c e),hd⟩
 refine⟨I.ok,I.os,hg,⟨λb o e n hb hx=>?_,λb o e n hb hx=>?_,λb o e n hx=>?_,λb o e hx=>?_,λb xs e=>tups b xs (I.base.tups b xs e),λb o xs e=>frzs b o xs (I.base.frzs b o xs e),λb ps e=>?_⟩,?_,λx c e=>?_,?_,λx c e=>?_,λp hp=>?_,hok,I.len⟩
 .exact keep b o (neL b o e) hb (neC b o e hx) (I.base.keep b o e n hb hx) (I.base.free b o e n hx)
 .obtain⟨sl,e1⟩:=I.base.slot b o e n hb hx
  obtain⟨sl',e2⟩:=slot b _ (neL b o e) hb (neC b o e hx) e1 (I.base.free b o e n hx)
  exact⟨sl',e2⟩
 .obtain⟨o',e1⟩:=I.base.there b o e hx
  exact free b o' (neC b o e hx) e1 (I.base.free b o e n hx)
 .obtain⟨o',e1⟩:=I.base.there b o e hx
  exact there b o' (neC b o e hx) e1
 .obtain⟨m1,e1⟩:=I.base.tbls b ps e
  obtain⟨m2,e2⟩:=tbls b _ e1
  exact⟨m1++m2,by rw[e2,Array.append_assoc]⟩
 .obtain⟨m,hn,hl⟩:=I.loc
  refine⟨m,ns m hn,λi x v e1 e2 e3=>?_⟩
  obtain⟨u,r,l⟩:=hl i x v e1 e2 e3
  refine⟨u,r,?_⟩
  rcases l with l|⟨k,c,e,z⟩
  .exact .inl l
  .exact .inr ⟨k,c,e,cellK x c e _ z⟩
 .obtain⟨v,z⟩:=I.cell x c e
  exact⟨v,cellK x c e v z⟩
 .obtain⟨m,⟨o,_,_,ho,_⟩,_⟩:=I.loc
  exact free _ o (λz=>(hch _ z).2.1 rfl) ho I.free
 .obtain⟨v,o,ho,hd⟩:=I.cell x c e
  exact free c o (λz=>(hch c z).2.2.1 x c e rfl) ho (I.freeC x c e)
 .obtain⟨e,n,ne,nf,d⟩:=I.pin p hp
  have nch:p.1∉ch:=λz=>(hch p.1 z).2.2.2 p hp rfl
  exact⟨keep p.1 p.2 ne nf nch e n,free p.1 p.2 nch e n,ne,nf,d⟩
theorem Inv.un{t':Nat}(I:Inv X pins σ H s)(u:Un X.fs [] H H' s.heap h')(hok:HOk X.prog X.w H' h'):Inv X pins σ H' {s with heap:=h',toks:=t'}:=by
 obtain⟨m,⟨o,es,ep,ho,r⟩,_⟩:=id I.loc
 obtain⟨sl,hL⟩:=u.any ho I.free (by simp)
 exact I.step (g':=s.gens) (d':=s.drawn) (ch:=[]) (λ_ z=>nomatch z) (λb o _ hb _ e n=>u.keep b o e n hb (by simp)) (λb o _ hb _ e n=>u.slot b o e n hb (by simp)) (λb o _ e n=>u.free b o e n (by simp)) (λb o _ e=>u.there b o e (by simp)) u.tups u.frzs u.tbls (λm' hm=>by
  obtain⟨o',es',ep',ho',r'⟩:=hm
  rw[ho]at ho';cases ho'
  exact⟨_,es',ep',hL,r'⟩) hok I.bare
theorem Inv.call{g':Array GenState}{t':Nat}{d':Drawn}{ch:List Addr}(I:Inv X pins σ H s)(u:Un (frs X.stack) ch H H' s.heap h')(hok:HOk X.prog X.w H' h')(hg:AllBare g')
  (hch:∀b∈ch,(b∈X.ex\/X.s₀.heap.objs.size<=b)/\b≠X.env.locals/\(∀x c,X.env.cells.lookup x=some c->c≠b)/\∀p∈X.pn++pins,p.1≠b) :
  Inv X pins σ H' {s with heap:=h',gens:=g',drawn:=d',toks:=t'}:=by
 obtain⟨m,⟨o,es,ep,ho,r⟩,_⟩:=id I.loc
 obtain⟨sl,hL⟩:=u.any ho I.free λz=>(hch _ z).2.1 rfl
 exact I.step (ch:=ch) hch (λb o hL hb hc e n=>u.keep b o e n (λz=>(ax.mp (I.stkSub b z)).elim hL hb) hc) (λb o _ _ hc e n=>u.any e n hc) (λb o hc e n=>u.free b o e n hc) (λb o hc e=>u.there b o e hc) u.tups u.frzs u.tbls (λm' hm=>by
  obtain⟨o',es',ep',ho',r'⟩:=hm
  rw[ho]at ho';cases ho'
  exact⟨_,es',ep',hL,r'⟩) hok hg
theorem Inv.turned{t':Nat}{it:Addr}(I:Inv X pins σ H s)(k:∀b o,b≠it->s.heap.get? b=some o->h'.get? b=some o)(hn:H it=none)(hL:it≠X.env.locals)
  (h1:it∈X.ex\/X.s₀.heap.objs.size<=it) (h2:∀x c,X.env.cells.lookup x=some c->c≠it) (h3:∀p∈X.pn++pins,p.1≠it):Inv X pins σ H {s with heap:=h',toks:=t'}:=by
 have nit:∀b u,H b=some u->b≠it:=λb u e z=>by rw[z,hn]at e;cases e
 refine I.step (g':=s.gens) (d':=s.drawn) (ch:=[it]) (λb hb=>?_) (λb o _ _ hc e _=>k b o (λz=>hc (by simp[z])) e) (λb o _ _ hc e _=>⟨o.slots,k b o (λz=>hc (by simp[z])) e⟩) (λ_ _ _ _ n=>n)
  (λb o hc e=>⟨o,k b o (λz=>hc (by simp[z])) e⟩) (λ_ _ e=>e) (λ_ _ _ e=>e) (λb ps e=>⟨#[],by rw[e];simp⟩) (λm hm=>?_) (λb u e=>?_) I.bare
 .have e:b=it:=by simpa using hb
  subst e
  exact⟨h1,hL,h2,h3⟩
 .obtain⟨o,es,ep,ho,r⟩:=hm
  exact⟨o,es,ep,k _ o (Ne.symm hL) ho,r⟩
 .refine(I.hok b u e).stay (λc v hc q=>k c v ?_ q) (λ_ q=>q) λ_ _ q=>q
  rcases hc with z|z
  .rw[z];exact nit b u e
  .exact nit c _ z
theorem Inv.tok(I:Inv X pins σ H s)(t:Nat):Inv X pins σ H {s with toks:=t}:=I.un (h':=s.heap) (t':=t) Un.refl I.hok
theorem Inv.kept{t':Nat}(I:Inv X pins σ H s)(k:∀b u,s.heap.get? b=some u->h'.get? b=some u):Inv X pins σ H {s with heap:=h',toks:=t'}:=I.un (Un.kept k) (I.hok.kept k)
theorem Inv.laid{a:Addr}{o:HO}{t':Nat}(I:Inv X pins σ H s)(k:∀b u,s.heap.get? b=some u->h'.get? b=some u)(hp:s.heap.objs.size<=a)(new:ObjOk X.prog X.w (upd H a o) h' a o) :
  Inv X pins σ (upd H a o) {s with heap:=h',toks:=t'}:=I.un (Un.laid k hp (I.hok.fresh hp)) (I.hok.laid k hp new)
theorem Inv.write{x e:Addr}{o:HO}{t':Nat}(I:Inv X pins σ H s)(mu:Mut (H x))(he:e=x\/H e=some (.own x))(k:∀b u,b≠e->s.heap.get? b=some u->h'.get? b=some u)(heo:∃u,h'.get? e=some u)
  (new:ObjOk X.prog X.w (upd H x o) h' x o):Inv X pins σ (upd H x o) {s with heap:=h',toks:=t'}:=I.un (Un.write mu he k heo) (I.hok.write mu he k heo new)
theorem Inv.weak{σ':List (Option V)}(I:Inv X pins σ H s)(hl:σ'.length=σ.length)(w:∀(i:Nat) v,σ'[i]?=some (some v)->σ[i]?=some (some v)):Inv X pins σ' H s:=
 ⟨I.ok,I.os,I.bare,I.base,let ⟨m,hn,hl'⟩:=I.loc;⟨m,hn,λi x v e1 e2 e3=>hl' i x v e1 (w i v e2) e3⟩,I.cell,I.free,I.freeC,I.pin,I.hok,hl.trans I.len⟩
theorem Inv.pins_of{pins':List (Addr×Obj)}(I:Inv X pins σ H s)(h:∀p∈pins',s.heap.get? p.1=some p.2/\H p.1=none/\p.1≠X.env.locals/\p.1∉X.fs/\∀v,p.2.data≠.cell v):Inv X pins' σ H s:=
 ⟨I.ok,I.os,I.bare,I.base,I.loc,I.cell,I.free,I.freeC,λp hp=>(bm.mp hp).elim (λz=>I.pin p (jf _ z)) (h p),I.hok,I.len⟩
theorem nodup_ix{N:List Str}(hN:N.Nodup){i j:Nat}{x:Str}(a:N[i]?=some x)(b:N[j]?=some x):i=j:=by
 obtain⟨h1,e1⟩:=ak.mp a
 obtain⟨h2,e2⟩:=ak.mp b
 exact(List.getElem_inj hN).mp (e1.trans e2.symm)
theorem store_ok2{M:Model}{A:Around}{E:Value->Shared->Prop}{i:Nat}{x:Str}{v:V}{u:Value}{Q:Unit->Shared->Prop}(I:Inv X pins σ H s)(hN:X.N.Nodup)(hi:X.N[i]?=some x)(hx:Loc X.env.scope x)(r:RelV v u)
  (h:∀s',Inv X pins (σ.set i (some v)) H s'->(∃a,bw a s.heap s'.heap/\(a=X.env.locals\/X.env.cells.lookup x=some a))->Q () s') (hf:X.fn x=true\/X.env.scope.names.lookup x=some .local:=by first|exact .inl rfl|exact .inr rfl|assumption):wpAny M A (storeName X.env x u) Q E s:=by
 obtain⟨m,hn,hl⟩:=id I.loc
 have hcls:(X.env.scope.kind==.class||(X.env.scope.kind==.module&&X.env.locals != X.env.globals))=false:=by rw[I.ok.kind];rfl
 have hiσ:i<σ.length:=by rw[I.len];exact(ak.mp hi).1
 have cne:=I.cne
 have tracked:∀{a:Addr} {h':Heap},(∃o,s.heap.get? a=some o/\H a=none)->bw a s.heap h'->HOk X.prog X.w H h':=λ{a h'} ha hs b ob e=>by
  obtain⟨_,_,hfree⟩:=ha
  refine(I.hok b ob e).stay (λc w' hc q=>(hs.2 c ?_).trans q) (λ_ q=>q) λ_ _ q=>q
  rintro rfl
  rcases hc with rfl|hc
  .rw[hfree]at e;cases e
  .rw[hfree]at hc;cases hc
 rcases hx with hk|hk
 .refine wpAny_storeName_local hk hn (λh' hn' hs=>?_) hcls
  obtain⟨oL,_,_,hoL,_⟩:=id hn
  refine h _ ⟨I.ok,I.os,I.bare,⟨λb o e n hb hx=>?_,λb o e n hb hx=>?_,I.base.free,λb o e hx=>?_,I.base.tups,I.base.frzs,I.base.tbls⟩,⟨_,hn',λj y v' e1 e2 e3=>?_⟩,λy c e=>?_,I.free,I.freeC,λp hp=>?_,tracked ⟨oL,hoL,I.free⟩ hs,by simpa using I.len⟩ ⟨_,hs,.inl rfl⟩
  .exact(hs.2 b (cc (cj (a9 e) I.ok.above))).trans (I.base.keep b o e n hb hx)
  .obtain⟨sl,e1⟩:=I.base.slot b o e n hb hx
   exact⟨sl,(hs.2 b (cc (cj (a9 e) I.ok.above))).trans e1⟩
  .obtain⟨o',e1⟩:=I.base.there b o e hx
   exact⟨o',(hs.2 b (cc (cj (a9 e) I.ok.above))).trans e1⟩
  .by_cases hj:j=i
   .subst hj
    rw[hi]at e1;cases e1
    rw[List.getElem?_set_self hiσ]at e2
    cases e2
    exact⟨u,r,.inl ⟨hk,by simp⟩⟩
   .rw[List.getElem?_set_ne (Ne.symm hj)]at e2
    obtain⟨u',r',q⟩:=hl j y v' e1 e2 e3
    refine⟨u',r',?_⟩
    rcases q with ⟨k,e⟩|⟨k,c,e,z⟩
    .refine .inl ⟨k,?_⟩
     have:y≠x:=λe=>hj (nodup_ix hN e1 (e▸hi))
     simp[this,e]
    .exact .inr ⟨k,c,e,z.sameBut hs (cne y c e)⟩
  .obtain⟨w',z⟩:=I.cell y c e
   exact⟨w',z.sameBut hs (cne y c e)⟩
  .obtain⟨e,n,ne,nf,d⟩:=I.pin p hp
   exact⟨(hs.2 p.1 ne).trans e,n,ne,nf,d⟩
 .have hfn:X.fn x=true:=by
   rcases hf with z|z
   .exact z
   .rw[z]at hk;cases hk
  obtain⟨c,hc⟩:=I.ok.has x (.inl hk)
  obtain⟨w',z⟩:=I.cell x c hc
  refine wpAny_storeName_cell I.ok.kind hk hc z (λh' hc' hs=>?_)
  obtain⟨oc,hoc,hocd⟩:=id z
  refine h {s with heap:=h'} ⟨I.ok,I.os,I.bare,⟨λb o e n hb hx=>?_,λb o e n hb hx=>?_,I.base.free,λb o e hx=>?_,I.base.tups,I.base.frzs,I.base.tbls⟩,⟨m,hn.sameBut hs (Ne.symm (cne x c hc)),λj y v' e1 e2 e3=>?_⟩,λy c' e=>?_,I.free,I.freeC,λp hp=>?_,tracked ⟨oc,hoc,I.freeC x c hc⟩ hs,by simpa using I.len⟩ ⟨c,hs,.inr hc⟩
  .exact(hs.2 b (cc (cj (a9 e) (I.ok.cab x c hfn hc)))).trans (I.base.keep b o e n hb hx)
  .obtain⟨sl,e1⟩:=I.base.slot b o e n hb hx
   exact⟨sl,(hs.2 b (cc (cj (a9 e) (I.ok.cab x c hfn hc)))).trans e1⟩
  .obtain⟨o',e1⟩:=I.base.there b o e hx
   exact⟨o',(hs.2 b (cc (cj (a9 e) (I.ok.cab x c hfn hc)))).trans e1⟩
  .by_cases hj:j=i
   .subst hj
    rw[hi]at e1;cases e1
    rw[List.getElem?_set_self hiσ]at e2
    cases e2
    exact⟨u,r,.inr ⟨.inl hk,c,hc,hc'⟩⟩
   .rw[List.getElem?_set_ne (Ne.symm hj)]at e2
    obtain⟨u',r',q⟩:=hl j y v' e1 e2 e3
    refine⟨u',r',?_⟩
    rcases q with q|⟨k,c',e,z'⟩
    .exact .inl q
    .refine .inr ⟨k,c',e,z'.sameBut hs ?_⟩
     rintro rfl
     exact hj (nodup_ix hN e1 (I.ok.inj _ _ _ e hc▸hi))
  .by_cases hcc:c'=c
   .subst hcc;exact⟨_,hc'⟩
   .obtain⟨w2,z2⟩:=I.cell y c' e
    exact⟨w2,z2.sameBut hs hcc⟩
  .obtain⟨e,n,ne,nf,d⟩:=I.pin p hp
   refine⟨(hs.2 p.1 ?_).trans e,n,ne,nf,d⟩
   intro q
   rw[q,hoc]at e
   have q':oc=p.2:=cy e
   exact d w' (by rw[<-q'];exact hocd)
theorem store_ok{M:Model}{A:Around}{E:Value->Shared->Prop}{i:Nat}{x:Str}{v:V}{u:Value}{Q:Unit->Shared->Prop}(I:Inv X pins σ H s)(hN:X.N.Nodup)(hi:X.N[i]?=some x)(hx:Loc X.env.scope x)(r:RelV v u)
  (h:∀s',Inv X pins (σ.set i (some v)) H s'->Q () s') (hf:X.fn x=true\/X.env.scope.names.lookup x=some .local:=by first|exact .inl rfl|exact .inr rfl|assumption):wpAny M A (storeName X.env x u) Q E s:=
 store_ok2 I hN hi hx r (λs' I' _=>h s' I') hf
theorem Inv.call'{s':Shared}{ch:List Addr}(I:Inv X pins σ H s)(ho:s'.os=s.os)(u:Un (frs X.stack) ch H H' s.heap s'.heap)(hok:HOk X.prog X.w H' s'.heap)(hg:AllBare s'.gens)
  (hch:∀b∈ch,(b∈X.ex\/X.s₀.heap.objs.size<=b)/\b≠X.env.locals/\(∀x c,X.env.cells.lookup x=some c->c≠b)/\∀p∈X.pn++pins,p.1≠b):Inv X pins σ H' s':=by
 obtain⟨h',g',d',t',o'⟩:=s'
 have e:o'=s.os:=ho
 subst e
 exact I.call (g':=g') (t':=t') (d':=d') u hok hg hch
end
noncomputable abbrev XK:=Value->Option Addr->Hp->Prop
noncomputable abbrev St:=List (Option V)
noncomputable abbrev VK:=V->Hp->Prop
noncomputable abbrev TE:=St->Hp->VK->Prop
noncomputable abbrev TT:=St->Hp->(Bool->Hp->Prop)->Prop
noncomputable abbrev TA:=St->Hp->(List V->Hp->Prop)->Prop
structure Ends where
 nx:St->Hp->Prop
 rt:VK
 bk:St->Hp->Prop:=λ_ _=>False
 ct:St->Hp->Prop:=λ_ _=>False
noncomputable abbrev TS:=Ends->St->Hp->Prop
noncomputable def EP(X:Cx)(pins:List (Addr×Obj))(σ:St)(Q:VK)(u:Value)(s':Shared):Prop:=∃v H',Inv X pins σ H' s'/\RelV v u/\Q v H'
noncomputable def TP(X:Cx)(pins:List (Addr×Obj))(σ:St)(Q:Bool->Hp->Prop)(b:Bool)(s':Shared):Prop:=∃H',Inv X pins σ H' s'/\Q b H'
noncomputable def AP(X:Cx)(pins:List (Addr×Obj))(σ:St)(Q:List V->Hp->Prop)(us:List Value)(s':Shared):Prop:=∃vs H',Inv X pins σ H' s'/\Vals vs us/\Q vs H'
noncomputable def SP(X:Cx)(pins:List (Addr×Obj))(D:Ends)(f:Flow)(s':Shared):Prop:=
 match f with
 | .next=>∃σ' H',Inv X pins σ' H' s'/\D.nx σ' H'
 | .brk=>∃σ' H',Inv X pins σ' H' s'/\D.bk σ' H'
 | .cont=>∃σ' H',Inv X pins σ' H' s'/\D.ct σ' H'
 | .ret u=>∃v σ' H',Inv X pins σ' H' s'/\RelV v u/\D.rt v H'
noncomputable def PE(X:Cx)(e:Expr)(t:TE):Prop:=
 ∀(pins:List (Addr×Obj)) (s:Shared) (σ:St) (H:Hp) (Q:VK),Inv X pins σ H s->t σ H Q->wpAny (model X.prog X.w) X.A (eval e X.env) (EP X pins σ Q) X.xe s
noncomputable def PT(X:Cx)(e:Expr)(t:TT):Prop:=
 ∀(pins:List (Addr×Obj)) (s:Shared) (σ:St) (H:Hp) (Q:Bool->Hp->Prop),Inv X pins σ H s->t σ H Q->wpAny (model X.prog X.w) X.A (isTrue e X.env (eval e X.env)) (TP X pins σ Q) X.xe s
noncomputable def PW(X:Cx)(e:Expr)(t:TT):Prop:=
 ∀(whole:Sem Value) (pins:List (Addr×Obj)) (s:Shared) (σ:St) (H:Hp) (Q:Bool->Hp->Prop),Inv X pins σ H s->t σ H Q->wpAny (model X.prog X.w) X.A (isTrue e X.env whole) (TP X pins σ Q) X.xe s
theorem PW.pt{X:Cx}{e:Expr}{t:TT}(h:PW X e t):PT X e t:=h _
noncomputable def PA(X:Cx)(es:List Expr)(t:TA):Prop:=
 ∀(pos:Pos) (pins:List (Addr×Obj)) (s:Shared) (σ:St) (H:Hp) (Q:List V->Hp->Prop),Inv X pins σ H s->t σ H Q->wpAny (model X.prog X.w) X.A (spliced (backTo pos (starEach es X.env))) (AP X pins σ Q) X.xe s
noncomputable def PS(X:Cx)(st:Stmt)(t:TS):Prop:=
 ∀(pins:List (Addr×Obj)) (s:Shared) (σ:St) (H:Hp) (D:Ends),Inv X pins σ H s->t D σ H->wpAny (model X.prog X.w) X.A (exec st X.env) (SP X pins D) X.xe s
noncomputable def PSs(X:Cx)(st:List Stmt)(t:TS):Prop:=
 ∀(pins:List (Addr×Obj)) (s:Shared) (σ:St) (H:Hp) (D:Ends),Inv X pins σ H s->t D σ H->wpAny (model X.prog X.w) X.A (execs st X.env) (SP X pins D) X.xe s
theorem thn{α:Type}{t:Sem α}{Q Q':α->Shared->Prop}{M:Model}{A:Around}{E:Value->Shared->Prop}{s:Shared}(h:wpAny M A t Q E s)(hQ:∀a s,Q a s->Q' a s):wpAny M A t Q' E s:=jg h hQ λ_ _ x=>x
end L2
namespace L2
open PySem PySem.Spec PyProof.Rows
section
variable{X:Cx}
noncomputable def tVar(i:Nat):TE:=λσ H Q=>∃v,σ[i]?=some (some v)/\Q v H
noncomputable def tC(v:V):TE:=λ_ H Q=>Q v H
theorem pe_var{i:Nat}{x:Str}{pos:Pos}(hN:X.N[i]?=some x)(hv:Vis X.env.scope x)(hd:(x==("__debug__" : Str))=false:=by decide)(hcd:(x==("__classdict__" : Str))=false:=by decide):PE X (.Name x pos) (tVar i):=by
 intro pins s σ H Q I h
 obtain⟨v,e,h⟩:=h
 obtain⟨m,hn,hl⟩:=I.loc
 obtain⟨u,r,l⟩:=hl i x v hN e hv
 have fin:EP X pins σ Q u s:=⟨v,H,I,r,h⟩
 rcases l with ⟨hk,hm⟩|⟨hk,c,hc,hcell⟩
 .exact wpAny_Name (wpAny_loadName_local I.ok.kind hk hn hm fin) hd
 .rcases hk with hk|hk
  .exact wpAny_Name (wpAny_loadName_cell I.ok.kind hk hc hcell fin) hd
  .exact wpAny_Name (wpAny_loadName_free I.ok.kind hk hc hcell fin hcd) hd
theorem kg{i j pos}:PE X (.Constant (.int i) j pos) (tC (.int i)):=λ_ _ _ H _ I h=>wpAny_Constant_int ⟨.int i,H,I.tok _,⟨_,rfl⟩,h⟩
theorem pe_bl{b j pos}:PE X (.Constant (.bool b) j pos) (tC (.bl b)):=λ_ _ _ H _ I h=>Constant_bool ⟨.bl b,H,I,rfl,h⟩
theorem pe_non{j pos}:PE X (.Constant .none j pos) (tC .non):=λ_ _ _ H _ I h=>Constant_none ⟨.non,H,I,rfl,h⟩
theorem nu{x j pos}:PE X (.Constant (.str x) j pos) (tC (.str x)):=λ_ _ _ H _ I h=>Calls.Constant_str ⟨.str x,H,I.tok _,⟨_,rfl⟩,h⟩
noncomputable def Gl(X:Cx)(x:Str):Prop:=X.env.kindOf x=some .globalImplicit
theorem ld_glob{E:Value->Shared->Prop}{pins:List (Addr×Obj)}{s:Shared}{σ:St}{H:Hp}{x:Str}{u:Value}{pos:Pos}{Q:Value->Shared->Prop}(I:Inv X pins σ H s)(hg:Gl X x)(hm:X.mg x=some u)(h:Q u s)
  (hd:(x==("__debug__" : Str))=false:=by decide):wpAny (model X.prog X.w) X.A (eval (.Name x pos) X.env) Q E s:=
 Calls.Name_function_global I.ok.kind hg (Calls.loadGlobal_global (by rw[I.ok.glob];exact I.mod.glob.keeps I.bk) hm h) hd
theorem ld_blt{E:Value->Shared->Prop}{pins:List (Addr×Obj)}{s:Shared}{σ:St}{H:Hp}{x:Str}{u:Value}{pos:Pos}{Q:Value->Shared->Prop}(I:Inv X pins σ H s)(hg:Gl X x)(hm:X.mg x=none)(hv:bootBuiltins x=some u)(h:Q u s)
  (hn:x≠"__name__":=by decide) (hd:(x==("__debug__" : Str))=false:=by decide):wpAny (model X.prog X.w) X.A (eval (.Name x pos) X.env) Q E s:=by
 obtain⟨mb,h1,h2⟩:=I.mod.blt
 exact Calls.Name_function_global I.ok.kind hg (Calls.loadGlobal_builtin (by rw[I.ok.glob];exact I.mod.glob.keeps I.bk) hm (by rw[I.ok.blt];exact h1.keeps I.bk) ((h2 x hn).trans hv) h) hd
theorem pe_glob{x:Str}{v:V}{u:Value}{pos:Pos}(hg:Gl X x)(hm:X.mg x=some u)(r:RelV v u)(hd:(x==("__debug__" : Str))=false:=by decide):PE X (.Name x pos) (tC v):=
 λ_ _ _ H _ I h=>ld_glob I hg hm ⟨v,H,I,r,h⟩ hd
theorem pe_bltn{x:Str}{v:V}{u:Value}{pos:Pos}(hg:Gl X x)(hm:X.mg x=none)(hv:bootBuiltins x=some u)(r:RelV v u)(hn:x≠"__name__":=by decide)(hd:(x==("__debug__" : Str))=false:=by decide):PE X (.Name x pos) (tC v):=
 λ_ _ _ H _ I h=>ld_blt I hg hm hv ⟨v,H,I,r,h⟩ hn hd
variable{a b:Expr}{ta tb:TE}{pos:Pos}
noncomputable def PC(X:Cx)(op:CmpOp)(a b:Expr)(t:TE):Prop:=
 ∀(pins:List (Addr×Obj)) (s:Shared) (σ:St) (H:Hp) (Q:VK),Inv X pins σ H s->t σ H Q->
  wpAny (model X.prog X.w) X.A (eval a X.env) (λv s₁=>wpAny (model X.prog X.w) X.A (eval b X.env) (λu s₂=>wpAny (model X.prog X.w) X.A (compareOp op v u) (EP X pins σ Q) X.xe s₂) X.xe s₁) X.xe s
noncomputable def tB(t:TE):TT:=λσ H Q=>t σ H λx H1=>∃c,x=.bl c/\Q c H1
theorem pe_cmp{op:CmpOp}{t:TE}(h:PC X op a b t)(h1:behindInMarks op b=false:=by first|exact nobehind _ (by decide) (by decide)|rfl):PE X (.Compare a [op] [b] pos) t:=λpins s σ H Q I hw=>wpAny_Compare1 (h pins s σ H Q I hw) h1
theorem pt_val{e:Expr}{t:TE}(h:PE X e t)(he:∀whole,isTrue e X.env whole=(do let v <-whole;standAt e.pos;holding [v] (truthy v)):=by intro _;rfl):PT X e (tB t):=by
 intro pins s σ H Q I hw
 refine isTrue_plain (thn (h pins s σ H _ I hw) λv s1 ⟨x,H1,I1,r1,q1⟩=>?_) (he _)
 obtain⟨d,rfl,q⟩:=q1
 cases r1
 exact f8 ⟨H1,I1,q⟩
variable{tA tB':TT}{rest:List Expr}
noncomputable def tAnd(t u:TT):TT:=λσ H Q=>t σ H λc H1=>if c=true then u σ H1 Q else Q false H1
noncomputable def tOr(t u:TT):TT:=λσ H Q=>t σ H λc H1=>if c=true then Q true H1 else u σ H1 Q
noncomputable def tNot(t:TT):TT:=λσ H Q=>t σ H λc H1=>Q (!c) H1
theorem pw_and1(ha:PT X a tA):PW X (.BoolOp .And [a] pos) tA:=by
 intro wh pins s σ H Q I h
 refine isTrue_and (thn (ha pins s σ H Q I h) λc s1 e=>?_)
 cases c with
 | true=>exact isTrue_and_nil e
 | false=>exact e
theorem pw_or1(ha:PT X a tA):PW X (.BoolOp .Or [a] pos) tA:=by
 intro wh pins s σ H Q I h
 refine isTrue_or (thn (ha pins s σ H Q I h) λc s1 e=>?_)
 cases c with
 | false=>exact isTrue_or_nil e
 | true=>exact e
theorem pw_and(ha:PT X a tA)(hb:PW X (.BoolOp .And (b::rest) pos) tB'):PW X (.BoolOp .And (a::b::rest) pos) (tAnd tA tB'):=by
 intro wh pins s σ H Q I h
 refine isTrue_and (thn (ha pins s σ H _ I h) λc s1 ⟨H1,I1,q1⟩=>?_)
 cases c with
 | true=>exact hb wh pins s1 σ H1 Q I1 q1
 | false=>exact⟨H1,I1,q1⟩
theorem pw_or(ha:PT X a tA)(hb:PW X (.BoolOp .Or (b::rest) pos) tB'):PW X (.BoolOp .Or (a::b::rest) pos) (tOr tA tB'):=by
 intro wh pins s σ H Q I h
 refine isTrue_or (thn (ha pins s σ H _ I h) λc s1 ⟨H1,I1,q1⟩=>?_)
 cases c with
 | true=>exact⟨H1,I1,q1⟩
 | false=>exact hb wh pins s1 σ H1 Q I1 q1
theorem pt_not(ha:PT X a tA):PT X (.UnaryOp .Not a pos) (tNot tA):=by
 intro pins s σ H Q I h
 exact isTrue_not (ha pins s σ H (λc H1=>Q (!c) H1) I h)
noncomputable def tAndV(ta tb:TE):TE:=λσ H Q=>ta σ H λx H1=>∃c,x=.bl c/\if c=true then tb σ H1 Q else Q (.bl false) H1
noncomputable def tOrV(ta tb:TE):TE:=λσ H Q=>ta σ H λx H1=>∃c,x=.bl c/\if c=true then Q (.bl true) H1 else tb σ H1 Q
noncomputable def tNotV(ta:TE):TE:=λσ H Q=>ta σ H λx H1=>∃c,x=.bl c/\Q (.bl (!c)) H1
theorem pe_one{op}{t:TE}(h:PE X a t):PE X (.BoolOp op [a] pos) t:=λpins s σ H Q I hw=>BoolOp_one (h pins s σ H Q I hw)
theorem pe_and(ha:PE X a ta)(hb:PE X (.BoolOp .And (b::rest) pos) tb):PE X (.BoolOp .And (a::b::rest) pos) (tAndV ta tb):=by
 intro pins s σ H Q I h
 refine BoolOp_and (thn (ha pins s σ H _ I h) λv s1 ⟨x,H1,I1,r1,q1⟩=>?_)
 obtain⟨c,rfl,q1⟩:=q1
 cases r1
 refine f8 ?_
 cases c with
 | true=>exact hb pins s1 σ H1 Q I1 q1
 | false=>exact⟨.bl false,H1,I1,rfl,q1⟩
theorem pe_or(ha:PE X a ta)(hb:PE X (.BoolOp .Or (b::rest) pos) tb):PE X (.BoolOp .Or (a::b::rest) pos) (tOrV ta tb):=by
 intro pins s σ H Q I h
 refine BoolOp_or (thn (ha pins s σ H _ I h) λv s1 ⟨x,H1,I1,r1,q1⟩=>?_)
 obtain⟨c,rfl,q1⟩:=q1
 cases r1
 refine f8 ?_
 cases c with
 | false=>exact hb pins s1 σ H1 Q I1 q1
 | true=>exact⟨.bl true,H1,I1,rfl,q1⟩
theorem pe_not(ha:PE X a ta):PE X (.UnaryOp .Not a pos) (tNotV ta):=by
 intro pins s σ H Q I h
 refine UnaryOp_ (thn (ha pins s σ H _ I h) λv s1 ⟨x,H1,I1,r1,q1⟩=>?_)
 obtain⟨c,rfl,q1⟩:=q1
 cases r1
 exact not_of (f8 ⟨.bl (!c),H1,I1,rfl,q1⟩)
noncomputable def tIf(t:TT)(ta tb:TE):TE:=λσ H Q=>t σ H λc H1=>if c=true then ta σ H1 Q else tb σ H1 Q
theorem pe_ifExp{c:Expr}(hc:PT X c tA)(ha:PE X a ta)(hb:PE X b tb):PE X (.IfExp c a b pos) (tIf tA ta tb):=by
 intro pins s σ H Q I h
 refine wpAny_IfExp (thn (hc pins s σ H _ I h) λd s1 ⟨H1,I1,q1⟩=>?_)
 cases d with
 | true=>exact ha pins s1 σ H1 Q I1 q1
 | false=>exact hb pins s1 σ H1 Q I1 q1
end
end L2
namespace L2
open PySem PySem.Spec PyProof.Rows
noncomputable def SqL(K:aq)(H:Hp)(a:Addr)(xs:List V):Prop:=
 Rd H a (.lst xs)\/
  ∃(o:Obj) (its:Array Value) (n:Nat),K.lookup a=some o/\o.cls=.type "list"/\o.dict=none/\o.data=.seq its n/\its.size<=sizeLine/\Vals xs its.toList
noncomputable def SqT(K:aq)(H:Hp)(a:Addr)(xs:List V):Prop:=
 Rd H a (.tup xs)\/
  ∃(o:Obj) (its:Array Value) (n:Nat),K.lookup a=some o/\o.cls=.type "tuple"/\o.data=.seq its n/\its.size<=sizeLine/\Vals xs its.toList
noncomputable def absV:Value->Option V
 | .none=>some .non
 | .bool b=>some (.bl b)
 | .int i _=>some (.int i)
 | .str x _=>some (.str x)
 | .bytes b _=>some (.byt b)
 | .float b _=>some (.flt b)
 | .ref a=>some (.ref a)
 | .type n=>some (.ty n)
 | _=>none
theorem RelV.abs{x:V}{u:Value}(r:RelV x u):absV u=some x:=by
 cases x with
 | non=>cases r;rfl
 | bl _=>cases r;rfl
 | int _=>obtain⟨t,rfl⟩:=r;rfl
 | str _=>obtain⟨t,rfl⟩:=r;rfl
 | byt _=>obtain⟨t,rfl⟩:=r;rfl
 | flt _=>obtain⟨t,rfl⟩:=r;rfl
 | ref _=>cases r;rfl
 | ty _=>cases r;rfl
theorem RelV.inj{x y:V}{u:Value}(r:RelV x u)(q:RelV y u):x=y:=cy (r.abs.symm.trans q.abs)
theorem Vals.inj:∀{xs ys:List V} {us:List Value},Vals xs us->Vals ys us->xs=ys
 | _,_,_,.nil,.nil=>rfl
 | _,_,_,.cons r t,.cons r' t'=>by rw[r.inj r',Vals.inj t t']
section
variable{X:Cx}{pins:List (Addr×Obj)}{σ:St}{H:Hp}{s:Shared}{a:Addr}{xs ys:List V}
theorem SqL.of{K:aq}(h:H a=some (.lst xs)):SqL K H a xs:=.inl (.inl h)
theorem SqT.of{K:aq}(h:H a=some (.tup xs)):SqT K H a xs:=.inl (.inl h)
theorem Inv.list(I:Inv X pins σ H s)(h:SqL X.K H a xs):∃its:List Value,Vals xs its/\PlainL s.heap a its.toArray/\xs.length<=sizeLine:=by
 rcases h with h|⟨o,its,n,hk,hc,hd,hs,hz,r⟩
 .obtain⟨z,its,n,r,e⟩:=h.ok I.hok
  exact⟨its,r,⟨_,n,e,rfl,rfl,rfl⟩,z⟩
 .refine⟨its.toList,r,⟨o,n,I.kIn a o hk,hc,hd,by simpa using hs⟩,?_⟩
  have e:=r.length
  simp only[aw]at e
  omega
theorem Inv.tuple(I:Inv X pins σ H s)(h:SqT X.K H a xs):∃its:List Value,Vals xs its/\IsTup s.heap a its.toArray/\xs.length<=sizeLine:=by
 rcases h with h|⟨o,its,n,hk,hc,hs,hz,r⟩
 .obtain⟨z,its,r,p⟩:=h.ok I.hok
  exact⟨its,r,p,z⟩
 .refine⟨its.toList,r,⟨o,I.kIn a o hk,hc,n,by simpa using hs⟩,?_⟩
  have e:=r.length
  simp only[aw]at e
  omega
theorem Inv.list_inj(I:Inv X pins σ H s)(h:SqL X.K H a xs)(h':SqL X.K H a ys):xs=ys:=by
 obtain⟨its,r,⟨o,n,e,_,_,d⟩,_⟩:=I.list h
 obtain⟨its',r',⟨o',n',e',_,_,d'⟩,_⟩:=I.list h'
 rw[e]at e';cases e'
 rw[d]at d'
 injection d' with d1 _
 have:its=its':=by simpa using congrArg Array.toList d1
 subst this
 exact r.inj r'
theorem Inv.tuple_inj(I:Inv X pins σ H s)(h:SqT X.K H a xs)(h':SqT X.K H a ys):xs=ys:=by
 obtain⟨its,r,⟨o,e,_,n,d⟩,_⟩:=I.tuple h
 obtain⟨its',r',⟨o',e',_,n',d'⟩,_⟩:=I.tuple h'
 rw[e]at e';cases e'
 rw[d]at d'
 injection d' with d1 _
 have:its=its':=by simpa using congrArg Array.toList d1
 subst this
 exact r.inj r'
end
noncomputable abbrev Cx.wish(X:Cx)(E:Value->Shared->Prop):Cx:={X with xe:=E}
noncomputable abbrev Cx.nox(X:Cx):Cx:=X.wish λ_ _=>False
theorem Cx.Ok.wish{X:Cx}(ok:X.Ok)(E:Value->Shared->Prop):(X.wish E).Ok:=
 ⟨ok.mod,ok.kind,ok.glob,ok.blt,ok.above,ok.inj,ok.has,ok.cab,ok.hd,ok.frames,ok.stk,ok.exf,ok.bs,ok.bsz,ok.noex,ok.exfs,ok.funs,ok.frf⟩
theorem Cx.Ok.unwish{X:Cx}{E:Value->Shared->Prop}(ok:(X.wish E).Ok):X.Ok:=
 ⟨ok.mod,ok.kind,ok.glob,ok.blt,ok.above,ok.inj,ok.has,ok.cab,ok.hd,ok.frames,ok.stk,ok.exf,ok.bs,ok.bsz,ok.noex,ok.exfs,ok.funs,ok.frf⟩
section
variable{X:Cx}{pins:List (Addr×Obj)}{σ:St}{H:Hp}{s:Shared}{E:Value->Shared->Prop}
theorem Inv.wish(I:Inv X pins σ H s)(E:Value->Shared->Prop):Inv (X.wish E) pins σ H s:=⟨I.ok.wish E,I.os,I.bare,I.base,I.loc,I.cell,I.free,I.freeC,I.pin,I.hok,I.len⟩
theorem Inv.unwish(I:Inv (X.wish E) pins σ H s):Inv X pins σ H s:=⟨I.ok.unwish,I.os,I.bare,I.base,I.loc,I.cell,I.free,I.freeC,I.pin,I.hok,I.len⟩
theorem SP.unwish{D:Ends}{f:Flow}{s':Shared}(h:SP (X.wish E) pins D f s'):SP X pins D f s':=by
 cases f with
 | next=>obtain⟨σ',H',I,q⟩:=h;exact⟨σ',H',I.unwish,q⟩
 | brk=>obtain⟨σ',H',I,q⟩:=h;exact⟨σ',H',I.unwish,q⟩
 | cont=>obtain⟨σ',H',I,q⟩:=h;exact⟨σ',H',I.unwish,q⟩
 | ret u=>obtain⟨v,σ',H',I,r,q⟩:=h;exact⟨v,σ',H',I.unwish,r,q⟩
theorem PSs.nox{st:List Stmt}{t:TS}(h:PSs X.nox st t):PSs X st t:=λpins s σ H D I hw=>
 jg (h pins s σ H D (I.wish _) hw) (λ_ _ q=>q.unwish) λ_ _ z=>False.elim z
end
section
variable{X:Cx}{st:Stmt}{rest:List Stmt}{t u:TS}{e:Expr}{te:TE}{pos:Pos}
noncomputable def tNext:TS:=λD σ H=>D.nx σ H
noncomputable def tSeq(t u:TS):TS:=λD σ H=>t {D with nx:=u D} σ H
theorem ni:PSs X [] tNext:=λ_ _ σ H _ I h=>wpAny_execs_nil ⟨σ,H,I,h⟩
theorem kc(h1:PS X st t)(h2:PSs X rest u):PSs X (st::rest) (tSeq t u):=by
 intro pins s σ H D I h
 refine wpAny_execs_cons (thn (h1 pins s σ H {D with nx:=u D} I h) λf s1 q=>?_)
 cases f with
 | next=>
  obtain⟨σ',H',I',q⟩:=q
  exact h2 pins s1 σ' H' D I' q
 | ret v=>exact q
 | brk=>exact q
 | cont=>exact q
theorem km(h1:PS X st t):PSs X [st] t:=by
 intro pins s σ H D I h
 refine wpAny_execs_cons (thn (h1 pins s σ H D I h) λf s1 q=>?_)
 cases f with
 | next=>exact wpAny_execs_nil q
 | ret v=>exact q
 | brk=>exact q
 | cont=>exact q
theorem Inv.quiet{pins:List (Addr×Obj)}{σ:St}{H:Hp}{s:Shared}(I:Inv X pins σ H s):interactive X.env=false:=by simp[interactive,I.ok.kind]
noncomputable def tDrop(te:TE):TS:=λD σ H=>te σ H λ_ H1=>D.nx σ H1
theorem ps_expr(he:PE X e te)(hs:swapsWith e none pos.line X.env=pure false:=by rfl):PS X (.Expr e pos) (tDrop te):=by
 intro pins s σ H D I h
 exact wpAny_Expr_any (thn (he pins s σ H _ I h) λv s1 ⟨x,H1,I1,r1,q1⟩=>⟨σ,H1,I1,q1⟩) I.quiet hs
noncomputable def tRet(te:TE):TS:=λD σ H=>te σ H D.rt
theorem k7(he:PE X e te):PS X (.Return (some e) pos) (tRet te):=by
 intro pins s σ H D I h
 exact wpAny_Return_some (thn (he pins s σ H _ I h) λv s1 ⟨x,H1,I1,r1,q1⟩=>⟨x,σ,H1,I1,r1,q1⟩)
noncomputable def tIfS(c:TT)(t u:TS):TS:=λD σ H=>c σ H λb H1=>if b=true then t D σ H1 else u D σ H1
theorem ps_if{c:Expr}{a b:List Stmt}{tc:TT}(hc:PT X c tc)(ha:PSs X a t)(hb:PSs X b u):PS X (.If c a b pos) (tIfS tc t u):=by
 intro pins s σ H D I h
 refine wpAny_If (thn (hc pins s σ H _ I h) λd s1 ⟨H1,I1,q1⟩=>?_)
 cases d with
 | true=>exact ha pins s1 σ H1 D I1 q1
 | false=>exact hb pins s1 σ H1 D I1 q1
end
noncomputable abbrev TG:=V->St->Hp->(St->Hp->Prop)->Prop
noncomputable abbrev TGs:=List V->St->Hp->(St->Hp->Prop)->Prop
noncomputable def PG(X:Cx)(target:Expr)(t:TG):Prop:=
 ∀(pins:List (Addr×Obj)) (s:Shared) (σ:St) (H:Hp) (v:V) (u:Value) (Q:St->Hp->Prop),Inv X pins σ H s->RelV v u->t v σ H Q->
  wpAny (model X.prog X.w) X.A (assign target X.env u) (λ_ s'=>∃σ' H',Inv X pins σ' H' s'/\Q σ' H') X.xe s
noncomputable def PGs(X:Cx)(ts:List Expr)(t:TGs):Prop:=
 ∀(pins:List (Addr×Obj)) (s:Shared) (σ:St) (H:Hp) (vs:List V) (us:List Value) (Q:St->Hp->Prop),Inv X pins σ H s->Vals vs us->t vs σ H Q->
  wpAny (model X.prog X.w) X.A (assignInOrder ((assignEach ts X.env).map (·.2)) us) (λ_ s'=>∃σ' H',Inv X pins σ' H' s'/\Q σ' H') X.xe s
noncomputable abbrev TSet:=V->V->V->Hp->(Hp->Prop)->Prop
noncomputable def PSet(X:Cx)(t:TSet):Prop:=
 ∀(pins:List (Addr×Obj)) (s:Shared) (σ:St) (H:Hp) (o i v:V) (ov iv u:Value) (Q:Hp->Prop),Inv X pins σ H s->RelV o ov->RelV i iv->RelV v u->t o i v H Q->
  wpAny (model X.prog X.w) X.A (setItem ov iv u) (λ_ s'=>∃H',Inv X pins σ H' s'/\Q H') X.xe s
section
variable{X:Cx}{pos:Pos}
noncomputable def gName(i:Nat):TG:=λv σ H Q=>Q (σ.set i (some v)) H
theorem ke{i:Nat}{x:Str}(hN:X.N.Nodup)(hi:X.N[i]?=some x)(hx:Loc X.env.scope x)(hf:X.fn x=true\/X.env.scope.names.lookup x=some .local:=by first|exact .inl rfl|exact .inr rfl|assumption):PG X (.Name x pos) (gName i):=by
 intro pins s σ H v u Q I r h
 exact wpAny_assign_Name (store_ok I hN hi hx r (λs' I'=>⟨_,H,I',h⟩) hf)
noncomputable def gNil:TGs:=λvs σ H Q=>vs=[]/\Q σ H
noncomputable def gCons(t:TG)(u:TGs):TGs:=λvs σ H Q=>∃v r,vs=v::r/\t v σ H λσ' H'=>u r σ' H' Q
theorem lq:PGs X [] gNil:=by
 intro pins s σ H vs us Q I r h
 obtain⟨e,h⟩:=h
 subst e
 cases r
 exact assignInOrder_nil ⟨σ,H,I,h⟩
theorem kj{e:Expr}{es:List Expr}{t:TG}{u:TGs}(h1:PG X e t)(h2:PGs X es u)
  (hs:(assignEach (e::es) X.env).map (·.2)=assign e X.env::(assignEach es X.env).map (·.2):=by rfl):PGs X (e::es) (gCons t u):=by
 intro pins s σ H vs us Q I r h
 obtain⟨v,vr,e1,h⟩:=h
 subst e1
 cases r with
 | cons r rr=>
  rw[hs]
  refine assignInOrder_cons (thn (h1 pins s σ H _ _ _ I r h) λ_ s1 ⟨σ1,H1,I1,q1⟩=>?_)
  exact h2 pins s1 σ1 H1 _ _ Q I1 rr q1
noncomputable def gTup(K:aq)(n:Nat)(t:TGs):TG:=λv σ H Q=>∃a xs,v=.ref a/\SqT K H a xs/\xs.length=n/\t xs σ H Q
theorem pg_tup{es:List Expr}{k:Nat}{t:TGs}{n:Nat}(hc:X.calm=true)(h:PGs X es t)
  (hn:(assignEach es X.env).length=n:=by rfl) (hst:(assignEach es X.env).findIdx? (·.1)=none:=by rfl):PG X (.Tuple es k pos) (gTup X.K n t):=by
 intro pins s σ H v u Q I r hw
 obtain⟨a,xs,e1,hq,hl,hw⟩:=hw
 subst e1
 cases r
 obtain⟨its,rv,ht,hz⟩:=I.tuple hq
 refine assign_Tuple_tuple (I.ok.hd hc) ht (by simp[hn,<-hl,rv.length]) hst λh' hx=>?_
 have I1:Inv X pins σ H {s with heap:=h'}:=I.kept (t':=s.toks) λb o e=>hx b o (cc (a9 e)) e
 exact h pins _ σ H xs _ Q I1 (by simpa using rv) hw
noncomputable def gSub(to ti:TE)(t:TSet):TG:=λv σ H Q=>to σ H λo H1=>ti σ H1 λi H2=>t o i v H2 λH3=>Q σ H3
theorem pg_sub{o i:Expr}{to ti:TE}{t:TSet}(ho:PE X o to)(hi:PE X i ti)(hs:PSet X t)
  (ha:∀v,assign (.Subscript o i pos) X.env v=(do
   let ov <-holding [v] (eval o X.env)
   let iv <-holding [v,ov] (eval i X.env)
   standAt pos
   holding [v,ov,iv] (setItem ov iv v)
   release [v,ov,iv] []):=by intro _;rfl):PG X (.Subscript o i pos) (gSub to ti t):=by
 intro pins s σ H v u Q I r h
 rw[ha]
 refine aa (ei (thn (ho pins s σ H _ I h) λov s1 ⟨x,H1,I1,r1,q1⟩=>?_))
 refine aa (ei (thn (hi pins s1 σ H1 _ I1 q1) λiv s2 ⟨y,H2,I2,r2,q2⟩=>?_))
 refine aa (wpAny_standAt (aa (ei (thn (hs pins s2 σ H2 x y v ov iv u _ I2 r1 r2 r q2) λ_ s3 ⟨H3,I3,q3⟩=>?_))))
 exact wpAny_release ⟨σ,H3,I3,q3⟩
noncomputable def tAsg(te:TE)(g:TG):TS:=λD σ H=>te σ H λx H1=>g x σ H1 D.nx
theorem ps_asg{tg e:Expr}{te:TE}{g:TG}(he:PE X e te)(hg:PG X tg g)(hs:swapsWithSole [tg] e pos.line X.env=pure false:=by rfl)(hw:swappedStores [tg] e X.env=pure none:=by rfl)
  (h1:(assignEach [tg] X.env).map (·.2)=[assign tg X.env]:=by rfl):PS X (.Assign [tg] e pos) (tAsg te g):=by
 intro pins s σ H D I h
 refine wpAny_Assign_stores (thn (he pins s σ H _ I h) λv s1 ⟨x,H1,I1,r1,q1⟩=>?_) hs hw
 rw[h1]
 exact thn (hg pins s1 σ H1 x v _ I1 r1 q1) λ_ s2 q=>q
theorem k6{i:Nat}{x:Str}{e:Expr}{te:TE}{pos':Pos}(hN:X.N.Nodup)(hi:X.N[i]?=some x)(hx:Loc X.env.scope x)(he:PE X e te)(hs:swapsWith e (some (.Name x pos')) pos.line X.env=pure false:=by rfl)(hf:X.fn x=true\/X.env.scope.names.lookup x=some .local:=by first|exact .inl rfl|exact .inr rfl|assumption) :
  PS X (.Assign [.Name x pos'] e pos) (tAsg te (gName i)):=by
 intro pins s σ H D I h
 refine wpAny_Assign_Name (thn (he pins s σ H _ I h) λv s1 ⟨y,H1,I1,r1,q1⟩=>?_) hs
 exact store_ok I1 hN hi hx r1 (λs2 I2=>⟨_,H1,I2,q1⟩) hf
end
structure It where
 go:Nat->Hp->Prop
 yld:Nat->Hp->V->Hp->Prop
 stop:Nat->Hp->Prop
noncomputable def FpOk(X:Cx)(pins:List (Addr×Obj))(H:Hp)(b:Addr):Prop:=
 H b=none/\b≠X.env.locals/\b∉X.fs/\(b∈X.ex\/X.s₀.heap.objs.size<=b)/\(∀x c,X.env.cells.lookup x=some c->c≠b)/\∀p∈X.pn++pins,p.1≠b
theorem Inv.fpOk{X:Cx}{pins:List (Addr×Obj)}{σ:St}{H H':Hp}{s:Shared}{b:Addr}(I:Inv X pins σ H s)(hb:s.heap.objs.size<=b)(hn:H' b=none):FpOk X pins H' b:=by
 refine⟨hn,Nat.ne_of_gt (cj I.lt hb),I.nofs hb,.inr (gl I.sz hb),λx c e z=>?_,λp hp z=>?_⟩
 .obtain⟨v,q⟩:=I.cell x c e
  exact absurd (cj q.lt (by rw[z];exact hb)) (iw _)
 .exact absurd (cj (a9 (I.pin p hp).1) (by rw[z];exact hb)) (iw _)
structure Turn(P:Program)(w:World)(K:aq)(tg:Expr)(J:It)(fp:List Addr)(it:Addr)(tn:Nat->Heap->Prop):Prop where
 mem:it∈fp
 obj:∀i h,tn i h->∀b∈fp,∃o,h.get? b=some o/\∀v,o.data≠.cell v
 keep:∀i h h',tn i h->(∀b∈fp,∀o,h.get? b=some o->h'.get? b=some o)->tn i h'
 item:∀(X:Cx),X.prog=P->X.w=w->X.K=K->X.calm=true->∀(i:Nat) (pins:List (Addr×Obj)) (s:Shared) (σ:St) (H:Hp) (E:Value->Shared->Prop),Inv X pins σ H s->(∀b∈fp,FpOk X pins H b)->tn i s.heap->J.go i H->
  wpAny (model P w) X.A (pyNext (.ref it)) (λr s1=>∃u,r=some u/\
   wpAny (model P w) X.A (letOwnedTupleGo tg (.ref it) u) (λ_ s2=>∃x H',Inv X pins σ H' s2/\RelV x u/\J.yld i H x H'/\tn (i+1) s2.heap/\∀b∈fp,H' b=none) E s1) E s
 done:∀(X:Cx),X.prog=P->X.w=w->X.K=K->X.calm=true->∀(i:Nat) (pins:List (Addr×Obj)) (s:Shared) (σ:St) (H:Hp) (E:Value->Shared->Prop),Inv X pins σ H s->(∀b∈fp,FpOk X pins H b)->tn i s.heap->J.stop i H->
  wpAny (model P w) X.A (pyNext (.ref it)) (λr s1=>r=none/\Inv X pins σ H s1) E s
 self:∀(A:Around) (i:Nat) (s:Shared) (Q:Value->Shared->Prop) (E:Value->Shared->Prop),tn i s.heap->Q (.ref it) s->wpAny (model P w) A (pyIter (.ref it)) Q E s
noncomputable abbrev TI:=St->Hp->(It->Hp->Prop)->Prop
noncomputable def PIE(X:Cx)(pins:List (Addr×Obj))(σ:St)(tg:Expr)(R:It->Hp->Prop)(itv:Value)(s2:Shared):Prop:=
 ∃(it:Addr) (fp:List Addr) (tn:Nat->Heap->Prop) (J:It) (H':Hp),itv=.ref it/\Inv X pins σ H' s2/\Turn X.prog X.w X.K tg J fp it tn/\tn 0 s2.heap/\(∀b∈fp,FpOk X pins H' b)/\R J H'
noncomputable def PI(X:Cx)(tg iter:Expr)(wi:TI):Prop:=
 ∀(pins:List (Addr×Obj)) (s:Shared) (σ:St) (H:Hp) (R:It->Hp->Prop),Inv X pins σ H s->wi σ H R->
  wpAny (model X.prog X.w) X.A (eval iter X.env) (λv s1=>wpAny (model X.prog X.w) X.A (pyIter v) (PIE X pins σ tg R) X.xe s1) X.xe s
theorem go_of{M:Model}{A:Around}{E:Value->Shared->Prop}{s:Shared}{tg:Expr}{it:Addr}{u:Value}{o:Obj}{n:String}{vs:Array Value}{Q:Unit->Shared->Prop}(ho:s.heap.get? it=some o)(hc:o.cls=.type n)(hd:o.data=.fields vs)
  (hn:["enumerate","zip","dict_itemiterator","dict_reverseitemiterator","odict_iterator","itertools.zip_longest","itertools.pairwise"].contains n=false) (hQ:Q () s):wpAny M A (letOwnedTupleGo tg (.ref it) u) Q E s:=by
 unfold letOwnedTupleGo
 cases tg<;>first
  | exact af hQ
  | (cases u<;>first
    | exact af hQ
    | (refine aa (wpAny_load ho ?_)
       rw[hc,hd]
       show wpAny M A (if (["enumerate","zip","dict_itemiterator","dict_reverseitemiterator","odict_iterator","itertools.zip_longest","itertools.pairwise"].contains n&&vs[0]?==some (rawInt _))=true then _ else _) Q E s
       rw[if_neg (by intro h;rw[hn,Bool.false_and]at h;cases h)]
       exact af hQ))
noncomputable def Itl(K:aq)(a:Addr):It:=
 ⟨λi H=>∃xs x,SqL K H a xs/\xs[i]?=some x,λi H x H'=>H'=H/\∀xs,SqL K H a xs->xs[i]?=some x,λi H=>∃xs,SqL K H a xs/\xs.length<=i⟩
noncomputable def Itt(K:aq)(a:Addr):It:=
 ⟨λi H=>∃xs x,SqT K H a xs/\xs[i]?=some x,λi H x H'=>H'=H/\∀xs,SqT K H a xs->xs[i]?=some x,λi H=>∃xs,SqT K H a xs/\xs.length<=i⟩
noncomputable def Itr(lo:Int)(n:Nat):It:=⟨λi _=>i<n,λi H x H'=>H'=H/\x=.int (lo+i),λi _=>n<=i⟩
theorem turn_list{P:Program}{w:World}{K:aq}{tg:Expr}(a it:Addr):Turn P w K tg (Itl K a) [it] it (λi h=>h.IsListIter it a i)where
 mem:=by simp
 obj:=λi h st b hb=>by
  have e:b=it:=by simpa using hb
  subst e
  obtain⟨o,e,c,d⟩:=st
  exact⟨o,e,λv z=>by rw[d]at z;cases z⟩
 keep:=λi h h' st k=>st.at λo e=>k it (by simp) o e
 item:=by
  intro X hP hw hK hc i pins s σ H E I hf st hg
  subst hP hw hK
  obtain⟨xs,x,hq,hx⟩:=hg
  obtain⟨its,rv,p,hz⟩:=I.list hq
  obtain⟨u,hu,ru⟩:=rv.get hx
  obtain⟨f0,f1,f2,f3,f4,f5⟩:=hf it (by simp)
  refine wpAny_pyNext_list_item st p.isList (x:=u) (by simpa using hu) λh' st' sb=>?_
  have I1:Inv X pins σ H {s with heap:=h'}:=I.turned (t':=s.toks) (λb o hb e=>(sb.2 b hb).trans e) f0 f1 f3 f4 f5
  obtain⟨o,e,c,d⟩:=id st'
  exact⟨u,rfl,go_of (s:={s with heap:=h'}) e c d (by decide) ⟨x,H,I1,ru,⟨rfl,λys hy=>by rw[I.list_inj hy hq];exact hx⟩,st',λb hb=>(hf b hb).1⟩⟩
 done:=by
  intro X hP hw hK hc i pins s σ H E I hf st hg
  subst hP hw hK
  obtain⟨xs,hq,hx⟩:=hg
  obtain⟨its,rv,p,hz⟩:=I.list hq
  obtain⟨f0,f1,f2,f3,f4,f5⟩:=hf it (by simp)
  have hl:=rv.length
  exact wpAny_pyNext_list_end (I.ok.hd hc) st p.isList (by simp;omega) λh' eb=>⟨rfl,I.turned (t':=s.toks) (λb o hb e=>eb b o hb e) f0 f1 f3 f4 f5⟩
 self:=λ_ _ _ _ _ st h=>wpAny_pyIter_listiter st h
theorem turn_tuple{P:Program}{w:World}{K:aq}{tg:Expr}(a it:Addr):Turn P w K tg (Itt K a) [it] it (λi h=>h.IsTupleIter it a i)where
 mem:=by simp
 obj:=λi h st b hb=>by
  have e:b=it:=by simpa using hb
  subst e
  obtain⟨o,e,c,d⟩:=st
  exact⟨o,e,λv z=>by rw[d]at z;cases z⟩
 keep:=λi h h' st k=>st.at λo e=>k it (by simp) o e
 item:=by
  intro X hP hw hK hc i pins s σ H E I hf st hg
  subst hP hw hK
  obtain⟨xs,x,hq,hx⟩:=hg
  obtain⟨its,rv,p,hz⟩:=I.tuple hq
  obtain⟨u,hu,ru⟩:=rv.get hx
  obtain⟨f0,f1,f2,f3,f4,f5⟩:=hf it (by simp)
  refine wpAny_pyNext_tuple_item st (show s.heap.IsTuple a its.toArray from p) (x:=u) (by simpa using hu) λh' st' sb=>?_
  have I1:Inv X pins σ H {s with heap:=h'}:=I.turned (t':=s.toks) (λb o hb e=>(sb.2 b hb).trans e) f0 f1 f3 f4 f5
  obtain⟨o,e,c,d⟩:=id st'
  exact⟨u,rfl,go_of (s:={s with heap:=h'}) e c d (by decide) ⟨x,H,I1,ru,⟨rfl,λys hy=>by rw[I.tuple_inj hy hq];exact hx⟩,st',λb hb=>(hf b hb).1⟩⟩
 done:=by
  intro X hP hw hK hc i pins s σ H E I hf st hg
  subst hP hw hK
  obtain⟨xs,hq,hx⟩:=hg
  obtain⟨its,rv,p,hz⟩:=I.tuple hq
  obtain⟨f0,f1,f2,f3,f4,f5⟩:=hf it (by simp)
  have hl:=rv.length
  exact wpAny_pyNext_tuple_end (I.ok.hd hc) st (show s.heap.IsTuple a its.toArray from p) (by simp;omega) λh' eb=>⟨rfl,I.turned (t':=s.toks) (λb o hb e=>eb b o hb e) f0 f1 f3 f4 f5⟩
 self:=λ_ _ _ _ _ st h=>wpAny_pyIter_tupleiter st h
theorem turn_range{P:Program}{w:World}{K:aq}{tg:Expr}(it:Addr)(lo:Int)(n:Nat):Turn P w K tg (Itr lo n) [it] it (λi h=>IsRangeIter h it (lo+(i:Nat)*1) ((n:Int)-(i:Nat)) 1)where
 mem:=by simp
 obj:=λi h st b hb=>by
  have e:b=it:=by simpa using hb
  subst e
  exact⟨_,st,λv z=>by
   have z':Data.fields _=Data.cell v:=z
   cases z'⟩
 keep:=λi h h' st k=>k it (by simp) _ st
 item:=by
  intro X hP hw hK hc i pins s σ H E I hf st hg
  subst hP hw hK
  obtain⟨f0,f1,f2,f3,f4,f5⟩:=hf it (by simp)
  have W:=Walks.range (prog:=X.prog) (w:=X.w) (I.ok.hd hc) it lo 1 n
  refine W.item i s _ _ hg st λv h' tk hv st' kk=>?_
  obtain⟨t,rfl⟩:=hv
  have I1:Inv X pins σ H {s with heap:=h',toks:=tk}:=I.turned (λb o hb e=>kk b o (by simpa using hb) e) f0 f1 f3 f4 f5
  refine⟨_,rfl,go_of (s:={s with heap:=h',toks:=tk}) (n:="range_iterator") st' rfl rfl (by decide) ⟨.int (lo+i),H,I1,⟨t,?_⟩,⟨rfl,rfl⟩,st',λb hb=>(hf b hb).1⟩⟩
  rw[Int.mul_one]
 done:=by
  intro X hP hw hK hc i pins s σ H E I hf st hg
  subst hP hw hK
  obtain⟨f0,f1,f2,f3,f4,f5⟩:=hf it (by simp)
  exact wpAny_pyNext_range_end (I.ok.hd hc) st (by have:n<=i:=hg;omega) λh' eb=>⟨rfl,I.turned (t':=s.toks) (λb o hb e=>eb b o hb e) f0 f1 f3 f4 f5⟩
 self:=λ_ _ _ _ _ st h=>wpAny_pyIter_rangeiter st h
end L2
namespace L2
open PySem PySem.Spec PyProof.Rows
section
variable{X:Cx}{tg:Expr}
noncomputable def iList(K:aq)(tl:TE):TI:=λσ H R=>tl σ H λx H1=>∃a,x=.ref a/\(∃xs,SqL K H1 a xs)/\R (Itl K a) H1
noncomputable def iTup(K:aq)(tl:TE):TI:=λσ H R=>tl σ H λx H1=>∃a,x=.ref a/\(∃xs,SqT K H1 a xs)/\R (Itt K a) H1
theorem lm{l:Expr}{tl:TE}(hl:PE X l tl):PI X tg l (iList X.K tl):=by
 intro pins s σ H R I h
 refine thn (hl pins s σ H _ I h) λv s1 ⟨x,H1,I1,r1,q1⟩=>?_
 obtain⟨a,e,⟨xs,hq⟩,q⟩:=q1
 subst e
 cases r1
 obtain⟨its,rv,p,hz⟩:=I1.list hq
 refine wpAny_pyIter_list p.isList ?_
 refine⟨s1.heap.objs.size,[s1.heap.objs.size],_,_,H1,rfl,I1.kept (t':=s1.toks) λb o e=>ai _ e,turn_list a _,⟨_,ay _ rfl,rfl,rfl⟩,λb hb=>?_,q⟩
 have e:b=s1.heap.objs.size:=by simpa using hb
 subst e
 exact I1.fpOk (ao _) (I1.hok.fresh (ao _))
theorem pi_tup{l:Expr}{tl:TE}(hl:PE X l tl):PI X tg l (iTup X.K tl):=by
 intro pins s σ H R I h
 refine thn (hl pins s σ H _ I h) λv s1 ⟨x,H1,I1,r1,q1⟩=>?_
 obtain⟨a,e,⟨xs,hq⟩,q⟩:=q1
 subst e
 cases r1
 obtain⟨its,rv,p,hz⟩:=I1.tuple hq
 refine ja (show s1.heap.IsTuple a its.toArray from p) ?_
 refine⟨s1.heap.objs.size,[s1.heap.objs.size],_,_,H1,rfl,I1.kept (t':=s1.toks) λb o e=>ai _ e,turn_tuple a _,⟨_,ay _ rfl,rfl,rfl⟩,λb hb=>?_,q⟩
 have e:b=s1.heap.objs.size:=by simpa using hb
 subst e
 exact I1.fpOk (ao _) (I1.hok.fresh (ao _))
theorem range_it{pins:List (Addr×Obj)}{σ:St}{H:Hp}{s:Shared}{R:It->Hp->Prop}{E:Value->Shared->Prop}{lo hi:Int}{t u v:Tok}{tk:Nat}(I:Inv X pins σ H s)(h1:-(2^62)<=lo)(h2:lo<2^62)(h3:-(2^62)<=hi)(h4:hi<2^62)
  (q:R (Itr lo (hi-lo).toNat) H):wpAny (model X.prog X.w) X.A (pyIter (.ref s.heap.objs.size)) (PIE X pins σ tg R) E {s with heap:=s.heap.push {cls:=.type "range",data:=.fields #[.int lo t,.int hi u,.int 1 v]},toks:=tk}:=by
 refine wpAny_pyIter_range (IsRange.new ..) (small_one h1 h2 h3 h4) ?_
 have I1:Inv X pins σ H {s with heap:=s.heap.push {cls:=.type "range",data:=.fields #[.int lo t,.int hi u,.int 1 v]},toks:=tk}:=I.kept λb o e=>ai _ e
 refine⟨(s.heap.push {cls:=.type "range",data:=.fields #[.int lo t,.int hi u,.int 1 v]}).objs.size,[(s.heap.push {cls:=.type "range",data:=.fields #[.int lo t,.int hi u,.int 1 v]}).objs.size],_,_,H,rfl,
  I1.kept (t':=tk) λb o e=>ai _ e,turn_range _ lo (hi-lo).toNat,?_,λb hb=>?_,q⟩
 .have e1:lo+((0:Nat):Int)*1=lo:=by simp
  have e2:(((hi-lo).toNat:Nat):Int)-((0:Nat):Int)=Builtin.Range.rangeSize lo hi 1:=by rw[rangeSize_one];split<;>omega
  show IsRangeIter _ _ (lo+((0:Nat):Int)*1) ((((hi-lo).toNat:Nat):Int)-((0:Nat):Int)) 1
  rw[e1,e2]
  exact ay _ rfl
 .have e:b=(s.heap.push {cls:=.type "range",data:=.fields #[.int lo t,.int hi u,.int 1 v]}).objs.size:=by simpa using hb
  subst e
  exact I1.fpOk (ao _) (I1.hok.fresh (ao _))
noncomputable def iRng1(ta:TA):TI:=λσ H R=>ta σ H λvs H1=>∃j:Int,vs=[.int j]/\-(2^62)<=j/\j<2^62/\R (Itr 0 j.toNat) H1
theorem pi_range1{a:Expr}{ta:TA}{p pos:Pos}(hg:Gl X "range")(hm:X.mg "range" = none)(ha:PA X [a] ta)(hs:starEach [a] X.env=[(false,eval a X.env)]:=by rfl):PI X tg (.Call (.Name "range" p) [a] [] pos) (iRng1 ta):=by
 intro pins s σ H R I h
 refine Call_ (ld_blt I hg hm boot_range (g8 (thn (ha pos pins s σ H _ I h) λus s1 ⟨vs,H1,I1,r1,q1⟩=>?_) hs rfl))
 obtain⟨j,e,q1,q2,q⟩:=q1
 subst e
 cases r1 with
 | cons r rr=>
  cases rr
  obtain⟨t,rfl⟩:=r
  exact call_range_1 (range_it I1 (by omega) (by omega) q1 q2 (by simpa using q))
noncomputable def tFor(wi:TI)(g:TG)(tb:TS):TS:=λD σ H=>wi σ H λJ H1=>∃W:Nat->Nat->St->Hp->Prop,(∃m,W 0 m σ H1)/\∀i m σ H,W i m σ H->
 (J.stop i H/\D.nx σ H)\/(J.go i H/\∃N:St->Hp->Prop,(∀σ' H',N σ' H'->∃m',m'<m/\W (i+1) m' σ' H')/\∀x H',J.yld i H x H'->g x σ H' λσ2 H2=>tb {D with nx:=N,ct:=N,bk:=D.nx} σ2 H2)
noncomputable def pinsAt(fp:List Addr)(h:Heap):List (Addr×Obj):=fp.filterMap λb=>(h.get? b).map λo=>(b,o)
theorem mem_pinsAt{fp:List Addr}{h:Heap}{b:Addr}{o:Obj}(hb:b∈fp)(e:h.get? b=some o):(b,o)∈pinsAt fp h:=List.mem_filterMap.mpr ⟨b,hb,by rw[e];rfl⟩
theorem of_pinsAt{fp:List Addr}{h:Heap}{p:Addr×Obj}(hp:p∈pinsAt fp h):p.1∈fp/\h.get? p.1=some p.2:=by
 obtain⟨b,hb,e⟩:=List.mem_filterMap.mp hp
 cases q:h.get? b with
 | none=>rw[q]at e;cases e
 | some o=>
  rw[q]at e
  have e':(b,o)=p:=cy e
  subst e'
  exact⟨hb,q⟩
theorem Inv.pinned{pins:List (Addr×Obj)}{σ:St}{H:Hp}{s:Shared}{fp:List Addr}(I:Inv X pins σ H s)(hf:∀b∈fp,FpOk X pins H b)(ho:∀b∈fp,∃o,s.heap.get? b=some o/\∀v,o.data≠.cell v):Inv X (pins++pinsAt fp s.heap) σ H s:=
 I.pins_of λp hp=>(bm.mp hp).elim (λz=>I.pin p (cq _ z)) λz=>by
  obtain⟨hb,e⟩:=of_pinsAt z
  obtain⟨f0,f1,f2,_⟩:=hf p.1 hb
  obtain⟨o,e',d⟩:=ho p.1 hb
  rw[e]at e';cases e'
  exact⟨e,f0,f1,f2,d⟩
theorem Inv.unpinned{pins pl:List (Addr×Obj)}{σ:St}{H:Hp}{s:Shared}(I:Inv X (pins++pl) σ H s):Inv X pins σ H s:=I.pins_of λp hp=>I.pin p (cq _ (jf _ hp))
theorem m7{iter:Expr}{body:List Stmt}{wi:TI}{g:TG}{tb:TS}{pos:Pos}(hp:PassesOwn (model X.prog X.w) X.A X.env X.xe)(hc:X.calm=true)(hi:PI X tg iter wi)(hg:PG X tg g)(hb:PSs X body tb)
  (hs:∀x,foldedSetIterable iter X.env x=pure x:=by intro _;rfl):PS X (.For tg iter body [] pos) (tFor wi g tb):=by
 intro pins s σ H D I h
 refine wpAny_For (thn (hi pins s σ H _ I h) λv s1 h1=>thn h1 λitv s2 h2=>?_) hs
 obtain⟨it,fp,tn,J,H2,e,I2,T,st2,f2,W,⟨m0,w0⟩,turn⟩:=h2
 subst e
 have stat:∀{H':Hp},(∀b∈fp,H' b=none)->∀b∈fp,FpOk X pins H' b:=λhn b hb=>⟨hn b hb,(f2 b hb).2⟩
 refine codeAny_forLoop_any (λn s'=>∃i σ' H',Inv X pins σ' H' s'/\tn i s'.heap/\(∀b∈fp,H' b=none)/\W i n σ' H') ?_ m0 ⟨0,σ,H2,I2,st2,λb hb=>(f2 b hb).1,w0⟩
 rintro n s3 ⟨i,σ3,H3,I3,st3,fr3,w3⟩
 rcases turn i n σ3 H3 w3 with ⟨stop,qn⟩|⟨go,N,hN,step⟩
 .refine wpAny_passesOwn hp (thn (T.done X rfl rfl rfl hc i pins s3 σ3 H3 X.xe I3 (stat fr3) st3 stop) λr s4 ⟨hr,I4⟩=>?_)
  subst hr
  exact wpAny_execs_nil ⟨σ3,H3,I4,qn⟩
 .refine wpAny_passesOwn hp (thn (T.item X rfl rfl rfl hc i pins s3 σ3 H3 X.xe I3 (stat fr3) st3 go) λr s4 ⟨u,hr,h4⟩=>?_)
  subst hr
  refine wpAny_passesOwn hp (thn h4 λ_ s5 ⟨x,H5,I5,r5,y5,st5,fr5⟩=>?_)
  have I5':=I5.pinned (stat fr5) (T.obj _ _ st5)
  refine wpAny_passesOwn hp (thn (hg _ s5 σ3 H5 x u _ I5' r5 (step x H5 y5)) λ_ s6 ⟨σ6,H6,I6,q6⟩=>?_)
  refine wpAny_passesOwn hp (thn (hb _ s6 σ6 H6 _ I6 q6) λf s7 q7=>?_)
  have again:∀{σ7:St} {H7:Hp},Inv X (pins++pinsAt fp s5.heap) σ7 H7 s7->N σ7 H7->∃m,m<n/\∃i σ' H',Inv X pins σ' H' s7/\tn i s7.heap/\(∀b∈fp,H' b=none)/\W i m σ' H':=λ{σ7 H7} I7 n7=>by
   obtain⟨m',hm,w7⟩:=hN σ7 H7 n7
   refine⟨m',hm,i+1,σ7,H7,I7.unpinned,T.keep _ _ _ st5 λb hb o e=>(I7.pin (b,o) (cq _ (cq _ (mem_pinsAt hb e)))).1,λb hb=>?_,w7⟩
   obtain⟨o,e,d⟩:=T.obj _ _ st5 b hb
   exact(I7.pin (b,o) (cq _ (cq _ (mem_pinsAt hb e)))).2.1
  cases f with
  | next=>obtain⟨σ7,H7,I7,n7⟩:=q7;exact again I7 n7
  | cont=>obtain⟨σ7,H7,I7,n7⟩:=q7;exact again I7 n7
  | brk=>obtain⟨σ7,H7,I7,q7⟩:=q7;exact⟨σ7,H7,I7.unpinned,q7⟩
  | ret v=>obtain⟨x7,σ7,H7,I7,r7,q7⟩:=q7;exact⟨x7,σ7,H7,I7.unpinned,r7,q7⟩
end
theorem o8{K:aq}{a:Addr}{xs:List V}{g:TG}{tb:TS}{D:Ends}{σ:St}{H:Hp}(Pv:Nat->St->Hp->Prop)(h0:Pv 0 σ H)(hl:∀i σ H,i<=xs.length->Pv i σ H->SqL K H a xs)
  (hs:∀i x σ H,xs[i]?=some x->Pv i σ H->g x σ H λσ2 H2=>tb {D with nx:=Pv (i+1),ct:=Pv (i+1),bk:=D.nx} σ2 H2) (hd:∀σ H,Pv xs.length σ H->D.nx σ H) :
  ∃W:Nat->Nat->St->Hp->Prop,(∃m,W 0 m σ H)/\∀i m σ H,W i m σ H->
   ((Itl K a).stop i H/\D.nx σ H)\/((Itl K a).go i H/\∃N:St->Hp->Prop,(∀σ' H',N σ' H'->∃m',m'<m/\W (i+1) m' σ' H')/\∀x H',(Itl K a).yld i H x H'->g x σ H' λσ2 H2=>tb {D with nx:=N,ct:=N,bk:=D.nx} σ2 H2):=by
 refine⟨λi m σ H=>m=xs.length-i/\i<=xs.length/\Pv i σ H,⟨xs.length,by simp,en _,h0⟩,?_⟩
 rintro i m σ H ⟨rfl,hi,p⟩
 have q:=hl i σ H hi p
 by_cases hlt:i<xs.length
 .refine .inr ⟨⟨xs,xs[i],q,by simp[hlt]⟩,Pv (i+1),λσ' H' p'=>⟨xs.length-(i+1),by omega,rfl,hlt,p'⟩,λx H' y=>?_⟩
  obtain⟨e,y⟩:=y
  subst e
  exact hs i x σ _ (y xs q) p
 .have e:i=xs.length:=by omega
  subst e
  exact .inl ⟨⟨xs,q,ao _⟩,hd σ H p⟩
theorem for_tup{K:aq}{a:Addr}{xs:List V}{g:TG}{tb:TS}{D:Ends}{σ:St}{H:Hp}(Pv:Nat->St->Hp->Prop)(h0:Pv 0 σ H)(hl:∀i σ H,i<=xs.length->Pv i σ H->SqT K H a xs)
  (hs:∀i x σ H,xs[i]?=some x->Pv i σ H->g x σ H λσ2 H2=>tb {D with nx:=Pv (i+1),ct:=Pv (i+1),bk:=D.nx} σ2 H2) (hd:∀σ H,Pv xs.length σ H->D.nx σ H) :
  ∃W:Nat->Nat->St->Hp->Prop,(∃m,W 0 m σ H)/\∀i m σ H,W i m σ H->
   ((Itt K a).stop i H/\D.nx σ H)\/((Itt K a).go i H/\∃N:St->Hp->Prop,(∀σ' H',N σ' H'->∃m',m'<m/\W (i+1) m' σ' H')/\∀x H',(Itt K a).yld i H x H'->g x σ H' λσ2 H2=>tb {D with nx:=N,ct:=N,bk:=D.nx} σ2 H2):=by
 refine⟨λi m σ H=>m=xs.length-i/\i<=xs.length/\Pv i σ H,⟨xs.length,by simp,en _,h0⟩,?_⟩
 rintro i m σ H ⟨rfl,hi,p⟩
 have q:=hl i σ H hi p
 by_cases hlt:i<xs.length
 .refine .inr ⟨⟨xs,xs[i],q,by simp[hlt]⟩,Pv (i+1),λσ' H' p'=>⟨xs.length-(i+1),by omega,rfl,hlt,p'⟩,λx H' y=>?_⟩
  obtain⟨e,y⟩:=y
  subst e
  exact hs i x σ _ (y xs q) p
 .have e:i=xs.length:=by omega
  subst e
  exact .inl ⟨⟨xs,q,ao _⟩,hd σ H p⟩
theorem oj{lo:Int}{n:Nat}{g:TG}{tb:TS}{D:Ends}{σ:St}{H:Hp}(Pv:Nat->St->Hp->Prop)(h0:Pv 0 σ H)
  (hs:∀i σ H,i<n->Pv i σ H->g (.int (lo+i)) σ H λσ2 H2=>tb {D with nx:=Pv (i+1),ct:=Pv (i+1),bk:=D.nx} σ2 H2) (hd:∀σ H,Pv n σ H->D.nx σ H) :
  ∃W:Nat->Nat->St->Hp->Prop,(∃m,W 0 m σ H)/\∀i m σ H,W i m σ H->
   ((Itr lo n).stop i H/\D.nx σ H)\/((Itr lo n).go i H/\∃N:St->Hp->Prop,(∀σ' H',N σ' H'->∃m',m'<m/\W (i+1) m' σ' H')/\∀x H',(Itr lo n).yld i H x H'->g x σ H' λσ2 H2=>tb {D with nx:=N,ct:=N,bk:=D.nx} σ2 H2):=by
 refine⟨λi m σ H=>m=n-i/\i<=n/\Pv i σ H,⟨n,by simp,en _,h0⟩,?_⟩
 rintro i m σ H ⟨rfl,hi,p⟩
 by_cases hlt:i<n
 .refine .inr ⟨hlt,Pv (i+1),λσ' H' p'=>⟨n-(i+1),by omega,rfl,hlt,p'⟩,λx H' y=>?_⟩
  obtain⟨e,y⟩:=y
  subst e y
  exact hs i σ _ hlt p
 .have e:i=n:=by omega
  subst e
  exact .inl ⟨ao _,hd σ H p⟩
end L2
namespace L2
open PySem PySem.Spec PyProof.Rows
noncomputable abbrev R2:=V->V->Hp->VK->Prop
noncomputable def OpR(X:Cx)(f:Value->Value->Sem Value)(r:R2):Prop:=
 ∀(pins:List (Addr×Obj)) (s:Shared) (σ:St) (H:Hp) (x y:V) (v u:Value) (Q:VK),Inv X pins σ H s->RelV x v->RelV y u->r x y H Q->
  wpAny (model X.prog X.w) X.A (f v u) (EP X pins σ Q) X.xe s
noncomputable def UnR(X:Cx)(f:Value->Sem Value)(r:V->Hp->VK->Prop):Prop:=
 ∀(pins:List (Addr×Obj)) (s:Shared) (σ:St) (H:Hp) (x:V) (v:Value) (Q:VK),Inv X pins σ H s->RelV x v->r x H Q->
  wpAny (model X.prog X.w) X.A (f v) (EP X pins σ Q) X.xe s
noncomputable def CallR(X:Cx)(f:Value)(r:List V->Hp->VK->Prop):Prop:=
 ∀(pins:List (Addr×Obj)) (s:Shared) (σ:St) (H:Hp) (xs:List V) (us:List Value) (Q:VK),Inv X pins σ H s->Vals xs us->r xs H Q->
  wpAny (model X.prog X.w) X.A (call f us) (EP X pins σ Q) X.xe s
noncomputable def tOp(r:R2)(ta tb:TE):TE:=λσ H Q=>ta σ H λx H1=>tb σ H1 λy H2=>r x y H2 Q
noncomputable def tUn(r:V->Hp->VK->Prop)(ta:TE):TE:=λσ H Q=>ta σ H λx H1=>r x H1 Q
noncomputable def rI(C:Int->Int->Prop)(g:Int->Int->V):R2:=λx y H Q=>∃i j,x=.int i/\y=.int j/\C i j/\Q (g i j) H
noncomputable def rI0(g:Int->Int->V):R2:=λx y H Q=>∃i j,x=.int i/\y=.int j/\Q (g i j) H
noncomputable def rU(g:Int->V):V->Hp->VK->Prop:=λx H Q=>∃i,x=.int i/\Q (g i) H
section
variable{X:Cx}{a b c:Expr}{ta tb tc:TE}{pos:Pos}
theorem binT(ha:PE X a ta)(hb:PE X b tb){pins:List (Addr×Obj)}{s:Shared}{σ:St}{H:Hp}{R:V->V->Hp->Prop}(I:Inv X pins σ H s)
  (h:ta σ H λx H1=>tb σ H1 λy H2=>R x y H2) {Q:Value->Shared->Prop} {f:Value->Value->Sem Value}
  (hf:∀v u s2 x y H2,Inv X pins σ H2 s2->RelV x v->RelV y u->R x y H2->wpAny (model X.prog X.w) X.A (f v u) Q X.xe s2) :
  wpAny (model X.prog X.w) X.A (eval a X.env) (λv s₁=>wpAny (model X.prog X.w) X.A (eval b X.env) (λu s₂=>wpAny (model X.prog X.w) X.A (f v u) Q X.xe s₂) X.xe s₁) X.xe s:=by
 refine thn (ha pins s σ H _ I h) λv s1 ⟨x,H1,I1,r1,q1⟩=>?_
 refine thn (hb pins s1 σ H1 _ I1 q1) λu s2 ⟨y,H2,I2,r2,q2⟩=>?_
 exact hf v u s2 x y H2 I2 r1 r2 q2
theorem pe_op{op:Operator}{r:R2}(ho:OpR X (binaryOp op) r)(ha:PE X a ta)(hb:PE X b tb):PE X (.BinOp a op b pos) (tOp r ta tb):=by
 intro pins s σ H Q I h
 exact wpAny_BinOp (binT ha hb I h λv u s2 x y H2 I2 rx ry q=>ho pins s2 σ H2 x y v u Q I2 rx ry q)
theorem pe_un{op:UnaryOp}{r:V->Hp->VK->Prop}(ho:UnR X (unaryOp op) r)(ha:PE X a ta):PE X (.UnaryOp op a pos) (tUn r ta):=by
 intro pins s σ H Q I h
 exact UnaryOp_ (thn (ha pins s σ H _ I h) λv s1 ⟨x,H1,I1,r1,q1⟩=>ho pins s1 σ H1 x v Q I1 r1 q1)
theorem opI{f:Value->Value->Sem Value}{C:Int->Int->Prop}{g:Int->Int->Int}
  (rule:∀(i j:Int) (t u:Tok) (s:Shared) (Q:Value->Shared->Prop) (E:Value->Shared->Prop),C i j->Q (.int (g i j) s.toks) {s with toks:=s.toks+1}->wpAny (model X.prog X.w) X.A (f (.int i t) (.int j u)) Q E s) :
  OpR X f (rI C λi j=>.int (g i j)):=by
 intro pins s σ H x y v u Q I rx ry h
 obtain⟨i,j,rfl,rfl,hc,q⟩:=h
 obtain⟨t,rfl⟩:=rx
 obtain⟨t',rfl⟩:=ry
 exact rule i j t t' s _ _ hc ⟨.int (g i j),H,I.tok _,⟨_,rfl⟩,q⟩
theorem opI0{f:Value->Value->Sem Value}{g:Int->Int->Int}
  (rule:∀(i j:Int) (t u:Tok) (s:Shared) (Q:Value->Shared->Prop) (E:Value->Shared->Prop),Q (.int (g i j) s.toks) {s with toks:=s.toks+1}->wpAny (model X.prog X.w) X.A (f (.int i t) (.int j u)) Q E s) :
  OpR X f (rI0 λi j=>.int (g i j)):=by
 intro pins s σ H x y v u Q I rx ry h
 obtain⟨i,j,rfl,rfl,q⟩:=h
 obtain⟨t,rfl⟩:=rx
 obtain⟨t',rfl⟩:=ry
 exact rule i j t t' s _ _ ⟨.int (g i j),H,I.tok _,⟨_,rfl⟩,q⟩
theorem opB0{f:Value->Value->Sem Value}{g:Int->Int->Bool}
  (rule:∀(i j:Int) (t u:Tok) (s:Shared) (Q:Value->Shared->Prop) (E:Value->Shared->Prop),Q (.bool (g i j)) s->wpAny (model X.prog X.w) X.A (f (.int i t) (.int j u)) Q E s) :
  OpR X f (rI0 λi j=>.bl (g i j)):=by
 intro pins s σ H x y v u Q I rx ry h
 obtain⟨i,j,rfl,rfl,q⟩:=h
 obtain⟨t,rfl⟩:=rx
 obtain⟨t',rfl⟩:=ry
 exact rule i j t t' s _ _ ⟨.bl (g i j),H,I,rfl,q⟩
noncomputable def CDiv(i j:Int):Prop:=0<j/\j<1073741824
noncomputable def CPow(i j:Int):Prop:=0<=j/\j<=1000000/\i.natAbs<2^64
noncomputable def CMul(i j:Int):Prop:=(-(2^64)<i/\i<2^64)\/(-(2^64)<j/\j<2^64)
theorem CMul.ok{i j:Int}(h:CMul i j):IntMulOk i j:=by
 rcases h with ⟨h1,h2⟩|⟨h1,h2⟩
 .exact .of_left (intBits_le_64 h1 h2)
 .exact .of_right (intBits_le_64 h1 h2)
theorem nq:OpR X (binaryOp .Add) (rI0 λi j=>.int (i+j)):=opI0 λ_ _ _ _ _ _ _ q=>add_int q
theorem op_sub:OpR X (binaryOp .Sub) (rI0 λi j=>.int (i-j)):=opI0 λ_ _ _ _ _ _ _ q=>sub_int q
theorem op_mul:OpR X (binaryOp .Mult) (rI CMul λi j=>.int (i*j)):=opI λ_ _ _ _ _ _ _ hc q=>mul_int q hc.ok
theorem op_fdiv:OpR X (binaryOp .FloorDiv) (rI CDiv λi j=>.int (i/j)):=opI λi j _ _ _ _ _ hc q=>by
 have h1:(0:Int)<j:=hc.1
 have h2:j<1073741824:=hc.2
 exact floordiv_int (by omega) (by rw[Int.fdiv_eq_ediv_of_nonneg i (by omega)];exact q) (.inl (PyProof.noPylong_small (by omega)))
theorem op_mod:OpR X (binaryOp .Mod) (rI (λ_ j=>0<j) λi j=>.int (i % j)):=opI λi j _ _ _ _ _ hc q=>by
 have h1:(0:Int)<j:=hc
 exact mod_int' (by omega) (by rw[Int.fmod_eq_emod_of_nonneg i (by omega)];exact q)
theorem op_pow:OpR X (binaryOp .Pow) (rI CPow λi j=>.int (i^j.toNat)):=opI λ_ _ _ _ _ _ _ hc q=>pow_int_small hc.1 hc.2.1 hc.2.2 q
theorem unI{f:Value->Sem Value}{g:Int->Int}
  (rule:∀(i:Int) (t:Tok) (s:Shared) (Q:Value->Shared->Prop) (E:Value->Shared->Prop),Q (.int (g i) s.toks) {s with toks:=s.toks+1}->wpAny (model X.prog X.w) X.A (f (.int i t)) Q E s) :
  UnR X f (rU λi=>.int (g i)):=by
 intro pins s σ H x v Q I rx h
 obtain⟨i,rfl,q⟩:=h
 obtain⟨t,rfl⟩:=rx
 exact rule i t s _ _ ⟨.int (g i),H,I.tok _,⟨_,rfl⟩,q⟩
theorem un_neg:UnR X (unaryOp .USub) (rU λi=>.int (-i)):=unI λ_ _ _ _ _ q=>neg_int q
end
noncomputable def scal:V->V->Bool
 | .non,.non=>true|.non,.int _=>true|.int _,.non=>true|.non,.bl _=>true|.bl _,.non=>true|.non,.str _=>true|.str _,.non=>true
 | .int _,.int _=>true|.bl _,.bl _=>true|.str _,.str _=>true|.byt _,.byt _=>true
 | .int _,.str _=>true|.str _,.int _=>true|.bl _,.str _=>true|.str _,.bl _=>true
 | _,_=>false
noncomputable def rEq:R2:=λx y H Q=>scal x y=true/\Q (.bl (decide (x=y))) H
noncomputable def rNe:R2:=λx y H Q=>scal x y=true/\Q (.bl (!decide (x=y))) H
theorem dec_int{i j:Int}:decide (V.int i=V.int j)=(i==j):=by
 rw[fg]
 simp
theorem dec_bl{i j:Bool}:decide (V.bl i=V.bl j)=(i==j):=by
 rw[fg]
 simp
theorem dec_str{i j:Str}:decide (V.str i=V.str j)=(i==j):=by
 rw[fg]
 simp
theorem dec_byt{i j:Array UInt8}:decide (V.byt i=V.byt j)=(i.toList==j.toList):=by
 rw[fg]
 cases i
 cases j
 simp
section
variable{X:Cx}{a b c:Expr}{ta tb tc:TE}{pos:Pos}
theorem lv{pins:List (Addr×Obj)}{σ:St}{H:Hp}{s:Shared}{Q:VK}{k k':Bool}(I:Inv X pins σ H s)(q:Q (.bl k) H)(e:k=k'):EP X pins σ Q (.bool k') s:=by
 subst e
 exact⟨.bl k,H,I,rfl,q⟩
theorem op_eq:OpR X (compareOp .Eq) rEq:=by
 intro pins s σ H x y v u Q I rx ry h
 obtain⟨hs,q⟩:=h
 cases x with
 | non=>
  cases rx
  cases y with
  | non=>cases ry;exact PySem.EqNone.eq_none_none (lv I q (by simp))
  | bl j=>cases ry;exact PySem.EqNone.eq_none_bool (lv I q (by simp))
  | int j=>obtain⟨t',rfl⟩:=ry;exact PySem.EqNone.eq_none_int (lv I q (by simp))
  | str j=>obtain⟨t',rfl⟩:=ry;exact PySem.EqNone.eq_none_str (lv I q (by simp))
  | _=>exact absurd (show false=true from hs) ah
 | bl i=>
  cases rx
  cases y with
  | non=>cases ry;exact PySem.EqNone.eq_bool_none (lv I q (by simp))
  | bl j=>cases ry;exact eq_bool (lv I q dec_bl)
  | str j=>obtain⟨t',rfl⟩:=ry;exact PySem.EqMixed.eq_bool_str (lv I q (by simp))
  | _=>exact absurd (show false=true from hs) ah
 | int i=>
  obtain⟨t,rfl⟩:=rx
  cases y with
  | non=>cases ry;exact PySem.EqNone.eq_int_none (lv I q (by simp))
  | int j=>obtain⟨t',rfl⟩:=ry;exact eq_int (lv I q dec_int)
  | str j=>obtain⟨t',rfl⟩:=ry;exact PySem.EqMixed.eq_int_str (lv I q (by simp))
  | _=>exact absurd (show false=true from hs) ah
 | str i=>
  obtain⟨t,rfl⟩:=rx
  cases y with
  | non=>cases ry;exact PySem.EqNone.eq_str_none (lv I q (by simp))
  | bl j=>cases ry;exact PySem.EqMixed.eq_str_bool (lv I q (by simp))
  | int j=>obtain⟨t',rfl⟩:=ry;exact PySem.EqMixed.eq_str_int (lv I q (by simp))
  | str j=>obtain⟨t',rfl⟩:=ry;exact eq_str (lv I q dec_str)
  | _=>exact absurd (show false=true from hs) ah
 | byt i=>
  obtain⟨t,rfl⟩:=rx
  cases y with
  | byt j=>obtain⟨t',rfl⟩:=ry;exact PySem.W.eq_bytes (lv I q dec_byt)
  | _=>exact absurd (show false=true from hs) ah
 | _=>cases y<;>exact absurd (show false=true from hs) ah
theorem op_ne:OpR X (compareOp .NotEq) rNe:=by
 intro pins s σ H x y v u Q I rx ry h
 obtain⟨hs,q⟩:=h
 cases x with
 | non=>
  cases rx
  cases y with
  | non=>cases ry;exact PySem.EqNone.ne_none_none (lv I q (by simp))
  | bl j=>cases ry;exact PySem.EqNone.ne_none_bool (lv I q (by simp))
  | int j=>obtain⟨t',rfl⟩:=ry;exact PySem.EqNone.ne_none_int (lv I q (by simp))
  | str j=>obtain⟨t',rfl⟩:=ry;exact PySem.EqNone.ne_none_str (lv I q (by simp))
  | _=>exact absurd (show false=true from hs) ah
 | bl i=>
  cases rx
  cases y with
  | non=>cases ry;exact PySem.EqNone.ne_bool_none (lv I q (by simp))
  | bl j=>cases ry;exact ne_bool (lv I q (congrArg not dec_bl))
  | str j=>obtain⟨t',rfl⟩:=ry;exact PySem.EqMixed.ne_bool_str (lv I q (by simp))
  | _=>exact absurd (show false=true from hs) ah
 | int i=>
  obtain⟨t,rfl⟩:=rx
  cases y with
  | non=>cases ry;exact PySem.EqNone.ne_int_none (lv I q (by simp))
  | int j=>obtain⟨t',rfl⟩:=ry;exact ne_int (lv I q (congrArg not dec_int))
  | str j=>obtain⟨t',rfl⟩:=ry;exact PySem.EqMixed.ne_int_str (lv I q (by simp))
  | _=>exact absurd (show false=true from hs) ah
 | str i=>
  obtain⟨t,rfl⟩:=rx
  cases y with
  | non=>cases ry;exact PySem.EqNone.ne_str_none (lv I q (by simp))
  | bl j=>cases ry;exact PySem.EqMixed.ne_str_bool (lv I q (by simp))
  | int j=>obtain⟨t',rfl⟩:=ry;exact PySem.EqMixed.ne_str_int (lv I q (by simp))
  | str j=>obtain⟨t',rfl⟩:=ry;exact ne_str (lv I q (congrArg not dec_str))
  | _=>exact absurd (show false=true from hs) ah
 | byt i=>
  obtain⟨t,rfl⟩:=rx
  cases y with
  | byt j=>obtain⟨t',rfl⟩:=ry;exact PySem.W.ne_bytes (lv I q (congrArg not dec_byt))
  | _=>exact absurd (show false=true from hs) ah
 | _=>cases y<;>exact absurd (show false=true from hs) ah
theorem op_lt:OpR X (compareOp .Lt) (rI0 λi j=>.bl (decide (i<j))):=opB0 λ_ _ _ _ _ _ _ q=>lt_int q
theorem op_le:OpR X (compareOp .LtE) (rI0 λi j=>.bl (decide (i<=j))):=opB0 λ_ _ _ _ _ _ _ q=>le_int q
theorem op_gt:OpR X (compareOp .Gt) (rI0 λi j=>.bl (decide (j<i))):=opB0 λ_ _ _ _ _ _ _ q=>gt_int q
theorem op_ge:OpR X (compareOp .GtE) (rI0 λi j=>.bl (decide (j<=i))):=opB0 λ_ _ _ _ _ _ _ q=>ge_int q
theorem op_notN:OpR X (compareOp .IsNot) (λx y H Q=>y=.non/\Q (.bl (!decide (x=.non))) H):=by
 intro pins s σ H x y v u Q I rx ry h
 obtain⟨rfl,q⟩:=h
 cases ry
 refine isnot_none_gen (lv I q ?_)
 cases x<;>first
  | (cases rx;rfl)
  | (obtain⟨t,rfl⟩:=rx;rfl)
theorem m9(b:Expr){op:CmpOp}(h:op≠.In:=by decide)(h2:op≠.NotIn:=by decide):behindInMarks op b=false:=by
 have e1:(op==CmpOp.In)=false:=by cases op<;>first|rfl|exact absurd rfl h
 have e2:(op==CmpOp.NotIn)=false:=by cases op<;>first|rfl|exact absurd rfl h2
 cases b<;>simp[behindInMarks,e1,e2]
theorem pe_cmpR{op:CmpOp}{r:R2}(ho:OpR X (compareOp op) r)(ha:PE X a ta)(hb:PE X b tb)(hm:behindInMarks op b=false):PE X (.Compare a [op] [b] pos) (tOp r ta tb):=by
 intro pins s σ H Q I h
 exact wpAny_Compare1 (binT ha hb I h λv u s2 x y H2 I2 rx ry q=>ho pins s2 σ H2 x y v u Q I2 rx ry q) hm
noncomputable def tTest(t:TE):TT:=λσ H Q=>t σ H λx H'=>∃k,x=.bl k/\Q k H'
theorem l7{op:CmpOp}{r:R2}(ho:OpR X (compareOp op) r)(ha:PE X a ta)(hb:PE X b tb)(hm:behindInMarks op b=false):PT X (.Compare a [op] [b] pos) (tTest (tOp r ta tb)):=by
 intro pins s σ H Q I h
 refine wpAny_isTrue_Compare1 (thn (ha pins s σ H _ I h) λv s1 ⟨x,H1,I1,r1,q1⟩=>thn (hb pins s1 σ H1 _ I1 q1) λu s2 ⟨y,H2,I2,r2,q2⟩=>
  thn (ho pins s2 σ H2 x y v u _ I2 r1 r2 q2) λc s3 ⟨z,H3,I3,r3,k,e,q3⟩=>?_) hm
 subst e
 cases r3
 exact f8 ⟨H3,I3,q3⟩
noncomputable def tChain(r r':R2)(ta tb tc:TE):TE:=λσ H Q=>ta σ H λx H1=>tb σ H1 λy H2=>r x y H2 λz H3=>∃k,z=.bl k/\
 (if k=true then tc σ H3 λw' H4=>r' y w' H4 Q else Q (.bl false) H3)
theorem pe_chain{op op':CmpOp}{r r':R2}(ho:OpR X (compareOp op) r)(ho':OpR X (compareOp op') r')(ha:PE X a ta)(hb:PE X b tb)(hc:PE X c tc)
  (hm:lastMarks [op,op'] [b,c]=false:=by with_unfolding_all rfl):PE X (.Compare a [op,op'] [b,c] pos) (tChain r r' ta tb tc):=by
 intro pins s σ H Q I h
 refine Compare_chain (thn (ha pins s σ H _ I h) λv s1 ⟨x,H1,I1,r1,q1⟩=>chain_link (thn (hb pins s1 σ H1 _ I1 q1) λu s2 ⟨y,H2,I2,r2,q2⟩=>
  thn (ho pins s2 σ H2 x y v u _ I2 r1 r2 q2) λd s3 ⟨z,H3,I3,r3,k,e,q3⟩=>?_)) hm
 subst e
 cases r3
 refine f8 ?_
 cases k with
 | false=>exact ite_ff ⟨.bl false,H3,I3,rfl,q3⟩
 | true=>exact ite_tt (chain_last (thn (hc pins s3 σ H3 _ I3 q3) λw' s4 ⟨z',H4,I4,r4,q4⟩=>ho' pins s4 σ H4 y z' u w' Q I4 r2 r4 q4))
theorem pt_chain{op op':CmpOp}{r r':R2}(ho:OpR X (compareOp op) r)(ho':OpR X (compareOp op') r')(ha:PE X a ta)(hb:PE X b tb)(hc:PE X c tc)
  (hm:lastMarks [op,op'] [b,c]=false:=by with_unfolding_all rfl):PT X (.Compare a [op,op'] [b,c] pos) (tTest (tChain r r' ta tb tc)):=by
 intro pins s σ H Q I h
 refine isTrue_chain (thn (ha pins s σ H _ I h) λv s1 ⟨x,H1,I1,r1,q1⟩=>test_link (thn (hb pins s1 σ H1 _ I1 q1) λu s2 ⟨y,H2,I2,r2,q2⟩=>
  thn (ho pins s2 σ H2 x y v u _ I2 r1 r2 q2) λd s3 ⟨z,H3,I3,r3,k,e,q3⟩=>?_)) hm
 subst e
 cases r3
 refine f8 ?_
 cases k with
 | false=>
  obtain⟨k',e',q'⟩:=q3
  cases e'
  exact ite_ff ⟨H3,I3,q'⟩
 | true=>
  refine ite_tt (test_last (thn (hc pins s3 σ H3 _ I3 q3) λw' s4 ⟨z',H4,I4,r4,q4⟩=>thn (ho' pins s4 σ H4 y z' u w' _ I4 r2 r4 q4) λd' s5 ⟨z2,H5,I5,r5,k2,e2,q5⟩=>?_))
  subst e2
  cases r5
  exact f8 ⟨H5,I5,q5⟩
theorem line63:(sizeLine:Nat)<2^63:=by rw[gi];decide
theorem op_add_str:OpR X (binaryOp .Add) (λx y H Q=>∃i j,x=.str i/\y=.str j/\i.length+j.length<=sizeLine/\Q (.str (i++j)) H):=by
 intro pins s σ H x y v u Q I rx ry h
 obtain⟨i,j,rfl,rfl,hz,q⟩:=h
 obtain⟨t,rfl⟩:=rx
 obtain⟨t',rfl⟩:=ry
 exact add_str (λt' tk=>⟨.str (i++j),H,I.tok _,⟨_,rfl⟩,q⟩) hz
theorem vals1{x:V}{us:List Value}(r:Vals [x] us):∃u,us=[u]/\RelV x u:=by
 cases r with
 | cons r1 r2=>cases r2;exact⟨_,rfl,r1⟩
theorem vals2{x y:V}{us:List Value}(r:Vals [x,y] us):∃u w',us=[u,w']/\RelV x u/\RelV y w':=by
 cases r with
 | cons r1 r2=>
  cases r2 with
  | cons r3 r4=>cases r4;exact⟨_,_,rfl,r1,r3⟩
theorem call_abs:CallR X (.builtin "abs") (λxs H Q=>∃i,xs=[.int i]/\Q (.int (if i<0 then -i else i)) H):=by
 intro pins s σ H xs us Q I r h
 obtain⟨i,rfl,q⟩:=h
 obtain⟨u,rfl,t,rfl⟩:=vals1 r
 exact call_abs_int λu tk=>⟨.int (if i<0 then -i else i),H,I.tok _,⟨_,rfl⟩,q⟩
theorem call_min2(hc:X.calm=true):CallR X (.builtin "min") (λxs H Q=>∃i j,xs=[.int i,.int j]/\Q (.int (if j<i then j else i)) H):=by
 intro pins s σ H xs us Q I r h
 obtain⟨i,j,rfl,q⟩:=h
 obtain⟨u,w',rfl,⟨t,rfl⟩,⟨t',rfl⟩⟩:=vals2 r
 refine min_two_ints (I.ok.hd hc) λh' tk k=>⟨_,H,I.kept k,?_,q⟩
 by_cases hj:j<i
 .rw[if_pos hj,if_pos hj];exact⟨_,rfl⟩
 .rw[if_neg hj,if_neg hj];exact⟨_,rfl⟩
theorem call_int1:CallR X (.type "int") (λxs H Q=>(∃i,xs=[.int i]/\Q (.int i) H)\/∃k,xs=[.bl k]/\Q (.int (if k then 1 else 0)) H):=by
 intro pins s σ H xs us Q I r h
 rcases h with ⟨i,rfl,q⟩|⟨k,rfl,q⟩
 .obtain⟨u,rfl,t,rfl⟩:=vals1 r
  exact call_int_int ⟨.int i,H,I,⟨_,rfl⟩,q⟩
 .obtain⟨u,rfl,r1⟩:=vals1 r
  cases r1
  exact call_int_bool ⟨.int (if k then 1 else 0),H,I.tok _,⟨_,rfl⟩,q⟩
end
end L2
namespace L2
open PySem PySem.Spec PyProof.Rows
structure ObjM(h:Heap)(x dx C:Addr)(mA:Str->Option Value):Prop where
 obj:h.get? x=some (PySem.W.instObj C dx)
 ns:h.Ns1 dx mA
 ne:dx≠x
theorem lookIn_ns{h:Heap}{dx:Addr}{mA:Str->Option Value}(n:h.Ns1 dx mA):∃od,h.get? dx=some od/\∀name,PySem.W.lookIn name od=some (mA name):=by
 obtain⟨o,es,ep,ho,hd,hk,_,hm⟩:=n
 refine⟨o,ho,λname=>?_⟩
 have e:=hm name
 unfold nsFind findBy at e
 rw[<-Array.find?_toList]at e
 unfold PySem.W.lookIn
 rw[hd]
 dsimp only
 split
 .rename_i y q
  rw[q]at e
  exact congrArg some e
 .rename_i q
  rw[q]at e
  have a:es.toList.any (·.refKey)=false:=by
   rw[List.any_eq_false]
   intro y hy
   obtain⟨z,t,hkey⟩:=hk y (Array.mem_toList_iff.mp hy)
   simp[DictEntry.refKey,hkey]
  have a':¬es.toList.any (·.refKey)=true:=by rw[a];exact ah
  rw[if_neg a']
  exact congrArg some e
theorem ObjM.look{h:Heap}{x dx C:Addr}{mA:Str->Option Value}(I:ObjM h x dx C mA):∃od,PySem.W.InstAt h x (PySem.W.instObj C dx) C (some od)/\∀name,PySem.W.lookIn name od=some (mA name):=
 let ⟨od,ho,hl⟩:=lookIn_ns I.ns
 ⟨od,⟨I.obj,rfl,rfl,ho⟩,hl⟩
section
variable{P:Program}{w:World}{H H':Hp}{h h':Heap}{a C dx:Addr}{fs fs':List (Str×V)}
theorem ins_get(hok:HOk P w H h)(e:H a=some (.ins C dx fs)):∃mA,ObjM h a dx C mA/\(∀f,RelO (fs.lookup f) (mA f))/\PySem.Within mA (fs.map (·.1))/\fs.length<=1000/\H dx=some (.own a):=by
 obtain⟨d,z,ne,ob,mA,n,r,q⟩:=(show ObjOk P w H h a (.ins C dx fs)from hok a _ e)
 exact⟨mA,⟨ob,n,ne⟩,r,q,z,d⟩
end
structure Cls(K:aq)(C:Addr):Prop where
 pg:PySem.W.plainGet K C Str.empty=true
 hd:PySem.W.hasDictIn K C=true
 po:PySem.W.plainOver K C=true
 sa:PySem.W.findIn K (.ref C) "__setattr__" = some (some (.builtin "object.__setattr__"))
theorem Cls.get{K:aq}{C:Addr}(c:Cls K C)(f:Str):PySem.W.plainGet K C f=true:=c.pg
section
variable{X:Cx}{pins:List (Addr×Obj)}{σ:St}{H:Hp}{s:Shared}{A:Around}{E:Value->Shared->Prop}{Q:Value->Shared->Prop}{c:Value}{b:Bool}
inductive TyOf(K:aq)(H:Hp):V->Value->Prop where
 | non:TyOf K H .non (.type "NoneType")
 | bl (x:Bool):TyOf K H (.bl x) (.type "bool")
 | int (i:Int):TyOf K H (.int i) (.type "int")
 | str (x:Str):TyOf K H (.str x) (.type "str")
 | flt (x:UInt64):TyOf K H (.flt x) (.type "float")
 | lst {a:Addr} {xs:List V} (e:H a=some (.lst xs)):TyOf K H (.ref a) (.type "list")
 | frz {a:Addr} {o:Obj} {xs:List V} (e:H a=some (.frz o (.lst xs))):TyOf K H (.ref a) (.type "list")
 | tup {a:Addr} {xs:List V} (e:H a=some (.tup xs)):TyOf K H (.ref a) (.type "tuple")
 | dK {a:Addr} {kvs:List (Key×V)} (e:H a=some (.dK kvs)):TyOf K H (.ref a) (.type "dict")
 | dT {a:Addr} {kvs:List (List Key×V)} (e:H a=some (.dT kvs)):TyOf K H (.ref a) (.type "dict")
 | ins {a C dx:Addr} {fs:List (Str×V)} (e:H a=some (.ins C dx fs)) (cl:Cls K C) (ha:PySem.W.findIn K (.ref C) "__class__" = some (some (.builtin "object.__class__")))
   (hn:PySem.W.specialIn K (.builtin "object.__class__") "__get__" = some (some (.builtin "getset_descriptor.__get__"))) (htk:PySem.W.takesIn K (.builtin "object.__class__")=some true)
   (hm:PySem.W.mroIn K C (.type "object")=some true):TyOf K H (.ref a) (.ref C)
theorem isinst_ok{x:V}{u t:Value}(I:Inv X pins σ H s)(rx:RelV x u)(ty:TyOf X.K H x t)(e:PySem.W.kitOne X.K t c=some b)(h:∀tk,Q (.bool b) {s with toks:=tk}) :
  wpAny (model X.prog X.w) A (call (.builtin "isinstance") [u,c]) Q E s:=by
 cases ty with
 | non=>cases (show u=Value.none from rx);exact g9 PySem.W.kitx_none I.kIn True.intro e (λz=>nomatch z) h
 | bl y=>cases (show u=Value.bool y from rx);exact g9 PySem.W.kitx_bool I.kIn True.intro e (λz=>nomatch z) h
 | int i=>obtain⟨t,q⟩:=(show ∃t,u=Value.int i t from rx);cases q;exact g9 PySem.W.kitx_int I.kIn True.intro e (λz=>nomatch z) h
 | str y=>obtain⟨t,q⟩:=(show ∃t,u=Value.str y t from rx);cases q;exact g9 PySem.W.kitx_str I.kIn True.intro e (λz=>nomatch z) h
 | flt y=>obtain⟨t,q⟩:=(show ∃t,u=Value.float y t from rx);cases q;exact g9 PySem.W.kitx_float I.kIn True.intro e (λz=>nomatch z) h
 | @lst a xs ea=>
  cases (show u=Value.ref a from rx)
  obtain⟨_,_,n,_,h1⟩:=(show ObjOk X.prog X.w H s.heap a (.lst xs)from I.hok a _ ea)
  exact g9 PySem.W.kitx_list I.kIn ⟨_,h1,rfl⟩ e (λz=>nomatch z) h
 | @frz a ob xs ea=>
  cases (show u=Value.ref a from rx)
  obtain⟨_,_,_,n,_,h1⟩:=(show ObjOk X.prog X.w H s.heap a (.frz ob (.lst xs))from I.hok a _ ea)
  exact g9 PySem.W.kitx_list I.kIn ⟨_,h1,rfl⟩ e (λz=>nomatch z) h
 | @tup a xs ea=>
  cases (show u=Value.ref a from rx)
  obtain⟨_,_,_,p⟩:=(show ObjOk X.prog X.w H s.heap a (.tup xs)from I.hok a _ ea)
  obtain⟨o,h1,h2,_⟩:=p
  exact g9 PySem.W.kitx_tuple I.kIn ⟨o,h1,h2⟩ e (λz=>nomatch z) h
 | @dK a kvs ea=>
  cases (show u=Value.ref a from rx)
  obtain⟨_,_,vs,_,p⟩:=(show ObjOk X.prog X.w H s.heap a (.dK kvs)from I.hok a _ ea)
  obtain⟨o,es,ep,h1,h2,_⟩:=p
  exact g9 PySem.W.kitx_dict I.kIn ⟨o,h1,h2.1⟩ e (λz=>nomatch z) h
 | @dT a kvs ea=>
  cases (show u=Value.ref a from rx)
  obtain⟨_,_,xs,_,o,es,ep,h1,h2,_⟩:=(show ObjOk X.prog X.w H s.heap a (.dT kvs)from I.hok a _ ea)
  exact g9 PySem.W.kitx_dict I.kIn ⟨o,h1,h2.1⟩ e (λz=>nomatch z) h
 | @ins a C dx fs ea cl ha hn htk hm=>
  cases (show u=Value.ref a from rx)
  obtain⟨mA,O,_⟩:=ins_get I.hok ea
  obtain⟨od,J,_⟩:=O.look
  exact g9 (PySem.W.kitx_own (cl.get _) cl.hd ha hn htk hm) I.kIn J e (λz=>nomatch z) h
end
end L2
namespace L2
open PySem PySem.Spec PyProof.Rows
structure Room(k:Nat)(A:Around):Prop where
 hd:A.handled=none
 dp:A.depth+3*k+5<recursionLimit
 un:A.units+16*k+200<cLine
theorem Room.mono{j k:Nat}{A:Around}(r:Room k A)(h:j<=k):Room j A:=⟨r.hd,by have:=r.dp;omega,by have:=r.un;omega⟩
theorem Room.deeper{k:Nat}{A:Around}(r:Room (k+1) A)(env:Env):Room k (A.deeper env):=
 ⟨r.hd,by have:=r.dp;show A.depth+1+3*k+5<_;omega,by have:=r.un;show A.units+3+16*k+200<_;omega⟩
theorem Room.depth{k:Nat}{A:Around}(r:Room k A):A.depth<recursionLimit:=by have:=r.dp;omega
theorem Room.units{k:Nat}{A:Around}(r:Room k A):A.units+64<cLine:=by have:=r.un;omega
noncomputable def tNil:TA:=λ_ H Q=>Q [] H
noncomputable def tCons(ta:TE)(tr:TA):TA:=λσ H Q=>ta σ H λx H1=>tr σ H1 λxs H2=>Q (x::xs) H2
section
variable{X:Cx}{e:Expr}{es:List Expr}{te:TE}{t:TA}{pos:Pos}
theorem kb:PA X [] tNil:=λ_ _ _ _ H Q I h=>Calls.spliced_nil ⟨[],H,I,.nil,h⟩
theorem pa_cons(ha:PE X e te)(hr:PA X es t)(hs:starEach (e::es) X.env=(false,eval e X.env)::starEach es X.env:=by rfl):PA X (e::es) (tCons te t):=by
 intro pos pins s σ H Q I h
 rw[hs]
 show wpAny _ _ (spliced ((false,eval e X.env)::backTo pos (starEach es X.env))) _ _ s
 refine Calls.spliced_cons (thn (ha pins s σ H _ I h) λu s1 ⟨x,H1,I1,r1,q1⟩=>?_)
 exact thn (hr pos pins s1 σ H1 _ I1 q1) λus s2 ⟨xs,H2,I2,r2,q2⟩=>⟨x::xs,H2,I2,.cons r1 r2,q2⟩
noncomputable def tTup(t:TA):TE:=λσ H Q=>t σ H λxs H1=>xs.length<=sizeLine/\∀p,H1 p=none->Q (.ref p) (upd H1 p (.tup xs))
noncomputable def tLst(t:TA):TE:=λσ H Q=>t σ H λxs H1=>xs.length<=sizeLine/\∀p,H1 p=none->Q (.ref p) (upd H1 p (.lst xs))
theorem lc{x1}(h:PA X es t):PE X (.Tuple es x1 pos) (tTup t):=by
 intro pins s σ H Q I hq
 refine wpAny_Tuple_spliced (thn (h pos pins s σ H _ I hq) λus s1 ⟨xs,H1,I1,r,z,q⟩=>⟨by rw[<-r.length];exact z,?_⟩)
 have hf:H1 s1.heap.objs.size=none:=I1.hok.fresh (ao _)
 refine⟨.ref s1.heap.objs.size,upd H1 s1.heap.objs.size (.tup xs),I1.laid (t':=s1.toks) (λb u e=>ai _ e) (ao _) ?_,rfl,q _ hf⟩
 exact⟨z,us,r,⟨_,ay _ rfl,rfl,_,rfl⟩⟩
theorem ny(h:PA X es t):PE X (.List es pos) (tLst t):=by
 intro pins s σ H Q I hq
 refine wpAny_List_spliced (thn (h pos pins s σ H _ I hq) λus s1 ⟨xs,H1,I1,r,z,q⟩=>⟨by rw[<-r.length];exact z,?_⟩)
 have hf:H1 s1.heap.objs.size=none:=I1.hok.fresh (ao _)
 refine⟨.ref s1.heap.objs.size,upd H1 s1.heap.objs.size (.lst xs),I1.laid (t':=s1.toks) (λb u e=>ai _ e) (ao _) ?_,rfl,q _ hf⟩
 exact⟨z,us,0,r,ay _ rfl⟩
end
noncomputable abbrev Sp:=List V->Hp->VK->XK->Prop
noncomputable abbrev CXT:=List Env->Hp->Shared->XK->Value->Shared->Prop
structure Env0(P:Program)(w:World)(K:aq)(mg:Str->Option Value)(base:Heap)(A:Around)(outer:List Env)(s:Shared)(H:Hp):Prop where
 frames:A.frames=some outer
 mod:Mod K mg base
 bs:∀b o,base.get? b=some o->s.heap.get? b=some o/\H b=none
 bsz:base.objs.size<=s.heap.objs.size
 funs:s.heap.FunFrames base outer
 frf:∀b∈frs outer,H b=none
 hok:HOk P w H s.heap
 bare:AllBare s.gens
noncomputable def CE(outer:List Env)(P:Program)(w:World)(H:Hp)(s:Shared)(Q:VK)(u:Value)(s':Shared):Prop:=
 ∃v H',s'.os=s.os/\AllBare s'.gens/\Un (frs outer) [] H H' s.heap s'.heap/\HOk P w H' s'.heap/\RelV v u/\Q v H'
noncomputable def CR(CX:CXT)(outer:List Env)(P:Program)(w:World)(H:Hp)(s:Shared)(Q:VK)(E:XK)(r:Result)(s':Shared):Prop:=
 match r with
 | .ok (.ret u)=>CE outer P w H s Q u s'
 | .ok _=>False
 | .error e=>CX outer H s E e s'
structure FnOk(P:Program)(w:World)(K:aq)(mg:Str->Option Value)(base:Heap)(CX:CXT)(k:Nat)(f:Addr)(fd:FuncData)(ps:List Str)(sp:Sp):Prop where
 len:∀vs H Q E,sp vs H Q E->vs.length=ps.length
 run:∀(A:Around) (outer:List Env) (s:Shared) (H:Hp) (args:Args) (us:List Value) (vs:List V) (Q:VK) (E:XK),Room k A->Env0 P w K mg base A outer s H->BindsTo s fd args (ps.zip us)->Vals vs us->sp vs H Q E->
  codeAny (model P w) A (.call (.ref f) args) (CR CX outer P w H s Q E) s
section
variable{X:Cx}{pins:List (Addr×Obj)}{σ:St}{H:Hp}{s s':Shared}
theorem Inv.env0(I:Inv X pins σ H s):Env0 X.prog X.w X.K X.mg X.base X.A X.stack s H:=
 ⟨I.ok.frames,I.ok.mod,I.bs,gl I.ok.bsz I.sz,I.stack,I.stkFree,I.hok,I.bare⟩
theorem Inv.after{Q:VK}{u:Value}(I:Inv X pins σ H s)(h:CE X.stack X.prog X.w H s Q u s'):EP X pins σ Q u s':=by
 obtain⟨v,H',os,bare,un,hok,r,q⟩:=h
 obtain⟨hh,g,d,t,os'⟩:=s'
 obtain rfl:os'=s.os:=os
 exact⟨v,H',I.call (h':=hh) (g':=g) (d':=d) (t':=t) (ch:=[]) un hok bare (λb z=>absurd z (by simp)),r,q⟩
end
noncomputable def tCall(sp:Sp)(dvs:List V)(E:XK)(t:TA):TE:=λσ H Q=>t σ H λvs H1=>sp (vs++dvs) H1 Q E
noncomputable def Binds(K:aq)(fd:FuncData)(ps:List Str)(ds:List Value):Prop:=
 ∀(s:Shared) (us:List Value),K.In s.heap->(us++ds).length=ps.length->BindsTo s fd ⟨us,[]⟩ (ps.zip (us++ds))
theorem Binds.all{K:aq}{fd:FuncData}{ps:List Str}(h:∀us:List Value,us.length=ps.length->bindArgs fd ⟨us,[]⟩=pure (ps.zip us)):Binds K fd ps []:=λs us _ hl=>by
 rw[ck]at hl⊢
 exact .of_eq (h us hl)
noncomputable def Passes(CX:CXT)(X:Cx)(E:XK):Prop:=∀(pins:List (Addr×Obj)) (σ:St) (H:Hp) (s:Shared) (e:Value) (s':Shared),Inv X pins σ H s->CX X.stack H s E e s'->X.xe e s'
section
variable{X:Cx}{CX:CXT}{k:Nat}{f C:Addr}{fd:FuncData}{ps:List Str}{sp:Sp}{dvs:List V}{ds:List Value}{E:XK}{x m:Str}{p pos apos:Pos}{e o:Expr}{es:List Expr}{ta:TE}{t:TA}
theorem run_fn{pins:List (Addr×Obj)}{σ:St}{H:Hp}{s:Shared}{Q:VK}{us:List Value}{vs:List V}(F:FnOk X.prog X.w X.K X.mg X.base CX k f fd ps sp)(hr:Room k X.A)(hb:Binds X.K fd ps ds)(hd:Vals dvs ds)(hx:Passes CX X E)
  (I:Inv X pins σ H s) (r:Vals vs us) (h:sp (vs++dvs) H Q E):wpAny (model X.prog X.w) X.A (call (.ref f) us) (EP X pins σ Q) X.xe s:=by
 have r2:Vals (vs++dvs) (us++ds):=r.append hd
 have hl:(us++ds).length=ps.length:=by rw[<-r2.length];exact F.len _ _ _ _ h
 refine wpAny_call (codeAny_mono (F.run X.A X.stack s H ⟨us,[]⟩ (us++ds) (vs++dvs) Q E hr I.env0 (hb s us I.kIn hl) r2 h) λr s' hq=>?_)
 cases r with
 | error e=>exact hx pins σ H s e s' I hq
 | ok fl=>
  cases fl with
  | ret u=>exact I.after hq
  | next=>exact False.elim hq
  | brk=>exact False.elim hq
  | cont=>exact False.elim hq
theorem pe_call(F:FnOk X.prog X.w X.K X.mg X.base CX k f fd ps sp)(hr:Room k X.A)(hg:Gl X x)(hm:X.mg x=some (.ref f))(hk:PySem.W.keepIn X.K (.ref f)=true)(hb:Binds X.K fd ps ds)(hd:Vals dvs ds)(hx:Passes CX X E)
  (ha:PA X (e::es) t) (hdb:(x==("__debug__" : Str))=false:=by decide) (he:starEach (e::es) X.env=(false,eval e X.env)::starEach es X.env:=by rfl) (hpl:(backTo pos (starEach es X.env)).any (·.1)=false:=by rfl) :
  PE X (.Call (.Name x p) (e::es) [] pos) (tCall sp dvs E t):=by
 intro pins s σ H Q I h
 refine ip (ld_glob I hg hm ?_ hdb)
 refine PySem.W.callWith_K (h₀:=X.base) I.ok.mod.kin hk (thn (ha pos pins s σ H _ I h) λus s1 ⟨vs,H1,I1,r,q⟩=>⟨I1.kIn,?_⟩) he hpl
 exact run_fn F hr hb hd hx I1 r q
end
noncomputable def PK(X:Cx)(kws:List Keyword)(t:TA):Prop:=
 ∀(pos:Pos) (pins:List (Addr×Obj)) (s:Shared) (σ:St) (H:Hp) (Q:List V->Hp->Prop),Inv X pins σ H s->t σ H Q->wpAny (model X.prog X.w) X.A (evalAll ((backToKw pos (keywordEach kws X.env)).map (·.2))) (AP X pins σ Q) X.xe s
section
variable{X:Cx}{CX:CXT}{k:Nat}{f C:Addr}{fd:FuncData}{ps ks:List Str}{sp:Sp}{E:XK}{x m:Str}{p pos apos kpos:Pos}{e o:Expr}{es:List Expr}{kws:List Keyword}{te ta:TE}{t tk:TA}{nm:Option Str}
theorem pk_nil:PK X [] tNil:=λ_ _ _ _ H Q I h=>wpAny_evalAll_nil ⟨[],H,I,.nil,h⟩
theorem pk_cons(ha:PE X e te)(hr:PK X kws t):PK X (⟨nm,e,kpos⟩::kws) (tCons te t):=by
 intro pos pins s σ H Q I h
 show wpAny _ _ (evalAll ((do let v <-eval e X.env;standAt pos;pure v)::(backToKw pos (keywordEach kws X.env)).map (·.2))) _ _ s
 refine wpAny_evalAll_cons (aa (thn (ha pins s σ H _ I h) λu s1 ⟨x,H1,I1,r1,q1⟩=>aa (wpAny_standAt (af ?_))))
 exact thn (hr pos pins s1 σ H1 _ I1 q1) λus s2 ⟨xs,H2,I2,r2,q2⟩=>⟨x::xs,H2,I2,.cons r1 r2,q2⟩
variable{g:List Value->List Value->List Value}{gV:List V->List V->List V}
end
structure ky(N P:List Str)(sc:Scope):Prop where
 kind:sc.kind=.function
 co:sc.isCoroutine=false
 gen:sc.isGenerator=false
 nd:N.Nodup
 pre:N.take P.length=P
 par:∀x∈P,sc.names.lookup x=some .local\/sc.names.lookup x=some .cell
 nofree:∀y∈sc.names,y.2≠.free
theorem bindL_out{kindOf:Str->Option NameKind}{x:Str}:∀{binds:List (Str×Value)} {m:Str->Option Value},(∀v,(x,v)∉binds)->bindL kindOf binds m x=m x
 | [],_,_=>rfl
 | (n,v)::r,m,h=>by
  unfold bindL
  rw[bindL_out λw hw=>h w (av _ hw)]
  split
  .have:x≠n:=by rintro rfl;exact h v au
   simp[this]
  .rfl
theorem bindC_out{kindOf:Str->Option NameKind}{x:Str}:∀{binds:List (Str×Value)} {m:Str->Option Value},(∀v,(x,v)∉binds)->bindC kindOf binds m x=m x
 | [],_,_=>rfl
 | (n,v)::r,m,h=>by
  unfold bindC
  rw[bindC_out λw hw=>h w (av _ hw)]
  split
  .rfl
  .have:x≠n:=by rintro rfl;exact h v au
   simp[this]
theorem bindL_get{kindOf:Str->Option NameKind}{x:Str}{v:Value}:∀{P:List Str} {vs:List Value} {i:Nat} {m:Str->Option Value},P.Nodup->P[i]?=some x->vs[i]?=some v->kindOf x=some .local->
  bindL kindOf (P.zip vs) m x=some v
 | [],_,_,_,_,h,_,_=>by simp at h
 | _::_,[],_,_,_,_,h,_=>by simp at h
 | p::P,w::vs,0,m,nd,h1,h2,hk=>by
  simp at h1 h2;subst h1;subst h2
  show bindL kindOf ((p,w)::P.zip vs) m p=_
  unfold bindL
  rw[bindL_out λv hv=>(jy.mp nd).1 (List.of_mem_zip hv).1,if_pos hk]
  simp
 | p::P,w::vs,i+1,m,nd,h1,h2,hk=>by
  show bindL kindOf ((p,w)::P.zip vs) m x=_
  unfold bindL
  exact bindL_get (i:=i) (jy.mp nd).2 (by simpa using h1) (by simpa using h2) hk
theorem bindC_get{kindOf:Str->Option NameKind}{x:Str}{v:Value}:∀{P:List Str} {vs:List Value} {i:Nat} {m:Str->Option Value},P.Nodup->P[i]?=some x->vs[i]?=some v->kindOf x≠some .local->
  bindC kindOf (P.zip vs) m x=some v
 | [],_,_,_,_,h,_,_=>by simp at h
 | _::_,[],_,_,_,_,h,_=>by simp at h
 | p::P,w::vs,0,m,nd,h1,h2,hk=>by
  simp at h1 h2;subst h1;subst h2
  show bindC kindOf ((p,w)::P.zip vs) m p=_
  unfold bindC
  rw[bindC_out λv hv=>(jy.mp nd).1 (List.of_mem_zip hv).1,if_neg hk]
  simp
 | p::P,w::vs,i+1,m,nd,h1,h2,hk=>by
  show bindC kindOf ((p,w)::P.zip vs) m x=_
  unfold bindC
  exact bindC_get (i:=i) (jy.mp nd).2 (by simpa using h1) (by simpa using h2) hk
noncomputable def start(N:List Str)(vs:List V):St:=vs.map some++List.replicate (N.length-vs.length) none
noncomputable def cxOf(CX:CXT)(P:Program)(w:World)(K:aq)(mg:Str->Option Value)(base:Heap)(N:List Str)(qual:Str)(scope:Scope)(f:Addr)(cd:Value)(A:Around)(outer:List Env)(s:Shared)(H:Hp)(E:XK):Cx where
 prog:=P
 w:=w
 K:=K
 mg:=mg
 base:=base
 A:=A.deeper (envOfC qual scope s.heap.objs.size f cd)
 N:=N
 s₀:=s
 H₀:=H
 env:=envOfC qual scope s.heap.objs.size f cd
 outer:=outer
 stack:=envOfC qual scope s.heap.objs.size f cd::outer
 ex:=[]
 calm:=true
 fn:=λ_=>true
 pn:=[]
 xe:=λe s'=>wpAny (model P w) (A.deeper (envOfC qual scope s.heap.objs.size f cd)) (leaving (envOfC qual scope s.heap.objs.size f cd) e) (λ_ s''=>CX outer H s E e s'') (λe' s''=>CX outer H s E e' s'') s'
theorem cell_has{sc:Scope}{n:Nat}{x:Str}(h:sc.names.lookup x=some .cell):∃c,(cellsFrom n sc.names []).lookup x=some c:=by
 have q:=PySem.W.cellsFrom_some sc.names n [] (.inl h)
 exact Option.isSome_iff_exists.mp q
theorem inv_start{CX:CXT}{P:Program}{w:World}{K:aq}{mg:Str->Option Value}{base:Heap}{N ps:List Str}{qual:Str}{scope:Scope}{f:Addr}{cd:Value}{A:Around}{outer:List Env}{s s1:Shared}{H:Hp}{E:XK}{us:List Value}{vs:List V}
  (S:ky N ps scope) (hd:A.handled=none) (e0:Env0 P w K mg base A outer s H) (hl:vs.length=ps.length) (r:Vals vs us)
  (x:InCallC s s.heap.objs.size (bindL (envOfC qual scope s.heap.objs.size f cd).kindOf (ps.zip us) λ_=>none) (cellsFrom (s.heap.objs.size+1) scope.names []) (bindC (envOfC qual scope s.heap.objs.size f cd).kindOf (ps.zip us) λ_=>none) s1) :
  Inv (cxOf CX P w K mg base N qual scope f cd A outer s H E) [] (start N vs) H s1:=by
 have hpl:ps.length<=N.length:=by have:=congrArg List.length S.pre;rw[bx]at this;omega
 obtain⟨h1,tk,rfl,hk⟩:=x.done
 have noA:∀b:Addr,b∉(cxOf CX P w K mg base N qual scope f cd A outer s H E).ex:=λb z=>absurd (show b∈([]:List Addr)from z) (by simp)
 refine⟨⟨e0.mod,S.kind,rfl,rfl,ao _,λy z c h1 h2=>?_,λy hy=>?_,λy c _ h=>?_,λ_=>hd,Around.frames_deeper e0.frames,.inr ⟨rfl,rfl⟩,λb z=>absurd z (noA b),e0.bs,e0.bsz,λb _ _=>noA b,λb z=>absurd z (noA b),e0.funs,e0.frf⟩,
  rfl,e0.bare,Un.kept hk,⟨_,x.toInCall.ns,λi y v h1 h2 h3=>?_⟩,λy c h=>⟨_,x.cell y c h⟩,e0.hok.fresh (ao _),λy c h=>?_,λp hp=>absurd (show p∈([]:List (Addr×Obj))from hp) (by simp),e0.hok.kept hk,?_⟩
 .exact name_of_addr x.apart (ie h1) (ie h2)
 .have hy:scope.names.lookup y=some .cell\/scope.names.lookup y=some .free:=hy
  rcases hy with hy|hy
  .exact cell_has hy
  .exact absurd rfl (S.nofree _ (ie hy))
 .exact ic (x.above y c (ie h))
 .have hi:i<vs.length:=by
   unfold start at h2
   by_cases hi:i<vs.length
   .exact hi
   .rw[c9 (by simpa using hi)]at h2
    rw[List.getElem?_replicate]at h2
    split at h2<;>cases h2
  have ha:vs[i]?=some v:=by
   unfold start at h2
   rw[gd (by simpa using hi),be]at h2
   cases e:vs[i]? with
   | none=>rw[e]at h2;cases h2
   | some a=>rw[e]at h2;cases h2;rfl
  obtain⟨u,hu,rv⟩:=r.get ha
  have hp:ps[i]?=some y:=by
   rw[<-S.pre,dh (by omega)];exact h1
  have ndP:ps.Nodup:=by rw[<-S.pre];exact S.nd.sublist (List.take_sublist _ _)
  refine⟨u,rv,?_⟩
  rcases S.par y (am hp)with k|k
  .exact .inl ⟨k,bindL_get ndP hp hu k⟩
  .obtain⟨c,e⟩:=cell_has (n:=s.heap.objs.size+1) k
   refine .inr ⟨.inl k,c,e,?_⟩
   have q:=x.cell y c e
   rw[bindC_get ndP hp hu (by show scope.names.lookup y≠_;rw[k];decide)]at q
   exact q
 .exact e0.hok.fresh (ic (x.above y c (ie h)))
 .unfold start
  show _=N.length
  rw[bo,aj,List.length_replicate]
  omega
theorem fn_of{CX:CXT}{P:Program}{w:World}{K:aq}{mg:Str->Option Value}{base:Heap}{k:Nat}{f:Addr}{name qual:Str}{params:Arguments}{body:List Stmt}{scope:Scope}{dV kV doc pm cdv ct oc:Value}{an od:Option Addr}
  {osl:Array (Option Value)} {N ps:List Str} {sp:Sp} (lk:K.lookup f=some ⟨oc,od,.func (jz name qual params body scope dV kV doc pm an cdv ct),osl⟩) (hcd:PySem.W.codeIn K cdv qual=true) (S:ky N ps scope)
  (len:∀vs H Q E,sp vs H Q E->vs.length=ps.length)
  (hbody:∀(A:Around) (outer:List Env) (s:Shared) (H:Hp) (vs:List V) (Q:VK) (E:XK),Room k (A.deeper (envOfC qual scope s.heap.objs.size f cdv))->sp vs H Q E->
   ∃t,PSs (cxOf CX P w K mg base N qual scope f cdv A outer s H E) body t/\t {nx:=λ_ H'=>Q .non H',rt:=Q} (start N vs) H) :
  FnOk P w K mg base CX (k+1) f (jz name qual params body scope dV kV doc pm an cdv ct) ps sp:=by
 refine⟨len,λA outer s H args us vs Q E hr e0 hb r hsp=>?_⟩
 have hl:=len _ _ _ _ hsp
 have KX:K.In s.heap:=e0.mod.kin.keeps λb o e=>(e0.bs b o e).1
 have lim:s.heap.NoLimit:=e0.mod.nolimit.keeps λb o e=>(e0.bs b o e).1
 have hkind:∀y∈ps.zip us,scope.names.lookup y.1=some .local\/(scope.names.lookup y.1=some .cell/\((cellsFrom (s.heap.objs.size+1) scope.names []).lookup y.1).isSome=true):=λ⟨n,v⟩ hy=>by
  rcases S.par n (List.of_mem_zip hy).1 with q|q
  .exact .inl q
  .exact .inr ⟨q,PySem.W.cellsFrom_some _ _ _ (.inl q)⟩
 refine codeAny_call_function hr.depth (KX _ _ lk) rfl S.co S.gen rfl (PySem.W.codeRec_of KX hcd) (hb _ _ _ _ ?_)
 refine wpAny_newFunctionEnv_cells S.kind hkind λenv he s1 x=>?_
 subst he
 refine⟨lim.keeps x.toInCall.keep,codeAny_func ?_⟩
 obtain⟨t,ht,hq⟩:=hbody A outer s H vs Q E (hr.deeper _) hsp
 have I:Inv (cxOf CX P w K mg base N qual scope f cdv A outer s H E) [] (start N vs) H s1:=inv_start S hr.hd e0 hl r x
 refine jg (ht [] s1 (start N vs) H _ I hq) (λfl s' hs=>?_) λe s' hs=>hs
 have fin:∀{σ':St} {H':Hp} {v:V} {u:Value},Inv (cxOf CX P w K mg base N qual scope f cdv A outer s H E) [] σ' H' s'->RelV v u->Q v H'->CE outer P w H s Q u s':=
  λ{σ' H' v u} J rv q=>⟨v,H',J.os,J.bare,J.base,J.hok,rv,q⟩
 cases fl with
 | ret u=>
  obtain⟨v,σ',H',J,rv,q⟩:=hs
  exact fin J rv q
 | next=>
  obtain⟨σ',H',J,q⟩:=hs
  exact fin (v:=V.non) (u:=Value.none) J rfl q
 | brk=>
  obtain⟨_,_,_,q⟩:=hs
  exact False.elim q
 | cont=>
  obtain⟨_,_,_,q⟩:=hs
  exact False.elim q
end L2
namespace L2
open PySem PySem.Spec PyProof.Rows
section
variable{X:Cx}{x:Str}{p pos:Pos}{e:Expr}{es:List Expr}{t:TA}{id T:String}{r:List V->Hp->VK->Prop}
noncomputable def tCB(r:List V->Hp->VK->Prop)(t:TA):TE:=λσ H Q=>t σ H λvs H1=>r vs H1 Q
theorem pe_callB(hc:CallR X (.builtin id) r)(hg:Gl X x)(hm:X.mg x=none)(hv:bootBuiltins x=some (.builtin id))(ha:PA X (e::es) t)(hn:x≠"__name__":=by decide)(hdb:(x==("__debug__" : Str))=false:=by decide)
  (he:starEach (e::es) X.env=(false,eval e X.env)::starEach es X.env:=by rfl) (hpl:(backTo pos (starEach es X.env)).any (·.1)=false:=by rfl):PE X (.Call (.Name x p) (e::es) [] pos) (tCB r t):=by
 intro pins s σ H Q I h
 refine ip (ld_blt I hg hm hv ?_ hn hdb)
 exact PyProof.Rows.callWith_builtin1 (thn (ha pos pins s σ H _ I h) λus s1 ⟨vs,H1,I1,r1,q1⟩=>hc pins s1 σ H1 vs us Q I1 r1 q1) he hpl
theorem pe_callTy(hc:CallR X (.type T) r)(hg:Gl X x)(hm:X.mg x=none)(hv:bootBuiltins x=some (.type T))(ha:PA X (e::es) t)(hn:x≠"__name__":=by decide)(hdb:(x==("__debug__" : Str))=false:=by decide)
  (he:starEach (e::es) X.env=(false,eval e X.env)::starEach es X.env:=by rfl) (hpl:(backTo pos (starEach es X.env)).any (·.1)=false:=by rfl):PE X (.Call (.Name x p) (e::es) [] pos) (tCB r t):=by
 intro pins s σ H Q I h
 refine ip (ld_blt I hg hm hv ?_ hn hdb)
 exact g8 (thn (ha pos pins s σ H _ I h) λus s1 ⟨vs,H1,I1,r1,q1⟩=>hc pins s1 σ H1 vs us Q I1 r1 q1) he hpl
end
end L2
namespace HT
open PySem PyProof.Rows
section
variable{prog:Program}{w:World}{A:Around}{E:Value->Shared->Prop}{s:Shared}
theorem cat_tup{t b:Addr}{vs ws:List Value}{Q:Value->Shared->Prop}(ht:IsTup s.heap t vs.toArray)(hb:IsTup s.heap b ws.toArray)(hv:vs≠[])
  (h1:ws=[]->Q (.ref t) s) (h2:ws≠[]->Q (.ref s.heap.objs.size) {s with heap:=s.heap.push {cls:=.type "tuple",data:=.seq (vs++ws).toArray}})
  (hsz:vs.length+ws.length<=sizeLine):wpAny (model prog w) A (binaryOp .Add (.ref t) (.ref b)) Q E s:=by
 obtain⟨⟨cls,dd,data,sl⟩,ho,hc,n,hd⟩:=id ht
 obtain⟨⟨cls2,dd2,data2,sl2⟩,ho2,hc2,n2,hd2⟩:=id hb
 simp only at hc hd hc2 hd2
 subst hc hd hc2 hd2
 have e:vs.toArray++ws.toArray=(vs++ws).toArray:=by simp
 by_cases hw:ws=[]
 .exact concat_meets ⟨_,ho,rfl⟩ ⟨_,ho2,rfl⟩ noFill_tuple_add seq_tuple_add PySem.F.slot_tuple_add PySem.F.entry_tuple_add (PySem.F.args_tuple_add_2 _ _)
   (tuple_addW1 t b vs.toArray ws.toArray n n2 dd dd2 sl sl2 (by simpa using hv) (by simp[hw])) ⟨ho,ho2,h1 hw⟩
 .refine concat_meets ⟨_,ho,rfl⟩ ⟨_,ho2,rfl⟩ noFill_tuple_add seq_tuple_add PySem.F.slot_tuple_add PySem.F.entry_tuple_add (PySem.F.args_tuple_add_2 _ _)
   (tuple_addW2 t b vs.toArray ws.toArray n n2 dd dd2 sl sl2 (by simpa using hv) (by simpa using hw) (by rw[az,az];exact hsz)) ⟨ho,ho2,?_⟩
  rw[e]
  exact h2 hw
noncomputable def sIx(n d:Nat):Option Int->Nat
 | none=>d
 | some v=>if v<0 then(v+(n:Int)).toNat else min v.toNat n
theorem sIx_le(n d:Nat)(hd:d<=n)(o:Option Int):sIx n d o<=n:=by
 cases o with
 | none=>exact hd
 | some v=>
  show(if v<0 then(v+(n:Int)).toNat else min v.toNat n)<=n
  by_cases hv:v<0
  .rw[if_pos hv];omega
  .rw[if_neg hv];exact Nat.min_le_right _ _
theorem clip_eq(v:Int)(n d:Nat):(if v<0 then max (v+(n:Int)) 0 else min v (n:Int))=((sIx n d (some v):Nat):Int):=by
 show(if v<0 then max (v+(n:Int)) 0 else min v (n:Int))=(((if v<0 then(v+(n:Int)).toNat else min v.toNat n):Nat):Int)
 by_cases hv:v<0
 .simp only[if_pos hv];omega
 .simp only[if_neg hv];omega
theorem adjust_gen(lo hi:Option Int)(n:Nat):Builtin.Slice.sliceAdjust lo hi 1 (n:Int)=(((sIx n 0 lo:Nat):Int),((sIx n n hi:Nat):Int)):=by
 have h1:¬((1:Int)<0):=by omega
 unfold Builtin.Slice.sliceAdjust
 simp only[h1,if_false]
 refine Prod.ext ?_ ?_
 .cases lo with
  | none=>rfl
  | some v=>exact clip_eq v n 0
 .cases hi with
  | none=>rfl
  | some v=>exact clip_eq v n n
theorem places_gen(i j:Nat):Builtin.Slice.slicePlaces (i:Int) (j:Int) 1=j-i:=by
 unfold Builtin.Slice.slicePlaces
 have h1:(1:Int)>0:=by omega
 simp only[h1,if_true,Int.ediv_one]
 split<;>omega
theorem slicePart_{v:Value}{o:Option Int}{Q:Option Int->Shared->Prop}(p:IsPart v o)(h:Q o s):wpAny (model prog w) A (Builtin.Slice.slicePartIndex v) Q E s:=by
 cases p with
 | none=>exact slicePart_none h
 | int i t=>exact slicePart_int h
theorem sliceApplied_gen{sl:Addr}{vl vu:Value}{lo hi:Option Int}{n:Nat}{Q:Int×Int×Nat->Shared->Prop}(hs:s.heap.IsSliceOf sl vl vu .none)(pl:IsPart vl lo)(pu:IsPart vu hi)
  (h:Q (((sIx n 0 lo:Nat):Int),1,sIx n n hi-sIx n 0 lo) s):wpAny (model prog w) A (Builtin.Slice.sliceApplied (.ref sl) (pure (n:Int))) Q E s:=by
 obtain⟨os,hos,hcs,hds⟩:=id hs
 unfold Builtin.Slice.sliceApplied Builtin.Slice.sliceFields
 refine aa (aa (gj hos hds (x:=vl) rfl (aa (gj hos hds (x:=vu) rfl (aa (gj hos hds (x:=.none) rfl (af ?_)))))))
 refine aa (slicePart_none ?_)
 show wpAny _ _ (if ((1:Int)==0)=true then _ else _) _ _ s
 rw[if_neg (by decide)]
 refine aa (slicePart_ pl (aa (slicePart_ pu (aa (af ?_)))))
 show wpAny _ _ (match Builtin.Slice.sliceAdjust lo hi 1 (n:Int)with|(lo,hi)=>pure (lo,(1:Int),Builtin.Slice.slicePlaces lo hi 1)) _ _ s
 rw[adjust_gen lo hi n]
 show wpAny _ _ (pure (((sIx n 0 lo:Nat):Int),(1:Int),Builtin.Slice.slicePlaces ((sIx n 0 lo:Nat):Int) ((sIx n n hi:Nat):Int) 1)) _ _ s
 rw[places_gen]
 exact af h
theorem pick_gen(xs:Array Value)(i k:Nat):((cx k).filterMap λ(m:Nat)=>xs[((i:Int)+(m:Int)*1).toNat]?).toArray=((xs.toList.drop i).take k).toArray:=by
 have e:(λ(m:Nat)=>xs[((i:Int)+(m:Int)*1).toNat]?)=λm=>xs[i+m]?:=by
  funext m
  have:((i:Int)+(m:Int)*1).toNat=i+m:=by omega
  rw[this]
 rw[e]
 have:=pick_run xs i k
 rw[List.filterMap_map]at this
 have e2:((λx=>xs[x]?)∘λx=>i+x)=λm=>xs[i+m]?:=rfl
 rw[e2]at this
 rw[this]
theorem getItem_tuple_cut{t sl:Addr}{items:Array Value}{vl vu:Value}{lo hi:Option Int}{Q:Value->Shared->Prop}(ht:IsTup s.heap t items)(hs:s.heap.IsSliceOf sl vl vu .none)(pl:IsPart vl lo)(pu:IsPart vu hi)
  (hw:¬(sIx items.size 0 lo=0/\sIx items.size items.size hi=items.size))
  (h:Q (.ref s.heap.objs.size) {s with heap:=s.heap.push {cls:=.type "tuple",data:=.seq ((items.toList.drop (sIx items.size 0 lo)).take (sIx items.size items.size hi-sIx items.size 0 lo)).toArray}})
  (hsz:items.size<=sizeLine):wpAny (model prog w) A (getItem (.ref t) (.ref sl)) Q E s:=by
 have htake:sizeOk (.seq ((items.toList.drop (sIx items.size 0 lo)).take (sIx items.size items.size hi-sIx items.size 0 lo)).toArray):=by
  show((items.toList.drop (sIx items.size 0 lo)).take (sIx items.size items.size hi-sIx items.size 0 lo)).toArray.size<=sizeLine
  rw[az,bx,iq,aw]
  omega
 have hj:sIx items.size items.size hi<=items.size:=sIx_le _ _ (ao _) hi
 obtain⟨os,hos,hcs,hds⟩:=id hs
 have hTs:s.TypeIs (.ref sl) "slice":=⟨os,hos,hcs⟩
 unfold getItem
 try with_reducible refine ei ?_
 first|refine aa (af ?_)|skip
 refine aa (wpAny_sequenceKey ht.typeIs (by decide) ?_)
 refine aa (b8 (name:=bq "__getitem__") ht.typeIs f9
  (b9 f9 ht.typeIs entry_tuple_getitem ?_ (args_tuple_getitem _ _)))
 show wpAny _ _ (Builtin.Tuple.tupleItemsOf (.ref t) >>= _) _ _ s
 refine aa (tupleItemsOf_ ht ?_)
 refine aa (wpAny_typeOf hTs ?_)
 rw[if_pos (by decide)]
 refine aa (sliceApplied_gen hs pl pu ?_)
 have hno:¬((((sIx items.size 0 lo:Nat):Int)==0&&(1:Int)==1&&(sIx items.size items.size hi-sIx items.size 0 lo)==items.size)=true):=by
  intro q
  rw[cg,cg]at q
  have q1:((sIx items.size 0 lo:Nat):Int)=0:=eq_of_beq q.1.1
  have q2:sIx items.size items.size hi-sIx items.size 0 lo=items.size:=eq_of_beq q.2
  exact hw ⟨by omega,by omega⟩
 show wpAny _ _ (if (((sIx items.size 0 lo:Nat):Int)==0&&(1:Int)==1&&(sIx items.size items.size hi-sIx items.size 0 lo)==items.size)=true then _ else _) _ _ s
 rw[if_neg hno,pick_gen]
 first
  | exact aa (m:=Builtin.Tuple.tupleExact _) (cp (af ⟨_,rfl,af h⟩) htake)
  | exact aa (m:=Builtin.Tuple.tupleExact _) (cp (aa (af (af ⟨_,rfl,af h⟩))) htake)
  | exact aa (aa (m:=Builtin.Tuple.tupleExact _) (cp (af (af ⟨_,rfl,af h⟩)) htake))
  | exact aa (aa (m:=Builtin.Tuple.tupleExact _) (cp (af ⟨_,rfl,af h⟩) htake))
end
end HT
namespace L2
open PySem PySem.Spec PyProof.Rows
noncomputable abbrev TO:=St->Hp->(Option Int->Hp->Prop)->Prop
noncomputable def PO(X:Cx)(e:Option Expr)(t:TO):Prop:=
 ∀(pins:List (Addr×Obj)) (s:Shared) (σ:St) (H:Hp) (Q:Option Int->Hp->Prop),Inv X pins σ H s->t σ H Q->
  wpAny (model X.prog X.w) X.A (evalPart e X.env) (λu s'=>∃o H',Inv X pins σ H' s'/\IsPart u o/\Q o H') X.xe s
noncomputable def tNoPart:TO:=λ_ H Q=>Q none H
noncomputable def tPart(t:TE):TO:=λσ H Q=>t σ H λx H1=>∃i,x=.int i/\Q (some i) H1
theorem intsAre_of{ns:List Int}:∀{us:List Value},Vals (ns.map V.int) us->IntsAre us ns:=by
 induction ns with
 | nil=>intro us r;rw[List.map_nil]at r;cases r;exact .nil
 | cons n ns ih=>
  intro us r
  rw[e9]at r
  cases r with
  | cons r1 r2=>
   obtain⟨t,e⟩:=r1
   subst e
   exact .cons n t (ih r2)
section
variable{X:Cx}{e:Expr}{te:TE}{lo hi:Option Expr}{tl th:TO}{pos p2:Pos}
theorem po_none:PO X none tNoPart:=by
 intro pins s σ H Q I h
 rw[evalPart_none]
 exact af ⟨none,H,I,.none,h⟩
theorem po_some(h:PE X e te):PO X (some e) (tPart te):=by
 intro pins s σ H Q I hw
 rw[evalPart_some]
 refine thn (h pins s σ H _ I hw) λu s1 ⟨x,H1,I1,r1,q1⟩=>?_
 obtain⟨i,rfl,q⟩:=q1
 obtain⟨t,rfl⟩:=r1
 exact⟨some i,H1,I1,.int i t,q⟩
noncomputable def SlR(X:Cx)(r:V->Option Int->Option Int->Hp->VK->Prop):Prop:=
 ∀(pins:List (Addr×Obj)) (s:Shared) (σ:St) (H:Hp) (x:V) (v vl vu:Value) (lo hi:Option Int) (sl:Addr) (Q:VK),Inv X pins σ H s->RelV x v->s.heap.IsSliceOf sl vl vu .none->IsPart vl lo->IsPart vu hi->r x lo hi H Q->
  ∃T id,typeLookup (.type T) "__getitem__" = pure (some (.builtin id))/\s.TypeIs v T/\wpAny (model X.prog X.w) X.A (getItem v (.ref sl)) (EP X pins σ Q) X.xe s
noncomputable def tSl(r:V->Option Int->Option Int->Hp->VK->Prop)(te:TE)(tl th:TO):TE:=λσ H Q=>te σ H λx H1=>tl σ H1 λl H2=>th σ H2 λu H3=>r x l u H3 Q
theorem pe_slice{r:V->Option Int->Option Int->Hp->VK->Prop}(hr:SlR X r)(he:PE X e te)(hl:PO X lo tl)(hu:PO X hi th):PE X (.Subscript e (.Slice lo hi none p2) pos) (tSl r te tl th):=by
 intro pins s σ H Q I h
 refine Subscript_ (thn (he pins s σ H _ I h) λv s1 ⟨x,H1,I1,r1,q1⟩=>?_)
 refine wpAny_Slice (thn (hl pins s1 σ H1 _ I1 q1) λvl s2 ⟨l,H2,I2,pl,q2⟩=>thn (hu pins s2 σ H2 _ I2 q2) λvu s3 ⟨u,H3,I3,pu,q3⟩=>?_)
 rw[evalPart_none]
 refine af ?_
 have I4:Inv X pins σ H3 {s3 with heap:=s3.heap.push {cls:=.type "slice",data:=.fields #[vl,vu,.none]}}:=I3.kept (t':=s3.toks) λb ob q=>ai _ q
 obtain⟨T,id,hT,ht,hg⟩:=hr pins {s3 with heap:=s3.heap.push {cls:=.type "slice",data:=.fields #[vl,vu,.none]}} σ H3 x v vl vu l u s3.heap.objs.size Q I4 r1 (Heap.IsSliceOf.new ..) pl pu q3
 show wpAny (model X.prog X.w) X.A (subscriptTail e (.Slice lo hi none p2) v (.ref s3.heap.objs.size)) (EP X pins σ Q) X.xe {s3 with heap:=s3.heap.push {cls:=.type "slice",data:=.fields #[vl,vu,.none]}}
 exact tail_any (ops:=[.ref s3.heap.objs.size,v]) ht hT hg (by with_unfolding_all rfl)
noncomputable def cutV(xs:List V)(lo hi:Option Int):List V:=(xs.drop (HT.sIx xs.length 0 lo)).take (HT.sIx xs.length xs.length hi-HT.sIx xs.length 0 lo)
theorem cutV_length(xs:List V)(lo hi:Option Int):(cutV xs lo hi).length<=xs.length:=by
 unfold cutV
 rw[bx,iq]
 omega
noncomputable def rSlT(K:aq):V->Option Int->Option Int->Hp->VK->Prop:=λx lo hi H Q=>∃a xs,x=.ref a/\SqT K H a xs/\
 ¬(HT.sIx xs.length 0 lo=0/\HT.sIx xs.length xs.length hi=xs.length)/\∀p,H p=none->Q (.ref p) (upd H p (.tup (cutV xs lo hi)))
theorem sl_tup:SlR X (rSlT X.K):=by
 intro pins s σ H x v vl vu lo hi sl Q I rx hs pl pu h
 obtain⟨a,xs,rfl,hx,hw,q⟩:=h
 cases rx
 obtain⟨its,r,ht,hz⟩:=I.tuple hx
 have hlen:its.toArray.size=xs.length:=by rw[az];exact r.length.symm
 refine⟨"tuple",_,f9.lookup,ht.typeIs,?_⟩
 refine HT.getItem_tuple_cut ht hs pl pu (by rw[hlen];exact hw) ?_ (by rw[hlen];exact hz)
 rw[hlen]
 refine⟨.ref s.heap.objs.size,_,I.laid (t':=s.toks) (o:=.tup (cutV xs lo hi)) (λb ob q=>ai _ q) (ao _) ?_,rfl,q _ (I.hok.fresh (ao _))⟩
 exact⟨gl (cutV_length xs lo hi) hz,_,(r.drop (HT.sIx xs.length 0 lo)).take (HT.sIx xs.length xs.length hi-HT.sIx xs.length 0 lo),IsTup.new _ _⟩
noncomputable def rCatT(K:aq):R2:=λx y H Q=>∃a b xs ys,x=.ref a/\y=.ref b/\SqT K H a xs/\SqT K H b ys/\xs≠[]/\xs.length+ys.length<=sizeLine/\
 (ys=[]->Q (.ref a) H)/\(ys≠[]->∀p,H p=none->Q (.ref p) (upd H p (.tup (xs++ys))))
theorem Vals.nil_iff{xs:List V}{us:List Value}(r:Vals xs us):us=[]↔xs=[]:=by
 cases r with
 | nil=>simp
 | cons _ _=>simp
theorem op_catT:OpR X (binaryOp .Add) (rCatT X.K):=by
 intro pins s σ H x y v u Q I rx ry h
 obtain⟨a,b,xs,ys,rfl,rfl,ha,hb,hx,hz,q1,q2⟩:=h
 cases rx
 cases ry
 obtain⟨its,r1,p1,_⟩:=I.tuple ha
 obtain⟨its2,r2,p2,_⟩:=I.tuple hb
 refine HT.cat_tup p1 p2 (λz=>hx (r1.nil_iff.mp z)) (λz=>⟨.ref a,H,I,rfl,q1 (r2.nil_iff.mp z)⟩) (λz=>?_) (by rw[<-r1.length,<-r2.length];exact hz)
 refine⟨.ref s.heap.objs.size,_,I.laid (t':=s.toks) (o:=.tup (xs++ys)) (λb ob q=>ai _ q) (ao _) ?_,rfl,q2 (λw=>z (r2.nil_iff.mpr w)) _ (I.hok.fresh (ao _))⟩
 exact⟨by rw[bo];exact hz,_,r1.append r2,IsTup.new _ _⟩
end
end L2
namespace L2
open PySem PySem.Spec PyProof.Rows
noncomputable def ixN(n:Nat)(i:Int):Option Nat:=if 0<=i then(if i<n then some i.toNat else none)else if -(n:Int)<=i then some (i+n).toNat else none
noncomputable def atI{α:Type}(xs:List α)(i:Int):Option α:=(ixN xs.length i).bind λj=>xs[j]?
theorem ixN_seq{n:Nat}{i:Int}{j:Nat}(h:ixN n i=some j):seqIndex? i n=some j/\j<n/\-(n:Int)<=i/\i<n:=by
 unfold ixN at h
 by_cases h0:0<=i
 .rw[if_pos h0]at h
  by_cases h1:i<n
  .rw[if_pos h1]at h
   have e:i.toNat=j:=cy h
   exact⟨by rw[seqIndex_of h0 h1,e],by omega,by omega,h1⟩
  .rw[if_neg h1]at h;cases h
 .rw[if_neg h0]at h
  by_cases h1:-(n:Int)<=i
  .rw[if_pos h1]at h
   have e:(i+n).toNat=j:=cy h
   exact⟨by rw[seqIndex_neg (by omega) h1,e],by omega,h1,by omega⟩
  .rw[if_neg h1]at h;cases h
theorem atI_get{α:Type}{xs:List α}{i:Int}{v:α}(h:atI xs i=some v):∃j,seqIndex? i xs.length=some j/\xs[j]?=some v/\j<xs.length/\-(xs.length:Int)<=i/\i<xs.length:=by
 unfold atI at h
 cases e:ixN xs.length i with
 | none=>rw[e]at h;cases h
 | some j=>
  rw[e]at h
  obtain⟨h1,h2,h3,h4⟩:=ixN_seq e
  exact⟨j,h1,h,h2,h3,h4⟩
theorem ku{α:Type}{xs:List α}{j:Nat}{v:α}(h:xs[j]?=some v):atI xs (j:Int)=some v:=by
 have hj:j<xs.length:=(ak.mp h).1
 have e:ixN xs.length (j:Int)=some j:=by
  unfold ixN
  rw[if_pos (by omega),if_pos (by omega)];simp
 unfold atI;rw[e];exact h
noncomputable def PlainIx(b:Expr):Prop:=∀o i,subscripted b false o i=operate [o,i] (getItem o i)
noncomputable def IxR(X:Cx)(r:R2):Prop:=
 ∀(value slice:Expr) (pins:List (Addr×Obj)) (s:Shared) (σ:St) (H:Hp) (x y:V) (v u:Value) (Q:VK),Inv X pins σ H s->RelV x v->RelV y u->r x y H Q->
  subscripted slice false v u=operate [v,u] (getItem v u)->wpAny (model X.prog X.w) X.A (subscriptTail value slice v u) (EP X pins σ Q) X.xe s
noncomputable def MtR(X:Cx)(id:String)(r:V->List V->Hp->VK->Prop):Prop:=
 ∀(pins:List (Addr×Obj)) (s:Shared) (σ:St) (H:Hp) (x:V) (xs:List V) (v:Value) (us:List Value) (Q:VK),Inv X pins σ H s->RelV x v->Vals xs us->r x xs H Q->
  wpAny (model X.prog X.w) X.A (call (.builtin id) (v::us)) (EP X pins σ Q) X.xe s
section
variable{X:Cx}{a b:Expr}{ta tb:TE}{pos:Pos}
theorem pe_ix{r:R2}(hr:IxR X r)(ha:PE X a ta)(hb:PE X b tb)(hs:PlainIx b):PE X (.Subscript a b pos) (tOp r ta tb):=by
 intro pins s σ H Q I h
 exact Subscript_ (binT ha hb I h λv u s2 x y H2 I2 rx ry q=>hr a b pins s2 σ H2 x y v u Q I2 rx ry q (hs _ _))
noncomputable def rIxL(K:aq):R2:=λx y H Q=>∃p xs i v,x=.ref p/\y=.int i/\SqL K H p xs/\atI xs i=some v/\Q v H
noncomputable def rIxT(K:aq):R2:=λx y H Q=>∃p xs i v,x=.ref p/\y=.int i/\SqT K H p xs/\atI xs i=some v/\Q v H
noncomputable def rIxS:R2:=λx y H Q=>∃z i c,x=.str z/\y=.int i/\z.length<=sizeLine/\atI z.cps.toList i=some c/\Q (.str ⟨#[c]⟩) H
theorem nj:IxR X (rIxL X.K):=by
 intro value slice pins s σ H x y v u Q I rx ry h hs
 obtain⟨p,xs,i,z,rfl,rfl,hq,he,q⟩:=h
 cases rx
 obtain⟨t,rfl⟩:=ry
 obtain⟨its,r,pl,hz⟩:=I.list hq
 obtain⟨j,h1,h2,h3,h4,h5⟩:=atI_get he
 obtain⟨w,ew,rw'⟩:=r.get h2
 have hl:=r.length
 have hn:=line63
 have fin:EP X pins σ Q w s:=⟨z,H,I,rw',q⟩
 by_cases h0:0<=i
 .have hj:i.toNat=j:=by
   rw[seqIndex_of h0 h5]at h1
   exact cy h1
  exact item_listR pl.isList h0 (by omega) (by rw[hj];simpa using ew) fin hs
 .have hj:(i+(its.toArray.size:Int)).toNat=j:=by
   rw[seqIndex_neg (by omega) h4]at h1
   rw[az,<-hl]
   exact cy h1
  exact subscriptTail_builtinR (x:=w) pl.isList.typeIs slot_list_getitem.lookup
   (wpAny_getItem_list_neg (Q:=λr s'=>r=w/\EP X pins σ Q r s') pl.isList (by omega) (by rw[az]<;>omega) (by omega) (by rw[hj];simpa using ew) ⟨rfl,fin⟩) hs
theorem li:IxR X (rIxT X.K):=by
 intro value slice pins s σ H x y v u Q I rx ry h hs
 obtain⟨p,xs,i,z,rfl,rfl,hq,he,q⟩:=h
 cases rx
 obtain⟨t,rfl⟩:=ry
 obtain⟨its,r,pl,hz⟩:=I.tuple hq
 obtain⟨j,h1,h2,h3,h4,h5⟩:=atI_get he
 obtain⟨w,ew,rw'⟩:=r.get h2
 have hl:=r.length
 have hn:=line63
 have fin:EP X pins σ Q w s:=⟨z,H,I,rw',q⟩
 exact subscriptTail_builtinR (x:=w) pl.typeIs slot_tuple_getitem.lookup
  (getItem_tuple (j:=j) (Q:=λr s'=>r=w/\EP X pins σ Q r s') pl (by omega) (by omega) (by rw[az,<-hl];exact h1) (by simpa using ew) ⟨rfl,fin⟩) hs
theorem ix_str:IxR X rIxS:=by
 intro value slice pins s σ H x y v u Q I rx ry h hs
 obtain⟨z,i,c,rfl,rfl,hz,he,q⟩:=h
 obtain⟨t,rfl⟩:=rx
 obtain⟨t',rfl⟩:=ry
 obtain⟨j,h1,h2,h3,h4,h5⟩:=atI_get he
 have hl:z.cps.toList.length=z.length:=by simp[Str.length]
 rw[hl]at h1 h4 h5
 have hn:=line63
 exact tail_any (typeIs_str s z t) slot_str_getitem.lookup (getItem_str (c:=c) (by
  have e1:decide (i < -(2^63:Int))=false:=decide_eq_false (by omega)
  have e2:decide (i>=2^63)=false:=decide_eq_false (by omega)
  rw[e1,e2,Bool.or_false]) (by rw[h1];simpa using h2) ⟨.str ⟨#[c]⟩,H,I.tok _,⟨_,rfl⟩,q⟩) hs
theorem mapSeq_set(its:List Value)(n j:Nat)(u:Value):gm (·.setIfInBounds j u) {cls:=.type "list",data:=.seq its.toArray n}={cls:=.type "list",data:=.seq (its.set j u).toArray n}:=by
 simp[gm]
theorem Inv.lst{pins:List (Addr×Obj)}{σ:St}{H:Hp}{s:Shared}{p:Addr}{xs:List V}(I:Inv X pins σ H s)(h:H p=some (.lst xs)) :
  ∃(its:List Value) (n:Nat),Vals xs its/\s.heap.get? p=some {cls:=.type "list",data:=.seq its.toArray n}/\xs.length<=sizeLine:=by
 obtain⟨z,its,n,r,e⟩:=I.hok p _ h
 exact⟨its,n,r,e,z⟩
theorem Inv.lstUpd{pins:List (Addr×Obj)}{σ:St}{H:Hp}{s:Shared}{p:Addr}{xs ys:List V}{its its':List Value}{n n':Nat}{f:Obj->Obj}(I:Inv X pins σ H s)(h:H p=some (.lst xs))
  (ho:s.heap.get? p=some {cls:=.type "list",data:=.seq its.toArray n}) (hf:f {cls:=.type "list",data:=.seq its.toArray n}={cls:=.type "list",data:=.seq its'.toArray n'}) (r:Vals ys its') (hz:ys.length<=sizeLine) (t:Nat) :
  Inv X pins σ (upd H p (.lst ys)) {s with heap:=s.heap.update p f,toks:=t}:=by
 have e:(s.heap.update p f).get? p=some {cls:=.type "list",data:=.seq its'.toArray n'}:=by
  rw[ce f ho (by rw[hf]<;>rfl),hf]
 refine I.write (x:=p) (e:=p) (by rw[h];trivial) (.inl rfl) (λb u hb q=>(cr _ _ (Ne.symm hb)).trans q) ⟨_,e⟩ ?_
 exact⟨hz,its',n',r,e⟩
noncomputable def rSetL:V->V->V->Hp->(Hp->Prop)->Prop:=λo i v H Q=>∃p xs k j,o=.ref p/\i=.int k/\H p=some (.lst xs)/\ixN xs.length k=some j/\Q (upd H p (.lst (xs.set j v)))
theorem set_list:PSet X rSetL:=by
 intro pins s σ H o i v ov iv u Q I ro ri rv h
 obtain⟨p,xs,k,j,rfl,rfl,hp,hj,q⟩:=h
 cases ro
 obtain⟨t,rfl⟩:=ri
 obtain⟨its,n,r,ho,hz⟩:=I.lst hp
 obtain⟨h1,h2,h3,h4⟩:=ixN_seq hj
 have hl:=r.length
 have hn:=line63
 have I':Inv X pins σ (upd H p (.lst (xs.set j v))) {s with heap:=s.heap.update p (gm (·.setIfInBounds j u))}:=
  I.lstUpd hp ho (mapSeq_set its n j u) (r.set rv j) (by rw[List.length_set];exact hz) s.toks
 by_cases h0:0<=k
 .have hk:k.toNat=j:=by
   rw[seqIndex_of h0 h4]at h1
   exact cy h1
  exact PySem.W.ki_setAt ho h0 (by omega) (by rw[az,<-hl];exact h4) (by rw[hk];exact⟨_,I',q⟩)
 .have hk:(k+(its.toArray.size:Int)).toNat=j:=by
   rw[seqIndex_neg (by omega) h3]at h1
   rw[az,<-hl]
   exact cy h1
  exact PySem.W.ki_setBack ho (by omega) (by rw[az,<-hl];exact h3) (by omega) (by rw[hk];exact⟨_,I',q⟩)
theorem m8:CallR X (.builtin "len") (λxs H Q=>∃p ys,xs=[.ref p]/\(SqL X.K H p ys\/SqT X.K H p ys)/\Q (.int ys.length) H):=by
 intro pins s σ H xs us Q I r h
 obtain⟨p,ys,rfl,hq,q⟩:=h
 obtain⟨u,rfl,rx⟩:=vals1 r
 cases rx
 have hn:=line63
 rcases hq with hq|hq
 .obtain⟨its,r',pl,hz⟩:=I.list hq
  have hlen:=r'.length
  exact Calls.call_len_list pl.isList (by simp only[az]<;>omega) ⟨.int ys.length,H,I.tok _,⟨s.toks+1,by rw[az,hlen]⟩,q⟩
 .obtain⟨its,r',pl,hz⟩:=I.tuple hq
  have hlen:=r'.length
  exact len_tuple pl (by simp only[az]<;>omega) ⟨.int ys.length,H,I.tok _,⟨s.toks+1,by rw[az,hlen]⟩,q⟩
theorem oh:CallR X (.builtin "len") (λxs H Q=>∃z,xs=[.str z]/\z.length<=sizeLine/\Q (.int z.length) H):=by
 intro pins s σ H xs us Q I r h
 obtain⟨z,rfl,hz,q⟩:=h
 obtain⟨u,rfl,t,rfl⟩:=vals1 r
 have hn:=line63
 exact len_str (by omega) ⟨.int z.length,H,I.tok _,⟨_,rfl⟩,q⟩
theorem call_list_of:CallR X (.type "list") (λxs H Q=>∃p ys,xs=[.ref p]/\(SqL X.K H p ys\/SqT X.K H p ys)/\∀l,H l=none->Q (.ref l) (upd H l (.lst ys))):=by
 intro pins s σ H xs us Q I r h
 obtain⟨p,ys,rfl,hq,q⟩:=h
 obtain⟨u,rfl,rx⟩:=vals1 r
 cases rx
 have fin:∀(its:List Value),Vals ys its->ys.length<=sizeLine->∀(h':Heap) (c':Nat),(∀b o',s.heap.get? b=some o'->h'.get? b=some o')->
   h'.get? s.heap.objs.size=some {cls:=.type "list",dict:=none,data:=.seq its.toArray c',slots:=#[]}->EP X pins σ Q (.ref s.heap.objs.size) {s with heap:=h'}:=λits r' hz h' c' kp e=>
  ⟨.ref s.heap.objs.size,_,I.laid (t':=s.toks) kp (ao _) (show ObjOk X.prog X.w _ h' _ (.lst ys)from ⟨hz,its,c',r',e⟩),rfl,q _ (I.hok.fresh (ao _))⟩
 rcases hq with hq|hq
 .obtain⟨its,r',pl,hz⟩:=I.list hq
  have hlen:=r'.length
  obtain⟨o,ho,hc,n,hd⟩:=pl.isList
  exact call_list_seq p (.inl rfl) ho hc hd (λh' c' kp e=>fin its r' hz h' c' kp e) (by simp only[az]<;>omega)
 .obtain⟨its,r',pl,hz⟩:=I.tuple hq
  have hlen:=r'.length
  obtain⟨o,ho,hc,n,hd⟩:=pl
  exact call_list_seq p (.inr rfl) ho hc hd (λh' c' kp e=>fin its r' hz h' c' kp e) (by simp only[az]<;>omega)
theorem mw:CallR X (.type "tuple") (λxs H Q=>∃p ys,xs=[.ref p]/\((SqL X.K H p ys/\∀l,H l=none->Q (.ref l) (upd H l (.tup ys)))\/(SqT X.K H p ys/\Q (.ref p) H))):=by
 intro pins s σ H xs us Q I r h
 obtain⟨p,ys,rfl,h⟩:=h
 obtain⟨u,rfl,rx⟩:=vals1 r
 cases rx
 rcases h with ⟨hq,q⟩|⟨hq,q⟩
 .obtain⟨its,r',pl,hz⟩:=I.list hq
  have hlen:=r'.length
  refine call_tuple_list pl.isList (λh' kp=>?_) (by simp only[az]<;>omega)
  have I1:Inv X pins σ H {s with heap:=h'}:=I.kept (t':=s.toks) kp
  have I2:Inv X pins σ (upd H h'.objs.size (.tup ys)) {s with heap:=h'.push {cls:=.type "tuple",data:=.seq its.toArray}}:=
   I1.laid (t':=s.toks) (λb o e=>ai _ e) (ao _) (show ObjOk X.prog X.w _ _ _ (.tup ys)from ⟨hz,its,r',IsTup.new _ _⟩)
  exact⟨.ref h'.objs.size,_,I2,rfl,q _ (I1.hok.fresh (ao _))⟩
 .obtain⟨its,r',pl,hz⟩:=I.tuple hq
  exact call_tuple_same pl ⟨.ref p,H,I,rfl,q⟩
noncomputable def tyV(K:aq)(T:String)(x:V)(H:Hp):Prop:=match x with
 | .str _=>T="str"
 | .int _=>T="int"
 | .ref p=>(T="list"/\∃xs,SqL K H p xs)\/(T="tuple"/\∃o,K.lookup p=some o/\o.cls=.type "tuple"/\o.dict=none)\/
   (T="dict"/\((∃kvs,H p=some (.dK kvs))\/∃kvs,H p=some (.dT kvs)))\/(T="set"/\∃S n,H p=some (.set S n))
 | _=>False
theorem tyV_is{pins:List (Addr×Obj)}{σ:St}{H:Hp}{s:Shared}{T:String}{x:V}{v:Value}(I:Inv X pins σ H s)(r:RelV x v)(ty:tyV X.K T x H) :
  s.TypeIs v T/\∀a,v=.ref a->∃ob,s.heap.get? a=some ob/\ob.dict=none:=by
 cases x with
 | str z=>
  obtain⟨t,rfl⟩:=r
  cases (show T="str" from ty)
  exact⟨typeIs_str s z t,λ_ e=>nomatch e⟩
 | int i=>
  obtain⟨t,rfl⟩:=r
  cases (show T="int" from ty)
  exact⟨typeIs_int s i t,λ_ e=>nomatch e⟩
 | ref p=>
  cases r
  rcases ty with ⟨rfl,xs,hq⟩|⟨rfl,o,hk,hc,hd⟩|⟨rfl,hk⟩|⟨rfl,S,n,hk⟩
  .obtain⟨its,_,pl,_⟩:=I.list hq
   refine⟨pl.isList.typeIs,λa e=>?_⟩
   cases e
   obtain⟨o,n,e,c,hd,_⟩:=pl
   exact⟨o,e,hd⟩
  .refine⟨⟨o,I.kIn p o hk,hc⟩,λa e=>?_⟩
   cases e
   exact⟨o,I.kIn _ o hk,hd⟩
  .have z:∃o,s.heap.get? p=some o/\o.ExactDict:=by
    rcases hk with ⟨kvs,hk⟩|⟨kvs,hk⟩
    .obtain⟨_,_,_,_,o,_,_,e,ex,_⟩:=I.hok p _ hk
     exact⟨o,e,ex⟩
    .obtain⟨_,_,_,_,o,_,_,e,ex,_⟩:=I.hok p _ hk
     exact⟨o,e,ex⟩
   obtain⟨o,e,ex⟩:=z
   refine⟨⟨o,e,ex.1⟩,λa e2=>?_⟩
   cases e2
   exact⟨o,e,ex.2.1⟩
  .obtain⟨o,_,_,_,e,ex,_⟩:=I.hok p _ hk
   refine⟨⟨o,e,ex.1⟩,λa e2=>?_⟩
   cases e2
   exact⟨o,e,ex.2.1⟩
 | _=>exact False.elim ty
noncomputable def tBM0(K:aq)(T:String)(r:V->List V->Hp->VK->Prop)(to:TE):TE:=λσ H Q=>to σ H λx H1=>tyV K T x H1/\r x [] H1 Q
noncomputable def tBM(K:aq)(T:String)(r:V->List V->Hp->VK->Prop)(to:TE)(t:TA):TE:=λσ H Q=>to σ H λx H1=>tyV K T x H1/\t σ H1 λxs H2=>r x xs H2 Q
variable{o e:Expr}{es:List Expr}{to:TE}{t:TA}{name:Str}{apos cpos:Pos}{T id:String}{r:V->List V->Hp->VK->Prop}
theorem pe_bm0(pa:PlainAttrs T)(slot:Slot T name id)(hty:typeOf (.builtin id)=pure (.type "method_descriptor"))(hm:MtR X id r)(ho:PE X o to)
  (hbase:attributeBase o name X.env (eval o X.env)=eval o X.env:=by rfl) (hline:(apos.endLine==cpos.line)=true:=by rfl):PE X (.Call (.Attribute o name apos) [] [] cpos) (tBM0 X.K T r to):=by
 intro pins s σ H Q I h
 refine wpAny_Call_method0_late hbase hline (thn (ho pins s σ H _ I h) λv s1 ⟨x,H1,I1,r1,ty,q1⟩=>?_)
 obtain⟨h1,h2⟩:=tyV_is I1 r1 ty
 exact⟨T,id,pa,slot,hty,h1,h2,Calls.callWith_builtin rfl (PySem.evalArgs_none (hm pins s1 σ H1 x [] v [] Q I1 r1 .nil q1))⟩
theorem pe_bm(pa:PlainAttrs T)(slot:Slot T name id)(hty:typeOf (.builtin id)=pure (.type "method_descriptor"))(hm:MtR X id r)(ho:PE X o to)(ha:PA X (e::es) t)
  (hbase:attributeBase o name X.env (eval o X.env)=eval o X.env:=by rfl)
  (hfew:((backTo cpos (starEach (e::es) X.env)).all (λx=>!x.1)&&(backToKw cpos (keywordEach [] X.env)).all (λx=>x.1.isSome)
   && decide ((e::es).length+([]:List Keyword).length+(if ([]:List Keyword).isEmpty then 0 else 1)<30))=true:=by rfl)
  (hline:(apos.endLine==cpos.line)=true:=by rfl) (hs:starEach (e::es) X.env=(false,eval e X.env)::starEach es X.env:=by rfl) (hplain:(backTo cpos (starEach es X.env)).any (·.1)=false:=by rfl) :
  PE X (.Call (.Attribute o name apos) (e::es) [] cpos) (tBM X.K T r to t):=by
 intro pins s σ H Q I h
 refine wpAny_Call_method_late hbase hfew hline rfl (thn (ho pins s σ H _ I h) λv s1 ⟨x,H1,I1,r1,ty,q1⟩=>?_)
 obtain⟨h1,h2⟩:=tyV_is I1 r1 ty
 refine⟨T,id,pa,slot,hty,h1,h2,?_⟩
 have hA:=ha cpos pins s1 σ H1 _ I1 q1
 rw[hs]at hA⊢
 refine Calls.callWith_builtin (by show(false||(backTo cpos (starEach es X.env)).any (·.1))=false;rw[hplain]<;>rfl) (Calls.evalArgs_plain ?_)
 exact thn hA λus s2 ⟨vs,H2,I2,r2,q2⟩=>hm pins s2 σ H2 x vs v us Q I2 r1 r2 q2
end
end L2
namespace L2
open PySem PySem.Spec PyProof.Rows
noncomputable def MtM(X:Cx)(id:String)(r:V->List V->Hp->VK->Prop):Prop:=
 ∀(pins:List (Addr×Obj)) (s:Shared) (σ:St) (H:Hp) (x:V) (xs:List V) (v:Value) (us:List Value) (Q:VK),Inv X pins σ H s->RelV x v->Vals xs us->r x xs H Q->
  wpAny (model X.prog X.w) X.A (call (.builtin id) (v::us)) (EP X pins σ Q) X.xe s
theorem Vals.one:∀{x:V} {us:List Value},Vals [x] us->∃u,us=[u]/\RelV x u
 | _,_,.cons r .nil=>⟨_,rfl,r⟩
theorem Vals.zero:∀{us:List Value},Vals [] us->us=[]
 | _,.nil=>rfl
section
variable{X:Cx}{pins:List (Addr×Obj)}{σ:St}{H:Hp}{s:Shared}{l b:Addr}{xs ys zs:List V}
theorem Inv.lset{its its':List Value}{n:Nat}{f:Array Value->Array Value}{t':Nat}(I:Inv X pins σ H s)(hH:H l=some (.lst xs))
  (e:s.heap.get? l=some {cls:=.type "list",data:=.seq its.toArray n}) (hf:f its.toArray=its'.toArray) (hv:Vals ys its') (hz:ys.length<=sizeLine) :
  Inv X pins σ (upd H l (.lst ys)) {s with heap:=s.heap.update l (gm f),toks:=t'}:=by
 have q:=PySem.IsL.update e f
 rw[hf]at q
 refine I.write (x:=l) (e:=l) (by rw[hH];exact trivial) (.inl rfl) (λb' u hb hu=>(cr s.heap (gm f) (Ne.symm hb)).trans hu) ⟨_,q⟩ ?_
 exact⟨hz,its',_,hv,q⟩
theorem Inv.lnew{its:List Value}{t':Nat}(I:Inv X pins σ H s)(hv:Vals ys its)(hz:ys.length<=sizeLine) :
  Inv X pins σ (upd H s.heap.objs.size (.lst ys)) {s with heap:=s.heap.push {cls:=.type "list",data:=.seq its.toArray},toks:=t'}:=
 I.laid (λ_ _ q=>ai _ q) (ao _) ⟨hz,its,0,hv,ay _ rfl⟩
theorem Inv.fresh(I:Inv X pins σ H s):H s.heap.objs.size=none:=I.hok.fresh (ao _)
theorem Inv.lstM(I:Inv X pins σ H s)(hH:H l=some (.lst xs)):xs.length<=sizeLine/\∃(its:List Value) (n:Nat),Vals xs its/\xs.length=its.length/\s.heap.get? l=some {cls:=.type "list",data:=.seq its.toArray n}:=by
 obtain⟨z,its,n,r,e⟩:=I.hok l _ hH
 exact⟨z,its,n,r,r.length,e⟩
theorem notLongL{n:Nat}(h:n<=sizeLine):Builtin.List.listTooLong n=false:=by
 unfold Builtin.List.listTooLong
 exact decide_eq_false (by omega)
end
section
variable{X:Cx}
noncomputable def rAppend:V->List V->Hp->VK->Prop:=λx vs H Q=>∃l xs y,x=.ref l/\vs=[y]/\H l=some (.lst xs)/\xs.length<sizeLine/\Q .non (upd H l (.lst (xs++[y])))
theorem om:MtM X "list.append" rAppend:=by
 intro pins s σ H x vs v us Q I rx rv h
 obtain⟨l,xs,y,rfl,rfl,hH,hz,q⟩:=h
 cases rx
 obtain⟨u,rfl,ru⟩:=rv.one
 obtain⟨z,its,n,r,hl,e⟩:=I.lstM hH
 refine call_meets F.slot_list_append ⟨_,e,rfl⟩ F.entry_list_append (F.args_list_append_2 _ _) (PySem.list_append l its.toArray n u (by rw[az];omega)) ⟨e,?_⟩
 refine⟨.non,_,I.lset (its':=its++[u]) hH e (by simp) (r.append (.cons ru .nil)) ?_,rfl,q⟩
 rw[bo,fw]
 omega
noncomputable def rExtend:V->List V->Hp->VK->Prop:=λx vs H Q=>∃l b xs zs,x=.ref l/\vs=[.ref b]/\H l=some (.lst xs)/\H b=some (.lst zs)/\xs.length+zs.length<=sizeLine/\Q .non (upd H l (.lst (xs++zs)))
theorem mt_extend:MtM X "list.extend" rExtend:=by
 intro pins s σ H x vs v us Q I rx rv h
 obtain⟨l,b,xs,zs,rfl,rfl,hH,hB,hz,q⟩:=h
 cases rx
 obtain⟨u,rfl,ru⟩:=rv.one
 cases ru
 obtain⟨z,its,n,r,hl,e⟩:=I.lstM hH
 obtain⟨z2,its2,n2,r2,hl2,e2⟩:=I.lstM hB
 have hsz:its.toArray.size+its2.toArray.size<=sizeLine:=by rw[az,az];omega
 have hlong:¬(!its.toArray.isEmpty&&Builtin.List.listTooLong (its.toArray.size+its2.toArray.size))=true:=by
  rw[notLongL hsz,Bool.and_false]
  exact ah
 refine call_meets F.slot_list_extend ⟨_,e,rfl⟩ F.entry_list_extend (F.args_list_extend_2 _ _)
  (AutoSeq1.list_extend_list_list_0 l its.toArray n b its2.toArray n2 hlong (by rw[az];omega) (by omega)) ⟨e,e2,?_⟩
 refine⟨.non,_,I.lset (its':=its++its2) hH e (by simp) (r.append r2) ?_,rfl,q⟩
 rw[bo]
 omega
noncomputable def rCat:R2:=λx y H Q=>∃l b xs zs,x=.ref l/\y=.ref b/\H l=some (.lst xs)/\H b=some (.lst zs)/\xs.length+zs.length<=sizeLine/\∀p,H p=none->Q (.ref p) (upd H p (.lst (xs++zs)))
theorem op_cat:OpR X (binaryOp .Add) rCat:=by
 intro pins s σ H x y v u Q I rx ry h
 obtain⟨l,b,xs,zs,rfl,rfl,hH,hB,hz,q⟩:=h
 cases rx
 cases ry
 obtain⟨z,its,n,r,hl,e⟩:=I.lstM hH
 obtain⟨z2,its2,n2,r2,hl2,e2⟩:=I.lstM hB
 refine PySem.P.add_list e e2 ?_ (by rw[az,az];omega)
 have ea:its.toArray++its2.toArray=(its++its2).toArray:=by simp
 rw[ea]
 exact⟨.ref _,_,I.lnew (t':=s.toks) (r.append r2) (by rw[bo];omega),rfl,q _ I.fresh⟩
end
end L2
namespace Att
open PySem PySem.W PySem.Calls PyProof.Rows
theorem ints_of_wellAll{P:Params}{h:Heap}:∀(ns:List Int) (vs:List Value),WellAll P h vs (ns.map WData.int)->IntsAre vs ns:=by
 intro ns
 induction ns with
 | nil=>
  intro vs w
  rw[List.map_nil]at w
  cases w
  exact .nil
 | cons n ns ih=>
  intro vs w
  rw[e9]at w
  cases w with
  | cons a b=>
   cases a
   exact .cons _ _ (ih _ b)
theorem script_of{l:OpenLaw}{n:Nat}(hn:l.most=some n){P:Params}{h:Heap}{args:List WData}{vals:List Value}
  (hpre:l.row.toRowW.claim.pre args=true) (hwl:WellAll P h vals args) :
  ∃a vs ns,vals=[Value.ref a]/\args=[WData.list (ns.map WData.int)]/\h.get? a=some {cls:=.type "list",data:=.seq vs.toArray}/\IntsAre vs ns/\ns.length<=n:=by
 have hsh:WShape.hasAll [] args [.list .int]=true:=(pre_splitW hpre).1
 have hc:l.pre.holds [] {args:=args}=true:=(pre_splitW hpre).2
 obtain⟨d,r,rfl,h1,h2⟩:=hasAllW_cons hsh
 obtain rfl:=hasAllW_nil h2
 obtain⟨xs,rfl,h3⟩:=hasW_list h1
 obtain⟨ns,rfl⟩:=items_int h3
 have hlen:ns.length<=n:=by
  unfold OpenLaw.pre at hc
  have h4:(WTm.not (.lt (.lit (.int (n:Int))) (.len (.arg 0)))).holds [] {args:=[.list (ns.map .int)]}=true:=by
   have h4:=(holds_andW hc).1
   rw[hn]at h4
   exact h4
  have h5:=condW_of h4 (w_not (w_lt w_lit (w_len_list (w_arg rfl))))
  rw[aj]at h5
  refine Nat.le_of_not_lt λq=>?_
  have q':(n:Int)<((ns.length:Nat):Int):=by omega
  first
   | (rw[decide_eq_true q']at h5;exact absurd h5 (by decide))
   | (simp at h5;omega)
 cases hwl with
 | cons w1 w2=>
  cases w2
  cases w1 with
  | list ho hall=>exact⟨_,_,ns,rfl,rfl,ho,ints_of_wellAll ns _ hall,hlen⟩
theorem post_true(l:OpenLaw)(args:List WData):l.row.toRowW.claim.post args (.bool true) args=true:=
 postW_of (r:=l.row.toRowW) (X:=(true==true))
  (show WShape.has [] (.bool true) .bool=true by first|rfl|decide|simp[WShape.has,WShape.arms,WShape.armsAll])
  (show(WTm.eq .res (.lit (.bool true))).value [] {args:=args,res:=some (.bool true),after:=args}=some (.bool (true==true))from w_eq_bool (w_res rfl) w_lit) rfl
theorem attach_call{l:OpenLaw}{n:Nat}{q:Program}{loose:List Str}{XP:(Str->Option Value)->Heap->Prop}{YP:World->Heap->Prop}{d:DefRec}
  (hn:l.most=some n) (hdf:d.params.defaults=[])
  (call:∀(w:World) (s₀ s₁:Shared) (mg mb:Str->Option Value) (fa:Addr) (o:Obj) (pm cd doc:Value) (a:Addr) (vs:List Value) (ns:List Int),
   Ground q loose [] XP w s₀ mg mb s₁.heap->YP w s₁.heap->
   s₁.heap.get? fa=some o->o.data=.func (docDef d.name d.params d.body d.scope pm cd doc)->s₁.heap.CodeRec cd d.name->mg d.name=some (.ref fa)->
   s₁.heap.get? a=some {cls:=.type "list",data:=.seq vs.toArray}->IntsAre vs ns->ns.length<=n->s₁.gens=#[]->
   codeAny (model l.prog w) callerA (.call (.ref fa) ⟨[.ref a],[]⟩) (λr s'=>r=.ok (.ret (.bool true))/\OldK s₁.heap s'.heap/\s'.os=s₁.os/\AllBare s'.gens) s₁) :
  WalkO q loose XP YP l.row.toRowW d [] (λf vs=>PySem.call f vs):=by
 intro w s₀ s₁ mg mb G Y fa o pm cd doc dV kV ho hd hcd hD hmg hg args vals as hpre hlay hrd hwl hlo
 obtain rfl:dV=.none:=Dflts.none hD hdf
 obtain rfl:kV=.none:=Dflts.noKw hD
 obtain⟨a,vs,ns,rfl,rfl,hobj,hints,hlen⟩:=script_of hn hpre hwl
 refine enter_call (codeAny_mono (call w s₀ s₁ mg mb fa o pm cd doc a vs ns G Y ho (fd_plain hd) hcd hmg hobj hints hlen hg) λr s' hq=>?_)
 obtain⟨rfl,h2,h3,h4⟩:=hq
 exact⟨.inl ⟨.bool true,.bool true,[],rfl,λ_=>rfl,.bool true,post_true l _,λ_=>⟨List.Pairwise.nil,λ_ hm=>(nomatch hm)⟩⟩,h2,h3,h4⟩
end Att
namespace L2
open PySem PySem.Spec PyProof.Rows
theorem vals_ints:∀{vs:List Value} {ns:List Int},IntsAre vs ns->Vals (ns.map V.int) vs
 | _,_,.nil=>.nil
 | _,_,.cons n t h=>.cons ⟨t,rfl⟩ (vals_ints h)
noncomputable def Only(H:Hp):Prop:=∀b,H b=none\/∃o xs,H b=some (.frz o (.lst xs))
theorem law_call{P:Program}{w:World}{K:aq}{mg mb:Str->Option Value}{CX:CXT}{k:Nat}{fa a:Addr}{fd:FuncData}{x:Str}{sp:Sp}{s₁:Shared}{vs:List Value}{ns:List Int}
  (KX:K.In s₁.heap) (hns:s₁.heap.Ns mainGlobals mg) (hb:s₁.heap.Ns builtinsNs mb) (hbb:∀x:Str,x≠"__name__"->mb x=bootBuiltins x) (hlim:s₁.heap.NoLimit) (hg:s₁.gens=#[])
  (ha:s₁.heap.get? a=some {cls:=.type "list",data:=.seq vs.toArray}) (hi:IntsAre vs ns) (hl:ns.length<=sizeLine) (hr:Room k callerA)
  (F:∀base:Heap,K.In base->base.Ns mainGlobals mg->FnOk P w K mg base CX k fa fd [x] sp) (hbind:∀(s:Shared) (u:Value),BindsTo s fd ⟨[u],[]⟩ [(x,u)])
  (hsp:∀H:Hp,Only H->SqL K H a (ns.map V.int)->sp [.ref a] H (λv _=>v=.bl true) λ_ _ _=>False)
  (hCX:∀H e s',CX [] H s₁ (λ_ _ _=>False) e s'->False) :
  codeAny (model P w) callerA (.call (.ref fa) ⟨[.ref a],[]⟩) (λr s'=>r=.ok (.ret (.bool true))/\OldK s₁.heap s'.heap/\s'.os=s₁.os/\AllBare s'.gens) s₁:=by
 have rv:=vals_ints hi
 have lenV:=hi.length
 have core:∀H:Hp,Only H->SqL K H a (ns.map V.int)->HOk P w H s₁.heap->(∀b,H b≠none->b=a)->(H a≠none->K.lookup a=none)->
   codeAny (model P w) callerA (.call (.ref fa) ⟨[.ref a],[]⟩) (λr s'=>r=.ok (.ret (.bool true))/\OldK s₁.heap s'.heap/\s'.os=s₁.os/\AllBare s'.gens) s₁:=by
  intro H hO hS hok hA hK
  have base_of:∀{b:Addr} {o:Obj},s₁.heap.get? b=some o->H b=none->(hidT s₁.heap H).get? b=some o:=λe n=>hidT_get e n
  have noA:∀{b:Addr} {o:Obj} {es:Array DictEntry} {ep:Nat},s₁.heap.get? b=some o->o.data=.dict es ep->H b=none:=λ{b o es ep} e d=>by
   cases q:H b with
   | none=>rfl
   | some u=>
    have e':b=a:=hA b (by rw[q];simp)
    subst e'
    rw[ha]at e;cases e
    have d':Data.seq vs.toArray _=Data.dict es ep:=d
    cases d'
  have nsK:∀{b:Addr} {m:Str->Option Value},s₁.heap.Ns b m->(hidT s₁.heap H).Ns b m:=λ{b m} ⟨o,es,ep,e,d,r⟩=>⟨o,es,ep,base_of e (noA e d),d,r⟩
  have hKb:K.In (hidT s₁.heap H):=λb o e=>base_of (KX b o e) (by
   cases q:H b with
   | none=>rfl
   | some u=>
    have e':b=a:=hA b (by rw[q];simp)
    subst e'
    rw[hK (by rw[q];simp)]at e;cases e)
  have hM:Mod K mg (hidT s₁.heap H):=⟨hKb,nsK hns,⟨mb,nsK hb,hbb⟩,let ⟨mc,h1,h2⟩:=hlim;⟨mc,nsK h1,h2⟩⟩
  have e0:Env0 P w K mg (hidT s₁.heap H) callerA [] s₁ H:=⟨rfl,hM,λb o e=>of_hidT e,Nat.le_of_eq (hidT_size _ _),trivial,λb hb=>absurd (show b∈([]:List Addr)from hb) (by simp),hok,.of_eq hg⟩
  refine codeAny_mono ((F _ hKb (nsK hns)).run callerA [] s₁ H ⟨[.ref a],[]⟩ [.ref a] [.ref a] _ _ hr e0 (hbind s₁ (.ref a)) (.cons rfl .nil) (hsp H hO hS)) λr s' h=>?_
  cases r with
  | error e=>exact(hCX H e s' h).elim
  | ok fl=>
   cases fl with
   | next=>exact False.elim h
   | brk=>exact False.elim h
   | cont=>exact False.elim h
   | ret u=>
    obtain⟨v,H',os,bare,un,hok',r',q⟩:=h
    have q':v=.bl true:=q
    subst q'
    obtain rfl:u=Value.bool true:=r'
    refine⟨rfl,OldK.of_keep λb o e=>?_,os,bare⟩
    cases q:H b with
    | none=>exact un.keep b o e q (by intro z;exact absurd (show b∈([]:List Addr)from z) (by simp)) (by simp)
    | some u=>
     rcases hO b with z|⟨ob,xs,z⟩
     .rw[q]at z;cases z
     .have z2:=un.frzs b ob _ z
      obtain⟨e1,_⟩:=hok b _ z
      obtain⟨e2,_⟩:=hok' b _ z2
      rw[e]at e1;cases e1
      exact e2
 cases hk:K.lookup a with
 | some o=>
  have e:=KX a o hk
  rw[ha]at e
  cases e
  refine core (λ_=>none) (λ_=>.inl rfl) (.inr ⟨_,vs.toArray,_,hk,rfl,rfl,rfl,by rw[az,lenV];exact hl,by simpa using rv⟩) (λb u z=>by have z':(none:Option HO)=some u:=z;cases z') (λb z=>absurd rfl z) λz=>absurd rfl z
 | none=>
  refine core (λb=>if b=a then some (.frz {cls:=.type "list",data:=.seq vs.toArray} (.lst (ns.map V.int)))else none) (λb=>?_) (.inl (.inr ⟨{cls:=.type "list",data:=.seq vs.toArray},if_pos rfl⟩)) (λb u z=>?_) (λb z=>?_) λ_=>hk
  .by_cases hb:b=a
   .exact .inr ⟨_,_,if_pos hb⟩
   .exact .inl (if_neg hb)
  .by_cases hb:b=a
   .have z':=(if_pos hb).symm.trans z
    cases z'
    subst hb
    exact⟨ha,by rw[aj];exact hl,vs,_,rv,ha⟩
   .have z':=(if_neg hb).symm.trans z
    cases z'
  .by_cases hb:b=a
   .exact hb
   .exact absurd (if_neg hb) z
end L2
namespace L2
open PySem PySem.Spec PyProof.Rows
theorem walk_of{l:PySem.W.OpenLaw}{n k:Nat}{q:Program}{loose:List Str}{XP:(Str->Option Value)->Heap->Prop}{YP:World->Heap->Prop}{d:DefRec}{K:Params->aq}{CX:World->CXT}{sp:World->Sp}{x:Str}
  (hn:l.most=some n) (hn2:n<=sizeLine) (hdf:d.params.defaults=[]) (hr:Room k callerA)
  (hY:∀(w:World) (h:Heap),YP w h->(K w.params).In h)
  (F:∀(w:World) (mg:Str->Option Value) (fa:Addr) (h:Heap),(K w.params).In h->h.Ns mainGlobals mg->mg d.name=some (.ref fa)->
   ∃fd:FuncData,(∀(s:Shared) (u:Value),BindsTo s fd ⟨[u],[]⟩ [(x,u)])/\
    ∀base:Heap,(K w.params).In base->base.Ns mainGlobals mg->FnOk l.prog w (K w.params) mg base (CX w) k fa fd [x] (sp w))
  (hsp:∀(w:World) (H:Hp) (a:Addr) (ns:List Int),ns.length<=n->Only H->SqL (K w.params) H a (ns.map V.int)->sp w [.ref a] H (λv _=>v=.bl true) λ_ _ _=>False)
  (hCX:∀(w:World) (H:Hp) (s:Shared) (e:Value) (s':Shared),CX w [] H s (λ_ _ _=>False) e s'->False) :
  PySem.W.WalkO q loose XP YP l.row.toRowW d [] (λf vs=>PySem.call f vs):=by
 refine Att.attach_call hn hdf λw s₀ s₁ mg mb fa o pm cd doc a vs ns G Y ho hd hcd hmg hobj hints hlen hg=>?_
 have KX:=hY w _ Y
 obtain⟨fd,hb,hF⟩:=F w mg fa _ KX G.T.g hmg
 exact law_call KX G.T.g G.T.b G.T.builtins G.T.nolimit hg hobj hints (gl hlen hn2) hr hF hb (λH hO hS=>hsp w H a ns hlen hO hS) λH e s'=>hCX w H s₁ e s'
end L2
namespace L2
open PySem PySem.Spec PyProof.Rows
noncomputable def defArgs(s:Stmt):Arguments:=match s with
 | .FunctionDef _ a _ _ _ _ _ _ _ _=>a
 | _=>{posonlyargs:=[],args:=[],vararg:=none,kwonlyargs:=[],kw_defaults:=[],kwarg:=none,defaults:=[]}
noncomputable def defBody(s:Stmt):List Stmt:=match s with
 | .FunctionDef _ _ b _ _ _ _ _ _ _=>b
 | _=>[]
noncomputable def kq(s:Stmt):Scope:=match s with
 | .FunctionDef _ _ _ _ _ _ sc _ _ _=>sc
 | _=>{kind:=.function,names:=[],isGenerator:=false,isCoroutine:=false}
noncomputable abbrev CX0:CXT:=λ_ _ _ _ _ _=>False
noncomputable abbrev E0:XK:=λ_ _ _=>False
theorem pass0{X:Cx}:Passes CX0 X E0:=λ_ _ _ _ _ _ _ h=>h.elim
structure Fun(K:aq)(x qual:Str)(st:Stmt)(f:Addr)(fd:FuncData):Prop where
 ex:∃(oc:Value) (od:Option Addr) (kV doc pm:Value) (an:Option Addr) (cdv ct:Value) (osl:Array (Option Value)),
  fd=jz x qual (defArgs st) (defBody st) (kq st) .none kV doc pm an cdv ct/\K.lookup f=some ⟨oc,od,.func fd,osl⟩/\PySem.W.codeIn K cdv qual=true
 kp:PySem.W.keepIn K (.ref f)=true
section
variable{P:Program}{w:World}{K:aq}{mg:Str->Option Value}{base:Heap}
theorem Fun.ok{x qual:Str}{st:Stmt}{f:Addr}{fd:FuncData}{N ps:List Str}{k:Nat}{sp:Sp}(F:Fun K x qual st f fd)(S:ky N ps (kq st))(len:∀vs H Q E,sp vs H Q E->vs.length=ps.length)
  (hbody:∀(cdv:Value) (A:Around) (outer:List Env) (s:Shared) (H:Hp) (vs:List V) (Q:VK) (E:XK),Room k (A.deeper (envOfC qual (kq st) s.heap.objs.size f cdv))->sp vs H Q E->
   ∃t,PSs (cxOf CX0 P w K mg base N qual (kq st) f cdv A outer s H E).nox (defBody st) t/\t {nx:=λ_ H'=>Q .non H',rt:=Q} (start N vs) H):FnOk P w K mg base CX0 (k+1) f fd ps sp:=by
 obtain⟨oc,od,kV,doc,pm,an,cdv,ct,osl,rfl,lk,hcd⟩:=F.ex
 refine fn_of lk hcd S len λA outer s H vs Q E hr hsp=>?_
 obtain⟨t,h,q⟩:=hbody cdv A outer s H vs Q E hr hsp
 exact⟨t,h.nox,q⟩
theorem Fun.binds{x qual:Str}{st:Stmt}{f:Addr}{fd:FuncData}{ps:List Str}(F:Fun K x qual st f fd)
  (h:∀(kV doc pm:Value) (an:Option Addr) (cdv ct:Value) (us:List Value),us.length=ps.length->bindArgs (jz x qual (defArgs st) (defBody st) (kq st) .none kV doc pm an cdv ct) ⟨us,[]⟩=pure (ps.zip us)):Binds K fd ps []:=by
 obtain⟨oc,od,kV,doc,pm,an,cdv,ct,osl,rfl,lk,hcd⟩:=F.ex
 exact .all (h kV doc pm an cdv ct)
theorem fun_mk{x qual:Str}{st:Stmt}{f:Addr}{oc:Value}{od an:Option Addr}{osl:Array (Option Value)}{kV doc pm cdv ct:Value}(l:K.lookup f=some ⟨oc,od,.func (jz x qual (defArgs st) (defBody st) (kq st) .none kV doc pm an cdv ct),osl⟩)
  (c:PySem.W.codeIn K cdv qual=true) (k:PySem.W.keepIn K (.ref f)=true):Fun K x qual st f (jz x qual (defArgs st) (defBody st) (kq st) .none kV doc pm an cdv ct):=⟨⟨oc,od,kV,doc,pm,an,cdv,ct,osl,rfl,l,c⟩,k⟩
end
theorem l8{n:Nat}(h:n<=1000):n<sizeLine:=jv h (by decide)
section
variable{X:Cx}
theorem pv(i:Nat){x:Str}{pos:Pos}(hN:X.N[i]?=some x:=by rfl)(hv:Vis X.env.scope x:=by first|exact Or.inl rfl|exact Or.inr (Or.inl rfl)|exact Or.inr (Or.inr rfl))(hd:(x==("__debug__" : Str))=false:=by decide)
  (hcd:(x==("__classdict__" : Str))=false:=by decide):PE X (.Name x pos) (tVar i):=pe_var hN hv hd hcd
end
theorem iteF{A B:Prop}(h:B):if false=true then A else B:=by
 rw[if_neg ah]
 exact h
theorem iteT{A B:Prop}(h:A):if true=true then A else B:=by
 rw[if_pos rfl]
 exact h
theorem ite2{c A B:Prop}[Decidable c](h1:c->A)(h2:¬c->B):if c then A else B:=by
 by_cases h:c
 .rw[if_pos h]
  exact h1 h
 .rw[if_neg h]
  exact h2 h
noncomputable def Same(H H':Hp):Prop:=∀b o,H b=some o->H' b=some o
theorem Same.refl(H:Hp):Same H H:=λ_ _ h=>h
theorem Same.trans{H H1 H2:Hp}(a:Same H H1)(b:Same H1 H2):Same H H2:=λc o h=>b c o (a c o h)
theorem Same.free{H H':Hp}(e:Same H H'){l:Addr}(h:H' l=Option.none):H l=Option.none:=by
 cases q:H l with
 | none=>rfl
 | some o=>
  rw[e l o q]at h
  cases h
end L2
namespace L3
theorem hid{G:Prop}(h:∀C:Prop,(G->C)->C):G:=h G id
end L3
namespace L3
open PySem PyProof.Rows
noncomputable def gallop':Bool->Keyed->Array Keyed->Nat->Nat->Nat->StateT SortSt Sem (Option Nat):=sortPriv% PySem.Builtin.gallop
noncomputable def beyond'(left:Bool)(key:Keyed)(arr:Array Keyed)(base i:Nat):StateT SortSt Sem (Option Bool):=do
 let x <-elem' arr (base+i)
 if left then lt' x key else return (<-lt' key x).map (!·)
theorem kz{M:Model}{A:Around}{E:Value->Shared->Prop}{s:Shared}{σ α:Type}{c:Prop}[Decidable c]{t e:StateT σ Sem α}{Q:α->σ->Prop}{st:σ}(a:c->wpS M A E s t Q st)(b:¬c->wpS M A E s e Q st):wpS M A E s (if c then t else e) Q st:=by
 by_cases h:c
 .rw[if_pos h];exact a h
 .rw[if_neg h];exact b h
section
variable{prog:Program}{w:World}{A:Around}{E:Value->Shared->Prop}{s:Shared}
noncomputable def CmpS(prog:Program)(w:World)(A:Around)(s:Shared)(κ:SortKind)(mem:Keyed->Prop)(lt:Keyed->Keyed->Bool):Prop:=
 ∀x y,mem x->mem y->∀(Q:Bool->Shared->Prop),Q (lt x y) s->wpAny (model prog w) A (keyLt' κ x.1 y.1) Q (λ_ _=>False) s
variable{κ:SortKind}{mem:Keyed->Prop}{lt:Keyed->Keyed->Bool}
theorem wpS_lt(C:CmpS prog w A s κ mem lt){st:SortSt}(hk:kindOf st=κ){x y:Keyed}(hx:mem x)(hy:mem y){Q:Option Bool->SortSt->Prop}(h:Q (some (lt x y)) st):wpS (model prog w) A E s (lt' x y) Q st:=by
 rw[lt'_eq]
 refine a6 (wpS_get ?_)
 rw[hk]
 refine a6 (wpS_lift (jn (jg (C x y hx hy (λb s'=>s'=s/\b=lt x y) ⟨rfl,rfl⟩) (λb s' hb=>⟨hb.1,?_⟩) λ_ _ z=>z.elim)))
 rw[hb.2]
 exact bj h
theorem wpS_beyond(C:CmpS prog w A s κ mem lt){st:SortSt}(hk:kindOf st=κ){left:Bool}{key:Keyed}{arr:Array Keyed}{base i:Nat}{x:Keyed}(hx:arr[base+i]?=some x)(hm:mem x)(hy:mem key){Q:Option Bool->SortSt->Prop}(h:Q (some (if left=true then lt x key else !lt key x)) st) :
  wpS (model prog w) A E s (beyond' left key arr base i) Q st:=by
 unfold beyond'
 rw[elem'_eq,hx]
 refine a6 (bj ?_)
 cases left with
 | true=>exact wpS_lt C hk hm hy h
 | false=>exact a6 (wpS_lt C hk hy hm (bj h))
theorem wpS_gallop(C:CmpS prog w A s κ mem lt){st:SortSt}(hk:kindOf st=κ){left:Bool}{key:Keyed}{arr:Array Keyed}{base n hint:Nat}(hkey:mem key)
  (harr:∀i,i<n->∃x,arr[base+i]?=some x/\mem x) (hh:hint<n) (B:Nat->Bool) (hB:∀i x,i<n->arr[base+i]?=some x->B i=(if left=true then lt x key else !lt key x))
  (mono:∀i j,i<=j->j<n->B j=true->B i=true) {Q:Option Nat->SortSt->Prop} (h:∀k,k<=n->(∀i,i<k->B i=true)->(∀i,k<=i->i<n->B i=false)->Q (some k) st) :
  wpS (model prog w) A E s (gallop' left key arr base n hint) Q st:=by
 have ask:∀(i:Nat) (Q:Option Bool->SortSt->Prop),i<n->Q (some (B i)) st->wpS (model prog w) A E s (beyond' left key arr base i) Q st:=λi Q hi q=>by
  obtain⟨x,hx,hm⟩:=harr i hi
  rw[hB i x hi hx]at q
  exact wpS_beyond C hk hx hm hkey q
 have fin:∀(lo hi:Nat) ,lo<=hi->hi<=n->(∀i,i<lo->B i=true)->(∀i,hi<=i->i<n->B i=false)->
   wpS (model prog w) A E s (do
    let mut l:=lo
    let mut r:=hi
    for _ in [0:n] do
     if l>=r then break
     let mid:=l+(r-l)/2
     let some up <-beyond' left key arr base mid|return none
     if up then l:=mid+1 else r:=mid
    return some r) Q st:=by
  intro lo hi h1 h2 h3 h4
  refine a6 (ij (fx (I:=λx c st'=>st'=st/\∃l r,c=(none,l,r)/\l<=r/\r<=n/\r-l<=n-x/\(∀i,i<l->B i=true)/\(∀i,r<=i->i<n->B i=false))
   (Q:=λc st'=>st'=st/\∃l r,c=(none,l,r)/\l=r/\r<=n/\(∀i,i<l->B i=true)/\(∀i,r<=i->i<n->B i=false)) ?step ?fin ?init) ?post)
  case init=>exact⟨rfl,(x_EE lo hi ⟨rfl,h1,h2,by omega,h3,h4⟩)⟩
  case fin=>
   intro c st' hIh
   refine hid λCg hCg=>?_
   obtain⟨rfl,l,r,rfl,a1,a2,a3,a4,a5⟩:=hIh
   refine hCg ?_
   exact⟨rfl,(x_EE l r ⟨rfl,by omega,a2,a4,a5⟩)⟩
  case post=>
   intro c st' hIh
   refine hid λCg hCg=>?_
   obtain⟨rfl,l,r,rfl,rfl,a2,a4,a5⟩:=hIh
   refine hCg ?_
   exact bj (h l a2 a4 a5)
  case step=>
   intro x c st' _ hx hIh
   refine hid λCg hCg=>?_
   obtain⟨rfl,l,r,rfl,a1,a2,a3,a4,a5⟩:=hIh
   refine hCg ?_
   dsimp only
   by_cases hge:l>=r
   .rw[if_pos hge]
    exact bj ⟨rfl,(x_EE l r ⟨rfl,by omega,a2,a4,a5⟩)⟩
   .rw[if_neg hge]
    refine a6 (ask _ _ (by omega) ?_)
    cases hb:B (l+(r-l)/2)with
    | true=>exact bj ⟨rfl,(x_EE (l+(r-l)/2+1) r ⟨rfl,by omega,a2,by omega,λi hi=>mono _ _ (show i<=l+(r-l)/2 by omega) (by omega) hb,a5⟩)⟩
    | false=>
     refine bj ⟨rfl,(x_EE l (l+(r-l)/2) ⟨rfl,by omega,by omega,by omega,a4,λi hi hn=>?_⟩)⟩
     cases hbi:B i with
     | false=>rfl
     | true=>rw[mono _ _ hi hn hbi]at hb;cases hb
 refine a6 (ask hint _ hh ?_)
 cases hb0:B hint with
 | true=>
  dsimp only
  simp only[if_true]
  refine a6 (ij (fx (I:=λx c st'=>st'=st/\∃lo ofs,c=(none,lo,ofs)/\x+1<=ofs/\lo<ofs/\hint+lo<n/\B (hint+lo)=true)
   (Q:=λc st'=>st'=st/\∃lo ofs,c=(none,lo,ofs)/\lo<ofs/\hint+lo<n/\B (hint+lo)=true/\(n-hint<=ofs\/(ofs<n-hint/\B (hint+ofs)=false))) ?step ?fin ?init) ?post)
  case init=>exact⟨rfl,(x_EE 0 1 ⟨rfl,by omega,by omega,by omega,hb0⟩)⟩
  case fin=>
   intro c st' hIh
   refine hid λCg hCg=>?_
   obtain⟨rfl,lo,ofs,rfl,a1,a2,a3,a4⟩:=hIh
   refine hCg ?_
   exact⟨rfl,(x_EE lo ofs ⟨rfl,a2,a3,a4,.inl (by omega)⟩)⟩
  case step=>
   intro x c st' _ hx hIh
   refine hid λCg hCg=>?_
   obtain⟨rfl,lo,ofs,rfl,a1,a2,a3,a4⟩:=hIh
   refine hCg ?_
   dsimp only
   by_cases hge:ofs>=n-hint
   .rw[if_pos hge]
    exact bj ⟨rfl,(x_EE lo ofs ⟨rfl,a2,a3,a4,.inl hge⟩)⟩
   .rw[if_neg hge]
    refine a6 (ask _ _ (by omega) ?_)
    cases hb:B (hint+ofs)with
    | false=>exact bj ⟨rfl,(x_EE lo ofs ⟨rfl,a2,a3,a4,.inr ⟨by omega,hb⟩⟩)⟩
    | true=>exact bj ⟨rfl,(x_EE ofs (2*ofs+1) ⟨rfl,by omega,by omega,by omega,hb⟩)⟩
  case post=>
   intro c st' hIh
   refine hid λCg hCg=>?_
   obtain⟨rfl,lo,ofs,rfl,a2,a3,a4,a5⟩:=hIh
   refine hCg ?_
   dsimp only
   refine fin _ _ ?_ ?_ (λi hi=>mono _ _ (show i<=hint+lo by omega) a3 a4) λi hi hn=>?_
   .omega
   .omega
   .rcases a5 with h5|⟨h5,h6⟩
    .omega
    .cases hbi:B i with
     | false=>rfl
     | true=>rw[mono _ _ (show hint+ofs<=i by omega) hn hbi]at h6;cases h6
 | false=>
  dsimp only
  simp only[a8,if_false]
  refine a6 (ij (fx (I:=λx c st'=>st'=st/\∃lo ofs,c=(none,lo,ofs)/\x+1<=ofs/\lo<ofs/\lo<=hint/\B (hint-lo)=false)
   (Q:=λc st'=>st'=st/\∃lo ofs,c=(none,lo,ofs)/\lo<ofs/\lo<=hint/\B (hint-lo)=false/\(hint+1<=ofs\/(ofs<hint+1/\B (hint-ofs)=true))) ?step ?fin ?init) ?post)
  case init=>exact⟨rfl,(x_EE 0 1 ⟨rfl,by omega,by omega,by omega,hb0⟩)⟩
  case fin=>
   intro c st' hIh
   refine hid λCg hCg=>?_
   obtain⟨rfl,lo,ofs,rfl,a1,a2,a3,a4⟩:=hIh
   refine hCg ?_
   exact⟨rfl,(x_EE lo ofs ⟨rfl,a2,a3,a4,.inl (by omega)⟩)⟩
  case step=>
   intro x c st' _ hx hIh
   refine hid λCg hCg=>?_
   obtain⟨rfl,lo,ofs,rfl,a1,a2,a3,a4⟩:=hIh
   refine hCg ?_
   dsimp only
   by_cases hge:ofs>=hint+1
   .rw[if_pos hge]
    exact bj ⟨rfl,(x_EE lo ofs ⟨rfl,a2,a3,a4,.inl hge⟩)⟩
   .rw[if_neg hge]
    refine a6 (ask _ _ (by omega) ?_)
    cases hb:B (hint-ofs)with
    | true=>exact bj ⟨rfl,(x_EE lo ofs ⟨rfl,a2,a3,a4,.inr ⟨by omega,hb⟩⟩)⟩
    | false=>exact bj ⟨rfl,(x_EE ofs (2*ofs+1) ⟨rfl,by omega,by omega,by omega,hb⟩)⟩
  case post=>
   intro c st' hIh
   refine hid λCg hCg=>?_
   obtain⟨rfl,lo,ofs,rfl,a2,a3,a4,a5⟩:=hIh
   refine hCg ?_
   dsimp only
   refine fin _ _ ?_ ?_ (λi hi=>?_) λi hi hn=>?_
   .omega
   .omega
   .rcases a5 with h5|⟨h5,h6⟩
    .omega
    .exact mono _ _ (show i<=hint-ofs by omega) (by omega) h6
   .cases hbi:B i with
    | false=>rfl
    | true=>rw[mono _ _ (show hint-lo<=i by omega) hn hbi]at a4;cases a4
end
structure KOrd(lt:Keyed->Keyed->Bool):Prop where
 asy:∀x y,lt x y=true->lt y x=false
 tr:∀x y z,lt y x=false->lt z y=false->lt z x=false
noncomputable def Srt(lt:Keyed->Keyed->Bool)(l:List Keyed):Prop:=l.Pairwise λx y=>lt y x=false
structure Mid(lt:Keyed->Keyed->Bool)(la lb out:List Keyed)(ia ib:Nat):Prop where
 perm:out.Perm (la.take ia++lb.take ib)
 srt:Srt lt out
 leA:∀x∈out,∀y∈la.drop ia,lt y x=false
 leB:∀x∈out,∀y∈lb.drop ib,lt y x=false
section
variable{lt:Keyed->Keyed->Bool}{la lb out:List Keyed}{ia ib:Nat}
theorem take_more{l:List Keyed}{i k:Nat}:l.take (i+k)=l.take i++(l.drop i).take k:=by
 rw[List.take_add]
theorem Mid.pushA(m:Mid lt la lb out ia ib)(hA:Srt lt la)(k:Nat)(h:∀x∈(la.drop ia).take k,∀y∈lb.drop ib,lt y x=false):Mid lt la lb (out++(la.drop ia).take k) (ia+k) ib:=by
 have hd:Srt lt (la.drop ia):=fy (List.drop_sublist _ _) hA
 have hs:(la.drop ia).take k++la.drop (ia+k)=la.drop ia:=by
  rw[<-List.drop_drop];exact cz k _
 have hd2:=hd
 unfold Srt at hd2
 rw[<-hs,da]at hd2
 refine⟨?_,?_,λx hx y hy=>?_,λx hx y hy=>?_⟩
 .rw[take_more]
  refine((m.perm.append_right _).trans ?_)
  rw[bf,bf]
  exact gp _ List.perm_append_comm
 .exact da.mpr ⟨m.srt,hd2.1,λx hx y hy=>m.leA x hx y (dq hy)⟩
 .rcases bm.mp hx with h1|h1
  .exact m.leA x h1 y (by rw[<-hs];exact cq _ hy)
  .exact hd2.2.2 x h1 y hy
 .rcases bm.mp hx with h1|h1
  .exact m.leB x h1 y hy
  .exact h x h1 y hy
theorem Mid.pushB(m:Mid lt la lb out ia ib)(hB:Srt lt lb)(k:Nat)(h:∀x∈(lb.drop ib).take k,∀y∈la.drop ia,lt y x=false):Mid lt la lb (out++(lb.drop ib).take k) ia (ib+k):=by
 have hd:Srt lt (lb.drop ib):=fy (List.drop_sublist _ _) hB
 have hs:(lb.drop ib).take k++lb.drop (ib+k)=lb.drop ib:=by
  rw[<-List.drop_drop];exact cz k _
 have hd2:=hd
 unfold Srt at hd2
 rw[<-hs,da]at hd2
 refine⟨?_,?_,λx hx y hy=>?_,λx hx y hy=>?_⟩
 .rw[take_more,<-bf]
  exact m.perm.append_right _
 .exact da.mpr ⟨m.srt,hd2.1,λx hx y hy=>m.leB x hx y (dq hy)⟩
 .rcases bm.mp hx with h1|h1
  .exact m.leA x h1 y hy
  .exact h x h1 y hy
 .rcases bm.mp hx with h1|h1
  .exact m.leB x h1 y (by rw[<-hs];exact cq _ hy)
  .exact hd2.2.2 x h1 y hy
noncomputable def mm(lt:Keyed->Keyed->Bool)(la lb out:List Keyed):Prop:=out.Perm (la++lb)/\Srt lt out
theorem Mid.endB(m:Mid lt la lb out ia ib)(hA:Srt lt la)(h:lb.length<=ib):mm lt la lb (out++la.drop ia):=by
 have hd:Srt lt (la.drop ia):=fy (List.drop_sublist _ _) hA
 refine⟨?_,da.mpr ⟨m.srt,hd,m.leA⟩⟩
 have e:lb.take ib=lb:=a7 h
 have p:=m.perm.append_right (la.drop ia)
 rw[e,bf]at p
 refine p.trans ((gp _ List.perm_append_comm).trans ?_)
 rw[<-bf,cz]
theorem Mid.endA(m:Mid lt la lb out ia ib)(hB:Srt lt lb)(h:la.length<=ia):mm lt la lb (out++lb.drop ib):=by
 have hd:Srt lt (lb.drop ib):=fy (List.drop_sublist _ _) hB
 refine⟨?_,da.mpr ⟨m.srt,hd,m.leB⟩⟩
 have e:la.take ia=la:=a7 h
 have p:=m.perm.append_right (lb.drop ib)
 rw[e,bf,cz]at p
 exact p
theorem Mid.lastA(m:Mid lt la lb out ia ib)(o:KOrd lt)(hA:Srt lt la)(hB:Srt lt lb)(h:ia+1=la.length)(hl:∀y∈lb,∀x∈la.drop ia,lt y x=true):mm lt la lb (out++lb.drop ib++la.drop ia):=by
 have m2:=m.pushB hB (lb.length-ib) λx hx y hy=>o.asy _ _ (hl x (List.mem_of_mem_drop (dq hx)) y hy)
 have e:(lb.drop ib).take (lb.length-ib)=lb.drop ib:=a7 (by rw[iq];exact ao _)
 rw[e]at m2
 exact m2.endB hA (by omega)
end
noncomputable def setMinGallop':Nat->StateT SortSt Sem Unit:=sortPriv% PySem.Builtin.setMinGallop
noncomputable abbrev setGal(st:SortSt)(g:Nat):SortSt:=SortSt.mk' (kindOf st) (arrOf st) (pendingOf st) g (failedOf st)
noncomputable def mergeLo':Array Keyed->Array Keyed->StateT SortSt Sem (Array Keyed):=sortPriv% PySem.Builtin.mergeLo
noncomputable def SameG(st st':SortSt):Prop:=kindOf st'=kindOf st/\arrOf st'=arrOf st/\pendingOf st'=pendingOf st/\failedOf st'=failedOf st
theorem SameG.refl(st:SortSt):SameG st st:=⟨rfl,rfl,rfl,rfl⟩
theorem SameG.gal{st st':SortSt}(h:SameG st st')(g:Nat):SameG st (setGal st' g):=h
section
variable{prog:Program}{w:World}{A:Around}{E:Value->Shared->Prop}{s:Shared}
variable{κ:SortKind}{mem:Keyed->Prop}{lt:Keyed->Keyed->Bool}
structure Two(mem:Keyed->Prop)(lt:Keyed->Keyed->Bool)(a b:Array Keyed):Prop where
 mA:∀x∈a.toList,mem x
 mB:∀x∈b.toList,mem x
 sA:Srt lt a.toList
 sB:Srt lt b.toList
 pA:0<a.size
 pB:0<b.size
 first:∀x y,b[0]?=some x->a[0]?=some y->lt x y=true
 last:∀y∈b.toList,∀x,a[a.size-1]?=some x->lt y x=true
theorem gal_at{st:SortSt}{g:Nat}{Q:Unit->SortSt->Prop}(q:Q () (setGal st g)):wpS (model prog w) A E s (setMinGallop' g) Q st:=
 show wpS (model prog w) A E s (modify λz=>setGal z g) Q st from wpS_modify q
theorem ln{arr:Array Keyed}{i:Nat}{x:Keyed}(h:arr[i]?=some x){st:SortSt}{Q:Keyed->SortSt->Prop}(q:Q x st):wpS (model prog w) A E s (elem' arr i) Q st:=by
 rw[elem'_eq,h]
 exact bj q
theorem o9{arr:Array Keyed}{i:Nat}{x:Keyed}(h:arr[i]?=some x):arr.toList.drop i=x::arr.toList.drop (i+1):=by
 obtain⟨hi,e⟩:=bh.mp h
 have:=List.drop_eq_getElem_cons (l:=arr.toList) (i:=i) (by simpa using hi)
 rw[this]
 simp[e]
theorem srt_head{l:List Keyed}{x:Keyed}{r:List Keyed}(o:KOrd lt)(hs:Srt lt l)(e:l=x::r):∀z∈l,lt z x=false:=by
 subst e
 intro z hz
 rcases ax.mp hz with h|h
 .rw[h]
  cases q:lt x x with
  | false=>rfl
  | true=>have:=o.asy _ _ q;rw[q]at this;cases this
 .exact(fu.mp hs).1 z h
theorem srt_drop{l:List Keyed}(hs:Srt lt l)(i:Nat):Srt lt (l.drop i):=fy (List.drop_sublist _ _) hs
theorem srt_two{arr:Array Keyed}(o:KOrd lt)(hs:Srt lt arr.toList){i j:Nat}{x y:Keyed}(hij:i<=j)(hx:arr[i]?=some x)(hy:arr[j]?=some y):lt y x=false:=by
 have e:=o9 hx
 have hm:y∈arr.toList.drop i:=by
  rw[bz]
  exact⟨j-i,by rw[eu,show i+(j-i)=j by omega];simpa using hy⟩
 exact srt_head o (srt_drop hs i) e y hm
noncomputable def Live(lt:Keyed->Keyed->Bool)(a b out:Array Keyed)(ia ib:Nat):Prop:=Mid lt a.toList b.toList out.toList ia ib/\ia+1<a.size/\ib<b.size
theorem stepB{a b out:Array Keyed}{ia ib:Nat}{x:Keyed}(o:KOrd lt)(T:Two mem lt a b)(m:Mid lt a.toList b.toList out.toList ia ib)(hx:b[ib]?=some x)(h:∀z∈a.toList.drop ia,lt z x=false) :
  Mid lt a.toList b.toList (out.push x).toList ia (ib+1):=by
 have m2:=m.pushB T.sB 1 λu hu y hy=>by
  rw[o9 hx]at hu
  have:u=x:=by simpa using hu
  rw[this]
  exact h y hy
 rw[o9 hx]at m2
 simpa using m2
theorem stepA{a b out:Array Keyed}{ia ib:Nat}{y:Keyed}(o:KOrd lt)(T:Two mem lt a b)(m:Mid lt a.toList b.toList out.toList ia ib)(hy:a[ia]?=some y)(h:∀z∈b.toList.drop ib,lt z y=false) :
  Mid lt a.toList b.toList (out.push y).toList (ia+1) ib:=by
 have m2:=m.pushA T.sA 1 λu hu z hz=>by
  rw[o9 hy]at hu
  have:u=y:=by simpa using hu
  rw[this]
  exact h z hz
 rw[o9 hy]at m2
 simpa using m2
theorem le_rest{arr:Array Keyed}(o:KOrd lt)(hs:Srt lt arr.toList){i:Nat}{x y:Keyed}(hx:arr[i]?=some x)(h:lt x y=false):∀z∈arr.toList.drop i,lt z y=false:=λz hz=>
 o.tr y x z h (srt_head o (srt_drop hs i) (o9 hx) z hz)
theorem doneB{a b out:Array Keyed}{ia ib:Nat}(T:Two mem lt a b)(m:Mid lt a.toList b.toList out.toList ia ib)(h:ib=b.size):mm lt a.toList b.toList (out++a.extract ia a.size++b.extract ib b.size).toList:=by
 have:=m.endB T.sA (by simp[h])
 have e:List.take (a.size-ia) (a.toList.drop ia)=a.toList.drop ia:=a7 (by simp)
 simpa [h,e]using this
theorem doneA{a b out:Array Keyed}{ia ib:Nat}(T:Two mem lt a b)(m:Mid lt a.toList b.toList out.toList ia ib)(h:ia=a.size):mm lt a.toList b.toList (out++a.extract ia a.size++b.extract ib b.size).toList:=by
 have:=m.endA T.sB (by simp[h])
 have e:List.take (b.size-ib) (b.toList.drop ib)=b.toList.drop ib:=a7 (by simp)
 simpa [h,e]using this
theorem doneL{a b out:Array Keyed}{ia ib:Nat}(o:KOrd lt)(T:Two mem lt a b)(m:Mid lt a.toList b.toList out.toList ia ib)(h:ia+1=a.size):mm lt a.toList b.toList (out++b.extract ib b.size++a.extract ia a.size).toList:=by
 have:=m.lastA o T.sA T.sB (by simpa using h) λy hy x hx=>by
  have hl:a[ia]?=some (a[ia]'(by omega)):=by simp
  rw[o9 hl,List.drop_eq_nil_of_le (by simp;omega)]at hx
  have e:x=a[ia]'(by omega):=by simpa using hx
  refine T.last y hy x ?_
  rw[e,show a.size-1=ia by omega]
  exact hl
 have e:List.take (a.size-ia) (a.toList.drop ia)=a.toList.drop ia:=a7 (by simp)
 have e2:List.take (b.size-ib) (b.toList.drop ib)=b.toList.drop ib:=a7 (by simp)
 simpa [e,e2]using this
theorem low_take{arr:Array Keyed}{P:Keyed->Prop}{base k:Nat}(h:∀i z,i<k->arr[base+i]?=some z->P z):∀z∈(arr.toList.drop base).take k,P z:=λz hz=>by
 obtain⟨i,hi⟩:=bz.mp hz
 have hik:i<k:=by
  have:=(ak.mp hi).1
  rw[bx]at this
  omega
 rw[dh hik,eu]at hi
 exact h i z hik (by simpa using hi)
theorem high_drop{arr:Array Keyed}{P:Keyed->Prop}{base k:Nat}(h:∀i z,k<=i->arr[base+i]?=some z->P z):∀z∈arr.toList.drop (base+k),P z:=λz hz=>by
 obtain⟨i,hi⟩:=bz.mp hz
 rw[eu]at hi
 exact h (k+i) z (by omega) (by rw[<-Nat.add_assoc];simpa using hi)
theorem wpS_galR(C:CmpS prog w A s κ mem lt)(o:KOrd lt){st:SortSt}(hk:kindOf st=κ){key:Keyed}{arr:Array Keyed}{base n hint:Nat}(hkey:mem key)(hn:base+n<=arr.size)(hm:∀i z,i<n->arr[base+i]?=some z->mem z)(hh:hint<n)
  (hs:∀i j y z,i<=j->j<n->arr[base+i]?=some y->arr[base+j]?=some z->lt z y=false) {Q:Option Nat->SortSt->Prop}
  (h:∀k,k<=n->(∀i z,i<k->arr[base+i]?=some z->lt key z=false)->(∀i z,k<=i->i<n->arr[base+i]?=some z->lt key z=true)->Q (some k) st):wpS (model prog w) A E s (gallop' false key arr base n hint) Q st:=by
 have ex:∀i,i<n->∃z,arr[base+i]?=some z:=λi hi=>⟨arr[base+i]'(by omega),by simp⟩
 refine wpS_gallop C hk hkey (λi hi=>?_) hh (λi=>match arr[base+i]? with|some z=>!lt key z|none=>false) (λi z hi hz=>by simp[hz]) (λi j hij hj hb=>?_) λk hkn h1 h2=>h k hkn (λi z hi hz=>?_) λi z hi hn' hz=>?_
 .obtain⟨z,hz⟩:=ex i hi
  exact⟨z,hz,hm i z hi hz⟩
 .obtain⟨y,hy⟩:=ex i (by omega)
  obtain⟨z,hz⟩:=ex j hj
  simp only[hz,hy,Bool.not_eq_true']at hb⊢
  exact o.tr _ _ _ (hs i j y z hij hj hy hz) hb
 .have:=h1 i hi
  simpa [hz]using this
 .have:=h2 i hi hn'
  simpa [hz]using this
theorem wpS_galL(C:CmpS prog w A s κ mem lt)(o:KOrd lt){st:SortSt}(hk:kindOf st=κ){key:Keyed}{arr:Array Keyed}{base n hint:Nat}(hkey:mem key)(hn:base+n<=arr.size)(hm:∀i z,i<n->arr[base+i]?=some z->mem z)(hh:hint<n)
  (hs:∀i j y z,i<=j->j<n->arr[base+i]?=some y->arr[base+j]?=some z->lt z y=false) {Q:Option Nat->SortSt->Prop}
  (h:∀k,k<=n->(∀i z,i<k->arr[base+i]?=some z->lt z key=true)->(∀i z,k<=i->i<n->arr[base+i]?=some z->lt z key=false)->Q (some k) st):wpS (model prog w) A E s (gallop' true key arr base n hint) Q st:=by
 have ex:∀i,i<n->∃z,arr[base+i]?=some z:=λi hi=>⟨arr[base+i]'(by omega),by simp⟩
 refine wpS_gallop C hk hkey (λi hi=>?_) hh (λi=>match arr[base+i]? with|some z=>lt z key|none=>false) (λi z hi hz=>by simp[hz]) (λi j hij hj hb=>?_) λk hkn h1 h2=>h k hkn (λi z hi hz=>?_) λi z hi hn' hz=>?_
 .obtain⟨z,hz⟩:=ex i hi
  exact⟨z,hz,hm i z hi hz⟩
 .obtain⟨y,hy⟩:=ex i (by omega)
  obtain⟨z,hz⟩:=ex j hj
  simp only[hz,hy]at hb⊢
  cases q:lt y key with
  | true=>rfl
  | false=>rw[o.tr _ _ _ q (hs i j y z hij hj hy hz)]at hb;cases hb
 .have:=h1 i hi
  simpa [hz]using this
 .have:=h2 i hi hn'
  simpa [hz]using this
theorem wpS_mergeLo(C:CmpS prog w A s κ mem lt)(o:KOrd lt){st:SortSt}(hk:kindOf st=κ){a b:Array Keyed}(T:Two mem lt a b){Q:Array Keyed->SortSt->Prop}
  (h:∀out st',SameG st st'->mm lt a.toList b.toList out.toList->Q out st'):wpS (model prog w) A E s (mergeLo' a b) Q st:=by
 refine a6 (wpS_lift (jh ⟨rfl,?_⟩))
 have hb0:b[0]?=some (b[0]'T.pB):=by simp[T.pB]
 have ha0:a[0]?=some (a[0]'T.pA):=by simp[T.pA]
 refine a6 (ln hb0 ?_)
 have m0:Mid lt a.toList b.toList (#[]:Array Keyed).toList 0 0:=⟨by simp,List.Pairwise.nil,by simp,by simp⟩
 have m1:=stepB o T m0 hb0 λz hz=>o.tr _ _ _ (o.asy _ _ (T.first _ _ hb0 ha0)) (srt_head o (srt_drop T.sA 0) (o9 ha0) z hz)
 dsimp only
 refine kz (λ(hb1:(1==b.size)=true)=>?_) (λ(hb1:¬(1==b.size)=true)=>?_)
 .exact bj (h _ _ (SameG.refl _) (doneB T m1 (by simpa using hb1)))
 refine kz (λ(ha1:(0+1==a.size)=true)=>?_) (λ(ha1:¬(0+1==a.size)=true)=>?_)
 .exact bj (h _ _ (SameG.refl _) (doneL o T m1 (by simpa using ha1)))
 have hb2:1<b.size:=by have:¬1=b.size:=by simpa using hb1
                       have:=T.pB
                       omega
 have ha2:0+1<a.size:=by have:¬0+1=a.size:=by simpa using ha1
                         have:=T.pA
                         omega
 refine a6 (wpS_get ?_)
 refine a6 (ij (fx (I:=λx c st'=>SameG st st'/\∃out ia ib mg,c=(none,out,ia,ib,mg)/\Live lt a b out ia ib/\x+1<=ia+ib)
  (Q:=λc st'=>SameG st st'/\∃res r,c=(some res,r)/\mm lt a.toList b.toList res.toList) ?step ?fin ?init) ?post)
 case init=>exact⟨SameG.refl _,(nv _ _ _ _ ⟨rfl,⟨m1,ha2,hb2⟩,ao _⟩)⟩
 case fin=>
  intro c st' hIh
  refine hid λCg hCg=>?_
  obtain⟨_,out,ia,ib,mg,rfl,⟨_,h1,h2⟩,h3⟩:=hIh
  refine hCg ?_
  omega
 case post=>
  intro c st' hIh
  refine hid λCg hCg=>?_
  obtain⟨sg,res,r,rfl,hm⟩:=hIh
  refine hCg ?_
  exact bj (h _ _ sg hm)
 case step=>
  intro x c st' _ hx hIh
  refine hid λCg hCg=>?_
  obtain⟨sg,out,ia,ib,mg,rfl,L,hp⟩:=hIh
  refine hCg ?_
  dsimp only
  refine a6 (ij (fx (I:=λy c st'=>SameG st st'/\∃out' ia' ib' ac bc,c=(none,out',ia',ib',ac,bc)/\Live lt a b out' ia' ib'/\ia+ib<=ia'+ib')
   (Q:=λc st'=>SameG st st'/\((∃res r,c=(some res,r)/\mm lt a.toList b.toList res.toList)\/∃out' ia' ib' ac bc,c=(none,out',ia',ib',ac,bc)/\Live lt a b out' ia' ib'/\ia+ib<=ia'+ib')) ?istep ?ifin ?iinit) ?ipost)
  case iinit=>exact⟨sg,(lg _ _ _ _ _ ⟨rfl,L,ao _⟩)⟩
  case ifin=>
   rintro c st2 ⟨sg2,rest⟩
   exact⟨sg2,.inr rest⟩
  case istep=>
   intro y c st2 _ hy hIh
   refine hid λCg hCg=>?_
   obtain⟨sg2,out',ia',ib',ac,bc,rfl,⟨m,l1,l2⟩,hp'⟩:=hIh
   refine hCg ?_
   dsimp only
   have hxb:b[ib']?=some (b[ib']'l2):=by simp[l2]
   have hxa:a[ia']?=some (a[ia']'(by omega)):=by simp
   refine a6 (ln hxb (a6 (ln hxa (a6 (wpS_lt C (sg2.1.trans hk) (T.mB _ (by simp)) (T.mA _ (by simp)) ?_)))))
   cases hl:lt b[ib'] a[ia']with
   | true=>
    dsimp only
    simp only[if_true]
    refine a6 (ln hxb ?_)
    have m2:=stepB o T m hxb (le_rest o T.sA hxa (o.asy _ _ hl))
    try dsimp only
    refine kz (λ(he:(ib'+1==b.size)=true)=>?_) (λ(he:¬(ib'+1==b.size)=true)=>?_)
    .exact bj ⟨sg2,.inl (x_EE _ _ ⟨rfl,doneB T m2 (by simpa using he)⟩)⟩
    .have he':¬ib'+1=b.size:=by simpa using he
     have L2:Live lt a b (out'.push b[ib']) ia' (ib'+1):=⟨m2,l1,by omega⟩
     split
     .exact bj ⟨sg2,.inr (lg _ _ _ _ _ ⟨rfl,L2,by omega⟩)⟩
     .exact bj ⟨sg2,(lg _ _ _ _ _ ⟨rfl,L2,by omega⟩)⟩
   | false=>
    dsimp only
    simp only[a8,if_false]
    refine a6 (ln hxa ?_)
    have m2:=stepA o T m hxa (le_rest o T.sB hxb hl)
    try dsimp only
    refine kz (λ(he:(ia'+1+1==a.size)=true)=>?_) (λ(he:¬(ia'+1+1==a.size)=true)=>?_)
    .exact bj ⟨sg2,.inl (x_EE _ _ ⟨rfl,doneL o T m2 (by simpa using he)⟩)⟩
    .have he':¬ia'+1+1=a.size:=by simpa using he
     have L2:Live lt a b (out'.push a[ia']) (ia'+1) ib':=⟨m2,by omega,l2⟩
     split
     .exact bj ⟨sg2,.inr (lg _ _ _ _ _ ⟨rfl,L2,by omega⟩)⟩
     .exact bj ⟨sg2,(lg _ _ _ _ _ ⟨rfl,L2,by omega⟩)⟩
  case ipost=>
   intro c st2 hIh
   refine hid λCg hCg=>?_
   (rcases hIh with ⟨sg2,(⟨res,r,rfl,hm⟩|⟨out',ia',ib',ac,bc,rfl,L2,hp2⟩)⟩)<;>refine hCg ?_
   .dsimp only
    exact bj ⟨sg2,(x_EE _ _ ⟨rfl,hm⟩)⟩
   .dsimp only
    refine a6 (wpS_lift (jh ⟨rfl,?_⟩))
    refine a6 (ij (fx (I:=λy c st'=>SameG st st'/\∃out2 ia2 ib2 mg2 ac bc,c=(none,out2,ia2,ib2,mg2,ac,bc)/\Live lt a b out2 ia2 ib2/\ia'+ib'+y<=ia2+ib2)
     (Q:=λc st'=>SameG st st'/\((∃res r,c=(some res,r)/\mm lt a.toList b.toList res.toList)\/∃out2 ia2 ib2 mg2 ac bc,c=(none,out2,ia2,ib2,mg2,ac,bc)/\Live lt a b out2 ia2 ib2/\ia'+ib'+1<=ia2+ib2)) ?jstep ?jfin ?jinit) ?jpost)
    case jinit=>exact⟨sg2,(lg _ _ _ _ _ ⟨_,rfl,L2,ao _⟩)⟩
    case jfin=>
     intro c st3 hIh
     refine hid λCg hCg=>?_
     obtain⟨sg3,out2,ia2,ib2,mg2,ac2,bc2,rfl,L3,hp3⟩:=hIh
     refine hCg ?_
     exact⟨sg3,.inr (lg _ _ _ _ _ ⟨_,rfl,L3,by have:=T.pA;omega⟩)⟩
    case jpost=>
     intro c st3 hIh
     refine hid λCg hCg=>?_
     (rcases hIh with ⟨sg3,(⟨res,r,rfl,hm⟩|⟨out2,ia2,ib2,mg2,ac2,bc2,rfl,L3,hp3⟩)⟩)<;>refine hCg ?_
     .dsimp only
      exact bj ⟨sg3,(x_EE _ _ ⟨rfl,hm⟩)⟩
     .dsimp only
      refine a6 (gal_at ?_)
      exact bj ⟨sg3.gal _,(nv _ _ _ _ ⟨rfl,L3,by omega⟩)⟩
    case jstep=>
     intro y c st3 _ hy hIh
     refine hid λCg hCg=>?_
     obtain⟨sg3,out2,ia2,ib2,mg2,ac2,bc2,rfl,⟨m3,l3,l4⟩,hp3⟩:=hIh
     refine hCg ?_
     dsimp only
     have hxb:b[ib2]?=some (b[ib2]'l4):=by simp[l4]
     have memA:∀i z,a[i]?=some z->mem z:=λi z hz=>T.mA z (by obtain⟨h1,h2⟩:=bh.mp hz;rw[<-h2];simp)
     have memB:∀i z,b[i]?=some z->mem z:=λi z hz=>T.mB z (by obtain⟨h1,h2⟩:=bh.mp hz;rw[<-h2];simp)
     have body:∀(mg3:Nat) (st4:SortSt),SameG st st4->∀(k:Nat),k<=a.size-ia2->(∀i z,i<k->a[ia2+i]?=some z->lt b[ib2] z=false)->(∀i z,k<=i->i<a.size-ia2->a[ia2+i]?=some z->lt b[ib2] z=true)->
       ∃out3:Array Keyed,out3=out2++a.extract ia2 (ia2+k)/\Mid lt a.toList b.toList out3.toList (ia2+k) ib2/\∀z∈a.toList.drop (ia2+k),lt z b[ib2]=false:=by
      intro mg3 st4 sg4 k hkn h1 h2
      refine⟨_,rfl,?_,?_⟩
      .have m4:=m3.pushA T.sA k λz hz y hy=>le_rest o T.sB hxb (low_take (P:=λz=>lt b[ib2] z=false) h1 z hz) y hy
       have e:(out2++a.extract ia2 (ia2+k)).toList=out2.toList++(a.toList.drop ia2).take k:=by
        simp
       rw[e]
       exact m4
      .exact high_drop (P:=λz=>lt z b[ib2]=false) λi z hi hz=>o.asy _ _ (h2 i z hi (by have:=(bh.mp hz).1;omega) hz)
     have rest2:∀(out4:Array Keyed) (ia3 ib3 mg3 k k1:Nat) (st4:SortSt),SameG st st4->Mid lt a.toList b.toList out4.toList ia3 ib3->ia3+1<a.size->ib3<b.size->(∀z,a[ia3]?=some z->∀u∈b.toList.drop ib3,lt u z=false)->ia'+ib'+y+1<=ia3+ib3->
       wpS (model prog w) A E s (do
        let z2 <-elem' a ia3
        if (ia3+1+1==a.size)=true then
         pure (ForInStep.done (some (out4.push z2++b.extract ib3 b.size++a.extract (ia3+1) a.size),out4.push z2,ia3+1,ib3,mg3,k,k1))
        else if (decide (k<7)&&decide (k1<7))=true then pure (ForInStep.done (none,out4.push z2,ia3+1,ib3,mg3,k,k1))
        else pure (ForInStep.yield (none,out4.push z2,ia3+1,ib3,mg3,k,k1)))
       (λr st'=>match r with
        | .done c'=>SameG st st'/\((∃res r,c'=(some res,r)/\mm lt a.toList b.toList res.toList)\/∃out2 ia2 ib2 mg2 ac bc,c'=(none,out2,ia2,ib2,mg2,ac,bc)/\Live lt a b out2 ia2 ib2/\ia'+ib'+1<=ia2+ib2)
        | .yield c'=>SameG st st'/\∃out2 ia2 ib2 mg2 ac bc,c'=(none,out2,ia2,ib2,mg2,ac,bc)/\Live lt a b out2 ia2 ib2/\ia'+ib'+(y+1)<=ia2+ib2) st4:=by
      intro out4 ia3 ib3 mg3 k k1 st4 sg4 m5 l5 l6 hu hp5
      have hxa:a[ia3]?=some (a[ia3]'(by omega)):=by simp
      refine a6 (ln hxa ?_)
      have m6:=stepA o T m5 hxa (hu _ hxa)
      refine kz (λ(he:(ia3+1+1==a.size)=true)=>?_) (λ(he:¬(ia3+1+1==a.size)=true)=>?_)
      .exact bj ⟨sg4,.inl (x_EE _ _ ⟨rfl,doneL o T m6 (by simpa using he)⟩)⟩
      .have he':¬ia3+1+1=a.size:=by simpa using he
       have L6:Live lt a b (out4.push a[ia3]) (ia3+1) ib3:=⟨m6,by omega,l6⟩
       split
       .exact bj ⟨sg4,.inr (lg _ _ _ _ _ ⟨_,rfl,L6,by omega⟩)⟩
       .exact bj ⟨sg4,(lg _ _ _ _ _ ⟨_,rfl,L6,by omega⟩)⟩
     have rest:∀(out3:Array Keyed) (ia3 mg3 k:Nat) (st4:SortSt),SameG st st4->Mid lt a.toList b.toList out3.toList ia3 ib2->ia3+1<a.size->(∀z∈a.toList.drop ia3,lt z b[ib2]=false)->ia'+ib'+y<=ia3+ib2->
       wpS (model prog w) A E s (do
        let z <-elem' b ib2
        if (ib2+1==b.size)=true then
         pure (ForInStep.done (some (out3.push z++a.extract ia3 a.size++b.extract (ib2+1) b.size),out3.push z,ia3,ib2+1,mg3,k,bc2))
        else do
         let z1 <-elem' a ia3
         let x <-gallop' true z1 b (ib2+1) (b.size-(ib2+1)) 0
         match x with
         | some k1=>
          if k1>0 then
           if (ib2+1+k1==b.size)=true then
            pure (ForInStep.done (some (out3.push z++b.extract (ib2+1) (ib2+1+k1)++a.extract ia3 a.size++b.extract (ib2+1+k1) b.size),out3.push z++b.extract (ib2+1) (ib2+1+k1),ia3,ib2+1+k1,mg3,k,k1))
           else do
            let z2 <-elem' a ia3
            if (ia3+1+1==a.size)=true then
             pure (ForInStep.done (some ((out3.push z++b.extract (ib2+1) (ib2+1+k1)).push z2++b.extract (ib2+1+k1) b.size++a.extract (ia3+1) a.size),(out3.push z++b.extract (ib2+1) (ib2+1+k1)).push z2,ia3+1,ib2+1+k1,mg3,k,k1))
            else if (decide (k<7)&&decide (k1<7))=true then pure (ForInStep.done (none,(out3.push z++b.extract (ib2+1) (ib2+1+k1)).push z2,ia3+1,ib2+1+k1,mg3,k,k1))
            else pure (ForInStep.yield (none,(out3.push z++b.extract (ib2+1) (ib2+1+k1)).push z2,ia3+1,ib2+1+k1,mg3,k,k1))
          else do
           let z2 <-elem' a ia3
           if (ia3+1+1==a.size)=true then
            pure (ForInStep.done (some ((out3.push z).push z2++b.extract (ib2+1) b.size++a.extract (ia3+1) a.size),(out3.push z).push z2,ia3+1,ib2+1,mg3,k,k1))
           else if (decide (k<7)&&decide (k1<7))=true then pure (ForInStep.done (none,(out3.push z).push z2,ia3+1,ib2+1,mg3,k,k1))
           else pure (ForInStep.yield (none,(out3.push z).push z2,ia3+1,ib2+1,mg3,k,k1))
         | _=>pure (ForInStep.done (some (out3.push z++a.extract ia3 a.size++b.extract (ib2+1) b.size),out3.push z,ia3,ib2+1,mg3,k,bc2)))
       (λr st'=>match r with
        | .done c'=>SameG st st'/\((∃res r,c'=(some res,r)/\mm lt a.toList b.toList res.toList)\/∃out2 ia2 ib2 mg2 ac bc,c'=(none,out2,ia2,ib2,mg2,ac,bc)/\Live lt a b out2 ia2 ib2/\ia'+ib'+1<=ia2+ib2)
        | .yield c'=>SameG st st'/\∃out2 ia2 ib2 mg2 ac bc,c'=(none,out2,ia2,ib2,mg2,ac,bc)/\Live lt a b out2 ia2 ib2/\ia'+ib'+(y+1)<=ia2+ib2) st4:=by
      intro out3 ia3 mg3 k st4 sg4 m4 l5 hz4 hp4
      refine a6 (ln hxb ?_)
      have m5:=stepB o T m4 hxb hz4
      refine kz (λ(he:(ib2+1==b.size)=true)=>?_) (λ(he:¬(ib2+1==b.size)=true)=>?_)
      .exact bj ⟨sg4,.inl (x_EE _ _ ⟨rfl,doneB T m5 (by simpa using he)⟩)⟩
      have he':¬ib2+1=b.size:=by simpa using he
      have hxa:a[ia3]?=some (a[ia3]'(by omega)):=by simp
      refine a6 (ln hxa ?_)
      refine a6 (wpS_galL (st:=st4) (base:=ib2+1) (n:=b.size-(ib2+1)) (hint:=0) C o (sg4.1.trans hk) (memA _ _ hxa) (by omega) (λi z hi hz=>memB _ z hz) (by omega) (λi j y z hij hj hy hz=>srt_two o T.sB (show ib2+1+i<=ib2+1+j by omega) hy hz) λk1 hkn h1 h2=>?_)
      dsimp only
      have m6:=m5.pushB T.sB k1 λz hz u hu=>le_rest o T.sA hxa (o.asy _ _ (low_take (P:=λz=>lt z a[ia3]=true) h1 z hz)) u hu
      have e6:(out3.push b[ib2]++b.extract (ib2+1) (ib2+1+k1)).toList=(out3.push b[ib2]).toList++(b.toList.drop (ib2+1)).take k1:=by simp
      rw[<-e6]at m6
      have hu6:∀z,a[ia3]?=some z->∀u∈b.toList.drop (ib2+1+k1),lt u z=false:=λz hz=>by
       rw[hxa]at hz
       cases hz
       exact high_drop (P:=λu=>lt u a[ia3]=false) λi z hi hz=>h2 i z hi (by have:=(bh.mp hz).1;omega) hz
      refine kz (λ(hk0:k1>0)=>?_) (λ(hk0:¬(k1>0))=>?_)
      .refine kz (λ(he2:(ib2+1+k1==b.size)=true)=>?_) (λ(he2:¬(ib2+1+k1==b.size)=true)=>?_)
       .exact bj ⟨sg4,.inl (x_EE _ _ ⟨rfl,doneB T m6 (by simpa using he2)⟩)⟩
       .have he3:¬ib2+1+k1=b.size:=by simpa using he2
        exact rest2 _ ia3 (ib2+1+k1) mg3 k k1 st4 sg4 m6 l5 (by omega) hu6 (by omega)
      .have e0:k1=0:=by omega
       subst e0
       exact rest2 _ ia3 (ib2+1) mg3 k 0 st4 sg4 m5 l5 (by omega) hu6 (by omega)
     refine kz (λ(hmg:mg2>1)=>?_) (λ(hmg:¬(mg2>1))=>?_)
     .refine a6 (gal_at ?_)
      have sg4:SameG st (setGal st3 (mg2-1)):=sg3.gal _
      refine a6 (ln hxb ?_)
      refine a6 (wpS_galR (st:=setGal st3 (mg2-1)) (base:=ia2) (n:=a.size-ia2) (hint:=0) C o (sg4.1.trans hk) (memB _ _ hxb) (by omega) (λi z hi hz=>memA _ z hz) (by omega) (λi j y z hij hj hy hz=>srt_two o T.sA (show ia2+i<=ia2+j by omega) hy hz) λk hkn h1 h2=>?_)
      obtain⟨out3,e3,m4,hz4⟩:=body 0 st3 sg3 k hkn h1 h2
      dsimp only
      by_cases hk0:k>0
      .rw[if_pos hk0,<-e3]
       refine kz (λ(he:(ia2+k+1==a.size)=true)=>?_) (λ(he:¬(ia2+k+1==a.size)=true)=>?_)
       .exact bj ⟨sg4,.inl (x_EE _ _ ⟨rfl,doneL o T m4 (by simpa using he)⟩)⟩
       have he':¬ia2+k+1=a.size:=by simpa using he
       refine kz (λ(he2:(ia2+k==a.size)=true)=>?_) (λ(he2:¬(ia2+k==a.size)=true)=>?_)
       .exact bj ⟨sg4,.inl (x_EE _ _ ⟨rfl,doneA T m4 (by simpa using he2)⟩)⟩
       have he3:¬ia2+k=a.size:=by simpa using he2
       refine ij (rest out3 (ia2+k) (mg2-1) k _ sg4 m4 (by omega) hz4 (by omega)) λr st' hr=>?_
       cases r<;>exact hr
      .rw[if_neg hk0]
       have e0:k=0:=by omega
       subst e0
       have e5:out3=out2:=Array.ext' (by rw[e3];simp)
       rw[e5]at m4
       refine ij (rest out2 ia2 (mg2-1) 0 _ sg4 m4 l3 hz4 hp3) λr st' hr=>?_
       cases r<;>exact hr
     .refine a6 (gal_at ?_)
      have sg4:SameG st (setGal st3 (mg2)):=sg3.gal _
      refine a6 (ln hxb ?_)
      refine a6 (wpS_galR (st:=setGal st3 (mg2)) (base:=ia2) (n:=a.size-ia2) (hint:=0) C o (sg4.1.trans hk) (memB _ _ hxb) (by omega) (λi z hi hz=>memA _ z hz) (by omega) (λi j y z hij hj hy hz=>srt_two o T.sA (show ia2+i<=ia2+j by omega) hy hz) λk hkn h1 h2=>?_)
      obtain⟨out3,e3,m4,hz4⟩:=body 0 st3 sg3 k hkn h1 h2
      dsimp only
      by_cases hk0:k>0
      .rw[if_pos hk0,<-e3]
       refine kz (λ(he:(ia2+k+1==a.size)=true)=>?_) (λ(he:¬(ia2+k+1==a.size)=true)=>?_)
       .exact bj ⟨sg4,.inl (x_EE _ _ ⟨rfl,doneL o T m4 (by simpa using he)⟩)⟩
       have he':¬ia2+k+1=a.size:=by simpa using he
       refine kz (λ(he2:(ia2+k==a.size)=true)=>?_) (λ(he2:¬(ia2+k==a.size)=true)=>?_)
       .exact bj ⟨sg4,.inl (x_EE _ _ ⟨rfl,doneA T m4 (by simpa using he2)⟩)⟩
       have he3:¬ia2+k=a.size:=by simpa using he2
       refine ij (rest out3 (ia2+k) (mg2) k _ sg4 m4 (by omega) hz4 (by omega)) λr st' hr=>?_
       cases r<;>exact hr
      .rw[if_neg hk0]
       have e0:k=0:=by omega
       subst e0
       have e5:out3=out2:=Array.ext' (by rw[e3];simp)
       rw[e5]at m4
       refine ij (rest out2 ia2 (mg2) 0 _ sg4 m4 l3 hz4 hp3) λr st' hr=>?_
       cases r<;>exact hr
end
structure MidH(lt:Keyed->Keyed->Bool)(la lb R:List Keyed)(na nb:Nat):Prop where
 perm:R.Perm (la.drop na++lb.drop nb)
 srt:Srt lt R
 geA:∀x∈la.take na,∀y∈R,lt y x=false
 geB:∀x∈lb.take nb,∀y∈R,lt y x=false
section
variable{lt:Keyed->Keyed->Bool}{la lb R:List Keyed}{na nb:Nat}
theorem take_cut{l:List Keyed}{i n:Nat}(h:i<=n):l.take i++(l.take n).drop i=l.take n:=by
 have:=cz i (l.take n)
 rw[List.take_take,dg h]at this
 exact this
theorem cut_drop{l:List Keyed}{i n:Nat}(h:i<=n):(l.take n).drop i++l.drop n=l.drop i:=by
 have e:=cz n l
 have:=congrArg (List.drop i) e
 rw[List.drop_append]at this
 by_cases hl:n<=l.length
 .rw[bx,dg hl,show i-n=0 by omega,jd]at this
  exact this
 .rw[List.drop_eq_nil_of_le (show l.length<=n by omega),ck,a7 (by omega)]
theorem MidH.pushA(m:MidH lt la lb R na nb)(hA:Srt lt la){i:Nat}(hi:i<=na)(h:∀x∈lb.take nb,∀y∈(la.take na).drop i,lt y x=false):MidH lt la lb ((la.take na).drop i++R) i nb:=by
 have ht:Srt lt (la.take na):=fy (List.take_sublist _ _) hA
 have hs:=take_cut (l:=la) hi
 have ht2:=ht
 unfold Srt at ht2
 rw[<-hs,da]at ht2
 refine⟨?_,?_,λx hx y hy=>?_,λx hx y hy=>?_⟩
 .rw[<-cut_drop (l:=la) hi,bf]
  exact gp _ m.perm
 .exact da.mpr ⟨ht2.2.1,m.srt,λx hx y hy=>m.geA x (List.mem_of_mem_drop hx) y hy⟩
 .rcases bm.mp hy with h1|h1
  .exact ht2.2.2 x hx y h1
  .exact m.geA x (by rw[<-hs];exact jf _ hx) y h1
 .rcases bm.mp hy with h1|h1
  .exact h x hx y h1
  .exact m.geB x hx y h1
theorem MidH.pushB(m:MidH lt la lb R na nb)(hB:Srt lt lb){i:Nat}(hi:i<=nb)(h:∀x∈la.take na,∀y∈(lb.take nb).drop i,lt y x=false):MidH lt la lb ((lb.take nb).drop i++R) na i:=by
 have ht:Srt lt (lb.take nb):=fy (List.take_sublist _ _) hB
 have hs:=take_cut (l:=lb) hi
 have ht2:=ht
 unfold Srt at ht2
 rw[<-hs,da]at ht2
 refine⟨?_,?_,λx hx y hy=>?_,λx hx y hy=>?_⟩
 .rw[<-cut_drop (l:=lb) hi]
  refine(gp _ m.perm).trans ?_
  rw[<-bf,<-bf]
  exact List.Perm.append_right _ List.perm_append_comm
 .exact da.mpr ⟨ht2.2.1,m.srt,λx hx y hy=>m.geB x (List.mem_of_mem_drop hx) y hy⟩
 .rcases bm.mp hy with h1|h1
  .exact h x hx y h1
  .exact m.geA x hx y h1
 .rcases bm.mp hy with h1|h1
  .exact ht2.2.2 x hx y h1
  .exact m.geB x (by rw[<-hs];exact jf _ hx) y h1
theorem MidH.endA(m:MidH lt la lb R 0 nb)(hB:Srt lt lb):mm lt la lb (lb.take nb++R):=by
 have ht:Srt lt (lb.take nb):=fy (List.take_sublist _ _) hB
 refine⟨?_,da.mpr ⟨ht,m.srt,m.geB⟩⟩
 have p:=gp (lb.take nb) m.perm
 rw[jd]at p
 refine p.trans ?_
 rw[<-bf]
 refine(List.Perm.append_right _ List.perm_append_comm).trans ?_
 rw[bf,cz]
theorem MidH.endB(m:MidH lt la lb R na 0)(hA:Srt lt la):mm lt la lb (la.take na++R):=by
 have ht:Srt lt (la.take na):=fy (List.take_sublist _ _) hA
 refine⟨?_,da.mpr ⟨ht,m.srt,m.geA⟩⟩
 have p:=gp (la.take na) m.perm
 rw[jd,<-bf,cz]at p
 exact p
theorem MidH.firstB(m:MidH lt la lb R na 1)(o:KOrd lt)(hA:Srt lt la)(hB:Srt lt lb)(hl:∀y∈la,∀x∈lb.take 1,lt x y=true):mm lt la lb (lb.take 1++la.take na++R):=by
 have m2:=m.pushA hA (en na) λx hx y hy=>o.asy _ _ (hl y (dq (List.mem_of_mem_drop hy)) x hx)
 rw[jd]at m2
 have:=m2.endA hB
 rw[bf]
 exact this
end
noncomputable def mergeHi':Array Keyed->Array Keyed->StateT SortSt Sem (Array Keyed):=sortPriv% PySem.Builtin.mergeHi
section
variable{prog:Program}{w:World}{A:Around}{E:Value->Shared->Prop}{s:Shared}
variable{κ:SortKind}{mem:Keyed->Prop}{lt:Keyed->Keyed->Bool}
noncomputable def LiveH(lt:Keyed->Keyed->Bool)(a b out:Array Keyed)(na nb:Nat):Prop:=MidH lt a.toList b.toList out.reverse.toList na nb/\0<na/\1<nb/\na<=a.size/\nb<=b.size
theorem top_cut{arr:Array Keyed}{n:Nat}{x:Keyed}(h:arr[n]?=some x):(arr.toList.take (n+1)).drop n=[x]:=by
 obtain⟨hi,e⟩:=bh.mp h
 have hl:n<arr.toList.length:=by simpa using hi
 rw[List.take_succ,List.drop_append,List.drop_eq_nil_of_le (by rw[bx];omega)]
 have e2:n-min n arr.size=0:=by omega
 simp[h,e2]
theorem le_all{arr:Array Keyed}(o:KOrd lt)(hs:Srt lt arr.toList){n:Nat}{x y:Keyed}(hx:arr[n]?=some x)(h:lt y x=false):∀z∈arr.toList.take (n+1),lt y z=false:=λz hz=>by
 obtain⟨i,hi⟩:=bz.mp hz
 have hlt:i<n+1:=by
  have:=(ak.mp hi).1
  rw[bx]at this
  omega
 rw[dh hlt]at hi
 exact o.tr z x y (srt_two o hs (show i<=n by omega) (by simpa using hi) hx) h
theorem ext_rev(out arr:Array Keyed){i n:Nat}(h:i<=n):(out++(arr.extract i n).reverse).reverse.toList=(arr.toList.take n).drop i++out.reverse.toList:=by
 simp[List.take_drop,show i+(n-i)=n by omega]
theorem cut_mem{arr:Array Keyed}{P:Keyed->Prop}{i n:Nat}(h:∀j z,i<=j->j<n->arr[j]?=some z->P z):∀z∈(arr.toList.take n).drop i,P z:=λz hz=>by
 obtain⟨k,hk⟩:=bz.mp hz
 rw[eu]at hk
 have hlt:i+k<n:=by
  have:=(ak.mp hk).1
  rw[bx]at this
  omega
 rw[dh hlt]at hk
 exact h (i+k) z (by omega) hlt (by simpa using hk)
theorem stepHA{a b out:Array Keyed}{na nb:Nat}{y:Keyed}(T:Two mem lt a b)(m:MidH lt a.toList b.toList out.reverse.toList (na+1) nb)(hy:a[na]?=some y)(h:∀x∈b.toList.take nb,lt y x=false):MidH lt a.toList b.toList (out.push y).reverse.toList na nb:=by
 have m2:=m.pushA T.sA (Nat.le_succ na) λx hx u hu=>by
  rw[top_cut hy]at hu
  rw[ba.mp hu]
  exact h x hx
 rw[top_cut hy]at m2
 simpa using m2
theorem stepHB{a b out:Array Keyed}{na nb:Nat}{y:Keyed}(T:Two mem lt a b)(m:MidH lt a.toList b.toList out.reverse.toList na (nb+1))(hy:b[nb]?=some y)(h:∀x∈a.toList.take na,lt y x=false):MidH lt a.toList b.toList (out.push y).reverse.toList na nb:=by
 have m2:=m.pushB T.sB (Nat.le_succ nb) λx hx u hu=>by
  rw[top_cut hy]at hu
  rw[ba.mp hu]
  exact h x hx
 rw[top_cut hy]at m2
 simpa using m2
theorem doneHA{a b out:Array Keyed}{na nb:Nat}(T:Two mem lt a b)(m:MidH lt a.toList b.toList out.reverse.toList na nb)(h:na=0):mm lt a.toList b.toList (a.extract 0 na++b.extract 0 nb++out.reverse).toList:=by
 subst h
 have:=m.endA T.sB
 simpa using this
theorem doneHB{a b out:Array Keyed}{na nb:Nat}(T:Two mem lt a b)(m:MidH lt a.toList b.toList out.reverse.toList na nb)(h:nb=0):mm lt a.toList b.toList (a.extract 0 na++b.extract 0 nb++out.reverse).toList:=by
 subst h
 have:=m.endB T.sA
 simpa using this
theorem doneHF{a b out:Array Keyed}{na nb:Nat}(o:KOrd lt)(T:Two mem lt a b)(m:MidH lt a.toList b.toList out.reverse.toList na nb)(h:nb=1):mm lt a.toList b.toList (b.extract 0 nb++a.extract 0 na++out.reverse).toList:=by
 subst h
 have pB:=T.pB
 have pA:=T.pA
 have hb0:b[0]?=some (b[0]'T.pB):=by simp[T.pB]
 have ha0:a[0]?=some (a[0]'T.pA):=by simp[T.pA]
 have:=m.firstB o T.sA T.sB λy hy x hx=>by
  have e1:=top_cut hb0
  rw[jd]at e1
  rw[e1]at hx
  rw[ba.mp hx]
  have hya:lt y a[0]=false:=srt_head o (srt_drop T.sA 0) (o9 ha0) y (by rw[jd];exact hy)
  cases q:lt b[0] y with
  | true=>rfl
  | false=>have:=o.tr _ _ _ hya q;rw[T.first _ _ hb0 ha0]at this;cases this
 simpa using this
theorem wpS_mergeHi(C:CmpS prog w A s κ mem lt)(o:KOrd lt){st:SortSt}(hk:kindOf st=κ){a b:Array Keyed}(T:Two mem lt a b){Q:Array Keyed->SortSt->Prop}
  (h:∀out st',SameG st st'->mm lt a.toList b.toList out.toList->Q out st'):wpS (model prog w) A E s (mergeHi' a b) Q st:=by
 refine a6 (wpS_lift (jh ⟨rfl,?_⟩))
 have memA:∀i z,a[i]?=some z->mem z:=λi z hz=>T.mA z (by obtain⟨h1,h2⟩:=bh.mp hz;rw[<-h2];simp)
 have memB:∀i z,b[i]?=some z->mem z:=λi z hz=>T.mB z (by obtain⟨h1,h2⟩:=bh.mp hz;rw[<-h2];simp)
 have hpA:=T.pA
 have hpB:=T.pB
 have hal:a[a.size-1]?=some (a[a.size-1]'(by omega)):=by simp
 refine a6 (ln hal ?_)
 have m0:MidH lt a.toList b.toList (#[]:Array Keyed).reverse.toList (a.size-1+1) b.size:=by
  rw[show a.size-1+1=a.size by omega]
  exact⟨by simp,List.Pairwise.nil,by simp,by simp⟩
 have m1:=stepHA T m0 hal λx hx=>o.asy _ _ (T.last x (dq hx) _ hal)
 dsimp only
 refine kz (λ(ha1:(a.size-1==0)=true)=>?_) (λ(ha1:¬(a.size-1==0)=true)=>?_)
 .exact bj (h _ _ (SameG.refl _) (doneHA T m1 (by simpa using ha1)))
 refine kz (λ(hb1:(b.size==1)=true)=>?_) (λ(hb1:¬(b.size==1)=true)=>?_)
 .exact bj (h _ _ (SameG.refl _) (doneHF o T m1 (by simpa using hb1)))
 have ha2:¬a.size-1=0:=by simpa using ha1
 have hb2:¬b.size=1:=by simpa using hb1
 refine a6 (wpS_get ?_)
 refine a6 (ij (fx (I:=λx c st'=>SameG st st'/\∃na nb out mg,c=(none,na,nb,out,mg)/\LiveH lt a b out na nb/\na+nb+x+1<=a.size+b.size)
  (Q:=λc st'=>SameG st st'/\∃res r,c=(some res,r)/\mm lt a.toList b.toList res.toList) ?step ?fin ?init) ?post)
 case init=>exact⟨SameG.refl _,(nv _ _ _ _ ⟨rfl,⟨m1,by omega,by omega,by omega,by omega⟩,by omega⟩)⟩
 case fin=>
  intro c st' hIh
  refine hid λCg hCg=>?_
  obtain⟨_,na,nb,out,mg,rfl,⟨_,h1,h2,h3,h4⟩,h5⟩:=hIh
  refine hCg ?_
  omega
 case post=>
  intro c st' hIh
  refine hid λCg hCg=>?_
  obtain⟨sg,res,r,rfl,hm⟩:=hIh
  refine hCg ?_
  exact bj (h _ _ sg hm)
 case step=>
  intro x c st' _ hx hIh
  refine hid λCg hCg=>?_
  obtain⟨sg,na,nb,out,mg,rfl,L,hp⟩:=hIh
  refine hCg ?_
  dsimp only
  refine a6 (ij (fx (I:=λy c st'=>SameG st st'/\∃na' nb' out' ac bc,c=(none,na',nb',out',ac,bc)/\LiveH lt a b out' na' nb'/\na'+nb'<=na+nb)
   (Q:=λc st'=>SameG st st'/\((∃res r,c=(some res,r)/\mm lt a.toList b.toList res.toList)\/∃na' nb' out' ac bc,c=(none,na',nb',out',ac,bc)/\LiveH lt a b out' na' nb'/\na'+nb'<=na+nb)) ?istep ?ifin ?iinit) ?ipost)
  case iinit=>exact⟨sg,(lg _ _ _ _ _ ⟨rfl,L,ao _⟩)⟩
  case ifin=>
   rintro c st2 ⟨sg2,rest⟩
   exact⟨sg2,.inr rest⟩
  case istep=>
   intro y c st2 _ hy hIh
   refine hid λCg hCg=>?_
   obtain⟨sg2,na',nb',out',ac,bc,rfl,⟨m,l1,l2,l3,l4⟩,hp'⟩:=hIh
   refine hCg ?_
   obtain⟨n1,rfl⟩:∃n1,na'=n1+1:=⟨na'-1,by omega⟩
   obtain⟨n2,rfl⟩:∃n2,nb'=n2+1:=⟨nb'-1,by omega⟩
   dsimp only[Nat.add_sub_cancel]
   have hxb:b[n2]?=some (b[n2]'(by omega)):=by simp
   have hxa:a[n1]?=some (a[n1]'(by omega)):=by simp
   refine a6 (ln hxb (a6 (ln hxa (a6 (wpS_lt C (sg2.1.trans hk) (memB _ _ hxb) (memA _ _ hxa) ?_)))))
   cases hl:lt b[n2] a[n1]with
   | true=>
    dsimp only
    simp only[if_true]
    refine a6 (ln hxa ?_)
    have m2:=stepHA T m hxa (le_all o T.sB hxb (o.asy _ _ hl))
    try simp only[Nat.add_sub_cancel]
    refine kz (λ(he:(n1==0)=true)=>?_) (λ(he:¬(n1==0)=true)=>?_)
    .exact bj ⟨sg2,.inl (x_EE _ _ ⟨rfl,doneHA T m2 (by simpa using he)⟩)⟩
    .have he':¬n1=0:=by simpa using he
     have L2:LiveH lt a b (out'.push a[n1]) n1 (n2+1):=⟨m2,by omega,by omega,by omega,by omega⟩
     split
     .exact bj ⟨sg2,.inr (lg _ _ _ _ _ ⟨rfl,L2,by omega⟩)⟩
     .exact bj ⟨sg2,(lg _ _ _ _ _ ⟨rfl,L2,by omega⟩)⟩
   | false=>
    dsimp only
    simp only[a8,if_false]
    refine a6 (ln hxb ?_)
    have m2:=stepHB T m hxb (le_all o T.sA hxa hl)
    try simp only[Nat.add_sub_cancel]
    refine kz (λ(he:(n2==1)=true)=>?_) (λ(he:¬(n2==1)=true)=>?_)
    .exact bj ⟨sg2,.inl (x_EE _ _ ⟨rfl,doneHF o T m2 (by simpa using he)⟩)⟩
    .have he':¬n2=1:=by simpa using he
     have L2:LiveH lt a b (out'.push b[n2]) (n1+1) n2:=⟨m2,by omega,by omega,by omega,by omega⟩
     split
     .exact bj ⟨sg2,.inr (lg _ _ _ _ _ ⟨rfl,L2,by omega⟩)⟩
     .exact bj ⟨sg2,(lg _ _ _ _ _ ⟨rfl,L2,by omega⟩)⟩
  case ipost=>
   intro c st2 hIh
   refine hid λCg hCg=>?_
   (rcases hIh with ⟨sg2,(⟨res,r,rfl,hm⟩|⟨na',nb',out',ac,bc,rfl,L2,hp2⟩)⟩)<;>refine hCg ?_
   .dsimp only
    exact bj ⟨sg2,(x_EE _ _ ⟨rfl,hm⟩)⟩
   .dsimp only
    refine a6 (wpS_lift (jh ⟨rfl,?_⟩))
    refine a6 (ij (fx (I:=λy c st'=>SameG st st'/\∃na2 nb2 out2 mg2 ac bc,c=(none,na2,nb2,out2,mg2,ac,bc)/\LiveH lt a b out2 na2 nb2/\na2+nb2+y<=na'+nb')
     (Q:=λc st'=>SameG st st'/\((∃res r,c=(some res,r)/\mm lt a.toList b.toList res.toList)\/∃na2 nb2 out2 mg2 ac bc,c=(none,na2,nb2,out2,mg2,ac,bc)/\LiveH lt a b out2 na2 nb2/\na2+nb2+1<=na'+nb')) ?jstep ?jfin ?jinit) ?jpost)
    case jinit=>exact⟨sg2,(lg _ _ _ _ _ ⟨_,rfl,L2,ao _⟩)⟩
    case jfin=>
     intro c st3 hIh
     refine hid λCg hCg=>?_
     obtain⟨sg3,na2,nb2,out2,mg2,ac2,bc2,rfl,L3,hp3⟩:=hIh
     refine hCg ?_
     exact⟨sg3,.inr (lg _ _ _ _ _ ⟨_,rfl,L3,by omega⟩)⟩
    case jpost=>
     intro c st3 hIh
     refine hid λCg hCg=>?_
     (rcases hIh with ⟨sg3,(⟨res,r,rfl,hm⟩|⟨na2,nb2,out2,mg2,ac2,bc2,rfl,L3,hp3⟩)⟩)<;>refine hCg ?_
     .dsimp only
      exact bj ⟨sg3,(x_EE _ _ ⟨rfl,hm⟩)⟩
     .dsimp only
      refine a6 (gal_at ?_)
      exact bj ⟨sg3.gal _,(nv _ _ _ _ ⟨rfl,L3,by omega⟩)⟩
    case jstep=>
     intro y c st3 _ hy hIh
     refine hid λCg hCg=>?_
     obtain⟨sg3,na2,nb2,out2,mg2,ac2,bc2,rfl,⟨m3,l1,l2,l3,l4⟩,hp3⟩:=hIh
     refine hCg ?_
     dsimp only
     have hxb:b[nb2-1]?=some (b[nb2-1]'(by omega)):=by simp
     have rest2:∀(out4:Array Keyed) (na3 nb3 mg3 k k1:Nat) (st4:SortSt),SameG st st4->MidH lt a.toList b.toList out4.reverse.toList na3 nb3->0<na3->1<nb3->na3<=a.size->nb3<=b.size->(∀z,a[na3-1]?=some z->∀u∈b.toList.take nb3,lt z u=false)->na3+nb3+y+1<=na'+nb'->
       wpS (model prog w) A E s (do
        let z2 <-elem' a (na3-1)
        if (na3-1==0)=true then
         pure (ForInStep.done (some (a.extract 0 (na3-1)++b.extract 0 nb3++(out4.push z2).reverse),na3-1,nb3,out4.push z2,mg3,k,k1))
        else if (decide (k<7)&&decide (k1<7))=true then pure (ForInStep.done (none,na3-1,nb3,out4.push z2,mg3,k,k1))
        else pure (ForInStep.yield (none,na3-1,nb3,out4.push z2,mg3,k,k1)))
       (λr st'=>match r with
        | .done c'=>SameG st st'/\((∃res r,c'=(some res,r)/\mm lt a.toList b.toList res.toList)\/∃na2 nb2 out2 mg2 ac bc,c'=(none,na2,nb2,out2,mg2,ac,bc)/\LiveH lt a b out2 na2 nb2/\na2+nb2+1<=na'+nb')
        | .yield c'=>SameG st st'/\∃na2 nb2 out2 mg2 ac bc,c'=(none,na2,nb2,out2,mg2,ac,bc)/\LiveH lt a b out2 na2 nb2/\na2+nb2+(y+1)<=na'+nb') st4:=by
      intro out4 na3 nb3 mg3 k k1 st4 sg4 m5 q1 q2 q3 q4 hu hp5
      have hxa:a[na3-1]?=some (a[na3-1]'(by omega)):=by simp
      refine a6 (ln hxa ?_)
      have m6:=stepHA (na:=na3-1) T (by rw[show na3-1+1=na3 by omega];exact m5) hxa (hu _ hxa)
      refine kz (λ(he:(na3-1==0)=true)=>?_) (λ(he:¬(na3-1==0)=true)=>?_)
      .exact bj ⟨sg4,.inl (x_EE _ _ ⟨rfl,doneHA T m6 (by simpa using he)⟩)⟩
      .have he':¬na3-1=0:=by simpa using he
       have L6:LiveH lt a b (out4.push a[na3-1]) (na3-1) nb3:=⟨m6,by omega,by omega,by omega,by omega⟩
       split
       .exact bj ⟨sg4,.inr (lg _ _ _ _ _ ⟨_,rfl,L6,by omega⟩)⟩
       .exact bj ⟨sg4,(lg _ _ _ _ _ ⟨_,rfl,L6,by omega⟩)⟩
     have rest:∀(out3:Array Keyed) (na3 mg3 k:Nat) (st4:SortSt),SameG st st4->MidH lt a.toList b.toList out3.reverse.toList na3 nb2->0<na3->na3<=a.size->(∀z∈a.toList.take na3,lt b[nb2-1] z=false)->na3+nb2+y<=na'+nb'->
       wpS (model prog w) A E s (do
        let z <-elem' b (nb2-1)
        if (nb2-1==1)=true then
         pure (ForInStep.done (some (b.extract 0 (nb2-1)++a.extract 0 na3++(out3.push z).reverse),na3,nb2-1,out3.push z,mg3,k,bc2))
        else do
         let z1 <-elem' a (na3-1)
         let x <-gallop' true z1 b 0 (nb2-1) (nb2-1-1)
         match x with
         | some at1=>
          if nb2-1-at1>0 then
           if (at1==1)=true then
            pure (ForInStep.done (some (b.extract 0 at1++a.extract 0 na3++(out3.push z++(b.extract at1 (nb2-1)).reverse).reverse),na3,at1,(out3.push z++(b.extract at1 (nb2-1)).reverse),mg3,k,nb2-1-at1))
           else if (at1==0)=true then
            pure (ForInStep.done (some (a.extract 0 na3++b.extract 0 at1++(out3.push z++(b.extract at1 (nb2-1)).reverse).reverse),na3,at1,(out3.push z++(b.extract at1 (nb2-1)).reverse),mg3,k,nb2-1-at1))
           else do
            let z2 <-elem' a (na3-1)
            if (na3-1==0)=true then
             pure (ForInStep.done (some (a.extract 0 (na3-1)++b.extract 0 at1++((out3.push z++(b.extract at1 (nb2-1)).reverse).push z2).reverse),na3-1,at1,(out3.push z++(b.extract at1 (nb2-1)).reverse).push z2,mg3,k,nb2-1-at1))
            else if (decide (k<7)&&decide (nb2-1-at1<7))=true then pure (ForInStep.done (none,na3-1,at1,(out3.push z++(b.extract at1 (nb2-1)).reverse).push z2,mg3,k,nb2-1-at1))
            else pure (ForInStep.yield (none,na3-1,at1,(out3.push z++(b.extract at1 (nb2-1)).reverse).push z2,mg3,k,nb2-1-at1))
          else do
           let z2 <-elem' a (na3-1)
           if (na3-1==0)=true then
            pure (ForInStep.done (some (a.extract 0 (na3-1)++b.extract 0 (nb2-1)++((out3.push z).push z2).reverse),na3-1,(nb2-1),(out3.push z).push z2,mg3,k,nb2-1-at1))
           else if (decide (k<7)&&decide (nb2-1-at1<7))=true then pure (ForInStep.done (none,na3-1,(nb2-1),(out3.push z).push z2,mg3,k,nb2-1-at1))
           else pure (ForInStep.yield (none,na3-1,(nb2-1),(out3.push z).push z2,mg3,k,nb2-1-at1))
         | _=>pure (ForInStep.done (some (a.extract 0 na3++b.extract 0 (nb2-1)++(out3.push z).reverse),na3,nb2-1,out3.push z,mg3,k,bc2)))
       (λr st'=>match r with
        | .done c'=>SameG st st'/\((∃res r,c'=(some res,r)/\mm lt a.toList b.toList res.toList)\/∃na2 nb2 out2 mg2 ac bc,c'=(none,na2,nb2,out2,mg2,ac,bc)/\LiveH lt a b out2 na2 nb2/\na2+nb2+1<=na'+nb')
        | .yield c'=>SameG st st'/\∃na2 nb2 out2 mg2 ac bc,c'=(none,na2,nb2,out2,mg2,ac,bc)/\LiveH lt a b out2 na2 nb2/\na2+nb2+(y+1)<=na'+nb') st4:=by
      intro out3 na3 mg3 k st4 sg4 m4 q1 q3 hz4 hp4
      refine a6 (ln hxb ?_)
      have m5:=stepHB (nb:=nb2-1) T (by rw[show nb2-1+1=nb2 by omega];exact m4) hxb hz4
      refine kz (λ(he:(nb2-1==1)=true)=>?_) (λ(he:¬(nb2-1==1)=true)=>?_)
      .exact bj ⟨sg4,.inl (x_EE _ _ ⟨rfl,doneHF o T m5 (by simpa using he)⟩)⟩
      have he':¬nb2-1=1:=by simpa using he
      have hxa:a[na3-1]?=some (a[na3-1]'(by omega)):=by simp
      refine a6 (ln hxa ?_)
      refine a6 (wpS_galL (st:=st4) (base:=0) (n:=nb2-1) (hint:=nb2-1-1) C o (sg4.1.trans hk) (memA _ _ hxa) (by omega) (λi z hi hz=>memB _ z hz) (by omega) (λi j y z hij hj hy hz=>srt_two o T.sB (show 0+i<=0+j by omega) hy hz) λat1 hkn h1 h2=>?_)
      dsimp only
      have m6:=m5.pushB T.sB (i:=at1) hkn λx hx u hu=>by
       have hu2:lt u a[na3-1]=false:=cut_mem (P:=λu=>lt u a[na3-1]=false) (λi z hi hn hz=>h2 i z hi hn (by rw[Nat.zero_add];exact hz)) u hu
       exact le_all o T.sA hxa hu2 x (by rw[show na3-1+1=na3 by omega];exact hx)
      have e6:(out3.push b[nb2-1]++(b.extract at1 (nb2-1)).reverse).reverse.toList=(b.toList.take (nb2-1)).drop at1++(out3.push b[nb2-1]).reverse.toList:=ext_rev _ _ hkn
      rw[<-e6]at m6
      have hu6:∀z,a[na3-1]?=some z->∀u∈b.toList.take at1,lt z u=false:=λz hz=>by
       rw[hxa]at hz
       cases hz
       intro u hu
       refine o.asy _ _ (low_take (base:=0) (P:=λu=>lt u a[na3-1]=true) h1 u ?_)
       rw[jd]
       exact hu
      refine kz (λ(hk0:nb2-1-at1>0)=>?_) (λ(hk0:¬(nb2-1-at1>0))=>?_)
      .refine kz (λ(he2:(at1==1)=true)=>?_) (λ(he2:¬(at1==1)=true)=>?_)
       .exact bj ⟨sg4,.inl (x_EE _ _ ⟨rfl,doneHF o T m6 (by simpa using he2)⟩)⟩
       have he3:¬at1=1:=by simpa using he2
       refine kz (λ(he4:(at1==0)=true)=>?_) (λ(he4:¬(at1==0)=true)=>?_)
       .exact bj ⟨sg4,.inl (x_EE _ _ ⟨rfl,doneHB T m6 (by simpa using he4)⟩)⟩
       have he5:¬at1=0:=by simpa using he4
       exact rest2 _ na3 at1 mg3 k _ st4 sg4 m6 q1 (by omega) q3 (by omega) hu6 (by omega)
      .have e0:at1=nb2-1:=by omega
       rw[e0]at hu6
       exact rest2 _ na3 (nb2-1) mg3 k _ st4 sg4 m5 q1 (by omega) q3 (by omega) hu6 (by omega)
     refine kz (λ(hmg:mg2>1)=>?_) (λ(hmg:¬(mg2>1))=>?_)
     .refine a6 (gal_at ?_)
      have sg4:SameG st (setGal st3 (mg2-1)):=sg3.gal _
      refine a6 (ln hxb ?_)
      refine a6 (wpS_galR (st:=setGal st3 (mg2-1)) (base:=0) (n:=na2) (hint:=na2-1) C o (sg4.1.trans hk) (memB _ _ hxb) (by omega) (λi z hi hz=>memA _ z hz) (by omega) (λi j y z hij hj hy hz=>srt_two o T.sA (show 0+i<=0+j by omega) hy hz) λat1 hkn h1 h2=>?_)
      have m4:=m3.pushA T.sA (i:=at1) hkn λx hx u hu=>by
       have hu2:lt b[nb2-1] u=true:=cut_mem (P:=λu=>lt b[nb2-1] u=true) (λi z hi hn hz=>h2 i z hi hn (by rw[Nat.zero_add];exact hz)) u hu
       exact le_all o T.sB hxb (o.asy _ _ hu2) x (by rw[show nb2-1+1=nb2 by omega];exact hx)
      have e4:(out2++(a.extract at1 na2).reverse).reverse.toList=(a.toList.take na2).drop at1++out2.reverse.toList:=ext_rev _ _ hkn
      rw[<-e4]at m4
      have hz4:∀z∈a.toList.take at1,lt b[nb2-1] z=false:=λz hz=>low_take (base:=0) (P:=λz=>lt b[nb2-1] z=false) h1 z (by rw[jd];exact hz)
      dsimp only
      refine kz (λ(hk0:na2-at1>0)=>?_) (λ(hk0:¬(na2-at1>0))=>?_)
      .refine kz (λ(he:(at1==0)=true)=>?_) (λ(he:¬(at1==0)=true)=>?_)
       .exact bj ⟨sg4,.inl (x_EE _ _ ⟨rfl,doneHA T m4 (by simpa using he)⟩)⟩
       have he':¬at1=0:=by simpa using he
       refine ij (rest _ at1 (mg2-1) _ _ sg4 m4 (by omega) (by omega) hz4 (by omega)) λr st' hr=>?_
       cases r<;>exact hr
      .have e0:at1=na2:=by omega
       rw[e0]at hz4
       refine ij (rest out2 na2 (mg2-1) _ _ sg4 m3 (by omega) (by omega) hz4 hp3) λr st' hr=>?_
       cases r<;>exact hr
     .refine a6 (gal_at ?_)
      have sg4:SameG st (setGal st3 (mg2)):=sg3.gal _
      refine a6 (ln hxb ?_)
      refine a6 (wpS_galR (st:=setGal st3 (mg2)) (base:=0) (n:=na2) (hint:=na2-1) C o (sg4.1.trans hk) (memB _ _ hxb) (by omega) (λi z hi hz=>memA _ z hz) (by omega) (λi j y z hij hj hy hz=>srt_two o T.sA (show 0+i<=0+j by omega) hy hz) λat1 hkn h1 h2=>?_)
      have m4:=m3.pushA T.sA (i:=at1) hkn λx hx u hu=>by
       have hu2:lt b[nb2-1] u=true:=cut_mem (P:=λu=>lt b[nb2-1] u=true) (λi z hi hn hz=>h2 i z hi hn (by rw[Nat.zero_add];exact hz)) u hu
       exact le_all o T.sB hxb (o.asy _ _ hu2) x (by rw[show nb2-1+1=nb2 by omega];exact hx)
      have e4:(out2++(a.extract at1 na2).reverse).reverse.toList=(a.toList.take na2).drop at1++out2.reverse.toList:=ext_rev _ _ hkn
      rw[<-e4]at m4
      have hz4:∀z∈a.toList.take at1,lt b[nb2-1] z=false:=λz hz=>low_take (base:=0) (P:=λz=>lt b[nb2-1] z=false) h1 z (by rw[jd];exact hz)
      dsimp only
      refine kz (λ(hk0:na2-at1>0)=>?_) (λ(hk0:¬(na2-at1>0))=>?_)
      .refine kz (λ(he:(at1==0)=true)=>?_) (λ(he:¬(at1==0)=true)=>?_)
       .exact bj ⟨sg4,.inl (x_EE _ _ ⟨rfl,doneHA T m4 (by simpa using he)⟩)⟩
       have he':¬at1=0:=by simpa using he
       refine ij (rest _ at1 (mg2) _ _ sg4 m4 (by omega) (by omega) hz4 (by omega)) λr st' hr=>?_
       cases r<;>exact hr
      .have e0:at1=na2:=by omega
       rw[e0]at hz4
       refine ij (rest out2 na2 (mg2) _ _ sg4 m3 (by omega) (by omega) hz4 hp3) λr st' hr=>?_
       cases r<;>exact hr
end
noncomputable def Fk(f:Keyed->Int)(xs:Array Keyed)(i:Nat):Int:=(xs[i]?.map f).getD 0
noncomputable abbrev fl(f:Keyed->Int)(x y:Keyed):Bool:=decide (f x<f y)
theorem fl_ord(f:Keyed->Int):KOrd (fl f):=⟨λx y h=>by simp at h⊢;omega,λx y z h1 h2=>by simp at h1 h2⊢;omega⟩
noncomputable def Seg(f:Keyed->Int)(xs:Array Keyed)(lo n:Nat):Prop:=∀i j,lo<=i->i<=j->j<lo+n->Fk f xs i<=Fk f xs j
noncomputable def Dsc(f:Keyed->Int)(xs:Array Keyed)(lo n:Nat):Prop:=∀i j,lo<=i->i<=j->j<lo+n->Fk f xs j<=Fk f xs i
structure TB(κ:SortKind)(a₀:Array Keyed)(st:SortSt):Prop where
 perm:(arrOf st).Perm a₀
 kind:kindOf st=κ
 failed:failedOf st=none
structure Fr(lo:Nat)(st st':SortSt):Prop where
 pend:pendingOf st'=pendingOf st
 low:∀i,i<lo->(arrOf st')[i]?=(arrOf st)[i]?
theorem Fr.refl(lo:Nat)(st:SortSt):Fr lo st st:=⟨rfl,λ_ _=>rfl⟩
theorem Fr.trans{lo:Nat}{a b c:SortSt}(h:Fr lo a b)(k:Fr lo b c):Fr lo a c:=⟨k.pend.trans h.pend,λi hi=>(k.low i hi).trans (h.low i hi)⟩
theorem TB.size{κ:SortKind}{a₀:Array Keyed}{st:SortSt}(h:TB κ a₀ st):(arrOf st).size=a₀.size:=h.perm.size_eq
theorem TB.set{κ:SortKind}{a₀:Array Keyed}{st:SortSt}(h:TB κ a₀ st){xs:Array Keyed}(hp:xs.Perm (arrOf st)):TB κ a₀ (setArr st xs):=⟨hp.trans h.perm,h.kind,h.failed⟩
theorem Fk_of{f:Keyed->Int}{xs ys:Array Keyed}{i j:Nat}(h:xs[i]?=ys[j]?):Fk f xs i=Fk f ys j:=by unfold Fk;rw[h]
theorem Fk_mir{f:Keyed->Int}{xs:Array Keyed}{i j:Nat}(hj:j<=xs.size)(k:Nat):Fk f (mirror xs i j ((j-i)/2)) k=if i<=k/\k<j then Fk f xs (i+j-1-k)else Fk f xs k:=by
 have e:=getElem?_mirror_all (i:=i) hj k
 split
 .rename_i h;rw[if_pos h]at e;exact Fk_of e
 .rename_i h;rw[if_neg h]at e;exact Fk_of e
theorem Fk_mir_eq{f:Keyed->Int}{xs:Array Keyed}{i j:Nat}(hj:j<=xs.size)(he:∀k,i<=k->k<j->Fk f xs k=Fk f xs (j-1))(k:Nat):Fk f (mirror xs i j ((j-i)/2)) k=Fk f xs k:=by
 rw[Fk_mir hj]
 split
 .rw[he _ (by omega) (by omega),he k (by omega) (by omega)]
 .rfl
theorem Fk_bub{f:Keyed->Int}{xs:Array Keyed}{c d:Nat}(hs:c<xs.size)(hd:d<=c)(k:Nat) :
  Fk f (bubble xs c d) k=if k=c-d then Fk f xs c else if c-d<k/\k<=c then Fk f xs (k-1)else Fk f xs k:=by
 have e:=getElem?_bubble hs d hd k
 split
 .rename_i h;rw[if_pos h]at e;exact Fk_of e
 .rename_i h
  rw[if_neg h]at e
  split
  .rename_i h2;rw[if_pos h2]at e;exact Fk_of e
  .rename_i h2;rw[if_neg h2]at e;exact Fk_of e
theorem Fr.mir{lo:Nat}{st:SortSt}{i j:Nat}(hi:lo<=i)(hj:j<=(arrOf st).size):Fr lo st (setArr st (mirror (arrOf st) i j ((j-i)/2))):=
 ⟨rfl,λk hk=>by show(mirror (arrOf st) i j ((j-i)/2))[k]?=_;rw[getElem?_mirror_all hj,if_neg (by omega)]⟩
theorem Fr.bub{lo:Nat}{st:SortSt}{c d:Nat}(hs:c<(arrOf st).size)(hd:lo<=c-d)(hd2:d<=c):Fr lo st (setArr st (bubble (arrOf st) c d)):=
 ⟨rfl,λk hk=>by show(bubble (arrOf st) c d)[k]?=_;rw[getElem?_bubble hs d hd2,if_neg (by omega),if_neg (by omega)]⟩
section
variable{prog:Program}{w:World}{A:Around}{E:Value->Shared->Prop}{s:Shared}
variable{κ:SortKind}{mem:Keyed->Prop}{f:Keyed->Int}{a₀:Array Keyed}
theorem TB.at{st:SortSt}(h:TB κ a₀ st)(hm:∀x∈a₀.toList,mem x){i:Nat}(hi:i<a₀.size):∃x,(arrOf st)[i]?=some x/\mem x/\f x=Fk f (arrOf st) i:=by
 have hi':i<(arrOf st).size:=by rw[h.size];exact hi
 have e:(arrOf st)[i]?=some (arrOf st)[i]:=getElem?_pos _ i hi'
 refine⟨_,e,hm _ ((i9.mp h.perm).mem_iff.mp (by simp)),?_⟩
 unfold Fk
 rw[e]
 rfl
theorem wpS_ltF(C:CmpS prog w A s κ mem (fl f))(hm:∀x∈a₀.toList,mem x){st:SortSt}(B:TB κ a₀ st){i j:Nat}(hi:i<a₀.size)(hj:j<a₀.size){Q:Option Bool->SortSt->Prop}
  (h:Q (some (decide (Fk f (arrOf st) i<Fk f (arrOf st) j))) st):wpS (model prog w) A E s (ltAt' i j) Q st:=by
 obtain⟨x,e1,m1,k1⟩:=B.at (f:=f) hm hi
 obtain⟨y,e2,m2,k2⟩:=B.at (f:=f) hm hj
 rw[ltAt'_eq]
 refine a6 (wpS_get (a6 (ln e1 (a6 (ln e2 (wpS_lt C B.kind m1 m2 ?_))))))
 rw[<-k1,<-k2]at h
 exact h
theorem revS_at{st:SortSt}{i j:Nat}{Q:Unit->SortSt->Prop}(h:Q () (setArr st (mirror (arrOf st) i j ((j-i)/2)))):wpS (model prog w) A E s (reverseSlice' i j) Q st:=by
 rw[reverseSlice'_eq];exact wpS_modify h
noncomputable abbrev UpS:=Option (Option Nat)×Nat
noncomputable abbrev DnS:=Option (Option Nat)×Nat×Nat
noncomputable def upLoop(lo a nrem:Nat):StateT SortSt Sem UpS:=forIn [a:nrem] ((none,a):UpS) λ_ c=>do
 let q <-ltAt' (lo+c.snd) (lo+c.snd-1)
 match q with
 | some b=>if b=true then pure (.done (none,c.snd))else pure (.yield (none,c.snd+1))
 | _=>pure (.done (some none,c.snd))
noncomputable def dnTail(lo n nrem:Nat):StateT SortSt Sem (Option Nat):=do
 reverseSlice' lo (lo+n)
 let c <-upLoop lo n nrem
 match c.fst with
 | some r=>pure r
 | none=>pure (some c.snd)
noncomputable def dnLoop(lo n nrem:Nat):StateT SortSt Sem DnS:=forIn [n:nrem] ((none,n,0):DnS) λ_ c=>do
 let q <-ltAt' (lo+c.snd.fst) (lo+c.snd.fst-1)
 match q with
 | some b=>
  if b=true then
   if c.snd.snd>0 then do
    reverseSlice' (lo+c.snd.fst-(c.snd.snd+1)) (lo+c.snd.fst)
    pure (.yield (none,c.snd.fst+1,0))
   else pure (.yield (none,c.snd.fst+1,0))
  else do
   let q2 <-ltAt' (lo+c.snd.fst-1) (lo+c.snd.fst)
   match q2 with
   | some b2=>if b2=true then pure (.done (none,c.snd.fst,c.snd.snd))else pure (.yield (none,c.snd.fst+1,c.snd.snd+1))
   | _=>pure (.done (some none,c.snd.fst,c.snd.snd))
 | _=>pure (.done (some none,c.snd.fst,c.snd.snd))
noncomputable def dnPart(lo n nrem:Nat):StateT SortSt Sem (Option Nat):=do
 liftM (rule "list.sort.descending-run")
 let c <-dnLoop lo (n+1) nrem
 match c.fst with
 | some r=>pure r
 | none=>
  if c.snd.snd>0 then do
   reverseSlice' (lo+c.snd.fst-(c.snd.snd+1)) (lo+c.snd.fst)
   dnTail lo c.snd.fst nrem
  else dnTail lo c.snd.fst nrem
theorem count_lo(lo nrem:Nat):countRun' lo nrem=(do
  let c <-upLoop lo 1 nrem
  match c.fst with
  | some r=>pure r
  | none=>
   if (c.snd==nrem)=true then pure (some c.snd)
   else if c.snd>1 then do
    let q <-ltAt' lo (lo+c.snd-1)
    match q with
    | some b=>if b=true then pure (some c.snd)else do
      reverseSlice' lo (lo+c.snd)
      dnPart lo c.snd nrem
    | _=>pure none
   else dnPart lo c.snd nrem):=by
 rw[countRun'_eq]
 dsimp only
 unfold dnPart dnTail dnLoop upLoop
 congr 1
 funext c
 obtain⟨r,n⟩:=c
 cases r with
 | some r=>rfl
 | none=>
  dsimp only
  split
  .rfl
  .split
   .congr 1
    funext x
    cases x with
    | none=>rfl
    | some b=>
     dsimp only
     split
     .rfl
     .congr 1
      funext _r
      (congr 1;funext _u;congr 1;congr 1;funext c2;obtain⟨r2,n2,q2⟩:=c2;cases r2 with
       | some r2=>rfl
       | none=>(dsimp only;split;(congr 1;funext _v;(congr 1;funext _w;congr 1;(funext c3;obtain⟨r3,n3⟩:=c3;cases r3<;>rfl)));(congr 1;funext _w;congr 1;(funext c3;obtain⟨r3,n3⟩:=c3;cases r3<;>rfl))))
   ·(congr 1;funext _u;congr 1;congr 1;funext c2;obtain⟨r2,n2,q2⟩:=c2;cases r2 with
     | some r2=>rfl
     | none=>(dsimp only;split;(congr 1;funext _v;(congr 1;funext _w;congr 1;(funext c3;obtain⟨r3,n3⟩:=c3;cases r3<;>rfl)));(congr 1;funext _w;congr 1;(funext c3;obtain⟨r3,n3⟩:=c3;cases r3<;>rfl))))
theorem wpS_up(C:CmpS prog w A s κ mem (fl f))(hm:∀x∈a₀.toList,mem x){st:SortSt}{lo a nrem:Nat}{Q:UpS->SortSt->Prop}(hn:lo+nrem<=a₀.size)(ha:1<=a)(han:a<=nrem)(B:TB κ a₀ st)(hs:Seg f (arrOf st) lo a)
  (h:∀n,a<=n->n<=nrem->Seg f (arrOf st) lo n->(n=nrem\/Fk f (arrOf st) (lo+n)<Fk f (arrOf st) (lo+n-1))->Q (none,n) st):wpS (model prog w) A E s (upLoop lo a nrem) Q st:=by
 unfold upLoop
 refine fx (I:=λx c st'=>st'=st/\c=(none,x)/\Seg f (arrOf st) lo x) ?step ?fin ⟨rfl,rfl,hs⟩
 case fin=>
  rintro c st' ⟨rfl,rfl,hs'⟩
  rw[show max a nrem=nrem from Nat.max_eq_right (by omega)]at hs'⊢
  exact h nrem han (ao _) hs' (.inl rfl)
 case step=>
  rintro x c st' hax hxn ⟨rfl,rfl,hs'⟩
  dsimp only
  refine a6 (wpS_ltF C hm B (by omega) (by omega) ?_)
  by_cases hl:Fk f (arrOf st') (lo+x)<Fk f (arrOf st') (lo+x-1)
  .simp only[hl,decide_true,if_true]
   exact bj (h x hax (by omega) hs' (.inr hl))
  .simp only[hl,decide_false,a8,if_false]
   refine bj ⟨rfl,rfl,λi j hi hij hj=>?_⟩
   by_cases hjx:j<lo+x
   .exact hs' i j hi hij hjx
   .obtain rfl:j=lo+x:=by omega
    by_cases hi':i=lo+x
    .rw[hi'];exact iz _
    .have:=hs' i (lo+x-1) hi (by omega) (by omega);omega
noncomputable abbrev RunPost(f:Keyed->Int)(κ:SortKind)(a₀:Array Keyed)(lo nrem:Nat)(st:SortSt)(Q:Option Nat->SortSt->Prop):Prop:=
 ∀m st',TB κ a₀ st'->Fr lo st st'->1<=m->m<=nrem->Seg f (arrOf st') lo m->Q (some m) st'
theorem wpS_dnTail(C:CmpS prog w A s κ mem (fl f))(hm:∀x∈a₀.toList,mem x){st0 st:SortSt}{lo n nrem:Nat}{Q:Option Nat->SortSt->Prop}(hn:lo+nrem<=a₀.size)(h1:1<=n)(hnn:n<=nrem)(B:TB κ a₀ st)(F:Fr lo st0 st)(hs:Dsc f (arrOf st) lo n)
  (h:RunPost f κ a₀ lo nrem st0 Q):wpS (model prog w) A E s (dnTail lo n nrem) Q st:=by
 unfold dnTail
 have hsz:lo+n<=(arrOf st).size:=by rw[B.size];omega
 refine a6 (revS_at ?_)
 have B':TB κ a₀ (setArr st (mirror (arrOf st) lo (lo+n) ((lo+n-lo)/2))):=B.set (mirror_perm _ _ _ _)
 have F':=F.trans (Fr.mir (ao lo) hsz)
 refine a6 (wpS_up C hm hn h1 hnn B' ?_ λm hm1 hm2 hsm _=>bj (h m _ B' F' (by omega) hm2 hsm))
 intro i j hi hij hj
 show Fk f (mirror (arrOf st) lo (lo+n) ((lo+n-lo)/2)) i<=Fk f (mirror (arrOf st) lo (lo+n) ((lo+n-lo)/2)) j
 rw[Fk_mir hsz,Fk_mir hsz,if_pos (by omega),if_pos (by omega)]
 exact hs _ _ (by omega) (by omega) (by omega)
theorem dsc_more{xs ys:Array Keyed}{lo x:Nat}(h1:1<=x)(hs:Dsc f xs lo x)(hk:∀k,Fk f ys k=Fk f xs k)(hl:Fk f xs (lo+x)<=Fk f xs (lo+x-1)):Dsc f ys lo (x+1):=by
 intro i j hi hij hj
 rw[hk,hk]
 by_cases hjx:j<lo+x
 .exact hs i j hi hij hjx
 .obtain rfl:j=lo+x:=by omega
  by_cases hi':i=lo+x
  .rw[hi'];exact iz _
  .have:=hs i (lo+x-1) hi (by omega) (by omega);omega
theorem wpS_dnLoop(C:CmpS prog w A s κ mem (fl f))(hm:∀x∈a₀.toList,mem x){st0 st:SortSt}{lo n nrem:Nat}{Q:DnS->SortSt->Prop}(hn:lo+nrem<=a₀.size)(h1:1<=n)(hnn:n<=nrem)(B:TB κ a₀ st)(F:Fr lo st0 st)(hs:Dsc f (arrOf st) lo n)
  (h:∀m q st',TB κ a₀ st'->Fr lo st0 st'->n<=m->m<=nrem->Dsc f (arrOf st') lo m->q+1<=m->(∀i,lo+m-(q+1)<=i->i<lo+m->Fk f (arrOf st') i=Fk f (arrOf st') (lo+m-1))->Q (none,m,q) st') :
  wpS (model prog w) A E s (dnLoop lo n nrem) Q st:=by
 unfold dnLoop
 refine fx (I:=λx c st'=>∃q,c=(none,x,q)/\TB κ a₀ st'/\Fr lo st0 st'/\Dsc f (arrOf st') lo x/\q+1<=x/\∀i,lo+x-(q+1)<=i->i<lo+x->Fk f (arrOf st') i=Fk f (arrOf st') (lo+x-1)) ?step ?fin ⟨0,rfl,B,F,hs,by omega,λi h1 h2=>by congr 1;omega⟩
 case fin=>
  intro c st' hIh
  refine hid λCg hCg=>?_
  obtain⟨q,rfl,B',F',hs',hq,he⟩:=hIh
  refine hCg ?_
  rw[show max n nrem=nrem from Nat.max_eq_right (by omega)]at hs' hq he⊢
  exact h nrem q st' B' F' hnn (ao _) hs' hq he
 case step=>
  intro x c st' hax hxn hIh
  refine hid λCg hCg=>?_
  obtain⟨q,rfl,B',F',hs',hq,he⟩:=hIh
  refine hCg ?_
  dsimp only
  have hsz:lo+x<=(arrOf st').size:=by rw[B'.size];omega
  refine a6 (wpS_ltF C hm B' (by omega) (by omega) ?_)
  by_cases hl:Fk f (arrOf st') (lo+x)<Fk f (arrOf st') (lo+x-1)
  .simp only[hl,decide_true,if_true]
   refine kz (λ(hq0:q>0)=>?_) (λ(hq0:¬(q>0))=>?_)
   .exact a6 (revS_at (bj ⟨0,rfl,B'.set (mirror_perm _ _ _ _),F'.trans (Fr.mir (by omega) hsz),dsc_more (by omega) hs' (Fk_mir_eq hsz he) (Int.le_of_lt hl),by omega,λi h1 h2=>by congr 1;omega⟩))
   .exact bj ⟨0,rfl,B',F',dsc_more (by omega) hs' (λ_=>rfl) (Int.le_of_lt hl),by omega,λi h1 h2=>by congr 1;omega⟩
  .simp only[hl,decide_false,a8,if_false]
   refine a6 (wpS_ltF C hm B' (by omega) (by omega) ?_)
   by_cases hg:Fk f (arrOf st') (lo+x-1)<Fk f (arrOf st') (lo+x)
   .simp only[hg,decide_true,if_true]
    exact bj (h x q st' B' F' hax (by omega) hs' hq he)
   .simp only[hg,decide_false,a8,if_false]
    have hx:Fk f (arrOf st') (lo+x)=Fk f (arrOf st') (lo+x-1):=by omega
    refine bj ⟨q+1,rfl,B',F',dsc_more (by omega) hs' (λ_=>rfl) (by omega),by omega,λi h1 h2=>?_⟩
    rw[show lo+(x+1)-1=lo+x by omega]
    by_cases hix:i=lo+x
    .rw[hix]
    .rw[hx];exact he i (by omega) (by omega)
theorem wpS_dnPart(C:CmpS prog w A s κ mem (fl f))(hm:∀x∈a₀.toList,mem x){st0 st:SortSt}{lo n nrem:Nat}{Q:Option Nat->SortSt->Prop}(hn:lo+nrem<=a₀.size)(hnn:n+1<=nrem)(B:TB κ a₀ st)(F:Fr lo st0 st)(hs:Dsc f (arrOf st) lo (n+1))
  (h:RunPost f κ a₀ lo nrem st0 Q):wpS (model prog w) A E s (dnPart lo n nrem) Q st:=by
 unfold dnPart
 refine a6 (wpS_lift (jh ⟨rfl,?_⟩))
 refine a6 (wpS_dnLoop C hm hn (by omega) hnn B F hs λm q st' B' F' hm1 hm2 hs' hq he=>?_)
 dsimp only
 have hsz:lo+m<=(arrOf st').size:=by rw[B'.size];omega
 refine kz (λ(hq0:q>0)=>?_) (λ(hq0:¬(q>0))=>?_)
 .refine a6 (revS_at (wpS_dnTail C hm hn (by omega) hm2 (B'.set (mirror_perm _ _ _ _)) (F'.trans (Fr.mir (by omega) hsz)) ?_ h))
  intro i j hi hij hj
  show Fk f (mirror (arrOf st') _ _ _) j<=Fk f (mirror (arrOf st') _ _ _) i
  rw[Fk_mir_eq hsz he,Fk_mir_eq hsz he]
  exact hs' i j hi hij hj
 .exact wpS_dnTail C hm hn (by omega) hm2 B' F' hs' h
theorem wpS_run(C:CmpS prog w A s κ mem (fl f))(hm:∀x∈a₀.toList,mem x){st:SortSt}{lo nrem:Nat}{Q:Option Nat->SortSt->Prop}(hn:lo+nrem<=a₀.size)(h1:1<=nrem)(B:TB κ a₀ st)(h:RunPost f κ a₀ lo nrem st Q) :
  wpS (model prog w) A E s (countRun' lo nrem) Q st:=by
 rw[count_lo]
 refine a6 (wpS_up C hm hn (ao 1) h1 B (λi j hi hij hj=>by obtain rfl:i=j:=by omega
                                                           exact iz _) λn hn1 hn2 hsn hor=>?_)
 dsimp only
 by_cases hnn:n=nrem
 .rw[if_pos (by simpa using hnn)]
  exact bj (h n st B (Fr.refl _ _) hn1 hn2 hsn)
 .rw[if_neg (by simpa using hnn)]
  have hlt:Fk f (arrOf st) (lo+n)<Fk f (arrOf st) (lo+n-1):=hor.resolve_left hnn
  refine kz (λ(hgt:n>1)=>?_) (λ(hgt:¬(n>1))=>?_)
  .refine a6 (wpS_ltF C hm B (by omega) (by omega) ?_)
   by_cases hr:Fk f (arrOf st) lo<Fk f (arrOf st) (lo+n-1)
   .simp only[hr,decide_true,if_true]
    exact bj (h n st B (Fr.refl _ _) hn1 hn2 hsn)
   .simp only[hr,decide_false,a8,if_false]
    have hsz:lo+n<=(arrOf st).size:=by rw[B.size];omega
    have hall:∀k,lo<=k->k<lo+n->Fk f (arrOf st) k=Fk f (arrOf st) (lo+n-1):=by
     intro k hlk hk
     have a1:=hsn lo k (by omega) hlk hk
     have a2:=hsn k (lo+n-1) (by omega) (by omega) (by omega)
     omega
    refine a6 (revS_at (wpS_dnPart C hm hn (by omega) (B.set (mirror_perm _ _ _ _)) (Fr.mir (ao lo) hsz) (dsc_more (xs:=arrOf st) hn1 ?_ (Fk_mir_eq hsz hall) (Int.le_of_lt hlt)) h))
    intro i j hi hij hj
    rw[hall i (by omega) (by omega),hall j (by omega) hj]
    exact iz _
  .obtain rfl:n=1:=by omega
   refine wpS_dnPart C hm hn (by omega) B (Fr.refl _ _) (dsc_more (xs:=arrOf st) hn1 ?_ (λ_=>rfl) (Int.le_of_lt hlt)) h
   intro i j hi hij hj
   obtain rfl:i=j:=by omega
   exact iz _
theorem wpS_ins(C:CmpS prog w A s κ mem (fl f))(hm:∀x∈a₀.toList,mem x){st:SortSt}{lo n ok:Nat}{Q:Bool->SortSt->Prop}(hn:lo+n<=a₀.size)(hok:ok<=n)(B:TB κ a₀ st)(hs:Seg f (arrOf st) lo ok)
  (h:∀st',TB κ a₀ st'->Fr lo st st'->Seg f (arrOf st') lo n->Q true st'):wpS (model prog w) A E s (binarySort' lo n ok) Q st:=by
 rw[binarySort'_eq]
 refine a6 (ij (fx (I:=λk c st'=>c=(none,())/\TB κ a₀ st'/\Fr lo st st'/\Seg f (arrOf st') lo (min k n)) (Q:=λc st'=>c=(none,())/\TB κ a₀ st'/\Fr lo st st'/\Seg f (arrOf st') lo n) ?step ?fin ?init) ?post)
 case post=>
  intro c st' hIh
  refine hid λCg hCg=>?_
  obtain⟨rfl,B',F',hs'⟩:=hIh
  refine hCg ?_
  exact bj (h st' B' F' hs')
 case init=>
  refine⟨rfl,B,Fr.refl _ _,λi j hi hij hj=>?_⟩
  by_cases h1:ok=0
  .obtain rfl:i=j:=by omega
   exact iz _
  .exact hs i j hi hij (by omega)
 case fin=>
  intro c st' hIh
  refine hid λCg hCg=>?_
  obtain⟨hc,B',F',hs'⟩:=hIh
  refine hCg ?_
  refine⟨hc,B',F',?_⟩
  rwa [show min (max (max ok 1) n) n=n from Nat.min_eq_right (Nat.le_max_right _ _)]at hs'
 case step=>
  intro k c st' hak hkn hIh
  refine hid λCg hCg=>?_
  obtain⟨rfl,B',F',hs'⟩:=hIh
  refine hCg ?_
  rw[show min k n=k from dg (by omega)]at hs'
  have hk:lo+k<a₀.size:=by omega
  refine a6 (ij (fx (I:=λx c st''=>st''=st'/\∃l r,c=(none,l,r)/\l<=r/\r<=k/\r-l<=k-x/\(∀i,i<l->Fk f (arrOf st') (lo+i)<=Fk f (arrOf st') (lo+k))/\∀i,r<=i->i<k->Fk f (arrOf st') (lo+k)<Fk f (arrOf st') (lo+i))
   (Q:=λc st''=>st''=st'/\∃l r,c=(none,l,r)/\l<=k/\(∀i,i<l->Fk f (arrOf st') (lo+i)<=Fk f (arrOf st') (lo+k))/\∀i,l<=i->i<k->Fk f (arrOf st') (lo+k)<Fk f (arrOf st') (lo+i)) ?istep ?ifin ?iinit) ?ipost)
  case iinit=>exact⟨rfl,(x_EE 0 k ⟨rfl,by omega,by omega,by omega,λi hi=>by omega,λi h1 h2=>by omega⟩)⟩
  case ifin=>
   intro c st'' hIh
   refine hid λCg hCg=>?_
   obtain⟨rfl,l,r,rfl,hlr,hrk,hmm,hlo,hhi⟩:=hIh
   refine hCg ?_
   obtain rfl:l=r:=by omega
   exact⟨rfl,(x_EE l l ⟨rfl,hrk,hlo,hhi⟩)⟩
  case istep=>
   intro x c st'' _ hxk hIh
   refine hid λCg hCg=>?_
   obtain⟨rfl,l,r,rfl,hlr,hrk,hmm,hlo,hhi⟩:=hIh
   refine hCg ?_
   dsimp only
   refine kz (λ(hge:l>=r)=>?_) (λ(hge:¬(l>=r))=>?_)
   .obtain rfl:l=r:=by omega
    exact bj ⟨rfl,(x_EE l l ⟨rfl,hrk,hlo,hhi⟩)⟩
   .refine a6 (wpS_ltF C hm B' hk (by omega) ?_)
    by_cases hl:Fk f (arrOf st'') (lo+k)<Fk f (arrOf st'') (lo+(l+r)/2)
    .simp only[hl,decide_true,if_true]
     refine bj ⟨rfl,(x_EE l ((l+r)/2) ⟨rfl,by omega,by omega,by omega,hlo,λi h1 h2=>?_⟩)⟩
     have:=hs' (lo+(l+r)/2) (lo+i) (by omega) (by omega) (by omega)
     omega
    .simp only[hl,decide_false,a8,if_false]
     refine bj ⟨rfl,(x_EE ((l+r)/2+1) r ⟨rfl,by omega,by omega,by omega,λi h1=>?_,hhi⟩)⟩
     have:=hs' (lo+i) (lo+(l+r)/2) (by omega) (by omega) (by omega)
     omega
  case ipost=>
   intro c st'' hIh
   refine hid λCg hCg=>?_
   obtain⟨rfl,l,r,rfl,hlk,hlo,hhi⟩:=hIh
   refine hCg ?_
   show wpS _ _ _ _ (do moveDown' (lo+k) (lo+l);pure (ForInStep.yield (none,()))) _ _
   rw[moveDown'_eq]
   have hks:lo+k<(arrOf st'').size:=by rw[B'.size];exact hk
   refine a6 (wpS_modify (bj ⟨rfl,B'.set (bubble_perm _ _ _),F'.trans (Fr.bub hks (by omega) (by omega)),?_⟩))
   rw[show min (k+1) n=k+1 from dg (by omega)]
   intro i j hi hij hj
   show Fk f (bubble (arrOf st'') (lo+k) (lo+k-(lo+l))) i<=Fk f (bubble (arrOf st'') (lo+k) (lo+k-(lo+l))) j
   rw[Fk_bub hks (by omega),Fk_bub hks (by omega),show lo+k-(lo+k-(lo+l))=lo+l by omega]
   have hlo':∀i,lo<=i->i<lo+l->Fk f (arrOf st'') i<=Fk f (arrOf st'') (lo+k):=λi a1 a2=>by
    have:=hlo (i-lo) (by omega)
    rwa [show lo+(i-lo)=i by omega]at this
   have hhi':∀i,lo+l<=i->i<lo+k->Fk f (arrOf st'') (lo+k)<Fk f (arrOf st'') i:=λi a1 a2=>by
    have:=hhi (i-lo) (by omega) (by omega)
    rwa [show lo+(i-lo)=i by omega]at this
   repeat' split
   all_goals first
    | (exfalso;omega)
    | exact iz _
    | exact hlo' _ (by omega) (by omega)
    | exact Int.le_of_lt (hhi' _ (by omega) (by omega))
    | exact hs' _ _ (by omega) (by omega) (by omega)
end
noncomputable def ow(arr:Array Keyed)(l:List (Keyed×Nat))(sa:Nat):Array Keyed:=l.foldl (λa q=>a.setIfInBounds (sa+q.2) q.1) arr
theorem ou(sa:Nat):∀(l:List Keyed) (o:Nat) (arr:Array Keyed),sa+o+l.length<=arr.size->∀k,(ow arr (l.zipIdx o) sa)[k]?=if sa+o<=k/\k<sa+o+l.length then l[k-(sa+o)]? else arr[k]?
 | [],o,arr,h,k=>by
  show arr[k]?=_
  rw[if_neg (by show ¬(sa+o<=k/\k<sa+o+0);omega)]
 | x::l,o,arr,h,k=>by
  have h':sa+o+(l.length+1)<=arr.size:=by simpa using h
  show(ow (arr.setIfInBounds (sa+o) x) (l.zipIdx (o+1)) sa)[k]?=_
  rw[ou sa l (o+1) _ (by simp;omega) k]
  by_cases hk:k=sa+o
  .rw[if_neg (by omega),if_pos (by simp;omega),hk]
   simp[Array.getElem?_setIfInBounds]
   omega
  .by_cases h2:sa+(o+1)<=k/\k<sa+(o+1)+l.length
   .rw[if_pos h2,if_pos (by simp;omega)]
    obtain⟨d,hd⟩:∃d,k-(sa+o)=d+1:=⟨k-(sa+o)-1,by omega⟩
    rw[hd,List.getElem?_cons_succ]
    congr 1
    omega
   .rw[if_neg h2,if_neg (by simp;omega),Array.getElem?_setIfInBounds_ne (by omega)]
theorem splice_list{arr:Array Keyed}{l:List Keyed}{sa:Nat}(h:sa+l.length<=arr.size):(ow arr l.zipIdx sa).toList=arr.toList.take sa++l++arr.toList.drop (sa+l.length):=by
 apply List.ext_getElem?
 intro k
 have e:=ou sa l 0 arr (by omega) k
 rw[a0,e]
 have hs:arr.toList.length=arr.size:=by simp
 by_cases h1:k<sa
 .rw[if_neg (by omega),bf,gd (by simp;omega),dh h1,a0]
 .by_cases h2:k<sa+l.length
  .rw[if_pos (by omega),bf,c9 (by simp;omega),gd (by simp;omega)]
   congr 1
   simp
   omega
  .rw[if_neg (by omega),c9 (by simp;omega),eu,a0]
   congr 1
   simp
   omega
theorem splice_perm{arr:Array Keyed}{l:List Keyed}{sa e:Nat}(he:sa<=e)(h:e<=arr.size)(hp:l.Perm (arr.extract sa e).toList):(ow arr l.zipIdx sa).Perm arr:=by
 have hl:l.length=e-sa:=by rw[hp.length_eq,aw,jb,dg h]
 rw[i9,splice_list (by omega)]
 have e2:arr.toList=arr.toList.take sa++(arr.extract sa e).toList++arr.toList.drop (sa+l.length):=by
  rw[hl,show sa+(e-sa)=e by omega]
  have:(arr.extract sa e).toList=(arr.toList.drop sa).take (e-sa):=by simp
  rw[this]
  conv=>lhs;rw[<-cz sa arr.toList,<-cz (e-sa) (arr.toList.drop sa),List.drop_drop,show sa+(e-sa)=e by omega]
  rw[bf]
 refine List.Perm.trans ?_ (List.Perm.of_eq e2.symm)
 exact(gp _ hp).append_right _
theorem splice_from{f:Keyed->Int}{arr:Array Keyed}{l:List Keyed}{sa e:Nat}(he:sa<=e)(h:e<=arr.size)(hp:l.Perm (arr.extract sa e).toList){k:Nat}(h1:sa<=k)(h2:k<e):∃q,sa<=q/\q<e/\Fk f (ow arr l.zipIdx sa) k=Fk f arr q:=by
 have hl:l.length=e-sa:=by rw[hp.length_eq,aw,jb,dg h]
 have e1:=ou sa l 0 arr (by omega) k
 rw[if_pos (by omega)]at e1
 have hk:k-(sa+0)<l.length:=by omega
 have hx:l[k-(sa+0)]∈(arr.extract sa e).toList:=hp.mem_iff.mp (df hk)
 obtain⟨q,hq⟩:=bz.mp hx
 rw[a0]at hq
 have hq2:q<(arr.extract sa e).size:=(bh.mp hq).1
 have hq3:q<e-sa:=by rw[jb,dg h]at hq2;exact hq2
 rw[Array.getElem?_extract,if_pos (by rw[dg h];exact hq3)]at hq
 refine⟨sa+q,by omega,by omega,Fk_of ?_⟩
 rw[e1,hq,getElem?_pos l _ hk]
theorem splice_out{f:Keyed->Int}{arr:Array Keyed}{l:List Keyed}{sa e:Nat}(he:sa<=e)(h:e<=arr.size)(hl:l.length=e-sa){k:Nat}(h1:k<sa\/e<=k):(ow arr l.zipIdx sa)[k]?=arr[k]?:=by
 rw[ou sa l 0 arr (by omega) k,if_neg (by omega)]
theorem splice_srt{f:Keyed->Int}{arr:Array Keyed}{l:List Keyed}{sa e:Nat}(he:sa<=e)(h:e<=arr.size)(hl:l.length=e-sa)(hs:Srt (fl f) l):Seg f (ow arr l.zipIdx sa) sa (e-sa):=by
 intro i j hi hij hj
 have e1:=ou sa l 0 arr (by omega) i
 have e2:=ou sa l 0 arr (by omega) j
 rw[if_pos (by omega)]at e1 e2
 have hi2:i-(sa+0)<l.length:=by omega
 have hj2:j-(sa+0)<l.length:=by omega
 rw[getElem?_pos l _ hi2]at e1
 rw[getElem?_pos l _ hj2]at e2
 unfold Fk
 rw[e1,e2]
 show f _<=f _
 by_cases hq:i=j
 .subst hq;exact iz _
 .have:=fj.mp hs (i-(sa+0)) (j-(sa+0)) hi2 hj2 (by omega)
  simpa using this
section
variable{prog:Program}{w:World}{A:Around}{E:Value->Shared->Prop}{s:Shared}
variable{κ:SortKind}{mem:Keyed->Prop}{f:Keyed->Int}{a₀:Array Keyed}
theorem set_at{st st':SortSt}{Q:PUnit->SortSt->Prop}(h:Q ⟨⟩ st'):wpS (model prog w) A E s (set st':StateT SortSt Sem PUnit) Q st:=by
 unfold wpS;rw[StateT.run_set];exact af ⟨rfl,h⟩
theorem Fk_some{xs:Array Keyed}{i:Nat}{x:Keyed}(h:xs[i]?=some x):Fk f xs i=f x:=by unfold Fk;rw[h];rfl
theorem wpS_mergeAt(C:CmpS prog w A s κ mem (fl f))(hm:∀x∈a₀.toList,mem x){st:SortSt}{i sa na pa sb nb pb:Nat}(B:TB κ a₀ st)(hi:(pendingOf st)[i]?=some (sa,na,pa))(hi1:(pendingOf st)[i+1]?=some (sb,nb,pb))(hsb:sb=sa+na)(hna:1<=na)(hnb:1<=nb)(hsz:sb+nb<=a₀.size)
  (sA:Seg f (arrOf st) sa na) (sB:Seg f (arrOf st) sb nb) {Q:Bool->SortSt->Prop}
  (h:∀st',TB κ a₀ st'->pendingOf st'=((pendingOf st).setIfInBounds i (sa,na+nb,pa)).eraseIdxIfInBounds (i+1)->(∀k,k<sa\/sb+nb<=k->(arrOf st')[k]?=(arrOf st)[k]?)->Seg f (arrOf st') sa (na+nb)->Q true st') :
  wpS (model prog w) A E s (mergeAt' i) Q st:=by
 refine a6 (wpS_get ?_)
 rw[hi,hi1]
 dsimp only
 refine a6 (set_at ?_)
 have B1:TB κ a₀ (SortSt.mk' (kindOf st) (arrOf st) (((pendingOf st).setIfInBounds i (sa,na+nb,pa)).eraseIdxIfInBounds (i+1)) (gallopOf st) (failedOf st)):=⟨B.perm,B.kind,B.failed⟩
 have h1:=h _ B1 rfl
 have h2:∀(g:Nat) (arr':Array Keyed),arr'.Perm (arrOf st)->(∀k,k<sa\/sb+nb<=k->arr'[k]?=(arrOf st)[k]?)->Seg f arr' sa (na+nb)->Q true (SortSt.mk' (kindOf st) arr' (((pendingOf st).setIfInBounds i (sa,na+nb,pa)).eraseIdxIfInBounds (i+1)) g (failedOf st)):=
  λg arr' hp ho hs=>h (SortSt.mk' (kindOf st) arr' (((pendingOf st).setIfInBounds i (sa,na+nb,pa)).eraseIdxIfInBounds (i+1)) g (failedOf st)) ⟨hp.trans B.perm,B.kind,B.failed⟩ rfl ho hs
 have hsize:=B.size
 show wpS (model prog w) A E s _ Q (SortSt.mk' (kindOf st) (arrOf st) (((pendingOf st).setIfInBounds i (sa,na+nb,pa)).eraseIdxIfInBounds (i+1)) (gallopOf st) (failedOf st))
 generalize hst1:SortSt.mk' (kindOf st) (arrOf st) (((pendingOf st).setIfInBounds i (sa,na+nb,pa)).eraseIdxIfInBounds (i+1)) (gallopOf st) (failedOf st)=st1 at B1 h1⊢
 obtain⟨xb,exb,mxb,fxb⟩:=B.at (f:=f) hm (show sb<a₀.size by omega)
 have memA:∀i z,(arrOf st)[i]?=some z->mem z:=λi z hz=>hm z ((i9.mp B.perm).mem_iff.mp (by obtain⟨h1,h2⟩:=bh.mp hz;rw[<-h2];simp))
 have isA:arrOf st1=arrOf st:=by rw[<-hst1]
 refine a6 (ln exb (a6 (wpS_galR (st:=st1) (base:=sa) (n:=na) (hint:=0) C (fl_ord f) B1.kind mxb (by omega) (λi z hi hz=>memA _ z hz) (by omega) (λi j y z hij hj hy hz=>?_) λk hkn g1 g2=>?_)))
 .have:=sA (sa+i) (sa+j) (by omega) (by omega) (by omega)
  rw[Fk_some hy,Fk_some hz]at this
  simpa using this
 have g1':∀q,sa<=q->q<sa+k->Fk f (arrOf st) q<=Fk f (arrOf st) sb:=λq q1 q2=>by
  obtain⟨z,ez,_,fz⟩:=B.at (f:=f) hm (show q<a₀.size by omega)
  have:=g1 (q-sa) z (by omega) (by rw[show sa+(q-sa)=q by omega];exact ez)
  rw[<-fxb,<-fz]
  simpa using this
 dsimp only
 refine kz (λ(hk0:(na-k==0)=true)=>?_) (λ(hk0:¬(na-k==0)=true)=>?_)
 .have hk1:na-k=0:=by simpa using hk0
  refine bj (h1 (λq _=>by rw[isA]) ?_)
  rw[isA]
  intro i j hi hij hj
  by_cases hj2:j<sb
  .exact sA i j hi hij (by omega)
  .by_cases hi2:i<sb
   .have a1:=g1' i hi (by omega)
    have a2:=sB sb j (ao _) (by omega) (by omega)
    omega
   .exact sB i j (by omega) hij (by omega)
 have hk1:k<na:=by have:¬na-k=0:=by simpa using hk0
                   omega
 obtain⟨xl,exl,mxl,fxl⟩:=B.at (f:=f) hm (show sb-1<a₀.size by omega)
 have exl':(arrOf st)[sa+k+(na-k)-1]?=some xl:=by rw[show sa+k+(na-k)-1=sb-1 by rw[Nat.add_assoc,Nat.add_sub_cancel' (ic hk1),<-hsb]];exact exl
 refine a6 (ln exl' (a6 (wpS_galL (st:=st1) (base:=sb) (n:=nb) (hint:=nb-1) C (fl_ord f) B1.kind mxl (by omega) (λi z hi hz=>memA _ z hz) (by omega) (λi j y z hij hj hy hz=>?_) λn2 hn2 g3 g4=>?_)))
 .have:=sB (sb+i) (sb+j) (by omega) (by omega) (by omega)
  rw[Fk_some hy,Fk_some hz]at this
  simpa using this
 have g4':∀q,sb+n2<=q->q<sb+nb->Fk f (arrOf st) (sb-1)<=Fk f (arrOf st) q:=λq q1 q2=>by
  obtain⟨z,ez,_,fz⟩:=B.at (f:=f) hm (show q<a₀.size by omega)
  have:=g4 (q-sb) z (by omega) (by omega) (by rw[show sb+(q-sb)=q by omega];exact ez)
  rw[<-fxl,<-fz]
  simpa using this
 dsimp only
 refine kz (λ(hn0:(n2==0)=true)=>?_) (λ(hn0:¬(n2==0)=true)=>?_)
 .have hn1:n2=0:=by simpa using hn0
  refine bj (h1 (λq _=>by rw[isA]) ?_)
  rw[isA]
  intro i j hi hij hj
  by_cases hj2:j<sb
  .exact sA i j hi hij (by omega)
  .by_cases hi2:i<sb
   .have a1:=sA i (sb-1) hi (by omega) (by omega)
    have a2:=g4' j (by omega) (by omega)
    omega
   .exact sB i j (by omega) hij (by omega)
 have hn1:1<=n2:=by have:¬n2=0:=by simpa using hn0
                    omega
 have ga:∀q,((arrOf st).extract (sa+k) sb)[q]?=if q<sb-(sa+k)then(arrOf st)[sa+k+q]? else none:=λq=>by
  rw[Array.getElem?_extract]
  have:min sb (arrOf st).size=sb:=dg (by omega)
  rw[this]
 have gb:∀q,((arrOf st).extract sb (sb+n2))[q]?=if q<n2 then(arrOf st)[sb+q]? else none:=λq=>by
  rw[Array.getElem?_extract]
  have:min (sb+n2) (arrOf st).size-sb=n2:=by rw[dg (by omega)];exact Nat.add_sub_cancel_left _ _
  rw[this]
 have za:((arrOf st).extract (sa+k) sb).size=sb-(sa+k):=by rw[jb,dg (by omega)]
 have zb:((arrOf st).extract sb (sb+n2)).size=n2:=by rw[jb,dg (by omega)];exact Nat.add_sub_cancel_left _ _
 have inA:∀z∈((arrOf st).extract (sa+k) sb).toList,∃q,sa+k<=q/\q<sb/\(arrOf st)[q]?=some z:=λz hz=>by
  obtain⟨q,hq⟩:=bz.mp hz
  rw[a0,ga]at hq
  by_cases hq2:q<sb-(sa+k)
  .rw[if_pos hq2]at hq;exact⟨_,by omega,by omega,hq⟩
  .rw[if_neg hq2]at hq;cases hq
 have inB:∀z∈((arrOf st).extract sb (sb+n2)).toList,∃q,q<n2/\(arrOf st)[sb+q]?=some z:=λz hz=>by
  obtain⟨q,hq⟩:=bz.mp hz
  rw[a0,gb]at hq
  by_cases hq2:q<n2
  .rw[if_pos hq2]at hq;exact⟨_,hq2,hq⟩
  .rw[if_neg hq2]at hq;cases hq
 have srtOf:∀(lo m:Nat),lo+m<=(arrOf st).size->Seg f (arrOf st) lo m->Srt (fl f) ((arrOf st).extract lo (lo+m)).toList:=λlo m hlm hs=>by
  refine fj.mpr λi j hi hj hij=>?_
  have zi:((arrOf st).extract lo (lo+m)).toList.length=m:=by rw[aw,jb,dg hlm];exact Nat.add_sub_cancel_left _ _
  have:=hs (lo+i) (lo+j) (by omega) (by omega) (by omega)
  rw[Fk_some (getElem?_pos (arrOf st) (lo+i) (by omega)),Fk_some (getElem?_pos (arrOf st) (lo+j) (by omega))]at this
  simpa using this
 have T:Two mem (fl f) ((arrOf st).extract (sa+k) sb) ((arrOf st).extract sb (sb+n2)):=by
  refine⟨λz hz=>?_,λz hz=>?_,?_,srtOf sb n2 (by omega) λi j hi hij hj=>sB i j hi hij (by omega),by omega,by omega,λx y hx hy=>?_,λy hy x hx=>?_⟩
  .obtain⟨q,_,_,hq⟩:=inA z hz
   exact memA q z hq
  .obtain⟨q,_,hq⟩:=inB z hz
   exact memA _ z hq
  .have:=srtOf (sa+k) (na-k) (by omega) λi j hi hij hj=>sA i j (by omega) hij (by omega)
   rwa [show sa+k+(na-k)=sb by rw[Nat.add_assoc,Nat.add_sub_cancel' (ic hk1),<-hsb]]at this
  .rw[gb,if_pos (by omega)]at hx
   rw[ga,if_pos (by omega)]at hy
   have e0:x=xb:=by rw[Nat.add_zero,exb]at hx;exact(cy hx).symm
   rw[e0]
   exact g2 k y (ao _) hk1 (by simpa using hy)
  .obtain⟨q,hq1,hq⟩:=inB y hy
   rw[za,ga,if_pos (by omega),show sa+k+(sb-(sa+k)-1)=sb-1 by rw[<-Nat.add_sub_assoc (by omega),Nat.add_sub_cancel' (by omega)],exl]at hx
   rw[<-cy hx]
   exact g3 q y hq1 hq
 have whole:((arrOf st).extract (sa+k) sb).toList++((arrOf st).extract sb (sb+n2)).toList=((arrOf st).extract (sa+k) (sb+n2)).toList:=by
  rw[<-Array.toList_append,Array.extract_append_extract]
  congr 2<;>omega
 have fin:∀(out:Array Keyed) (st':SortSt),SameG st1 st'->mm (fl f) ((arrOf st).extract (sa+k) sb).toList ((arrOf st).extract sb (sb+n2)).toList out.toList->Q true (setArr st' (ow (arrOf st') out.toList.zipIdx (sa+k))):=by
  intro out st' G M
  have hp:out.toList.Perm ((arrOf st).extract (sa+k) (sb+n2)).toList:=by rw[<-whole];exact M.1
  have hl:out.toList.length=sb+n2-(sa+k):=by rw[hp.length_eq,aw,jb,dg (by omega)]
  have e1:setArr st' (ow (arrOf st') out.toList.zipIdx (sa+k))=SortSt.mk' (kindOf st) (ow (arrOf st) out.toList.zipIdx (sa+k)) (((pendingOf st).setIfInBounds i (sa,na+nb,pa)).eraseIdxIfInBounds (i+1)) (gallopOf st') (failedOf st):=by
   show SortSt.mk' (kindOf st') (ow (arrOf st') _ _) (pendingOf st') (gallopOf st') (failedOf st')=_
   rw[G.1,G.2.1,G.2.2.1,G.2.2.2,<-hst1]
  rw[e1]
  have sM:=splice_srt (f:=f) (arr:=arrOf st) (show sa+k<=sb+n2 by omega) (by omega) hl M.2
  have from':∀q,sa+k<=q->q<sb+n2->∃p,sa+k<=p/\p<sb+n2/\Fk f (ow (arrOf st) out.toList.zipIdx (sa+k)) q=Fk f (arrOf st) p:=λq q1 q2=>splice_from (f:=f) (show sa+k<=sb+n2 by omega) (by omega) hp q1 q2
  have out':∀q,q<sa+k\/sb+n2<=q->(ow (arrOf st) out.toList.zipIdx (sa+k))[q]?=(arrOf st)[q]?:=λq hq=>splice_out (f:=f) (show sa+k<=sb+n2 by omega) (by omega) hl hq
  refine h2 _ _ (splice_perm (show sa+k<=sb+n2 by omega) (by omega) hp) (λq hq=>out' q (by omega)) ?_
  have lowAll:∀i p,sa<=i->i<sa+k->sa+k<=p->p<sb+nb->Fk f (arrOf st) i<=Fk f (arrOf st) p:=λi p i1 i2 p1 p2=>by
   by_cases hp2:p<sb
   .exact sA i p i1 (by omega) (by omega)
   .have a1:=g1' i i1 i2
    have a2:=sB sb p (ao _) (by omega) (by omega)
    omega
  have hiAll:∀p j,sa<=p->p<sb+n2->sb+n2<=j->j<sb+nb->Fk f (arrOf st) p<=Fk f (arrOf st) j:=λp j p1 p2 j1 j2=>by
   by_cases hp2:p<sb
   .have a1:=sA p (sb-1) p1 (by omega) (by omega)
    have a2:=g4' j j1 j2
    omega
   .exact sB p j (by omega) (by omega) (by omega)
  intro i j hi hij hj
  by_cases hi2:i<sa+k
  .rw[Fk_of (f:=f) (out' i (.inl hi2))]
   by_cases hj2:j<sa+k
   .rw[Fk_of (f:=f) (out' j (.inl hj2))]
    exact sA i j hi hij (by omega)
   .by_cases hj3:j<sb+n2
    .obtain⟨p,p1,p2,ep⟩:=from' j (by omega) hj3
     rw[ep]
     exact lowAll i p hi hi2 p1 (by omega)
    .rw[Fk_of (f:=f) (out' j (.inr (by omega)))]
     exact lowAll i j hi hi2 (by omega) (by omega)
  .by_cases hi3:i<sb+n2
   .by_cases hj3:j<sb+n2
    .exact sM i j (by omega) hij (by omega)
    .obtain⟨p,p1,p2,ep⟩:=from' i (by omega) hi3
     rw[ep,Fk_of (f:=f) (out' j (.inr (by omega)))]
     exact hiAll p j (by omega) p2 (by omega) (by omega)
   .rw[Fk_of (f:=f) (out' i (.inr (by omega))),Fk_of (f:=f) (out' j (.inr (by omega)))]
    exact sB i j (by omega) hij (by omega)
 have done:∀(out:Array Keyed) (st':SortSt),SameG st1 st'->mm (fl f) ((arrOf st).extract (sa+k) sb).toList ((arrOf st).extract sb (sb+n2)).toList out.toList->
   wpS (model prog w) A E s (do
    modify λz=>setArr z (ow (arrOf z) out.toList.zipIdx (sa+k))
    let z <-get
    pure (failedOf z).isNone) Q st':=by
  intro out st' G M
  refine a6 (wpS_modify (a6 (wpS_get (bj ?_))))
  have e:(failedOf (setArr st' (ow (arrOf st') out.toList.zipIdx (sa+k)))).isNone=true:=by
   show(failedOf st').isNone=true
   rw[G.2.2.2,B1.failed]
   rfl
  rw[e]
  exact fin out st' G M
 refine kz (λ(hle:na-k<=n2)=>?_) (λ(hle:¬(na-k<=n2))=>?_)
 .exact a6 (wpS_mergeLo C (fl_ord f) B1.kind T done)
 .exact a6 (wpS_mergeHi C (fl_ord f) B1.kind T done)
end
noncomputable def Tile:Nat->List (Nat×Nat×Nat)->Nat->Prop
 | a,[],b=>a=b
 | a,e::r,b=>e.1=a/\1<=e.2.1/\Tile (a+e.2.1) r b
theorem tile_app:∀{l1 l2:List (Nat×Nat×Nat)} {a b:Nat},Tile a (l1++l2) b↔∃c,Tile a l1 c/\Tile c l2 b
 | [],l2,a,b=>⟨λh=>⟨a,rfl,h⟩,λ⟨c,h1,h2⟩=>by cases h1;exact h2⟩
 | e::r,l2,a,b=>⟨λh=>by
   obtain⟨c,h1,h2⟩:=tile_app.mp h.2.2
   exact⟨c,⟨h.1,h.2.1,h1⟩,h2⟩,λ⟨c,h1,h2⟩=>⟨h1.1,h1.2.1,tile_app.mpr ⟨c,h1.2.2,h2⟩⟩⟩
theorem tile_len:∀{l:List (Nat×Nat×Nat)} {a b:Nat},Tile a l b->a+l.length<=b
 | [],a,b,h=>by cases h;exact ao _
 | e::r,a,b,h=>by
  have:=tile_len h.2.2
  have:=h.2.1
  simp only[bu]
  omega
theorem tile_mem:∀{l:List (Nat×Nat×Nat)} {a b:Nat},Tile a l b->∀e∈l,a<=e.1/\e.1+e.2.1<=b
 | [],a,b,h,e,he=>by simp at he
 | d::r,a,b,h,e,he=>by
  have l:=tile_len h.2.2
  have:=h.1
  have:=h.2.1
  rcases ax.mp he with rfl|he
  .omega
  .have:=tile_mem h.2.2 e he
   omega
noncomputable abbrev prT(e:Nat×Nat×Nat):Nat×Nat:=(e.1,e.2.1)
theorem tile_like:∀{l l':List (Nat×Nat×Nat)} {a b:Nat},l'.map prT=l.map prT->Tile a l b->Tile a l' b
 | [],[],a,b,_,h=>h
 | [],e::r,a,b,q,h=>by simp at q
 | d::r,[],a,b,q,h=>by simp at q
 | d::r,e::r',a,b,q,h=>by
  rw[e9,e9]at q
  obtain⟨q1,q2⟩:=List.cons.inj q
  obtain⟨e1,e2⟩:e.1=d.1/\e.2.1=d.2.1:=Prod.mk.inj q1
  refine⟨e1.trans h.1,by rw[e2];exact h.2.1,?_⟩
  rw[e2]
  exact tile_like q2 h.2.2
theorem modify_pr(p:Array (Nat×Nat×Nat))(k w:Nat):(p.modify k λx=>(x.fst,x.2.fst,w)).toList.map prT=p.toList.map prT:=by
 apply List.ext_getElem?
 intro i
 rw[be,be,a0,a0,Array.getElem?_modify]
 split
 .cases p[i]?<;>rfl
 .rfl
structure PInv(f:Keyed->Int)(κ:SortKind)(a₀:Array Keyed)(lo:Nat)(st:SortSt):Prop where
 base:TB κ a₀ st
 tile:Tile 0 (pendingOf st).toList lo
 segs:∀e∈(pendingOf st).toList,Seg f (arrOf st) e.1 e.2.1
 top:lo<=a₀.size
theorem seg_like{f:Keyed->Int}{xs ys:Array Keyed}{lo n:Nat}(h:Seg f xs lo n)(e:∀k,lo<=k->k<lo+n->ys[k]?=xs[k]?):Seg f ys lo n:=λi j hi hij hj=>by
 rw[Fk_of (f:=f) (e i hi (by omega)),Fk_of (f:=f) (e j (by omega) hj)]
 exact h i j hi hij hj
section
variable{κ:SortKind}{f:Keyed->Int}{a₀:Array Keyed}{lo:Nat}{st st':SortSt}
theorem PInv.frame(P:PInv f κ a₀ lo st)(B:TB κ a₀ st')(F:Fr lo st st'):PInv f κ a₀ lo st':=by
 refine⟨B,by rw[F.pend];exact P.tile,λe he=>?_,P.top⟩
 rw[F.pend]at he
 have:=tile_mem P.tile e he
 exact seg_like (P.segs e he) λk h1 h2=>F.low k (by omega)
theorem PInv.like(P:PInv f κ a₀ lo st){p:Array (Nat×Nat×Nat)}(h:p.toList.map prT=(pendingOf st).toList.map prT):PInv f κ a₀ lo (setPending st p):=by
 refine⟨⟨P.base.perm,P.base.kind,P.base.failed⟩,tile_like h P.tile,λe he=>?_,P.top⟩
 have h1:prT e∈(pendingOf st).toList.map prT:=by rw[<-h];exact bi.mpr ⟨e,he,rfl⟩
 obtain⟨d,hd,ed⟩:=bi.mp h1
 obtain⟨e1,e2⟩:d.1=e.1/\d.2.1=e.2.1:=Prod.mk.inj ed
 have:=P.segs d hd
 rw[e1,e2]at this
 exact this
theorem PInv.push(P:PInv f κ a₀ lo st){n w:Nat}(h1:1<=n)(ht:lo+n<=a₀.size)(hs:Seg f (arrOf st) lo n):PInv f κ a₀ (lo+n) (setPending st ((pendingOf st).push (lo,n,w))):=by
 refine⟨⟨P.base.perm,P.base.kind,P.base.failed⟩,?_,λe he=>?_,ht⟩
 .show Tile 0 ((pendingOf st).push (lo,n,w)).toList (lo+n)
  rw[Array.toList_push]
  exact tile_app.mpr ⟨lo,P.tile,rfl,h1,rfl⟩
 .have he':e∈((pendingOf st).push (lo,n,w)).toList:=he
  rw[Array.toList_push]at he'
  rcases bm.mp he' with h|h
  .exact P.segs e h
  .rw[ba.mp h]
   exact hs
end
section
variable{prog:Program}{w:World}{A:Around}{E:Value->Shared->Prop}{s:Shared}
variable{κ:SortKind}{mem:Keyed->Prop}{f:Keyed->Int}{a₀:Array Keyed}
theorem wpS_mergeP(C:CmpS prog w A s κ mem (fl f))(hm:∀x∈a₀.toList,mem x){st:SortSt}{i lo:Nat}(P:PInv f κ a₀ lo st)(hi:i+1<(pendingOf st).size){Q:Bool->SortSt->Prop}
  (h:∀st',PInv f κ a₀ lo st'->(pendingOf st').size+1=(pendingOf st).size->(∀k,lo<=k->(arrOf st')[k]?=(arrOf st)[k]?)->Q true st'):wpS (model prog w) A E s (mergeAt' i) Q st:=by
 obtain⟨⟨sa,na,pa⟩,e1⟩:∃e,(pendingOf st)[i]?=some e:=⟨_,getElem?_pos _ i (by omega)⟩
 obtain⟨⟨sb,nb,pb⟩,e2⟩:∃e,(pendingOf st)[i+1]?=some e:=⟨_,getElem?_pos _ (i+1) hi⟩
 obtain⟨l1,l2,hl,hlen⟩:∃l1 l2,(pendingOf st).toList=l1++(sa,na,pa)::(sb,nb,pb)::l2/\l1.length=i:=by
  refine(x_EE ((pendingOf st).toList.take i) ((pendingOf st).toList.drop (i+2)) ⟨?_,by simp;omega⟩)
  have hi0:i<(pendingOf st).toList.length:=by simp;omega
  have hi1:i+1<(pendingOf st).toList.length:=by simp;omega
  conv=>lhs;rw[<-cz i (pendingOf st).toList,List.drop_eq_getElem_cons hi0,List.drop_eq_getElem_cons hi1]
  have a1:(pendingOf st).toList[i]=(sa,na,pa):=by
   have:=e1;rw[<-a0,getElem?_pos _ i hi0]at this;exact cy this
  have a2:(pendingOf st).toList[i+1]=(sb,nb,pb):=by
   have:=e2;rw[<-a0,getElem?_pos _ (i+1) hi1]at this;exact cy this
  rw[a1,a2]
 have ht:=P.tile
 rw[hl]at ht
 obtain⟨c,t1,t2⟩:=tile_app.mp ht
 obtain⟨h1,h2,h3,h4,t3⟩:=t2
 dsimp only at h1 h2 h3 h4 t3
 have hlast:=tile_len t3
 have sA:=P.segs (sa,na,pa) (by rw[hl];simp)
 have sB:=P.segs (sb,nb,pb) (by rw[hl];simp)
 have top:=P.top
 refine wpS_mergeAt C hm P.base e1 e2 (by omega) h2 h4 (by omega) sA sB λst' B' hp ho hs=>h st' ?_ ?_ λk hk=>ho k (.inr (by omega))
 .have hp2:(pendingOf st').toList=l1++(sa,na+nb,pa)::l2:=by
   rw[hp,Array.toList_eraseIdxIfInBounds,Array.toList_setIfInBounds,hl]
   rw[List.set_append_right _ _ (by omega),hlen,Nat.sub_self,List.set_cons_zero,List.eraseIdx_append_of_length_le (by omega),hlen,show i+1-i=1 by omega]
   rfl
  refine⟨B',?_,λe he=>?_,top⟩
  .rw[hp2]
   refine tile_app.mpr ⟨c,t1,h1,by show 1<=na+nb;omega,?_⟩
   show Tile (c+(na+nb)) l2 lo
   rw[show c+(na+nb)=c+na+nb by omega]
   exact t3
  .rw[hp2]at he
   rcases bm.mp he with q|q
   .have a1:=tile_mem t1 e q
    exact seg_like (P.segs e (by rw[hl];exact jf _ q)) λk k1 k2=>ho k (.inl (by omega))
   .rcases ax.mp q with q|q
    .rw[q];exact hs
    .have a1:=tile_mem t3 e q
     exact seg_like (P.segs e (by rw[hl];simp[q])) λk k1 k2=>ho k (.inr (by omega))
 .have:=congrArg List.length (show(pendingOf st').toList=l1++(sa,na+nb,pa)::l2 by
   rw[hp,Array.toList_eraseIdxIfInBounds,Array.toList_setIfInBounds,hl]
   rw[List.set_append_right _ _ (by omega),hlen,Nat.sub_self,List.set_cons_zero,List.eraseIdx_append_of_length_le (by omega),hlen,show i+1-i=1 by omega]
   rfl)
  have q:=congrArg List.length hl
  simp at this q
  omega
theorem wpS_sortAll(C:CmpS prog w A s κ mem (fl f))(hm:∀x∈a₀.toList,mem x){st:SortSt}(B:TB κ a₀ st)(h0:pendingOf st=#[]){Q:Unit->SortSt->Prop}
  (h:∀st',TB κ a₀ st'->Seg f (arrOf st') 0 a₀.size->Q () st'):wpS (model prog w) A E s sortRuns' Q st:=by
 rw[sortRuns'_eq]
 refine a6 (wpS_get ?_)
 dsimp only
 simp only[B.size]
 refine a6 (ij (fx (I:=λx c st'=>∃lo,c=(none,lo)/\x<=lo/\PInv f κ a₀ lo st') (Q:=λc st'=>c=(none,a₀.size)/\PInv f κ a₀ a₀.size st') ?step ?fin ?init) ?post)
 case init=>exact⟨0,rfl,ao _,B,by rw[h0];rfl,λe he=>by rw[h0]at he;simp at he,en _⟩
 case fin=>
  intro c st' hIh
  refine hid λCg hCg=>?_
  obtain⟨lo,rfl,hx,P⟩:=hIh
  refine hCg ?_
  have:=P.top
  obtain rfl:lo=a₀.size:=by omega
  exact⟨rfl,P⟩
 case step=>
  intro x c st' _ hx hIh
  refine hid λCg hCg=>?_
  obtain⟨lo,rfl,hlo,P⟩:=hIh
  refine hCg ?_
  dsimp only
  have top:=P.top
  refine kz (λ(hge:lo>=a₀.size)=>?_) (λ(hge:¬(lo>=a₀.size))=>?_)
  .obtain rfl:lo=a₀.size:=by omega
   exact bj ⟨rfl,P⟩
  refine a6 (wpS_run C hm (by omega) (by omega) P.base λn st2 B2 F2 n1 n2 s2=>?_)
  dsimp only
  refine kz (λ(hmin:n<minRun' a₀.size a₀.size 0)=>?_) (λ(hmin:¬(n<minRun' a₀.size a₀.size 0))=>?_)
  .refine a6 (wpS_lift (jh ⟨rfl,?_⟩))
   refine a6 (wpS_ins C hm (by omega) (by omega) B2 s2 λst3 B3 F3 s3=>?_)
   rw[if_neg (by simp)]
   have f1:1<=(min (a₀.size-lo) (minRun' a₀.size a₀.size 0)):=by omega
   have P3:PInv f κ a₀ lo st3:=P.frame B3 (F2.trans F3)
   refine a6 (wpS_get ?_)
   cases hb:(pendingOf st3).back? with
   | none=>
    dsimp only
    exact a6 (wpS_modify (bj ⟨_,rfl,by omega,P3.push f1 (by omega) s3⟩))
   | some e=>
    obtain⟨s1,m1,w1⟩:=e
    dsimp only
    refine a6 (ij (fx (I:=λ_ c st4=>c=(none,())/\PInv f κ a₀ lo st4/\Seg f (arrOf st4) lo (min (a₀.size-lo) (minRun' a₀.size a₀.size 0))) (Q:=λc st4=>c=(none,())/\PInv f κ a₀ lo st4/\Seg f (arrOf st4) lo (min (a₀.size-lo) (minRun' a₀.size a₀.size 0))) ?_ (λ_ _ hh=>hh) ⟨rfl,P3,s3⟩) ?_)
    .rintro y c st4 _ hy ⟨rfl,P4,s4⟩
     refine a6 (wpS_get ?_)
     by_cases h2:(pendingOf st4).size>1
     .rw[if_pos h2,getElem?_pos (pendingOf st4) ((pendingOf st4).size-2) (by omega)]
      dsimp only
      split
      .exact bj ⟨rfl,P4,s4⟩
      .refine a6 (wpS_mergeP C hm P4 (by omega) λst5 P5 _ ho=>?_)
       rw[if_neg (by simp)]
       exact bj ⟨rfl,P5,seg_like s4 λk k1 _=>ho k k1⟩
     .rw[if_neg h2]
      exact bj ⟨rfl,P4,s4⟩
    .rintro c st4 ⟨rfl,P4,s4⟩
     dsimp only
     refine a6 (wpS_modify ?_)
     have P5:=P4.like (p:=(pendingOf st4).modify ((pendingOf st4).size-1) λx=>(x.fst,x.2.fst,power' a₀.size (2*s1+m1) (2*s1+m1+m1+(min (a₀.size-lo) (minRun' a₀.size a₀.size 0))) a₀.size)) (modify_pr _ _ _)
     exact a6 (wpS_modify (bj ⟨_,rfl,by omega,P5.push f1 (by omega) s4⟩))
  .have P3:PInv f κ a₀ lo st2:=P.frame B2 F2
   refine a6 (wpS_get ?_)
   cases hb:(pendingOf st2).back? with
   | none=>
    dsimp only
    exact a6 (wpS_modify (bj ⟨_,rfl,by omega,P3.push n1 (by omega) s2⟩))
   | some e=>
    obtain⟨s1,m1,w1⟩:=e
    dsimp only
    refine a6 (ij (fx (I:=λ_ c st4=>c=(none,())/\PInv f κ a₀ lo st4/\Seg f (arrOf st4) lo n) (Q:=λc st4=>c=(none,())/\PInv f κ a₀ lo st4/\Seg f (arrOf st4) lo n) ?_ (λ_ _ hh=>hh) ⟨rfl,P3,s2⟩) ?_)
    .rintro y c st4 _ hy ⟨rfl,P4,s4⟩
     refine a6 (wpS_get ?_)
     by_cases h2:(pendingOf st4).size>1
     .rw[if_pos h2,getElem?_pos (pendingOf st4) ((pendingOf st4).size-2) (by omega)]
      dsimp only
      split
      .exact bj ⟨rfl,P4,s4⟩
      .refine a6 (wpS_mergeP C hm P4 (by omega) λst5 P5 _ ho=>?_)
       rw[if_neg (by simp)]
       exact bj ⟨rfl,P5,seg_like s4 λk k1 _=>ho k k1⟩
     .rw[if_neg h2]
      exact bj ⟨rfl,P4,s4⟩
    .rintro c st4 ⟨rfl,P4,s4⟩
     dsimp only
     refine a6 (wpS_modify ?_)
     have P5:=P4.like (p:=(pendingOf st4).modify ((pendingOf st4).size-1) λx=>(x.fst,x.2.fst,power' a₀.size (2*s1+m1) (2*s1+m1+m1+n) a₀.size)) (modify_pr _ _ _)
     exact a6 (wpS_modify (bj ⟨_,rfl,by omega,P5.push n1 (by omega) s4⟩))
 case post=>
  rintro c st' ⟨rfl,P⟩
  dsimp only
  refine a6 (ij (fx (I:=λx c st''=>c=(none,())/\PInv f κ a₀ a₀.size st''/\(pendingOf st'').size<=max 1 (a₀.size-x)) (Q:=λc st''=>c=(none,())/\PInv f κ a₀ a₀.size st''/\(pendingOf st'').size<=1) ?_ ?_ ?_) ?_)
  .rintro x c st'' _ hx ⟨rfl,P2,hsz⟩
   refine a6 (wpS_get ?_)
   refine kz (λ(h1:(pendingOf st'').size<=1)=>?_) (λ(h1:¬((pendingOf st'').size<=1))=>?_)
   .exact bj ⟨rfl,P2,h1⟩
   .refine a6 (wpS_mergeP C hm P2 (by(repeat' split)<;>omega) λst5 P5 hz _=>?_)
    rw[if_neg (by simp)]
    exact bj ⟨rfl,P5,by omega⟩
  .rintro c st'' ⟨rfl,P2,hsz⟩
   exact⟨rfl,P2,by omega⟩
  .refine⟨rfl,P,?_⟩
   have:=tile_len P.tile
   simp at this
   omega
  .rintro c st'' ⟨rfl,P2,hsz⟩
   refine bj (h st'' P2.base ?_)
   have t:=P2.tile
   have sg:=P2.segs
   have hl:(pendingOf st'').toList.length<=1:=by simpa using hsz
   match hq:(pendingOf st'').toList,hl with
   | [],_=>
    rw[hq]at t
    intro i j hi hij hj
    have:0=a₀.size:=t
    omega
   | [e],_=>
    rw[hq]at t sg
    have a1:=t.1
    have a2:0+e.2.1=a₀.size:=t.2.2
    have a3:=sg e (by simp)
    rw[a1,show e.2.1=a₀.size by omega]at a3
    exact a3
end
end L3
namespace L3
open PySem PySem.Spec PyProof.Rows L2
structure CZ where
 cl:List (Str×Addr)
 C:Addr
 s:Shared
 H:Hp
 ex:List Addr
noncomputable def k5(X:Cx)(N:List Str)(scope:Scope)(z:CZ):Cx where
 prog:=X.prog
 w:=X.w
 K:=X.K
 mg:=X.mg
 base:=X.base
 A:=X.A
 N:=N
 s₀:=z.s
 H₀:=z.H
 env:=compEnvC scope z.cl z.C X.env
 outer:=X.stack
 stack:=X.stack
 ex:=z.ex
 calm:=X.calm
 fn:=λ_=>false
 pn:=[]
 xe:=λ_ _=>False
noncomputable def nw(cells:List (Str×Addr)):List (Str×NameKind)->List (Str×Addr)->List (Str×Addr)
 | [],cs=>cs
 | (n,k)::r,cs=>if (k==NameKind.free)=true then(match cells.lookup n with|some c=>nw cells r ((n,c)::cs)|none=>nw cells r cs)else nw cells r cs
theorem closureFor_eq{scope:Scope}{env:Env}(h:∀x∈scope.names,x.2=.free->∃c,env.cells.lookup x.1=some c):closureFor scope env=pure (nw env.cells scope.names []):=by
 have go:∀(l:List (Str×NameKind)) (cs:List (Str×Addr)),(∀x∈l,x.2=.free->∃c,env.cells.lookup x.1=some c)->
   (forIn l cs λ(x:Str×NameKind) (cs:List (Str×Addr))=>if (x.2==NameKind.free)=true then do let a <-cellOf env x.1;pure (ForInStep.yield ((x.1,a)::cs))else pure (ForInStep.yield cs):Sem (List (Str×Addr)))=pure (nw env.cells l cs):=by
  intro l
  induction l with
  | nil=>intro cs _;rfl
  | cons x r ih=>
   intro cs hx
   obtain⟨n,k⟩:=x
   rw[List.forIn_cons]
   have ih':=λcs=>ih cs λy hy=>hx y (av _ hy)
   unfold nw
   dsimp only
   by_cases hk:(k==NameKind.free)=true
   .obtain⟨c,hc⟩:=hx (n,k) au (by simpa using hk)
    rw[if_pos hk,if_pos hk]
    simp only at hc
    simp only[cellOf,hc,pure_bind]
    exact ih' _
   .rw[if_neg hk,if_neg hk]
    simp only[pure_bind]
    exact ih' _
 unfold closureFor
 have e:=go scope.names [] h
 simp only[bind_pure]at e⊢
 exact e
theorem clFrom_of{cells:List (Str×Addr)}{x:Str}{c:Addr}:∀{l:List (Str×NameKind)} {cs:List (Str×Addr)},(nw cells l cs).lookup x=some c->cells.lookup x=some c\/cs.lookup x=some c
 | [],cs,h=>.inr h
 | (n,k)::r,cs,h=>by
  unfold nw at h
  split at h
  .split at h
   .rename_i c0 e
    rcases clFrom_of h with q|q
    .exact .inl q
    .rw[ir]at q
     split at q
     .rename_i hx
      have hx':x=n:=by simpa using hx
      cases q
      rw[hx']
      exact .inl e
     .exact .inr q
   .exact clFrom_of h
  .exact clFrom_of h
theorem ox{cells:List (Str×Addr)}{x:Str}:∀{l:List (Str×NameKind)} {cs:List (Str×Addr)},(∃c,cs.lookup x=some c)->∃c,(nw cells l cs).lookup x=some c
 | [],cs,h=>h
 | (n,k)::r,cs,h=>by
  unfold nw
  split
  .split
   .refine ox ?_
    rw[ir]
    split
    .exact⟨_,rfl⟩
    .exact h
   .exact ox h
  .exact ox h
theorem clFrom_has{cells:List (Str×Addr)}{x:Str}:∀{l:List (Str×NameKind)} {cs:List (Str×Addr)},(x,NameKind.free)∈l->(∃c,cells.lookup x=some c)->∃c,(nw cells l cs).lookup x=some c
 | (n,k)::r,cs,hm,h=>by
  unfold nw
  rcases ax.mp hm with e|hm
  .cases e
   obtain⟨c,hc⟩:=h
   rw[if_pos (show(NameKind.free==NameKind.free)=true from rfl),hc]
   refine ox ?_
   rw[ir]
   simp
  .split
   .split
    .exact clFrom_has hm h
    .exact clFrom_has hm h
   .exact clFrom_has hm h
theorem relabel_vis{scope:Scope}{env:Env}{x:Str}(hnc:∀y∈scope.names,y.2≠.cell)(h:(relabel scope env).names.lookup x=some .cell\/(relabel scope env).names.lookup x=some .free):(x,NameKind.free)∈scope.names:=by
 rcases h with h|h
 .have hm:=ie h
  obtain⟨⟨n,k⟩,hy,e⟩:=bi.mp hm
  dsimp only at e
  split at e
  .rename_i hc
   simp only[cg,beq_iff_eq]at hc
   cases e
   rw[hc.1.1]at hy
   exact hy
  .cases e
   exact absurd rfl (hnc _ hy)
 .have hm:=ie h
  obtain⟨⟨n,k⟩,hy,e⟩:=bi.mp hm
  dsimp only at e
  split at e
  .cases e
  .cases e
   exact hy
theorem relabel_free{env:Env}:∀{names:List (Str×NameKind)} {x:Str},names.lookup x=some .free->
  ((names.map λ(n,k)=>if (k==NameKind.free&&env.scope.kind==.function&&env.kindOf n==some .cell)then(n,NameKind.cell)else(n,k)).lookup x=some .cell\/
   (names.map λ(n,k)=>if (k==NameKind.free&&env.scope.kind==.function&&env.kindOf n==some .cell)then(n,NameKind.cell)else(n,k)).lookup x=some .free)
 | [],_,h=>by simp at h
 | (n,k)::r,x,h=>by
  have ih:=@relabel_free env r x
  show(List.lookup x ((if (k==NameKind.free&&env.scope.kind==.function&&env.kindOf n==some .cell)=true then(n,NameKind.cell)else(n,k))::_)=_)\/(List.lookup x ((if (k==NameKind.free&&env.scope.kind==.function&&env.kindOf n==some .cell)=true then(n,NameKind.cell)else(n,k))::_)=_)
  cases hx:x==n with
  | true=>
   simp only[ir,hx]at h
   cases h
   by_cases hc:((NameKind.free:NameKind)==NameKind.free&&env.scope.kind==.function&&env.kindOf n==some .cell)=true
   .rw[if_pos hc];left;simp only[ir,hx]
   .rw[if_neg hc];right;simp only[ir,hx]
  | false=>
   simp only[ir,hx]at h
   by_cases hc:(k==NameKind.free&&env.scope.kind==.function&&env.kindOf n==some .cell)=true
   .rw[if_pos hc];simp only[ir,hx];exact ih h
   .rw[if_neg hc];simp only[ir,hx];exact ih h
noncomputable def picks(sl:List (Option Nat))(σ:L2.St):L2.St:=sl.map λo=>o.bind λj=>(σ[j]?).getD none
noncomputable def slOk(N N':List Str)(sl:List (Option Nat))(sc osc:Scope):Bool:=
 sl.length==N'.length&&(List.zip N' sl).all λp=>match p.2 with
  | none=>true
  | some j=>N[j]?==some p.1&&sc.names.lookup p.1==some .free&&(osc.names.lookup p.1==some .cell||osc.names.lookup p.1==some .free)
theorem slOk.len{N N':List Str}{sl:List (Option Nat)}{sc osc:Scope}(h:slOk N N' sl sc osc=true):sl.length=N'.length:=by
 unfold slOk at h
 rw[cg]at h
 simpa using h.1
theorem slOk.at{N N':List Str}{sl:List (Option Nat)}{sc osc:Scope}(h:slOk N N' sl sc osc=true){k j:Nat}{x:Str}(h1:N'[k]?=some x)(h2:sl[k]?=some (some j)) :
  N[j]?=some x/\sc.names.lookup x=some .free/\(osc.names.lookup x=some .cell\/osc.names.lookup x=some .free):=by
 unfold slOk at h
 rw[cg,List.all_eq_true]at h
 have hm:(x,some j)∈List.zip N' sl:=by
  refine am (i:=k) ?_
  rw[je]
  exact⟨h1,h2⟩
 have q:=h.2 _ hm
 simp only[cg,j5,beq_iff_eq]at q
 exact⟨q.1.1,q.1.2,q.2⟩
noncomputable def frOk(sc osc:Scope):Bool:=sc.names.all λx=>!(x.2==.free)||(osc.names.lookup x.1==some .cell||osc.names.lookup x.1==some .free)
theorem frOk.of{sc osc:Scope}(h:frOk sc osc=true):∀x∈sc.names,x.2=.free->osc.names.lookup x.1=some .cell\/osc.names.lookup x.1=some .free:=λx hx e=>by
 have q:=List.all_eq_true.mp h x hx
 rw[e]at q
 simp only[beq_self_eq_true,h7,Bool.false_or,j5,beq_iff_eq]at q
 exact q
noncomputable def Agree(σ σ':L2.St):Prop:=σ'.length=σ.length/\∀(i:Nat) v,σ[i]?=some (some v)->σ'[i]?=some (some v)
theorem Agree.refl(σ:L2.St):Agree σ σ:=⟨rfl,λ_ _ h=>h⟩
theorem Agree.set{σ σ':L2.St}(a:Agree σ σ'){i:Nat}{v:Option V}(h:σ[i]?=some none):Agree σ (σ'.set i v):=by
 refine⟨by rw[List.length_set];exact a.1,λj w e=>?_⟩
 by_cases hij:i=j
 .subst hij;rw[h]at e;cases e
 .rw[List.getElem?_set_ne hij];exact a.2 j w e
section
variable{fs ex:List Addr}{H H':Hp}{h h1 h2:Heap}{C:Addr}
theorem Un.but(u:Un fs ex H H' h h1)(hC:h.get? C=none)(sb:∀b o,b≠C->h1.get? b=some o->h2.get? b=some o):Un fs ex H H' h h2 where
 keep:=λb o e n hb hx=>sb b o (by rintro rfl;rw[hC]at e;cases e) (u.keep b o e n hb hx)
 slot:=λb o e n hb hx=>by
  obtain⟨sl,q⟩:=u.slot b o e n hb hx
  exact⟨sl,sb b _ (by rintro rfl;rw[hC]at e;cases e) q⟩
 free:=u.free
 there:=λb o e hx=>by
  obtain⟨o',q⟩:=u.there b o e hx
  exact⟨o',sb b o' (by rintro rfl;rw[hC]at e;cases e) q⟩
 tups:=u.tups
 frzs:=u.frzs
 tbls:=u.tbls
theorem HOk.but{P:Program}{w:World}(x:HOk P w H h1)(hC:H C=none)(sb:∀b o,b≠C->h1.get? b=some o->h2.get? b=some o):HOk P w H h2:=λa o e=>
 (x a o e).stay (λb u hc q=>sb b u (by
  rintro rfl
  rcases hc with hc|hc
  .rw[<-hc,hC]at e;cases e
  .rw[hC]at hc;cases hc) q) (λ_ q=>q) λ_ _ q=>q
end
theorem comp_start{X:Cx}{pins:List (Addr×Obj)}{σ:L2.St}{H:Hp}{s:Shared}(I:Inv X pins σ H s){scope:Scope}{N':List Str}{sl:List (Option Nat)}{fp:List Addr}{h₁:Heap}{m:Str->Option Value}{tk:Nat}
  (hk:scope.kind=.function) (hnc:∀y∈scope.names,y.2≠.cell) (hfree:∀x∈scope.names,x.2=.free->X.env.scope.names.lookup x.1=some .cell\/X.env.scope.names.lookup x.1=some .free)
  (hsl:slOk X.N N' sl scope X.env.scope=true) (hfp:∀b∈fp,FpOk X pins H b) (hlt:∀b∈fp,b<s.heap.objs.size)
  (hns:h₁.Ns s.heap.objs.size m) (hkeep:∀b o,s.heap.get? b=some o->h₁.get? b=some o) :
  Inv (k5 X N' scope ⟨nw X.env.cells scope.names [],s.heap.objs.size,s,H,fp⟩) [] (picks sl σ) H {s with heap:=h₁,toks:=tk}:=by
 have cof:∀x c,(nw X.env.cells scope.names []).lookup x=some c->X.env.cells.lookup x=some c:=λx c e=>by
  rcases clFrom_of e with q|q
  .exact q
  .cases q
 have has:∀x,(x,NameKind.free)∈scope.names->∃c,(nw X.env.cells scope.names []).lookup x=some c:=λx hx=>
  clFrom_has hx (I.ok.has x (hfree _ hx rfl))
 refine⟨⟨I.ok.mod,hk,I.ok.glob,I.ok.blt,ao _,λx y c h1 h2=>I.ok.inj x y c (cof x c h1) (cof y c h2),λx hx=>has x (relabel_vis hnc hx),λx c hf _=>absurd hf ah,I.ok.hd,I.ok.frames,.inl rfl,
   λb hb=>⟨cc (hlt b hb),λx c e=>(hfp b hb).2.2.2.2.1 x c (cof x c e)⟩,I.bs,gl I.ok.bsz I.sz,λb o e hb=>?_,λb hb hz=>?_,I.stack,I.stkFree⟩,
  rfl,I.bare,Un.kept hkeep,⟨m,hns,λi x v h1 h2 _=>?_⟩,λx c e=>?_,I.hok.fresh (ao _),λx c e=>I.freeC x c (cof x c e),λp hp=>absurd (show p∈([]:List (Addr×Obj))from hp) (by simp),I.hok.kept hkeep,?_⟩
 .rcases(hfp b hb).2.2.2.1 with z|z
  .exact I.ok.noex b o e z
  .exact absurd (cj (a9 (I.ok.bs b o e).1) z) (iw _)
 .rcases ax.mp (I.stkSub b hz)with z|z
  .exact(hfp b hb).2.1 z
  .exact(hfp b hb).2.2.1 z
 .have h2':(picks sl σ)[i]?=some (some v):=h2
  unfold picks at h2'
  rw[be]at h2'
  cases q:sl[i]? with
  | none=>rw[q]at h2';cases h2'
  | some o=>
   rw[q]at h2'
   cases o with
   | none=>cases h2'
   | some j=>
    have e:(σ[j]?).getD none=some v:=by simpa using h2'
    have e2:σ[j]?=some (some v):=by
     cases r:σ[j]? with
     | none=>rw[r]at e;cases e
     | some w=>rw[r]at e;simp at e;rw[e]
    obtain⟨a1,a2,a3⟩:=slOk.at hsl h1 q
    obtain⟨mo,_,hl⟩:=I.loc
    obtain⟨u,r,l⟩:=hl j x v a1 e2 (.inr a3)
    refine⟨u,r,.inr ⟨relabel_free a2,?_⟩⟩
    have a4:X.env.kindOf x=some .cell\/X.env.kindOf x=some .free:=a3
    rcases l with ⟨l,_⟩|⟨_,c,e3,z⟩
    .rcases a4 with a4|a4 <;> · rw[l]at a4;cases a4
    .obtain⟨c',e4⟩:=has x (ie a2)
     have e5:=cof x c' e4
     rw[e3]at e5;cases e5
     obtain⟨o,ho,hd⟩:=z
     exact(x_EAE c e4 o ⟨hkeep _ _ ho,hd⟩)
 .obtain⟨v,o,ho,hd⟩:=I.cell x c (cof x c e)
  exact(x_EE v o ⟨hkeep _ _ ho,hd⟩)
 .show(picks sl σ).length=N'.length
  unfold picks
  rw[aj]
  exact slOk.len hsl
noncomputable def PTs(X:Cx)(ifs:List Expr)(t:TT):Prop:=
 ∀(pins:List (Addr×Obj)) (s:Shared) (σ:L2.St) (H:Hp) (Q:Bool->Hp->Prop),Inv X pins σ H s->t σ H Q->
  wpAny (model X.prog X.w) X.A (forIn ifs true λc r=>if r=true then do let ok <-isTrue c X.env (eval c X.env);pure (ForInStep.yield ok)else pure (ForInStep.yield r)) (TP X pins σ Q) X.xe s
noncomputable def tYes:TT:=λ_ H Q=>Q true H
theorem me{X:Cx}:PTs X [] tYes:=λ_ _ _ H _ I h=>wpAny_tests_nil ⟨H,I,h⟩
theorem pts_one{X:Cx}{c:Expr}{t:TT}(h:PT X c t):PTs X [c] t:=λpins s σ H Q I q=>wpAny_tests_one (h pins s σ H Q I q)
theorem compLoop_gen{prog:Program}{w:World}{A:Around}{R:Result->Shared->Prop}{s:Shared}{elt target iter:Expr}{ifs:List Expr}{scope:Scope}{pos:Pos}{it acc:Value}{env:Env}(I:Nat->Shared->Prop)
  (turn:∀n s,I n s->wpAny (model prog w) A (pyNext it) (λr s₁=>match r with
   | none=>R (.ok .next) s₁
   | some v=>wpAny (model prog w) A (letOwnedTupleGo target it v) (λ_ s₂=>wpAny (model prog w) A (assign target env v) (λ_ s₃=>
     wpAny (model prog w) A (forIn ifs true λc r=>if r=true then do let ok <-isTrue c env (eval c env);pure (ForInStep.yield ok)else pure (ForInStep.yield r)) (λok s₄=>
      if ok=true then wpAny (model prog w) A (eval elt env) (λx s₅=>
       wpAny (model prog w) A (call (.builtin "list.append") [acc,x]) (λ_ s₆=>∃m,m<n/\I m s₆) (λ_ _=>False) s₅) (λ_ _=>False) s₄
      else ∃m,m<n/\I m s₄) (λ_ _=>False) s₃) (λ_ _=>False) s₂) (λ_ _=>False) s₁) (λ_ _=>False) s)
  (n:Nat) (h:I n s) :
  codeAny (model prog w) A (.compLoop (.ListComp elt [⟨target,iter,ifs,0⟩] scope pos) 0 it acc env) R s:=by
 refine codeAny_loop rfl I (λn s hI=>?_) n h
 show wpAny _ A ((compTurn (.ListComp elt [⟨target,iter,ifs,0⟩] scope pos) 0 it acc env).onRaise (λx=>do noteFrame x env;theTreesLotGoes x)) _ _ s
 refine wpAny_noted ?_
 rw[compTurn_list]
 refine aa (wpAny_standAt (aa (jg (turn n s hI) (λr s₁ h₁=>?_) λ_ _ h'=>h'.elim)))
 cases r with
 | none=>exact af h₁
 | some v=>
  refine aa (jg h₁ (λ_ s₂ h₂=>?_) λ_ _ h'=>h'.elim)
  refine aa (jg h₂ (λ_ s₃ h₃=>aa (jg h₃ (λok s₄ h₄=>?_) λ_ _ h'=>h'.elim)) λ_ _ h'=>h'.elim)
  cases ok with
  | false=>exact af ⟨rfl,h₄⟩
  | true=>
   exact aa (aa (jg h₄ (λx s₅ h₅=>aa (jg h₅ (λ_ s₆ h₆=>af (af ⟨rfl,h₆⟩)) λ_ _ h'=>h'.elim)) λ_ _ h'=>h'.elim))
noncomputable def CompR(J:It)(sl:List (Option Nat))(g:TG)(tt:TT)(te:TE)(σ:L2.St)(H1:Hp)(D:Addr)(Q:VK):Prop:=
 ∃W:Nat->Nat->Hp->Prop,(∃m,W 0 m (upd H1 D (.lst [])))/\∀i m H,W i m H->(J.stop i H/\Q (.ref D) H)\/
  (J.go i H/\∃N:Hp->Prop,(∀H',N H'->∃m',m'<m/\W (i+1) m' H')/\∀x H',J.yld i H x H'->g x (picks sl σ) H' λσ2 H2=>Agree (picks sl σ) σ2/\tt σ2 H2 λb H3=>
   if b=true then te σ2 H3 λy H4=>∃xs,H4 D=some (.lst xs)/\xs.length<sizeLine/\N (upd H4 D (.lst (xs++[y])))else N H3)
noncomputable def tComp(wi:TI)(sl:List (Option Nat))(g:TG)(tt:TT)(te:TE):TE:=λσ H Q=>wi σ H λJ H1=>∀D,H1 D=none->CompR J sl g tt te σ H1 D Q
section
variable{X:Cx}{elt target iter:Expr}{ifs:List Expr}{scope:Scope}{pos:Pos}
theorem comp_block{N':List Str}{sl:List (Option Nat)}{g:TG}{tt:TT}{te:TE}{pins:List (Addr×Obj)}{s₂:Shared}{σ:L2.St}{H2:Hp}{Q:VK}{RR:Value->Addr->Result->Shared->Prop}{E:Value->Shared->Prop}
  {it:Addr} {fp:List Addr} {tn:Nat->Heap->Prop} {J:It} (hc:X.calm=true) (hkind:scope.kind=.function)
  (hnc:∀y∈scope.names,y.2≠.cell) (hfree:∀x∈scope.names,x.2=.free->X.env.scope.names.lookup x.1=some .cell\/X.env.scope.names.lookup x.1=some .free)
  (hsl:slOk X.N N' sl scope X.env.scope=true)
  (hg:∀z,PG (k5 X N' scope z) target g) (ht:∀z,PTs (k5 X N' scope z) ifs tt) (he:∀z,PE (k5 X N' scope z) elt te)
  (I2:Inv X pins σ H2 s₂) (T:Turn X.prog X.w X.K target J fp it tn) (st2:tn 0 s₂.heap) (f2:∀b∈fp,FpOk X pins H2 b) (hw:∀D,H2 D=none->CompR J sl g tt te σ H2 D Q)
  (hR:∀D C H' s',H' C=none->(∃m,s'.heap.Ns C m)->FpOk X pins H' C->(∀h',bw C s'.heap h'->Inv X pins σ H' {s' with heap:=h'})->Inv X pins σ H' s'->Q (.ref D) H'->RR (.ref D) C (.ok .next) s') :
  wpAny (model X.prog X.w) X.A (newList []) (λacc s₃=>wpAny (model X.prog X.w) X.A (newFunctionEnv scope X.env.globals (nw X.env.cells scope.names []) [] X.env.qual none .none (some X.env)) (λcenv s₄=>
   codeAny (model X.prog X.w) X.A (.compStart (.ListComp elt [⟨target,iter,ifs,0⟩] scope pos) 0 (.ref it) acc {cenv with scope:=relabel scope X.env}) (RR acc cenv.locals) s₄) E s₃) E s₂:=by
 have hlt2:∀b∈fp,b<s₂.heap.objs.size:=λb hb=>by
  obtain⟨o,e,_⟩:=T.obj _ _ st2 b hb
  exact a9 e
 have hD:H2 s₂.heap.objs.size=none:=I2.hok.fresh (ao _)
 obtain⟨W,⟨m0,w0⟩,turn⟩:=hw _ hD
 refine wpAny_newList ?_ (en _)
 have I3:=I2.lnew (ys:=[]) (its:=[]) (t':=s₂.toks) .nil (en _)
 refine wpAny_newFunctionEnv hnc (by intro y hy;simp at hy) (λh₁ hns₁ hsb₁=>?_) hkind
 generalize hs3:({s₂ with heap:=s₂.heap.push {cls:=.type "list",data:=.seq ([]:List Value).toArray}}:Shared)=s₃ at *
 have hs3':s₃.heap=s₂.heap.push {cls:=.type "list",data:=.seq ([]:List Value).toArray}:=by rw[<-hs3]
 have hC3:s₃.heap.objs.size=s₂.heap.objs.size+1:=by rw[hs3',ju]
 have keep23:∀b o,s₂.heap.get? b=some o->s₃.heap.get? b=some o:=λb o e=>by rw[hs3'];exact ai _ e
 have keep3:∀b o,s₃.heap.get? b=some o->h₁.get? b=some o:=λb o e=>hsb₁.extBut b o (cc (a9 e)) (ai _ e)
 have hne:∀b∈fp,b≠s₂.heap.objs.size:=λb hb=>cc (hlt2 b hb)
 have f3:∀b∈fp,FpOk X pins (upd H2 s₂.heap.objs.size (.lst [])) b:=λb hb=>⟨by rw[kv (hne b hb)];exact(f2 b hb).1,(f2 b hb).2⟩
 have hlt3:∀b∈fp,b<s₃.heap.objs.size:=λb hb=>by rw[hC3];exact ji (hlt2 b hb)
 have I4:=comp_start (tk:=s₃.toks+([]:List (Str×Value)).length) I3 hkind hnc hfree hsl f3 hlt3 hns₁ keep3
 have st4:tn 0 h₁:=T.keep _ _ _ st2 λb _ o e=>keep3 b o (keep23 b o e)
 generalize hz:(⟨nw X.env.cells scope.names [],s₃.heap.objs.size,s₃,upd H2 s₂.heap.objs.size (.lst []),fp⟩:CZ)=z at I4
 have ezC:z.C=s₃.heap.objs.size:=by rw[<-hz]
 have ezx:z.ex=fp:=by rw[<-hz]
 have stat:∀{H':Hp},(∀b∈fp,H' b=none)->∀b∈fp,FpOk (k5 X _ scope z) [] H' b:=λhn b hb=>by
  subst hz
  have q:=I4.ok.exf b hb
  exact⟨hn b hb,q.1,I4.ok.exfs b hb,.inl hb,q.2,λp hp=>absurd (show p∈([]:List (Addr×Obj))from hp) (by simp)⟩
 have loop:∀s₄:Shared,s₄={s₃ with heap:=h₁,toks:=s₃.toks+([]:List (Str×Value)).length}->
   codeAny (model X.prog X.w) X.A (.compLoop (.ListComp elt [⟨target,iter,ifs,0⟩] scope pos) 0 (.ref it) (.ref s₂.heap.objs.size) (k5 X N' scope z).env) (RR (.ref s₂.heap.objs.size) s₃.heap.objs.size) s₄:=by
  rintro s₄ rfl
  refine compLoop_gen (λn s'=>∃i H',Inv (k5 X N' scope z) [] (picks sl σ) H' s'/\tn i s'.heap/\(∀b∈fp,H' b=none)/\W i n H') ?_ m0 (x_EE 0 _ ⟨I4,st4,λb hb=>(f3 b hb).1,w0⟩)
  rintro n s5 ⟨i,H5,I5,st5,fr5,w5⟩
  rcases turn i n H5 w5 with ⟨stop,qn⟩|⟨go,N,hN,step⟩
  .refine thn (T.done (k5 X N' scope z) rfl rfl rfl hc i [] s5 _ H5 _ I5 (stat fr5) st5 stop) λr s6 ⟨hr,I6⟩=>?_
   subst hr
   have un:Un (frs X.stack) fp (upd H2 s₂.heap.objs.size (.lst [])) H5 s₃.heap s6.heap:=by subst hz;exact I6.base
   have os6:s6.os=s₃.os:=by subst hz;exact I6.os
   have fC:H5 s₃.heap.objs.size=none:=by subst hz;exact I6.free
   have hch:∀b∈fp,(b∈X.ex\/X.s₀.heap.objs.size<=b)/\b≠X.env.locals/\(∀x c,X.env.cells.lookup x=some c->c≠b)/\∀p∈X.pn++pins,p.1≠b:=λb hb=>⟨(f2 b hb).2.2.2.1,(f2 b hb).2.1,(f2 b hb).2.2.2.2.1,(f2 b hb).2.2.2.2.2⟩
   have nC:s₃.heap.get? s₃.heap.objs.size=none:=Heap.get?_none_of_le (ao _)
   have ns:∃m,s6.heap.Ns s₃.heap.objs.size m:=by
    subst hz
    obtain⟨m,hn,_⟩:=I6.loc
    exact⟨m,hn⟩
   refine hR _ _ H5 s6 fC ns (I3.fpOk (ao _) fC) (λh' sb=>?_) (I3.call' (ch:=fp) os6 un I6.hok I6.bare hch) qn
   exact I3.call' (s':={s6 with heap:=h'}) (ch:=fp) os6 (Un.but un nC sb.extBut) (HOk.but I6.hok fC sb.extBut) I6.bare hch
  .refine thn (T.item (k5 X N' scope z) rfl rfl rfl hc i [] s5 _ H5 _ I5 (stat fr5) st5 go) λr s6 ⟨u,hr,h6⟩=>?_
   subst hr
   refine thn h6 λ_ s7 ⟨x,H7,I7,r7,y7,st7,fr7⟩=>?_
   have I7':=I7.pinned (stat fr7) (T.obj _ _ st7)
   refine thn (hg z _ s7 _ H7 x u _ I7' r7 (step x H7 y7)) λ_ s8 ⟨σ8,H8,I8,ag,q8⟩=>?_
   have again:∀{s9:Shared} {H9:Hp},Inv (k5 X N' scope z) ([]++pinsAt fp s7.heap) σ8 H9 s9->N H9->∃m,m<n/\∃i H',Inv (k5 X N' scope z) [] (picks sl σ) H' s9/\tn i s9.heap/\(∀b∈fp,H' b=none)/\W i m H':=λ{s9 H9} I9 n9=>by
    obtain⟨m',hm,w9⟩:=hN H9 n9
    refine(o5 m' hm (i+1) H9 ⟨(I9.weak ag.1.symm ag.2).unpinned,T.keep _ _ _ st7 λb hb o e=>(I9.pin (b,o) (cq _ (cq _ (mem_pinsAt hb e)))).1,λb hb=>?_,w9⟩)
    obtain⟨o,e,d⟩:=T.obj _ _ st7 b hb
    exact(I9.pin (b,o) (cq _ (cq _ (mem_pinsAt hb e)))).2.1
   refine thn (ht z _ s8 σ8 H8 _ I8 q8) λok s9 ⟨H9,I9,q9⟩=>?_
   cases ok with
   | false=>exact again I9 q9
   | true=>
    refine thn (he z _ s9 σ8 H9 _ I9 q9) λu10 s10 ⟨y,H10,I10,r10,xs,hx,hz10,n10⟩=>?_
    exact thn (om _ s10 σ8 H10 (.ref s₂.heap.objs.size) [y] (.ref s₂.heap.objs.size) [u10] (λ_ H'=>N H') I10 rfl (.cons r10 .nil) (x_EEE _ xs y ⟨rfl,rfl,hx,hz10,n10⟩)) λ_ s11 ⟨_,H11,I11,_,n11⟩=>again I11 n11
 have eenv:(k5 X N' scope z).env=compEnvC scope (nw X.env.cells scope.names []) s₃.heap.objs.size X.env:=by rw[<-hz];rfl
 rw[eenv]at loop
 exact codeAny_compStart_list (loop _ rfl) (T.self _ 0 _ _ _ st4 (loop _ rfl))
theorem lj(N':List Str)(sl:List (Option Nat)){wi:TI}{g:TG}{tt:TT}{te:TE}(hc:X.calm=true)(hkind:scope.kind=.function)
  (hnames:∀x∈scope.names,x.2=.local->scope.names.lookup x.1=some .local)
  (hnc:∀y∈scope.names,y.2≠.cell) (hfr:frOk scope X.env.scope=true)
  (hsl:slOk X.N N' sl scope X.env.scope=true) (hi:PI X target iter wi)
  (hg:∀z,PG (k5 X N' scope z) target g) (ht:∀z,PTs (k5 X N' scope z) ifs tt) (he:∀z,PE (k5 X N' scope z) elt te)
  (hs:∀x,foldedSetIterable iter X.env x=pure x:=by intro _;rfl) :
  PE X (.ListComp elt [⟨target,iter,ifs,0⟩] scope pos) (tComp wi sl g tt te):=by
 have hfree:=frOk.of hfr
 intro pins s σ H Q I h
 rw[eval_ListComp]
 have hcl:closureFor scope X.env=pure (nw X.env.cells scope.names []):=closureFor_eq λx hx hk=>I.ok.has x.1 (hfree x hx hk)
 refine wpAny_comprehension_free (use:=none) rfl hs hcl hkind hnames (thn (hi pins s σ H _ I h) λxv s₁ h₁=>thn h₁ λitv s₂ h₂=>?_)
 obtain⟨it,fp,tn,J,H2,e,I2,T,st2,f2,hw⟩:=h₂
 subst e
 refine comp_block (RR:=λacc C=>compPost (model X.prog X.w) X.A X.xe none (EP X pins σ Q) acc C) hc hkind hnc hfree hsl hg ht he I2 T st2 f2 hw ?_
 intro D C H' s' fC ns _ hI _ q
 obtain⟨m,hn⟩:=ns
 exact⟨m,hn,λh' sb=>(x_EE (.ref D) H' ⟨hI h' sb,rfl,q⟩)⟩
theorem ps_setC(N':List Str)(sl:List (Option Nat)){wi:TI}{g:TG}{tt:TT}{te:TE}{i:Nat}{y:Str}{py spos:Pos}(hN:X.N.Nodup)(hyi:X.N[i]?=some y)(hx:Loc X.env.scope y)
  (hsw:swapsWith (.ListComp elt [⟨target,iter,ifs,0⟩] scope pos) (some (.Name y py)) spos.line X.env=pure true) (hc:X.calm=true) (hkind:scope.kind=.function)
  (hnames:∀x∈scope.names,x.2=.local->scope.names.lookup x.1=some .local)
  (hnc:∀y∈scope.names,y.2≠.cell) (hfr:frOk scope X.env.scope=true)
  (hsl:slOk X.N N' sl scope X.env.scope=true) (hi:PI X target iter wi)
  (hg:∀z,PG (k5 X N' scope z) target g) (ht:∀z,PTs (k5 X N' scope z) ifs tt) (he:∀z,PE (k5 X N' scope z) elt te)
  (hs:∀x,foldedSetIterable iter X.env x=pure x:=by intro _;rfl) (hf:X.fn y=true\/X.env.scope.names.lookup y=some .local:=by first|exact .inl rfl|exact .inr rfl|assumption) :
  PS X (.Assign [.Name y py] (.ListComp elt [⟨target,iter,ifs,0⟩] scope pos) spos) (tAsg (tComp wi sl g tt te) (gName i)):=by
 have hfree:=frOk.of hfr
 intro pins s σ H D I h
 rw[exec_Assign_Name_used _ _ _ _ hsw]
 refine aa (wpAny_standAt (aa ?_))
 show wpAny _ _ (do let _ <-comprehension (.ListComp elt [⟨target,iter,ifs,0⟩] scope pos) scope X.env _ (newList []) false (eval iter X.env) (some (assign (.Name y py) X.env))) _ _ s
 have hcl:closureFor scope X.env=pure (nw X.env.cells scope.names []):=closureFor_eq λx hx hk=>I.ok.has x.1 (hfree x hx hk)
 refine aa (jg (wpAny_comprehension_free (use:=some (assign (.Name y py) X.env)) (Q:=λ_ s'=>SP X pins D .next s') rfl hs hcl hkind hnames
  (thn (hi pins s σ H _ I h) λxv s₁ h₁=>thn h₁ λitv s₂ h₂=>?_)) (λ_ s' hq=>af (af hq)) λ_ _ e=>e)
 obtain⟨it,fp,tn,J,H2,e,I2,T,st2,f2,hw⟩:=h₂
 subst e
 refine comp_block (RR:=λacc C=>compPost (model X.prog X.w) X.A X.xe (some (assign (.Name y py) X.env)) (λ_ s'=>SP X pins D .next s') acc C) hc hkind hnc hfree hsl hg ht he I2 T st2 f2 hw ?_
 intro E C H' s' fC ns fp hI I' q
 obtain⟨m,hn⟩:=ns
 show wpAny _ _ (assign (.Name y py) X.env (.ref E)) _ _ _
 refine wpAny_assign_Name (store_ok2 I' hN hyi hx (v:=.ref E) rfl (λs2 I2 ⟨a,sb,ha⟩=>?_) hf)
 have hCa:C≠a:=by
  rcases ha with ha|ha
  .rw[ha];exact fp.2.1
  .exact λz=>fp.2.2.2.2.1 _ _ ha z.symm
 exact⟨m,hn.sameBut sb hCa,λh3 sb3=>(x_EE _ H' ⟨I2.turned (t':=s2.toks) (λb o hb e=>(sb3.2 b hb).trans e) fp.1 fp.2.1 fp.2.2.2.1 fp.2.2.2.2.1 fp.2.2.2.2.2,q⟩)⟩
end
mutual
noncomputable def Rep(H:Hp):PyData->V->Prop
 | .none,v=>v=.non
 | .bool b,v=>v=.bl b
 | .int i,v=>v=.int i
 | .str x,v=>v=.str x/\PyData.strOk x=true
 | .tuple ds,v=>∃a xs,v=.ref a/\H a=some (.tup xs)/\RepAll H ds xs
 | .list ds,v=>∃a xs,v=.ref a/\H a=some (.lst xs)/\RepAll H ds xs
 | .dict _,_=>False
noncomputable def RepAll(H:Hp):List PyData->List V->Prop
 | [],xs=>xs=[]
 | d::ds,xs=>∃x r,xs=x::r/\Rep H d x/\RepAll H ds r
end
mutual
noncomputable def imm:PyData->Bool
 | .none=>true
 | .bool _=>true
 | .int _=>true
 | .str _=>true
 | .tuple ds=>mf ds
 | .list _=>false
 | .dict _=>false
noncomputable def mf:List PyData->Bool
 | []=>true
 | d::ds=>imm d&&mf ds
end
noncomputable def Tk(H H':Hp):Prop:=∀b xs,H b=some (.tup xs)->H' b=some (.tup xs)
theorem Tk.trans{H H1 H2:Hp}(a:Tk H H1)(b:Tk H1 H2):Tk H H2:=λc o h=>b c o (a c o h)
theorem Tk.of_same{H H':Hp}(h:Same H H'):Tk H H':=λb xs q=>h b _ q
theorem Tk.lst{H:Hp}{p:Addr}{xs:List V}{o:HO}(h:H p=some (.lst xs)):Tk H (upd H p o):=λb ys q=>by rw[kv (ne_of q h (by intro z;cases z))];exact q
mutual
theorem Rep.tk{H H':Hp}(t:Tk H H'):∀{d:PyData} {v:V},imm d=true->Rep H d v->Rep H' d v
 | .none,_,_,h=>h
 | .bool _,_,_,h=>h
 | .int _,_,_,h=>h
 | .str _,_,_,h=>h
 | .tuple ds,v,hi,h=>by
  obtain⟨a,xs,e,ha,r⟩:=h
  exact(x_EE a xs ⟨e,t _ _ ha,RepAll.tk t hi r⟩)
 | .list _,_,hi,_=>absurd hi ah
 | .dict _,_,hi,_=>absurd hi ah
theorem RepAll.tk{H H':Hp}(t:Tk H H'):∀{ds:List PyData} {xs:List V},mf ds=true->RepAll H ds xs->RepAll H' ds xs
 | [],_,_,h=>h
 | d::ds,xs,hi,h=>by
  obtain⟨x,r,e,h1,h2⟩:=h
  have hi':(imm d&&mf ds)=true:=hi
  rw[cg]at hi'
  exact(x_EE x r ⟨e,Rep.tk t hi'.1 h1,RepAll.tk t hi'.2 h2⟩)
end
mutual
theorem Rep.same{H H':Hp}(t:Same H H'):∀{d:PyData} {v:V},Rep H d v->Rep H' d v
 | .none,_,h=>h
 | .bool _,_,h=>h
 | .int _,_,h=>h
 | .str _,_,h=>h
 | .tuple ds,v,h=>by
  obtain⟨a,xs,e,ha,r⟩:=h
  exact(x_EE a xs ⟨e,t _ _ ha,RepAll.same t r⟩)
 | .list ds,v,h=>by
  obtain⟨a,xs,e,ha,r⟩:=h
  exact(x_EE a xs ⟨e,t _ _ ha,RepAll.same t r⟩)
 | .dict _,_,h=>h
theorem RepAll.same{H H':Hp}(t:Same H H'):∀{ds:List PyData} {xs:List V},RepAll H ds xs->RepAll H' ds xs
 | [],_,h=>h
 | d::ds,xs,h=>by
  obtain⟨x,r,e,h1,h2⟩:=h
  exact(x_EE x r ⟨e,Rep.same t h1,RepAll.same t h2⟩)
end
theorem RepAll.length{H:Hp}:∀{ds:List PyData} {xs:List V},RepAll H ds xs->xs.length=ds.length
 | [],xs,h=>by have e:xs=[]:=h;rw[e];rfl
 | d::ds,xs,h=>by
  obtain⟨x,r,e,_,h2⟩:=h
  rw[e,bu,bu,RepAll.length h2]
theorem RepAll.get{H:Hp}:∀{ds:List PyData} {xs:List V} {i:Nat} {d:PyData},RepAll H ds xs->ds[i]?=some d->∃x,xs[i]?=some x/\Rep H d x
 | [],_,_,_,_,e=>by simp at e
 | d::ds,xs,0,d',h,e=>by
  obtain⟨x,r,e1,h1,_⟩:=h
  subst e1
  simp at e;subst e
  exact⟨x,rfl,h1⟩
 | d::ds,xs,i+1,d',h,e=>by
  obtain⟨x,r,e1,_,h2⟩:=h
  subst e1
  obtain⟨y,h3,h4⟩:=RepAll.get (i:=i) h2 (by simpa using e)
  exact⟨y,by simpa using h3,h4⟩
theorem RepAll.at{H:Hp}{ds:List PyData}{xs:List V}{i:Nat}{x:V}(h:RepAll H ds xs)(e:xs[i]?=some x):∃d,ds[i]?=some d/\Rep H d x:=by
 have hi:i<xs.length:=(ak.mp e).1
 have hi':i<ds.length:=by rw[<-h.length];exact hi
 obtain⟨y,h1,h2⟩:=h.get (ab hi')
 rw[e]at h1;cases h1
 exact⟨_,ab hi',h2⟩
theorem RepAll.append{H:Hp}:∀{ds es:List PyData} {xs ys:List V},RepAll H ds xs->RepAll H es ys->RepAll H (ds++es) (xs++ys)
 | [],es,xs,ys,h,h'=>by have e:xs=[]:=h;rw[e];exact h'
 | d::ds,es,xs,ys,h,h'=>by
  obtain⟨x,r,e,h1,h2⟩:=h
  subst e
  exact(x_EE x (r++ys) ⟨rfl,h1,RepAll.append h2 h'⟩)
theorem RepAll.snoc{H:Hp}{ds:List PyData}{d:PyData}{xs:List V}{x:V}(h:RepAll H ds xs)(h':Rep H d x):RepAll H (ds++[d]) (xs++[x]):=h.append (x_EE x ([]) ⟨rfl,h',rfl⟩)
mutual
theorem Rep.lay{H:Hp}:∀{d:PyData} {v:V},Rep H d v->d.canLay0=true
 | .none,_,_=>rfl
 | .bool _,_,_=>rfl
 | .int _,_,_=>rfl
 | .str _,_,h=>h.2
 | .tuple ds,_,h=>by
  obtain⟨_,_,_,_,r⟩:=h
  exact RepAll.lay r
 | .list ds,_,h=>by
  obtain⟨_,_,_,_,r⟩:=h
  exact RepAll.lay r
 | .dict _,_,h=>h.elim
theorem RepAll.lay{H:Hp}:∀{ds:List PyData} {xs:List V},RepAll H ds xs->gq ds=true
 | [],_,_=>rfl
 | d::ds,_,h=>by
  obtain⟨x,r,e,h1,h2⟩:=h
  show(d.canLay0&&gq ds)=true
  rw[Rep.lay h1,RepAll.lay h2]
  rfl
end
section
variable{X:Cx}{pins:List (Addr×Obj)}{σ:L2.St}{H:Hp}{s:Shared}
mutual
theorem Rep.reads(I:Inv X pins σ H s):∀{d:PyData} {v:V} {u:Value},Rep H d v->RelV v u->∃as,Reads s.heap u d as
 | .none,v,u,h,r=>by cases (show v=.non from h);cases (show u=Value.none from r);exact⟨_,.none⟩
 | .bool b,v,u,h,r=>by cases (show v=.bl b from h);cases (show u=Value.bool b from r);exact⟨_,.bool b⟩
 | .int i,v,u,h,r=>by
  cases (show v=.int i from h)
  obtain⟨t,e⟩:=(show ∃t,u=Value.int i t from r)
  cases e;exact⟨_,.int i t⟩
 | .str x,v,u,h,r=>by
  cases (show v=.str x from h.1)
  obtain⟨t,e⟩:=(show ∃t,u=Value.str x t from r)
  cases e;exact⟨_,.str x t⟩
 | .tuple ds,v,u,h,r=>by
  obtain⟨a,xs,e,ha,q⟩:=h
  subst e
  cases (show u=Value.ref a from r)
  obtain⟨its,rv,⟨o,e1,e2,n,e3⟩,_⟩:=I.tuple (SqT.of (K:=X.K) ha)
  obtain⟨as,z⟩:=RepAll.reads I q rv
  exact⟨as,.tuple e1 e2 e3 z⟩
 | .list ds,v,u,h,r=>by
  obtain⟨a,xs,e,ha,q⟩:=h
  subst e
  cases (show u=Value.ref a from r)
  obtain⟨its,rv,⟨o,n,e1,e2,_,e3⟩,_⟩:=I.list (SqL.of (K:=X.K) ha)
  obtain⟨as,z⟩:=RepAll.reads I q rv
  exact⟨_,.list e1 e2 e3 z⟩
 | .dict _,_,_,h,_=>h.elim
theorem RepAll.reads(I:Inv X pins σ H s):∀{ds:List PyData} {xs:List V} {us:List Value},RepAll H ds xs->Vals xs us->∃as,ReadsAll s.heap us ds as
 | [],xs,us,h,r=>by
  cases (show xs=[]from h)
  cases r
  exact⟨_,.nil⟩
 | d::ds,xs,us,h,r=>by
  obtain⟨x,t,e,h1,h2⟩:=h
  subst e
  cases r with
  | cons r1 r2=>
   obtain⟨as,z1⟩:=Rep.reads I h1 r1
   obtain⟨bs,z2⟩:=RepAll.reads I h2 r2
   exact⟨_,.cons z1 z2⟩
end
end
noncomputable def rEqD(neg:Bool):R2:=λx y H Q=>∃dx dy,Rep H dx x/\Rep H dy y/\dx.depth<=60/\Q (.bl (if neg then !PyData.eqv dx dy else bn dx dy)) H
section
variable{X:Cx}
theorem op_eqD(hu:X.A.units+64<cLine):OpR X (compareOp .Eq) (rEqD false):=by
 intro pins s σ H x y v u Q I rx ry h
 obtain⟨dx,dy,hx,hy,hd,q⟩:=h
 obtain⟨as,r1⟩:=hx.reads I rx
 obtain⟨bs,r2⟩:=hy.reads I ry
 exact SeqAt.compareEq_reads r1 r2 hx.lay hy.lay (by have:=Nat.min_le_left dx.depth dy.depth;omega) (x_EE (.bl _) H ⟨I,rfl,q⟩)
theorem op_neD(hu:X.A.units+64<cLine):OpR X (compareOp .NotEq) (rEqD true):=by
 intro pins s σ H x y v u Q I rx ry h
 obtain⟨dx,dy,hx,hy,hd,q⟩:=h
 obtain⟨as,r1⟩:=hx.reads I rx
 obtain⟨bs,r2⟩:=hy.reads I ry
 exact SeqAt.compareNe_reads r1 r2 hx.lay hy.lay (by have:=Nat.min_le_left dx.depth dy.depth;omega) (x_EE (.bl _) H ⟨I,rfl,q⟩)
noncomputable def rInD(neg:Bool):R2:=λx y H Q=>∃d p xs ds,Rep H d x/\y=.ref p/\(H p=some (.lst xs)\/H p=some (.tup xs))/\RepAll H ds xs/\d.depth<=60/\
 Q (.bl (if neg then !(ds.any λe=>bn e d)else ds.any λe=>bn e d)) H
theorem op_inD(hu:X.A.units+64<cLine):OpR X (compareOp .In) (rInD false):=by
 intro pins s σ H x y v u Q I rx ry h
 obtain⟨d,p,xs,ds,hx,rfl,hp,hds,hd,q⟩:=h
 cases ry
 obtain⟨bs,r2⟩:=hx.reads I rx
 have room:X.A.units+1+min (bv ds) d.depth<cLine:=by have:=Nat.min_le_right (bv ds) d.depth;omega
 rcases hp with hp|hp
 .obtain⟨as,r1⟩:=Rep.reads I (d:=.list ds) (v:=.ref p) (u:=.ref p) (x_EE p xs ⟨rfl,hp,hds⟩) rfl
  exact SeqAt.in_list_reads r1 r2 hds.lay hx.lay room (x_EE (.bl _) H ⟨I,rfl,q⟩)
 .obtain⟨as,r1⟩:=Rep.reads I (d:=.tuple ds) (v:=.ref p) (u:=.ref p) (x_EE p xs ⟨rfl,hp,hds⟩) rfl
  exact SeqAt.in_tuple_reads r1 r2 hds.lay hx.lay room (x_EE (.bl _) H ⟨I,rfl,q⟩)
theorem op_notInD(hu:X.A.units+64<cLine):OpR X (compareOp .NotIn) (rInD true):=by
 intro pins s σ H x y v u Q I rx ry h
 obtain⟨d,p,xs,ds,hx,rfl,hp,hds,hd,q⟩:=h
 cases ry
 obtain⟨bs,r2⟩:=hx.reads I rx
 have room:X.A.units+1+min (bv ds) d.depth<cLine:=by have:=Nat.min_le_right (bv ds) d.depth;omega
 rcases hp with hp|hp
 .obtain⟨as,r1⟩:=Rep.reads I (d:=.list ds) (v:=.ref p) (u:=.ref p) (x_EE p xs ⟨rfl,hp,hds⟩) rfl
  exact SeqAt.notIn_list_reads r1 r2 hds.lay hx.lay room (x_EE (.bl _) H ⟨I,rfl,q⟩)
 .obtain⟨as,r1⟩:=Rep.reads I (d:=.tuple ds) (v:=.ref p) (u:=.ref p) (x_EE p xs ⟨rfl,hp,hds⟩) rfl
  exact SeqAt.notIn_tuple_reads r1 r2 hds.lay hx.lay room (x_EE (.bl _) H ⟨I,rfl,q⟩)
theorem call_isinst:CallR X (.builtin "isinstance") (λxs H Q=>∃x T t b,xs=[x,.ty T]/\TyOf X.K H x t/\PySem.W.kitOne X.K t (.type T)=some b/\Q (.bl b) H):=by
 intro pins s σ H xs us Q I r h
 obtain⟨x,T,t,b,rfl,ty,e,q⟩:=h
 obtain⟨u,w',rfl,r1,r2⟩:=vals2 r
 cases (show w'=Value.type T from r2)
 exact isinst_ok I r1 ty e λtk=>(x_EE (.bl b) H ⟨I.tok _,rfl,q⟩)
end
noncomputable def fltLt:PyData->PyData->Bool
 | .int a,.int b=>decide (a<b)
 | .str a,.str b=>decide (a.cps.toList<b.cps.toList)
 | _,_=>false
noncomputable def rowLt:List PyData->List PyData->Bool
 | [],[]=>false
 | [],_::_=>true
 | _::_,[]=>false
 | x::xs,y::ys=>if bn x y=true then rowLt xs ys else fltLt x y
noncomputable def Row:List Bool->List PyData->Prop
 | [],ds=>ds=[]
 | true::ks,ds=>∃i r,ds=.int i::r/\Row ks r
 | false::ks,ds=>∃x r,ds=.str x::r/\Row ks r
noncomputable def rowOf:PyData->List PyData
 | .tuple ds=>ds
 | _=>[]
noncomputable def ltAtD(ds:List PyData)(i j:Nat):Bool:=rowLt (rowOf (ds.getD i .none)) (rowOf (ds.getD j .none))
noncomputable def sortD(ds:List PyData):List PyData:=(srt (ltAtD ds) ds.length).map λi=>ds.getD i .none
section
variable{prog:Program}{w:World}{A:Around}{E:Value->Shared->Prop}{s:Shared}{Q:Bool->Shared->Prop}
theorem lex_rows:∀{ks:List Bool} {xs ys:List PyData} {us vs:List Value} {as bs:List Addr} {i:Nat},Row ks xs->Row ks ys->ReadsAll s.heap us xs as->ReadsAll s.heap vs ys bs->Q (rowLt xs ys) s->
  PySem.W.KatLex prog w A true false Q (us.zip vs) i s
 | [],xs,ys,us,vs,as,bs,i,h1,h2,r1,r2,q=>by
  cases (show xs=[]from h1);cases (show ys=[]from h2)
  cases r1;cases r2
  exact q
 | true::ks,xs,ys,us,vs,as,bs,i,h1,h2,r1,r2,q=>by
  obtain⟨a,xr,rfl,h1⟩:=h1
  obtain⟨b,yr,rfl,h2⟩:=h2
  cases r1 with
  | cons ra r1=>
   cases r2 with
   | cons rb r2=>
    cases ra with
    | int _ t=>
     cases rb with
     | int _ u=>
      rw[jw]
      refine PySem.W.kat_cons (SeqAt.EqAt.int_int a t b u prog w _ _ ?_)
      have q':Q (if bn (.int a) (.int b)=true then rowLt xr yr else fltLt (.int a) (.int b)) s:=q
      have e:bn (.int a) (.int b)=(a==b):=rfl
      rw[e]at q'
      cases hb:(a==b)with
      | true=>rw[hb,if_pos rfl]at q';exact PySem.W.kat_yes (lex_rows h1 h2 r1 r2 q')
      | false=>
       rw[hb,if_neg ah]at q'
       refine PySem.W.kat_no ?_
       cases hi:(i==0)with
       | true=>exact oneLt_int q'
       | false=>exact PySem.W.kat_one _ _ (lt_int q')
 | false::ks,xs,ys,us,vs,as,bs,i,h1,h2,r1,r2,q=>by
  obtain⟨a,xr,rfl,h1⟩:=h1
  obtain⟨b,yr,rfl,h2⟩:=h2
  cases r1 with
  | cons ra r1=>
   cases r2 with
   | cons rb r2=>
    cases ra with
    | str _ t=>
     cases rb with
     | str _ u=>
      rw[jw]
      refine PySem.W.kat_cons (SeqAt.EqAt.str_str a t b u prog w _ _ ?_)
      have q':Q (if bn (.str a) (.str b)=true then rowLt xr yr else fltLt (.str a) (.str b)) s:=q
      have e:bn (.str a) (.str b)=(a==b):=rfl
      rw[e]at q'
      cases hb:(a==b)with
      | true=>rw[hb,if_pos rfl]at q';exact PySem.W.kat_yes (lex_rows h1 h2 r1 r2 q')
      | false=>
       rw[hb,if_neg ah]at q'
       refine PySem.W.kat_no ?_
       cases hi:(i==0)with
       | true=>exact oneLt_str q'
       | false=>exact PySem.W.kat_one _ _ (PyProof.Rows.lt_str q')
end
theorem Row.len{ks:List Bool}:∀{ds:List PyData},Row ks ds->ds.length=ks.length:=by
 induction ks with
 | nil=>intro ds h;cases (show ds=[]from h);rfl
 | cons k ks ih=>
  intro ds h
  cases k with
  | true=>obtain⟨i,r,rfl,h⟩:=h;rw[bu,bu,ih h]
  | false=>obtain⟨i,r,rfl,h⟩:=h;rw[bu,bu,ih h]
noncomputable def Rows(ks:List Bool)(ds:List PyData):Prop:=∀d∈ds,∃r,d=.tuple r/\Row (true::ks) r
section
variable{X:Cx}
theorem tup_of(I:Inv X pins σ H s){ks:List Bool}{d:PyData}{v:V}{u:Value}(h:Rep H d v)(r:RelV v u){row:List PyData}(e:d=.tuple row)(hr:Row (true::ks) row) :
  ∃a o vs n as i t,u=.ref a/\s.heap.get? a=some o/\o.cls=.type "tuple"/\o.data=.seq vs n/\ReadsAll s.heap vs.toList row as/\vs[0]?=some (.int i t):=by
 subst e
 obtain⟨as,z⟩:=h.reads I r
 cases z with
 | @tuple a o vs n _ _ e1 e2 e3 z=>
  obtain⟨i,rr,rfl,_⟩:=hr
  have z':=z
  generalize hv:vs.toList=vl at z
  cases z with
  | cons ra rb=>
   cases ra with
   | int _ t=>
    refine(lg a o vs n _ (x_EE i t ⟨rfl,e1,e2,e3,z',?_⟩))
    rw[<-a0,hv]
    rfl
theorem kat_tups(I:Inv X pins σ H s){ks:List Bool}:∀{ds:List PyData} {xs:List V} {us:List Value},RepAll H ds xs->Vals xs us->Rows ks ds->∃fs:List Value,jj s.heap us fs/\fs.length=ds.length/\∀v∈fs,∃i t,v=Value.int i t
 | [],xs,us,h,r,_=>by
  cases (show xs=[]from h);cases r
  exact⟨[],trivial,rfl,λv hv=>by cases hv⟩
 | d::ds,xs,us,h,r,hr=>by
  obtain⟨x,t,e,h1,h2⟩:=h
  subst e
  cases r with
  | cons r1 r2=>
   obtain⟨row,e,hrow⟩:=hr d au
   obtain⟨a,o,vs,n,as,i,tk,rfl,e1,e2,e3,_,e4⟩:=tup_of I h1 r1 e hrow
   obtain⟨fs,k1,k2,k3⟩:=kat_tups I h2 r2 λd hd=>hr d (av _ hd)
   refine⟨.int i tk::fs,jj.cons e1 e2 e3 e4 k1,by rw[bu,bu,k2],λv hv=>?_⟩
   rcases ax.mp hv with rfl|hv
   .exact(x_EE i tk rfl)
   .exact k3 v hv
theorem KatTups.keeps{h h':Heap}(k:∀b o,h.get? b=some o->h'.get? b=some o):∀{vs fs:List Value},jj h vs fs->jj h' vs fs
 | [],[],_=>trivial
 | v::vs,f::fs,x=>by
  obtain⟨⟨a,o,xs,n,e,e1,e2⟩,r⟩:=x
  exact⟨(nv a o xs n ⟨e,k _ _ e1,e2⟩),KatTups.keeps k r⟩
 | [],_::_,x=>x.elim
 | _::_,[],x=>x.elim
end
end L3
namespace L3
open PySem PySem.Spec PyProof.Rows
theorem args_maxD(a v:Value):argsOk "max" ⟨[a],[(bq "default",v)]⟩:=by unfold argsOk;kernel_rfl
section
variable{prog:Program}{w:World}{A:Around}{E:Value->Shared->Prop}{s:Shared}
theorem min_list0{l:Addr}{vs:List Value}{ns:List Int}{Q:Value->Shared->Prop}(hh:A.handled=none)(hl:s.heap.IsList l vs.toArray)(hi:IntsAre vs ns)(hne:0<ns.length)
  (h:∀h' M (t:Tok) tk,(∀b o,s.heap.get? b=some o->h'.get? b=some o)->M∈ns->(∀a,a∈ns->M<=a)->Q (.int M t) {s with heap:=h',toks:=tk}) :
  wpAny (model prog w) A (call (.builtin "min") [.ref l]) Q E s:=by
 obtain⟨xs,e⟩:=hi.allInts.items
 have hns:ns=xs.toList.map (·.1):=by rw[<-hi.numsOf,<-nums_intItems,<-e]
 have hsz:0<xs.size:=by
  have h3:=hne;rw[hns,aj,aw]at h3;exact h3
 rw[e]at hl
 refine min_intList hh hl hsz λv h' tk hv hk=>?_
 obtain⟨t,rfl⟩:=intItems_at hv
 obtain⟨h1,h2⟩:=argBest_lt (numAt xs) (xs.size-1)
 refine h _ _ t tk hk ?_ λa ha=>?_
 .rw[hns,numAt_eq];exact getD_mem (by rw[aj,aw];omega)
 .rw[hns]at ha
  obtain⟨j,hj,rfl⟩:=mem_getD ha
  rw[aj,aw]at hj
  rw[<-numAt_eq];exact h2 j (by omega)
end
end L3
namespace L3
open PySem PySem.Spec PyProof.Rows L2
noncomputable def oa:Expr->Bool
 | .Starred _ _=>false
 | _=>true
theorem l9{e:Expr}{es:List Expr}{env:Env}(h:oa e=true):starEach (e::es) env=(false,eval e env)::starEach es env:=by
 cases e<;>first|rfl|exact absurd h ah
theorem star_none{pos:Pos}{env:Env}:∀{es:List Expr},es.all oa=true->(backTo pos (starEach es env)).any (·.1)=false
 | [],_=>rfl
 | e::es,h=>by
  rw[List.all_cons,cg]at h
  rw[l9 h.1]
  show(false||(backTo pos (starEach es env)).any (·.1))=false
  rw[star_none h.2]
  rfl
theorem pa_c{X:Cx}{e:Expr}{es:List Expr}{te:TE}{t:TA}(ha:PE X e te)(hr:PA X es t)(h:oa e=true:=by rfl):PA X (e::es) (tCons te t):=pa_cons ha hr (l9 h)
theorem pe_cB{X:Cx}{x:Str}{p pos:Pos}{e:Expr}{es:List Expr}{t:TA}{id:String}{r:List V->Hp->VK->Prop}(hc:CallR X (.builtin id) r)(hg:Gl X x)(hm:X.mg x=none)(hv:bootBuiltins x=some (.builtin id))(ha:PA X (e::es) t)
  (hn:x≠"__name__":=by decide) (hdb:(x==("__debug__" : Str))=false:=by decide) (h1:oa e=true:=by rfl) (h2:es.all oa=true:=by rfl):PE X (.Call (.Name x p) (e::es) [] pos) (tCB r t):=
 pe_callB hc hg hm hv ha hn hdb (l9 h1) (star_none h2)
theorem pe_cT{X:Cx}{x:Str}{p pos:Pos}{e:Expr}{es:List Expr}{t:TA}{T:String}{r:List V->Hp->VK->Prop}(hc:CallR X (.type T) r)(hg:Gl X x)(hm:X.mg x=none)(hv:bootBuiltins x=some (.type T))(ha:PA X (e::es) t)
  (hn:x≠"__name__":=by decide) (hdb:(x==("__debug__" : Str))=false:=by decide) (h1:oa e=true:=by rfl) (h2:es.all oa=true:=by rfl):PE X (.Call (.Name x p) (e::es) [] pos) (tCB r t):=
 pe_callTy hc hg hm hv ha hn hdb (l9 h1) (star_none h2)
theorem pi_r1{X:Cx}{tg a:Expr}{ta:TA}{p pos:Pos}(hg:Gl X "range")(hm:X.mg "range" = none)(ha:PA X [a] ta)(h:oa a=true:=by rfl):PI X tg (.Call (.Name "range" p) [a] [] pos) (iRng1 ta):=
 pi_range1 hg hm ha (l9 h)
noncomputable def Fn(P:Program)(w:World)(K:aq)(mg:Str->Option Value)(base:Heap)(x:Str)(k:Nat)(ps:List Str)(sp:Sp):Prop:=
 ∃f fd,FnOk P w K mg base CX0 k f fd ps sp/\mg x=some (.ref f)/\PySem.W.keepIn K (.ref f)=true/\Binds K fd ps []
section
variable{X:Cx}{k j:Nat}{ps:List Str}{sp:Sp}{x:Str}{p pos kpos:Pos}{e e2:Expr}{es:List Expr}{t tk:TA}{te:TE}
theorem pe_fn(F:Fn X.prog X.w X.K X.mg X.base x k ps sp)(hr:Room j X.A)(hk:k<=j)(hg:Gl X x)
  (ha:PA X (e::es) t) (hdb:(x==("__debug__" : Str))=false:=by decide) (h1:oa e=true:=by rfl) (h2:es.all oa=true:=by rfl) :
  PE X (.Call (.Name x p) (e::es) [] pos) (tCall sp [] E0 t):=by
 obtain⟨f,fd,F,m,kp,b⟩:=F
 exact pe_call F (hr.mono hk) hg m kp b .nil pass0 ha hdb (l9 h1) (star_none h2)
noncomputable def rMin:List V->Hp->VK->Prop:=λxs H Q=>∃q,∃ns:List Int,xs=[.ref q]/\H q=some (.lst (ns.map V.int))/\0<ns.length/\∀M,M∈ns->(∀a∈ns,M<=a)->Q (.int M) H
theorem call_minL(hc:X.calm=true):CallR X (.builtin "min") rMin:=by
 intro pins s σ H xs us Q I r h
 obtain⟨q,ns,rfl,hq,hn,h⟩:=h
 obtain⟨u,rfl,r1⟩:=vals1 r
 cases (show u=Value.ref q from r1)
 obtain⟨its,rv,pl,hz⟩:=I.list (SqL.of (K:=X.K) hq)
 exact min_list0 (I.ok.hd hc) pl.isList (intsAre_of rv) hn λh' M t tk k h1 h2=>(x_EE (.int M) H ⟨I.kept k,⟨_,rfl⟩,h M h1 h2⟩)
end
theorem oe{X:Cx}{N:List Str}{scope:Scope}{z:CZ}{es:List Expr}{k:Nat}{pos:Pos}{t:TGs}{n:Nat}(hc:X.calm=true)(h:PGs (k5 X N scope z) es t)
  (hn:(assignEach es (k5 X N scope z).env).length=n:=by rfl) (hst:(assignEach es (k5 X N scope z).env).findIdx? (·.1)=none:=by rfl):PG (k5 X N scope z) (.Tuple es k pos) (gTup X.K n t):=
 pg_tup (X:=k5 X N scope z) hc h hn hst
section
variable{X:Cx}{N:List Str}{scope:Scope}{z:CZ}
theorem ph:IxR (k5 X N scope z) (rIxT X.K):=li (X:=k5 X N scope z)
theorem ix_listC:IxR (k5 X N scope z) (rIxL X.K):=nj (X:=k5 X N scope z)
theorem call_len_seqC:CallR (k5 X N scope z) (.builtin "len") (λxs H Q=>∃p ys,xs=[.ref p]/\(SqL X.K H p ys\/SqT X.K H p ys)/\Q (.int ys.length) H):=m8 (X:=k5 X N scope z)
end
section
variable{K:aq}{a D:Addr}{xs:List V}{sl:List (Option Nat)}{g:TG}{tt:TT}{te:TE}{σ:L2.St}{H1:Hp}{Q:VK}
noncomputable def Nx(D:Addr)(i:Nat)(Pv:Nat->List V->Hp->Prop):Hp->Prop:=λH'=>∃ys,H' D=some (.lst ys)/\ys.length<=i+1/\Pv (i+1) ys H'
theorem nk{i:Nat}{Pv:Nat->List V->Hp->Prop}{H:Hp}{ys:List V}{y:V}(hi:i<1000)(hD:H D=some (.lst ys))(hl:ys.length<=i)(h:Pv (i+1) (ys++[y]) (upd H D (.lst (ys++[y])))) :
  ∃xs,H D=some (.lst xs)/\xs.length<sizeLine/\Nx D i Pv (upd H D (.lst (xs++[y]))):=
 (x_EAAE ys hD (l8 (by omega)) (ys++[y]) ⟨kh,by rw[bo,fw];omega,h⟩)
theorem comp_by(J:It)(n:Nat)(Pv:Nat->List V->Hp->Prop)(h0:Pv 0 [] (upd H1 D (.lst [])))
  (hgo:∀i ys H,i<n->Pv i ys H->J.go i H) (hst:∀ys H,Pv n ys H->J.stop n H)
  (hs:∀i x ys H H',i<n->J.yld i H x H'->H D=some (.lst ys)->ys.length<=i->Pv i ys H->g x (picks sl σ) H' λσ2 H2=>Agree (picks sl σ) σ2/\tt σ2 H2 λb H3=>
   if b=true then te σ2 H3 λy H4=>∃xs,H4 D=some (.lst xs)/\xs.length<sizeLine/\Nx D i Pv (upd H4 D (.lst (xs++[y])))else Nx D i Pv H3)
  (hd:∀ys H,H D=some (.lst ys)->ys.length<=n->Pv n ys H->Q (.ref D) H):CompR J sl g tt te σ H1 D Q:=by
 refine⟨λi m H=>m=n-i/\i<=n/\∃ys,H D=some (.lst ys)/\ys.length<=i/\Pv i ys H,(x_EAAE n (by simp) (en _) ([]) ⟨kh,ao _,h0⟩),?_⟩
 rintro i m H ⟨rfl,hi,ys,hy,hl,p⟩
 by_cases hlt:i<n
 .refine .inr ⟨hgo i ys H hlt p,Nx D i Pv,λH' ⟨ys',e1,e2,e3⟩=>⟨n-(i+1),by omega,rfl,hlt,ys',e1,e2,e3⟩,λx H' y=>hs i x ys H H' hlt y hy hl p⟩
 .have e:i=n:=by omega
  subst e
  exact .inl ⟨hst ys H p,hd ys H hy hl p⟩
theorem lr(Pv:Nat->List V->Hp->Prop)(h0:Pv 0 [] (upd H1 D (.lst [])))(hl:∀i ys H,Pv i ys H->SqL K H a xs)
  (hs:∀i x ys H,xs[i]?=some x->i<xs.length->H D=some (.lst ys)->ys.length<=i->Pv i ys H->g x (picks sl σ) H λσ2 H2=>Agree (picks sl σ) σ2/\tt σ2 H2 λb H3=>
   if b=true then te σ2 H3 λy H4=>∃xs,H4 D=some (.lst xs)/\xs.length<sizeLine/\Nx D i Pv (upd H4 D (.lst (xs++[y])))else Nx D i Pv H3)
  (hd:∀ys H,H D=some (.lst ys)->ys.length<=xs.length->Pv xs.length ys H->Q (.ref D) H):CompR (Itl K a) sl g tt te σ H1 D Q:=by
 refine comp_by (Itl K a) xs.length Pv h0 (λi ys H hi p=>(x_EE xs (xs[i]) ⟨hl i ys H p,by simp[hi]⟩)) (λys H p=>⟨xs,hl _ ys H p,ao _⟩) (λi x ys H H' hi y hD hyl p=>?_) hd
 obtain⟨e,y⟩:=y
 subst e
 exact hs i x ys _ (y xs (hl i ys _ p)) hi hD hyl p
theorem comp_tup(Pv:Nat->List V->Hp->Prop)(h0:Pv 0 [] (upd H1 D (.lst [])))(hl:∀i ys H,Pv i ys H->SqT K H a xs)
  (hs:∀i x ys H,xs[i]?=some x->i<xs.length->H D=some (.lst ys)->ys.length<=i->Pv i ys H->g x (picks sl σ) H λσ2 H2=>Agree (picks sl σ) σ2/\tt σ2 H2 λb H3=>
   if b=true then te σ2 H3 λy H4=>∃xs,H4 D=some (.lst xs)/\xs.length<sizeLine/\Nx D i Pv (upd H4 D (.lst (xs++[y])))else Nx D i Pv H3)
  (hd:∀ys H,H D=some (.lst ys)->ys.length<=xs.length->Pv xs.length ys H->Q (.ref D) H):CompR (Itt K a) sl g tt te σ H1 D Q:=by
 refine comp_by (Itt K a) xs.length Pv h0 (λi ys H hi p=>(x_EE xs (xs[i]) ⟨hl i ys H p,by simp[hi]⟩)) (λys H p=>⟨xs,hl _ ys H p,ao _⟩) (λi x ys H H' hi y hD hyl p=>?_) hd
 obtain⟨e,y⟩:=y
 subst e
 exact hs i x ys _ (y xs (hl i ys _ p)) hi hD hyl p
theorem comp_range{lo:Int}{n:Nat}(Pv:Nat->List V->Hp->Prop)(h0:Pv 0 [] (upd H1 D (.lst [])))
  (hs:∀i ys H,i<n->H D=some (.lst ys)->ys.length<=i->Pv i ys H->g (.int (lo+i)) (picks sl σ) H λσ2 H2=>Agree (picks sl σ) σ2/\tt σ2 H2 λb H3=>
   if b=true then te σ2 H3 λy H4=>∃xs,H4 D=some (.lst xs)/\xs.length<sizeLine/\Nx D i Pv (upd H4 D (.lst (xs++[y])))else Nx D i Pv H3)
  (hd:∀ys H,H D=some (.lst ys)->ys.length<=n->Pv n ys H->Q (.ref D) H):CompR (Itr lo n) sl g tt te σ H1 D Q:=by
 refine comp_by (Itr lo n) n Pv h0 (λi ys H hi p=>hi) (λys H p=>ao _) (λi x ys H H' hi y hD hyl p=>?_) hd
 obtain⟨e,e2⟩:=y
 subst e e2
 exact hs i ys _ hi hD hyl p
end
noncomputable def Ex(W:List Addr)(H H':Hp):Prop:=∀b o,b∉W->H b=some o->H' b=some o
theorem Ex.refl(W:List Addr)(H:Hp):Ex W H H:=λ_ _ _ h=>h
theorem Ex.trans{W:List Addr}{H H1 H2:Hp}(a:Ex W H H1)(b:Ex W H1 H2):Ex W H H2:=λc o hc h=>b c o hc (a c o hc h)
theorem Ex.of_same{W:List Addr}{H H':Hp}(a:Same H H'):Ex W H H':=λc o _ h=>a c o h
theorem Ex.fresh{W:List Addr}{H:Hp}{p:Addr}{o:HO}(h:H p=none):Ex W H (upd H p o):=λb u _ q=>by rw[kv (lh q h)];exact q
theorem Ex.upd{W:List Addr}{H:Hp}{p:Addr}{o:HO}(h:p∈W):Ex W H (upd H p o):=λb u hb q=>by rw[kv (show b≠p from λe=>hb (by rw[e];exact h))];exact q
theorem Ex.new{W:List Addr}{H H':Hp}{p:Addr}{o:HO}(a:Ex W H H')(h:H p=none):Ex W H (L2.upd H' p o):=λb u hb q=>by rw[kv (lh q h)];exact a b u hb q
theorem Ex.tk{W:List Addr}{H H':Hp}(a:Ex W H H')(h:∀b∈W,∃xs,H b=some (.lst xs)):Tk H H':=λb xs q=>a b _ (λhb=>by
 obtain⟨ys,e⟩:=h b hb
 rw[q]at e;cases e) q
theorem Ex.one{st:Addr}{H H':Hp}{xs:List V}(a:Ex [st] H H')(h:H st=some (.lst xs)):Tk H H':=a.tk λb hb=>⟨xs,by rw[ba.mp hb];exact h⟩
theorem Ex.at{st:Addr}{H H':Hp}{b:Addr}{o:HO}(a:Ex [st] H H')(hb:b≠st)(h:H b=some o):H' b=some o:=a b o (by simpa using hb) h
theorem upd_none{H:Hp}{p b:Addr}{o:HO}(h:upd H p o b=none):b≠p/\H b=none:=by
 by_cases e:b=p
 .subst e;rw[kh]at h;cases h
 .rw[kv e]at h;exact⟨e,h⟩
theorem _root_.L2.Same.new{H H':Hp}{p:Addr}{o:HO}(a:Same H H')(h:H p=none):Same H (upd H' p o):=λb u q=>by rw[kv (lh q h)];exact a b u q
theorem _root_.L2.Same.fresh{H:Hp}{p:Addr}(o:HO)(h:H p=none):Same H (upd H p o):=(Same.refl H).new h
noncomputable def Cells(cs:List PyData):Prop:=∀d∈cs,∃r c:Int,d=.tuple [.int r,.int c]
noncomputable def Spots(ds:List PyData):Prop:=∀d∈ds,∃(r c:Int) (x:Str),d=.tuple [.int r,.int c,.str x]
theorem ng:∀{ds:List PyData},(∀d∈ds,imm d=true)->mf ds=true
 | [],_=>rfl
 | d::ds,h=>by
  show(imm d&&mf ds)=true
  rw[h d au,ng λe he=>h e (av _ he)]
  rfl
theorem Cells.imm{cs:List PyData}(h:Cells cs):mf cs=true:=ng λd hd=>by obtain⟨r,c,rfl⟩:=h d hd;rfl
theorem Spots.imm{ds:List PyData}(h:Spots ds):mf ds=true:=ng λd hd=>by obtain⟨r,c,x,rfl⟩:=h d hd;rfl
theorem rep_cell{H:Hp}{r c:Int}{v:V}(h:Rep H (.tuple [.int r,.int c]) v):∃a,v=.ref a/\H a=some (.tup [.int r,.int c]):=by
 obtain⟨a,xs,e,ha,x1,r1,e1,h1,x2,r2,e2,h2,e3⟩:=h
 cases (show x1=.int r from h1);cases (show x2=.int c from h2);cases (show r2=[]from e3)
 subst e1 e2
 exact⟨a,e,ha⟩
theorem oy{H:Hp}{r c:Int}{x:Str}{v:V}(h:Rep H (.tuple [.int r,.int c,.str x]) v):∃a,v=.ref a/\H a=some (.tup [.int r,.int c,.str x])/\PyData.strOk x=true:=by
 obtain⟨a,xs,e,ha,x1,r1,e1,h1,x2,r2,e2,h2,x3,r3,e3,h3,e4⟩:=h
 cases (show x1=.int r from h1);cases (show x2=.int c from h2);cases (show x3=.str x from h3.1);cases (show r3=[]from e4)
 subst e1 e2 e3
 exact⟨a,e,ha,h3.2⟩
theorem pi{H:Hp}{a:Addr}{r c:Int}(h:H a=some (.tup [.int r,.int c])):Rep H (.tuple [.int r,.int c]) (.ref a):=(x_EEAAEEAAE a _ rfl h _ _ rfl rfl _ ⟨_,rfl,rfl,rfl⟩)
theorem spot_rep{H:Hp}{a:Addr}{r c:Int}{x:Str}(h:H a=some (.tup [.int r,.int c,.str x]))(hx:PyData.strOk x=true):Rep H (.tuple [.int r,.int c,.str x]) (.ref a):=
 (x_EEAAEEAAE a _ rfl h _ _ rfl rfl _ (x_EAAE _ rfl rfl _ ⟨_,rfl,⟨rfl,hx⟩,rfl⟩))
theorem Spots.at{H:Hp}{ds:List PyData}{xs:List V}{i:Nat}{v:V}(h:Spots ds)(r:RepAll H ds xs)(e:xs[i]?=some v) :
  ∃(a:Addr) (p q:Int) (x:Str),v=.ref a/\H a=some (.tup [.int p,.int q,.str x])/\PyData.strOk x=true/\ds[i]?=some (.tuple [.int p,.int q,.str x]):=by
 obtain⟨d,e1,e2⟩:=r.at e
 obtain⟨p,q,x,rfl⟩:=h d (am e1)
 obtain⟨a,e3,e4,e5⟩:=oy e2
 exact(nv a p q x ⟨e3,e4,e5,e1⟩)
noncomputable def row1:PyData->Int
 | .tuple (.int r::_)=>r
 | _=>0
noncomputable def col1:PyData->Int
 | .tuple (_::.int c::_)=>c
 | _=>0
noncomputable def minI:List Int->Int
 | []=>0
 | [a]=>a
 | a::b::r=>if a<=minI (b::r)then a else minI (b::r)
theorem minI_mem:∀{ns:List Int},0<ns.length->minI ns∈ns
 | [],h=>by simp at h
 | [a],_=>by simp[minI]
 | a::b::r,_=>by
  unfold minI
  split
  .exact au
  .exact av _ (minI_mem (by simp))
theorem minI_le:∀{ns:List Int},∀a∈ns,minI ns<=a
 | [],a,h=>by cases h
 | [a],b,h=>by
  have e:b=a:=by simpa using h
  rw[e];exact iz _
 | a::b::r,x,h=>by
  unfold minI
  rcases ax.mp h with e|h
  .rw[e]
   split
   .exact iz _
   .omega
  .have:=minI_le (ns:=b::r) x h
   split
   .omega
   .exact this
theorem minI_eq{ns:List Int}{M:Int}(h1:M∈ns)(h2:∀a∈ns,M<=a):M=minI ns:=by
 have hp:0<ns.length:=List.length_pos_of_mem h1
 have a1:=h2 _ (minI_mem hp)
 have a2:=minI_le M h1
 omega
noncomputable def shift1(t l:Int):PyData->PyData
 | .tuple [.int r,.int c,.str x]=>.tuple [.int (r-t),.int (c-l),.str x]
 | d=>d
noncomputable def mx(ds:List PyData):List PyData:=ds.map (shift1 (minI (ds.map row1)) (minI (ds.map col1)))
section
variable{K:aq}{a:Addr}{xs:List V}{ds:List PyData}{σ:L2.St}{H:Hp}{Q:VK}
theorem k8{α β:Type}(f:α->β){l:List α}{i:Nat}{x:α}(h:l[i]?=some x):(l.take (i+1)).map f=(l.take i).map f++[f x]:=by
 rw[ig,h]
 simp
theorem read_proj(j:Int)(pr:PyData->Int)(hj:∀(r c:Int) (x:Str),atI [V.int r,.int c,.str x] j=some (.int (pr (.tuple [.int r,.int c,.str x]))))
  (hσ:σ[0]?=some (some (.ref a))) (ha:H a=some (.lst xs)) (hr:RepAll H ds xs) (hs:Spots ds) (hl:ds.length<64)
  (q:∀D H',Same H H'->H' D=some (.lst ((ds.map pr).map V.int))->Q (.ref D) H') :
  tComp (iList K (tVar 0)) [none] (gName 0) tYes (tOp (rIxT K) (tVar 0) (tC (.int j))) σ H Q:=by
 have hlen:=hr.length
 refine(x_EAE _ hσ a ⟨rfl,⟨_,SqL.of ha⟩,λD hD=>?_⟩)
 refine lr (xs:=xs) (λi ys H'=>Same H H'/\ys=((ds.take i).map pr).map V.int) ⟨Same.fresh _ hD,rfl⟩ (λi ys H' p=>SqL.of (p.1 _ _ ha)) (λi x ys H' hx hi hDy hyl p=>?_) (λys H' hDy hyl p=>?_)
 .obtain⟨p1,rfl⟩:=p
  obtain⟨b,r,c,z,rfl,hb,hz,hd⟩:=hs.at hr hx
  refine⟨Agree.set (Agree.refl _) rfl,?_⟩
  dsimp only[tYes]
  refine iteT ?_
  refine(x_EAEEEE _ rfl b _ _ _ ⟨rfl,rfl,SqT.of (p1 _ _ hb),hj r c z,nk (by omega) hDy hyl ⟨p1.new hD,?_⟩⟩)
  rw[k8 pr hd,cm]
  rfl
 .obtain⟨p1,rfl⟩:=p
  refine q D H' p1 ?_
  rw[hDy,a7 (by omega)]
theorem read_shift{t l:Int}(hσ:σ[0]?=some (some (.ref a)))(h1:σ[1]?=some (some (.int t)))(h2:σ[2]?=some (some (.int l)))(ha:H a=some (.lst xs))(hr:RepAll H ds xs)(hs:Spots ds)(hl:ds.length<64)
  (q:∀D ys H',Same H H'->H' D=some (.lst ys)->RepAll H' (ds.map (shift1 t l)) ys->Q (.ref D) H') :
  tComp (iList K (tVar 0)) [none,none,none,some 1,some 2] (gTup K 3 (gCons (gName 0) (gCons (gName 1) (gCons (gName 2) gNil)))) tYes
   (tTup (tCons (tOp (rI0 λi j=>.int (i-j)) (tVar 0) (tVar 3)) (tCons (tOp (rI0 λi j=>.int (i-j)) (tVar 1) (tVar 4)) (tCons (tVar 2) tNil)))) σ H Q:=by
 have hlen:=hr.length
 refine(x_EAE _ hσ a ⟨rfl,⟨_,SqL.of ha⟩,λD hD=>?_⟩)
 have hp:picks [none,none,none,some 1,some 2] σ=[none,none,none,some (.int t),some (.int l)]:=by
  unfold picks
  simp[h1,h2]
 refine lr (xs:=xs) (λi ys H'=>Same H H'/\RepAll H' ((ds.take i).map (shift1 t l)) ys) ⟨Same.fresh _ hD,rfl⟩ (λi ys H' p=>SqL.of (p.1 _ _ ha)) (λi x ys H' hx hi hDy hyl p=>?_) (λys H' hDy hyl p=>?_)
 .obtain⟨p1,p2⟩:=p
  obtain⟨b,r,c,z,rfl,hb,hz,hd⟩:=hs.at hr hx
  rw[hp]
  refine(x_EEAAAEEAE b _ rfl (SqT.of (p1 _ _ hb)) rfl _ _ rfl _ (o5 _ rfl _ _ ⟨rfl,rfl,?_⟩))
  refine⟨Agree.set (Agree.set (Agree.set (Agree.refl _) rfl) rfl) rfl,?_⟩
  dsimp only[tYes]
  refine iteT ?_
  refine(x_EAEAEEAAE _ rfl _ rfl _ _ rfl rfl _ ⟨rfl,(x_EAEEAAE _ rfl _ _ rfl rfl _ ⟨rfl,(by show 3<=sizeLine;decide),λn hn=>?_⟩)⟩)
  have hnD:D≠n:=λe=>by rw[<-e,hDy]at hn;cases hn
  have hnH:H n=none:=p1.free hn
  have im:mf (((ds.take i).map (shift1 t l))++[.tuple [.int (r-t),.int (c-l),.str z]])=true:=ng λd hd'=>by
   rcases bm.mp hd' with h|h
   .obtain⟨d0,h0,rfl⟩:=bi.mp h
    obtain⟨r0,c0,x0,rfl⟩:=hs d0 (dq h0)
    rfl
   .rw[ba.mp h];rfl
  have hDn:upd H' n (.tup [.int (r-t),.int (c-l),.str z]) D=some (.lst ys):=by rw[kv hnD];exact hDy
  have hs1:Same H' (upd H' n (.tup [.int (r-t),.int (c-l),.str z])):=Same.fresh _ hn
  have hs2:RepAll (upd H' n (.tup [.int (r-t),.int (c-l),.str z])) (((ds.take i).map (shift1 t l))++[.tuple [.int (r-t),.int (c-l),.str z]]) (ys++[.ref n]):=(p2.same hs1).snoc (spot_rep kh hz)
  refine nk (by omega) hDn hyl ⟨(p1.trans hs1).new hD,?_⟩
  rw[k8 (shift1 t l) hd]
  exact hs2.tk (Tk.lst hDn) im
 .obtain⟨p1,p2⟩:=p
  rw[a7 (by omega)]at p2
  exact q D ys H' p1 hDy p2
end
theorem shift_rows{ds:List PyData}(hs:Spots ds)(t l:Int):Rows [true,false] (ds.map (shift1 t l)):=λd hd=>by
 obtain⟨e,he,rfl⟩:=bi.mp hd
 obtain⟨r,c,x,rfl⟩:=hs e he
 exact(o5 _ rfl _ _ ⟨rfl,(x_EE _ _ ⟨rfl,(x_EE _ _ ⟨rfl,rfl⟩)⟩)⟩)
noncomputable def sLt(x y:Str):Bool:=decide (x.cps.toList<y.cps.toList)
theorem sLt_asy{x y:Str}(h:sLt x y=true):sLt y x=false:=by
 have h':x.cps.toList<y.cps.toList:=of_decide_eq_true h
 exact decide_eq_false (List.lt_asymm h')
theorem sLt_tr{a b c:Str}(h1:sLt b a=false)(h2:sLt c b=false):sLt c a=false:=by
 have h1':a.cps.toList<=b.cps.toList:=of_decide_eq_false h1
 have h2':b.cps.toList<=c.cps.toList:=of_decide_eq_false h2
 exact decide_eq_false (List.le_trans h1' h2')
theorem sLt_eq{a b:Str}(h1:sLt a b=false)(h2:sLt b a=false):a=b:=by
 have h1':b.cps.toList<=a.cps.toList:=of_decide_eq_false h1
 have h2':a.cps.toList<=b.cps.toList:=of_decide_eq_false h2
 have e:=List.le_antisymm h2' h1'
 cases a;cases b
 simp only at e
 congr
 exact Array.ext' e
theorem sLt_irr(a:Str):sLt a a=false:=decide_eq_false (List.lt_irrefl _)
theorem rl_int(i j:Int)(r r':List PyData):rowLt (.int i::r) (.int j::r')=if i=j then rowLt r r' else decide (i<j):=by
 show(if (i==j)=true then rowLt r r' else decide (i<j))=_
 by_cases h:i=j
 .rw[if_pos h,if_pos (by rw[h];simp)]
 .rw[if_neg h,if_neg (by simpa using h)]
theorem rl_str(x y:Str)(r r':List PyData):rowLt (.str x::r) (.str y::r')=if x=y then rowLt r r' else sLt x y:=by
 show(if (x==y)=true then rowLt r r' else decide (x.cps.toList<y.cps.toList))=_
 by_cases h:x=y
 .rw[if_pos h,if_pos (by rw[h];simp)]
 .rw[if_neg h,if_neg (by simpa using h)]
  rfl
theorem rl_asy:∀{ks:List Bool} {xs ys:List PyData},Row ks xs->Row ks ys->rowLt xs ys=true->rowLt ys xs=false
 | [],xs,ys,h1,h2,h=>by
  cases (show xs=[]from h1);cases (show ys=[]from h2)
  rfl
 | true::ks,xs,ys,h1,h2,h=>by
  obtain⟨i,r,rfl,h1⟩:=h1
  obtain⟨j,r',rfl,h2⟩:=h2
  rw[rl_int]at h⊢
  by_cases e:i=j
  .rw[if_pos e]at h;rw[if_pos e.symm];exact rl_asy h1 h2 h
  .rw[if_neg e]at h;rw[if_neg (Ne.symm e)]
   have:=of_decide_eq_true h
   exact decide_eq_false (by omega)
 | false::ks,xs,ys,h1,h2,h=>by
  obtain⟨i,r,rfl,h1⟩:=h1
  obtain⟨j,r',rfl,h2⟩:=h2
  rw[rl_str]at h⊢
  by_cases e:i=j
  .rw[if_pos e]at h;rw[if_pos e.symm];exact rl_asy h1 h2 h
  .rw[if_neg e]at h;rw[if_neg (Ne.symm e)]
   exact sLt_asy h
theorem rl_tr:∀{ks:List Bool} {a b c:List PyData},Row ks a->Row ks b->Row ks c->rowLt b a=false->rowLt c b=false->rowLt c a=false
 | [],a,b,c,h1,h2,h3,h4,h5=>by
  cases (show a=[]from h1);cases (show c=[]from h3)
  rfl
 | true::ks,a,b,c,h1,h2,h3,h4,h5=>by
  obtain⟨i,r,rfl,h1⟩:=h1
  obtain⟨j,r',rfl,h2⟩:=h2
  obtain⟨k,r'',rfl,h3⟩:=h3
  rw[rl_int]at h4 h5⊢
  by_cases e1:j=i
  .rw[if_pos e1]at h4
   by_cases e2:k=j
   .rw[if_pos e2]at h5;rw[if_pos (e2.trans e1)];exact rl_tr h1 h2 h3 h4 h5
   .rw[if_neg e2]at h5;rw[if_neg (by omega)]
    have:=of_decide_eq_false h5
    exact decide_eq_false (by omega)
  .rw[if_neg e1]at h4
   have q1:=of_decide_eq_false h4
   by_cases e2:k=j
   .rw[if_neg (by omega)];exact decide_eq_false (by omega)
   .rw[if_neg e2]at h5
    have q2:=of_decide_eq_false h5
    rw[if_neg (by omega)];exact decide_eq_false (by omega)
 | false::ks,a,b,c,h1,h2,h3,h4,h5=>by
  obtain⟨i,r,rfl,h1⟩:=h1
  obtain⟨j,r',rfl,h2⟩:=h2
  obtain⟨k,r'',rfl,h3⟩:=h3
  rw[rl_str]at h4 h5⊢
  by_cases e1:j=i
  .rw[if_pos e1]at h4
   by_cases e2:k=j
   .rw[if_pos e2]at h5;rw[if_pos (e2.trans e1)];exact rl_tr h1 h2 h3 h4 h5
   .rw[if_neg e2]at h5;rw[if_neg (by rw[<-e1];exact e2),<-e1];exact h5
  .rw[if_neg e1]at h4
   by_cases e2:k=j
   .rw[if_neg (by rw[e2];exact e1),e2];exact h4
   .rw[if_neg e2]at h5
    by_cases e3:k=i
    .subst e3
     exact absurd (sLt_eq h5 h4) e2
    .rw[if_neg e3];exact sLt_tr h4 h5
theorem row_ord{ks0:List Bool}{ds:List PyData}(h:Rows ks0 ds):Ord (ltAtD ds):=by
 obtain⟨ks,hks,hk⟩:∃ks,ks=true::ks0/\ks≠[]:=⟨_,rfl,by simp⟩
 have at':∀i,rowOf (ds.getD i .none)=[]\/Row ks (rowOf (ds.getD i .none)):=λi=>by
  by_cases hi:i<ds.length
  .right
   have e:ds.getD i .none=ds[i]:=by simp[List.getD,hi]
   obtain⟨r,e2,hr⟩:=h ds[i] (df hi)
   rw[e,e2,hks]
   exact hr
  .left
   have e:ds.getD i .none=.none:=by simp[List.getD,io (Nat.le_of_not_lt hi)]
   rw[e];rfl
 have ne:∀{r:List PyData},Row ks r->∃x xs,r=x::xs:=λ{r} hr=>by
  match ks,hk,hr with
  | true::ks,_,⟨i,r,e,_⟩=>exact(x_EE _ _ e)
  | false::ks,_,⟨i,r,e,_⟩=>exact(x_EE _ _ e)
 refine⟨λa b hab=>?_,λa b c h1 h2=>?_⟩
 .show rowLt (rowOf (ds.getD b .none)) (rowOf (ds.getD a .none))=false
  have hab':rowLt (rowOf (ds.getD a .none)) (rowOf (ds.getD b .none))=true:=hab
  rcases at' a with ea|ea<;>rcases at' b with eb|eb
  .rw[ea,eb];rfl
  .obtain⟨x,xs,e⟩:=ne eb
   rw[ea,e];rfl
  .obtain⟨x,xs,e⟩:=ne ea
   rw[e,eb]at hab';cases hab'
  .exact rl_asy ea eb hab'
 .show rowLt (rowOf (ds.getD c .none)) (rowOf (ds.getD a .none))=false
  have h1':rowLt (rowOf (ds.getD b .none)) (rowOf (ds.getD a .none))=false:=h1
  have h2':rowLt (rowOf (ds.getD c .none)) (rowOf (ds.getD b .none))=false:=h2
  rcases at' a with ea|ea
  .rw[ea]
   rcases at' c with ec|ec
   .rw[ec];rfl
   .obtain⟨x,xs,e⟩:=ne ec
    rw[e];rfl
  .obtain⟨x,xs,e⟩:=ne ea
   rcases at' b with eb|eb
   .rw[eb,e]at h1';cases h1'
   .obtain⟨y,ys,e2⟩:=ne eb
    rcases at' c with ec|ec
    .rw[ec,e2]at h2';cases h2'
    .exact rl_tr ea eb ec h1' h2'
theorem rl_eq:∀{ks:List Bool} {a b:List PyData},Row ks a->Row ks b->rowLt a b=false->rowLt b a=false->a=b
 | [],a,b,h1,h2,_,_=>by
  cases (show a=[]from h1);cases (show b=[]from h2)
  rfl
 | true::ks,a,b,h1,h2,h3,h4=>by
  obtain⟨i,r,rfl,h1⟩:=h1
  obtain⟨j,r',rfl,h2⟩:=h2
  rw[rl_int]at h3 h4
  by_cases e:i=j
  .rw[if_pos e]at h3
   rw[if_pos e.symm]at h4
   rw[e,rl_eq h1 h2 h3 h4]
  .rw[if_neg e]at h3
   rw[if_neg (Ne.symm e)]at h4
   have:=of_decide_eq_false h3
   have:=of_decide_eq_false h4
   exact absurd (by omega) e
 | false::ks,a,b,h1,h2,h3,h4=>by
  obtain⟨i,r,rfl,h1⟩:=h1
  obtain⟨j,r',rfl,h2⟩:=h2
  rw[rl_str]at h3 h4
  by_cases e:i=j
  .rw[if_pos e]at h3
   rw[if_pos e.symm]at h4
   rw[e,rl_eq h1 h2 h3 h4]
  .rw[if_neg e]at h3
   rw[if_neg (Ne.symm e)]at h4
   exact absurd (sLt_eq h3 h4) e
theorem perm_uniq{α:Type}{R:α->α->Prop}:∀{xs ys:List α},xs.Perm ys->xs.Pairwise R->ys.Pairwise R->(∀x∈xs,∀y∈xs,R x y->R y x->x=y)->xs=ys
 | [],ys,p,_,_,_=>(List.Perm.nil_eq p).symm▸rfl
 | x::xs,[],p,_,_,_=>absurd p.length_eq (by simp)
 | x::xs,y::ys,p,hx,hy,ha=>by
  have hx':=fu.mp hx
  have hy':=fu.mp hy
  have m1:y∈x::xs:=p.mem_iff.mpr au
  have m2:x∈y::ys:=p.mem_iff.mp au
  have e:x=y:=by
   rcases ax.mp m1 with e|m
   .exact e.symm
   .rcases ax.mp m2 with e|m'
    .exact e
    .exact ha x au y m1 (hx'.1 y m) (hy'.1 x m')
  subst e
  rw[perm_uniq (List.Perm.cons_inv p) hx'.2 hy'.2 λa h1 b h2=>ha a (av _ h1) b (av _ h2)]
theorem map_range_getD(ds:List PyData):((cx ds.length).map λi=>ds.getD i .none)=ds:=by
 apply List.ext_getElem
 .simp
 .intro i h1 h2
  simp[List.getD,h2]
theorem o4(ds:List PyData):(sortD ds).Perm ds:=by
 have h:=(srt_perm (ltAtD ds) ds.length).map λi=>ds.getD i .none
 rw[map_range_getD]at h
 exact h
theorem sortD_up{ks:List Bool}{ds:List PyData}(h:Rows ks ds){i j:Nat}{x y:PyData}(hx:(sortD ds)[i]?=some x)(hy:(sortD ds)[j]?=some y)(hij:i<=j):rowLt (rowOf y) (rowOf x)=false:=by
 unfold sortD at hx hy
 rw[be]at hx hy
 have hj:j<(srt (ltAtD ds) ds.length).length:=by
  cases e:(srt (ltAtD ds) ds.length)[j]? with
  | none=>rw[e]at hy;cases hy
  | some k=>exact(ak.mp e).1
 have hi:i<(srt (ltAtD ds) ds.length).length:=by omega
 rw[ab hi]at hx
 rw[ab hj]at hy
 cases hx;cases hy
 have u:=srt_up (row_ord h) ds.length hij (by rw[srt_length]at hj;exact hj)
 have e1:(srt (ltAtD ds) ds.length).getD i 0=(srt (ltAtD ds) ds.length)[i]:=by simp[List.getD,hi]
 have e2:(srt (ltAtD ds) ds.length).getD j 0=(srt (ltAtD ds) ds.length)[j]:=by simp[List.getD,hj]
 rw[e1,e2]at u
 exact u
end L3
namespace L3
open PySem PySem.Spec PyProof.Rows
section
variable{prog:Program}{w:World}{A:Around}{R:Result->Shared->Prop}{I:Addr}{fp wr:List Addr}{n:Nat}{P:Nat->Value->Prop}{St:Nat->Heap->Prop}
theorem max_loopK(kw:List (Str×Value))(W:Walks prog w A.in1 I fp wr n P St)(bt:Nat->Nat->Bool)(hcmp:CmpOf prog w A.in1 .Gt P bt)(S:Addr)(hSf:S∉fp) :
  ∀(k j:Nat) (s:Shared) (vb:Value) (c:Nat),n-(j+1)=k->j+1<=n->St (j+1) s.heap->P (argBest bt j) vb->
  s.heap.get? S=some {cls:=.type "list",dict:=none,data:=.seq #[vb,vb] c,slots:=#[]}->
  (∀v h' tk,P (argBest bt (n-1)) v->(∀b o,b∉wr->b≠S->s.heap.get? b=some o->h'.get? b=some o)->R (.ok (.ret v)) {s with heap:=h',toks:=tk})->
  codeAny (model prog w) A (.builtin "max.loop" ⟨[.ref I,.none,.ref S],kw⟩) R s:=by
 have hSw:S∉wr:=λh=>hSf (W.sub _ h)
 have nm:(toString "max" ++ toString ".loop" : String)="max.loop":=by decide
 intro k
 induction k with
 | zero=>
  intro j s vb c hk hj hst hPb hS hR
  have hin:j+1=n:=by omega
  refine gf F.entry_max_loop ?_
  rw[fq jr _]
  show wpAny _ A.in1 (seqItems? (.ref S) >>= _) _ _ s
  refine aa (iy hS rfl ?_)
  show wpAny _ A.in1 (tryCatch (pyNext (.ref I)) _ >>= _) _ _ s
  refine aa (wpAny_tryCatch (W.done s _ _ (hin▸hst) λh' tk hk'=>?_))
  have hS':=hk' S _ hSw hS
  show wpAny _ A.in1 (updateSeq S (λ_=>#[]) >>= _) _ _ _
  refine aa (wpAny_updateSeq hS' rfl (aa (wpAny_letGo (af ?_))))
  exact hR vb _ tk (by rw[<-hin];exact hPb) λb o hbw hbS e=>(cr _ _ (Ne.symm hbS)).trans (hk' b o hbw e)
 | succ k ih=>
  intro j s vb c hk hj hst hPb hS hR
  have hlt:j+1<n:=by omega
  refine gf F.entry_max_loop ?_
  rw[fq jr _]
  show wpAny _ A.in1 (seqItems? (.ref S) >>= _) _ _ s
  refine aa (iy hS rfl ?_)
  show wpAny _ A.in1 (tryCatch (pyNext (.ref I)) _ >>= _) _ _ s
  refine aa (wpAny_tryCatch (W.item (j+1) s _ _ hlt hst λv h' tk hP hst' hk'=>?_))
  have hS':=hk' S _ hSw hS
  show wpAny _ A.in1 (tryCatch (holding [v,v] (richCompare .Gt v vb >>= _)) _ >>= _) _ _ _
  refine aa (wpAny_tryCatch (ei (aa (hcmp (j+1) (argBest bt j) v vb _ _ _ hP hPb ?_))))
  refine aa (ei (f8 ?_))
  refine aa (wpAny_letGo (af ?_))
  cases hb:bt (j+1) (argBest bt j)with
  | true=>
   simp only[if_true]
   refine aa (wpAny_updateSeq hS' rfl (aa (wpAny_letGo ?_)))
   rw[nm]
   refine af ⟨jo jr _,ih (j+1) _ v _ (by omega) hlt (W.frame _ _ _ hst' λb hbf o e=>?_) (by simp only[argBest,hb,if_true];exact hP) (ce _ hS' rfl) λv' h'' tk'' hP' hk''=>?_⟩
   .exact(cr _ _ (λh:S=b=>hSf (by rw[h];exact hbf))).trans e
   .exact hR v' h'' tk'' hP' λb o hbw hbS e=>hk'' b o hbw hbS ((cr _ _ (Ne.symm hbS)).trans (hk' b o hbw e))
  | false=>
   simp only[a8,if_false]
   refine aa (wpAny_letGo ?_)
   rw[nm]
   refine af ⟨jo jr _,ih (j+1) _ vb c (by omega) hlt hst' (by simp only[argBest,hb,a8,if_false];exact hPb) hS' λv' h'' tk'' hP' hk''=>?_⟩
   exact hR v' h'' tk'' hP' λb o hbw hbS e=>hk'' b o hbw hbS (hk' b o hbw e)
theorem max_firstK(kw:List (Str×Value))(W:Walks prog w A.in1 I fp wr n P St)(bt:Nat->Nat->Bool)(hcmp:CmpOf prog w A.in1 .Gt P bt)(S:Addr)(hSf:S∉fp)(hn:0<n){s:Shared}{c:Nat}(hst:St 0 s.heap)
  (hS:s.heap.get? S=some {cls:=.type "list",dict:=none,data:=.seq #[] c,slots:=#[]})
  (hR:∀v h' tk,P (argBest bt (n-1)) v->(∀b o,b∉wr->b≠S->s.heap.get? b=some o->h'.get? b=some o)->R (.ok (.ret v)) {s with heap:=h',toks:=tk}) :
  codeAny (model prog w) A (.builtin "max.loop" ⟨[.ref I,.none,.ref S],kw⟩) R s:=by
 have hSw:S∉wr:=λh=>hSf (W.sub _ h)
 have nm:(toString "max" ++ toString ".loop" : String)="max.loop":=by decide
 refine gf F.entry_max_loop ?_
 rw[fq jr _]
 show wpAny _ A.in1 (seqItems? (.ref S) >>= _) _ _ s
 refine aa (iy hS rfl ?_)
 show wpAny _ A.in1 (tryCatch (pyNext (.ref I)) _ >>= _) _ _ s
 refine aa (wpAny_tryCatch (W.item 0 s _ _ hn hst λv h' tk hP hst' hk'=>?_))
 have hS':=hk' S _ hSw hS
 show wpAny _ A.in1 (updateSeq S (λ_=>#[v,v]) >>= _) _ _ _
 refine aa (wpAny_updateSeq hS' rfl ?_)
 rw[nm]
 refine af ⟨jo jr _,max_loopK kw W bt hcmp S hSf _ 0 _ v _ rfl hn (W.frame _ _ _ hst' λb hbf o e=>?_) hP (ce _ hS' rfl) λv' h'' tk'' hP' hk''=>?_⟩
 .exact(cr _ _ (λh:S=b=>hSf (by rw[h];exact hbf))).trans e
 .exact hR v' h'' tk'' hP' λb o hbw hbS e=>hk'' b o hbw hbS ((cr _ _ (Ne.symm hbS)).trans (hk' b o hbw e))
end
section
variable{prog:Program}{w:World}{A:Around}{E:Value->Shared->Prop}{s:Shared}
theorem call_max_kw{x d:Value}{Q:Value->Shared->Prop}
  (h:wpAny (model prog w) A.in1 (pyIter x) (λit s₂=>∃I fp wr n P St bt,it=.ref I/\Walks prog w A.in1 I fp wr n P St/\St 0 s₂.heap/\(∀b∈fp,b<s₂.heap.objs.size)/\0<n/\CmpOf prog w A.in1 .Gt P bt/\
   ∀v h' tk,P (argBest bt (n-1)) v->(∀b o,b∉wr->s₂.heap.get? b=some o->h'.get? b=some o)->Q v {s₂ with heap:=h',toks:=tk}) E s) :
  wpAny (model prog w) A (call (.builtin "max") [x] [(bq "default",d)]) Q E s:=by
 have nm:(toString "max" ++ toString ".loop" : String)="max.loop":=by decide
 refine wpAny_call (codeAny_call_builtin F.plain_max F.entry_max ?_)
 simp only[checkBuiltinCall,F.kind_max]
 have go:wpAny (model prog w) A.in1 (Builtin.«max» ⟨[x],[(bq "default",d)]⟩) (λfin s'=>match fin with
   | .done f=>(match (Except.ok f:Result)with|.ok (.ret v)=>Q v s'|.ok _=>False|.error e=>E e s')
   | .again c'=>c'.quiet=true/\codeAny (model prog w) A c' (λr s'=>match r with|.ok (.ret v)=>Q v s'|.ok _=>False|.error e=>E e s') s') E s:=by
  show wpAny _ A.in1 (Builtin.Builtins.bindParams "max" ["key","default"] 0 ⟨[],[(bq "default",d)]⟩ >>= _) _ _ s
  refine aa (wpAny_of_eq (show Builtin.Builtins.bindParams "max" ["key","default"] 0 ⟨[],[(bq "default",d)]⟩=pure [none,some d]from rfl) ?_)
  refine aa (af ?_)
  refine aa (jg h (λit s₂ h₂=>?_) λ_ _ e=>e)
  obtain⟨I,fp,wr,n,P,St,bt,rfl,W,hst,hfp,hn,hcmp,hQ⟩:=h₂
  refine aa (cp ?_)
  have hSf:s₂.heap.objs.size∉fp:=λhm=>iw _ (hfp _ hm)
  rw[nm]
  refine af ⟨jo jr _,max_firstK _ W bt hcmp s₂.heap.objs.size hSf hn (W.frame _ _ _ hst λb _ o e=>ai _ e) (ay _ rfl) λv h' tk hP hk=>?_⟩
  exact hQ v h' tk hP λb o hbw e=>hk b o hbw (cc (a9 e)) (ai _ e)
 cases hsig:Manifest.signature? "max" with
 | none=>exact af go
 | some sig=>
  have ha':Bind.checkArgs "max" sig ⟨[x],[(bq "default",d)]⟩=pure ():=by
   have:=args_maxD x d
   simpa only [argsOk,hsig]using this
  simp only[ha']
  exact af go
theorem max_listK{l:Addr}{d:Value}{vs:List Value}{ns:List Int}{Q:Value->Shared->Prop}(hh:A.handled=none)(hl:s.heap.IsList l vs.toArray)(hi:IntsAre vs ns)(hne:0<ns.length)
  (h:∀h' M (t:Tok) tk,(∀b o,s.heap.get? b=some o->h'.get? b=some o)->M∈ns->(∀a,a∈ns->a<=M)->Q (.int M t) {s with heap:=h',toks:=tk}) :
  wpAny (model prog w) A (call (.builtin "max") [.ref l] [(bq "default",d)]) Q E s:=by
 obtain⟨xs,e⟩:=hi.allInts.items
 have hns:ns=xs.toList.map (·.1):=by rw[<-hi.numsOf,<-nums_intItems,<-e]
 have hsz:0<xs.size:=by
  have h3:=hne;rw[hns,aj,aw]at h3;exact h3
 rw[e]at hl
 refine call_max_kw (iter_intList hl λs₂ e st hfp hlI=>?_)
 subst e
 refine(lg _ _ _ _ _ (x_EE _ _ ⟨rfl,Walks.list (A:=A.in1) hh _ l hlI (intItems xs),st,hfp,by simpa [intItems]using hsz,CmpOf.ints_gt (numAt xs) (λ_ _=>intItems_at),λv h' tk hP hk=>?_⟩))
 have hv:(intItems xs)[argBest (λi j=>decide (numAt xs i>numAt xs j)) (xs.size-1)]?=some v:=by simpa [intItems]using hP
 obtain⟨t,rfl⟩:=intItems_at hv
 obtain⟨h1,h2⟩:=argBest_gt (numAt xs) (xs.size-1)
 refine h _ _ t tk (old_kept hk) ?_ λa ha=>?_
 .rw[hns,numAt_eq];exact getD_mem (by rw[aj,aw];omega)
 .rw[hns]at ha
  obtain⟨j,hj,rfl⟩:=mem_getD ha
  rw[aj,aw]at hj
  rw[<-numAt_eq];exact h2 j (by omega)
end
end L3
namespace L3
end L3
namespace L3
open PySem PySem.Spec PyProof.Rows L2
section
variable{X:Cx}{x:Str}{p pos kpos:Pos}{e e2:Expr}{es:List Expr}{t tk:TA}{te:TE}
noncomputable def rMax:List V->Hp->VK->Prop:=λxs H Q=>∃q,∃ns:List Int,xs=[.ref q]/\H q=some (.lst (ns.map V.int))/\0<ns.length/\∀M,M∈ns->(∀a∈ns,a<=M)->Q (.int M) H
noncomputable def tMaxD(t tk:TA):TE:=λσ H Q=>t σ H λvs H1=>tk σ H1 λzs H2=>zs.length=1/\rMax vs H2 Q
theorem pe_maxD(hc:X.calm=true)(hg:Gl X "max")(hm:X.mg "max" = none)(ha:PA X [e] t)(hkw:PK X [⟨some "default",e2,kpos⟩] tk)
  (he:backTo pos (starEach [e] X.env)=(false,eval e X.env)::backTo pos (starEach [] X.env):=by rfl) (hpl:(backTo pos (starEach [e] X.env)).any (·.1)=false:=by rfl) :
  PE X (.Call (.Name "max" p) [e] [⟨some "default",e2,kpos⟩] pos) (tMaxD t tk):=by
 intro pins s σ H Q I h
 refine ip (ld_blt I hg hm boot_max ?_ (by decide) (by decide))
 refine callWith_kw (thn (ha pos pins s σ H _ I h) λus s1 ⟨vs,H1,I1,r,q⟩=>thn (hkw pos pins s1 σ H1 _ I1 q) λws s2 ⟨zs,H2,I2,rz,hz1,q2⟩=>?_) he hpl
 obtain⟨d,rfl⟩:∃d,ws=[d]:=by
  have hl:ws.length=1:=rz.length.symm.trans hz1
  match ws,hl with
  | [d],_=>exact⟨d,rfl⟩
 obtain⟨l,ns,rfl,hq,hn,hQ⟩:=q2
 obtain⟨u,rfl,r1⟩:=vals1 r
 cases (show u=Value.ref l from r1)
 obtain⟨its,rv,pl,hz⟩:=I2.list (SqL.of (K:=X.K) hq)
 exact max_listK (I2.ok.hd hc) pl.isList (intsAre_of rv) hn λh' M t tk k h1 h2=>(x_EE (.int M) H2 ⟨I2.kept k,⟨_,rfl⟩,hQ M h1 h2⟩)
end
noncomputable def maxI:List Int->Int
 | []=>0
 | [a]=>a
 | a::b::r=>if maxI (b::r)<=a then a else maxI (b::r)
theorem maxI_mem:∀{ns:List Int},0<ns.length->maxI ns∈ns
 | [],h=>by simp at h
 | [a],_=>by simp[maxI]
 | a::b::r,_=>by
  unfold maxI
  split
  .exact au
  .exact av _ (maxI_mem (by simp))
theorem le_maxI:∀{ns:List Int},∀a∈ns,a<=maxI ns
 | [],a,h=>by cases h
 | [a],b,h=>by
  have e:b=a:=by simpa using h
  rw[e];exact iz _
 | a::b::r,x,h=>by
  unfold maxI
  rcases ax.mp h with e|h
  .rw[e]
   split
   .exact iz _
   .omega
  .have:=le_maxI (ns:=b::r) x h
   split
   .omega
   .exact this
theorem maxI_eq{ns:List Int}{M:Int}(h1:M∈ns)(h2:∀a∈ns,a<=M):M=maxI ns:=by
 have hp:0<ns.length:=List.length_pos_of_mem h1
 have a1:=h2 _ (maxI_mem hp)
 have a2:=le_maxI M h1
 omega
noncomputable def mir1(m:Int):PyData->PyData
 | .tuple [.int r,.int c,.str x]=>.tuple [.int r,.int (m-c),.str x]
 | d=>d
noncomputable def tur1(m:Int):PyData->PyData
 | .tuple [.int r,.int c,.str x]=>.tuple [.int c,.int (m-r),.str x]
 | d=>d
noncomputable def mirD(ds:List PyData):List PyData:=ds.map (mir1 (maxI (ds.map col1)))
noncomputable def turD(ds:List PyData):List PyData:=ds.map (tur1 (maxI (ds.map row1)))
noncomputable def spotsD(t:Nat)(ds:List PyData):List PyData:=(cx (t % 4)).foldl (λa _=>turD a) (if 4<=t then mirD ds else ds)
theorem mir_spots{ds:List PyData}(h:Spots ds)(m:Int):Spots (ds.map (mir1 m)):=λd hd=>by
 obtain⟨e,he,rfl⟩:=bi.mp hd
 obtain⟨r,c,x,rfl⟩:=h e he
 exact(x_EEE _ _ _ rfl)
theorem tur_spots{ds:List PyData}(h:Spots ds)(m:Int):Spots (ds.map (tur1 m)):=λd hd=>by
 obtain⟨e,he,rfl⟩:=bi.mp hd
 obtain⟨r,c,x,rfl⟩:=h e he
 exact(x_EEE _ _ _ rfl)
theorem spots_rows{ds:List PyData}(h:Spots ds):Rows [true,false] ds:=λd hd=>by
 obtain⟨r,c,x,rfl⟩:=h d hd
 exact(o5 _ rfl _ _ ⟨rfl,(x_EE _ _ ⟨rfl,(x_EE _ _ ⟨rfl,rfl⟩)⟩)⟩)
section
variable{K:aq}{a:Addr}{xs:List V}{ds:List PyData}{σ:L2.St}{H:Hp}{Q:VK}
theorem read_projI{i0:Nat}(j:Int)(pr:PyData->Int)(hj:∀(r c:Int) (x:Str),atI [V.int r,.int c,.str x] j=some (.int (pr (.tuple [.int r,.int c,.str x]))))
  (hσ:σ[i0]?=some (some (.ref a))) (ha:H a=some (.lst xs)) (hr:RepAll H ds xs) (hs:Spots ds) (hl:ds.length<=64)
  (q:∀D H',Same H H'->H' D=some (.lst ((ds.map pr).map V.int))->Q (.ref D) H') :
  tComp (iList K (tVar i0)) [none] (gName 0) tYes (tOp (rIxT K) (tVar 0) (tC (.int j))) σ H Q:=by
 have hlen:=hr.length
 refine(x_EAE _ hσ a ⟨rfl,⟨_,SqL.of ha⟩,λD hD=>?_⟩)
 refine lr (xs:=xs) (λi ys H'=>Same H H'/\ys=((ds.take i).map pr).map V.int) ⟨Same.fresh _ hD,rfl⟩ (λi ys H' p=>SqL.of (p.1 _ _ ha)) (λi x ys H' hx hi hDy hyl p=>?_) (λys H' hDy hyl p=>?_)
 .obtain⟨p1,rfl⟩:=p
  obtain⟨b,r,c,z,rfl,hb,hz,hd⟩:=hs.at hr hx
  refine⟨Agree.set (Agree.refl _) rfl,?_⟩
  dsimp only[tYes]
  refine iteT ?_
  refine(x_EAEEEE _ rfl b _ _ _ ⟨rfl,rfl,SqT.of (p1 _ _ hb),hj r c z,nk (by omega) hDy hyl ⟨p1.new hD,?_⟩⟩)
  rw[k8 pr hd,cm]
  rfl
 .obtain⟨p1,rfl⟩:=p
  refine q D H' p1 ?_
  rw[hDy,a7 (by omega)]
theorem row_at(r c:Int)(x:Str):atI [V.int r,.int c,.str x] 0=some (.int (row1 (.tuple [.int r,.int c,.str x]))):=rfl
theorem col_at(r c:Int)(x:Str):atI [V.int r,.int c,.str x] 1=some (.int (col1 (.tuple [.int r,.int c,.str x]))):=rfl
theorem read_each{m:Int}{i0 j:Nat}{ta tb:TE}(f:Int->PyData->PyData)(hσ:σ[i0]?=some (some (.ref a)))(h1:σ[j]?=some (some (.int m)))(ha:H a=some (.lst xs))(hr:RepAll H ds xs)(hs:Spots ds)(hl:ds.length<=64)
  (hread:∀(r c:Int) (z:Str) (H':Hp) (Q':VK),(∃u v:Int,f m (.tuple [.int r,.int c,.str z])=.tuple [.int u,.int v,.str z]/\∀n,H' n=none->Q' (.ref n) (upd H' n (.tup [.int u,.int v,.str z])))->
   tTup (tCons ta (tCons tb (tCons (tVar 2) tNil))) [some (.int r),some (.int c),some (.str z),some (.int m)] H' Q')
  (q:∀D ys H',H D=none->Same H H'->H' D=some (.lst ys)->RepAll H' (ds.map (f m)) ys->Q (.ref D) H')
  (hsp:∀(r c:Int) (z:Str),∃u v:Int,f m (.tuple [.int r,.int c,.str z])=.tuple [.int u,.int v,.str z]) :
  tComp (iList K (tVar i0)) [none,none,none,some j] (gTup K 3 (gCons (gName 0) (gCons (gName 1) (gCons (gName 2) gNil)))) tYes (tTup (tCons ta (tCons tb (tCons (tVar 2) tNil)))) σ H Q:=by
 have hlen:=hr.length
 refine(x_EAE _ hσ a ⟨rfl,⟨_,SqL.of ha⟩,λD hD=>?_⟩)
 have hp:picks [none,none,none,some j] σ=[none,none,none,some (.int m)]:=by
  unfold picks
  simp[h1]
 have im:∀es:List PyData,(∀d∈es,d∈ds)->Spots (es.map (f m)):=λes he d hd=>by
  obtain⟨d0,h0,rfl⟩:=bi.mp hd
  obtain⟨r0,c0,x0,rfl⟩:=hs d0 (he d0 h0)
  obtain⟨u,v,e⟩:=hsp r0 c0 x0
  exact(x_EEE u v x0 e)
 refine lr (xs:=xs) (λi ys H'=>Same H H'/\RepAll H' ((ds.take i).map (f m)) ys) ⟨Same.fresh _ hD,rfl⟩ (λi ys H' p=>SqL.of (p.1 _ _ ha)) (λi x ys H' hx hi hDy hyl p=>?_) (λys H' hDy hyl p=>?_)
 .obtain⟨p1,p2⟩:=p
  obtain⟨b,r,c,z,rfl,hb,hz,hd⟩:=hs.at hr hx
  rw[hp]
  refine(x_EEAAAEEAE b _ rfl (SqT.of (p1 _ _ hb)) rfl _ _ rfl _ (o5 _ rfl _ _ ⟨rfl,rfl,?_⟩))
  refine⟨Agree.set (Agree.set (Agree.set (Agree.refl _) rfl) rfl) rfl,?_⟩
  dsimp only[tYes]
  refine iteT ?_
  obtain⟨u,v,ef⟩:=hsp r c z
  refine hread r c z H' _ (x_EE u v ⟨ef,λn hn=>?_⟩)
  have s2:Same H' (upd H' n (.tup [.int u,.int v,.str z])):=Same.fresh _ hn
  have n2:upd H' n (.tup [.int u,.int v,.str z]) n=some (.tup [.int u,.int v,.str z]):=kh
  generalize upd H' n (.tup [.int u,.int v,.str z])=H2 at *
  have hD2:=s2 _ _ hDy
  refine nk (by omega) hD2 hyl ⟨(p1.trans s2).new hD,?_⟩
  have rep:RepAll H2 ((ds.take i).map (f m)++[f m (.tuple [.int r,.int c,.str z])]) (ys++[.ref n]):=by
   rw[ef]
   exact(p2.same s2).snoc (spot_rep n2 hz)
  rw[<-k8 (f m) hd]at rep
  exact rep.tk (Tk.lst hD2) (Spots.imm (im _ λd hd'=>dq hd'))
 .obtain⟨p1,p2⟩:=p
  rw[a7 (by omega)]at p2
  exact q D ys H' hD p1 hDy p2
end
noncomputable def iSeq(K:aq)(tl:TE):TI:=λσ H R=>tl σ H λx H1=>∃a,x=.ref a/\(((∃xs,SqL K H1 a xs)/\R (Itl K a) H1)\/((∃xs,SqT K H1 a xs)/\R (Itt K a) H1))
section
variable{X:Cx}{tg:Expr}
theorem pi_seq{l:Expr}{tl:TE}(hl:PE X l tl):PI X tg l (iSeq X.K tl):=by
 intro pins s σ H R I h
 refine thn (hl pins s σ H _ I h) λv s1 ⟨x,H1,I1,r1,q1⟩=>?_
 obtain⟨a,e,⟨⟨xs,hq⟩,q⟩|⟨⟨xs,hq⟩,q⟩⟩:=q1
 .subst e
  cases r1
  obtain⟨its,rv,p,hz⟩:=I1.list hq
  refine wpAny_pyIter_list p.isList ?_
  refine(lg s1.heap.objs.size ([s1.heap.objs.size]) _ _ H1 ⟨rfl,I1.kept (t':=s1.toks) λb o e=>ai _ e,turn_list a _,⟨_,ay _ rfl,rfl,rfl⟩,λb hb=>?_,q⟩)
  have e:b=s1.heap.objs.size:=by simpa using hb
  subst e
  exact I1.fpOk (ao _) (I1.hok.fresh (ao _))
 .subst e
  cases r1
  obtain⟨its,rv,p,hz⟩:=I1.tuple hq
  refine ja (show s1.heap.IsTuple a its.toArray from p) ?_
  refine(lg s1.heap.objs.size ([s1.heap.objs.size]) _ _ H1 ⟨rfl,I1.kept (t':=s1.toks) λb o e=>ai _ e,turn_tuple a _,⟨_,ay _ rfl,rfl,rfl⟩,λb hb=>?_,q⟩)
  have e:b=s1.heap.objs.size:=by simpa using hb
  subst e
  exact I1.fpOk (ao _) (I1.hok.fresh (ao _))
end
section
variable{K:aq}{a:Addr}{xs:List V}{ds:List PyData}{σ:L2.St}{H:Hp}{Q:VK}{sl:List (Option Nat)}{g:TG}{tt:L2.TT}{te:TE}
theorem comp_seq(ha:H a=some (.lst xs)\/H a=some (.tup xs))(Pv:Addr->Nat->List V->Hp->Prop)(h0:∀D,H D=none->Pv D 0 [] (upd H D (.lst [])))(hk:∀D i ys G,Pv D i ys G->Same H G)
  (hs:∀D i x ys G,H D=none->xs[i]?=some x->i<xs.length->G D=some (.lst ys)->ys.length<=i->Pv D i ys G->g x (picks sl σ) G λσ2 H2=>Agree (picks sl σ) σ2/\tt σ2 H2 λb H3=>
   if b=true then te σ2 H3 λy H4=>∃xs,H4 D=some (.lst xs)/\xs.length<sizeLine/\Nx D i (Pv D) (upd H4 D (.lst (xs++[y])))else Nx D i (Pv D) H3)
  (hd:∀D ys G,H D=none->G D=some (.lst ys)->ys.length<=xs.length->Pv D xs.length ys G->Q (.ref D) G) :
  ((∃xs,SqL K H a xs)/\∀D,H D=none->CompR (Itl K a) sl g tt te σ H D Q)\/((∃xs,SqT K H a xs)/\∀D,H D=none->CompR (Itt K a) sl g tt te σ H D Q):=by
 rcases ha with ha|ha
 .exact .inl ⟨⟨_,SqL.of ha⟩,λD hD=>lr (xs:=xs) (Pv D) (h0 D hD) (λi ys G p=>SqL.of (hk D i ys G p _ _ ha)) (λi x ys G=>hs D i x ys G hD) λys G=>hd D ys G hD⟩
 .exact .inr ⟨⟨_,SqT.of ha⟩,λD hD=>comp_tup (xs:=xs) (Pv D) (h0 D hD) (λi ys G p=>SqT.of (hk D i ys G p _ _ ha)) (λi x ys G=>hs D i x ys G hD) λys G=>hd D ys G hD⟩
theorem read_spotT{i0:Nat}{rest:L2.St}(f:PyData->PyData)(hσ:σ[i0]?=some (some (.ref a)))(hp:picks sl σ=none::none::none::rest)(ha:H a=some (.lst xs)\/H a=some (.tup xs))(hr:RepAll H ds xs)(hs:Spots ds)(hl:ds.length<=64)
  (hread:∀(r c:Int) (z:Str) (H':Hp) (Q':VK),(∃u v:Int,f (.tuple [.int r,.int c,.str z])=.tuple [.int u,.int v,.str z]/\∀n,H' n=none->Q' (.ref n) (upd H' n (.tup [.int u,.int v,.str z])))->
   te (some (.int r)::some (.int c)::some (.str z)::rest) H' Q')
  (hsp:∀(r c:Int) (z:Str),∃u v:Int,f (.tuple [.int r,.int c,.str z])=.tuple [.int u,.int v,.str z])
  (q:∀D ys H',H D=none->Same H H'->H' D=some (.lst ys)->RepAll H' (ds.map f) ys->Q (.ref D) H') :
  tComp (iSeq K (tVar i0)) sl (gTup K 3 (gCons (gName 0) (gCons (gName 1) (gCons (gName 2) gNil)))) tYes te σ H Q:=by
 have hlen:=hr.length
 have im:∀es:List PyData,(∀d∈es,d∈ds)->Spots (es.map f):=λes he d hd=>by
  obtain⟨d0,h0,rfl⟩:=bi.mp hd
  obtain⟨r0,c0,x0,rfl⟩:=hs d0 (he d0 h0)
  obtain⟨u,v,e⟩:=hsp r0 c0 x0
  exact(x_EEE u v x0 e)
 refine(x_EAE _ hσ a ⟨rfl,comp_seq ha (λD i ys H'=>Same H H'/\RepAll H' ((ds.take i).map f) ys) (λD hD=>⟨Same.fresh _ hD,rfl⟩) (λD i ys H' p=>p.1) (λD i x ys H' hD hx hi hDy hyl p=>?_) (λD ys H' hD hDy hyl p=>?_)⟩)
 .obtain⟨p1,p2⟩:=p
  obtain⟨b,r,c,z,rfl,hb,hz,hd⟩:=hs.at hr hx
  rw[hp]
  refine(x_EEAAAEEAE b _ rfl (SqT.of (p1 _ _ hb)) rfl _ _ rfl _ (o5 _ rfl _ _ ⟨rfl,rfl,?_⟩))
  refine⟨Agree.set (Agree.set (Agree.set (Agree.refl _) rfl) rfl) rfl,?_⟩
  dsimp only[tYes]
  refine iteT ?_
  obtain⟨u,v,ef⟩:=hsp r c z
  refine hread r c z H' _ (x_EE u v ⟨ef,λn hn=>?_⟩)
  have s2:Same H' (upd H' n (.tup [.int u,.int v,.str z])):=Same.fresh _ hn
  have n2:upd H' n (.tup [.int u,.int v,.str z]) n=some (.tup [.int u,.int v,.str z]):=kh
  generalize upd H' n (.tup [.int u,.int v,.str z])=H2 at *
  have hD2:=s2 _ _ hDy
  refine nk (by omega) hD2 hyl ⟨(p1.trans s2).new hD,?_⟩
  have rep:RepAll H2 ((ds.take i).map f++[f (.tuple [.int r,.int c,.str z])]) (ys++[.ref n]):=by
   rw[ef]
   exact(p2.same s2).snoc (spot_rep n2 hz)
  rw[<-k8 f hd]at rep
  exact rep.tk (Tk.lst hD2) (Spots.imm (im _ λd hd'=>dq hd'))
 .obtain⟨p1,p2⟩:=p
  rw[a7 (by omega)]at p2
  exact q D ys H' hD p1 hDy p2
end
section
variable{X:Cx}{x:Str}{pos:Pos}
theorem pe_globS{z:Str}(h:∃t,X.mg x=some (.str z t))(hg:Gl X x)(hd:(x==("__debug__" : Str))=false:=by decide):PE X (.Name x pos) (tC (.str z)):=by
 obtain⟨t,h⟩:=h
 exact pe_glob hg h ⟨t,rfl⟩ hd
end
section
variable{X:Cx}
theorem op_le_str:OpR X (compareOp .LtE) (λx y H Q=>∃i j,x=.str i/\y=.str j/\Q (.bl (!decide (j.cps.toList<i.cps.toList))) H):=by
 intro pins s σ H x y v u Q I rx ry h
 obtain⟨i,j,rfl,rfl,q⟩:=h
 obtain⟨t,rfl⟩:=rx
 obtain⟨t',rfl⟩:=ry
 exact PySem.P.le_str (x_EE (.bl _) H ⟨I,rfl,q⟩)
theorem fold_len(x:Array Nat):∀(k:Nat) (acc:Array Nat),((List.replicate k x).foldl (· ++ ·) acc).size=acc.size+k*x.size
 | 0,acc=>by simp
 | k+1,acc=>by
  rw[List.replicate_succ,List.foldl_cons,fold_len x k]
  simp only[Array.size_append]
  rw[Nat.add_mul]
  omega
theorem fold_mem(x:Array Nat):∀(k:Nat) (acc:Array Nat) (c:Nat),c∈((List.replicate k x).foldl (· ++ ·) acc).toList->c∈acc.toList\/c∈x.toList
 | 0,acc,c,h=>.inl (by simpa using h)
 | k+1,acc,c,h=>by
  rw[List.replicate_succ,List.foldl_cons]at h
  rcases fold_mem x k _ c h with h|h
  .simpa using h
  .exact .inr h
noncomputable def rMulS:R2:=λx y H Q=>∃(z:Str) (n:Int),x=.str z/\y=.int n/\0<=n/\n<=1000/\z.length<=1000/\∀w:Str,w.length=z.length*n.toNat->(∀c∈w.cps.toList,c∈z.cps.toList)->Q (.str w) H
theorem op_mulS:OpR X (binaryOp .Mult) rMulS:=by
 intro pins s σ H x y v u Q I rx ry h
 obtain⟨z,n,rfl,rfl,h0,h1,hz,q⟩:=h
 obtain⟨t,rfl⟩:=rx
 obtain⟨t',rfl⟩:=ry
 have hprod:z.length*n.toNat<=1000000:=by
  have a1:n.toNat<=1000:=by omega
  calc z.length*n.toNat<=1000*1000:=Nat.mul_le_mul hz a1
   _=1000000:=rfl
 refine PySem.P.mul_str (by rw[decide_eq_false (by omega),decide_eq_false (by omega)];rfl) (λh2 _=>?_) (λ_ _=>?_) ?_
 .have h3:(1:Int)<=n:=by omega
  have h4:((2:Int)^63-1)/n>=(2^63-1)/1000:=by
   refine(Int.le_ediv_iff_mul_le (by omega)).mpr ?_
   calc ((2:Int)^63-1)/1000*n<=((2:Int)^63-1)/1000*1000:=Int.mul_le_mul_of_nonneg_left h1 (by decide)
    _<=2^63-1:=by decide
  have h5:((2:Int)^63-1)/1000>=1000:=by decide
  omega
 .unfold PySem.Builtin.Str.tooLong
  rw[gi]
  exact decide_eq_false (by omega)
 .by_cases hn:n<1
  .rw[if_pos hn]
   have e:n=0:=by omega
   subst e
   exact⟨by decide,(x_EE (.str Str.empty) H ⟨I.tok _,⟨_,rfl⟩,q _ (by simp[Str.empty,Str.length]) (by simp[Str.empty])⟩)⟩
  .rw[if_neg hn]
   by_cases hc:(n==1||z.length==0)=true
   .rw[if_pos hc]
    refine(x_EE (.str z) H ⟨I,⟨_,rfl⟩,q _ ?_ λc hc=>hc⟩)
    simp only[j5,beq_iff_eq]at hc
    rcases hc with e|e
    .rw[e];simp
    .rw[e];simp
   .rw[if_neg hc]
    have e:(⟨(List.replicate n.toNat z.cps).foldl (· ++ ·) #[]⟩:Str).length=z.length*n.toNat:=by
     show((List.replicate n.toNat z.cps).foldl (· ++ ·) #[]).size=_
     rw[fold_len,Nat.mul_comm]
     simp[Str.length]
    refine⟨by rw[e,gi];omega,(x_EE (.str _) H ⟨I.tok _,⟨_,rfl⟩,q _ e λc hc=>?_⟩)⟩
    rcases fold_mem z.cps n.toNat #[] c (by simpa using hc)with h|h
    .simp at h
    .exact h
theorem strs_of:∀{ys:List Str} {us:List Value},Vals (ys.map V.str) us->StrsAre us ys
 | [],us,h=>by cases h;exact .nil
 | y::ys,us,h=>by
  cases h with
  | cons r t=>
   obtain⟨k,e⟩:=(show ∃t,_=Value.str y t from r)
   subst e
   exact .cons y k (strs_of t)
noncomputable def rJoin:V->List V->Hp->VK->Prop:=λx vs H Q=>∃(z:Str) (l:Addr) (ys:List Str),x=.str z/\vs=[.ref l]/\H l=some (.lst (ys.map V.str))/\(ys.map (·.length)).sum+ys.length*z.length<=1000000/\Q (.str (Txt.join z ys)) H
theorem mt_join:MtR X "str.join" rJoin:=by
 intro pins s σ H x vs v us Q I rx rv h
 obtain⟨z,l,ys,rfl,rfl,hl,hz,q⟩:=h
 obtain⟨t,rfl⟩:=rx
 obtain⟨u,rfl,r1⟩:=vals1 rv
 cases (show u=Value.ref l from r1)
 obtain⟨its,r,pl,_⟩:=I.list (SqL.of (K:=X.K) hl)
 exact join_list pl.isList (by simpa using strs_of r) (by omega) λt' k=>(x_EE (.str _) H ⟨I.tok _,⟨_,rfl⟩,q⟩)
noncomputable def rAll:List V->Hp->VK->Prop:=λxs H Q=>∃(p:Addr) (bs:List Bool),xs=[.ref p]/\H p=some (.lst (bs.map V.bl))/\Q (.bl (bs.all id)) H
theorem range_all:∀(bs:List Bool),((cx bs.length).all λi=>(bs[i]?).getD true)=bs.all id:=λbs=>by
 rw[fg,List.all_eq_true,List.all_eq_true]
 constructor
 .intro h b hb
  obtain⟨i,hi,rfl⟩:=List.mem_iff_getElem.mp hb
  have:=h i (by simpa using hi)
  simpa [hi]using this
 .intro h i hi
  have hi':i<bs.length:=by simpa using hi
  have:=h bs[i] (df hi')
  simpa [hi']using this
theorem call_all(hc:X.calm=true):CallR X (.builtin "all") rAll:=by
 intro pins s σ H xs us Q I r h
 obtain⟨p,bs,rfl,hp,q⟩:=h
 obtain⟨u,rfl,r1⟩:=vals1 r
 cases (show u=Value.ref p from r1)
 obtain⟨its,rv,pl,hz⟩:=I.list (SqL.of (K:=X.K) hp)
 have hlt:p<s.heap.objs.size:=by obtain⟨_,_,e,_⟩:=pl;exact a9 e
 have hlen:its.length=bs.length:=by rw[<-rv.length,aj]
 refine call_all_walk (wpAny_pyIter_list pl.isList ?_)
 refine⟨s.heap.objs.size,[s.heap.objs.size,p],[s.heap.objs.size],its.toArray.size,_,_,λi=>(bs[i]?).getD true,rfl,Walks.list (A:=X.A.in1) (I.ok.hd hc) _ p (cc hlt) its.toArray,
  ⟨⟨_,ay _ rfl,rfl,rfl⟩,pl.isList.push _⟩,λi v s' Q' E' hP hQ=>?_,λh' tk hk=>?_⟩
 .have hi:its[i]?=some v:=by simpa using hP
  have hi2:i<bs.length:=by rw[<-hlen];exact(ak.mp hi).1
  obtain⟨u',e1,e2⟩:=rv.get (i:=i) (x:=.bl bs[i]) (by rw[be,ab hi2];rfl)
  rw[hi]at e1;cases e1
  cases (show v=Value.bool bs[i]from e2)
  have hQ2:Q' ((bs[i]?).getD true) s':=hQ
  rw[ab hi2]at hQ2
  exact f8 hQ2
 .refine(x_EE (.bl _) H ⟨I.kept (λb o e=>hk b o (λhm=>?_) (ai _ e)),rfl,?_⟩)
  .rw[ba.mp hm]at e
   exact iw _ (a9 e)
  .rw[az,hlen,range_all]
   exact q
end
noncomputable def Tx(z:Str):Prop:=z.length<=80/\∀c∈z.cps.toList,c<128
theorem Tx.ok{z:Str}(h:Tx z):PyData.strOk z=true:=by
 unfold PyData.strOk
 rw[Array.all_eq_true']
 intro c hc
 have:=h.2 c (by simpa using hc)
 simp only[decide_eq_true_eq]
 omega
noncomputable def sgB(c:Nat):Bool:=(c==35||c==46||c==44)||(decide (65<=c)&&decide (c<=90))||(decide (97<=c)&&decide (c<=122))
theorem foldJ{g:Array Nat}(hg:g=#[]):∀(l:List Str) (a:Array Nat),(l.foldl (λacc p=>acc++g++p.cps) a).toList=a.toList++(l.map λp=>p.cps.toList).flatten
 | [],a=>by simp
 | p::l,a=>by
  rw[List.foldl_cons,foldJ hg l,hg]
  simp
theorem join_list_eq{g:Str}(hg:g.cps=#[]):∀ys:List Str,(Txt.join g ys).cps.toList=(ys.map λp=>p.cps.toList).flatten
 | []=>by simp[Txt.join,PySem.Builtin.Str.glued,Str.empty]
 | y::ys=>by
  show((ys.foldl (λacc p=>acc++g.cps++p.cps) y.cps)).toList=_
  rw[foldJ hg]
  simp
section
variable{prog:Program}{w:World}{A:Around}{E:Value->Shared->Prop}{s:Shared}
theorem nx_tup{I a:Addr}{k:Nat}{ys:Array Value}{v:Value}{R:Value->Shared->Prop}(st:s.heap.IsTupleIter I a k)(tp:s.heap.IsTuple a ys)(hv:ys[k]?=some v)
  (q:∀g,g.IsTupleIter I a (k+1)->bw I s.heap g->R v {s with heap:=g}):wpAny (model prog w) A (ci (.ref I)) R E s:=by
 obtain⟨u,hu,uc,ud⟩:=id st
 obtain⟨z,hz,_,nz,zd⟩:=tp
 unfold ci
 refine aa (b8 (name:=bq "__next__") st.typeIs F.slot_tuple_iterator_next (b9 F.slot_tuple_iterator_next st.typeIs F.entry_tuple_iterator_next ?_ (F.args_tuple_iterator_next_1 _)))
 refine(aa (gj hu ud (x:=.ref a) rfl ?_):wpAny _ _ (field (.ref I) 0 >>= _) _ _ s)
 refine(?_:wpAny _ _ (if (Value.ref a==Value.none)=true then _ else _) _ _ s)
 rw[if_neg (show ¬(Value.ref a==Value.none)=true from ah)]
 refine(aa (gj hu ud (x:=.int k 0) rfl ?_):wpAny _ _ (field (.ref I) 1 >>= _) _ _ s)
 refine(aa (iy hz zd ?_):wpAny _ _ (seqItems? (.ref a) >>= _) _ _ s)
 simp only[b0,hv]
 refine aa (gz hu ud (by simp) (af ⟨v,rfl,af (q _ ⟨_,ce _ hu (Obj.isFreed_of_fields (jx ud _)),?_,?_⟩ (c5 ..))⟩))
 .exact(Obj.cls_mapFields ..).trans uc
 .rw[jx ud];simp[rawInt]
theorem nx_asc{I:Addr}{z:Str}{t:Tok}{k c:Nat}{R:Value->Shared->Prop}(st:s.heap.IsStrIter I "str_ascii_iterator" z t k)(hv:z.cps[k]?=some c)
  (q:∀g,g.IsStrIter I "str_ascii_iterator" z t (k+1)->bw I s.heap g->R (.str ⟨#[c]⟩ s.toks) {s with heap:=g,toks:=s.toks+1}):wpAny (model prog w) A (ci (.ref I)) R E s:=by
 obtain⟨u,hu,uc,ud⟩:=id st
 unfold ci
 refine aa (b8 (name:=bq "__next__") st.typeIs jm (b9 jm st.typeIs F.entry_str_ascii_iterator_next ?_ (F.args_str_ascii_iterator_next_1 _)))
 refine(aa (gj hu ud (x:=.str z t) rfl ?_):wpAny _ _ (field (.ref I) 0 >>= _) _ _ s)
 refine(aa (gj hu ud (x:=.int k 0) rfl ?_):wpAny _ _ (field (.ref I) 1 >>= _) _ _ s)
 simp only[b0,hv]
 refine aa (gz hu ud (by simp) (aa (wpAny_mkStr (af ⟨_,rfl,af (q _ ⟨_,ce _ hu (Obj.isFreed_of_fields (jx ud _)),?_,?_⟩ (c5 ..))⟩) (by show 1<=sizeLine;decide))))
 .exact(Obj.cls_mapFields ..).trans uc
 .rw[jx ud];simp[rawInt]
theorem stop_raised{X:Addr}{h1:Heap}{k:Value->Sem Fin}(hh:A.handled=none)(keep:jp X s.heap h1)
  (q:∀g e,jp X s.heap g->(∃o,g.get? e=some o/\o.cls=.type "StopIteration")->E (.ref e) {s with heap:=g}) {R:Fin->Shared->Prop}
  (ek:∀v,k v=(raiseNew v:Sem Fin)):wpAny (model prog w) A (newExc (.type "StopIteration") [] >>= k) R E {s with heap:=h1}:=by
 refine aa ?_
 simp only[newExc,newTuple]
 refine aa (cp ?_ (by size_fits))
 refine aa (m:=firstArgMember _ _) (wpAny_of_eq (a:=Value.none) (by first|rfl|(simp only[firstArgMember];rfl)) (cp ?_ (by size_fits)))
 rw[ek]
 simp only[raiseNew]
 refine aa (wpAny_handled ?_)
 rw[hh]
 exact aa (af (wpAny_throw (q _ _ ((keep.push _).push _) ⟨_,ay _ rfl,rfl⟩)))
theorem nx_tup_end{I a:Addr}{k:Nat}{ys:Array Value}{R:Value->Shared->Prop}(hh:A.handled=none)(st:s.heap.IsTupleIter I a k)(tp:s.heap.IsTuple a ys)(hv:ys[k]?=none)
  (q:∀g e,jp I s.heap g->(∃o,g.get? e=some o/\o.cls=.type "StopIteration")->E (.ref e) {s with heap:=g}):wpAny (model prog w) A (ci (.ref I)) R E s:=by
 obtain⟨u,hu,uc,ud⟩:=id st
 obtain⟨z,hz,_,nz,zd⟩:=tp
 unfold ci
 refine aa (b8 (name:=bq "__next__") st.typeIs F.slot_tuple_iterator_next (b9 F.slot_tuple_iterator_next st.typeIs F.entry_tuple_iterator_next ?_ (F.args_tuple_iterator_next_1 _)))
 refine(aa (gj hu ud (x:=.ref a) rfl ?_):wpAny _ _ (field (.ref I) 0 >>= _) _ _ s)
 refine(?_:wpAny _ _ (if (Value.ref a==Value.none)=true then _ else _) _ _ s)
 rw[if_neg (show ¬(Value.ref a==Value.none)=true from ah)]
 refine(aa (gj hu ud (x:=.int k 0) rfl ?_):wpAny _ _ (field (.ref I) 1 >>= _) _ _ s)
 refine(aa (iy hz zd ?_):wpAny _ _ (seqItems? (.ref a) >>= _) _ _ s)
 simp only[b0,hv]
 refine aa (jh (aa (gz hu ud (by simp) ?_)))
 exact stop_raised (A:=A.in1) hh (c5 ..).extBut q λ_=>rfl
theorem nx_asc_end{I:Addr}{z:Str}{t:Tok}{k:Nat}{R:Value->Shared->Prop}(hh:A.handled=none)(st:s.heap.IsStrIter I "str_ascii_iterator" z t k)(hv:z.cps[k]?=none)
  (q:∀g e,jp I s.heap g->(∃o,g.get? e=some o/\o.cls=.type "StopIteration")->E (.ref e) {s with heap:=g}):wpAny (model prog w) A (ci (.ref I)) R E s:=by
 obtain⟨u,hu,uc,ud⟩:=id st
 unfold ci
 refine aa (b8 (name:=bq "__next__") st.typeIs jm (b9 jm st.typeIs F.entry_str_ascii_iterator_next ?_ (F.args_str_ascii_iterator_next_1 _)))
 refine(aa (gj hu ud (x:=.str z t) rfl ?_):wpAny _ _ (field (.ref I) 0 >>= _) _ _ s)
 refine(aa (gj hu ud (x:=.int k 0) rfl ?_):wpAny _ _ (field (.ref I) 1 >>= _) _ _ s)
 simp only[b0,hv]
 refine aa (jh (aa (gz hu ud (by simp) (aa (wpAny_letGo ?_)))))
 exact stop_raised (A:=A.in1) hh (c5 ..).extBut q λ_=>rfl
theorem enum_item{e I:Addr}{i:Nat}{old:Value}{Y:Value->Prop}{N:Heap->Prop}{Q:Option Value->Shared->Prop}(he:IsEnum s.heap e I i old)(hne:e≠I)
  (hN:∀g g',N g->(∀o,g.get? I=some o->g'.get? I=some o)->N g')
  (hnx:∀(A':Around) (R:Value->Shared->Prop) (E':Value->Shared->Prop),(∀x g tk,Y x->N g->bw I s.heap g->R x {s with heap:=g,toks:=tk})->wpAny (model prog w) A' (ci (.ref I)) R E' s)
  (hQ:∀x g tk tk2,Y x->IsEnumOut g e I ((i:Int)+1) x s.heap.objs.size->N g->g.get? s.heap.objs.size=some {cls:=.type "tuple",data:=.seq #[.int i tk2,x]}->(∀b o,b≠e->b≠I->s.heap.get? b=some o->g.get? b=some o)->Q (some (.ref s.heap.objs.size)) {s with heap:=g,toks:=tk}) :
  wpAny (model prog w) A (pyNext (.ref e)) Q E s:=by
 obtain⟨h0,ga,dr,t0,os⟩:=s
 have ty:Shared.TypeIs ⟨h0,ga,dr,t0,os⟩ (.ref e) "enumerate":=⟨_,he,rfl⟩
 replace he:IsEnum h0 e I i old:=he
 have hel:e<h0.objs.size:=a9 he
 unfold pyNext
 refine aa (jn (b8 (name:=bq "__next__") ty F.slot_enumerate_next (b9 F.slot_enumerate_next ty F.entry_enumerate_next ?_ (F.args_enumerate_next_1 _))))
 show wpAny _ _ (field (.ref e) 2 >>= _) _ _ ⟨h0,ga,dr,t0,os⟩
 refine aa (gj he rfl (x:=.ref I) rfl (aa (hnx _ _ _ λx g1 tk yx n1 sb1=>?_)))
 replace sb1:bw I h0 g1:=sb1
 have e1:IsEnum g1 e I i old:=(sb1.2 e hne).trans he
 have z1:g1.objs.size=h0.objs.size:=sb1.1
 have k1:∀b o,b≠e->b≠I->h0.get? b=some o->g1.get? b=some o:=λb o _ hb h=>(sb1.2 b hb).trans h
 clear sb1
 show wpAny _ _ (field (.ref e) 3 >>= _) _ _ ⟨g1,ga,dr,tk,os⟩
 refine aa (gj e1 rfl (x:=rawInt i) rfl ?_)
 show wpAny _ _ (field (.ref e) 4 >>= _) _ _ ⟨g1,ga,dr,tk,os⟩
 refine aa (gj e1 rfl (x:=.none) rfl ?_)
 show wpAny _ _ (mkInt i >>= _) _ _ ⟨g1,ga,dr,tk,os⟩
 refine aa (wpAny_mkInt ?_)
 show wpAny _ _ (setField (.ref e) 3 (rawInt ((i:Int)+1)) >>= _) _ _ ⟨g1,ga,dr,tk+1,os⟩
 refine aa (wpAny_setField_rec e1 (by simp) λg2 e2 sb2=>?_)
 replace sb2:bw e g1 g2:=sb2
 replace e2:IsEnum g2 e I ((i:Int)+1) old:=e2
 have z2:g2.objs.size=h0.objs.size:=sb2.1.trans z1
 have n2:N g2:=hN _ _ n1 λo h=>(sb2.2 I (Ne.symm hne)).trans h
 have k2:∀b o,b≠e->b≠I->h0.get? b=some o->g2.get? b=some o:=λb o hb hI h=>(sb2.2 b hb).trans (k1 b o hb hI h)
 clear sb2 n1 k1 e1 z1
 show wpAny _ _ (setField (.ref e) 4 .none >>= _) _ _ ⟨g2,ga,dr,tk+1,os⟩
 refine aa (wpAny_setField_rec e2 (by simp) λg3 e3 sb3=>?_)
 replace sb3:bw e g2 g3:=sb3
 replace e3:IsEnum g3 e I ((i:Int)+1) old:=e3
 have z3:g3.objs.size=h0.objs.size:=sb3.1.trans z2
 have n3:N g3:=hN _ _ n2 λo h=>(sb3.2 I (Ne.symm hne)).trans h
 have k3:∀b o,b≠e->b≠I->h0.get? b=some o->g3.get? b=some o:=λb o hb hI h=>(sb3.2 b hb).trans (k2 b o hb hI h)
 clear sb3 n2 k2 e2 z2
 show wpAny _ _ (newTuple [.int i tk,x] >>= _) _ _ ⟨g3,ga,dr,tk+1,os⟩
 refine aa (wpAny_newTuple ?_)
 have e4:IsEnum (g3.push {cls:=.type "tuple",data:=.seq #[.int i tk,x]}) e I ((i:Int)+1) old:=ai _ e3
 have n4:N (g3.push {cls:=.type "tuple",data:=.seq #[.int i tk,x]}):=hN _ _ n3 λo h=>ai _ h
 have k4:∀b o,b≠e->b≠I->h0.get? b=some o->(g3.push {cls:=.type "tuple",data:=.seq #[.int i tk,x]}).get? b=some o:=λb o hb hI h=>ai _ (k3 b o hb hI h)
 have t4:(g3.push {cls:=.type "tuple",data:=.seq #[.int i tk,x]}).get? h0.objs.size=some {cls:=.type "tuple",data:=.seq #[.int i tk,x]}:=by
  have h:=ay g3 (o:={cls:=.type "tuple",data:=.seq #[.int i tk,x]}) rfl
  rw[z3]at h;exact h
 generalize hg4:g3.push {cls:=.type "tuple",data:=.seq #[.int i tk,x]}=g4 at *
 show wpAny _ _ (Builtin.SmallTypes.ownedTupleIsFree (.ref e) >>= _) _ _ ⟨g4,ga,dr,tk+1,os⟩
 rw[z3]
 clear hg4 n3 k3 e3 z3 g3
 refine aa ?_
 unfold Builtin.SmallTypes.ownedTupleIsFree
 refine aa (gj e4 rfl (x:=.none) rfl (af ?_))
 simp only[if_true]
 refine aa (jh (aa (gj e4 rfl (x:=old) rfl (aa (wpAny_setField_rec e4 (by simp) λg5 e5 sb5=>?_)))))
 replace sb5:bw e g4 g5:=sb5
 replace e5:IsEnum g5 e I ((i:Int)+1) x:=e5
 show wpAny _ _ (Builtin.SmallTypes.ownedTupleHandOut (.ref e) (.ref h0.objs.size) >>= _) _ _ ⟨g5,ga,dr,tk+1,os⟩
 refine aa ?_
 unfold Builtin.SmallTypes.ownedTupleHandOut
 refine aa (wpAny_setField_rec e5 (by simp) λg6 e6 sb6=>?_)
 replace sb6:bw e g5 g6:=sb6
 replace e6:IsEnumOut g6 e I ((i:Int)+1) x h0.objs.size:=e6
 refine wpAny_setField_rec e6 (by simp) λg7 e7 sb7=>?_
 replace sb7:bw e g6 g7:=sb7
 replace e7:IsEnumOut g7 e I ((i:Int)+1) x h0.objs.size:=e7
 have all:∀b o,b≠e->g4.get? b=some o->g7.get? b=some o:=λb o hb h=>(sb7.2 b hb).trans ((sb6.2 b hb).trans ((sb5.2 b hb).trans h))
 exact aa (wpAny_letGo (af ⟨_,rfl,af (hQ x g7 _ tk yx e7 (hN _ _ n4 λo h=>all I o (Ne.symm hne) h) (all _ _ (Nat.ne_of_gt hel) t4) λb o hb hI h=>all b o hb (k4 b o hb hI h))⟩))
theorem enum_end{e I:Addr}{i:Int}{old:Value}{Q:Option Value->Shared->Prop}(he:IsEnum s.heap e I i old)
  (hnx:∀(R:Value->Shared->Prop) (E':Value->Shared->Prop),(∀g x,jp I s.heap g->(∃o,g.get? x=some o/\o.cls=.type "StopIteration")->E' (.ref x) {s with heap:=g})->wpAny (model prog w) A.in1 (ci (.ref I)) R E' s)
  (hQ:∀g,jp I s.heap g->Q none {s with heap:=g}):wpAny (model prog w) A (pyNext (.ref e)) Q E s:=by
 have ty:s.TypeIs (.ref e) "enumerate":=⟨_,he,rfl⟩
 unfold pyNext
 refine aa (jn (b8 (name:=bq "__next__") ty F.slot_enumerate_next (b9 F.slot_enumerate_next ty F.entry_enumerate_next ?_ (F.args_enumerate_next_1 _))))
 show wpAny _ _ (field (.ref e) 2 >>= _) _ _ s
 refine aa (gj he rfl (x:=.ref I) rfl (aa (hnx _ _ λg x kp ⟨o,ho,hc⟩=>?_)))
 exact aa (wpAny_isInstance (T:="StopIteration") (b:=true) ⟨o,ho,hc⟩ isSubtype_stop (af (hQ _ kp)))
end
theorem new_enumT(a:Addr)(ys:Array Value)(n:Nat)(dct:Option Addr)(sl:Array (Option Value)) :
  Meets (Builtin.«enumerate.__new__» ⟨[.type "enumerate",.ref a],[]⟩) (λ_ R s=>s.heap.get? a=some {cls:=.type "tuple",dict:=dct,data:=.seq ys n,slots:=sl}/\
   R (.ok (.ret (.ref (s.heap.push {cls:=.type "tuple_iterator",data:=.fields #[.ref a,.int 0 0]}).objs.size)))
    {s with heap:=(s.heap.push {cls:=.type "tuple_iterator",data:=.fields #[.ref a,.int 0 0]}).push {cls:=.type "enumerate",data:=.fields #[.none,.bool false,.ref s.heap.objs.size,rawInt 0,.none,.none]}}):=
 .of_wp λprog w A R s h=>by
  obtain⟨h0,ga,dr,tk,os⟩:=s;obtain⟨ha,h⟩:=h
  have hsub:=sub_enumerate
  have hT:Heap.IsTuple (Shared.heap ⟨h0,ga,dr,tk,os⟩) a ys:=(x_EAAE _ ha rfl n rfl)
  wp_walk using AutoSeq1.wpAny_loadPart' ha
  refine wpAny_stack_any λst=>af ?_
  split
  .rename_i c _ _ _ _ _
   cases (c==Value.type "enumerate")
   .wp_walk using AutoSeq1.wpAny_loadPart' ha,ja hT
    exact⟨_,rfl,h⟩
   .wp_walk using AutoSeq1.wpAny_loadPart' ha,ja hT
    exact⟨_,rfl,h⟩
  .wp_walk using AutoSeq1.wpAny_loadPart' ha,ja hT
   exact⟨_,rfl,h⟩
section
variable{prog:Program}{w:World}{A:Around}{E:Value->Shared->Prop}{s:Shared}
theorem call_enumT{a:Addr}{ys:Array Value}{Q:Value->Shared->Prop}(hT:s.heap.IsTuple a ys)
  (h:∀g,IsEnum g (s.heap.objs.size+1) s.heap.objs.size 0 .none->g.IsTupleIter s.heap.objs.size a 0->(∀b o,s.heap.get? b=some o->g.get? b=some o)->Q (.ref (s.heap.objs.size+1)) {s with heap:=g}) :
  wpAny (model prog w) A (call (.type "enumerate") [.ref a]) Q E s:=by
 obtain⟨⟨c,dct,dt,sl⟩,ha,hc,n,hd⟩:=hT
 replace hc:c=.type "tuple":=hc
 replace hd:dt=.seq ys n:=hd
 subst hc hd
 refine callType_new F.called_enumerate (by decide) (F.typeCall_enumerate_1 _) (F.newCall_enumerate_1 _) (λobj=>F.args_object_init_2 obj _) F.entry_enumerate_new (new_enumT a ys n dct sl) ⟨ha,?_⟩
 have hz:(s.heap.push {cls:=.type "tuple_iterator",data:=.fields #[.ref a,.int 0 0]}).objs.size=s.heap.objs.size+1:=ju ..
 refine(?_:_/\_)
 rw[hz]
 have he:IsEnum ((s.heap.push {cls:=.type "tuple_iterator",data:=.fields #[.ref a,.int 0 0]}).push {cls:=.type "enumerate",data:=.fields #[.none,.bool false,.ref s.heap.objs.size,rawInt 0,.none,.none]}) (s.heap.objs.size+1) s.heap.objs.size 0 .none:=by
  have h:=ay (s.heap.push {cls:=.type "tuple_iterator",data:=.fields #[.ref a,.int 0 0]}) (o:={cls:=.type "enumerate",data:=.fields #[.none,.bool false,.ref s.heap.objs.size,rawInt 0,.none,.none]}) rfl
  rw[hz]at h;exact h
 exact⟨⟨_,he,rfl⟩,h _ he ⟨_,ai _ (ay _ rfl),rfl,rfl⟩ λb o x=>ai _ (ai _ x)⟩
end
section
variable{X:Cx}{pins:List (Addr×Obj)}{σ:L2.St}{H:Hp}{s:Shared}{h':Heap}
theorem turned2{t':Nat}{e it:Addr}(I:Inv X pins σ H s)(k:∀b o,b≠e->b≠it->s.heap.get? b=some o->h'.get? b=some o)(fe:FpOk X pins H e)(fi:FpOk X pins H it):Inv X pins σ H {s with heap:=h',toks:=t'}:=by
 obtain⟨e0,e1,e2,e3,e4,e5⟩:=fe
 obtain⟨i0,i1,i2,i3,i4,i5⟩:=fi
 have nn:∀b u,H b=some u->b≠e/\b≠it:=λb u q=>⟨λz=>(by rw[z,e0]at q;cases q),λz=>(by rw[z,i0]at q;cases q)⟩
 have sp:∀b,b∉[e,it]->b≠e/\b≠it:=λb hb=>by simpa using hb
 refine I.step (g':=s.gens) (d':=s.drawn) (ch:=[e,it]) (λb hb=>?_) (λb o _ _ hc q _=>k b o (sp b hc).1 (sp b hc).2 q) (λb o _ _ hc q _=>⟨o.slots,k b o (sp b hc).1 (sp b hc).2 q⟩) (λ_ _ _ _ n=>n)
  (λb o hc q=>⟨o,k b o (sp b hc).1 (sp b hc).2 q⟩) (λ_ _ q=>q) (λ_ _ _ q=>q) (λb ps q=>⟨#[],by rw[q];simp⟩) (λm hm=>?_) (λb u q=>?_) I.bare
 .rcases ax.mp hb with z|z
  .subst z;exact⟨e3,e1,e4,e5⟩
  .rw[ba.mp z];exact⟨i3,i1,i4,i5⟩
 .obtain⟨o,es,ep,ho,r⟩:=hm
  exact(x_EEE o es ep ⟨k _ o (Ne.symm e1) (Ne.symm i1) ho,r⟩)
 .refine(I.hok b u q).stay (λc v hc r=>k c v ?_ ?_ r) (λ_ r=>r) λ_ _ r=>r
  .rcases hc with z|z
   .rw[z];exact(nn b u q).1
   .exact(nn c _ z).1
  .rcases hc with z|z
   .rw[z];exact(nn b u q).2
   .exact(nn c _ z).2
end
theorem turn_enum{P:Program}{w:World}{K:aq}{elts:List Expr}{x1}{pos:Pos}(J:It)(e I:Addr)(hne:e≠I)(M:Nat->Heap->Prop)
  (hobj:∀i h,M i h->∃o,h.get? I=some o/\∀v,o.data≠.cell v) (hkeep:∀i h h',M i h->(∀o,h.get? I=some o->h'.get? I=some o)->M i h')
  (hitem:∀(X:Cx),X.prog=P->X.w=w->X.K=K->∀(i:Nat) pins (s:Shared) σ H,Inv X pins σ H s->M i s.heap->J.go i H->∃Y:Value->Prop,
   (∀u,Y u->∃x,RelV x u/\J.yld i H (.ref s.heap.objs.size) (upd H s.heap.objs.size (.tup [.int i,x])))/\
   ∀(A':Around) (R:Value->Shared->Prop) (E':Value->Shared->Prop),(∀u g tk,Y u->M (i+1) g->bw I s.heap g->R u {s with heap:=g,toks:=tk})->wpAny (model P w) A' (ci (.ref I)) R E' s)
  (hdone:∀(X:Cx),X.prog=P->X.w=w->X.K=K->∀(i:Nat) pins (s:Shared) σ H,Inv X pins σ H s->M i s.heap->J.stop i H->
   ∀(A':Around) (R:Value->Shared->Prop) (E':Value->Shared->Prop),A'.handled=none->(∀g u,jp I s.heap g->(∃o,g.get? u=some o/\o.cls=.type "StopIteration")->E' (.ref u) {s with heap:=g})->wpAny (model P w) A' (ci (.ref I)) R E' s) :
  Turn P w K (.Tuple elts x1 pos) J [e,I] e (λi h=>(∃old,IsEnum h e I i old)/\M i h)where
 mem:=by simp
 obj:=λi h st b hb=>by
  obtain⟨⟨old,he⟩,m⟩:=st
  rcases ax.mp hb with z|z
  .subst z
   exact⟨_,he,λv z=>by cases z⟩
  .rw[ba.mp z]
   exact hobj i h m
 keep:=λi h h' st k=>by
  obtain⟨⟨old,he⟩,m⟩:=st
  exact⟨⟨old,k e (by simp) _ he⟩,hkeep i h h' m λo q=>k I (by simp) o q⟩
 item:=by
  intro X hP hw hK hc i pins s σ H E Iv hf st hg
  obtain⟨⟨old,he⟩,m⟩:=st
  obtain⟨Y,hY,hnx⟩:=hitem X hP hw hK i pins s σ H Iv m hg
  subst hP hw hK
  have fe:=hf e (by simp)
  have fi:=hf I (by simp)
  have hel:e<s.heap.objs.size:=a9 he
  obtain⟨oi,hoi,_⟩:=hobj i _ m
  have hil:I<s.heap.objs.size:=a9 hoi
  refine enum_item he hne (N:=M (i+1)) (λg g' n k=>hkeep _ _ _ n k) hnx (λu g tk tk2 yu eo n t4 k=>⟨_,rfl,?_⟩)
  refine wpAny_letOwnedTupleGo_enum (s:={s with heap:=g,toks:=tk}) eo λg' e' sb=>?_
  obtain⟨v,rv,yl⟩:=hY u yu
  have I1:Inv X pins σ (upd H s.heap.objs.size (.tup [.int i,v])) {s with heap:=s.heap.push {cls:=.type "tuple",data:=.seq #[.int i tk2,u]},toks:=tk}:=
   Iv.laid (t':=tk) (λb o q=>ai _ q) (ao _) ⟨by show 2<=sizeLine;decide,[.int i tk2,u],.cons ⟨tk2,rfl⟩ (.cons rv .nil),(x_EAAE _ (ay _ rfl) rfl _ rfl)⟩
  have up:∀b,b<s.heap.objs.size->FpOk X pins H b->FpOk X pins (upd H s.heap.objs.size (.tup [.int i,v])) b:=λb hb q=>⟨by rw[kv (cc hb)];exact q.1,q.2⟩
  have I2:Inv X pins σ (upd H s.heap.objs.size (.tup [.int i,v])) {s with heap:=g,toks:=tk}:=turned2 (s:={s with heap:=s.heap.push {cls:=.type "tuple",data:=.seq #[.int i tk2,u]},toks:=tk}) (t':=tk) I1 (λb o h1 h2 q=>by
   rcases Heap.get?_push_cases q with ⟨z1,z2⟩|z
   .rw[z1,z2];exact t4
   .exact k b o h1 h2 z) (up e hel fe) (up I hil fi)
  have fe2:=up e hel fe
  have I3:Inv X pins σ (upd H s.heap.objs.size (.tup [.int i,v])) {s with heap:=g',toks:=tk}:=Inv.turned (s:={s with heap:=g,toks:=tk}) (t':=tk) I2 (λb o hb q=>(sb.2 b hb).trans q) fe2.1 fe2.2.1 fe2.2.2.2.1 fe2.2.2.2.2.1 fe2.2.2.2.2.2
  refine(x_EE (.ref s.heap.objs.size) _ ⟨I3,rfl,yl,⟨⟨u,e'⟩,hkeep _ _ _ n λo q=>(sb.2 I (Ne.symm hne)).trans q⟩,λb hb=>?_⟩)
  rcases ax.mp hb with z|z
  .subst z;exact fe2.1
  .rw[ba.mp z];exact(up I hil fi).1
 done:=by
  intro X hP hw hK hc i pins s σ H E Iv hf st hg
  obtain⟨⟨old,he⟩,m⟩:=st
  have hd:=hdone X hP hw hK i pins s σ H Iv m hg
  subst hP hw hK
  have fi:=hf I (by simp)
  exact enum_end he (λR E' q=>hd _ R E' (Iv.ok.hd hc) q) λg kp=>⟨rfl,Iv.turned (t':=s.toks) (λb o hb q=>kp b o hb q) fi.1 fi.2.1 fi.2.2.2.1 fi.2.2.2.2.1 fi.2.2.2.2.2⟩
 self:=λ_ _ _ _ _ st h=>by
  obtain⟨⟨old,he⟩,_⟩:=st
  exact wpAny_pyIter_enum he h
noncomputable def Jet(K:aq)(a:Addr):It:=
 ⟨λi H=>∃xs x,SqT K H a xs/\xs[i]?=some x,λi H v H'=>∃p x,H p=none/\v=.ref p/\H'=upd H p (.tup [.int i,x])/\∀xs,SqT K H a xs->xs[i]?=some x,λi H=>∃xs,SqT K H a xs/\xs.length<=i⟩
noncomputable def Jes(z:Str):It:=
 ⟨λi _=>i<z.cps.toList.length,λi H v H'=>∃p c,H p=none/\v=.ref p/\H'=upd H p (.tup [.int i,.str ⟨#[c]⟩])/\z.cps.toList[i]?=some c,λi _=>z.cps.toList.length<=i⟩
theorem turn_enumT{P:Program}{w:World}{K:aq}{elts:List Expr}{x1}{pos:Pos}(a e I:Addr)(hne:e≠I) :
  Turn P w K (.Tuple elts x1 pos) (Jet K a) [e,I] e (λi h=>(∃old,IsEnum h e I i old)/\h.IsTupleIter I a i):=by
 refine turn_enum (Jet K a) e I hne (λi h=>h.IsTupleIter I a i) (λi h st=>?_) (λi h h' st k=>st.at k) (λX hP hw hK i pins s σ H Iv st hg=>?_) (λX hP hw hK i pins s σ H Iv st hg A' R E' hh q=>?_)
 .obtain⟨o,ho,c,d⟩:=st
  exact⟨o,ho,λv z=>by rw[d]at z;cases z⟩
 .subst hP hw hK
  obtain⟨xs,x,hq,hx⟩:=hg
  obtain⟨its,rv,p,hz⟩:=Iv.tuple hq
  obtain⟨u,hu,ru⟩:=rv.get hx
  refine⟨λu'=>u'=u,λu' hu'=>?_,λA' R E' q=>?_⟩
  .subst hu'
   exact(o5 x ru s.heap.objs.size x ⟨Iv.hok.fresh (ao _),rfl,rfl,λys hy=>by rw[Iv.tuple_inj hy hq];exact hx⟩)
  .exact nx_tup st (show s.heap.IsTuple a its.toArray from p) (v:=u) (by simpa using hu) λg st' sb=>q u g s.toks rfl st' sb
 .subst hP hw hK
  obtain⟨xs,hq,hx⟩:=hg
  obtain⟨its,rv,p,hz⟩:=Iv.tuple hq
  have hl:=rv.length
  exact nx_tup_end hh st (show s.heap.IsTuple a its.toArray from p) (by simp;omega) q
theorem turn_enumS{P:Program}{w:World}{K:aq}{elts:List Expr}{x1}{pos:Pos}(z:Str)(t:Tok)(e I:Addr)(hne:e≠I) :
  Turn P w K (.Tuple elts x1 pos) (Jes z) [e,I] e (λi h=>(∃old,IsEnum h e I i old)/\h.IsStrIter I "str_ascii_iterator" z t i):=by
 refine turn_enum (Jes z) e I hne (λi h=>h.IsStrIter I "str_ascii_iterator" z t i) (λi h st=>?_) (λi h h' st k=>?_) (λX hP hw hK i pins s σ H Iv st hg=>?_) (λX hP hw hK i pins s σ H Iv st hg A' R E' hh q=>?_)
 .obtain⟨o,ho,c,d⟩:=st
  exact⟨o,ho,λv z=>by rw[d]at z;cases z⟩
 .obtain⟨o,ho,r⟩:=st
  exact⟨o,k o ho,r⟩
 .subst hP hw hK
  have hi:i<z.cps.size:=by simpa [Jes]using hg
  refine⟨λu=>∃tk,u=.str ⟨#[z.cps[i]]⟩ tk,λu hu=>?_,λA' R E' q=>?_⟩
  .obtain⟨tk,rfl⟩:=hu
   exact(o5 (.str ⟨#[z.cps[i]]⟩) ⟨tk,rfl⟩ s.heap.objs.size (z.cps[i]) ⟨Iv.hok.fresh (ao _),rfl,rfl,by simp[hi]⟩)
  .exact nx_asc st (c:=z.cps[i]) (by simp[hi]) λg st' sb=>q _ g _ ⟨_,rfl⟩ st' sb
 .subst hP hw hK
  have hi:z.cps.size<=i:=by simpa [Jes]using hg
  exact nx_asc_end hh st (by simp;omega) q
section
variable{X:Cx}{elts:List Expr}{x1:Nat}{tpos p pos:Pos}{a:Expr}{ta:TA}
noncomputable def iEnT(K:aq)(ta:TA):TI:=λσ H R=>ta σ H λvs H1=>∃a,vs=[.ref a]/\(∃xs,SqT K H1 a xs)/\R (Jet K a) H1
noncomputable def iEnS(ta:TA):TI:=λσ H R=>ta σ H λvs H1=>∃z:Str,vs=[.str z]/\(∀c∈z.cps.toList,c<128)/\R (Jes z) H1
theorem pi_enT(hg:Gl X "enumerate")(hm:X.mg "enumerate" = none)(ha:PA X [a] ta)(hs:oa a=true:=by rfl):PI X (.Tuple elts x1 tpos) (.Call (.Name "enumerate" p) [a] [] pos) (iEnT X.K ta):=by
 intro pins s σ H R I h
 refine Call_ (ld_blt I hg hm boot_enumerate (g8 (thn (ha pos pins s σ H _ I h) λus s1 ⟨vs,H1,I1,r1,q1⟩=>?_) (l9 hs) rfl))
 obtain⟨b,e,⟨xs,hq⟩,q⟩:=q1
 subst e
 obtain⟨u,rfl,ru⟩:=vals1 r1
 cases (show u=Value.ref b from ru)
 obtain⟨its,rv,pl,hz⟩:=I1.tuple hq
 refine call_enumT (show s1.heap.IsTuple b its.toArray from pl) λg he hi kp=>wpAny_pyIter_enum (s:={s1 with heap:=g}) he ?_
 refine(lg (s1.heap.objs.size+1) ([s1.heap.objs.size+1,s1.heap.objs.size]) _ _ H1 ⟨rfl,I1.kept (t':=s1.toks) kp,turn_enumT b (s1.heap.objs.size+1) s1.heap.objs.size (Nat.succ_ne_self _),⟨⟨_,he⟩,hi⟩,λc hc=>?_,q⟩)
 rcases ax.mp hc with z|z
 .subst z;exact I1.fpOk (by omega) (I1.hok.fresh (by omega))
 .rw[ba.mp z];exact I1.fpOk (ao _) (I1.hok.fresh (ao _))
theorem pi_enS(hg:Gl X "enumerate")(hm:X.mg "enumerate" = none)(ha:PA X [a] ta)(hs:oa a=true:=by rfl):PI X (.Tuple elts x1 tpos) (.Call (.Name "enumerate" p) [a] [] pos) (iEnS ta):=by
 intro pins s σ H R I h
 refine Call_ (ld_blt I hg hm boot_enumerate (g8 (thn (ha pos pins s σ H _ I h) λus s1 ⟨vs,H1,I1,r1,q1⟩=>?_) (l9 hs) rfl))
 obtain⟨z,e,hz,q⟩:=q1
 subst e
 obtain⟨u,rfl,t,rfl⟩:=vals1 r1
 have asc:strIterType z="str_ascii_iterator":=by
  unfold strIterType
  rw[if_pos]
  rw[Array.all_eq_true']
  intro c hc
  simpa using hz c (by simpa using hc)
 refine call_enumerate_str λg he hi _ kp=>wpAny_pyIter_enum (s:={s1 with heap:=g}) he ?_
 rw[asc]at hi
 refine(lg (s1.heap.objs.size+1) ([s1.heap.objs.size+1,s1.heap.objs.size]) _ _ H1 ⟨rfl,I1.kept (t':=s1.toks) kp,turn_enumS z t (s1.heap.objs.size+1) s1.heap.objs.size (Nat.succ_ne_self _),⟨⟨_,he⟩,hi⟩,λc hc=>?_,q⟩)
 rcases ax.mp hc with z|z
 .subst z;exact I1.fpOk (by omega) (I1.hok.fresh (by omega))
 .rw[ba.mp z];exact I1.fpOk (ao _) (I1.hok.fresh (ao _))
end
theorem for_any(J:It)(n:Nat){g:TG}{tb:TS}{D:Ends}{σ:L2.St}{H:Hp}(Pv:Nat->L2.St->Hp->Prop)(h0:Pv 0 σ H)(hgo:∀i σ H,i<n->Pv i σ H->J.go i H)(hst:∀σ H,Pv n σ H->J.stop n H)
  (hs:∀i v σ H H',i<n->Pv i σ H->J.yld i H v H'->g v σ H' λσ2 H2=>tb {D with nx:=Pv (i+1),ct:=Pv (i+1),bk:=D.nx} σ2 H2) (hd:∀σ H,Pv n σ H->D.nx σ H) :
  ∃W:Nat->Nat->L2.St->Hp->Prop,(∃m,W 0 m σ H)/\∀i m σ H,W i m σ H->
   (J.stop i H/\D.nx σ H)\/(J.go i H/\∃N:L2.St->Hp->Prop,(∀σ' H',N σ' H'->∃m',m'<m/\W (i+1) m' σ' H')/\∀v H',J.yld i H v H'->g v σ H' λσ2 H2=>tb {D with nx:=N,ct:=N,bk:=D.nx} σ2 H2):=by
 refine⟨λi m σ H=>m=n-i/\i<=n/\Pv i σ H,⟨n,by simp,en _,h0⟩,?_⟩
 rintro i m σ H ⟨rfl,hi,p⟩
 by_cases hlt:i<n
 .exact .inr ⟨hgo i σ H hlt p,Pv (i+1),λσ' H' p'=>⟨n-(i+1),by omega,rfl,hlt,p'⟩,λv H' y=>hs i v σ H H' hlt p y⟩
 .have e:i=n:=by omega
  subst e
  exact .inl ⟨hst σ H p,hd σ H p⟩
theorem for_enT{K:aq}{a:Addr}{xs:List V}{g:TG}{tb:TS}{D:Ends}{σ:L2.St}{H:Hp}(Pv:Nat->L2.St->Hp->Prop)(h0:Pv 0 σ H)(hl:∀i σ H,Pv i σ H->SqT K H a xs)
  (hs:∀i x p σ H,xs[i]?=some x->H p=none->Pv i σ H->g (.ref p) σ (upd H p (.tup [.int (i:Nat),x])) λσ2 H2=>tb {D with nx:=Pv (i+1),ct:=Pv (i+1),bk:=D.nx} σ2 H2) (hd:∀σ H,Pv xs.length σ H->D.nx σ H) :
  ∃W:Nat->Nat->L2.St->Hp->Prop,(∃m,W 0 m σ H)/\∀i m σ H,W i m σ H->
   ((Jet K a).stop i H/\D.nx σ H)\/((Jet K a).go i H/\∃N:L2.St->Hp->Prop,(∀σ' H',N σ' H'->∃m',m'<m/\W (i+1) m' σ' H')/\∀v H',(Jet K a).yld i H v H'->g v σ H' λσ2 H2=>tb {D with nx:=N,ct:=N,bk:=D.nx} σ2 H2):=by
 refine for_any (Jet K a) xs.length Pv h0 (λi σ H hi p=>(x_EE xs (xs[i]) ⟨hl i σ H p,by simp[hi]⟩)) (λσ H p=>⟨xs,hl _ σ H p,ao _⟩) (λi v σ H H' hi p y=>?_) hd
 obtain⟨b,x,hb,rfl,rfl,hx⟩:=y
 exact hs i x b σ H (hx xs (hl i σ H p)) hb p
theorem for_enS{z:Str}{g:TG}{tb:TS}{D:Ends}{σ:L2.St}{H:Hp}(Pv:Nat->L2.St->Hp->Prop)(h0:Pv 0 σ H)
  (hs:∀i c p σ H,z.cps.toList[i]?=some c->H p=none->Pv i σ H->g (.ref p) σ (upd H p (.tup [.int (i:Nat),.str ⟨#[c]⟩])) λσ2 H2=>tb {D with nx:=Pv (i+1),ct:=Pv (i+1),bk:=D.nx} σ2 H2) (hd:∀σ H,Pv z.cps.toList.length σ H->D.nx σ H) :
  ∃W:Nat->Nat->L2.St->Hp->Prop,(∃m,W 0 m σ H)/\∀i m σ H,W i m σ H->
   ((Jes z).stop i H/\D.nx σ H)\/((Jes z).go i H/\∃N:L2.St->Hp->Prop,(∀σ' H',N σ' H'->∃m',m'<m/\W (i+1) m' σ' H')/\∀v H',(Jes z).yld i H v H'->g v σ H' λσ2 H2=>tb {D with nx:=N,ct:=N,bk:=D.nx} σ2 H2):=by
 refine for_any (Jes z) z.cps.toList.length Pv h0 (λi σ H hi p=>hi) (λσ H p=>ao _) (λi v σ H H' hi p y=>?_) hd
 obtain⟨b,c,hb,rfl,rfl,hc⟩:=y
 exact hs i c b σ H hc hb p
theorem upper1{c:Nat}(h:c<128):Txt.upper ⟨#[c]⟩=⟨#[up1 c]⟩:=by
 rw[upper_ascii (λd hd=>by have e:d=c:=by simpa using hd
                           omega)]
 simp
section
variable{X:Cx}
theorem mt_upper:MtR X "str.upper" (λx vs H Q=>∃c:Nat,x=.str ⟨#[c]⟩/\vs=[]/\c<128/\Q (.str ⟨#[up1 c]⟩) H):=by
 intro pins s σ H x vs v us Q I rx rv h
 obtain⟨c,rfl,rfl,hc,q⟩:=h
 obtain⟨t,rfl⟩:=rx
 have hus:=rv.zero
 subst hus
 refine SC.upper (fit_upper (by show 1<=5592405;omega)) (x_EE (.str _) H ⟨I.tok _,⟨_,rfl⟩,?_⟩)
 rw[upper1 hc]
 exact q
end
end L3
namespace L2
open PySem PySem.Spec PyProof.Rows
section
variable{κ:Type}[DecidableEq κ]
theorem RelO.isSome_eq{o:Option V}{u:Option Value}(r:RelO o u):o.isSome=u.isSome:=by
 cases o with
 | none=>cases u with
  | none=>rfl
  | some _=>exact(show False from r).elim
 | some _=>cases u with
  | none=>exact(show False from r).elim
  | some _=>rfl
end
section
variable{X:Cx}{pins:List (Addr×Obj)}{σ:St}{H:Hp}{s:Shared}{a:Addr}{y v:V}{u r:Value}{o:Option V}{A:Around}{E:Value->Shared->Prop}
theorem Inv.big(I:Inv X pins σ H s):sysModules<s.heap.objs.size:=by
 have h:mainGlobals<s.heap.objs.size:=(I.mod.glob.keeps I.bk).lt
 exact Nat.lt_trans (by decide) h
theorem d_write{h':Heap}{t':Nat}{ob:HO}(I:Inv X pins σ H s)(mu:Mut (H a))(hs:bw a s.heap h')(he:∃q,h'.get? a=some q)(new:ObjOk X.prog X.w (upd H a ob) h' a ob) :
  Inv X pins σ (upd H a ob) {s with heap:=h',toks:=t'}:=
 I.write (x:=a) (e:=a) mu (.inl rfl) (λb q hb z=>(hs.2 b hb).trans z) he new
end
end L2
namespace L3
open PySem
open AutoSeq1 (wpAny_loadPart')
end L3
namespace L3
open PySem PySem.Spec PyProof.Rows L2
end L3
namespace L3
structure Mat where
 h:Nat
 w:Nat
 g:Nat->Nat->Nat
noncomputable def lineM(M:Mat)(r:Nat):List Nat:=(cx M.w).map (M.g r)
structure OkM(P:Nat->Prop)(M:Mat):Prop where
 h1:0<M.h
 h8:M.h<=8
 w1:0<M.w
 w8:M.w<=8
 sg:∀r c,r<M.h->c<M.w->P (M.g r c)
theorem strict_uniq{α:Type}{R:α->α->Prop}(as:∀x y,R x y->¬R y x):∀{xs ys:List α},xs.Pairwise R->ys.Pairwise R->(∀z,z∈xs↔z∈ys)->xs=ys
 | [],[],_,_,_=>rfl
 | [],y::ys,_,_,h=>absurd ((h y).mpr au) (by simp)
 | x::xs,[],_,_,h=>absurd ((h x).mp au) (by simp)
 | x::xs,y::ys,p,q,h=>by
  obtain⟨p1,p2⟩:=fu.mp p
  obtain⟨q1,q2⟩:=fu.mp q
  have e:x=y:=by
   rcases ax.mp ((h x).mp au)with e|a
   .exact e
   .rcases ax.mp ((h y).mpr au)with e|b
    .exact e.symm
    .exact absurd (q1 x a) (as _ _ (p1 y b))
  subst e
  refine congrArg _ (strict_uniq as p2 q2 λz=>⟨λhz=>?_,λhz=>?_⟩)
  .rcases ax.mp ((h z).mp (av _ hz))with e|a
   .subst e;exact absurd (p1 z hz) (λk=>as _ _ k k)
   .exact a
  .rcases ax.mp ((h z).mpr (av _ hz))with e|a
   .subst e;exact absurd (q1 z hz) (λk=>as _ _ k k)
   .exact a
end L3
namespace L3
open PySem PySem.W PySem.Calls PyProof.Rows
theorem zip_two{vs:List Value}{p:Keyed}(h:p∈(vs.toArray.zip vs.toArray).toList):p.1=p.2/\p.1∈vs:=mem_zip_self (by simpa using h)
theorem out_perm{vs:List Value}{arr:Array Keyed}(h:arr.Perm (vs.toArray.zip vs.toArray)):(arr.map (·.2)).toList.Perm vs:=by
 have h1:=(i9.mp h).map (·.2)
 have e:(vs.toArray.zip vs.toArray).toList.map (·.2)=vs:=by
  rw[show(vs.toArray.zip vs.toArray).toList=vs.zip vs by simp]
  exact List.map_snd_zip (ao _)
 rw[e]at h1
 rw[Array.toList_map]
 exact h1
theorem out_up{g:Value->Int}{vs:List Value}{arr:Array Keyed}(h:arr.Perm (vs.toArray.zip vs.toArray))(hs:Seg (λp=>g p.1) arr 0 (vs.toArray.zip vs.toArray).size):(arr.map (·.2)).toList.Pairwise λx y=>g x<=g y:=by
 have hsz:=h.size_eq
 rw[Array.toList_map,fk]
 refine fj.mpr λi j hi hj hij=>?_
 have hi':i<arr.size:=by simpa using hi
 have hj':j<arr.size:=by simpa using hj
 have q:=hs i j (en _) (by omega) (by omega)
 rw[Fk_some (getElem?_pos arr i hi'),Fk_some (getElem?_pos arr j hj')]at q
 have two:∀k (hk:k<arr.size),arr[k].1=arr[k].2:=λk hk=>(zip_two ((i9.mp h).mem_iff.mp (by simp))).1
 rw[two i hi',two j hj']at q
 simpa using q
section
variable{prog:Program}{w:World}{A:Around}{E:Value->Shared->Prop}{s:Shared}
theorem pq{a:Addr}{vs:List Value}{n:Nat}{κ:SortKind}{g:Value->Int}{P:PySem.Fin->Shared->Prop}(ho:s.heap.get? a=some (seqObj "list" vs.toArray n))(hz:vs.length<=sizeLine)
  (hk:2<=vs.length->∀s':Shared,(∀b o,b≠a->s.heap.get? b=some o->s'.heap.get? b=some o)->
   (∀(Q:SortKind->Shared->Prop) (E:Value->Shared->Prop),Q κ s'->wpAny (model prog w) A (keyKind' vs.toArray) Q E s')/\
   ∀x y,x∈vs->y∈vs->∀(Q:Bool->Shared->Prop),Q (decide (g x<g y)) s'->wpAny (model prog w) A (keyLt' κ x y) Q (λ_ _=>False) s')
  (h:∀us:List Value,us.Perm vs->us.Pairwise (λx y=>g x<=g y)->P (.done (.ret .none)) {s with heap:=sortedHeap s.heap a vs us.toArray}) :
  wpAny (model prog w) A (Builtin.«list.sort» ⟨[.ref a],[]⟩) P E s:=by
 have ha:a<s.heap.objs.size:=a9 ho
 obtain⟨e1,ho1⟩:∃e1,(s.heap.update a (gm λ_=>(#[]:Array Value))).get? a=some (seqObj "list" #[] e1):=⟨_,get?_update_seq ho λ_=>#[]⟩
 have ho6:(((s.heap.update a (gm λ_=>(#[]:Array Value))).push (seqObj "tuple" vs.toArray 0)).push (seqObj "list" #[] 0)).get? a=some (seqObj "list" #[] e1):=
  ai _ (ai _ ho1)
 have kept:∀b o,b≠a->s.heap.get? b=some o->(((s.heap.update a (gm λ_=>(#[]:Array Value))).push (seqObj "tuple" vs.toArray 0)).push (seqObj "list" #[] 0)).get? b=some o:=λb o hb e=>
  ai _ (ai _ ((cr s.heap _ (Ne.symm hb)).trans e))
 rw[list_sort_plain]
 refine aa (listItems_at ho rfl ?_)
 refine aa (listUpdate_at ho rfl ?_ (by rw[az];exact hz) (en _))
 refine aa (seqEpoch_at ho1 rfl ?_)
 refine aa (wpAny_newTuple ?_ (by show vs.length<=_;exact hz))
 refine aa (wpAny_newList ?_ (en _))
 refine ei ?_
 show wpAny (model prog w) A _ P E {s with heap:=((s.heap.update a (gm λ_=>(#[]:Array Value))).push (seqObj "tuple" vs.toArray 0)).push (seqObj "list" #[] 0)}
 dsimp only
 have rest:∀(st':SortSt),(arrOf st').Perm (vs.toArray.zip vs.toArray)->failedOf st'=none->Seg (λp=>g p.1) (arrOf st') 0 (vs.toArray.zip vs.toArray).size->∃us:List Value,us.Perm vs/\us.Pairwise (λx y=>g x<=g y)/\(arrOf st').map (·.2)=us.toArray:=λst' hp hf hs=>
  ⟨_,out_perm hp,out_up hp hs,Array.toArray_toList.symm⟩
 by_cases h2:vs.toArray.size<2
 .have h2':vs.length<2:=by simpa using h2
  rw[if_pos h2,if_pos h2]
  refine aa (af ?_)
  rw[StateT.run_pure]
  refine aa (af ?_)
  dsimp only
  obtain⟨us,u1,u2,e0⟩:=rest (SortSt.mk' general' (vs.toArray.zip vs.toArray) #[] 7 none) (Array.Perm.refl _) rfl (λi j hi hij hj=>by
   have hz2:(vs.toArray.zip vs.toArray).size=vs.length:=by simp
   obtain rfl:i=j:=by omega
   exact iz _)
  have hul:=u1.length_eq
  rw[e0]
  refine aa (seqEpoch_at ho6 rfl ?_)
  refine aa (listUpdate_at ho6 rfl ?_ (en _) (by rw[az,hul];exact Nat.le_succ_of_le hz))
  simp only[bne_self_eq_false,a8,if_false]
  exact af (h us u1 u2)
 .have h2':2<=vs.length:=by have:¬vs.length<2:=by simpa using h2
                            omega
  rw[if_neg h2,if_neg h2]
  obtain⟨k1,k2⟩:=hk h2' {s with heap:=((s.heap.update a (gm λ_=>(#[]:Array Value))).push (seqObj "tuple" vs.toArray 0)).push (seqObj "list" #[] 0)} kept
  refine aa (k1 _ _ ?_)
  refine aa (jg (wpS_sortAll (E:=E) (κ:=κ) (a₀:=vs.toArray.zip vs.toArray) (f:=λp=>g p.1) (mem:=λp=>p.1∈vs) (Q:=λ_ st'=>∃us:List Value,us.Perm vs/\us.Pairwise (λx y=>g x<=g y)/\(arrOf st').map (·.2)=us.toArray/\failedOf st'=none)
   (λx y hx hy Q hq=>k2 x.1 y.1 hx hy Q hq) (λx hx=>(zip_two hx).2) ⟨Array.Perm.refl _,rfl,rfl⟩ rfl (λst' B hs=>?_)) ?_ λ_ _ e=>e)
  .obtain⟨us,u1,u2,e0⟩:=rest st' B.perm B.failed hs
   exact⟨us,u1,u2,e0,B.failed⟩
  .rintro⟨⟨⟩,st'⟩ s' ⟨rfl,us,u1,u2,hout,hf⟩
   have hul:=u1.length_eq
   dsimp only at hout hf⊢
   rw[hout]
   refine aa (seqEpoch_at ho6 rfl ?_)
   refine aa (listUpdate_at ho6 rfl ?_ (en _) (by rw[az,hul];exact Nat.le_succ_of_le hz))
   rw[hf]
   simp only[bne_self_eq_false,a8,if_false]
   exact af (h us u1 u2)
theorem sorted_any{l:Addr}{vs:List Value}{κ:SortKind}{g:Value->Int}{Q:Value->Shared->Prop}(hl:s.heap.IsList l vs.toArray)(hz:vs.length<=sizeLine)
  (hk:2<=vs.length->∀s':Shared,(∀b o,s.heap.get? b=some o->s'.heap.get? b=some o)->
   (∀(Q:SortKind->Shared->Prop) (E:Value->Shared->Prop),Q κ s'->wpAny (model prog w) A.in1.in1 (keyKind' vs.toArray) Q E s')/\
   ∀x y,x∈vs->y∈vs->∀(Q:Bool->Shared->Prop),Q (decide (g x<g y)) s'->wpAny (model prog w) A.in1.in1 (keyLt' κ x y) Q (λ_ _=>False) s')
  (h:∀us:List Value,us.Perm vs->us.Pairwise (λx y=>g x<=g y)->Q (.ref (s.heap.objs.size+1)) {s with heap:=sortedAll s.heap vs us.toArray}) :
  wpAny (model prog w) A (call (.builtin "sorted") [.ref l]) Q E s:=by
 refine Calls.call_function_entry kind_sorted plain_sorted entry_sorted (args_sorted1 _) ?_
 unfold Builtin.«sorted»
 refine aa (m:=checkCount "sorted" 1 1 _) (af ?_)
 refine aa (collect_list hl ?_ hz)
 refine aa (wpAny_newList ?_ hz)
 have hsz:((s.heap.push (seqObj "list" #[] 0)).update s.heap.objs.size (gm (· ++ vs.toArray))).objs.size=s.heap.objs.size+1:=by
  rw[Heap.size_update,size_push']
 have hoL:(((s.heap.push (seqObj "list" #[] 0)).update s.heap.objs.size (gm (· ++ vs.toArray))).push (seqObj "list" vs.toArray 0)).get? (s.heap.objs.size+1)=some (seqObj "list" vs.toArray 0):=by
  rw[<-hsz];exact ay _ rfl
 have keep:∀b o,s.heap.get? b=some o->(((s.heap.push (seqObj "list" #[] 0)).update s.heap.objs.size (gm (· ++ vs.toArray))).push (seqObj "list" vs.toArray 0)).get? b=some o:=λb o q=>by
  have hlt:b<s.heap.objs.size:=a9 q
  exact ai _ ((cr _ _ (Ne.symm (cc hlt))).trans (ai _ q))
 show wpAny _ _ _ _ _ {s with heap:=((s.heap.push (seqObj "list" #[] 0)).update s.heap.objs.size (gm (· ++ vs.toArray))).push (seqObj "list" vs.toArray 0)}
 rw[hsz]
 refine aa (ei (b9 slot_list_sort ⟨_,hoL,rfl⟩ entry_list_sort ?body (args_list_sort _)))
 case body=>
  refine pq (κ:=κ) (g:=g) hoL hz (λh2 s' k=>hk h2 s' λb o e=>k b o (cc (ji (a9 e))) (keep b o e)) λus u1 u2=>?_
  exact⟨_,rfl,af ⟨_,rfl,h us u1 u2⟩⟩
end
end L3
namespace L3
open PySem PySem.Spec PyProof.Rows L2
theorem perm_lift{α β:Type}(g:α->β){us vs:List β}(p:us.Perm vs):∀{l:List α},l.map g=vs->∃l':List α,l'.Perm l/\l'.map g=us:=by
 induction p with
 | nil=>intro l e;exact⟨l,jc _,e⟩
 | cons x p ih=>
  intro l e
  match l,e with
  | a::l,e=>
   rw[e9]at e
   obtain⟨e1,e2⟩:=List.cons.inj e
   obtain⟨l',p1,e3⟩:=ih e2
   exact⟨a::l',p1.cons a,by rw[e9,e1,e3]⟩
 | swap x y r=>
  intro l e
  match l,e with
  | a::b::l,e=>
   rw[e9,e9]at e
   obtain⟨e1,e'⟩:=List.cons.inj e
   obtain⟨e2,e3⟩:=List.cons.inj e'
   exact⟨b::a::l,List.Perm.swap _ _ _,by rw[e9,e9,e1,e2,e3]⟩
 | trans p q ih1 ih2=>
  intro l e
  obtain⟨l1,p1,e1⟩:=ih2 e
  obtain⟨l2,p2,e2⟩:=ih1 e1
  exact⟨l2,p2.trans p1,e2⟩
theorem countP_less{α:Type}{p q:α->Bool}:∀{l:List α},(∀e∈l,p e=true->q e=true)->(∃e∈l,q e=true/\p e=false)->l.countP p<l.countP q
 | [],_,⟨e,he,_⟩=>by simp at he
 | a::l,h,⟨e,he,h1,h2⟩=>by
  have hl:∀e∈l,p e=true->q e=true:=λe he=>h e (av _ he)
  have mono:l.countP p<=l.countP q:=List.countP_mono_left hl
  rcases ax.mp he with rfl|he
  .rw[List.countP_cons_of_neg (by simp[h2]),List.countP_cons_of_pos h1]
   omega
  .have ih:=countP_less hl ⟨e,he,h1,h2⟩
   cases hp:p a with
   | true=>rw[List.countP_cons_of_pos hp,List.countP_cons_of_pos (h a au hp)];omega
   | false=>
    rw[List.countP_cons_of_neg (by simp[hp])]
    have:=List.countP_le_length (p:=q) (l:=l)
    cases hq:q a with
    | true=>rw[List.countP_cons_of_pos hq];omega
    | false=>rw[List.countP_cons_of_neg (by simp[hq])];exact ih
structure OrdD(lt:PyData->PyData->Bool)(ds:List PyData):Prop where
 asy:∀x∈ds,∀y∈ds,lt x y=true->lt y x=false
 tr:∀x∈ds,∀y∈ds,∀z∈ds,lt y x=false->lt z y=false->lt z x=false
noncomputable def rankD(lt:PyData->PyData->Bool)(ds:List PyData)(d:PyData):Int:=((ds.countP λe=>lt e d:Nat):Int)
theorem rank_lt{lt:PyData->PyData->Bool}{ds:List PyData}(o:OrdD lt ds){d e:PyData}(hd:d∈ds)(he:e∈ds):decide (rankD lt ds d<rankD lt ds e)=lt d e:=by
 have irr:∀x∈ds,lt x x=false:=λx hx=>by
  cases q:lt x x with
  | false=>rfl
  | true=>have:=o.asy x hx x hx q;rw[q]at this;exact this
 unfold rankD
 cases h:lt d e with
 | true=>
  refine decide_eq_true ?_
  have:=countP_less (p:=λz=>lt z d) (q:=λz=>lt z e) (l:=ds) (λz hz h1=>?_) ⟨d,hd,h,irr d hd⟩
  .omega
  .show lt z e=true
   cases q:lt z e with
   | true=>rfl
   | false=>rw[o.tr d hd e he z hz (o.asy d hd e he h) q]at h1;exact h1
 | false=>
  refine decide_eq_false ?_
  have:=List.countP_mono_left (p:=λz=>lt z e) (q:=λz=>lt z d) (l:=ds) λz hz h1=>?_
  .omega
  .show lt z d=true
   cases q:lt z d with
   | true=>rfl
   | false=>rw[o.tr e he d hd z hz h q]at h1;exact h1
theorem repAll_map{α:Type}{H:Hp}{f:α->PyData}{g:α->V}:∀{l:List α},(∀t∈l,Rep H (f t) (g t))->RepAll H (l.map f) (l.map g)
 | [],_=>rfl
 | t::l,h=>(x_EE _ _ ⟨rfl,h t au,repAll_map λt ht=>h t (av _ ht)⟩)
theorem vals_map{α:Type}{f:α->V}{g:α->Value}:∀{l:List α},(∀t∈l,RelV (f t) (g t))->Vals (l.map f) (l.map g)
 | [],_=>.nil
 | t::l,h=>.cons (h t au) (vals_map λt ht=>h t (av _ ht))
section
variable{X:Cx}{pins:List (Addr×Obj)}{σ:L2.St}{H:Hp}{s:Shared}{A:Around}{E:Value->Shared->Prop}
open Classical in
theorem sorted_data(I:Inv X pins σ H s){p:Addr}{ds:List PyData}{xs:List V}{its:List Value}{κ:SortKind}{lt:PyData->PyData->Bool}{Q:V->Hp->Prop}(hp:H p=some (.lst xs))(hds:RepAll H ds xs)(rv:Vals xs its)(pl:s.heap.IsList p its.toArray)(hz:xs.length<=sizeLine)(o:OrdD lt ds)
  (hk:2<=its.length->∀s':Shared,(∀b o,s.heap.get? b=some o->s'.heap.get? b=some o)->∀(Q:SortKind->Shared->Prop) (E:Value->Shared->Prop),Q κ s'->wpAny (model X.prog X.w) A.in1.in1 (keyKind' its.toArray) Q E s')
  (hc:∀s':Shared,(∀b o,s.heap.get? b=some o->s'.heap.get? b=some o)->∀(i j:Nat) (d e:PyData) (u v:Value),ds[i]?=some d->its[i]?=some u->ds[j]?=some e->its[j]?=some v->∀(Q:Bool->Shared->Prop),Q (lt d e) s'->wpAny (model X.prog X.w) A.in1.in1 (keyLt' κ u v) Q (λ_ _=>False) s')
  (q:∀l ys es,H l=none->es.Perm ds->es.Pairwise (λx y=>lt y x=false)->RepAll (upd H l (.lst ys)) es ys->Q (.ref l) (upd H l (.lst ys))) :
  wpAny (model X.prog X.w) A (call (.builtin "sorted") [.ref p]) (λu s'=>∃v H',Inv X pins σ H' s'/\RelV v u/\Q v H') E s:=by
 have l1:xs.length=ds.length:=hds.length
 have l2:xs.length=its.length:=rv.length
 obtain⟨g,hg⟩:∃g:Value->Int,∀(i:Nat) (d:PyData) (u:Value),ds[i]?=some d->its[i]?=some u->g u=rankD lt ds d:=by
  refine⟨λu=>if h:∃d,∃as,Reads s.heap u d as/\d∈ds then rankD lt ds h.choose else 0,λi d u h1 h2=>?_⟩
  obtain⟨x,e1,r1⟩:=hds.get h1
  obtain⟨u',e2,r2⟩:=rv.get e1
  rw[h2]at e2;cases e2
  obtain⟨as,rd⟩:=r1.reads I r2
  have hx:∃d,∃as,Reads s.heap u d as/\d∈ds:=(x_EE d as ⟨rd,am h1⟩)
  show(if h:∃d,∃as,Reads s.heap u d as/\d∈ds then rankD lt ds h.choose else 0)=_
  rw[dif_pos hx]
  obtain⟨bs,rb,_⟩:=hx.choose_spec
  rw[SeqAt.Reads.unique d hx.choose u as bs r1.lay rd rb]
 refine sorted_any (κ:=κ) (g:=g) pl (by omega) (λh2 s' k=>⟨hk h2 s' k,λx y hx hy Q' hq=>?_⟩) λus u1 u2=>?_
 .obtain⟨i,hi⟩:=bz.mp hx
  obtain⟨j,hj⟩:=bz.mp hy
  have hi':i<ds.length:=by have:=(ak.mp hi).1;omega
  have hj':j<ds.length:=by have:=(ak.mp hj).1;omega
  have di:=ab hi'
  have dj:=ab hj'
  rw[hg i _ x di hi,hg j _ y dj hj,rank_lt o (df hi') (df hj')]at hq
  exact hc s' k i j _ _ x y di hi dj hj Q' hq
 .have third:(ds.zip (xs.zip its)).map (λt=>t.2.2)=its:=by
   have:(ds.zip (xs.zip its)).map (λt=>t.2.2)=((ds.zip (xs.zip its)).map Prod.snd).map Prod.snd:=by rw[bp];rfl
   rw[this,List.map_snd_zip (by rw[List.length_zip];omega),List.map_snd_zip (by omega)]
  have first:(ds.zip (xs.zip its)).map (λt=>t.1)=ds:=List.map_fst_zip (by rw[List.length_zip];omega)
  obtain⟨T,tp,te⟩:=perm_lift (λt:PyData×V×Value=>t.2.2) u1 third
  have tm:∀t∈T,∃i:Nat,ds[i]?=some t.1/\xs[i]?=some t.2.1/\its[i]?=some t.2.2:=λt ht=>by
   obtain⟨i,hi⟩:=bz.mp (tp.mem_iff.mp ht)
   obtain⟨a1,a2⟩:=je.mp hi
   obtain⟨a3,a4⟩:=je.mp a2
   exact⟨i,a1,a3,a4⟩
  have tl:T.length=its.length:=by rw[tp.length_eq];have:=congrArg List.length third;simpa using this
  obtain⟨e,he⟩:=sortedAll_at s.heap its us.toArray
  have hn:H (s.heap.objs.size+1)=none:=I.hok.fresh (Nat.le_succ _)
  have hv:Vals (T.map λt=>t.2.1) us:=by
   rw[<-te]
   exact vals_map λt ht=>by
    obtain⟨i,_,a2,a3⟩:=tm t ht
    obtain⟨u,b1,b2⟩:=rv.get a2
    rw[a3]at b1;cases b1
    exact b2
  have hz':(T.map λt=>t.2.1).length<=sizeLine:=by rw[aj];omega
  have hsame:Same H (upd H (s.heap.objs.size+1) (.lst (T.map λt=>t.2.1))):=λb o q=>by rw[kv (lh q hn)];exact q
  refine(x_EE (.ref (s.heap.objs.size+1)) _ ⟨I.laid (t':=s.toks) (o:=.lst (T.map λt=>t.2.1)) (λb u e=>sortedAll_old e) (Nat.le_succ _) ⟨hz',(x_EE _ e ⟨hv,he⟩)⟩,rfl,q _ _ (T.map λt=>t.1) hn ?_ ?_ ?_⟩)
  .rw[<-first]
   exact tp.map _
  .rw[fk]
   have u3:=u2
   rw[<-te,fk]at u3
   refine fv (λ{a b} ha hb hab=>?_) u3
   obtain⟨i,a1,_,a3⟩:=tm a ha
   obtain⟨j,b1,_,b3⟩:=tm b hb
   rw[hg i _ _ a1 a3,hg j _ _ b1 b3]at hab
   rw[<-rank_lt o (am b1) (am a1)]
   exact decide_eq_false (by omega)
  .refine RepAll.same hsame (repAll_map λt ht=>?_)
   obtain⟨i,a1,a2,_⟩:=tm t ht
   obtain⟨x,b1,b2⟩:=hds.get a1
   rw[a2]at b1;cases b1
   exact b2
end
noncomputable def ltR(x y:PyData):Bool:=rowLt (rowOf x) (rowOf y)
theorem rows_ord{ks:List Bool}{ds:List PyData}(h:Rows ks ds):OrdD ltR ds:=by
 have at':∀d∈ds,Row (true::ks) (rowOf d):=λd hd=>by
  obtain⟨r,e,hr⟩:=h d hd
  rw[e];exact hr
 exact⟨λx hx y hy q=>rl_asy (at' x hx) (at' y hy) q,λx hx y hy z hz q1 q2=>rl_tr (at' x hx) (at' y hy) (at' z hz) q1 q2⟩
section
variable{X:Cx}
theorem call_sortedN:CallR X (.builtin "sorted") (λvs H Q=>∃p xs ds ks,vs=[.ref p]/\H p=some (.lst xs)/\RepAll H ds xs/\Rows ks ds/\
  ∀l ys es,H l=none->es.Perm ds->es.Pairwise (λx y=>ltR y x=false)->RepAll (upd H l (.lst ys)) es ys->Q (.ref l) (upd H l (.lst ys))):=by
 intro pins s σ H xs us Q I r h
 obtain⟨p,xs,ds,ks,rfl,hp,hds,hrows,q⟩:=h
 obtain⟨u,rfl,r1⟩:=vals1 r
 cases (show u=Value.ref p from r1)
 obtain⟨its,rv,pl,hz⟩:=I.list (SqL.of (K:=X.K) hp)
 have l1:xs.length=ds.length:=hds.length
 have l2:xs.length=its.length:=rv.length
 obtain⟨fs,kt,kf,ki⟩:=kat_tups I hds rv hrows
 refine sorted_data (κ:=tuples' true) (lt:=ltR) I hp hds rv pl.isList (by omega) (rows_ord hrows) (λh2 s' k Q' E' hq=>?_) (λs' k i j d e u v di ui dj vj Q' hq=>?_) q
 .refine PySem.W.kat_kind (T:=Value.type "int") (KatTups.keeps k kt) (by omega) (λv hv=>?_) rfl hq
  obtain⟨i,t,rfl⟩:=ki v hv
  exact PySem.W.Looks.of_pure rfl
 .have tup:∀(i:Nat) (d:PyData) (u:Value),ds[i]?=some d->its[i]?=some u->∃a o vs n bs row,u=.ref a/\d=.tuple row/\Row (true::ks) row/\s'.heap.get? a=some o/\o.data=.seq vs n/\ReadsAll s'.heap vs.toList row bs:=λi d u hd hu=>by
   obtain⟨x,e1,e2⟩:=hds.get hd
   obtain⟨u',e3,e4⟩:=rv.get e1
   rw[hu]at e3;cases e3
   obtain⟨row,e5,hrow⟩:=hrows _ (am hd)
   obtain⟨a,o,vs,n,bs,_,_,rfl,g1,_,g3,g4,_⟩:=tup_of I e2 e4 e5 hrow
   exact(lg a o vs n bs ⟨row,rfl,e5,hrow,k _ _ g1,g3,ReadsAll.keeps k g4⟩)
  obtain⟨a,o,vs,n,as1,row,rfl,rfl,e3,e4,e5,e6⟩:=tup i d u di ui
  obtain⟨a',o',vs',n',as2,row',rfl,rfl,f3,f4,f5,f6⟩:=tup j e v dj vj
  have hq':Q' (rowLt row row') s':=hq
  have z1:vs.size=ks.length+1:=by have q1:=gr _ _ _ e6;have q2:=e3.len;simp at q1 q2;omega
  have z2:vs'.size=ks.length+1:=by have q1:=gr _ _ _ f6;have q2:=f3.len;simp at q1 q2;omega
  refine PySem.W.kat_lt e4 e5 f4 f5 ?_
  rw[decide_eq_false (by omega)]
  exact lex_rows e3 f3 e6 f6 hq'
theorem rows_uniq{ks:List Bool}{ds es:List PyData}(h:Rows ks ds)(p:es.Perm ds)(u:es.Pairwise (λx y=>ltR y x=false)):es=sortD ds:=by
 refine perm_uniq (R:=λx y=>ltR y x=false) (p.trans (o4 ds).symm) u ?_ λx hx y hy h1 h2=>?_
 .rw[fj]
  intro i j hi hj hij
  exact sortD_up h (ab hi) (ab hj) (ic hij)
 .obtain⟨r,e,hr⟩:=h x (p.mem_iff.mp hx)
  obtain⟨r',e',hr'⟩:=h y (p.mem_iff.mp hy)
  subst e e'
  have h2':rowLt r r'=false:=h2
  have h1':rowLt r' r=false:=h1
  rw[rl_eq hr hr' h2' h1']
theorem call_sortedD:CallR X (.builtin "sorted") (λvs H Q=>∃p xs ds ks,vs=[.ref p]/\H p=some (.lst xs)/\RepAll H ds xs/\Rows ks ds/\ds.length<64/\
  ∀l ys,H l=none->RepAll (upd H l (.lst ys)) (sortD ds) ys->Q (.ref l) (upd H l (.lst ys))):=by
 intro pins s σ H xs us Q I r h
 obtain⟨p,xs,ds,ks,rfl,hp,hds,hrows,h64,q⟩:=h
 refine call_sortedN pins s σ H _ us Q I r (nv p xs ds ks ⟨rfl,hp,hds,hrows,λl ys es hl pe ue re=>?_⟩)
 rw[rows_uniq hrows pe ue]at re
 exact q l ys hl re
end
noncomputable def spotM(M:Mat)(r c:Nat):PyData:=.tuple [.int (r:Nat),.int (c:Nat),.str ⟨#[M.g r c]⟩]
noncomputable def strsM(M:Mat):List Str:=(cx M.h).map λr=>⟨(lineM M r).toArray⟩
theorem div_at{w r c:Nat}(hc:c<w):(r*w+c)/w=r:=by
 rw[Nat.mul_comm,Nat.mul_add_div (by omega),Nat.div_eq_of_lt hc,Nat.add_zero]
theorem mod_at{w r c:Nat}(hc:c<w):(r*w+c) % w=c:=by
 rw[Nat.mul_comm,Nat.mul_add_mod,gh hc]
noncomputable def lt2(x y:PyData):Prop:=row1 x<row1 y\/row1 x=row1 y/\col1 x<col1 y
theorem lt2_asy(x y:PyData)(h:lt2 x y):¬lt2 y x:=by
 unfold lt2 at *
 omega
noncomputable def SgP(c:Nat):Prop:=sgB c=true
theorem sg128{c:Nat}(h:SgP c):c<128:=by
 unfold SgP sgB at h
 simp at h
 omega
noncomputable def FlM(H:Hp)(a:Addr)(M:Mat):Prop:=H a=some (.tup ((strsM M).map V.str))/\OkM SgP M
theorem FlM.same{H H':Hp}{a:Addr}{M:Mat}(h:FlM H a M)(s:Same H H'):FlM H' a M:=⟨s _ _ h.1,h.2⟩
theorem oq(M:Mat):(strsM M).length=M.h:=by unfold strsM;simp
theorem strs_at{M:Mat}{r:Nat}(h:r<M.h):(strsM M)[r]?=some ⟨(lineM M r).toArray⟩:=by
 unfold strsM
 rw[be,List.getElem?_range h]
 rfl
theorem line_len(M:Mat)(r:Nat):(lineM M r).length=M.w:=by unfold lineM;simp
theorem line_at{M:Mat}{r c:Nat}(h:c<M.w):(lineM M r)[c]?=some (M.g r c):=by
 unfold lineM
 rw[be,List.getElem?_range h]
 rfl
theorem line_sg{M:Mat}(o:OkM SgP M){r:Nat}(hr:r<M.h):∀c∈lineM M r,SgP c:=λc hc=>by
 unfold lineM at hc
 obtain⟨k,hk,rfl⟩:=bi.mp hc
 exact o.sg r k hr (by simpa using hk)
theorem strs_mem{M:Mat}{z:Str}(h:z∈strsM M):∃r,r<M.h/\z=⟨(lineM M r).toArray⟩:=by
 unfold strsM at h
 obtain⟨r,hr,rfl⟩:=bi.mp h
 exact⟨r,by simpa using hr,rfl⟩
end L3
namespace L3
open PySem
noncomputable def sm5:Nat->Nat
 | 0=>0
 | m+1=>5*sm5 m+1
noncomputable def g5(m i:Nat):Nat:=5^m*i+sm5 m
theorem g5_succ(m i:Nat):g5 (m+1) i=5*g5 m i+1:=by
 show 5^(m+1)*i+(5*sm5 m+1)=5*(5^m*i+sm5 m)+1
 rw[j7,Nat.mul_add,Nat.mul_comm (5^m) 5,Nat.mul_assoc,Nat.add_assoc]
theorem g5_add(m n i:Nat):g5 (m+n) i=g5 m (g5 n i):=by
 induction m with
 | zero=>rw[Nat.zero_add];unfold g5 sm5;simp
 | succ m ih=>rw[Nat.succ_add,g5_succ,ih,g5_succ]
theorem sm5_add(m n:Nat):sm5 (m+n)=5^m*sm5 n+sm5 m:=by
 have h:=g5_add m n 0
 unfold g5 at h
 simpa using h
theorem five_two:∀k,∃c d:Nat,5^(2^k)=1+2^(k+2)*c/\sm5 (2^k)=2^k*(2*d+1)
 | 0=>(x_EE 1 0 ⟨rfl,rfl⟩)
 | k+1=>by
  obtain⟨c,d,h1,h2⟩:=five_two k
  have e:2^(k+1)=2^k+2^k:=by rw[j7];omega
  refine(x_EE (c+2^(k+1)*c*c) (d+2^k*c*(2*d+1)) ⟨?_,?_⟩)
  .rw[e,Nat.pow_add,h1,show 2^(k+1+2)=8*2^k by rw[Nat.pow_add,Nat.pow_add];omega,show 2^(k+2)=4*2^k by rw[Nat.pow_add];omega]
   generalize 2^k=A
   grind
  .rw[e,sm5_add,h1,h2,show 2^(k+2)=4*2^k by rw[Nat.pow_add];omega]
   generalize 2^k=A
   grind
theorem g5_half(k i:Nat):g5 (2^k) i % 2^(k+1)=(i+2^k) % 2^(k+1):=by
 obtain⟨c,d,h1,h2⟩:=five_two k
 unfold g5
 rw[h1,h2]
 have e3:2^(k+2)=2^(k+1)*2:=by rw[show k+2=(k+1)+1 by omega,j7]
 have e:(1+2^(k+2)*c)*i+2^k*(2*d+1)=(i+2^k)+2^(k+1)*(2*(c*i)+d):=by
  rw[e3,j7]
  generalize 2^k=A
  simp only[Nat.add_mul,Nat.mul_add,Nat.one_mul,Nat.mul_one,Nat.mul_assoc,Nat.mul_comm,Nat.mul_left_comm]
  omega
 rw[e,Nat.add_mul_mod_self_left]
theorem g5_all:∀(k i j:Nat),∃m,m<2^k/\g5 m i % 2^k=j % 2^k
 | 0,i,j=>⟨0,by decide,by simp[Nat.mod_one]⟩
 | k+1,i,j=>by
  obtain⟨m,hm,e⟩:=g5_all k i j
  have e2:2^(k+1)=2*2^k:=by rw[j7];omega
  by_cases h:g5 m i % 2^(k+1)=j % 2^(k+1)
  .exact⟨m,by omega,h⟩
  .refine⟨2^k+m,by omega,?_⟩
   rw[g5_add,g5_half]
   have a:=Nat.mod_add_div (g5 m i) (2^(k+1))
   have l1:g5 m i % 2^(k+1)<2^(k+1):=Nat.mod_lt _ (by rw[e2];have:=Nat.two_pow_pos k;omega)
   have l2:j % 2^(k+1)<2^(k+1):=Nat.mod_lt _ (by rw[e2];have:=Nat.two_pow_pos k;omega)
   have m1:g5 m i % 2^(k+1) % 2^k=g5 m i % 2^k:=Nat.mod_mod_of_dvd _ ⟨2,by rw[e2];omega⟩
   have m2:j % 2^(k+1) % 2^k=j % 2^k:=Nat.mod_mod_of_dvd _ ⟨2,by rw[e2];omega⟩
   rw[Nat.add_mod,gh (show 2^k<2^(k+1) by have:=Nat.two_pow_pos k;omega)]
   generalize g5 m i % 2^(k+1)=x at *
   generalize j % 2^(k+1)=y at *
   rw[<-m1,<-m2]at e
   generalize 2^(k+1)=A at *
   generalize 2^k=B at *
   subst e2
   have hx:x % B=if x<B then x else x-B:=by
    split
    .exact gh (by assumption)
    .rw[Nat.mod_eq_sub_mod (by omega),gh (by omega)]
   have hy:y % B=if y<B then y else y-B:=by
    split
    .exact gh (by assumption)
    .rw[Nat.mod_eq_sub_mod (by omega),gh (by omega)]
   rw[hx,hy]at e
   have hz:(x+B) % (2*B)=if x+B<2*B then x+B else x+B-2*B:=by
    split
    .exact gh (by assumption)
    .rw[Nat.mod_eq_sub_mod (by omega),gh (by omega)]
   rw[hz]
   split at e<;>split at e<;>split<;>omega
open SetTable
noncomputable def itn{α:Type}(f:α->α):Nat->α->α
 | 0,x=>x
 | n+1,x=>itn f n (f x)
theorem o0{α:Type}(f:α->α):∀(m n:Nat) (x:α),itn f (m+n) x=itn f n (itn f m x)
 | 0,n,x=>by rw[Nat.zero_add];rfl
 | m+1,n,x=>by rw[Nat.succ_add];exact o0 f m n (f x)
theorem itn_succ{α:Type}(f:α->α)(n:Nat)(x:α):itn f (n+1) x=f (itn f n x):=by
 rw[o0 f n 1 x];rfl
noncomputable def adv(mask:Nat)(p:Probe):Probe:=
 if p.more>0 then{p with j:=p.j+1,more:=p.more-1}else
 {p with j:=(leap mask p.i p.perturb).1,more:=runEnd mask (leap mask p.i p.perturb).1-(leap mask p.i p.perturb).1,i:=(leap mask p.i p.perturb).1,perturb:=(leap mask p.i p.perturb).2}
noncomputable def lp(mask:Nat)(x:Nat×Nat):Nat×Nat:=leap mask x.1 x.2
noncomputable def at0(mask:Nat)(x:Nat×Nat)(d:Option Nat):Probe:=⟨x.1,runEnd mask x.1-x.1,x.1,x.2,d⟩
theorem run_le(mask i:Nat):runEnd mask i-i<=9:=by unfold runEnd;split<;>omega
theorem to_leap(mask:Nat):∀(m:Nat) (p:Probe),p.more=m->itn (adv mask) (m+1) p=at0 mask (lp mask (p.i,p.perturb)) p.dummy
 | 0,p,h=>by
  show adv mask p=_
  unfold adv
  rw[if_neg (by omega)]
  rfl
 | m+1,p,h=>by
  show itn (adv mask) (m+1) (adv mask p)=_
  have e:adv mask p={p with j:=p.j+1,more:=p.more-1}:=by unfold adv;rw[if_pos (by omega)]
  rw[e,to_leap mask m _ (by show p.more-1=m;omega)]
theorem leaps(mask:Nat):∀(m:Nat) (x:Nat×Nat) (d:Option Nat),∃n,n<=10*m/\itn (adv mask) n (at0 mask x d)=at0 mask (itn (lp mask) m x) d
 | 0,x,d=>⟨0,ao _,rfl⟩
 | m+1,x,d=>by
  have h:=to_leap mask _ (at0 mask x d) rfl
  obtain⟨n,hn,e⟩:=leaps mask m (lp mask x) d
  refine⟨((at0 mask x d).more+1)+n,?_,?_⟩
  .have:(at0 mask x d).more<=9:=run_le mask x.1
   omega
  .rw[o0,h]
   exact e
theorem per_small(mask:Nat):∀(m:Nat) (x:Nat×Nat) (b:Nat),x.2<32^b->(itn (lp mask) m x).2<32^(b-m)
 | 0,x,b,h=>by simpa [itn]using h
 | m+1,x,b,h=>by
  have h':(lp mask x).2<32^(b-1):=by
   show x.2/32<32^(b-1)
   cases b with
   | zero=>simp at h;simp[h]
   | succ b=>
    rw[j7]at h
    simpa using Nat.div_lt_of_lt_mul (by omega)
  have:=per_small mask m (lp mask x) (b-1) h'
  rw[show b-(m+1)=b-1-m by omega]
  exact this
theorem plain_leaps{mask k:Nat}(hk:mask+1=2^k):∀(m i:Nat),i<2^k->itn (lp mask) m (i,0)=(g5 m i % 2^k,0)
 | 0,i,h=>by
  have e:g5 0 i=i:=by unfold g5 sm5;simp
  rw[e,gh h]
  rfl
 | m+1,i,h=>by
  rw[itn_succ,plain_leaps hk m i h]
  show((g5 m i % 2^k*5+1+0/32) % (mask+1),0/32)=_
  rw[hk,g5_succ]
  have e:(g5 m i % 2^k*5+1+0/32) % 2^k=(5*g5 m i+1) % 2^k:=by
   rw[show 0/32=0 from rfl,Nat.add_zero,Nat.mul_comm,Nat.add_mod,Nat.mul_mod,Nat.mod_mod,<-Nat.mul_mod,<-Nat.add_mod]
  rw[e]
theorem lp_lt{mask k:Nat}(hk:mask+1=2^k)(x:Nat×Nat):(lp mask x).1<2^k:=by
 show(x.1*5+1+x.2/32) % (mask+1)<2^k
 rw[hk]
 exact Nat.mod_lt _ (Nat.two_pow_pos k)
theorem reach{mask k:Nat}(hk:mask+1=2^k)(p:Probe)(hm:p.more<=9)(hp:p.perturb<2^64)(j:Nat)(hj:j<=mask):∃n,n<10*turns mask/\(itn (adv mask) n p).j=j:=by
 have h1:=to_leap mask p.more p rfl
 obtain⟨n2,hn2,e2⟩:=leaps mask 12 (lp mask (p.i,p.perturb)) p.dummy
 have hz:(itn (lp mask) 12 (lp mask (p.i,p.perturb))).2<32^(13-13):=by
  have:=per_small mask 13 (p.i,p.perturb) 13 (by show p.perturb<32^13;exact cj hp (by decide))
  exact this
 have hz0:(itn (lp mask) 12 (lp mask (p.i,p.perturb))).2=0:=by simpa using hz
 have hi:(itn (lp mask) 12 (lp mask (p.i,p.perturb))).1<2^k:=by
  rw[itn_succ]
  exact lp_lt hk _
 generalize itn (lp mask) 12 (lp mask (p.i,p.perturb))=y at *
 obtain⟨y1,y2⟩:=y
 simp only at hz0 hi
 subst hz0
 obtain⟨m,hm2,e3⟩:=g5_all k y1 j
 obtain⟨n3,hn3,e4⟩:=leaps mask m (y1,0) p.dummy
 rw[plain_leaps hk m y1 hi,e3,gh (by omega)]at e4
 refine⟨(p.more+1)+(n2+n3),?_,?_⟩
 .unfold turns
  omega
 .rw[o0,h1,o0,e2,e4]
  rfl
end L3
namespace L3
open PySem SetTable
noncomputable def Low(xs:Array Nat)(j b:Nat):Prop:=b<=xs.size/\(∀i v,i<b->xs[i]?=some v->v<j)/\(∀i v,b<=i->xs[i]?=some v->j<=v)
theorem rise_at{xs:Array Nat}(h:xs.toList.Pairwise (· < ·)){i k v u:Nat}(hi:xs[i]?=some v)(hk:xs[k]?=some u)(hik:i<k):v<u:=by
 rw[<-a0]at hi hk
 obtain⟨h1,rfl⟩:=ak.mp hi
 obtain⟨h2,rfl⟩:=ak.mp hk
 exact fj.mp h i k h1 h2 hik
theorem below_go{xs:Array Nat}(h:xs.toList.Pairwise (· < ·))(j:Nat):∀(fuel lo hi:Nat),hi-lo<=fuel->lo<=hi->hi<=xs.size->(∀i v,i<lo->xs[i]?=some v->v<j)->(∀i v,hi<=i->xs[i]?=some v->j<=v)->
  Low xs j (below.go xs j fuel lo hi)
 | 0,lo,hi,h1,h2,h3,a,b=>by
  have e:lo=hi:=by omega
  subst e
  exact⟨h3,a,b⟩
 | fuel+1,lo,hi,h1,h2,h3,a,b=>by
  unfold below.go
  by_cases hlt:lo<hi
  .rw[if_pos hlt]
   have hm:(lo+hi)/2<xs.size:=by omega
   have e:xs.getD ((lo+hi)/2) j=xs[(lo+hi)/2]:=by simp[Array.getD,hm]
   have e':xs[(lo+hi)/2]?=some xs[(lo+hi)/2]:=by simp[hm]
   dsimp only
   rw[e]
   by_cases hc:xs[(lo+hi)/2]<j
   .rw[if_pos hc]
    refine below_go h j fuel _ _ (by omega) (by omega) h3 (λi v hi' hv=>?_) b
    by_cases q:i=(lo+hi)/2
    .subst q;rw[e']at hv;cases hv;exact hc
    .have:=rise_at h hv e' (by omega)
     omega
   .rw[if_neg hc]
    refine below_go h j fuel _ _ (by omega) (by omega) (by omega) a (λi v hi' hv=>?_)
    by_cases q:i=(lo+hi)/2
    .subst q;rw[e']at hv;cases hv;omega
    .have:=rise_at h e' hv (by omega)
     omega
  .rw[if_neg hlt]
   have e:lo=hi:=by omega
   subst e
   exact⟨h3,a,b⟩
theorem below_low{xs:Array Nat}(h:xs.toList.Pairwise (· < ·))(j:Nat):Low xs j (below xs j):=
 below_go h j xs.size 0 xs.size (by omega) (by omega) (ao _) (λi v hi=>by omega) (λi v hi hv=>by
  have:=(bh.mp hv).1
  omega)
theorem below_at{xs:Array Nat}(h:xs.toList.Pairwise (· < ·)){i j:Nat}(hi:xs[i]?=some j):below xs j=i:=by
 obtain⟨a,b,c⟩:=below_low h j
 by_cases q:i<below xs j
 .have:=b i j q hi;omega
 by_cases q2:below xs j<i
 .have hl:=(bh.mp hi).1
  have e':xs[below xs j]?=some xs[below xs j]:=by simp
  have:=rise_at h e' hi q2
  have:=c _ _ (ao _) e'
  omega
 .omega
theorem slot_live{t:SetTable}(h:t.place.toList.Pairwise (· < ·)){i j:Nat}(hi:t.place[i]?=some j):t.slot j=.live i:=by
 unfold slot
 rw[below_at h hi]
 dsimp only
 rw[hi,if_pos (by simp)]
theorem slot_empty{t:SetTable}(h:t.place.toList.Pairwise (· < ·))(hd:t.dummies=#[]){j:Nat}(hj:j∉t.place.toList):t.slot j=.empty:=by
 unfold slot
 dsimp only
 rw[if_neg,if_neg]
 .rw[hd];unfold has;simp
 .intro e
  have e':t.place[below t.place j]?=some j:=by simpa using e
  apply hj
  rw[<-a0]at e'
  exact am e'
theorem place_at{t:SetTable}{j:Nat}(hj:j∈t.place.toList):∃i:Nat,t.place[i]?=some j:=by
 obtain⟨i,h⟩:=h9 hj
 exact⟨i,by rw[<-a0];exact h⟩
theorem mr{α:Type}(xs:Array α)(p:Nat)(x:α):(insertAt xs p x).toList=xs.toList.take p++x::xs.toList.drop p:=by
 unfold insertAt
 simp[Array.toList_extract]
 rw[a7 (by simp)]
theorem insert_rise{xs:Array Nat}(h:xs.toList.Pairwise (· < ·)){j:Nat}(hj:j∉xs.toList):(insertAt xs (below xs j) j).toList.Pairwise (· < ·):=by
 obtain⟨a,b,c⟩:=below_low h j
 rw[mr,da]
 refine⟨h.sublist (List.take_sublist _ _),?_,?_⟩
 .rw[fu]
  refine⟨λv hv=>?_,h.sublist (List.drop_sublist _ _)⟩
  obtain⟨i,hi⟩:=h9 hv
  rw[eu,a0]at hi
  have:=c _ v (by omega) hi
  have:v≠j:=λe=>hj (by rw[<-e];rw[<-a0]at hi;exact am hi)
  omega
 .intro u hu v hv
  obtain⟨i,hi⟩:=h9 hu
  have hi2:i<below xs j:=by
   have:=(ak.mp hi).1
   rw[bx]at this
   omega
  rw[dh hi2,a0]at hi
  have h1:=b i u hi2 hi
  rcases ax.mp hv with rfl|hv
  .exact h1
  .obtain⟨i',hi'⟩:=h9 hv
   rw[eu,a0]at hi'
   have:=c _ v (by omega) hi'
   omega
noncomputable def Side(ps:List Nat)(es:List (Int×Value))(j:Nat)(e:Int×Value):Prop:=∃i:Nat,ps[i]?=some j/\es[i]?=some e
theorem side_insert{ps:List Nat}{es:List (Int×Value)}(hl:ps.length=es.length)(p j0:Nat)(hp:p<=ps.length)(e0:Int×Value){j:Nat}{e:Int×Value} :
  Side (ps.take p++j0::ps.drop p) (es.take p++e0::es.drop p) j e↔(j=j0/\e=e0)\/Side ps es j e:=by
 have l1:(ps.take p).length=p:=by rw[bx];omega
 have l2:(es.take p).length=p:=by rw[bx];omega
 constructor
 .rintro⟨i,h1,h2⟩
  by_cases hi:i<p
  .rw[gd (by omega),dh hi]at h1 h2
   exact .inr ⟨i,h1,h2⟩
  .rw[c9 (by omega),l1]at h1
   rw[c9 (by omega),l2]at h2
   cases hq:i-p with
   | zero=>rw[hq]at h1 h2;cases h1;cases h2;exact .inl ⟨rfl,rfl⟩
   | succ q=>
    rw[hq,List.getElem?_cons_succ,eu]at h1 h2
    exact .inr ⟨p+q,h1,h2⟩
 .rintro(⟨rfl,rfl⟩|⟨i,h1,h2⟩)
  .exact⟨p,by rw[c9 (by omega),l1,Nat.sub_self];rfl,by rw[c9 (by omega),l2,Nat.sub_self];rfl⟩
  .by_cases hi:i<p
   .exact⟨i,by rw[gd (by omega),dh hi];exact h1,by rw[gd (by omega),dh hi];exact h2⟩
   .refine⟨i+1,?_,?_⟩
    .rw[c9 (by omega),l1,show i+1-p=(i-p)+1 by omega,List.getElem?_cons_succ,eu,show p+(i-p)=i by omega];exact h1
    .rw[c9 (by omega),l2,show i+1-p=(i-p)+1 by omega,List.getElem?_cons_succ,eu,show p+(i-p)=i by omega];exact h2
noncomputable def st0(mask:Nat)(h:Int):Probe:=at0 mask (bits h % (mask+1),bits h) none
theorem start_eq(t:SetTable)(h:Int):t.probeStart h=st0 t.mask h:=rfl
noncomputable def road(mask:Nat)(h:Int)(n:Nat):Nat:=(itn (adv mask) n (st0 mask h)).j
theorem bits_lt(h:Int):bits h<2^64:=by unfold bits;omega
noncomputable def Stand(mask:Nat)(p:Probe):Prop:=p.more<=9/\p.perturb<2^64/\p.j+p.more<=mask
theorem at0_stand(mask:Nat)(x:Nat×Nat)(d:Option Nat)(h1:x.1<=mask)(h2:x.2<2^64):Stand mask (at0 mask x d):=by
 refine⟨run_le mask x.1,h2,?_⟩
 show x.1+(runEnd mask x.1-x.1)<=mask
 unfold runEnd
 split<;>omega
theorem adv_stand{mask:Nat}{p:Probe}(h:Stand mask p):Stand mask (adv mask p):=by
 obtain⟨h1,h2,h3⟩:=h
 unfold adv
 split
 .exact⟨by simp only;omega,h2,by simp only;omega⟩
 .refine at0_stand mask (leap mask p.i p.perturb) p.dummy ?_ ?_
  .show(p.i*5+1+p.perturb/32) % (mask+1)<=mask
   have:=Nat.mod_lt (p.i*5+1+p.perturb/32) (show 0<mask+1 by omega)
   omega
  .show p.perturb/32<2^64
   omega
theorem itn_stand{mask:Nat}:∀(n:Nat) {p:Probe},Stand mask p->Stand mask (itn (adv mask) n p)
 | 0,_,h=>h
 | n+1,_,h=>itn_stand n (adv_stand h)
theorem st0_stand(mask:Nat)(h:Int):Stand mask (st0 mask h):=at0_stand mask _ _ (by
 have:=Nat.mod_lt (bits h) (show 0<mask+1 by omega)
 show bits h % (mask+1)<=mask
 omega) (bits_lt h)
theorem road_le(mask:Nat)(h:Int)(n:Nat):road mask h n<=mask:=by
 have:=(itn_stand n (st0_stand mask h)).2.2
 unfold road
 omega
structure TOk(t:SetTable)(es:Array (Int×Value)):Prop where
 two:∃k,t.mask+1=2^k/\3<=k/\k<=13/\k % 2=1
 dm:t.dummies=#[]
 rise:t.place.toList.Pairwise (· < ·)
 bd:∀j∈t.place.toList,j<=t.mask
 sz:t.place.size=es.size
 fit:t.place.size<=t.mask
 onroad:∀j e,Side t.place.toList es.toList j e->∃n,road t.mask e.1 n=j/\∀n',n'<n->road t.mask e.1 n'∈t.place.toList
theorem pigeon{ps:List Nat}{m:Nat}(h:ps.length<=m):∃j,j<=m/\j∉ps:=by
 apply ik
 intro hn
 have hall:∀j,j<=m->j∈ps:=λj hj=>ik λq=>hn ⟨j,hj,q⟩
 have:=List.Nodup.length_le_of_subset (l₁:=cx (m+1)) (l₂:=ps) List.nodup_range (λj hj=>hall j (by have:=f7.mp hj;omega))
 rw[gk]at this
 omega
theorem go_spec{t:SetTable}{es:Array (Int×Value)}(ok:TOk t es)(hashAt:Nat->Int)(h:Int):∀(fuel:Nat) (p:Probe),(∃n,n<fuel/\(itn (adv t.mask) n p).j∉t.place.toList)->
  (∃n,probe.go t hashAt h fuel p=some (.empty (itn (adv t.mask) n p).j p.dummy)/\(itn (adv t.mask) n p).j∉t.place.toList/\∀n',n'<n->∃i:Nat,t.place[i]?=some (itn (adv t.mask) n' p).j/\hashAt i≠h)\/
  (∃n i,probe.go t hashAt h fuel p=some (.candidate (itn (adv t.mask) n p).j i (itn (adv t.mask) (n+1) p))/\t.place[i]?=some (itn (adv t.mask) n p).j/\hashAt i=h/\∀n',n'<n->∃i':Nat,t.place[i']?=some (itn (adv t.mask) n' p).j/\hashAt i'≠h)
 | 0,p,⟨n,hn,_⟩=>by omega
 | fuel+1,p,⟨n,hn,hfree⟩=>by
  by_cases hp:p.j∈t.place.toList
  .obtain⟨i,hi⟩:=place_at hp
   have hs:=slot_live ok.rise hi
   by_cases hh:hashAt i=h
   .refine .inr (x_EE 0 i ⟨?_,hi,hh,λn' hn'=>by omega⟩)
    unfold probe.go
    rw[hs]
    dsimp only
    rw[if_pos (by simp[hh])]
    rfl
   .have hrest:∃n,n<fuel/\(itn (adv t.mask) n (adv t.mask p)).j∉t.place.toList:=by
     cases n with
     | zero=>exact absurd hp hfree
     | succ n=>exact⟨n,by omega,hfree⟩
    have hgo:probe.go t hashAt h (fuel+1) p=probe.go t hashAt h fuel (adv t.mask p):=by
     rw[probe.go,hs]
     dsimp only
     rw[if_neg (by simp[hh])]
     rfl
    have hd:(adv t.mask p).dummy=p.dummy:=by unfold adv;split<;>rfl
    have lift:∀{n:Nat},(∀n',n'<n->∃i':Nat,t.place[i']?=some (itn (adv t.mask) n' (adv t.mask p)).j/\hashAt i'≠h)->∀n',n'<n+1->∃i':Nat,t.place[i']?=some (itn (adv t.mask) n' p).j/\hashAt i'≠h:=λH n' hn'=>by
     cases n' with
     | zero=>exact⟨i,hi,hh⟩
     | succ n'=>exact H n' (by omega)
    rcases go_spec ok hashAt h fuel (adv t.mask p) hrest with ⟨m,e,f,g⟩|⟨m,i',e,f,g,g'⟩
    .exact .inl ⟨m+1,by rw[hgo,e,hd];rfl,f,lift g⟩
    .exact .inr (x_EE (m+1) i' ⟨by rw[hgo,e];rfl,f,g,lift g'⟩)
  .refine .inl ⟨0,?_,hp,λn' hn'=>by omega⟩
   unfold probe.go
   rw[slot_empty ok.rise ok.dm hp]
   rfl
theorem probe_spec{t:SetTable}{es:Array (Int×Value)}(ok:TOk t es)(hashAt:Nat->Int)(h:Int){p:Probe}(st:Stand t.mask p) :
  (∃n,t.probe hashAt h p=some (.empty (itn (adv t.mask) n p).j p.dummy)/\(itn (adv t.mask) n p).j∉t.place.toList/\∀n',n'<n->∃i:Nat,t.place[i]?=some (itn (adv t.mask) n' p).j/\hashAt i≠h)\/
  (∃n i,t.probe hashAt h p=some (.candidate (itn (adv t.mask) n p).j i (itn (adv t.mask) (n+1) p))/\t.place[i]?=some (itn (adv t.mask) n p).j/\hashAt i=h/\∀n',n'<n->∃i':Nat,t.place[i']?=some (itn (adv t.mask) n' p).j/\hashAt i'≠h):=by
 obtain⟨k,hk,_,_⟩:=ok.two
 obtain⟨j,hj,hn⟩:=pigeon (ps:=t.place.toList) (m:=t.mask) (by rw[aw];exact ok.fit)
 obtain⟨n,hl,e⟩:=reach hk p st.1 st.2.1 j hj
 exact go_spec ok hashAt h _ p ⟨n,hl,by rw[e];exact hn⟩
theorem TOk.ahead{t:SetTable}{es:Array (Int×Value)}(ok:TOk t es){j:Nat}{e:Int×Value}(hs:Side t.place.toList es.toList j e){n:Nat}(hf:road t.mask e.1 n∉t.place.toList):∃m,m<n/\road t.mask e.1 m=j:=by
 obtain⟨m,h1,h2⟩:=ok.onroad j e hs
 refine⟨m,?_,h1⟩
 apply ik
 intro hm
 by_cases q:n<m
 .exact hf (h2 n q)
 .have:m=n:=by omega
  subst this
  rw[h1]at hf
  obtain⟨i,hi,_⟩:=hs
  exact hf (am hi)
theorem TOk.put{t:SetTable}{es:Array (Int×Value)}(ok:TOk t es){h:Int}{x:Value}{n:Nat}(hf:road t.mask h n∉t.place.toList)(hr:∀n',n'<n->road t.mask h n'∈t.place.toList)(hroom:t.place.size+1<=t.mask) :
  TOk (t.put (road t.mask h n)).1 (insertAt es (t.put (road t.mask h n)).2 (h,x))/\(t.put (road t.mask h n)).1.mask=t.mask/\(t.put (road t.mask h n)).2<=es.size/\(t.put (road t.mask h n)).1.place.size=t.place.size+1:=by
 have hlow:=below_low ok.rise (road t.mask h n)
 have hnod:has t.dummies (road t.mask h n)=false:=by rw[ok.dm];unfold has;simp
 have hput:t.put (road t.mask h n)=({t with place:=insertAt t.place (below t.place (road t.mask h n)) (road t.mask h n),dummies:=#[]},below t.place (road t.mask h n)):=by
  unfold SetTable.put
  rw[hnod,ok.dm]
  rfl
 rw[hput]
 have hsize:(insertAt t.place (below t.place (road t.mask h n)) (road t.mask h n)).size=t.place.size+1:=by
  rw[<-aw,mr,bo,bu,bx,iq,aw]
  have:=hlow.1
  omega
 have hsz:=ok.sz
 have hmem:∀j,j∈(insertAt t.place (below t.place (road t.mask h n)) (road t.mask h n)).toList↔j=road t.mask h n\/j∈t.place.toList:=λj=>by
  rw[mr]
  constructor
  .intro hj
   rcases bm.mp hj with q|q
   .exact .inr (dq q)
   .rcases ax.mp q with q|q
    .exact .inl q
    .exact .inr (List.mem_of_mem_drop q)
  .rintro(rfl|hj)
   .exact cq _ au
   .rw[<-cz (below t.place (road t.mask h n)) t.place.toList]at hj
    rcases bm.mp hj with q|q
    .exact jf _ q
    .exact cq _ (av _ q)
 refine⟨⟨ok.two,rfl,insert_rise ok.rise hf,?_,?_,?_,?_⟩,rfl,?_,hsize⟩
 .intro j hj
  rcases(hmem j).mp hj with rfl|q
  .exact road_le _ _ _
  .exact ok.bd j q
 .show(insertAt t.place _ _).size=(insertAt es (below t.place (road t.mask h n)) (h,x)).size
  rw[hsize,<-aw (xs:=insertAt es _ _),mr,bo,bu,bx,iq,aw]
  have:=hlow.1
  omega
 .show(insertAt t.place _ _).size<=t.mask
  rw[hsize];exact hroom
 .intro j e hs
  have hs':Side (t.place.toList.take (below t.place (road t.mask h n))++road t.mask h n::t.place.toList.drop (below t.place (road t.mask h n))) (es.toList.take (below t.place (road t.mask h n))++(h,x)::es.toList.drop (below t.place (road t.mask h n))) j e:=by
   have hs2:Side (insertAt t.place (below t.place (road t.mask h n)) (road t.mask h n)).toList (insertAt es (below t.place (road t.mask h n)) (h,x)).toList j e:=hs
   rw[mr,mr]at hs2
   exact hs2
  rcases(side_insert (by rw[aw,aw];exact hsz) _ _ (by rw[aw];exact hlow.1) _).mp hs' with ⟨rfl,rfl⟩|q
  .exact⟨n,rfl,λn' hn'=>(hmem _).mpr (.inr (hr n' hn'))⟩
  .obtain⟨m,h1,h2⟩:=ok.onroad j e q
   exact⟨m,h1,λn' hn'=>(hmem _).mpr (.inr (h2 n' hn'))⟩
 .show below t.place _<=es.size
  have:=hlow.1
  omega
theorem TOk.fits{t:SetTable}{es:Array (Int×Value)}(ok:TOk t es):t.fits es.size=true:=by
 unfold SetTable.fits SetTable.fill
 rw[ok.dm]
 simp[ok.sz]
 have:=ok.fit
 have:=ok.sz
 omega
theorem TOk.noway{t:SetTable}{es:Array (Int×Value)}(ok:TOk t es):t.gaveWay=false:=by
 obtain⟨k,hk,h3,_⟩:=ok.two
 unfold SetTable.gaveWay
 have:2^k % 2=0:=by
  rw[show k=(k-1)+1 by omega,j7]
  omega
 simp
 omega
theorem TOk.fresh(finger moves:Nat)(led:Bool):TOk (.fresh finger moves led) #[]:=
 ⟨⟨3,rfl,by decide,by decide,rfl⟩,rfl,List.Pairwise.nil,(λj hj=>by cases hj),rfl,(by show 0<=7;decide),(λj e ⟨i,h,_⟩=>by simp[SetTable.fresh]at h)⟩
theorem reachL{mask k:Nat}(hk:mask+1=2^k)(x:Nat×Nat)(hp:x.2<2^64)(j:Nat)(hj:j<=mask):∃m,m<turns mask/\(itn (lp mask) m x).1=j:=by
 have hz:(itn (lp mask) 13 x).2<32^(13-13):=per_small mask 13 x 13 (cj hp (by decide))
 have hz0:(itn (lp mask) 13 x).2=0:=by simpa using hz
 have hi:(itn (lp mask) 13 x).1<2^k:=by
  rw[itn_succ]
  exact lp_lt hk _
 have e0:∀m,itn (lp mask) (13+m) x=itn (lp mask) m (itn (lp mask) 13 x):=λm=>o0 _ _ _ _
 generalize itn (lp mask) 13 x=y at *
 obtain⟨y1,y2⟩:=y
 simp only at hz0 hi
 subst hz0
 obtain⟨m,hm2,e3⟩:=g5_all k y1 j
 refine⟨13+m,?_,?_⟩
 .unfold turns
  omega
 .rw[e0,plain_leaps hk m y1 hi]
  show g5 m y1 % 2^k=j
  rw[e3,gh (by omega)]
theorem in_run(mask:Nat):∀(q:Nat) (p:Probe),q<=p.more->(itn (adv mask) q p).j=p.j+q
 | 0,p,_=>rfl
 | q+1,p,h=>by
  show(itn (adv mask) q (adv mask p)).j=_
  have e:adv mask p={p with j:=p.j+1,more:=p.more-1}:=by unfold adv;rw[if_pos (by omega)]
  rw[e,in_run mask q _ (by show q<=p.more-1;omega)]
  show p.j+1+q=p.j+(q+1)
  omega
noncomputable def Taken(owner:Array (Option Nat))(j:Nat):Prop:=∃q,owner[j]?=some (some q)
theorem free_spec{mask k:Nat}(hk:mask+1=2^k){owner:Array (Option Nat)}(hs:owner.size=mask+1){f:Nat}(hf:owner[f]?=some none):∀(fuel:Nat) (x:Nat×Nat),x.1<=mask->x.2<2^64->(∃m,m<fuel/\(itn (lp mask) m x).1=f)->
  ∃j n,layClean.free mask owner fuel x.1 x.2=some j/\(itn (adv mask) n (at0 mask x none)).j=j/\owner[j]?=some none/\∀n',n'<n->Taken owner (itn (adv mask) n' (at0 mask x none)).j
 | 0,x,_,_,⟨m,hm,_⟩=>by omega
 | fuel+1,x,h1,h2,⟨m,hm,em⟩=>by
  have hrun:(at0 mask x none).more=runEnd mask x.1-x.1:=rfl
  have hend:runEnd mask x.1<=mask/\x.1<=runEnd mask x.1:=by
   unfold runEnd
   split<;>omega
  have get:∀q,(hq:q<runEnd mask x.1+1-x.1)->owner.getD (x.1+q) (some 0)=owner[x.1+q]'(by omega):=λq hq=>by
   simp only[Array.getD]
   rw[dif_pos (show x.1+q<owner.size by omega)]
   rfl
  have pos:∀q,q<runEnd mask x.1+1-x.1->(itn (adv mask) q (at0 mask x none)).j=x.1+q:=λq hq=>in_run mask q _ (by rw[hrun];omega)
  have occ:∀q (hq:q<runEnd mask x.1+1-x.1),(owner.getD (x.1+q) (some 0)).isNone=false->Taken owner (x.1+q):=λq hq hn=>by
   rw[get q hq]at hn
   cases hv:owner[x.1+q]'(by omega)with
   | none=>rw[hv]at hn;cases hn
   | some v=>exact⟨v,by rw[br (by omega),hv]⟩
  unfold layClean.free
  cases hfd:(cx (runEnd mask x.1+1-x.1)).find? λk=>(owner.getD (x.1+k) (some 0)).isNone with
  | some q=>
   rw[List.find?_range_eq_some]at hfd
   obtain⟨a,b,c⟩:=hfd
   have hq:q<runEnd mask x.1+1-x.1:=f7.mp b
   refine(x_EE (x.1+q) q ⟨rfl,pos q hq,?_,λn' hn'=>?_⟩)
   .rw[get q hq]at a
    rw[br (by omega)]
    cases hv:owner[x.1+q]'(by omega)with
    | none=>rfl
    | some v=>rw[hv]at a;cases a
   .rw[pos n' (by omega)]
    exact occ n' (by omega) (by simpa using c n' hn')
  | none=>
   rw[List.find?_range_eq_none]at hfd
   dsimp only
   cases m with
   | zero=>
    have e0:x.1=f:=em
    have:=hfd 0 (by omega)
    rw[Nat.add_zero]at this
    have g:=get 0 (by omega)
    simp only[Nat.add_zero]at g
    rw[g]at this
    subst e0
    rw[br (by omega)]at hf
    injection hf with hf
    rw[hf]at this
    cases this
   | succ m=>
    have hl1:(lp mask x).1<=mask:=by have:=lp_lt hk x;omega
    have hl2:(lp mask x).2<2^64:=by show x.2/32<2^64;omega
    obtain⟨j,n,e1,e2,e3,e4⟩:=free_spec hk hs hf fuel (lp mask x) hl1 hl2 ⟨m,by omega,em⟩
    have tl:=to_leap mask _ (at0 mask x none) rfl
    refine(x_EE j ((at0 mask x none).more+1+n) ⟨e1,?_,e3,λn' hn'=>?_⟩)
    .rw[o0,tl];exact e2
    .by_cases hq:n'<(at0 mask x none).more+1
     .have hq':n'<runEnd mask x.1+1-x.1:=by rw[hrun]at hq;omega
      rw[pos n' hq']
      exact occ n' hq' (by simpa using hfd n' hq')
     .have:=e4 (n'-((at0 mask x none).more+1)) (by omega)
      rw[show n'=(at0 mask x none).more+1+(n'-((at0 mask x none).more+1)) by omega,o0,tl]
      exact this
structure Own(mask:Nat)(hs:List Int)(owner:Array (Option Nat))(k:Nat):Prop where
 size:owner.size=mask+1
 o1:∀j q:Nat,owner[j]?=some (some q)->q<k/\∃h,hs[q]?=some h/\∃n,road mask h n=j/\∀n',n'<n->Taken owner (road mask h n')
 o2:∀q:Nat,q<k->∃j:Nat,owner[j]?=some (some q)
 o3:∀j j' q:Nat,owner[j]?=some (some q)->owner[j']?=some (some q)->j=j'
theorem Own.free{mask:Nat}{hs:List Int}{owner:Array (Option Nat)}{k:Nat}(o:Own mask hs owner k)(hk:k<=mask):∃f,f<=mask/\owner[f]?=some none:=by
 apply ik
 intro hn
 have hall:∀j,j<=mask->∃q,owner[j]?=some (some q):=λj hj=>by
  have hj':j<owner.size:=by rw[o.size];omega
  cases hv:owner[j]with
  | none=>exact absurd ⟨j,hj,by rw[br hj',hv]⟩ hn
  | some q=>exact⟨q,by rw[br hj',hv]⟩
 have val:∀(j q:Nat),owner[j]?=some (some q)->((owner[j]?).getD none).getD 0=q:=λj q h=>by rw[h];rfl
 have nd:((cx (mask+1)).map λj=>((owner[j]?).getD none).getD 0).Nodup:=by
  show List.Pairwise _ _
  rw[fk]
  refine fv ?_ (List.nodup_range (n:=mask+1))
  intro a b ha hb hab e
  obtain⟨q,hq⟩:=hall a (by have:=f7.mp ha;omega)
  obtain⟨q',hq'⟩:=hall b (by have:=f7.mp hb;omega)
  rw[val a q hq,val b q' hq']at e
  subst e
  exact hab (o.o3 a b q hq hq')
 have:=List.Nodup.length_le_of_subset (l₂:=cx k) nd (λv hv=>by
  obtain⟨j,hj,rfl⟩:=bi.mp hv
  obtain⟨q,hq⟩:=hall j (by have:=f7.mp hj;omega)
  rw[val j q hq]
  exact f7.mpr (o.o1 j q hq).1)
 rw[aj,gk,gk]at this
 omega
noncomputable def layStep(mask:Nat)(acc:Option (Array (Option Nat)×Nat))(h:Int):Option (Array (Option Nat)×Nat):=do
 let (owner,k) <-acc
 let j <-layClean.free mask owner (turns mask) (bits h % (mask+1)) (bits h)
 pure (owner.setIfInBounds j (some k),k+1)
theorem layClean_eq(mask:Nat)(hs:Array Int):layClean mask hs=(hs.toList.foldl (layStep mask) (some (Array.replicate (mask+1) none,0))).map (·.1):=by
 unfold layClean
 rw[<-Array.foldl_toList]
 rfl
theorem set_get{owner:Array (Option Nat)}{j:Nat}{v:Option Nat}(hj:j<owner.size)(i:Nat):(owner.setIfInBounds j v)[i]?=if i=j then some v else owner[i]?:=by
 rw[Array.getElem?_setIfInBounds]
 by_cases e:j=i
 .subst e;rw[if_pos rfl,if_pos hj,if_pos rfl]
 .rw[if_neg e,if_neg (Ne.symm e)]
theorem lay_fold{mask k0:Nat}(hk0:mask+1=2^k0)(hs:List Int)(hle:hs.length<=mask):∀(rest:List Int) (k:Nat) (owner:Array (Option Nat)),hs.drop k=rest->k<=hs.length->Own mask hs owner k->
  ∃owner',rest.foldl (layStep mask) (some (owner,k))=some (owner',hs.length)/\Own mask hs owner' hs.length
 | [],k,owner,hd,hk,o=>by
  have:hs.length<=k:=by
   have:=congrArg List.length hd
   rw[iq]at this
   simp at this
   omega
  have e:k=hs.length:=by omega
  subst e
  exact⟨owner,rfl,o⟩
 | h::rest,k,owner,hd,hk,o=>by
  have hkl:k<hs.length:=by
   have:=congrArg List.length hd
   rw[iq]at this
   simp at this
   omega
  have hat:hs[k]?=some h:=by
   have:(hs.drop k)[0]?=some h:=by rw[hd];rfl
   rw[eu]at this
   simpa using this
  obtain⟨f,hfm,hf⟩:=o.free (by omega)
  obtain⟨m,hm,em⟩:=reachL hk0 (bits h % (mask+1),bits h) (bits_lt h) f hfm
  have hb:bits h % (mask+1)<=mask:=by have:=Nat.mod_lt (bits h) (show 0<mask+1 by omega);omega
  obtain⟨j,n,e1,e2,e3,e4⟩:=free_spec hk0 o.size hf (turns mask) (bits h % (mask+1),bits h) hb (bits_lt h) ⟨m,hm,em⟩
  have ej:road mask h n=j:=e2
  have hjs:j<owner.size:=by
   have:=(bh.mp e3).1
   exact this
  have hstep:layStep mask (some (owner,k)) h=some (owner.setIfInBounds j (some k),k+1):=by
   show(layClean.free mask owner (turns mask) (bits h % (mask+1)) (bits h)).bind _=_
   rw[e1]
   rfl
  have tk:∀i,Taken owner i->Taken (owner.setIfInBounds j (some k)) i:=λi ⟨q,hq⟩=>by
   by_cases e:i=j
   .exact⟨k,by rw[set_get hjs,if_pos e]⟩
   .exact⟨q,by rw[set_get hjs,if_neg e];exact hq⟩
  have o':Own mask hs (owner.setIfInBounds j (some k)) (k+1):=by
   refine⟨by rw[Array.size_setIfInBounds];exact o.size,λi q hq=>?_,λq hq=>?_,λi i' q hq hq'=>?_⟩
   .rw[set_get hjs]at hq
    by_cases e:i=j
    .rw[if_pos e]at hq
     cases hq
     exact⟨by omega,(x_EAE h hat n ⟨by rw[ej,e],λn' hn'=>tk _ (e4 n' hn')⟩)⟩
    .rw[if_neg e]at hq
     obtain⟨a,h',b,n',c,d⟩:=o.o1 i q hq
     exact⟨by omega,(x_EAE h' b n' ⟨c,λn'' hn''=>tk _ (d n'' hn'')⟩)⟩
   .by_cases e:q=k
    .exact⟨j,by rw[set_get hjs,if_pos rfl,e]⟩
    .obtain⟨i,hi⟩:=o.o2 q (by omega)
     have:i≠j:=λe'=>by rw[e',e3]at hi;cases hi
     exact⟨i,by rw[set_get hjs,if_neg this];exact hi⟩
   .rw[set_get hjs]at hq hq'
    by_cases e:i=j<;>by_cases e':i'=j
    .rw[e,e']
    .rw[if_pos e]at hq;rw[if_neg e']at hq'
     cases hq
     have:=(o.o1 i' k hq').1
     omega
    .rw[if_neg e]at hq;rw[if_pos e']at hq'
     cases hq'
     have:=(o.o1 i k hq).1
     omega
    .rw[if_neg e]at hq;rw[if_neg e']at hq'
     exact o.o3 i i' q hq hq'
  rw[List.foldl_cons,hstep]
  refine lay_fold hk0 hs hle rest (k+1) _ ?_ (by omega) o'
  rw[<-List.drop_drop,hd]
  rfl
theorem layClean_spec{mask k0:Nat}(hk0:mask+1=2^k0)(hs:Array Int)(hle:hs.size<=mask):∃owner,layClean mask hs=some owner/\Own mask hs.toList owner hs.size:=by
 rw[layClean_eq]
 obtain⟨o,e,ok⟩:=lay_fold hk0 hs.toList (by rw[aw];exact hle) hs.toList 0 (Array.replicate (mask+1) none) rfl (en _) (by
  refine⟨by simp,λj q hq=>?_,λq hq=>by omega,λj j' q hq hq'=>?_⟩
  .rw[Array.getElem?_replicate]at hq
   split at hq<;>cases hq
  .rw[Array.getElem?_replicate]at hq
   split at hq<;>cases hq)
 rw[e]
 exact⟨o,rfl,by rw[aw]at ok;exact ok⟩
theorem sizeAbove_go:∀(fuel k n:Nat),∃k',sizeAbove.go n fuel (2^k)=2^k'/\k<=k'/\k'<=k+fuel/\(n<2^(k+fuel)->n<2^k')/\(k'=k\/2^k'<=2*n)
 | 0,k,n=>⟨k,rfl,ao _,ao _,id,.inl rfl⟩
 | fuel+1,k,n=>by
  unfold sizeAbove.go
  by_cases h:2^k<=n
  .rw[if_pos h,show 2^k*2=2^(k+1)from (j7 ..).symm]
   obtain⟨k',a,b,c,d,e⟩:=sizeAbove_go fuel (k+1) n
   refine⟨k',a,by omega,by omega,λq=>d (by rw[show k+1+fuel=k+(fuel+1) by omega];exact q),?_⟩
   rcases e with e|e
   .rw[e,j7];omega
   .exact .inr e
  .rw[if_neg h]
   exact⟨k,rfl,ao _,by omega,λ_=>by omega,.inl rfl⟩
theorem oz(n:Nat)(hn:n<2^13):∃k,sizeAbove n=2^k/\3<=k/\k<=13/\n<2^k:=by
 obtain⟨k,a,b,c,d,e⟩:=sizeAbove_go 64 3 n
 refine⟨k,a,b,?_,d (Nat.lt_trans hn (Nat.pow_lt_pow_right (by decide) (by decide)))⟩
 rcases e with e|e
 .omega
 .apply ik
  intro h
  have:2^14<=2^k:=Nat.pow_le_pow_right (by decide) (by omega)
  have e14:2^14=2*2^13:=by decide
  omega
theorem sizeAbove_two(n:Nat)(h8:8<=n)(hn:n<2^13){k:Nat}(e:sizeAbove n=2^k):k<=13/\n<2^k/\2^k<=2*n:=by
 obtain⟨k',a,b,c,d,e'⟩:=sizeAbove_go 64 3 n
 obtain⟨k2,a2,_,b2,c2⟩:=oz n hn
 have e1:k=k2:=(Nat.pow_right_inj (by decide)).mp (e.symm.trans a2)
 have e2:k2=k':=(Nat.pow_right_inj (by decide)).mp (a2.symm.trans a)
 subst e1
 refine⟨b2,c2,?_⟩
 rcases e' with e'|e'
 .rw[e2,e'];omega
 .rw[e2];exact e'
theorem grow_odd{m n k k':Nat}(hk:m+1=2^k)(k3:3<=k)(k13:k<=13)(ko:k % 2=1)(h1:m*3<=n*5)(h2:(n-1)*5<m*3)(h4:n<=4000)(h13:k'<=13)(l1:n*4<2^k')(l2:2^k'<=2*(n*4)):k' % 2=1:=by
 rcases(show k=3\/k=5\/k=7\/k=9\/k=11\/k=13 by omega)with rfl|rfl|rfl|rfl|rfl|rfl <;>
 rcases(show k'=0\/k'=1\/k'=2\/k'=3\/k'=4\/k'=5\/k'=6\/k'=7\/k'=8\/k'=9\/k'=10\/k'=11\/k'=12\/k'=13 by omega)with rfl|rfl|rfl|rfl|rfl|rfl|rfl|rfl|rfl|rfl|rfl|rfl|rfl|rfl<;>omega
theorem grow_small{m n k:Nat}(hk:m+1=2^k)(k3:3<=k)(k13:k<=13)(ko:k % 2=1)(h1:m*3<=n*5)(h2:(n-1)*5<m*3)(h4:n<=4000):n*4<2^13/\2<=n:=by
 rcases(show k=3\/k=5\/k=7\/k=9\/k=11\/k=13 by omega)with rfl|rfl|rfl|rfl|rfl|rfl<;>omega
theorem filterMap_all{α β:Type}{f:α->Option β}{g:α->β}:∀(l:List α),(∀x∈l,f x=some (g x))->l.filterMap f=l.map g
 | [],_=>rfl
 | a::l,h=>by
  rw[List.filterMap_cons,h a au,e9,filterMap_all l λx hx=>h x (av _ hx)]
theorem relaid_spec{t:SetTable}{es:Array (Int×Value)}{wanted:Nat}(hw:es.size*4<=wanted)(hw2:wanted<2^13)(hodd:∀k,sizeAbove wanted=2^k->k % 2=1)(hpos:0<es.size) :
  ∃t' order,t.relaid (es.map (·.1)) wanted=some (t',order)/\TOk t' (order.filterMap (es[·]?))/\(order.filterMap (es[·]?)).toList.Perm es.toList/\t'.place.size*5<t'.mask*3/\t'.led=t.led:=by
 obtain⟨k,ek,k3,k13,hn⟩:=oz wanted hw2
 have ko:=hodd k ek
 have hmask:sizeAbove wanted-1+1=2^k:=by rw[ek];have:=Nat.two_pow_pos k;omega
 have hle:(es.map (·.1)).size<=sizeAbove wanted-1:=by rw[Array.size_map,ek];omega
 obtain⟨owner,eo,ok⟩:=layClean_spec hmask (es.map (·.1)) hle
 rw[Array.size_map]at ok
 generalize hm:sizeAbove wanted-1=mask at *
 let live:=(cx (mask+1)).filterMap λj=>(owner.getD j none).map λq=>(j,q)
 have hlive:∀j q,(j,q)∈live↔owner[j]?=some (some q):=λj q=>by
  show(j,q)∈(cx (mask+1)).filterMap _↔_
  rw[List.mem_filterMap]
  constructor
  .rintro⟨a,ha,e⟩
   have hs:a<owner.size:=by rw[ok.size];exact f7.mp ha
   simp only[Array.getD,dif_pos hs]at e
   cases hv:owner[a]with
   | none=>
    have e':(owner[a]).map (λq=>(a,q))=some (j,q):=e
    rw[hv]at e';cases e'
   | some v=>
    have e':(owner[a]).map (λq=>(a,q))=some (j,q):=e
    rw[hv]at e';cases e'
    rw[br hs,hv]
  .intro h
   obtain⟨hs,hv⟩:=bh.mp h
   refine⟨j,f7.mpr (by rw[<-ok.size];exact hs),?_⟩
   simp only[Array.getD,dif_pos hs]
   show(owner[j]).map (λq=>(j,q))=some (j,q)
   rw[hv];rfl
 have hrise:(live.map (·.1)).Pairwise (· < ·):=by
  rw[fk]
  show((cx (mask+1)).filterMap _).Pairwise _
  rw[List.pairwise_filterMap]
  refine List.Pairwise.imp ?_ (List.pairwise_lt_range (n:=mask+1))
  intro a b hab x hx y hy
  obtain⟨q,_,rfl⟩:=cu.mp hx
  obtain⟨q',_,rfl⟩:=cu.mp hy
  exact hab
 have hnd:(live.map (·.2)).Nodup:=by
  show List.Pairwise _ _
  rw[fk]
  have h1:live.Pairwise λa b=>a.1<b.1:=by rw[fk]at hrise;exact hrise
  refine fv ?_ h1
  intro a b ha hb hab e
  have:=ok.o3 a.1 b.1 a.2 ((hlive _ _).mp ha) (by rw[e];exact(hlive _ _).mp hb)
  omega
 have hperm:(live.map (·.2)).Perm (cx es.size):=by
  rw[List.perm_ext_iff_of_nodup hnd List.nodup_range]
  intro q
  rw[bi,f7]
  constructor
  .rintro⟨⟨j,q'⟩,h,rfl⟩
   exact(ok.o1 j q' ((hlive _ _).mp h)).1
  .intro h
   obtain⟨j,hj⟩:=ok.o2 q h
   exact⟨(j,q),(hlive _ _).mpr hj,rfl⟩
 have hlen:live.length=es.size:=by have:=hperm.length_eq;rw[aj,gk]at this;exact this
 have hfm:((live.map (·.2)).toArray.filterMap (es[·]?)).toList=live.map λx=>es[x.2]?.getD (0,.none):=by
  rw[Array.toList_filterMap]
  show List.filterMap _ (live.map (·.2))=_
  rw[List.filterMap_map]
  have:∀x∈live,es[x.2]?=some (es[x.2]?.getD (0,.none)):=λx hx=>by
   have hlt:=(ok.o1 x.1 x.2 ((hlive x.1 x.2).mp hx)).1
   rw[br hlt];rfl
  exact filterMap_all live this
 have hesl:(live.map λx=>es[x.2]?.getD (0,.none)).Perm es.toList:=by
  have h1:=hperm.map λq=>es[q]?.getD (0,.none)
  rw[bp]at h1
  have h2:(cx es.size).map (λq=>es[q]?.getD (0,.none))=es.toList:=by
   apply List.ext_getElem
   .simp
   .intro i a b
    simp
    rw[br (by simpa using b)]
    rfl
  rw[h2]at h1
  exact h1
 refine(x_EE ⟨mask,(live.map (·.1)).toArray,#[],t.finger,t.led,t.movedTo mask,t.plain⟩ ((live.map (·.2)).toArray) ⟨?_,?_,?_,?_,rfl⟩)
 .unfold SetTable.relaid SetTable.laid
  rw[hm,eo]
  rfl
 .refine⟨⟨k,hmask,k3,k13,ko⟩,rfl,by simpa using hrise,?_,?_,?_,?_⟩
  .intro j hj
   have hj':j∈live.map (·.1):=by simpa using hj
   obtain⟨⟨j',q⟩,h,rfl⟩:=bi.mp hj'
   have:=(bh.mp ((hlive _ _).mp h)).1
   rw[ok.size]at this
   show j'<=mask
   omega
  .rw[<-aw (xs:=Array.filterMap _ _),hfm]
   simp
  .show(live.map (·.1)).toArray.size<=mask
   simp
   rw[Array.size_map]at hle
   omega
  .intro j e hs
   rw[hfm]at hs
   obtain⟨i,h1,h2⟩:=hs
   have h1':(live.map (·.1))[i]?=some j:=by simpa using h1
   rw[be]at h1' h2
   cases hl:live[i]? with
   | none=>rw[hl]at h1';cases h1'
   | some x=>
    rw[hl]at h1' h2
    obtain⟨j',q⟩:=x
    cases h1'
    obtain⟨hq,h,a,n,b,c⟩:=ok.o1 j' q ((hlive _ _).mp (am hl))
    have e2:es[q]?.getD (0,.none)=e:=by cases h2;rfl
    have e3:e.1=h:=by
     rw[<-e2,br hq]
     have a':(es.map (·.1))[q]?=some h:=by rw[<-a0];exact a
     rw[Array.getElem?_map,br hq]at a'
     simpa using a'
    rw[e3]
    refine⟨n,b,λn' hn'=>?_⟩
    obtain⟨q',hq'⟩:=c n' hn'
    have:road mask h n'∈live.map (·.1):=bi.mpr ⟨(road mask h n',q'),(hlive _ _).mpr hq',rfl⟩
    simpa using this
 .rw[hfm];exact hesl
 .show(live.map (·.1)).toArray.size*5<mask*3
  simp
  rw[hlen]
  omega
end L3
namespace L3
open PySem
variable{Pv:Value->PyData->Prop}
mutual
noncomputable def kd:PyData->Bool
 | .int _=>true
 | .str _=>true
 | .tuple ds=>kdAll ds
 | .none=>false
 | .bool _=>false
 | .list _=>false
 | .dict _=>false
noncomputable def kdAll:List PyData->Bool
 | []=>true
 | d::ds=>kd d&&kdAll ds
end
mutual
noncomputable def hashD(w:World):PyData->Int
 | .int i=>hashInt i
 | .str x=>hashStr w x
 | .tuple ds=>reduceHash (dw (nc w ds))
 | .none=>0
 | .bool _=>0
 | .list _=>0
 | .dict _=>0
noncomputable def nc(w:World):List PyData->List Int
 | []=>[]
 | d::ds=>hashD w d::nc w ds
end
noncomputable def Hashes(d:PyData):Prop:=∀(prog:Program) (w:World) (A:Around) (E:Value->Shared->Prop) (s:Shared) (v:Value) (as:List Addr) (Q:Int->Shared->Prop),Reads s.heap v d as->A.units+d.depth<cLine->(∀tk,s.toks<=tk->Q (hashD w d) {s with toks:=tk})->wpAny (model prog w) A (pyHash v) Q E s
theorem hash_tuple{ds:List PyData}(H:∀d∈ds,Hashes d):Hashes (.tuple ds):=λprog w A E s v as Q r hu h=>by
 cases r with
 | @tuple a o vs n _ _ ho hc hd hi=>
 have hT:s.TypeIs (.ref a) "tuple":=⟨o,ho,hc⟩
 have hu':A.units+(bv ds+1)<cLine:=hu
 unfold pyHash
 first|unfold pyHashByItsType|skip
 first|refine aa (wpAny_cRoomFor_or (.inr (show A.units<cLine by omega)) ?_)|skip
 refine aa (j8 (name:="__hash__") hT ii.lookup ?_)
 show wpAny _ _ (if (some (Value.builtin "tuple.__hash__")==some Value.none)=true then _ else _) _ _ _
 rw[if_neg (show ¬_ by rw[beq_builtin_none];exact ah)]
 refine aa (j8 (name:="__hash__") hT ii.lookup ?_)
 show wpAny _ _ (callSpecialIfBoundUnlessNone? (.ref a) "__hash__" _ >>= _) _ _ _
 refine aa (wpAny_callSpecialIfBoundUnlessNone?_slot (name:="__hash__") hT ii (b9 (name:="__hash__") ii hT F.entry_tuple_hash ?_ (F.args_tuple_hash_1 _)))
 show wpAny _ _ (Builtin.Tuple.tupleItemsOf (.ref a) >>= _) _ _ _
 refine aa (wpAny_tupleItemsOf (n:=n) ho hd ?_)
 refine aa ?_
 rw[<-Array.forIn_toList]
 refine js _
  (λrest (b:Array Int) s'=>∃done left bs tk,ds=done++left/\ReadsAll s.heap rest left bs/\b.toList=nc w done/\s'={s with toks:=tk}/\s.toks<=tk)
  _ (λx rest b s' hI=>?_) (λb s' hI=>?_) _ _ (nv ([]) ds as s.toks ⟨rfl,hi,rfl,rfl,ao _⟩)
 .obtain⟨done,left,bs,tk,e,hl,hb,rfl,hk⟩:=hI
  cases hl with
  | @cons _ _ d ds' _ _ h1 hl'=>
   have hmem:d∈ds:=by rw[e];simp
   have hdep:∀(l:List PyData),d∈l->d.depth<=bv l:=λl=>by
    induction l with
    | nil=>intro q;cases q
    | cons y l ih=>
     intro q
     show _<=max y.depth (bv l)
     rcases ax.mp q with rfl|q
     .exact Nat.le_max_left _ _
     .exact gl (ih q) (Nat.le_max_right _ _)
   have hd1:=hdep ds hmem
   refine aa (H d hmem prog w _ E {s with toks:=tk} x _ _ h1 (by show A.units+1+d.depth<cLine;omega) λtk' hk'=>?_)
   have hap:∀(l:List PyData),nc w (l++[d])=nc w l++[hashD w d]:=λl=>by
    induction l with
    | nil=>rfl
    | cons y l ih=>show hashD w y::nc w (l++[d])=_;rw[ih];rfl
   first
    | exact af (nv (done++[d]) ds' _ tk' ⟨by simp[e],hl',by simp[hb,hap],rfl,gl hk hk'⟩)
    | exact aa (af (af ⟨done++[d],ds',_,tk',by simp[e],hl',by simp[hb,hap],rfl,gl hk hk'⟩))
 .obtain⟨done,left,bs,tk,e,hl,hb,rfl,hk⟩:=hI
  cases hl
  rw[ck]at e
  subst e
  show wpAny _ _ (retInt (dw b.toList)) _ _ _
  rw[hb]
  refine wpAny_ret_mkInt ?_
  show wpAny _ _ (if (decide (-(2:Int)^63<=dw (nc w ds))&&decide (dw (nc w ds)<2^63))=true then _ else _) _ _ _
  have h':∀tk,s.toks<=tk->Q (reduceHash (dw (nc w ds))) {s with toks:=tk}:=h
  unfold reduceHash at h'
  split
  .rename_i hr
   rw[if_pos hr]at h'
   exact af (h' _ (by simp only;omega))
  .rename_i hr
   rw[if_neg hr]at h'
   exact aa (jh (af (h' _ (by simp only;omega))))
mutual
theorem hash_reads:∀(d:PyData),kd d=true->Hashes d
 | .int i,_=>λprog w A E s v as Q r hu h=>by
  cases r with
  | int=>exact wpAny_pyHash_int (h _ (by omega))
 | .str x,_=>λprog w A E s v as Q r hu h=>by
  cases r with
  | str=>exact wpAny_pyHash_str (h _ (by omega))
 | .tuple ds,hk=>hash_tuple (hash_readsAll ds hk)
 | .none,hk=>absurd hk ah
 | .bool _,hk=>absurd hk ah
 | .list _,hk=>absurd hk ah
 | .dict _,hk=>absurd hk ah
theorem hash_readsAll:∀(ds:List PyData),kdAll ds=true->∀d∈ds,Hashes d
 | [],_,d,hd=>by cases hd
 | e::ds,hk,d,hd=>by
  have hk':(kd e&&kdAll ds)=true:=hk
  rw[cg]at hk'
  rcases ax.mp hd with h|hd
  .rw[h];exact hash_reads e hk'.1
  .exact hash_readsAll ds hk'.2 d hd
end
mutual
theorem eqv_kd:∀(d e:PyData),kd d=true->kd e=true->bn d e=true->d=e
 | .int i,e,_,he,h=>by
  cases e<;>simp[bn,kd]at h he⊢
  exact h
 | .str x,e,_,he,h=>by
  cases e<;>simp[bn,kd]at h he⊢
  exact h
 | .tuple ds,e,hd,he,h=>by
  cases e with
  | tuple es=>
   have:=eqv_kdAll ds es hd he (by simpa [bn]using h)
   rw[this]
  | _=>simp[bn,kd]at h he
 | .none,_,hd,_,_=>absurd hd ah
 | .bool _,_,hd,_,_=>absurd hd ah
 | .list _,_,hd,_,_=>absurd hd ah
 | .dict _,_,hd,_,_=>absurd hd ah
theorem eqv_kdAll:∀(ds es:List PyData),kdAll ds=true->kdAll es=true->cn ds es=true->ds=es
 | [],[],_,_,_=>rfl
 | [],_::_,_,_,h=>by simp[cn]at h
 | _::_,[],_,_,h=>by simp[cn]at h
 | d::ds,e::es,hd,he,h=>by
  have hd':(kd d&&kdAll ds)=true:=hd
  have he':(kd e&&kdAll es)=true:=he
  rw[cg]at hd' he'
  have h':bn d e=true/\cn ds es=true:=by simpa [cn]using h
  rw[eqv_kd d e hd'.1 he'.1 h'.1,eqv_kdAll ds es hd'.2 he'.2 h'.2]
end
theorem ot{h:Heap}:∀{vs:List Value} {ds:List PyData} {as:List Addr},ReadsAll h vs ds as->∀v∈vs,∃d bs,d∈ds/\Reads h v d bs
 | _,_,_,.nil,v,hv=>by cases hv
 | _,_,_,.cons h1 h2,v,hv=>by
  rcases ax.mp hv with e|hv
  .rw[e];exact(x_EE _ _ ⟨au,h1⟩)
  .obtain⟨d,bs,q1,q2⟩:=ot h2 v hv
   exact(x_EE d bs ⟨av _ q1,q2⟩)
theorem kd_mem:∀{ds:List PyData},kdAll ds=true->∀d∈ds,kd d=true
 | [],_,d,hd=>by cases hd
 | e::ds,hk,d,hd=>by
  have hk':(kd e&&kdAll ds)=true:=hk
  rw[cg]at hk'
  rcases ax.mp hd with h|hd
  .rw[h];exact hk'.1
  .exact kd_mem hk'.2 d hd
theorem dep_mem:∀{ds:List PyData},∀d∈ds,d.depth<=bv ds
 | [],d,hd=>by cases hd
 | e::ds,d,hd=>by
  show _<=max e.depth (bv ds)
  rcases ax.mp hd with h|hd
  .rw[h];exact Nat.le_max_left _ _
  .exact gl (dep_mem d hd) (Nat.le_max_right _ _)
section
variable{prog:Program}{w:World}{A:Around}{E:Value->Shared->Prop}{s:Shared}
theorem quiet_reads(n:Nat):∀{v:Value} {d:PyData} {as:List Addr} {Q:Bool->Shared->Prop},kd d=true->Reads s.heap v d as->d.depth<n->Q true s->wpAny (model prog w) A (eqIsQuiet n v) Q E s:=by
 induction n with
 | zero=>intro v d as Q hk r hn q;exact absurd hn (Nat.not_lt_zero _)
 | succ n ih=>
  intro v d as Q hk r hn q
  cases d with
  | int i=>cases r with|int=>rw[eqIsQuiet_byValue _ rfl];exact af q
  | str x=>cases r with|str=>rw[eqIsQuiet_byValue _ rfl];exact af q
  | tuple ds=>
    cases r with
    | @tuple a o vs m _ _ ho hc hd hi=>
    have hT:s.TypeIs (.ref a) "tuple":=⟨o,ho,hc⟩
    have hn':bv ds+1<n+1:=hn
    unfold eqIsQuiet
    refine aa (j8 (name:="__eq__") hT F.slot_tuple_eq.lookup ?_)
    show wpAny _ _ (isInstance (.ref a) (.type "tuple") >>= _) _ _ _
    refine aa (wpAny_isInstance (T:="tuple") hT isSubtype_tuple_tuple ?_)
    simp only[h7,a8,if_false]
    refine aa (iy (n:=m) ho hd ?_)
    refine aa ?_
    show wpAny _ _ (forIn vs _ _) _ _ _
    rw[<-Array.forIn_toList]
    refine js _ (λrest r s'=>r.1=none/\s'=s/\∀v∈rest,v∈vs.toList) _ (λv rest r s' hI=>?_) (λr s' hI=>?_) _ _ ⟨rfl,rfl,λv hv=>hv⟩
    .obtain⟨hr,es,hall⟩:=hI
     rw[es]
     obtain⟨d,bs,hd1,hd2⟩:=ot hi v (hall v au)
     refine aa (ih (kd_mem hk d hd1) hd2 (by have:=dep_mem d hd1;omega) ?_)
     simp only[h7,a8,if_false]
     exact af ⟨rfl,rfl,λu hu=>hall u (av _ hu)⟩
    .obtain⟨r1,r2⟩:=r
     obtain⟨hr,rfl,_⟩:=hI
     simp only at hr
     subst hr
     exact af q
  | none=>exact absurd hk ah
  | bool _=>exact absurd hk ah
  | list _=>exact absurd hk ah
  | dict _=>exact absurd hk ah
theorem plain_reads(n:Nat):∀{v:Value} {d:PyData} {as:List Addr} {Q:Bool->Shared->Prop},kd d=true->Reads s.heap v d as->d.depth<n->Q false s->wpAny (model prog w) A (ofAClassStatement n v) Q E s:=by
 induction n with
 | zero=>intro v d as Q hk r hn q;exact absurd hn (Nat.not_lt_zero _)
 | succ n ih=>
  intro v d as Q hk r hn q
  cases d with
  | int i=>cases r with|int=>unfold ofAClassStatement;exact af q
  | str x=>cases r with|str=>unfold ofAClassStatement;exact af q
  | tuple ds=>
    cases r with
    | @tuple a o vs m _ _ ho hc hd hi=>
    have hT:s.TypeIs (.ref a) "tuple":=⟨o,ho,hc⟩
    have hn':bv ds+1<n+1:=hn
    unfold ofAClassStatement
    refine aa (wpAny_typeOf (T:="tuple") hT ?_)
    dsimp only
    rw[if_pos (by decide)]
    refine aa (af ?_)
    simp only[h7,a8,if_false]
    refine aa (iy (n:=m) ho hd ?_)
    dsimp only
    refine aa ?_
    rw[<-Array.forIn_toList]
    refine js _ (λrest r s'=>r.1=none/\s'=s/\∀v∈rest,v∈vs.toList) _ (λv rest r s' hI=>?_) (λr s' hI=>?_) _ _ ⟨rfl,rfl,λv hv=>hv⟩
    .obtain⟨hr,es,hall⟩:=hI
     rw[es]
     obtain⟨d,bs,hd1,hd2⟩:=ot hi v (hall v au)
     refine aa (ih (kd_mem hk d hd1) hd2 (by have:=dep_mem d hd1;omega) ?_)
     simp only[a8,if_false]
     exact af ⟨rfl,rfl,λu hu=>hall u (av _ hu)⟩
    .obtain⟨r1,r2⟩:=r
     obtain⟨hr,rfl,_⟩:=hI
     simp only at hr
     subst hr
     exact af q
  | none=>exact absurd hk ah
  | bool _=>exact absurd hk ah
  | list _=>exact absurd hk ah
  | dict _=>exact absurd hk ah
theorem byval_reads:∀(n:Nat) {v:Value} {d:PyData} {as:List Addr} {Q:Bool->Shared->Prop},kd d=true->Reads s.heap v d as->(∀b,Q b s)->wpAny (model prog w) A (hashByValue n v) Q E s
 | n,v,.int i,as,Q,hk,r,q=>by
  cases r with|int=>unfold hashByValue;exact af (q _)
 | n,v,.str x,as,Q,hk,r,q=>by
  cases r with|str=>unfold hashByValue;exact af (q _)
 | 0,v,.tuple ds,as,Q,hk,r,q=>by
  cases r with|tuple=>unfold hashByValue;exact af (q _)
 | n+1,v,.tuple ds,as,Q,hk,r,q=>by
  cases r with
  | @tuple a o vs m _ _ ho hc hd hi=>
  have hT:s.TypeIs (.ref a) "tuple":=⟨o,ho,hc⟩
  unfold hashByValue
  refine aa (j8 (name:="__hash__") hT ii.lookup ?_)
  dsimp only
  refine aa (iy (n:=m) ho hd ?_)
  refine aa ?_
  show wpAny _ _ (forIn vs _ _) _ _ _
  rw[<-Array.forIn_toList]
  refine js _ (λrest r s'=>r.1=none/\s'=s/\∀v∈rest,v∈vs.toList) _ (λv rest r s' hI=>?_) (λr s' hI=>?_) _ _ ⟨rfl,rfl,λv hv=>hv⟩
  .obtain⟨hr,es,hall⟩:=hI
   rw[es]
   obtain⟨d,bs,hd1,hd2⟩:=ot hi v (hall v au)
   refine aa (byval_reads n (kd_mem hk d hd1) hd2 λb=>?_)
   cases b with
   | true=>
    simp only[h7,a8,if_false]
    exact af ⟨rfl,rfl,λu hu=>hall u (av _ hu)⟩
   | false=>
    simp only[Bool.not_false,if_true]
    exact af (af (q _))
  .obtain⟨r1,r2⟩:=r
   obtain⟨hr,rfl,_⟩:=hI
   simp only at hr
   subst hr
   exact af (q _)
 | _,_,.none,_,_,hk,_,_=>absurd hk ah
 | _,_,.bool _,_,_,hk,_,_=>absurd hk ah
 | _,_,.list _,_,_,hk,_,_=>absurd hk ah
 | _,_,.dict _,_,_,hk,_,_=>absurd hk ah
structure El(Pv:Value->PyData->Prop)(w:World)(h:Heap)(e:Int×Value)(d:PyData):Prop where
 own:Pv e.2 d
 hash:e.1=hashD w d
 key:kd d=true
 tup:∃ds,d=.tuple ds
 lay:d.canLay0=true
 deep:d.depth<8
 reads:∃as,Reads h e.2 d as
theorem El.ref{w:World}{h:Heap}{e:Int×Value}{d:PyData}(x:El Pv w h e d):∃a,e.2=.ref a:=by
 obtain⟨ds,rfl⟩:=x.tup
 obtain⟨as,r⟩:=x.reads
 generalize e.2=v at r
 cases r with
 | tuple=>exact⟨_,rfl⟩
theorem El.eq{h:Heap}{A:Around}{e e':Int×Value}{d d':PyData}(hs:s.heap=h)(x:El Pv w h e d)(y:El Pv w h e' d')(hu:A.units+8<cLine){Q:Bool->Shared->Prop}(q:∀b:Bool,(b=true↔d=d')->Q b s):wpAny (model prog w) A (eqBool e.2 e'.2) Q E s:=by
 subst hs
 obtain⟨as,r⟩:=x.reads
 obtain⟨bs,r'⟩:=y.reads
 refine SeqAt.eqBoolOverData prog w A E s _ _ d d' as bs Q r r' x.lay y.lay (by have:=x.deep;have:=Nat.min_le_left d.depth d'.depth;omega) ?_
 refine q _ ⟨λz=>eqv_kd d d' x.key y.key z,λz=>?_⟩
 rw[<-z]
 exact SeqAt.eqv_refl _ x.lay
theorem seen_no{x:Int×Value}{d:PyData}(hx:El Pv w s.heap x d):∀(ys:List Value) {Q:Bool->Shared->Prop},(∀y∈ys,∃h e,El Pv w s.heap (h,y) e)->Q false s->wpAny (model prog w) A (searchCouldBeSeen x.2 ys) Q E s:=by
 intro ys Q hy q
 unfold searchCouldBeSeen
 refine aa ?_
 refine js _ (λrest r s'=>r.1=none/\s'=s/\∀v∈rest,v∈ys) _ (λv rest r s' hI=>?_) (λr s' hI=>?_) _ _ ⟨rfl,rfl,λv hv=>hv⟩
 .obtain⟨hr,rfl,hall⟩:=hI
  obtain⟨h,e,hE⟩:=hy v (hall v au)
  obtain⟨a,ea⟩:=hx.ref
  obtain⟨b,eb⟩:=hE.ref
  obtain⟨as,r1⟩:=hx.reads
  obtain⟨bs,r2⟩:=hE.reads
  have nxt:∀u∈rest,u∈ys:=λu hu=>hall u (av _ hu)
  simp only at eb r2
  have stay:wpAny (model prog w) A (pure (ForInStep.yield ((none:Option Bool),())):Sem (ForInStep (Option Bool×Unit))) (λr s'_1=>match r with
   | ForInStep.yield b'=>b'.fst=none/\s'_1=s'/\∀(v:Value),v∈rest->v∈ys
   | ForInStep.done b'=>wpAny (model prog w) A (match b'.fst with|some r=>pure r|none=>pure false) Q E s'_1) E s':=af ⟨rfl,rfl,nxt⟩
  subst eb
  rw[ea]at r1⊢
  dsimp only
  split
  .exact stay
  .refine aa (quiet_reads 8 hx.key r1 hx.deep ?_)
   simp only[h7,a8,if_false]
   refine aa (quiet_reads 8 hE.key r2 hE.deep ?_)
   simp only[h7,a8,if_false]
   refine aa (plain_reads 8 hx.key r1 hx.deep ?_)
   simp only[a8,if_false]
   refine aa (plain_reads 8 hE.key r2 hE.deep ?_)
   simp only[a8,if_false]
   exact stay
 .obtain⟨r1,r2⟩:=r
  obtain⟨hr,rfl,_⟩:=hI
  simp only at hr
  subst hr
  exact af q
noncomputable def Els(Pv:Value->PyData->Prop)(w:World)(h:Heap)(es:List (Int×Value))(ds:List PyData):Prop:=es.length=ds.length/\∀(i:Nat) e d,es[i]?=some e->ds[i]?=some d->El Pv w h e d
theorem Els.at{h:Heap}{es:List (Int×Value)}{ds:List PyData}(x:Els Pv w h es ds){i:Nat}{e:Int×Value}(he:es[i]?=some e):∃d,ds[i]?=some d/\El Pv w h e d:=by
 have hl:=(ak.mp he).1
 have hd:ds[i]?=some (ds[i]'(by rw[<-x.1];exact hl)):=ab _
 exact⟨_,hd,x.2 i e _ he hd⟩
theorem probe_met{t:SetTable}{es:Array (Int×Value)}(ok:TOk t es){f:Nat->Int}{h:Int}{p:SetTable.Probe}(st:Stand t.mask p) :
  ∃met,t.probe f h p=some met/\((∃n,met=.empty (itn (adv t.mask) n p).j p.dummy/\(itn (adv t.mask) n p).j∉t.place.toList/\∀n',n'<n->∃i:Nat,t.place[i]?=some (itn (adv t.mask) n' p).j/\f i≠h)\/
  (∃n i,met=.candidate (itn (adv t.mask) n p).j i (itn (adv t.mask) (n+1) p)/\t.place[i]?=some (itn (adv t.mask) n p).j/\f i=h/\∀n',n'<n->∃i':Nat,t.place[i']?=some (itn (adv t.mask) n' p).j/\f i'≠h)):=by
 rcases probe_spec ok f h st with ⟨n,e,r⟩|⟨n,i,e,r⟩
 .exact⟨_,e,.inl ⟨n,rfl,r⟩⟩
 .exact⟨_,e,.inr (x_EE n i ⟨rfl,r⟩)⟩
theorem dummy_itn(mask:Nat):∀(n:Nat) (p:SetTable.Probe),(itn (adv mask) n p).dummy=p.dummy
 | 0,_=>rfl
 | n+1,p=>by
  show(itn (adv mask) n (adv mask p)).dummy=_
  rw[dummy_itn mask n]
  unfold adv
  split<;>rfl
theorem search_add{a:Addr}{o:Obj}{es:Array (Int×Value)}{ep:Nat}{t:SetTable}{ds:List PyData}{x:Int×Value}{d:PyData}{Q:SetFound->Shared->Prop}
  (ho:s.heap.get? a=some o) (hd:o.data=.set es ep t) (ok:TOk t es) (els:Els Pv w s.heap es.toList ds) (hx:El Pv w s.heap x d) (hu:A.units+8<cLine)
  (q1:d∈ds->Q (.there none) s) (q2:∀n,d∉ds->road t.mask x.1 n∉t.place.toList->(∀n',n'<n->road t.mask x.1 n'∈t.place.toList)->Q (.free (road t.mask x.1 n) false) s) :
  ∀(fuel m N:Nat) (stand:Option SetTable.Probe),stand.getD (st0 t.mask x.1)=itn (adv t.mask) m (st0 t.mask x.1)->road t.mask x.1 N∉t.place.toList->N<m+fuel->
   (∀n',n'<m->∃i:Nat,t.place[i]?=some (road t.mask x.1 n')/\ds[i]?≠some d)->wpAny (model prog w) A (setSearchFrom a x.2 x.1 true fuel stand) Q E s
 | 0,m,N,stand,hst,hN,hf,hm=>by
  exfalso
  obtain⟨i,h1,h2⟩:=hm N (by omega)
  exact hN (by rw[<-a0]at h1;exact am h1)
 | fuel+1,m,N,stand,hst,hN,hf,hm=>by
  unfold setSearchFrom
  refine aa (gc ho hd ok.fits ?_)
  dsimp only
  rw[ok.noway]
  simp only[a8,if_false]
  rw[start_eq,hst]
  have hstand:Stand t.mask (itn (adv t.mask) m (st0 t.mask x.1)):=itn_stand m (st0_stand _ _)
  have roadm:∀n,(itn (adv t.mask) n (itn (adv t.mask) m (st0 t.mask x.1))).j=road t.mask x.1 (m+n):=λn=>by unfold road;rw[o0]
  have inj:∀{i i' j:Nat},t.place[i]?=some j->t.place[i']?=some j->i=i':=λ{i i' j} h1 h2=>by rw[<-below_at ok.rise h1,below_at ok.rise h2]
  have entry:∀{i j:Nat},t.place[i]?=some j->∃e di,es[i]?=some e/\ds[i]?=some di/\El Pv w s.heap e di:=λ{i j} h1=>by
   have hl:=(bh.mp h1).1
   have he:es[i]?=some (es[i]'(by rw[<-ok.sz];exact hl)):=br _
   obtain⟨di,h2,h3⟩:=els.at (by rw[a0];exact he)
   exact(x_EE _ di ⟨he,h2,h3⟩)
  obtain⟨met,hp,hmet⟩:=probe_met ok (f:=_) (h:=x.1) hstand
  rw[hp]
  have away:∀{n i:Nat},t.place[i]?=some (itn (adv t.mask) n (itn (adv t.mask) m (st0 t.mask x.1))).j->(es[i]?.map (·.1)).getD 0≠x.1->ds[i]?≠some d:=λ{n i} h1 h2 h3=>by
   obtain⟨e,di,g1,g2,g3⟩:=entry h1
   rw[g2]at h3
   cases h3
   apply h2
   rw[g1]
   show e.1=x.1
   rw[g3.hash,hx.hash]
  rcases hmet with ⟨n,rfl,hfree,hbef⟩|⟨n,i,rfl,hpl,hfi,hbef⟩
  .have hbef':∀n',n'<n->∃i:Nat,t.place[i]?=some (itn (adv t.mask) n' (itn (adv t.mask) m (st0 t.mask x.1))).j/\ds[i]?≠some d:=λn' hn'=>by
    obtain⟨i',h1,h2⟩:=hbef n' hn'
    exact⟨i',h1,away h1 h2⟩
   dsimp only
   rw[dummy_itn]
   show wpAny _ _ (pure _) _ _ _
   rw[roadm]at hfree⊢
   have before:∀n',n'<m+n->∃i:Nat,t.place[i]?=some (road t.mask x.1 n')/\ds[i]?≠some d:=λn' hn'=>by
    by_cases hq:n'<m
    .exact hm n' hq
    .obtain⟨i',h1,h2⟩:=hbef' (n'-m) (by omega)
     rw[roadm,show m+(n'-m)=n' by omega]at h1
     exact⟨i',h1,h2⟩
   refine af (q2 (m+n) (λhin=>?_) hfree λn' hn'=>?_)
   .obtain⟨k,hk⟩:=h9 hin
    have hkl:=(ak.mp hk).1
    have hke:es.toList[k]?=some (es.toList[k]'(by rw[els.1];exact hkl)):=ab _
    have hel:=els.2 k _ d hke hk
    have hkp:t.place[k]?=some (t.place[k]'(by rw[ok.sz,<-aw,els.1];exact hkl)):=br _
    obtain⟨n',hn',hr⟩:=ok.ahead (j:=t.place[k]'(by rw[ok.sz,<-aw,els.1];exact hkl)) (e:=es.toList[k]'(by rw[els.1];exact hkl)) ⟨k,by rw[a0];exact hkp,hke⟩ (n:=m+n) (by rw[hel.hash,<-hx.hash];exact hfree)
    rw[hel.hash,<-hx.hash]at hr
    obtain⟨i',g1,g2⟩:=before n' hn'
    rw[hr]at g1
    have e:=inj hkp g1
    rw[<-e]at g2
    exact g2 hk
   .obtain⟨i',g1,_⟩:=before n' hn'
    rw[<-a0]at g1
    exact am g1
  .obtain⟨e,di,g1,g2,g3⟩:=entry hpl
   obtain⟨eh,y⟩:=e
   obtain⟨ya,ey⟩:=g3.ref
   have ey':y=.ref ya:=ey
   subst ey'
   dsimp only
   have fin:wpAny (model prog w) A (setSearchFrom a x.2 x.1 true fuel (some (itn (adv t.mask) (n+1) (itn (adv t.mask) m (st0 t.mask x.1))))) Q E s\/di=d:=by
    by_cases hq:di=d
    .exact .inr hq
    .refine .inl (search_add ho hd ok els hx hu q1 q2 fuel (m+n+1) N _ ?_ hN (by omega) λn' hn'=>?_)
     .show itn (adv t.mask) (n+1) (itn (adv t.mask) m (st0 t.mask x.1))=_
      rw[<-o0];rfl
     .by_cases hq1:n'<m
      .exact hm n' hq1
      .by_cases hq2:n'-m<n
       .obtain⟨i',h1,h2⟩:=hbef (n'-m) hq2
        have h3:=away h1 h2
        rw[roadm,show m+(n'-m)=n' by omega]at h1
        exact⟨i',h1,h3⟩
       .rw[roadm,show m+n=n' by omega]at hpl
        exact⟨i,hpl,by rw[g2];intro z;cases z;exact hq rfl⟩
   have cand:∀(b:Bool),(b=true↔di=d)->(b=true->wpAny (model prog w) A (pure (SetFound.there none)) Q E s):=λb hb hbt=>af (q1 (by
    rw[<-hb.mp hbt]
    exact am g2))
   rw[g1]
   dsimp only
   have sm:t.sameMemory t.moves t.mask=some true:=by unfold SetTable.sameMemory;simp
   cases hled:t.led with
   | true=>
    simp only[h7,a8,if_false]
    refine aa (ei (El.eq rfl g3 hx hu λb hb=>?_))
    refine aa (gc ho hd ok.fits ?_)
    cases b with
    | true=>
     simp only[Bool.and_self,if_true]
     exact cand true hb rfl
    | false=>
     simp only[Bool.and_false,a8,if_false]
     rw[sm]
     dsimp only
     rw[if_pos rfl,slot_live ok.rise hpl]
     dsimp only
     rw[g1]
     dsimp only
     refine aa (wpAny_isSame_ref_self ?_)
     refine aa (af ?_)
     simp only[if_true,a8,if_false]
     rcases fin with f|f
     .exact f
     .exact absurd (hb.mpr f) (by simp)
   | false=>
    simp only[Bool.not_false,if_true]
    refine aa (seen_no hx _ (λy hy=>?_) ?_)
    .obtain⟨e,he,rfl⟩:=bi.mp hy
     have he':e∈es.toList:=by
      rw[Array.toList_filter]at he
      exact(dv.mp he).1
     obtain⟨k,hk⟩:=h9 he'
     obtain⟨dk,_,hE⟩:=els.at hk
     exact(x_EE e.1 dk hE)
    simp only[a8,if_false]
    refine aa (ei (El.eq rfl g3 hx hu λb hb=>?_))
    refine aa (gc ho hd ok.fits ?_)
    cases b with
    | true=>
     simp only[Bool.and_self,if_true]
     exact cand true hb rfl
    | false=>
     simp only[Bool.and_false,a8,if_false]
     rw[sm]
     dsimp only
     rw[if_pos rfl,slot_live ok.rise hpl]
     dsimp only
     rw[g1]
     dsimp only
     refine aa (wpAny_isSame_ref_self ?_)
     refine aa (af ?_)
     simp only[if_true,a8,if_false]
     rcases fin with f|f
     .exact f
     .exact absurd (hb.mpr f) (by simp)
end
end L3
namespace L3
open PySem
variable{Pv:Value->PyData->Prop}
theorem els_nil{w:World}{h:Heap}{ds:List PyData}(x:Els Pv w h [] ds):ds=[]:=jq.mp x.1.symm
theorem els_cons{w:World}{h:Heap}{e:Int×Value}{es:List (Int×Value)}{ds:List PyData}(x:Els Pv w h (e::es) ds):∃d ds',ds=d::ds'/\El Pv w h e d/\Els Pv w h es ds':=by
 match ds,x with
 | [],x=>exact absurd x.1 (by simp)
 | d::ds',x=>exact(x_EE d ds' ⟨rfl,x.2 0 e d rfl rfl,by have:=x.1;simpa using this,λi e' d' h1 h2=>x.2 (i+1) e' d' h1 h2⟩)
theorem Els.cons{w:World}{h:Heap}{e:Int×Value}{d:PyData}{es:List (Int×Value)}{ds:List PyData}(hd:El Pv w h e d)(x:Els Pv w h es ds):Els Pv w h (e::es) (d::ds):=by
 refine⟨by rw[bu,bu,x.1],λi e' d' h1 h2=>?_⟩
 cases i with
 | zero=>cases h1;cases h2;exact hd
 | succ i=>exact x.2 i e' d' h1 h2
theorem Els.nil{w:World}{h:Heap}:Els Pv w h [] []:=⟨rfl,λi e d h1 _=>by simp at h1⟩
theorem Els.append{w:World}{h:Heap}:∀{es fs:List (Int×Value)} {ds gs:List PyData},Els Pv w h es ds->Els Pv w h fs gs->Els Pv w h (es++fs) (ds++gs)
 | [],fs,ds,gs,x,y=>by rw[els_nil x];exact y
 | e::es,fs,ds,gs,x,y=>by
  obtain⟨d,ds',rfl,h1,h2⟩:=els_cons x
  exact Els.cons h1 (h2.append y)
theorem Els.take{w:World}{h:Heap}{es:List (Int×Value)}{ds:List PyData}(x:Els Pv w h es ds)(n:Nat):Els Pv w h (es.take n) (ds.take n):=by
 refine⟨by rw[bx,bx,x.1],λi e d h1 h2=>?_⟩
 have hi:i<n:=by
  have:=(ak.mp h1).1
  rw[bx]at this
  omega
 rw[dh hi]at h1 h2
 exact x.2 i e d h1 h2
theorem Els.drop{w:World}{h:Heap}{es:List (Int×Value)}{ds:List PyData}(x:Els Pv w h es ds)(n:Nat):Els Pv w h (es.drop n) (ds.drop n):=by
 refine⟨by rw[iq,iq,x.1],λi e d h1 h2=>?_⟩
 rw[eu]at h1 h2
 exact x.2 _ e d h1 h2
theorem Els.perm{w:World}{h:Heap}{es fs:List (Int×Value)}(p:es.Perm fs):∀{ds:List PyData},Els Pv w h fs ds->∃ds',ds'.Perm ds/\Els Pv w h es ds':=by
 induction p with
 | nil=>intro ds x;exact⟨ds,jc _,x⟩
 | cons e p ih=>
  intro ds x
  obtain⟨d,ds1,rfl,h1,h2⟩:=els_cons x
  obtain⟨ds2,p2,x2⟩:=ih h2
  exact⟨d::ds2,p2.cons d,x2.cons h1⟩
 | swap a b l=>
  intro ds x
  obtain⟨d,ds1,rfl,h1,h2⟩:=els_cons x
  obtain⟨d',ds2,rfl,h3,h4⟩:=els_cons h2
  exact⟨d'::d::ds2,List.Perm.swap _ _ _,(h4.cons h1).cons h3⟩
 | trans p1 p2 ih1 ih2=>
  intro ds x
  obtain⟨ds1,q1,x1⟩:=ih2 x
  obtain⟨ds2,q2,x2⟩:=ih1 x1
  exact⟨ds2,q2.trans q1,x2⟩
noncomputable def o6(h h':Heap):Prop:=∀b ob,h.get? b=some ob->ob.cls=.type "tuple"->h'.get? b=some ob
mutual
theorem reads_stay{h h':Heap}(t:o6 h h'):∀(d:PyData) {v:Value} {as:List Addr},kd d=true->Reads h v d as->Reads h' v d as
 | .int i,v,as,_,r=>by cases r with|int=>exact .int _ _
 | .str x,v,as,_,r=>by cases r with|str=>exact .str _ _
 | .tuple ds,v,as,hk,r=>by
  cases r with
  | tuple ho hc hd hi=>exact .tuple (t _ _ ho hc) hc hd (reads_stayAll t ds hk hi)
 | .none,_,_,hk,_=>absurd hk ah
 | .bool _,_,_,hk,_=>absurd hk ah
 | .list _,_,_,hk,_=>absurd hk ah
 | .dict _,_,_,hk,_=>absurd hk ah
theorem reads_stayAll{h h':Heap}(t:o6 h h'):∀(ds:List PyData) {vs:List Value} {as:List Addr},kdAll ds=true->ReadsAll h vs ds as->ReadsAll h' vs ds as
 | [],vs,as,_,r=>by cases r;exact .nil
 | d::ds,vs,as,hk,r=>by
  have hk':(kd d&&kdAll ds)=true:=hk
  rw[cg]at hk'
  cases r with
  | cons h1 h2=>exact .cons (reads_stay t d hk'.1 h1) (reads_stayAll t ds hk'.2 h2)
end
theorem El.stay{w:World}{h h':Heap}(t:o6 h h'){e:Int×Value}{d:PyData}(x:El Pv w h e d):El Pv w h' e d:=
 ⟨x.own,x.hash,x.key,x.tup,x.lay,x.deep,let ⟨as,r⟩:=x.reads;⟨as,reads_stay t d x.key r⟩⟩
theorem Els.stay{w:World}{h h':Heap}(t:o6 h h'){es:List (Int×Value)}{ds:List PyData}(x:Els Pv w h es ds):Els Pv w h' es ds:=⟨x.1,λi e d h1 h2=>(x.2 i e d h1 h2).stay t⟩
theorem stay_but{h h':Heap}{a:Addr}{o:Obj}(ho:h.get? a=some o)(hc:o.cls=.type "set")(hs:bw a h h'):o6 h h':=λb ob hb ht=>by
 have:b≠a:=λe=>by
  subst e
  rw[ho]at hb
  cases hb
  rw[hc]at ht
  exact absurd ht (by decide)
 rw[hs.2 b this]
 exact hb
noncomputable def byT(w:World):Bool:=w.params.followText "set-order"
noncomputable def SetD(Pv:Value->PyData->Prop)(w:World)(h:Heap)(a:Addr)(ds:List PyData):Prop:=
 ∃o es ep t,h.get? a=some o/\o.ExactSet/\o.data=.set es ep t/\TOk t es/\t.place.size*5<t.mask*3/\Els Pv w h es.toList ds/\ds.Nodup/\t.led = !byT w
theorem SetD.fresh{w:World}{h:Heap}{led:Bool}(hled:led = !byT w):SetD Pv w (h.push {cls:=.type "set",dict:=none,data:=.set #[] 0 (.fresh 0 0 led)}) h.objs.size []:=
 (nv _ (#[]) 0 _ ⟨ay _ rfl,⟨rfl,rfl,rfl⟩,rfl,TOk.fresh 0 0 led,(by show 0*5<7*3;decide),Els.nil,List.nodup_nil,hled⟩)
theorem TOk.withPlain{t:SetTable}{es:Array (Int×Value)}(ok:TOk t es)(b:Bool):TOk {t with plain:=b} es:=⟨ok.two,ok.dm,ok.rise,ok.bd,ok.sz,ok.fit,ok.onroad⟩
section
variable{prog:Program}{w:World}{A:Around}{E:Value->Shared->Prop}{s:Shared}
theorem relay_ok{a:Addr}{o:Obj}{es:Array (Int×Value)}{ep:Nat}{t:SetTable}{ds:List PyData}{wanted:Nat}{Q:Unit->Shared->Prop}
  (ho:s.heap.get? a=some o) (hex:o.ExactSet) (hd:o.data=.set es ep t) (ok:TOk t es) (els:Els Pv w s.heap es.toList ds) (hnd:ds.Nodup) (hled:t.led = !byT w) (hw:es.size*4<=wanted) (hw2:wanted<2^13) (hodd:∀k,SetTable.sizeAbove wanted=2^k->k % 2=1) (hpos:0<es.size)
  (q:∀h' ds',bw a s.heap h'->SetD Pv w h' a ds'->ds'.Perm ds->Q () {s with heap:=h'}):wpAny (model prog w) A (setRelay a wanted) Q E s:=by
 obtain⟨t',order,e,ok',pm,few,eled⟩:=relaid_spec (t:=t) hw hw2 hodd hpos
 obtain⟨k,ek,k3,k13,hn⟩:=oz wanted hw2
 have hline:¬SetTable.sizeAbove wanted>sizeLine:=by
  rw[ek,gi]
  have:2^k<=2^13:=Nat.pow_le_pow_right (by decide) k13
  omega
 have hsz:(order.filterMap (es[·]?)).size=es.size:=by have:=pm.length_eq;rw[aw,aw]at this;exact this
 obtain⟨ds',pd,els'⟩:=els.perm pm
 unfold setRelay
 refine aa (gc ho hd ok.fits ?_)
 dsimp only
 rw[if_neg hline,e]
 refine aa ?_
 show wpAny _ _ (ite _ _ _) _ _ _
 rw[if_neg (by simp[hsz])]
 refine af ?_
 have hs13:es.size<=sizeLine:=by rw[gi];omega
 refine wpAny_storeSet_of ho hd ?_ (by rw[hsz];exact hs13)
 have hg:(s.heap.update a (Obj.putSet (order.filterMap (es[·]?)) t')).get? a=some {o with data:=.set (order.filterMap (es[·]?)) (ep+1) t'}:=by
  have:=ce (Obj.putSet (order.filterMap (es[·]?)) t') ho (by rw[putSet_of _ t' hd];rfl)
  rw[putSet_of _ t' hd]at this;exact this
 have hsb:=c5 s.heap a (Obj.putSet (order.filterMap (es[·]?)) t')
 exact q _ ds' hsb (nv _ _ _ _ ⟨hg,hex,rfl,ok',few,els'.stay (stay_but ho hex.1 hsb),(pd.nodup_iff).mpr hnd,eled.trans hled⟩) pd
theorem add_hashed{a:Addr}{ds:List PyData}{x:Int×Value}{d:PyData}{Q:Bool->Shared->Prop}(hS:SetD Pv w s.heap a ds)(hx:El Pv w s.heap x d)(hu:A.units+8<cLine)(hroom:ds.length<4000)
  (q:∀h' ds' b,bw a s.heap h'->SetD Pv w h' a ds'->(d∈ds->ds'=ds)->(d∉ds->ds'.Perm (d::ds))->Q b {s with heap:=h'}) :
  wpAny (model prog w) A (setAddHashed a x.2 x.1) Q E s:=by
 obtain⟨o,es,ep,t,ho,hex,hd,ok,few,els,hnd,hled⟩:=hS
 obtain⟨xa,ex⟩:=hx.ref
 obtain⟨k,hk,k3,k13,ko⟩:=ok.two
 have hel:=els.1
 rw[aw]at hel
 have hsz:=ok.sz
 obtain⟨j,hj,hfree⟩:=pigeon (ps:=t.place.toList) (m:=t.mask) (by rw[aw];exact ok.fit)
 unfold setAddHashed setAddHashedIn
 refine ei (aa (gc ho hd ok.fits ?_))
 dsimp only
 have hns:byScan x.2 es=false:=by rw[ex];rfl
 rw[hns]
 simp only[a8,if_false]
 unfold setSearch
 obtain⟨N,hN,eN⟩:=reach hk (st0 t.mask x.1) (st0_stand _ _).1 (st0_stand _ _).2.1 j hj
 have hmask:10*SetTable.turns t.mask<=100000:=by
  unfold SetTable.turns
  have:2^k<=2^13:=Nat.pow_le_pow_right (by decide) k13
  omega
 refine aa (search_add ho hd ok els hx hu (λhin=>?_) (λn hnin hf hr=>?_) 100000 0 N none rfl (by unfold road;rw[eN];exact hfree) (by omega) (λn' hn'=>by omega))
 .dsimp only
  refine af ?_
  have e:s={s with heap:=s.heap}:=by cases s;rfl
  rw[e]
  exact q s.heap ds false (bw.refl a s.heap) (nv o es ep t ⟨ho,hex,hd,ok,few,els,hnd,hled⟩) (λ_=>rfl) (λz=>absurd hin z)
 .dsimp only
  have hm7:7<=t.mask:=by
   have:2^3<=2^k:=Nat.pow_le_pow_right (by decide) k3
   omega
  obtain⟨ok1,em,hp1,hs1⟩:=ok.put (x:=x.2) hf hr (by omega)
  have els1:Els Pv w s.heap (gt es (t.put (road t.mask x.1 n)).2 (x.1,x.2)).toList (ds.take (t.put (road t.mask x.1 n)).2++d::ds.drop (t.put (road t.mask x.1 n)).2):=by
   rw[mr]
   exact(els.take _).append ((els.drop _).cons hx)
  have pm1:(ds.take (t.put (road t.mask x.1 n)).2++d::ds.drop (t.put (road t.mask x.1 n)).2).Perm (d::ds):=by
   have:=List.perm_middle (a:=d) (l₁:=ds.take (t.put (road t.mask x.1 n)).2) (l₂:=ds.drop (t.put (road t.mask x.1 n)).2)
   rw[cz]at this
   exact this
  have nd1:(ds.take (t.put (road t.mask x.1 n)).2++d::ds.drop (t.put (road t.mask x.1 n)).2).Nodup:=by
   rw[pm1.nodup_iff,jy]
   exact⟨hnin,hnd⟩
  have es1:(gt es (t.put (road t.mask x.1 n)).2 (x.1,x.2)).size=es.size+1:=by rw[<-ok1.sz,hs1,hsz]
  refine aa (gc ho hd ok.fits ?_)
  dsimp only
  have hled1:(t.put (road t.mask x.1 n)).1.led=t.led:=rfl
  generalize hpt:t.put (road t.mask x.1 n)=pt at *
  obtain⟨t1,p⟩:=pt
  simp only at ok1 em hp1 hs1 els1 pm1 nd1 es1 hled1⊢
  have fin:∀t2:SetTable,TOk t2 (gt es p (x.1,x.2))->t2.mask=t1.mask->t2.place=t1.place->t2.led=t1.led->wpAny (model prog w) A (storeSet a (gt es p (x.1,x.2)) t2 >>= λ_=>if (!false&&t2.tooFull)=true then setRelay a (SetTable.grown (es.size+1)) >>= λ_=>pure true else pure true) Q E s:=λt2 ok2 e1 e2 e3=>by
   have hled2:t2.led = !byT w:=e3.trans (hled1.trans hled)
   have hline:(gt es p (x.1,x.2)).size<=sizeLine:=by rw[es1,gi];omega
   refine aa (wpAny_storeSet_of ho hd ?_ hline)
   have hg:(s.heap.update a (Obj.putSet (gt es p (x.1,x.2)) t2)).get? a=some {o with data:=.set (gt es p (x.1,x.2)) (ep+1) t2}:=by
    have:=ce (Obj.putSet (gt es p (x.1,x.2)) t2) ho (by rw[putSet_of _ t2 hd];rfl)
    rw[putSet_of _ t2 hd]at this;exact this
   have hsb:=c5 s.heap a (Obj.putSet (gt es p (x.1,x.2)) t2)
   have els2:=els1.stay (stay_but ho hex.1 hsb)
   by_cases hfull:t2.tooFull=true
   .rw[if_pos (by rw[hfull];rfl)]
    have hes:es.size<4000:=by rw[hel];exact hroom
    have htf:t2.mask*3<=(es.size+1)*5:=by
     unfold SetTable.tooFull SetTable.fill at hfull
     rw[ok2.dm]at hfull
     have:=ok2.sz
     have:=es1
     simp at hfull
     omega
    have hmk:t2.mask+1=2^k:=by rw[e1,em];exact hk
    have hfw:(es.size+1-1)*5<t2.mask*3:=by rw[e1,em];have:=ok.sz;omega
    have hgs:=grow_small hmk k3 k13 ko htf hfw (by omega)
    have hgr:SetTable.grown (es.size+1)=(es.size+1)*4:=by unfold SetTable.grown;rw[if_neg (by omega)]
    refine aa (relay_ok (s:={s with heap:=s.heap.update a (Obj.putSet (gt es p (x.1,x.2)) t2)}) hg hex rfl ok2 els2 nd1 hled2 (by rw[es1,hgr];exact ao _) (by rw[hgr];exact hgs.1) (λk' ek'=>?_) (by rw[es1];omega) λh' ds' hsb' hS' pd'=>?_)
    .rw[hgr]at ek'
     obtain⟨a1,a2,a3⟩:=sizeAbove_two _ (by omega) hgs.1 ek'
     exact grow_odd hmk k3 k13 ko htf hfw (by omega) a1 a2 a3
    .exact af (q h' ds' true (hsb.trans hsb') hS' (λz=>absurd z hnin) (λ_=>pd'.trans pm1))
   .rw[if_neg (by simpa using hfull)]
    have few2:t2.place.size*5<t2.mask*3:=by
     unfold SetTable.tooFull SetTable.fill at hfull
     rw[ok2.dm]at hfull
     simpa using hfull
    exact af (q _ _ true hsb (nv _ _ _ _ ⟨hg,hex,rfl,ok2,few2,els2,nd1,hled2⟩) (λz=>absurd z hnin) (λ_=>pm1))
  obtain⟨as,rx⟩:=hx.reads
  split
  .refine aa (byval_reads 8 hx.key rx λb=>?_)
   cases b with
   | true=>
    simp only[if_true]
    exact fin t1 ok1 rfl rfl rfl
   | false=>
    simp only[a8,if_false]
    exact fin _ (ok1.withPlain false) rfl rfl rfl
  .refine aa (af ?_)
   simp only[if_true]
   exact fin t1 ok1 rfl rfl rfl
end
end L3
namespace L3
open PySem PyProof.Rows
variable{Pv:Value->PyData->Prop}
noncomputable def Keep(h0 h:Heap):Prop:=∀b o,h0.get? b=some o->h.get? b=some o
theorem Keep.tups{h0 h:Heap}(k:Keep h0 h):o6 h0 h:=λb o e _=>k b o e
theorem SetD.moved{w:World}{h h':Heap}{S:Addr}{ds:List PyData}(x:SetD Pv w h S ds)(hS:∀o,h.get? S=some o->h'.get? S=some o)(t:o6 h h'):SetD Pv w h' S ds:=by
 obtain⟨o,es,ep,tb,ho,hex,hd,ok,few,els,nd,hled⟩:=x
 exact(nv o es ep tb ⟨hS o ho,hex,hd,ok,few,els.stay t,nd,hled⟩)
section
variable{prog:Program}{w:World}{A:Around}{R:Result->Shared->Prop}{I:Addr}{fp wr:List Addr}{G:Array GenState->Array GenState->Prop}{n:Nat}{P:Nat->Value->Prop}{St:Nat->Shared->Prop}
theorem update_loopD(W:WalksS prog w A.in1 I fp wr G n P St)(S:Addr)(hSf:S∉fp)(h0:Heap)(hwr:∀b∈wr,h0.get? b=none)(hS0:h0.get? S=none)(hwt:∀i s,St i s->∀b∈wr,∀ob,s.heap.get? b=some ob->ob.cls≠.type "tuple")
  (val:Nat->PyData) (hval:∀i v,P i v->El Pv w h0 (hashD w (val i),v) (val i)) (hu:A.units+9<cLine) (hb:n<4000) :
  ∀(k i:Nat) (s:Shared) (ds:List PyData),n-i=k->i<=n->St i s->Keep h0 s.heap->SetD Pv w s.heap S ds->(∀d,d∈ds↔∃j,j<i/\val j=d)->ds.length<=i->
   (∀s' ds',Moved (S::wr) G s s'->Keep h0 s'.heap->SetD Pv w s'.heap S ds'->(∀d,d∈ds'↔∃j,j<n/\val j=d)->ds'.length<=n->R (.ok (.ret .none)) s')->
   codeAny (model prog w) A (.builtin "set.update.loop" ⟨[.ref S,.ref I],[]⟩) R s:=by
 have hSw:S∉wr:=λh=>hSf (W.sub _ h)
 have mono:∀b∈wr,b∈S::wr:=λb hb=>av _ hb
 have mv:∀{i:Nat} {s s':Shared} {ds:List PyData},St i s->Moved wr G s s'->Keep h0 s.heap->SetD Pv w s.heap S ds->Keep h0 s'.heap/\SetD Pv w s'.heap S ds:=λ{i s s' ds} hst hm hk hS=>by
  refine⟨λb o e=>hm.heap b o (λz=>by rw[hwr b z]at e;cases e) (hk b o e),hS.moved (λo e=>hm.heap S o hSw e) λb o e ht=>hm.heap b o (λz=>hwt i s hst b z o e ht) e⟩
 intro k
 induction k with
 | zero=>
  intro i s ds hk hi hst hkp hS hmem hlen hR
  have hin:i=n:=by omega
  subst hin
  refine gf F.entry_set_update_loop (show _ from ?_)
  rw[fq F.plain_set_update_loop (_:Args)]
  show wpAny _ A.in1 (pyNext (.ref I) >>= _) _ _ _
  refine aa (W.done s _ _ hst λs' hm=>?_)
  obtain⟨k1,S1⟩:=mv hst hm hkp hS
  exact af (hR s' ds (hm.mono mono) k1 S1 hmem hlen)
 | succ k ih=>
  intro i s ds hk hi hst hkp hS hmem hlen hR
  have hlt:i<n:=by omega
  refine gf F.entry_set_update_loop (show _ from ?_)
  rw[fq F.plain_set_update_loop (_:Args)]
  show wpAny _ A.in1 (pyNext (.ref I) >>= _) _ _ _
  refine aa (W.item i s _ _ hlt hst λv s' hP hst' hm=>?_)
  obtain⟨k1,S1⟩:=mv hst hm hkp hS
  have hE:=(hval i v hP).stay k1.tups
  obtain⟨as,rv⟩:=hE.reads
  show wpAny _ A.in1 (holding [v] (setAdd S v) >>= _) _ _ _
  refine aa (ei ?_)
  unfold setAdd
  refine ei ?_
  refine aa (hash_reads (val i) hE.key prog w A.in1 _ s' v as _ rv (by show A.units+1+_<cLine;have:=hE.deep;omega) λtk htk=>?_)
  refine add_hashed (s:={s' with toks:=tk}) (x:=(hashD w (val i),v)) S1 hE (by show A.units+1+8<cLine;omega) (by omega) λh' ds' b hsb hS' e1 e2=>?_
  have k2:Keep h0 h':=λb o e=>by
   rw[hsb.2 b (λz=>by rw[z,hS0]at e;cases e)]
   exact k1 b o e
  have hmem':∀d,d∈ds'↔∃j,j<i+1/\val j=d:=λd=>by
   have base:(∃j,j<i+1/\val j=d)↔(d∈ds\/val i=d):=by
    rw[hmem d]
    constructor
    .rintro⟨j,hj,e⟩
     by_cases q:j=i
     .subst q;exact .inr e
     .exact .inl ⟨j,by omega,e⟩
    .rintro(⟨j,hj,e⟩|e)
     .exact⟨j,by omega,e⟩
     .exact⟨i,by omega,e⟩
   rw[base]
   by_cases q:val i∈ds
   .rw[e1 q]
    exact⟨.inl,λz=>z.elim id λe=>e▸q⟩
   .rw[(e2 q).mem_iff,ax]
    exact⟨λz=>z.elim (λe=>.inr e.symm) .inl,λz=>z.elim .inr λe=>.inl e.symm⟩
  have hlen':ds'.length<=i+1:=by
   by_cases q:val i∈ds
   .rw[e1 q];omega
   .rw[(e2 q).length_eq,bu];omega
  refine af ⟨jo F.plain_set_update_loop _,ih (i+1) _ ds' (by omega) hlt (W.frame _ s' _ _ hst' htk λb hb o e=>?_) k2 hS' hmem' hlen' λs'' ds'' hm'' k'' S'' m'' l''=>?_⟩
  .rw[hsb.2 b (λh:b=S=>hSf (by rw[<-h];exact hb))];exact e
  .refine hR s'' ds'' (Moved.trans W.gtrans ((hm.mono mono).then_heap htk λb o hb e=>?_) hm'') k'' S'' m'' l''
   rw[hsb.2 b (λh:b=S=>hb (by rw[h];exact au))];exact e
end
section
variable{prog:Program}{w:World}{A:Around}{E:Value->Shared->Prop}{s:Shared}
theorem code_set_newD(a:Value){Q₁:Value->Shared->Prop}
  (h:Q₁ (.ref s.heap.objs.size) {s with heap:=s.heap.push {cls:=.type "set",dict:=none,data:=.set #[] 0 (.fresh 0 0 (!byT w))}}) :
  codeAny (model prog w) A (.call (.builtin "set.__new__") ⟨[.type "set",a],[]⟩) (wants Q₁ E) s:=by
 refine codeAny_of_tree (show _ from ?_)
 show wpAny _ A.in1 (do checkBuiltinCall "set.__new__" ⟨[.type "set",a],[]⟩;again (.builtin "set.__new__" ⟨[.type "set",a],[]⟩)) _ _ _
 refine aa (wpAny_of_eq (PySem.F.newCall_set_1 a) (af ⟨jo PySem.F.plain_set_new _,gf PySem.F.entry_set_new (show _ from ?_)⟩))
 rw[fq PySem.F.plain_set_new (_:Args)]
 unfold Builtin.«set.__new__» Builtin.Frozenset.newClass
 have hsub:=sub_set_self
 obtain⟨hp,g,d,tk,os⟩:=s
 dsimp only
 wp_walk
 refine wpAny_askSetting (af ?_)
 dsimp only
 simp only[newObj]
 refine aa (wpAny_alloc (af ?_))
 exact af h
theorem call_setD{l:Addr}{items:Array Value}{ds:List PyData}{Q:Value->Shared->Prop}
  (hh:A.handled=none) (hl:s.heap.IsList l items) (hi:items.size=ds.length) (hE:∀(i:Nat) v d,items[i]?=some v->ds[i]?=some d->El Pv w s.heap (hashD w d,v) d) (hb:ds.length<4000) (hu:A.units+20<cLine)
  (h:∀(h':Heap) (tk:Nat) (ds':List PyData),SetD Pv w h' s.heap.objs.size ds'->(∀d,d∈ds'↔d∈ds)->ds'.length<=ds.length->Keep s.heap h'->s.toks<=tk->Q (.ref s.heap.objs.size) {s with heap:=h',toks:=tk}) :
  wpAny (model prog w) A (call (.type "set") [.ref l]) Q E s:=by
 obtain⟨c,tl,hmro⟩:=cv.mro
 have hmade:=cv.made
 have hsub:=cv.sub
 refine wpAny_call (codeAny_of_tree (show _ from ?_))
 show wpAny _ _ (callAny (.type "set") _) _ _ s
 refine af ⟨Code.quiet_builtin _ (by decide +kernel),gf F.entry_type_call (show _ from ?_)⟩
 rw[Around.under_plain (weight_type_call_type "set" [.ref l] []) (rfl:_=_)]
 have h1:=cv.notType
 have h2:=cv.canCreate
 have hct:=PySem.F.typeCall_set_1 (.ref l)
 repeat (any_goals (first|assumption|(wp_step)))
 refine codeAny_mono (code_set_newD (.ref l) (E:=E) (Q₁:=λobj s₁=>∃led:Bool,led=(!byT w)/\obj=.ref s.heap.objs.size/\s₁={s with heap:=s.heap.push {cls:=.type "set",dict:=none,data:=.set #[] 0 (.fresh 0 0 led)}}) ⟨_,rfl,rfl,rfl⟩) λr s₁ hr=>?_
 match r,hr with
 | .error e,hr=>exact hr
 | .ok (.ret obj),hr=>
   obtain⟨led,hled,rfl,rfl⟩:=hr
   obtain⟨emp,hemp⟩:∃ob:Obj,ob={cls:=.type "set",dict:=none,data:=.set #[] 0 (.fresh 0 0 led)}:=⟨_,rfl⟩
   have hS:(s.heap.push emp).get? s.heap.objs.size=some emp:=ay _ (by rw[hemp];rfl)
   have hT:Shared.TypeIs {s with heap:=s.heap.push emp} (.ref s.heap.objs.size) "set":=⟨_,hS,by rw[hemp]⟩
   have hSD:SetD Pv w (s.heap.push emp) s.heap.objs.size []:=by rw[hemp];exact SetD.fresh hled
   rw[<-hemp]
   have hli:=cv.init.lookup
   have hbi:=cv.init.bind (.ref s.heap.objs.size)
   repeat (any_goals (first|assumption|(wp_step)))
   refine codeAny_mono (codeAny_call_builtin (R:=wants (λr s₂=>r=.none/\∃h' tk ds',s₂={s with heap:=h',toks:=tk}/\SetD Pv w h' s.heap.objs.size ds'/\(∀d,d∈ds'↔d∈ds)/\ds'.length<=ds.length/\Keep s.heap h'/\s.toks<=tk) E) cv.init.plain F.entry_set_init (check_set_init_1 hT ?_)) λr₂ s₂ hr₂=>?_
   .obtain⟨ol,hol,hcl,nl,hdl⟩:=hl
    obtain⟨ocls,odict,odata,oslots⟩:=ol
    simp only at hcl hdl
    subst hcl;subst hdl
    have hol':(s.heap.push emp).get? l=some {cls:=.type "list",dict:=odict,data:=.seq items nl,slots:=oslots}:=ai _ hol
    have hsls:=PySem.F.sub_list_set
    have hslf:=PySem.F.sub_list_frozenset
    have hne:(Value.type "list" == Value.type "dict")=false:=by decide
    have hl1:(s.heap.push emp).IsList l items:=(x_EAAE _ hol' rfl nl rfl)
    unfold Builtin.«set.__init__» noKeywords Builtin.Frozenset.updateFrom
    generalize hPI:pyIter=PI
    subst hemp
    wp_walk
    subst hPI
    refine wpAny_pyIter_list hl1 ?_
    refine aa (wpAny_runValue ?_)
    have none_at:∀b,s.heap.objs.size<=b->s.heap.get? b=none:=λb hb'=>by
     cases hq:s.heap.get? b with
     | none=>rfl
     | some ob=>exact absurd (a9 hq) (Nat.not_lt.mpr hb')
    have hlS:l<s.heap.objs.size:=a9 hol
    have hh3:A.in1.in1.in1.handled=none:=by simp[hh]
    have hIs:(s.heap.push {cls:=.type "set",dict:=none,data:=.set #[] 0 (.fresh 0 0 led)}).objs.size=s.heap.objs.size+1:=ju _ _
    have hneI:l≠(s.heap.push {cls:=.type "set",dict:=none,data:=.set #[] 0 (.fresh 0 0 led)}).objs.size:=by rw[hIs];exact cc (ji hlS)
    have hSf:s.heap.objs.size∉[(s.heap.push {cls:=.type "set",dict:=none,data:=.set #[] 0 (.fresh 0 0 led)}).objs.size,l]:=by
     rw[hIs];simp only[ax,iu,or_false,not_or]
     exact⟨cc (Nat.lt_succ_self _),Nat.ne_of_gt hlS⟩
    have hval:∀(i:Nat) (v:Value),items[i]?=some v->El Pv w s.heap (hashD w (ds.getD i .none),v) (ds.getD i .none):=λi v hv=>by
     have hlt:=(bh.mp hv).1
     have hd:ds[i]?=some (ds.getD i .none):=by
      rw[cb,ab (by omega)];rfl
     exact hE i v _ hv hd
    refine update_loopD (A:=A.in1.in1) ((Walks.list hh3 _ l hneI items).toS) s.heap.objs.size hSf s.heap (λb hb'=>none_at b (by rw[ba.mp hb',hIs];exact Nat.le_succ _)) (none_at _ (ao _)) (λi s' hst b hb' ob e=>?hwt)
     (λi=>ds.getD i .none) hval (by show A.units+1+1+9<cLine;omega) (by omega) (items.size-0) 0 _ [] (by omega) (en _)
     ⟨⟨_,ay _ rfl,rfl,rfl⟩,(hl1.push _)⟩ ?hK0 ?hS0 (λd=>by simp) (by simp) ?hR
    case hwt=>
     obtain⟨⟨oi,ho,hc,_⟩,_⟩:=hst
     rw[ba.mp hb',ho]at e
     cases e
     rw[hc]
     decide
    case hK0=>exact λb o e=>ai _ (ai _ e)
    case hS0=>exact hSD.moved (λo e=>ai _ e) λb o e _=>ai _ e
    case hR=>
     intro s' ds' hm k' S' m' l'
     obtain⟨h',g',d',tk',os'⟩:=s'
     have eg:g'=s.gens:=hm.gens
     have ed:d'=s.drawn:=hm.drawn
     have eo:os'=s.os:=hm.os
     subst eg;subst ed;subst eo
     show wpAny _ _ _ _ _ _
     refine af ?_
     show wpAny _ _ (ret Value.none) _ _ _
     refine af ⟨rfl,(x_EEE h' tk' ds' ⟨rfl,S',λd=>?_,by omega,k',hm.toks⟩)⟩
     rw[m' d]
     constructor
     .rintro⟨j,hj,rfl⟩
      rw[cb,ab (by omega)]
      exact df _
     .intro hd
      obtain⟨j,hj⟩:=h9 hd
      have hjl:=(ak.mp hj).1
      exact⟨j,by omega,by rw[cb,hj];rfl⟩
   .match r₂,hr₂ with
    | .error e,hr₂=>exact hr₂
    | .ok (.ret r),hr₂=>
      obtain⟨rfl,h',tk,ds',rfl,hS',hm',hl',hk',ht'⟩:=hr₂
      repeat (any_goals (first|assumption|(wp_step)))
      exact h _ _ ds' hS' hm' hl' hk' ht'
    | .ok .next,hr₂=>exact hr₂.elim
    | .ok .brk,hr₂=>exact hr₂.elim
    | .ok .cont,hr₂=>exact hr₂.elim
 | .ok .next,hr=>exact hr.elim
 | .ok .brk,hr=>exact hr.elim
 | .ok .cont,hr=>exact hr.elim
end
end L3
namespace L3
open PySem PySem.Spec PyProof.Rows L2
variable{Pv:Value->PyData->Prop}
noncomputable def KeyD(d:PyData):Prop:=kd d=true/\(∃ds,d=.tuple ds)/\d.depth<8
theorem pf{h:Heap}:∀{us:List Value} {ds:List PyData} {as:List Addr} {i:Nat} {u:Value} {d:PyData},ReadsAll h us ds as->us[i]?=some u->ds[i]?=some d->∃bs,Reads h u d bs
 | _,_,_,i,u,d,.nil,h1,_=>by simp at h1
 | _,_,_,0,u,d,.cons a b,h1,h2=>by
  cases h1;cases h2
  exact⟨_,a⟩
 | _,_,_,i+1,u,d,.cons a b,h1,h2=>pf b (by simpa using h1) (by simpa using h2)
theorem lay_mem:∀{ds:List PyData},gq ds=true->∀d∈ds,d.canLay0=true
 | [],_,d,hd=>by cases hd
 | e::ds,hk,d,hd=>by
  have hk':(e.canLay0&&gq ds)=true:=hk
  rw[cg]at hk'
  rcases ax.mp hd with h|hd
  .rw[h];exact hk'.1
  .exact lay_mem hk'.2 d hd
end L3
namespace L3
open PySem
theorem slot_setit_next:Slot "set_iterator" "__next__" "set_iterator.__next__":=
 .of (owner:="set_iterator") (n:="__next__") (by rw[typeLookup_type,builtinLookup_eq_fast];kernel_rfl) (by decide +kernel) (by decide +kernel) (by decide +kernel) (by first|exact .inl (by decide +kernel)|exact .inr (by decide +kernel)) (by rw[isSubtype_type];kernel_rfl)
theorem nh:entryFor table "set_iterator.__next__" = some Builtin.«set_iterator.__next__»:=entryFor_of_tree (by kernel_rfl)
theorem n8(a:Value):argsOk "set_iterator.__next__" ⟨[a],[]⟩:=by unfold argsOk;kernel_rfl
theorem entry_set_iterD:entryFor table "set.__iter__" = some Builtin.«frozenset.__iter__»:=entryFor_alias (id':="frozenset.__iter__") (by kernel_rfl) rfl (by decide +kernel) (by kernel_rfl)
theorem erase_perm{α:Type}:∀(l:List α) (i:Nat) (h:i<l.length),(l[i]::l.eraseIdx i).Perm l
 | a::l,0,h=>jc _
 | a::l,i+1,h=>by
  have h':i<l.length:=by simpa using h
  show(l[i]::a::l.eraseIdx i).Perm (a::l)
  exact(List.Perm.swap _ _ _).trans ((erase_perm l i h').cons a)
theorem pick_go{α:Type}(next:Nat->Nat):∀(fuel k:Nat) (left:List α) (out:Array α),left.length=fuel->((pickOrder.go next fuel k left out).toList).Perm (out.toList++left)
 | 0,k,left,out,h=>by
  have:left=[]:=jq.mp h
  subst this
  rw[ck]
  exact jc _
 | fuel+1,k,left,out,h=>by
  unfold pickOrder.go
  have hl:next k % left.length<left.length:=Nat.mod_lt _ (by omega)
  rw[ab hl]
  dsimp only
  refine(pick_go next fuel (k+1) _ _ (by rw[List.length_eraseIdx_of_lt hl];omega)).trans ?_
  rw[Array.toList_push,bf]
  refine gp _ ?_
  exact(erase_perm _ _ hl)
theorem pick_perm{α:Type}(next:Nat->Nat)(xs:Array α):(pickOrder next xs).toList.Perm xs.toList:=by
 unfold pickOrder
 have:=pick_go next xs.size 0 xs.toList #[] (by simp)
 simpa using this
section
variable{prog:Program}{w:World}{A:Around}{E:Value->Shared->Prop}{s:Shared}
theorem wpAny_chooseD{src:Source}{n:Nat}{Q:Nat->Shared->Prop}(hn:0<n)(h:∀i dr,i<n->Q i {s with drawn:=dr}):wpAny (model prog w) A (choose src n) Q E s:=λΓ p hΓ=>by
 show n≠0/\_
 exact⟨by omega,h _ _ (Nat.mod_lt _ hn)⟩
theorem draw_perm{α:Type}:∀(n:Nat) (xs:List α) (s:Shared) {Q:List α->Shared->Prop},xs.length=n->(∀ys dr,ys.Perm xs->Q ys {s with drawn:=dr})->wpAny (model prog w) A (drawOrder n xs) Q E s
 | 0,xs,s,Q,h,q=>by
  have:xs=[]:=jq.mp h
  subst this
  unfold drawOrder
  exact af (q [] s.drawn (jc _))
 | n+1,[],s,Q,h,q=>by simp at h
 | n+1,x::xs,s,Q,h,q=>by
  unfold drawOrder
  refine aa (wpAny_chooseD (by simp) λi dr hi=>?_)
  rw[ab hi]
  dsimp only
  refine aa (draw_perm n _ {s with drawn:=dr} (by rw[List.length_eraseIdx_of_lt hi];omega) λys dr' p=>?_)
  exact af (q _ dr' ((List.Perm.cons _ p).trans (erase_perm _ _ hi)))
noncomputable def itObj(first:Value)(i:Nat)(a:Addr)(n ep:Nat):Obj:={cls:=.type "set_iterator",data:=.fields #[first,.int i 0,.ref a,.int n 0,.int ep 0]}
theorem next_int{I a:Addr}{slot slot' i ep:Nat}{o:Obj}{es:Array (Int×Value)}{t:SetTable}{x:Value}{Q:Option Value->Shared->Prop}(hit:s.heap.get? I=some (itObj (.int slot 0) i a es.size ep))(ho:s.heap.get? a=some o)(hd:o.data=.set es ep t)(hf:t.fits es.size=true)
  (hnx:∀{A:Around} {E:Value->Shared->Prop} {Q:Option (Value×Nat)->Shared->Prop},Q (some (x,slot')) s->wpAny (model prog w) A (setNext a slot i ep) Q E s)
  (hQ:∀h',h'.get? I=some (itObj (.int slot' 0) (i+1) a es.size ep)->bw I s.heap h'->Q (some x) {s with heap:=h'}):wpAny (model prog w) A (pyNext (.ref I)) Q E s:=by
 have hT:s.TypeIs (.ref I) "set_iterator":=⟨_,hit,rfl⟩
 unfold pyNext
 refine aa (jn (b8 (name:=bq "__next__") hT slot_setit_next (b9 slot_setit_next hT nh ?_ (n8 _))))
 unfold Builtin.«set_iterator.__next__» slotArgs
 simp only[List.isEmpty_nil,h7,a8,↓reduceIte,bind_assoc,i7,bne_self_eq_false]
 refine aa (af ?_)
 dsimp only
 refine aa (wpAny_fieldsOf hit rfl ?_)
 show wpAny _ _ (setEntries a >>= _) _ _ _
 refine aa (wpAny_setEntries_of ho hd hf ?_)
 rw[if_neg (by simp)]
 show wpAny _ _ (setNext a (slot:Int).toNat (i:Int).toNat (ep:Int).toNat >>= _) _ _ _
 simp only[b0]
 refine aa (hnx ?_)
 dsimp only
 refine aa (gz hit rfl (by show 0<5;decide) ?_)
 have g1:=ce (Obj.mapFields (·.setIfInBounds 0 (rawInt slot'))) hit rfl
 refine aa (gz g1 rfl (by show 1<5;decide) ?_)
 have g2:=ce (Obj.mapFields (·.setIfInBounds 1 (rawInt (i+1)))) g1 rfl
 exact af ⟨x,rfl,af (hQ _ g2 ((c5 ..).trans (c5 ..)))⟩
theorem end_int{I a:Addr}{slot i ep:Nat}{o:Obj}{es:Array (Int×Value)}{t:SetTable}{Q:Option Value->Shared->Prop}(hh:A.handled=none)(hit:s.heap.get? I=some (itObj (.int slot 0) i a es.size ep))(ho:s.heap.get? a=some o)(hd:o.data=.set es ep t)(hf:t.fits es.size=true)
  (hnx:∀{A:Around} {E:Value->Shared->Prop} {Q:Option (Value×Nat)->Shared->Prop},Q none s->wpAny (model prog w) A (setNext a slot i ep) Q E s)
  (hQ:∀h',jp I s.heap h'->Q none {s with heap:=h'}):wpAny (model prog w) A (pyNext (.ref I)) Q E s:=by
 have hT:s.TypeIs (.ref I) "set_iterator":=⟨_,hit,rfl⟩
 unfold pyNext
 refine aa (jn (b8 (name:=bq "__next__") hT slot_setit_next (b9 slot_setit_next hT nh ?_ (n8 _))))
 unfold Builtin.«set_iterator.__next__» slotArgs
 simp only[List.isEmpty_nil,h7,a8,↓reduceIte,bind_assoc,i7,bne_self_eq_false]
 refine aa (af ?_)
 dsimp only
 refine aa (wpAny_fieldsOf hit rfl ?_)
 show wpAny _ _ (setEntries a >>= _) _ _ _
 refine aa (wpAny_setEntries_of ho hd hf ?_)
 rw[if_neg (by simp)]
 show wpAny _ _ (setNext a (slot:Int).toNat (i:Int).toNat (ep:Int).toNat >>= _) _ _ _
 simp only[b0]
 refine aa (hnx ?_)
 dsimp only
 refine aa (gz hit rfl (by show 2<5;decide) ?_)
 show wpAny _ _ (newExc (.type "StopIteration") [] >>= _) _ _ _
 refine aa ?_
 simp only[newExc,newTuple]
 refine aa (cp ?_ (by size_fits))
 refine aa (m:=firstArgMember _ _) (wpAny_of_eq (a:=Value.none) (by first|rfl|(simp only[firstArgMember];rfl)) ?_)
 refine cp ?_ (by size_fits)
 simp only[raiseNew]
 refine aa (wpAny_handled ?_)
 rw[show A.in1.handled=none from hh]
 refine aa (af (wpAny_throw ?_))
 refine aa (wpAny_isInstance (T:="StopIteration") (b:=true) ⟨_,ay _ rfl,rfl⟩ isSubtype_stop ?_)
 exact af (hQ _ (((c5 ..).extBut.push _).push _))
theorem next_draw{I a tp:Addr}{i ep p:Nat}{o op:Obj}{es:Array (Int×Value)}{t:SetTable}{ps:Array Value}{c:Nat}{e:Int×Value}{Q:Option Value->Shared->Prop}(hit:s.heap.get? I=some (itObj (.ref tp) i a es.size ep))(ho:s.heap.get? a=some o)(hd:o.data=.set es ep t)(hf:t.fits es.size=true)
  (hp:s.heap.get? tp=some op) (hpd:op.data=.seq ps c) (hps:ps[i]?=some (.int p 0)) (hes:es[p]?=some e)
  (hQ:∀h',h'.get? I=some (itObj (.ref tp) (i+1) a es.size ep)->bw I s.heap h'->Q (some e.2) {s with heap:=h'}):wpAny (model prog w) A (pyNext (.ref I)) Q E s:=by
 have hT:s.TypeIs (.ref I) "set_iterator":=⟨_,hit,rfl⟩
 unfold pyNext
 refine aa (jn (b8 (name:=bq "__next__") hT slot_setit_next (b9 slot_setit_next hT nh ?_ (n8 _))))
 unfold Builtin.«set_iterator.__next__» slotArgs
 simp only[List.isEmpty_nil,h7,a8,↓reduceIte,bind_assoc,i7,bne_self_eq_false]
 refine aa (af ?_)
 dsimp only
 refine aa (wpAny_fieldsOf hit rfl ?_)
 show wpAny _ _ (setEntries a >>= _) _ _ _
 refine aa (wpAny_setEntries_of ho hd hf ?_)
 rw[if_neg (by simp)]
 show wpAny _ _ (seqItems? (.ref tp) >>= _) _ _ _
 refine aa (iy hp hpd ?_)
 dsimp only
 simp only[b0,hps]
 refine aa ?_
 unfold setNextDrawn
 refine aa (gc ho hd hf ?_)
 dsimp only
 rw[if_neg (by simp)]
 simp only[b0,hes]
 refine af ?_
 refine aa (gz hit rfl (by show 1<5;decide) ?_)
 have g2:=ce (Obj.mapFields (·.setIfInBounds 1 (rawInt (i+1)))) hit rfl
 exact af ⟨e.2,rfl,af (hQ _ g2 (c5 ..))⟩
theorem end_draw{I a tp:Addr}{i ep:Nat}{o op:Obj}{es:Array (Int×Value)}{t:SetTable}{ps:Array Value}{c:Nat}{Q:Option Value->Shared->Prop}(hh:A.handled=none)(hit:s.heap.get? I=some (itObj (.ref tp) i a es.size ep))(ho:s.heap.get? a=some o)(hd:o.data=.set es ep t)(hf:t.fits es.size=true)
  (hp:s.heap.get? tp=some op) (hpd:op.data=.seq ps c) (hps:ps[i]?=none)
  (hQ:∀h',jp I s.heap h'->Q none {s with heap:=h'}):wpAny (model prog w) A (pyNext (.ref I)) Q E s:=by
 have hT:s.TypeIs (.ref I) "set_iterator":=⟨_,hit,rfl⟩
 unfold pyNext
 refine aa (jn (b8 (name:=bq "__next__") hT slot_setit_next (b9 slot_setit_next hT nh ?_ (n8 _))))
 unfold Builtin.«set_iterator.__next__» slotArgs
 simp only[List.isEmpty_nil,h7,a8,↓reduceIte,bind_assoc,i7,bne_self_eq_false]
 refine aa (af ?_)
 dsimp only
 refine aa (wpAny_fieldsOf hit rfl ?_)
 show wpAny _ _ (setEntries a >>= _) _ _ _
 refine aa (wpAny_setEntries_of ho hd hf ?_)
 rw[if_neg (by simp)]
 show wpAny _ _ (seqItems? (.ref tp) >>= _) _ _ _
 refine aa (iy hp hpd ?_)
 dsimp only
 simp only[b0,hps]
 refine aa (gz hit rfl (by show 0<5;decide) ?_)
 have g1:=ce (Obj.mapFields (·.setIfInBounds 0 (rawInt 0))) hit rfl
 refine aa (gz g1 rfl (by show 2<5;decide) ?_)
 show wpAny _ _ (newExc (.type "StopIteration") [] >>= _) _ _ _
 refine aa ?_
 simp only[newExc,newTuple]
 refine aa (cp ?_ (by size_fits))
 refine aa (m:=firstArgMember _ _) (wpAny_of_eq (a:=Value.none) (by first|rfl|(simp only[firstArgMember];rfl)) ?_)
 refine cp ?_ (by size_fits)
 simp only[raiseNew]
 refine aa (wpAny_handled ?_)
 rw[show A.in1.handled=none from hh]
 refine aa (af (wpAny_throw ?_))
 refine aa (wpAny_isInstance (T:="StopIteration") (b:=true) ⟨_,ay _ rfl,rfl⟩ isSubtype_stop ?_)
 exact af (hQ _ ((((c5 ..).trans (c5 ..)).extBut.push _).push _))
theorem setNext_text{a:Addr}{slot given ep:Nat}{o:Obj}{es:Array (Int×Value)}{t:SetTable}{Q:Option (Value×Nat)->Shared->Prop}(hb:byT w=true)(ho:s.heap.get? a=some o)(hd:o.data=.set es ep t)(hf:t.fits es.size=true)
  (h:Q (((pickOrder (w.params.setOrder a ep) es)[given]?).map λe=>(e.2,slot)) s):wpAny (model prog w) A (setNext a slot given ep) Q E s:=by
 have hb':w.params.followText "set-order" = true:=hb
 unfold setNext
 refine aa (gc ho hd hf ?_)
 dsimp only
 unfold setsByText
 refine aa (aa (wpAny_askSetting (af ?_)))
 show wpAny _ _ (if w.params.followText "set-order" = true then _ else _) _ _ _
 rw[if_pos hb']
 rw[if_neg (by simp)]
 refine aa ?_
 unfold setWalk
 refine aa (gc ho hd hf ?_)
 dsimp only
 unfold setsByText
 refine aa (aa (wpAny_askSetting (af ?_)))
 show wpAny _ _ (if w.params.followText "set-order" = true then _ else _) _ _ _
 rw[if_pos hb']
 refine aa (wpAny_askSetting (af ?_))
 exact af h
theorem setNext_plain{a:Addr}{slot given ep:Nat}{o:Obj}{es:Array (Int×Value)}{t:SetTable}{Q:Option (Value×Nat)->Shared->Prop}(hb:byT w=false)(hled:t.led=true)(hdr:(!t.plain&&decide (es.size>1))=false)(ho:s.heap.get? a=some o)(hd:o.data=.set es ep t)(hf:t.fits es.size=true)
  (h:Q (match es[SetTable.below t.place slot]?,t.place[SetTable.below t.place slot]? with|some (_,x),some j=>some (x,j+1)|_,_=>none) s):wpAny (model prog w) A (setNext a slot given ep) Q E s:=by
 have hb':w.params.followText "set-order" = false:=hb
 unfold setNext
 refine aa (gc ho hd hf ?_)
 dsimp only
 unfold setsByText
 refine aa (aa (wpAny_askSetting (af ?_)))
 show wpAny _ _ (if w.params.followText "set-order" = true then _ else _) _ _ _
 rw[if_neg (by rw[hb'];exact ah)]
 show wpAny _ _ (if (!t.plain&&decide (es.size>1))=true then _ else _) _ _ _
 rw[hdr,if_neg ah]
 refine aa ?_
 show wpAny _ _ (if (!t.led && !es.isEmpty)=true then _ else _) _ _ _
 rw[hled,if_neg (by simp)]
 refine af ?_
 exact af h
end
theorem below_zero{xs:Array Nat}(h:xs.toList.Pairwise (· < ·)):SetTable.below xs 0=0:=by
 obtain⟨a,b,c⟩:=below_low h 0
 apply ik
 intro hn
 have h0:0<xs.size:=by omega
 have:=b 0 xs[0] (by omega) (by simp[h0])
 omega
theorem below_next{xs:Array Nat}(h:xs.toList.Pairwise (· < ·)){i j:Nat}(hi:xs[i]?=some j):SetTable.below xs (j+1)=i+1:=by
 obtain⟨a,b,c⟩:=below_low h (j+1)
 have hl:=(bh.mp hi).1
 by_cases q:SetTable.below xs (j+1)<=i
 .have:=c i j q hi
  omega
 by_cases q2:i+1<SetTable.below xs (j+1)
 .have hl2:i+1<xs.size:=by omega
  have e:xs[i+1]?=some xs[i+1]:=by simp[hl2]
  have h1:=b (i+1) _ q2 e
  have h2:=rise_at h hi e (by omega)
  omega
 .omega
noncomputable def WalkAt(w:World)(a I:Addr)(es:Array (Int×Value))(ep:Nat)(t:SetTable)(os:List Value)(i:Nat)(h:Heap):Prop:=
 (∃o,h.get? a=some o/\o.cls=.type "set"/\o.data=.set es ep t)/\
 ((byT w=true/\os=(pickOrder (w.params.setOrder a ep) es).toList.map (·.2)/\∃slot,h.get? I=some (itObj (.int (slot:Nat) 0) i a es.size ep))\/
  (byT w=false/\(!t.plain&&decide (es.size>1))=false/\os=es.toList.map (·.2)/\∃slot,h.get? I=some (itObj (.int (slot:Nat) 0) i a es.size ep)/\SetTable.below t.place slot=i)\/
  (∃tp op c,∃ord:List Nat,h.get? I=some (itObj (.ref tp) i a es.size ep)/\h.get? tp=some op/\op.cls=.type "tuple"/\op.data=.seq (ord.map λ(p:Nat)=>Value.int (p:Int) 0).toArray c/\os.length=ord.length/\∀(k:Nat) p,ord[k]?=some p->∃e,es[p]?=some e/\os[k]?=some e.2))
section
variable{prog:Program}{w:World}{A:Around}{E:Value->Shared->Prop}{s:Shared}{a I:Addr}{es:Array (Int×Value)}{ep:Nat}{t:SetTable}{os:List Value}{i:Nat}
theorem WalkAt.keep{h h':Heap}(x:WalkAt w a I es ep t os i h)(k:∀b o,h.get? b=some o->(o.cls=.type "set"\/o.cls=.type "set_iterator"\/o.cls=.type "tuple")->h'.get? b=some o):WalkAt w a I es ep t os i h':=by
 obtain⟨⟨o,h1,h2,h3⟩,hm⟩:=x
 refine⟨⟨o,k _ _ h1 (.inl h2),h2,h3⟩,?_⟩
 rcases hm with ⟨b1,b2,slot,b3⟩|⟨b1,b2,b3,slot,b4,b5⟩|⟨tp,op,c,ord,b1,b2,b3,b4,b5,b6⟩
 .exact .inl ⟨b1,b2,slot,k _ _ b3 (.inr (.inl rfl))⟩
 .exact .inr (.inl ⟨b1,b2,b3,slot,k _ _ b4 (.inr (.inl rfl)),b5⟩)
 .exact .inr (.inr (nv tp op c ord ⟨k _ _ b1 (.inr (.inl rfl)),k _ _ b2 (.inr (.inr b3)),b3,b4,b5,b6⟩))
theorem walk_item{x:Value}{Q:Option Value->Shared->Prop}(ok:TOk t es)(hled:t.led = !byT w)(hw:WalkAt w a I es ep t os i s.heap)(hx:os[i]?=some x)
  (hQ:∀h',WalkAt w a I es ep t os (i+1) h'->bw I s.heap h'->Q (some x) {s with heap:=h'}):wpAny (model prog w) A (pyNext (.ref I)) Q E s:=by
 obtain⟨⟨o,h1,h2,h3⟩,hm⟩:=hw
 have keepA:∀{h':Heap} {fo:Obj},s.heap.get? I=some fo->fo.cls=.type "set_iterator"->bw I s.heap h'->h'.get? a=some o:=λ{h' fo} hi hc sb=>by
  rw[sb.2 a (λe=>by subst e;rw[h1]at hi;cases hi;rw[h2]at hc;exact absurd hc (by decide))]
  exact h1
 rcases hm with ⟨b1,b2,slot,b3⟩|⟨b1,b2,b3,slot,b4,b5⟩|⟨tp,op,c,ord,b1,b2,b3,b4,b5,b6⟩
 .subst b2
  rw[be,a0]at hx
  obtain⟨e,he,rfl⟩:=cu.mp hx
  refine next_int (slot':=slot) b3 h1 h3 ok.fits (λq=>setNext_text b1 h1 h3 ok.fits (by rw[he];exact q)) λh' g sb=>?_
  exact hQ h' ⟨⟨o,keepA b3 rfl sb,h2,h3⟩,.inl ⟨b1,rfl,slot,g⟩⟩ sb
 .subst b3
  rw[be,a0]at hx
  obtain⟨e,he,rfl⟩:=cu.mp hx
  have hil:=(bh.mp he).1
  have hpl:t.place[i]?=some (t.place[i]'(by rw[ok.sz];exact hil)):=br _
  have hl:t.led=true:=by rw[hled,b1];rfl
  obtain⟨eh,ev⟩:=e
  refine next_int (slot':=t.place[i]'(by rw[ok.sz];exact hil)+1) b4 h1 h3 ok.fits (λq=>setNext_plain b1 hl b2 h1 h3 ok.fits (by rw[b5,he,hpl];exact q)) λh' g sb=>?_
  exact hQ h' ⟨⟨o,keepA b4 rfl sb,h2,h3⟩,.inr (.inl ⟨b1,b2,rfl,_,g,below_next ok.rise hpl⟩)⟩ sb
 .have hil:=(ak.mp hx).1
  have hio:ord[i]?=some (ord[i]'(by omega)):=ab _
  obtain⟨e,e1,e2⟩:=b6 i _ hio
  rw[hx]at e2
  cases e2
  refine next_draw b1 h1 h3 ok.fits b2 b4 (by rw[j9,be,hio];rfl) e1 λh' g sb=>?_
  have nt:tp≠I:=λe=>by subst e;rw[b2]at b1;cases b1;exact absurd b3 (by show ¬(Value.type "set_iterator" = Value.type "tuple");decide)
  exact hQ h' ⟨⟨o,keepA b1 rfl sb,h2,h3⟩,.inr (.inr (nv tp op c ord ⟨g,by rw[sb.2 tp nt];exact b2,b3,b4,b5,b6⟩))⟩ sb
theorem walk_end{Q:Option Value->Shared->Prop}(hh:A.handled=none)(ok:TOk t es)(hled:t.led = !byT w)(hw:WalkAt w a I es ep t os i s.heap)(hx:os.length<=i)
  (hQ:∀h',jp I s.heap h'->Q none {s with heap:=h'}):wpAny (model prog w) A (pyNext (.ref I)) Q E s:=by
 obtain⟨⟨o,h1,h2,h3⟩,hm⟩:=hw
 rcases hm with ⟨b1,b2,slot,b3⟩|⟨b1,b2,b3,slot,b4,b5⟩|⟨tp,op,c,ord,b1,b2,b3,b4,b5,b6⟩
 .subst b2
  rw[aj,aw]at hx
  refine end_int hh b3 h1 h3 ok.fits (λq=>setNext_text b1 h1 h3 ok.fits (by rw[i8 hx];exact q)) hQ
 .subst b3
  rw[aj,aw]at hx
  have hl:t.led=true:=by rw[hled,b1];rfl
  refine end_int hh b4 h1 h3 ok.fits (λq=>setNext_plain b1 hl b2 h1 h3 ok.fits (by rw[b5,i8 hx];exact q)) hQ
 .exact end_draw hh b1 h1 h3 ok.fits b2 b4 (by rw[j9,be,io (by omega)];rfl) hQ
theorem walk_start{o:Obj}{Q:Value->Shared->Prop}(ho:s.heap.get? a=some o)(hex:o.ExactSet)(hd:o.data=.set es ep t)(ok:TOk t es)(hled:t.led = !byT w)(hsz:es.size<=4000)
  (hQ:∀h' I os dr,os.Perm (es.toList.map (·.2))->WalkAt w a I es ep t os 0 h'->(∀b o,s.heap.get? b=some o->h'.get? b=some o)->s.heap.objs.size<=I->Q (.ref I) {s with heap:=h',drawn:=dr}):wpAny (model prog w) A (pyIter (.ref a)) Q E s:=by
 have hT:s.TypeIs (.ref a) "set":=⟨o,ho,hex.1⟩
 refine wpAny_pyIter_slot hT PySem.F.slot_set_iter (b9 PySem.F.slot_set_iter hT entry_set_iterD ?_ (PySem.F.args_set_iter_1 _))
 unfold Builtin.«frozenset.__iter__» Builtin.Frozenset.slot0 slotArgs
 simp only[List.isEmpty_nil,h7,a8,↓reduceIte,bind_assoc,i7,bne_self_eq_false]
 unfold Builtin.Frozenset.addrOf Builtin.Frozenset.sizeOf
 refine aa (af ?_)
 dsimp only
 refine aa (af ?_)
 refine aa (aa (wpAny_setEntries_of ho hd ok.fits (af ?_)))
 have hdrn:∀{Q:Bool->Shared->Prop},Q (!byT w&&(!t.plain&&decide (es.size>1))) s->wpAny (model prog w) A.in1 (setDrawn a) Q E s:=λ{Q} q=>by
  unfold setDrawn
  refine aa (gc ho hd ok.fits ?_)
  dsimp only
  unfold setsByText
  refine aa (aa (wpAny_askSetting (af ?_)))
  exact af q
 refine aa (hdrn ?_)
 cases hc:(!byT w&&(!t.plain&&decide (es.size>1)))with
 | true=>
  rw[if_pos rfl]
  refine aa (draw_perm es.size (cx es.size) s (by rw[gk]) λord dr hp=>?_)
  simp only[newTuple]
  have hol:ord.length=es.size:=by rw[hp.length_eq,gk]
  obtain⟨tob,htob⟩:∃ob:Obj,ob={cls:=.type "tuple",data:=.seq (ord.map λ(p:Nat)=>Value.int (p:Int) 0).toArray}:=⟨_,rfl⟩
  have hline:((ord.map λ(p:Nat)=>Value.int (p:Int) 0).toArray).size<=sizeLine:=by rw[az,aj,hol,gi];omega
  refine aa (cp ?_ hline)
  show wpAny _ _ _ _ _ {s with heap:=s.heap.push {cls:=.type "tuple",data:=.seq (ord.map λ(p:Nat)=>Value.int (p:Int) 0).toArray},drawn:=dr}
  rw[<-htob]
  have kp1:∀b ob,s.heap.get? b=some ob->(s.heap.push tob).get? b=some ob:=λb ob e=>ai _ e
  have ht1:(s.heap.push tob).get? s.heap.objs.size=some tob:=ay _ (by rw[htob];rfl)
  refine aa (wpAny_setEpoch_of (kp1 _ _ ho) hd ok.fits ?_)
  have hg:((s.heap.push tob).push (itObj (.ref s.heap.objs.size) 0 a es.size ep)).get? (s.heap.push tob).objs.size=some (itObj (.ref s.heap.objs.size) 0 a es.size ep):=ay _ rfl
  have kp2:∀b ob,(s.heap.push tob).get? b=some ob->((s.heap.push tob).push (itObj (.ref s.heap.objs.size) 0 a es.size ep)).get? b=some ob:=λb ob e=>ai _ e
  refine aa (cp (af (o5 _ rfl ("set_iterator") _ ⟨⟨_,hg,rfl⟩,slot_setit_next.lookup,?_⟩)))
  have hperm:(ord.map λp=>(es[p]?.map (·.2)).getD Value.none).Perm (es.toList.map (·.2)):=by
   have h1:=hp.map λp=>(es[p]?.map (·.2)).getD Value.none
   have h2:(cx es.size).map (λp=>(es[p]?.map (·.2)).getD Value.none)=es.toList.map (·.2):=by
    apply List.ext_getElem
    .simp
    .intro k a1 b1
     have hk:k<es.size:=by simpa using b1
     simp[hk]
   rw[h2]at h1
   exact h1
  refine hQ _ _ _ dr hperm ⟨⟨o,kp2 _ _ (kp1 _ _ ho),hex.1,hd⟩,.inr (.inr (nv s.heap.objs.size tob 0 ord ⟨hg,kp2 _ _ ht1,by rw[htob],by rw[htob],by rw[aj],λk p hk=>?_⟩))⟩ (λb ob e=>kp2 _ _ (kp1 _ _ e)) (by rw[ju];exact Nat.le_succ _)
  have hpl:p<es.size:=f7.mp (hp.mem_iff.mp (am hk))
  refine⟨es[p],br hpl,?_⟩
  rw[be,hk]
  show some ((es[p]?.map (·.2)).getD Value.none)=_
  rw[br hpl]
  rfl
 | false=>
  rw[if_neg ah]
  refine aa (af ?_)
  refine aa (wpAny_setEpoch_of ho hd ok.fits ?_)
  have hg:(s.heap.push (itObj (.int ((0:Nat):Int) 0) 0 a es.size ep)).get? s.heap.objs.size=some (itObj (.int ((0:Nat):Int) 0) 0 a es.size ep):=ay _ rfl
  have kp:∀b ob,s.heap.get? b=some ob->(s.heap.push (itObj (.int ((0:Nat):Int) 0) 0 a es.size ep)).get? b=some ob:=λb ob e=>ai _ e
  refine aa (cp (af (o5 _ rfl ("set_iterator") _ ⟨⟨_,hg,rfl⟩,slot_setit_next.lookup,?_⟩)))
  cases hb:byT w with
  | true=>exact hQ _ _ _ s.drawn ((pick_perm _ es).map _) ⟨⟨o,kp _ _ ho,hex.1,hd⟩,.inl ⟨hb,rfl,0,hg⟩⟩ kp (ao _)
  | false=>
   rw[hb]at hc
   exact hQ _ _ _ s.drawn (jc _) ⟨⟨o,kp _ _ ho,hex.1,hd⟩,.inr (.inl ⟨hb,by simpa using hc,rfl,0,hg,below_zero ok.rise⟩)⟩ kp (ao _)
end
theorem set_lenD:typeLookup (.type "set") "__len__" = pure (some (.builtin "set.__len__")):=by rw[typeLookup_type,builtinLookup_eq_fast];kernel_rfl
section
variable{prog:Program}{w:World}{A:Around}{a I S:Addr}{es:Array (Int×Value)}{ep:Nat}{t:SetTable}{os:List Value}{R:Result->Shared->Prop}
theorem extend_loopD(hh:A.in1.handled=none)(ok:TOk t es)(hled:t.led = !byT w)(hos:os.length<=4000)(res:Value)(h0:Heap)(hI0:h0.get? I=none)(hS0:h0.get? S=none) :
  ∀(k i:Nat) (s:Shared) (c:Nat),os.length-i=k->i<=os.length->WalkAt w a I es ep t os i s.heap->s.heap.get? S=some {cls:=.type "list",dict:=none,data:=.seq (os.take i).toArray c,slots:=#[]}->(∀b o,h0.get? b=some o->s.heap.get? b=some o)->
  (∀h' c',h'.get? S=some {cls:=.type "list",dict:=none,data:=.seq os.toArray c',slots:=#[]}->(∀b o,h0.get? b=some o->h'.get? b=some o)->R (.ok (.ret res)) {s with heap:=h'})->
  codeAny (model prog w) A (.builtin "list.extend.loop" ⟨[.ref S,.ref I,res],[]⟩) R s:=by
 intro k
 induction k with
 | zero=>
  intro i s c hk hi hw hS hkp hR
  have hin:i=os.length:=by omega
  subst hin
  rw[List.take_length]at hS
  refine gf PySem.F.entry_extend_loop (show _ from ?_)
  rw[fq PySem.F.plain_extend_loop (_:Args)]
  show wpAny _ A.in1 (pyNext (.ref I) >>= _) _ _ s
  have nSI:S≠I:=λe=>by
   subst e
   rcases hw.2 with ⟨_,_,slot,b3⟩|⟨_,_,_,slot,b4,_⟩|⟨tp,op,c,ord,b1,_⟩
   .rw[hS]at b3;injection b3 with b3;injection b3 with b3;exact absurd b3 (by decide)
   .rw[hS]at b4;injection b4 with b4;injection b4 with b4;exact absurd b4 (by decide)
   .rw[hS]at b1;injection b1 with b1;injection b1 with b1;exact absurd b1 (by decide)
  refine aa (walk_end hh ok hled hw (ao _) λh' hx=>?_)
  exact af (hR h' c (hx S _ nSI hS) λb o e=>hx b o (λz=>by rw[z,hI0]at e;cases e) (hkp b o e))
 | succ k ih=>
  intro i s c hk hi hw hS hkp hR
  have hlt:i<os.length:=by omega
  refine gf PySem.F.entry_extend_loop (show _ from ?_)
  rw[fq PySem.F.plain_extend_loop (_:Args)]
  show wpAny _ A.in1 (pyNext (.ref I) >>= _) _ _ s
  have nSI:S≠I:=λe=>by
   subst e
   rcases hw.2 with ⟨_,_,slot,b3⟩|⟨_,_,_,slot,b4,_⟩|⟨tp,op,c,ord,b1,_⟩
   .rw[hS]at b3;injection b3 with b3;injection b3 with b3;exact absurd b3 (by decide)
   .rw[hS]at b4;injection b4 with b4;injection b4 with b4;exact absurd b4 (by decide)
   .rw[hS]at b1;injection b1 with b1;injection b1 with b1;exact absurd b1 (by decide)
  refine aa (walk_item ok hled hw (ab hlt) λh' hw' sb=>?_)
  have hS':h'.get? S=some {cls:=.type "list",dict:=none,data:=.seq (os.take i).toArray c,slots:=#[]}:=by rw[sb.2 S nSI];exact hS
  show wpAny _ A.in1 (updateSeq S (·.push os[i]) >>= _) _ _ _
  refine aa ?_
  have hz1:(os.take i).toArray.size<=sizeLine:=by rw[az,bx,gi];omega
  have hz2:((os.take i).toArray.push os[i]).size<=sizeLine+1:=by rw[Array.size_push];omega
  refine wpAny_updateSeq hS' rfl (af ⟨jo PySem.F.plain_extend_loop _,ih (i+1) _ (c+1) (by omega) hlt (hw'.keep λb o e hc=>?_) ?_ (λb o e=>?_) λh'' c' g kp=>?_⟩) hz1 hz2
  .have:b≠S:=λz=>by
    subst z
    rw[hS']at e
    cases e
    have hc':Value.type "list" = .type "set"\/Value.type "list" = .type "set_iterator"\/Value.type "list" = .type "tuple":=hc
    revert hc'
    decide
   exact(cr _ _ (Ne.symm this)).trans e
  .have g:=ce (gm (·.push os[i])) hS' rfl
   have e1:(os.take i).toArray.push os[i]=(os.take (i+1)).toArray:=by rw[List.push_toArray,List.take_append_getElem hlt]
   rw[<-e1]
   exact g.trans (congrArg some (Obj.mapSeq_push_plain _ _ _))
  .have nb:b≠S:=λz=>by rw[z,hS0]at e;cases e
   refine(cr _ _ (Ne.symm nb)).trans ?_
   rw[sb.2 b (λz=>by rw[z,hI0]at e;cases e)]
   exact hkp b o e
  .exact hR h'' c' g kp
theorem collect_setD{o:Obj}{E:Value->Shared->Prop}{Q:List Value->Shared->Prop}{s:Shared}(hh:A.handled=none)(ho:s.heap.get? a=some o)(hex:o.ExactSet)(hd:o.data=.set es ep t)(ok:TOk t es)(hled:t.led = !byT w)(hsz:es.size<=4000)
  (hQ:∀h' os dr,os.Perm (es.toList.map (·.2))->(∀b o,s.heap.get? b=some o->h'.get? b=some o)->Q os {s with heap:=h',drawn:=dr}):wpAny (model prog w) A (collect (.ref a)) Q E s:=by
 unfold collect
 refine aa (wpAny_runValue (gf PySem.F.entry_proto_collect ?_))
 rw[fq PySem.F.plain_proto_collect _]
 show wpAny _ A.in1 (newList [] >>= λl=>again (.builtin "list.__iadd__" ⟨[l,.ref a],[]⟩)) _ _ s
 refine aa (cp ?_)
 refine af ⟨jo PySem.F.plain_list_iadd _,gf PySem.F.entry_list_iadd ?_⟩
 rw[fq PySem.F.plain_list_iadd _]
 show wpAny _ A.in1 (Builtin.List.listExtendWith (.ref s.heap.objs.size) (.ref a) (.ref s.heap.objs.size)) _ _ _
 have hla:=a9 ho
 unfold Builtin.List.listExtendWith
 generalize hH:s.heap.push {cls:=.type "list",data:=.seq ([]:List Value).toArray}=H
 have hHs:H.objs.size=s.heap.objs.size+1:=by rw[<-hH,ju]
 have kp:∀b ob,s.heap.get? b=some ob->H.get? b=some ob:=λb ob e=>hH▸ai _ e
 have hHS:H.get? s.heap.objs.size=some {cls:=.type "list",data:=.seq ([]:List Value).toArray}:=hH▸ay _ rfl
 have hT:∀(s':Shared),s'.heap.get? a=some o->s'.TypeIs (.ref a) "set":=λs' e=>⟨o,e,hex.1⟩
 refine aa (wpAny_typeOf (T:="set") (hT _ (kp _ _ ho)) ?_)
 have h1:Builtin.List.listSameRef (.ref s.heap.objs.size) (.ref a)=false:=by show(s.heap.objs.size==a)=false;exact beq_false_of_ne (Nat.ne_of_gt hla)
 have h2:(Value.type "set" == Value.type "list")=false:=by decide
 have h3:(Value.type "set" == Value.type "tuple")=false:=by decide
 simp only[h1,h2,h3,Bool.or_false,a8,if_false]
 refine aa (walk_start (kp _ _ ho) hex hd ok hled hsz λh1 I os dr hp hw k1 hI=>?_)
 refine aa (ei ?_)
 unfold Builtin.List.listLengthHint
 have ho1:h1.get? a=some o:=k1 _ _ (kp _ _ ho)
 refine aa (j8 (T:="set") (v:=.ref a) (hT _ ho1) set_lenD ?_)
 wp_delta
 refine aa (wpAny_isInstance (T:="set") (v:=.ref a) (b:=true) (hT _ ho1) (by rw[isSubtype_type];kernel_rfl) ?_)
 show wpAny _ A.in1 (typeOf (Value.ref a) >>= _) _ _ _
 refine aa (wpAny_typeOf (T:="set") (v:=.ref a) (hT _ ho1) ?_)
 refine af ?_
 rw[if_pos (by decide)]
 show wpAny _ A.in1 (rule "list.extend.makes-room" >>= λ_=>Builtin.List.listTouch (.ref s.heap.objs.size) >>= λ_=>
  again (.builtin "list.extend.loop" ⟨[.ref s.heap.objs.size,.ref I,.ref s.heap.objs.size],[]⟩)) _ _ _
 refine aa (jh ?_)
 refine aa ?_
 show wpAny _ A.in1 (updateSeq s.heap.objs.size (·.push .none) >>= λ_=>updateSeq s.heap.objs.size (·.pop)) _ _ _
 have hS:h1.get? s.heap.objs.size=some {cls:=.type "list",data:=.seq ([]:List Value).toArray}:=k1 _ _ hHS
 refine aa (wpAny_updateSeq hS rfl ?_)
 have hS₂:=ce (gm (·.push Value.none)) hS rfl
 refine wpAny_updateSeq (hz:=by seq_fits) hS₂ rfl ?_
 have hS₃:=ce (gm (·.pop)) hS₂ rfl
 have oth:∀b ob,b≠s.heap.objs.size->h1.get? b=some ob->((h1.update s.heap.objs.size (gm (·.push Value.none))).update s.heap.objs.size (gm (·.pop))).get? b=some ob:=
  λb ob hb e=>(cr _ _ (Ne.symm hb)).trans ((cr _ _ (Ne.symm hb)).trans e)
 have hI0:s.heap.get? I=none:=by
  cases q:s.heap.get? I with
  | none=>rfl
  | some ob=>
   have hI':H.objs.size<=I:=hI
   exact absurd (a9 q) (Nat.not_lt.mpr (gl (by rw[hHs];exact Nat.le_succ _) hI'))
 have hS0:s.heap.get? s.heap.objs.size=none:=by
  cases q:s.heap.get? s.heap.objs.size with
  | none=>rfl
  | some ob=>exact absurd (a9 q) (iw _)
 refine af ⟨jo PySem.F.plain_extend_loop _,extend_loopD hh ok hled (by rw[hp.length_eq,aj,aw];exact hsz) _ s.heap hI0 hS0 os.length 0 _ _ rfl (en _) (hw.keep λb ob e hc=>oth b ob (λz=>?_) e) hS₃ (λb ob e=>oth b ob (λz=>?_) (k1 _ _ (kp _ _ e))) λh2 c2 g2 k2=>?_⟩
 .subst z
  rw[hS]at e
  cases e
  have hc':Value.type "list" = .type "set"\/Value.type "list" = .type "set_iterator"\/Value.type "list" = .type "tuple":=hc
  revert hc'
  decide
 .subst z
  rw[hS0]at e
  cases e
 .show wpAny _ A (load s.heap.objs.size >>= _) _ _ _
  refine aa (wpAny_load g2 ?_)
  refine af ?_
  exact hQ h2 os dr hp k2
end
end L3
namespace L3
open PySem PySem.Spec PyProof.Rows L2
mutual
noncomputable def Cmp:PyData->PyData->Prop
 | .int _,.int _=>True
 | .str _,.str _=>True
 | .tuple xs,.tuple ys=>CmpL xs ys
 | _,_=>False
noncomputable def CmpL:List PyData->List PyData->Prop
 | [],_=>True
 | _::_,[]=>True
 | x::xs,y::ys=>Cmp x y/\CmpL xs ys
end
mutual
noncomputable def ltD:PyData->PyData->Bool
 | .int a,.int b=>decide (a<b)
 | .str a,.str b=>sLt a b
 | .tuple xs,.tuple ys=>ltL xs ys
 | _,_=>false
noncomputable def ltL:List PyData->List PyData->Bool
 | [],[]=>false
 | [],_::_=>true
 | _::_,[]=>false
 | x::xs,y::ys=>if bn x y=true then ltL xs ys else ltD x y
end
noncomputable def encS(xs:List Nat):List Int:=xs.map λ(c:Nat)=>(c:Int)+1
mutual
noncomputable def enc:PyData->List Int
 | .int a=>[1,a]
 | .str x=>2::(encS x.cps.toList++[0])
 | .tuple ds=>3::(encL ds++[0])
 | .none=>[9]
 | .bool _=>[9]
 | .list _=>[9]
 | .dict _=>[9]
noncomputable def encL:List PyData->List Int
 | []=>[]
 | d::ds=>enc d++encL ds
end
theorem encS_lt:∀(xs ys:List Nat) (r r':List Int),(encS xs++0::r<encS ys++0::r')↔(xs<ys\/xs=ys/\r<r')
 | [],[],r,r'=>by simp[encS,cf]
 | [],y::ys,r,r'=>by
  have:(0:Int)<(y:Int)+1:=by omega
  simp[encS,cf,this]
 | x::xs,[],r,r'=>by
  have h1:¬((x:Int)+1<0):=by omega
  have h2:¬((x:Int)+1=0):=by omega
  simp[encS,cf,h1,h2]
 | x::xs,y::ys,r,r'=>by
  have ih:=encS_lt xs ys r r'
  unfold encS at ih⊢
  simp only[e9,List.cons_append,cf,ih,List.cons.injEq]
  have h1:((x:Int)+1<(y:Int)+1)↔x<y:=by omega
  have h2:((x:Int)+1=(y:Int)+1)↔x=y:=by omega
  rw[h1,h2]
  constructor
  .rintro(h|⟨h,h'|⟨h',h''⟩⟩)
   .exact .inl (.inl h)
   .exact .inl (.inr ⟨h,h'⟩)
   .exact .inr ⟨⟨h,h'⟩,h''⟩
  .rintro((h|⟨h,h'⟩)|⟨⟨h,h'⟩,h''⟩)
   .exact .inl h
   .exact .inr ⟨h,.inl h'⟩
   .exact .inr ⟨h,.inr ⟨h',h''⟩⟩
theorem enc_pos:∀(d:PyData) (r:List Int),∃a t,enc d++r=a::t/\(0:Int)<a
 | .int a,r=>(x_EE 1 _ ⟨rfl,by decide⟩)
 | .str x,r=>(x_EE 2 _ ⟨rfl,by decide⟩)
 | .tuple ds,r=>(x_EE 3 _ ⟨rfl,by decide⟩)
 | .none,r=>(x_EE 9 _ ⟨rfl,by decide⟩)
 | .bool _,r=>(x_EE 9 _ ⟨rfl,by decide⟩)
 | .list _,r=>(x_EE 9 _ ⟨rfl,by decide⟩)
 | .dict _,r=>(x_EE 9 _ ⟨rfl,by decide⟩)
mutual
theorem enc_lt:∀(x y:PyData) (r r':List Int),Cmp x y->((enc x++r<enc y++r')↔(if bn x y=true then r<r' else ltD x y=true))
 | .int a,.int b,r,r',_=>by
  have e:bn (.int a) (.int b)=(a==b):=rfl
  rw[e]
  show(1::a::r<1::b::r')↔_
  simp only[cf,ltD]
  by_cases h:a=b
  .subst h;simp
  .simp[h]
 | .str a,.str b,r,r',_=>by
  have e:bn (.str a) (.str b)=(a==b):=rfl
  rw[e]
  show(2::((encS a.cps.toList++[0])++r)<2::((encS b.cps.toList++[0])++r'))↔_
  rw[cf,bf,bf]
  show(_\/_/\(encS a.cps.toList++0::r<encS b.cps.toList++0::r'))↔_
  rw[encS_lt]
  have hx:a=b↔a.cps.toList=b.cps.toList:=⟨λh=>by rw[h],λh=>by cases a;cases b;simp only at h;congr;exact Array.ext' h⟩
  by_cases h:a=b
  .subst h;simp[List.lt_irrefl]
  .have h':¬a.cps.toList=b.cps.toList:=λz=>h (hx.mpr z)
   simp[h,h',ltD,sLt]
 | .tuple xs,.tuple ys,r,r',hc=>by
  have e:bn (.tuple xs) (.tuple ys)=cn xs ys:=by simp[bn]
  rw[e]
  show(3::((encL xs++[0])++r)<3::((encL ys++[0])++r'))↔_
  rw[cf,bf,bf]
  show(_\/_/\(encL xs++0::r<encL ys++0::r'))↔(if cn xs ys=true then r<r' else ltL xs ys=true)
  rw[encL_lt xs ys r r' hc]
  simp
theorem encL_lt:∀(xs ys:List PyData) (r r':List Int),CmpL xs ys->((encL xs++0::r<encL ys++0::r')↔(if cn xs ys=true then r<r' else ltL xs ys=true))
 | [],[],r,r',_=>by simp[encL,cn,cf]
 | [],y::ys,r,r',_=>by
  obtain⟨a,t,e,h⟩:=enc_pos y (encL ys++0::r')
  show(0::r<(enc y++encL ys)++0::r')↔_
  rw[bf,e,cf]
  simp[h,cn,ltL]
 | x::xs,[],r,r',_=>by
  obtain⟨a,t,e,h⟩:=enc_pos x (encL xs++0::r)
  show((enc x++encL xs)++0::r<0::r')↔_
  rw[bf,e,cf]
  have h1:¬a<0:=by omega
  have h2:¬a=0:=by omega
  simp[h1,h2,cn,ltL]
 | x::xs,y::ys,r,r',hc=>by
  have hc':Cmp x y/\CmpL xs ys:=hc
  show((enc x++encL xs)++0::r<(enc y++encL ys)++0::r')↔(if (bn x y&&cn xs ys)=true then r<r' else(if bn x y=true then ltL xs ys else ltD x y)=true)
  rw[bf,bf,enc_lt x y _ _ hc'.1]
  cases h:bn x y with
  | true=>
   simp only[if_true,Bool.true_and]
   exact encL_lt xs ys r r' hc'.2
  | false=>simp
end
mutual
theorem ltD_same:∀(x y:PyData),Cmp x y->bn x y=true->ltD x y=false
 | .int a,.int b,_,h=>by
  have e:bn (.int a) (.int b)=(a==b):=rfl
  rw[e]at h
  have:a=b:=by simpa using h
  subst this
  simp[ltD]
 | .str a,.str b,_,h=>by
  have e:bn (.str a) (.str b)=(a==b):=rfl
  rw[e]at h
  have:a=b:=by simpa using h
  subst this
  exact sLt_irr a
 | .tuple xs,.tuple ys,hc,h=>ltL_same xs ys hc (by simpa [bn]using h)
theorem ltL_same:∀(xs ys:List PyData),CmpL xs ys->cn xs ys=true->ltL xs ys=false
 | [],[],_,_=>rfl
 | [],_::_,_,h=>by simp[cn]at h
 | _::_,[],_,h=>by simp[cn]at h
 | x::xs,y::ys,hc,h=>by
  have h':bn x y=true/\cn xs ys=true:=by simpa [cn]using h
  show(if bn x y=true then ltL xs ys else ltD x y)=false
  rw[if_pos h'.1]
  exact ltL_same xs ys (show Cmp x y/\CmpL xs ys from hc).2 h'.2
end
mutual
theorem eqv_sym:∀(x y:PyData),Cmp x y->bn y x=bn x y
 | .int a,.int b,_=>by
  show(b==a)=(a==b)
  exact Bool.beq_comm
 | .str a,.str b,_=>by
  show(b==a)=(a==b)
  exact Bool.beq_comm
 | .tuple xs,.tuple ys,hc=>by
  have:=eqvL_sym xs ys hc
  simpa [bn]using this
theorem eqvL_sym:∀(xs ys:List PyData),CmpL xs ys->cn ys xs=cn xs ys
 | [],[],_=>rfl
 | [],_::_,_=>rfl
 | _::_,[],_=>rfl
 | x::xs,y::ys,hc=>by
  have hc':Cmp x y/\CmpL xs ys:=hc
  show(bn y x&&cn ys xs)=(bn x y&&cn xs ys)
  rw[eqv_sym x y hc'.1,eqvL_sym xs ys hc'.2]
end
mutual
theorem ltD_one:∀(x y:PyData),Cmp x y->bn x y=false->ltD x y=true\/ltD y x=true
 | .int a,.int b,_,h=>by
  have e:bn (.int a) (.int b)=(a==b):=rfl
  rw[e]at h
  have:a≠b:=by simpa using h
  simp only[ltD,decide_eq_true_eq]
  omega
 | .str a,.str b,_,h=>by
  have e:bn (.str a) (.str b)=(a==b):=rfl
  rw[e]at h
  have:a≠b:=by simpa using h
  show sLt a b=true\/sLt b a=true
  cases h1:sLt a b with
  | true=>exact .inl rfl
  | false=>
   cases h2:sLt b a with
   | true=>exact .inr rfl
   | false=>exact absurd (sLt_eq h1 h2) this
 | .tuple xs,.tuple ys,hc,h=>ltL_one xs ys hc (by simpa [bn]using h)
theorem ltL_one:∀(xs ys:List PyData),CmpL xs ys->cn xs ys=false->ltL xs ys=true\/ltL ys xs=true
 | [],[],_,h=>by simp[cn]at h
 | [],_::_,_,h=>.inl rfl
 | _::_,[],_,h=>.inr rfl
 | x::xs,y::ys,hc,h=>by
  have hc':Cmp x y/\CmpL xs ys:=hc
  show(if bn x y=true then ltL xs ys else ltD x y)=true\/(if bn y x=true then ltL ys xs else ltD y x)=true
  have hs:bn y x=bn x y:=eqv_sym x y hc'.1
  rw[hs]
  cases h1:bn x y with
  | true=>
   have h2:cn xs ys=false:=by simpa [cn,h1]using h
   simpa using ltL_one xs ys hc'.2 h2
  | false=>simpa using ltD_one x y hc'.1 h1
end
theorem pj{x y:PyData}(h:Cmp x y):ltD x y=decide (enc x<enc y):=by
 have k:=enc_lt x y [] [] h
 rw[ck,ck]at k
 cases he:bn x y with
 | true=>
  rw[he,if_pos rfl]at k
  rw[ltD_same x y h he]
  exact(decide_eq_false λz=>List.lt_irrefl _ (k.mp z)).symm
 | false=>
  rw[he,if_neg ah]at k
  cases hl:ltD x y with
  | true=>exact(decide_eq_true (k.mpr hl)).symm
  | false=>exact(decide_eq_false λz=>by have:=k.mp z;rw[hl]at this;cases this).symm
theorem enc_inj{x y:PyData}(h:Cmp x y)(h':Cmp y x)(hx:kd x=true)(hy:kd y=true)(h1:¬enc x<enc y)(h2:¬enc y<enc x):x=y:=by
 cases he:bn x y with
 | true=>exact eqv_kd x y hx hy he
 | false=>
  rcases ltD_one x y h he with z|z
  .rw[pj h]at z;exact absurd (of_decide_eq_true z) h1
  .rw[pj h']at z;exact absurd (of_decide_eq_true z) h2
noncomputable def ltE(ds:List PyData)(i j:Nat):Bool:=decide (enc (ds.getD i .none)<enc (ds.getD j .none))
noncomputable def sortE(ds:List PyData):List PyData:=(srt (ltE ds) ds.length).map λi=>ds.getD i .none
theorem ltE_ord(ds:List PyData):Ord (ltE ds)where
 asy:=λa b h=>decide_eq_false (List.lt_asymm (of_decide_eq_true h))
 tr:=λa b c h1 h2=>by
  have h1':enc (ds.getD a .none)<=enc (ds.getD b .none):=of_decide_eq_false h1
  have h2':enc (ds.getD b .none)<=enc (ds.getD c .none):=of_decide_eq_false h2
  exact decide_eq_false (List.le_trans h1' h2')
theorem mh(ds:List PyData):(sortE ds).Perm ds:=by
 have h:=(srt_perm (ltE ds) ds.length).map λi=>ds.getD i .none
 rw[map_range_getD]at h
 exact h
theorem sortE_length(ds:List PyData):(sortE ds).length=ds.length:=(mh ds).length_eq
theorem sortE_up(ds:List PyData):(sortE ds).Pairwise λx y=>¬enc y<enc x:=by
 rw[fj]
 intro i j hi hj hij
 have hj':j<ds.length:=by rw[sortE_length]at hj;exact hj
 have u:=srt_up (ltE_ord ds) ds.length (ic hij) hj'
 have hjs:j<(srt (ltE ds) ds.length).length:=by rw[srt_length];exact hj'
 have his:i<(srt (ltE ds) ds.length).length:=by omega
 rw[cb,cb,ab hjs,ab his]at u
 have u':=of_decide_eq_false u
 have e:∀k (h:k<(sortE ds).length) (h':k<(srt (ltE ds) ds.length).length),(sortE ds)[k]=ds.getD (srt (ltE ds) ds.length)[k] .none:=λk h h'=>by simp[sortE]
 rw[e j hj hjs,e i hi his]
 exact u'
noncomputable def CmpA(ds:List PyData):Prop:=(∀x∈ds,∀y∈ds,Cmp x y)/\∀x∈ds,kd x=true
theorem CmpA.sub{ds es:List PyData}(h:CmpA ds)(hs:∀x∈es,x∈ds):CmpA es:=⟨λx hx y hy=>h.1 x (hs x hx) y (hs y hy),λx hx=>h.2 x (hs x hx)⟩
theorem up_uniq:∀{xs ys:List PyData},xs.Perm ys->CmpA xs->xs.Pairwise (λx y=>¬enc y<enc x)->ys.Pairwise (λx y=>¬enc y<enc x)->xs=ys
 | [],ys,p,_,_,_=>(List.Perm.nil_eq p).symm▸rfl
 | x::xs,[],p,_,_,_=>absurd p.length_eq (by simp)
 | x::xs,y::ys,p,hc,hx,hy=>by
  have hx':=fu.mp hx
  have hy':=fu.mp hy
  have m1:y∈x::xs:=p.mem_iff.mpr au
  have m2:x∈y::ys:=p.mem_iff.mp au
  have a1:¬enc y<enc x:=by
   rcases ax.mp m1 with e|m
   .rw[e];exact List.lt_irrefl _
   .exact hx'.1 y m
  have a2:¬enc x<enc y:=by
   rcases ax.mp m2 with e|m
   .rw[e];exact List.lt_irrefl _
   .exact hy'.1 x m
  have e:x=y:=enc_inj (hc.1 x au y m1) (hc.1 y m1 x au) (hc.2 x au) (hc.2 y m1) a2 a1
  subst e
  rw[up_uniq (List.Perm.cons_inv p) (hc.sub λz hz=>av _ hz) hx'.2 hy'.2]
theorem sortE_uniq{xs ys:List PyData}(p:xs.Perm ys)(hc:CmpA xs):sortE xs=sortE ys:=
 up_uniq ((mh xs).trans (p.trans (mh ys).symm)) (hc.sub λx hx=>(mh xs).mem_iff.mp hx) (sortE_up xs) (sortE_up ys)
noncomputable def LtAt(A:Around)(s:Shared)(u v:Value)(b:Bool):Prop:=∀(prog:Program) (w:World) (E:Value->Shared->Prop) (Q:Value->Shared->Prop),Q (.bool b) s->wpAny (model prog w) A (richCompare .Lt u v) Q E s
theorem LtAt.int{A:Around}{s:Shared}(a:Int)(t:Tok)(c:Int)(u:Tok):LtAt A s (.int a t) (.int c u) (decide (a<c)):=λprog w E Q h=>
 (PyProof.Rows.lt_int h:wpAny (model prog w) A (compareOp .Lt (.int a t) (.int c u)) Q E s)
theorem LtAt.str{A:Around}{s:Shared}(a:Str)(t:Tok)(c:Str)(u:Tok):LtAt A s (.str a t) (.str c u) (sLt a c):=λprog w E Q h=>
 (PyProof.Rows.lt_str h:wpAny (model prog w) A (compareOp .Lt (.str a t) (.str c u)) Q E s)
noncomputable def PairAt(A:Around)(s:Shared):List Value->List Value->List PyData->List PyData->Prop
 | v::vs,w::ws,x::xs,y::ys=>SeqAt.EqAt A s v w (bn x y)/\LtAt A s v w (ltD x y)/\PairAt A s vs ws xs ys
 | [],_,[],_=>True
 | _::_,[],_::_,[]=>True
 | _,_,_,_=>False
section
open PySem.SeqAt
open PySem.AutoSeq1 (wpAny_loadPart')
open PySem.MeetsSeq PySem.MeetsSeq2 PySem.MeetsSeq3
theorem tuple_lt_data(l b:Addr)(items items2:Array Value)(n n2:Nat)(dd dd2:Option Addr)(sl sl2:Array (Option Value))(xs ys:List PyData)(hi:items.toList.length=xs.length)(hj:items2.toList.length=ys.length) :
  Meets (Builtin.«tuple.__lt__» ⟨[.ref l,.ref b],[]⟩)
   (λA R s=>s.heap.get? l=some {cls:=.type "tuple",dict:=dd,data:=.seq items n,slots:=sl}/\s.heap.get? b=some {cls:=.type "tuple",dict:=dd2,data:=.seq items2 n2,slots:=sl2}/\
    PairAt A.in1 s items.toList items2.toList xs ys/\R (.ok (.ret (.bool (ltL xs ys)))) s):=
 .of_wp λprog w A R s h=>by
  obtain⟨hp,g,d,tk,os⟩:=s;obtain⟨hl,hb,hP,h⟩:=h
  have f2:=AutoSeq1.sub_tuple_tuple
  have z1:items.size=xs.length:=by rw[<-hi];simp
  have z2:items2.size=ys.length:=by rw[<-hj];simp
  wp_walk using wpAny_loadPart' hl,wpAny_loadPart' hb,js _ (λrest b s'=>b.1=none/\s'=⟨hp,g,d,tk,os⟩/\∃(vs ws:List Value) (ns' ms':List PyData),rest=vs.zip ws/\
   vs.length=ns'.length/\ws.length=ms'.length/\PairAt A.in1 ⟨hp,g,d,tk,os⟩ vs ws ns' ms'/\ns'.length+items2.size=ms'.length+items.size/\R (.ok (.ret (.bool (ltL ns' ms')))) ⟨hp,g,d,tk,os⟩) _
  case turn=>
   rintro⟨y,x⟩ rest b s' ⟨hb',rfl,vs,ws,ns',ms',hz,hvi,hwi,hpa,hlen,hR⟩
   cases vs with
   | nil=>rw[List.zip_nil_left]at hz;cases hz
   | cons v vs=>
    cases ws with
    | nil=>rw[List.zip_nil_right]at hz;cases hz
    | cons w' ws=>
     cases ns' with
     | nil=>cases hvi
     | cons n' ns'=>
      cases ms' with
      | nil=>cases hwi
      | cons m' ms'=>
       rw[jw]at hz
       injection hz with hyx hrest
       injection hyx with hy hx
       subst hy hx
       obtain⟨he,hlt,hpa'⟩:=hpa
       have hR':R (.ok (.ret (.bool (if bn n' m'=true then ltL ns' ms' else ltD n' m')))) ⟨hp,g,d,tk,os⟩:=hR
       simp only[bu]at hlen hvi hwi
       refine aa (he prog w _ _ ?_)
       cases hq:bn n' m' with
       | true=>
        rw[hq,if_pos rfl]at hR'
        wp_walk
        exact⟨rfl,rfl,(nv _ _ _ _ ⟨hrest,by omega,by omega,hpa',by omega,hR'⟩)⟩
       | false=>
        rw[hq,if_neg ah]at hR'
        have hri:=hlt prog w
        wp_walk using hri
        exact⟨_,rfl,by simpa using hR'⟩
  case fin=>
   rintro⟨b1,b2⟩ s' ⟨hb',rfl,vs,ws,ns',ms',hz,hvi,hwi,hpa,hlen,hR⟩
   simp only at hb'
   subst hb'
   have hv:ltL ns' ms'=decide (items.size<items2.size):=by
    cases ns' with
    | nil=>
     cases ms' with
     | nil=>
      simp only[i7]at hlen
      show false=_
      exact(decide_eq_false (by omega)).symm
     | cons c u=>
      simp only[i7,bu]at hlen
      show true=_
      exact(decide_eq_true (by omega)).symm
    | cons a t=>
     cases ms' with
     | nil=>
      simp only[i7,bu]at hlen
      show false=_
      exact(decide_eq_false (by omega)).symm
     | cons c u=>
      cases vs with
      | nil=>cases hvi
      | cons v vs=>
       cases ws with
       | nil=>cases hwi
       | cons w' ws=>
        rw[jw]at hz
        cases hz
   rw[hv]at hR
   wp_walk
   exact⟨_,rfl,by simpa [Builtin.Tuple.tupleCompareSizes]using hR⟩
  case h=>
   exact⟨rfl,rfl,(nv items.toList items2.toList xs ys ⟨rfl,hi,hj,hP,by omega,h⟩)⟩
end
mutual
theorem ltAt_reads:∀(x y:PyData),Cmp x y->∀(A:Around) (s:Shared) (u v:Value) (as bs:List Addr),Reads s.heap u x as->Reads s.heap v y bs->x.canLay0=true->y.canLay0=true->
  A.units+min x.depth y.depth<cLine->LtAt A s u v (ltD x y)
 | .int a,.int b,_=>by
  intro A s u v as bs r1 r2 _ _ _
  cases r1;cases r2
  exact LtAt.int _ _ _ _
 | .str a,.str b,_=>by
  intro A s u v as bs r1 r2 _ _ _
  cases r1;cases r2
  exact LtAt.str _ _ _ _
 | .tuple xs,.tuple ys,hc=>by
  intro A s u v as bs r1 r2 h1 h2 hu
  cases r1 with
  | @tuple a o vs n _ _ e1 e2 e3 z=>
   cases r2 with
   | @tuple a' o' vs' n' _ _ f1 f2 f3 z'=>
    obtain⟨cls,dd,data,sl⟩:=o
    obtain⟨cls2,dd2,data2,sl2⟩:=o'
    simp only at e2 e3 f2 f3
    subst e2 e3 f2 f3
    intro prog w E Q hq
    have hp:=pairAt_reads xs ys hc A.in1 s _ _ _ _ z z' h1 h2 (SeqAt.room_in hu)
    exact richCompare_meets_room (op:=.Lt) ⟨_,e1,rfl⟩ ⟨_,f1,rfl⟩ PySem.F.slot_tuple_lt PySem.F.entry_tuple_lt (PySem.F.args_tuple_lt_2 _ _) (tuple_lt_data a a' vs vs' n n' dd dd2 sl sl2 xs ys (gr _ _ _ z) (gr _ _ _ z'))
     ⟨e1,f1,hp,show Value.bool (ltL xs ys)≠Value.notImplemented/\Q (.bool (ltL xs ys)) s from ⟨(λx=>nomatch x),hq⟩⟩ (SeqAt.room_here hu)
theorem pairAt_reads:∀(xs ys:List PyData),CmpL xs ys->∀(A:Around) (s:Shared) (vs ws:List Value) (as bs:List Addr),ReadsAll s.heap vs xs as->ReadsAll s.heap ws ys bs->gq xs=true->gq ys=true->
  A.units+min (bv xs) (bv ys)<cLine->PairAt A s vs ws xs ys
 | [],_,_=>by
  intro A s vs ws as bs r1 r2 _ _ _
  cases r1
  cases r2 with
  | nil=>exact True.intro
  | cons _ _=>exact True.intro
 | x::xs,[],_=>by
  intro A s vs ws as bs r1 r2 _ _ _
  cases r1;cases r2
  exact True.intro
 | x::xs,y::ys,hc=>by
  intro A s vs ws as bs r1 r2 h1 h2 hu
  have h1':x.canLay0=true/\gq xs=true:=by simpa [gq]using h1
  have h2':y.canLay0=true/\gq ys=true:=by simpa [gq]using h2
  cases r1 with
  | cons ra rb=>
   cases r2 with
   | cons rc rd=>
    exact⟨SeqAt.eqAt_reads x y A s _ _ _ _ ra rc h1'.1 h2'.1 (SeqAt.room_head hu),ltAt_reads x y (show Cmp x y/\CmpL xs ys from hc).1 A s _ _ _ _ ra rc h1'.1 h2'.1 (SeqAt.room_head hu),
     pairAt_reads xs ys (show Cmp x y/\CmpL xs ys from hc).2 A s _ _ _ _ rb rd h1'.2 h2'.2 (SeqAt.room_tail hu)⟩
end
section
variable{prog:Program}{w:World}{A:Around}{E:Value->Shared->Prop}{s:Shared}{Q:Bool->Shared->Prop}
theorem lex_data{b fin:Bool}:∀(xs ys:List PyData) (vs ws:List Value) (i:Nat),(b=false\/0<i)->vs.length=xs.length->ws.length=ys.length->PairAt A s vs ws xs ys->fin=decide (xs.length<ys.length)->Q (ltL xs ys) s->
  PySem.W.KatLex prog w A b fin Q (vs.zip ws) i s
 | [],ys,vs,ws,i,hb,l1,l2,hp,hf,q=>by
  cases vs with
  | cons v vs=>cases l1
  | nil=>
   rw[List.zip_nil_left]
   refine PySem.W.kat_nil ?_
   rw[hf]
   cases ys with
   | nil=>exact q
   | cons y ys=>exact q
 | x::xs,[],vs,ws,i,hb,l1,l2,hp,hf,q=>by
  cases ws with
  | cons v vs=>cases l2
  | nil=>
   rw[List.zip_nil_right]
   refine PySem.W.kat_nil ?_
   rw[hf]
   exact q
 | x::xs,y::ys,vs,ws,i,hb,l1,l2,hp,hf,q=>by
  cases vs with
  | nil=>cases l1
  | cons v vs=>
   cases ws with
   | nil=>cases l2
   | cons w' ws=>
    rw[jw]
    obtain⟨he,hlt,hp'⟩:=hp
    have q':Q (if bn x y=true then ltL xs ys else ltD x y) s:=q
    refine PySem.W.kat_cons (he prog w _ _ ?_)
    cases hq:bn x y with
    | true=>
     rw[hq,if_pos rfl]at q'
     refine PySem.W.kat_yes (lex_data xs ys vs ws (i+1) (.inr (Nat.succ_pos _)) (by simpa using l1) (by simpa using l2) hp' ?_ q')
     rw[hf]
     simp
    | false=>
     rw[hq,if_neg ah]at q'
     refine PySem.W.kat_no ?_
     have hb':(b&&i==0)=false:=by
      rcases hb with h|h
      .rw[h];rfl
      .have:(i==0)=false:=by simp;omega
       rw[this];simp
     rw[hb']
     exact PySem.W.kat_one _ _ (hlt prog w _ _ q')
theorem key_lt{u v:Value}{x y:PyData}{as bs:List Addr}(r1:Reads s.heap u x as)(r2:Reads s.heap v y bs)(hx:∃xs,x=.tuple xs)(hy:∃ys,y=.tuple ys)(l1:x.canLay0=true)(l2:y.canLay0=true)(hc:Cmp x y)
  (hu:A.units+min x.depth y.depth<cLine) (q:Q (ltD x y) s):wpAny (model prog w) A (keyLt' (tuples' false) u v) Q E s:=by
 obtain⟨xs,rfl⟩:=hx
 obtain⟨ys,rfl⟩:=hy
 cases r1 with
 | @tuple a o vs n _ _ e1 e2 e3 z=>
  cases r2 with
  | @tuple a' o' vs' n' _ _ f1 f2 f3 z'=>
   have k1:=gr _ _ _ z
   have k2:=gr _ _ _ z'
   refine PySem.W.kat_lt e1 e3 f1 f3 (lex_data xs ys _ _ 0 (.inl rfl) k1 k2 (pairAt_reads xs ys hc A s _ _ _ _ z z' l1 l2 ?_) ?_ q)
   .have h1:(PyData.tuple xs).depth=bv xs+1:=rfl
    have h2:(PyData.tuple ys).depth=bv ys+1:=rfl
    rw[h1,h2]at hu
    omega
   .rw[aw]at k1 k2
    rw[k1,k2]
end
noncomputable def TT(d:PyData):Prop:=∃r rest,d=.tuple (.tuple r::rest)
theorem kinds_tt{h:Heap}:∀(os:List Value) (ds:List PyData),os.length=ds.length->(∀(i:Nat) v d,os[i]?=some v->ds[i]?=some d->TT d/\∃as,Reads h v d as)->
  ∃fs:List Value,jj h os fs/\fs.length=os.length/\∀v∈fs,∃a o,v=.ref a/\h.get? a=some o/\o.cls=.type "tuple"
 | [],_,_,_=>⟨[],trivial,rfl,λv hv=>by cases hv⟩
 | v::os,[],hl,_=>by cases hl
 | v::os,d::ds,hl,hr=>by
  obtain⟨⟨r,rest,rfl⟩,as,rd⟩:=hr 0 v d rfl rfl
  obtain⟨fs,k1,k2,k3⟩:=kinds_tt os ds (by simpa using hl) λi v d h1 h2=>hr (i+1) v d (by simpa using h1) (by simpa using h2)
  cases rd with
  | @tuple a o vs n _ _ e1 e2 e3 z=>
   generalize hv:vs.toList=vl at z
   cases z with
   | cons ra rb=>
    cases ra with
    | @tuple a' o' vs' n' _ _ f1 f2 f3 z'=>
     refine⟨.ref a'::fs,jj.cons e1 e2 e3 (by rw[<-a0,hv];rfl) k1,by rw[bu,bu,k2],λv hv=>?_⟩
     rcases ax.mp hv with rfl|hv
     .exact(x_EE a' o' ⟨rfl,f1,f2⟩)
     .exact k3 v hv
noncomputable def RL(R:Value->PyData->Prop):List Value->List PyData->Prop
 | [],[]=>True
 | v::vs,d::ds=>R v d/\RL R vs ds
 | _,_=>False
theorem RL.perm{R:Value->PyData->Prop}{os vs:List Value}(p:os.Perm vs):∀{ds:List PyData},RL R vs ds->∃dos,dos.Perm ds/\RL R os dos:=by
 induction p with
 | nil=>intro ds h;exact⟨ds,.refl _,h⟩
 | cons x p ih=>
  intro ds h
  cases ds with
  | nil=>exact h.elim
  | cons d ds=>
   obtain⟨dos,p',h'⟩:=ih h.2
   exact⟨d::dos,p'.cons d,h.1,h'⟩
 | swap x y l=>
  intro ds h
  match ds,h with
  | d1::d2::ds,h=>exact⟨d2::d1::ds,.swap _ _ _,h.2.1,h.1,h.2.2⟩
 | trans p1 p2 ih1 ih2=>
  intro ds h
  obtain⟨d1,q1,h1⟩:=ih2 h
  obtain⟨d2,q2,h2⟩:=ih1 h1
  exact⟨d2,q2.trans q1,h2⟩
theorem RL.length{R:Value->PyData->Prop}:∀{vs:List Value} {ds:List PyData},RL R vs ds->vs.length=ds.length
 | [],[],_=>rfl
 | v::vs,d::ds,h=>by rw[bu,bu,RL.length h.2]
 | [],_::_,h=>h.elim
 | _::_,[],h=>h.elim
theorem RL.at{R:Value->PyData->Prop}:∀{vs:List Value} {ds:List PyData} {i:Nat} {v:Value} {d:PyData},RL R vs ds->vs[i]?=some v->ds[i]?=some d->R v d
 | v::vs,d::ds,0,_,_,h,h1,h2=>by cases h1;cases h2;exact h.1
 | v::vs,d::ds,i+1,_,_,h,h1,h2=>RL.at h.2 (by simpa using h1) (by simpa using h2)
 | [],_,_,_,_,_,h1,_=>by simp at h1
 | _::_,[],_,_,_,h,_,_=>h.elim
theorem RL.els{Pv:Value->PyData->Prop}{w:World}{h:Heap}:∀{es:List (Int×Value)} {ds:List PyData},Els Pv w h es ds->RL (λv d=>∃k,El Pv w h (k,v) d) (es.map (·.2)) ds
 | [],ds,x=>by rw[els_nil x];exact True.intro
 | e::es,ds,x=>by
  obtain⟨d,ds',rfl,h1,h2⟩:=els_cons x
  exact⟨⟨e.1,h1⟩,RL.els h2⟩
theorem Inv.drawn{X:Cx}{pins:List (Addr×Obj)}{σ:L2.St}{H:Hp}{s:Shared}(I:Inv X pins σ H s)(dr:Drawn):Inv X pins σ H {s with drawn:=dr}:=⟨I.ok,I.os,I.bare,I.base,I.loc,I.cell,I.free,I.freeC,I.pin,I.hok,I.len⟩
noncomputable def rIxD(prog:Program)(w:World)(K:aq):R2:=λx y H Q=>∃(p:Addr) (k:Str) (o:Obj) (kvs:List (Str×Value)) (v:Int) (t:Tok),x=.ref p/\y=.str k/\K.lookup p=some o/\o.IsDictOf (strKind prog w) kvs/\valueAt kvs k=some (.int v t)/\Q (.int v) H
section
variable{X:Cx}{x:Str}{pos:Pos}
theorem ix_dict:IxR X (rIxD X.prog X.w X.K):=by
 intro value slice pins s σ H x y v u Q I rx ry h hs
 obtain⟨p,k,o,kvs,n,t,rfl,rfl,hk,hd,hv,q⟩:=h
 cases rx
 obtain⟨t',rfl⟩:=ry
 have hm:s.heap.DictOf (strKind X.prog X.w) p kvs:=Heap.dictOf_iff.mpr ⟨o,I.kIn p o hk,hd⟩
 exact tail_any hm.typeIs slot_dict_getitem.lookup (wpAny_getItem_of (strKind_is _ _ k t') hm.mapOf hv (x_EE (.int n) H ⟨I.tok _,⟨t,rfl⟩,q⟩)) hs
theorem pe_globR{a:Addr}(h:X.mg x=some (.ref a))(hg:Gl X x)(hd:(x==("__debug__" : Str))=false:=by decide):PE X (.Name x pos) (tC (.ref a)):=pe_glob hg h rfl hd
end
noncomputable def RowsS(ks:List Bool)(ds:List PyData):Prop:=∀d∈ds,∃r,d=.tuple r/\Row (false::ks) r
theorem rows_ordS{ks:List Bool}{ds:List PyData}(h:RowsS ks ds):OrdD ltR ds:=by
 have at':∀d∈ds,Row (false::ks) (rowOf d):=λd hd=>by
  obtain⟨r,e,hr⟩:=h d hd
  rw[e];exact hr
 exact⟨λx hx y hy q=>rl_asy (at' x hx) (at' y hy) q,λx hx y hy z hz q1 q2=>rl_tr (at' x hx) (at' y hy) (at' z hz) q1 q2⟩
theorem tup_ofS{h:Heap}{ks:List Bool}{d:PyData}{u:Value}{bs:List Addr}(z:Reads h u d bs){row:List PyData}(e:d=.tuple row)(hr:Row (false::ks) row) :
  ∃a o vs n as i t,u=.ref a/\h.get? a=some o/\o.cls=.type "tuple"/\o.data=.seq vs n/\ReadsAll h vs.toList row as/\vs[0]?=some (.str i t):=by
 subst e
 cases z with
 | @tuple a o vs n _ _ e1 e2 e3 z=>
  obtain⟨i,rr,rfl,_⟩:=hr
  have z':=z
  generalize hv:vs.toList=vl at z
  cases z with
  | cons ra rb=>
   cases ra with
   | str _ t=>
    refine(lg a o vs n _ (x_EE i t ⟨rfl,e1,e2,e3,z',?_⟩))
    rw[<-a0,hv]
    rfl
theorem kat_tupsS{h:Heap}{ks:List Bool}:∀{ds:List PyData} {us:List Value},us.length=ds.length->(∀(i:Nat) u d,us[i]?=some u->ds[i]?=some d->∃as,Reads h u d as)->RowsS ks ds->∃fs:List Value,jj h us fs/\fs.length=ds.length/\∀v∈fs,∃i t,v=Value.str i t
 | [],[],_,_,_=>⟨[],trivial,rfl,λv hv=>by cases hv⟩
 | [],u::us,hl,_,_=>by cases hl
 | d::ds,[],hl,_,_=>by cases hl
 | d::ds,u::us,hl,r,hr=>by
  obtain⟨row,e,hrow⟩:=hr d au
  obtain⟨bs,z⟩:=r 0 u d rfl rfl
  obtain⟨a,o,vs,n,as,i,tk,rfl,e1,e2,e3,_,e4⟩:=tup_ofS z e hrow
  obtain⟨fs,k1,k2,k3⟩:=kat_tupsS (ds:=ds) (us:=us) (by simpa using hl) (λi u d h1 h2=>r (i+1) u d (by simpa using h1) (by simpa using h2)) λd hd=>hr d (av _ hd)
  refine⟨.str i tk::fs,jj.cons e1 e2 e3 e4 k1,by rw[bu,bu,k2],λv hv=>?_⟩
  rcases ax.mp hv with rfl|hv
  .exact(x_EE i tk rfl)
  .exact k3 v hv
section
variable{prog:Program}{w:World}{A:Around}{s:Shared}{E:Value->Shared->Prop}
theorem keyS{ks:List Bool}{d e:PyData}{u v:Value}{as bs:List Addr}(r1:Reads s.heap u d as)(r2:Reads s.heap v e bs)(hd:∃r,d=.tuple r/\Row (false::ks) r)(he:∃r,e=.tuple r/\Row (false::ks) r){Q:Bool->Shared->Prop}(hq:Q (ltR d e) s) :
  wpAny (model prog w) A (keyLt' (tuples' true) u v) Q (λ_ _=>False) s:=by
 obtain⟨row,rfl,hr⟩:=hd
 obtain⟨row',rfl,hr'⟩:=he
 obtain⟨a,o,vs,n,as1,_,_,rfl,e4,_,e5,e6,_⟩:=tup_ofS r1 rfl hr
 obtain⟨a',o',vs',n',as2,_,_,rfl,f4,_,f5,f6,_⟩:=tup_ofS r2 rfl hr'
 have z1:vs.size=ks.length+1:=by have q1:=gr _ _ _ e6;have q2:=hr.len;simp at q1 q2;omega
 have z2:vs'.size=ks.length+1:=by have q1:=gr _ _ _ f6;have q2:=hr'.len;simp at q1 q2;omega
 refine PySem.W.kat_lt e4 e5 f4 f5 ?_
 rw[decide_eq_false (by omega)]
 exact lex_rows hr hr' e6 f6 hq
theorem kindS{ks:List Bool}{ds:List PyData}{us:List Value}(hl:us.length=ds.length)(h2:2<=us.length)(r:∀(i:Nat) u d,us[i]?=some u->ds[i]?=some d->∃as,Reads s.heap u d as)(hr:RowsS ks ds){Q:SortKind->Shared->Prop}(hq:Q (tuples' true) s) :
  wpAny (model prog w) A (keyKind' us.toArray) Q E s:=by
 obtain⟨fs,kt,kf,ki⟩:=kat_tupsS hl r hr
 refine PySem.W.kat_kind (T:=Value.type "str") kt (by omega) (λv hv=>?_) rfl hq
 obtain⟨i,t,rfl⟩:=ki v hv
 exact PySem.W.Looks.of_pure rfl
end
open Classical in
theorem sort_vals{h:Heap}{lt:PyData->PyData->Bool}{os:List Value}{dos:List PyData}(hl:os.length=dos.length)(rd:∀(i:Nat) (v:Value) (d:PyData),os[i]?=some v->dos[i]?=some d->d.canLay0=true/\∃as,Reads h v d as)(o:OrdD lt dos) :
  ∃g:Value->Int,(∀(i j:Nat) (u v:Value) (d e:PyData),os[i]?=some u->dos[i]?=some d->os[j]?=some v->dos[j]?=some e->decide (g u<g v)=lt d e)/\
   ∀us:List Value,us.Perm os->us.Pairwise (λx y=>g x<=g y)->∃T:List (PyData×Value),T.map (·.2)=us/\(T.map (·.1)).Perm dos/\(T.map (·.1)).Pairwise (λx y=>lt y x=false)/\∀t∈T,∃i:Nat,dos[i]?=some t.1/\os[i]?=some t.2:=by
 obtain⟨g,hg⟩:∃g:Value->Int,∀(i:Nat) (d:PyData) (u:Value),dos[i]?=some d->os[i]?=some u->g u=rankD lt dos d:=by
  refine⟨λu=>if h:∃d,∃as,Reads h u d as/\d∈dos then rankD lt dos h.choose else 0,λi d u h1 h2=>?_⟩
  obtain⟨lay,as,r⟩:=rd i u d h2 h1
  have hx:∃d,∃as,Reads h u d as/\d∈dos:=(x_EE d as ⟨r,am h1⟩)
  show(if h:∃d,∃as,Reads h u d as/\d∈dos then rankD lt dos h.choose else 0)=_
  rw[dif_pos hx]
  obtain⟨bs,rb,_⟩:=hx.choose_spec
  rw[SeqAt.Reads.unique d hx.choose u as bs lay r rb]
 refine⟨g,λi j u v d e u1 d1 v1 e1=>?_,λus p up=>?_⟩
 .rw[hg i d u d1 u1,hg j e v e1 v1]
  exact rank_lt o (am d1) (am e1)
 .have second:(dos.zip os).map (λt=>t.2)=os:=List.map_snd_zip (by omega)
  have first:(dos.zip os).map (λt=>t.1)=dos:=List.map_fst_zip (by omega)
  obtain⟨T,tp,te⟩:=perm_lift (λt:PyData×Value=>t.2) p second
  have tm:∀t∈T,∃i:Nat,dos[i]?=some t.1/\os[i]?=some t.2:=λt ht=>by
   obtain⟨i,hi⟩:=bz.mp (tp.mem_iff.mp ht)
   obtain⟨a1,a2⟩:=je.mp hi
   exact⟨i,a1,a2⟩
  refine⟨T,te,?_,?_,tm⟩
  .have:=tp.map (λt=>t.1)
   rw[first]at this
   exact this
  .rw[fk]
   rw[<-te,fk]at up
   refine fv (λ{a b} ha hb hab=>?_) up
   obtain⟨i,a1,a3⟩:=tm a ha
   obtain⟨j,b1,b3⟩:=tm b hb
   rw[hg i _ _ a1 a3,hg j _ _ b1 b3]at hab
   rw[<-rank_lt o (am b1) (am a1)]
   exact decide_eq_false (by omega)
section
variable{prog:Program}{w:World}{A:Around}{E:Value->Shared->Prop}{s:Shared}
theorem sorted_setN{a:Addr}{o:Obj}{es:Array (Int×Value)}{ep:Nat}{t:SetTable}{κ:SortKind}{Q:Value->Shared->Prop}(hh:A.handled=none)(ho:s.heap.get? a=some o)(hex:o.ExactSet)(hd:o.data=.set es ep t)(ok:TOk t es)(hled:t.led = !byT w)(hsz:es.size<=4000)
  (h:∀os:List Value,os.Perm (es.toList.map (·.2))->∃g:Value->Int,(2<=os.length->∀s':Shared,Keep s.heap s'.heap->
   (∀(Q:SortKind->Shared->Prop) (E:Value->Shared->Prop),Q κ s'->wpAny (model prog w) A.in1.in1 (keyKind' os.toArray) Q E s')/\
   ∀x y,x∈os->y∈os->∀(Q:Bool->Shared->Prop),Q (decide (g x<g y)) s'->wpAny (model prog w) A.in1.in1 (keyLt' κ x y) Q (λ_ _=>False) s')/\
   ∀(us:List Value) (h1 h2:Heap) dr e,us.Perm os->us.Pairwise (λx y=>g x<=g y)->Keep s.heap h1->Keep h1 h2->h2.get? h1.objs.size=some (seqObj "list" us.toArray e)->Q (.ref h1.objs.size) {s with heap:=h2,drawn:=dr}) :
  wpAny (model prog w) A (call (.builtin "sorted") [.ref a]) Q E s:=by
 refine Calls.call_function_entry kind_sorted plain_sorted entry_sorted (args_sorted1 _) ?_
 unfold Builtin.«sorted»
 refine aa (m:=checkCount "sorted" 1 1 _) (af ?_)
 refine aa (collect_setD (A:=A.in1) hh ho hex hd ok hled hsz λh1 os dr hp k1=>?_)
 obtain⟨g,hk,h⟩:=h os hp
 have hol:os.length<=sizeLine:=by rw[hp.length_eq,aj,aw,gi];omega
 refine aa (wpAny_newList ?_ hol)
 have hoL:(h1.push (seqObj "list" os.toArray 0)).get? h1.objs.size=some (seqObj "list" os.toArray 0):=ay _ rfl
 have keep:Keep h1 (h1.push (seqObj "list" os.toArray 0)):=λb o q=>ai _ q
 show wpAny _ _ _ _ _ {s with heap:=h1.push (seqObj "list" os.toArray 0),drawn:=dr}
 refine aa (ei (b9 slot_list_sort ⟨_,hoL,rfl⟩ entry_list_sort ?body (args_list_sort _)))
 case body=>
  refine pq (κ:=κ) (g:=g) hoL hol (λh2 s' k=>hk h2 s' λb o e=>k b o (cc (a9 (k1 b o e))) (keep b o (k1 b o e))) λus u1 u2=>?_
  obtain⟨e,he⟩:=sortedHeap_at (out:=us.toArray) hoL
  refine⟨_,rfl,af ⟨_,rfl,h us h1 _ dr e u1 u2 k1 (λb ob q=>?_) he⟩⟩
  exact(sortedHeap_old (cc (a9 q)) (by rw[size_push'];exact ji (a9 q))).trans (keep b ob q)
end
structure SortsAs(prog:Program)(w:World)(A:Around)(κ:SortKind)(lt:PyData->PyData->Bool)(ds:List PyData):Prop where
 ord:OrdD lt ds
 kind:∀(s:Shared) (os:List Value) (dos:List PyData),(∀d∈dos,d∈ds)->os.length=dos.length->2<=os.length->(∀(i:Nat) (v:Value) (d:PyData),os[i]?=some v->dos[i]?=some d->∃as,Reads s.heap v d as)->
  ∀(Q:SortKind->Shared->Prop) (E:Value->Shared->Prop),Q κ s->wpAny (model prog w) A (keyKind' os.toArray) Q E s
 key:∀(s:Shared) (u v:Value) (d e:PyData) (as bs:List Addr),d∈ds->e∈ds->Reads s.heap u d as->Reads s.heap v e bs->d.canLay0=true->e.canLay0=true->∀(Q:Bool->Shared->Prop),Q (lt d e) s->wpAny (model prog w) A (keyLt' κ u v) Q (λ_ _=>False) s
theorem sortsAs_S{prog:Program}{w:World}{A:Around}{ks:List Bool}{ds:List PyData}(h:RowsS ks ds):SortsAs prog w A (tuples' true) ltR ds:=
 ⟨rows_ordS h,λs os dos hs hl h2 r Q E q=>kindS hl h2 r (λd hd=>h d (hs d hd)) q,λs u v d e as bs hd he r1 r2 _ _ Q q=>keyS r1 r2 (h d hd) (h e he) q⟩
section
variable{X:Cx}{pins:List (Addr×Obj)}{σ:L2.St}{H:Hp}{s:Shared}
theorem sorted_set_data(I:Inv X pins σ H s){Pv:Value->PyData->Prop}(hPv:∀v d,Pv v d->∃x,RelV x v/\Rep H d x){a:Addr}{ds:List PyData}(hc:X.calm=true)(hS:SetD Pv X.w s.heap a ds)(hlen:ds.length<=4000){κ:SortKind}{lt:PyData->PyData->Bool}(sa:SortsAs X.prog X.w X.A.in1.in1 κ lt ds){Q:VK}
  (q:∀(es:List PyData) (l:Addr) (ys:List V),es.Perm ds->es.Pairwise (λx y=>lt y x=false)->H l=none->RepAll (upd H l (.lst ys)) es ys->Q (.ref l) (upd H l (.lst ys))) :
  wpAny (model X.prog X.w) X.A (call (.builtin "sorted") [.ref a]) (EP X pins σ Q) X.xe s:=by
 obtain⟨o,es,ep,tb,ho,hex,hdat,ok,few,els,nd,hled⟩:=hS
 have hsz:es.size=ds.length:=by have:=els.1;rw[aw]at this;exact this
 refine sorted_setN (κ:=κ) (I.ok.hd hc) ho hex hdat ok hled (by omega) λos hperm=>?_
 obtain⟨dos,pd,rl⟩:=RL.perm hperm (RL.els els)
 have hol:os.length=dos.length:=rl.length
 have elt:∀(i:Nat) v d,os[i]?=some v->dos[i]?=some d->∃k,El Pv X.w s.heap (k,v) d:=λi v d h1 h2=>rl.at h1 h2
 have sub:∀d∈dos,d∈ds:=λd hd=>pd.mem_iff.mp hd
 have odos:OrdD lt dos:=⟨λx hx y hy=>sa.ord.asy x (sub x hx) y (sub y hy),λx hx y hy z hz=>sa.ord.tr x (sub x hx) y (sub y hy) z (sub z hz)⟩
 obtain⟨g,g1,g2⟩:=sort_vals (h:=s.heap) hol (λi v d h1 h2=>by
  obtain⟨k,el⟩:=elt i v d h1 h2
  exact⟨el.lay,el.reads⟩) odos
 refine⟨g,λh2 s' kp=>⟨λQ' E' hq=>?_,λx y hx hy Q' hq=>?_⟩,λus h1 h2 dr e u1 u2 kp1 kp2 hg3=>?_⟩
 .refine sa.kind s' os dos sub hol h2 (λi v d h1 h2=>?_) Q' E' hq
  obtain⟨k,el⟩:=elt i v d h1 h2
  obtain⟨bs,rd⟩:=el.reads
  exact⟨bs,Reads.keeps kp rd⟩
 .obtain⟨i,hi⟩:=bz.mp hx
  obtain⟨j,hj⟩:=bz.mp hy
  have hi':i<dos.length:=by have:=(ak.mp hi).1;omega
  have hj':j<dos.length:=by have:=(ak.mp hj).1;omega
  have di:=ab hi'
  have dj:=ab hj'
  obtain⟨k,el⟩:=elt i _ _ hi di
  obtain⟨k',el'⟩:=elt j _ _ hj dj
  obtain⟨bs,rd⟩:=el.reads
  obtain⟨bs',rd'⟩:=el'.reads
  rw[g1 i j x y _ _ hi di hj dj]at hq
  exact sa.key s' x y _ _ bs bs' (sub _ (df hi')) (sub _ (df hj')) (Reads.keeps kp rd) (Reads.keeps kp rd') el.lay el'.lay Q' hq
 .obtain⟨T,te,tp,tu,tm⟩:=g2 us u1 u2
  have tr:∀t∈T,∃x,RelV x t.2/\Rep H t.1 x:=λt ht=>by
   obtain⟨i,a1,a2⟩:=tm t ht
   obtain⟨k,el⟩:=elt i _ _ a2 a1
   exact hPv _ _ el.own
  obtain⟨ys,v1,v2⟩:∃ys,Vals ys us/\RepAll H (T.map (·.1)) ys:=by
   rw[<-te]
   clear te tp tu tm
   induction T with
   | nil=>exact⟨[],.nil,rfl⟩
   | cons t T ih=>
    obtain⟨x,x1,x2⟩:=tr t au
    obtain⟨ys,y1,y2⟩:=ih λt ht=>tr t (av _ ht)
    exact(o5 (x::ys) (.cons x1 y1) x ys ⟨rfl,x2,y2⟩)
  have I3:Inv X pins σ H {s with heap:=h1,drawn:=dr}:=(L3.Inv.drawn I dr).kept (t':=s.toks) kp1
  have hn:H h1.objs.size=none:=I3.hok.fresh (ao _)
  have hyl:=v2.length
  have htl:=tp.length_eq
  have hpl:=pd.length_eq
  have hz':ys.length<=sizeLine:=by rw[gi];omega
  have hsame:Same H (upd H h1.objs.size (.lst ys)):=λb o q=>by rw[kv (lh q hn)];exact q
  exact(x_EE (.ref h1.objs.size) _ ⟨I3.laid (t':=s.toks) (o:=.lst ys) kp2 (ao _) ⟨hz',(x_EE _ e ⟨v1,hg3⟩)⟩,rfl,q (T.map (·.1)) _ ys (tp.trans pd) tu hn (v2.same hsame)⟩)
end
theorem cmp_ord{ds:List PyData}(h:CmpA ds):OrdD ltD ds:=⟨λx hx y hy q=>by
  rw[pj (h.1 x hx y hy)]at q
  rw[pj (h.1 y hy x hx)]
  exact decide_eq_false (List.lt_asymm (of_decide_eq_true q)),λx hx y hy z hz q1 q2=>by
  rw[pj (h.1 y hy x hx)]at q1
  rw[pj (h.1 z hz y hy)]at q2
  rw[pj (h.1 z hz x hx)]
  have h1:enc x<=enc y:=of_decide_eq_false q1
  have h2:enc y<=enc z:=of_decide_eq_false q2
  exact decide_eq_false (List.le_trans h1 h2)⟩
theorem sortsAs_E{prog:Program}{w:World}{A B:Around}{ds:List PyData}(hu:B.units+64<cLine)(hB:A=B.in1.in1)(hkey:∀d∈ds,KeyD d/\TT d)(hcmp:CmpA ds):SortsAs prog w A (tuples' false) ltD ds where
 ord:=cmp_ord hcmp
 kind:=λs os dos hs hl h2 r Q E q=>by
  obtain⟨fs,k1,k2,k3⟩:=kinds_tt (h:=s.heap) os dos hl λi v d h1 h2=>by
   obtain⟨bs,rd⟩:=r i v d h1 h2
   exact⟨(hkey d (hs d (am h2))).2,bs,rd⟩
  refine PySem.W.kat_kind (T:=Value.type "tuple") k1 (by omega) (λv hv=>?_) rfl q
  obtain⟨a,o,rfl,g1,g2⟩:=k3 v hv
  rw[<-g2]
  exact(PySem.W.Looks.ld g1).andThen .now
 key:=λs u v d e as bs hd he r1 r2 l1 l2 Q q=>by
  refine key_lt r1 r2 (hkey _ hd).1.2.1 (hkey _ he).1.2.1 l1 l2 (hcmp.1 _ hd _ he) ?_ q
  have:=(hkey _ hd).1.2.2
  have:=Nat.min_le_left d.depth e.depth
  subst hB
  show B.units+1+1+_<_
  omega
noncomputable def rSortSet:List V->Hp->VK->Prop:=λvs H Q=>∃(p:Addr) (xs:List V) (ds:List PyData),vs=[.ref p]/\H p=some (.lst xs)/\RepAll H ds xs/\(∀d∈ds,KeyD d/\TT d)/\CmpA ds/\ds.length<4000/\
 ∀(ds':List PyData) (l:Addr) (ys:List V),ds'.Nodup->(∀d,d∈ds'↔d∈ds)->H l=none->RepAll (upd H l (.lst ys)) (sortE ds') ys->Q (.ref l) (upd H l (.lst ys))
section
variable{X:Cx}{p p2 pos pos2:Pos}{e:Expr}{t:TA}
theorem pe_sortset(hc:X.calm=true)(hu:X.A.units+64<cLine)(hg:Gl X "sorted")(hm:X.mg "sorted" = none)(hg2:Gl X "set")(hm2:X.mg "set" = none)(ha:PA X [e] t)(h1:oa e=true:=by rfl) :
  PE X (.Call (.Name "sorted" p) [.Call (.Name "set" p2) [e] [] pos2] [] pos) (tCB rSortSet t):=by
 intro pins s σ H Q I h
 refine ip (ld_blt I hg hm boot_sorted ?_ (by decide) (by decide))
 refine PyProof.Rows.callWith_builtin1 ?_ (l9 rfl) rfl
 rw[l9 rfl]
 show wpAny _ _ (spliced ((false,eval (.Call (.Name "set" p2) [e] [] pos2) X.env)::backTo pos (starEach [] X.env))) _ _ s
 refine Calls.spliced_cons ?_
 refine ip (ld_blt I hg2 hm2 boot_set ?_ (by decide) (by decide))
 refine g8 (thn (ha pos2 pins s σ H _ I h) λus s1 ⟨vs,H1,I1,r1,q1⟩=>?_) (l9 h1) rfl
 obtain⟨pl,xs,ds,rfl,hp,hds,hkey,hcmp,hb,q⟩:=q1
 obtain⟨u,rfl,ru⟩:=vals1 r1
 cases (show u=Value.ref pl from ru)
 obtain⟨its,rv,il,hz⟩:=I1.list (SqL.of (K:=X.K) hp)
 obtain⟨as,rds⟩:=RepAll.reads I1 hds rv
 have hlay:=hds.lay
 have hl1:xs.length=ds.length:=hds.length
 have hl2:xs.length=its.length:=rv.length
 refine call_setD (Pv:=λv d=>∃i:Nat,its[i]?=some v/\ds[i]?=some d) (ds:=ds) (I1.ok.hd hc) il.isList (by rw[az];omega) (λi v d hv hd=>?_) (by omega) (by omega) λh' tk ds' hS hmem hlen hk ht=>?_
 .rw[j9]at hv
  obtain⟨bs,rd⟩:=pf rds hv hd
  have hm':=am hd
  exact⟨⟨i,hv,hd⟩,rfl,(hkey d hm').1.1,(hkey d hm').1.2.1,lay_mem hlay d hm',(hkey d hm').1.2.2,bs,rd⟩
 .refine Calls.spliced_nil ?_
  have I2:Inv X pins σ H1 {s1 with heap:=h',toks:=tk}:=I1.kept hk
  obtain⟨_,_,_,_,_,_,_,_,_,_,nd,_⟩:=id hS
  have sub:∀d∈ds',d∈ds:=λd hd=>(hmem d).mp hd
  refine sorted_set_data I2 (λv d hg=>by
   obtain⟨i,g1,g2⟩:=hg
   obtain⟨x,x1,x2⟩:=hds.get g2
   obtain⟨u,u1,u2⟩:=rv.get x1
   have:u=v:=by rw[u1]at g1;cases g1;rfl
   subst this
   exact⟨x,u2,x2⟩) hc hS (by omega) (sortsAs_E (B:=X.A) hu rfl (λd hd=>hkey d (sub d hd)) (hcmp.sub sub)) λes l ys pe ue hl re=>?_
  have ee:es=sortE ds':=by
   refine up_uniq (pe.trans (mh ds').symm) ((hcmp.sub sub).sub λx hx=>pe.mem_iff.mp hx) (fv (λ{a b} ha hb hab=>?_) ue) (sortE_up ds')
   rw[pj (hcmp.1 _ (sub _ (pe.mem_iff.mp hb)) _ (sub _ (pe.mem_iff.mp ha)))]at hab
   exact of_decide_eq_false hab
  rw[ee]at re
  exact q ds' l ys nd hmem hl re
end
section
variable{X:Cx}
noncomputable def rAny:List V->Hp->VK->Prop:=λxs H Q=>∃(p:Addr) (bs:List Bool),xs=[.ref p]/\H p=some (.lst (bs.map V.bl))/\Q (.bl (bs.any id)) H
theorem range_any:∀(bs:List Bool),((cx bs.length).any λi=>(bs[i]?).getD true)=bs.any id:=λbs=>by
 rw[fg,List.any_eq_true,List.any_eq_true]
 constructor
 .rintro⟨i,hi,h⟩
  have hi':i<bs.length:=by simpa using hi
  exact⟨bs[i],df hi',by simpa [hi']using h⟩
 .rintro⟨b,hb,h⟩
  obtain⟨i,hi,rfl⟩:=List.mem_iff_getElem.mp hb
  exact⟨i,by simpa using hi,by simpa [hi]using h⟩
theorem call_any(hc:X.calm=true):CallR X (.builtin "any") rAny:=by
 intro pins s σ H xs us Q I r h
 obtain⟨p,bs,rfl,hp,q⟩:=h
 obtain⟨u,rfl,r1⟩:=vals1 r
 cases (show u=Value.ref p from r1)
 obtain⟨its,rv,pl,hz⟩:=I.list (SqL.of (K:=X.K) hp)
 have hlt:p<s.heap.objs.size:=by obtain⟨_,_,e,_⟩:=pl;exact a9 e
 have hlen:its.length=bs.length:=by rw[<-rv.length,aj]
 refine call_any_walk (wpAny_pyIter_list pl.isList ?_)
 refine⟨s.heap.objs.size,[s.heap.objs.size,p],[s.heap.objs.size],its.toArray.size,_,_,λi=>(bs[i]?).getD true,rfl,Walks.list (A:=X.A.in1) (I.ok.hd hc) _ p (cc hlt) its.toArray,
  ⟨⟨_,ay _ rfl,rfl,rfl⟩,pl.isList.push _⟩,λi v s' Q' E' hP hQ=>?_,λh' tk hk=>?_⟩
 .have hi:its[i]?=some v:=by simpa using hP
  have hi2:i<bs.length:=by rw[<-hlen];exact(ak.mp hi).1
  obtain⟨u',e1,e2⟩:=rv.get (i:=i) (x:=.bl bs[i]) (by rw[be,ab hi2];rfl)
  rw[hi]at e1;cases e1
  cases (show v=Value.bool bs[i]from e2)
  have hQ2:Q' ((bs[i]?).getD true) s':=hQ
  rw[ab hi2]at hQ2
  exact f8 hQ2
 .refine(x_EE (.bl _) H ⟨I.kept (λb o e=>hk b o (λhm=>?_) (ai _ e)),rfl,?_⟩)
  .rw[ba.mp hm]at e
   exact iw _ (a9 e)
  .rw[az,hlen,range_any]
   exact q
theorem mt_lower:MtR X "str.lower" (λx vs H Q=>∃c:Nat,x=.str ⟨#[c]⟩/\vs=[]/\c<128/\Q (.str ⟨#[lo1 c]⟩) H):=by
 intro pins s σ H x vs v us Q I rx rv h
 obtain⟨c,rfl,rfl,hc,q⟩:=h
 obtain⟨t,rfl⟩:=rx
 have hus:=rv.zero
 subst hus
 refine SC.lower (fit_lower (by show 1<=5592405;omega)) (x_EE (.str _) H ⟨I.tok _,⟨_,rfl⟩,?_⟩)
 rw[lower_ascii (λd hd=>by have e:d=c:=by simpa using hd
                           omega)]
 simpa using q
end
end L3
namespace HT
open PySem PyProof.Rows
section
variable{prog:Program}{w:World}{A:Around}{E:Value->Shared->Prop}{s:Shared}
theorem getItem_tuple_all{t sl:Addr}{items:Array Value}{vl vu:Value}{lo hi:Option Int}{Q:Value->Shared->Prop}(ht:IsTup s.heap t items)(hs:s.heap.IsSliceOf sl vl vu .none)(pl:IsPart vl lo)(pu:IsPart vu hi)
  (hw:sIx items.size 0 lo=0/\sIx items.size items.size hi=items.size) (h:Q (.ref t) s):wpAny (model prog w) A (getItem (.ref t) (.ref sl)) Q E s:=by
 obtain⟨os,hos,hcs,hds⟩:=id hs
 have hTs:s.TypeIs (.ref sl) "slice":=⟨os,hos,hcs⟩
 unfold getItem
 try with_reducible refine ei ?_
 first|refine aa (af ?_)|skip
 refine aa (wpAny_sequenceKey ht.typeIs (by decide) ?_)
 refine aa (b8 (name:=bq "__getitem__") ht.typeIs f9
  (b9 f9 ht.typeIs entry_tuple_getitem ?_ (args_tuple_getitem _ _)))
 show wpAny _ _ (Builtin.Tuple.tupleItemsOf (.ref t) >>= _) _ _ s
 refine aa (tupleItemsOf_ ht ?_)
 refine aa (wpAny_typeOf hTs ?_)
 rw[if_pos (by decide)]
 refine aa (sliceApplied_gen hs pl pu ?_)
 have hyes:(((sIx items.size 0 lo:Nat):Int)==0&&(1:Int)==1&&(sIx items.size items.size hi-sIx items.size 0 lo)==items.size)=true:=by
  rw[hw.1,hw.2]
  simp
 show wpAny _ _ (if (((sIx items.size 0 lo:Nat):Int)==0&&(1:Int)==1&&(sIx items.size items.size hi-sIx items.size 0 lo)==items.size)=true then _ else _) _ _ s
 rw[if_pos hyes]
 refine aa (m:=Builtin.Tuple.tupleIsExact _) ?_
 unfold Builtin.Tuple.tupleIsExact
 refine aa (wpAny_typeOf ht.typeIs (af ?_))
 rw[if_pos (by decide)]
 exact aa (jh (af ⟨_,rfl,af h⟩))
end
end HT
namespace L3
open PySem PySem.Spec PyProof.Rows L2
section
variable{X:Cx}
noncomputable def rSlT2(K:aq):V->Option Int->Option Int->Hp->VK->Prop:=λx lo hi H Q=>∃a xs,x=.ref a/\SqT K H a xs/\
 ((HT.sIx xs.length 0 lo=0/\HT.sIx xs.length xs.length hi=xs.length)->Q (.ref a) H)/\(¬(HT.sIx xs.length 0 lo=0/\HT.sIx xs.length xs.length hi=xs.length)->∀p,H p=none->Q (.ref p) (upd H p (.tup (cutV xs lo hi))))
theorem sl_tup2:SlR X (rSlT2 X.K):=by
 intro pins s σ H x v vl vu lo hi sl Q I rx hs pl pu h
 obtain⟨a,xs,rfl,hx,q1,q2⟩:=h
 by_cases hw:HT.sIx xs.length 0 lo=0/\HT.sIx xs.length xs.length hi=xs.length
 .cases rx
  obtain⟨its,r,ht,hz⟩:=I.tuple hx
  have hlen:its.toArray.size=xs.length:=by rw[az];exact r.length.symm
  refine(x_EE ("tuple") _ ⟨f9.lookup,ht.typeIs,?_⟩)
  exact HT.getItem_tuple_all ht hs pl pu (by rw[hlen];exact hw) (x_EE (.ref a) H ⟨I,rfl,q1 hw⟩)
 .exact sl_tup pins s σ H _ v vl vu lo hi sl Q I rx hs pl pu (x_EE a xs ⟨rfl,hx,hw,q2 hw⟩)
noncomputable def rNeE:R2:=λx y H Q=>∃(p q:Addr) (xs:List V),x=.ref p/\y=.ref q/\H p=some (.lst xs)/\H q=some (.lst [])/\Q (.bl (!xs.isEmpty)) H
theorem op_neE(hu:X.A.units+64<cLine):OpR X (compareOp .NotEq) rNeE:=by
 intro pins s σ H x y v u Q I rx ry h
 obtain⟨p,q',xs,rfl,rfl,hp,hq,q⟩:=h
 cases rx
 cases ry
 obtain⟨its,r1,l1,_⟩:=I.list (SqL.of (K:=X.K) hp)
 obtain⟨its2,r2,l2,_⟩:=I.list (SqL.of (K:=X.K) hq)
 have e2:its2=[]:=jq.mp r2.length.symm
 subst e2
 have hl:=r1.length
 cases xs with
 | nil=>
  have e1:its=[]:=jq.mp r1.length.symm
  subst e1
  exact SeqAt.RcNeAt.lists (e:=λ_=>true) l1.isList l2.isList rfl (by omega) (λj h1 h2=>absurd h1 (by simp)) X.prog X.w X.xe _ (x_EE (.bl _) H ⟨I,rfl,q⟩)
 | cons x t=>
  refine SeqAt.RcNeAt.lists_lengths l1.isList l2.isList ?_ (by omega) X.prog X.w X.xe _ (x_EE (.bl _) H ⟨I,rfl,q⟩)
  rw[az,<-hl]
  simp
end
end L3
namespace L3
open PySem PySem.Spec PyProof.Rows L2
end L3
namespace L3
open PySem PyProof.Rows L2
theorem len_z{P:List Value->Prop}(h:P []):∀us:List Value,us.length=0->P us:=λus e=>by cases us with|nil=>exact h|cons a t=>cases e
theorem len_s{P:List Value->Prop}{n:Nat}(h:∀a (t:List Value),t.length=n->P (a::t)):∀us:List Value,us.length=n+1->P us:=λus e=>by cases us with|nil=>cases e|cons a t=>exact h a t (Nat.succ.inj e)
theorem len_1{P:List Value->Prop}(h:∀a,P [a]):∀us:List Value,us.length=1->P us:=len_s (n:=0) λa=>len_z (P:=λt=>P (a::t)) (h a)
theorem len_2{P:List Value->Prop}(h:∀a b,P [a,b]):∀us:List Value,us.length=2->P us:=len_s (n:=1) λa=>len_1 (P:=λt=>P (a::t)) (h a)
theorem len_3{P:List Value->Prop}(h:∀a b c,P [a,b,c]):∀us:List Value,us.length=3->P us:=len_s (n:=2) λa=>len_2 (P:=λt=>P (a::t)) (h a)
noncomputable def Df(K:aq)(n:Str)(st:Stmt):Prop:=∃f fd,dz K mainGlobals n=some (some (.ref f))/\Fun K n n st f fd
theorem df_mk{K:aq}{n:Str}{st:Stmt}{f:Addr}{oc:Value}{od an:Option Addr}{sl:Array (Option Value)}{kV dc pm cd ct:Value}(a:dz K mainGlobals n=some (some (.ref f)))
  (l:K.lookup f=some ⟨oc,od,.func (jz n n (defArgs st) (defBody st) (kq st) .none kV dc pm an cd ct),sl⟩) (c:PySem.W.codeIn K cd n=true) (k:PySem.W.keepIn K (.ref f)=true):Df K n st:=(x_EE f _ ⟨a,fun_mk l c k⟩)
theorem Df.fn{P:Program}{w:World}{K:aq}{h base:Heap}{mg:Str->Option Value}{n:Str}{st:Stmt}{d:Nat}{ps:List Str}{sp:Sp}(D:Df K n st)(X:K.In h)(G:h.Ns mainGlobals mg)(ok:∀{f fd},Fun K n n st f fd->FnOk P w K mg base CX0 d f fd ps sp)
  (b:∀(kV doc pm:Value) (an:Option Addr) (cdv ct:Value) (us:List Value),us.length=ps.length->bindArgs (jz n n (defArgs st) (defBody st) (kq st) .none kV doc pm an cdv ct) ⟨us,[]⟩=pure (ps.zip us):=by
   intro _ _ _ _ _ _
   first
   | exact len_1 (λ_=>rfl)
   | exact len_2 (λ_ _=>rfl)
   | exact len_3 (λ_ _ _=>rfl)
   | exact len_4 (λ_ _ _ _=>rfl)):Fn P w K mg base n d ps sp:=by
 obtain⟨f,fd,a,F⟩:=D
 exact(x_EE f fd ⟨ok F,PySem.W.mg_of X G a,F.kp,F.binds b⟩)
end L3
namespace K41
open PySem PyProof.Rows L2 L3
noncomputable def top(i:Nat):Stmt:=PySem.Challenge.pw_coverpieces_k41_going.main.body.getD i (.Pass ⟨0,0,0,0⟩)
noncomputable abbrev sBig:Stmt:=top 1
noncomputable abbrev sSmall:Stmt:=top 2
noncomputable abbrev sTd:Stmt:=top 5
noncomputable abbrev sMir:Stmt:=top 6
noncomputable abbrev sTr:Stmt:=top 7
noncomputable abbrev sForms:Stmt:=top 8
noncomputable abbrev sAt:Stmt:=top 11
noncomputable abbrev sOpen:Stmt:=top 12
noncomputable abbrev sWant:Stmt:=top 13
noncomputable abbrev sSpots:Stmt:=top 14
noncomputable abbrev sAro:Stmt:=top 16
noncomputable abbrev sPlc:Stmt:=top 18
noncomputable abbrev sPla:Stmt:=top 19
noncomputable abbrev sShf:Stmt:=top 20
noncomputable abbrev sMay:Stmt:=top 21
noncomputable abbrev sMcv:Stmt:=top 22
noncomputable abbrev sGo:Stmt:=top 24
noncomputable abbrev sWr:Stmt:=top 25
noncomputable abbrev sGb:Stmt:=top 26
noncomputable abbrev sBar:Stmt:=top 27
noncomputable abbrev sSa:Stmt:=top 28
noncomputable abbrev sHb:Stmt:=top 29
noncomputable abbrev sNext:Stmt:=top 31
noncomputable abbrev sSeed:Stmt:=top 32
noncomputable abbrev sTou:Stmt:=top 33
noncomputable abbrev sPut:Stmt:=top 34
noncomputable abbrev sForm:Stmt:=top 35
noncomputable abbrev sFloor:Stmt:=top 36
noncomputable abbrev sLpz:Stmt:=top 37
noncomputable abbrev sLt:Stmt:=top 38
noncomputable abbrev sFits:Stmt:=top 39
noncomputable abbrev sLpl:Stmt:=top 40
noncomputable abbrev sCla:Stmt:=top 41
noncomputable abbrev sMany:Stmt:=top 42
noncomputable abbrev sGoes:Stmt:=top 43
noncomputable abbrev sLaw:Stmt:=top 44
noncomputable def blts:List Str:=["len","min","max","sorted","tuple","list","isinstance","bool","range","str","int","enumerate","all","any","set","abs"]
section
variable{P:Program}{w:World}{K:aq}{mg:Str->Option Value}{base:Heap}{f:Addr}{fd:FuncData}
noncomputable def spMap(g:List PyData->List PyData):Sp:=λvs H Q _=>∃(a:Addr) (xs:List V) (ds:List PyData),vs=[.ref a]/\H a=some (.lst xs)/\RepAll H ds xs/\Spots ds/\0<ds.length/\ds.length<=64/\
 ∀(D:Addr) (ys:List V) (H':Hp),Same H H'->H' D=some (.lst ys)->RepAll H' (g ds) ys->Q (.ref D) H'
theorem scMir:ky ["spots","last"] ["spots"] (kq sMir):=⟨rfl,rfl,rfl,by decide +kernel,rfl,by decide +kernel,by decide +kernel⟩
theorem scTr:ky ["spots","last"] ["spots"] (kq sTr):=⟨rfl,rfl,rfl,by decide +kernel,rfl,by decide +kernel,by decide +kernel⟩
theorem hmir(m:Int)(r c:Int)(z:Str)(H':Hp)(Q':VK)(h:∃u v:Int,mir1 m (.tuple [.int r,.int c,.str z])=.tuple [.int u,.int v,.str z]/\∀n,H' n=none->Q' (.ref n) (upd H' n (.tup [.int u,.int v,.str z]))) :
  tTup (tCons (tVar 0) (tCons (tOp (rI0 λi j=>.int (i-j)) (tVar 3) (tVar 1)) (tCons (tVar 2) tNil))) [some (.int r),some (.int c),some (.str z),some (.int m)] H' Q':=by
 obtain⟨u,v,e,q⟩:=h
 cases (show PyData.tuple [.int r,.int (m-c),.str z]=.tuple [.int u,.int v,.str z]from e)
 exact⟨_,rfl,_,rfl,_,rfl,_,_,rfl,rfl,_,rfl,(by show 3<=sizeLine;decide),q⟩
theorem htur(m:Int)(r c:Int)(z:Str)(H':Hp)(Q':VK)(h:∃u v:Int,tur1 m (.tuple [.int r,.int c,.str z])=.tuple [.int u,.int v,.str z]/\∀n,H' n=none->Q' (.ref n) (upd H' n (.tup [.int u,.int v,.str z]))) :
  tTup (tCons (tVar 1) (tCons (tOp (rI0 λi j=>.int (i-j)) (tVar 3) (tVar 0)) (tCons (tVar 2) tNil))) [some (.int r),some (.int c),some (.str z),some (.int m)] H' Q':=by
 obtain⟨u,v,e,q⟩:=h
 cases (show PyData.tuple [.int c,.int (m-r),.str z]=.tuple [.int u,.int v,.str z]from e)
 exact⟨_,rfl,_,rfl,_,rfl,_,_,rfl,rfl,_,rfl,(by show 3<=sizeLine;decide),q⟩
theorem ok_mir(B:∀x∈blts,mg x=none)(F:Fun K "mirrored" "mirrored" sMir f fd):FnOk P w K mg base CX0 1 f fd ["spots"] (spMap mirD):=by
 refine F.ok (k:=0) scMir (λvs H Q E h=>?_) (λcdv A outer s H vs Q E hr h=>?_)
 .obtain⟨a,xs,ds,rfl,_⟩:=h
  rfl
 obtain⟨a,xs,ds,rfl,ha,hrep,hs,hpos,h64,q⟩:=h
 refine⟨_,(kc (k6 (i:=1) scMir.nd rfl (Or.inr rfl) (pe_maxD rfl rfl (B "max" (by decide)) (pa_c (lj ["spot"] [none] rfl rfl (by decide +kernel) (by decide +kernel) rfl rfl (lm (pv 0)) (λ_=>(ke (i:=0) (show(["spot"]:List PySem.Str).Nodup by decide +kernel) rfl (Or.inl rfl))) (λ_=>me) (λ_=>(pe_ix ph (pv 0) kg (λ_ _=>rfl)))) kb) (pk_cons kg pk_nil)))
  (km (k7 (lj ["row","column","sign","last"] [none,none,none,some 1] rfl rfl (by decide +kernel) (by decide +kernel) rfl rfl (lm (pv 0)) (λ_=>(oe (n:=3) rfl (kj (ke (i:=0) (show(["row","column","sign","last"]:List PySem.Str).Nodup by decide +kernel) rfl (Or.inl rfl)) (kj (ke (i:=1) (show(["row","column","sign","last"]:List PySem.Str).Nodup by decide +kernel) rfl (Or.inl rfl)) (kj (ke (i:=2) (show(["row","column","sign","last"]:List PySem.Str).Nodup by decide +kernel) rfl (Or.inl rfl)) lq))))) (λ_=>me) (λ_=>(lc (pa_c (pv 0) (pa_c (pe_op op_sub (pv 3) (pv 1)) (pa_c (pv 2) kb))))))))),?_⟩
 refine read_projI 1 col1 col_at rfl ha hrep hs h64 λD1 H1 s1 hD1=>?_
 refine⟨rfl,D1,_,rfl,hD1,by rw[aj];exact hpos,λM1 m1 m1'=>?_⟩
 have em:=maxI_eq m1 m1'
 refine read_each mir1 rfl rfl (s1 _ _ ha) (hrep.same s1) hs h64 (hmir M1) (λD ys H' hD s2 hDy rep=>q D ys H' (s1.trans s2) hDy (by unfold mirD;rw[<-em];exact rep)) (λr c z=>⟨_,_,rfl⟩)
theorem ok_tr(B:∀x∈blts,mg x=none)(F:Fun K "turned_right" "turned_right" sTr f fd):FnOk P w K mg base CX0 1 f fd ["spots"] (spMap turD):=by
 refine F.ok (k:=0) scTr (λvs H Q E h=>?_) (λcdv A outer s H vs Q E hr h=>?_)
 .obtain⟨a,xs,ds,rfl,_⟩:=h
  rfl
 obtain⟨a,xs,ds,rfl,ha,hrep,hs,hpos,h64,q⟩:=h
 refine⟨_,(kc (k6 (i:=1) scTr.nd rfl (Or.inr rfl) (pe_maxD rfl rfl (B "max" (by decide)) (pa_c (lj ["spot"] [none] rfl rfl (by decide +kernel) (by decide +kernel) rfl rfl (lm (pv 0)) (λ_=>(ke (i:=0) (show(["spot"]:List PySem.Str).Nodup by decide +kernel) rfl (Or.inl rfl))) (λ_=>me) (λ_=>(pe_ix ph (pv 0) kg (λ_ _=>rfl)))) kb) (pk_cons kg pk_nil)))
  (km (k7 (lj ["row","column","sign","last"] [none,none,none,some 1] rfl rfl (by decide +kernel) (by decide +kernel) rfl rfl (lm (pv 0)) (λ_=>(oe (n:=3) rfl (kj (ke (i:=0) (show(["row","column","sign","last"]:List PySem.Str).Nodup by decide +kernel) rfl (Or.inl rfl)) (kj (ke (i:=1) (show(["row","column","sign","last"]:List PySem.Str).Nodup by decide +kernel) rfl (Or.inl rfl)) (kj (ke (i:=2) (show(["row","column","sign","last"]:List PySem.Str).Nodup by decide +kernel) rfl (Or.inl rfl)) lq))))) (λ_=>me) (λ_=>(lc (pa_c (pv 1) (pa_c (pe_op op_sub (pv 3) (pv 0)) (pa_c (pv 2) kb))))))))),?_⟩
 refine read_projI 0 row1 row_at rfl ha hrep hs h64 λD1 H1 s1 hD1=>?_
 refine⟨rfl,D1,_,rfl,hD1,by rw[aj];exact hpos,λM1 m1 m1'=>?_⟩
 have em:=maxI_eq m1 m1'
 refine read_each tur1 rfl rfl (s1 _ _ ha) (hrep.same s1) hs h64 (htur M1) (λD ys H' hD s2 hDy rep=>q D ys H' (s1.trans s2) hDy (by unfold turD;rw[<-em];exact rep)) (λr c z=>⟨_,_,rfl⟩)
end
noncomputable def iter(i:Nat)(ds:List PyData):List PyData:=(cx i).foldl (λa _=>turD a) ds
theorem iter_succ(i:Nat)(ds:List PyData):iter (i+1) ds=turD (iter i ds):=by
 unfold iter
 rw[jk,List.foldl_append]
 rfl
section
variable{P:Program}{w:World}{K:aq}{mg:Str->Option Value}{base:Heap}{f:Addr}{fd:FuncData}
noncomputable def spTd:Sp:=λvs H Q _=>∃(a:Addr) (t:Nat) (xs:List V) (ds:List PyData),vs=[.ref a,.int (t:Nat)]/\(H a=some (.lst xs)\/H a=some (.tup xs))/\RepAll H ds xs/\Spots ds/\0<ds.length/\ds.length<=64/\t<8/\
 ∀(r:Addr) (H':Hp) (es:List PyData),Same H H'->es.Perm (spotsD t ds)->es.Pairwise (λx y=>ltR y x=false)->Rep H' (.tuple es) (.ref r)->Q (.ref r) H'
theorem scTd:ky ["form","t","spots","step"] ["form","t"] (kq sTd):=⟨rfl,rfl,rfl,by decide +kernel,rfl,by decide +kernel,by decide +kernel⟩
theorem ok_td(B:∀x∈blts,mg x=none)(Fmir:Fn P w K mg base "mirrored" 1 ["spots"] (spMap mirD))(Ftr:Fn P w K mg base "turned_right" 1 ["spots"] (spMap turD))(F:Fun K "turned" "turned" sTd f fd):FnOk P w K mg base CX0 2 f fd ["form","t"] spTd:=by
 refine F.ok (k:=1) scTd (λvs H Q E h=>?_) (λcdv A outer s H vs Q E hr h=>?_)
 .obtain⟨a,t,xs,ds,rfl,_⟩:=h
  rfl
 obtain⟨a,t,ys,ds,rfl,ha,rep0,hs0,hpos,h64,ht,q⟩:=h
 refine⟨_,(kc (k6 (i:=2) scTd.nd rfl (Or.inl rfl) (pe_cT call_list_of rfl (B "list" (by decide)) boot_list (pa_c (pv 0) kb)))
  (kc (ps_if (l7 op_ge (pv 1) kg (m9 _)) (km (k6 (i:=2) scTd.nd rfl (Or.inl rfl) (pe_fn Fmir hr (by decide) rfl (pa_c (pv 2) kb)))) ni)
  (kc (m7 b7 rfl (pi_r1 rfl (B "range" (by decide)) (pa_c (pe_op op_mod (pv 1) kg) kb)) (ke (i:=3) scTd.nd rfl (Or.inl rfl)) (km (k6 (i:=2) scTd.nd rfl (Or.inl rfl) (pe_fn Ftr hr (by decide) rfl (pa_c (pv 2) kb)))))
  (km (k7 (pe_cT mw rfl (B "tuple" (by decide)) boot_tuple (pa_c (pe_cB call_sortedN rfl (B "sorted" (by decide)) boot_sorted (pa_c (pv 2) kb)) kb))))))),?_⟩
 refine⟨_,rfl,a,ys,rfl,ha.imp SqL.of SqT.of,λD hD0=>?_⟩
 have sm:Same H (upd H D (.lst ys)):=Same.fresh _ hD0
 have hDy:upd H D (.lst ys) D=some (.lst ys):=kh
 have rep:=rep0.same sm
 generalize upd H D (.lst ys)=H2 at *
 refine⟨_,rfl,_,_,rfl,rfl,_,rfl,?_⟩
 refine ite2 (λh4=>?ga) (λh4=>?gb)
 case' ga=>
  have h4':4<=t:=by have:(t:Int)>=4:=of_decide_eq_true h4
                    omega
  refine⟨_,rfl,D,ys,ds,rfl,hDy,rep,hs0,hpos,h64,λD ys H3 s3 hDy rep=>?_⟩
  replace sm:=sm.trans s3
  obtain⟨ds1,e1⟩:∃d,d=(if 4<=t then mirD ds else ds):=⟨_,rfl⟩
  have e2:ds1=mirD ds:=by rw[e1,if_pos h4']
  rw[<-e2]at rep
  have sp1:Spots ds1:=by rw[e2];exact mir_spots hs0 _
  have l1:ds1.length=ds.length:=by rw[e2];simp[mirD]
  generalize H3=H2 at *
 case' gb=>
  have h4':¬4<=t:=by have:¬(t:Int)>=4:=by simpa using h4
                     omega
  obtain⟨ds1,e1⟩:∃d,d=(if 4<=t then mirD ds else ds):=⟨_,rfl⟩
  have e2:ds1=ds:=by rw[e1,if_neg h4']
  rw[<-e2]at rep
  have sp1:Spots ds1:=by rw[e2];exact hs0
  have l1:ds1.length=ds.length:=by rw[e2]
 all_goals
  refine⟨_,rfl,_,_,rfl,rfl,(by show(0:Int)<4;decide),_,rfl,by omega,by omega,?_⟩
  refine oj (lo:=0) (λi σ' H'=>∃(y3:Option V) (D:Addr) (ys:List V),σ'=[some (.ref a),some (.int (t:Nat)),some (.ref D),y3]/\Same H H'/\H' D=some (.lst ys)/\RepAll H' (iter i ds1) ys/\Spots (iter i ds1)/\(iter i ds1).length=ds.length) ?_ (λi σ' H' hi h=>?_) (λσ' H' h=>?_)
  .exact⟨_,D,ys,rfl,sm,hDy,rep,sp1,l1⟩
  .obtain⟨y3,D,ys,rfl,sm,hDy,rep,sp,hl⟩:=h
   refine⟨_,rfl,D,ys,_,rfl,hDy,rep,sp,by omega,by omega,λD2 ys2 H3 s3 hD3 rep3=>?_⟩
   refine⟨_,D2,ys2,rfl,sm.trans s3,hD3,by rw[iter_succ];exact rep3,by rw[iter_succ];exact tur_spots sp _,by rw[iter_succ];simp[turD,hl]⟩
  .obtain⟨y3,D,ys,rfl,sm,hDy,rep,sp,hl⟩:=h
   have et:(((t:Nat):Int) % 4).toNat=t % 4:=by omega
   rw[et]at rep sp hl
   refine⟨_,rfl,D,ys,_,[true,false],rfl,hDy,rep,spots_rows sp,λl zs es hl1 pe ue hz=>?_⟩
   refine⟨l,zs,rfl,.inl ⟨SqL.of kh,λl2 hl2=>?_⟩⟩
   have s1:Same H' (upd H' l (.lst zs)):=Same.fresh _ hl1
   have s2:Same (upd H' l (.lst zs)) (upd (upd H' l (.lst zs)) l2 (.tup zs)):=Same.fresh _ hl2
   refine q l2 _ es ((sm.trans s1).trans s2) ?_ ue ⟨l2,zs,rfl,kh,hz.same s2⟩
   rw[show spotsD t ds=iter (t % 4) ds1 by rw[e1];rfl]
   exact pe
end
end K41
namespace L3
open PySem PySem.Spec PyProof.Rows L2
noncomputable def cl(d:PyData):Int×Int:=(row1 d,col1 d)
noncomputable def SgD(d:PyData):Prop:=∃(r c:Int) (k:Nat),d=.tuple [.int r,.int c,.str ⟨#[k]⟩]/\65<=k/\k<=90
structure Pre(ds:List PyData):Prop where
 sg:∀d∈ds,SgD d
 pos:0<ds.length
 six:ds.length<=6
 nd:(ds.map cl).Nodup
structure Zr(ds:List PyData):Prop where
 pre:Pre ds
 r0:minI (ds.map row1)=0
 c0:minI (ds.map col1)=0
theorem Pre.spots{ds:List PyData}(h:Pre ds):Spots ds:=λd hd=>by
 obtain⟨r,c,k,e,_⟩:=h.sg d hd
 exact(x_EEE r c _ e)
theorem Pre.map{ds:List PyData}(h:Pre ds){f:PyData->PyData}{g:Int×Int->Int×Int}(hf:∀d,SgD d->SgD (f d)/\cl (f d)=g (cl d))(hi:∀a b,g a=g b->a=b):Pre (ds.map f):=by
 have e:(ds.map f).map cl=(ds.map cl).map g:=by
  rw[bp,bp]
  exact fc λd hd=>(hf d (h.sg d hd)).2
 refine⟨λd hd=>?_,by rw[aj];exact h.pos,by rw[aj];exact h.six,?_⟩
 .obtain⟨x,hx,rfl⟩:=bi.mp hd
  exact(hf x (h.sg x hx)).1
 .rw[e]
  exact List.Pairwise.map g (λa b hab z=>hab (hi a b z)) h.nd
theorem Pre.perm{ds es:List PyData}(h:Pre ds)(p:es.Perm ds):Pre es:=
 ⟨λd hd=>h.sg d (p.mem_iff.mp hd),by rw[p.length_eq];exact h.pos,by rw[p.length_eq];exact h.six,(p.map cl).nodup_iff.mpr h.nd⟩
theorem min_perm{ns ms:List Int}(p:ns.Perm ms)(h:0<ns.length):minI ns=minI ms:=
 minI_eq (p.mem_iff.mp (minI_mem h)) λa ha=>minI_le a (p.mem_iff.mpr ha)
theorem Zr.perm{ds es:List PyData}(h:Zr ds)(p:es.Perm ds):Zr es:=by
 have hp:=h.pre.perm p
 exact⟨hp,(min_perm (p.map row1) (by rw[aj];exact hp.pos)).trans h.r0,(min_perm (p.map col1) (by rw[aj];exact hp.pos)).trans h.c0⟩
theorem sgd_mir{d:PyData}(m:Int)(h:SgD d):SgD (mir1 m d)/\cl (mir1 m d)=((cl d).1,m-(cl d).2):=by
 obtain⟨r,c,k,rfl,h1,h2⟩:=h
 exact⟨(x_EEE r (m-c) k ⟨rfl,h1,h2⟩),rfl⟩
theorem sgd_tur{d:PyData}(m:Int)(h:SgD d):SgD (tur1 m d)/\cl (tur1 m d)=((cl d).2,m-(cl d).1):=by
 obtain⟨r,c,k,rfl,h1,h2⟩:=h
 exact⟨(x_EEE c (m-r) k ⟨rfl,h1,h2⟩),rfl⟩
theorem sgd_shift{d:PyData}(a b:Int)(h:SgD d):SgD (shift1 a b d)/\cl (shift1 a b d)=((cl d).1-a,(cl d).2-b):=by
 obtain⟨r,c,k,rfl,h1,h2⟩:=h
 exact⟨(x_EEE (r-a) (c-b) k ⟨rfl,h1,h2⟩),rfl⟩
theorem row_cl(d:PyData):row1 d=(cl d).1:=rfl
theorem col_cl(d:PyData):col1 d=(cl d).2:=rfl
theorem min_flip{ns:List Int}(h:0<ns.length):minI (ns.map λx=>maxI ns-x)=0:=by
 refine(minI_eq ?_ λa ha=>?_).symm
 .exact bi.mpr ⟨maxI ns,maxI_mem h,by omega⟩
 .obtain⟨x,hx,rfl⟩:=bi.mp ha
  have:=le_maxI x hx
  omega
theorem min_sub{ns:List Int}(h:0<ns.length):minI (ns.map λx=>x-minI ns)=0:=by
 refine(minI_eq ?_ λa ha=>?_).symm
 .exact bi.mpr ⟨minI ns,minI_mem h,by omega⟩
 .obtain⟨x,hx,rfl⟩:=bi.mp ha
  have:=minI_le x hx
  omega
theorem Zr.mir{ds:List PyData}(h:Zr ds):Zr (mirD ds):=by
 have hp:Pre (mirD ds):=h.pre.map (g:=λa=>(a.1,maxI (ds.map col1)-a.2)) (λd hd=>sgd_mir _ hd) (λa b e=>by
  injection e with e1 e2
  exact Prod.ext e1 (by omega))
 refine⟨hp,?_,?_⟩
 .rw[show(mirD ds).map row1=ds.map row1 by
   unfold mirD
   rw[bp]
   exact fc λd hd=>by rw[Function.comp,row_cl,(sgd_mir _ (h.pre.sg d hd)).2];rfl]
  exact h.r0
 .rw[show(mirD ds).map col1=(ds.map col1).map λx=>maxI (ds.map col1)-x by
   unfold mirD
   rw[bp,bp]
   exact fc λd hd=>by rw[Function.comp,col_cl,(sgd_mir _ (h.pre.sg d hd)).2];rfl]
  exact min_flip (by rw[aj];exact h.pre.pos)
theorem Zr.tur{ds:List PyData}(h:Zr ds):Zr (turD ds):=by
 have hp:Pre (turD ds):=h.pre.map (g:=λa=>(a.2,maxI (ds.map row1)-a.1)) (λd hd=>sgd_tur _ hd) (λa b e=>by
  injection e with e1 e2
  exact Prod.ext (by omega) e1)
 refine⟨hp,?_,?_⟩
 .rw[show(turD ds).map row1=ds.map col1 by
   unfold turD
   rw[bp]
   exact fc λd hd=>by rw[Function.comp,row_cl,(sgd_tur _ (h.pre.sg d hd)).2];rfl]
  exact h.c0
 .rw[show(turD ds).map col1=(ds.map row1).map λx=>maxI (ds.map row1)-x by
   unfold turD
   rw[bp,bp]
   exact fc λd hd=>by rw[Function.comp,col_cl,(sgd_tur _ (h.pre.sg d hd)).2];rfl]
  exact min_flip (by rw[aj];exact h.pre.pos)
theorem Zr.shift{ds:List PyData}(h:Pre ds):Zr (mx ds):=by
 have hp:Pre (mx ds):=h.map (g:=λa=>(a.1-minI (ds.map row1),a.2-minI (ds.map col1))) (λd hd=>sgd_shift _ _ hd) (λa b e=>by
  injection e with e1 e2
  exact Prod.ext (by omega) (by omega))
 refine⟨hp,?_,?_⟩
 .rw[show(mx ds).map row1=(ds.map row1).map λx=>x-minI (ds.map row1) by
   unfold mx
   rw[bp,bp]
   exact fc λd hd=>by rw[Function.comp,row_cl,(sgd_shift _ _ (h.sg d hd)).2];rfl]
  exact min_sub (by rw[aj];exact h.pos)
 .rw[show(mx ds).map col1=(ds.map col1).map λx=>x-minI (ds.map col1) by
   unfold mx
   rw[bp,bp]
   exact fc λd hd=>by rw[Function.comp,col_cl,(sgd_shift _ _ (h.sg d hd)).2];rfl]
  exact min_sub (by rw[aj];exact h.pos)
noncomputable def iterT(i:Nat)(ds:List PyData):List PyData:=(cx i).foldl (λa _=>turD a) ds
theorem iterT_succ(i:Nat)(ds:List PyData):iterT (i+1) ds=turD (iterT i ds):=by
 unfold iterT
 rw[jk,List.foldl_append]
 rfl
theorem Zr.iter{ds:List PyData}(h:Zr ds):∀i,Zr (iterT i ds)
 | 0=>h
 | i+1=>by rw[iterT_succ];exact(h.iter i).tur
theorem Zr.turned{ds:List PyData}(h:Zr ds)(t:Nat):Zr (spotsD t ds):=by
 show Zr (iterT (t % 4) (if 4<=t then mirD ds else ds))
 refine Zr.iter ?_ _
 split
 .exact h.mir
 .exact h
noncomputable def formD(es:List PyData)(t:Nat):PyData:=.tuple (sortD (spotsD t es))
noncomputable def k9(es:List PyData)(n:Nat):List PyData:=(cx n).map (formD es)
theorem mem_forms{es:List PyData}{n:Nat}{d:PyData}:d∈k9 es n↔∃t,t<n/\formD es t=d:=by simp[k9]
theorem sg_kd{d:PyData}(h:SgD d):kd d=true:=by
 obtain⟨r,c,k,rfl,_⟩:=h
 rfl
theorem sgs_kd:∀{ds:List PyData},(∀d∈ds,SgD d)->kdAll ds=true
 | [],_=>rfl
 | d::ds,h=>by
  show(kd d&&kdAll ds)=true
  rw[sg_kd (h d au),sgs_kd λe he=>h e (av _ he)]
  rfl
theorem sg_cmp{d e:PyData}(h:SgD d)(h':SgD e):Cmp d e:=by
 obtain⟨r,c,k,rfl,_⟩:=h
 obtain⟨r',c',k',rfl,_⟩:=h'
 exact⟨True.intro,True.intro,True.intro,True.intro⟩
theorem sgs_cmp:∀{ds es:List PyData},(∀d∈ds,SgD d)->(∀d∈es,SgD d)->CmpL ds es
 | [],_,_,_=>by unfold CmpL;exact True.intro
 | d::ds,[],_,_=>by unfold CmpL;exact True.intro
 | d::ds,e::es,h,h'=>⟨sg_cmp (h d au) (h' e au),sgs_cmp (λx hx=>h x (av _ hx)) λx hx=>h' x (av _ hx)⟩
theorem depth_spot{ds:List PyData}(h:Spots ds):bv ds<=2:=by
 induction ds with
 | nil=>simp[bv]
 | cons d t ih=>
  obtain⟨r,c,x,rfl⟩:=h d (by simp)
  have:=ih λe he=>h e (by simp[he])
  simp[bv,gu]
  omega
theorem o7{es:List PyData}(h:Zr es)(t:Nat):Zr (sortD (spotsD t es)):=(h.turned t).perm (o4 _)
theorem form_depth{es:List PyData}(h:Zr es)(t:Nat):(formD es t).depth<=3:=by
 have:=depth_spot (o7 h t).pre.spots
 unfold formD
 simp[gu]
 omega
theorem form_key{es:List PyData}(h:Zr es)(t:Nat):KeyD (formD es t)/\TT (formD es t):=by
 have hd:=form_depth h t
 refine⟨⟨sgs_kd (o7 h t).pre.sg,⟨_,rfl⟩,by omega⟩,?_⟩
 have hp:=(o7 h t).pre.pos
 have hs:=(o7 h t).pre.sg
 unfold formD
 cases e:sortD (spotsD t es)with
 | nil=>rw[e]at hp;exact absurd hp (by simp)
 | cons d ds=>
  rw[e]at hs
  obtain⟨r,c,k,rfl,_⟩:=hs d au
  exact(x_EE _ _ rfl)
theorem forms_key{es ds:List PyData}(h:Zr es)(hm:∀d∈ds,∃t,formD es t=d):∀d∈ds,KeyD d/\TT d:=λd hd=>by
 obtain⟨t,rfl⟩:=hm d hd
 exact form_key h t
theorem forms_cmp{es ds:List PyData}(h:Zr es)(hm:∀d∈ds,∃t,formD es t=d):CmpA ds:=
 ⟨λx hx y hy=>by
  obtain⟨t,rfl⟩:=hm x hx
  obtain⟨t',rfl⟩:=hm y hy
  exact sgs_cmp (o7 h t).pre.sg (o7 h t').pre.sg,λx hx=>by
  obtain⟨t,rfl⟩:=hm x hx
  exact(form_key h t).1.1⟩
theorem form_imm{es:List PyData}(h:Zr es)(t:Nat):imm (formD es t)=true:=Spots.imm (o7 h t).pre.spots
theorem forms_imm{es:List PyData}(h:Zr es):∀{ds:List PyData},(∀d∈ds,∃t,formD es t=d)->mf ds=true
 | [],_=>rfl
 | d::ds,hm=>by
  obtain⟨t,rfl⟩:=hm d au
  show(imm (formD es t)&&mf ds)=true
  rw[form_imm h t,forms_imm h λe he=>hm e (av _ he)]
  rfl
theorem forms_succ(es:List PyData)(n:Nat):k9 es (n+1)=k9 es n++[formD es n]:=by
 unfold k9
 rw[jk,cm]
 rfl
theorem og{es:List PyData}{n:Nat}:∀d∈k9 es n,∃t,formD es t=d:=λd hd=>by
 obtain⟨t,_,e⟩:=mem_forms.mp hd
 exact⟨t,e⟩
theorem Pre.strict{ds es:List PyData}(h:Pre ds)(p:es.Perm ds)(u:es.Pairwise λx y=>ltR y x=false):es.Pairwise lt2:=by
 have hp:=h.perm p
 have nd:es.Pairwise λx y=>cl x≠cl y:=fk.mp hp.nd
 refine fv (λ{a b} ha hb hab=>?_) (u.and nd)
 obtain⟨r,c,k,rfl,_⟩:=hp.sg a ha
 obtain⟨r',c',k',rfl,_⟩:=hp.sg b hb
 obtain⟨h1,h2⟩:=hab
 have h1':rowLt [.int r',.int c',.str ⟨#[k']⟩] [.int r,.int c,.str ⟨#[k]⟩]=false:=h1
 rw[rl_int,rl_int]at h1'
 show r<r'\/r=r'/\c<c'
 by_cases er:r'=r
 .rw[if_pos er]at h1'
  right
  refine⟨er.symm,?_⟩
  by_cases ec:c'=c
  .exfalso
   subst er;subst ec
   exact h2 rfl
  .rw[if_neg ec]at h1'
   have:=of_decide_eq_false h1'
   omega
 .rw[if_neg er]at h1'
  have:=of_decide_eq_false h1'
  left
  omega
theorem sortD_pair{ds:List PyData}(h:Spots ds):(sortD ds).Pairwise λx y=>ltR y x=false:=by
 rw[fj]
 intro i j hi hj hij
 exact sortD_up (spots_rows h) (ab hi) (ab hj) (ic hij)
theorem Pre.sorted{ds es:List PyData}(h:Pre ds)(p:es.Perm ds)(u:es.Pairwise λx y=>ltR y x=false):es=sortD ds:=
 strict_uniq lt2_asy (h.strict p u) (h.strict (o4 ds) (sortD_pair h.spots)) λz=>by rw[p.mem_iff,(o4 ds).mem_iff]
noncomputable def ng1:PyData->PyData
 | .tuple [.int r,.int c,.str x]=>.tuple [.int r,.int (-c),.str x]
 | d=>d
noncomputable def nt1:PyData->PyData
 | .tuple [.int r,.int c,.str x]=>.tuple [.int c,.int (-r),.str x]
 | d=>d
noncomputable def rawN(i:Nat)(ds:List PyData):List PyData:=(cx i).foldl (λa _=>a.map nt1) ds
noncomputable def rawT(t:Nat)(ds:List PyData):List PyData:=rawN (t % 4) (if 4<=t then ds.map ng1 else ds)
theorem rawN_succ(i:Nat)(ds:List PyData):rawN (i+1) ds=(rawN i ds).map nt1:=by
 unfold rawN
 rw[jk,List.foldl_append]
 rfl
theorem ng_spots{ds:List PyData}(h:Spots ds):Spots (ds.map ng1):=λd hd=>by
 obtain⟨x,hx,rfl⟩:=bi.mp hd
 obtain⟨r,c,z,rfl⟩:=h x hx
 exact(x_EEE _ _ _ rfl)
theorem nt_spots{ds:List PyData}(h:Spots ds):Spots (ds.map nt1):=λd hd=>by
 obtain⟨x,hx,rfl⟩:=bi.mp hd
 obtain⟨r,c,z,rfl⟩:=h x hx
 exact(x_EEE _ _ _ rfl)
theorem rawN_spots{ds:List PyData}(h:Spots ds):∀i,Spots (rawN i ds)
 | 0=>h
 | i+1=>by rw[rawN_succ];exact nt_spots (rawN_spots h i)
theorem rawN_len(ds:List PyData):∀i,(rawN i ds).length=ds.length
 | 0=>rfl
 | i+1=>by rw[rawN_succ,aj];exact rawN_len ds i
theorem max_sub{ns:List Int}(h:0<ns.length)(m:Int):maxI (ns.map λx=>x-m)=maxI ns-m:=by
 refine(maxI_eq ?_ λa ha=>?_).symm
 .exact bi.mpr ⟨maxI ns,maxI_mem h,rfl⟩
 .obtain⟨x,hx,rfl⟩:=bi.mp ha
  have:=le_maxI x hx
  omega
theorem min_neg{ns:List Int}(h:0<ns.length):minI (ns.map λx=>-x) = -maxI ns:=by
 refine(minI_eq ?_ λa ha=>?_).symm
 .exact bi.mpr ⟨maxI ns,maxI_mem h,rfl⟩
 .obtain⟨x,hx,rfl⟩:=bi.mp ha
  have:=le_maxI x hx
  omega
theorem my{α:Type}{ds:List PyData}(h:Spots ds){f g:PyData->α}(e:∀(r c:Int) (z:Str),f (.tuple [.int r,.int c,.str z])=g (.tuple [.int r,.int c,.str z])):ds.map f=ds.map g:=
 fc λd hd=>by
  obtain⟨r,c,z,rfl⟩:=h d hd
  exact e r c z
theorem tur_shift{X:List PyData}(h:Spots X)(hp:0<X.length):turD (mx X)=mx (X.map nt1):=by
 have r1:(mx X).map row1=(X.map row1).map λx=>x-minI (X.map row1):=by
  unfold mx
  rw[bp,bp]
  exact my h λr c z=>rfl
 have r2:(X.map nt1).map row1=X.map col1:=by
  rw[bp]
  exact my h λr c z=>rfl
 have c2:(X.map nt1).map col1=(X.map row1).map λx=>-x:=by
  rw[bp,bp]
  exact my h λr c z=>rfl
 have hp':0<(X.map row1).length:=by rw[aj];exact hp
 unfold turD
 rw[r1,max_sub hp']
 unfold mx
 rw[r2,c2,min_neg hp',bp,bp]
 refine my h λr c z=>?_
 show PyData.tuple [.int (c-minI (X.map col1)),.int (maxI (X.map row1)-minI (X.map row1)-(r-minI (X.map row1))),.str z]=.tuple [.int (c-minI (X.map col1)),.int (-r - -maxI (X.map row1)),.str z]
 rw[show maxI (X.map row1)-minI (X.map row1)-(r-minI (X.map row1)) = -r - -maxI (X.map row1) by omega]
theorem mir_shift{X:List PyData}(h:Spots X)(hp:0<X.length):mirD (mx X)=mx (X.map ng1):=by
 have r1:(mx X).map col1=(X.map col1).map λx=>x-minI (X.map col1):=by
  unfold mx
  rw[bp,bp]
  exact my h λr c z=>rfl
 have r2:(X.map ng1).map row1=X.map row1:=by
  rw[bp]
  exact my h λr c z=>rfl
 have c2:(X.map ng1).map col1=(X.map col1).map λx=>-x:=by
  rw[bp,bp]
  exact my h λr c z=>rfl
 have hp':0<(X.map col1).length:=by rw[aj];exact hp
 unfold mirD
 rw[r1,max_sub hp']
 unfold mx
 rw[r2,c2,min_neg hp',bp,bp]
 refine my h λr c z=>?_
 show PyData.tuple [.int (r-minI (X.map row1)),.int (maxI (X.map col1)-minI (X.map col1)-(c-minI (X.map col1))),.str z]=.tuple [.int (r-minI (X.map row1)),.int (-c - -maxI (X.map col1)),.str z]
 rw[show maxI (X.map col1)-minI (X.map col1)-(c-minI (X.map col1)) = -c - -maxI (X.map col1) by omega]
theorem Zr.same{ds:List PyData}(h:Zr ds):mx ds=ds:=by
 unfold mx
 rw[h.r0,h.c0]
 have e:ds.map (shift1 0 0)=ds.map id:=my h.pre.spots λr c z=>by
  show PyData.tuple [.int (r-0),.int (c-0),.str z]=_
  rw[Int.sub_zero,Int.sub_zero]
  rfl
 rw[e,List.map_id]
theorem iter_shift{X:List PyData}(h:Spots X)(hp:0<X.length):∀i,iterT i (mx X)=mx (rawN i X)
 | 0=>rfl
 | i+1=>by rw[iterT_succ,iter_shift h hp i,rawN_succ,tur_shift (rawN_spots h i) (by rw[rawN_len];exact hp)]
theorem Zr.raw{ds:List PyData}(h:Zr ds)(t:Nat):mx (rawT t ds)=spotsD t ds:=by
 show _=iterT (t % 4) (if 4<=t then mirD ds else ds)
 unfold rawT
 by_cases h4:4<=t
 .rw[if_pos h4,if_pos h4,<-iter_shift (ng_spots h.pre.spots) (by rw[aj];exact h.pre.pos),<-mir_shift h.pre.spots h.pre.pos,h.same]
 .rw[if_neg h4,if_neg h4,<-iter_shift h.pre.spots h.pre.pos,h.same]
end L3
namespace K41
open PySem PyProof.Rows L2 L3
noncomputable def ModeN(m:Str)(n:Nat):Prop:=(m="still"/\n=1)\/(m="turn"/\n=4)\/(m="flip"/\n=8)
noncomputable def DictM(P:Program)(w:World)(K:aq)(mg:Str->Option Value):Prop:=∃aD oD kvs,mg "TURNINGS_BY_MODE" = some (.ref aD)/\K.lookup aD=some oD/\oD.IsDictOf (strKind P w) kvs/\∀m n,ModeN m n->∃t,valueAt kvs m=some (.int (n:Nat) t)
noncomputable def spForms:Sp:=λvs H Q _=>∃(r:Addr) (m:Str) (n:Nat) (xs:List V) (es:List PyData),vs=[.ref r,.str m]/\H r=some (.tup xs)/\RepAll H es xs/\Zr es/\ModeN m n/\
 ∀(l:Addr) (ys:List V) (ds:List PyData) (H':Hp),Same H H'->H l=none->H' l=some (.lst ys)->ds.Nodup->(∀d,d∈ds↔d∈k9 es n)->RepAll H' (sortE ds) ys->Q (.ref l) H'
section
variable{P:Program}{w:World}{K:aq}{mg:Str->Option Value}{base:Heap}{f:Addr}{fd:FuncData}
theorem scForms:ky ["form","mode"] ["form","mode"] (kq sForms):=⟨rfl,rfl,rfl,by decide +kernel,rfl,by decide +kernel,by decide +kernel⟩
theorem ok_forms(B:∀x∈blts,mg x=none)(hM:DictM P w K mg)(Ftd:Fn P w K mg base "turned" 2 ["form","t"] spTd)
  (F:Fun K "forms_of" "forms_of" sForms f fd):FnOk P w K mg base CX0 3 f fd ["form","mode"] spForms:=by
 obtain⟨aD,oD,kvs,hD,hL,hI,hV⟩:=hM
 refine F.ok (k:=2) scForms (λvs H Q E h=>?_) (λcdv A outer s H vs Q E hr h=>?_)
 .obtain⟨r,m,n,xs,es,rfl,_⟩:=h
  rfl
 obtain⟨r,m,n,xs,es,rfl,hr0,rep,hz,hm,q⟩:=h
 have hu:=hr.units
 obtain⟨tk,hv⟩:=hV m n hm
 refine⟨_,(km (k7 (pe_sortset rfl hu rfl (B "sorted" (by decide)) rfl (B "set" (by decide)) (pa_c (lj ["t","form"] [none,some 0] rfl rfl (by decide +kernel) (by decide +kernel) rfl rfl (pi_r1 rfl (B "range" (by decide)) (pa_c (pe_ix ix_dict (pe_globR hD rfl) (pv 1) (λ_ _=>rfl)) kb)) (λ_=>(ke (i:=0) (show(["t","form"]:List PySem.Str).Nodup by decide +kernel) rfl (Or.inl rfl))) (λ_=>me) (λ_=>(pe_fn Ftd hr (by decide) rfl (pa_c (pv 1) (pa_c (pv 0) kb))))) kb)))),?_⟩
 refine⟨_,rfl,aD,m,oD,kvs,n,tk,rfl,rfl,hL,hI,hv,?_⟩
 have hn:n<=8:=by rcases hm with h|h|h<;>omega
 refine⟨(n:Nat),rfl,by omega,by omega,λD hD0=>?_⟩
 rw[b0]
 refine comp_range (lo:=0) (n:=n) (λi ys G=>Same H G/\RepAll G (k9 es i) ys) ⟨Same.fresh _ hD0,rfl⟩ (λi ys G hi hDy hyl p=>?_) (λys G hDy hyl p=>?_)
 .obtain⟨p1,p2⟩:=p
  refine⟨Agree.set (Agree.refl _) rfl,?_⟩
  dsimp only[tYes]
  refine iteT ?_
  refine⟨_,rfl,_,rfl,r,i,xs,es,by rw[ka];rfl,.inr (p1 _ _ hr0),rep.same p1,hz.pre.spots,hz.pre.pos,by have:=hz.pre.six;omega,by omega,λr2 H2 e2 s2 pe ue rep2=>?_⟩
  rw[(hz.turned i).pre.sorted pe ue]at rep2
  have hD2:=s2 _ _ hDy
  refine nk (by omega) hD2 hyl ⟨(p1.trans s2).new hD0,?_⟩
  rw[forms_succ]
  refine((p2.same s2).snoc rep2).tk (Tk.lst hD2) (forms_imm hz λd hd=>?_)
  rcases bm.mp hd with h|h
  .exact og d h
  .exact⟨i,(ba.mp h).symm⟩
 .obtain⟨p1,p2⟩:=p
  refine⟨D,ys,k9 es n,rfl,hDy,p2,forms_key hz og,forms_cmp hz og,by simp[k9];omega,λds l zs hnd hmem hl rz=>?_⟩
  have hlH:H l=none:=by
   cases e:H l with
   | none=>rfl
   | some o=>rw[p1 _ _ e]at hl;cases hl
  exact q l zs ds _ (p1.trans (Same.fresh _ hl)) hlH kh hnd hmem rz
end
theorem lenL(z:Str):z.cps.toList.length=z.length:=by simp[Str.length]
theorem ok1{c:Nat}(h:c<128):PyData.strOk (⟨#[c]⟩:Str)=true:=Tx.ok ⟨by show 1<=80;omega,λx hx=>by
 have:x=c:=by simpa using hx
 omega⟩
noncomputable def Rw(zs:List Str):Prop:=0<zs.length/\zs.length<=8/\∃wd,0<wd/\wd<=8/\∀z∈zs,(Tx z/\∀c∈z.cps.toList,sgB c=true)/\z.length=wd
noncomputable def Fl(H:Hp)(a:Addr)(zs:List Str):Prop:=H a=some (.tup (zs.map V.str))/\Rw zs
theorem Fl.tx{H:Hp}{a:Addr}{zs:List Str}(h:Fl H a zs):∀z∈zs,Tx z:=λz hz=>by
 obtain⟨_,_,_,wd,_,_,hw⟩:=h
 exact(hw z hz).1.1
noncomputable def rowSp(r:Nat)(cs:List Nat):Nat->List PyData
 | 0=>[]
 | k+1=>rowSp r cs k++(match cs[k]? with|some c=>[.tuple [.int r,.int k,.str ⟨#[c]⟩]]|none=>[])
noncomputable def allSp(zs:List Str):Nat->List PyData
 | 0=>[]
 | k+1=>allSp zs k++(match zs[k]? with|some z=>rowSp k z.cps.toList z.cps.toList.length|none=>[])
theorem rowSp_spots(r:Nat)(cs:List Nat):∀k,Spots (rowSp r cs k)
 | 0,d,h=>by cases h
 | k+1,d,h=>by
  unfold rowSp at h
  rcases bm.mp h with h|h
  .exact rowSp_spots r cs k d h
  .cases e:cs[k]? with
   | none=>rw[e]at h;cases h
   | some c=>rw[e]at h;rw[ba.mp h];exact⟨_,_,_,rfl⟩
theorem allSp_spots(zs:List Str):∀k,Spots (allSp zs k)
 | 0,d,h=>by cases h
 | k+1,d,h=>by
  unfold allSp at h
  rcases bm.mp h with h|h
  .exact allSp_spots zs k d h
  .cases e:zs[k]? with
   | none=>rw[e]at h;cases h
   | some z=>rw[e]at h;exact rowSp_spots _ _ _ d h
theorem Spots.app{a b:List PyData}(h:Spots a)(k:Spots b):Spots (a++b):=λd hd=>(bm.mp hd).elim (h d) (k d)
theorem rowSp_succ{r:Nat}{cs:List Nat}{k c:Nat}(h:cs[k]?=some c):rowSp r cs (k+1)=rowSp r cs k++[.tuple [.int r,.int k,.str ⟨#[c]⟩]]:=by
 show rowSp r cs k++_=_
 rw[h]
theorem allSp_succ{zs:List Str}{k:Nat}{z:Str}(h:zs[k]?=some z):allSp zs (k+1)=allSp zs k++rowSp k z.cps.toList z.cps.toList.length:=by
 show allSp zs k++_=_
 rw[h]
section
variable{P:Program}{w:World}{K:aq}{mg:Str->Option Value}{base:Heap}{f:Addr}{fd:FuncData}
noncomputable def spSpots:Sp:=λvs H Q _=>∃(a:Addr) (zs:List Str),vs=[.ref a]/\Fl H a zs/\∀(D:Addr) (ys:List V) (H':Hp),Same H H'->H' D=some (.lst ys)->ys.length<=64->RepAll H' (allSp zs zs.length) ys->Q (.ref D) H'
theorem scSpots:ky ["floor","spots","row","signs","column","sign"] ["floor"] (kq sSpots):=⟨rfl,rfl,rfl,by decide +kernel,rfl,by decide +kernel,by decide +kernel⟩
theorem ok_spots(B:∀x∈blts,mg x=none)(F:Fun K "floor_spots" "floor_spots" sSpots f fd):FnOk P w K mg base CX0 1 f fd ["floor"] spSpots:=by
 refine F.ok (k:=0) scSpots (λvs H Q E h=>?_) (λcdv A outer s H vs Q E hr h=>?_)
 .obtain⟨a,zs,rfl,_⟩:=h
  rfl
 obtain⟨a,zs,rfl,hf,q⟩:=h
 have htx:=hf.tx
 obtain⟨ha,hz0,hz8,wd,hw0,hw8,hw⟩:=hf
 refine⟨_,(kc (k6 (i:=1) scSpots.nd rfl (Or.inl rfl) (ny kb))
  (kc (m7 b7 rfl (pi_enT rfl (B "enumerate" (by decide)) (pa_c (pv 0) kb)) (pg_tup (n:=2) rfl (kj (ke (i:=2) scSpots.nd rfl (Or.inl rfl)) (kj (ke (i:=3) scSpots.nd rfl (Or.inl rfl)) lq))) (km (m7 b7 rfl (pi_enS rfl (B "enumerate" (by decide)) (pa_c (pv 3) kb)) (pg_tup (n:=2) rfl (kj (ke (i:=4) scSpots.nd rfl (Or.inl rfl)) (kj (ke (i:=5) scSpots.nd rfl (Or.inl rfl)) lq))) (km (ps_expr (pe_bm ff gv gw om (pv 1) (pa_c (lc (pa_c (pv 2) (pa_c (pv 4) (pa_c (pv 5) kb)))) kb)))))))
  (km (k7 (pv 1))))),?_⟩
 refine⟨(by show 0<=sizeLine;decide),λD hD=>?_⟩
 refine⟨_,rfl,a,rfl,⟨_,SqT.of (by rw[kv (lh ha hD)];exact ha)⟩,?_⟩
 refine for_enT (xs:=zs.map V.str) (λi σ' H'=>∃(y2 y3 y4 y5:Option V) (ys:List V),σ'=[some (.ref a),some (.ref D),y2,y3,y4,y5]/\Same H H'/\H' D=some (.lst ys)/\RepAll H' (allSp zs i) ys/\ys.length<=8*i) ?_ (λi σ' H' h=>?_) (λi x p σ' H' hx hp h=>?_) (λσ' H' h=>?_)
 .exact⟨_,_,_,_,[],rfl,Same.fresh _ hD,kh,rfl,en _⟩
 .obtain⟨_,_,_,_,_,_,s1,_⟩:=h
  exact SqT.of (s1 _ _ ha)
 .obtain⟨y2,y3,y4,y5,ys,rfl,s1,hDy,rep,hyl⟩:=h
  rw[be]at hx
  cases hz:zs[i]? with
  | none=>rw[hz]at hx;cases hx
  | some z=>
   rw[hz]at hx
   cases hx
   have hzm:=am hz
   have hil:i<zs.length:=(ak.mp hz).1
   have hzl:=(hw z hzm).2
   have hL:=lenL z
   refine⟨p,_,rfl,SqT.of kh,rfl,_,_,rfl,_,_,rfl,rfl,?_⟩
   have s2:Same H' (upd H' p (.tup [.int (i:Nat),.str z])):=Same.fresh _ hp
   generalize upd H' p (.tup [.int (i:Nat),.str z])=H2 at *
   refine⟨_,rfl,z,rfl,(htx z hzm).2,?_⟩
   refine for_enS (z:=z) (λj σ' H3=>∃(y4 y5:Option V) (ys:List V),σ'=[some (.ref a),some (.ref D),some (.int (i:Nat)),some (.str z),y4,y5]/\Same H H3/\H3 D=some (.lst ys)/\RepAll H3 (allSp zs i++rowSp i z.cps.toList j) ys/\ys.length<=8*i+j) ?_ (λj c p3 σ' H3 hc hp3 h=>?_) (λσ' H3 h=>?_)
   .refine⟨_,_,ys,rfl,s1.trans s2,s2 _ _ hDy,?_,by omega⟩
    show RepAll H2 (allSp zs i++[]) ys
    rw[ck]
    exact rep.same s2
   .obtain⟨y4,y5,ys3,rfl,s3,hD3,rep3,hl3⟩:=h
    have hjl:j<z.cps.toList.length:=(ak.mp hc).1
    have hc128:c<128:=(htx z hzm).2 c (am hc)
    refine⟨p3,_,rfl,SqT.of kh,rfl,_,_,rfl,_,_,rfl,rfl,?_⟩
    have s4:Same H3 (upd H3 p3 (.tup [.int (j:Nat),.str ⟨#[c]⟩])):=Same.fresh _ hp3
    generalize upd H3 p3 (.tup [.int (j:Nat),.str ⟨#[c]⟩])=H4 at *
    have hD4:=s4 _ _ hD3
    refine⟨_,rfl,.inl ⟨rfl,_,SqL.of hD4⟩,_,rfl,_,rfl,_,rfl,(by show 3<=sizeLine;decide),λt ht=>?_⟩
    have s5:Same H4 (upd H4 t (.tup [.int (i:Nat),.int (j:Nat),.str ⟨#[c]⟩])):=Same.fresh _ ht
    have t5:upd H4 t (.tup [.int (i:Nat),.int (j:Nat),.str ⟨#[c]⟩]) t=some (.tup [.int (i:Nat),.int (j:Nat),.str ⟨#[c]⟩]):=kh
    generalize upd H4 t (.tup [.int (i:Nat),.int (j:Nat),.str ⟨#[c]⟩])=H5 at *
    have hD5:=s5 _ _ hD4
    refine⟨D,ys3,.ref t,rfl,rfl,hD5,l8 (by omega),?_⟩
    have rep5:RepAll H5 ((allSp zs i++rowSp i z.cps.toList j)++[.tuple [.int (i:Nat),.int (j:Nat),.str ⟨#[c]⟩]]) (ys3++[.ref t]):=((rep3.same s4).same s5).snoc (spot_rep t5 (ok1 hc128))
    rw[bf,<-rowSp_succ hc]at rep5
    refine⟨_,_,ys3++[.ref t],rfl,((s3.trans s4).trans s5).new hD,kh,rep5.tk (Tk.lst hD5) (Spots.imm (Spots.app (allSp_spots _ _) (rowSp_spots _ _ _))),?_⟩
    rw[bo,fw]
    omega
   .obtain⟨y4,y5,ys3,rfl,s3,hD3,rep3,hl3⟩:=h
    rw[<-allSp_succ hz]at rep3
    exact⟨_,_,_,_,ys3,rfl,s3,hD3,rep3,by omega⟩
 .obtain⟨y2,y3,y4,y5,ys,rfl,s1,hDy,rep,hyl⟩:=h
  rw[aj]at rep hyl
  exact⟨_,rfl,q D ys H' s1 hDy (by omega) rep⟩
end
theorem rowSp_line(M:Mat)(r:Nat):∀c,c<=M.w->rowSp r (lineM M r) c=(cx c).map λk=>spotM M r k
 | 0,_=>rfl
 | c+1,h=>by
  rw[rowSp_succ (line_at (M:=M) (r:=r) (c:=c) (by omega)),rowSp_line M r c (by omega),jk,cm]
  rfl
theorem allSp_read(M:Mat):∀k,k<=M.h->allSp (strsM M) k=(cx (k*M.w)).map λi=>spotM M (i/M.w) (i % M.w)
 | 0,_=>by simp[allSp]
 | k+1,h=>by
  rw[allSp_succ (strs_at (M:=M) (r:=k) (by omega)),allSp_read M k (by omega)]
  have e:((⟨(lineM M k).toArray⟩:Str).cps.toList)=lineM M k:=by simp
  rw[e,line_len,rowSp_line M k M.w (ao _),Nat.add_mul,Nat.one_mul,List.range_add,cm,bp]
  congr 1
  refine fc λc hc=>?_
  have hc':c<M.w:=by simpa using hc
  show spotM M k c=spotM M ((k*M.w+c)/M.w) ((k*M.w+c) % M.w)
  rw[div_at hc',mod_at hc']
theorem strs_tx{M:Mat}(o:OkM SgP M){z:Str}(h:z∈strsM M):(Tx z/\∀c∈z.cps.toList,sgB c=true)/\z.length=M.w:=by
 obtain⟨r,hr,rfl⟩:=strs_mem h
 have hs:=line_sg o hr
 have hl:(⟨(lineM M r).toArray⟩:Str).length=M.w:=by show(lineM M r).toArray.size=_;rw[az,line_len]
 have hw:=o.w8
 have e:((⟨(lineM M r).toArray⟩:Str).cps.toList)=lineM M r:=by simp
 refine⟨⟨⟨by omega,λc hc=>?_⟩,λc hc=>?_⟩,hl⟩
 .rw[e]at hc;exact sg128 (hs c hc)
 .rw[e]at hc;exact hs c hc
theorem FlM.fl{H:Hp}{a:Addr}{M:Mat}(h:FlM H a M):Fl H a (strsM M):=
 ⟨h.1,by rw[oq];exact h.2.h1,by rw[oq];exact h.2.h8,M.w,h.2.w1,h.2.w8,λz hz=>strs_tx h.2 hz⟩
theorem mat_of{zs:List Str}(h:Rw zs):∃M:Mat,zs=strsM M/\OkM SgP M:=by
 obtain⟨h1,h8,wd,w1,w8,hz⟩:=h
 refine⟨⟨zs.length,wd,λr c=>((zs[r]?.map λz=>z.cps.toList).getD []).getD c 0⟩,?_,⟨h1,h8,w1,w8,λr c hr hc=>?_⟩⟩
 .apply List.ext_getElem?
  intro r
  by_cases hr:r<zs.length
  .rw[strs_at (M:=⟨zs.length,wd,_⟩) hr,ab hr]
   have hz':=hz _ (df hr)
   have hl:zs[r].cps.toList.length=wd:=by rw[lenL];exact hz'.2
   have e:lineM ⟨zs.length,wd,λr c=>((zs[r]?.map λz=>z.cps.toList).getD []).getD c 0⟩ r=zs[r].cps.toList:=by
    apply List.ext_getElem?
    intro c
    by_cases hc:c<wd
    .rw[line_at (M:=⟨zs.length,wd,λr c=>((zs[r]?.map λz=>z.cps.toList).getD []).getD c 0⟩) hc]
     show some (((zs[r]?.map λz=>z.cps.toList).getD []).getD c 0)=_
     rw[ab hr]
     show some (zs[r].cps.toList.getD c 0)=_
     rw[cb,ab (by omega)]
     rfl
    .rw[io (by rw[line_len];exact Nat.le_of_not_lt hc),io (by omega)]
   rw[e]
  .rw[io (by omega),io (by rw[oq];exact Nat.le_of_not_lt hr)]
 .have hr':r<zs.length:=hr
  have hc':c<wd:=hc
  have hz':=hz _ (df hr')
  have hl:zs[r].cps.toList.length=wd:=by rw[lenL];exact hz'.2
  show sgB (((zs[r]?.map λz=>z.cps.toList).getD []).getD c 0)=true
  rw[ab hr']
  show sgB (zs[r].cps.toList.getD c 0)=true
  rw[cb,ab (by omega)]
  exact hz'.1.2 _ (df _)
open Classical in
noncomputable def ddp:List PyData->List PyData
 | []=>[]
 | x::xs=>if x∈ddp xs then ddp xs else x::ddp xs
theorem ddp_mem:∀{xs:List PyData} {d:PyData},d∈ddp xs↔d∈xs
 | [],d=>Iff.rfl
 | x::xs,d=>by
  have ih:=@ddp_mem xs
  unfold ddp
  split
  .rename_i h
   rw[ax,ih]
   exact⟨.inr,λz=>z.elim (λe=>by rw[e];exact ih.mp h) id⟩
  .rw[ax,ax,ih]
theorem ddp_nd:∀(xs:List PyData),(ddp xs).Nodup
 | []=>List.nodup_nil
 | x::xs=>by
  unfold ddp
  split
  .exact ddp_nd xs
  .rename_i h
   exact jy.mpr ⟨h,ddp_nd xs⟩
theorem ddp_len:∀(xs:List PyData),(ddp xs).length<=xs.length
 | []=>ao _
 | x::xs=>by
  have:=ddp_len xs
  unfold ddp
  split
  .rw[bu];omega
  .rw[bu,bu];omega
noncomputable def FS(es:List PyData)(n:Nat):List PyData:=sortE (ddp (k9 es n))
theorem FS_of{es ds:List PyData}{n:Nat}(h:Zr es)(nd:ds.Nodup)(hm:∀d,d∈ds↔d∈k9 es n):sortE ds=FS es n:=
 sortE_uniq ((List.perm_ext_iff_of_nodup nd (ddp_nd _)).mpr λd=>(hm d).trans ddp_mem.symm) (forms_cmp h λd hd=>og d ((hm d).mp hd))
theorem FS_mem{es:List PyData}{n:Nat}:∀d∈FS es n,∃t,formD es t=d:=λd hd=>og d (ddp_mem.mp ((mh _).mem_iff.mp hd))
theorem FS_len{es:List PyData}{n:Nat}:(FS es n).length<=n:=by
 have:=ddp_len (k9 es n)
 unfold FS
 rw[sortE_length]
 have e:(k9 es n).length=n:=by simp[k9]
 omega
noncomputable def FrmD(d:PyData):Prop:=∃es,d=.tuple es/\Zr es
theorem FS_frm{es:List PyData}{n:Nat}(h:Zr es):∀d∈FS es n,FrmD d:=λd hd=>by
 obtain⟨t,rfl⟩:=FS_mem d hd
 exact⟨_,rfl,o7 h t⟩
noncomputable def KindK(H:Hp)(v:V)(k:List PyData×Nat):Prop:=∃b nm u1 u2 m fr xs,v=.ref b/\H b=some (.tup [.str nm,u1,u2,.str m,.ref fr])/\H fr=some (.tup xs)/\RepAll H k.1 xs/\Zr k.1/\ModeN m k.2
theorem KindK.same{H H':Hp}{v:V}{k:List PyData×Nat}(h:KindK H v k)(s:Same H H'):KindK H' v k:=by
 obtain⟨b,nm,u1,u2,m,fr,xs,rfl,h1,h2,h3,h4,h5⟩:=h
 exact⟨b,nm,u1,u2,m,fr,xs,rfl,s _ _ h1,s _ _ h2,h3.same s,h4,h5⟩
noncomputable def KindsK(H:Hp)(kvs:List V)(ks:List (List PyData×Nat)):Prop:=kvs.length=ks.length/\∀(i:Nat) v k,kvs[i]?=some v->ks[i]?=some k->KindK H v k
theorem KindsK.same{H H':Hp}{kvs:List V}{ks:List (List PyData×Nat)}(h:KindsK H kvs ks)(s:Same H H'):KindsK H' kvs ks:=⟨h.1,λi v k h1 h2=>(h.2 i v k h1 h2).same s⟩
noncomputable def PzK(H:Hp)(p:Addr)(M:Mat)(ks:List (List PyData×Nat)):Prop:=∃fl kr e kvs,H p=some (.tup [.ref fl,.ref kr,.ref e])/\FlM H fl M/\H kr=some (.tup kvs)/\KindsK H kvs ks/\ks.length<=6
theorem PzK.same{H H':Hp}{p:Addr}{M:Mat}{ks:List (List PyData×Nat)}(h:PzK H p M ks)(s:Same H H'):PzK H' p M ks:=by
 obtain⟨fl,kr,e,kvs,h1,h2,h3,h4,h5⟩:=h
 exact⟨fl,kr,e,kvs,s _ _ h1,h2.same s,s _ _ h3,h4.same s,h5⟩
section
variable{P:Program}{w:World}{K:aq}{mg:Str->Option Value}{base:Heap}{f:Addr}{fd:FuncData}
noncomputable def spBig:Sp:=λvs H Q _=>∃c:Nat,vs=[.str ⟨#[c]⟩]/\Q (.bl (decide (65<=c)&&decide (c<=90))) H
noncomputable def spSmall:Sp:=λvs H Q _=>∃c:Nat,vs=[.str ⟨#[c]⟩]/\Q (.bl (decide (97<=c)&&decide (c<=122))) H
theorem scBig:ky ["found"] ["found"] (kq sBig):=⟨rfl,rfl,rfl,by decide +kernel,rfl,by decide +kernel,by decide +kernel⟩
theorem scSmall:ky ["found"] ["found"] (kq sSmall):=⟨rfl,rfl,rfl,by decide +kernel,rfl,by decide +kernel,by decide +kernel⟩
theorem le1(a b:Nat):(!decide ([b]<[a]))=decide (a<=b):=by
 have h:([b]<[a])↔b<a:=by simp[cf]
 rw[decide_eq_decide.mpr h]
 by_cases c:b<a
 .rw[decide_eq_true c,decide_eq_false (by omega)];rfl
 .rw[decide_eq_false c,decide_eq_true (by omega)];rfl
theorem between{c lo hi:Nat}{a z:Str}{R:V->Prop}{A B:Prop}(ha:a.cps.toList=[lo])(hz:z.cps.toList=[hi])(q:R (.bl (decide (lo<=c)&&decide (c<=hi))))
  (hA:R (.bl (!decide (z.cps.toList<[c])))->A) (hB:R (.bl false)->B):if (!decide ((⟨#[c]⟩:Str).cps.toList<a.cps.toList))=true then A else B:=by
 have e:(⟨#[c]⟩:Str).cps.toList=[c]:=rfl
 rw[e,ha,le1]
 rw[hz,le1]at hA
 by_cases h:lo<=c
 .rw[decide_eq_true h]at *
  rw[if_pos rfl]
  exact hA q
 .rw[decide_eq_false h]at *
  rw[if_neg ah]
  exact hB q
theorem len1(c:Nat):(⟨#[c]⟩:Str).length<=sizeLine:=by show 1<=sizeLine;decide
theorem ok_big(B:∀x∈blts,mg x=none)(F:Fun K "is_sign" "is_sign" sBig f fd):FnOk P w K mg base CX0 1 f fd ["found"] spBig:=by
 refine F.ok (k:=0) scBig (λvs H Q E h=>?_) (λcdv A outer s H vs Q E hr h=>?_)
 .obtain⟨c,rfl,_⟩:=h
  rfl
 obtain⟨c,rfl,q⟩:=h
 refine⟨_,(km (k7 (pe_and (pe_cB call_isinst rfl (B "isinstance" (by decide)) boot_isinstance (pa_c (pv 0) (pa_c (pe_bltn (v:=.ty "str") rfl (B "str" (by decide)) boot_str rfl) kb))) (pe_and (pe_cmpR op_eq (pe_cB oh rfl (B "len" (by decide)) g0 (pa_c (pv 0) kb)) kg (m9 _)) (pe_one (pe_chain op_le_str op_le_str nu (pv 0) nu)))))),?_⟩
 refine⟨_,rfl,_,_,_,true,rfl,.str _,rfl,true,rfl,?_⟩
 refine iteT ?_
 refine⟨_,rfl,_,rfl,len1 c,rfl,true,rfl,?_⟩
 refine iteT ?_
 exact⟨_,rfl,_,_,rfl,rfl,_,rfl,between (a:=bq "A") (z:=bq "Z") (R:=λv=>Q v H) (by decide +kernel) (by decide +kernel) q (λh=>⟨_,_,rfl,rfl,h⟩) (λh=>h)⟩
theorem ok_small(B:∀x∈blts,mg x=none)(F:Fun K "is_small" "is_small" sSmall f fd):FnOk P w K mg base CX0 1 f fd ["found"] spSmall:=by
 refine F.ok (k:=0) scSmall (λvs H Q E h=>?_) (λcdv A outer s H vs Q E hr h=>?_)
 .obtain⟨c,rfl,_⟩:=h
  rfl
 obtain⟨c,rfl,q⟩:=h
 refine⟨_,(km (k7 (pe_and (pe_cB call_isinst rfl (B "isinstance" (by decide)) boot_isinstance (pa_c (pv 0) (pa_c (pe_bltn (v:=.ty "str") rfl (B "str" (by decide)) boot_str rfl) kb))) (pe_and (pe_cmpR op_eq (pe_cB oh rfl (B "len" (by decide)) g0 (pa_c (pv 0) kb)) kg (m9 _)) (pe_one (pe_chain op_le_str op_le_str nu (pv 0) nu)))))),?_⟩
 refine⟨_,rfl,_,_,_,true,rfl,.str _,rfl,true,rfl,?_⟩
 refine iteT ?_
 refine⟨_,rfl,_,rfl,len1 c,rfl,true,rfl,?_⟩
 refine iteT ?_
 exact⟨_,rfl,_,_,rfl,rfl,_,rfl,between (a:=bq "a") (z:=bq "z") (R:=λv=>Q v H) (by decide +kernel) (by decide +kernel) q (λh=>⟨_,_,rfl,rfl,h⟩) (λh=>h)⟩
end
noncomputable def GS(mg:Str->Option Value)(x z:Str):Prop:=∃t,mg x=some (.str z t)
theorem eH:bq "#" = ⟨#[35]⟩:=by decide +kernel
theorem dec_str(c d:Nat){z:Str}(hz:z=⟨#[d]⟩):decide (V.str ⟨#[c]⟩=V.str z)=(c==d):=by
 subst hz
 rw[fg,decide_eq_true_eq,beq_iff_eq]
 constructor
 .intro h
  injection h with h
  injection h with h
  injection h with h
  injection h with h
 .intro h
  rw[h]
theorem strs_ati{M:Mat}{r:Nat}(h:r<M.h):((strsM M).map V.str)[r]?=some (V.str ⟨(lineM M r).toArray⟩):=by rw[be,strs_at h];rfl
theorem mj(N:Mat)(r:Nat):(⟨(lineM N r).toArray⟩:Str).length=N.w:=by show(lineM N r).toArray.size=_;rw[az,line_len]
theorem w_line{N:Mat}(o:OkM SgP N):N.w<=sizeLine:=ic (l8 (by have:=o.w8;omega))
noncomputable def gA(M:Mat)(r c:Nat):Nat:=if r<M.h/\c<M.w then M.g r c else 35
theorem gA_sg{M:Mat}(o:OkM SgP M)(r c:Nat):sgB (gA M r c)=true:=by
 unfold gA
 split
 .rename_i h;exact o.sg r c h.1 h.2
 .decide
noncomputable def big(c:Nat):Bool:=decide (65<=c)&&decide (c<=90)
noncomputable def small(c:Nat):Bool:=decide (97<=c)&&decide (c<=122)
noncomputable def okS(g k:Nat):Bool:=g==46||g==44||g==k||g==lo1 k
theorem ok_may{g k:Nat}(h:sgB g=true)(h1:65<=k)(h2:k<=90):(!(g==35)&&(!(big g||small g)||up1 g==k))=okS g k:=by
 have:∀g<128,sgB g=true->∀k<91,65<=k->(!(g==35)&&(!(big g||small g)||up1 g==k))=okS g k:=by decide +kernel
 exact this g (sg128 h) h k (by omega) h1
seal L2.PE L2.PT L2.PW L2.PA L2.PS L2.PSs L2.PG L2.PGs L2.PI L2.PO
section
variable{P:Program}{w:World}{K:aq}{mg:Str->Option Value}{base:Heap}{f:Addr}{fd:FuncData}
noncomputable def spCl(R:Nat->V):Sp:=λvs H Q _=>∃(a b:Addr) (M:Mat) (r c:Nat),vs=[.ref a,.ref b]/\FlM H a M/\H b=some (.tup [.int (r:Nat),.int (c:Nat)])/\Q (R (gA M r c)) H
theorem scAt:ky ["floor","cell","row","column"] ["floor","cell"] (kq sAt):=⟨rfl,rfl,rfl,by decide +kernel,rfl,by decide +kernel,by decide +kernel⟩
theorem ok_at(B:∀x∈blts,mg x=none)(gC:GS mg "CLOSED" "#")(F:Fun K "sign_at" "sign_at" sAt f fd):FnOk P w K mg base CX0 1 f fd ["floor","cell"] (spCl λk=>.str ⟨#[k]⟩):=by
 refine F.ok (k:=0) scAt (λvs H Q E h=>?_) (λcdv A outer s H vs Q E hr h=>?_)
 .obtain⟨a,b,M,r,c,rfl,_⟩:=h
  rfl
 obtain⟨a,b,M,r,c,rfl,hf,hb,q⟩:=h
 dsimp only at q
 obtain⟨ha,okM⟩:=hf
 have out:¬(r<M.h/\c<M.w)->Q (.str (bq "#")) H:=λh=>by
  unfold gA at q
  rw[if_neg h]at q
  rw[eH]
  exact q
 refine⟨_,(kc (k6 (i:=2) scAt.nd rfl (Or.inl rfl) (pe_ix li (pv 1) kg (λ_ _=>rfl)))
  (kc (k6 (i:=3) scAt.nd rfl (Or.inl rfl) (pe_ix li (pv 1) kg (λ_ _=>rfl)))
  (kc (ps_if (PW.pt (pw_and (pt_chain op_le op_lt kg (pv 2) (pe_cB m8 rfl (B "len" (by decide)) g0 (pa_c (pv 0) kb))) (pw_and1 (pt_chain op_le op_lt kg (pv 3) (pe_cB oh rfl (B "len" (by decide)) g0 (pa_c (pe_ix li (pv 0) (pv 2) (λ_ _=>rfl)) kb)))))) (km (k7 (pe_ix ix_str (pe_ix li (pv 0) (pv 2) (λ_ _=>rfl)) (pv 3) (λ_ _=>rfl)))) ni)
  (km (k7 (pe_globS gC rfl)))))),?_⟩
 refine⟨_,rfl,b,_,_,_,rfl,rfl,SqT.of hb,ku (j:=0) rfl,?_⟩
 refine⟨_,rfl,b,_,_,_,rfl,rfl,SqT.of hb,ku (j:=1) rfl,?_⟩
 refine⟨_,rfl,_,_,rfl,rfl,_,rfl,?_⟩
 refine ite2 (λc1=>?_) (λc1=>absurd (decide_eq_true (by show(0:Int)<=(r:Nat);omega)) c1)
 refine⟨_,rfl,a,_,rfl,.inr (SqT.of ha),_,_,rfl,rfl,_,rfl,?_⟩
 refine ite2 (λc2=>?_) (λc2=>?_)
 .have hrM:r<M.h:=by
   have:((r:Nat):Int)<(((strsM M).map V.str).length:Nat):=of_decide_eq_true c2
   rw[aj,oq]at this
   omega
  have hat:atI ((strsM M).map V.str) (r:Int)=some (.str ⟨(lineM M r).toArray⟩):=ku (strs_ati hrM)
  have zl:(⟨(lineM M r).toArray⟩:Str).length<=sizeLine:=by rw[mj];exact w_line okM
  refine⟨_,rfl,_,_,rfl,rfl,_,rfl,?_⟩
  refine ite2 (λc3=>?_) (λc3=>absurd (decide_eq_true (by show(0:Int)<=(c:Nat);omega)) c3)
  refine⟨_,rfl,_,rfl,a,_,_,_,rfl,rfl,SqT.of ha,hat,_,rfl,zl,_,_,rfl,rfl,_,rfl,?_⟩
  refine ite2 (λc4=>?_) (λc4=>?_)
  .have hcM:c<M.w:=by
    have:((c:Nat):Int)<((⟨(lineM M r).toArray⟩:Str).length:Nat):=of_decide_eq_true c4
    rw[mj]at this
    omega
   unfold gA at q
   rw[if_pos ⟨hrM,hcM⟩]at q
   refine⟨_,rfl,_,rfl,a,_,_,_,rfl,rfl,SqT.of ha,hat,_,rfl,_,_,M.g r c,rfl,rfl,zl,?_,q⟩
   refine ku ?_
   show(lineM M r).toArray.toList[c]?=_
   rw[List.toList_toArray]
   exact line_at hcM
  .have c4':¬(((c:Nat):Int)<((⟨(lineM M r).toArray⟩:Str).length:Nat)):=by simpa using c4
   rw[mj]at c4'
   exact out (by omega)
 .have c2':¬(((r:Nat):Int)<(((strsM M).map V.str).length:Nat)):=by simpa using c2
  rw[aj,oq]at c2'
  refine iteF ?_
  exact out (by omega)
theorem scOpen:ky ["floor","cell"] ["floor","cell"] (kq sOpen):=⟨rfl,rfl,rfl,by decide +kernel,rfl,by decide +kernel,by decide +kernel⟩
theorem scWant:ky ["floor","cell","sign"] ["floor","cell"] (kq sWant):=⟨rfl,rfl,rfl,by decide +kernel,rfl,by decide +kernel,by decide +kernel⟩
noncomputable abbrev FnAt(P:Program)(w:World)(K:aq)(mg:Str->Option Value)(base:Heap):Prop:=Fn P w K mg base "sign_at" 1 ["floor","cell"] (spCl λk=>.str ⟨#[k]⟩)
theorem ok_open(gC:GS mg "CLOSED" "#")(Fat:FnAt P w K mg base)(F:Fun K "is_open" "is_open" sOpen f fd):FnOk P w K mg base CX0 2 f fd ["floor","cell"] (spCl λk=>.bl (!(k==35))):=by
 refine F.ok (k:=1) scOpen (λvs H Q E h=>?_) (λcdv A outer s H vs Q E hr h=>?_)
 .obtain⟨a,b,M,r,c,rfl,_⟩:=h
  rfl
 obtain⟨a,b,M,r,c,rfl,hf,hb,q⟩:=h
 dsimp only at q
 refine⟨_,(km (k7 (pe_cmpR op_ne (pe_fn Fat hr (by decide) rfl (pa_c (pv 0) (pa_c (pv 1) kb))) (pe_globS gC rfl) (m9 _)))),?_⟩
 refine⟨_,rfl,_,rfl,a,b,M,r,c,rfl,hf,hb,rfl,?_⟩
 rw[dec_str _ 35 eH]
 exact q
noncomputable def wantV(k:Nat):V:=if (big k||small k)=true then .str ⟨#[up1 k]⟩else .non
theorem ok_want(Fat:FnAt P w K mg base)(Fbig:Fn P w K mg base "is_sign" 1 ["found"] spBig)(Fsmall:Fn P w K mg base "is_small" 1 ["found"] spSmall)(F:Fun K "wanted" "wanted" sWant f fd) :
  FnOk P w K mg base CX0 2 f fd ["floor","cell"] (spCl wantV):=by
 refine F.ok (k:=1) scWant (λvs H Q E h=>?_) (λcdv A outer s H vs Q E hr h=>?_)
 .obtain⟨a,b,M,r,c,rfl,_⟩:=h
  rfl
 obtain⟨a,b,M,r,c,rfl,hf,hb,q⟩:=h
 have h128:=sg128 (gA_sg hf.2 r c)
 refine⟨_,(kc (k6 (i:=2) scWant.nd rfl (Or.inl rfl) (pe_fn Fat hr (by decide) rfl (pa_c (pv 0) (pa_c (pv 1) kb))))
  (km (k7 (pe_ifExp (PW.pt (pw_or (pt_val (pe_fn Fbig hr (by decide) rfl (pa_c (pv 2) kb))) (pw_or1 (pt_val (pe_fn Fsmall hr (by decide) rfl (pa_c (pv 2) kb)))))) (pe_bm0 PySem.F.plainAttrs_str PySem.F.slot_str_upper PySem.F.type_str_upper mt_upper (pv 2)) pe_non)))),?_⟩
 refine⟨_,rfl,_,rfl,a,b,M,r,c,rfl,hf,hb,?_⟩
 generalize gA M r c=g at *
 refine⟨_,rfl,_,rfl,_,rfl,?_⟩
 have q':∀t:Bool,(big g||small g)=t->Q (if t=true then .str ⟨#[up1 g]⟩else .non) H:=λt ht=>by rw[<-ht];exact q
 refine ite2 (λh1=>?_) (λh1=>?_)
 .refine iteT ?_
  refine⟨_,rfl,rfl,_,rfl,rfl,h128,q' true ?_⟩
  have h1':big g=true:=h1
  rw[h1'];rfl
 .have h1':big g=false:=Bool.eq_false_iff.mpr h1
  refine⟨_,rfl,_,rfl,_,rfl,?_⟩
  refine ite2 (λh2=>?_) (λh2=>?_)
  .refine⟨_,rfl,rfl,_,rfl,rfl,h128,q' true ?_⟩
   have h2':small g=true:=h2
   rw[h2',Bool.or_true]
  .refine q' false ?_
   have h2':small g=false:=Bool.eq_false_iff.mpr h2
   rw[h1',h2'];rfl
end
noncomputable def SgN(d:PyData):Prop:=∃r c k:Nat,d=.tuple [.int (r:Nat),.int (c:Nat),.str ⟨#[k]⟩]/\65<=k/\k<=90
theorem SgN.spots{ds:List PyData}(h:∀d∈ds,SgN d):Spots ds:=λd hd=>by
 obtain⟨r,c,k,e,_⟩:=h d hd
 exact⟨r,c,_,e⟩
noncomputable def fitD(M:Mat):PyData->Bool
 | .tuple [.int r,.int c,.str z]=>okS (gA M r.toNat c.toNat) (z.cps.toList.headD 0)
 | _=>false
theorem fit_at(M:Mat)(r c k:Nat):fitD M (.tuple [.int (r:Nat),.int (c:Nat),.str ⟨#[k]⟩])=okS (gA M r c) k:=by
 show okS (gA M (Int.toNat (r:Nat)) (Int.toNat (c:Nat))) k=_
 rw[b0,b0]
noncomputable def sh1(dn rt:Int):PyData->PyData
 | .tuple [.int r,.int c,.str z]=>.tuple [.int (r+dn),.int (c+rt),.str z]
 | d=>d
theorem SgN.sh{dn rt:Nat}{d:PyData}(h:SgN d):SgN (sh1 (dn:Nat) (rt:Nat) d):=by
 obtain⟨r,c,k,rfl,hk⟩:=h
 refine⟨r+dn,c+rt,k,?_,hk⟩
 show PyData.tuple [.int ((r:Nat)+(dn:Nat)),.int ((c:Nat)+(rt:Nat)),.str ⟨#[k]⟩]=_
 rw[Int.natCast_add,Int.natCast_add]
theorem SgN.shs{dn rt:Nat}{ds:List PyData}(h:∀d∈ds,SgN d):∀d∈ds.map (sh1 (dn:Nat) (rt:Nat)),SgN d:=λd hd=>by
 obtain⟨e,he,rfl⟩:=bi.mp hd
 exact(h e he).sh
theorem up128{g:Nat}(h:g<128):up1 g<128:=by
 have:∀g<128,up1 g<128:=by decide +kernel
 exact this g h
theorem want_any{g k:Nat}:([PyData.none,PyData.str ⟨#[k]⟩].any λe=>bn e (if (big g||small g)=true then .str ⟨#[up1 g]⟩else .none))=(!(big g||small g)||up1 g==k):=by
 by_cases h:(big g||small g)=true
 .rw[if_pos h,h]
  show(false||(((⟨#[k]⟩:Str)==⟨#[up1 g]⟩)||false))=(false||up1 g==k)
  rw[Bool.false_or,Bool.or_false,Bool.false_or,fg,beq_iff_eq,beq_iff_eq]
  constructor
  .intro e
   injection e with e
   injection e with e
   injection e with e
   exact e.symm
  .intro e
   rw[e]
 .rw[if_neg h,Bool.eq_false_iff.mpr h]
  rfl
section
variable{P:Program}{w:World}{K:aq}{mg:Str->Option Value}{base:Heap}{f:Addr}{fd:FuncData}
noncomputable def spMcv:Sp:=λvs H Q _=>∃(a b:Addr) (M:Mat) (r c k:Nat),vs=[.ref a,.ref b,.str ⟨#[k]⟩]/\FlM H a M/\H b=some (.tup [.int (r:Nat),.int (c:Nat)])/\65<=k/\k<=90/\∀H',Same H H'->Q (.bl (okS (gA M r c) k)) H'
theorem scMcv:ky ["floor","cell","sign"] ["floor","cell","sign"] (kq sMcv):=⟨rfl,rfl,rfl,by decide +kernel,rfl,by decide +kernel,by decide +kernel⟩
theorem ok_mcv(Fopen:Fn P w K mg base "is_open" 2 ["floor","cell"] (spCl λk=>.bl (!(k==35))))(Fwant:Fn P w K mg base "wanted" 2 ["floor","cell"] (spCl wantV))(F:Fun K "may_cover" "may_cover" sMcv f fd):FnOk P w K mg base CX0 3 f fd ["floor","cell","sign"] spMcv:=by
 refine F.ok (k:=2) scMcv (λvs H Q E h=>?_) (λcdv A outer s H vs Q E hr h=>?_)
 .obtain⟨a,b,M,r,c,k,rfl,_⟩:=h
  rfl
 obtain⟨a,b,M,r,c,k,rfl,hf,hb,hk1,hk2,q⟩:=h
 have hu:=hr.units
 have hm:=ok_may (gA_sg hf.2 r c) hk1 hk2
 have h128:=sg128 (gA_sg hf.2 r c)
 rw[<-hm]at q
 refine⟨_,(km (k7 (pe_and (pe_fn Fopen hr (by decide) rfl (pa_c (pv 0) (pa_c (pv 1) kb))) (pe_one (pe_cmpR (op_inD hu) (pe_fn Fwant hr (by decide) rfl (pa_c (pv 0) (pa_c (pv 1) kb))) (lc (pa_c pe_non (pa_c (pv 2) kb))) rfl))))),?_⟩
 refine⟨_,rfl,_,rfl,a,b,M,r,c,rfl,hf,hb,_,rfl,?_⟩
 refine ite2 (λh1=>?_) (λh1=>?_)
 .rw[h1,Bool.true_and]at q
  refine⟨_,rfl,_,rfl,a,b,M,r,c,rfl,hf,hb,_,rfl,(by show 2<=sizeLine;decide),λp hp=>?_⟩
  have s1:Same H (upd H p (.tup [.non,.str ⟨#[k]⟩])):=Same.fresh _ hp
  have c1:upd H p (.tup [.non,.str ⟨#[k]⟩]) p=some (.tup [.non,.str ⟨#[k]⟩]):=kh
  generalize upd H p (.tup [.non,.str ⟨#[k]⟩])=H1 at *
  generalize gA M r c=g at *
  refine⟨if (big g||small g)=true then .str ⟨#[up1 g]⟩else .none,p,_,[.none,.str ⟨#[k]⟩],?_,rfl,.inr c1,?_,?_,?_⟩
  .unfold wantV
   split
   .exact⟨rfl,ok1 (up128 h128)⟩
   .rfl
  .exact⟨_,_,rfl,rfl,_,_,rfl,⟨rfl,ok1 (by omega)⟩,rfl⟩
  .split<;>simp[gu]
  .rw[if_neg ah,want_any]
   exact q H1 s1
 .rw[Bool.eq_false_iff.mpr h1,Bool.false_and]at q
  exact q H (Same.refl _)
end
noncomputable def fitT(M:Mat):PyData->Bool
 | .tuple es=>es.all (fitD M)
 | _=>false
noncomputable def shT(M:Mat)(es:List PyData)(i:Nat):PyData:=.tuple (es.map (sh1 ((i/M.w:Nat):Int) ((i % M.w:Nat):Int)))
noncomputable def plS(M:Mat)(es:List PyData)(k:Nat):List PyData:=((cx k).map (shT M es)).filter (fitT M)
theorem plS_succ(M:Mat)(es:List PyData)(k:Nat):plS M es (k+1)=plS M es k++if fitT M (shT M es k)=true then[shT M es k]else[]:=by
 unfold plS
 rw[jk,cm,List.filter_append]
 congr 1
 cases h:fitT M (shT M es k)<;>simp[h]
theorem plS_len(M:Mat)(es:List PyData)(k:Nat):(plS M es k).length<=k:=by
 have:=gy (fitT M) ((cx k).map (shT M es))
 rw[aj,gk]at this
 exact this
theorem plS_mem{M:Mat}{es:List PyData}{k:Nat}{d:PyData}:d∈plS M es k↔∃i,i<k/\d=shT M es i/\fitT M d=true:=by
 unfold plS
 rw[dv,bi]
 constructor
 .rintro⟨⟨i,hi,rfl⟩,h⟩
  exact⟨i,f7.mp hi,rfl,h⟩
 .rintro⟨i,hi,rfl,h⟩
  exact⟨⟨i,f7.mpr hi,rfl⟩,h⟩
theorem shT_imm{M:Mat}{es:List PyData}(h:∀d∈es,SgN d){ds:List PyData}(hd:∀d∈ds,∃i,d=shT M es i):mf ds=true:=ng λd hx=>by
 obtain⟨i,rfl⟩:=hd d hx
 exact Spots.imm (SgN.spots (SgN.shs h))
theorem bl_take{M:Mat}{es:List PyData}{i:Nat}{d:PyData}(h:es[i]?=some d):((es.take (i+1)).map (fitD M)).map V.bl=((es.take i).map (fitD M)).map V.bl++[V.bl (fitD M d)]:=by
 rw[k8 (fitD M) h,cm]
 rfl
section
variable{P:Program}{w:World}{K:aq}{mg:Str->Option Value}{base:Heap}{f:Addr}{fd:FuncData}
noncomputable def spMay:Sp:=λvs H Q _=>∃(a b:Addr) (M:Mat) (xs:List V) (es:List PyData),vs=[.ref a,.ref b]/\FlM H a M/\H b=some (.tup xs)/\RepAll H es xs/\(∀d∈es,SgN d)/\es.length<=6/\∀H',Same H H'->Q (.bl (fitT M (.tuple es))) H'
theorem scMay:ky ["floor","spots"] ["floor","spots"] (kq sMay):=⟨rfl,rfl,rfl,by decide +kernel,rfl,by decide +kernel,by decide +kernel⟩
theorem ok_mayl(B:∀x∈blts,mg x=none)(Fmcv:Fn P w K mg base "may_cover" 3 ["floor","cell","sign"] spMcv)(F:Fun K "may_lie" "may_lie" sMay f fd):FnOk P w K mg base CX0 4 f fd ["floor","spots"] spMay:=by
 refine F.ok (k:=3) scMay (λvs H Q E h=>?_) (λcdv A outer s H vs Q E hr h=>?_)
 .obtain⟨a,b,M,xs,es,rfl,_⟩:=h
  rfl
 obtain⟨a,b,M,xs,es,rfl,hf,hb,rep,hs,h6,q⟩:=h
 have hl:=rep.length
 refine⟨_,(km (k7 (pe_cB (call_all rfl) rfl (B "all" (by decide)) boot_all (pa_c (lj ["row","column","sign","floor"] [none,none,none,some 0] rfl rfl (by decide +kernel) (by decide +kernel) rfl rfl (pi_tup (pv 1)) (λ_=>(oe (n:=3) rfl (kj (ke (i:=0) (show(["row","column","sign","floor"]:List PySem.Str).Nodup by decide +kernel) rfl (Or.inl rfl)) (kj (ke (i:=1) (show(["row","column","sign","floor"]:List PySem.Str).Nodup by decide +kernel) rfl (Or.inl rfl)) (kj (ke (i:=2) (show(["row","column","sign","floor"]:List PySem.Str).Nodup by decide +kernel) rfl (Or.inl rfl)) lq))))) (λ_=>me) (λ_=>(pe_fn Fmcv hr (by decide) rfl (pa_c (pv 3) (pa_c (lc (pa_c (pv 0) (pa_c (pv 1) kb))) (pa_c (pv 2) kb)))))) kb)))),?_⟩
 refine⟨_,rfl,b,rfl,⟨_,SqT.of hb⟩,λD hD=>?_⟩
 refine comp_tup (xs:=xs) (λi zs G=>Same H G/\zs=((es.take i).map (fitD M)).map V.bl) ⟨Same.fresh _ hD,rfl⟩ (λi zs G p=>SqT.of (p.1 _ _ hb)) (λi x zs G hx hi hDy hzl p=>?_) (λzs G hDy hzl p=>?_)
 .obtain⟨p1,rfl⟩:=p
  obtain⟨d,hd,rd⟩:=rep.at hx
  obtain⟨r,c,k,rfl,hk1,hk2⟩:=hs d (am hd)
  obtain⟨b',rfl,hb',_⟩:=oy rd
  refine⟨b',_,rfl,SqT.of (p1 _ _ hb'),rfl,_,_,rfl,_,_,rfl,_,_,rfl,rfl,?_⟩
  refine⟨Agree.set (Agree.set (Agree.set (Agree.refl _) rfl) rfl) rfl,?_⟩
  dsimp only[tYes]
  refine iteT ?_
  refine⟨_,rfl,_,rfl,_,rfl,(by show 2<=sizeLine;decide),λp hp=>?_⟩
  have s2:Same G (upd G p (.tup [.int (r:Nat),.int (c:Nat)])):=Same.fresh _ hp
  have c2:upd G p (.tup [.int (r:Nat),.int (c:Nat)]) p=some (.tup [.int (r:Nat),.int (c:Nat)]):=kh
  generalize upd G p (.tup [.int (r:Nat),.int (c:Nat)])=G2 at *
  refine⟨_,rfl,a,p,M,r,c,k,rfl,hf.same (p1.trans s2),c2,hk1,hk2,λG3 s3=>?_⟩
  refine nk (by omega) (s3 _ _ (s2 _ _ hDy)) hzl ⟨((p1.trans s2).trans s3).new hD,?_⟩
  rw[bl_take hd,fit_at]
 .obtain⟨p1,rfl⟩:=p
  rw[a7 (by omega)]at hDy
  refine⟨D,_,rfl,hDy,?_⟩
  rw[List.all_map]
  exact q G p1
noncomputable def spShf:Sp:=λvs H Q _=>∃(b:Addr) (dn rt:Int) (xs:List V) (es:List PyData),vs=[.ref b,.int dn,.int rt]/\H b=some (.tup xs)/\RepAll H es xs/\Spots es/\es.length<=64/\∀r ys H',Same H H'->H r=none->H' r=some (.tup ys)->RepAll H' (es.map (sh1 dn rt)) ys->Q (.ref r) H'
theorem scShf:ky ["spots","down","right"] ["spots","down","right"] (kq sShf):=⟨rfl,rfl,rfl,by decide +kernel,rfl,by decide +kernel,by decide +kernel⟩
theorem ok_shf(B:∀x∈blts,mg x=none)(F:Fun K "shifted" "shifted" sShf f fd):FnOk P w K mg base CX0 1 f fd ["spots","down","right"] spShf:=by
 refine F.ok (k:=0) scShf (λvs H Q E h=>?_) (λcdv A outer s H vs Q E hr h=>?_)
 .obtain⟨b,dn,rt,xs,es,rfl,_⟩:=h
  rfl
 obtain⟨b,dn,rt,xs,es,rfl,hb,rep,hs,h64,q⟩:=h
 refine⟨_,(km (k7 (pe_cT mw rfl (B "tuple" (by decide)) boot_tuple (pa_c (lj ["row","column","sign","down","right"] [none,none,none,some 1,some 2] rfl rfl (by decide +kernel) (by decide +kernel) rfl rfl (pi_seq (pv 0)) (λ_=>(oe (n:=3) rfl (kj (ke (i:=0) (show(["row","column","sign","down","right"]:List PySem.Str).Nodup by decide +kernel) rfl (Or.inl rfl)) (kj (ke (i:=1) (show(["row","column","sign","down","right"]:List PySem.Str).Nodup by decide +kernel) rfl (Or.inl rfl)) (kj (ke (i:=2) (show(["row","column","sign","down","right"]:List PySem.Str).Nodup by decide +kernel) rfl (Or.inl rfl)) lq))))) (λ_=>me) (λ_=>(lc (pa_c (pe_op nq (pv 0) (pv 3)) (pa_c (pe_op nq (pv 1) (pv 4)) (pa_c (pv 2) kb)))))) kb)))),?_⟩
 refine read_spotT (sh1 dn rt) rfl rfl (.inr hb) rep hs h64 (λr c z H' Q' h=>?_) (λr c z=>⟨_,_,rfl⟩) λD ys H2 hD sm hDy rep2=>?_
 .obtain⟨u,v,e,q⟩:=h
  cases (show PyData.tuple [.int (r+dn),.int (c+rt),.str z]=.tuple [.int u,.int v,.str z]from e)
  exact⟨_,rfl,_,rfl,_,_,rfl,rfl,_,rfl,_,rfl,_,_,rfl,rfl,_,rfl,(by show 3<=sizeLine;decide),q⟩
 .refine⟨D,ys,rfl,.inl ⟨SqL.of hDy,λl hl=>?_⟩⟩
  have s2:Same H2 (upd H2 l (.tup ys)):=Same.fresh _ hl
  exact q l ys _ (sm.trans s2) (sm.free hl) kh (rep2.same s2)
end
section
variable{P:Program}{w:World}{K:aq}{mg:Str->Option Value}{base:Heap}{f:Addr}{fd:FuncData}
noncomputable def spPla:Sp:=λvs H Q _=>∃(a b:Addr) (M:Mat) (xs:List V) (es:List PyData),vs=[.ref a,.ref b]/\FlM H a M/\H b=some (.tup xs)/\RepAll H es xs/\(∀d∈es,SgN d)/\es.length<=6/\
 ∀(D:Addr) (ys:List V) (H':Hp),Same H H'->H' D=some (.lst ys)->RepAll H' (plS M es (M.h*M.w)) ys->Q (.ref D) H'
theorem scPla:ky ["floor","form","shifts"] ["floor","form"] (kq sPla):=⟨rfl,rfl,rfl,by decide +kernel,rfl,by decide +kernel,by decide +kernel⟩
theorem ok_pla(B:∀x∈blts,mg x=none)(Fspots:Fn P w K mg base "floor_spots" 1 ["floor"] spSpots)(Fshf:Fn P w K mg base "shifted" 1 ["spots","down","right"] spShf)(Fmay:Fn P w K mg base "may_lie" 4 ["floor","spots"] spMay)(F:Fun K "places" "places" sPla f fd):FnOk P w K mg base CX0 5 f fd ["floor","form"] spPla:=by
 refine F.ok (k:=4) scPla (λvs H Q E h=>?_) (λcdv A outer s H vs Q E hr h=>?_)
 .obtain⟨a,b,M,xs,es,rfl,_⟩:=h
  rfl
 obtain⟨a,b,M,xs,es,rfl,hf,hb,rep,hs,h6,q⟩:=h
 have okM:=hf.2
 have hw1:=okM.w1
 have hhw:M.h*M.w<=64:=Nat.mul_le_mul okM.h8 okM.w8
 refine⟨_,(kc (ps_setC (i:=2) ["row","column","sign","form"] [none,none,none,some 1] scPla.nd rfl (Or.inl rfl) rfl rfl rfl (by decide +kernel) (by decide +kernel) rfl rfl (lm (pe_fn Fspots hr (by decide) rfl (pa_c (pv 0) kb))) (λ_=>(oe (n:=3) rfl (kj (ke (i:=0) (show(["row","column","sign","form"]:List PySem.Str).Nodup by decide +kernel) rfl (Or.inl rfl)) (kj (ke (i:=1) (show(["row","column","sign","form"]:List PySem.Str).Nodup by decide +kernel) rfl (Or.inl rfl)) (kj (ke (i:=2) (show(["row","column","sign","form"]:List PySem.Str).Nodup by decide +kernel) rfl (Or.inl rfl)) lq))))) (λ_=>me) (λ_=>(pe_fn Fshf hr (by decide) rfl (pa_c (pv 3) (pa_c (pv 0) (pa_c (pv 1) kb))))))
  (km (k7 (lj ["spots","floor"] [none,some 0] rfl rfl (by decide +kernel) (by decide +kernel) rfl rfl (lm (pv 2)) (λ_=>(ke (i:=0) (show(["spots","floor"]:List PySem.Str).Nodup by decide +kernel) rfl (Or.inl rfl))) (λ_=>pts_one (pt_val (pe_fn Fmay hr (by decide) rfl (pa_c (pv 1) (pa_c (pv 0) kb))))) (λ_=>(pv 0)))))),?_⟩
 refine⟨_,rfl,a,strsM M,rfl,FlM.fl hf,λD1 ys1 H1 s1 hD1 hl1 rep1=>?_⟩
 rw[oq,allSp_read M M.h (ao _)]at rep1
 have ly1:=rep1.length
 rw[aj,gk]at ly1
 refine⟨D1,rfl,⟨_,SqL.of hD1⟩,λD hD=>?_⟩
 refine lr (xs:=ys1) (λi zs G=>Same H1 G/\RepAll G ((cx i).map (shT M es)) zs) ⟨Same.fresh _ hD,rfl⟩ (λi zs G p=>SqL.of (p.1 _ _ hD1)) (λi x zs G hx hi hDy hzl p=>?_) (λzs G hDy hzl p=>?_)
 .obtain⟨p1,p2⟩:=p
  obtain⟨d,hd,rd⟩:=rep1.at hx
  rw[be,List.getElem?_range (by omega)]at hd
  cases hd
  obtain⟨b',rfl,hb',_⟩:=oy rd
  refine⟨b',_,rfl,SqT.of (p1 _ _ hb'),rfl,_,_,rfl,_,_,rfl,_,_,rfl,rfl,?_⟩
  refine⟨Agree.set (Agree.set (Agree.set (Agree.refl _) rfl) rfl) rfl,?_⟩
  dsimp only[tYes]
  refine iteT ?_
  have sG:=s1.trans p1
  refine⟨_,rfl,_,rfl,_,rfl,b,((i/M.w:Nat):Int),((i % M.w:Nat):Int),xs,es,rfl,sG _ _ hb,rep.same sG,SgN.spots hs,by omega,λr ys G2 s2 _ hr2 rep2=>?_⟩
  have hD2:=s2 _ _ hDy
  refine nk (by omega) hD2 hzl ⟨(p1.trans s2).new hD,?_⟩
  rw[jk,cm]
  refine((p2.same s2).snoc (show Rep G2 (shT M es i) (.ref r)from ⟨r,ys,rfl,hr2,rep2⟩)).tk (Tk.lst hD2) (shT_imm (M:=M) hs λd hd=>?_)
  rcases bm.mp hd with h|h
  .obtain⟨j,_,rfl⟩:=bi.mp h
   exact⟨j,rfl⟩
  .exact⟨i,ba.mp h⟩
 .obtain⟨p1,p2⟩:=p
  have lz:=p2.length
  rw[aj,gk]at lz
  have sG:=s1.trans p1
  refine⟨_,rfl,D,rfl,⟨_,SqL.of hDy⟩,λD3 hD3=>?_⟩
  refine lr (xs:=zs) (λi us G3=>Same G G3/\RepAll G3 (plS M es i) us) ⟨Same.fresh _ hD3,rfl⟩ (λi us G3 p=>SqL.of (p.1 _ _ hDy)) (λi x us G3 hx hi hDy3 hul p=>?_) (λus G3 hDy3 hul p=>?_)
  .obtain⟨p3,p4⟩:=p
   obtain⟨d,hd,rd⟩:=p2.at hx
   rw[be,List.getElem?_range (by omega)]at hd
   cases hd
   have rd0:=id rd
   obtain⟨c',ys',rfl,hc',rep'⟩:=rd
   refine⟨Agree.set (Agree.refl _) rfl,?_⟩
   refine⟨_,rfl,_,rfl,a,c',M,ys',_,rfl,hf.same (sG.trans p3),p3 _ _ hc',rep'.same p3,SgN.shs hs,by rw[aj];exact h6,λG4 s4=>?_⟩
   refine⟨_,rfl,?_⟩
   have hD4:=s4 _ _ hDy3
   have im:mf (plS M es (i+1))=true:=shT_imm (M:=M) hs λd hd=>by
    obtain⟨j,_,e,_⟩:=plS_mem.mp hd
    exact⟨j,e⟩
   refine ite2 (λh1=>?_) (λh1=>?_)
   .refine⟨_,rfl,?_⟩
    refine nk (by omega) hD4 hul ⟨(p3.trans s4).new hD3,?_⟩
    have e1:plS M es (i+1)=plS M es i++[shT M es i]:=by rw[plS_succ,if_pos (show fitT M (shT M es i)=true from h1)]
    rw[e1]at im
    rw[e1]
    exact((p4.same s4).snoc (Rep.same (p3.trans s4) rd0)).tk (Tk.lst hD4) im
   .refine⟨_,hD4,by omega,p3.trans s4,?_⟩
    rw[plS_succ,if_neg (show ¬fitT M (shT M es i)=true from h1),ck]
    exact p4.same s4
  .obtain⟨p3,p4⟩:=p
   rw[lz,ly1]at p4
   exact q D3 us G3 (sG.trans p3) hDy3 p4
end
theorem zr_n{es:List PyData}(h:Zr es):∀d∈es,SgN d:=λd hd=>by
 obtain⟨r,c,k,rfl,hk⟩:=h.pre.sg d hd
 have h1:minI (es.map row1)<=r:=minI_le _ (List.mem_map_of_mem (f:=row1) hd)
 have h2:minI (es.map col1)<=c:=minI_le _ (List.mem_map_of_mem (f:=col1) hd)
 rw[h.r0]at h1
 rw[h.c0]at h2
 refine⟨r.toNat,c.toNat,k,?_,hk⟩
 rw[Int.toNat_of_nonneg h1,Int.toNat_of_nonneg h2]
noncomputable def unT:PyData->List PyData
 | .tuple es=>es
 | _=>[]
noncomputable def plN(M:Mat)(n:Nat)(d:PyData):List PyData:=(plS M (unT d) (M.h*M.w)).map λs=>.tuple [s,.int (n:Nat)]
noncomputable def plK(M:Mat)(n:Nat)(k:List PyData×Nat):List PyData:=(FS k.1 k.2).flatMap (plN M n)
noncomputable def raw(M:Mat)(ks:List (List PyData×Nat)):Nat->List PyData
 | 0=>[]
 | i+1=>raw M ks i++(match ks[i]? with|some k=>plK M i k|none=>[])
theorem raw_succ{M:Mat}{ks:List (List PyData×Nat)}{i:Nat}{k:List PyData×Nat}(h:ks[i]?=some k):raw M ks (i+1)=raw M ks i++plK M i k:=by
 show raw M ks i++_=_
 rw[h]
noncomputable def PlD(d:PyData):Prop:=∃es n,d=.tuple [.tuple es,.int n]/\(∀e∈es,SgN e)/\0<es.length/\es.length<=6
theorem mem_plN{M:Mat}{n:Nat}{es:List PyData}{d:PyData}:d∈plN M n (.tuple es)↔∃i,i<M.h*M.w/\d=.tuple [shT M es i,.int (n:Nat)]/\fitT M (shT M es i)=true:=by
 unfold plN
 rw[bi]
 constructor
 .rintro⟨s,hs,rfl⟩
  obtain⟨i,hi,rfl,h⟩:=plS_mem.mp hs
  exact⟨i,hi,rfl,h⟩
 .rintro⟨i,hi,rfl,h⟩
  exact⟨_,plS_mem.mpr ⟨i,hi,rfl,h⟩,rfl⟩
theorem mem_raw{M:Mat}{ks:List (List PyData×Nat)}{d:PyData}:∀{j:Nat},d∈raw M ks j↔∃(n:Nat) (k:List PyData×Nat),n<j/\ks[n]?=some k/\d∈plK M n k
 | 0=>⟨λh=>(by cases h),λ⟨n,_,h,_⟩=>absurd h (Nat.not_lt_zero _)⟩
 | j+1=>by
  show d∈raw M ks j++_↔_
  rw[bm,mem_raw]
  constructor
  .rintro(⟨n,k,h1,h2,h3⟩|h)
   .exact⟨n,k,by omega,h2,h3⟩
   .cases e:ks[j]? with
    | none=>rw[e]at h;cases h
    | some k=>rw[e]at h;exact⟨j,k,by omega,e,h⟩
  .rintro⟨n,k,h1,h2,h3⟩
   by_cases hn:n<j
   .exact .inl ⟨n,k,hn,h2,h3⟩
   .have:n=j:=by omega
    subst this
    rw[h2]
    exact .inr h3
theorem mem_plK{M:Mat}{n:Nat}{k:List PyData×Nat}(hz:Zr k.1){d:PyData}:d∈plK M n k↔∃es i,.tuple es∈FS k.1 k.2/\i<M.h*M.w/\d=.tuple [shT M es i,.int (n:Nat)]/\fitT M (shT M es i)=true:=by
 unfold plK
 rw[fh]
 constructor
 .rintro⟨x,hx,h⟩
  obtain⟨es,rfl,_⟩:=FS_frm hz x hx
  obtain⟨i,h1,h2,h3⟩:=mem_plN.mp h
  exact⟨es,i,hx,h1,h2,h3⟩
 .rintro⟨es,i,h1,h2,h3,h4⟩
  exact⟨_,h1,mem_plN.mpr ⟨i,h2,h3,h4⟩⟩
noncomputable def KsZ(ks:List (List PyData×Nat)):Prop:=∀k∈ks,Zr k.1/\k.2<=8
theorem sh_len(es:List PyData)(a b:Int):(es.map (sh1 a b)).length=es.length:=aj _
theorem plK_pl{M:Mat}{n:Nat}{k:List PyData×Nat}(hz:Zr k.1){d:PyData}(h:d∈plK M n k):PlD d:=by
 obtain⟨es,i,h1,h2,rfl,h4⟩:=(mem_plK hz).mp h
 obtain⟨es',e,hz'⟩:=FS_frm hz _ h1
 cases e
 exact⟨_,_,rfl,SgN.shs (zr_n hz'),by rw[sh_len];exact hz'.pre.pos,by rw[sh_len];exact hz'.pre.six⟩
theorem raw_pl{M:Mat}{ks:List (List PyData×Nat)}(h:KsZ ks){j:Nat}:∀d∈raw M ks j,PlD d:=λd hd=>by
 obtain⟨n,k,_,h2,h3⟩:=mem_raw.mp hd
 exact plK_pl (h k (am h2)).1 h3
theorem min_add{ns:List Int}(h:0<ns.length)(m:Int):minI (ns.map λx=>x+m)=minI ns+m:=by
 refine(minI_eq ?_ λa ha=>?_).symm
 .exact bi.mpr ⟨minI ns,minI_mem h,rfl⟩
 .obtain⟨x,hx,rfl⟩:=bi.mp ha
  have:=minI_le x hx
  omega
theorem row_sh{es:List PyData}(h:Spots es)(a b:Int):(es.map (sh1 a b)).map row1=(es.map row1).map λx=>x+a:=by
 rw[bp,bp]
 exact my h λr c z=>rfl
theorem col_sh{es:List PyData}(h:Spots es)(a b:Int):(es.map (sh1 a b)).map col1=(es.map col1).map λx=>x+b:=by
 rw[bp,bp]
 exact my h λr c z=>rfl
theorem sh_back{es:List PyData}(h:Spots es)(a b:Int):(es.map (sh1 a b)).map (sh1 (-a) (-b))=es:=by
 rw[bp]
 conv=>rhs;rw[<-List.map_id es]
 exact my h λr c z=>by
  show PyData.tuple [.int (r+a + -a),.int (c+b + -b),.str z]=.tuple [.int r,.int c,.str z]
  rw[Int.add_neg_cancel_right,Int.add_neg_cancel_right]
theorem sh_inj{es fs:List PyData}(h:Zr es)(h':Zr fs){a b a' b':Int}(e:es.map (sh1 a b)=fs.map (sh1 a' b')):es=fs/\a=a'/\b=b':=by
 have e1:=congrArg (λl=>minI (l.map row1)) e
 have e2:=congrArg (λl=>minI (l.map col1)) e
 rw[row_sh h.pre.spots,row_sh h'.pre.spots,min_add (by rw[aj];exact h.pre.pos),min_add (by rw[aj];exact h'.pre.pos),h.r0,h'.r0,ka,ka]at e1
 rw[col_sh h.pre.spots,col_sh h'.pre.spots,min_add (by rw[aj];exact h.pre.pos),min_add (by rw[aj];exact h'.pre.pos),h.c0,h'.c0,ka,ka]at e2
 subst e1;subst e2
 have e3:=congrArg (List.map (sh1 (-a) (-b))) e
 rw[sh_back h.pre.spots,sh_back h'.pre.spots]at e3
 exact⟨e3,rfl,rfl⟩
theorem shT_inj{M:Mat}(hw:0<M.w){es fs:List PyData}(h:Zr es)(h':Zr fs){i j:Nat}(e:shT M es i=shT M fs j):es=fs/\i=j:=by
 unfold shT at e
 injection e with e
 obtain⟨e1,e2,e3⟩:=sh_inj h h' e
 refine⟨e1,?_⟩
 have d1:i/M.w=j/M.w:=by omega
 have d2:i % M.w=j % M.w:=by omega
 rw[<-Nat.div_add_mod i M.w,<-Nat.div_add_mod j M.w,d1,d2]
theorem FS_nd(es:List PyData)(n:Nat):(FS es n).Nodup:=(mh _).nodup_iff.mpr (ddp_nd _)
theorem plS_nd{M:Mat}(hw:0<M.w){es:List PyData}(h:Zr es)(k:Nat):(plS M es k).Nodup:=by
 unfold plS
 refine List.Pairwise.filter _ (fk.mpr ?_)
 refine List.Pairwise.imp ?_ (List.nodup_range (n:=k))
 intro a b hab e
 exact hab (shT_inj hw h h e).2
theorem plN_nd{M:Mat}(hw:0<M.w){es:List PyData}(h:Zr es)(n:Nat):(plN M n (.tuple es)).Nodup:=by
 unfold plN
 refine fk.mpr (List.Pairwise.imp ?_ (plS_nd hw h _))
 intro a b hab e
 injection e with e
 injection e with e _
 exact hab e
theorem plK_nd{M:Mat}(hw:0<M.w){k:List PyData×Nat}(h:Zr k.1)(n:Nat):(plK M n k).Nodup:=by
 unfold plK
 refine List.pairwise_flatMap.mpr ⟨λa ha=>?_,fv (λ{a b} ha hb hab=>?_) (FS_nd k.1 k.2)⟩
 .obtain⟨es,rfl,hz⟩:=FS_frm h a ha
  exact plN_nd hw hz n
 .obtain⟨es,rfl,hz⟩:=FS_frm h a ha
  obtain⟨fs,rfl,hz'⟩:=FS_frm h b hb
  intro x hx y hy e
  obtain⟨i,_,rfl,_⟩:=mem_plN.mp hx
  obtain⟨j,_,rfl,_⟩:=mem_plN.mp hy
  injection e with e
  injection e with e _
  exact hab (by rw[(shT_inj hw hz hz' e).1])
theorem raw_nd{M:Mat}(hw:0<M.w){ks:List (List PyData×Nat)}(h:KsZ ks):∀j,(raw M ks j).Nodup
 | 0=>List.nodup_nil
 | j+1=>by
  show(raw M ks j++_).Nodup
  cases e:ks[j]? with
  | none=>rw[ck];exact raw_nd hw h j
  | some k=>
   refine List.nodup_append.mpr ⟨raw_nd hw h j,plK_nd hw (h k (am e)).1 j,λa ha b hb e2=>?_⟩
   obtain⟨n,k',hn,hk',hm⟩:=mem_raw.mp ha
   obtain⟨es,i,_,_,rfl,_⟩:=(mem_plK (h k' (am hk')).1).mp hm
   obtain⟨fs,i',_,_,rfl,_⟩:=(mem_plK (h k (am e)).1).mp hb
   injection e2 with e2
   injection e2 with _ e2
   injection e2 with e2 _
   injection e2 with e2
   omega
theorem flat_len{α β:Type}{f:α->List β}{m:Nat}:∀{l:List α},(∀x∈l,(f x).length<=m)->(l.flatMap f).length<=l.length*m
 | [],_=>by simp
 | x::l,h=>by
  have h1:=h x au
  have h2:=flat_len λy hy=>h y (av _ hy)
  rw[List.flatMap_cons,bo,bu,Nat.add_mul,Nat.one_mul]
  omega
theorem plN_len{M:Mat}(o:OkM SgP M)(n:Nat)(d:PyData):(plN M n d).length<=64:=by
 have:=plS_len M (unT d) (M.h*M.w)
 have h64:M.h*M.w<=64:=Nat.mul_le_mul o.h8 o.w8
 unfold plN
 rw[aj]
 omega
theorem plK_len{M:Mat}(o:OkM SgP M)(n:Nat){k:List PyData×Nat}(h8:k.2<=8):(plK M n k).length<=512:=by
 have h1:=flat_len (f:=plN M n) (m:=64) (l:=FS k.1 k.2) λx _=>plN_len o n x
 have h2:=FS_len (es:=k.1) (n:=k.2)
 have:(plK M n k).length<=(FS k.1 k.2).length*64:=h1
 omega
theorem raw_len{M:Mat}(o:OkM SgP M){ks:List (List PyData×Nat)}(h:KsZ ks):∀j,(raw M ks j).length<=j*512
 | 0=>by simp[raw]
 | j+1=>by
  have h1:=raw_len o h j
  show(raw M ks j++_).length<=_
  rw[bo]
  cases e:ks[j]? with
  | none=>simp only[i7];omega
  | some k=>have:=plK_len o j (h k (am e)).2;simp only;omega
theorem SgN.sg{d:PyData}(h:SgN d):SgD d:=by
 obtain⟨r,c,k,e,hk⟩:=h
 exact⟨r,c,k,e,hk⟩
theorem PlD.key{d:PyData}(h:PlD d):KeyD d/\L3.TT d:=by
 obtain⟨es,n,rfl,hs,_⟩:=h
 have hd:=depth_spot (SgN.spots hs)
 refine⟨⟨?_,⟨_,rfl⟩,by simp[gu,bv];omega⟩,⟨_,_,rfl⟩⟩
 show(kdAll es&&(true&&true))=true
 rw[sgs_kd λd hd=>(hs d hd).sg]
 rfl
theorem PlD.cmp{ds:List PyData}(h:∀d∈ds,PlD d):CmpA ds:=
 ⟨λx hx y hy=>by
  obtain⟨es,n,rfl,hs,_⟩:=h x hx
  obtain⟨fs,m,rfl,hs',_⟩:=h y hy
  exact⟨sgs_cmp (λd hd=>(hs d hd).sg) (λd hd=>(hs' d hd).sg),trivial,trivial⟩,λx hx=>(h x hx).key.1.1⟩
theorem PlD.imm:∀{ds:List PyData},(∀d∈ds,PlD d)->mf ds=true
 | [],_=>rfl
 | d::ds,a=>by
  obtain⟨es,n,rfl,hs,_⟩:=a d au
  have h1:=Spots.imm (SgN.spots hs)
  have h2:=PlD.imm λx hx=>a x (av _ hx)
  show(_root_.L3.imm (.tuple [.tuple es,.int n])&&mf ds)=true
  rw[h2,Bool.and_true]
  show(mf es&&true)=true
  rw[h1]
  rfl
theorem PlD.depth{d:PyData}(h:PlD d):d.depth<=4:=by
 obtain⟨es,n,rfl,hs,_⟩:=h
 have hd:=depth_spot (SgN.spots hs)
 simp[gu,bv]
 omega
theorem PlD.depths:∀{ds:List PyData},(∀d∈ds,PlD d)->bv ds<=4
 | [],_=>by simp[bv]
 | d::ds,h=>by
  have h1:=(h d au).depth
  have h2:=PlD.depths λe he=>h e (av _ he)
  show max d.depth (bv ds)<=4
  omega
noncomputable def PL(M:Mat)(ks:List (List PyData×Nat)):List PyData:=sortE (raw M ks ks.length)
theorem PL_pl{M:Mat}{ks:List (List PyData×Nat)}(h:KsZ ks):∀d∈PL M ks,PlD d:=λd hd=>raw_pl h d ((mh _).mem_iff.mp hd)
theorem KindsK.z{H:Hp}{kvs:List V}{ks:List (List PyData×Nat)}(h:KindsK H kvs ks):KsZ ks:=λk hk=>by
 obtain⟨i,hi,rfl⟩:=List.getElem_of_mem hk
 have hi':i<kvs.length:=by rw[h.1];exact hi
 obtain⟨b,nm,u1,u2,m,fr,xs,_,_,_,_,hz,hm⟩:=h.2 i _ _ (ab hi') (ab hi)
 exact⟨hz,by rcases hm with h|h|h<;>omega⟩
theorem flat_take{α β:Type}{f:α->List β}{l:List α}{i:Nat}{x:α}(h:l[i]?=some x):(l.take (i+1)).flatMap f=(l.take i).flatMap f++f x:=by
 rw[ig,h,List.flatMap_append]
 simp
theorem pl_take{s:List PyData}{n:Nat}{i:Nat}{x:PyData}(h:s[i]?=some x):(s.take (i+1)).map (λs=>PyData.tuple [s,.int (n:Nat)])=(s.take i).map (λs=>PyData.tuple [s,.int (n:Nat)])++[.tuple [x,.int (n:Nat)]]:=k8 _ h
section
variable{P:Program}{w:World}{K:aq}{mg:Str->Option Value}{base:Heap}{f:Addr}{fd:FuncData}
noncomputable def spPlc:Sp:=λvs H Q _=>∃(p:Addr) (M:Mat) (ks:List (List PyData×Nat)),vs=[.ref p]/\PzK H p M ks/\∀(l:Addr) (ys:List V) (H':Hp),Same H H'->H l=none->H' l=some (.lst ys)->RepAll H' (PL M ks) ys->Q (.ref l) H'
theorem scPlc:ky ["puzzle","found","number","kind","form"] ["puzzle"] (kq sPlc):=⟨rfl,rfl,rfl,by decide +kernel,rfl,by decide +kernel,by decide +kernel⟩
theorem ok_plc(B:∀x∈blts,mg x=none)(Fforms:Fn P w K mg base "forms_of" 3 ["form","mode"] spForms)(Fpla:Fn P w K mg base "places" 5 ["floor","form"] spPla)(F:Fun K "placements" "placements" sPlc f fd):FnOk P w K mg base CX0 6 f fd ["puzzle"] spPlc:=by
 refine F.ok (k:=5) scPlc (λvs H Q E h=>?_) (λcdv A outer s H vs Q E hr h=>?_)
 .obtain⟨p,M,ks,rfl,_⟩:=h
  rfl
 obtain⟨p,M,ks,rfl,⟨fl,kr,e,kvs,hp,hfl,hkr,hks,h6⟩,q⟩:=h
 have hu:=hr.units
 have okM:=hfl.2
 have hKZ:=hks.z
 refine⟨_,(kc (k6 (i:=1) scPlc.nd rfl (Or.inl rfl) (ny kb))
  (kc (m7 b7 rfl (pi_enT rfl (B "enumerate" (by decide)) (pa_c (pe_ix li (pv 0) kg (λ_ _=>rfl)) kb)) (pg_tup (n:=2) rfl (kj (ke (i:=2) scPlc.nd rfl (Or.inr rfl)) (kj (ke (i:=3) scPlc.nd rfl (Or.inl rfl)) lq))) (km (m7 b7 rfl (lm (pe_fn Fforms hr (by decide) rfl (pa_c (pe_ix li (pv 3) kg (λ_ _=>rfl)) (pa_c (pe_ix li (pv 3) kg (λ_ _=>rfl)) kb)))) (ke (i:=4) scPlc.nd rfl (Or.inl rfl)) (km (ps_expr (pe_bm ff PySem.F.slot_list_extend PySem.F.type_list_extend mt_extend (pv 1) (pa_c (lj ["spots","number"] [none,some 2] rfl rfl (by decide +kernel) (by decide +kernel) rfl rfl (lm (pe_fn Fpla hr (by decide) rfl (pa_c (pe_ix li (pv 0) kg (λ_ _=>rfl)) (pa_c (pv 4) kb)))) (λ_=>(ke (i:=0) (show(["spots","number"]:List PySem.Str).Nodup by decide +kernel) rfl (Or.inl rfl))) (λ_=>me) (λ_=>(lc (pa_c (pv 0) (pa_c (pv 1) kb))))) kb)))))))
  (km (k7 (pe_sortset rfl hu rfl (B "sorted" (by decide)) rfl (B "set" (by decide)) (pa_c (pv 1) kb)))))),?_⟩
 refine⟨(by show 0<=sizeLine;decide),λD hD=>?_⟩
 have s1:Same H (upd H D (.lst [])):=Same.fresh _ hD
 have d1:upd H D (.lst []) D=some (.lst ([]:List V)):=kh
 generalize upd H D (.lst [])=H1 at *
 refine⟨_,rfl,p,_,_,_,rfl,rfl,SqT.of (s1 _ _ hp),ku (j:=1) rfl,kr,rfl,⟨_,SqT.of (s1 _ _ hkr)⟩,?_⟩
 refine for_enT (xs:=kvs) (λi σ' G=>∃(y2 y3 y4:Option V) (ys:List V),σ'=[some (.ref p),some (.ref D),y2,y3,y4]/\Same H G/\G D=some (.lst ys)/\RepAll G (raw M ks i) ys) ?_ (λi σ' G h=>?_) (λi x pr σ' G hx hpr h=>?_) (λσ' G h=>?_)
 .exact⟨_,_,_,[],rfl,s1,d1,rfl⟩
 .obtain⟨_,_,_,_,_,sg,_⟩:=h
  exact SqT.of (sg _ _ hkr)
 .obtain⟨y2,y3,y4,ys,rfl,sg,hG,rep⟩:=h
  have hi:i<kvs.length:=(ak.mp hx).1
  have hik:i<ks.length:=by rw[<-hks.1];exact hi
  have hkj:=ab hik
  have hk:=(hks.2 i x _ hx hkj).same sg
  rw[raw_succ hkj]
  generalize ks[i]=kk at *
  obtain⟨es,n⟩:=kk
  obtain⟨b,nm,u1,u2,m,fr,xs,rfl,hb,hfr,repE,hz,hm⟩:=hk
  have repE:RepAll G es xs:=repE
  have hz:Zr es:=hz
  have hm:ModeN m n:=hm
  have hn:n<=8:=by rcases hm with h|h|h<;>omega
  refine⟨pr,_,rfl,SqT.of kh,rfl,_,_,rfl,_,_,rfl,rfl,?_⟩
  have s2:Same G (upd G pr (.tup [.int (i:Nat),.ref b])):=Same.fresh _ hpr
  generalize upd G pr (.tup [.int (i:Nat),.ref b])=G2 at *
  refine⟨_,rfl,b,_,_,_,rfl,rfl,SqT.of (s2 _ _ hb),ku (j:=4) rfl,_,rfl,b,_,_,_,rfl,rfl,SqT.of (s2 _ _ hb),ku (j:=3) rfl,?_⟩
  refine⟨fr,m,n,xs,es,rfl,s2 _ _ hfr,repE.same s2,hz,hm,λl fs ds G3 s3 hl0 hl nd mem repF=>?_⟩
  rw[FS_of hz nd mem]at repF
  have hF:=FS_frm (n:=n) hz
  have hFl:=FS_len (es:=es) (n:=n)
  have lf:=repF.length
  have sg3:=(sg.trans s2).trans s3
  refine⟨l,rfl,⟨_,SqL.of hl⟩,?_⟩
  have rlen:∀j,(raw M ks i++((FS es n).take j).flatMap (plN M i)).length<=4000:=λj=>by
   have h1:=raw_len okM hKZ i
   have h2:=flat_len (f:=plN M i) (m:=64) (l:=(FS es n).take j) λx _=>plN_len okM i x
   have h3:((FS es n).take j).length<=8:=by rw[bx];omega
   rw[bo]
   omega
  have rpl:∀j,∀d∈raw M ks i++((FS es n).take j).flatMap (plN M i),PlD d:=λj d hd=>by
   rcases bm.mp hd with h|h
   .exact raw_pl hKZ d h
   .obtain⟨x,hx,h⟩:=fh.mp h
    exact plK_pl (k:=(es,n)) (M:=M) (n:=i) hz (fh.mpr ⟨x,dq hx,h⟩)
  refine o8 (xs:=fs) (λj σ' G4=>∃(y4:Option V) (zs:List V),σ'=[some (.ref p),some (.ref D),some (.int (i:Nat)),some (.ref b),y4]/\Ex [D] G3 G4/\Same H G4/\G4 D=some (.lst zs)/\RepAll G4 (raw M ks i++((FS es n).take j).flatMap (plN M i)) zs) ?_ (λj σ' G4 hj h=>?_) (λj x σ' G4 hx h=>?_) (λσ' G4 h=>?_)
  .refine⟨_,ys,rfl,Ex.refl _ _,sg3,s3 _ _ (s2 _ _ hG),?_⟩
   rw[List.take_zero,List.flatMap_nil,ck]
   exact rep.same (s2.trans s3)
  .obtain⟨_,_,_,ex,_⟩:=h
   exact SqL.of (ex.at (λz=>by rw[z,s2 _ _ hG]at hl0;cases hl0) hl)
  .obtain⟨y4,zs,rfl,ex,sg4,hG4,rep4⟩:=h
   have hj:j<fs.length:=(ak.mp hx).1
   obtain⟨d,hd,rd⟩:=repF.at hx
   obtain⟨es2,rfl,hz2⟩:=hF d (am hd)
   obtain⟨fb,xs2,rfl,hfb,rep2⟩:=rd
   have nfb:fb≠D:=λz=>by rw[z,s3 _ _ (s2 _ _ hG)]at hfb;cases hfb
   have tk4:Tk G3 G4:=ex.one (s3 _ _ (s2 _ _ hG))
   refine⟨_,rfl,.inl ⟨rfl,_,SqL.of hG4⟩,?_⟩
   refine⟨_,rfl,p,_,_,_,rfl,rfl,SqT.of (sg4 _ _ hp),ku (j:=0) rfl,_,rfl,fl,fb,M,xs2,es2,rfl,hfl.same sg4,ex.at nfb hfb,rep2.tk tk4 (Spots.imm hz2.pre.spots),zr_n hz2,hz2.pre.six,λD5 ys5 G5 s5 hD5 rep5=>?_⟩
   have l5:=rep5.length
   have hp64:=plN_len okM i (.tuple es2)
   have lpn:(plN M i (.tuple es2)).length=(plS M es2 (M.h*M.w)).length:=aj _
   refine⟨D5,rfl,⟨_,SqL.of hD5⟩,λD6 hD6=>?_⟩
   refine lr (xs:=ys5) (λt us G6=>Same G5 G6/\RepAll G6 (((plS M es2 (M.h*M.w)).take t).map λs=>PyData.tuple [s,.int (i:Nat)]) us) ⟨Same.fresh _ hD6,rfl⟩ (λt us G6 p=>SqL.of (p.1 _ _ hD5)) (λt x us G6 hx6 hi6 hDy6 hul6 p=>?_) (λus G6 hDy6 hul6 p=>?_)
   .obtain⟨p1,p2⟩:=p
    obtain⟨d6,hd6,rd6⟩:=rep5.at hx6
    refine⟨Agree.set (Agree.refl _) rfl,?_⟩
    dsimp only[tYes]
    refine iteT ?_
    refine⟨_,rfl,_,rfl,(by show 2<=sizeLine;decide),λt7 ht7=>?_⟩
    have s7:Same G6 (upd G6 t7 (.tup [x,.int (i:Nat)])):=Same.fresh _ ht7
    have c7:upd G6 t7 (.tup [x,.int (i:Nat)]) t7=some (.tup [x,.int (i:Nat)]):=kh
    generalize upd G6 t7 (.tup [x,.int (i:Nat)])=G7 at *
    have hD7:=s7 _ _ hDy6
    refine nk (by omega) hD7 hul6 ⟨(p1.trans s7).new hD6,?_⟩
    rw[pl_take hd6]
    have rx:Rep G7 (.tuple [d6,.int (i:Nat)]) (.ref t7):=⟨t7,_,rfl,c7,_,_,rfl,Rep.same (p1.trans s7) rd6,_,_,rfl,rfl,rfl⟩
    refine((p2.same s7).snoc rx).tk (Tk.lst hD7) (PlD.imm λdx hdx=>?_)
    have hm6:dx∈plN M i (.tuple es2):=by
     rcases bm.mp hdx with h|h
     .obtain⟨y,hy,rfl⟩:=bi.mp h
      exact List.mem_map_of_mem (dq hy)
     .rw[ba.mp h]
      exact List.mem_map_of_mem (am hd6)
    exact plK_pl (k:=(es,n)) (M:=M) (n:=i) hz (fh.mpr ⟨_,am hd,hm6⟩)
   .obtain⟨p1,p2⟩:=p
    rw[a7 (by omega)]at p2
    have p2:RepAll G6 (plN M i (.tuple es2)) us:=p2
    have sB:=s5.trans p1
    have hG6:=sB _ _ hG4
    have lz:=rep4.length
    have lu:=p2.length
    have:=rlen j
    refine⟨D,D6,zs,us,rfl,rfl,hG6,hDy6,ic (by rw[gi];omega),?_⟩
    refine⟨_,zs++us,rfl,(ex.trans (Ex.of_same (W:=[D]) sB)).trans (Ex.upd (by simp)),(sg4.trans sB).new hD,kh,?_⟩
    rw[flat_take hd,<-bf]
    have ap:=(rep4.same sB).append p2
    refine ap.tk (Tk.lst hG6) (PlD.imm ?_)
    have:=rpl (j+1)
    rw[flat_take hd,<-bf]at this
    exact this
  .obtain⟨y4,zs,rfl,ex,sg4,hG4,rep4⟩:=h
   rw[a7 (by omega)]at rep4
   exact⟨_,_,_,zs,rfl,sg4,hG4,rep4⟩
 .obtain⟨y2,y3,y4,ys,rfl,sg,hG,rep⟩:=h
  have hr0:=raw_len okM hKZ ks.length
  have hl:=hks.1
  rw[hl]at rep
  refine⟨_,rfl,D,ys,raw M ks ks.length,rfl,hG,rep,λd hd=>(raw_pl hKZ d hd).key,PlD.cmp (raw_pl hKZ),by omega,λds l zs nd mem hl2 rz=>?_⟩
  have e:sortE ds=PL M ks:=sortE_uniq ((List.perm_ext_iff_of_nodup nd (raw_nd okM.w1 hKZ _)).mpr mem) ((PlD.cmp (raw_pl (M:=M) hKZ (j:=ks.length))).sub λd hd=>(mem d).mp hd)
  rw[e]at rz
  exact q l zs _ (sg.trans (Same.fresh _ hl2)) (sg.free hl2) kh rz
end
end K41
namespace L3
open PySem
mutual
noncomputable def drw:PyData->Nat
 | .tuple ds=>drwAll ds+1
 | .int _=>1
 | .str _=>1
 | .none=>1
 | .bool _=>1
 | .list _=>1
 | .dict _=>1
noncomputable def drwAll:List PyData->Nat
 | []=>0
 | d::ds=>drw d+drwAll ds
end
theorem pk(d:PyData):∀l:List PyData,drwAll (l++[d])=drwAll l+drw d
 | []=>by show drw d+0=0+drw d;omega
 | e::l=>by show drw e+drwAll (l++[d])=drw e+drwAll l+drw d;rw[pk d l];omega
theorem hashAll_snoc(w:World)(d:PyData):∀l:List PyData,nc w (l++[d])=nc w l++[hashD w d]
 | []=>rfl
 | y::l=>by show hashD w y::nc w (l++[d])=_;rw[hashAll_snoc w d l];rfl
noncomputable def HashX(d:PyData):Prop:=∀(prog:Program) (w:World) (A:Around) (E:Value->Shared->Prop) (s:Shared) (v:Value) (as:List Addr) (Q:Int->Shared->Prop),Reads s.heap v d as->A.units+d.depth<cLine->Q (hashD w d) {s with toks:=s.toks+drw d}->wpAny (model prog w) A (pyHash v) Q E s
theorem hashX_tuple{ds:List PyData}(H:∀d∈ds,HashX d):HashX (.tuple ds):=λprog w A E s v as Q r hu h=>by
 cases r with
 | @tuple a o vs n _ _ ho hc hd hi=>
 have hT:s.TypeIs (.ref a) "tuple":=⟨o,ho,hc⟩
 have hu':A.units+(bv ds+1)<cLine:=hu
 unfold pyHash
 first|unfold pyHashByItsType|skip
 first|refine aa (wpAny_cRoomFor_or (.inr (show A.units<cLine by omega)) ?_)|skip
 refine aa (j8 (name:="__hash__") hT ii.lookup ?_)
 show wpAny _ _ (if (some (Value.builtin "tuple.__hash__")==some Value.none)=true then _ else _) _ _ _
 rw[if_neg (show ¬_ by rw[beq_builtin_none];exact ah)]
 refine aa (j8 (name:="__hash__") hT ii.lookup ?_)
 show wpAny _ _ (callSpecialIfBoundUnlessNone? (.ref a) "__hash__" _ >>= _) _ _ _
 refine aa (wpAny_callSpecialIfBoundUnlessNone?_slot (name:="__hash__") hT ii (b9 (name:="__hash__") ii hT F.entry_tuple_hash ?_ (F.args_tuple_hash_1 _)))
 show wpAny _ _ (Builtin.Tuple.tupleItemsOf (.ref a) >>= _) _ _ _
 refine aa (wpAny_tupleItemsOf (n:=n) ho hd ?_)
 refine aa ?_
 rw[<-Array.forIn_toList]
 refine js _
  (λrest (b:Array Int) s'=>∃done left bs,ds=done++left/\ReadsAll s.heap rest left bs/\b.toList=nc w done/\s'={s with toks:=s.toks+drwAll done})
  _ (λx rest b s' hI=>?_) (λb s' hI=>?_) _ _ ⟨[],ds,as,rfl,hi,rfl,rfl⟩
 .obtain⟨done,left,bs,e,hl,hb,rfl⟩:=hI
  cases hl with
  | @cons _ _ d ds' _ _ h1 hl'=>
   have hmem:d∈ds:=by rw[e];simp
   have hd1:=dep_mem d hmem
   refine aa (H d hmem prog w _ E {s with toks:=s.toks+drwAll done} x _ _ h1 (by show A.units+1+d.depth<cLine;omega) ?_)
   have ht:s.toks+drwAll done+drw d=s.toks+drwAll (done++[d]):=by rw[pk];omega
   first
    | exact af ⟨done++[d],ds',_,by simp[e],hl',by simp[hb,hashAll_snoc],by simp[pk,Nat.add_assoc]⟩
    | exact aa (af (af ⟨done++[d],ds',_,by simp[e],hl',by simp[hb,hashAll_snoc],by simp[pk,Nat.add_assoc]⟩))
 .obtain⟨done,left,bs,e,hl,hb,rfl⟩:=hI
  cases hl
  rw[ck]at e
  subst e
  show wpAny _ _ (retInt (dw b.toList)) _ _ _
  rw[hb]
  refine wpAny_ret_mkInt ?_
  show wpAny _ _ (if (decide (-(2:Int)^63<=dw (nc w ds))&&decide (dw (nc w ds)<2^63))=true then _ else _) _ _ _
  have h':Q (reduceHash (dw (nc w ds))) {s with toks:=s.toks+(drwAll ds+1)}:=h
  unfold reduceHash at h'
  split
  .rename_i hr
   rw[if_pos hr]at h'
   exact af (by simpa [Nat.add_assoc]using h')
  .rename_i hr
   rw[if_neg hr]at h'
   exact aa (jh (af (by simpa [Nat.add_assoc]using h')))
mutual
theorem hashX_reads:∀(d:PyData),kd d=true->HashX d
 | .int i,_=>λprog w A E s v as Q r hu h=>by
  cases r with
  | int=>exact wpAny_pyHash_int h
 | .str x,_=>λprog w A E s v as Q r hu h=>by
  cases r with
  | str=>exact wpAny_pyHash_str h
 | .tuple ds,hk=>hashX_tuple (hashX_readsAll ds hk)
 | .none,hk=>absurd hk ah
 | .bool _,hk=>absurd hk ah
 | .list _,hk=>absurd hk ah
 | .dict _,hk=>absurd hk ah
theorem hashX_readsAll:∀(ds:List PyData),kdAll ds=true->∀d∈ds,HashX d
 | [],_,d,hd=>by cases hd
 | e::ds,hk,d,hd=>by
  have hk':(kd e&&kdAll ds)=true:=hk
  rw[cg]at hk'
  rcases ax.mp hd with h|hd
  .rw[h];exact hashX_reads e hk'.1
  .exact hashX_readsAll ds hk'.2 d hd
end
structure KeyN(h:Heap)(d:PyData)(a:Addr):Prop where
 key:kd d=true
 lay:d.canLay0=true
 deep:d.depth<8
 reads:∃as,Reads h (.ref a) d as
mutual
theorem reads_same{h h':Heap}{d:Addr}{o:Obj}{es:Array DictEntry}{ep:Nat}(ho:h.get? d=some o)(hd:o.data=.dict es ep)(hs:bw d h h'):∀{v:Value} {x:PyData} {as:List Addr},kd x=true->Reads h v x as->Reads h' v x as
 | _,_,_,_,.none=>.none
 | _,_,_,_,.bool b=>.bool b
 | _,_,_,_,.int i t=>.int i t
 | _,_,_,_,.str x t=>.str x t
 | _,_,_,hk,.list _ _ _ _=>absurd hk ah
 | _,_,_,hk,.tuple (a:=a) h1 h2 h3 h4=>by
  have hne:a≠d:=by
   intro e;subst e
   rw[ho]at h1;cases h1
   rw[hd]at h3;exact nomatch h3
  exact .tuple ((hs.2 a hne).trans h1) h2 h3 (reads_sameAll ho hd hs hk h4)
 | _,_,_,hk,.dict _ _ _ _ _=>absurd hk ah
theorem reads_sameAll{h h':Heap}{d:Addr}{o:Obj}{es:Array DictEntry}{ep:Nat}(ho:h.get? d=some o)(hd:o.data=.dict es ep)(hs:bw d h h'):∀{vs:List Value} {xs:List PyData} {as:List Addr},kdAll xs=true->ReadsAll h vs xs as->ReadsAll h' vs xs as
 | _,_,_,_,.nil=>.nil
 | _::_,y::ys,_,hk,.cons h1 h2=>by
  have hk':(kd y&&kdAll ys)=true:=hk
  rw[cg]at hk'
  exact .cons (reads_same ho hd hs hk'.1 h1) (reads_sameAll ho hd hs hk'.2 h2)
end
noncomputable instance decD:DecidableEq PyData:=λa b=>Classical.propDecidable (a=b)
noncomputable def dataKind(prog:Program)(w:World):HeapKind prog w PyData where
 is:=KeyN
 hash:=hashD w
 draws:=drw
 room:=λA=>A.units+8<cLine
 inj:=λ{h a x y} hx hy=>by
  obtain⟨as,r⟩:=hx.reads
  obtain⟨bs,r'⟩:=hy.reads
  exact SeqAt.Reads.unique _ _ _ _ _ hx.lay r r'
 keeps:=λ{h h' k a d o es ep} hx ho hd hs=>by
  obtain⟨as,r⟩:=hx.reads
  exact⟨hx.key,hx.lay,hx.deep,as,reads_same ho hd hs hx.key r⟩
 pyHash:=λ{A E s k a Q} hu hx h=>by
  obtain⟨as,r⟩:=hx.reads
  exact hashX_reads k hx.key prog w A E s _ as Q r (by have:=hx.deep;omega) h
 eqBool:=λ{A E s x y a b Q} hu hx hy h=>by
  obtain⟨as,r⟩:=hx.reads
  obtain⟨bs,r'⟩:=hy.reads
  refine SeqAt.eqBoolOverData prog w A E s _ _ x y as bs Q r r' hx.lay hy.lay (by have:=hx.deep;have:=Nat.min_le_left x.depth y.depth;omega) ?_
  have e:bn x y=decide (x=y):=by
   by_cases z:x=y
   .rw[decide_eq_true z,<-z];exact SeqAt.eqv_refl _ hx.lay
   .rw[decide_eq_false z]
    cases q:bn x y with
    | false=>rfl
    | true=>exact absurd (eqv_kd x y hx.key hy.key q) z
  rw[e];exact h
 quiet:=λ{A E s k a Q} hx h=>by
  obtain⟨as,r⟩:=hx.reads
  exact quiet_reads 8 hx.key r hx.deep h
end L3
namespace L3
open PySem PySem.Spec PyProof.Rows L2
noncomputable def DE(h:Heap)(d:Addr)(es:Array DictEntry)(ep:Nat):Prop:=∃o,h.get? d=some o/\o.ExactDict/\o.data=.dict es ep
theorem DE.ty{s:Shared}{d:Addr}{es:Array DictEntry}{ep:Nat}(x:DE s.heap d es ep):s.TypeIs (.ref d) "dict":=by
 obtain⟨o,h1,h2,_⟩:=x
 exact⟨o,h1,h2.1⟩
theorem DE.on{h h':Heap}{d:Addr}{es:Array DictEntry}{ep:Nat}(x:DE h d es ep)(k:∀o,h.get? d=some o->h'.get? d=some o):DE h' d es ep:=by
 obtain⟨o,h1,h2⟩:=x
 exact⟨o,k o h1,h2⟩
section
variable{prog:Program}{w:World}{A:Around}{E:Value->Shared->Prop}{s:Shared}{d it:Addr}{es:Array DictEntry}{ep i:Nat}
theorem iterE{Q:Value->Shared->Prop}(lo:(d==sysModules)=false)(hm:DE s.heap d es ep)(q:Q (.ref s.heap.objs.size) {s with heap:=s.heap.push {cls:=.type "dict_keyiterator",data:=.fields #[.ref d,.int 0 0,.int es.size 0,.int ep 0]}}):wpAny (model prog w) A (pyIter (.ref d)) Q E s:=by
 have T:=hm.ty
 obtain⟨o,ho,_,hdat⟩:=id hm
 refine wpAny_pyIter_slot T F.slot_dict_iter (b9 F.slot_dict_iter T F.entry_dict_iter (aa (aa (wpAny_notOrdered_dict T ?_))) (F.args_dict_iter_1 _))
 refine(af ?_:wpAny _ _ (pure (Value.ref d)) _ _ s)
 have sh:Builtin.Dict.showsAll d=pure ():=by unfold Builtin.Dict.showsAll;rw[if_neg (by rw[lo];simp)]
 refine(?_:wpAny _ _ (Builtin.Dict.showsAll d >>= _) _ _ s)
 rw[sh]
 refine aa (af (aa (wpAny_dictEntries ho hdat (aa (wpAny_dictEpoch ho hdat (aa (cp (af (o5 _ rfl "dict_keyiterator" _ ⟨⟨_,ay _ rfl,rfl⟩,ix.lookup,?_⟩)))))))))
 simpa [rawInt]using q
theorem ownsNot:Builtin.Dict_items.ownsTuple "dict_keyiterator" = false:=by decide
theorem itemE{Q:Option Value->Shared->Prop}(hit:s.heap.IsKeyIter it d i es.size ep)(hm:DE s.heap d es ep){e:DictEntry}(hx:es[i]?=some e)
  (q:∀h',h'.IsKeyIter it d (i+1) es.size ep->bw it s.heap h'->Q (some e.key) {s with heap:=h'}):wpAny (model prog w) A (pyNext (.ref it)) Q E s:=by
 have T:=hit.typeIs
 obtain⟨o,ho,hc,hd⟩:=id hit
 obtain⟨od,hod,_,hdd⟩:=id hm
 unfold pyNext
 refine aa (jn (b8 (name:="__next__") T ix (b9 ix T F.entry_dict_keyiterator_next (aa (af (aa (aa (?_))))) (F.args_dict_keyiterator_next_1 _))))
 refine aa (jt T (af (aa (wpAny_fieldsOf ho hd ?_))))
 rw[if_neg (by rw[ownsNot];simp)]
 refine(?_:wpAny _ _ (if (Value.ref d==Value.none)=true then _ else _) _ _ s)
 rw[if_neg (by intro z;cases z)]
 refine aa (af (aa (wpAny_dictEntries hod hdd ?_)))
 rw[if_neg (by simp)]
 refine aa (af (aa (wpAny_dictEpoch hod hdd ?_)))
 rw[if_neg (by simp)]
 refine af ?_
 have nn:¬((i:Int)<0):=by omega
 simp only[nn,if_false,b0,hx]
 refine aa (aa (jt T (af (aa (wpAny_isOneOf_keyiter T ?_)))))
 refine(aa (gz ho hd (by simp) ?_):wpAny _ _ (setField (.ref it) 1 (rawInt ((i:Int)+1)) >>= _) _ _ s)
 have hit':(s.heap.update it (Obj.mapFields (·.setIfInBounds 1 (rawInt ((i:Int)+1))))).IsKeyIter it d (i+1) es.size ep:=
  ⟨_,ce _ ho (Obj.isFreed_of_fields (jx hd _)),by rw[Obj.cls_mapFields];exact hc,by rw[jx hd];simp[rawInt]⟩
 refine aa (ei (aa (wpAny_isOneOf_keyiter (s:={s with heap:=_}) hit'.typeIs ?_)))
 refine(?_:wpAny _ _ (pure e.key) _ _ _)
 refine af (af ⟨_,rfl,?_⟩)
 exact af (q _ hit' (c5 ..))
theorem endE{Q:Option Value->Shared->Prop}(hh:A.handled=none)(hit:s.heap.IsKeyIter it d es.size es.size ep)(hm:DE s.heap d es ep)
  (q:∀h',jp it s.heap h'->Q none {s with heap:=h'}):wpAny (model prog w) A (pyNext (.ref it)) Q E s:=by
 have T:=hit.typeIs
 obtain⟨o,ho,hc,hd⟩:=id hit
 obtain⟨od,hod,_,hdd⟩:=id hm
 unfold pyNext
 refine aa (jn (b8 (name:="__next__") T ix (b9 ix T F.entry_dict_keyiterator_next (aa (af (aa (aa (?_))))) (F.args_dict_keyiterator_next_1 _))))
 refine aa (jt T (af (aa (wpAny_fieldsOf ho hd ?_))))
 rw[if_neg (by rw[ownsNot];simp)]
 refine(?_:wpAny _ _ (if (Value.ref d==Value.none)=true then _ else _) _ _ s)
 rw[if_neg (by intro z;cases z)]
 refine aa (af (aa (wpAny_dictEntries hod hdd ?_)))
 rw[if_neg (by simp)]
 refine aa (af (aa (wpAny_dictEpoch hod hdd ?_)))
 rw[if_neg (by simp)]
 refine af ?_
 have nn:¬((es.size:Int)<0):=by omega
 have no:es[es.size]?=none:=i8 (ao _)
 simp only[nn,if_false,b0,no]
 refine aa (aa (jt T (af ?_)))
 refine(aa (gz ho hd (by simp) ?_):wpAny _ _ (setField (.ref it) 0 .none >>= _) _ _ s)
 refine(aa ?_:wpAny _ _ (newExc (.type "StopIteration") [] >>= _) _ _ _)
 unfold newExc newTuple
 refine aa (cp (aa (wpAny_of_eq (a:=Value.none) rfl (cp ?_ (by size_fits)))) (by size_fits))
 unfold raiseNew
 refine aa (wpAny_handled ?_)
 rw[show A.in1.handled=none from hh]
 refine aa (af (wpAny_throw (aa ?_)))
 refine wpAny_isInstance (T:="StopIteration") (b:=true) (⟨_,ay _ rfl,rfl⟩) isSubtype_stop ?_
 exact af (q _ (((c5 ..).extBut.push _).push _))
theorem srcE(lo:(d==sysModules)=false):PySem.W.KdlSrc prog w "dict" d d es.size (λi v=>∃e,es[i]?=some e/\v=e.key) (λh=>DE h d es ep)where
 type:=λ_ hm=>hm.ty
 there:=λ_ ⟨_,h1,_⟩=>⟨a9 h1,a9 h1⟩
 keep:=λ_ _ hm k=>hm.on (k d (.inl rfl))
 notList:=by decide
 notTuple:=by decide
 hint:=λ_ _ _ _ hm q=>PySem.W.kdl_hint_dict hm.ty q
 iter:=λA s hh hm=>by
  refine⟨_,λi h=>h.IsKeyIter s.heap.objs.size d i es.size ep/\DE h d es ep,λ_ _ q=>iterE lo hm q,?_,⟨_,ay _ rfl,rfl,rfl⟩,hm.on λo e=>ai _ e⟩
  have hne:d≠s.heap.objs.size:=by
   obtain⟨_,h1,_⟩:=hm
   exact cc (a9 h1)
  exact{
   sub:=λb hb=>by rw[ba.mp hb];exact au
   frame:=λ_ _ _ st hk=>⟨st.1.at λo e=>hk _ au o e,st.2.on λo e=>hk d (av _ au) o e⟩
   item:=λi s' Q E hi st q=>by
    refine itemE st.1 st.2 (br hi) λh' k sb=>?_
    exact q _ h' s'.toks ⟨_,br hi,rfl⟩ ⟨k,st.2.on λo e=>sb.extBut d o hne e⟩ λb o hb e=>sb.extBut b o (λz=>hb (by rw[z];exact au)) e
   done:=λs' Q E st q=>endE hh st.1 st.2 λh' eb=>q h' s'.toks λb o hb e=>eb b o (λz=>hb (by rw[z];exact au)) e
   self:=λ_ _ _ _ st q=>wpAny_pyIter_keyiter st.1 q}
end
section
variable{prog:Program}{w:World}{A:Around}{E:Value->Shared->Prop}{s:Shared}
theorem sorted_dictN{a:Addr}{es:Array DictEntry}{ep:Nat}{κ:SortKind}{Q:Value->Shared->Prop}{os:List Value}(hh:A.handled=none)(lo:(a==sysModules)=false)(hm:DE s.heap a es ep)(hsz:es.size<=4000)(hos:es.toList.map (·.key)=os)
  (h:∃g:Value->Int,(2<=os.length->∀s':Shared,Keep s.heap s'.heap->
   (∀(Q:SortKind->Shared->Prop) (E:Value->Shared->Prop),Q κ s'->wpAny (model prog w) A.in1.in1 (keyKind' os.toArray) Q E s')/\
   ∀x y,x∈os->y∈os->∀(Q:Bool->Shared->Prop),Q (decide (g x<g y)) s'->wpAny (model prog w) A.in1.in1 (keyLt' κ x y) Q (λ_ _=>False) s')/\
   ∀(us:List Value) (h1 h2:Heap) (tk:Nat) e,us.Perm os->us.Pairwise (λx y=>g x<=g y)->Keep s.heap h1->Keep h1 h2->h2.get? h1.objs.size=some (seqObj "list" us.toArray e)->Q (.ref h1.objs.size) {s with heap:=h2,toks:=tk}) :
  wpAny (model prog w) A (call (.builtin "sorted") [.ref a]) Q E s:=by
 refine Calls.call_function_entry kind_sorted plain_sorted entry_sorted (args_sorted1 _) ?_
 unfold Builtin.«sorted»
 have hol:os.length<=sizeLine:=by rw[<-hos,aj,aw,gi];omega
 refine aa (m:=checkCount "sorted" 1 1 _) (af (aa (PySem.W.kdu_collect (A:=A.in1) (srcE lo) hh hm (by rw[gi];omega) λh1 tk acc k1 hacc=>?_)))
 have eacc:acc.toList=os:=by
  rw[<-hos]
  apply List.ext_getElem?
  intro i
  rw[be,a0,a0]
  by_cases hi:i<acc.size
  .obtain⟨e,e1,e2⟩:=hacc.2 i _ (br hi)
   rw[e1,br hi,e2]
   rfl
  .rw[i8 (by omega),i8 (by have:=hacc.1;omega)]
   rfl
 rw[eacc]
 obtain⟨g,hk,h⟩:=h
 refine aa (wpAny_newList ?_ hol)
 have hoL:(h1.push (seqObj "list" os.toArray 0)).get? h1.objs.size=some (seqObj "list" os.toArray 0):=ay _ rfl
 have keep:Keep h1 (h1.push (seqObj "list" os.toArray 0)):=λb o q=>ai _ q
 refine(?_:wpAny _ _ _ _ _ {s with heap:=h1.push (seqObj "list" os.toArray 0),toks:=tk})
 refine aa (ei (b9 slot_list_sort ⟨_,hoL,rfl⟩ entry_list_sort ?body (args_list_sort _)))
 case body=>
  refine pq (κ:=κ) (g:=g) hoL hol (λh2 s' k=>hk h2 s' λb o e=>k b o (cc (a9 (k1 b o e))) (keep b o (k1 b o e))) λus u1 u2=>?_
  obtain⟨e,he⟩:=sortedHeap_at (out:=us.toArray) hoL
  refine⟨_,rfl,af ⟨_,rfl,h us h1 _ tk e u1 u2 k1 (λb ob q=>?_) he⟩⟩
  exact(sortedHeap_old (cc (a9 q)) (by rw[size_push'];exact ji (a9 q))).trans (keep b ob q)
end
noncomputable abbrev KA:=PyData×Addr×V
noncomputable abbrev KAR:List KA->List (PyData×Addr×Value)->Prop:=Paired λp q=>p.1=q.1/\p.2.1=q.2.1/\RelV p.2.2 q.2.2
noncomputable def DNo(w:World)(a:Addr)(xs:List KA)(ep:Nat):HO:=.ext λh=>∃ys,KAR xs ys/\∃o es,h.get? a=some o/\o.ExactDict/\o.data=.dict es ep/\
 es.toList=ys.map (λy:PyData×Addr×Value=>(⟨hashD w y.1,.ref y.2.1,y.2.2⟩:DictEntry))/\(ys.map (·.1)).Nodup
structure KRep(H:Hp)(d:PyData)(b:Addr):Prop where
 key:kd d=true
 deep:d.depth<8
 rep:Rep H d (.ref b)
structure DN(w:World)(H:Hp)(a:Addr)(xs:List KA)(ep:Nat):Prop where
 obj:H a=some (DNo w a xs ep)
 keys:∀x∈xs,KRep H x.1 x.2.1
 len:xs.length<=sizeLine
 sys:(a==sysModules)=false
mutual
theorem kd_imm:∀{d:PyData},kd d=true->imm d=true
 | .int _,_=>rfl
 | .str _,_=>rfl
 | .tuple ds,h=>kd_immAll (ds:=ds) h
 | .none,_=>rfl
 | .bool _,_=>rfl
 | .list _,h=>absurd h ah
 | .dict _,h=>absurd h ah
theorem kd_immAll:∀{ds:List PyData},kdAll ds=true->mf ds=true
 | [],_=>rfl
 | d::ds,h=>by
  have h':(kd d&&kdAll ds)=true:=h
  rw[cg]at h'
  show(imm d&&mf ds)=true
  rw[kd_imm h'.1,kd_immAll h'.2];rfl
end
theorem KRep.tk{H H':Hp}{d:PyData}{b:Addr}(x:KRep H d b)(t:Tk H H'):KRep H' d b:=⟨x.key,x.deep,x.rep.tk t (kd_imm x.key)⟩
section
variable{X:Cx}{pins:List (Addr×Obj)}{σ:L2.St}{H:Hp}{s:Shared}{a b:Addr}{xs:List KA}{d:PyData}{v:V}{u r:Value}{ep:Nat}{A:Around}{E:Value->Shared->Prop}
theorem KRep.at(x:KRep H d b)(I:Inv X pins σ H s):(dataKind X.prog X.w).is s.heap d b:=by
 obtain⟨as,q⟩:=Rep.reads I (u:=.ref b) x.rep rfl
 exact⟨x.key,x.rep.lay,x.deep,as,q⟩
noncomputable def valN(xs:List KA)(d:PyData):Option V:=(xs.find? λx=>decide (x.1=d)).map (·.2.2)
noncomputable def putN(xs:List KA)(d:PyData)(b:Addr)(v:V):List KA:=
 if (valN xs d).isSome then xs.map λx=>if x.1=d then(x.1,x.2.1,v)else x else xs++[(d,b,v)]
theorem KAR.val{xs:List KA}{ys:List (PyData×Addr×Value)}(r:KAR xs ys)(d:PyData):RelO (valN xs d) ((atKey ys d).map (·.2)):=by
 induction r with
 | nil=>exact True.intro
 | @cons p q ps qs h t ih=>
  obtain⟨h1,_,h2⟩:=h
  by_cases e:p.1=d
  .have e':q.1=d:=h1.symm.trans e
   have c:atKey (q::qs) d=some q.2:=by simp[atKey,List.find?_cons,e']
   have c':valN (p::ps) d=some p.2.2:=by simp[valN,List.find?_cons,e]
   rw[c',c];exact h2
  .have e':¬q.1=d:=λz=>e (h1.trans z)
   have c:atKey (q::qs) d=atKey qs d:=by simp[atKey,List.find?_cons,e']
   have c':valN (p::ps) d=valN ps d:=by simp[valN,List.find?_cons,e]
   rw[c',c];exact ih
theorem KAR.repl{xs:List KA}{ys:List (PyData×Addr×Value)}(r:KAR xs ys)(d:PyData){y:V}{u:Value}(ry:RelV y u) :
  KAR (xs.map λx=>if x.1=d then(x.1,x.2.1,y)else x) (ys.map (putAt d u)):=by
 induction r with
 | nil=>exact .nil
 | @cons p q ps qs h t ih=>
  rw[e9,e9]
  refine .cons ?_ ih
  obtain⟨h1,h2,h3⟩:=h
  unfold putAt
  by_cases e:p.1=d
  .rw[if_pos e,if_pos (h1.symm.trans e)];exact⟨h1,h2,ry⟩
  .rw[if_neg e,if_neg (λz=>e (h1.trans z))];exact⟨h1,h2,h3⟩
theorem KAR.put{xs:List KA}{ys:List (PyData×Addr×Value)}(r:KAR xs ys)(d:PyData){b:Addr}{y:V}{u:Value}(ry:RelV y u) :
  KAR (putN xs d b y) (storedH ys d b u):=by
 have e:(valN xs d).isSome=(atKey ys d).isSome:=by
  rw[(r.val d).isSome_eq,jl]
 unfold putN storedH
 rw[e]
 by_cases q:(atKey ys d).isSome=true
 .rw[if_pos q,if_pos q];exact r.repl d ry
 .rw[if_neg q,if_neg q];exact Paired.snoc r ⟨rfl,rfl,ry⟩
theorem KAR.get{xs:List KA}{ys:List (PyData×Addr×Value)}(r:KAR xs ys):∀{i:Nat} {x:KA},xs[i]?=some x->∃y,ys[i]?=some y/\x.1=y.1/\x.2.1=y.2.1/\RelV x.2.2 y.2.2:=by
 induction r with
 | nil=>intro i x h;cases h
 | @cons p q ps qs h t ih=>
  intro i x hx
  cases i with
  | zero=>cases hx;exact⟨q,rfl,h⟩
  | succ i=>exact ih (i:=i) hx
theorem DN.at(D:DN X.w H a xs ep)(I:Inv X pins σ H s):∃ys,KAR xs ys/\s.heap.DictOfH (dataKind X.prog X.w) a ys:=by
 obtain⟨⟨ys,r,o,es,h1,h2,h3,h4,h5⟩,_⟩:=(show ObjOk X.prog X.w H s.heap a (DNo X.w a xs ep)from I.hok a _ D.obj)
 refine⟨ys,r,o,es,ep,h1,h2,h3,h4,?_,h5⟩
 have all:∀{l:List KA} {m:List (PyData×Addr×Value)},KAR l m->(∀x∈l,KRep H x.1 x.2.1)->∀y∈m,(dataKind X.prog X.w).is s.heap y.1 y.2.1:=by
  intro l m q
  induction q with
  | nil=>intro _ y hy;exact nomatch hy
  | @cons p q ps qs hq t ih=>
   intro hk y hy
   rcases ax.mp hy with e|hy
   .subst e
    have:=(hk p au).at I
    rw[hq.1,hq.2.1]at this
    exact this
   .exact ih (λx hx=>hk x (av _ hx)) y hy
 exact all r D.keys
theorem DN.de(D:DN X.w H a xs ep)(I:Inv X pins σ H s):∃es,DE s.heap a es ep/\es.size=xs.length/\∀(i:Nat) (x:KA),xs[i]?=some x->∃e:DictEntry,es[i]?=some e/\e.key=.ref x.2.1/\RelV x.2.2 e.val:=by
 obtain⟨⟨ys,r,o,es,h1,h2,h3,h4,h5⟩,_⟩:=(show ObjOk X.prog X.w H s.heap a (DNo X.w a xs ep)from I.hok a _ D.obj)
 have hl:=Paired.length r
 refine⟨es,⟨o,h1,h2,h3⟩,by rw[<-aw,h4,aj,hl],λi x hx=>?_⟩
 obtain⟨y,hy,q1,q2,q3⟩:=r.get hx
 refine⟨⟨hashD X.w y.1,.ref y.2.1,y.2.2⟩,?_,?_,q3⟩
 .rw[<-a0,h4,be,hy];rfl
 .show Value.ref _=_;rw[q2]
theorem DN.ext{w:World}{P:Program}{H':Hp}{h':Heap}{ys:List (PyData×Addr×Value)}(r:KAR xs ys)(dd:h'.DictOfH (dataKind P w) a ys):∃ep,ObjOk P w H' h' a (DNo w a xs ep):=by
 obtain⟨o,es,ep,h1,h2,h3,h4,_,h5⟩:=dd
 refine⟨ep,⟨ys,r,o,es,h1,h2,h3,h4,h5⟩,⟨o,h1⟩,λg1 g2 q k=>?_⟩
 obtain⟨zs,r',o',es',k1,k2⟩:=q
 exact⟨zs,r',o',es',k o' k1,k2⟩
theorem DN.tk{w:World}{H':Hp}(D:DN w H a xs ep)(t:Tk H H')(e:H' a=some (DNo w a xs ep)):DN w H' a xs ep:=⟨e,λx hx=>(D.keys x hx).tk t,D.len,D.sys⟩
theorem DN.same{w:World}{H':Hp}(D:DN w H a xs ep)(t:Same H H'):DN w H' a xs ep:=D.tk (Tk.of_same t) (t _ _ D.obj)
theorem n_in{Q:Value->Shared->Prop}(hu:A.units+9<cLine)(I:Inv X pins σ H s)(D:DN X.w H a xs ep)(k:KRep H d b)(h:∀s',Inv X pins σ H s'->Q (.bool (valN xs d).isSome) s') :
  wpAny (model X.prog X.w) A (compareOp .In (.ref b) (.ref a)) Q E s:=by
 obtain⟨ys,rel,dd⟩:=D.at I
 refine wpAny_in_heap (knd:=dataKind X.prog X.w) (show A.units+1+8<cLine by omega) (k.at I) D.sys dd ?_
 have q:=(rel.val d).isSome_eq
 rw[jl]at q
 rw[<-q]
 exact h _ (I.tok _)
theorem length_putN(xs:List KA)(d:PyData)(b:Addr)(v:V):(putN xs d b v).length<=xs.length+1:=by
 unfold putN
 split
 .rw[aj];omega
 .rw[bo];exact ao _
theorem mem_putN{xs:List KA}{d:PyData}{b:Addr}{v:V}{x:KA}(h:x∈putN xs d b v):(∃y∈xs,y.1=x.1/\y.2.1=x.2.1)\/(x.1=d/\x.2.1=b):=by
 unfold putN at h
 split at h
 .obtain⟨y,hy,e⟩:=bi.mp h
  refine .inl ⟨y,hy,?_⟩
  subst e
  split<;>exact⟨rfl,rfl⟩
 .rcases bm.mp h with h|h
  .exact .inl ⟨x,h,rfl,rfl⟩
  .rw[ba.mp h];exact .inr ⟨rfl,rfl⟩
theorem n_setItem{Q:Unit->Shared->Prop}(hu:A.units+9<cLine)(I:Inv X pins σ H s)(D:DN X.w H a xs ep)(k:KRep H d b)(l:xs.length<sizeLine)(rv:RelV v r)
  (h:∀ep' s',Inv X pins σ (upd H a (DNo X.w a (putN xs d b v) ep')) s'->Q () s'):wpAny (model X.prog X.w) A (setItem (.ref a) (.ref b) r) Q E s:=by
 obtain⟨ys,rel,dd⟩:=D.at I
 have hz:ys.length<=sizeLine:=by rw[<-Paired.length rel];exact D.len
 refine wpAny_setItem_heap (knd:=dataKind X.prog X.w) (hsz:=hz) (show A.units+1+8<cLine by omega) (k.at I) dd λh' dd' hs=>?_
 have he:∃q,h'.get? a=some q:=let ⟨q,_,_,hq,_⟩:=dd';⟨q,hq⟩
 obtain⟨ep',ok⟩:=DN.ext (H':=upd H a (DNo X.w a (putN xs d b v) 0)) (rel.put d rv) dd'
 refine h ep' _ ?_
 exact d_write I (by rw[D.obj];exact True.intro) hs he ok
theorem DN.put{w:World}(D:DN w H a xs ep)(k:KRep H d b)(l:xs.length<sizeLine)(v:V)(ep':Nat):DN w (upd H a (DNo w a (putN xs d b v) ep')) a (putN xs d b v) ep':=by
 have t:Tk H (upd H a (DNo w a (putN xs d b v) ep')):=λc ys q=>by rw[kv (ne_of q D.obj (by intro z;cases z))];exact q
 refine⟨kh,λx hx=>?_,by have:=length_putN xs d b v;omega,D.sys⟩
 rcases mem_putN hx with ⟨y,hy,e1,e2⟩|⟨e1,e2⟩
 .rw[<-e1,<-e2];exact(D.keys y hy).tk t
 .rw[e1,e2];exact k.tk t
end
end L3
namespace L3
open PySem PySem.Spec PyProof.Rows L2
noncomputable def tNIn(w:World)(ty td:TE):TE:=λσ H Q=>ty σ H λy H1=>td σ H1 λx H2=>∃a xs ep d b,x=.ref a/\y=.ref b/\DN w H2 a xs ep/\KRep H2 d b/\Q (.bl (valN xs d).isSome) H2
noncomputable def sNPut(w:World)(td ty tv:TE):TS:=λD σ H=>tv σ H λv H1=>td σ H1 λx H2=>ty σ H2 λy H3=>∃a xs ep d b,x=.ref a/\y=.ref b/\DN w H3 a xs ep/\KRep H3 d b/\xs.length<sizeLine/\∀ep',D.nx σ (upd H3 a (DNo w a (putN xs d b v) ep'))
noncomputable def tNNew(w:World):TE:=λ_ H Q=>∀p,H p=none->(p==sysModules)=false->Q (.ref p) (upd H p (DNo w p [] 0))
section
variable{X:Cx}{o i e f value:Expr}{pos pos' tpos apos cpos:Pos}{td ty tv tx:TE}
theorem pc_nin(hu:X.A.units+9<cLine)(hi:PE X i ty)(ho:PE X o td):PC X .In i o (tNIn X.w ty td):=by
 intro pins s σ H Q I h
 refine thn (hi pins s σ H _ I h) λiv s1 ⟨y,H1,I1,ry,q1⟩=>thn (ho pins s1 σ H1 _ I1 q1) λu s2 ⟨x,H2,I2,rx,a,xs,ep,d,b,ex,ey,D,k,q2⟩=>?_
 subst ex ey
 obtain rfl:u=Value.ref a:=rx
 obtain rfl:iv=Value.ref b:=ry
 exact n_in hu I2 D k λs3 I3=>⟨.bl (valN xs d).isSome,H2,I3,rfl,q2⟩
theorem ps_nput(hu:X.A.units+9<cLine)(ho:PE X o td)(hi:PE X i ty)(hv:PE X value tv)(hs:swapsWith value (some (.Subscript o i pos')) pos.line X.env=pure false) :
  PS X (.Assign [.Subscript o i pos'] value pos) (sNPut X.w td ty tv):=by
 intro pins s σ H D I h
 refine wpAny_Assign_Subscript (thn (hv pins s σ H _ I h) λr s1 ⟨v,H1,I1,rv,q1⟩=>thn (ho pins s1 σ H1 _ I1 q1) λu s2 ⟨x,H2,I2,rx,q2⟩=>thn (hi pins s2 σ H2 _ I2 q2) λiv s3 ⟨y,H3,I3,ry,a,xs,ep,d,b,ex,ey,dn,k,l,q3⟩=>?_) hs
 subst ex ey
 obtain rfl:u=Value.ref a:=rx
 obtain rfl:iv=Value.ref b:=ry
 exact n_setItem hu I3 dn k l rv λep' s4 I4=>⟨σ,_,I4,q3 ep'⟩
theorem dn_empty{P:Program}{w:World}{H:Hp}(h:Heap):ObjOk P w H (h.push {cls:=.type "dict",data:=.dict #[]}) h.objs.size (DNo w h.objs.size [] 0):=
 ⟨⟨[],.nil,_,#[],ay _ rfl,⟨rfl,rfl,rfl⟩,rfl,rfl,List.nodup_nil⟩,⟨_,ay _ rfl⟩,λ_ _ ⟨zs,r',o',es',k1,k2⟩ k=>⟨zs,r',o',es',k o' k1,k2⟩⟩
theorem pe_nnew:PE X (.Dict [] [] pos) (tNNew X.w):=λpins s σ H Q I h=>
 wpAny_Dict_empty ⟨.ref s.heap.objs.size,_,I.laid (a:=s.heap.objs.size) (o:=DNo X.w s.heap.objs.size [] 0) (t':=s.toks) (λ_ _ q=>ai _ q) (ao _) (dn_empty s.heap),rfl,
  h _ (I.hok.fresh (ao _)) (beq_eq_false_iff_ne.mpr (Ne.symm (cc I.big)))⟩
theorem DN.new{w:World}{H:Hp}{p:Addr}(h:(p==sysModules)=false):DN w (upd H p (DNo w p [] 0)) p [] 0:=⟨kh,(λx hx=>nomatch hx),en _,h⟩
end
theorem vals_ints:∀{ns:List Int} {its:List Value},Vals (ns.map V.int) its->IntsAre its ns
 | [],_,.nil=>.nil
 | n::ns,_,.cons ⟨t,e⟩ r=>by subst e;exact .cons _ _ (vals_ints r)
section
variable{X:Cx}
noncomputable def rCnt(K:aq):V->List V->Hp->VK->Prop:=λx vs H Q=>∃(l:Addr) (ns:List Int) (k:Int),x=.ref l/\vs=[.int k]/\SqL K H l (ns.map V.int)/\Q (.int (ns.count k:Nat)) H
theorem mt_count:MtR X "list.count" (rCnt X.K):=by
 intro pins s σ H x vs v us Q I rx rv h
 obtain⟨l,ns,k,rfl,rfl,hl,q⟩:=h
 cases rx
 obtain⟨u,rfl,t,rfl⟩:=rv.one
 obtain⟨its,r,pl,hz⟩:=I.list hl
 exact count_list_ints pl.isList (vals_ints r) (x_EE (.int _) H ⟨I.tok _,⟨_,rfl⟩,q⟩)
end
section
variable{X:Cx}{N:List Str}{scope:Scope}{z:CZ}{i o:Expr}{ty td:TE}
theorem mt_countC:MtR (k5 X N scope z) "list.count" (rCnt X.K):=mt_count (X:=k5 X N scope z)
theorem pc_ninC(hu:X.A.units+9<cLine)(hi:PE (k5 X N scope z) i ty)(ho:PE (k5 X N scope z) o td):PC (k5 X N scope z) .In i o (tNIn X.w ty td):=pc_nin (X:=k5 X N scope z) hu hi ho
end
theorem comp_enT{K:aq}{a:Addr}{xs:List V}{sl:List (Option Nat)}{g:TG}{tt:L2.TT}{te:TE}{σ:L2.St}{H1:Hp}{D:Addr}{Q:VK}(Pv:Nat->List V->Hp->Prop)(h0:Pv 0 [] (upd H1 D (.lst [])))(hl:∀i ys H,Pv i ys H->SqT K H a xs)
  (hs:∀i x p zs G,xs[i]?=some x->G p=none->G D=some (.lst zs)->zs.length<=i->Pv i zs G->g (.ref p) (picks sl σ) (upd G p (.tup [.int (i:Nat),x])) λσ2 H2=>Agree (picks sl σ) σ2/\tt σ2 H2 λb H3=>
   if b=true then te σ2 H3 λy H4=>∃xs,H4 D=some (.lst xs)/\xs.length<sizeLine/\Nx D i Pv (upd H4 D (.lst (xs++[y])))else Nx D i Pv H3)
  (hd:∀zs G,G D=some (.lst zs)->zs.length<=xs.length->Pv xs.length zs G->Q (.ref D) G):CompR (Jet K a) sl g tt te σ H1 D Q:=by
 refine comp_by (Jet K a) xs.length Pv h0 (λi zs G hi p=>⟨xs,xs[i],hl i zs G p,by simp[hi]⟩) (λzs G p=>⟨xs,hl _ zs G p,ao _⟩) (λi v zs G G' hi y hD hzl p=>?_) hd
 obtain⟨b,x,hb,rfl,rfl,hx⟩:=y
 exact hs i x b zs G (hx xs (hl i zs G p)) hb hD hzl p
theorem nx_putL{D:Addr}{i:Nat}{Pv:Nat->List V->Hp->Prop}{G:Hp}{ys:List V}{y:V}(hi:i<4000)(hD:G D=some (.lst ys))(hl:ys.length<=i)(h:Pv (i+1) (ys++[y]) (upd G D (.lst (ys++[y])))):∃xs,G D=some (.lst xs)/\xs.length<sizeLine/\Nx D i Pv (upd G D (.lst (xs++[y]))):=
 ⟨ys,hD,by rw[gi];omega,ys++[y],kh,by rw[bo,fw];omega,h⟩
noncomputable def fzip(p:PyData->Bool)(ds:List PyData)(xs:List V)(i:Nat):List V:=(((ds.zip xs).take i).filter λq=>p q.1).map (·.2)
theorem fzip_succ(p:PyData->Bool){ds:List PyData}{xs:List V}{i:Nat}{d:PyData}{x:V}(h1:ds[i]?=some d)(h2:xs[i]?=some x):fzip p ds xs (i+1)=fzip p ds xs i++if p d=true then[x]else[]:=by
 have h:(ds.zip xs)[i]?=some (d,x):=je.mpr ⟨h1,h2⟩
 unfold fzip
 rw[ig,h,List.filter_append,cm]
 congr 1
 cases hp:p d<;>simp[hp]
theorem fzip_rep{H:Hp}(p:PyData->Bool):∀{ds:List PyData} {xs:List V},RepAll H ds xs->RepAll H (ds.filter p) (fzip p ds xs xs.length)
 | [],xs,h=>by cases (show xs=[]from h);exact rfl
 | d::ds,xs,⟨x,r,e,h1,h2⟩=>by
  subst e
  have ih:=fzip_rep p h2
  unfold fzip at ih⊢
  rw[jw,bu,List.take_succ_cons,List.filter_cons,List.filter_cons]
  by_cases hp:p d=true
  .rw[if_pos hp,if_pos hp,e9]
   exact⟨x,_,rfl,h1,ih⟩
  .rw[if_neg hp,if_neg hp]
   exact ih
theorem nx_if{D:Addr}{i:Nat}{p:PyData->Bool}{ds:List PyData}{xs:List V}{d:PyData}{x:V}{S:Hp->Prop}{G:Hp}(hi:i<4000)(hd:ds[i]?=some d)(hx:xs[i]?=some x)(hD:G D=some (.lst (fzip p ds xs i)))(hl:(fzip p ds xs i).length<=i)(hS:S G)(hN:S (upd G D (.lst (fzip p ds xs i++[x])))){b:Bool}(hb:p d=b){te:VK->Prop}(hte:∀Q:VK,Q x G->te Q) :
  if b=true then te (λy H4=>∃ys,H4 D=some (.lst ys)/\ys.length<sizeLine/\Nx D i (λj zs J=>S J/\zs=fzip p ds xs j) (upd H4 D (.lst (ys++[y]))))else Nx D i (λj zs J=>S J/\zs=fzip p ds xs j) G:=by
 have e:=fzip_succ p hd hx
 rw[hb]at e
 cases b with
 | true=>
  rw[if_pos rfl]
  rw[if_pos rfl]at e
  exact hte _ (nx_putL hi hD hl ⟨hN,e.symm⟩)
 | false=>
  rw[if_neg ah]
  rw[if_neg ah,ck]at e
  exact⟨_,hD,Nat.le_succ_of_le hl,hS,e.symm⟩
theorem valN_put{xs:List KA}{d d':PyData}{b:Addr}{v:V}:(valN (putN xs d b v) d').isSome=(decide (d'=d)||(valN xs d').isSome):=by
 unfold putN
 by_cases h:(valN xs d).isSome=true
 .rw[if_pos h]
  have key:(valN (xs.map λx=>if x.1=d then(x.1,x.2.1,v)else x) d').isSome=(valN xs d').isSome:=by
   clear h
   unfold valN
   rw[jl,jl]
   induction xs with
   | nil=>rfl
   | cons x xs ih=>
    rw[e9,List.find?_cons,List.find?_cons]
    have e:(if x.1=d then(x.1,x.2.1,v)else x).1=x.1:=by split<;>rfl
    rw[e]
    by_cases hx:x.1=d'
    .simp[hx]
    .simp only[hx,decide_false]
     exact ih
  rw[key]
  by_cases e:d'=d
  .subst e
   rw[h,Bool.or_true]
  .rw[decide_eq_false e,Bool.false_or]
 .rw[if_neg h]
  unfold valN
  rw[jl,jl,List.find?_append]
  by_cases e:d'=d
  .subst e
   simp
  .have e':¬d=d':=λz=>e z.symm
   simp[e,e']
section
variable{X:Cx}
noncomputable def rCatA(K:aq):R2:=λx y H Q=>∃a b xs ys,x=.ref a/\y=.ref b/\SqT K H a xs/\SqT K H b ys/\xs.length+ys.length<=sizeLine/\
 (xs=[]->Q (.ref b) H)/\(xs≠[]->ys=[]->Q (.ref a) H)/\(xs≠[]->ys≠[]->∀p,H p=none->Q (.ref p) (upd H p (.tup (xs++ys))))
theorem op_catA:OpR X (binaryOp .Add) (rCatA X.K):=by
 intro pins s σ H x y v u Q I rx ry h
 obtain⟨a,b,xs,ys,rfl,rfl,ha,hb,hz,q0,q1,q2⟩:=h
 cases rx
 cases ry
 obtain⟨its,r1,p1,_⟩:=I.tuple ha
 obtain⟨its2,r2,p2,_⟩:=I.tuple hb
 by_cases hx:xs=[]
 .have hv:its=[]:=r1.nil_iff.mpr hx
  obtain⟨⟨cls,dd,data,sl⟩,ho,hc,n,hd⟩:=p1
  obtain⟨⟨cls2,dd2,data2,sl2⟩,ho2,hc2,n2,hd2⟩:=p2
  simp only at hc hd hc2 hd2
  subst hc hd hc2 hd2
  exact concat_meets ⟨_,ho,rfl⟩ ⟨_,ho2,rfl⟩ noFill_tuple_add seq_tuple_add PySem.F.slot_tuple_add PySem.F.entry_tuple_add (PySem.F.args_tuple_add_2 _ _)
   (tuple_addW0 a b its.toArray its2.toArray n n2 dd dd2 sl sl2 (by simp[hv])) ⟨ho,ho2,(x_EE (.ref b) H ⟨I,rfl,q0 hx⟩)⟩
 .refine HT.cat_tup p1 p2 (λz=>hx (r1.nil_iff.mp z)) (λz=>(x_EE (.ref a) H ⟨I,rfl,q1 hx (r2.nil_iff.mp z)⟩)) (λz=>?_) (by rw[<-r1.length,<-r2.length];exact hz)
  refine(x_EE (.ref s.heap.objs.size) _ ⟨I.laid (t':=s.toks) (o:=.tup (xs++ys)) (λb ob q=>ai _ q) (ao _) ?_,rfl,q2 hx (λe=>z (r2.nil_iff.mpr e)) _ (I.hok.fresh (ao _))⟩)
  exact⟨by rw[bo];exact hz,_,r1.append r2,IsTup.new _ _⟩
noncomputable def rCatU:R2:=λx y H Q=>∃a b xs ys,x=.ref a/\y=.ref b/\H a=some (.tup xs)/\H b=some (.tup ys)/\xs.length+ys.length<=sizeLine/\∀c H',Same H H'->H' c=some (.tup (xs++ys))->Q (.ref c) H'
theorem op_catU:OpR X (binaryOp .Add) rCatU:=by
 intro pins s σ H x y v u Q I rx ry h
 obtain⟨a,b,xs,ys,rfl,rfl,ha,hb,hz,q⟩:=h
 refine op_catA pins s σ H _ _ v u Q I rx ry (nv a b xs ys ⟨rfl,rfl,SqT.of ha,SqT.of hb,hz,λe=>?_,λ_ e=>?_,λ_ _ p hp=>?_⟩)
 .subst e;exact q b H (Same.refl _) hb
 .subst e;exact q a H (Same.refl _) (by rw[ck];exact ha)
 .exact q p _ (Same.fresh _ hp) kh
noncomputable def rSlTU:V->Option Int->Option Int->Hp->VK->Prop:=λx lo hi H Q=>∃a xs,x=.ref a/\H a=some (.tup xs)/\∀c H',Same H H'->H' c=some (.tup (cutV xs lo hi))->Q (.ref c) H'
theorem sl_tupU:SlR X rSlTU:=by
 intro pins s σ H x v vl vu lo hi sl Q I rx hs pl pu h
 obtain⟨a,xs,rfl,ha,q⟩:=h
 refine sl_tup2 pins s σ H _ v vl vu lo hi sl Q I rx hs pl pu (x_EE a xs ⟨rfl,SqT.of ha,λe=>?_,λ_ p hp=>?_⟩)
 .refine q a H (Same.refl _) ?_
  have:cutV xs lo hi=xs:=by unfold cutV;rw[e.1,e.2];simp
  rw[this]
  exact ha
 .exact q p _ (Same.fresh _ hp) kh
end
section
variable{prog:Program}{w:World}{A:Around}{E:Value->Shared->Prop}{s:Shared}
theorem two_walkX{op:CmpOp}(hop:op=.Lt\/op=.Gt){a b:Str}{t u:Tok}{Q:Value->Shared->Prop}(hh:A.handled=none)
  (h:∀h' tk v,(∀c o,s.heap.get? c=some o->h'.get? c=some o)->v=(if (if op=.Lt then decide (b.cps.toList<a.cps.toList)else decide (a.cps.toList<b.cps.toList))=true then Value.str b u else .str a t)->Q v {s with heap:=h',toks:=tk}) :
  wpAny (model prog w) A.in1 (pyIter (.ref s.heap.objs.size)) (λit s₂=>∃I fp wr n P St bt,it=.ref I/\Walks prog w A.in1 I fp wr n P St/\St 0 s₂.heap/\(∀b∈fp,b<s₂.heap.objs.size)/\0<n/\CmpOf prog w A.in1 op P bt/\
   ∀v h' tk,P (argBest bt (n-1)) v->(∀b o,b∉wr->s₂.heap.get? b=some o->h'.get? b=some o)->Q v {s₂ with heap:=h',toks:=tk}) E
   {s with heap:=s.heap.push {cls:=.type "tuple",data:=.seq #[.str a t,.str b u]}}:=by
 have hT:(s.heap.push {cls:=.type "tuple",data:=.seq #[.str a t,.str b u]}).IsTuple s.heap.objs.size #[.str a t,.str b u]:=(x_EAAE _ (ay _ rfl) rfl 0 rfl)
 refine ja hT ?_
 have hsz:(s.heap.push {cls:=.type "tuple",data:=.seq #[.str a t,.str b u]}).objs.size=s.heap.objs.size+1:=ju ..
 have two:∀(i:Nat) (v:Value),(#[.str a t,.str b u]:Array Value)[i]?=some v->v=.str a t\/v=.str b u:=λi v e=>by
  match i,e with
  | 0,e=>exact .inl (by simpa using e.symm)
  | 1,e=>exact .inr (by simpa using e.symm)
  | i+2,e=>simp at e
 refine⟨_,[_,s.heap.objs.size],[_],_,_,_,λi j=>match (#[Value.str a t,.str b u]:Array Value)[i]?,(#[Value.str a t,.str b u]:Array Value)[j]? with
   | some (.str x _),some (.str y _)=>if op=.Lt then decide (x.cps.toList<y.cps.toList)else decide (y.cps.toList<x.cps.toList)
   | _,_=>false,rfl,Walks.tuple (A:=A.in1) hh _ s.heap.objs.size (by rw[hsz];exact cc (Nat.lt_succ_self _)) #[.str a t,.str b u],
  ⟨⟨_,ay _ rfl,rfl,rfl⟩,hT.push _⟩,λc hc=>?_,by simp,?_,λv h' tk hP hk=>?_⟩
 .show c<((s.heap.push _).push _).objs.size
  rw[ju,hsz]
  rcases ax.mp hc with rfl|hc
  .rw[hsz];exact Nat.lt_succ_self _
  .rcases ax.mp hc with rfl|hc
   .exact ji (Nat.lt_succ_self _)
   .cases hc
 .intro i j vi vj s Q E hi hj h
  dsimp only at h
  rw[hi,hj]at h
  have isst:∀v,(v=Value.str a t\/v=.str b u)->∃x y,v=.str x y:=λv hv=>by rcases hv with e|e<;>exact(x_EE _ _ e)
  obtain⟨x,tx,rfl⟩:=isst vi (two i vi hi)
  obtain⟨y,ty,rfl⟩:=isst vj (two j vj hj)
  rcases hop with rfl|rfl
  .exact(PyProof.Rows.lt_str (by simpa using h):wpAny (model prog w) _ (compareOp .Lt (.str x tx) (.str y ty)) Q E s)
  .exact richCompare_gives (op:=.Gt) (typeIs_str s _ tx) (typeIs_str s _ ty) F.slot_str_gt F.entry_str_gt (F.args_str_gt_2 _ _) (gives_str_gt x y tx ty) (λe=>nomatch e) (show Q (.bool (decide (y.cps.toList<x.cps.toList))) s from by simpa using h)
 .have hold:∀c o,s.heap.get? c=some o->h'.get? c=some o:=λc o e=>by
   refine hk c o (λhm=>?_) (ai _ (ai _ e))
   rcases ax.mp hm with e1|hm
   .have:=a9 e;rw[e1,hsz]at this;exact iw _ (Nat.lt_of_succ_lt this)
   .cases hm
  refine h h' tk v hold ?_
  have hP':(#[.str a t,.str b u]:Array Value)[if (if op=.Lt then decide (b.cps.toList<a.cps.toList)else decide (a.cps.toList<b.cps.toList))=true then 1 else 0]?=some v:=hP
  cases hb:(if op=.Lt then decide (b.cps.toList<a.cps.toList)else decide (a.cps.toList<b.cps.toList))with
  | true=>rw[hb,if_pos rfl]at hP';rw[if_pos rfl];exact(cy hP').symm
  | false=>rw[hb,if_neg ah]at hP';rw[if_neg ah];exact(cy hP').symm
end
section
variable{X:Cx}
theorem call_min2X(hc:X.calm=true):CallR X (.builtin "min") (λxs H Q=>∃i j:Nat,xs=[.str ⟨#[i]⟩,.str ⟨#[j]⟩]/\Q (.str ⟨#[min i j]⟩) H):=by
 intro pins s σ H xs us Q I r h
 obtain⟨i,j,rfl,q⟩:=h
 obtain⟨u,w',rfl,⟨t,rfl⟩,⟨t',rfl⟩⟩:=vals2 r
 refine call_min_two (two_walkX (.inl rfl) (I.ok.hd hc) λh' tk v k hv=>?_)
 rw[if_pos rfl]at hv
 by_cases hij:j<i
 .rw[if_pos (decide_eq_true (show[_]<[_]from cf.mpr (.inl hij)))]at hv
  subst hv
  rw[Nat.min_eq_right (ic hij)]at q
  exact(x_EE (.str _) H ⟨I.kept k,⟨_,rfl⟩,q⟩)
 .rw[if_neg (λz=>by have z':=of_decide_eq_true z;rcases cf.mp (show[_]<[_]from z')with h|⟨_,h⟩;exact hij h;exact absurd h (List.not_lt_nil _))]at hv
  subst hv
  rw[dg (Nat.le_of_not_lt hij)]at q
  exact(x_EE (.str _) H ⟨I.kept k,⟨_,rfl⟩,q⟩)
theorem call_max2X(hc:X.calm=true):CallR X (.builtin "max") (λxs H Q=>∃i j:Nat,xs=[.str ⟨#[i]⟩,.str ⟨#[j]⟩]/\Q (.str ⟨#[max i j]⟩) H):=by
 intro pins s σ H xs us Q I r h
 obtain⟨i,j,rfl,q⟩:=h
 obtain⟨u,w',rfl,⟨t,rfl⟩,⟨t',rfl⟩⟩:=vals2 r
 refine call_max_two (two_walkX (.inr rfl) (I.ok.hd hc) λh' tk v k hv=>?_)
 rw[if_neg (show ¬(CmpOp.Gt=CmpOp.Lt) by decide)]at hv
 by_cases hij:i<j
 .rw[if_pos (decide_eq_true (show[_]<[_]from cf.mpr (.inl hij)))]at hv
  subst hv
  rw[Nat.max_eq_right (ic hij)]at q
  exact(x_EE (.str _) H ⟨I.kept k,⟨_,rfl⟩,q⟩)
 .rw[if_neg (λz=>by have z':=of_decide_eq_true z;rcases cf.mp (show[_]<[_]from z')with h|⟨_,h⟩;exact hij h;exact absurd h (List.not_lt_nil _))]at hv
  subst hv
  rw[Nat.max_eq_left (Nat.le_of_not_lt hij)]at q
  exact(x_EE (.str _) H ⟨I.kept k,⟨_,rfl⟩,q⟩)
end
theorem keys_rep{H:Hp}:∀{xs:List KA},(∀x∈xs,KRep H x.1 x.2.1)->RepAll H (xs.map (·.1)) (xs.map λx=>V.ref x.2.1)
 | [],_=>rfl
 | x::xs,h=>⟨_,_,rfl,(h x au).rep,keys_rep λy hy=>h y (av _ hy)⟩
theorem keys_vals:∀xs:List KA,Vals (xs.map λx=>V.ref x.2.1) (xs.map λx=>Value.ref x.2.1)
 | []=>.nil
 | _::xs=>.cons rfl (keys_vals xs)
section
variable{X:Cx}
theorem call_sortedDN(hu:X.A.units+64<cLine)(hc:X.calm=true):CallR X (.builtin "sorted") (λvs H Q=>∃a xs ep,vs=[.ref a]/\DN X.w H a xs ep/\xs.length<=4000/\(∀d∈xs.map (·.1),KeyD d/\TT d)/\CmpA (xs.map (·.1))/\
  ∀l ys,H l=none->RepAll (upd H l (.lst ys)) (sortE (xs.map (·.1))) ys->Q (.ref l) (upd H l (.lst ys))):=by
 intro pins s σ H vs us Q I r h
 obtain⟨a,xs,ep,rfl,D,h4,hkey,hcmp,q⟩:=h
 obtain⟨u,rfl,r1⟩:=vals1 r
 cases (show u=Value.ref a from r1)
 obtain⟨es,hde,hsz,hen⟩:=D.de I
 have hds:=keys_rep D.keys
 have rv:=keys_vals xs
 have hos:es.toList.map (·.key)=xs.map λx=>Value.ref x.2.1:=by
  apply List.ext_getElem?
  intro i
  rw[be,be,a0]
  by_cases hi:i<xs.length
  .obtain⟨e,e1,e2,_⟩:=hen i _ (ab hi)
   rw[e1,ab hi]
   exact congrArg some e2
  .rw[i8 (by omega),io (by omega)]
   rfl
 have hdl:(xs.map (·.1)).length=xs.length:=aj _
 have hil:(xs.map λx=>Value.ref x.2.1).length=xs.length:=aj _
 generalize (xs.map λx=>Value.ref x.2.1)=its at *
 generalize (xs.map λx=>V.ref x.2.1)=ys at *
 generalize (xs.map (·.1))=ds at *
 obtain⟨as,rds⟩:=RepAll.reads I hds rv
 have hlay:=hds.lay
 have elt:∀(i:Nat) v d,its[i]?=some v->ds[i]?=some d->d.canLay0=true/\∃as,Reads s.heap v d as:=λi v d h1 h2=>by
  obtain⟨x,e1,e2⟩:=hds.get h2
  obtain⟨u',e3,e4⟩:=rv.get e1
  rw[h1]at e3;cases e3
  exact⟨e2.lay,e2.reads I e4⟩
 obtain⟨g,g1,g2⟩:=sort_vals (h:=s.heap) (by omega) elt (cmp_ord hcmp)
 refine sorted_dictN (κ:=tuples' false) (I.ok.hd hc) D.sys hde (by omega) hos ⟨g,λh2 s' k=>⟨λQ' E' hq=>?_,λx y hx hy Q' hq=>?_⟩,λus h1 h2 tk e u1 u2 kp1 kp2 hg3=>?_⟩
 .obtain⟨fs,k1,k2,k3⟩:=kinds_tt (h:=s'.heap) its ds (by omega) λi v d h1 h2=>by
   obtain⟨bs,rd⟩:=pf rds h1 h2
   exact⟨(hkey d (am h2)).2,bs,Reads.keeps k rd⟩
  refine PySem.W.kat_kind (T:=Value.type "tuple") k1 (by omega) (λv hv=>?_) rfl hq
  obtain⟨a,o,rfl,q1,q2⟩:=k3 v hv
  rw[<-q2]
  exact(PySem.W.Looks.ld q1).andThen .now
 .obtain⟨i,hi⟩:=bz.mp hx
  obtain⟨j,hj⟩:=bz.mp hy
  have di:=ab (show i<ds.length by have:=(ak.mp hi).1;omega)
  have dj:=ab (show j<ds.length by have:=(ak.mp hj).1;omega)
  rw[g1 i j x y _ _ hi di hj dj]at hq
  obtain⟨bs,rd⟩:=pf rds hi di
  obtain⟨bs',rd'⟩:=pf rds hj dj
  have m1:=am di
  have m2:=am dj
  refine key_lt (Reads.keeps k rd) (Reads.keeps k rd') (hkey _ m1).1.2.1 (hkey _ m2).1.2.1 (lay_mem hlay _ m1) (lay_mem hlay _ m2) (hcmp.1 _ m1 _ m2) ?_ hq
  have:=(hkey _ m1).1.2.2
  have:=Nat.min_le_left (ds[i]'((ak.mp di).1)).depth (ds[j]'((ak.mp dj).1)).depth
  show X.A.units+1+1+_<_
  omega
 .obtain⟨T,te,tp,tu,tm⟩:=g2 us u1 u2
  have tr:∀t∈T,∃x,RelV x t.2/\Rep H t.1 x:=λt ht=>by
   obtain⟨i,a1,a2⟩:=tm t ht
   obtain⟨x,e1,e2⟩:=hds.get a1
   obtain⟨u',e3,e4⟩:=rv.get e1
   rw[a2]at e3;cases e3
   exact⟨x,e4,e2⟩
  obtain⟨zs,v1,v2⟩:∃zs,Vals zs us/\RepAll H (T.map (·.1)) zs:=by
   rw[<-te]
   clear te tp tu tm
   induction T with
   | nil=>exact⟨[],.nil,rfl⟩
   | cons t T ih=>
    obtain⟨x,x1,x2⟩:=tr t au
    obtain⟨ys,y1,y2⟩:=ih λt ht=>tr t (av _ ht)
    exact(o5 (x::ys) (.cons x1 y1) x ys ⟨rfl,x2,y2⟩)
  have I3:Inv X pins σ H {s with heap:=h1,toks:=tk}:=I.kept kp1
  have hn:H h1.objs.size=none:=I3.hok.fresh (ao _)
  have hyl:=v2.length
  have htl:=tp.length_eq
  have hz':zs.length<=sizeLine:=by rw[gi];omega
  have hsame:Same H (upd H h1.objs.size (.lst zs)):=λb o q=>by rw[kv (lh q hn)];exact q
  have ee:T.map (·.1)=sortE ds:=by
   refine up_uniq (tp.trans (mh ds).symm) (hcmp.sub λx hx=>tp.mem_iff.mp hx) (fv (λ{a b} ha hb hab=>?_) tu) (sortE_up ds)
   rw[pj (hcmp.1 _ (tp.mem_iff.mp hb) _ (tp.mem_iff.mp ha))]at hab
   exact of_decide_eq_false hab
  rw[ee]at v2
  exact(x_EE (.ref h1.objs.size) _ ⟨I3.laid (t':=tk) (o:=.lst zs) kp2 (ao _) ⟨hz',(x_EE _ e ⟨v1,hg3⟩)⟩,rfl,q _ zs hn (v2.same hsame)⟩)
end
end L3
namespace K41
open PySem PyProof.Rows L2 L3
theorem al{H H':Hp}{a:Addr}{o:HO}(h:H a=none)(g:upd H a o=H'):Same H H'/\H' a=some o:=by
 subst g
 exact⟨Same.fresh _ h,kh⟩
noncomputable def prD(p:Nat×Nat):PyData:=.tuple [.str ⟨#[p.1]⟩,.str ⟨#[p.2]⟩]
noncomputable def sgA(ap:List (Nat×Nat))(k:Nat):List Nat:=(ap.filter λp=>p.1==k).map (·.2)++(ap.filter λp=>p.2==k).map (·.1)
noncomputable def clD(r c:Int):PyData:=.tuple [.int r,.int c]
noncomputable def aroD(r c:Int):List PyData:=[clD (r-1) c,clD r (c-1),clD r (c+1),clD (r+1) c]
theorem pr_at{H:Hp}{p:Nat×Nat}{v:V}(h:Rep H (prD p) v):∃a,v=.ref a/\H a=some (.tup [.str ⟨#[p.1]⟩,.str ⟨#[p.2]⟩]):=by
 obtain⟨a,xs,rfl,ha,z1,t1,rfl,h1,z2,t2,rfl,h2,rfl⟩:=h
 cases (show z1=_ from h1.1)
 cases (show z2=_ from h2.1)
 exact⟨a,rfl,ha⟩
theorem cl_rep{H:Hp}{a:Addr}{r c:Int}(h:H a=some (.tup [.int r,.int c])):Rep H (clD r c) (.ref a):=⟨a,_,rfl,h,_,_,rfl,rfl,_,_,rfl,rfl,rfl⟩
theorem cl_at{H:Hp}{r c:Int}{v:V}(h:Rep H (clD r c) v):∃a,v=.ref a/\H a=some (.tup [.int r,.int c]):=by
 obtain⟨a,xs,rfl,ha,z1,t1,rfl,h1,z2,t2,rfl,h2,rfl⟩:=h
 cases (show z1=_ from h1)
 cases (show z2=_ from h2)
 exact⟨a,rfl,ha⟩
theorem filt_succ{α β:Type}(p:α->Bool)(g:α->β){xs:List α}{i:Nat}{x:α}(h:xs[i]?=some x):((xs.take (i+1)).filter p).map g=((xs.take i).filter p).map g++if p x=true then[g x]else[]:=by
 rw[ig,h,List.filter_append,cm]
 congr 1
 cases hp:p x<;>simp[hp]
noncomputable def chV(k:Nat):V:=.str ⟨#[k]⟩
theorem ch_inj{a b:Nat}:chV a=chV b↔a=b:=by
 constructor
 .intro e
  unfold chV at e
  injection e with e
  injection e with e
  simpa using e
 .rintro rfl;rfl
seal L2.PE L2.PT L2.PW L2.PA L2.PS L2.PSs L2.PG L2.PGs L2.PI L2.PO
set_option pp.maxSteps 3000
section
variable{P:Program}{w:World}{K:aq}{mg:Str->Option Value}{base:Heap}{f:Addr}{fd:FuncData}
noncomputable def spAro:Sp:=λvs H Q _=>∃(a:Addr) (r c:Int),vs=[.ref a]/\H a=some (.tup [.int r,.int c])/\∀(l:Addr) (ys:List V) (H':Hp),Same H H'->H l=none->H' l=some (.lst ys)->RepAll H' (aroD r c) ys->Q (.ref l) H'
theorem scAro:ky ["cell","row","column"] ["cell"] (kq sAro):=⟨rfl,rfl,rfl,by decide +kernel,rfl,by decide +kernel,by decide +kernel⟩
theorem ok_aro(F:Fun K "around" "around" sAro f fd):FnOk P w K mg base CX0 1 f fd ["cell"] spAro:=by
 refine F.ok (k:=0) scAro (λvs H Q E h=>?_) (λcdv A outer s H vs Q E hr h=>?_)
 .obtain⟨_,_,_,rfl,_⟩:=h
  rfl
 obtain⟨a,r,c,rfl,ha,q⟩:=h
 refine⟨_,(kc (k6 (i:=1) scAro.nd rfl (Or.inl rfl) (pe_ix li (pv 0) kg (λ_ _=>rfl)))
  (kc (k6 (i:=2) scAro.nd rfl (Or.inl rfl) (pe_ix li (pv 0) kg (λ_ _=>rfl)))
  (km (k7 (ny (pa_c (lc (pa_c (pe_op op_sub (pv 1) kg) (pa_c (pv 2) kb))) (pa_c (lc (pa_c (pv 1) (pa_c (pe_op op_sub (pv 2) kg) kb))) (pa_c (lc (pa_c (pv 1) (pa_c (pe_op nq (pv 2) kg) kb))) (pa_c (lc (pa_c (pe_op nq (pv 1) kg) (pa_c (pv 2) kb))) kb))))))))),?_⟩
 refine⟨_,rfl,a,_,_,_,rfl,rfl,SqT.of ha,ku (j:=0) rfl,_,rfl,a,_,_,_,rfl,rfl,SqT.of ha,ku (j:=1) rfl,?_⟩
 refine⟨_,rfl,_,_,rfl,rfl,_,rfl,(by show 2<=sizeLine;decide),λa1 h1=>?_⟩
 generalize g1:upd H a1 _=H1 at *
 obtain⟨s1,e1⟩:=al h1 g1
 refine⟨_,rfl,_,rfl,_,_,rfl,rfl,(by show 2<=sizeLine;decide),λa2 h2=>?_⟩
 generalize g2:upd H1 a2 _=H2 at *
 obtain⟨s2,e2⟩:=al h2 g2
 refine⟨_,rfl,_,rfl,_,_,rfl,rfl,(by show 2<=sizeLine;decide),λa3 h3=>?_⟩
 generalize g3:upd H2 a3 _=H3 at *
 obtain⟨s3,e3⟩:=al h3 g3
 refine⟨_,rfl,_,_,rfl,rfl,_,rfl,(by show 2<=sizeLine;decide),λa4 h4=>?_⟩
 generalize g4:upd H3 a4 _=H4 at *
 obtain⟨s4,e4⟩:=al h4 g4
 refine⟨(by show 4<=sizeLine;decide),λl hl=>?_⟩
 generalize g5:upd H4 l _=H5 at *
 obtain⟨s5,e5⟩:=al hl g5
 exact q l _ H5 ((((s1.trans s2).trans s3).trans s4).trans s5) ((((s1.trans s2).trans s3).trans s4).free hl) e5
  ⟨_,_,rfl,cl_rep ((((s2.trans s3).trans s4).trans s5) _ _ e1),_,_,rfl,cl_rep (((s3.trans s4).trans s5) _ _ e2),_,_,rfl,cl_rep ((s4.trans s5) _ _ e3),_,_,rfl,cl_rep (s5 _ _ e4),rfl⟩
noncomputable def spSa:Sp:=λvs H Q _=>∃(e:Addr) (k:Nat) (ap:List (Nat×Nat)) (avs:List V),vs=[.ref e,chV k]/\H e=some (.tup avs)/\RepAll H (ap.map prD) avs/\ap.length<=100/\∀(l:Addr) (H':Hp),Same H H'->H l=none->H' l=some (.lst ((sgA ap k).map chV))->Q (.ref l) H'
theorem scSa:ky ["apart","sign"] ["apart","sign"] (kq sSa):=⟨rfl,rfl,rfl,by decide +kernel,rfl,by decide +kernel,by decide +kernel⟩
theorem ok_sa(F:Fun K "signs_apart" "signs_apart" sSa f fd):FnOk P w K mg base CX0 1 f fd ["apart","sign"] spSa:=by
 refine F.ok (k:=0) scSa (λvs H Q E h=>?_) (λcdv A outer s H vs Q E hr h=>?_)
 .obtain⟨_,_,_,_,rfl,_⟩:=h
  rfl
 obtain⟨e,k,ap,avs,rfl,he,rep,hap,q⟩:=h
 have hl:=rep.length
 rw[aj]at hl
 refine⟨_,(km (k7 (pe_op op_cat (lj ["one","other","sign"] [none,none,some 1] rfl rfl (by decide +kernel) (by decide +kernel) rfl rfl (pi_tup (pv 0)) (λ_=>(oe (n:=2) rfl (kj (ke (i:=0) (show(["one","other","sign"]:List PySem.Str).Nodup by decide +kernel) rfl (Or.inl rfl)) (kj (ke (i:=1) (show(["one","other","sign"]:List PySem.Str).Nodup by decide +kernel) rfl (Or.inl rfl)) lq)))) (λ_=>pts_one (l7 op_eq (pv 0) (pv 2) (m9 _))) (λ_=>(pv 1))) (lj ["one","other","sign"] [none,none,some 1] rfl rfl (by decide +kernel) (by decide +kernel) rfl rfl (pi_tup (pv 0)) (λ_=>(oe (n:=2) rfl (kj (ke (i:=0) (show(["one","other","sign"]:List PySem.Str).Nodup by decide +kernel) rfl (Or.inl rfl)) (kj (ke (i:=1) (show(["one","other","sign"]:List PySem.Str).Nodup by decide +kernel) rfl (Or.inl rfl)) lq)))) (λ_=>pts_one (l7 op_eq (pv 1) (pv 2) (m9 _))) (λ_=>(pv 0)))))),?_⟩
 refine⟨_,rfl,e,rfl,⟨_,SqT.of he⟩,λD hD=>?_⟩
 refine comp_tup (xs:=avs) (λi zs G=>Same H G/\zs=(((ap.take i).filter λp=>p.1==k).map (·.2)).map chV) ⟨Same.fresh _ hD,rfl⟩ (λi zs G p=>SqT.of (p.1 _ _ he)) (λi x zs G hx hi hDy hzl p=>?_) (λzs G hDy hzl p=>?_)
 .obtain⟨p1,rfl⟩:=p
  obtain⟨d,hd,rd⟩:=rep.at hx
  rw[be]at hd
  obtain⟨⟨a,b⟩,hs,rfl⟩:=cu.mp hd
  obtain⟨t,rfl,ht⟩:=pr_at rd
  refine⟨t,_,rfl,SqT.of (p1 _ _ ht),rfl,_,_,rfl,_,_,rfl,rfl,?_⟩
  refine⟨Agree.set (Agree.set (Agree.refl _) rfl) rfl,?_⟩
  have fs:=filt_succ (λp:Nat×Nat=>p.1==k) (λp=>chV p.2) hs
  refine⟨_,rfl,_,rfl,rfl,decide (a=k),?_,ite2 (λh=>?_) (λh=>?_)⟩
  .exact congrArg V.bl (decide_eq_decide.mpr ch_inj)
  .have e:a=k:=of_decide_eq_true h
   rw[if_pos (show(a==k)=true from beq_iff_eq.mpr e)]at fs
   refine⟨_,rfl,nk (by omega) hDy hzl ⟨p1.new hD,?_⟩⟩
   rw[bp,bp]
   exact fs.symm
  .have e:¬a=k:=of_decide_eq_false (by simpa using h)
   rw[if_neg (show ¬(a==k)=true from λz=>e (beq_iff_eq.mp z)),ck]at fs
   refine⟨_,hDy,Nat.le_succ_of_le hzl,p1,?_⟩
   rw[bp,bp]
   exact fs.symm
 obtain⟨p1,rfl⟩:=p
 rw[a7 (by omega)]at hDy
 refine⟨_,rfl,e,rfl,⟨_,SqT.of (p1 _ _ he)⟩,λD2 hD2=>?_⟩
 refine comp_tup (xs:=avs) (λi zs J=>Same G J/\zs=(((ap.take i).filter λp=>p.2==k).map (·.1)).map chV) ⟨Same.fresh _ hD2,rfl⟩ (λi zs J p=>SqT.of (p.1 _ _ (p1 _ _ he))) (λi x zs J hx hi hDz hzl2 p=>?_) (λzs J hDz hzl2 p=>?_)
 .obtain⟨p2,rfl⟩:=p
  obtain⟨d,hd,rd⟩:=rep.at hx
  rw[be]at hd
  obtain⟨⟨a,b⟩,hs,rfl⟩:=cu.mp hd
  obtain⟨t,rfl,ht⟩:=pr_at rd
  refine⟨t,_,rfl,SqT.of (p2 _ _ (p1 _ _ ht)),rfl,_,_,rfl,_,_,rfl,rfl,?_⟩
  refine⟨Agree.set (Agree.set (Agree.refl _) rfl) rfl,?_⟩
  have fs:=filt_succ (λp:Nat×Nat=>p.2==k) (λp=>chV p.1) hs
  refine⟨_,rfl,_,rfl,rfl,decide (b=k),?_,ite2 (λh=>?_) (λh=>?_)⟩
  .exact congrArg V.bl (decide_eq_decide.mpr ch_inj)
  .have e:b=k:=of_decide_eq_true h
   rw[if_pos (show(b==k)=true from beq_iff_eq.mpr e)]at fs
   refine⟨_,rfl,nk (by omega) hDz hzl2 ⟨p2.new hD2,?_⟩⟩
   rw[bp,bp]
   exact fs.symm
  .have e:¬b=k:=of_decide_eq_false (by simpa using h)
   rw[if_neg (show ¬(b==k)=true from λz=>e (beq_iff_eq.mp z)),ck]at fs
   refine⟨_,hDz,Nat.le_succ_of_le hzl2,p2,?_⟩
   rw[bp,bp]
   exact fs.symm
 obtain⟨p2,rfl⟩:=p
 rw[a7 (by omega)]at hDz
 have l1:=gy (λp:Nat×Nat=>p.1==k) ap
 have l2:=gy (λp:Nat×Nat=>p.2==k) ap
 refine⟨D,D2,_,_,rfl,rfl,p2 _ _ hDy,hDz,ic (l8 (by rw[aj,aj,aj,aj];omega)),λl hl=>?_⟩
 have s3:Same J (upd J l (.lst ((List.map chV (List.map (·.2) (List.filter (λp:Nat×Nat=>p.1==k) ap)))++List.map chV (List.map (·.1) (List.filter (λp:Nat×Nat=>p.2==k) ap))))):=Same.fresh _ hl
 refine q l _ ((p1.trans p2).trans s3) ((p1.trans p2).free hl) ?_
 unfold sgA
 rw[cm]
 exact kh
end
noncomputable def KeysAre(xs:List KA)(L:List PyData):Prop:=xs.length<=L.length/\∀k,(valN xs k).isSome=decide (k∈L)
theorem KeysAre.put{xs:List KA}{L:List PyData}(h:KeysAre xs L)(d:PyData)(b:Addr)(v:V):KeysAre (putN xs d b v) (L++[d]):=⟨by
 have:=length_putN xs d b v
 have:=h.1
 rw[bo,fw]
 omega,λk=>by
 rw[valN_put,h.2 k]
 by_cases e:k=d
 .subst e;simp
 .simp[e]⟩
theorem keys_nil:KeysAre [] []:=⟨ao _,λk=>rfl⟩
noncomputable abbrev Sg:=Nat×Nat×Nat
noncomputable def sgD(s:Sg):PyData:=.tuple [.int (s.1:Nat),.int (s.2.1:Nat),.str ⟨#[s.2.2]⟩]
noncomputable def plD(ss:List Sg)(n:Int):PyData:=.tuple [.tuple (ss.map sgD),.int n]
noncomputable def aroC(r c:Int):List (Int×Int):=[(r-1,c),(r,c-1),(r,c+1),(r+1,c)]
noncomputable def cD(p:Int×Int):PyData:=clD p.1 p.2
noncomputable def k3(p:Int×Int)(o:Nat):PyData:=.tuple [.int p.1,.int p.2,.str ⟨#[o]⟩]
noncomputable def barS(ap:List (Nat×Nat))(s:Sg):List PyData:=cD (s.1,s.2.1)::(aroC s.1 s.2.1).flatMap λp=>(sgA ap s.2.2).map (k3 p)
noncomputable def barK(ap:List (Nat×Nat))(ss:List Sg):List PyData:=ss.flatMap (barS ap)
theorem flat_succ{α β:Type}(g:α->List β){xs:List α}{i:Nat}{x:α}(h:xs[i]?=some x):(xs.take (i+1)).flatMap g=(xs.take i).flatMap g++g x:=by
 rw[ig,h,List.flatMap_append]
 simp
theorem sgA_len(ap:List (Nat×Nat))(k:Nat):(sgA ap k).length<=2*ap.length:=by
 unfold sgA
 rw[bo,aj,aj]
 have:=gy (λp:Nat×Nat=>p.1==k) ap
 have:=gy (λp:Nat×Nat=>p.2==k) ap
 omega
theorem flatLen{α β:Type}(g:α->List β){n:Nat}(hg:∀x,(g x).length<=n):∀xs:List α,(xs.flatMap g).length<=n*xs.length
 | []=>ao _
 | x::xs=>by
  have:=flatLen g hg xs
  have:=hg x
  rw[List.flatMap_cons,bo,bu,Nat.mul_add]
  omega
theorem sgA_ok{ap:List (Nat×Nat)}(h:∀p∈ap,p.1<128/\p.2<128){k o:Nat}(ho:o∈sgA ap k):o<128:=by
 unfold sgA at ho
 rcases bm.mp ho with h1|h1
 .obtain⟨p,hp,rfl⟩:=bi.mp h1
  exact(h p (dv.mp hp).1).2
 .obtain⟨p,hp,rfl⟩:=bi.mp h1
  exact(h p (dv.mp hp).1).1
theorem barK_len{ap:List (Nat×Nat)}(h:ap.length<=2)(ss:List Sg):(barK ap ss).length<=17*ss.length:=flatLen _ (λs=>by
 have:=flatLen (λp=>(sgA ap s.2.2).map (k3 p)) (n:=4) (λp=>by rw[aj];have:=sgA_len ap s.2.2;omega) (aroC s.1 s.2.1)
 show _+1<=17
 have e:(aroC s.1 s.2.1).length=4:=rfl
 rw[e]at this
 omega) ss
theorem kr2{H:Hp}{a:Addr}{r c:Int}(h:H a=some (.tup [.int r,.int c])):KRep H (clD r c) a:=⟨rfl,by simp[clD,gu,bv],pi h⟩
theorem kr3{H:Hp}{a:Addr}{p:Int×Int}{o:Nat}(h:H a=some (.tup [.int p.1,.int p.2,.str ⟨#[o]⟩]))(ho:PyData.strOk ⟨#[o]⟩=true):KRep H (k3 p o) a:=⟨rfl,by simp[k3,gu,bv],spot_rep h ho⟩
noncomputable def ApT(H:Hp)(e:Addr)(ap:List (Nat×Nat)):Prop:=∃avs,H e=some (.tup avs)/\RepAll H (ap.map prD) avs/\ap.length<=2/\∀p∈ap,p.1<128/\p.2<128
theorem ApT.same{H H':Hp}{e:Addr}{ap:List (Nat×Nat)}(h:ApT H e ap)(s:Same H H'):ApT H' e ap:=by
 obtain⟨avs,h1,h2,h3,h4⟩:=h
 exact⟨avs,s _ _ h1,h2.same s,h3,h4⟩
set_option pp.maxSteps 3000
section
variable{P:Program}{w:World}{K:aq}{mg:Str->Option Value}{base:Heap}{f:Addr}{fd:FuncData}
noncomputable def spBar(w:World):Sp:=λvs H Q _=>∃(e p:Addr) (ap:List (Nat×Nat)) (ss:List Sg) (n:Int),vs=[.ref e,.ref p]/\ApT H e ap/\Rep H (plD ss n) (.ref p)/\ss.length<=6/\∀(a:Addr) (xs:List KA) (ep:Nat) (H':Hp),Same H H'->DN w H' a xs ep->KeysAre xs (barK ap ss)->Q (.ref a) H'
theorem scBar:ky ["apart","placement","barred","row","column","sign","cell","other"] ["apart","placement"] (kq sBar):=⟨rfl,rfl,rfl,by decide +kernel,rfl,by decide +kernel,by decide +kernel⟩
theorem ok_bar(Faro:Fn P w K mg base "around" 1 ["cell"] spAro)(Fsa:Fn P w K mg base "signs_apart" 1 ["apart","sign"] spSa)(F:Fun K "barred_by" "barred_by" sBar f fd):FnOk P w K mg base CX0 2 f fd ["apart","placement"] (spBar w):=by
 refine F.ok (k:=1) scBar (λvs H Q E h=>?_) (λcdv A outer s H vs Q E hr h=>?_)
 .obtain⟨_,_,_,_,_,rfl,_⟩:=h
  rfl
 obtain⟨e,p,ap,ss,n,rfl,hA0,hp,h6,q⟩:=h
 obtain⟨_,_,_,hap,hA2⟩:=id hA0
 have hu:=hr.units
 obtain⟨pp,pxs,hpp,hpx,y0,t0,rfl,⟨b,bxs,rfl,hb,repB⟩,_⟩:=hp
 cases hpp
 have lb:=repB.length
 rw[aj]at lb
 refine⟨_,(kc (k6 (i:=2) scBar.nd rfl (Or.inl rfl) pe_nnew)
  (kc (m7 b7 rfl (pi_tup (pe_ix li (pv 1) kg (λ_ _=>rfl))) (pg_tup (n:=3) rfl (kj (ke (i:=3) scBar.nd rfl (Or.inl rfl)) (kj (ke (i:=4) scBar.nd rfl (Or.inl rfl)) (kj (ke (i:=5) scBar.nd rfl (Or.inl rfl)) lq)))) (kc (ps_nput (jv (Nat.add_le_add_left (by decide) _) hu) (pv 2) (lc (pa_c (pv 3) (pa_c (pv 4) kb))) pe_bl rfl)
  (km (m7 b7 rfl (lm (pe_fn Faro hr (by decide) rfl (pa_c (lc (pa_c (pv 3) (pa_c (pv 4) kb))) kb))) (ke (i:=6) scBar.nd rfl (Or.inl rfl)) (km (m7 b7 rfl (lm (pe_fn Fsa hr (by decide) rfl (pa_c (pv 0) (pa_c (pv 5) kb)))) (ke (i:=7) scBar.nd rfl (Or.inl rfl)) (km (ps_nput (jv (Nat.add_le_add_left (by decide) _) hu) (pv 2) (pe_op op_catT (pv 6) (lc (pa_c (pv 7) kb))) pe_bl rfl))))))))
  (km (k7 (pv 2))))),?_⟩
 refine λD hD hsys=>?_
 generalize gg:upd H D _=H1 at *
 have s1:Same H H1:=(al hD gg).1
 have d1:DN w H1 D [] 0:=by rw[<-gg];exact DN.new hsys
 clear gg
 refine⟨_,rfl,p,_,_,_,rfl,rfl,SqT.of (s1 _ _ hpx),ku (j:=0) rfl,b,rfl,⟨_,SqT.of (s1 _ _ hb)⟩,?_⟩
 refine for_tup (xs:=bxs) (λi σ' G=>∃(y3 y4 y5 y6 y7:Option V) (xs:List KA) (ep:Nat),σ'=[some (.ref e),some (.ref p),some (.ref D),y3,y4,y5,y6,y7]/\Same H G/\DN w G D xs ep/\KeysAre xs (barK ap (ss.take i))) ?_ (λi σ' G hi hI=>?_) (λi x σ' G hx hI=>?_) (λσ' G hI=>?_)
 .exact⟨_,_,_,_,_,[],0,rfl,s1,d1,keys_nil⟩
 .obtain⟨_,_,_,_,_,_,_,_,sg,_⟩:=hI
  exact SqT.of (sg _ _ hb)
 .obtain⟨y3,y4,y5,y6,y7,xs,ep,rfl,sg,dn,kx⟩:=hI
  have hi:i<bxs.length:=(ak.mp hx).1
  obtain⟨d,hd,rd⟩:=repB.at hx
  rw[be]at hd
  obtain⟨⟨r,c,k⟩,hs,rfl⟩:=cu.mp hd
  obtain⟨b',rfl,hb',hok⟩:=oy rd
  have kxl:=kx.1
  have bl:=barK_len hap (ss.take i)
  rw[bx]at bl
  have bs:barK ap (ss.take (i+1))=barK ap (ss.take i)++barS ap (r,c,k):=flat_succ _ hs
  refine⟨b',_,rfl,SqT.of (sg _ _ hb'),rfl,_,_,rfl,_,_,rfl,_,_,rfl,rfl,?_⟩
  refine⟨_,rfl,_,rfl,_,rfl,(by show 2<=sizeLine;decide),λt ht=>?_⟩
  generalize g1:upd G t _=G1 at *
  obtain⟨st,et⟩:=al ht g1
  refine⟨D,xs,ep,clD r c,t,rfl,rfl,dn.same st,kr2 et,l8 (by omega),λep1=>?_⟩
  generalize gg:upd G1 D _=G2 at *
  have sg2:Same H G2:=by rw[<-gg];exact(sg.trans st).new hD
  have dn2:DN w G2 D (putN xs (clD r c) t (.bl true)) ep1:=by rw[<-gg];exact(dn.same st).put (kr2 et) (l8 (by omega)) (.bl true) ep1
  have kx2:=kx.put (clD r c) t (.bl true)
  clear gg
  generalize putN xs (clD r c) t (.bl true)=xs2 at *
  refine⟨_,rfl,_,rfl,(by show 2<=sizeLine;decide),λt2 ht2=>?_⟩
  generalize g3:upd G2 t2 _=G3 at *
  obtain⟨s3,e3⟩:=al ht2 g3
  refine⟨t2,r,c,rfl,e3,λl ys G4 s4 hl0 hl repL=>⟨l,rfl,⟨_,SqL.of hl⟩,?_⟩⟩
  have dn4:=dn2.same (s3.trans s4)
  have sg4:=sg2.trans (s3.trans s4)
  have lD:l≠D:=λz=>by rw[z,(dn2.same s3).obj]at hl0;cases hl0
  have ly:=repL.length
  refine o8 (xs:=ys) (λj σ' J=>∃(y6 y7:Option V) (xs:List KA) (ep:Nat),σ'=[some (.ref e),some (.ref p),some (.ref D),some (.int (r:Nat)),some (.int (c:Nat)),some (.str ⟨#[k]⟩),y6,y7]/\Ex [D] G4 J/\DN w J D xs ep/\KeysAre xs (barK ap (ss.take i)++[clD r c]++((aroC r c).take j).flatMap λp=>(sgA ap k).map (k3 p))) ?_ (λj σ' J hj hI=>?_) (λj x σ' J hx hI=>?_) (λσ' J hI=>?_)
  .exact⟨_,_,xs2,ep1,rfl,Ex.refl _ _,dn4,by rw[List.take_zero,List.flatMap_nil,ck];exact kx2⟩
  .obtain⟨_,_,_,_,_,ex,_⟩:=hI
   exact SqL.of (ex.at lD hl)
  .obtain⟨y6,y7,xs,ep,rfl,ex,dn,kx⟩:=hI
   have hj:j<4:=by have:=(ak.mp hx).1;rw[ly]at this;exact this
   obtain⟨d,hd,rd⟩:=repL.at hx
   rw[show aroD r c=(aroC r c).map cD from rfl,be]at hd
   obtain⟨pc,hpc,rfl⟩:=cu.mp hd
   obtain⟨ca,rfl,hca⟩:=cl_at rd
   have fs:=flat_succ (λp=>(sgA ap k).map (k3 p)) hpc
   have sJ:Same H J:=λa o ha=>ex.at (λz=>by rw[z,hD]at ha;cases ha) (sg4 _ _ ha)
   have caD:ca≠D:=ne_of hca dn4.obj (by intro z;cases z)
   obtain⟨avs,ha1,ha2,_⟩:=hA0.same sJ
   refine⟨_,rfl,_,rfl,e,k,ap,avs,rfl,ha1,ha2,by omega,λl2 J2 s2 hl20 hl2=>⟨l2,rfl,⟨_,SqL.of hl2⟩,?_⟩⟩
   have l2D:l2≠D:=λz=>by rw[z,dn.obj]at hl20;cases hl20
   refine o8 (xs:=(sgA ap k).map chV) (λm σ' J=>∃(y7:Option V) (xs:List KA) (ep:Nat),σ'=[some (.ref e),some (.ref p),some (.ref D),some (.int (r:Nat)),some (.int (c:Nat)),some (.str ⟨#[k]⟩),some (.ref ca),y7]/\Ex [D] J2 J/\DN w J D xs ep/\KeysAre xs (barK ap (ss.take i)++[clD r c]++(((aroC r c).take j).flatMap λp=>(sgA ap k).map (k3 p))++((sgA ap k).take m).map (k3 pc))) ?_ (λm σ' J hj hI=>?_) (λm x σ' J hx hI=>?_) (λσ' J hI=>?_)
   .exact⟨_,xs,ep,rfl,Ex.refl _ _,dn.same s2,by rw[List.take_zero,List.map_nil,ck];exact kx⟩
   .obtain⟨_,_,_,_,ex,_⟩:=hI
    exact SqL.of (ex.at l2D hl2)
   .obtain⟨y7,xs,ep,rfl,ex2,dn,kx⟩:=hI
    rw[be]at hx
    obtain⟨o,ho,rfl⟩:=cu.mp hx
    have kxl:=kx.1
    rw[bo,bo,bo,aj,bx,fw]at kxl
    have sal:=sgA_len ap k
    have:=flatLen (λp=>(sgA ap k).map (k3 p)) (n:=4) (λp=>by rw[aj];have:=sgA_len ap k;omega) ((aroC r c).take j)
    rw[bx]at this
    have:=sgA_len ap k
    have hcJ:=ex2.at caD (s2 _ _ (ex.at caD hca))
    refine⟨_,rfl,_,rfl,_,rfl,(by show 1<=sizeLine;decide),λu hu0=>?_⟩
    generalize g5:upd J u _=J5 at *
    obtain⟨s5,e5⟩:=al hu0 g5
    refine⟨ca,u,_,_,rfl,rfl,SqT.of (s5 _ _ hcJ),SqT.of e5,(by intro z;cases z),(by show 3<=sizeLine;decide),(λz=>by cases z),λ_ v hv=>?_⟩
    generalize g6:upd J5 v _=J6 at *
    obtain⟨s6,e6⟩:=al hv g6
    have kr:=kr3 (p:=pc) (o:=o) e6 (ok1 (sgA_ok hA2 (am ho)))
    refine⟨D,xs,ep,k3 pc o,v,rfl,rfl,dn.same (s5.trans s6),kr,l8 (by omega),λep6=>?_⟩
    refine⟨_,_,ep6,rfl,ex2.trans ((Ex.of_same (s5.trans s6)).trans (Ex.upd (by simp))),(dn.same (s5.trans s6)).put kr (l8 (by omega)) (.bl true) ep6,?_⟩
    rw[k8 (k3 pc) ho,<-bf]
    exact kx.put _ _ _
   .obtain⟨y7,xs,ep,rfl,ex2,dn,kx⟩:=hI
    rw[aj,List.take_length]at kx
    refine⟨_,_,xs,ep,rfl,ex.trans ((Ex.of_same s2).trans ex2),dn,?_⟩
    rw[fs,<-bf]
    exact kx
  .obtain⟨y6,y7,xs,ep,rfl,ex,dn,kx⟩:=hI
   refine⟨_,_,_,_,_,xs,ep,rfl,λa o ha=>ex.at (λz=>by rw[z,hD]at ha;cases ha) (sg4 _ _ ha),dn,?_⟩
   rw[ly,show(aroD (r:Nat) (c:Nat)).length=(aroC (r:Nat) (c:Nat)).length from rfl,List.take_length]at kx
   rw[bs]
   rw[bf]at kx
   exact kx
 .obtain⟨y3,y4,y5,y6,y7,xs,ep,rfl,sg,dn,kx⟩:=hI
  rw[a7 (by omega)]at kx
  exact⟨_,rfl,q D xs ep G sg dn kx⟩
end
noncomputable def hbB(L:List PyData)(tt:List Sg):Bool:=tt.any λt=>decide (sgD t∈L)||decide (clD (t.1:Nat) (t.2.1:Nat)∈L)
noncomputable def sgOf:PyData->Sg
 | .tuple [.int r,.int c,.str z]=>(r.toNat,c.toNat,z.cps.toList.headD 0)
 | _=>(0,0,0)
noncomputable def mz:PyData->List Sg
 | .tuple [.tuple es,_]=>es.map sgOf
 | _=>[]
noncomputable def numOf:PyData->Int
 | .tuple [_,.int n]=>n
 | _=>0
theorem spots_pl(ss:List Sg)(n:Int):mz (plD ss n)=ss:=by
 show(ss.map sgD).map sgOf=ss
 rw[bp]
 exact(fc λs _=>rfl).trans (List.map_id _)
theorem sg_of{es:List PyData}(h:∀e∈es,SgN e):∃ss:List Sg,es=ss.map sgD/\∀s∈ss,65<=s.2.2/\s.2.2<=90:=by
 induction es with
 | nil=>exact⟨[],rfl,λs hs=>by cases hs⟩
 | cons e es ih=>
  obtain⟨ss,rfl,hl⟩:=ih λx hx=>h x (av _ hx)
  obtain⟨r,c,k,rfl,h1,h2⟩:=h e au
  exact⟨(r,c,k)::ss,rfl,λs hs=>by
   rcases ax.mp hs with rfl|hs
   .exact⟨h1,h2⟩
   .exact hl s hs⟩
theorem pl_of{d:PyData}(h:PlD d):∃ss n,d=plD ss n/\ss.length<=6/\∀s∈ss,65<=s.2.2/\s.2.2<=90:=by
 obtain⟨es,n,rfl,hs,_,h6⟩:=h
 obtain⟨ss,rfl,hl⟩:=sg_of hs
 exact⟨ss,n,rfl,by rw[aj]at h6;exact h6,hl⟩
theorem bl_snoc{α:Type}(g:α->Bool){xs:List α}{i:Nat}{x:α}(h:xs[i]?=some x):((xs.take (i+1)).map g).map V.bl=((xs.take i).map g).map V.bl++[V.bl (g x)]:=by
 rw[k8 g h,cm]
 rfl
set_option pp.maxSteps 3000
section
variable{P:Program}{w:World}{K:aq}{mg:Str->Option Value}{base:Heap}{f:Addr}{fd:FuncData}
noncomputable def spHb(w:World):Sp:=λvs H Q _=>∃(a p:Addr) (xs:List KA) (ep:Nat) (L:List PyData) (tt:List Sg) (n:Int),vs=[.ref a,.ref p]/\DN w H a xs ep/\KeysAre xs L/\Rep H (plD tt n) (.ref p)/\tt.length<=6/\∀H':Hp,Same H H'->Q (.bl (hbB L tt)) H'
theorem scHb:ky ["barred","placement"] ["barred","placement"] (kq sHb):=⟨rfl,rfl,rfl,by decide +kernel,rfl,by decide +kernel,by decide +kernel⟩
theorem ok_hb(B:∀x∈blts,mg x=none)(F:Fun K "has_barred" "has_barred" sHb f fd):FnOk P w K mg base CX0 1 f fd ["barred","placement"] (spHb w):=by
 refine F.ok (k:=0) scHb (λvs H Q E h=>?_) (λcdv A outer s H vs Q E hr h=>?_)
 .obtain⟨_,_,_,_,_,_,_,rfl,_⟩:=h
  rfl
 obtain⟨a,p,xs,ep,L,tt,n,rfl,dn,kx,hp,h6,q⟩:=h
 have hu:=hr.units
 obtain⟨pp,pxs,hpp,hpx,y0,t0,rfl,⟨b,bxs,rfl,hb,repB⟩,_⟩:=hp
 cases hpp
 have lb:=repB.length
 rw[aj]at lb
 refine⟨_,(km (k7 (pe_cB (call_any rfl) rfl (B "any" (by decide)) boot_any (pa_c (lj ["spot","barred"] [none,some 0] rfl rfl (by decide +kernel) (by decide +kernel) rfl rfl (pi_tup (pe_ix li (pv 1) kg (λ_ _=>rfl))) (λ_=>(ke (i:=0) (show(["spot","barred"]:List PySem.Str).Nodup by decide +kernel) rfl (Or.inl rfl))) (λ_=>me) (λ_=>(pe_or (pe_cmp (pc_ninC (jv (Nat.add_le_add_left (by decide) _) hu) (pv 0) (pv 1))) (pe_one (pe_cmp (pc_ninC (jv (Nat.add_le_add_left (by decide) _) hu) (pe_slice sl_tupU (pv 0) po_none (po_some kg)) (pv 1))))))) kb)))),?_⟩
 refine⟨_,rfl,p,_,_,_,rfl,rfl,SqT.of hpx,ku (j:=0) rfl,b,rfl,⟨_,SqT.of hb⟩,λD hD=>?_⟩
 refine comp_tup (xs:=bxs) (λi zs G=>Same H G/\zs=((tt.take i).map λt=>decide (sgD t∈L)||decide (clD (t.1:Nat) (t.2.1:Nat)∈L)).map V.bl) ⟨Same.fresh _ hD,rfl⟩ (λi zs G p=>SqT.of (p.1 _ _ hb)) (λi x zs G hx hi hDy hzl p=>?_) (λzs G hDy hzl p=>?_)
 .obtain⟨p1,rfl⟩:=p
  obtain⟨d,hd,rd⟩:=repB.at hx
  rw[be]at hd
  obtain⟨⟨r,c,k⟩,hs,rfl⟩:=cu.mp hd
  obtain⟨b',rfl,hb',hok⟩:=oy rd
  refine⟨Agree.set (Agree.refl _) rfl,?_⟩
  dsimp only[tYes]
  refine iteT ?_
  refine⟨_,rfl,_,rfl,a,xs,ep,sgD (r,c,k),b',rfl,rfl,dn.same p1,kr3 (p:=((r:Nat),(c:Nat))) (p1 _ _ hb') hok,?_⟩
  have eb:=bl_snoc (λt:Sg=>decide (sgD t∈L)||decide (clD (t.1:Nat) (t.2.1:Nat)∈L)) hs
  refine⟨_,rfl,ite2 (λh=>?_) (λh=>?_)⟩
  .rw[kx.2]at h
   dsimp only at eb
   rw[h,Bool.true_or]at eb
   exact nk (by omega) hDy hzl ⟨p1.new hD,eb.symm⟩
  .have h':decide (sgD (r,c,k)∈L)=false:=by rw[<-kx.2];simpa using h
   dsimp only at eb
   rw[h',Bool.false_or]at eb
   refine⟨_,rfl,_,rfl,b',_,rfl,p1 _ _ hb',λc2 G2 g2 hc2=>?_⟩
   have hc3:G2 c2=some (.tup [.int (r:Nat),.int (c:Nat)]):=hc2
   refine⟨_,rfl,a,xs,ep,clD (r:Nat) (c:Nat),c2,rfl,rfl,dn.same (p1.trans g2),kr2 hc3,?_⟩
   rw[kx.2]
   exact nk (by omega) (g2 _ _ hDy) hzl ⟨(p1.trans g2).new hD,eb.symm⟩
 .obtain⟨p1,rfl⟩:=p
  rw[a7 (by omega)]at hDy
  refine⟨D,_,rfl,hDy,?_⟩
  rw[List.any_map]
  exact q G p1
noncomputable def spGb:Sp:=λvs H Q _=>∃(pz p l e:Addr) (fl kr:V) (ap:List (Nat×Nat)) (ss:List Sg) (n:Int) (xs:List V) (ds:List PyData),vs=[.ref pz,.ref p,.ref l]/\H pz=some (.tup [fl,kr,.ref e])/\ApT H e ap/\Rep H (plD ss n) (.ref p)/\ss.length<=6/\H l=some (.lst xs)/\RepAll H ds xs/\(∀d∈ds,PlD d)/\ds.length<=3072/\
 ∀(l':Addr) (ys:List V) (H':Hp),Same H H'->H l'=none->H' l'=some (.lst ys)->RepAll H' (ds.filter λd=>!hbB (barK ap ss) (mz d)) ys->Q (.ref l') H'
theorem scGb:ky ["puzzle","placement","free","barred"] ["puzzle","placement","free"] (kq sGb):=⟨rfl,rfl,rfl,by decide +kernel,rfl,by decide +kernel,by decide +kernel⟩
theorem ok_gb(Fbar:Fn P w K mg base "barred_by" 2 ["apart","placement"] (spBar w))(Fhb:Fn P w K mg base "has_barred" 1 ["barred","placement"] (spHb w))(F:Fun K "going_beside" "going_beside" sGb f fd):FnOk P w K mg base CX0 3 f fd ["puzzle","placement","free"] spGb:=by
 refine F.ok (k:=2) scGb (λvs H Q E h=>?_) (λcdv A outer s H vs Q E hr h=>?_)
 .obtain⟨_,_,_,_,_,_,_,_,_,_,_,rfl,_⟩:=h
  rfl
 obtain⟨pz,p,l,e,fl,kr,ap,ss,n,xs,ds,rfl,hpz,hA,hp,h6,hl,rep,hP,h30,q⟩:=h
 have lx:=rep.length
 refine⟨_,(kc (k6 (i:=3) scGb.nd rfl (Or.inr rfl) (pe_fn Fbar hr (by decide) rfl (pa_c (pe_ix li (pv 0) kg (λ_ _=>rfl)) (pa_c (pv 1) kb))))
  (km (k7 (lj ["other","barred"] [none,some 3] rfl rfl (by decide +kernel) (by decide +kernel) rfl rfl (lm (pv 2)) (λ_=>(ke (i:=0) (show(["other","barred"]:List PySem.Str).Nodup by decide +kernel) rfl (Or.inl rfl))) (λ_=>pts_one (pt_not (pt_val (pe_fn Fhb hr (by decide) rfl (pa_c (pv 1) (pa_c (pv 0) kb)))))) (λ_=>(pv 0)))))),?_⟩
 refine⟨_,rfl,pz,_,_,_,rfl,rfl,SqT.of hpz,ku (j:=2) rfl,_,rfl,e,p,ap,ss,n,rfl,hA,hp,h6,λa ks ep H1 s1 dn kx=>?_⟩
 refine⟨_,rfl,l,rfl,⟨_,SqL.of (s1 _ _ hl)⟩,λD hD=>?_⟩
 refine lr (xs:=xs) (λi zs G=>Same H1 G/\zs=fzip (λd=>!hbB (barK ap ss) (mz d)) ds xs i) ⟨Same.fresh _ hD,rfl⟩ (λi zs G p=>SqL.of (p.1 _ _ (s1 _ _ hl))) (λi x zs G hx hi hDy hzl p=>?_) (λzs G hDy hzl p=>?_)
 .obtain⟨p1,rfl⟩:=p
  obtain⟨d,hd,rd⟩:=rep.at hx
  obtain⟨tt,m,rfl,ht6,_⟩:=pl_of (hP d (am hd))
  obtain⟨px,_,rfl,_⟩:=id rd
  refine⟨Agree.set (Agree.refl _) rfl,?_⟩
  refine⟨_,rfl,_,rfl,a,px,ks,ep,barK ap ss,tt,m,rfl,dn.same p1,kx,Rep.same (s1.trans p1) rd,ht6,λG2 g2=>?_⟩
  have e2:=g2 _ _ hDy
  refine⟨_,rfl,nx_if (p:=λd=>!hbB (barK ap ss) (mz d)) (S:=λJ=>Same H1 J) (by omega) hd hx e2 hzl (p1.trans g2) ((p1.trans g2).new hD) (by show(!hbB _ (mz (plD tt m)))=_;rw[spots_pl]) (λQ' h=>⟨_,rfl,h⟩)⟩
 .obtain⟨p1,rfl⟩:=p
  exact q D _ G (s1.trans p1) (s1.free hD) hDy ((fzip_rep _ rep).same (s1.trans p1))
end
end K41
namespace L3
open PySem PySem.Spec PyProof.Rows L2 SeqAt
open AutoSeq1 (wpAny_loadPart')
end L3
namespace L3
open PySem PySem.Spec PyProof.Rows L2
section
variable{X:Cx}{N:List Str}{scope:Scope}{z:CZ}
theorem pe_bmC{o e:Expr}{es:List Expr}{to:TE}{t:TA}{name:Str}{apos cpos:Pos}{T id:String}{r:V->List V->Hp->VK->Prop}(pa:PlainAttrs T)(slot:Slot T name id)(hty:typeOf (.builtin id)=pure (.type "method_descriptor"))(hm:MtR (k5 X N scope z) id r)(ho:PE (k5 X N scope z) o to)(ha:PA (k5 X N scope z) (e::es) t)
  (hbase:attributeBase o name (k5 X N scope z).env (eval o (k5 X N scope z).env)=eval o (k5 X N scope z).env:=by rfl)
  (hfew:((backTo cpos (starEach (e::es) (k5 X N scope z).env)).all (λx=>!x.1)&&(backToKw cpos (keywordEach [] (k5 X N scope z).env)).all (λx=>x.1.isSome)
   && decide ((e::es).length+([]:List Keyword).length+(if ([]:List Keyword).isEmpty then 0 else 1)<30))=true:=by rfl)
  (hline:(apos.endLine==cpos.line)=true:=by rfl) (hs:starEach (e::es) (k5 X N scope z).env=(false,eval e (k5 X N scope z).env)::starEach es (k5 X N scope z).env:=by rfl) (hplain:(backTo cpos (starEach es (k5 X N scope z).env)).any (·.1)=false:=by rfl) :
  PE (k5 X N scope z) (.Call (.Attribute o name apos) (e::es) [] cpos) (tBM X.K T r to t):=pe_bm (X:=k5 X N scope z) pa slot hty hm ho ha hbase hfew hline hs hplain
end
end L3
namespace K41
open PySem PyProof.Rows L2 L3
noncomputable def mostV:Option Int->V
 | none=>.non
 | some m=>.int m
noncomputable def MostK(H:Hp)(kvs:List V)(ms:List (Option Int)):Prop:=kvs.length=ms.length/\ms.length<=6/\∀(i:Nat) v m,kvs[i]?=some v->ms[i]?=some m->∃b u0 u1 u3 u4,v=.ref b/\H b=some (.tup [u0,u1,mostV m,u3,u4])
theorem MostK.same{H H':Hp}{kvs:List V}{ms:List (Option Int)}(h:MostK H kvs ms)(s:Same H H'):MostK H' kvs ms:=⟨h.1,h.2.1,λi v m h1 h2=>by
 obtain⟨b,u0,u1,u3,u4,e,hb⟩:=h.2.2 i v m h1 h2
 exact⟨b,u0,u1,u3,u4,e,s _ _ hb⟩⟩
noncomputable def fullB(ms:List (Option Int))(ns:List Int)(k:Nat):Bool:=match ms[k]? with
 | some (some m)=>decide (((ns.count (k:Int):Nat):Int)>=m)
 | _=>false
noncomputable def fullL(ms:List (Option Int))(ns:List Int)(i:Nat):List Int:=((cx i).filter (fullB ms ns)).map λk:Nat=>(k:Int)
theorem fullL_succ(ms:List (Option Int))(ns:List Int)(i:Nat):fullL ms ns (i+1)=fullL ms ns i++if fullB ms ns i=true then[(i:Int)]else[]:=by
 unfold fullL
 rw[jk,List.filter_append,cm]
 congr 1
 cases h:fullB ms ns i<;>simp[h]
theorem ints_rep{H:Hp}:∀xs:List Int,RepAll H (xs.map PyData.int) (xs.map V.int)
 | []=>rfl
 | x::xs=>⟨_,_,rfl,rfl,ints_rep xs⟩
theorem ints_in(xs:List Int)(n:Int):((xs.map PyData.int).any λe=>bn e (.int n))=xs.contains n:=by
 rw[List.any_map,List.contains_eq_any_beq]
 congr 1
 funext x
 show(x==n)=(n==x)
 rw[Bool.beq_comm]
noncomputable def roomB(ms:List (Option Int))(dl:List PyData)(d:PyData):Bool:=!(fullL ms (dl.map numOf) ms.length).contains (numOf d)
seal L2.PE L2.PT L2.PW L2.PA L2.PS L2.PSs L2.PG L2.PGs L2.PI L2.PO
set_option pp.maxSteps 3000
section
variable{P:Program}{w:World}{K:aq}{mg:Str->Option Value}{base:Heap}{f:Addr}{fd:FuncData}
noncomputable def spWr:Sp:=λvs H Q _=>∃(pz la l kr:Addr) (fl e:V) (kvs:List V) (ms:List (Option Int)) (lvs xs:List V) (dl ds:List PyData),vs=[.ref pz,.ref la,.ref l]/\H pz=some (.tup [fl,.ref kr,e])/\H kr=some (.tup kvs)/\MostK H kvs ms/\H la=some (.lst lvs)/\RepAll H dl lvs/\(∀d∈dl,PlD d)/\dl.length<=64/\H l=some (.lst xs)/\RepAll H ds xs/\(∀d∈ds,PlD d)/\ds.length<=3072/\
 ∀(l':Addr) (ys:List V) (H':Hp),Same H H'->H l'=none->H' l'=some (.lst ys)->RepAll H' (ds.filter (roomB ms dl)) ys->Q (.ref l') H'
theorem scWr:ky ["puzzle","laid","free","numbers","full"] ["puzzle","laid","free"] (kq sWr):=⟨rfl,rfl,rfl,by decide +kernel,rfl,by decide +kernel,by decide +kernel⟩
theorem ok_wr(B:∀x∈blts,mg x=none)(F:Fun K "with_room" "with_room" sWr f fd):FnOk P w K mg base CX0 1 f fd ["puzzle","laid","free"] spWr:=by
 refine F.ok (k:=0) scWr (λvs H Q E h=>?_) (λcdv A outer s H vs Q E hr h=>?_)
 .obtain⟨_,_,_,_,_,_,_,_,_,_,_,_,rfl,_⟩:=h
  rfl
 obtain⟨pz,la,l,kr,fl,e,kvs,ms,lvs,xs,dl,ds,rfl,hpz,hkr,hM,hla,repL,hPL,h64,hl,rep,hP,h30,q⟩:=h
 have hu:=hr.units
 have lx:=rep.length
 have ll:=repL.length
 refine⟨_,(kc (k6 (i:=3) scWr.nd rfl (Or.inr rfl) (lj ["spots","number"] [none,none] rfl rfl (by decide +kernel) (by decide +kernel) rfl rfl (lm (pv 1)) (λ_=>(oe (n:=2) rfl (kj (ke (i:=0) (show(["spots","number"]:List PySem.Str).Nodup by decide +kernel) rfl (Or.inl rfl)) (kj (ke (i:=1) (show(["spots","number"]:List PySem.Str).Nodup by decide +kernel) rfl (Or.inl rfl)) lq)))) (λ_=>me) (λ_=>(pv 1))))
  (kc (k6 (i:=4) scWr.nd rfl (Or.inr rfl) (lj ["k","kind","numbers"] [none,none,some 3] rfl rfl (by decide +kernel) (by decide +kernel) rfl rfl (pi_enT rfl (B "enumerate" (by decide)) (pa_c (pe_ix li (pv 0) kg (λ_ _=>rfl)) kb)) (λ_=>(oe (n:=2) rfl (kj (ke (i:=0) (show(["k","kind","numbers"]:List PySem.Str).Nodup by decide +kernel) rfl (Or.inl rfl)) (kj (ke (i:=1) (show(["k","kind","numbers"]:List PySem.Str).Nodup by decide +kernel) rfl (Or.inl rfl)) lq)))) (λ_=>pts_one (PW.pt (pw_and (l7 op_notN (pe_ix ph (pv 1) kg (λ_ _=>rfl)) pe_non (m9 _)) (pw_and1 (l7 op_ge (pe_bmC ff PySem.F.slot_list_count PySem.F.type_list_count mt_countC (pv 2) (pa_c (pv 0) kb)) (pe_ix ph (pv 1) kg (λ_ _=>rfl)) (m9 _)))))) (λ_=>(pv 0))))
  (km (k7 (lj ["placement","full"] [none,some 4] rfl rfl (by decide +kernel) (by decide +kernel) rfl rfl (lm (pv 2)) (λ_=>(ke (i:=0) (show(["placement","full"]:List PySem.Str).Nodup by decide +kernel) rfl (Or.inl rfl))) (λ_=>pts_one (l7 (op_notInD hu) (pe_ix ph (pv 0) kg (λ_ _=>rfl)) (pv 1) rfl)) (λ_=>(pv 0))))))),?_⟩
 refine⟨_,rfl,la,rfl,⟨_,SqL.of hla⟩,λD1 hD1=>?_⟩
 refine lr (xs:=lvs) (λi zs G=>Same H G/\zs=((dl.take i).map numOf).map V.int) ⟨Same.fresh _ hD1,rfl⟩ (λi zs G p=>SqL.of (p.1 _ _ hla)) (λi x zs G hx hi hDy hzl p=>?_) (λzs G hDy hzl p=>?_)
 .obtain⟨p1,rfl⟩:=p
  obtain⟨d,hd,rd⟩:=repL.at hx
  obtain⟨tt,m,rfl,ht6,_⟩:=pl_of (hPL d (am hd))
  obtain⟨px,pxs,rfl,hpx,y0,t0,rfl,_,y1,t1,rfl,e1,rfl⟩:=id rd
  cases (show y1=_ from e1)
  refine⟨px,_,rfl,SqT.of (p1 _ _ hpx),rfl,_,_,rfl,_,_,rfl,rfl,?_⟩
  refine⟨Agree.set (Agree.set (Agree.refl _) rfl) rfl,?_⟩
  dsimp only[tYes]
  refine iteT ?_
  refine⟨_,rfl,nk (by omega) hDy hzl ⟨p1.new hD1,?_⟩⟩
  rw[k8 numOf hd,cm]
  rfl
 obtain⟨p1,rfl⟩:=p
 rw[a7 (by omega)]at hDy
 generalize hns:dl.map numOf=ns at *
 refine⟨_,rfl,pz,_,_,_,rfl,rfl,SqT.of (p1 _ _ hpz),ku (j:=1) rfl,kr,rfl,⟨_,SqT.of (p1 _ _ hkr)⟩,λD2 hD2=>?_⟩
 have hM2:=hM.same p1
 obtain⟨lk,l6,hMs⟩:=id hM2
 refine comp_enT (xs:=kvs) (λi zs J=>Same G J/\zs=(fullL ms ns i).map V.int) ⟨Same.fresh _ hD2,rfl⟩ (λi zs J p=>SqT.of (p.1 _ _ (p1 _ _ hkr))) (λi x pr zs J hx hpr hDz hzl2 p=>?_) (λzs J hDz hzl2 p=>?_)
 .obtain⟨p2,rfl⟩:=p
  have hi:i<kvs.length:=(ak.mp hx).1
  obtain⟨m,hm⟩:∃m,ms[i]?=some m:=⟨_,ab (by omega)⟩
  obtain⟨b,u0,u1,u3,u4,rfl,hb⟩:=hMs i x m hx hm
  generalize gg:upd J pr _=J1 at *
  obtain⟨s2,e2⟩:=al hpr gg
  clear gg
  have sJ:=p2.trans s2
  have fs:=fullL_succ ms ns i
  refine⟨pr,_,rfl,SqT.of e2,rfl,_,_,rfl,_,_,rfl,rfl,?_⟩
  refine⟨Agree.set (Agree.set (Agree.refl _) rfl) rfl,?_⟩
  refine⟨_,rfl,b,_,_,_,rfl,rfl,SqT.of (sJ _ _ hb),ku (j:=2) rfl,rfl,_,rfl,?_⟩
  have skip:fullB ms ns i=false->Nx D2 i (λi zs J=>Same G J/\zs=(fullL ms ns i).map V.int) J1:=λh=>by
   rw[h,if_neg ah,ck]at fs
   exact⟨_,s2 _ _ hDz,Nat.le_succ_of_le hzl2,sJ,by rw[fs]⟩
  cases m with
  | none=>
   refine iteF (skip ?_)
   unfold fullB
   rw[hm]
  | some m=>
   refine iteT ?_
   refine⟨_,rfl,.inl ⟨rfl,_,SqL.of (sJ _ _ hDy)⟩,_,rfl,D1,ns,(i:Nat),rfl,rfl,SqL.of (sJ _ _ hDy),_,rfl,b,_,_,_,rfl,rfl,SqT.of (sJ _ _ hb),ku (j:=2) rfl,_,_,rfl,rfl,_,rfl,?_⟩
   have hf:fullB ms ns i=decide (m<=((ns.count ((i:Nat):Int):Nat):Int)):=by
    unfold fullB
    rw[hm]
   refine ite2 (λh=>?_) (λh=>?_)
   .rw[hf,if_pos h]at fs
    refine⟨_,rfl,nk (by omega) (s2 _ _ hDz) hzl2 ⟨sJ.new hD2,?_⟩⟩
    rw[fs,cm]
    rfl
   .refine skip ?_
    rw[hf]
    simpa using h
 obtain⟨p2,rfl⟩:=p
 rw[lk]at hDz
 have sGJ:=p1.trans p2
 refine⟨_,rfl,l,rfl,⟨_,SqL.of (sGJ _ _ hl)⟩,λD3 hD3=>?_⟩
 refine lr (xs:=xs) (λi zs W=>Same J W/\zs=fzip (λd=>!(fullL ms ns ms.length).contains (numOf d)) ds xs i) ⟨Same.fresh _ hD3,rfl⟩ (λi zs W p=>SqL.of (p.1 _ _ (sGJ _ _ hl))) (λi x zs W hx hi hDw hzl3 p=>?_) (λzs W hDw hzl3 p=>?_)
 .obtain⟨p3,rfl⟩:=p
  obtain⟨d,hd,rd⟩:=rep.at hx
  obtain⟨tt,m,rfl,ht6,_⟩:=pl_of (hP d (am hd))
  obtain⟨px,pxs,rfl,hpx,y0,t0,rfl,_,y1,t1,rfl,e1,rfl⟩:=id rd
  cases (show y1=_ from e1)
  refine⟨Agree.set (Agree.refl _) rfl,?_⟩
  refine⟨_,rfl,px,_,_,_,rfl,rfl,SqT.of (p3 _ _ (sGJ _ _ hpx)),ku (j:=1) rfl,_,rfl,.int m,D2,_,(fullL ms ns ms.length).map PyData.int,rfl,rfl,.inl (p3 _ _ hDz),ints_rep _,(by simp[gu]),_,rfl,?_⟩
  rw[if_pos rfl,ints_in]
  exact nx_if (p:=λd=>!(fullL ms ns ms.length).contains (numOf d)) (S:=λW=>Same J W) (by omega) hd hx hDw hzl3 p3 (p3.new hD3) rfl (λQ' h=>⟨_,rfl,h⟩)
 .obtain⟨p3,rfl⟩:=p
  have er:(λd=>!(fullL ms ns ms.length).contains (numOf d))=roomB ms dl:=by rw[<-hns];rfl
  rw[er]at hDw
  exact q D3 _ W (sGJ.trans p3) (sGJ.free hD3) hDw ((fzip_rep _ rep).same (sGJ.trans p3))
noncomputable def PzA(H:Hp)(p:Addr)(M:Mat)(ks:List (List PyData×Nat))(ms:List (Option Int))(ap:List (Nat×Nat)):Prop:=PzK H p M ks/\∃kr e fl kvs,H p=some (.tup [fl,.ref kr,.ref e])/\H kr=some (.tup kvs)/\MostK H kvs ms/\ApT H e ap
theorem PzA.same{H H':Hp}{p:Addr}{M:Mat}{ks:List (List PyData×Nat)}{ms:List (Option Int)}{ap:List (Nat×Nat)}(h:PzA H p M ks ms ap)(s:Same H H'):PzA H' p M ks ms ap:=by
 obtain⟨h1,kr,e,fl,kvs,h2,h3,h4,h5⟩:=h
 exact⟨h1.same s,kr,e,fl,kvs,s _ _ h2,s _ _ h3,h4.same s,h5.same s⟩
noncomputable def goL(M:Mat)(ks:List (List PyData×Nat))(ms:List (Option Int))(ap:List (Nat×Nat))(dl:List PyData)(i:Nat):List PyData:=((PL M ks).filter (roomB ms dl)).filter λd=>(dl.take i).all λo=>!hbB (barK ap (mz o)) (mz d)
theorem goL_succ{M:Mat}{ks:List (List PyData×Nat)}{ms:List (Option Int)}{ap:List (Nat×Nat)}{dl:List PyData}{i:Nat}{o:PyData}(h:dl[i]?=some o):goL M ks ms ap dl (i+1)=(goL M ks ms ap dl i).filter λd=>!hbB (barK ap (mz o)) (mz d):=by
 unfold goL
 generalize (PL M ks).filter (roomB ms dl)=Y
 rw[List.filter_filter]
 congr 1
 funext d
 rw[ig,h,List.all_append,Bool.and_comm]
 simp
theorem goL_sub{M:Mat}{ks:List (List PyData×Nat)}{ms:List (Option Int)}{ap:List (Nat×Nat)}{dl:List PyData}{i:Nat}{d:PyData}(h:d∈goL M ks ms ap dl i):d∈PL M ks:=(dv.mp (dv.mp h).1).1
theorem goL_len(M:Mat)(ks:List (List PyData×Nat))(ms:List (Option Int))(ap:List (Nat×Nat))(dl:List PyData)(i:Nat):(goL M ks ms ap dl i).length<=(PL M ks).length:=gl (gy _ _) (gy _ _)
noncomputable def spGo:Sp:=λvs H Q _=>∃(p la:Addr) (M:Mat) (ks:List (List PyData×Nat)) (ms:List (Option Int)) (ap:List (Nat×Nat)) (lvs:List V) (dl:List PyData),vs=[.ref p,.ref la]/\PzA H p M ks ms ap/\KsZ ks/\(PL M ks).length<=3072/\H la=some (.lst lvs)/\RepAll H dl lvs/\(∀d∈dl,PlD d)/\dl.length<=64/\
 ∀(l:Addr) (ys:List V) (H':Hp),Same H H'->H l=none->H' l=some (.lst ys)->RepAll H' (goL M ks ms ap dl dl.length) ys->Q (.ref l) H'
theorem scGo:ky ["puzzle","laid","free","placement"] ["puzzle","laid"] (kq sGo):=⟨rfl,rfl,rfl,by decide +kernel,rfl,by decide +kernel,by decide +kernel⟩
theorem ok_go(Fplc:Fn P w K mg base "placements" 6 ["puzzle"] spPlc)(Fwr:Fn P w K mg base "with_room" 1 ["puzzle","laid","free"] spWr)(Fgb:Fn P w K mg base "going_beside" 3 ["puzzle","placement","free"] spGb)(F:Fun K "going" "going" sGo f fd):FnOk P w K mg base CX0 7 f fd ["puzzle","laid"] spGo:=by
 refine F.ok (k:=6) scGo (λvs H Q E h=>?_) (λcdv A outer s H vs Q E hr h=>?_)
 .obtain⟨_,_,_,_,_,_,_,_,rfl,_⟩:=h
  rfl
 obtain⟨p,la,M,ks,ms,ap,lvs,dl,rfl,hz,hks,h30,hla,repL,hPL,h64,q⟩:=h
 have hpl:=PL_pl (M:=M) hks
 have ll:=repL.length
 refine⟨_,(kc (k6 (i:=2) scGo.nd rfl (Or.inl rfl) (pe_fn Fwr hr (by decide) rfl (pa_c (pv 0) (pa_c (pv 1) (pa_c (pe_fn Fplc hr (by decide) rfl (pa_c (pv 0) kb)) kb)))))
  (kc (m7 b7 rfl (lm (pv 1)) (ke (i:=3) scGo.nd rfl (Or.inl rfl)) (km (k6 (i:=2) scGo.nd rfl (Or.inl rfl) (pe_fn Fgb hr (by decide) rfl (pa_c (pv 0) (pa_c (pv 3) (pa_c (pv 2) kb)))))))
  (km (k7 (pv 2))))),?_⟩
 refine⟨_,rfl,_,rfl,_,rfl,p,M,ks,rfl,hz.1,λl0 ys0 H1 s1 hl0n hl0 rep0=>?_⟩
 obtain⟨_,kr,e,fl,kvs,h2,h3,h4,h5⟩:=hz.same s1
 refine⟨p,la,l0,kr,fl,.ref e,kvs,ms,lvs,ys0,dl,PL M ks,rfl,h2,h3,h4,s1 _ _ hla,repL.same s1,hPL,h64,hl0,rep0,hpl,h30,λl1 ys1 H2 s2 hl1n hl1 rep1=>?_⟩
 have s12:=s1.trans s2
 refine⟨_,rfl,la,rfl,⟨_,SqL.of (s12 _ _ hla)⟩,?_⟩
 refine o8 (xs:=lvs) (λi σ' G=>∃(l:Addr) (ys:List V) (y3:Option V),σ'=[some (.ref p),some (.ref la),some (.ref l),y3]/\Same H G/\H l=none/\G l=some (.lst ys)/\RepAll G (goL M ks ms ap dl i) ys) ?_ (λi σ' G hi h=>?_) (λi x σ' G hx h=>?_) (λσ' G h=>?_)
 .refine⟨l1,ys1,_,rfl,s12,s1.free hl1n,hl1,?_⟩
  have e0:goL M ks ms ap dl 0=(PL M ks).filter (roomB ms dl):=List.filter_eq_self.mpr λd _=>rfl
  rw[e0]
  exact rep1
 .obtain⟨_,_,_,_,sg,_⟩:=h
  exact SqL.of (sg _ _ hla)
 .obtain⟨l,ys,y3,rfl,sg,hln,hl,rep⟩:=h
  obtain⟨o,ho,ro⟩:=repL.at hx
  obtain⟨tt,m,rfl,ht6,_⟩:=pl_of (hPL o (am ho))
  obtain⟨px,_,rfl,_⟩:=id ro
  obtain⟨_,kr,e,fl,kvs,h2,h3,h4,h5⟩:=hz.same sg
  have hle:=goL_len M ks ms ap dl i
  refine⟨_,rfl,_,rfl,_,rfl,p,px,l,e,fl,.ref kr,ap,tt,m,ys,_,rfl,h2,h5,Rep.same sg ro,ht6,hl,rep,(λd hd=>hpl d (goL_sub hd)),by omega,λl' ys' G2 g2 hl'n hl' rep'=>?_⟩
  refine⟨l',ys',_,rfl,sg.trans g2,sg.free hl'n,hl',?_⟩
  rw[goL_succ ho,spots_pl]
  exact rep'
 .obtain⟨l,ys,y3,rfl,sg,hln,hl,rep⟩:=h
  rw[ll]at rep
  exact⟨_,rfl,q l ys G sg hln hl rep⟩
end
theorem pw61:(0:Int)<2^(Int.toNat 61)-1:=by decide
theorem pw30:(0:Int)<10^(Int.toNat 30):=by decide
theorem pick{α:Type}{xs:List α}{i:Int}(h0:0<=i)(h1:i<xs.length):∃x,atI xs i=some x/\x∈xs:=by
 obtain⟨j,rfl⟩:=db h0
 have hj:j<xs.length:=by omega
 exact⟨xs[j],ku (ab hj),df hj⟩
set_option pp.maxSteps 3000
section
variable{P:Program}{w:World}{K:aq}{mg:Str->Option Value}{base:Heap}{f:Addr}{fd:FuncData}
noncomputable def spNext:Sp:=λvs H Q _=>∃(st:Addr) (n m:Int),vs=[.ref st,.int m]/\H st=some (.lst [.int n])/\0<m/\∀n' i:Int,0<=i->i<m->Q (.int i) (upd H st (.lst [.int n']))
theorem scNext:ky ["_law_state","_law_many_here"] ["_law_state","_law_many_here"] (kq sNext):=⟨rfl,rfl,rfl,by decide +kernel,rfl,by decide +kernel,by decide +kernel⟩
theorem ok_next(F:Fun K "_law_next" "_law_next" sNext f fd):FnOk P w K mg base CX0 1 f fd ["_law_state","_law_many_here"] spNext:=by
 refine F.ok (k:=0) scNext (λvs H Q E h=>?_) (λcdv A outer s H vs Q E hr h=>?_)
 .obtain⟨st,n,m,rfl,_⟩:=h
  rfl
 obtain⟨st,n,m,rfl,hst,hm,q⟩:=h
 refine⟨_,(kc (ps_asg (pe_op op_mod (pe_op nq (pe_op op_mul (pe_ix nj (pv 0) kg (λ_ _=>rfl)) kg) kg) (pe_op op_sub (pe_op op_pow kg kg) kg)) (pg_sub (pv 0) kg set_list))
  (km (k7 (pe_op op_mod (pe_op op_fdiv (pe_ix nj (pv 0) kg (λ_ _=>rfl)) kg) (pv 1))))),?_⟩
 refine⟨_,rfl,st,_,_,_,rfl,rfl,SqL.of hst,rfl,_,_,rfl,rfl,.inr ⟨by decide,by decide⟩,_,_,rfl,rfl,_,_,rfl,rfl,⟨by decide,by decide,by decide⟩,_,_,rfl,rfl,_,_,rfl,rfl,pw61,?_⟩
 refine⟨_,rfl,st,_,_,0,rfl,rfl,hst,rfl,?_⟩
 refine⟨_,rfl,st,_,_,_,rfl,rfl,SqL.of kh,rfl,_,_,rfl,rfl,⟨by decide,by decide⟩,_,rfl,_,_,rfl,rfl,hm,?_⟩
 exact q _ _ (Int.emod_nonneg _ (by omega)) (Int.emod_lt_of_pos _ hm)
noncomputable abbrev FnNext(P:Program)(w:World)(K:aq)(mg:Str->Option Value)(base:Heap):Prop:=Fn P w K mg base "_law_next" 1 ["_law_state","_law_many_here"] spNext
noncomputable def spSeed(K:aq):Sp:=λvs H Q _=>∃(a:Addr) (ns:List Int),vs=[.ref a]/\SqL K H a (ns.map V.int)/\∀n:Int,Q (.int n) H
theorem scSeed:ky ["_law_script","_law_seed_here","_law_cell"] ["_law_script"] (kq sSeed):=⟨rfl,rfl,rfl,by decide +kernel,rfl,by decide +kernel,by decide +kernel⟩
theorem ok_seed(F:Fun K "_law_seed" "_law_seed" sSeed f fd):FnOk P w K mg base CX0 1 f fd ["_law_script"] (spSeed K):=by
 refine F.ok (k:=0) scSeed (λvs H Q E h=>?_) (λcdv A outer s H vs Q E hr h=>?_)
 .obtain⟨_,_,rfl,_⟩:=h
  rfl
 obtain⟨a,ns,rfl,ha,q⟩:=h
 refine⟨_,(kc (k6 (i:=1) scSeed.nd rfl (Or.inl rfl) kg)
  (kc (m7 b7 rfl (lm (pv 0)) (ke (i:=2) scSeed.nd rfl (Or.inl rfl)) (km (k6 (i:=1) scSeed.nd rfl (Or.inl rfl) (pe_op op_mod (pe_op nq (pe_op nq (pe_op op_mul (pv 1) kg) (pe_op op_mod (pv 2) (pe_op op_pow kg kg))) kg) (pe_op op_sub (pe_op op_pow kg kg) kg)))))
  (km (k7 (pv 1))))),?_⟩
 refine⟨_,rfl,a,rfl,⟨_,ha⟩,?_⟩
 refine o8 (xs:=ns.map V.int) (λi σ' G=>∃(n:Int) (y:Option V),σ'=[some (.ref a),some (.int n),y]/\G=H) ⟨_,_,rfl,rfl⟩ (λi σ' G hi h=>by obtain⟨_,_,_,rfl⟩:=h;exact ha) (λi x σ' G hx h=>?_) (λσ' G h=>?_)
 .obtain⟨n,y,rfl,rfl⟩:=h
  rw[be]at hx
  obtain⟨c,_,rfl⟩:=cu.mp hx
  refine⟨_,rfl,_,_,rfl,rfl,.inr ⟨by decide,by decide⟩,_,rfl,_,_,rfl,rfl,⟨by decide,by decide,by decide⟩,_,_,rfl,rfl,pw30,_,_,rfl,rfl,_,_,rfl,rfl,_,_,rfl,rfl,⟨by decide,by decide,by decide⟩,_,_,rfl,rfl,_,_,rfl,rfl,pw61,?_⟩
  exact⟨_,_,rfl,rfl⟩
 .obtain⟨n,y,rfl,rfl⟩:=h
  exact⟨_,rfl,q n⟩
noncomputable def adjB(r c r' c':Int):Bool:=decide ((if r-r'<0 then -(r-r')else r-r')+(if c-c'<0 then -(c-c')else c-c')=1)
noncomputable def spTou:Sp:=λvs H Q _=>∃(a b:Addr) (r c r' c':Int),vs=[.ref a,.ref b]/\H a=some (.tup [.int r,.int c])/\H b=some (.tup [.int r',.int c'])/\Q (.bl (adjB r c r' c')) H
theorem scTou:ky ["_law_cell","_law_other"] ["_law_cell","_law_other"] (kq sTou):=⟨rfl,rfl,rfl,by decide +kernel,rfl,by decide +kernel,by decide +kernel⟩
theorem ok_tou(B:∀x∈blts,mg x=none)(F:Fun K "_law_touch" "_law_touch" sTou f fd):FnOk P w K mg base CX0 1 f fd ["_law_cell","_law_other"] spTou:=by
 refine F.ok (k:=0) scTou (λvs H Q E h=>?_) (λcdv A outer s H vs Q E hr h=>?_)
 .obtain⟨_,_,_,_,_,_,rfl,_⟩:=h
  rfl
 obtain⟨a,b,r,c,r',c',rfl,ha,hb,q⟩:=h
 refine⟨_,(km (k7 (pe_cmpR op_eq (pe_op nq (pe_cB call_abs rfl (B "abs" (by decide)) boot_abs (pa_c (pe_op op_sub (pe_ix li (pv 0) kg (λ_ _=>rfl)) (pe_ix li (pv 1) kg (λ_ _=>rfl))) kb)) (pe_cB call_abs rfl (B "abs" (by decide)) boot_abs (pa_c (pe_op op_sub (pe_ix li (pv 0) kg (λ_ _=>rfl)) (pe_ix li (pv 1) kg (λ_ _=>rfl))) kb))) kg (m9 _)))),?_⟩
 refine⟨_,rfl,a,_,_,_,rfl,rfl,SqT.of ha,ku (j:=0) rfl,_,rfl,b,_,_,_,rfl,rfl,SqT.of hb,ku (j:=0) rfl,_,_,rfl,rfl,_,rfl,?_⟩
 refine⟨_,rfl,a,_,_,_,rfl,rfl,SqT.of ha,ku (j:=1) rfl,_,rfl,b,_,_,_,rfl,rfl,SqT.of hb,ku (j:=1) rfl,_,_,rfl,rfl,_,rfl,_,_,rfl,rfl,rfl,?_⟩
 have e:decide (V.int ((if r-r'<0 then -(r-r')else r-r')+(if c-c'<0 then -(c-c')else c-c'))=V.int 1)=adjB r c r' c':=decide_eq_decide.mpr ⟨λh=>by injection h,λh=>by rw[h]⟩
 rw[<-e]at q
 exact q
end
theorem aro_adj{r c r' c':Int}:(r',c')∈aroC r c↔adjB r' c' r c=true:=by
 unfold aroC adjB
 rw[decide_eq_true_iff]
 simp only[ax,Prod.mk.injEq,iu,or_false]
 constructor
 .intro h
  split<;>split<;>omega
 .intro h
  split at h<;>split at h<;>omega
theorem sgA_mem{ap:List (Nat×Nat)}(h:∀p∈ap,p.1<=p.2){k k':Nat}:k'∈sgA ap k↔ap.contains (min k k',max k k')=true:=by
 rw[List.contains_iff_mem]
 unfold sgA
 rw[bm,bi,bi]
 constructor
 .rintro(⟨⟨a,b⟩,hp,rfl⟩|⟨⟨a,b⟩,hp,rfl⟩)
  .obtain⟨h1,h2⟩:=dv.mp hp
   have e:a=k:=by simpa using h2
   subst e
   have:=h _ h1
   rw[show min a b=a from dg this,show max a b=b from Nat.max_eq_right this]
   exact h1
  .obtain⟨h1,h2⟩:=dv.mp hp
   have e:b=k:=by simpa using h2
   subst e
   have:=h _ h1
   rw[show min b a=a from Nat.min_eq_right this,show max b a=b from Nat.max_eq_left this]
   exact h1
 .intro hm
  by_cases hk:k<=k'
  .rw[dg hk,Nat.max_eq_right hk]at hm
   exact .inl ⟨_,dv.mpr ⟨hm,by simp⟩,rfl⟩
  .have hk':k'<=k:=by omega
   rw[Nat.min_eq_right hk',Nat.max_eq_left hk']at hm
   exact .inr ⟨_,dv.mpr ⟨hm,by simp⟩,rfl⟩
noncomputable def cl1(ap:List (Nat×Nat))(s t:Sg):Bool:=(decide (s.1=t.1)&&decide (s.2.1=t.2.1))||(adjB s.1 s.2.1 t.1 t.2.1&&ap.contains (min s.2.2 t.2.2,max s.2.2 t.2.2))
noncomputable def clashB(ap:List (Nat×Nat))(ss tt:List Sg):Bool:=ss.any λs=>tt.any λt=>cl1 ap s t
theorem hb_clash{ap:List (Nat×Nat)}(h:∀p∈ap,p.1<=p.2)(ss tt:List Sg):hbB (barK ap ss) tt=clashB ap tt ss:=by
 unfold hbB clashB
 congr 1
 funext t
 obtain⟨r,c,k⟩:=t
 rw[fg,j5,decide_eq_true_iff,decide_eq_true_iff,List.any_eq_true]
 unfold barK
 rw[fh,fh]
 constructor
 .rintro(⟨⟨r0,c0,k0⟩,hs,hm⟩|⟨⟨r0,c0,k0⟩,hs,hm⟩)
  .refine⟨_,hs,?_⟩
   unfold barS at hm
   rcases ax.mp hm with e|hm
   .unfold sgD cD clD at e
    simp at e
   .obtain⟨⟨r1,c1⟩,h1,h2⟩:=fh.mp hm
    obtain⟨o,ho,e⟩:=bi.mp h2
    have e':PyData.tuple [.int r1,.int c1,.str ⟨#[o]⟩]=.tuple [.int (r:Nat),.int (c:Nat),.str ⟨#[k]⟩]:=e
    simp at e'
    obtain⟨rfl,rfl,rfl⟩:=e'
    have a1:=aro_adj.mp h1
    have a2:=(sgA_mem h).mp ho
    unfold cl1
    rw[j5,cg,cg]
    refine .inr ⟨a1,?_⟩
    rw[Nat.min_comm,Nat.max_comm]
    exact a2
  .refine⟨_,hs,?_⟩
   unfold barS at hm
   rcases ax.mp hm with e|hm
   .unfold cD clD at e
    simp at e
    obtain⟨e1,e2⟩:=e
    have e1':r=r0:=by omega
    have e2':c=c0:=by omega
    unfold cl1
    simp[e1',e2']
   .obtain⟨⟨r1,c1⟩,h1,h2⟩:=fh.mp hm
    obtain⟨o,ho,e⟩:=bi.mp h2
    unfold k3 clD at e
    simp at e
 .rintro⟨⟨r0,c0,k0⟩,hs,hc⟩
  unfold cl1 at hc
  rw[j5,cg,cg,decide_eq_true_iff,decide_eq_true_iff]at hc
  rcases hc with ⟨rfl,rfl⟩|⟨a1,a2⟩
  .exact .inr ⟨_,hs,au⟩
  .refine .inl ⟨_,hs,av _ (fh.mpr ⟨_,aro_adj.mpr a1,bi.mpr ⟨k,(sgA_mem h).mpr ?_,rfl⟩⟩)⟩
   rw[Nat.min_comm,Nat.max_comm]
   exact a2
theorem any_succ{α:Type}(g:α->Bool){xs:List α}{i:Nat}{x:α}(h:xs[i]?=some x):(xs.take (i+1)).any g=((xs.take i).any g||g x):=by
 rw[ig,h,List.any_append]
 simp
theorem any_hit{α:Type}(g:α->Bool){xs:List α}{i:Nat}{x:α}(h:xs[i]?=some x)(hx:g x=true):xs.any g=true:=List.any_eq_true.mpr ⟨x,am h,hx⟩
theorem cl_eqv(r c r' c':Nat):bn (clD (r:Nat) (c:Nat)) (clD (r':Nat) (c':Nat))=(decide (r=r')&&decide (c=c')):=by
 show(((r:Int)==(r':Int))&&(((c:Int)==(c':Int))&&true))=_
 rw[Bool.and_true]
 congr 1
 .rw[fg];simp;omega
 .rw[fg];simp;omega
theorem pr_rep{H:Hp}{a:Addr}{k k':Nat}(h:H a=some (.tup [.str ⟨#[k]⟩,.str ⟨#[k']⟩]))(h1:k<128)(h2:k'<128):Rep H (prD (k,k')) (.ref a):=⟨a,_,rfl,h,_,_,rfl,⟨rfl,ok1 h1⟩,_,_,rfl,⟨rfl,ok1 h2⟩,rfl⟩
theorem pr_in(ap:List (Nat×Nat))(p:Nat×Nat):((ap.map prD).any λe=>bn e (prD p))=ap.contains p:=by
 rw[List.any_map,List.contains_eq_any_beq]
 congr 1
 funext x
 obtain⟨a,b⟩:=x
 obtain⟨c,d⟩:=p
 show(((⟨#[a]⟩:Str)==⟨#[c]⟩)&&(((⟨#[b]⟩:Str)==⟨#[d]⟩)&&true))=_
 rw[fg]
 simp
 constructor
 .rintro⟨h1,h2⟩
  exact⟨h1.symm,h2.symm⟩
 .rintro⟨h1,h2⟩
  exact⟨h1.symm,h2.symm⟩
set_option pp.maxSteps 3000
section
variable{P:Program}{w:World}{K:aq}{mg:Str->Option Value}{base:Heap}{f:Addr}{fd:FuncData}
noncomputable def spCla:Sp:=λvs H Q _=>∃(pz p o e:Addr) (fl kr:V) (ap:List (Nat×Nat)) (ss tt:List Sg) (n m:Int),vs=[.ref pz,.ref p,.ref o]/\H pz=some (.tup [fl,kr,.ref e])/\ApT H e ap/\Rep H (plD ss n) (.ref p)/\(∀s∈ss,s.2.2<128)/\Rep H (plD tt m) (.ref o)/\(∀s∈tt,s.2.2<128)/\∀H',Same H H'->Q (.bl (clashB ap ss tt)) H'
theorem scCla:ky ["_law_puzzle_here","_law_one","_law_other","_law_row","_law_column","_law_sign","_law_down","_law_right","_law_more"] ["_law_puzzle_here","_law_one","_law_other"] (kq sCla):=⟨rfl,rfl,rfl,by decide +kernel,rfl,by decide +kernel,by decide +kernel⟩
theorem ok_cla(B:∀x∈blts,mg x=none)(Ftou:Fn P w K mg base "_law_touch" 1 ["_law_cell","_law_other"] spTou)(F:Fun K "_law_clash" "_law_clash" sCla f fd):FnOk P w K mg base CX0 2 f fd ["_law_puzzle_here","_law_one","_law_other"] spCla:=by
 refine F.ok (k:=1) scCla (λvs H Q E h=>?_) (λcdv A outer s H vs Q E hr h=>?_)
 .obtain⟨_,_,_,_,_,_,_,_,_,_,_,rfl,_⟩:=h
  rfl
 obtain⟨pz,p,o,e,fl,kr,ap,ss,tt,n,m,rfl,hpz,hA,hp,hss,ho,htt,q⟩:=h
 have hu:=hr.units
 obtain⟨pp,pxs,hpp,hpx,y0,t0,rfl,⟨b,bxs,rfl,hb,repB⟩,_⟩:=hp
 cases hpp
 obtain⟨oo,oxs,hoo,hox,y1,t1,rfl,⟨d,dxs,rfl,hd,repD⟩,_⟩:=ho
 cases hoo
 have lb:=repB.length
 have ld:=repD.length
 rw[aj]at lb ld
 refine⟨_,(kc (m7 b7 rfl (pi_tup (pe_ix li (pv 1) kg (λ_ _=>rfl))) (pg_tup (n:=3) rfl (kj (ke (i:=3) scCla.nd rfl (Or.inl rfl)) (kj (ke (i:=4) scCla.nd rfl (Or.inl rfl)) (kj (ke (i:=5) scCla.nd rfl (Or.inl rfl)) lq)))) (km (m7 b7 rfl (pi_tup (pe_ix li (pv 2) kg (λ_ _=>rfl))) (pg_tup (n:=3) rfl (kj (ke (i:=6) scCla.nd rfl (Or.inl rfl)) (kj (ke (i:=7) scCla.nd rfl (Or.inl rfl)) (kj (ke (i:=8) scCla.nd rfl (Or.inl rfl)) lq)))) (kc (ps_if (l7 (op_eqD hu) (lc (pa_c (pv 3) (pa_c (pv 4) kb))) (lc (pa_c (pv 6) (pa_c (pv 7) kb))) (m9 _)) (km (k7 pe_bl)) ni)
  (km (ps_if (PW.pt (pw_and (pt_val (pe_fn Ftou hr (by decide) rfl (pa_c (lc (pa_c (pv 3) (pa_c (pv 4) kb))) (pa_c (lc (pa_c (pv 6) (pa_c (pv 7) kb))) kb)))) (pw_and1 (l7 (op_inD hu) (lc (pa_c (pe_cB (call_min2X rfl) rfl (B "min" (by decide)) boot_min (pa_c (pv 5) (pa_c (pv 8) kb))) (pa_c (pe_cB (call_max2X rfl) rfl (B "max" (by decide)) boot_max (pa_c (pv 5) (pa_c (pv 8) kb))) kb))) (pe_ix li (pv 0) kg (λ_ _=>rfl)) rfl)))) (km (k7 pe_bl)) ni))))))
  (km (k7 pe_bl))),?_⟩
 refine⟨_,rfl,p,_,_,_,rfl,rfl,SqT.of hpx,ku (j:=0) rfl,b,rfl,⟨_,SqT.of hb⟩,?_⟩
 refine for_tup (xs:=bxs) (λi σ' G=>∃(y3 y4 y5 y6 y7 y8:Option V),σ'=[some (.ref pz),some (.ref p),some (.ref o),y3,y4,y5,y6,y7,y8]/\Same H G/\((ss.take i).any λs=>tt.any λt=>cl1 ap s t)=false) ?_ (λi σ' G hi hI=>?_) (λi x σ' G hx hI=>?_) (λσ' G hI=>?_)
 .exact⟨_,_,_,_,_,_,rfl,Same.refl _,rfl⟩
 .obtain⟨_,_,_,_,_,_,_,sg,_⟩:=hI
  exact SqT.of (sg _ _ hb)
 .obtain⟨y3,y4,y5,y6,y7,y8,rfl,sg,hno⟩:=hI
  obtain⟨d0,hd0,rd⟩:=repB.at hx
  rw[be]at hd0
  obtain⟨⟨r,c,k⟩,hs,rfl⟩:=cu.mp hd0
  obtain⟨b',rfl,hb',hok⟩:=oy rd
  refine⟨b',_,rfl,SqT.of (sg _ _ hb'),rfl,_,_,rfl,_,_,rfl,_,_,rfl,rfl,?_⟩
  refine⟨_,rfl,o,_,_,_,rfl,rfl,SqT.of (sg _ _ hox),ku (j:=0) rfl,d,rfl,⟨_,SqT.of (sg _ _ hd)⟩,?_⟩
  refine for_tup (xs:=dxs) (λj σ' G=>∃(y6 y7 y8:Option V),σ'=[some (.ref pz),some (.ref p),some (.ref o),some (.int (r:Nat)),some (.int (c:Nat)),some (.str ⟨#[k]⟩),y6,y7,y8]/\Same H G/\((tt.take j).any λt=>cl1 ap (r,c,k) t)=false) ?_ (λj σ' G hi hI=>?_) (λj x σ' G hx hI=>?_) (λσ' G hI=>?_)
  .exact⟨_,_,_,rfl,sg,rfl⟩
  .obtain⟨_,_,_,_,sg,_⟩:=hI
   exact SqT.of (sg _ _ hd)
  .obtain⟨y6,y7,y8,rfl,sg,hno2⟩:=hI
   obtain⟨d1,hd1,rd1⟩:=repD.at hx
   rw[be]at hd1
   obtain⟨⟨r',c',k'⟩,ht,rfl⟩:=cu.mp hd1
   obtain⟨b2,rfl,hb2,hok2⟩:=oy rd1
   have hitA:cl1 ap (r,c,k) (r',c',k')=true->clashB ap ss tt=true:=λh=>any_hit (λs=>tt.any λt=>cl1 ap s t) hs (any_hit (λt=>cl1 ap (r,c,k) t) ht h)
   refine⟨b2,_,rfl,SqT.of (sg _ _ hb2),rfl,_,_,rfl,_,_,rfl,_,_,rfl,rfl,?_⟩
   refine⟨_,rfl,_,rfl,(by show 2<=sizeLine;decide),λa1 h1=>?_⟩
   generalize g1:upd G a1 _=G1 at *
   obtain⟨s1,e1⟩:=al h1 g1
   refine⟨_,rfl,_,rfl,(by show 2<=sizeLine;decide),λa2 h2=>?_⟩
   generalize g2:upd G1 a2 _=G2 at *
   obtain⟨s2,e2⟩:=al h2 g2
   refine⟨clD (r:Nat) (c:Nat),clD (r':Nat) (c':Nat),pi (s2 _ _ e1),pi e2,(by simp[clD,gu,bv]),?_⟩
   refine⟨_,rfl,?_⟩
   rw[if_neg ah,cl_eqv]
   have s12:=s1.trans s2
   refine ite2 (λh=>?_) (λh=>?_)
   .have e:clashB ap ss tt=true:=hitA (by unfold cl1;rw[j5];exact .inl (by simpa using h))
    rw[e]at q
    exact q G2 (sg.trans s12)
   .have hne:(decide (r=r')&&decide (c=c'))=false:=by
     rw[Bool.eq_false_iff]
     intro z
     exact h (by simpa using z)
    refine⟨_,rfl,_,rfl,(by show 2<=sizeLine;decide),λa3 h3=>?_⟩
    generalize g3:upd G2 a3 _=G3 at *
    obtain⟨s3,e3⟩:=al h3 g3
    refine⟨_,rfl,_,rfl,(by show 2<=sizeLine;decide),λa4 h4=>?_⟩
    generalize g4:upd G3 a4 _=G4 at *
    obtain⟨s4,e4⟩:=al h4 g4
    clear g1 g2 g3 g4
    have sg4:=sg.trans (s12.trans (s3.trans s4))
    refine⟨a3,a4,r,c,r',c',rfl,s4 _ _ e3,e4,_,rfl,ite2 (λha=>?_) (λha=>?_)⟩
    .refine⟨_,rfl,_,rfl,k,k',rfl,_,rfl,_,rfl,k,k',rfl,(by show 2<=sizeLine;decide),λa5 h5=>?_⟩
     generalize g5:upd G4 a5 _=G5 at *
     obtain⟨s5,e5⟩:=al h5 g5
     clear g5
     have sg5:=sg4.trans s5
     obtain⟨avs,ha1,ha2,_⟩:=hA.same sg5
     have hk1:k<128:=hss _ (am hs)
     have hk2:k'<128:=htt _ (am ht)
     refine⟨_,rfl,pz,_,_,_,rfl,rfl,SqT.of (sg5 _ _ hpz),ku (j:=2) rfl,prD (min k k',max k k'),e,avs,ap.map prD,pr_rep e5 (by omega) (by omega),rfl,.inr ha1,ha2,(by simp[prD,gu,bv]),_,rfl,?_⟩
     rw[if_neg ah,pr_in]
     refine ite2 (λhc=>?_) (λhc=>?_)
     .have e:clashB ap ss tt=true:=hitA (by unfold cl1;rw[ha,hc,Bool.and_self,Bool.or_true])
      rw[e]at q
      exact q G5 sg5
     .refine⟨_,_,_,rfl,sg5,?_⟩
      rw[any_succ _ ht,hno2,Bool.false_or]
      unfold cl1
      rw[hne,ha,Bool.false_or,Bool.true_and]
      simpa using hc
    .refine⟨_,_,_,rfl,sg4,?_⟩
     rw[any_succ _ ht,hno2,Bool.false_or]
     unfold cl1
     rw[hne,(show adjB (r:Nat) (c:Nat) (r':Nat) (c':Nat)=false by simpa using ha)]
     rfl
  .obtain⟨y6,y7,y8,rfl,sg,hno2⟩:=hI
   rw[a7 (by omega)]at hno2
   exact⟨_,_,_,_,_,_,rfl,sg,by rw[any_succ _ hs,hno,hno2];rfl⟩
 .obtain⟨y3,y4,y5,y6,y7,y8,rfl,sg,hno⟩:=hI
  rw[a7 (by omega)]at hno
  have e:clashB ap ss tt=false:=hno
  rw[e]at q
  exact q G sg
end
theorem count_num(dl:List PyData)(n:Int):(dl.filter λd=>decide (numOf d=n)).length=(dl.map numOf).count n:=by
 rw[List.count_eq_countP,List.countP_map,List.countP_eq_length_filter]
 congr 1
theorem full_in{ms:List (Option Int)}{ns:List Int}{n:Nat}(h:n<ms.length):(fullL ms ns ms.length).contains (n:Int)=fullB ms ns n:=by
 rw[fg,List.contains_iff_mem]
 unfold fullL
 rw[bi]
 constructor
 .rintro⟨k,hk,e⟩
  have e':k=n:=by omega
  subst e'
  exact(dv.mp hk).2
 .intro hf
  exact⟨n,dv.mpr ⟨f7.mpr h,hf⟩,rfl⟩
theorem hb_any{ap:List (Nat×Nat)}(h:∀p∈ap,p.1<=p.2)(dl:List PyData)(d:PyData):(dl.all λo=>!hbB (barK ap (mz o)) (mz d)) = !(dl.any λo=>clashB ap (mz d) (mz o)):=by
 rw[List.not_any_eq_all_not]
 congr 1
 funext o
 rw[hb_clash h]
set_option pp.maxSteps 3000
section
variable{P:Program}{w:World}{K:aq}{mg:Str->Option Value}{base:Heap}{f:Addr}{fd:FuncData}
noncomputable def spMany:Sp:=λvs H Q _=>∃(la:Addr) (n:Int) (lvs:List V) (dl:List PyData),vs=[.ref la,.int n]/\H la=some (.lst lvs)/\RepAll H dl lvs/\(∀d∈dl,PlD d)/\dl.length<=64/\∀H',Same H H'->Q (.int (((dl.map numOf).count n:Nat):Int)) H'
theorem scMany:ky ["_law_laid","_law_number"] ["_law_laid","_law_number"] (kq sMany):=⟨rfl,rfl,rfl,by decide +kernel,rfl,by decide +kernel,by decide +kernel⟩
theorem ok_many(B:∀x∈blts,mg x=none)(F:Fun K "_law_many" "_law_many" sMany f fd):FnOk P w K mg base CX0 1 f fd ["_law_laid","_law_number"] spMany:=by
 refine F.ok (k:=0) scMany (λvs H Q E h=>?_) (λcdv A outer s H vs Q E hr h=>?_)
 .obtain⟨_,_,_,_,rfl,_⟩:=h
  rfl
 obtain⟨la,n,lvs,dl,rfl,hla,rep,hP,h64,q⟩:=h
 have lx:=rep.length
 refine⟨_,(km (k7 (pe_cB m8 rfl (B "len" (by decide)) g0 (pa_c (lj ["_law_placement","_law_number"] [none,some 1] rfl rfl (by decide +kernel) (by decide +kernel) rfl rfl (lm (pv 0)) (λ_=>(ke (i:=0) (show(["_law_placement","_law_number"]:List PySem.Str).Nodup by decide +kernel) rfl (Or.inl rfl))) (λ_=>pts_one (l7 op_eq (pe_ix ph (pv 0) kg (λ_ _=>rfl)) (pv 1) (m9 _))) (λ_=>(pv 0))) kb)))),?_⟩
 refine⟨_,rfl,la,rfl,⟨_,SqL.of hla⟩,λD hD=>?_⟩
 refine lr (xs:=lvs) (λi zs W=>Same H W/\zs=fzip (λd=>decide (numOf d=n)) dl lvs i) ⟨Same.fresh _ hD,rfl⟩ (λi zs W p=>SqL.of (p.1 _ _ hla)) (λi x zs W hx hi hDw hzl p=>?_) (λzs W hDw hzl p=>?_)
 .obtain⟨p1,rfl⟩:=p
  obtain⟨d,hd,rd⟩:=rep.at hx
  obtain⟨tt,m,rfl,ht6,_⟩:=pl_of (hP d (am hd))
  obtain⟨px,pxs,rfl,hpx,y0,t0,rfl,_,y1,t1,rfl,e1,rfl⟩:=id rd
  cases (show y1=_ from e1)
  refine⟨Agree.set (Agree.refl _) rfl,?_⟩
  refine⟨_,rfl,px,_,_,_,rfl,rfl,SqT.of (p1 _ _ hpx),ku (j:=1) rfl,_,rfl,rfl,decide (m=n),?_,?_⟩
  .exact congrArg V.bl (decide_eq_decide.mpr ⟨λh=>by injection h,λh=>by rw[h]⟩)
  .exact nx_if (p:=λd=>decide (numOf d=n)) (S:=λW=>Same H W) (by omega) hd hx hDw hzl p1 (p1.new hD) rfl (λQ' h=>⟨_,rfl,h⟩)
 .obtain⟨p1,rfl⟩:=p
  refine⟨D,_,rfl,.inl (SqL.of hDw),?_⟩
  have hlen:=(fzip_rep (λd=>decide (numOf d=n)) rep).length
  rw[hlen,count_num]
  exact q W p1
noncomputable def spGoes:Sp:=λvs H Q _=>∃(pz la p:Addr) (M:Mat) (ks:List (List PyData×Nat)) (ms:List (Option Int)) (ap:List (Nat×Nat)) (lvs:List V) (dl:List PyData) (ss:List Sg) (n:Nat),vs=[.ref pz,.ref la,.ref p]/\PzA H pz M ks ms ap/\H la=some (.lst lvs)/\RepAll H dl lvs/\(∀d∈dl,PlD d)/\dl.length<=64/\Rep H (plD ss (n:Nat)) (.ref p)/\(∀s∈ss,s.2.2<128)/\n<ms.length/\
 ∀H',Same H H'->Q (.bl (roomB ms dl (plD ss (n:Nat)) && !(dl.any λo=>clashB ap ss (mz o)))) H'
theorem scGoes:ky ["_law_puzzle_here","_law_laid","_law_placement","_law_most"] ["_law_puzzle_here","_law_laid","_law_placement"] (kq sGoes):=⟨rfl,rfl,rfl,by decide +kernel,rfl,by decide +kernel,by decide +kernel⟩
theorem ok_goes(B:∀x∈blts,mg x=none)(Fmany:Fn P w K mg base "_law_many" 1 ["_law_laid","_law_number"] spMany)(Fcla:Fn P w K mg base "_law_clash" 2 ["_law_puzzle_here","_law_one","_law_other"] spCla)(F:Fun K "_law_goes" "_law_goes" sGoes f fd):FnOk P w K mg base CX0 3 f fd ["_law_puzzle_here","_law_laid","_law_placement"] spGoes:=by
 refine F.ok (k:=2) scGoes (λvs H Q E h=>?_) (λcdv A outer s H vs Q E hr h=>?_)
 .obtain⟨_,_,_,_,_,_,_,_,_,_,_,rfl,_⟩:=h
  rfl
 obtain⟨pz,la,p,M,ks,ms,ap,lvs,dl,ss,n,rfl,hz,hla,rep,hP,h64,hp,hss,hn,q⟩:=h
 have lx:=rep.length
 obtain⟨_,kr,e,fl,kvs,h2,h3,h4,h5⟩:=id hz
 obtain⟨lk,l6,hMs⟩:=id h4
 obtain⟨m,hm⟩:∃m,ms[n]?=some m:=⟨_,ab hn⟩
 obtain⟨v,hv⟩:∃v,kvs[n]?=some v:=⟨_,ab (by omega)⟩
 obtain⟨b,u0,u1,u3,u4,rfl,hb⟩:=hMs n v m hv hm
 obtain⟨pp,pxs,hpp,hpx,y0,t0,rfl,r0,y1,t1,rfl,e1,rfl⟩:=id hp
 cases hpp
 cases (show y1=_ from e1)
 have hroom:roomB ms dl (plD ss (n:Nat)) = !fullB ms (dl.map numOf) n:=by
  unfold roomB
  rw[show numOf (plD ss (n:Nat))=((n:Nat):Int)from rfl,full_in hn]
 rw[hroom]at q
 refine⟨_,(kc (k6 (i:=3) scGoes.nd rfl (Or.inl rfl) (pe_ix li (pe_ix li (pe_ix li (pv 0) kg (λ_ _=>rfl)) (pe_ix li (pv 2) kg (λ_ _=>rfl)) (λ_ _=>rfl)) kg (λ_ _=>rfl)))
  (kc (ps_if (PW.pt (pw_and (l7 op_notN (pv 3) pe_non (m9 _)) (pw_and1 (l7 op_ge (pe_fn Fmany hr (by decide) rfl (pa_c (pv 1) (pa_c (pe_ix li (pv 2) kg (λ_ _=>rfl)) kb))) (pv 3) (m9 _))))) (km (k7 pe_bl)) ni)
  (km (k7 (pe_not (pe_cB (call_any rfl) rfl (B "any" (by decide)) boot_any (pa_c (lj ["_law_other","_law_puzzle_here","_law_placement"] [none,some 0,some 2] rfl rfl (by decide +kernel) (by decide +kernel) rfl rfl (lm (pv 1)) (λ_=>(ke (i:=0) (show(["_law_other","_law_puzzle_here","_law_placement"]:List PySem.Str).Nodup by decide +kernel) rfl (Or.inl rfl))) (λ_=>me) (λ_=>(pe_fn Fcla hr (by decide) rfl (pa_c (pv 1) (pa_c (pv 2) (pa_c (pv 0) kb)))))) kb))))))),?_⟩
 refine⟨_,rfl,pz,_,_,_,rfl,rfl,SqT.of h2,ku (j:=1) rfl,_,rfl,p,_,_,_,rfl,rfl,SqT.of hpx,ku (j:=1) rfl,kr,_,_,_,rfl,rfl,SqT.of h3,ku (j:=n) hv,b,_,_,_,rfl,rfl,SqT.of hb,ku (j:=2) rfl,?_⟩
 refine⟨_,rfl,rfl,_,rfl,?_⟩
 obtain _|m:=m
 case' none=>
  refine iteF (iteF ?_)
  have hfull:fullB ms (dl.map numOf) n=false:=by unfold fullB;rw[hm]
  have sg:=Same.refl H
 case' some=>
  refine iteT ?_
  refine⟨_,rfl,_,rfl,p,_,_,_,rfl,rfl,SqT.of hpx,ku (j:=1) rfl,la,(n:Nat),lvs,dl,rfl,hla,rep,hP,h64,λG sg=>?_⟩
  have hf:fullB ms (dl.map numOf) n=decide (m<=(((dl.map numOf).count ((n:Nat):Int):Nat):Int)):=by
   unfold fullB
   rw[hm]
  refine⟨_,rfl,_,_,rfl,rfl,_,rfl,ite2 (λh=>?gx) (λh=>?gb)⟩
  case gx=>
   rw[hf,h]at q
   exact q G sg
  have hfull:fullB ms (dl.map numOf) n=false:=by rw[hf];simpa using h
 all_goals
  rw[hfull]at q
  refine⟨_,rfl,la,rfl,⟨_,SqL.of (sg _ _ hla)⟩,λD hD=>?_⟩
  have hDn:H D=none:=sg.free hD
  refine lr (xs:=lvs) (λi zs W=>Same H W/\zs=((dl.take i).map λo=>clashB ap ss (mz o)).map V.bl) ⟨sg.trans (Same.fresh _ hD),rfl⟩ (λi zs W p=>SqL.of (p.1 _ _ hla)) (λi x zs W hx hi hDw hzl p=>?_) (λzs W hDw hzl p=>?_)
  .obtain⟨p1,rfl⟩:=p
   obtain⟨d,hd,rd⟩:=rep.at hx
   obtain⟨tt,m2,rfl,ht6,hlt⟩:=pl_of (hP d (am hd))
   obtain⟨px,_,rfl,_⟩:=id rd
   refine⟨Agree.set (Agree.refl _) rfl,?_⟩
   dsimp only[tYes]
   refine iteT ?_
   refine⟨_,rfl,_,rfl,_,rfl,pz,p,px,e,fl,.ref kr,ap,ss,tt,(n:Nat),m2,rfl,p1 _ _ h2,h5.same p1,Rep.same p1 hp,hss,Rep.same p1 rd,(λs hs=>by have:=hlt s hs;omega),λW2 s2=>?_⟩
   have eb:=bl_snoc (λo=>clashB ap ss (mz o)) hd
   rw[spots_pl]at eb
   exact nk (by omega) (s2 _ _ hDw) hzl ⟨(p1.trans s2).new hDn,eb.symm⟩
  .obtain⟨p1,rfl⟩:=p
   rw[a7 (by omega)]at hDw
   refine⟨D,_,rfl,hDw,_,rfl,?_⟩
   rw[List.any_map]
   exact q W p1
noncomputable def spPut:Sp:=λvs H Q _=>∃a xs ds,vs=[.ref a]/\H a=some (.lst xs)/\RepAll H ds xs/\Spots ds/\0<ds.length/\ds.length<64/\∀r H',Same H H'->Rep H' (.tuple (sortD (mx ds))) (.ref r)->Q (.ref r) H'
theorem read_sorted{K:aq}{a:Addr}{xs:List V}{ds:List PyData}{σ:L2.St}{H H0:Hp}{Q:VK}{t l:Int}(hσ:σ[0]?=some (some (.ref a)))(h1:σ[1]?=some (some (.int t)))(h2:σ[2]?=some (some (.int l)))
  (ha:H a=some (.lst xs)) (hr:RepAll H ds xs) (hs:Spots ds) (hl:ds.length<64) (ht:t=minI (ds.map row1)) (hll:l=minI (ds.map col1)) (h0:Same H0 H)
  (q:∀r H',Same H0 H'->Rep H' (.tuple (sortD (mx ds))) (.ref r)->Q (.ref r) H') :
  tComp (iList K (tVar 0)) [none,none,none,some 1,some 2] (gTup K 3 (gCons (gName 0) (gCons (gName 1) (gCons (gName 2) gNil)))) tYes
   (tTup (tCons (tOp (rI0 λi j=>.int (i-j)) (tVar 0) (tVar 3)) (tCons (tOp (rI0 λi j=>.int (i-j)) (tVar 1) (tVar 4)) (tCons (tVar 2) tNil)))) σ H λx H1=>∃p xs ds ks,[x]=[.ref p]/\H1 p=some (.lst xs)/\RepAll H1 ds xs/\Rows ks ds/\ds.length<64/\
  ∀l ys,H1 l=none->RepAll (upd H1 l (.lst ys)) (sortD ds) ys->∃p ys',[V.ref l]=[.ref p]/\((SqL K (upd H1 l (.lst ys)) p ys'/\∀l',upd H1 l (.lst ys) l'=none->Q (.ref l') (upd (upd H1 l (.lst ys)) l' (.tup ys')))\/(SqT K (upd H1 l (.lst ys)) p ys'/\Q (.ref p) (upd H1 l (.lst ys)))):=by
 refine read_shift hσ h1 h2 ha hr hs hl λD ys H' hsame hD hrep=>?_
 refine⟨D,ys,_,[true,false],rfl,hD,hrep,shift_rows hs t l,by rw[aj];exact hl,λl1 zs hl1 hz=>?_⟩
 refine⟨l1,zs,rfl,.inl ⟨SqL.of kh,λl2 hl2=>?_⟩⟩
 have s1:Same H' (upd H' l1 (.lst zs)):=Same.fresh _ hl1
 have s2:Same (upd H' l1 (.lst zs)) (upd (upd H' l1 (.lst zs)) l2 (.tup zs)):=Same.fresh _ hl2
 refine q l2 _ (((h0.trans hsame).trans s1).trans s2) ⟨l2,zs,rfl,kh,?_⟩
 have e:ds.map (shift1 t l)=mx ds:=by unfold mx;rw[ht,hll]
 rw[e]at hz
 exact hz.same s2
theorem scPut:ky ["_law_spots","_law_top","_law_left"] ["_law_spots"] (kq sPut):=⟨rfl,rfl,rfl,by decide +kernel,rfl,by decide +kernel,by decide +kernel⟩
theorem ok_put(B:∀x∈blts,mg x=none)(F:Fun K "_law_put" "_law_put" sPut f fd):FnOk P w K mg base CX0 1 f fd ["_law_spots"] spPut:=by
 refine F.ok (k:=0) scPut (λvs H Q E h=>?_) (λcdv A outer s H vs Q E hr h=>?_)
 .obtain⟨a,xs,ds,rfl,_⟩:=h
  rfl
 obtain⟨a,xs,ds,rfl,ha,hrep,hs,hpos,h64,q⟩:=h
 refine⟨_,(kc (k6 (i:=1) scPut.nd rfl (Or.inr rfl) (pe_cB (call_minL rfl) rfl (B "min" (by decide)) boot_min (pa_c (lj ["_law_spot"] [none] rfl rfl (by decide +kernel) (by decide +kernel) rfl rfl (lm (pv 0)) (λ_=>(ke (i:=0) (show(["_law_spot"]:List PySem.Str).Nodup by decide +kernel) rfl (Or.inl rfl))) (λ_=>me) (λ_=>(pe_ix ph (pv 0) kg (λ_ _=>rfl)))) kb)))
  (kc (k6 (i:=2) scPut.nd rfl (Or.inr rfl) (pe_cB (call_minL rfl) rfl (B "min" (by decide)) boot_min (pa_c (lj ["_law_spot"] [none] rfl rfl (by decide +kernel) (by decide +kernel) rfl rfl (lm (pv 0)) (λ_=>(ke (i:=0) (show(["_law_spot"]:List PySem.Str).Nodup by decide +kernel) rfl (Or.inl rfl))) (λ_=>me) (λ_=>(pe_ix ph (pv 0) kg (λ_ _=>rfl)))) kb)))
  (km (k7 (pe_cT mw rfl (B "tuple" (by decide)) boot_tuple (pa_c (pe_cB call_sortedD rfl (B "sorted" (by decide)) boot_sorted (pa_c (lj ["_law_row","_law_column","_law_sign","_law_top","_law_left"] [none,none,none,some 1,some 2] rfl rfl (by decide +kernel) (by decide +kernel) rfl rfl (lm (pv 0)) (λ_=>(oe (n:=3) rfl (kj (ke (i:=0) (show(["_law_row","_law_column","_law_sign","_law_top","_law_left"]:List PySem.Str).Nodup by decide +kernel) rfl (Or.inl rfl)) (kj (ke (i:=1) (show(["_law_row","_law_column","_law_sign","_law_top","_law_left"]:List PySem.Str).Nodup by decide +kernel) rfl (Or.inl rfl)) (kj (ke (i:=2) (show(["_law_row","_law_column","_law_sign","_law_top","_law_left"]:List PySem.Str).Nodup by decide +kernel) rfl (Or.inl rfl)) lq))))) (λ_=>me) (λ_=>(lc (pa_c (pe_op op_sub (pv 0) (pv 3)) (pa_c (pe_op op_sub (pv 1) (pv 4)) (pa_c (pv 2) kb)))))) kb)) kb)))))),?_⟩
 refine read_proj 0 row1 row_at rfl ha hrep hs h64 λD1 H1 s1 hD1=>?_
 refine⟨D1,_,rfl,hD1,by rw[aj];exact hpos,λM1 m1 m1'=>?_⟩
 refine read_proj 1 col1 col_at rfl (s1 _ _ ha) (hrep.same s1) hs h64 λD2 H2 s2 hD2=>?_
 refine⟨D2,_,rfl,hD2,by rw[aj];exact hpos,λM2 m2 m2'=>?_⟩
 exact read_sorted rfl rfl rfl ((s1.trans s2) _ _ ha) (hrep.same (s1.trans s2)) hs h64 (minI_eq m1 m1') (minI_eq m2 m2') (s1.trans s2) q
noncomputable def spLt:Sp:=λvs H Q _=>∃(a:Addr) (t:Nat) (xs:List V) (ds:List PyData),vs=[.ref a,.int (t:Nat)]/\H a=some (.tup xs)/\RepAll H ds xs/\Zr ds/\t<8/\∀r H',Same H H'->Rep H' (.tuple (sortD (spotsD t ds))) (.ref r)->Q (.ref r) H'
theorem scLt:ky ["_law_form_here","_law_t","_law_spots","_law_k"] ["_law_form_here","_law_t"] (kq sLt):=⟨rfl,rfl,rfl,by decide +kernel,rfl,by decide +kernel,by decide +kernel⟩
theorem ok_lt(B:∀x∈blts,mg x=none)(Fput:Fn P w K mg base "_law_put" 1 ["_law_spots"] spPut)(F:Fun K "_law_turned" "_law_turned" sLt f fd):FnOk P w K mg base CX0 2 f fd ["_law_form_here","_law_t"] spLt:=by
 refine F.ok (k:=1) scLt (λvs H Q E h=>?_) (λcdv A outer s H vs Q E hr h=>?_)
 .obtain⟨a,t,xs,ds,rfl,_⟩:=h
  rfl
 obtain⟨a,t,xs,ds,rfl,ha,rep,hz,ht,q⟩:=h
 have hp:=hz.pre.pos
 have h6:=hz.pre.six
 rw[<-hz.raw t]at q
 refine⟨_,(kc (k6 (i:=2) scLt.nd rfl (Or.inl rfl) (pe_cT call_list_of rfl (B "list" (by decide)) boot_list (pa_c (pv 0) kb)))
  (kc (ps_if (l7 op_gt (pv 1) kg (m9 _)) (km (ps_setC (i:=2) ["_law_row","_law_column","_law_sign"] [none,none,none] scLt.nd rfl (Or.inl rfl) rfl rfl rfl (by decide +kernel) (by decide +kernel) rfl rfl (pi_seq (pv 2)) (λ_=>(oe (n:=3) rfl (kj (ke (i:=0) (show(["_law_row","_law_column","_law_sign"]:List PySem.Str).Nodup by decide +kernel) rfl (Or.inl rfl)) (kj (ke (i:=1) (show(["_law_row","_law_column","_law_sign"]:List PySem.Str).Nodup by decide +kernel) rfl (Or.inl rfl)) (kj (ke (i:=2) (show(["_law_row","_law_column","_law_sign"]:List PySem.Str).Nodup by decide +kernel) rfl (Or.inl rfl)) lq))))) (λ_=>me) (λ_=>(lc (pa_c (pv 0) (pa_c (pe_un un_neg (pv 1)) (pa_c (pv 2) kb))))))) ni)
  (kc (m7 b7 rfl (pi_r1 rfl (B "range" (by decide)) (pa_c (pe_op op_mod (pv 1) kg) kb)) (ke (i:=3) scLt.nd rfl (Or.inl rfl)) (km (ps_setC (i:=2) ["_law_row","_law_column","_law_sign"] [none,none,none] scLt.nd rfl (Or.inl rfl) rfl rfl rfl (by decide +kernel) (by decide +kernel) rfl rfl (pi_seq (pv 2)) (λ_=>(oe (n:=3) rfl (kj (ke (i:=0) (show(["_law_row","_law_column","_law_sign"]:List PySem.Str).Nodup by decide +kernel) rfl (Or.inl rfl)) (kj (ke (i:=1) (show(["_law_row","_law_column","_law_sign"]:List PySem.Str).Nodup by decide +kernel) rfl (Or.inl rfl)) (kj (ke (i:=2) (show(["_law_row","_law_column","_law_sign"]:List PySem.Str).Nodup by decide +kernel) rfl (Or.inl rfl)) lq))))) (λ_=>me) (λ_=>(lc (pa_c (pv 1) (pa_c (pe_un un_neg (pv 0)) (pa_c (pv 2) kb))))))))
  (km (k7 (pe_fn Fput hr (by decide) rfl (pa_c (pv 2) kb))))))),?_⟩
 refine⟨_,rfl,a,xs,rfl,.inr (SqT.of ha),λD0 hD0=>?_⟩
 have sm0:Same H (upd H D0 (.lst xs)):=Same.fresh _ hD0
 have hL:upd H D0 (.lst xs) D0=some (.lst xs):=kh
 replace rep:=rep.same sm0
 generalize upd H D0 (.lst xs)=H0 at *
 refine⟨_,rfl,_,_,rfl,rfl,_,rfl,?_⟩
 refine ite2 (λh4=>?ga) (λh4=>?gb)
 case' ga=>
  have h4':4<=t:=by have:(t:Int)>3:=of_decide_eq_true h4
                    omega
  refine read_spotT ng1 rfl rfl (.inl hL) rep hz.pre.spots (by omega) (λr c z H' Q' h=>?gn) (λr c z=>⟨_,_,rfl⟩) λD ys H2 hD sm hDy rep=>?ge
  case' gn=>
   obtain⟨u,v,e,q⟩:=h
   cases (show PyData.tuple [.int r,.int (-c),.str z]=.tuple [.int u,.int v,.str z]from e)
   exact⟨_,rfl,_,rfl,_,rfl,_,rfl,(by show 3<=sizeLine;decide),q⟩
  case' ge=>
   obtain⟨ds1,e1⟩:∃d,d=(if 4<=t then ds.map ng1 else ds):=⟨_,rfl⟩
   have e2:ds1=ds.map ng1:=by rw[e1,if_pos h4']
   rw[<-e2]at rep
   have sp1:Spots ds1:=by rw[e2];exact ng_spots hz.pre.spots
   have l1:ds1.length=ds.length:=by rw[e2,aj]
   replace sm:=sm0.trans sm
 case' gb=>
  have h4':¬4<=t:=by have:¬(t:Int)>3:=by simpa using h4
                     omega
  obtain⟨ds1,e1⟩:∃d,d=(if 4<=t then ds.map ng1 else ds):=⟨_,rfl⟩
  have e2:ds1=ds:=by rw[e1,if_neg h4']
  rw[<-e2]at rep
  have sp1:Spots ds1:=by rw[e2];exact hz.pre.spots
  have l1:ds1.length=ds.length:=by rw[e2]
  have sm:=sm0
  have hDy:=hL
 all_goals
  refine⟨_,rfl,_,_,rfl,rfl,(by show(0:Int)<4;decide),_,rfl,by omega,by omega,?_⟩
  refine oj (lo:=0) (λi σ' H'=>∃(y2:Option V) (D:Addr) (ys:List V),σ'=[some (.ref a),some (.int (t:Nat)),some (.ref D),y2]/\Same H H'/\H' D=some (.lst ys)/\RepAll H' (rawN i ds1) ys) ?_ (λi σ' H' hi h=>?_) (λσ' H' h=>?_)
  .exact⟨_,_,_,rfl,sm,hDy,rep⟩
  .obtain⟨y2,D,ys,rfl,sm,hDy,rep⟩:=h
   refine read_spotT nt1 rfl rfl (.inl hDy) rep (rawN_spots sp1 i) (by rw[rawN_len];omega) (λr c z H' Q' h=>?_) (λr c z=>⟨_,_,rfl⟩) λD2 ys2 H3 hD2 s3 hD3 rep3=>?_
   .obtain⟨u,v,e,q⟩:=h
    cases (show PyData.tuple [.int c,.int (-r),.str z]=.tuple [.int u,.int v,.str z]from e)
    exact⟨_,rfl,_,rfl,_,rfl,_,rfl,(by show 3<=sizeLine;decide),q⟩
   .exact⟨_,D2,ys2,rfl,sm.trans s3,hD3,by rw[rawN_succ];exact rep3⟩
  .obtain⟨y2,D,ys,rfl,sm,hDy,rep⟩:=h
   have et:(((t:Nat):Int) % 4).toNat=t % 4:=by omega
   rw[et]at rep
   refine⟨_,rfl,D,ys,_,rfl,hDy,rep,rawN_spots sp1 _,by rw[rawN_len];omega,by rw[rawN_len];omega,λr H3 s3 rep3=>?_⟩
   refine q r H3 (sm.trans s3) ?_
   rw[show rawT t ds=rawN (t % 4) ds1 by rw[e1];rfl]
   exact rep3
end
theorem cells_at{H:Hp}{cs:List PyData}{xs:List V}{i:Nat}{v:V}(h:Cells cs)(r:RepAll H cs xs)(e:xs[i]?=some v):∃(a:Addr) (p q:Int),v=.ref a/\H a=some (.tup [.int p,.int q])/\cs[i]?=some (.tuple [.int p,.int q]):=by
 obtain⟨d,e1,e2⟩:=r.at e
 obtain⟨p,q,rfl⟩:=h d (am e1)
 obtain⟨a,e3,e4⟩:=rep_cell e2
 exact⟨a,p,q,e3,e4,e1⟩
theorem nd_snoc{ds:List PyData}{r c:Int}(hcs:Cells ds)(hnd:(ds.map cl).Nodup)(hnew:(!(ds.any λe=>bn e (.tuple [.int r,.int c])))=true)(hl:(PyData.tuple [.int r,.int c]).canLay0=true):((ds++[PyData.tuple [.int r,.int c]]).map cl).Nodup:=by
 rw[cm,List.nodup_append]
 refine⟨hnd,by simp,λx hx y hy=>?_⟩
 have ey:y=(r,c):=ba.mp hy
 intro exy
 rw[exy,ey]at hx
 obtain⟨z,hz,ez⟩:=bi.mp hx
 obtain⟨r0,c0,rfl⟩:=hcs z hz
 have ez':(r0,c0)=(r,c):=ez
 injection ez' with e1 e2
 rw[Bool.not_eq_true',List.any_eq_false]at hnew
 exact hnew _ hz (by rw[e1,e2];exact SeqAt.eqv_refl _ hl)
noncomputable def Ltr(k:Nat):Prop:=65<=k/\k<=90
set_option pp.maxSteps 3000
section
variable{P:Program}{w:World}{K:aq}{mg:Str->Option Value}{base:Heap}{f:Addr}{fd:FuncData}
noncomputable def spForm:Sp:=λvs H Q _=>∃(st sg:Addr) (n m:Int) (ls:List Nat),vs=[.ref st,.int m,.ref sg]/\H st=some (.lst [.int n])/\H sg=some (.lst (ls.map chV))/\sg≠st/\ls.length=3/\(∀k∈ls,Ltr k)/\0<m/\m<=6/\
 ∀(r:Addr) (H':Hp) (n':Int) (es:List PyData),Ex [st] H H'->H' st=some (.lst [.int n'])->Zr es->Rep H' (.tuple es) (.ref r)->Q (.ref r) H'
theorem scForm:ky ["_law_state","_law_most","_law_signs","_law_cells","_law_k","_law_row","_law_column","_law_down","_law_right"] ["_law_state","_law_most","_law_signs"] (kq sForm):=⟨rfl,rfl,rfl,by decide +kernel,rfl,by decide +kernel,by decide +kernel⟩
theorem ok_form(B:∀x∈blts,mg x=none)(Fnext:FnNext P w K mg base)(Fput:Fn P w K mg base "_law_put" 1 ["_law_spots"] spPut)(F:Fun K "_law_form" "_law_form" sForm f fd):FnOk P w K mg base CX0 2 f fd ["_law_state","_law_most","_law_signs"] spForm:=by
 refine F.ok (k:=1) scForm (λvs H Q E h=>?_) (λcdv A outer s H vs Q E hr h=>?_)
 .obtain⟨_,_,_,_,_,rfl,_⟩:=h
  rfl
 obtain⟨st,sg,n,m,ls,rfl,hst,hsg,nsg,h3,hls,hm0,hm1,q⟩:=h
 have hu:=hr.units
 refine⟨_,(kc (k6 (i:=3) scForm.nd rfl (Or.inl rfl) (ny (pa_c (lc (pa_c kg (pa_c kg kb))) kb)))
  (kc (m7 b7 rfl (pi_r1 rfl (B "range" (by decide)) (pa_c (pe_fn Fnext hr (by decide) rfl (pa_c (pv 0) (pa_c (pv 1) kb))) kb)) (ke (i:=4) scForm.nd rfl (Or.inl rfl)) (kc (ps_asg (pe_ix nj (pv 3) (pe_fn Fnext hr (by decide) rfl (pa_c (pv 0) (pa_c (pe_cB m8 rfl (B "len" (by decide)) g0 (pa_c (pv 3) kb)) kb))) (λ_ _=>rfl)) (pg_tup (n:=2) rfl (kj (ke (i:=5) scForm.nd rfl (Or.inl rfl)) (kj (ke (i:=6) scForm.nd rfl (Or.inl rfl)) lq))))
  (kc (ps_asg (pe_ix nj (ny (pa_c (lc (pa_c kg (pa_c kg kb))) (pa_c (lc (pa_c kg (pa_c kg kb))) (pa_c (lc (pa_c kg (pa_c (pe_un un_neg kg) kb))) (pa_c (lc (pa_c (pe_un un_neg kg) (pa_c kg kb))) kb))))) (pe_fn Fnext hr (by decide) rfl (pa_c (pv 0) (pa_c kg kb))) (λ_ _=>rfl)) (pg_tup (n:=2) rfl (kj (ke (i:=7) scForm.nd rfl (Or.inl rfl)) (kj (ke (i:=8) scForm.nd rfl (Or.inl rfl)) lq))))
  (km (ps_if (l7 (op_notInD hu) (lc (pa_c (pe_op nq (pv 5) (pv 7)) (pa_c (pe_op nq (pv 6) (pv 8)) kb))) (pv 3) rfl) (km (ps_expr (pe_bm ff gv gw om (pv 3) (pa_c (lc (pa_c (pe_op nq (pv 5) (pv 7)) (pa_c (pe_op nq (pv 6) (pv 8)) kb))) kb)))) ni)))))
  (km (k7 (pe_fn Fput hr (by decide) rfl (pa_c (lj ["_law_cell","_law_signs","_law_state"] [none,some 2,some 0] rfl rfl (by decide +kernel) (by decide +kernel) rfl rfl (lm (pv 3)) (λ_=>(ke (i:=0) (show(["_law_cell","_law_signs","_law_state"]:List PySem.Str).Nodup by decide +kernel) rfl (Or.inl rfl))) (λ_=>me) (λ_=>(pe_op op_catU (pv 0) (lc (pa_c (pe_ix ix_listC (pv 1) (pe_fn Fnext hr (by decide) rfl (pa_c (pv 2) (pa_c (pe_cB call_len_seqC rfl (B "len" (by decide)) g0 (pa_c (pv 1) kb)) kb))) (λ_ _=>rfl)) kb))))) kb)))))),?_⟩
 refine⟨(by show 2<=sizeLine;decide),λp1 hp1=>⟨(by show 1<=sizeLine;decide),λp2 hp2=>?_⟩⟩
 obtain⟨hp21,hp2H⟩:=upd_none hp2
 have n2:st≠p2:=lh hst hp2H
 have s1:Same H (upd (upd H p1 (.tup [.int 0,.int 0])) p2 (.lst [.ref p1])):=(Same.fresh _ hp1).trans (Same.fresh _ hp2)
 have c1:upd (upd H p1 (.tup [.int 0,.int 0])) p2 (.lst [.ref p1]) p2=some (.lst [.ref p1]):=kh
 have b1:upd (upd H p1 (.tup [.int 0,.int 0])) p2 (.lst [.ref p1]) p1=some (.tup [.int 0,.int 0]):=by rw[kv (Ne.symm hp21)];exact kh
 generalize upd (upd H p1 (.tup [.int 0,.int 0])) p2 (.lst [.ref p1])=H1 at *
 have st1:=s1 _ _ hst
 have nb:p1≠st:=ne_of b1 st1 (by intro z;cases z)
 refine⟨_,rfl,_,rfl,st,n,m,rfl,st1,hm0,λn' j hj0 hj1=>⟨j,rfl,by omega,by omega,?_⟩⟩
 refine oj (n:=j.toNat) (lo:=0) (λi σ' G=>∃(x3 x4 x5 x6 x7:Option V) (n':Int) (xs:List V) (cs:List PyData),σ'=[some (.ref st),some (.int m),some (.ref sg),some (.ref p2),x3,x4,x5,x6,x7]/\Ex [st] H G/\G st=some (.lst [.int n'])/\G p2=some (.lst xs)/\RepAll G cs xs/\Cells cs/\(cs.map cl).Nodup/\0<cs.length/\cs.length<=i+1) ?_ (λi σ' G hi h=>?_) (λσ' G h=>?_)
 .refine⟨_,_,_,_,_,n',[.ref p1],[.tuple [.int 0,.int 0]],rfl,(Ex.of_same s1).trans (Ex.upd (by simp)),kh,by rw[kv (Ne.symm n2)];exact c1,⟨_,_,rfl,pi (by rw[kv nb];exact b1),rfl⟩,λd hd=>?_,by simp,by simp,by simp⟩
  rw[ba.mp hd]
  exact⟨0,0,rfl⟩
 .obtain⟨x3,x4,x5,x6,x7,n1,xs,cs,rfl,ex,hs,hp,rep,hcs,hnd,hpos,hlen⟩:=h
  have hxl:=rep.length
  refine⟨_,rfl,_,rfl,_,rfl,p2,xs,rfl,.inl (SqL.of hp),st,n1,_,rfl,hs,by omega,λn3 i2 h20 h21=>?_⟩
  obtain⟨j2,rfl⟩:=db h20
  have hj2:j2<xs.length:=by omega
  obtain⟨b,r,c,hv,hb,hdat⟩:=cells_at hcs rep (ab hj2)
  have nbs:b≠st:=ne_of hb hs (by intro z;cases z)
  have exA:Ex [st] H (upd G st (.lst [.int n3])):=ex.trans (Ex.upd (by simp))
  have stA:upd G st (.lst [.int n3]) st=some (.lst [.int n3]):=kh
  have pA:upd G st (.lst [.int n3]) p2=some (.lst xs):=by rw[kv (Ne.symm n2)];exact hp
  have rA:RepAll (upd G st (.lst [.int n3])) cs xs:=rep.tk (Tk.lst hs) hcs.imm
  have bA:upd G st (.lst [.int n3]) b=some (.tup [.int r,.int c]):=by rw[kv nbs];exact hb
  generalize upd G st (.lst [.int n3])=GA at *
  refine⟨p2,xs,_,.ref b,rfl,rfl,SqL.of pA,ku (by rw[ab hj2,hv]),b,_,rfl,SqT.of bA,rfl,_,_,rfl,_,_,rfl,rfl,?_⟩
  refine⟨(by show 2<=sizeLine;decide),λq1 hq1=>⟨(by show 2<=sizeLine;decide),λq2 hq2=>?_⟩⟩
  refine⟨_,rfl,(by show 2<=sizeLine;decide),λq3 hq3=>?_⟩
  refine⟨_,rfl,(by show 2<=sizeLine;decide),λq4 hq4=>⟨(by show 4<=sizeLine;decide),λq5 hq5=>?_⟩⟩
  have u1:upd GA q1 (.tup [.int 0,.int 1]) q1=some (.tup [.int 0,.int 1]):=kh
  have t1:Same GA (upd GA q1 (.tup [.int 0,.int 1])):=Same.fresh _ hq1
  generalize upd GA q1 (.tup [.int 0,.int 1])=G1 at *
  have u2:upd G1 q2 (.tup [.int 1,.int 0]) q2=some (.tup [.int 1,.int 0]):=kh
  have t2:Same G1 (upd G1 q2 (.tup [.int 1,.int 0])):=Same.fresh _ hq2
  generalize upd G1 q2 (.tup [.int 1,.int 0])=G2 at *
  have u3:upd G2 q3 (.tup [.int 0,.int (-1)]) q3=some (.tup [.int 0,.int (-1)]):=kh
  have t3:Same G2 (upd G2 q3 (.tup [.int 0,.int (-1)])):=Same.fresh _ hq3
  generalize upd G2 q3 (.tup [.int 0,.int (-1)])=G3 at *
  have u4:upd G3 q4 (.tup [.int (-1),.int 0]) q4=some (.tup [.int (-1),.int 0]):=kh
  have t4:Same G3 (upd G3 q4 (.tup [.int (-1),.int 0])):=Same.fresh _ hq4
  generalize upd G3 q4 (.tup [.int (-1),.int 0])=G4 at *
  have u5:upd G4 q5 (.lst [.ref q1,.ref q2,.ref q3,.ref q4]) q5=some (.lst [.ref q1,.ref q2,.ref q3,.ref q4]):=kh
  have t5:Same G4 (upd G4 q5 (.lst [.ref q1,.ref q2,.ref q3,.ref q4])):=Same.fresh _ hq5
  generalize upd G4 q5 (.lst [.ref q1,.ref q2,.ref q3,.ref q4])=G5 at *
  have tA:Same GA G5:=(((t1.trans t2).trans t3).trans t4).trans t5
  have four:∀m:Nat,m<4->∃(b':Addr) (d e:Int),[V.ref q1,.ref q2,.ref q3,.ref q4][m]?=some (.ref b')/\G5 b'=some (.tup [.int d,.int e]):=λm hm=>by
   match m,hm with
   | 0,_=>exact⟨q1,_,_,rfl,t5 _ _ (t4 _ _ (t3 _ _ (t2 _ _ u1)))⟩
   | 1,_=>exact⟨q2,_,_,rfl,t5 _ _ (t4 _ _ (t3 _ _ u2))⟩
   | 2,_=>exact⟨q3,_,_,rfl,t5 _ _ (t4 _ _ u3)⟩
   | 3,_=>exact⟨q4,_,_,rfl,t5 _ _ u4⟩
  have stB:=tA _ _ stA
  have pB:=tA _ _ pA
  refine⟨_,rfl,st,n3,4,rfl,stB,by decide,λn4 i3 h30 h31=>?_⟩
  obtain⟨j3,rfl⟩:=db h30
  obtain⟨b',d,e,hb',hbd⟩:=four j3 (by omega)
  have nq5:q5≠st:=λe=>by rw[e,stB]at u5;simp at u5
  have nb':b'≠st:=ne_of hbd stB (by intro z;cases z)
  have exC:Ex [st] H (upd G5 st (.lst [.int n4])):=(exA.trans (Ex.of_same tA)).trans (Ex.upd (by simp))
  have stC:upd G5 st (.lst [.int n4]) st=some (.lst [.int n4]):=kh
  have pC:upd G5 st (.lst [.int n4]) p2=some (.lst xs):=by rw[kv (Ne.symm n2)];exact pB
  have rC:RepAll (upd G5 st (.lst [.int n4])) cs xs:=(rA.same tA).tk (Tk.lst stB) hcs.imm
  have bC:upd G5 st (.lst [.int n4]) b'=some (.tup [.int d,.int e]):=by rw[kv nb'];exact hbd
  have lC:upd G5 st (.lst [.int n4]) q5=some (.lst [.ref q1,.ref q2,.ref q3,.ref q4]):=by rw[kv nq5];exact u5
  generalize upd G5 st (.lst [.int n4])=GC at *
  refine⟨q5,_,_,.ref b',rfl,rfl,SqL.of lC,ku hb',b',_,rfl,SqT.of bC,rfl,_,_,rfl,_,_,rfl,rfl,?_⟩
  refine⟨_,rfl,_,rfl,_,_,rfl,rfl,_,rfl,_,rfl,_,_,rfl,rfl,(by show 2<=sizeLine;decide),λt6 ht6=>?_⟩
  have s6:Same GC (upd GC t6 (.tup [.int (r+d),.int (c+e)])):=Same.fresh _ ht6
  have c6:upd GC t6 (.tup [.int (r+d),.int (c+e)]) t6=some (.tup [.int (r+d),.int (c+e)]):=kh
  generalize upd GC t6 (.tup [.int (r+d),.int (c+e)])=GD at *
  have pD:=s6 _ _ pC
  refine⟨_,rfl,.tuple [.int (r+d),.int (c+e)],p2,xs,cs,pi c6,rfl,.inl pD,rC.same s6,(by simp[gu,bv]),_,rfl,?_⟩
  have exD:=exC.trans (Ex.of_same s6)
  refine ite2 (λhnew=>?_) (λ_=>?_)
  .refine⟨_,rfl,.inl ⟨rfl,_,SqL.of pD⟩,_,rfl,_,rfl,_,_,rfl,rfl,_,rfl,_,rfl,_,_,rfl,rfl,(by show 2<=sizeLine;decide),λt7 ht7=>?_⟩
   have s7:Same GD (upd GD t7 (.tup [.int (r+d),.int (c+e)])):=Same.fresh _ ht7
   have c7:upd GD t7 (.tup [.int (r+d),.int (c+e)]) t7=some (.tup [.int (r+d),.int (c+e)]):=kh
   generalize upd GD t7 (.tup [.int (r+d),.int (c+e)])=GE at *
   have pE:=s7 _ _ pD
   refine⟨p2,xs,.ref t7,rfl,rfl,pE,l8 (by omega),?_⟩
   have hcs':Cells (cs++[.tuple [.int (r+d),.int (c+e)]]):=λz hz=>by
    rcases bm.mp hz with h|h
    .exact hcs z h
    .rw[ba.mp h];exact⟨_,_,rfl⟩
   refine⟨_,_,_,_,_,n4,xs++[.ref t7],cs++[.tuple [.int (r+d),.int (c+e)]],rfl,(exD.trans (Ex.of_same s7)).new hp2H,by rw[kv n2];exact s7 _ _ (s6 _ _ stC),kh,((rC.same (s6.trans s7)).snoc (pi c7)).tk (Tk.lst pE) hcs'.imm,hcs',?_,by simp,by simp;omega⟩
   exact nd_snoc hcs hnd (by rw[if_pos rfl]at hnew;exact hnew) (pi c6).lay
  .exact⟨_,_,_,_,_,n4,xs,cs,rfl,exD,s6 _ _ stC,pD,rC.same s6,hcs,hnd,hpos,by omega⟩
 .obtain⟨x3,x4,x5,x6,x7,n1,xs,cs,rfl,ex,hs,hp,rep,hcs,hnd,hpos,hlen⟩:=h
  have hxl:=rep.length
  have hsgG:=ex.at nsg hsg
  have np:p2≠st:=Ne.symm n2
  refine⟨_,rfl,p2,rfl,⟨_,SqL.of hp⟩,λD hD=>?_⟩
  have nD:D≠st:=λe=>by rw[e,hs]at hD;cases hD
  have hDH:H D=none:=by
   cases z:H D with
   | none=>rfl
   | some o=>have z':=ex D o (by simpa using nD) z;rw[z']at hD;cases hD
  refine lr (xs:=xs) (λi zs J=>Ex [st] G J/\(∃n:Int,J st=some (.lst [.int n]))/\∃es:List PyData,es.length=i/\RepAll J es zs/\(∀d∈es,SgD d)/\es.map cl=(cs.take i).map cl) ⟨Ex.fresh hD,⟨n1,by rw[kv (Ne.symm nD)];exact hs⟩,[],rfl,rfl,(λd hd=>by cases hd),rfl⟩ (λi zs J p=>SqL.of (p.1.at np hp)) (λi x zs J hx hi hDy hzl p=>?_) (λzs J hDy hzl p=>?_)
  .obtain⟨p1,⟨n5,st5⟩,es,hel,repE,hsgd,hecl⟩:=p
   obtain⟨b,r,c,rfl,hb,hdat⟩:=cells_at hcs rep hx
   have nb':b≠st:=ne_of hb hs (by intro z;cases z)
   have hb5:=p1.at nb' hb
   have sg5:=p1.at nsg hsgG
   refine⟨Agree.set (Agree.refl _) rfl,?_⟩
   dsimp only[tYes]
   refine iteT ?_
   refine⟨_,rfl,_,rfl,_,rfl,_,rfl,sg,_,rfl,.inl (SqL.of sg5),st,n5,_,rfl,st5,by rw[aj,h3];decide,λn6 i6 h60 h61=>?_⟩
   rw[aj,h3]at h61
   obtain⟨j6,rfl⟩:=db h60
   have hj6:j6<ls.length:=by omega
   have hk6:=hls _ (df hj6)
   generalize g6:upd J st _=J6 at *
   have ex6:Ex [st] J J6:=by rw[<-g6];exact Ex.upd (by simp)
   have st6:J6 st=some (.lst [.int n6]):=by rw[<-g6];exact kh
   clear g6
   refine⟨sg,_,_,chV (ls[j6]'hj6),rfl,rfl,SqL.of (ex6.at nsg sg5),ku (by rw[be,ab hj6];rfl),(by show 1<=sizeLine;decide),λu hu0=>?_⟩
   generalize g7:upd J6 u _=J7 at *
   obtain⟨s7,e7⟩:=al hu0 g7
   clear g7
   refine⟨b,u,_,_,rfl,rfl,s7 _ _ (ex6.at nb' hb5),e7,(by show 3<=sizeLine;decide),λv J8 s8 e8=>?_⟩
   have s78:=s7.trans s8
   have D8:=s78 _ _ (ex6.at nD hDy)
   have tk6:Tk J J6:=ex6.one st5
   have imE:mf es=true:=Spots.imm λd hd=>by obtain⟨r',c',k',e,_⟩:=hsgd d hd;exact⟨r',c',_,e⟩
   refine nk (by omega) D8 hzl ⟨(p1.trans (ex6.trans (Ex.of_same s78))).new hD,⟨n6,by rw[kv (Ne.symm nD)];exact s78 _ _ st6⟩,es++[.tuple [.int r,.int c,.str ⟨#[ls[j6]'hj6]⟩]],by rw[bo,hel];rfl,?_,?_,?_⟩
   .refine(((repE.tk tk6 imE).same s78).snoc (spot_rep e8 (ok1 (by have:=hk6.2;omega)))).tk (Tk.lst D8) ?_
    refine Spots.imm λd hd=>?_
    rcases bm.mp hd with h|h
    .obtain⟨r',c',k',e,_⟩:=hsgd d h
     exact⟨r',c',_,e⟩
    .rw[ba.mp h];exact⟨_,_,_,rfl⟩
   .intro d hd
    rcases bm.mp hd with h|h
    .exact hsgd d h
    .rw[ba.mp h];exact⟨r,c,_,rfl,hk6.1,hk6.2⟩
   .rw[cm,hecl,k8 cl hdat]
    rfl
  .obtain⟨p1,⟨n5,st5⟩,es,hel,repE,hsgd,hecl⟩:=p
   rw[a7 (by omega)]at hecl
   have pre:Pre es:=⟨hsgd,by omega,by omega,by rw[hecl];exact hnd⟩
   refine⟨D,zs,es,rfl,hDy,repE,pre.spots,by omega,by omega,λr H9 s9 rep9=>?_⟩
   exact q r H9 n5 _ ((ex.trans p1).trans (Ex.of_same s9)) (s9 _ _ st5) ((Zr.shift pre).perm (o4 _)) rep9
end
theorem lo_sg{k:Nat}(h1:65<=k)(h2:k<=90):sgB k=true/\sgB (lo1 k)=true:=by
 have:∀k<91,65<=k->sgB k=true/\sgB (lo1 k)=true:=by decide +kernel
 exact this k (by omega) h1
theorem join_line(l:List Nat):Txt.join (bq "") (l.map λc=>(⟨#[c]⟩:Str))=⟨l.toArray⟩:=by
 have e:=join_list_eq (g:=bq "") (by decide +kernel) (l.map λc=>(⟨#[c]⟩:Str))
 have e2:((l.map λc=>(⟨#[c]⟩:Str)).map λp=>p.cps.toList).flatten=l:=by
  clear e
  rw[bp]
  induction l with
  | nil=>rfl
  | cons a t ih=>rw[e9,List.flatten_cons];exact congrArg (a :: ·) ih
 rw[e2]at e
 have e3:(Txt.join (bq "") (l.map λc=>(⟨#[c]⟩:Str))).cps=l.toArray:=Array.toList_inj.mp (by rw[e])
 calc Txt.join (bq "") (l.map λc=>(⟨#[c]⟩:Str))=⟨(Txt.join (bq "") (l.map λc=>(⟨#[c]⟩:Str))).cps⟩:=rfl
  _=⟨l.toArray⟩:=by rw[e3]
noncomputable def Mnu(z:Str):Prop:=z.cps.toList.length=4/\z.length<=sizeLine/\∀c∈z.cps.toList,sgB c=true
theorem ex_none{st a:Addr}{H H':Hp}(ex:Ex [st] H H')(n:a≠st)(h:H' a=none):H a=none:=by
 cases z:H a with
 | none=>rfl
 | some o=>have z':=ex a o (by simpa using n) z;rw[z']at h;cases h
theorem dr{st:Addr}{H H':Hp}{n:Int}(g:upd H st (.lst [.int n])=H'):Ex [st] H H'/\H' st=some (.lst [.int n]):=by
 subst g
 exact⟨Ex.upd (by simp),kh⟩
set_option pp.maxSteps 3000
section
variable{P:Program}{w:World}{K:aq}{mg:Str->Option Value}{base:Heap}{f:Addr}{fd:FuncData}
noncomputable def spFloor:Sp:=λvs H Q _=>∃(st sg:Addr) (n:Int) (ls:List Nat),vs=[.ref st,.ref sg,.int 12]/\H st=some (.lst [.int n])/\H sg=some (.lst (ls.map chV))/\sg≠st/\ls.length=3/\(∀k∈ls,Ltr k)/\
 ∀(p:Addr) (H':Hp) (n':Int) (M:Mat),H p=none->Ex [st] H H'->H' st=some (.lst [.int n'])->FlM H' p M->Q (.ref p) H'
theorem scFloor:ky ["_law_state","_law_signs","_law_most","_law_wide","_law_high","_law_menu","_law_rows","_law_row"] ["_law_state","_law_signs","_law_most"] (kq sFloor):=⟨rfl,rfl,rfl,by decide +kernel,rfl,by decide +kernel,by decide +kernel⟩
theorem ok_floor(B:∀x∈blts,mg x=none)(Fnext:FnNext P w K mg base)(F:Fun K "_law_floor" "_law_floor" sFloor f fd):FnOk P w K mg base CX0 2 f fd ["_law_state","_law_signs","_law_most"] spFloor:=by
 refine F.ok (k:=1) scFloor (λvs H Q E h=>?_) (λcdv A outer s H vs Q E hr h=>?_)
 .obtain⟨_,_,_,_,rfl,_⟩:=h
  rfl
 obtain⟨st,sg,n,ls,rfl,hst,hsg,nsg,h3,hls,q⟩:=h
 obtain⟨a,b,c,rfl⟩:∃a b c,ls=[a,b,c]:=by
  match ls,h3 with
  | [a,b,c],_=>exact⟨a,b,c,rfl⟩
 have ha:=hls a (by simp)
 have hc:=hls c (by simp)
 refine⟨_,(kc (k6 (i:=3) scFloor.nd rfl (Or.inl rfl) (pe_op nq kg (pe_fn Fnext hr (by decide) rfl (pa_c (pv 0) (pa_c kg kb)))))
  (kc (k6 (i:=4) scFloor.nd rfl (Or.inl rfl) (pe_op nq kg (pe_fn Fnext hr (by decide) rfl (pa_c (pv 0) (pa_c (pe_op op_fdiv (pv 2) (pv 3)) kb)))))
  (kc (k6 (i:=5) scFloor.nd rfl (Or.inr rfl) (pe_ix nj (ny (pa_c nu (pa_c nu (pa_c nu (pa_c (pe_op op_add_str (pe_op op_add_str nu (pe_ix nj (pv 1) kg (λ_ _=>rfl))) (pe_bm0 PySem.F.plainAttrs_str PySem.F.slot_str_lower PySem.F.type_str_lower mt_lower (pe_ix nj (pv 1) (pe_un un_neg kg) (λ_ _=>rfl)))) kb))))) (pe_fn Fnext hr (by decide) rfl (pa_c (pv 0) (pa_c kg kb))) (λ_ _=>rfl)))
  (kc (k6 (i:=6) scFloor.nd rfl (Or.inl rfl) (ny kb))
  (kc (m7 b7 rfl (pi_r1 rfl (B "range" (by decide)) (pa_c (pe_cB (call_min2 rfl) rfl (B "min" (by decide)) boot_min (pa_c (pv 4) (pa_c kg kb))) kb)) (ke (i:=7) scFloor.nd rfl (Or.inl rfl)) (km (ps_expr (pe_bm ff gv gw om (pv 6) (pa_c (pe_bm PySem.F.plainAttrs_str PySem.F.slot_str_join PySem.F.type_str_join mt_join nu (pa_c (lj ["_law_column","_law_menu","_law_state"] [none,some 5,some 0] rfl rfl (by decide +kernel) (by decide +kernel) rfl rfl (pi_r1 rfl (B "range" (by decide)) (pa_c (pv 3) kb)) (λ_=>(ke (i:=0) (show(["_law_column","_law_menu","_law_state"]:List PySem.Str).Nodup by decide +kernel) rfl (Or.inl rfl))) (λ_=>me) (λ_=>(pe_ix ix_str (pv 1) (pe_fn Fnext hr (by decide) rfl (pa_c (pv 2) (pa_c kg kb))) (λ_ _=>rfl)))) kb)) kb)))))
  (km (k7 (pe_cT mw rfl (B "tuple" (by decide)) boot_tuple (pa_c (pv 6) kb))))))))),?_⟩
 refine⟨_,rfl,st,n,4,rfl,hst,by decide,λn1 i1 h10 h11=>⟨_,_,rfl,rfl,?_⟩⟩
 generalize g1:upd H st _=H1 at *
 obtain⟨ex1,st1⟩:=dr g1
 clear g1
 obtain⟨wi,rfl⟩:=db h10
 have hdiv:0<(12:Int)/(1+wi):=by
  have:wi=0\/wi=1\/wi=2\/wi=3:=by omega
  rcases this with rfl|rfl|rfl|rfl<;>decide
 refine⟨_,rfl,_,rfl,_,rfl,_,_,rfl,rfl,⟨by show(0:Int)<1+wi;omega,by show(1+wi:Int)<1073741824;omega⟩,st,n1,_,rfl,st1,hdiv,λn2 i2 h20 h21=>⟨_,_,rfl,rfl,?_⟩⟩
 generalize g1:upd H1 st _=H2 at *
 obtain⟨ex2,st2⟩:=dr g1
 clear g1
 have ex12:=ex1.trans ex2
 have sg2:=ex12.at nsg hsg
 have l2:(bq "..").length=2:=by decide +kernel
 have z1:(bq "..").length+(⟨#[a]⟩:Str).length<=sizeLine:=by
  rw[l2]
  show 2+1<=sizeLine
  decide
 have z2:(bq ".." ++ (⟨#[a]⟩:Str)).length+(⟨#[lo1 c]⟩:Str).length<=sizeLine:=by
  rw[show(bq ".." ++ (⟨#[a]⟩:Str)).length=3 by rw[Str.length_append,l2];rfl]
  show 3+1<=sizeLine
  decide
 refine⟨_,rfl,sg,_,_,_,rfl,rfl,SqL.of sg2,ku (j:=0) rfl,_,_,rfl,rfl,z1,?_⟩
 refine⟨_,rfl,_,rfl,sg,_,_,chV c,rfl,rfl,SqL.of sg2,rfl,rfl,c,rfl,rfl,by have:=hc.2;omega,_,_,rfl,rfl,z2,(by show 4<=sizeLine;decide),λmn hmn=>?_⟩
 generalize g1:upd H2 mn _=H3 at *
 obtain⟨s3,e3⟩:=al hmn g1
 clear g1
 have st3:=s3 _ _ st2
 have nmn:mn≠st:=λe=>by rw[e,st2]at hmn;cases hmn
 refine⟨_,rfl,st,n2,4,rfl,st3,by decide,λn3 i3 h30 h31=>?_⟩
 generalize g1:upd H3 st _=H4 at *
 obtain⟨ex4,st4⟩:=dr g1
 clear g1
 obtain⟨j3,rfl⟩:=db h30
 obtain⟨mu,hmu,hmO⟩:∃mu:Str,[V.str "....",V.str "...,",V.str "..#,",V.str (bq ".." ++ (⟨#[a]⟩:Str)++(⟨#[lo1 c]⟩:Str))][j3]?=some (.str mu)/\Mnu mu:=by
  have hj:j3<4:=by omega
  match j3,hj with
  | 0,_=>exact⟨_,rfl,by decide +kernel,by decide +kernel,by decide +kernel⟩
  | 1,_=>exact⟨_,rfl,by decide +kernel,by decide +kernel,by decide +kernel⟩
  | 2,_=>exact⟨_,rfl,by decide +kernel,by decide +kernel,by decide +kernel⟩
  | 3,_=>
   refine⟨_,rfl,rfl,?_,λd hd=>?_⟩
   .show 4<=sizeLine
    decide
   .have hd':d∈[46,46,a,lo1 c]:=hd
    simp only[ax,iu,or_false]at hd'
    rcases hd' with rfl|rfl|rfl|rfl
    .decide +kernel
    .decide +kernel
    .exact(lo_sg ha.1 ha.2).1
    .exact(lo_sg hc.1 hc.2).2
 refine⟨mn,_,_,.str mu,rfl,rfl,SqL.of (ex4.at nmn e3),ku hmu,?_⟩
 have exA:Ex [st] H H4:=(ex12.trans (Ex.of_same s3)).trans ex4
 clear hmu e3 z1 z2
 refine⟨(by show 0<=sizeLine;decide),λr hr0=>?_⟩
 have nr:r≠st:=λe=>by rw[e,st4]at hr0;cases hr0
 have hrH:H r=none:=ex_none exA nr hr0
 have st5:upd H4 r (.lst []) st=some (.lst [.int n3]):=by rw[kv (Ne.symm nr)];exact st4
 have r5:upd H4 r (.lst []) r=some (.lst []):=kh
 have ex5:Ex [st] H (upd H4 r (.lst [])):=exA.trans (Ex.fresh hr0)
 generalize upd H4 r (.lst [])=H5 at *
 obtain⟨hi,rfl⟩:∃hi:Nat,i2=hi:=db h20
 obtain⟨hn,ehn,hn1,hn8⟩:∃hn:Nat,(if (8:Int)<1+(hi:Int)then(8:Int)else 1+(hi:Int))=((hn:Nat):Int)/\0<hn/\hn<=8:=by
  by_cases h:(8:Int)<1+hi
  .exact⟨8,by rw[if_pos h];rfl,by omega,by omega⟩
  .exact⟨1+hi,by rw[if_neg h];omega,by omega,by omega⟩
 refine⟨_,rfl,_,_,rfl,?_⟩
 refine⟨(hn:Nat),congrArg (λz=>[V.int z]) ehn,by omega,by omega,?_⟩
 rw[b0]
 refine oj (lo:=0) (λi σ' H'=>∃(y6:Option V) (n:Int) (zs:List Str),σ'=[some (.ref st),some (.ref sg),some (.int 12),some (.int (1+wi)),some (.int (1+hi)),some (.str mu),some (.ref r),y6]/\Ex [st,r] H H'/\H' st=some (.lst [.int n])/\H' r=some (.lst (zs.map V.str))/\zs.length=i/\∀z∈zs,(Tx z/\∀c∈z.cps.toList,sgB c=true)/\z.length=1+wi) ?_ (λi σ' H' hi' h=>?_) (λσ' H' h=>?_)
 .exact⟨_,n3,[],rfl,λb o hb h0=>ex5 b o (λz=>hb (by simp[ba.mp z])) h0,st5,r5,rfl,λz hz=>by cases hz⟩
 .obtain⟨y6,n4,zs,rfl,ex4,st4,r4,hl4,hz4⟩:=h
  refine⟨_,rfl,.inl ⟨rfl,_,SqL.of r4⟩,rfl,?_⟩
  refine⟨_,rfl,_,rfl,?_,?_,?_⟩
  .omega
  .omega
  intro D hD
  have nD:D≠st:=λe=>by rw[e,st4]at hD;cases hD
  have nDr:D≠r:=λe=>by rw[e,r4]at hD;cases hD
  refine comp_range (lo:=0) (λj ys J=>∃(n5:Int) (ws:List Nat),Ex [st,D] H' J/\J st=some (.lst [.int n5])/\ys=ws.map chV/\ws.length=j/\∀c∈ws,sgB c=true) ?_ (λj ys J hj hDy hyl p=>?_) (λys J hDy hyl p=>?_)
  .exact⟨n4,[],Ex.fresh hD,by rw[kv (Ne.symm nD)];exact st4,rfl,rfl,λw hw=>by cases hw⟩
  .obtain⟨n5,ws,fx5,st6,rfl,hl5,hw5⟩:=p
   refine⟨Agree.set (Agree.refl _) rfl,?_⟩
   dsimp only[tYes]
   refine iteT ?_
   refine⟨_,rfl,_,rfl,st,n5,4,rfl,st6,by decide,λn6 i6 h60 h61=>?_⟩
   obtain⟨j6,rfl⟩:=db h60
   have hj6:j6<mu.cps.toList.length:=by rw[hmO.1];omega
   have hsb:=hmO.2.2 _ (df hj6)
   refine⟨mu,_,mu.cps.toList[j6],rfl,rfl,hmO.2.1,ku (ab hj6),?_⟩
   refine nk (by omega) (by rw[kv nD];exact hDy) hyl ⟨n6,ws++[mu.cps.toList[j6]],(fx5.trans (Ex.upd (by simp))).trans (Ex.upd (by simp)),?_,by rw[cm];rfl,by simp[hl5],λw hw=>?_⟩
   .rw[kv (Ne.symm nD)];exact kh
   .rcases bm.mp hw with h|h
    .exact hw5 w h
    .rw[ba.mp h]
     exact hsb
  .obtain⟨n5,ws,fx5,st6,rfl,hl5,hw5⟩:=p
   have e0:(bq "").length=0:=by decide +kernel
   have em:ws.map chV=(ws.map λc=>(⟨#[c]⟩:Str)).map V.str:=by rw[bp];rfl
   have hsum:=PySem.StrLaws.sumLen_le (B:=1) (ws.map λc=>(⟨#[c]⟩:Str)) λy hy=>by
    obtain⟨c,_,rfl⟩:=bi.mp hy
    exact ao 1
   rw[aj]at hsum
   have lw:ws.length=1+wi:=by rw[hl5];omega
   refine⟨_,D,ws.map λc=>(⟨#[c]⟩:Str),rfl,rfl,by rw[<-em];exact hDy,by rw[e0];omega,?_⟩
   rw[join_line]
   have r6:J r=some (.lst (zs.map V.str)):=fx5 _ _ (by simp[nr,Ne.symm nDr]) r4
   refine⟨r,zs.map V.str,_,rfl,rfl,r6,l8 (by rw[aj];omega),?_⟩
   refine⟨_,n5,zs++[⟨ws.toArray⟩],rfl,?_,?_,?_,by simp[hl4],λz hz=>?_⟩
   .intro b o hb h0
    have h1:=ex4 b o hb h0
    have nb:b≠D:=λe=>by rw[e,hD]at h1;cases h1
    have hb':b≠st/\b≠r:=by simpa using hb
    have h2:=fx5 b o (by simp[hb'.1,nb]) h1
    rw[kv hb'.2]
    exact h2
   .rw[kv (Ne.symm nr)];exact st6
   .rw[cm];exact kh
   .rcases bm.mp hz with h|h
    .exact hz4 z h
    .rw[ba.mp h]
     refine⟨⟨⟨by show ws.toArray.size<=80;rw[az];omega,λc hc=>?_⟩,λc hc=>?_⟩,by show ws.toArray.size=_;rw[az];exact lw⟩
     .exact sg128 (hw5 c (by simpa using hc))
     .exact hw5 c (by simpa using hc)
 .obtain⟨y6,n4,zs,rfl,ex4,st4,r4,hl4,hz4⟩:=h
  refine⟨_,rfl,r,zs.map V.str,rfl,.inl ⟨SqL.of r4,λp hp=>?_⟩⟩
  have np:p≠st:=λe=>by rw[e,st4]at hp;cases hp
  have npr:p≠r:=λe=>by rw[e,r4]at hp;cases hp
  obtain⟨M,eM,oM⟩:=mat_of (zs:=zs) ⟨by omega,by omega,1+wi,by omega,by omega,hz4⟩
  refine q p _ n4 M ?_ ?_ ?_ ⟨by rw[<-eM];exact kh,oM⟩
  .cases z:H p with
   | none=>rfl
   | some o=>have z':=ex4 p o (by simp[np,npr]) z;rw[z']at hp;cases hp
  .intro b o hb h0
   have nb:b≠r:=λe=>by rw[e,hrH]at h0;cases h0
   have nbs:b≠st:=by simpa using hb
   have h1:=ex4 b o (by simp[nb,nbs]) h0
   rw[kv (lh h1 hp)]
   exact h1
  .rw[kv (Ne.symm np)];exact st4
end
end K41
namespace L3
open PySem PySem.Spec PyProof.Rows L2
section
variable{Pv:Value->PyData->Prop}{prog:Program}{w:World}{A:Around}{E:Value->Shared->Prop}{s:Shared}
theorem call_setT{l:Addr}{items:Array Value}{ds:List PyData}{Q:Value->Shared->Prop}
  (hh:A.handled=none) (hl:s.heap.IsTuple l items) (hi:items.size=ds.length) (hE:∀(i:Nat) v d,items[i]?=some v->ds[i]?=some d->El Pv w s.heap (hashD w d,v) d) (hb:ds.length<2000) (hu:A.units+20<cLine)
  (h:∀(h':Heap) (tk:Nat) (ds':List PyData),SetD Pv w h' s.heap.objs.size ds'->(∀d,d∈ds'↔d∈ds)->ds'.length<=ds.length->Keep s.heap h'->s.toks<=tk->Q (.ref s.heap.objs.size) {s with heap:=h',toks:=tk}) :
  wpAny (model prog w) A (call (.type "set") [.ref l]) Q E s:=by
 obtain⟨c,tl,hmro⟩:=cv.mro
 have hmade:=cv.made
 have hsub:=cv.sub
 refine wpAny_call (codeAny_of_tree (show _ from ?_))
 show wpAny _ _ (callAny (.type "set") _) _ _ s
 refine af ⟨Code.quiet_builtin _ (by decide +kernel),gf F.entry_type_call (show _ from ?_)⟩
 rw[Around.under_plain (weight_type_call_type "set" [.ref l] []) (rfl:_=_)]
 have h1:=cv.notType
 have h2:=cv.canCreate
 have hct:=PySem.F.typeCall_set_1 (.ref l)
 repeat (any_goals (first|assumption|(wp_step)))
 refine codeAny_mono (code_set_newD (.ref l) (E:=E) (Q₁:=λobj s₁=>∃led:Bool,led=(!byT w)/\obj=.ref s.heap.objs.size/\s₁={s with heap:=s.heap.push {cls:=.type "set",dict:=none,data:=.set #[] 0 (.fresh 0 0 led)}}) ⟨_,rfl,rfl,rfl⟩) λr s₁ hr=>?_
 match r,hr with
 | .error e,hr=>exact hr
 | .ok (.ret obj),hr=>
   obtain⟨led,hled,rfl,rfl⟩:=hr
   obtain⟨emp,hemp⟩:∃ob:Obj,ob={cls:=.type "set",dict:=none,data:=.set #[] 0 (.fresh 0 0 led)}:=⟨_,rfl⟩
   have hS:(s.heap.push emp).get? s.heap.objs.size=some emp:=ay _ (by rw[hemp];rfl)
   have hT:Shared.TypeIs {s with heap:=s.heap.push emp} (.ref s.heap.objs.size) "set":=⟨_,hS,by rw[hemp]⟩
   have hSD:SetD Pv w (s.heap.push emp) s.heap.objs.size []:=by rw[hemp];exact SetD.fresh hled
   rw[<-hemp]
   have hli:=cv.init.lookup
   have hbi:=cv.init.bind (.ref s.heap.objs.size)
   repeat (any_goals (first|assumption|(wp_step)))
   refine codeAny_mono (codeAny_call_builtin (R:=wants (λr s₂=>r=.none/\∃h' tk ds',s₂={s with heap:=h',toks:=tk}/\SetD Pv w h' s.heap.objs.size ds'/\(∀d,d∈ds'↔d∈ds)/\ds'.length<=ds.length/\Keep s.heap h'/\s.toks<=tk) E) cv.init.plain F.entry_set_init (check_set_init_1 hT ?_)) λr₂ s₂ hr₂=>?_
   .obtain⟨ol,hol,hcl,nl,hdl⟩:=hl
    obtain⟨ocls,odict,odata,oslots⟩:=ol
    simp only at hcl hdl
    subst hcl;subst hdl
    have hol':(s.heap.push emp).get? l=some {cls:=.type "tuple",dict:=odict,data:=.seq items nl,slots:=oslots}:=ai _ hol
    have hsls:=PySem.F.sub_tuple_set
    have hslf:=PySem.F.sub_tuple_frozenset
    have hne:(Value.type "tuple" == Value.type "dict")=false:=by decide
    have hl1:(s.heap.push emp).IsTuple l items:=⟨_,hol',rfl,nl,rfl⟩
    unfold Builtin.«set.__init__» noKeywords Builtin.Frozenset.updateFrom
    generalize hPI:pyIter=PI
    subst hemp
    wp_walk
    subst hPI
    refine ja hl1 ?_
    refine aa (wpAny_runValue ?_)
    have none_at:∀b,s.heap.objs.size<=b->s.heap.get? b=none:=λb hb'=>by
     cases hq:s.heap.get? b with
     | none=>rfl
     | some ob=>exact absurd (a9 hq) (Nat.not_lt.mpr hb')
    have hlS:l<s.heap.objs.size:=a9 hol
    have hh3:A.in1.in1.in1.handled=none:=by simp[hh]
    have hIs:(s.heap.push {cls:=.type "set",dict:=none,data:=.set #[] 0 (.fresh 0 0 led)}).objs.size=s.heap.objs.size+1:=ju _ _
    have hneI:l≠(s.heap.push {cls:=.type "set",dict:=none,data:=.set #[] 0 (.fresh 0 0 led)}).objs.size:=by rw[hIs];exact cc (ji hlS)
    have hSf:s.heap.objs.size∉[(s.heap.push {cls:=.type "set",dict:=none,data:=.set #[] 0 (.fresh 0 0 led)}).objs.size,l]:=by
     rw[hIs];simp only[ax,iu,or_false,not_or]
     exact⟨cc (Nat.lt_succ_self _),Nat.ne_of_gt hlS⟩
    have hval:∀(i:Nat) (v:Value),items[i]?=some v->El Pv w s.heap (hashD w (ds.getD i .none),v) (ds.getD i .none):=λi v hv=>by
     have hlt:=(bh.mp hv).1
     have hd:ds[i]?=some (ds.getD i .none):=by
      rw[cb,ab (by omega)];rfl
     exact hE i v _ hv hd
    refine update_loopD (A:=A.in1.in1) ((Walks.tuple hh3 _ l hneI items).toS) s.heap.objs.size hSf s.heap (λb hb'=>none_at b (by rw[ba.mp hb',hIs];exact Nat.le_succ _)) (none_at _ (ao _)) (λi s' hst b hb' ob e=>?hwt)
     (λi=>ds.getD i .none) hval (by show A.units+1+1+9<cLine;omega) (by omega) (items.size-0) 0 _ [] (by omega) (en _)
     ⟨⟨_,ay _ rfl,rfl,rfl⟩,(hl1.push _)⟩ ?hK0 ?hS0 (λd=>by simp) (by simp) ?hR
    case hwt=>
     obtain⟨⟨oi,ho,hc,_⟩,_⟩:=hst
     rw[ba.mp hb',ho]at e
     cases e
     rw[hc]
     decide
    case hK0=>exact λb o e=>ai _ (ai _ e)
    case hS0=>exact hSD.moved (λo e=>ai _ e) λb o e _=>ai _ e
    case hR=>
     intro s' ds' hm k' S' m' l'
     obtain⟨h',g',d',tk',os'⟩:=s'
     have eg:g'=s.gens:=hm.gens
     have ed:d'=s.drawn:=hm.drawn
     have eo:os'=s.os:=hm.os
     subst eg;subst ed;subst eo
     show wpAny _ _ _ _ _ _
     refine af ?_
     show wpAny _ _ (ret Value.none) _ _ _
     refine af ⟨rfl,h',tk',ds',rfl,S',λd=>?_,by omega,k',hm.toks⟩
     rw[m' d]
     constructor
     .rintro⟨j,hj,rfl⟩
      rw[cb,ab (by omega)]
      exact df _
     .intro hd
      obtain⟨j,hj⟩:=h9 hd
      have hjl:=(ak.mp hj).1
      exact⟨j,by omega,by rw[cb,hj];rfl⟩
   .match r₂,hr₂ with
    | .error e,hr₂=>exact hr₂
    | .ok (.ret r),hr₂=>
      obtain⟨rfl,h',tk,ds',rfl,hS',hm',hl',hk',ht'⟩:=hr₂
      repeat (any_goals (first|assumption|(wp_step)))
      exact h _ _ ds' hS' hm' hl' hk' ht'
    | .ok .next,hr₂=>exact hr₂.elim
    | .ok .brk,hr₂=>exact hr₂.elim
    | .ok .cont,hr₂=>exact hr₂.elim
 | .ok .next,hr=>exact hr.elim
 | .ok .brk,hr=>exact hr.elim
 | .ok .cont,hr=>exact hr.elim
end
noncomputable def rSortSetG(prog:Program)(w:World)(A:Around)(κ:SortKind)(lt:PyData->PyData->Bool):List V->Hp->VK->Prop:=λvs H Q=>∃(p:Addr) (xs:List V) (ds:List PyData),vs=[.ref p]/\(H p=some (.lst xs)\/H p=some (.tup xs))/\RepAll H ds xs/\(∀d∈ds,KeyD d)/\SortsAs prog w A κ lt ds/\ds.length<2000/\
 ∀(es:List PyData) (l:Addr) (ys:List V),es.Nodup->(∀d,d∈es↔d∈ds)->es.Pairwise (λx y=>lt y x=false)->H l=none->RepAll (upd H l (.lst ys)) es ys->Q (.ref l) (upd H l (.lst ys))
theorem SortsAs.sub{prog:Program}{w:World}{A:Around}{κ:SortKind}{lt:PyData->PyData->Bool}{ds es:List PyData}(h:SortsAs prog w A κ lt ds)(hs:∀d∈es,d∈ds):SortsAs prog w A κ lt es:=
 ⟨⟨λx hx y hy=>h.ord.asy x (hs x hx) y (hs y hy),λx hx y hy z hz=>h.ord.tr x (hs x hx) y (hs y hy) z (hs z hz)⟩,λs os dos hd=>h.kind s os dos λd q=>hs d (hd d q),λs u v d e as bs hd he=>h.key s u v d e as bs (hs d hd) (hs e he)⟩
section
variable{X:Cx}{p p2 pos pos2:Pos}{e:Expr}{t:TA}
theorem pe_sortsetG(κ:SortKind)(lt:PyData->PyData->Bool)(hc:X.calm=true)(hu:X.A.units+64<cLine)(hg:Gl X "sorted")(hm:X.mg "sorted" = none)(hg2:Gl X "set")(hm2:X.mg "set" = none)(ha:PA X [e] t)(h1:oa e=true:=by rfl) :
  PE X (.Call (.Name "sorted" p) [.Call (.Name "set" p2) [e] [] pos2] [] pos) (tCB (rSortSetG X.prog X.w X.A.in1.in1 κ lt) t):=by
 intro pins s σ H Q I h
 refine ip (ld_blt I hg hm boot_sorted ?_ (by decide) (by decide))
 refine PyProof.Rows.callWith_builtin1 ?_ (l9 rfl) rfl
 rw[l9 rfl]
 show wpAny _ _ (spliced ((false,eval (.Call (.Name "set" p2) [e] [] pos2) X.env)::backTo pos (starEach [] X.env))) _ _ s
 refine Calls.spliced_cons ?_
 refine ip (ld_blt I hg2 hm2 boot_set ?_ (by decide) (by decide))
 refine g8 (thn (ha pos2 pins s σ H _ I h) λus s1 ⟨vs,H1,I1,r1,q1⟩=>?_) (l9 h1) rfl
 obtain⟨pl,xs,ds,rfl,hp,hds,hkey,sa,hb,q⟩:=q1
 obtain⟨u,rfl,ru⟩:=vals1 r1
 cases (show u=Value.ref pl from ru)
 have hlay:=hds.lay
 have hl1:xs.length=ds.length:=hds.length
 have fin:∀(its:List Value),Vals xs its->∀(h':Heap) (tk:Nat) (ds':List PyData),SetD (λv d=>∃i:Nat,its[i]?=some v/\ds[i]?=some d) X.w h' s1.heap.objs.size ds'->(∀d,d∈ds'↔d∈ds)->ds'.length<=ds.length->Keep s1.heap h'->
   wpAny (model X.prog X.w) X.A (spliced (backTo pos (starEach [] X.env))) (λvs s'=>wpAny (model X.prog X.w) X.A (call (.builtin "sorted") (.ref s1.heap.objs.size::vs)) (EP X pins σ Q) X.xe s') X.xe {s1 with heap:=h',toks:=tk}:=by
  intro its rv h' tk ds' hS hmem hlen hk
  refine Calls.spliced_nil ?_
  have I2:Inv X pins σ H1 {s1 with heap:=h',toks:=tk}:=I1.kept hk
  obtain⟨_,_,_,_,_,_,_,_,_,_,nd,_⟩:=id hS
  exact sorted_set_data I2 (λv d ⟨i,g1,g2⟩=>by
   obtain⟨x,x1,x2⟩:=hds.get g2
   obtain⟨u,u1,u2⟩:=rv.get x1
   have:u=v:=by rw[u1]at g1;cases g1;rfl
   subst this
   exact⟨x,u2,x2⟩) hc hS (by omega) (sa.sub λd hd=>(hmem d).mp hd) λes l ys pe up hn rep=>q es l ys (pe.nodup_iff.mpr nd) (λd=>pe.mem_iff.trans (hmem d)) up hn rep
 rcases hp with hp|hp
 .obtain⟨its,rv,il,hz⟩:=I1.list (SqL.of (K:=X.K) hp)
  obtain⟨as,rds⟩:=RepAll.reads I1 hds rv
  have hl2:xs.length=its.length:=rv.length
  refine call_setD (Pv:=λv d=>∃i:Nat,its[i]?=some v/\ds[i]?=some d) (ds:=ds) (I1.ok.hd hc) il.isList (by rw[az];omega) (λi v d hv hd=>?_) (by omega) (by omega) λh' tk ds' hS hmem hlen hk ht=>fin its rv h' tk ds' hS hmem hlen hk
  rw[j9]at hv
  obtain⟨bs,rd⟩:=pf rds hv hd
  have hm':=am hd
  exact⟨⟨i,hv,hd⟩,rfl,(hkey d hm').1,(hkey d hm').2.1,lay_mem hlay d hm',(hkey d hm').2.2,bs,rd⟩
 .obtain⟨its,rv,il,hz⟩:=I1.tuple (SqT.of (K:=X.K) hp)
  obtain⟨as,rds⟩:=RepAll.reads I1 hds rv
  have hl2:xs.length=its.length:=rv.length
  refine call_setT (Pv:=λv d=>∃i:Nat,its[i]?=some v/\ds[i]?=some d) (ds:=ds) (I1.ok.hd hc) (show s1.heap.IsTuple pl its.toArray from il) (by rw[az];omega) (λi v d hv hd=>?_) (by omega) (by omega) λh' tk ds' hS hmem hlen hk ht=>fin its rv h' tk ds' hS hmem hlen hk
  rw[j9]at hv
  obtain⟨bs,rd⟩:=pf rds hv hd
  have hm':=am hd
  exact⟨⟨i,hv,hd⟩,rfl,(hkey d hm').1,(hkey d hm').2.1,lay_mem hlay d hm',(hkey d hm').2.2,bs,rd⟩
end
end L3
namespace K41
open PySem PyProof.Rows L2 L3
theorem abc{j:Nat}(h:j<26):(bq "ABCDEFGHIJKLMNOPQRSTUVWXYZ").cps.toList[j]?=some (65+j):=by
 have:∀j<26,(bq "ABCDEFGHIJKLMNOPQRSTUVWXYZ").cps.toList[j]?=some (65+j):=by decide +kernel
 exact this j h
theorem abcdef{j:Nat}(h:j<6):∃c,(bq "abcdef").cps.toList[j]?=some c:=⟨_,ab (by rw[show(bq "abcdef").cps.toList.length=6 by decide +kernel];exact h)⟩
noncomputable def KindM(H:Hp)(v:V)(k:List PyData×Nat)(m:Option Int):Prop:=∃b nm u1 md fr xs,v=.ref b/\H b=some (.tup [.str nm,u1,mostV m,.str md,.ref fr])/\H fr=some (.tup xs)/\RepAll H k.1 xs/\Zr k.1/\ModeN md k.2
theorem KindM.tk{H H':Hp}{v:V}{k:List PyData×Nat}{m:Option Int}(h:KindM H v k m)(t:Tk H H'):KindM H' v k m:=by
 obtain⟨b,nm,u1,md,fr,xs,rfl,h1,h2,h3,h4,h5⟩:=h
 exact⟨b,nm,u1,md,fr,xs,rfl,t _ _ h1,t _ _ h2,h3.tk t (Spots.imm h4.pre.spots),h4,h5⟩
noncomputable def KindsM(H:Hp)(kvs:List V)(ks:List (List PyData×Nat))(ms:List (Option Int)):Prop:=kvs.length=ks.length/\kvs.length=ms.length/\∀(i:Nat) v k m,kvs[i]?=some v->ks[i]?=some k->ms[i]?=some m->KindM H v k m
theorem KindsM.tk{H H':Hp}{kvs:List V}{ks:List (List PyData×Nat)}{ms:List (Option Int)}(h:KindsM H kvs ks ms)(t:Tk H H'):KindsM H' kvs ks ms:=⟨h.1,h.2.1,λi v k m h1 h2 h3=>(h.2.2 i v k m h1 h2 h3).tk t⟩
theorem snoc_at{α:Type}{xs:List α}{x y:α}{i:Nat}(h:(xs++[x])[i]?=some y):xs[i]?=some y\/(i=xs.length/\x=y):=by
 by_cases hi:i<xs.length
 .rw[gd hi]at h
  exact .inl h
 .have hl:=(ak.mp h).1
  rw[bo,fw]at hl
  have e:i=xs.length:=by omega
  subst e
  rw[c9 (ao _),Nat.sub_self]at h
  exact .inr ⟨rfl,cy h⟩
theorem KindsM.snoc{H:Hp}{kvs:List V}{ks:List (List PyData×Nat)}{ms:List (Option Int)}{v:V}{k:List PyData×Nat}{m:Option Int}(h:KindsM H kvs ks ms)(h':KindM H v k m):KindsM H (kvs++[v]) (ks++[k]) (ms++[m]):=by
 obtain⟨l1,l2,hs⟩:=h
 refine⟨by simp[l1],by simp[l2],λi v' k' m' h1 h2 h3=>?_⟩
 rcases snoc_at h1 with a1|⟨e1,rfl⟩
 .have hi:=(ak.mp a1).1
  rcases snoc_at h2 with a2|⟨e2,_⟩
  .rcases snoc_at h3 with a3|⟨e3,_⟩
   .exact hs i _ _ _ a1 a2 a3
   .omega
  .omega
 .rcases snoc_at h2 with a2|⟨_,rfl⟩
  .have:=(ak.mp a2).1
   omega
  .rcases snoc_at h3 with a3|⟨_,rfl⟩
   .have:=(ak.mp a3).1
    omega
   .exact h'
theorem KindsM.kinds{H:Hp}{kvs:List V}{ks:List (List PyData×Nat)}{ms:List (Option Int)}(h:KindsM H kvs ks ms)(h6:ms.length<=6):KindsK H kvs ks/\MostK H kvs ms:=by
 obtain⟨l1,l2,hs⟩:=h
 refine⟨⟨l1,λi v k h1 h2=>?_⟩,l2,h6,λi v m h1 h3=>?_⟩
 .have hi:=(ak.mp h1).1
  obtain⟨b,nm,u1,md,fr,xs,rfl,g1,g2,g3,g4,g5⟩:=hs i v k _ h1 h2 (ab (by omega))
  exact⟨b,nm,u1,_,md,fr,xs,rfl,g1,g2,g3,g4,g5⟩
 .have hi:=(ak.mp h1).1
  obtain⟨b,nm,u1,md,fr,xs,rfl,g1,g2,g3,g4,g5⟩:=hs i v _ m h1 (ab (by omega)) h3
  exact⟨b,_,_,_,_,rfl,g1⟩
noncomputable def PrD(d:PyData):Prop:=∃p:Nat×Nat,d=prD p/\p.1<=p.2/\p.2<128
theorem pr_rows{ds:List PyData}(h:∀d∈ds,PrD d):RowsS [false] ds:=λd hd=>by
 obtain⟨⟨x,y⟩,rfl,_⟩:=h d hd
 exact⟨_,rfl,_,_,rfl,_,_,rfl,rfl⟩
theorem pr_key{d:PyData}(h:PrD d):KeyD d:=by
 obtain⟨⟨x,y⟩,rfl,_⟩:=h
 exact⟨rfl,⟨_,rfl⟩,by simp[prD,gu,bv]⟩
theorem pr_list{ds:List PyData}(h:∀d∈ds,PrD d):∃ap:List (Nat×Nat),ds=ap.map prD/\∀p∈ap,p.1<=p.2/\p.2<128:=by
 induction ds with
 | nil=>exact⟨[],rfl,λp hp=>by cases hp⟩
 | cons d ds ih=>
  obtain⟨ap,rfl,hap⟩:=ih λx hx=>h x (av _ hx)
  obtain⟨p,rfl,hp⟩:=h d au
  exact⟨p::ap,rfl,λq hq=>by
   rcases ax.mp hq with rfl|hq
   .exact hp
   .exact hap q hq⟩
theorem nodup_len{es ds:List PyData}(nd:es.Nodup)(mem:∀d,d∈es↔d∈ds):es.length<=ds.length:=by
 induction es generalizing ds with
 | nil=>exact en _
 | cons e es ih=>
  obtain⟨h1,h2⟩:=jy.mp nd
  have hm:e∈ds:=(mem e).mp au
  have:=ih (ds:=ds.filter λd=>decide (d≠e)) h2 λd=>by
   rw[dv,<-mem d,ax]
   constructor
   .intro h
    exact⟨.inr h,decide_eq_true λz=>h1 (z▸h)⟩
   .rintro⟨h|h,h3⟩
    .exact absurd h (of_decide_eq_true h3)
    .exact h
  have hlt:(ds.filter λd=>decide (d≠e)).length<ds.length:=by
   refine List.length_filter_lt_length_iff_exists.mpr ⟨e,hm,?_⟩
   simp
  rw[bu]
  omega
seal L2.PE L2.PT L2.PW L2.PA L2.PS L2.PSs L2.PG L2.PGs L2.PI L2.PO
set_option pp.maxSteps 3000
section
variable{P:Program}{w:World}{K:aq}{mg:Str->Option Value}{base:Heap}{f:Addr}{fd:FuncData}
noncomputable def spLpz:Sp:=λvs H Q _=>∃(st:Addr) (n:Int),vs=[.ref st,.int 12]/\H st=some (.lst [.int n])/\
 ∀(p:Addr) (H':Hp) (n':Int) (M:Mat) (ks:List (List PyData×Nat)) (ms:List (Option Int)) (ap:List (Nat×Nat)),Ex [st] H H'->H' st=some (.lst [.int n'])->PzA H' p M ks ms ap->ks.length=ms.length->(∀p∈ap,p.1<=p.2)->Q (.ref p) H'
theorem scLpz:ky ["_law_state","_law_most","_law_one","_law_signs","_law_kinds","_law_k","_law_least","_law_far","_law_mode","_law_apart","_law_pair"] ["_law_state","_law_most"] (kq sLpz):=⟨rfl,rfl,rfl,by decide +kernel,rfl,by decide +kernel,by decide +kernel⟩
theorem ok_lpz(B:∀x∈blts,mg x=none)(Fnext:FnNext P w K mg base)(Fform:Fn P w K mg base "_law_form" 2 ["_law_state","_law_most","_law_signs"] spForm)(Ffloor:Fn P w K mg base "_law_floor" 2 ["_law_state","_law_signs","_law_most"] spFloor)(F:Fun K "_law_puzzle" "_law_puzzle" sLpz f fd):FnOk P w K mg base CX0 3 f fd ["_law_state","_law_most"] spLpz:=by
 refine F.ok (k:=2) scLpz (λvs H Q E h=>?_) (λcdv A outer s H vs Q E hr h=>?_)
 .obtain⟨_,_,rfl,_⟩:=h
  rfl
 obtain⟨st,n,rfl,hst,q⟩:=h
 have hu:=hr.units
 have l26:(bq "ABCDEFGHIJKLMNOPQRSTUVWXYZ").length<=sizeLine:=by decide +kernel
 have l6:(bq "abcdef").length<=sizeLine:=by decide +kernel
 refine⟨_,(kc (k6 (i:=2) scLpz.nd rfl (Or.inl rfl) (pe_ix ix_str nu (pe_fn Fnext hr (by decide) rfl (pa_c (pv 0) (pa_c kg kb))) (λ_ _=>rfl)))
  (kc (k6 (i:=3) scLpz.nd rfl (Or.inl rfl) (ny (pa_c (pv 2) (pa_c (pv 2) (pa_c (pe_ix ix_str nu (pe_fn Fnext hr (by decide) rfl (pa_c (pv 0) (pa_c kg kb))) (λ_ _=>rfl)) kb)))))
  (kc (k6 (i:=4) scLpz.nd rfl (Or.inl rfl) (ny kb))
  (kc (m7 b7 rfl (pi_r1 rfl (B "range" (by decide)) (pa_c (pe_op nq kg (pe_fn Fnext hr (by decide) rfl (pa_c (pv 0) (pa_c kg kb)))) kb)) (ke (i:=5) scLpz.nd rfl (Or.inl rfl)) (kc (k6 (i:=6) scLpz.nd rfl (Or.inl rfl) (pe_ix nj (ny (pa_c kg (pa_c kg (pa_c kg (pa_c kg (pa_c kg kb)))))) (pe_fn Fnext hr (by decide) rfl (pa_c (pv 0) (pa_c kg kb))) (λ_ _=>rfl)))
  (kc (k6 (i:=7) scLpz.nd rfl (Or.inl rfl) (pe_ix nj (ny (pa_c pe_non (pa_c (pv 6) (pa_c (pv 6) (pa_c (pe_op nq (pe_op nq (pv 6) kg) (pe_fn Fnext hr (by decide) rfl (pa_c (pv 0) (pa_c kg kb)))) kb))))) (pe_fn Fnext hr (by decide) rfl (pa_c (pv 0) (pa_c kg kb))) (λ_ _=>rfl)))
  (kc (k6 (i:=8) scLpz.nd rfl (Or.inl rfl) (pe_ix nj (ny (pa_c nu (pa_c nu (pa_c nu kb)))) (pe_fn Fnext hr (by decide) rfl (pa_c (pv 0) (pa_c kg kb))) (λ_ _=>rfl)))
  (km (ps_expr (pe_bm ff gv gw om (pv 4) (pa_c (lc (pa_c (pe_op op_add_str (pe_ix ix_str nu (pv 5) (λ_ _=>rfl)) (pe_op op_mulS nu (pe_fn Fnext hr (by decide) rfl (pa_c (pv 0) (pa_c kg kb))))) (pa_c (pv 6) (pa_c (pv 7) (pa_c (pv 8) (pa_c (pe_fn Fform hr (by decide) rfl (pa_c (pv 0) (pa_c kg (pa_c (pv 3) kb)))) kb)))))) kb))))))))
  (kc (k6 (i:=9) scLpz.nd rfl (Or.inl rfl) (ny kb))
  (kc (m7 b7 rfl (lm (ny (pa_c (lc (pa_c (pe_cB (call_min2X rfl) rfl (B "min" (by decide)) boot_min (pa_c (pv 2) (pa_c (pe_ix nj (pv 3) kg (λ_ _=>rfl)) kb))) (pa_c (pe_cB (call_max2X rfl) rfl (B "max" (by decide)) boot_max (pa_c (pv 2) (pa_c (pe_ix nj (pv 3) kg (λ_ _=>rfl)) kb))) kb))) (pa_c (lc (pa_c (pv 2) (pa_c (pv 2) kb))) kb)))) (ke (i:=10) scLpz.nd rfl (Or.inl rfl)) (km (ps_if (l7 op_eq (pe_fn Fnext hr (by decide) rfl (pa_c (pv 0) (pa_c kg kb))) kg (m9 _)) (km (ps_expr (pe_bm ff gv gw om (pv 9) (pa_c (pv 10) kb)))) ni)))
  (km (k7 (lc (pa_c (pe_fn Ffloor hr (by decide) rfl (pa_c (pv 0) (pa_c (pv 3) (pa_c (pv 1) kb)))) (pa_c (pe_cT mw rfl (B "tuple" (by decide)) boot_tuple (pa_c (pv 4) kb)) (pa_c (pe_cT mw rfl (B "tuple" (by decide)) boot_tuple (pa_c (pe_sortsetG (tuples' true) ltR rfl hu rfl (B "sorted" (by decide)) rfl (B "set" (by decide)) (pa_c (pv 9) kb)) kb)) kb)))))))))))),?_⟩
 refine⟨_,rfl,st,n,26,rfl,hst,by decide,λn1 i1 h10 h11=>?_⟩
 generalize g1:upd H st _=H1 at *
 obtain⟨ex1,st1⟩:=dr g1
 clear g1
 obtain⟨j1,rfl⟩:=db h10
 have hone:Ltr (65+j1):=⟨by omega,by omega⟩
 refine⟨_,_,_,rfl,rfl,l26,ku (abc (by omega)),?_⟩
 generalize 65+j1=one at *
 refine⟨_,rfl,_,rfl,_,rfl,st,n1,26,rfl,st1,by decide,λn2 i2 h20 h21=>?_⟩
 generalize g1:upd H1 st _=H2 at *
 obtain⟨ex2,st2⟩:=dr g1
 clear g1
 obtain⟨j2,rfl⟩:=db h20
 have htwo:Ltr (65+j2):=⟨by omega,by omega⟩
 refine⟨_,_,_,rfl,rfl,l26,ku (abc (by omega)),(by show 3<=sizeLine;decide),λsg hsg=>?_⟩
 generalize 65+j2=two at *
 generalize g1:upd H2 sg _=H3 at *
 obtain⟨s3,e3⟩:=al hsg g1
 clear g1
 have nsg:sg≠st:=λe=>by rw[e,st2]at hsg;cases hsg
 have e3:H3 sg=some (.lst ([one,one,two].map chV)):=e3
 have hls:∀k∈[one,one,two],Ltr k:=λk hk=>by
  simp only[ax,iu,or_false]at hk
  rcases hk with rfl|rfl|rfl<;>assumption
 have ex3:Ex [st] H H3:=(ex1.trans ex2).trans (Ex.of_same s3)
 have st3:=s3 _ _ st2
 refine⟨(by show 0<=sizeLine;decide),λkl hkl=>?_⟩
 generalize g1:upd H3 kl _=H4 at *
 obtain⟨s4,e4⟩:=al hkl g1
 clear g1
 have nkl:kl≠st:=λe=>by rw[e,st3]at hkl;cases hkl
 have nks:kl≠sg:=λe=>by rw[e,e3]at hkl;cases hkl
 have hklH:=ex_none ex3 nkl hkl
 have ex4:=ex3.trans (Ex.of_same s4)
 have st4:=s4 _ _ st3
 have sg4:=s4 _ _ e3
 refine⟨_,rfl,st,n2,6,rfl,st4,by decide,λn5 i5 h50 h51=>⟨_,_,rfl,rfl,?_⟩⟩
 generalize g1:upd H4 st _=H5 at *
 obtain⟨ex5',st5⟩:=dr g1
 clear g1
 have ex5:=ex4.trans ex5'
 have sg5:=ex5'.at nsg sg4
 have kl5:=ex5'.at nkl e4
 obtain⟨kn,ekn,hk1,hk6⟩:∃kn:Nat,1+i5=((kn:Nat):Int)/\0<kn/\kn<=6:=⟨(1+i5).toNat,by omega,by omega,by omega⟩
 refine⟨(kn:Nat),congrArg (λz=>[V.int z]) ekn,by omega,by omega,?_⟩
 rw[b0]
 refine oj (lo:=0) (λi σ' G=>∃(y5 y6 y7 y8 y9 y10:Option V) (n:Int) (kvs:List V) (ks:List (List PyData×Nat)) (ms:List (Option Int)),σ'=[some (.ref st),some (.int 12),some (.str ⟨#[one]⟩),some (.ref sg),some (.ref kl),y5,y6,y7,y8,y9,y10]/\(∀b o,b≠st->b≠kl->H5 b=some o->G b=some o)/\G st=some (.lst [.int n])/\G kl=some (.lst kvs)/\KindsM G kvs ks ms/\kvs.length=i) ?_ (λi σ' G hi h=>?_) (λσ' G h=>?_)
 .exact⟨_,_,_,_,_,_,n5,[],[],[],rfl,λb o _ _ h=>h,st5,kl5,⟨rfl,rfl,λi v k m h=>by cases h⟩,rfl⟩
 .obtain⟨y5,y6,y7,y8,y9,y10,m0,kvs,ks,ms,rfl,ex,stG,klG,hK,hkl0⟩:=h
  have sgG:=ex _ _ nsg (Ne.symm nks) sg5
  refine⟨(by show 5<=sizeLine;decide),λa1 h1=>?_⟩
  generalize g1:upd G a1 _=G1 at *
  obtain⟨s1,e1⟩:=al h1 g1
  clear g1
  have na1:a1≠st:=λe=>by rw[e,stG]at h1;cases h1
  refine⟨_,rfl,st,m0,5,rfl,s1 _ _ stG,by decide,λm1 d1 d10 d11=>?_⟩
  generalize g1:upd G1 st _=G2 at *
  obtain⟨x2,st2'⟩:=dr g1
  clear g1
  obtain⟨v,hv,hvm⟩:=pick (α:=V) (xs:=[V.int 0,V.int 0,V.int 1,V.int 2,V.int 3]) d10 d11
  obtain⟨le,rfl⟩:∃le:Int,v=.int le:=by
   simp only[ax,iu,or_false]at hvm
   rcases hvm with rfl|rfl|rfl|rfl|rfl<;>exact⟨_,rfl⟩
  refine⟨a1,_,_,.int le,rfl,rfl,SqL.of (x2.at na1 e1),hv,?_⟩
  have tk2:Tk G G2:=Tk.trans (Tk.of_same s1) (x2.one (s1 _ _ stG))
  have ex2:∀b o,b≠st->G b=some o->G2 b=some o:=λb o hb h=>x2.at hb (s1 _ _ h)
  clear hv hvm e1
  refine⟨_,rfl,_,rfl,_,rfl,_,_,rfl,rfl,_,rfl,st,m1,3,rfl,st2',by decide,λm2 d2 d20 d21=>⟨_,_,rfl,rfl,(by show 4<=sizeLine;decide),λa2 h2=>?_⟩⟩
  generalize g1:upd G2 st _=G3 at *
  obtain⟨x3,st3'⟩:=dr g1
  clear g1
  generalize g1:upd G3 a2 _=G4 at *
  obtain⟨s4',e4'⟩:=al h2 g1
  clear g1
  have na2:a2≠st:=λe=>by rw[e,st3']at h2;cases h2
  refine⟨_,rfl,st,m2,4,rfl,s4' _ _ st3',by decide,λm3 d3 d30 d31=>?_⟩
  generalize g1:upd G4 st _=G5 at *
  obtain⟨x5,st5'⟩:=dr g1
  clear g1
  obtain⟨v,hv,hvm⟩:=pick (α:=V) (xs:=[V.non,V.int le,V.int le,V.int (le+1+d2)]) d30 d31
  obtain⟨fm,rfl⟩:∃fm,v=mostV fm:=by
   simp only[ax,iu,or_false]at hvm
   rcases hvm with rfl|rfl|rfl|rfl
   .exact⟨none,rfl⟩
   .exact⟨some _,rfl⟩
   .exact⟨some _,rfl⟩
   .exact⟨some _,rfl⟩
  refine⟨a2,_,_,mostV fm,rfl,rfl,SqL.of (x5.at na2 e4'),hv,?_⟩
  have tk5:Tk G G5:=Tk.trans tk2 (Tk.trans (x3.one st2') (Tk.trans (Tk.of_same s4') (x5.one (s4' _ _ st3'))))
  have ex5'':∀b o,b≠st->G b=some o->G5 b=some o:=λb o hb h=>x5.at hb (s4' _ _ (x3.at hb (ex2 b o hb h)))
  clear hv hvm e4'
  refine⟨(by show 3<=sizeLine;decide),λa3 h3=>?_⟩
  generalize g1:upd G5 a3 _=G6 at *
  obtain⟨s6,e6⟩:=al h3 g1
  clear g1
  have na3:a3≠st:=λe=>by rw[e,st5']at h3;cases h3
  refine⟨_,rfl,st,m3,3,rfl,s6 _ _ st5',by decide,λm4 d4 d40 d41=>?_⟩
  generalize g1:upd G6 st _=G7 at *
  obtain⟨x7,st7⟩:=dr g1
  clear g1
  obtain⟨v,hv,hvm⟩:=pick (α:=V) (xs:=[V.str "still",V.str "turn",V.str "flip"]) d40 d41
  obtain⟨md,kk,rfl,hmd⟩:∃md kk,v=.str md/\ModeN md kk:=by
   simp only[ax,iu,or_false]at hvm
   rcases hvm with rfl|rfl|rfl
   .exact⟨_,1,rfl,.inl ⟨rfl,rfl⟩⟩
   .exact⟨_,4,rfl,.inr (.inl ⟨rfl,rfl⟩)⟩
   .exact⟨_,8,rfl,.inr (.inr ⟨rfl,rfl⟩)⟩
  refine⟨a3,_,_,.str md,rfl,rfl,SqL.of (x7.at na3 e6),hv,?_⟩
  have tk7:Tk G G7:=Tk.trans tk5 (Tk.trans (Tk.of_same s6) (x7.one (s6 _ _ st5')))
  have ex7:∀b o,b≠st->G b=some o->G7 b=some o:=λb o hb h=>x7.at hb (s6 _ _ (ex5'' b o hb h))
  clear hv hvm e6
  obtain⟨ch,hch⟩:=abcdef (j:=i) (by omega)
  refine⟨_,rfl,.inl ⟨rfl,_,SqL.of (ex7 _ _ nkl klG)⟩,_,rfl,_,_,ch,rfl,rfl,l6,(by rw[ka];exact ku hch),_,rfl,st,m4,3,rfl,st7,by decide,λm5 d5 d50 d51=>?_⟩
  generalize g1:upd G7 st _=G8 at *
  obtain⟨x8,st8⟩:=dr g1
  clear g1
  have lz:(bq "z").length=1:=by decide +kernel
  refine⟨_,d5,rfl,rfl,d50,by omega,(by rw[lz];decide),λwz hwz _=>?_⟩
  rw[lz,Nat.one_mul]at hwz
  have hz:(⟨#[ch]⟩:Str).length+wz.length<=sizeLine:=by
   show 1+wz.length<=sizeLine
   exact ic (l8 (by omega))
  have sg8:=x8.at nsg (ex7 _ _ nsg sgG)
  refine⟨_,_,rfl,rfl,hz,_,rfl,_,rfl,_,rfl,_,rfl,_,rfl,st,sg,m5,4,[one,one,two],rfl,st8,sg8,nsg,rfl,hls,by decide,by decide,λr G9 m6 es x9 st9 zr rep9=>?_⟩
  refine⟨(by show 5<=sizeLine;decide),λb hb=>?_⟩
  generalize g1:upd G9 b _=G10 at *
  obtain⟨s10,e10⟩:=al hb g1
  clear g1
  have ex10:∀c o,c≠st->G c=some o->G10 c=some o:=λc o hc h=>s10 _ _ (x9.at hc (x8.at hc (ex7 c o hc h)))
  have tk10:Tk G G10:=Tk.trans tk7 (Tk.trans (x8.one st7) (Tk.trans (x9.one st8) (Tk.of_same s10)))
  have kl10:=ex10 _ _ nkl klG
  obtain⟨r',rxs,er,hr9,rep9⟩:=rep9
  cases er
  have kM:KindM G10 (.ref b) (es,kk) fm:=⟨b,_,_,md,r,rxs,rfl,e10,s10 _ _ hr9,rep9.same s10,zr,hmd⟩
  refine⟨kl,kvs,.ref b,rfl,rfl,kl10,l8 (by omega),?_⟩
  have hK':=((hK.tk tk10).snoc kM).tk (Tk.lst (o:=.lst (kvs++[.ref b])) kl10)
  refine⟨_,_,_,_,_,_,m6,kvs++[.ref b],ks++[(es,kk)],ms++[fm],rfl,λc o hc1 hc2 h=>?_,?_,kh,hK',by simp[hkl0]⟩
  .rw[kv hc2]
   exact ex10 c o hc1 (ex c o hc1 hc2 h)
  .rw[kv (Ne.symm nkl)]
   exact s10 _ _ st9
 .obtain⟨y5,y6,y7,y8,y9,y10,m0,kvs,ks,ms,rfl,ex,stG,klG,hK,hkl0⟩:=h
  have sgG:=ex _ _ nsg (Ne.symm nks) sg5
  have exH:Ex [st] H G:=λb o hb h=>ex b o (by simpa using hb) (λz=>by rw[z,hklH]at h;cases h) (ex5 b o hb h)
  refine⟨(by show 0<=sizeLine;decide),λpl hpl=>?_⟩
  generalize g1:upd G pl _=G1 at *
  obtain⟨s1,p1⟩:=al hpl g1
  clear g1
  have npl:pl≠st:=λe=>by rw[e,stG]at hpl;cases hpl
  have nplk:pl≠kl:=λe=>by rw[e,klG]at hpl;cases hpl
  have sg1:=s1 _ _ sgG
  refine⟨_,rfl,_,rfl,sg,_,_,_,rfl,rfl,SqL.of sg1,ku (j:=2) rfl,one,two,rfl,_,rfl,_,rfl,sg,_,_,_,rfl,rfl,SqL.of sg1,ku (j:=2) rfl,one,two,rfl,(by show 2<=sizeLine;decide),λb1 hb1=>?_⟩
  generalize g1:upd G1 b1 _=G2 at *
  obtain⟨s2,e2⟩:=al hb1 g1
  clear g1
  refine⟨_,rfl,_,rfl,(by show 2<=sizeLine;decide),λb2 hb2=>?_⟩
  generalize g1:upd G2 b2 _=G3 at *
  obtain⟨s3',e3'⟩:=al hb2 g1
  clear g1
  refine⟨(by show 2<=sizeLine;decide),λl2 hl2=>?_⟩
  generalize g1:upd G3 l2 _=G4 at *
  obtain⟨s4',e4'⟩:=al hl2 g1
  clear g1
  have s14:=(s2.trans s3').trans s4'
  have st4':=s14 _ _ (s1 _ _ stG)
  have pl4:=s14 _ _ p1
  have kl4:=s14 _ _ (s1 _ _ klG)
  have r1:Rep G4 (prD (min one two,max one two)) (.ref b1):=pr_rep ((s3'.trans s4') _ _ e2) (by have:=hone.2;have:=htwo.2;omega) (by have:=hone.2;have:=htwo.2;omega)
  have r2:Rep G4 (prD (one,one)) (.ref b2):=pr_rep (s4' _ _ e3') (by have:=hone.2;omega) (by have:=hone.2;omega)
  have d1:PrD (prD (min one two,max one two)):=⟨_,rfl,by show min one two<=max one two;omega,by show max one two<128;have:=hone.2;have:=htwo.2;omega⟩
  have d2:PrD (prD (one,one)):=⟨_,rfl,ao _,by have:=hone.2;show one<128;omega⟩
  have nl2:l2≠st:=λe=>by rw[e,(s2.trans s3') _ _ (s1 _ _ stG)]at hl2;cases hl2
  have nl2p:l2≠pl:=λe=>by rw[e,(s2.trans s3') _ _ p1]at hl2;cases hl2
  refine⟨l2,rfl,⟨_,SqL.of e4'⟩,?_⟩
  refine o8 (xs:=[.ref b1,.ref b2]) (λi σ' J=>∃(y5 y6 y7 y8 y10:Option V) (n:Int) (avs:List V) (ds:List PyData),σ'=[some (.ref st),some (.int 12),some (.str ⟨#[one]⟩),some (.ref sg),some (.ref kl),y5,y6,y7,y8,some (.ref pl),y10]/\(∀b o,b≠st->b≠pl->G4 b=some o->J b=some o)/\J st=some (.lst [.int n])/\J pl=some (.lst avs)/\RepAll J ds avs/\(∀d∈ds,PrD d)/\ds.length<=i) ?_ (λi σ' J hi h=>?_) (λi x σ' J hx h=>?_) (λσ' J h=>?_)
  .exact⟨_,_,_,_,_,m0,[],[],rfl,λb o _ _ h=>h,st4',pl4,rfl,(λd hd=>by cases hd),ao _⟩
  .obtain⟨_,_,_,_,_,_,_,_,_,ex',_⟩:=h
   exact SqL.of (ex' _ _ nl2 nl2p e4')
  .obtain⟨y5,y6,y7,y8,y10,m1,avs,ds,rfl,ex',stJ,plJ,repJ,hds,hdl⟩:=h
   have hi2:i<2:=(ak.mp hx).1
   have lav:=repJ.length
   have imd:mf ds=true:=ng λd hd=>by obtain⟨p,rfl,_⟩:=hds d hd;rfl
   obtain⟨c,d,rfl,hc,hd⟩:∃c d,x=.ref c/\Rep G4 d (.ref c)/\PrD d:=by
    match i,hi2 with
    | 0,_=>exact⟨b1,_,(cy hx).symm,r1,d1⟩
    | 1,_=>exact⟨b2,_,(cy hx).symm,r2,d2⟩
   have tkJ:Tk G4 J:=λb ys h=>ex' b _ (ne_of h st4' (by intro z;cases z)) (ne_of h pl4 (by intro z;cases z)) h
   have rJ:Rep J d (.ref c):=Rep.tk tkJ (by obtain⟨p,rfl,_⟩:=hd;rfl) hc
   refine⟨_,rfl,st,m1,3,rfl,stJ,by decide,λm2 d2 d20 d21=>?_⟩
   generalize g1:upd J st _=J1 at *
   obtain⟨x1,st1'⟩:=dr g1
   clear g1
   have pl1:=x1.at npl plJ
   have tk1:Tk J J1:=x1.one stJ
   refine⟨rfl,_,rfl,ite2 (λ_=>?_) (λ_=>?_)⟩
   .refine⟨_,rfl,.inl ⟨rfl,_,SqL.of pl1⟩,_,rfl,pl,avs,.ref c,rfl,rfl,pl1,l8 (by omega),?_⟩
    have hds':∀e∈ds++[d],PrD e:=λe he=>by
     rcases bm.mp he with h|h
     .exact hds e h
     .rw[ba.mp h];exact hd
    have imd':mf (ds++[d])=true:=ng λe he=>by obtain⟨p,rfl,_⟩:=hds' e he;rfl
    refine⟨_,_,_,_,_,m2,avs++[.ref c],ds++[d],rfl,λb o hb1 hb2 h=>?_,?_,kh,?_,hds',by rw[bo,fw];omega⟩
    .rw[kv hb2]
     exact x1.at hb1 (ex' b o hb1 hb2 h)
    .rw[kv (Ne.symm npl)]
     exact st1'
    .exact((repJ.tk tk1 imd).snoc (Rep.tk tk1 (by obtain⟨p,rfl,_⟩:=hd;rfl) rJ)).tk (Tk.lst pl1) imd'
   .exact⟨_,_,_,_,_,m2,avs,ds,rfl,λb o hb1 hb2 h=>x1.at hb1 (ex' b o hb1 hb2 h),st1',pl1,repJ.tk tk1 imd,hds,by omega⟩
  .obtain⟨y5,y6,y7,y8,y10,m1,avs,ds,rfl,ex',stJ,plJ,repJ,hds,hdl⟩:=h
   have lav:=repJ.length
   have hdl2:ds.length<=2:=hdl
   have imd:mf ds=true:=ng λd hd=>by obtain⟨p,rfl,_⟩:=hds d hd;rfl
   have sgJ:=ex' _ _ nsg (λe=>by rw[<-e,sgG]at hpl;cases hpl) (s14 _ _ sg1)
   have klJ:=ex' _ _ nkl (Ne.symm nplk) kl4
   have tkJ:Tk G4 J:=λb ys h=>ex' b _ (ne_of h st4' (by intro z;cases z)) (ne_of h pl4 (by intro z;cases z)) h
   have exJ:Ex [st] H J:=λb o hb h=>ex' b o (by simpa using hb) (λz=>by rw[z,ex_none exH npl hpl]at h;cases h) (s14 _ _ (s1 _ _ (exH b o hb h)))
   have hKJ:KindsM J kvs ks ms:=hK.tk (Tk.trans (Tk.of_same (s1.trans s14)) tkJ)
   refine⟨_,rfl,_,rfl,_,rfl,st,sg,m1,[one,one,two],rfl,stJ,sgJ,nsg,rfl,hls,λfl J1 m2 M hfl x1 st1' hM=>?_⟩
   have tk1:Tk J J1:=x1.one stJ
   refine⟨_,rfl,kl,kvs,rfl,.inl ⟨SqL.of (x1.at nkl klJ),λkr hkr=>?_⟩⟩
   generalize g1:upd J1 kr _=J2 at *
   obtain⟨s2',e2'⟩:=al hkr g1
   clear g1
   have repJ2:=(repJ.tk tk1 imd).same s2'
   refine⟨_,rfl,pl,avs,ds,rfl,.inl (s2' _ _ (x1.at npl plJ)),repJ2,(λd hd=>pr_key (hds d hd)),sortsAs_S (pr_rows hds),by omega,λes l3 ys nd mem sorted hl3 re=>?_⟩
   generalize g1:upd J2 l3 _=J3 at *
   obtain⟨s3'',e3''⟩:=al hl3 g1
   clear g1
   refine⟨l3,ys,rfl,.inl ⟨SqL.of e3'',λae hae=>?_⟩⟩
   generalize g1:upd J3 ae _=J4 at *
   obtain⟨s4'',e4''⟩:=al hae g1
   clear g1
   refine⟨(by show 3<=sizeLine;decide),λpz hpz=>?_⟩
   generalize g1:upd J4 pz _=J5 at *
   obtain⟨s5'',e5''⟩:=al hpz g1
   clear g1
   obtain⟨ap,eap,hap⟩:=pr_list (ds:=es) λd hd=>hds d ((mem d).mp hd)
   have hel:=nodup_len nd mem
   have s25:=(s3''.trans s4'').trans s5''
   have s15:=s2'.trans s25
   subst eap
   rw[aj]at hel
   obtain⟨kA,kB⟩:=(hKJ.tk (Tk.trans tk1 (Tk.of_same s15))).kinds (by have:=hKJ.2.1;omega)
   have l1:=kA.1
   have l2':=kB.1
   refine q pz J5 m2 M ks ms ap ((exJ.trans x1).trans (Ex.of_same s15)) (s15 _ _ st1') ⟨⟨fl,kr,ae,kvs,e5'',hM.same s15,s25 _ _ e2',kA,by omega⟩,kr,ae,.ref fl,kvs,e5'',s25 _ _ e2',kB,ys,s5'' _ _ e4'',re.same (s4''.trans s5''),by omega,λp hp=>⟨by have:=hap p hp;omega,(hap p hp).2⟩⟩ (by omega) (λp hp=>(hap p hp).1)
end
theorem room_any{g k:Nat}:([PyData.str ⟨#[46]⟩,PyData.str ⟨#[44]⟩,.str ⟨#[k]⟩,.str ⟨#[lo1 k]⟩].any λe=>bn e (.str ⟨#[g]⟩))=okS g k:=by
 have e1:∀a:Nat,bn (.str ⟨#[a]⟩) (.str ⟨#[g]⟩)=(g==a):=λa=>by
  show((⟨#[a]⟩:Str)==⟨#[g]⟩)=_
  rw[fg,beq_iff_eq,beq_iff_eq]
  constructor
  .intro e
   injection e with e
   injection e with e
   injection e with e
   exact e.symm
  .intro e
   rw[e]
 simp only[List.any_cons,List.any_nil,Bool.or_false,e1]
 unfold okS
 rw[Bool.or_assoc,Bool.or_assoc]
section
variable{P:Program}{w:World}{K:aq}{mg:Str->Option Value}{base:Heap}{f:Addr}{fd:FuncData}
theorem scFits:ky ["_law_floor_here","_law_spots","_law_row","_law_column","_law_sign"] ["_law_floor_here","_law_spots"] (kq sFits):=⟨rfl,rfl,rfl,by decide +kernel,rfl,by decide +kernel,by decide +kernel⟩
theorem ok_fits(B:∀x∈blts,mg x=none)(F:Fun K "_law_fits" "_law_fits" sFits f fd):FnOk P w K mg base CX0 1 f fd ["_law_floor_here","_law_spots"] spMay:=by
 refine F.ok (k:=0) scFits (λvs H Q E h=>?_) (λcdv A outer s H vs Q E hr h=>?_)
 .obtain⟨a,b,M,xs,es,rfl,_⟩:=h
  rfl
 obtain⟨a,b,M,xs,es,rfl,hf,hb,rep,hs,h6,q⟩:=h
 have hl:=rep.length
 have hu:=hr.units
 obtain⟨ha,okM⟩:=id hf
 have h1:=okM.h1
 refine⟨_,(kc (m7 b7 rfl (pi_tup (pv 1)) (pg_tup (n:=3) rfl (kj (ke (i:=2) scFits.nd rfl (Or.inl rfl)) (kj (ke (i:=3) scFits.nd rfl (Or.inl rfl)) (kj (ke (i:=4) scFits.nd rfl (Or.inl rfl)) lq)))) (kc (ps_if (PW.pt (pw_or (l7 op_ge (pv 2) (pe_cB m8 rfl (B "len" (by decide)) g0 (pa_c (pv 0) kb)) (m9 _)) (pw_or1 (l7 op_ge (pv 3) (pe_cB oh rfl (B "len" (by decide)) g0 (pa_c (pe_ix li (pv 0) kg (λ_ _=>rfl)) kb)) (m9 _))))) (km (k7 pe_bl)) ni)
  (km (ps_if (l7 (op_notInD hu) (pe_ix ix_str (pe_ix li (pv 0) (pv 2) (λ_ _=>rfl)) (pv 3) (λ_ _=>rfl)) (ny (pa_c nu (pa_c nu (pa_c (pv 4) (pa_c (pe_bm0 PySem.F.plainAttrs_str PySem.F.slot_str_lower PySem.F.type_str_lower mt_lower (pv 4)) kb))))) rfl) (km (k7 pe_bl)) ni))))
  (km (k7 pe_bl))),?_⟩
 refine⟨_,rfl,b,rfl,⟨_,SqT.of hb⟩,?_⟩
 refine for_tup (xs:=xs) (λi σ' G=>∃(y2 y3 y4:Option V),σ'=[some (.ref a),some (.ref b),y2,y3,y4]/\Same H G/\(es.take i).all (fitD M)=true) ?_ (λi σ' G hi h=>?_) (λi x σ' G hx h=>?_) (λσ' G h=>?_)
 .exact⟨_,_,_,rfl,Same.refl _,rfl⟩
 .obtain⟨_,_,_,_,sg,_⟩:=h
  exact SqT.of (sg _ _ hb)
 .obtain⟨y2,y3,y4,rfl,sg,hall⟩:=h
  obtain⟨d,hd,rd⟩:=rep.at hx
  obtain⟨r,c,k,rfl,hk1,hk2⟩:=hs d (am hd)
  obtain⟨b',rfl,hb',_⟩:=oy rd
  have bad:okS (gA M r c) k=false->∀G',Same H G'->Q (.bl false) G':=λhb G' s'=>by
   have e:fitT M (.tuple es)=false:=by
    show es.all (fitD M)=false
    rw[List.all_eq_false]
    exact⟨_,am hd,by rw[fit_at,hb];exact ah⟩
   rw[e]at q
   exact q G' s'
  have out:¬(r<M.h/\c<M.w)->okS (gA M r c) k=false:=λh=>by
   unfold gA
   rw[if_neg h]
   have:∀k<91,65<=k->okS 35 k=false:=by decide +kernel
   exact this k (by omega) hk1
  refine⟨b',_,rfl,SqT.of (sg _ _ hb'),rfl,_,_,rfl,_,_,rfl,_,_,rfl,rfl,?_⟩
  have hfa:=sg _ _ ha
  refine⟨_,rfl,_,rfl,a,_,rfl,.inr (SqT.of hfa),_,_,rfl,rfl,_,rfl,?_⟩
  refine ite2 (λc2=>?_) (λc2=>?_)
  .have c2':(((strsM M).map V.str).length:Nat)<=((r:Nat):Int):=of_decide_eq_true c2
   rw[aj,oq]at c2'
   exact bad (out (by omega)) G sg
  have hrM:r<M.h:=by
   have:¬(((strsM M).map V.str).length:Nat)<=((r:Nat):Int):=by simpa using c2
   rw[aj,oq]at this
   omega
  have hat:atI ((strsM M).map V.str) (r:Int)=some (.str ⟨(lineM M r).toArray⟩):=ku (strs_ati hrM)
  have hat0:atI ((strsM M).map V.str) 0=some (.str ⟨(lineM M 0).toArray⟩):=ku (j:=0) (strs_ati h1)
  have zl:∀r,(⟨(lineM M r).toArray⟩:Str).length<=sizeLine:=λr=>by rw[mj];exact w_line okM
  refine⟨_,rfl,_,rfl,a,_,_,_,rfl,rfl,SqT.of hfa,hat0,_,rfl,zl 0,_,_,rfl,rfl,_,rfl,?_⟩
  refine ite2 (λc4=>?_) (λc4=>?_)
  .have c4':(((⟨(lineM M 0).toArray⟩:Str).length:Nat):Int)<=((c:Nat):Int):=of_decide_eq_true c4
   rw[mj]at c4'
   exact bad (out (by omega)) G sg
  have hcM:c<M.w:=by
   have:¬(((⟨(lineM M 0).toArray⟩:Str).length:Nat):Int)<=((c:Nat):Int):=by simpa using c4
   rw[mj]at this
   omega
  have eg:gA M r c=M.g r c:=by unfold gA;rw[if_pos ⟨hrM,hcM⟩]
  refine⟨_,rfl,_,rfl,a,_,_,_,rfl,rfl,SqT.of hfa,hat,_,rfl,_,_,M.g r c,rfl,rfl,zl r,?_,?_⟩
  .refine ku ?_
   show(lineM M r).toArray.toList[c]?=_
   rw[List.toList_toArray]
   exact line_at hcM
  refine⟨_,rfl,_,rfl,rfl,k,rfl,rfl,by omega,(by show 4<=sizeLine;decide),λp hp=>?_⟩
  have e46:bq "." = ⟨#[46]⟩:=by decide +kernel
  have e44:bq "," = ⟨#[44]⟩:=by decide +kernel
  rw[e46,e44]
  have s2:Same G (upd G p (.lst [.str ⟨#[46]⟩,.str ⟨#[44]⟩,.str ⟨#[k]⟩,.str ⟨#[lo1 k]⟩])):=Same.fresh _ hp
  have c2:upd G p (.lst [.str ⟨#[46]⟩,.str ⟨#[44]⟩,.str ⟨#[k]⟩,.str ⟨#[lo1 k]⟩]) p=some (.lst [.str ⟨#[46]⟩,.str ⟨#[44]⟩,.str ⟨#[k]⟩,.str ⟨#[lo1 k]⟩]):=kh
  generalize upd G p (.lst [.str ⟨#[46]⟩,.str ⟨#[44]⟩,.str ⟨#[k]⟩,.str ⟨#[lo1 k]⟩])=G2 at *
  have hlo:lo1 k<128:=by
   have:∀k<128,lo1 k<128:=by decide +kernel
   exact this k (by omega)
  have hg:=sg128 (okM.sg r c hrM hcM)
  refine⟨.str ⟨#[M.g r c]⟩,p,_,[.str ⟨#[46]⟩,.str ⟨#[44]⟩,.str ⟨#[k]⟩,.str ⟨#[lo1 k]⟩],⟨rfl,ok1 hg⟩,rfl,.inl c2,⟨_,_,rfl,⟨rfl,ok1 (by decide)⟩,_,_,rfl,⟨rfl,ok1 (by decide)⟩,_,_,rfl,⟨rfl,ok1 (by omega)⟩,_,_,rfl,⟨rfl,ok1 hlo⟩,rfl⟩,by simp[gu],_,rfl,?_⟩
  rw[room_any,<-eg]
  refine ite2 (λh1=>?_) (λh1=>?_)
  .rw[if_pos rfl]at h1
   exact bad (by simpa using h1) G2 (sg.trans s2)
  .rw[if_pos rfl]at h1
   refine⟨_,_,_,rfl,sg.trans s2,?_⟩
   rw[ig,hd]
   rw[List.all_append,hall,Bool.true_and]
   show(fitD M _&&true)=true
   rw[Bool.and_true,fit_at]
   simpa using h1
 .obtain⟨y2,y3,y4,rfl,sg,hall⟩:=h
  rw[a7 (by omega)]at hall
  rw[show fitT M (.tuple es)=true from hall]at q
  exact q G sg
end
end K41
namespace L3
open PySem PyProof.Rows L2
theorem seq_hold{s1 s2:TS}{D:Ends}{σ:L2.St}{H:Hp}(h:∀D':Ends,(∀σ' G',s2 D σ' G'->D'.nx σ' G')->D'.rt=D.rt->s1 D' σ H):tSeq s1 s2 D σ H:=h {D with nx:=s2 D} (λ_ _ z=>z) rfl
theorem seq_join{s1 s2:TS}{D:Ends}{σ:L2.St}{H:Hp}(R:L2.St->Hp->Prop)(h:∀σ' G',R σ' G'->s2 D σ' G')(h1:∀D':Ends,(∀σ' G',R σ' G'->D'.nx σ' G')->D'.rt=D.rt->s1 D' σ H):tSeq s1 s2 D σ H:=h1 {D with nx:=s2 D} h rfl
end L3
namespace K41
open PySem PyProof.Rows L2 L3
theorem FS_iff{es:List PyData}{n:Nat}{d:PyData}:d∈FS es n↔d∈k9 es n:=(mh _).mem_iff.trans ddp_mem
noncomputable def rw2(M:Mat)(ks:List (List PyData×Nat)):Nat->List PyData
 | 0=>[]
 | i+1=>rw2 M ks i++(match ks[i]? with|some k=>(k9 k.1 k.2).flatMap (plN M i)|none=>[])
theorem rw2_succ{M:Mat}{ks:List (List PyData×Nat)}{i:Nat}{k:List PyData×Nat}(h:ks[i]?=some k):rw2 M ks (i+1)=rw2 M ks i++(k9 k.1 k.2).flatMap (plN M i):=by
 show rw2 M ks i++_=_
 rw[h]
theorem rw2_mem{M:Mat}{ks:List (List PyData×Nat)}{d:PyData}:∀i,i<=ks.length->(d∈rw2 M ks i↔d∈raw M ks i)
 | 0,_=>Iff.rfl
 | i+1,h=>by
  have hk:=ab (show i<ks.length by omega)
  rw[rw2_succ hk,raw_succ hk,bm,bm,rw2_mem i (by omega)]
  refine or_congr Iff.rfl ?_
  unfold plK
  rw[fh,fh]
  exact exists_congr λx=>and_congr FS_iff.symm Iff.rfl
theorem rw2_len{M:Mat}(o:OkM SgP M){ks:List (List PyData×Nat)}(h:KsZ ks):∀j,(rw2 M ks j).length<=j*512
 | 0=>ao _
 | j+1=>by
  have ih:=rw2_len o h j
  show(rw2 M ks j++_).length<=_
  rw[bo]
  cases hk:ks[j]? with
  | none=>rw[Nat.add_mul];exact Nat.add_le_add ih (en _)
  | some k=>
   have h1:=flatLen (plN M j) (n:=64) (λx=>plN_len o j x) (k9 k.1 k.2)
   have h2:(k9 k.1 k.2).length=k.2:=by simp[k9]
   have h3:=(h k (am hk)).2
   show _+((k9 k.1 k.2).flatMap (plN M j)).length<=_
   omega
noncomputable def upto2(M:Mat)(ks:List (List PyData×Nat))(es:List PyData)(n i j:Nat)(es2:List PyData)(t:Nat):List PyData:=rw2 M ks i++((k9 es n).take j).flatMap (plN M i)++(plS M es2 t).map λs=>PyData.tuple [s,.int (i:Nat)]
theorem valN_mem{xs:List KA}{d:PyData}:(valN xs d).isSome=true↔d∈xs.map (·.1):=by
 unfold valN
 rw[jl,List.find?_isSome,bi]
 exact exists_congr λx=>and_congr Iff.rfl decide_eq_true_iff
theorem put_keys{xs:List KA}{d:PyData}{b:Addr}{v:V}(h:(xs.map (·.1)).Nodup):((putN xs d b v).map (·.1)).Nodup:=by
 unfold putN
 by_cases hs:(valN xs d).isSome=true
 .rw[if_pos hs,bp]
  have e:xs.map ((·.1)∘λx=>if x.1=d then(x.1,x.2.1,v)else x)=xs.map (·.1):=fc λx _=>by
   show(if x.1=d then(x.1,x.2.1,v)else x).1=x.1
   split<;>rfl
  rw[e]
  exact h
 .rw[if_neg hs,cm,List.nodup_append]
  refine⟨h,by simp,λx hx y hy=>?_⟩
  rw[ba.mp hy]
  intro z
  rw[z]at hx
  exact hs (valN_mem.mpr hx)
theorem keys_PL{M:Mat}(hw:0<M.w){ks:List (List PyData×Nat)}(hz:KsZ ks){xs:List KA}(hk:KeysAre xs (rw2 M ks ks.length))(nd:(xs.map (·.1)).Nodup):sortE (xs.map (·.1))=PL M ks:=by
 have mem:∀d,d∈xs.map (·.1)↔d∈raw M ks ks.length:=λd=>by
  rw[<-valN_mem,hk.2,decide_eq_true_iff]
  exact rw2_mem _ (ao _)
 exact sortE_uniq ((List.perm_ext_iff_of_nodup nd (raw_nd hw hz _)).mpr mem) (PlD.cmp λd hd=>raw_pl hz d ((mem d).mp hd))
theorem pl_kr{H:Hp}{d:PyData}{a:Addr}(hd:PlD d)(h:Rep H d (.ref a)):KRep H d a:=⟨hd.key.1.1,by have:=hd.depth;omega,h⟩
seal L2.PE L2.PT L2.PW L2.PA L2.PS L2.PSs L2.PG L2.PGs L2.PI L2.PO
set_option pp.maxSteps 3000
section
variable{P:Program}{w:World}{K:aq}{mg:Str->Option Value}{base:Heap}{f:Addr}{fd:FuncData}
theorem scLpl:ky ["_law_puzzle_here","_law_floor_here","_law_found","_law_number","_law_kind","_law_many_here","_law_form_here","_law_down","_law_right","_law_spots"] ["_law_puzzle_here"] (kq sLpl):=⟨rfl,rfl,rfl,by decide +kernel,rfl,by decide +kernel,by decide +kernel⟩
theorem ok_lpl(B:∀x∈blts,mg x=none)(Flt:Fn P w K mg base "_law_turned" 2 ["_law_form_here","_law_t"] spLt)(Ffits:Fn P w K mg base "_law_fits" 1 ["_law_floor_here","_law_spots"] spMay)(F:Fun K "_law_places" "_law_places" sLpl f fd):FnOk P w K mg base CX0 3 f fd ["_law_puzzle_here"] spPlc:=by
 refine F.ok (k:=2) scLpl (λvs H Q E h=>?_) (λcdv A outer s H vs Q E hr h=>?_)
 .obtain⟨p,M,ks,rfl,_⟩:=h
  rfl
 obtain⟨p,M,ks,rfl,⟨fl,kr,e,kvs,hp,hfl,hkr,hks,h6⟩,q⟩:=h
 have hu:=hr.units
 obtain⟨hfa,okM⟩:=id hfl
 have h1:=okM.h1
 have h8:=okM.h8
 have w8:=okM.w8
 have w1:=okM.w1
 have hKZ:=hks.z
 refine⟨_,(kc (k6 (i:=1) scLpl.nd rfl (Or.inl rfl) (pe_ix li (pv 0) kg (λ_ _=>rfl)))
  (kc (k6 (i:=2) scLpl.nd rfl (Or.inl rfl) pe_nnew)
  (kc (m7 b7 rfl (pi_enT rfl (B "enumerate" (by decide)) (pa_c (pe_ix li (pv 0) kg (λ_ _=>rfl)) kb)) (pg_tup (n:=2) rfl (kj (ke (i:=3) scLpl.nd rfl (Or.inl rfl)) (kj (ke (i:=4) scLpl.nd rfl (Or.inr rfl)) lq))) (kc (k6 (i:=5) scLpl.nd rfl (Or.inl rfl) kg)
  (kc (ps_if (l7 op_ne (pe_ix li (pv 4) kg (λ_ _=>rfl)) nu (m9 _)) (km (k6 (i:=5) scLpl.nd rfl (Or.inl rfl) (pe_ix nj (ny (pa_c kg (pa_c kg kb))) (pe_cT call_int1 rfl (B "int" (by decide)) PyProof.Rows.boot_int (pa_c (pe_cmpR op_eq (pe_ix li (pv 4) kg (λ_ _=>rfl)) nu (m9 _)) kb)) (λ_ _=>rfl)))) ni)
  (km (m7 b7 rfl (lm (lj ["_law_t","_law_kind"] [none,some 4] rfl rfl (by decide +kernel) (by decide +kernel) rfl rfl (pi_r1 rfl (B "range" (by decide)) (pa_c (pv 5) kb)) (λ_=>(ke (i:=0) (show(["_law_t","_law_kind"]:List PySem.Str).Nodup by decide +kernel) rfl (Or.inl rfl))) (λ_=>me) (λ_=>(pe_fn Flt hr (by decide) rfl (pa_c (pe_ix ph (pv 1) kg (λ_ _=>rfl)) (pa_c (pv 0) kb)))))) (ke (i:=6) scLpl.nd rfl (Or.inl rfl)) (km (m7 b7 rfl (pi_r1 rfl (B "range" (by decide)) (pa_c (pe_cB m8 rfl (B "len" (by decide)) g0 (pa_c (pv 1) kb)) kb)) (ke (i:=7) scLpl.nd rfl (Or.inr rfl)) (km (m7 b7 rfl (pi_r1 rfl (B "range" (by decide)) (pa_c (pe_cB oh rfl (B "len" (by decide)) g0 (pa_c (pe_ix li (pv 1) kg (λ_ _=>rfl)) kb)) kb)) (ke (i:=8) scLpl.nd rfl (Or.inr rfl)) (kc (k6 (i:=9) scLpl.nd rfl (Or.inl rfl) (pe_cT mw rfl (B "tuple" (by decide)) boot_tuple (pa_c (lj ["_law_row","_law_column","_law_sign","_law_down","_law_right"] [none,none,none,some 7,some 8] rfl rfl (by decide +kernel) (by decide +kernel) rfl rfl (pi_seq (pv 6)) (λ_=>(oe (n:=3) rfl (kj (ke (i:=0) (show(["_law_row","_law_column","_law_sign","_law_down","_law_right"]:List PySem.Str).Nodup by decide +kernel) rfl (Or.inl rfl)) (kj (ke (i:=1) (show(["_law_row","_law_column","_law_sign","_law_down","_law_right"]:List PySem.Str).Nodup by decide +kernel) rfl (Or.inl rfl)) (kj (ke (i:=2) (show(["_law_row","_law_column","_law_sign","_law_down","_law_right"]:List PySem.Str).Nodup by decide +kernel) rfl (Or.inl rfl)) lq))))) (λ_=>me) (λ_=>(lc (pa_c (pe_op nq (pv 0) (pv 3)) (pa_c (pe_op nq (pv 1) (pv 4)) (pa_c (pv 2) kb)))))) kb)))
  (km (ps_if (pt_val (pe_fn Ffits hr (by decide) rfl (pa_c (pv 1) (pa_c (pv 9) kb)))) (km (ps_nput (jv (Nat.add_le_add_left (by decide) _) hu) (pv 2) (lc (pa_c (pv 9) (pa_c (pv 3) kb))) pe_bl rfl)) ni))))))))))))
  (km (k7 (pe_cB (call_sortedDN hu rfl) rfl (B "sorted" (by decide)) boot_sorted (pa_c (pv 2) kb))))))),?_⟩
 refine⟨_,rfl,p,_,_,_,rfl,rfl,SqT.of hp,ku (j:=0) rfl,?_⟩
 refine λD hD hsys=>?_
 generalize gg:upd H D _=H1 at *
 have s1:Same H H1:=(al hD gg).1
 have d1:DN w H1 D [] 0:=by rw[<-gg];exact DN.new hsys
 clear gg
 refine⟨_,rfl,p,_,_,_,rfl,rfl,SqT.of (s1 _ _ hp),ku (j:=1) rfl,kr,rfl,⟨_,SqT.of (s1 _ _ hkr)⟩,?_⟩
 refine for_enT (xs:=kvs) (λi σ' G=>∃(y3 y4 y5 y6 y7 y8 y9:Option V) (xs:List KA) (ep:Nat),σ'=[some (.ref p),some (.ref fl),some (.ref D),y3,y4,y5,y6,y7,y8,y9]/\Same H G/\DN w G D xs ep/\KeysAre xs (rw2 M ks i)/\(xs.map (·.1)).Nodup) ?_ (λi σ' G h=>?_) (λi x pr σ' G hx hpr h=>?_) (λσ' G h=>?_)
 .exact⟨_,_,_,_,_,_,_,[],0,rfl,s1,d1,keys_nil,List.nodup_nil⟩
 .obtain⟨_,_,_,_,_,_,_,_,_,_,sg,_⟩:=h
  exact SqT.of (sg _ _ hkr)
 .obtain⟨y3,y4,y5,y6,y7,y8,y9,kx,ep,rfl,sg,dn,hkx,nd⟩:=h
  have hi:i<kvs.length:=(ak.mp hx).1
  have hik:i<ks.length:=by rw[<-hks.1];exact hi
  have hkj:=ab hik
  have hk:=(hks.2 i x _ hx hkj).same sg
  rw[rw2_succ hkj]
  generalize ks[i]=kk at *
  obtain⟨es,n⟩:=kk
  obtain⟨b,nm,u1,u2,m,fr,xs,rfl,hb,hfr,repE,hz,hm⟩:=hk
  have repE:RepAll G es xs:=repE
  have hz:Zr es:=hz
  have hm:ModeN m n:=hm
  have hn:n<=8:=by rcases hm with h|h|h<;>omega
  refine⟨pr,_,rfl,SqT.of kh,rfl,_,_,rfl,_,_,rfl,rfl,?_⟩
  have s2:Same G (upd G pr (.tup [.int (i:Nat),.ref b])):=Same.fresh _ hpr
  generalize upd G pr (.tup [.int (i:Nat),.ref b])=G2 at *
  have sg2:=sg.trans s2
  have dn2:=dn.same s2
  have hb2:=s2 _ _ hb
  have hfr2:=s2 _ _ hfr
  have rep2:=repE.same s2
  refine seq_hold (s1:=tAsg _ _) λDh0 nxE rtE0=>?_
  refine nxE _ _ ?_
  clear nxE rtE0 Dh0
  refine seq_join (s1:=tIfS _ _ _) (λσ' G'=>∃G3:Hp,σ'=[some (.ref p),some (.ref fl),some (.ref D),some (.int (i:Nat)),some (.ref b),some (.int (n:Nat)),y6,y7,y8,y9]/\G3=G'/\Same G2 G3) ?_ (λDh hnx rtE=>?_)
  .rintro σ' G' ⟨G3,rfl,rfl,s3⟩
   have sg3:=sg2.trans s3
   have dn3:=dn2.same s3
   have hb3:=s3 _ _ hb2
   refine⟨_,rfl,(n:Nat),rfl,by omega,by omega,?_⟩
   rw[b0]
   intro L hL
   have hfl2:(k9 es n).length=n:=by simp[k9]
   have fimm:∀j,mf ((k9 es n).take j)=true:=λj=>ng λd hd=>by
    obtain⟨t,_,rfl⟩:=mem_forms.mp (dq hd)
    exact Spots.imm (o7 hz t).pre.spots
   refine comp_range (lo:=0) (λj ys J=>Same G3 J/\RepAll J ((k9 es n).take j) ys) ⟨Same.fresh _ hL,rfl⟩ (λj ys J hj hDy hyl pv=>?_) (λys J hDy hyl pv=>?_)
   .obtain⟨p1,repJ⟩:=pv
    refine⟨Agree.set (Agree.refl _) rfl,?_⟩
    dsimp only[tYes]
    refine iteT ?_
    refine⟨_,rfl,b,_,_,.ref fr,rfl,rfl,SqT.of (p1 _ _ hb3),ku (j:=4) rfl,_,rfl,fr,j,xs,es,(by rw[ka];rfl),p1 _ _ (s3 _ _ hfr2),rep2.same (s3.trans p1),hz,by omega,λr J2 s2' rr=>?_⟩
    have hD2:=s2' _ _ hDy
    refine nk (by omega) hD2 hyl ⟨(p1.trans s2').new hL,?_⟩
    have ef:(k9 es n)[j]?=some (formD es j):=by unfold k9;rw[be,List.getElem?_range hj];rfl
    have e2:(k9 es n).take (j+1)=(k9 es n).take j++[formD es j]:=by rw[ig,ef];rfl
    have im:=fimm (j+1)
    rw[e2]at im⊢
    exact((repJ.same s2').snoc rr).tk (Tk.lst hD2) im
   obtain⟨p1,repF⟩:=pv
   rw[a7 (by omega)]at repF
   have lf:=repF.length
   have sgJ:=sg3.trans p1
   have dnJ:=dn3.same p1
   have nLD:L≠D:=λz=>by rw[z,dn3.obj]at hL;cases hL
   have hF:∀d∈k9 es n,FrmD d:=λd hd=>FS_frm hz d (FS_iff.mpr hd)
   refine⟨L,rfl,⟨_,SqL.of hDy⟩,?_⟩
   have rpl:∀es2 t,(.tuple es2∈k9 es n)->t<M.h*M.w->fitT M (shT M es2 t)=true->PlD (.tuple [shT M es2 t,.int (i:Nat)]):=λes2 t h2 ht hft=>
    plK_pl (M:=M) (n:=i) (k:=(es,n)) hz (fh.mpr ⟨_,FS_iff.mpr h2,mem_plN.mpr ⟨t,ht,rfl,hft⟩⟩)
   have rlen:∀j es2 t,t<=M.h*M.w->(upto2 M ks es n i j es2 t).length<=4000:=λj es2 t ht=>by
    have h1:=rw2_len okM hKZ i
    have h2:=flatLen (plN M i) (n:=64) (λx=>plN_len okM i x) ((k9 es n).take j)
    have h3:((k9 es n).take j).length<=8:=by rw[bx];omega
    have h4:=plS_len M es2 t
    have h5:M.h*M.w<=64:=Nat.mul_le_mul h8 w8
    unfold upto2
    rw[bo,bo,aj]
    omega
   refine o8 (xs:=ys) (λj σ' G4=>∃(y6 y7 y8 y9:Option V) (kx:List KA) (ep:Nat),σ'=[some (.ref p),some (.ref fl),some (.ref D),some (.int (i:Nat)),some (.ref b),some (.int (n:Nat)),y6,y7,y8,y9]/\Ex [D] J G4/\Same H G4/\DN w G4 D kx ep/\KeysAre kx (rw2 M ks i++((k9 es n).take j).flatMap (plN M i))/\(kx.map (·.1)).Nodup) ?_ (λj σ' G4 hj h=>?_) (λj x σ' G4 hx h=>?_) (λσ' G4 h=>?_)
   .refine⟨_,_,_,_,kx,ep,rfl,Ex.refl _ _,sgJ,dnJ,?_,nd⟩
    rw[List.take_zero,List.flatMap_nil,ck]
    exact hkx
   .obtain⟨_,_,_,_,_,_,_,ex,_⟩:=h
    exact SqL.of (ex.at nLD hDy)
   .obtain⟨y6,y7,y8,y9,kx4,ep4,rfl,ex,sg4,dn4,hk4,nd4⟩:=h
    obtain⟨d,hd,rd⟩:=repF.at hx
    have hdm:=am hd
    obtain⟨es2,rfl,hz2⟩:=hF d hdm
    obtain⟨fb,xs2,rfl,hfb,rep2'⟩:=rd
    have nfb:fb≠D:=ne_of hfb dnJ.obj (by intro z;cases z)
    have frm:∀{G':Hp},Ex [D] J G'->G' fb=some (.tup xs2)/\RepAll G' es2 xs2:=λe=>⟨e.at nfb hfb,rep2'.tk (λc zs h=>e.at (ne_of h dnJ.obj (by intro z;cases z)) h) (Spots.imm hz2.pre.spots)⟩
    refine⟨_,rfl,fl,_,rfl,.inr (SqT.of (sg4 _ _ hfa)),(M.h:Nat),by rw[aj,oq],by omega,by omega,?_⟩
    rw[b0]
    refine oj (lo:=0) (λdn σ' G5=>∃(y7 y8 y9:Option V) (kx:List KA) (ep:Nat),σ'=[some (.ref p),some (.ref fl),some (.ref D),some (.int (i:Nat)),some (.ref b),some (.int (n:Nat)),some (.ref fb),y7,y8,y9]/\Ex [D] J G5/\Same H G5/\DN w G5 D kx ep/\KeysAre kx (upto2 M ks es n i j es2 (dn*M.w))/\(kx.map (·.1)).Nodup) ?_ (λdn σ' G5 hdn h=>?_) (λσ' G5 h=>?_)
    .refine⟨_,_,_,kx4,ep4,rfl,ex,sg4,dn4,?_,nd4⟩
     unfold upto2
     rw[Nat.zero_mul]
     show KeysAre kx4 (_++[])
     rw[ck]
     exact hk4
    .obtain⟨y7,y8,y9,kx5,ep5,rfl,ex5,sg5,dn5,hk5,nd5⟩:=h
     have hat0:atI ((strsM M).map V.str) 0=some (.str ⟨(lineM M 0).toArray⟩):=ku (j:=0) (strs_ati h1)
     refine⟨_,rfl,fl,_,_,_,rfl,rfl,SqT.of (sg5 _ _ hfa),hat0,_,rfl,by rw[mj];exact w_line okM,(M.w:Nat),by rw[mj],by omega,by omega,?_⟩
     rw[b0]
     refine oj (lo:=0) (λrt σ' G6=>∃(y8 y9:Option V) (kx:List KA) (ep:Nat),σ'=[some (.ref p),some (.ref fl),some (.ref D),some (.int (i:Nat)),some (.ref b),some (.int (n:Nat)),some (.ref fb),some (.int (0+(dn:Nat))),y8,y9]/\Ex [D] J G6/\Same H G6/\DN w G6 D kx ep/\KeysAre kx (upto2 M ks es n i j es2 (dn*M.w+rt))/\(kx.map (·.1)).Nodup) ?_ (λrt σ' G6 hrt h=>?_) (λσ' G6 h=>?_)
     .exact⟨_,_,kx5,ep5,rfl,ex5,sg5,dn5,hk5,nd5⟩
     .obtain⟨y8,y9,kx6,ep6,rfl,ex6,sg6,dn6,hk6,nd6⟩:=h
      have htm:dn*M.w+rt+1<=M.h*M.w:=by
       have:(dn+1)*M.w<=M.h*M.w:=Nat.mul_le_mul_right _ hdn
       rw[Nat.add_mul,Nat.one_mul]at this
       omega
      refine read_spotT (sh1 (0+(dn:Nat)) (0+(rt:Nat))) rfl rfl (.inr (frm ex6).1) (frm ex6).2 hz2.pre.spots (by have:=hz2.pre.six;omega) (λr c z H' Q' h=>?_) (λr c z=>⟨_,_,rfl⟩) λD7 ys7 G7 hD7 s7 hDy7 rep7=>?_
      .obtain⟨u,v,e,q⟩:=h
       cases (show PyData.tuple [.int (r+(0+(dn:Nat))),.int (c+(0+(rt:Nat))),.str z]=.tuple [.int u,.int v,.str z]from e)
       exact⟨_,rfl,_,rfl,_,_,rfl,rfl,_,rfl,_,rfl,_,_,rfl,rfl,_,rfl,(by show 3<=sizeLine;decide),q⟩
      rw[ka,ka]at rep7
      have esh:shT M es2 (dn*M.w+rt)=.tuple (es2.map (sh1 ((dn:Nat):Int) ((rt:Nat):Int))):=by unfold shT;rw[div_at hrt,mod_at hrt]
      refine⟨D7,ys7,rfl,.inl ⟨SqL.of hDy7,λt8 ht8=>?_⟩⟩
      have s8:Same G7 (upd G7 t8 (.tup ys7)):=Same.fresh _ ht8
      have c8:upd G7 t8 (.tup ys7) t8=some (.tup ys7):=kh
      generalize upd G7 t8 (.tup ys7)=G8 at *
      have sB:=s7.trans s8
      refine⟨_,rfl,_,rfl,fl,t8,M,ys7,_,rfl,hfl.same (sg6.trans sB),c8,rep7.same s8,SgN.shs (zr_n hz2),by rw[sh_len];exact hz2.pre.six,λG9 s9=>⟨_,rfl,?_⟩⟩
      have sC:=sB.trans s9
      have ex9:=ex6.trans (Ex.of_same (W:=[D]) sC)
      have step:upto2 M ks es n i j es2 (dn*M.w+rt+1)=upto2 M ks es n i j es2 (dn*M.w+rt)++(if fitT M (shT M es2 (dn*M.w+rt))=true then[PyData.tuple [shT M es2 (dn*M.w+rt),.int (i:Nat)]]else[]):=by
       unfold upto2
       rw[plS_succ,cm,<-bf]
       congr 1
       split<;>rfl
      rw[<-esh]
      refine ite2 (λhq=>?_) (λhq=>?_)
      .refine⟨_,rfl,_,rfl,_,rfl,(by show 2<=sizeLine;decide),λt10 ht10=>?_⟩
       have s10:Same G9 (upd G9 t10 (.tup [.ref t8,.int (i:Nat)])):=Same.fresh _ ht10
       have c10:upd G9 t10 (.tup [.ref t8,.int (i:Nat)]) t10=some (.tup [.ref t8,.int (i:Nat)]):=kh
       generalize upd G9 t10 (.tup [.ref t8,.int (i:Nat)])=G10 at *
       have:=rlen j es2 (dn*M.w+rt) (by omega)
       have l6:=hk6.1
       have rt8:Rep G10 (shT M es2 (dn*M.w+rt)) (.ref t8):=by
        rw[esh]
        exact⟨t8,ys7,rfl,s10 _ _ (s9 _ _ c8),((rep7.same s8).same s9).same s10⟩
       have rK:KRep G10 (.tuple [shT M es2 (dn*M.w+rt),.int (i:Nat)]) t10:=pl_kr (rpl es2 _ hdm (by omega) hq) ⟨t10,_,rfl,c10,_,_,rfl,rt8,_,_,rfl,rfl,rfl⟩
       have dn10:=dn6.same (sC.trans s10)
       have lsz:kx6.length<sizeLine:=by rw[gi];omega
       refine⟨D,kx6,ep6,_,t10,rfl,rfl,dn10,rK,lsz,λep7=>?_⟩
       refine⟨_,_,_,ep7,rfl,(ex9.trans (Ex.of_same (W:=[D]) s10)).trans (Ex.upd (by simp)),((sg6.trans sC).trans s10).new hD,dn10.put rK lsz (.bl true) ep7,?_,put_keys nd6⟩
       rw[show dn*M.w+(rt+1)=dn*M.w+rt+1 from rfl,step,if_pos hq]
       exact hk6.put _ _ _
      .refine⟨_,_,kx6,ep6,rfl,ex9,sg6.trans sC,dn6.same sC,?_,nd6⟩
       rw[show dn*M.w+(rt+1)=dn*M.w+rt+1 from rfl,step,if_neg hq,ck]
       exact hk6
     .obtain⟨y8,y9,kx6,ep6,rfl,ex6,sg6,dn6,hk6,nd6⟩:=h
      refine⟨_,_,_,kx6,ep6,rfl,ex6,sg6,dn6,?_,nd6⟩
      rw[Nat.add_mul,Nat.one_mul]
      exact hk6
    .obtain⟨y7,y8,y9,kx5,ep5,rfl,ex5,sg5,dn5,hk5,nd5⟩:=h
     refine⟨_,_,_,_,kx5,ep5,rfl,ex5,sg5,dn5,?_,nd5⟩
     rw[flat_take hd,<-bf]
     exact hk5
   .obtain⟨y6,y7,y8,y9,kx4,ep4,rfl,ex,sg4,dn4,hk4,nd4⟩:=h
    rw[a7 (by omega)]at hk4
    exact⟨_,_,_,_,_,_,_,kx4,ep4,rfl,sg4,dn4,hk4,nd4⟩
  .refine⟨_,rfl,b,_,_,_,rfl,rfl,SqT.of hb2,ku (j:=3) rfl,rfl,_,rfl,?_⟩
   rcases hm with ⟨rfl,rfl⟩|⟨rfl,rfl⟩|⟨rfl,rfl⟩
   .rw[decide_eq_true rfl]
    exact iteF (hnx _ _ ⟨G2,rfl,rfl,Same.refl _⟩)
   .rw[decide_eq_false (show ¬V.str "turn" = V.str "still" from λz=>by injection z with z;exact absurd z (by decide +kernel))]
    refine iteT ?_
    refine⟨(by show 2<=sizeLine;decide),λL hL=>?_⟩
    generalize gg:upd G2 L _=G3 at *
    obtain⟨s3,e3⟩:=al hL gg
    clear gg
    refine⟨_,rfl,b,_,_,_,rfl,rfl,SqT.of (s3 _ _ hb2),ku (j:=3) rfl,rfl,.inr ⟨_,rfl,?_⟩⟩
    rw[decide_eq_false (show ¬V.str "turn" = V.str "flip" from λz=>by injection z with z;exact absurd z (by decide +kernel)),if_neg ah]
    exact⟨L,_,_,_,rfl,rfl,SqL.of e3,ku (j:=0) rfl,hnx _ _ ⟨G3,rfl,rfl,s3⟩⟩
   .rw[decide_eq_false (show ¬V.str "flip" = V.str "still" from λz=>by injection z with z;exact absurd z (by decide +kernel))]
    refine iteT ?_
    refine⟨(by show 2<=sizeLine;decide),λL hL=>?_⟩
    generalize gg:upd G2 L _=G3 at *
    obtain⟨s3,e3⟩:=al hL gg
    clear gg
    refine⟨_,rfl,b,_,_,_,rfl,rfl,SqT.of (s3 _ _ hb2),ku (j:=3) rfl,rfl,.inr ⟨_,rfl,?_⟩⟩
    rw[decide_eq_true rfl,if_pos rfl]
    exact⟨L,_,_,_,rfl,rfl,SqL.of e3,ku (j:=1) rfl,hnx _ _ ⟨G3,rfl,rfl,s3⟩⟩
 .obtain⟨y3,y4,y5,y6,y7,y8,y9,kx,ep,rfl,sg,dn,hkx,nd⟩:=h
  rw[hks.1]at hkx
  have hl:=rw2_len okM hKZ ks.length
  have hkl:=hkx.1
  have mem:∀d∈kx.map (·.1),PlD d:=λd hd=>by
   have:=(hkx.2 d).symm.trans (valN_mem.mpr hd)
   exact raw_pl hKZ d ((rw2_mem _ (ao _)).mp (of_decide_eq_true this))
  refine⟨_,rfl,D,kx,ep,rfl,dn,by omega,(λd hd=>(mem d hd).key),PlD.cmp mem,λl zs hl2 rz=>?_⟩
  rw[keys_PL w1 hKZ hkx nd]at rz
  exact q l zs _ (sg.trans (Same.fresh _ hl2)) (sg.free hl2) kh rz
end
theorem KindK.tk{H H':Hp}{v:V}{k:List PyData×Nat}(h:KindK H v k)(t:Tk H H'):KindK H' v k:=by
 obtain⟨b,nm,u1,u2,m,fr,xs,rfl,h1,h2,h3,h4,h5⟩:=h
 exact⟨b,nm,u1,u2,m,fr,xs,rfl,t _ _ h1,t _ _ h2,h3.tk t (Spots.imm h4.pre.spots),h4,h5⟩
theorem MostK.tk{H H':Hp}{kvs:List V}{ms:List (Option Int)}(h:MostK H kvs ms)(t:Tk H H'):MostK H' kvs ms:=⟨h.1,h.2.1,λi v m h1 h2=>by
 obtain⟨b,u0,u1,u3,u4,e,hb⟩:=h.2.2 i v m h1 h2
 exact⟨b,u0,u1,u3,u4,e,t _ _ hb⟩⟩
theorem ApT.tk{H H':Hp}{e:Addr}{ap:List (Nat×Nat)}(h:ApT H e ap)(t:Tk H H'):ApT H' e ap:=by
 obtain⟨avs,h1,h2,h3,h4⟩:=h
 refine⟨avs,t _ _ h1,h2.tk t (ng λd hd=>?_),h3,h4⟩
 obtain⟨p,_,rfl⟩:=bi.mp hd
 rfl
theorem PzA.tk{H H':Hp}{p:Addr}{M:Mat}{ks:List (List PyData×Nat)}{ms:List (Option Int)}{ap:List (Nat×Nat)}(h:PzA H p M ks ms ap)(t:Tk H H'):PzA H' p M ks ms ap:=by
 obtain⟨⟨fl,kr,e,kvs,a1,a2,a3,a4,a5⟩,kr',e',fl',kvs',h2,h3,h4,h5⟩:=h
 exact⟨⟨fl,kr,e,kvs,t _ _ a1,⟨t _ _ a2.1,a2.2⟩,t _ _ a3,⟨a4.1,λi v k h1 h2=>(a4.2 i v k h1 h2).tk t⟩,a5⟩,kr',e',fl',kvs',t _ _ h2,t _ _ h3,h4.tk t,h5.tk t⟩
theorem raw_num{M:Mat}{ks:List (List PyData×Nat)}{d:PyData}:∀j,j<=ks.length->d∈raw M ks j->∃(x:PyData) (i:Nat),i<j/\d=.tuple [x,.int (i:Nat)]
 | 0,_,h=>by cases h
 | j+1,hj,h=>by
  have hk:=ab (show j<ks.length by omega)
  rw[raw_succ hk]at h
  rcases bm.mp h with h|h
  .obtain⟨x,i,hi,e⟩:=raw_num j (by omega) h
   exact⟨x,i,by omega,e⟩
  .obtain⟨f,hf,h⟩:=fh.mp h
   unfold plN at h
   obtain⟨s,_,rfl⟩:=bi.mp h
   exact⟨s,j,by omega,rfl⟩
theorem PL_num{M:Mat}{ks:List (List PyData×Nat)}(hz:KsZ ks){d:PyData}(h:d∈PL M ks):∃(ss:List Sg) (n:Nat),d=plD ss (n:Nat)/\n<ks.length/\∀s∈ss,s.2.2<128:=by
 obtain⟨x,i,hi,e⟩:=raw_num _ (ao _) ((mh _).mem_iff.mp h)
 obtain⟨ss,n,rfl,_,hl⟩:=pl_of (PL_pl hz d h)
 have e':PyData.tuple [.tuple (ss.map sgD),.int n]=.tuple [x,.int (i:Nat)]:=e
 injection e' with e'
 injection e' with e1 e2
 injection e2 with e2 _
 injection e2 with e2
 subst e2
 exact⟨ss,i,rfl,hi,λs hs=>by have:=hl s hs;omega⟩
noncomputable def goB(ms:List (Option Int))(ap:List (Nat×Nat))(dl:List PyData)(d:PyData):Bool:=roomB ms dl d && !(dl.any λo=>clashB ap (mz d) (mz o))
theorem go_eq{M:Mat}{ks:List (List PyData×Nat)}{ms:List (Option Int)}{ap:List (Nat×Nat)}(h:∀p∈ap,p.1<=p.2)(dl:List PyData):goL M ks ms ap dl dl.length=(PL M ks).filter (goB ms ap dl):=by
 unfold goL
 rw[List.filter_filter,List.take_length]
 congr 1
 funext d
 unfold goB
 rw[hb_any h,Bool.and_comm]
structure LS(G:Hp)(st la so pz:Addr)(n:Int)(lvs sys:List V)(dl:List PyData)(M:Mat)(ks:List (List PyData×Nat))(ms:List (Option Int))(ap:List (Nat×Nat)):Prop where
 st:G st=some (.lst [.int n])
 la:G la=some (.lst lvs)
 so:G so=some (.lst sys)
 pz:PzA G pz M ks ms ap
 rl:RepAll G dl lvs
 rs:RepAll G (PL M ks) sys
section
variable{G G':Hp}{st la so pz c:Addr}{n n':Int}{lvs sys xs:List V}{dl:List PyData}{M:Mat}{ks:List (List PyData×Nat)}{ms:List (Option Int)}{ap:List (Nat×Nat)}{o:HO}
theorem LS.same(h:LS G st la so pz n lvs sys dl M ks ms ap)(s:Same G G'):LS G' st la so pz n lvs sys dl M ks ms ap:=⟨s _ _ h.st,s _ _ h.la,s _ _ h.so,h.pz.same s,h.rl.same s,h.rs.same s⟩
theorem LS.chg(h:LS G st la so pz n lvs sys dl M ks ms ap)(i1:mf dl=true)(i2:mf (PL M ks)=true)(hc:G c=some (.lst xs))(n1:st≠c)(n2:la≠c)(n3:so≠c):LS (upd G c o) st la so pz n lvs sys dl M ks ms ap:=
 ⟨by rw[kv n1];exact h.st,by rw[kv n2];exact h.la,by rw[kv n3];exact h.so,h.pz.tk (Tk.lst hc),h.rl.tk (Tk.lst hc) i1,h.rs.tk (Tk.lst hc) i2⟩
theorem LS.draw(h:LS G st la so pz n lvs sys dl M ks ms ap)(i1:mf dl=true)(i2:mf (PL M ks)=true)(n2:la≠st)(n3:so≠st)(g:upd G st (.lst [.int n'])=G'):LS G' st la so pz n' lvs sys dl M ks ms ap:=by
 subst g
 exact⟨kh,by rw[kv n2];exact h.la,by rw[kv n3];exact h.so,h.pz.tk (Tk.lst h.st),h.rl.tk (Tk.lst h.st) i1,h.rs.tk (Tk.lst h.st) i2⟩
end
set_option pp.maxSteps 3000
section
variable{P:Program}{w:World}{K:aq}{mg:Str->Option Value}{base:Heap}{f:Addr}{fd:FuncData}
noncomputable def spLaw(K:aq):Sp:=λvs H Q _=>∃(a:Addr) (ns:List Int),vs=[.ref a]/\SqL K H a (ns.map V.int)/\ns.length<=63/\∀H',Q (.bl true) H'
theorem scLaw:ky ["_law_script","_law_state","_law_puzzle_here","_law_some","_law_laid","_law_k","_law_handed","_law_found","_law_due"] ["_law_script"] (kq sLaw):=⟨rfl,rfl,rfl,by decide +kernel,rfl,by decide +kernel,by decide +kernel⟩
theorem ok_law(B:∀x∈blts,mg x=none)(Fseed:Fn P w K mg base "_law_seed" 1 ["_law_script"] (spSeed K))(Fnext:FnNext P w K mg base)(Flpz:Fn P w K mg base "_law_puzzle" 3 ["_law_state","_law_most"] spLpz)(Flpl:Fn P w K mg base "_law_places" 3 ["_law_puzzle_here"] spPlc)(Fgo:Fn P w K mg base "going" 7 ["puzzle","laid"] spGo)(Fgoes:Fn P w K mg base "_law_goes" 3 ["_law_puzzle_here","_law_laid","_law_placement"] spGoes)
  (F:Fun K "law" "law" sLaw f fd):FnOk P w K mg base CX0 8 f fd ["_law_script"] (spLaw K):=by
 refine F.ok (k:=7) scLaw (λvs H Q E h=>?_) (λcdv A outer s H vs Q E hr h=>?_)
 .obtain⟨_,_,rfl,_⟩:=h
  rfl
 obtain⟨a,ns,rfl,ha,h63,q⟩:=h
 have hu:=hr.units
 refine⟨_,(kc (k6 (i:=1) scLaw.nd rfl (Or.inl rfl) (ny (pa_c (pe_fn Fseed hr (by decide) rfl (pa_c (pv 0) kb)) kb)))
  (kc (k6 (i:=2) scLaw.nd rfl (Or.inr rfl) (pe_fn Flpz hr (by decide) rfl (pa_c (pv 1) (pa_c kg kb))))
  (kc (k6 (i:=3) scLaw.nd rfl (Or.inl rfl) (pe_fn Flpl hr (by decide) rfl (pa_c (pv 2) kb)))
  (kc (k6 (i:=4) scLaw.nd rfl (Or.inr rfl) (ny kb))
  (kc (m7 b7 rfl (pi_r1 rfl (B "range" (by decide)) (pa_c (pe_op nq kg (pe_fn Fnext hr (by decide) rfl (pa_c (pv 1) (pa_c kg kb)))) kb)) (ke (i:=5) scLaw.nd rfl (Or.inl rfl)) (kc (k6 (i:=6) scLaw.nd rfl (Or.inl rfl) (pe_cT call_list_of rfl (B "list" (by decide)) boot_list (pa_c (pv 4) kb)))
  (kc (k6 (i:=7) scLaw.nd rfl (Or.inl rfl) (pe_fn Fgo hr (by decide) rfl (pa_c (pv 2) (pa_c (pv 6) kb))))
  (kc (ps_setC (i:=8) ["_law_placement","_law_puzzle_here","_law_laid"] [none,some 2,some 4] scLaw.nd rfl (Or.inl rfl) rfl rfl rfl (by decide +kernel) (by decide +kernel) rfl rfl (lm (pv 3)) (λ_=>(ke (i:=0) (show(["_law_placement","_law_puzzle_here","_law_laid"]:List PySem.Str).Nodup by decide +kernel) rfl (Or.inl rfl))) (λ_=>pts_one (pt_val (pe_fn Fgoes hr (by decide) rfl (pa_c (pv 1) (pa_c (pv 2) (pa_c (pv 0) kb)))))) (λ_=>(pv 0)))
  (kc (ps_if (PW.pt (pw_or (pt_not (pt_val (pe_cB call_isinst rfl (B "isinstance" (by decide)) boot_isinstance (pa_c (pv 7) (pa_c (pe_bltn (v:=.ty "list") rfl (B "list" (by decide)) boot_list rfl) kb))))) (pw_or (l7 (op_neD hu) (pv 7) (pv 8) (m9 _)) (pw_or1 (l7 (op_neD hu) (pv 6) (pv 4) (m9 _)))))) (km (k7 pe_bl)) ni)
  (kc (ps_expr (pe_bm ff gv gw om (pv 7) (pa_c pe_non kb)))
  (kc (ps_if (l7 (op_neD hu) (pe_fn Fgo hr (by decide) rfl (pa_c (pv 2) (pa_c (pv 6) kb))) (pv 8) (m9 _)) (km (k7 pe_bl)) ni)
  (km (ps_if (l7 (op_neE hu) (pv 8) (ny kb) (m9 _)) (km (ps_expr (pe_bm ff gv gw om (pv 4) (pa_c (pe_ix nj (pv 8) (pe_fn Fnext hr (by decide) rfl (pa_c (pv 1) (pa_c (pe_cB m8 rfl (B "len" (by decide)) g0 (pa_c (pv 8) kb)) kb))) (λ_ _=>rfl)) kb)))) ni)))))))))
  (km (k7 pe_bl))))))),?_⟩
 refine⟨_,rfl,a,ns,rfl,ha,λn0=>⟨(by show 1<=sizeLine;decide),λst hst=>?_⟩⟩
 generalize g1:upd H st _=H1 at *
 obtain⟨s1,e1⟩:=al hst g1
 clear g1
 refine⟨_,rfl,st,n0,rfl,e1,λpz H2 n2 M ks ms ap x2 st2 hz hlen hap=>?_⟩
 obtain⟨fl,kr,e,kvs,b1,b2,b3,hks,hk6⟩:=id hz.1
 have hKZ:=hks.z
 have okM:=b2.2
 have hPL:=PL_pl (M:=M) hKZ
 have hrl:=raw_len okM hKZ ks.length
 have h30:(PL M ks).length<=3072:=by unfold PL;rw[sortE_length];omega
 have imP:∀{ds:List PyData},(∀d∈ds,d∈PL M ks)->mf ds=true:=λh=>PlD.imm λd hd=>hPL d (h d hd)
 have im2:=imP (ds:=PL M ks) λd hd=>hd
 refine⟨_,rfl,pz,M,ks,rfl,hz.1,λso sys H3 s3 hso0 hso repS=>?_⟩
 have nso:so≠st:=λz=>by rw[z,st2]at hso0;cases hso0
 refine⟨(by show 0<=sizeLine;decide),λla hla0=>?_⟩
 generalize g1:upd H3 la _=H4 at *
 obtain⟨s4,e4⟩:=al hla0 g1
 clear g1
 have nla:la≠st:=λz=>by rw[z,s3 _ _ st2]at hla0;cases hla0
 have nlso:so≠la:=λz=>by rw[<-z,hso]at hla0;cases hla0
 have L0:LS H4 st la so pz n2 [] sys [] M ks ms ap:=⟨(s3.trans s4) _ _ st2,e4,s4 _ _ hso,hz.same (s3.trans s4),rfl,repS.same s4⟩
 clear b1 b2 b3 hks hso0 hso repS e4 s4 s3 hz st2 x2 e1 s1 hst hla0
 refine⟨_,rfl,st,n2,8,rfl,L0.st,by decide,λn3 i3 h30' h31=>⟨_,_,rfl,rfl,?_⟩⟩
 generalize g1:upd H4 st _=H5 at *
 have L1:=L0.draw rfl im2 nla nso g1
 clear g1 L0
 obtain⟨kn,ekn,hk1,hk8⟩:∃kn:Nat,1+i3=((kn:Nat):Int)/\0<kn/\kn<=8:=⟨(1+i3).toNat,by omega,by omega,by omega⟩
 refine⟨(kn:Nat),congrArg (λz=>[V.int z]) ekn,by omega,by omega,?_⟩
 rw[b0]
 refine oj (lo:=0) (λi σ' G=>∃(y5 y6 y7 y8:Option V) (n:Int) (lvs:List V) (dl:List PyData),σ'=[some (.ref a),some (.ref st),some (.ref pz),some (.ref so),some (.ref la),y5,y6,y7,y8]/\LS G st la so pz n lvs sys dl M ks ms ap/\(∀d∈dl,d∈PL M ks)/\dl.length<=i) ?_ (λi σ' G hi h=>?_) (λσ' G h=>?_)
 .exact⟨_,_,_,_,n3,[],[],rfl,L1,(λd hd=>by cases hd),ao _⟩
 .obtain⟨y5,y6,y7,y8,n,lvs,dl,rfl,L,hml,hdl⟩:=h
  have im1:=imP hml
  have hPl:∀d∈dl,PlD d:=λd hd=>hPL d (hml d hd)
  have ll:=L.rl.length
  refine⟨_,rfl,la,lvs,rfl,.inl (SqL.of L.la),λhd hhd=>?_⟩
  generalize g1:upd G hd _=G1 at *
  obtain⟨s1,e1⟩:=al hhd g1
  clear g1
  replace L:=L.same s1
  refine⟨_,rfl,_,rfl,pz,hd,M,ks,ms,ap,lvs,dl,rfl,L.pz,hKZ,h30,e1,L.rl,hPl,by omega,λfo fys G2 s2 hfo0 hfo repF=>?_⟩
  rw[go_eq hap]at repF
  have nfs:st≠fo:=λz=>by rw[<-z,L.st]at hfo0;cases hfo0
  have nfl:la≠fo:=λz=>by rw[<-z,L.la]at hfo0;cases hfo0
  have nfo:so≠fo:=λz=>by rw[<-z,L.so]at hfo0;cases hfo0
  have nfh:hd≠fo:=λz=>by rw[<-z,e1]at hfo0;cases hfo0
  replace L:=L.same s2
  have e2:=s2 _ _ e1
  have lsy:=L.rs.length
  refine⟨_,rfl,so,rfl,⟨_,SqL.of L.so⟩,λdu hdu=>?_⟩
  have nuf:du≠fo:=λz=>by rw[z,hfo]at hdu;cases hdu
  have nus:du≠st:=λz=>by rw[z,L.st]at hdu;cases hdu
  have nul:du≠la:=λz=>by rw[z,L.la]at hdu;cases hdu
  refine lr (xs:=sys) (λi zs J=>Same G2 J/\zs=fzip (goB ms ap dl) (PL M ks) sys i) ⟨Same.fresh _ hdu,rfl⟩ (λi zs J p=>SqL.of (p.1 _ _ L.so)) (λi x zs J hx hi hDy hzl p=>?_) (λzs J hDy hzl p=>?_)
  .obtain⟨p1,rfl⟩:=p
   obtain⟨d,hd',rd⟩:=L.rs.at hx
   obtain⟨ss,m,rfl,hmk,hss⟩:=PL_num hKZ (am hd')
   obtain⟨px,_,rfl,_⟩:=id rd
   refine⟨Agree.set (Agree.refl _) rfl,?_⟩
   have LJ:=L.same p1
   refine⟨_,rfl,_,rfl,_,rfl,pz,la,px,M,ks,ms,ap,lvs,dl,ss,m,rfl,LJ.pz,LJ.la,LJ.rl,hPl,by omega,Rep.same p1 rd,hss,by omega,λJ2 s3=>⟨_,rfl,?_⟩⟩
   exact nx_if (p:=goB ms ap dl) (S:=λJ=>Same G2 J) (by omega) hd' hx (s3 _ _ hDy) hzl (p1.trans s3) ((p1.trans s3).new hdu) (by unfold goB;rw[spots_pl]) (λQ' h=>⟨_,rfl,h⟩)
  obtain⟨p1,rfl⟩:=p
  have repD:RepAll J ((PL M ks).filter (goB ms ap dl)) (fzip (goB ms ap dl) (PL M ks) sys sys.length):=(fzip_rep _ L.rs).same p1
  generalize fzip (goB ms ap dl) (PL M ks) sys sys.length=dys at *
  have hfm:∀d∈(PL M ks).filter (goB ms ap dl),d∈PL M ks:=λd hd=>(dv.mp hd).1
  have imF:=imP hfm
  have hFl:((PL M ks).filter (goB ms ap dl)).length<=3072:=gl (gy _ _) h30
  generalize hfd:(PL M ks).filter (goB ms ap dl)=fd at *
  have depF:(PyData.list fd).depth<=60:=by have:=PlD.depths (ds:=fd) λd hd=>hPL d (hfm d hd);simp[gu];omega
  have depL:(PyData.list dl).depth<=60:=by have:=PlD.depths hPl;simp[gu];omega
  have lF:=repF.length
  have lD:=repD.length
  replace L:=L.same p1
  have hfoJ:=p1 _ _ hfo
  have rF:Rep J (.list fd) (.ref fo):=⟨fo,fys,rfl,hfoJ,repF.same p1⟩
  have rD:Rep J (.list fd) (.ref du):=⟨du,dys,rfl,hDy,repD⟩
  have rH:Rep J (.list dl) (.ref hd):=⟨hd,lvs,rfl,p1 _ _ e2,L.rl⟩
  have rL:Rep J (.list dl) (.ref la):=⟨la,lvs,rfl,L.la,L.rl⟩
  refine⟨_,rfl,.ref fo,"list",.type "list",true,rfl,.lst hfoJ,rfl,true,rfl,iteF ?_⟩
  refine⟨_,rfl,_,rfl,.list fd,.list fd,rF,rD,depF,_,rfl,?_⟩
  refine ite2 (λh=>absurd h (by rw[if_pos rfl,SeqAt.eqv_refl _ rF.lay];decide)) (λ_=>?_)
  refine⟨_,rfl,_,rfl,.list dl,.list dl,rH,rL,depL,_,rfl,?_⟩
  refine ite2 (λh=>absurd h (by rw[if_pos rfl,SeqAt.eqv_refl _ rH.lay];decide)) (λ_=>?_)
  refine⟨_,rfl,.inl ⟨rfl,_,SqL.of hfoJ⟩,fo,fys,.non,rfl,rfl,hfoJ,by rw[gi];omega,?_⟩
  generalize g1:upd J fo _=J1 at *
  have L2:LS J1 st la so pz n lvs sys dl M ks ms ap:=by rw[<-g1];exact L.chg im1 im2 hfoJ nfs nfl nfo
  have du1:J1 du=some (.lst dys):=by rw[<-g1,kv nuf];exact hDy
  have hd1:J1 hd=some (.lst lvs):=by rw[<-g1,kv nfh];exact p1 _ _ e2
  have rD1:RepAll J1 fd dys:=by rw[<-g1];exact repD.tk (Tk.lst hfoJ) imF
  clear g1
  refine⟨_,rfl,_,rfl,pz,hd,M,ks,ms,ap,lvs,dl,rfl,L2.pz,hKZ,h30,hd1,L2.rl,hPl,by omega,λfo2 fys2 J2 s2' hfo2n hfo2 repF2=>?_⟩
  rw[go_eq hap,hfd]at repF2
  replace L2:=L2.same s2'
  have du2:=s2' _ _ du1
  have rD2:=rD1.same s2'
  have rF2:Rep J2 (.list fd) (.ref fo2):=⟨fo2,fys2,rfl,hfo2,repF2⟩
  refine⟨_,rfl,.list fd,.list fd,rF2,⟨du,dys,rfl,du2,rD2⟩,depF,_,rfl,?_⟩
  refine ite2 (λh=>absurd h (by rw[if_pos rfl,SeqAt.eqv_refl _ rF2.lay];decide)) (λ_=>?_)
  refine⟨_,rfl,(by show 0<=sizeLine;decide),λe0 he0=>?_⟩
  generalize g1:upd J2 e0 _=J3 at *
  obtain⟨s3,e3⟩:=al he0 g1
  clear g1
  replace L2:=L2.same s3
  have du3:=s3 _ _ du2
  have rD3:=rD2.same s3
  refine⟨du,e0,dys,rfl,rfl,du3,e3,_,rfl,ite2 (λhq=>?_) (λ_=>?_)⟩
  .have hpos:0<dys.length:=by
    cases hd':dys with
    | nil=>rw[hd']at hq;cases hq
    | cons a t=>exact Nat.succ_pos _
   refine⟨_,rfl,.inl ⟨rfl,_,SqL.of L2.la⟩,_,rfl,_,rfl,_,rfl,du,dys,rfl,.inl (SqL.of du3),st,n,_,rfl,L2.st,by omega,λn4 i4 h40 h41=>?_⟩
   obtain⟨j4,rfl⟩:=db h40
   have hj4:j4<dys.length:=by omega
   generalize g1:upd J3 st _=J4 at *
   have L4:=L2.draw im1 im2 nla nso g1
   have du4:J4 du=some (.lst dys):=by rw[<-g1,kv nus];exact du3
   have rD4:RepAll J4 fd dys:=by rw[<-g1];exact rD3.tk (Tk.lst L2.st) imF
   clear g1
   obtain⟨x,hx⟩:∃x,dys[j4]?=some x:=⟨_,ab hj4⟩
   obtain⟨d,hd',rd⟩:=rD4.at hx
   have hdm:=hfm d (am hd')
   refine⟨du,dys,_,x,rfl,rfl,SqL.of du4,ku hx,la,lvs,x,rfl,rfl,L4.la,l8 (by omega),?_⟩
   have hml':∀e∈dl++[d],e∈PL M ks:=λe he=>by
    rcases bm.mp he with h|h
    .exact hml e h
    .rw[ba.mp h];exact hdm
   refine⟨_,_,_,_,n4,lvs++[x],dl++[d],rfl,⟨?_,kh,?_,L4.pz.tk (Tk.lst L4.la),(L4.rl.snoc rd).tk (Tk.lst L4.la) (imP hml'),L4.rs.tk (Tk.lst L4.la) im2⟩,hml',by rw[bo,fw];omega⟩
   .rw[kv (Ne.symm nla)];exact L4.st
   .rw[kv nlso];exact L4.so
  .exact⟨_,_,_,_,n,lvs,dl,rfl,L2,hml,by omega⟩
 .exact q G
end
end K41
namespace K41
open PySem PyProof.Rows L2 L3
theorem dict_m{P:Program}{w:World}{K:aq}{mg:Str->Option Value}{aD:Addr}{u1 v1 u2 v2 u3 v3:Tok}{ep:Nat}(h:mg "TURNINGS_BY_MODE" = some (.ref aD))(ld:K.lookup aD=some ⟨.type "dict",none,.dict #[⟨hashStr w "still",.str "still" u1,.int 1 v1⟩,⟨hashStr w "turn",.str "turn" u2,.int 4 v2⟩,⟨hashStr w "flip",.str "flip" u3,.int 8 v3⟩] ep,#[]⟩):DictM P w K mg:=by
 refine⟨aD,_,[("still",.int 1 v1),("turn",.int 4 v2),("flip",.int 8 v3)],h,ld,⟨_,ep,⟨rfl,rfl,rfl⟩,rfl,λe he=>?_,?_,(show((["still","turn","flip"]:List Str).Nodup) by decide)⟩,λm n hm=>?_⟩
 .have he':e=⟨hashStr w "still",.str "still" u1,.int 1 v1⟩\/e=⟨hashStr w "turn",.str "turn" u2,.int 4 v2⟩\/e=⟨hashStr w "flip",.str "flip" u3,.int 8 v3⟩:=by simpa using he
  rcases he' with rfl|rfl|rfl
  .exact⟨"still",strKind_is P w _ u1,rfl⟩
  .exact⟨"turn",strKind_is P w _ u2,rfl⟩
  .exact⟨"flip",strKind_is P w _ u3,rfl⟩
 .exact .cons (strKind_is P w _ u1) rfl (.cons (strKind_is P w _ u2) rfl (.cons (strKind_is P w _ u3) rfl .nil))
 .rcases hm with ⟨rfl,rfl⟩|⟨rfl,rfl⟩|⟨rfl,rfl⟩
  .exact⟨v1,rfl⟩
  .exact⟨v2,rfl⟩
  .exact⟨v3,rfl⟩
theorem all_mk{l:PySem.W.OpenLaw}{w:World}{K:aq}{h:Heap}{mg:Str->Option Value}{fa:Addr}(X:K.In h)(G:h.Ns mainGlobals mg)(hfa:mg "law" = some (.ref fa))
  (d1:Df K "is_sign" sBig)
  (d2:Df K "is_small" sSmall)
  (d3:Df K "turned" sTd)
  (d4:Df K "mirrored" sMir)
  (d5:Df K "turned_right" sTr)
  (d6:Df K "forms_of" sForms)
  (d7:Df K "sign_at" sAt)
  (d8:Df K "is_open" sOpen)
  (d9:Df K "wanted" sWant)
  (d10:Df K "floor_spots" sSpots)
  (d11:Df K "around" sAro)
  (d12:Df K "placements" sPlc)
  (d13:Df K "places" sPla)
  (d14:Df K "shifted" sShf)
  (d15:Df K "may_lie" sMay)
  (d16:Df K "may_cover" sMcv)
  (d17:Df K "going" sGo)
  (d18:Df K "with_room" sWr)
  (d19:Df K "going_beside" sGb)
  (d20:Df K "barred_by" sBar)
  (d21:Df K "signs_apart" sSa)
  (d22:Df K "has_barred" sHb)
  (d23:Df K "_law_next" sNext)
  (d24:Df K "_law_seed" sSeed)
  (d25:Df K "_law_touch" sTou)
  (d26:Df K "_law_put" sPut)
  (d27:Df K "_law_form" sForm)
  (d28:Df K "_law_floor" sFloor)
  (d29:Df K "_law_puzzle" sLpz)
  (d30:Df K "_law_turned" sLt)
  (d31:Df K "_law_fits" sFits)
  (d32:Df K "_law_places" sLpl)
  (d33:Df K "_law_clash" sCla)
  (d34:Df K "_law_many" sMany)
  (d35:Df K "_law_goes" sGoes)
  (d36:Df K "law" sLaw)
  {aD:Addr} {u1 v1 u2 v2 u3 v3 tC:Tok} {ep:Nat} (yd:dz K mainGlobals "TURNINGS_BY_MODE" = some (some (.ref aD))) (ld:K.lookup aD=some ⟨.type "dict",none,.dict #[⟨hashStr w "still",.str "still" u1,.int 1 v1⟩,⟨hashStr w "turn",.str "turn" u2,.int 4 v2⟩,⟨hashStr w "flip",.str "flip" u3,.int 8 v3⟩] ep,#[]⟩) (yc:dz K mainGlobals "CLOSED" = some (some (.str "#" tC)))
  (z1:dz K mainGlobals "len" = some none) (z2:dz K mainGlobals "min" = some none) (z3:dz K mainGlobals "max" = some none) (z4:dz K mainGlobals "sorted" = some none) (z5:dz K mainGlobals "tuple" = some none) (z6:dz K mainGlobals "list" = some none) (z7:dz K mainGlobals "isinstance" = some none) (z8:dz K mainGlobals "bool" = some none) (z9:dz K mainGlobals "range" = some none) (z10:dz K mainGlobals "str" = some none) (z11:dz K mainGlobals "int" = some none) (z12:dz K mainGlobals "enumerate" = some none) (z13:dz K mainGlobals "all" = some none) (z14:dz K mainGlobals "any" = some none) (z15:dz K mainGlobals "set" = some none) (z16:dz K mainGlobals "abs" = some none) :
  ∃fd:FuncData,(∀(s:Shared) (v:Value),BindsTo s fd ⟨[v],[]⟩ [("_law_script",v)])/\∀base:Heap,K.In base->base.Ns mainGlobals mg->FnOk l.prog w K mg base CX0 8 fa fd ["_law_script"] (spLaw K):=by
 obtain⟨f,fd,a,F⟩:=d36
 cases hfa.symm.trans (PySem.W.mg_of X G a)
 have B:∀x∈blts,mg x=none:=by
  intro x hx
  simp only[blts,ax,iu,or_false]at hx
  rcases hx with rfl|rfl|rfl|rfl|rfl|rfl|rfl|rfl|rfl|rfl|rfl|rfl|rfl|rfl|rfl|rfl
  .exact cw X G z1
  .exact cw X G z2
  .exact cw X G z3
  .exact cw X G z4
  .exact cw X G z5
  .exact cw X G z6
  .exact cw X G z7
  .exact cw X G z8
  .exact cw X G z9
  .exact cw X G z10
  .exact cw X G z11
  .exact cw X G z12
  .exact cw X G z13
  .exact cw X G z14
  .exact cw X G z15
  .exact cw X G z16
 obtain⟨oc,od,kV,doc,pm,an,cdv,ct,osl,rfl,lk,hcd⟩:=id F.ex
 refine⟨jz "law" "law" (defArgs sLaw) (defBody sLaw) (kq sLaw) .none kV doc pm an cdv ct,λs v=>.of_eq rfl,λbase _ _=>?_⟩
 have dm:DictM l.prog w K mg:=dict_m (PySem.W.mg_of X G yd) ld
 have gC:GS mg "CLOSED" "#":=⟨_,PySem.W.mg_of X G yc⟩
 have bg:=d1.fn (P:=l.prog) (w:=w) (base:=base) X G (ok_big B)
 have sm:=d2.fn (P:=l.prog) (w:=w) (base:=base) X G (ok_small B)
 have mi:=d4.fn (P:=l.prog) (w:=w) (base:=base) X G (ok_mir B)
 have tr:=d5.fn (P:=l.prog) (w:=w) (base:=base) X G (ok_tr B)
 have td:=d3.fn (P:=l.prog) (w:=w) (base:=base) X G (ok_td B mi tr)
 have fo:=d6.fn (P:=l.prog) (w:=w) (base:=base) X G (ok_forms B dm td)
 have ta:=d7.fn (P:=l.prog) (w:=w) (base:=base) X G (ok_at B gC)
 have op:=d8.fn (P:=l.prog) (w:=w) (base:=base) X G (ok_open gC ta)
 have wa:=d9.fn (P:=l.prog) (w:=w) (base:=base) X G (ok_want ta bg sm)
 have sp:=d10.fn (P:=l.prog) (w:=w) (base:=base) X G (ok_spots B)
 have mc:=d16.fn (P:=l.prog) (w:=w) (base:=base) X G (ok_mcv op wa)
 have ml:=d15.fn (P:=l.prog) (w:=w) (base:=base) X G (ok_mayl B mc)
 have sh:=d14.fn (P:=l.prog) (w:=w) (base:=base) X G (ok_shf B)
 have pl:=d13.fn (P:=l.prog) (w:=w) (base:=base) X G (ok_pla B sp sh ml)
 have pc:=d12.fn (P:=l.prog) (w:=w) (base:=base) X G (ok_plc B fo pl)
 have ar:=d11.fn (P:=l.prog) (w:=w) (base:=base) X G (ok_aro)
 have sa:=d21.fn (P:=l.prog) (w:=w) (base:=base) X G (ok_sa)
 have bb:=d20.fn (P:=l.prog) (w:=w) (base:=base) X G (ok_bar ar sa)
 have hb:=d22.fn (P:=l.prog) (w:=w) (base:=base) X G (ok_hb B)
 have gb:=d19.fn (P:=l.prog) (w:=w) (base:=base) X G (ok_gb bb hb)
 have wr:=d18.fn (P:=l.prog) (w:=w) (base:=base) X G (ok_wr B)
 have go:=d17.fn (P:=l.prog) (w:=w) (base:=base) X G (ok_go pc wr gb)
 have nx:=d23.fn (P:=l.prog) (w:=w) (base:=base) X G (ok_next)
 have sd:=d24.fn (P:=l.prog) (w:=w) (base:=base) X G (ok_seed)
 have to:=d25.fn (P:=l.prog) (w:=w) (base:=base) X G (ok_tou B)
 have pu:=d26.fn (P:=l.prog) (w:=w) (base:=base) X G (ok_put B)
 have fm:=d27.fn (P:=l.prog) (w:=w) (base:=base) X G (ok_form B nx pu)
 have fl:=d28.fn (P:=l.prog) (w:=w) (base:=base) X G (ok_floor B nx)
 have lz:=d29.fn (P:=l.prog) (w:=w) (base:=base) X G (ok_lpz B nx fm fl)
 have lt:=d30.fn (P:=l.prog) (w:=w) (base:=base) X G (ok_lt B pu)
 have ft:=d31.fn (P:=l.prog) (w:=w) (base:=base) X G (ok_fits B)
 have lp:=d32.fn (P:=l.prog) (w:=w) (base:=base) X G (ok_lpl B lt ft)
 have cl:=d33.fn (P:=l.prog) (w:=w) (base:=base) X G (ok_cla B to)
 have ma:=d34.fn (P:=l.prog) (w:=w) (base:=base) X G (ok_many B)
 have gs:=d35.fn (P:=l.prog) (w:=w) (base:=base) X G (ok_goes B ma cl)
 exact ok_law B sd nx lz lp go gs F
theorem walk{l:PySem.W.OpenLaw}{q:Program}{loose:List Str}{XP:(Str->Option Value)->Heap->Prop}{YP:World->Heap->Prop}{d:DefRec}{K:Params->aq}(hn:l.most=some 63)(hdf:d.params.defaults=[])
  (hY:∀(w:World) (h:Heap),YP w h->(K w.params).In h)
  (F:∀(w:World) (mg:Str->Option Value) (fa:Addr) (h:Heap),(K w.params).In h->h.Ns mainGlobals mg->mg d.name=some (.ref fa)->
   ∃fd:FuncData,(∀(s:Shared) (u:Value),BindsTo s fd ⟨[u],[]⟩ [("_law_script",u)])/\∀base:Heap,(K w.params).In base->base.Ns mainGlobals mg->FnOk l.prog w (K w.params) mg base CX0 8 fa fd ["_law_script"] (spLaw (K w.params))) :
  PySem.W.WalkO q loose XP YP l.row.toRowW d [] (λf vs=>PySem.call f vs):=
 L2.walk_of (n:=63) (k:=8) (x:="_law_script") (CX:=λ_=>CX0) (sp:=λw=>spLaw (K w.params)) hn (by decide) hdf ⟨rfl,by decide,by decide⟩ hY F (λ_ _ a ns hl _ hS=>⟨a,ns,rfl,hS,hl,λ_=>rfl⟩) λ_ _ _ _ _ z=>z
end K41
open PySem PySem.W PyProof.Rows
set_option maxRecDepth 100000 in
set_option maxHeartbeats 0 in
theorem PySem.Challenge.cw_coverpieces_k41_going_holds : PySem.Challenge.rw_coverpieces_k41_going.Holds := by
 refine K41.hd ⟨K41.left,?_⟩
 k_fill
 refine K41.walk (l:=PySem.Challenge.rw_coverpieces_k41_going) rfl rfl (λw h Y=>PySem.W.kIn_of Y) ?F
 case F=>
  intro w mg fa h KX G hmg
  refine' K41.all_mk KX G hmg ?d1 ?d2 ?d3 ?d4 ?d5 ?d6 ?d7 ?d8 ?d9 ?d10 ?d11 ?d12 ?d13 ?d14 ?d15 ?d16 ?d17 ?d18 ?d19 ?d20 ?d21 ?d22 ?d23 ?d24 ?d25 ?d26 ?d27 ?d28 ?d29 ?d30 ?d31 ?d32 ?d33 ?d34 ?d35 ?d36 ?yd ?ld ?yc ?z1 ?z2 ?z3 ?z4 ?z5 ?z6 ?z7 ?z8 ?z9 ?z10 ?z11 ?z12 ?z13 ?z14 ?z15 ?z16
  case d1|d2|d3|d4|d5|d6|d7|d8|d9|d10|d11|d12|d13|d14|d15|d16|d17|d18|d19|d20|d21|d22|d23|d24|d25|d26|d27|d28|d29|d30|d31|d32|d33|d34|d35|d36=>refine' L3.df_mk ?a ?l ?c ?k;(case a=>k_is);(case l=>k_is);(case c=>k_is);(case k=>k_is)
  case yd=>k_is
  case ld=>k_is
  case yc=>k_is
  case z1|z2|z3|z4|z5|z6|z7|z8|z9|z10|z11|z12|z13|z14|z15|z16=>k_is
