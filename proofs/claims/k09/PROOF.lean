import PyProof.Rows.All
import Wide.All
import OpenK.AllK
import Wide.FinOn
import Lean
import PyProof.EqAt
import PyProof.EqKinds
import PyProof.TupleCall
import KE.KSortTup
import PyProof.CompFree
import PyProof.P3Eq
import PyProof.P3In
import PyProof.NeData
import PyProof.WalkInts
import PyProof.Rows.MinMaxN
import PyProof.StrWalks
import PyProof.StrBlockH
import PyProof.StrLawsIn
import PyProof.FString5
import PyProof.StrOps2
import PyProof.ListStr
import PyProof.ConsumeWalk
import PyProof.Rows.StrJoin2
import PyProof.EnumMake
import PyProof.EnumFor
import PyProof.LayNew
import PyProof.Rows.EnumRows
import PyProof.StrCalls
import PyProof.Rows.StrCase
import PyProof.Rows.StrAscii2
import PyProof.Rows.StrFit
import PyProof.IsRules
import PyProof.AutoListH
import PyProof.FactsAll.list_3
import PySem.SetTable
import PySem.SetOps
import PyProof.SetKind
import PyProof.TupleKey
import PyProof.DictKinds
import PyProof.Rows.SetFrom
import PyProof.CollectWalk
import PyProof.Seq
import PyProof.SetRoads
import PyProof.Walk
import PyProof.WalkLemmas
import PyProof.NeKinds
import PyProof.MinMaxWalk
import PyProof.DictRoads
import PyProof.Rows.SetObj
import PyProof.Rows.TupAdd
import PySem.Challenge.RW_coverpieces_k09_puzzles_told
set_option Elab.async false
set_option linter.all false
set_option maxRecDepth 100000
set_option maxHeartbeats 8000000
theorem x_EE{α0:Sort u0}{α1:Sort u1}{t:α0->α1->Prop}(x0:α0)(x1:α1)(h:t x0 x1):∃x0,∃x1,t x0 x1:=⟨x0,x1,h⟩
theorem x_EAE{α0:Sort u0}{α1:Sort u1}{p0:α0->Prop}{t:α0->α1->Prop}(x0:α0)(h0:p0 x0)(x1:α1)(h:t x0 x1):∃x0,p0 x0/\∃x1,t x0 x1:=⟨x0,h0,x1,h⟩
theorem x_EEE{α0:Sort u0}{α1:Sort u1}{α2:Sort u2}{t:α0->α1->α2->Prop}(x0:α0)(x1:α1)(x2:α2)(h:t x0 x1 x2):∃x0,∃x1,∃x2,t x0 x1 x2:=⟨x0,x1,x2,h⟩
theorem x_EAAE{α0:Sort u0}{α1:Sort u1}{p0:α0->Prop}{p1:α0->Prop}{t:α0->α1->Prop}(x0:α0)(h0:p0 x0)(h1:p1 x0)(x1:α1)(h:t x0 x1):∃x0,p0 x0/\p1 x0/\∃x1,t x0 x1:=⟨x0,h0,h1,x1,h⟩
theorem x_EAEE{α0:Sort u0}{α1:Sort u1}{α2:Sort u2}{p0:α0->Prop}{t:α0->α1->α2->Prop}(x0:α0)(h0:p0 x0)(x1:α1)(x2:α2)(h:t x0 x1 x2):∃x0,p0 x0/\∃x1,∃x2,t x0 x1 x2:=⟨x0,h0,x1,x2,h⟩
theorem x_EEEE{α0:Sort u0}{α1:Sort u1}{α2:Sort u2}{α3:Sort u3}{t:α0->α1->α2->α3->Prop}(x0:α0)(x1:α1)(x2:α2)(x3:α3)(h:t x0 x1 x2 x3):∃x0,∃x1,∃x2,∃x3,t x0 x1 x2 x3:=⟨x0,x1,x2,x3,h⟩
theorem x_EEEEE{α0:Sort u0}{α1:Sort u1}{α2:Sort u2}{α3:Sort u3}{α4:Sort u4}{t:α0->α1->α2->α3->α4->Prop}(x0:α0)(x1:α1)(x2:α2)(x3:α3)(x4:α4)(h:t x0 x1 x2 x3 x4):∃x0,∃x1,∃x2,∃x3,∃x4,t x0 x1 x2 x3 x4:=⟨x0,x1,x2,x3,x4,h⟩
theorem x_EAEEEE{α0:Sort u0}{α1:Sort u1}{α2:Sort u2}{α3:Sort u3}{α4:Sort u4}{p0:α0->Prop}{t:α0->α1->α2->α3->α4->Prop}(x0:α0)(h0:p0 x0)(x1:α1)(x2:α2)(x3:α3)(x4:α4)(h:t x0 x1 x2 x3 x4):∃x0,p0 x0/\∃x1,∃x2,∃x3,∃x4,t x0 x1 x2 x3 x4:=⟨x0,h0,x1,x2,x3,x4,h⟩
theorem x_EAEEAAE{α0:Sort u0}{α1:Sort u1}{α2:Sort u2}{α3:Sort u3}{p0:α0->Prop}{p1:α0->α1->α2->Prop}{p2:α0->α1->α2->Prop}{t:α0->α1->α2->α3->Prop}(x0:α0)(h0:p0 x0)(x1:α1)(x2:α2)(h1:p1 x0 x1 x2)(h2:p2 x0 x1 x2)(x3:α3)(h:t x0 x1 x2 x3):∃x0,p0 x0/\∃x1,∃x2,p1 x0 x1 x2/\p2 x0 x1 x2/\∃x3,t x0 x1 x2 x3:=⟨x0,h0,x1,x2,h1,h2,x3,h⟩
theorem x_EAEAEEAAE{α0:Sort u0}{α1:Sort u1}{α2:Sort u2}{α3:Sort u3}{α4:Sort u4}{p0:α0->Prop}{p1:α0->α1->Prop}{p2:α0->α1->α2->α3->Prop}{p3:α0->α1->α2->α3->Prop}{t:α0->α1->α2->α3->α4->Prop}(x0:α0)(h0:p0 x0)(x1:α1)(h1:p1 x0 x1)(x2:α2)(x3:α3)(h2:p2 x0 x1 x2 x3)(h3:p3 x0 x1 x2 x3)(x4:α4)(h:t x0 x1 x2 x3 x4):∃x0,p0 x0/\∃x1,p1 x0 x1/\∃x2,∃x3,p2 x0 x1 x2 x3/\p3 x0 x1 x2 x3/\∃x4,t x0 x1 x2 x3 x4:=⟨x0,h0,x1,h1,x2,x3,h2,h3,x4,h⟩
theorem x_EEAAAEEAE{α0:Sort u0}{α1:Sort u1}{α2:Sort u2}{α3:Sort u3}{α4:Sort u4}{p0:α0->α1->Prop}{p1:α0->α1->Prop}{p2:α0->α1->Prop}{p3:α0->α1->α2->α3->Prop}{t:α0->α1->α2->α3->α4->Prop}(x0:α0)(x1:α1)(h0:p0 x0 x1)(h1:p1 x0 x1)(h2:p2 x0 x1)(x2:α2)(x3:α3)(h3:p3 x0 x1 x2 x3)(x4:α4)(h:t x0 x1 x2 x3 x4):∃x0,∃x1,p0 x0 x1/\p1 x0 x1/\p2 x0 x1/\∃x2,∃x3,p3 x0 x1 x2 x3/\∃x4,t x0 x1 x2 x3 x4:=⟨x0,x1,h0,h1,h2,x2,x3,h3,x4,h⟩
theorem x_EEAAEEAAE{α0:Sort u0}{α1:Sort u1}{α2:Sort u2}{α3:Sort u3}{α4:Sort u4}{p0:α0->α1->Prop}{p1:α0->α1->Prop}{p2:α0->α1->α2->α3->Prop}{p3:α0->α1->α2->α3->Prop}{t:α0->α1->α2->α3->α4->Prop}(x0:α0)(x1:α1)(h0:p0 x0 x1)(h1:p1 x0 x1)(x2:α2)(x3:α3)(h2:p2 x0 x1 x2 x3)(h3:p3 x0 x1 x2 x3)(x4:α4)(h:t x0 x1 x2 x3 x4):∃x0,∃x1,p0 x0 x1/\p1 x0 x1/\∃x2,∃x3,p2 x0 x1 x2 x3/\p3 x0 x1 x2 x3/\∃x4,t x0 x1 x2 x3 x4:=⟨x0,x1,h0,h1,x2,x3,h2,h3,x4,h⟩
namespace L3
open PySem PySem.W PySem.Calls PyProof.Rows
noncomputable def runT{α:Type}(lt:Nat->Nat->Bool):KasT α->α
 | .ret a=>a
 | .ask i j k=>runT lt (k (lt i j))
noncomputable def PostT{α:Type}(n:Nat)(P:α->Prop):KasT α->Prop
 | .ret a=>P a
 | .ask i j k=>i<n/\j<n/\∀b,PostT n P (k b)
theorem PostT.bind{α β:Type}{n:Nat}{P:α->Prop}{P':β->Prop}{f:α->KasT β}:∀{t:KasT α},PostT n P t->(∀a,P a->PostT n P' (f a))->PostT n P' (t.bind f)
 | .ret a,h,hf=>hf a h
 | .ask i j k,h,hf=>⟨h.1,h.2.1,fun b=>PostT.bind (h.2.2 b) hf⟩
theorem PostT.run{α:Type}{n:Nat}{P:α->Prop}(lt:Nat->Nat->Bool):∀{t:KasT α},PostT n P t->P (runT lt t)
 | .ret a,h=>h
 | .ask i j k,h=>PostT.run (n:=n) (P:=P) (t:=k (lt i j)) lt (h.2.2 (lt i j))
theorem PostT.wp{α:Type}{n:Nat}{P:α->Prop}{lt:Nat->Nat->Bool}{cmp:Nat->Nat->(Bool->Shared->Prop)->Shared->Prop}{s:Shared}(hc:∀i j (C:Bool->Shared->Prop),i<n->j<n->C (lt i j) s->cmp i j C s){Q:α->Shared->Prop} :
  ∀{t:KasT α},PostT n P t->Q (runT lt t) s->t.kasWp cmp Q s
 | .ret a,_,q=>q
 | .ask i j k,h,q=>hc i j _ h.1 h.2.1 (PostT.wp hc (h.2.2 _) q)
noncomputable def OkP(n:Nat)(p:Array Nat):Prop:=p.size=n/\∀x∈p,x<n
theorem OkP.get{n:Nat}{p:Array Nat}(h:OkP n p)(hn:0<n)(i:Nat):p.getD i 0<n:=by
 by_cases hi:i<p.size
 .have e:p.getD i 0=p[i]:=by simp[Array.getD,hi]
  rw[e];exact h.2 _ (Array.getElem_mem hi)
 .have e:p.getD i 0=0:=by simp[Array.getD,hi]
  rw[e];exact hn
theorem OkP.perm{n:Nat}{p q:Array Nat}(h:OkP n p)(e:q.Perm p):OkP n q:=⟨e.size_eq.trans h.1,fun x hx=>h.2 x (e.mem_iff.mp hx)⟩
theorem OkP.rev{n:Nat}{p:Array Nat}(h:OkP n p)(i j:Nat):OkP n (kas_rev p i j):=h.perm (mirror_perm _ _ _ _)
theorem OkP.bub{n:Nat}{p:Array Nat}(h:OkP n p)(i j:Nat):OkP n (bubble p i j):=h.perm (bubble_perm _ _ _)
section
variable{n:Nat}
theorem post_asc(hn:0<n){p:Array Nat}(hp:OkP n p):∀(f m:Nat),PostT n (fun _=>True) (kas_asc p f m)
 | 0,m=>trivial
 | f+1,m=>⟨hp.get hn _,hp.get hn _,fun b=>by
   cases b with
   | true=>exact trivial
   | false=>exact post_asc hn hp f (m+1)⟩
theorem post_desc(hn:0<n):∀(f:Nat) (p:Array Nat) (m q:Nat),OkP n p->PostT n (fun r:Array Nat×Nat×Nat=>OkP n r.1) (kas_desc f p m q)
 | 0,p,m,q,hp=>hp
 | f+1,p,m,q,hp=>⟨hp.get hn _,hp.get hn _,fun b=>by
   cases b with
   | true=>
    show PostT n _ (if q>0 then _ else _)
    split
    .exact post_desc hn f _ _ _ (hp.rev _ _)
    .exact post_desc hn f _ _ _ hp
   | false=>
    refine⟨hp.get hn _,hp.get hn _,fun b=>?_⟩
    cases b with
    | true=>exact hp
    | false=>exact post_desc hn f _ _ _ hp⟩
theorem post_tail3(hn:0<n){m r:Nat}{p:Array Nat}(hp:OkP n p):PostT n (fun r:Nat×Array Nat=>OkP n r.2) (kas_tail3 m r p):=
 PostT.bind (post_asc hn (hp.rev _ _) _ _) fun _ _=>hp.rev _ _
theorem post_descPart(hn:0<n){m r:Nat}{p:Array Nat}(hp:OkP n p):PostT n (fun r:Nat×Array Nat=>OkP n r.2) (kas_descPart m r p):=
 PostT.bind (post_desc hn _ _ _ _ hp) fun a ha=>by
  split
  .exact post_tail3 hn (ha.rev _ _)
  .exact post_tail3 hn ha
theorem post_count(hn:0<n){r:Nat}{p:Array Nat}(hp:OkP n p):PostT n (fun r:Nat×Array Nat=>OkP n r.2) (kas_count r p):=
 PostT.bind (post_asc hn hp _ _) fun a _=>by
  split
  .exact hp
  .split
   .refine⟨hp.get hn _,hp.get hn _,fun b=>?_⟩
    cases b with
    | true=>exact hp
    | false=>exact post_descPart hn (hp.rev _ _)
   .exact post_descPart hn hp
theorem post_place(hn:0<n){p:Array Nat}(hp:OkP n p)(k:Nat):∀(f l r:Nat),PostT n (fun _=>True) (kas_place p k f l r)
 | 0,l,r=>trivial
 | f+1,l,r=>by
  unfold kas_place
  split
  .exact trivial
  .refine⟨hp.get hn _,hp.get hn _,fun b=>?_⟩
   cases b with
   | true=>exact post_place hn hp k f _ _
   | false=>exact post_place hn hp k f _ _
theorem post_bin(hn:0<n):∀(f:Nat) (p:Array Nat) (k:Nat),OkP n p->PostT n (OkP n) (kas_bin f p k)
 | 0,p,k,hp=>hp
 | f+1,p,k,hp=>PostT.bind (post_place hn hp k _ _ _) fun l _=>post_bin hn f _ _ (hp.bub _ _)
theorem post_sort(hn:0<n):PostT n (OkP n) (kas_sort n):=by
 have h0:OkP n (List.toArray (List.range n)):=⟨by simp,fun x hx=>by simpa using hx⟩
 refine PostT.bind (post_count hn h0) fun a ha=>?_
 split
 .exact post_bin hn _ _ _ ha
 .exact ha
end
noncomputable def srt(lt:Nat->Nat->Bool)(n:Nat):List Nat:=if n<2 then List.range n else(runT lt (kas_sort n)).toList
theorem srt_length(lt:Nat->Nat->Bool)(n:Nat):(srt lt n).length=n:=by
 unfold srt
 split
 .simp
 .have h:=PostT.run lt (post_sort (n:=n) (by omega))
  simpa using h.1
theorem srt_lt(lt:Nat->Nat->Bool)(n:Nat):∀i∈srt lt n,i<n:=by
 unfold srt
 split
 .intro i hi;simpa using hi
 .have h:=PostT.run lt (post_sort (n:=n) (by omega))
  intro i hi
  exact h.2 i (by simpa using hi)
theorem two_short(vs:List Value):(vs.toArray.zip vs.toArray).map (·.2)=List.toArray ((List.range vs.length).map fun i=>vs.getD i Value.none):=by
 apply Array.ext
 .simp
 .intro i h1 h2
  have hi:i<vs.length:=by simpa using h1
  simp[hi]
section
variable{prog:Program}{w:World}{A:Around}{E:Value->Shared->Prop}{s:Shared}
theorem list_sort_by{a:Addr}{vs:List Value}{n:Nat}{κ:SortKind}{lt:Nat->Nat->Bool}{P:PySem.Fin->Shared->Prop}(ho:s.heap.get? a=some (seqObj "list" vs.toArray n))(h64:vs.length<64)
  (hk:2<=vs.length->∀s':Shared,(∀b o,b≠a->s.heap.get? b=some o->s'.heap.get? b=some o)->
   (∀(Q:SortKind->Shared->Prop) (E:Value->Shared->Prop),Q κ s'->wpAny (model prog w) A (keyKind' vs.toArray) Q E s')/\
   ∀i j,i<vs.length->j<vs.length->∀(Q:Bool->Shared->Prop),Q (lt i j) s'->wpAny (model prog w) A (keyLt' κ (vs.getD i Value.none) (vs.getD j Value.none)) Q (fun _ _=>False) s')
  (h:P (.done (.ret .none)) {s with heap:=sortedHeap s.heap a vs (List.toArray ((srt lt vs.length).map fun i=>vs.getD i Value.none))}) :
  wpAny (model prog w) A (Builtin.«list.sort» ⟨[.ref a],[]⟩) P E s:=by
 have ha:a<s.heap.objs.size:=Heap.lt_size ho
 obtain⟨e1,ho1⟩:∃e1,(s.heap.update a (Obj.mapSeq fun _=>(#[]:Array Value))).get? a=some (seqObj "list" #[] e1):=⟨_,get?_update_seq ho fun _=>#[]⟩
 have ho6:(((s.heap.update a (Obj.mapSeq fun _=>(#[]:Array Value))).push (seqObj "tuple" vs.toArray 0)).push (seqObj "list" #[] 0)).get? a=some (seqObj "list" #[] e1):=
  Heap.get?_push_of_some _ (Heap.get?_push_of_some _ ho1)
 have kept:∀b o,b≠a->s.heap.get? b=some o->(((s.heap.update a (Obj.mapSeq fun _=>(#[]:Array Value))).push (seqObj "tuple" vs.toArray 0)).push (seqObj "list" #[] 0)).get? b=some o:=fun b o hb e=>
  Heap.get?_push_of_some _ (Heap.get?_push_of_some _ ((Heap.get?_update_other s.heap _ (Ne.symm hb)).trans e))
 have hsl:(srt lt vs.length).length=vs.length:=srt_length _ _
 rw[list_sort_plain]
 refine wpAny_bind (listItems_at ho rfl ?_)
 refine wpAny_bind (listUpdate_at ho rfl ?_ (by rw[List.size_toArray,sizeLine_eq];omega) (Nat.zero_le _))
 refine wpAny_bind (seqEpoch_at ho1 rfl ?_)
 refine wpAny_bind (wpAny_newTuple ?_ (by show vs.length<=_;rw[sizeLine_eq];omega))
 refine wpAny_bind (wpAny_newList ?_ (Nat.zero_le _))
 refine wpAny_holding ?_
 show wpAny (model prog w) A _ P E {s with heap:=((s.heap.update a (Obj.mapSeq fun _=>(#[]:Array Value))).push (seqObj "tuple" vs.toArray 0)).push (seqObj "list" #[] 0)}
 dsimp only
 by_cases h2:vs.toArray.size<2
 .have h2':vs.length<2:=by simpa using h2
  rw[if_pos h2,if_pos h2]
  refine wpAny_bind (wpAny_pure ?_)
  rw[StateT.run_pure]
  refine wpAny_bind (wpAny_pure ?_)
  dsimp only
  have e0:(arrOf (SortSt.mk' general' (vs.toArray.zip vs.toArray) #[] 7 none)).map (·.2)=List.toArray ((srt lt vs.length).map fun i=>vs.getD i Value.none):=by
   show(vs.toArray.zip vs.toArray).map (·.2)=_
   unfold srt
   rw[if_pos h2']
   exact two_short vs
  rw[e0]
  refine wpAny_bind (seqEpoch_at ho6 rfl ?_)
  refine wpAny_bind (listUpdate_at ho6 rfl ?_ (Nat.zero_le _) (by rw[List.size_toArray,List.length_map,hsl,sizeLine_eq];omega))
  simp only[bne_self_eq_false,Bool.false_eq_true,if_false]
  exact wpAny_pure h
 .have h2':2<=vs.length:=by have:¬vs.length<2:=by simpa using h2
                            omega
  rw[if_neg h2,if_neg h2]
  obtain⟨k1,k2⟩:=hk h2' {s with heap:=((s.heap.update a (Obj.mapSeq fun _=>(#[]:Array Value))).push (seqObj "tuple" vs.toArray 0)).push (seqObj "list" #[] 0)} kept
  refine wpAny_bind (k1 _ _ ?_)
  have tree:=(post_sort (n:=vs.length) (by omega)).wp (lt:=lt) (cmp:=kas_ask prog w A κ vs) (s:={s with heap:=((s.heap.update a (Obj.mapSeq fun _=>(#[]:Array Value))).push (seqObj "tuple" vs.toArray 0)).push (seqObj "list" #[] 0)})
   (Q:=fun p s'=>p=runT lt (kas_sort vs.length)/\s'={s with heap:=((s.heap.update a (Obj.mapSeq fun _=>(#[]:Array Value))).push (seqObj "tuple" vs.toArray 0)).push (seqObj "list" #[] 0)})
   (fun i j C hi hj hC=>k2 i j hi hj C hC) ⟨rfl,rfl⟩
  refine wpAny_bind (wpAny_mono (kat_run (E:=E) (Q:=fun st' s'=>(arrOf st').map (·.2)=List.toArray ((srt lt vs.length).map fun i=>vs.getD i Value.none)/\failedOf st'=none/\s'={s with heap:=((s.heap.update a (Obj.mapSeq fun _=>(#[]:Array Value))).push (seqObj "tuple" vs.toArray 0)).push (seqObj "list" #[] 0)})
   rfl h2' h64 (fun p st' s' _ b2 b3 b4=>?_) tree) ?_ fun _ _ e=>e)
  .refine⟨?_,b3,b4.2⟩
   rw[kat_snds rfl b2,b4.1]
   unfold srt
   rw[if_neg (by omega)]
  .rintro⟨⟨⟩,st'⟩ s' ⟨hout,hf,rfl⟩
   dsimp only at hout hf⊢
   rw[hout]
   refine wpAny_bind (seqEpoch_at ho6 rfl ?_)
   refine wpAny_bind (listUpdate_at ho6 rfl ?_ (Nat.zero_le _) (by rw[List.size_toArray,List.length_map,hsl,sizeLine_eq];omega))
   rw[hf]
   simp only[bne_self_eq_false,Bool.false_eq_true,if_false]
   exact wpAny_pure h
theorem sorted_by{l:Addr}{vs:List Value}{κ:SortKind}{lt:Nat->Nat->Bool}{Q:Value->Shared->Prop}(hl:s.heap.IsList l vs.toArray)(h64:vs.length<64)
  (hk:2<=vs.length->∀s':Shared,(∀b o,s.heap.get? b=some o->s'.heap.get? b=some o)->
   (∀(Q:SortKind->Shared->Prop) (E:Value->Shared->Prop),Q κ s'->wpAny (model prog w) A.in1.in1 (keyKind' vs.toArray) Q E s')/\
   ∀i j,i<vs.length->j<vs.length->∀(Q:Bool->Shared->Prop),Q (lt i j) s'->wpAny (model prog w) A.in1.in1 (keyLt' κ (vs.getD i Value.none) (vs.getD j Value.none)) Q (fun _ _=>False) s')
  (h:Q (.ref (s.heap.objs.size+1)) {s with heap:=sortedAll s.heap vs (List.toArray ((srt lt vs.length).map fun i=>vs.getD i Value.none))}) :
  wpAny (model prog w) A (call (.builtin "sorted") [.ref l]) Q E s:=by
 refine Calls.call_function_entry kind_sorted plain_sorted entry_sorted (args_sorted1 _) ?_
 unfold Builtin.«sorted»
 refine wpAny_bind (m:=checkCount "sorted" 1 1 _) (wpAny_pure ?_)
 refine wpAny_bind (collect_list hl ?_ (by rw[sizeLine_eq];omega))
 refine wpAny_bind (wpAny_newList ?_ (by rw[sizeLine_eq];omega))
 have hsz:((s.heap.push (seqObj "list" #[] 0)).update s.heap.objs.size (Obj.mapSeq (· ++ vs.toArray))).objs.size=s.heap.objs.size+1:=by
  rw[Heap.size_update,size_push']
 have hoL:(((s.heap.push (seqObj "list" #[] 0)).update s.heap.objs.size (Obj.mapSeq (· ++ vs.toArray))).push (seqObj "list" vs.toArray 0)).get? (s.heap.objs.size+1)=some (seqObj "list" vs.toArray 0):=by
  rw[<-hsz];exact Heap.get?_push_size _ rfl
 have keep:∀b o,s.heap.get? b=some o->(((s.heap.push (seqObj "list" #[] 0)).update s.heap.objs.size (Obj.mapSeq (· ++ vs.toArray))).push (seqObj "list" vs.toArray 0)).get? b=some o:=fun b o q=>by
  have hlt:b<s.heap.objs.size:=Heap.lt_size q
  exact Heap.get?_push_of_some _ ((Heap.get?_update_other _ _ (Ne.symm (Nat.ne_of_lt hlt))).trans (Heap.get?_push_of_some _ q))
 show wpAny _ _ _ _ _ {s with heap:=((s.heap.push (seqObj "list" #[] 0)).update s.heap.objs.size (Obj.mapSeq (· ++ vs.toArray))).push (seqObj "list" vs.toArray 0)}
 rw[hsz]
 refine wpAny_bind (wpAny_holding (wpAny_call_entry slot_list_sort ⟨_,hoL,rfl⟩ entry_list_sort ?body (args_list_sort _)))
 case body=>
  refine list_sort_by (κ:=κ) (lt:=lt) hoL h64 (fun h2 s' k=>hk h2 s' fun b o e=>k b o (Nat.ne_of_lt (Nat.lt_succ_of_lt (Heap.lt_size e))) (keep b o e)) ?_
  exact⟨_,rfl,wpAny_pure ⟨_,rfl,h⟩⟩
end
structure Ord(lt:Nat->Nat->Bool):Prop where
 asy:∀a b,lt a b=true->lt b a=false
 tr:∀a b c,lt b a=false->lt c b=false->lt c a=false
theorem runT_bind{α β:Type}(lt:Nat->Nat->Bool)(f:α->KasT β):∀t:KasT α,runT lt (t.bind f)=runT lt (f (runT lt t))
 | .ret a=>rfl
 | .ask i j k=>runT_bind lt f (k (lt i j))
section
variable{lt:Nat->Nat->Bool}
noncomputable def Up(lt:Nat->Nat->Bool)(p:Array Nat)(hi:Nat):Prop:=∀i j,i<=j->j<hi->lt (p.getD j 0) (p.getD i 0)=false
noncomputable def Dn(lt:Nat->Nat->Bool)(p:Array Nat)(hi:Nat):Prop:=∀i j,i<=j->j<hi->lt (p.getD i 0) (p.getD j 0)=false
theorem Ord.irr(o:Ord lt)(a:Nat):lt a a=false:=by
 cases h:lt a a with
 | false=>rfl
 | true=>rw[<-h];exact o.asy a a h
theorem Up.one(o:Ord lt)(p:Array Nat):Up lt p 1:=fun i j h1 h2=>by
 have e1:i=0:=by omega
 have e2:j=0:=by omega
 rw[e1,e2];exact o.irr _
theorem Dn.one(o:Ord lt)(p:Array Nat):Dn lt p 1:=fun i j h1 h2=>by
 have e1:i=0:=by omega
 have e2:j=0:=by omega
 rw[e1,e2];exact o.irr _
theorem Up.more(o:Ord lt){p:Array Nat}{n:Nat}(h:Up lt p n)(hn:0<n)(h1:lt (p.getD n 0) (p.getD (n-1) 0)=false):Up lt p (n+1):=fun i j h2 h3=>by
 by_cases e:j=n
 .subst e
  by_cases e2:i=j
  .rw[e2];exact o.irr _
  .exact o.tr _ _ _ (h i (j-1) (by omega) (by omega)) h1
 .exact h i j h2 (by omega)
theorem Dn.more(o:Ord lt){p:Array Nat}{n:Nat}(h:Dn lt p n)(hn:0<n)(h1:lt (p.getD (n-1) 0) (p.getD n 0)=false):Dn lt p (n+1):=fun i j h2 h3=>by
 by_cases e:j=n
 .subst e
  by_cases e2:i=j
  .rw[e2];exact o.irr _
  .exact o.tr _ _ _ h1 (h i (j-1) (by omega) (by omega))
 .exact h i j h2 (by omega)
theorem run_asc(o:Ord lt){p:Array Nat}:∀(f n:Nat),0<n->Up lt p n->n<=runT lt (kas_asc p f n)/\runT lt (kas_asc p f n)<=n+f/\Up lt p (runT lt (kas_asc p f n))/\(runT lt (kas_asc p f n)<n+f->lt (p.getD (runT lt (kas_asc p f n)) 0) (p.getD (runT lt (kas_asc p f n)-1) 0)=true)
 | 0,n,hn,h=>⟨Nat.le_refl _,Nat.le_refl _,h,fun z=>absurd z (Nat.lt_irrefl _)⟩
 | f+1,n,hn,h=>by
  show n<=runT lt (if lt (p.getD n 0) (p.getD (n-1) 0)=true then _ else _)/\runT lt (if lt (p.getD n 0) (p.getD (n-1) 0)=true then _ else _)<=n+(f+1)/\Up lt p (runT lt (if lt (p.getD n 0) (p.getD (n-1) 0)=true then _ else _))/\_
  cases c:lt (p.getD n 0) (p.getD (n-1) 0)with
  | true=>
   rw[show kas_asc p (f+1) n=.ask (p.getD n 0) (p.getD (n-1) 0) fun c=>if c=true then .ret n else kas_asc p f (n+1)from rfl]
   simp only[runT,c,if_true]
   exact⟨Nat.le_refl _,by omega,h,fun _=>trivial⟩
  | false=>
   rw[show kas_asc p (f+1) n=.ask (p.getD n 0) (p.getD (n-1) 0) fun c=>if c=true then .ret n else kas_asc p f (n+1)from rfl]
   simp only[runT,c,Bool.false_eq_true,if_false]
   have ih:=run_asc o (p:=p) f (n+1) (by omega) (h.more o hn c)
   exact⟨by omega,by omega,ih.2.2.1,fun z=>ih.2.2.2 (by omega)⟩
theorem getD_eq{p q:Array Nat}{i j:Nat}(h:p[i]?=q[j]?):p.getD i 0=q.getD j 0:=by
 rw[Array.getD_eq_getD_getElem?,Array.getD_eq_getD_getElem?,h]
theorem rev_at{p:Array Nat}{i j:Nat}(hj:j<=p.size)(k:Nat):(kas_rev p i j).getD k 0=if i<=k/\k<j then p.getD (i+j-1-k) 0 else p.getD k 0:=by
 have e:=getElem?_mirror_all (xs:=p) (i:=i) hj k
 split
 .rename_i h
  rw[if_pos h]at e
  exact getD_eq e
 .rename_i h
  rw[if_neg h]at e
  exact getD_eq e
theorem rev_size(p:Array Nat)(i j:Nat):(kas_rev p i j).size=p.size:=mirror_size _ _ _ _
theorem Dn.rev{p:Array Nat}{n:Nat}(hn:n<=p.size)(h:Dn lt p n):Up lt (kas_rev p 0 n) n:=fun i j h1 h2=>by
 rw[rev_at hn,rev_at hn,if_pos ⟨Nat.zero_le _,h2⟩,if_pos ⟨Nat.zero_le _,by omega⟩]
 exact h _ _ (by omega) (by omega)
theorem Up.rev{p:Array Nat}{n:Nat}(hn:n<=p.size)(h:Up lt p n):Dn lt (kas_rev p 0 n) n:=fun i j h1 h2=>by
 rw[rev_at hn,rev_at hn,if_pos (show 0<=i/\i<n by omega),if_pos (show 0<=j/\j<n by omega)]
 exact h _ _ (by omega) (by omega)
noncomputable def Eqs(lt:Nat->Nat->Bool)(p:Array Nat)(lo hi:Nat):Prop:=∀i j,lo<=i->i<hi->lo<=j->j<hi->lt (p.getD i 0) (p.getD j 0)=false
theorem Dn.revEq(o:Ord lt){p:Array Nat}{lo n:Nat}(hn:n<=p.size)(hl:lo<n)(h:Dn lt p n)(e:Eqs lt p lo n):Dn lt (kas_rev p lo n) n:=fun i j h1 h2=>by
 rw[rev_at hn,rev_at hn]
 split<;>split
 .exact e _ _ (by omega) (by omega) (by omega) (by omega)
 .omega
 .exact h _ _ (by omega) (by omega)
 .exact h _ _ h1 h2
theorem run_desc(o:Ord lt){N:Nat}:∀(f:Nat) (p:Array Nat) (n q:Nat),p.size=N->n+f<=N->q<n->Dn lt p n->Eqs lt p (n-(q+1)) n->
  (runT lt (kas_desc f p n q)).1.size=N/\n<=(runT lt (kas_desc f p n q)).2.1/\(runT lt (kas_desc f p n q)).2.1<=n+f/\(runT lt (kas_desc f p n q)).2.2<(runT lt (kas_desc f p n q)).2.1/\
   Dn lt (runT lt (kas_desc f p n q)).1 (runT lt (kas_desc f p n q)).2.1/\Eqs lt (runT lt (kas_desc f p n q)).1 ((runT lt (kas_desc f p n q)).2.1-((runT lt (kas_desc f p n q)).2.2+1)) (runT lt (kas_desc f p n q)).2.1
 | 0,p,n,q,hp,hf,hq,h,e=>⟨hp,Nat.le_refl _,Nat.le_refl _,hq,h,e⟩
 | f+1,p,n,q,hp,hf,hq,h,e=>by
  have one:∀(p':Array Nat) (m:Nat),Eqs lt p' (m-(0+1)) m:=fun p' m i j h1 h2 h3 h4=>by
   have:i=j:=by omega
   rw[this];exact o.irr _
  have un:kas_desc (f+1) p n q=.ask (p.getD n 0) (p.getD (n-1) 0) fun c=>if c=true then(if q>0 then kas_desc f (kas_rev p (n-(q+1)) n) (n+1) 0 else kas_desc f p (n+1) 0)
    else .ask (p.getD (n-1) 0) (p.getD n 0) fun d=>if d=true then .ret (p,n,q)else kas_desc f p (n+1) (q+1):=rfl
  cases c:lt (p.getD n 0) (p.getD (n-1) 0)with
  | true=>
   have c':=o.asy _ _ c
   by_cases hq0:q>0
   .have er:runT lt (kas_desc (f+1) p n q)=runT lt (kas_desc f (kas_rev p (n-(q+1)) n) (n+1) 0):=by
     rw[un];simp only[runT,c,if_true,if_pos hq0]
    rw[er]
    have h':Dn lt (kas_rev p (n-(q+1)) n) (n+1):=(h.revEq o (by omega) (by omega) e).more o (by omega) (by
     rw[rev_at (by omega),rev_at (by omega),if_pos (by omega),if_neg (by omega)]
     exact o.tr _ _ _ c' (e _ _ (by omega) (by omega) (by omega) (by omega)))
    have ih:=run_desc o (N:=N) f (kas_rev p (n-(q+1)) n) (n+1) 0 (by rw[rev_size];exact hp) (by omega) (by omega) h' (one _ _)
    exact⟨ih.1,by omega,by omega,ih.2.2.2.1,ih.2.2.2.2.1,ih.2.2.2.2.2⟩
   .have er:runT lt (kas_desc (f+1) p n q)=runT lt (kas_desc f p (n+1) 0):=by
     rw[un];simp only[runT,c,if_true,if_neg hq0]
    rw[er]
    have ih:=run_desc o (N:=N) f p (n+1) 0 hp (by omega) (by omega) (h.more o (by omega) c') (one _ _)
    exact⟨ih.1,by omega,by omega,ih.2.2.2.1,ih.2.2.2.2.1,ih.2.2.2.2.2⟩
  | false=>
   cases d:lt (p.getD (n-1) 0) (p.getD n 0)with
   | true=>
    have er:runT lt (kas_desc (f+1) p n q)=(p,n,q):=by
     rw[un];simp only[runT,c,d,if_true,Bool.false_eq_true,if_false]
    rw[er]
    exact⟨hp,Nat.le_refl _,by show n<=n+(f+1);omega,hq,h,e⟩
   | false=>
    have er:runT lt (kas_desc (f+1) p n q)=runT lt (kas_desc f p (n+1) (q+1)):=by
     rw[un];simp only[runT,c,d,Bool.false_eq_true,if_false]
    rw[er]
    have e':Eqs lt p (n+1-(q+1+1)) (n+1):=fun i j h1 h2 h3 h4=>by
     by_cases ei:i=n
     .by_cases ej:j=n
      .rw[ei,ej];exact o.irr _
      .rw[ei];exact o.tr _ _ _ (e _ _ (by omega) (by omega) (by omega) (by omega)) c
     .by_cases ej:j=n
      .rw[ej];exact o.tr _ _ _ d (e _ _ (by omega) (by omega) (by omega) (by omega))
      .exact e _ _ (by omega) (by omega) (by omega) (by omega)
    have ih:=run_desc o (N:=N) f p (n+1) (q+1) hp (by omega) (by omega) (h.more o (by omega) d) e'
    exact⟨ih.1,by omega,by omega,ih.2.2.2.1,ih.2.2.2.2.1,ih.2.2.2.2.2⟩
noncomputable def Run(lt:Nat->Nat->Bool)(N:Nat)(r:Nat×Array Nat):Prop:=r.2.size=N/\0<r.1/\r.1<=N/\Up lt r.2 r.1
theorem run_tail3(o:Ord lt){N n:Nat}{p:Array Nat}(hp:p.size=N)(hn:0<n)(hN:n<=N)(h:Dn lt p n):Run lt N (runT lt (kas_tail3 n N p)):=by
 have e:runT lt (kas_tail3 n N p)=(runT lt (kas_asc (kas_rev p 0 n) (N-n) n),kas_rev p 0 n):=by
  unfold kas_tail3
  rw[runT_bind]
  rfl
 rw[e]
 have a:=run_asc o (p:=kas_rev p 0 n) (N-n) n hn (h.rev (by omega))
 exact⟨by rw[rev_size];exact hp,by have:=a.1;show 0<_;omega,by have:=a.2.1;show _<=N;omega,a.2.2.1⟩
theorem run_descPart(o:Ord lt){N n:Nat}{p:Array Nat}(hp:p.size=N)(hN:n+1<=N)(h:Dn lt p (n+1)):Run lt N (runT lt (kas_descPart n N p)):=by
 unfold kas_descPart
 rw[runT_bind]
 have d:=run_desc o (N:=N) (N-(n+1)) p (n+1) 0 hp (by omega) (by omega) h (fun i j h1 h2 h3 h4=>by
  have:i=j:=by omega
  rw[this];exact o.irr _)
 generalize runT lt (kas_desc (N-(n+1)) p (n+1) 0)=r at *
 obtain⟨d1,d2,d3,d4,d5,d6⟩:=d
 split
 .exact run_tail3 o (by rw[rev_size];exact d1) (by omega) (by omega) (d5.revEq o (by omega) (by omega) d6)
 .exact run_tail3 o d1 (by omega) (by omega) d5
theorem run_count(o:Ord lt){N:Nat}{p:Array Nat}(hp:p.size=N)(hN:0<N):Run lt N (runT lt (kas_count N p)):=by
 unfold kas_count
 rw[runT_bind]
 have a:=run_asc o (p:=p) (N-1) 1 (by omega) (Up.one o p)
 generalize runT lt (kas_asc p (N-1) 1)=n at *
 obtain⟨a1,a2,a3,a4⟩:=a
 split
 .exact⟨hp,a1,by show n<=N;omega,a3⟩
 .rename_i hne
  have hne':n≠N:=by simpa using hne
  have hlt:=a4 (by omega)
  split
  .rename_i h1
   show Run lt N (runT lt (if lt (p.getD 0 0) (p.getD (n-1) 0)=true then _ else _))
   split
   .exact⟨hp,a1,by show n<=N;omega,a3⟩
   .rename_i hc
    refine run_descPart o (by rw[rev_size];exact hp) (by omega) ((a3.rev (by omega)).more o (by omega) ?_)
    rw[rev_at (by omega),rev_at (by omega),if_pos (by omega),if_neg (by omega)]
    have e0:0+n-1-(n-1)=0:=by omega
    rw[e0]
    exact o.tr _ _ _ (o.asy _ _ hlt) (by simpa using hc)
  .have e1:n=1:=by omega
   subst e1
   exact run_descPart o hp (by omega) ((Dn.one o p).more o (by omega) (o.asy _ _ hlt))
theorem run_place(o:Ord lt){p:Array Nat}{k:Nat}(h:Up lt p k):∀(f l r:Nat),l<=r->r<=k->r-l<=f->(∀i,i<l->lt (p.getD k 0) (p.getD i 0)=false)->(∀i,r<=i->i<k->lt (p.getD k 0) (p.getD i 0)=true)->
  runT lt (kas_place p k f l r)<=k/\(∀i,i<runT lt (kas_place p k f l r)->lt (p.getD k 0) (p.getD i 0)=false)/\(∀i,runT lt (kas_place p k f l r)<=i->i<k->lt (p.getD k 0) (p.getD i 0)=true)
 | 0,l,r,h1,h2,h3,h4,h5=>⟨by show l<=k;omega,h4,fun i z=>h5 i (by have:l<=i:=z;omega)⟩
 | f+1,l,r,h1,h2,h3,h4,h5=>by
  unfold kas_place
  split
  .exact⟨by show l<=k;omega,h4,fun i z=>h5 i (by have:l<=i:=z;omega)⟩
  .rename_i hlr
   have hm1:l<=(l+r)/2:=by omega
   have hm2:(l+r)/2<r:=by omega
   generalize (l+r)/2=m at *
   cases c:lt (p.getD k 0) (p.getD m 0)with
   | true=>
    simp only[runT,c,if_true]
    refine run_place o h f l m hm1 (by omega) (by omega) h4 (fun i z1 z2=>?_)
    cases d:lt (p.getD k 0) (p.getD i 0)with
    | true=>rfl
    | false=>
     have:=o.tr _ _ _ (h m i z1 z2) d
     rw[c]at this;cases this
   | false=>
    simp only[runT,c,Bool.false_eq_true,if_false]
    exact run_place o h f (m+1) r (by omega) h2 (by omega) (fun i z=>o.tr _ _ _ (h i m (by omega) (by omega)) c) h5
theorem bub_at{p:Array Nat}{k l:Nat}(hk:k<p.size)(hl:l<=k)(i:Nat):(bubble p k (k-l)).getD i 0=if i=l then p.getD k 0 else if l<i/\i<=k then p.getD (i-1) 0 else p.getD i 0:=by
 have e:=getElem?_bubble hk (k-l) (by omega) i
 have e2:k-(k-l)=l:=by omega
 rw[e2]at e
 by_cases h:i=l
 .rw[if_pos h]at e⊢
  exact getD_eq e
 .rw[if_neg h]at e⊢
  by_cases h2:l<i/\i<=k
  .rw[if_pos h2]at e⊢
   exact getD_eq e
  .rw[if_neg h2]at e⊢
   exact getD_eq e
theorem run_bin(o:Ord lt){N:Nat}:∀(f:Nat) (p:Array Nat) (k:Nat),p.size=N->k+f<=N->Up lt p k->(runT lt (kas_bin f p k)).size=N/\Up lt (runT lt (kas_bin f p k)) (k+f)
 | 0,p,k,hp,hf,h=>⟨hp,h⟩
 | f+1,p,k,hp,hf,h=>by
  have e:runT lt (kas_bin (f+1) p k)=runT lt (kas_bin f (bubble p k (k-runT lt (kas_place p k k 0 k))) (k+1)):=by
   show runT lt ((kas_place p k k 0 k).bind _)=_
   rw[runT_bind]
  rw[e]
  obtain⟨l1,l2,l3⟩:=run_place o h k 0 k (by omega) (Nat.le_refl _) (by omega) (fun i z=>by omega) (fun i z1 z2=>by omega)
  generalize runT lt (kas_place p k k 0 k)=l at *
  have up:Up lt (bubble p k (k-l)) (k+1):=fun i j h1 h2=>by
   rw[bub_at (by omega) l1,bub_at (by omega) l1]
   by_cases ei:i=l
   .by_cases ej:j=l
    .rw[if_pos ej,if_pos ei];exact o.irr _
    .rw[if_neg ej,if_pos ei,if_pos (by omega)]
     exact o.asy _ _ (l3 _ (by omega) (by omega))
   .by_cases ej:j=l
    .rw[if_pos ej,if_neg ei,if_neg (by omega)]
     exact l2 _ (by omega)
    .rw[if_neg ej,if_neg ei]
     split<;>split
     .exact h _ _ (by omega) (by omega)
     .exact h _ _ (by omega) (by omega)
     .omega
     .exact h _ _ (by omega) (by omega)
  have ih:=run_bin o (N:=N) f (bubble p k (k-l)) (k+1) (by rw[bubble_size];exact hp) (by omega) up
  have e3:k+(f+1)=k+1+f:=by omega
  rw[e3]
  exact ih
theorem run_sort(o:Ord lt){N:Nat}(hN:0<N):(runT lt (kas_sort N)).size=N/\Up lt (runT lt (kas_sort N)) N:=by
 unfold kas_sort
 rw[runT_bind]
 have c:=run_count o (N:=N) (p:=List.toArray (List.range N)) (by simp) hN
 generalize runT lt (kas_count N (List.toArray (List.range N)))=r at *
 obtain⟨c1,c2,c3,c4⟩:=c
 split
 .have e:max r.1 1=r.1:=by omega
  rw[e]
  have b:=run_bin o (N:=N) (N-r.1) r.2 r.1 c1 (by omega) c4
  have e2:r.1+(N-r.1)=N:=by omega
  rw[e2]at b
  exact b
 .have e:r.1=N:=by omega
  rw[e]at c4
  exact⟨c1,c4⟩
end
end L3
namespace L2
open PySem PySem.Spec PyProof.Rows
noncomputable abbrev Key:=Sum Int Str
noncomputable def keyIs:Key->Value->Bool
 | .inl k,v=>Value.isInt k v
 | .inr x,v=>Value.isStrOf x v
noncomputable def keyH(w:World):Key->Int
 | .inl k=>hashInt k
 | .inr x=>hashStr w x
theorem keyIs_shape:∀{k:Key} {v:Value},keyIs k v=true->(∃i t,k=Sum.inl i/\v=Value.int i t)\/(∃x t,k=Sum.inr x/\v=Value.str x t)
 | .inl i,v,h=>by
  obtain⟨t,e⟩:=Value.isInt_shape (k:=i) (v:=v) h
  exact .inl ⟨i,t,rfl,e⟩
 | .inr x,v,h=>by
  obtain⟨t,e⟩:=Value.isStrOf_shape (x:=x) (v:=v) h
  exact .inr ⟨x,t,rfl,e⟩
theorem key_ll(a b:Int):decide ((Sum.inl a:Key)=Sum.inl b)=(a==b):=by
 by_cases e:a=b
 .subst e;simp
 .have h:¬(Sum.inl a:Key)=Sum.inl b:=fun q=>e (Sum.inl.inj q)
  rw[decide_eq_false h]
  exact(beq_eq_false_iff_ne.mpr e).symm
theorem key_rr(a b:Str):decide ((Sum.inr a:Key)=Sum.inr b)=decide (a=b):=by
 by_cases e:a=b
 .subst e;simp
 .have h:¬(Sum.inr a:Key)=Sum.inr b:=fun q=>e (Sum.inr.inj q)
  rw[decide_eq_false h,decide_eq_false e]
theorem key_lr(a:Int)(b:Str):decide ((Sum.inl a:Key)=Sum.inr b)=false:=decide_eq_false (fun q=>nomatch q)
theorem key_rl(a:Str)(b:Int):decide ((Sum.inr a:Key)=Sum.inl b)=false:=decide_eq_false (fun q=>nomatch q)
noncomputable def mixKind(prog:Program)(w:World):PySem.KeyKind prog w Key where
 is:=keyIs
 hash:=keyH w
 inj:=fun v a b ha hb=>by
  rcases keyIs_shape ha with ⟨i,t,rfl,rfl⟩|⟨x,t,rfl,rfl⟩
  .rcases keyIs_shape hb with ⟨j,u,rfl,e⟩|⟨y,u,rfl,e⟩
   .injection e with e1 _;rw[e1]
   .exact nomatch e
  .rcases keyIs_shape hb with ⟨j,u,rfl,e⟩|⟨y,u,rfl,e⟩
   .exact nomatch e
   .injection e with e1 _;rw[e1]
 byValue:=fun k v h=>by
  rcases keyIs_shape h with ⟨i,t,rfl,rfl⟩|⟨x,t,rfl,rfl⟩<;>rfl
 pyHash:=fun hv h=>by
  rcases keyIs_shape hv with ⟨i,t,rfl,rfl⟩|⟨x,t,rfl,rfl⟩
  .exact wpAny_pyHash_int h
  .exact wpAny_pyHash_str h
 eqBool:=fun hu hv h=>by
  rcases keyIs_shape hu with ⟨i,t,rfl,rfl⟩|⟨x,t,rfl,rfl⟩
  .rcases keyIs_shape hv with ⟨j,u,rfl,rfl⟩|⟨y,u,rfl,rfl⟩
   .rw[key_ll]at h;exact wpAny_eqBool_int h
   .rw[key_lr]at h;exact SeqAt.EqAt.int_str i t y u _ _ _ _ h
  .rcases keyIs_shape hv with ⟨j,u,rfl,rfl⟩|⟨y,u,rfl,rfl⟩
   .rw[key_rl]at h;exact SeqAt.EqAt.str_int x t j u _ _ _ _ h
   .rw[key_rr]at h;exact wpAny_eqBool_str h
 «strs»:=fun k x t v h=>by
  rcases keyIs_shape h with ⟨i,u,rfl,e⟩|⟨y,u,rfl,e⟩
  .exact nomatch e
  .injection e with e1 _
   subst e1
   cases v<;>rfl
end L2
namespace L2
open PySem PySem.Spec PyProof.Rows
inductive V where
 | non|bl (b:Bool)|int (i:Int)|str (x:Str)|byt (b:Array UInt8)|flt (b:UInt64)|ref (a:Addr)|ty (n:String)
 deriving DecidableEq
noncomputable def RelV:V->Value->Prop
 | .non,u=>u=Value.none
 | .bl b,u=>u=Value.bool b
 | .int i,u=>∃t,u=Value.int i t
 | .str x,u=>∃t,u=Value.str x t
 | .byt b,u=>∃t,u=Value.bytes b t
 | .flt b,u=>∃t,u=Value.float b t
 | .ref a,u=>u=Value.ref a
 | .ty n,u=>u=Value.type n
noncomputable abbrev Vals:List V->List Value->Prop:=Paired RelV
theorem Vals.length{xs:List V}{us:List Value}(r:Vals xs us):xs.length=us.length:=Paired.length r
theorem Vals.get:∀{xs:List V} {us:List Value} {i:Nat} {x:V},Vals xs us->xs[i]?=some x->∃u,us[i]?=some u/\RelV x u
 | _,_,_,_,.nil,e=>by simp at e
 | _,_,0,_,.cons r _,e=>by simp at e;subst e;exact⟨_,rfl,r⟩
 | _,_,i+1,x,.cons _ t,e=>by
  obtain⟨u,h1,h2⟩:=Vals.get (i:=i) (x:=x) t (by simpa using e)
  exact⟨u,by simpa using h1,h2⟩
theorem Vals.set{x:V}{u:Value}(r:RelV x u):∀{xs:List V} {us:List Value} (i:Nat),Vals xs us->Vals (xs.set i x) (us.set i u)
 | _,_,_,.nil=>.nil
 | _,_,0,.cons _ t=>.cons r t
 | _,_,i+1,.cons q t=>.cons q (Vals.set r i t)
theorem Vals.append:∀{xs ys:List V} {us ws:List Value},Vals xs us->Vals ys ws->Vals (xs++ys) (us++ws)
 | _,_,_,_,.nil,s=>s
 | _,_,_,_,.cons r t,s=>.cons r (Vals.append t s)
theorem Vals.take:∀{xs:List V} {us:List Value} (n:Nat),Vals xs us->Vals (xs.take n) (us.take n)
 | _,_,0,_=>.nil
 | _,_,_+1,.nil=>.nil
 | _,_,n+1,.cons r t=>.cons r (Vals.take n t)
theorem Vals.drop:∀{xs:List V} {us:List Value} (n:Nat),Vals xs us->Vals (xs.drop n) (us.drop n)
 | _,_,0,r=>r
 | _,_,_+1,.nil=>.nil
 | _,_,n+1,.cons _ t=>Vals.drop n t
noncomputable def RelO:Option V->Option Value->Prop
 | some v,some u=>RelV v u
 | none,none=>True
 | _,_=>False
noncomputable def KV{κ:Type}:List (κ×V)->List (κ×Value)->Prop:=Paired fun(p:κ×V) (q:κ×Value)=>p.1=q.1/\RelV p.2 q.2
noncomputable def kV:Key->V
 | .inl i=>.int i
 | .inr x=>.str x
inductive HO where
 | lst (xs:List V)
 | tup (xs:List V)
 | dK (kvs:List (Key×V))|dT (kvs:List (List Key×V))
 | set (S:Int->Bool) (n:Nat)
 | ins (C dx:Addr) (fs:List (Str×V))
 | own (x:Addr)
 | xd (fs:List (Str×V))
 | met (f x:Addr)
 | rng (lo hi:Int)
 | frz (o:Obj) (u:HO)
 | tbl (ps:Array Value)
 | ext (φ:Heap->Prop)
noncomputable abbrev Hp:=Addr->Option HO
noncomputable def upd(H:Hp)(a:Addr)(o:HO):Hp:=fun b=>if b=a then some o else H b
theorem upd_same{H:Hp}{a:Addr}{o:HO}:upd H a o a=some o:=by unfold upd;rw[if_pos rfl]
theorem upd_ne{H:Hp}{a b:Addr}{o:HO}(h:b≠a):upd H a o b=H b:=by unfold upd;rw[if_neg h]
theorem ne_of{H:Hp}{a b:Addr}{o u:HO}(h:H a=some o)(h':H b=some u)(d:o≠u):a≠b:=by
 intro e;subst e;rw[h]at h';exact d (Option.some.inj h')
theorem ne_of_none{H:Hp}{a b:Addr}{o:HO}(h:H a=some o)(h':H b=none):a≠b:=by
 intro e;subst e;rw[h]at h';cases h'
section
variable(P:Program)(w:World)
noncomputable def ObjOk(H:Hp)(h:Heap)(a:Addr):HO->Prop
 | .lst xs=>xs.length<=sizeLine/\∃(its:List Value) (n:Nat),Vals xs its/\h.get? a=some {cls:=.type "list",data:=.seq its.toArray n}
 | .tup xs=>xs.length<=sizeLine/\∃its:List Value,Vals xs its/\IsTup h a its.toArray
 | .dK kvs=>kvs.length<=sizeLine/\(a==sysModules)=false/\∃vs,KV kvs vs/\h.DictOf (mixKind P w) a vs
 | .dT kvs=>kvs.length<=sizeLine/\(a==sysModules)=false/\∃xs:List (List Key×Addr×Value),
   Paired (fun(p:List Key×V) (q:List Key×Addr×Value)=>p.1=q.1/\H q.2.1=some (.tup (p.1.map kV))/\RelV p.2 q.2.2) kvs xs/\
   ∃o es ep,h.get? a=some o/\o.ExactDict/\o.data=.dict es ep/\es.toList=xs.map (entryOfKey (tupleKind (mixKind P w)))/\(xs.map (·.1)).Nodup
 | .set S n=>h.SetOf (intKind P w) a S n
 | .ins C dx fs=>H dx=some (.own a)/\fs.length<=1000/\dx≠a/\h.get? a=some (PySem.W.instObj C dx)/\
   ∃mA,h.Ns1 dx mA/\(∀f,RelO (fs.lookup f) (mA f))/\PySem.Within mA (fs.map (·.1))
 | .own _=>∃o,h.get? a=some o
 | .xd fs=>∃mA,h.Ns1 a mA/\∀f,RelO (fs.lookup f) (mA f)
 | .rng lo hi=>∃t u v,h.get? a=some {cls:=.type "range",data:=.fields #[.int lo t,.int hi u,.int 1 v]}
 | .frz o u=>h.get? a=some o/\ObjOk H h a u
 | .tbl ps=>h.get? a=some {cls:=.none,data:=.fields ps}
 | .met f x=>h.get? a=some (PySem.W.methodObj (.ref f) (.ref x))
 | .ext φ=>φ h/\(∃o,h.get? a=some o)/\∀h1 h2:Heap,φ h1->(∀o,h1.get? a=some o->h2.get? a=some o)->φ h2
noncomputable def HOk(H:Hp)(h:Heap):Prop:=∀a o,H a=some o->ObjOk P w H h a o
end
section
variable{P:Program}{w:World}{H H':Hp}{h h':Heap}{a:Addr}{o:HO}
theorem ObjOk.lt(x:ObjOk P w H h a o):a<h.objs.size:=by
 cases o with
 | lst xs=>obtain⟨_,_,_,_,e⟩:=x;exact Heap.lt_size e
 | tup xs=>obtain⟨_,_,_,p⟩:=x;exact p.lt
 | dK kvs=>obtain⟨_,_,_,_,o,_,_,e,_⟩:=x;exact Heap.lt_size e
 | dT kvs=>obtain⟨_,_,_,_,o,_,_,e,_⟩:=x;exact Heap.lt_size e
 | set S n=>obtain⟨o,_,_,_,e,_⟩:=x;exact Heap.lt_size e
 | ins C dx fs=>obtain⟨_,_,_,e,_⟩:=x;exact Heap.lt_size e
 | own y=>obtain⟨_,e⟩:=x;exact Heap.lt_size e
 | xd fs=>obtain⟨_,⟨_,_,_,e,_⟩,_⟩:=x;exact Heap.lt_size e
 | rng lo hi=>obtain⟨_,_,_,e⟩:=x;exact Heap.lt_size e
 | frz ob u=>obtain⟨e,_⟩:=x;exact Heap.lt_size e
 | tbl ps=>exact Heap.lt_size (show h.get? a=some _ from x)
 | met f y=>exact Heap.lt_size (show h.get? a=some _ from x)
 | ext φ=>obtain⟨_,⟨_,e⟩,_⟩:=x;exact Heap.lt_size e
theorem Paired.mapP{α β:Type}{F G:α->β->Prop}:∀{l₁:List α} {l₂:List β},Paired F l₁ l₂->(∀a b,F a b->G a b)->Paired G l₁ l₂
 | _,_,.nil,_=>.nil
 | _,_,.cons r t,f=>.cons (f _ _ r) (Paired.mapP t f)
theorem ObjOk.stay(x:ObjOk P w H h a o)(k:∀b u,(b=a\/H b=some (.own a))->h.get? b=some u->h'.get? b=some u)
  (ho:∀b,H b=some (.own a)->H' b=some (.own a)) (ht:∀b xs,H b=some (.tup xs)->H' b=some (.tup xs)):ObjOk P w H' h' a o:=by
 induction o with
 | lst xs=>obtain⟨z,its,n,r,e⟩:=x;exact⟨z,its,n,r,k _ _ (.inl rfl) e⟩
 | tup xs=>obtain⟨z,its,r,ob,e,c⟩:=x;exact⟨z,its,r,ob,k _ _ (.inl rfl) e,c⟩
 | dK kvs=>obtain⟨z,y,vs,r,ob,es,ep,e,c⟩:=x;exact⟨z,y,vs,r,ob,es,ep,k _ _ (.inl rfl) e,c⟩
 | dT kvs=>
  obtain⟨z,y,xs,r,ob,es,ep,e,c⟩:=x
  exact⟨z,y,xs,Paired.mapP r fun p q z=>⟨z.1,ht _ _ z.2.1,z.2.2⟩,ob,es,ep,k _ _ (.inl rfl) e,c⟩
 | set S n=>obtain⟨ob,es,ep,t,e,c⟩:=x;exact⟨ob,es,ep,t,k _ _ (.inl rfl) e,c⟩
 | ins C dx fs=>
  obtain⟨d,z,ne,e,mA,⟨od,es,ep,e2,c⟩,r⟩:=x
  exact⟨ho _ d,z,ne,k _ _ (.inl rfl) e,mA,⟨od,es,ep,k _ _ (.inr d) e2,c⟩,r⟩
 | own y=>obtain⟨ob,e⟩:=x;exact⟨ob,k _ _ (.inl rfl) e⟩
 | xd fs=>obtain⟨mA,⟨od,es,ep,e,c⟩,r⟩:=x;exact⟨mA,⟨od,es,ep,k _ _ (.inl rfl) e,c⟩,r⟩
 | rng lo hi=>obtain⟨t,u,v,e⟩:=x;exact⟨t,u,v,k _ _ (.inl rfl) e⟩
 | frz ob u ih=>obtain⟨e,q⟩:=x;exact⟨k _ _ (.inl rfl) e,ih q⟩
 | tbl ps=>
  have e:h.get? a=some {cls:=.none,data:=.fields ps}:=x
  show h'.get? a=some {cls:=.none,data:=.fields ps}
  exact k a _ (.inl rfl) e
 | met f y=>
  have e:h.get? a=some (PySem.W.methodObj (.ref f) (.ref y)):=x
  show h'.get? a=some (PySem.W.methodObj (.ref f) (.ref y))
  exact k a _ (.inl rfl) e
 | ext φ=>obtain⟨p,⟨o,e⟩,st⟩:=x;exact⟨st _ _ p fun o q=>k _ _ (.inl rfl) q,⟨o,k _ _ (.inl rfl) e⟩,st⟩
theorem HOk.lt(x:HOk P w H h)(e:H a=some o):a<h.objs.size:=(x a o e).lt
theorem HOk.fresh(x:HOk P w H h)(e:h.objs.size<=a):H a=none:=by
 cases q:H a with
 | none=>rfl
 | some u=>exact absurd (Nat.lt_of_lt_of_le (x.lt q) e) (Nat.lt_irrefl _)
theorem HOk.kept(x:HOk P w H h)(k:∀b u,h.get? b=some u->h'.get? b=some u):HOk P w H h':=fun a o e=>
 (x a o e).stay (fun b u _ q=>k b u q) (fun _ q=>q) fun _ _ q=>q
theorem HOk.laid(x:HOk P w H h)(k:∀b u,h.get? b=some u->h'.get? b=some u)(hp:h.objs.size<=a)(new:ObjOk P w (upd H a o) h' a o):HOk P w (upd H a o) h':=fun b u e=>by
 have hn:=x.fresh hp
 by_cases hb:b=a
 .subst hb;rw[upd_same]at e;cases e;exact new
 .rw[upd_ne hb]at e
  exact(x b u e).stay (fun c v _ q=>k c v q) (fun c q=>by rw[upd_ne (ne_of_none q hn)];exact q) fun c xs q=>by rw[upd_ne (ne_of_none q hn)];exact q
end
noncomputable def Rd(H:Hp)(a:Addr)(u:HO):Prop:=H a=some u\/∃o,H a=some (.frz o u)
theorem Rd.ok{P:Program}{w:World}{H:Hp}{h:Heap}{a:Addr}{u:HO}(r:Rd H a u)(x:HOk P w H h):ObjOk P w H h a u:=by
 rcases r with r|⟨o,r⟩
 .exact x a u r
 .obtain⟨_,q⟩:=x a _ r
  exact q
noncomputable def Mut:Option HO->Prop
 | some (.lst _)=>True
 | some (.dK _)=>True
 | some (.dT _)=>True
 | some (.set _ _)=>True
 | some (.ins _ _ _)=>True
 | some (.ext _)=>True
 | _=>False
section
variable{P:Program}{w:World}{H:Hp}{h h':Heap}{x e:Addr}{o':HO}
theorem HOk.write(ok:HOk P w H h)(mu:Mut (H x))(he:e=x\/H e=some (.own x))(k:∀b u,b≠e->h.get? b=some u->h'.get? b=some u)(heo:∃u,h'.get? e=some u)
  (new:ObjOk P w (upd H x o') h' x o'):HOk P w (upd H x o') h':=fun b u q=>by
 have nown:∀c y,H c=some (.own y)->c≠x:=fun c y r z=>by subst z;rw[r]at mu;exact mu
 have ntup:∀c xs,H c=some (.tup xs)->c≠x:=fun c xs r z=>by subst z;rw[r]at mu;exact mu
 by_cases hb:b=x
 .subst hb;rw[upd_same]at q;cases q;exact new
 .rw[upd_ne hb]at q
  by_cases hbe:b=e
  .have q':H b=some (.own x):=by
    rcases he with z|z
    .exact absurd (hbe.trans z) hb
    .rw[hbe];exact z
   rw[q]at q';cases q'
   obtain⟨v,hv⟩:=heo
   exact⟨v,by rw[hbe];exact hv⟩
  .refine(ok b u q).stay (fun c v hc r=>k c v ?_ r) (fun c r=>by rw[upd_ne (nown c b r)];exact r) fun c xs r=>by rw[upd_ne (ntup c xs r)];exact r
   rcases hc with rfl|hc
   .exact hbe
   .rintro rfl
    rcases he with z|z
    .exact nown c b hc z
    .rw[hc]at z;cases z;exact hb rfl
end
structure Un(fs ex:List Addr)(H H':Hp)(h h':Heap):Prop where
 keep:∀b o,h.get? b=some o->H b=none->b∉fs->b∉ex->h'.get? b=some o
 slot:∀b o,h.get? b=some o->H b=none->b∈fs->b∉ex->∃sl,h'.get? b=some {o with slots:=sl}
 free:∀b o,h.get? b=some o->H b=none->b∉ex->H' b=none
 there:∀b o,h.get? b=some o->b∉ex->∃o',h'.get? b=some o'
 tups:∀b xs,H b=some (.tup xs)->H' b=some (.tup xs)
 frzs:∀b o u,H b=some (.frz o u)->H' b=some (.frz o u)
 tbls:∀b ps,H b=some (.tbl ps)->∃more,H' b=some (.tbl (ps++more))
section
variable{fs fs' ex ex':List Addr}{H H1 H2:Hp}{h h1 h2 h':Heap}{a x e:Addr}{o:HO}
theorem Un.any(u:Un fs ex H H1 h h1){b:Addr}{ob:Obj}(q:h.get? b=some ob)(n:H b=none)(hx:b∉ex):∃sl,h1.get? b=some {ob with slots:=sl}:=by
 by_cases hb:b∈fs
 .exact u.slot b ob q n hb hx
 .exact⟨ob.slots,u.keep b ob q n hb hx⟩
theorem Un.kept(k:∀b u,h.get? b=some u->h'.get? b=some u):Un fs ex H H h h':=
 ⟨fun b ob q _ _ _=>k b ob q,fun b ob q _ _ _=>⟨ob.slots,k b ob q⟩,fun _ _ _ n _=>n,fun b ob q _=>⟨ob,k b ob q⟩,fun _ _ q=>q,fun _ _ _ q=>q,fun _ ps q=>⟨#[],by rw[q];simp⟩⟩
theorem Un.refl:Un fs ex H H h h:=Un.kept fun _ _ q=>q
theorem Un.laid(k:∀b u,h.get? b=some u->h'.get? b=some u)(hp:h.objs.size<=a)(hn:H a=none):Un fs ex H (upd H a o) h h' where
 keep:=fun b u q _ _ _=>k b u q
 slot:=fun b u q _ _ _=>⟨u.slots,k b u q⟩
 free:=fun b u q n _=>by rw[upd_ne (Nat.ne_of_lt (Nat.lt_of_lt_of_le (Heap.lt_size q) hp))];exact n
 there:=fun b u q _=>⟨u,k b u q⟩
 tups:=fun b xs q=>by rw[upd_ne (ne_of_none q hn)];exact q
 frzs:=fun b u xs q=>by rw[upd_ne (ne_of_none q hn)];exact q
 tbls:=fun b ps q=>⟨#[],by rw[upd_ne (ne_of_none q hn),q];simp⟩
theorem Un.write(mu:Mut (H x))(he:e=x\/H e=some (.own x))(k:∀b u,b≠e->h.get? b=some u->h'.get? b=some u)(heo:∃u,h'.get? e=some u):Un fs ex H (upd H x o) h h':=by
 have hx:∀b,H b=none->b≠x:=fun b n z=>by subst z;rw[n]at mu;exact mu
 have hb:∀b,H b=none->b≠e:=fun b n z=>by
  subst z
  rcases he with r|r
  .exact hx b n r
  .rw[n]at r;cases r
 have hm:∀b u,H b=some u->¬Mut (some u)->b≠x:=fun b u q nm z=>by subst z;rw[q]at mu;exact nm mu
 refine⟨fun b u q n _ _=>k b u (hb b n) q,fun b u q n _ _=>⟨u.slots,k b u (hb b n) q⟩,fun b u q n _=>by rw[upd_ne (hx b n)];exact n,fun b u q _=>?_,
  fun b xs q=>by rw[upd_ne (hm b _ q fun z=>z)];exact q,fun b u xs q=>by rw[upd_ne (hm b _ q fun z=>z)];exact q,fun b ps q=>⟨#[],by rw[upd_ne (hm b _ q fun z=>z),q];simp⟩⟩
 by_cases hbe:b=e
 .subst hbe;exact heo
 .exact⟨u,k b u hbe q⟩
end
noncomputable def trk(h:Heap)(H:Hp):List Addr:=(List.range h.objs.size).filter fun a=>(H a).isSome
noncomputable def hidT(h:Heap)(H:Hp):Heap:=PySem.W.hideAll h (trk h H)
theorem hidT_size(h:Heap)(H:Hp):(hidT h H).objs.size=h.objs.size:=PySem.W.hideAll_size _ _
theorem hidT_get{h:Heap}{H:Hp}{b:Addr}{o:Obj}(e:h.get? b=some o)(n:H b=none):(hidT h H).get? b=some o:=
 PySem.W.hideAll_get _ e fun hm=>by
  have q:(H b).isSome=true:=(List.mem_filter.mp hm).2
  rw[n]at q;simp at q
theorem of_hidT{h:Heap}{H:Hp}{b:Addr}{o:Obj}(e:(hidT h H).get? b=some o):h.get? b=some o/\H b=none:=by
 have e':h.get? b=some o:=PySem.W.of_hideAll (trk h H) e
 refine⟨e',?_⟩
 cases q:H b with
 | none=>rfl
 | some x=>
  have hm:b∈trk h H:=List.mem_filter.mpr ⟨List.mem_range.mpr (Heap.lt_size e'),by simp[q]⟩
  have z:(hidT h H).get? b=none:=PySem.W.hideAll_none (trk h H) hm
  rw[z]at e;cases e
end L2
namespace L2
open PySem PySem.Spec PyProof.Rows
structure Mod(K:PySem.W.Frag)(mg:Str->Option Value)(base:Heap):Prop where
 kin:K.In base
 glob:base.Ns mainGlobals mg
 blt:∃mb,base.Ns builtinsNs mb/\∀x:Str,x≠"__name__"->mb x=bootBuiltins x
 nolimit:base.NoLimit
structure Cx where
 prog:Program
 w:World
 K:PySem.W.Frag
 mg:Str->Option Value
 base:Heap
 A:Around
 N:List Str
 s₀:Shared
 H₀:Hp
 env:Env
 outer:List Env
 stack:List Env
 ex:List Addr
 fn:Str->Bool
 calm:Bool
 pn:List (Addr×Obj)
 xe:Value->Shared->Prop
noncomputable def frs(l:List Env):List Addr:=l.filterMap (·.frame)
noncomputable abbrev Cx.fs(X:Cx):List Addr:=frs X.outer
noncomputable def Vis(sc:Scope)(x:Str):Prop:=sc.names.lookup x=some .local\/sc.names.lookup x=some .cell\/sc.names.lookup x=some .free
noncomputable def Loc(sc:Scope)(x:Str):Prop:=sc.names.lookup x=some .local\/sc.names.lookup x=some .cell
noncomputable def Look(env:Env)(h:Heap)(m:Str->Option Value)(x:Str)(u:Value):Prop:=
 (env.kindOf x=some .local/\m x=some u)\/((env.kindOf x=some .cell\/env.kindOf x=some .free)/\∃c,env.cells.lookup x=some c/\h.IsCell c (some u))
structure Cx.Ok(X:Cx):Prop where
 mod:Mod X.K X.mg X.base
 kind:X.env.scope.kind=.function
 glob:X.env.globals=mainGlobals
 blt:X.env.builtins=builtinsNs
 above:X.s₀.heap.objs.size<=X.env.locals
 inj:∀x y c,X.env.cells.lookup x=some c->X.env.cells.lookup y=some c->x=y
 has:∀x,(X.env.kindOf x=some .cell\/X.env.kindOf x=some .free)->∃c,X.env.cells.lookup x=some c
 cab:∀x c,X.fn x=true->X.env.cells.lookup x=some c->X.s₀.heap.objs.size<=c
 hd:X.calm=true->X.A.handled=none
 frames:X.A.frames=some X.stack
 stk:X.stack=X.outer\/(X.stack=X.env::X.outer/\X.env.frame=some X.env.locals)
 exf:∀b∈X.ex,b≠X.env.locals/\∀x c,X.env.cells.lookup x=some c->c≠b
 bs:∀b o,X.base.get? b=some o->X.s₀.heap.get? b=some o/\X.H₀ b=none
 bsz:X.base.objs.size<=X.s₀.heap.objs.size
 noex:∀b o,X.base.get? b=some o->b∉X.ex
 exfs:∀b∈X.ex,b∉X.fs
 funs:X.s₀.heap.FunFrames X.base X.outer
 frf:∀b∈X.fs,X.H₀ b=none
structure Inv(X:Cx)(pins:List (Addr×Obj))(σ:List (Option V))(H:Hp)(s:Shared):Prop where
 ok:X.Ok
 os:s.os=X.s₀.os
 bare:AllBare s.gens
 base:Un X.fs X.ex X.H₀ H X.s₀.heap s.heap
 loc:∃m,s.heap.Ns X.env.locals m/\∀(i:Nat) (x:Str) (v:V),X.N[i]?=some x->σ[i]?=some (some v)->Vis X.env.scope x->∃u,RelV v u/\Look X.env s.heap m x u
 cell:∀x c,X.env.cells.lookup x=some c->∃v,s.heap.IsCell c v
 free:H X.env.locals=none
 freeC:∀x c,X.env.cells.lookup x=some c->H c=none
 pin:∀p∈X.pn++pins,s.heap.get? p.1=some p.2/\H p.1=none/\p.1≠X.env.locals/\p.1∉X.fs/\∀v,p.2.data≠.cell v
 hok:HOk X.prog X.w H s.heap
 len:σ.length=X.N.length
section
variable{X:Cx}{pins:List (Addr×Obj)}{σ:List (Option V)}{H H':Hp}{s:Shared}{h':Heap}
theorem Cx.Ok.nofr(ok:X.Ok){b:Addr}{o:Obj}(e:X.base.get? b=some o):b∉X.fs:=fun hb=>by
 have:=(ok.funs.mem hb).1
 rw[e]at this;cases this
theorem Inv.bs(I:Inv X pins σ H s):∀b o,X.base.get? b=some o->s.heap.get? b=some o/\H b=none:=fun b o e=>
 ⟨I.base.keep b o (I.ok.bs b o e).1 (I.ok.bs b o e).2 (I.ok.nofr e) (I.ok.noex b o e),I.base.free b o (I.ok.bs b o e).1 (I.ok.bs b o e).2 (I.ok.noex b o e)⟩
theorem Inv.bk(I:Inv X pins σ H s):∀b o,X.base.get? b=some o->s.heap.get? b=some o:=fun b o e=>(I.bs b o e).1
theorem Inv.mod(I:Inv X pins σ H s):Mod X.K X.mg X.base:=I.ok.mod
theorem Inv.kIn(I:Inv X pins σ H s):X.K.In s.heap:=I.ok.mod.kin.keeps I.bk
theorem Inv.lt(I:Inv X pins σ H s):X.env.locals<s.heap.objs.size:=let ⟨_,hn,_⟩:=I.loc;hn.lt
theorem Inv.sz(I:Inv X pins σ H s):X.s₀.heap.objs.size<=s.heap.objs.size:=Nat.le_trans I.ok.above (Nat.le_of_lt I.lt)
theorem Inv.nofs(I:Inv X pins σ H s){a:Addr}(h:s.heap.objs.size<=a):a∉X.fs:=fun hb=>by
 obtain⟨_,o,ho,_⟩:=I.ok.funs.mem hb
 exact absurd (Nat.lt_of_lt_of_le (Heap.lt_size ho) (Nat.le_trans I.sz h)) (Nat.lt_irrefl _)
theorem Inv.cne(I:Inv X pins σ H s):∀x c,X.env.cells.lookup x=some c->c≠X.env.locals:=fun x c e z=>by
 obtain⟨v,o,ho,hd⟩:=I.cell x c e
 obtain⟨m,⟨o',es,ep,ho',hd',_⟩,_⟩:=I.loc
 rw[z,ho']at ho;cases ho;rw[hd']at hd;cases hd
theorem Inv.funs(I:Inv X pins σ H s):s.heap.FunFrames X.base X.outer:=by
 have all:∀(l:List Env),(∀b∈frs l,b∈X.fs)->X.s₀.heap.FunFrames X.base l->s.heap.FunFrames X.base l:=by
  intro l
  induction l with
  | nil=>intro _ _;trivial
  | cons env r ih=>
   intro hs hl
   obtain⟨hk,⟨L,o,hf,hn,ho,hd⟩,hr⟩:=hl
   have hL:L∈X.fs:=hs L (by unfold frs;rw[List.filterMap_cons,hf];exact List.mem_cons_self)
   obtain⟨sl,e⟩:=I.base.slot L o ho (I.ok.frf L hL) hL fun z=>I.ok.exfs L z hL
   exact⟨hk,⟨L,_,hf,hn,e,hd⟩,ih (fun b hb=>hs b (by unfold frs;rw[List.filterMap_cons,hf];exact List.mem_cons_of_mem _ hb)) hr⟩
 exact all X.outer (fun _ hb=>hb) I.ok.funs
theorem Inv.stack(I:Inv X pins σ H s):s.heap.FunFrames X.base X.stack:=by
 rcases I.ok.stk with e|⟨e,hf⟩
 .rw[e];exact I.funs
 .rw[e]
  obtain⟨m,hn,_⟩:=I.loc
  refine .cons (by rw[I.ok.kind];decide) hf hn ?_ I.funs
  exact Heap.get?_none_of_le (Nat.le_trans I.ok.bsz I.ok.above)
theorem Inv.stkSub(I:Inv X pins σ H s):∀b∈frs X.stack,b∈X.env.locals::X.fs:=fun b hb=>by
 rcases I.ok.stk with e|⟨e,hf⟩
 .rw[e]at hb;exact List.mem_cons_of_mem _ hb
 .rw[e]at hb
  unfold frs at hb
  rw[List.filterMap_cons,hf]at hb
  exact hb
theorem Inv.stkFree(I:Inv X pins σ H s):∀b∈frs X.stack,H b=none:=fun b hb=>by
 rcases List.mem_cons.mp (I.stkSub b hb)with e|hb
 .rw[e];exact I.free
 .obtain⟨_,o,ho,_⟩:=I.ok.funs.mem hb
  exact I.base.free b o ho (I.ok.frf b hb) fun z=>I.ok.exfs b z hb
theorem Inv.step{g':Array GenState}{t':Nat}{d':Drawn}{ch:List Addr}(I:Inv X pins σ H s)
  (hch:∀b∈ch,(b∈X.ex\/X.s₀.heap.objs.size<=b)/\b≠X.env.locals/\(∀x c,X.env.cells.lookup x=some c->c≠b)/\∀p∈X.pn++pins,p.1≠b)
  (keep:∀b o,b≠X.env.locals->b∉X.fs->b∉ch->s.heap.get? b=some o->H b=none->h'.get? b=some o)
  (slot:∀b o,b≠X.env.locals->b∈X.fs->b∉ch->s.heap.get? b=some o->H b=none->∃sl,h'.get? b=some {o with slots:=sl}) (free:∀b o,b∉ch->s.heap.get? b=some o->H b=none->H' b=none)
  (there:∀b o,b∉ch->s.heap.get? b=some o->∃o',h'.get? b=some o')
  (tups:∀b xs,H b=some (.tup xs)->H' b=some (.tup xs)) (frzs:∀b o u,H b=some (.frz o u)->H' b=some (.frz o u)) (tbls:∀b ps,H b=some (.tbl ps)->∃more,H' b=some (.tbl (ps++more)))
  (ns:∀m,s.heap.Ns X.env.locals m->h'.Ns X.env.locals m) (hok:HOk X.prog X.w H' h') (hg:AllBare g') :
  Inv X pins σ H' {s with heap:=h',gens:=g',drawn:=d',toks:=t'}:=by
 have neL:∀b o,X.s₀.heap.get? b=some o->b≠X.env.locals:=fun b o e=>Nat.ne_of_lt (Nat.lt_of_lt_of_le (Heap.lt_size e) I.ok.above)
 have neC:∀b o,X.s₀.heap.get? b=some o->b∉X.ex->b∉ch:=fun b o e hx hb=>by
  rcases(hch b hb).1 with z|z
  .exact hx z
  .exact absurd (Nat.lt_of_lt_of_le (Heap.lt_size e) z) (Nat.lt_irrefl _)
 have cellK:∀x c,X.env.cells.lookup x=some c->∀v,s.heap.IsCell c v->h'.IsCell c v:=fun x c e v ⟨o,ho,hd⟩=>by
  have nch:c∉ch:=fun z=>(hch c z).2.2.1 x c e rfl
  by_cases hc:c∈X.fs
  .obtain⟨sl,q⟩:=slot c o (I.cne x c e) hc nch ho (I.freeC x c e)
   exact⟨_,q,hd⟩
  .exact⟨o,keep c o (I.cne x c e) hc nch ho (I.freeC x c e),hd⟩
 refine⟨I.ok,I.os,hg,⟨fun b o e n hb hx=>?_,fun b o e n hb hx=>?_,fun b o e n hx=>?_,fun b o e hx=>?_,fun b xs e=>tups b xs (I.base.tups b xs e),fun b o xs e=>frzs b o xs (I.base.frzs b o xs e),fun b ps e=>?_⟩,?_,fun x c e=>?_,?_,fun x c e=>?_,fun p hp=>?_,hok,I.len⟩
 .exact keep b o (neL b o e) hb (neC b o e hx) (I.base.keep b o e n hb hx) (I.base.free b o e n hx)
 .obtain⟨sl,e1⟩:=I.base.slot b o e n hb hx
  obtain⟨sl',e2⟩:=slot b _ (neL b o e) hb (neC b o e hx) e1 (I.base.free b o e n hx)
  exact⟨sl',e2⟩
 .obtain⟨o',e1⟩:=I.base.there b o e hx
  exact free b o' (neC b o e hx) e1 (I.base.free b o e n hx)
 .obtain⟨o',e1⟩:=I.base.there b o e hx
  exact there b o' (neC b o e hx) e1
 .obtain⟨m1,e1⟩:=I.base.tbls b ps e
  obtain⟨m2,e2⟩:=tbls b _ e1
  exact⟨m1++m2,by rw[e2,Array.append_assoc]⟩
 .obtain⟨m,hn,hl⟩:=I.loc
  refine⟨m,ns m hn,fun i x v e1 e2 e3=>?_⟩
  obtain⟨u,r,l⟩:=hl i x v e1 e2 e3
  refine⟨u,r,?_⟩
  rcases l with l|⟨k,c,e,z⟩
  .exact .inl l
  .exact .inr ⟨k,c,e,cellK x c e _ z⟩
 .obtain⟨v,z⟩:=I.cell x c e
  exact⟨v,cellK x c e v z⟩
 .obtain⟨m,⟨o,_,_,ho,_⟩,_⟩:=I.loc
  exact free _ o (fun z=>(hch _ z).2.1 rfl) ho I.free
 .obtain⟨v,o,ho,hd⟩:=I.cell x c e
  exact free c o (fun z=>(hch c z).2.2.1 x c e rfl) ho (I.freeC x c e)
 .obtain⟨e,n,ne,nf,d⟩:=I.pin p hp
  have nch:p.1∉ch:=fun z=>(hch p.1 z).2.2.2 p hp rfl
  exact⟨keep p.1 p.2 ne nf nch e n,free p.1 p.2 nch e n,ne,nf,d⟩
theorem Inv.un{t':Nat}(I:Inv X pins σ H s)(u:Un X.fs [] H H' s.heap h')(hok:HOk X.prog X.w H' h'):Inv X pins σ H' {s with heap:=h',toks:=t'}:=by
 obtain⟨m,⟨o,es,ep,ho,r⟩,_⟩:=id I.loc
 obtain⟨sl,hL⟩:=u.any ho I.free (by simp)
 exact I.step (g':=s.gens) (d':=s.drawn) (ch:=[]) (fun _ z=>nomatch z) (fun b o _ hb _ e n=>u.keep b o e n hb (by simp)) (fun b o _ hb _ e n=>u.slot b o e n hb (by simp)) (fun b o _ e n=>u.free b o e n (by simp)) (fun b o _ e=>u.there b o e (by simp)) u.tups u.frzs u.tbls (fun m' hm=>by
  obtain⟨o',es',ep',ho',r'⟩:=hm
  rw[ho]at ho';cases ho'
  exact⟨_,es',ep',hL,r'⟩) hok I.bare
theorem Inv.call{g':Array GenState}{t':Nat}{d':Drawn}{ch:List Addr}(I:Inv X pins σ H s)(u:Un (frs X.stack) ch H H' s.heap h')(hok:HOk X.prog X.w H' h')(hg:AllBare g')
  (hch:∀b∈ch,(b∈X.ex\/X.s₀.heap.objs.size<=b)/\b≠X.env.locals/\(∀x c,X.env.cells.lookup x=some c->c≠b)/\∀p∈X.pn++pins,p.1≠b) :
  Inv X pins σ H' {s with heap:=h',gens:=g',drawn:=d',toks:=t'}:=by
 obtain⟨m,⟨o,es,ep,ho,r⟩,_⟩:=id I.loc
 obtain⟨sl,hL⟩:=u.any ho I.free fun z=>(hch _ z).2.1 rfl
 exact I.step (ch:=ch) hch (fun b o hL hb hc e n=>u.keep b o e n (fun z=>(List.mem_cons.mp (I.stkSub b z)).elim hL hb) hc) (fun b o _ _ hc e n=>u.any e n hc) (fun b o hc e n=>u.free b o e n hc) (fun b o hc e=>u.there b o e hc) u.tups u.frzs u.tbls (fun m' hm=>by
  obtain⟨o',es',ep',ho',r'⟩:=hm
  rw[ho]at ho';cases ho'
  exact⟨_,es',ep',hL,r'⟩) hok hg
theorem Inv.turned{t':Nat}{it:Addr}(I:Inv X pins σ H s)(k:∀b o,b≠it->s.heap.get? b=some o->h'.get? b=some o)(hn:H it=none)(hL:it≠X.env.locals)
  (h1:it∈X.ex\/X.s₀.heap.objs.size<=it) (h2:∀x c,X.env.cells.lookup x=some c->c≠it) (h3:∀p∈X.pn++pins,p.1≠it):Inv X pins σ H {s with heap:=h',toks:=t'}:=by
 have nit:∀b u,H b=some u->b≠it:=fun b u e z=>by rw[z,hn]at e;cases e
 refine I.step (g':=s.gens) (d':=s.drawn) (ch:=[it]) (fun b hb=>?_) (fun b o _ _ hc e _=>k b o (fun z=>hc (by simp[z])) e) (fun b o _ _ hc e _=>⟨o.slots,k b o (fun z=>hc (by simp[z])) e⟩) (fun _ _ _ _ n=>n)
  (fun b o hc e=>⟨o,k b o (fun z=>hc (by simp[z])) e⟩) (fun _ _ e=>e) (fun _ _ _ e=>e) (fun b ps e=>⟨#[],by rw[e];simp⟩) (fun m hm=>?_) (fun b u e=>?_) I.bare
 .have e:b=it:=by simpa using hb
  subst e
  exact⟨h1,hL,h2,h3⟩
 .obtain⟨o,es,ep,ho,r⟩:=hm
  exact⟨o,es,ep,k _ o (Ne.symm hL) ho,r⟩
 .refine(I.hok b u e).stay (fun c v hc q=>k c v ?_ q) (fun _ q=>q) fun _ _ q=>q
  rcases hc with z|z
  .rw[z];exact nit b u e
  .exact nit c _ z
theorem Inv.tok(I:Inv X pins σ H s)(t:Nat):Inv X pins σ H {s with toks:=t}:=I.un (h':=s.heap) (t':=t) Un.refl I.hok
theorem Inv.kept{t':Nat}(I:Inv X pins σ H s)(k:∀b u,s.heap.get? b=some u->h'.get? b=some u):Inv X pins σ H {s with heap:=h',toks:=t'}:=I.un (Un.kept k) (I.hok.kept k)
theorem Inv.laid{a:Addr}{o:HO}{t':Nat}(I:Inv X pins σ H s)(k:∀b u,s.heap.get? b=some u->h'.get? b=some u)(hp:s.heap.objs.size<=a)(new:ObjOk X.prog X.w (upd H a o) h' a o) :
  Inv X pins σ (upd H a o) {s with heap:=h',toks:=t'}:=I.un (Un.laid k hp (I.hok.fresh hp)) (I.hok.laid k hp new)
theorem Inv.write{x e:Addr}{o:HO}{t':Nat}(I:Inv X pins σ H s)(mu:Mut (H x))(he:e=x\/H e=some (.own x))(k:∀b u,b≠e->s.heap.get? b=some u->h'.get? b=some u)(heo:∃u,h'.get? e=some u)
  (new:ObjOk X.prog X.w (upd H x o) h' x o):Inv X pins σ (upd H x o) {s with heap:=h',toks:=t'}:=I.un (Un.write mu he k heo) (I.hok.write mu he k heo new)
theorem Inv.weak{σ':List (Option V)}(I:Inv X pins σ H s)(hl:σ'.length=σ.length)(w:∀(i:Nat) v,σ'[i]?=some (some v)->σ[i]?=some (some v)):Inv X pins σ' H s:=
 ⟨I.ok,I.os,I.bare,I.base,let ⟨m,hn,hl'⟩:=I.loc;⟨m,hn,fun i x v e1 e2 e3=>hl' i x v e1 (w i v e2) e3⟩,I.cell,I.free,I.freeC,I.pin,I.hok,hl.trans I.len⟩
theorem Inv.pins_of{pins':List (Addr×Obj)}(I:Inv X pins σ H s)(h:∀p∈pins',s.heap.get? p.1=some p.2/\H p.1=none/\p.1≠X.env.locals/\p.1∉X.fs/\∀v,p.2.data≠.cell v):Inv X pins' σ H s:=
 ⟨I.ok,I.os,I.bare,I.base,I.loc,I.cell,I.free,I.freeC,fun p hp=>(List.mem_append.mp hp).elim (fun z=>I.pin p (List.mem_append_left _ z)) (h p),I.hok,I.len⟩
theorem nodup_ix{N:List Str}(hN:N.Nodup){i j:Nat}{x:Str}(a:N[i]?=some x)(b:N[j]?=some x):i=j:=by
 obtain⟨h1,e1⟩:=List.getElem?_eq_some_iff.mp a
 obtain⟨h2,e2⟩:=List.getElem?_eq_some_iff.mp b
 exact(List.getElem_inj hN).mp (e1.trans e2.symm)
theorem store_ok2{M:Model}{A:Around}{E:Value->Shared->Prop}{i:Nat}{x:Str}{v:V}{u:Value}{Q:Unit->Shared->Prop}(I:Inv X pins σ H s)(hN:X.N.Nodup)(hi:X.N[i]?=some x)(hx:Loc X.env.scope x)(r:RelV v u)
  (h:∀s',Inv X pins (σ.set i (some v)) H s'->(∃a,Heap.SameBut a s.heap s'.heap/\(a=X.env.locals\/X.env.cells.lookup x=some a))->Q () s') (hf:X.fn x=true\/X.env.scope.names.lookup x=some .local:=by first|exact .inl rfl|exact .inr rfl|assumption):wpAny M A (storeName X.env x u) Q E s:=by
 obtain⟨m,hn,hl⟩:=id I.loc
 have hcls:(X.env.scope.kind==.class||(X.env.scope.kind==.module&&X.env.locals != X.env.globals))=false:=by rw[I.ok.kind];rfl
 have hiσ:i<σ.length:=by rw[I.len];exact(List.getElem?_eq_some_iff.mp hi).1
 have cne:=I.cne
 have tracked:∀{a:Addr} {h':Heap},(∃o,s.heap.get? a=some o/\H a=none)->Heap.SameBut a s.heap h'->HOk X.prog X.w H h':=fun{a h'} ha hs b ob e=>by
  obtain⟨_,_,hfree⟩:=ha
  refine(I.hok b ob e).stay (fun c w' hc q=>(hs.2 c ?_).trans q) (fun _ q=>q) fun _ _ q=>q
  rintro rfl
  rcases hc with rfl|hc
  .rw[hfree]at e;cases e
  .rw[hfree]at hc;cases hc
 rcases hx with hk|hk
 .refine wpAny_storeName_local hk hn (fun h' hn' hs=>?_) hcls
  obtain⟨oL,_,_,hoL,_⟩:=id hn
  refine h _ ⟨I.ok,I.os,I.bare,⟨fun b o e n hb hx=>?_,fun b o e n hb hx=>?_,I.base.free,fun b o e hx=>?_,I.base.tups,I.base.frzs,I.base.tbls⟩,⟨_,hn',fun j y v' e1 e2 e3=>?_⟩,fun y c e=>?_,I.free,I.freeC,fun p hp=>?_,tracked ⟨oL,hoL,I.free⟩ hs,by simpa using I.len⟩ ⟨_,hs,.inl rfl⟩
  .exact(hs.2 b (Nat.ne_of_lt (Nat.lt_of_lt_of_le (Heap.lt_size e) I.ok.above))).trans (I.base.keep b o e n hb hx)
  .obtain⟨sl,e1⟩:=I.base.slot b o e n hb hx
   exact⟨sl,(hs.2 b (Nat.ne_of_lt (Nat.lt_of_lt_of_le (Heap.lt_size e) I.ok.above))).trans e1⟩
  .obtain⟨o',e1⟩:=I.base.there b o e hx
   exact⟨o',(hs.2 b (Nat.ne_of_lt (Nat.lt_of_lt_of_le (Heap.lt_size e) I.ok.above))).trans e1⟩
  .by_cases hj:j=i
   .subst hj
    rw[hi]at e1;cases e1
    rw[List.getElem?_set_self hiσ]at e2
    cases e2
    exact⟨u,r,.inl ⟨hk,by simp⟩⟩
   .rw[List.getElem?_set_ne (Ne.symm hj)]at e2
    obtain⟨u',r',q⟩:=hl j y v' e1 e2 e3
    refine⟨u',r',?_⟩
    rcases q with ⟨k,e⟩|⟨k,c,e,z⟩
    .refine .inl ⟨k,?_⟩
     have:y≠x:=fun e=>hj (nodup_ix hN e1 (e▸hi))
     simp[this,e]
    .exact .inr ⟨k,c,e,z.sameBut hs (cne y c e)⟩
  .obtain⟨w',z⟩:=I.cell y c e
   exact⟨w',z.sameBut hs (cne y c e)⟩
  .obtain⟨e,n,ne,nf,d⟩:=I.pin p hp
   exact⟨(hs.2 p.1 ne).trans e,n,ne,nf,d⟩
 .have hfn:X.fn x=true:=by
   rcases hf with z|z
   .exact z
   .rw[z]at hk;cases hk
  obtain⟨c,hc⟩:=I.ok.has x (.inl hk)
  obtain⟨w',z⟩:=I.cell x c hc
  refine wpAny_storeName_cell I.ok.kind hk hc z (fun h' hc' hs=>?_)
  obtain⟨oc,hoc,hocd⟩:=id z
  refine h {s with heap:=h'} ⟨I.ok,I.os,I.bare,⟨fun b o e n hb hx=>?_,fun b o e n hb hx=>?_,I.base.free,fun b o e hx=>?_,I.base.tups,I.base.frzs,I.base.tbls⟩,⟨m,hn.sameBut hs (Ne.symm (cne x c hc)),fun j y v' e1 e2 e3=>?_⟩,fun y c' e=>?_,I.free,I.freeC,fun p hp=>?_,tracked ⟨oc,hoc,I.freeC x c hc⟩ hs,by simpa using I.len⟩ ⟨c,hs,.inr hc⟩
  .exact(hs.2 b (Nat.ne_of_lt (Nat.lt_of_lt_of_le (Heap.lt_size e) (I.ok.cab x c hfn hc)))).trans (I.base.keep b o e n hb hx)
  .obtain⟨sl,e1⟩:=I.base.slot b o e n hb hx
   exact⟨sl,(hs.2 b (Nat.ne_of_lt (Nat.lt_of_lt_of_le (Heap.lt_size e) (I.ok.cab x c hfn hc)))).trans e1⟩
  .obtain⟨o',e1⟩:=I.base.there b o e hx
   exact⟨o',(hs.2 b (Nat.ne_of_lt (Nat.lt_of_lt_of_le (Heap.lt_size e) (I.ok.cab x c hfn hc)))).trans e1⟩
  .by_cases hj:j=i
   .subst hj
    rw[hi]at e1;cases e1
    rw[List.getElem?_set_self hiσ]at e2
    cases e2
    exact⟨u,r,.inr ⟨.inl hk,c,hc,hc'⟩⟩
   .rw[List.getElem?_set_ne (Ne.symm hj)]at e2
    obtain⟨u',r',q⟩:=hl j y v' e1 e2 e3
    refine⟨u',r',?_⟩
    rcases q with q|⟨k,c',e,z'⟩
    .exact .inl q
    .refine .inr ⟨k,c',e,z'.sameBut hs ?_⟩
     rintro rfl
     exact hj (nodup_ix hN e1 (I.ok.inj _ _ _ e hc▸hi))
  .by_cases hcc:c'=c
   .subst hcc;exact⟨_,hc'⟩
   .obtain⟨w2,z2⟩:=I.cell y c' e
    exact⟨w2,z2.sameBut hs hcc⟩
  .obtain⟨e,n,ne,nf,d⟩:=I.pin p hp
   refine⟨(hs.2 p.1 ?_).trans e,n,ne,nf,d⟩
   intro q
   rw[q,hoc]at e
   have q':oc=p.2:=Option.some.inj e
   exact d w' (by rw[<-q'];exact hocd)
theorem store_ok{M:Model}{A:Around}{E:Value->Shared->Prop}{i:Nat}{x:Str}{v:V}{u:Value}{Q:Unit->Shared->Prop}(I:Inv X pins σ H s)(hN:X.N.Nodup)(hi:X.N[i]?=some x)(hx:Loc X.env.scope x)(r:RelV v u)
  (h:∀s',Inv X pins (σ.set i (some v)) H s'->Q () s') (hf:X.fn x=true\/X.env.scope.names.lookup x=some .local:=by first|exact .inl rfl|exact .inr rfl|assumption):wpAny M A (storeName X.env x u) Q E s:=
 store_ok2 I hN hi hx r (fun s' I' _=>h s' I') hf
theorem Inv.call'{s':Shared}{ch:List Addr}(I:Inv X pins σ H s)(ho:s'.os=s.os)(u:Un (frs X.stack) ch H H' s.heap s'.heap)(hok:HOk X.prog X.w H' s'.heap)(hg:AllBare s'.gens)
  (hch:∀b∈ch,(b∈X.ex\/X.s₀.heap.objs.size<=b)/\b≠X.env.locals/\(∀x c,X.env.cells.lookup x=some c->c≠b)/\∀p∈X.pn++pins,p.1≠b):Inv X pins σ H' s':=by
 obtain⟨h',g',d',t',o'⟩:=s'
 have e:o'=s.os:=ho
 subst e
 exact I.call (g':=g') (t':=t') (d':=d') u hok hg hch
end
noncomputable abbrev XK:=Value->Option Addr->Hp->Prop
noncomputable abbrev St:=List (Option V)
noncomputable abbrev VK:=V->Hp->Prop
noncomputable abbrev TE:=St->Hp->VK->Prop
noncomputable abbrev TT:=St->Hp->(Bool->Hp->Prop)->Prop
noncomputable abbrev TA:=St->Hp->(List V->Hp->Prop)->Prop
structure Ends where
 nx:St->Hp->Prop
 rt:VK
 bk:St->Hp->Prop:=fun _ _=>False
 ct:St->Hp->Prop:=fun _ _=>False
noncomputable abbrev TS:=Ends->St->Hp->Prop
noncomputable def EP(X:Cx)(pins:List (Addr×Obj))(σ:St)(Q:VK)(u:Value)(s':Shared):Prop:=∃v H',Inv X pins σ H' s'/\RelV v u/\Q v H'
noncomputable def TP(X:Cx)(pins:List (Addr×Obj))(σ:St)(Q:Bool->Hp->Prop)(b:Bool)(s':Shared):Prop:=∃H',Inv X pins σ H' s'/\Q b H'
noncomputable def AP(X:Cx)(pins:List (Addr×Obj))(σ:St)(Q:List V->Hp->Prop)(us:List Value)(s':Shared):Prop:=∃vs H',Inv X pins σ H' s'/\Vals vs us/\Q vs H'
noncomputable def SP(X:Cx)(pins:List (Addr×Obj))(D:Ends)(f:Flow)(s':Shared):Prop:=
 match f with
 | .next=>∃σ' H',Inv X pins σ' H' s'/\D.nx σ' H'
 | .brk=>∃σ' H',Inv X pins σ' H' s'/\D.bk σ' H'
 | .cont=>∃σ' H',Inv X pins σ' H' s'/\D.ct σ' H'
 | .ret u=>∃v σ' H',Inv X pins σ' H' s'/\RelV v u/\D.rt v H'
noncomputable def PE(X:Cx)(e:Expr)(t:TE):Prop:=
 ∀(pins:List (Addr×Obj)) (s:Shared) (σ:St) (H:Hp) (Q:VK),Inv X pins σ H s->t σ H Q->wpAny (model X.prog X.w) X.A (eval e X.env) (EP X pins σ Q) X.xe s
noncomputable def PT(X:Cx)(e:Expr)(t:TT):Prop:=
 ∀(pins:List (Addr×Obj)) (s:Shared) (σ:St) (H:Hp) (Q:Bool->Hp->Prop),Inv X pins σ H s->t σ H Q->wpAny (model X.prog X.w) X.A (isTrue e X.env (eval e X.env)) (TP X pins σ Q) X.xe s
noncomputable def PW(X:Cx)(e:Expr)(t:TT):Prop:=
 ∀(whole:Sem Value) (pins:List (Addr×Obj)) (s:Shared) (σ:St) (H:Hp) (Q:Bool->Hp->Prop),Inv X pins σ H s->t σ H Q->wpAny (model X.prog X.w) X.A (isTrue e X.env whole) (TP X pins σ Q) X.xe s
theorem PW.pt{X:Cx}{e:Expr}{t:TT}(h:PW X e t):PT X e t:=h _
noncomputable def PA(X:Cx)(es:List Expr)(t:TA):Prop:=
 ∀(pos:Pos) (pins:List (Addr×Obj)) (s:Shared) (σ:St) (H:Hp) (Q:List V->Hp->Prop),Inv X pins σ H s->t σ H Q->wpAny (model X.prog X.w) X.A (spliced (backTo pos (starEach es X.env))) (AP X pins σ Q) X.xe s
noncomputable def PS(X:Cx)(st:Stmt)(t:TS):Prop:=
 ∀(pins:List (Addr×Obj)) (s:Shared) (σ:St) (H:Hp) (D:Ends),Inv X pins σ H s->t D σ H->wpAny (model X.prog X.w) X.A (exec st X.env) (SP X pins D) X.xe s
noncomputable def PSs(X:Cx)(st:List Stmt)(t:TS):Prop:=
 ∀(pins:List (Addr×Obj)) (s:Shared) (σ:St) (H:Hp) (D:Ends),Inv X pins σ H s->t D σ H->wpAny (model X.prog X.w) X.A (execs st X.env) (SP X pins D) X.xe s
theorem thn{α:Type}{t:Sem α}{Q Q':α->Shared->Prop}{M:Model}{A:Around}{E:Value->Shared->Prop}{s:Shared}(h:wpAny M A t Q E s)(hQ:∀a s,Q a s->Q' a s):wpAny M A t Q' E s:=wpAny_mono h hQ fun _ _ x=>x
end L2
namespace L2
open PySem PySem.Spec PyProof.Rows
section
variable{X:Cx}
noncomputable def tVar(i:Nat):TE:=fun σ H Q=>∃v,σ[i]?=some (some v)/\Q v H
noncomputable def tC(v:V):TE:=fun _ H Q=>Q v H
theorem pe_var{i:Nat}{x:Str}{pos:Pos}(hN:X.N[i]?=some x)(hv:Vis X.env.scope x)(hd:(x==("__debug__" : Str))=false:=by decide)(hcd:(x==("__classdict__" : Str))=false:=by decide):PE X (.Name x pos) (tVar i):=by
 intro pins s σ H Q I h
 obtain⟨v,e,h⟩:=h
 obtain⟨m,hn,hl⟩:=I.loc
 obtain⟨u,r,l⟩:=hl i x v hN e hv
 have fin:EP X pins σ Q u s:=⟨v,H,I,r,h⟩
 rcases l with ⟨hk,hm⟩|⟨hk,c,hc,hcell⟩
 .exact wpAny_Name (wpAny_loadName_local I.ok.kind hk hn hm fin) hd
 .rcases hk with hk|hk
  .exact wpAny_Name (wpAny_loadName_cell I.ok.kind hk hc hcell fin) hd
  .exact wpAny_Name (wpAny_loadName_free I.ok.kind hk hc hcell fin hcd) hd
theorem pe_int{i j pos}:PE X (.Constant (.int i) j pos) (tC (.int i)):=fun _ _ _ H _ I h=>wpAny_Constant_int ⟨.int i,H,I.tok _,⟨_,rfl⟩,h⟩
theorem pe_bl{b j pos}:PE X (.Constant (.bool b) j pos) (tC (.bl b)):=fun _ _ _ H _ I h=>Constant_bool ⟨.bl b,H,I,rfl,h⟩
theorem pe_non{j pos}:PE X (.Constant .none j pos) (tC .non):=fun _ _ _ H _ I h=>Constant_none ⟨.non,H,I,rfl,h⟩
theorem pe_str{x j pos}:PE X (.Constant (.str x) j pos) (tC (.str x)):=fun _ _ _ H _ I h=>Calls.Constant_str ⟨.str x,H,I.tok _,⟨_,rfl⟩,h⟩
noncomputable def Gl(X:Cx)(x:Str):Prop:=X.env.kindOf x=some .globalImplicit
theorem ld_glob{E:Value->Shared->Prop}{pins:List (Addr×Obj)}{s:Shared}{σ:St}{H:Hp}{x:Str}{u:Value}{pos:Pos}{Q:Value->Shared->Prop}(I:Inv X pins σ H s)(hg:Gl X x)(hm:X.mg x=some u)(h:Q u s)
  (hd:(x==("__debug__" : Str))=false:=by decide):wpAny (model X.prog X.w) X.A (eval (.Name x pos) X.env) Q E s:=
 Calls.Name_function_global I.ok.kind hg (Calls.loadGlobal_global (by rw[I.ok.glob];exact I.mod.glob.keeps I.bk) hm h) hd
theorem ld_blt{E:Value->Shared->Prop}{pins:List (Addr×Obj)}{s:Shared}{σ:St}{H:Hp}{x:Str}{u:Value}{pos:Pos}{Q:Value->Shared->Prop}(I:Inv X pins σ H s)(hg:Gl X x)(hm:X.mg x=none)(hv:bootBuiltins x=some u)(h:Q u s)
  (hn:x≠"__name__":=by decide) (hd:(x==("__debug__" : Str))=false:=by decide):wpAny (model X.prog X.w) X.A (eval (.Name x pos) X.env) Q E s:=by
 obtain⟨mb,h1,h2⟩:=I.mod.blt
 exact Calls.Name_function_global I.ok.kind hg (Calls.loadGlobal_builtin (by rw[I.ok.glob];exact I.mod.glob.keeps I.bk) hm (by rw[I.ok.blt];exact h1.keeps I.bk) ((h2 x hn).trans hv) h) hd
theorem pe_glob{x:Str}{v:V}{u:Value}{pos:Pos}(hg:Gl X x)(hm:X.mg x=some u)(r:RelV v u)(hd:(x==("__debug__" : Str))=false:=by decide):PE X (.Name x pos) (tC v):=
 fun _ _ _ H _ I h=>ld_glob I hg hm ⟨v,H,I,r,h⟩ hd
theorem pe_bltn{x:Str}{v:V}{u:Value}{pos:Pos}(hg:Gl X x)(hm:X.mg x=none)(hv:bootBuiltins x=some u)(r:RelV v u)(hn:x≠"__name__":=by decide)(hd:(x==("__debug__" : Str))=false:=by decide):PE X (.Name x pos) (tC v):=
 fun _ _ _ H _ I h=>ld_blt I hg hm hv ⟨v,H,I,r,h⟩ hn hd
variable{a b:Expr}{ta tb:TE}{pos:Pos}
noncomputable def tB(t:TE):TT:=fun σ H Q=>t σ H fun x H1=>∃c,x=.bl c/\Q c H1
theorem pt_val{e:Expr}{t:TE}(h:PE X e t)(he:∀whole,isTrue e X.env whole=(do let v <-whole;standAt e.pos;holding [v] (truthy v)):=by intro _;rfl):PT X e (tB t):=by
 intro pins s σ H Q I hw
 refine isTrue_plain (thn (h pins s σ H _ I hw) fun v s1 ⟨x,H1,I1,r1,q1⟩=>?_) (he _)
 obtain⟨d,rfl,q⟩:=q1
 cases r1
 exact wpAny_truthy_bool ⟨H1,I1,q⟩
variable{tA tB':TT}{rest:List Expr}
noncomputable def tAnd(t u:TT):TT:=fun σ H Q=>t σ H fun c H1=>if c=true then u σ H1 Q else Q false H1
noncomputable def tOr(t u:TT):TT:=fun σ H Q=>t σ H fun c H1=>if c=true then Q true H1 else u σ H1 Q
noncomputable def tNot(t:TT):TT:=fun σ H Q=>t σ H fun c H1=>Q (!c) H1
theorem pw_and1(ha:PT X a tA):PW X (.BoolOp .And [a] pos) tA:=by
 intro wh pins s σ H Q I h
 refine isTrue_and (thn (ha pins s σ H Q I h) fun c s1 e=>?_)
 cases c with
 | true=>exact isTrue_and_nil e
 | false=>exact e
theorem pw_or1(ha:PT X a tA):PW X (.BoolOp .Or [a] pos) tA:=by
 intro wh pins s σ H Q I h
 refine isTrue_or (thn (ha pins s σ H Q I h) fun c s1 e=>?_)
 cases c with
 | false=>exact isTrue_or_nil e
 | true=>exact e
theorem pw_and(ha:PT X a tA)(hb:PW X (.BoolOp .And (b::rest) pos) tB'):PW X (.BoolOp .And (a::b::rest) pos) (tAnd tA tB'):=by
 intro wh pins s σ H Q I h
 refine isTrue_and (thn (ha pins s σ H _ I h) fun c s1 ⟨H1,I1,q1⟩=>?_)
 cases c with
 | true=>exact hb wh pins s1 σ H1 Q I1 q1
 | false=>exact⟨H1,I1,q1⟩
theorem pw_or(ha:PT X a tA)(hb:PW X (.BoolOp .Or (b::rest) pos) tB'):PW X (.BoolOp .Or (a::b::rest) pos) (tOr tA tB'):=by
 intro wh pins s σ H Q I h
 refine isTrue_or (thn (ha pins s σ H _ I h) fun c s1 ⟨H1,I1,q1⟩=>?_)
 cases c with
 | true=>exact⟨H1,I1,q1⟩
 | false=>exact hb wh pins s1 σ H1 Q I1 q1
theorem pt_not(ha:PT X a tA):PT X (.UnaryOp .Not a pos) (tNot tA):=by
 intro pins s σ H Q I h
 exact isTrue_not (ha pins s σ H (fun c H1=>Q (!c) H1) I h)
noncomputable def tAndV(ta tb:TE):TE:=fun σ H Q=>ta σ H fun x H1=>∃c,x=.bl c/\if c=true then tb σ H1 Q else Q (.bl false) H1
noncomputable def tOrV(ta tb:TE):TE:=fun σ H Q=>ta σ H fun x H1=>∃c,x=.bl c/\if c=true then Q (.bl true) H1 else tb σ H1 Q
noncomputable def tNotV(ta:TE):TE:=fun σ H Q=>ta σ H fun x H1=>∃c,x=.bl c/\Q (.bl (!c)) H1
theorem pe_one{op}{t:TE}(h:PE X a t):PE X (.BoolOp op [a] pos) t:=fun pins s σ H Q I hw=>BoolOp_one (h pins s σ H Q I hw)
theorem pe_and(ha:PE X a ta)(hb:PE X (.BoolOp .And (b::rest) pos) tb):PE X (.BoolOp .And (a::b::rest) pos) (tAndV ta tb):=by
 intro pins s σ H Q I h
 refine BoolOp_and (thn (ha pins s σ H _ I h) fun v s1 ⟨x,H1,I1,r1,q1⟩=>?_)
 obtain⟨c,rfl,q1⟩:=q1
 cases r1
 refine wpAny_truthy_bool ?_
 cases c with
 | true=>exact hb pins s1 σ H1 Q I1 q1
 | false=>exact⟨.bl false,H1,I1,rfl,q1⟩
theorem pe_or(ha:PE X a ta)(hb:PE X (.BoolOp .Or (b::rest) pos) tb):PE X (.BoolOp .Or (a::b::rest) pos) (tOrV ta tb):=by
 intro pins s σ H Q I h
 refine BoolOp_or (thn (ha pins s σ H _ I h) fun v s1 ⟨x,H1,I1,r1,q1⟩=>?_)
 obtain⟨c,rfl,q1⟩:=q1
 cases r1
 refine wpAny_truthy_bool ?_
 cases c with
 | false=>exact hb pins s1 σ H1 Q I1 q1
 | true=>exact⟨.bl true,H1,I1,rfl,q1⟩
theorem pe_not(ha:PE X a ta):PE X (.UnaryOp .Not a pos) (tNotV ta):=by
 intro pins s σ H Q I h
 refine UnaryOp_ (thn (ha pins s σ H _ I h) fun v s1 ⟨x,H1,I1,r1,q1⟩=>?_)
 obtain⟨c,rfl,q1⟩:=q1
 cases r1
 exact not_of (wpAny_truthy_bool ⟨.bl (!c),H1,I1,rfl,q1⟩)
end
end L2
namespace L2
open PySem PySem.Spec PyProof.Rows
noncomputable def SqL(K:PySem.W.Frag)(H:Hp)(a:Addr)(xs:List V):Prop:=
 Rd H a (.lst xs)\/
  ∃(o:Obj) (its:Array Value) (n:Nat),K.lookup a=some o/\o.cls=.type "list"/\o.dict=none/\o.data=.seq its n/\its.size<=sizeLine/\Vals xs its.toList
noncomputable def SqT(K:PySem.W.Frag)(H:Hp)(a:Addr)(xs:List V):Prop:=
 Rd H a (.tup xs)\/
  ∃(o:Obj) (its:Array Value) (n:Nat),K.lookup a=some o/\o.cls=.type "tuple"/\o.data=.seq its n/\its.size<=sizeLine/\Vals xs its.toList
noncomputable def absV:Value->Option V
 | .none=>some .non
 | .bool b=>some (.bl b)
 | .int i _=>some (.int i)
 | .str x _=>some (.str x)
 | .bytes b _=>some (.byt b)
 | .float b _=>some (.flt b)
 | .ref a=>some (.ref a)
 | .type n=>some (.ty n)
 | _=>none
theorem RelV.abs{x:V}{u:Value}(r:RelV x u):absV u=some x:=by
 cases x with
 | non=>cases r;rfl
 | bl _=>cases r;rfl
 | int _=>obtain⟨t,rfl⟩:=r;rfl
 | str _=>obtain⟨t,rfl⟩:=r;rfl
 | byt _=>obtain⟨t,rfl⟩:=r;rfl
 | flt _=>obtain⟨t,rfl⟩:=r;rfl
 | ref _=>cases r;rfl
 | ty _=>cases r;rfl
theorem RelV.inj{x y:V}{u:Value}(r:RelV x u)(q:RelV y u):x=y:=Option.some.inj (r.abs.symm.trans q.abs)
theorem Vals.inj:∀{xs ys:List V} {us:List Value},Vals xs us->Vals ys us->xs=ys
 | _,_,_,.nil,.nil=>rfl
 | _,_,_,.cons r t,.cons r' t'=>by rw[r.inj r',Vals.inj t t']
section
variable{X:Cx}{pins:List (Addr×Obj)}{σ:St}{H:Hp}{s:Shared}{a:Addr}{xs ys:List V}
theorem SqL.of{K:PySem.W.Frag}(h:H a=some (.lst xs)):SqL K H a xs:=.inl (.inl h)
theorem SqT.of{K:PySem.W.Frag}(h:H a=some (.tup xs)):SqT K H a xs:=.inl (.inl h)
theorem Inv.list(I:Inv X pins σ H s)(h:SqL X.K H a xs):∃its:List Value,Vals xs its/\PlainL s.heap a its.toArray/\xs.length<=sizeLine:=by
 rcases h with h|⟨o,its,n,hk,hc,hd,hs,hz,r⟩
 .obtain⟨z,its,n,r,e⟩:=h.ok I.hok
  exact⟨its,r,⟨_,n,e,rfl,rfl,rfl⟩,z⟩
 .refine⟨its.toList,r,⟨o,n,I.kIn a o hk,hc,hd,by simpa using hs⟩,?_⟩
  have e:=r.length
  simp only[Array.length_toList]at e
  omega
theorem Inv.tuple(I:Inv X pins σ H s)(h:SqT X.K H a xs):∃its:List Value,Vals xs its/\IsTup s.heap a its.toArray/\xs.length<=sizeLine:=by
 rcases h with h|⟨o,its,n,hk,hc,hs,hz,r⟩
 .obtain⟨z,its,r,p⟩:=h.ok I.hok
  exact⟨its,r,p,z⟩
 .refine⟨its.toList,r,⟨o,I.kIn a o hk,hc,n,by simpa using hs⟩,?_⟩
  have e:=r.length
  simp only[Array.length_toList]at e
  omega
theorem Inv.list_inj(I:Inv X pins σ H s)(h:SqL X.K H a xs)(h':SqL X.K H a ys):xs=ys:=by
 obtain⟨its,r,⟨o,n,e,_,_,d⟩,_⟩:=I.list h
 obtain⟨its',r',⟨o',n',e',_,_,d'⟩,_⟩:=I.list h'
 rw[e]at e';cases e'
 rw[d]at d'
 injection d' with d1 _
 have:its=its':=by simpa using congrArg Array.toList d1
 subst this
 exact r.inj r'
theorem Inv.tuple_inj(I:Inv X pins σ H s)(h:SqT X.K H a xs)(h':SqT X.K H a ys):xs=ys:=by
 obtain⟨its,r,⟨o,e,_,n,d⟩,_⟩:=I.tuple h
 obtain⟨its',r',⟨o',e',_,n',d'⟩,_⟩:=I.tuple h'
 rw[e]at e';cases e'
 rw[d]at d'
 injection d' with d1 _
 have:its=its':=by simpa using congrArg Array.toList d1
 subst this
 exact r.inj r'
end
noncomputable abbrev Cx.wish(X:Cx)(E:Value->Shared->Prop):Cx:={X with xe:=E}
noncomputable abbrev Cx.nox(X:Cx):Cx:=X.wish fun _ _=>False
theorem Cx.Ok.wish{X:Cx}(ok:X.Ok)(E:Value->Shared->Prop):(X.wish E).Ok:=
 ⟨ok.mod,ok.kind,ok.glob,ok.blt,ok.above,ok.inj,ok.has,ok.cab,ok.hd,ok.frames,ok.stk,ok.exf,ok.bs,ok.bsz,ok.noex,ok.exfs,ok.funs,ok.frf⟩
theorem Cx.Ok.unwish{X:Cx}{E:Value->Shared->Prop}(ok:(X.wish E).Ok):X.Ok:=
 ⟨ok.mod,ok.kind,ok.glob,ok.blt,ok.above,ok.inj,ok.has,ok.cab,ok.hd,ok.frames,ok.stk,ok.exf,ok.bs,ok.bsz,ok.noex,ok.exfs,ok.funs,ok.frf⟩
section
variable{X:Cx}{pins:List (Addr×Obj)}{σ:St}{H:Hp}{s:Shared}{E:Value->Shared->Prop}
theorem Inv.wish(I:Inv X pins σ H s)(E:Value->Shared->Prop):Inv (X.wish E) pins σ H s:=⟨I.ok.wish E,I.os,I.bare,I.base,I.loc,I.cell,I.free,I.freeC,I.pin,I.hok,I.len⟩
theorem Inv.unwish(I:Inv (X.wish E) pins σ H s):Inv X pins σ H s:=⟨I.ok.unwish,I.os,I.bare,I.base,I.loc,I.cell,I.free,I.freeC,I.pin,I.hok,I.len⟩
theorem SP.unwish{D:Ends}{f:Flow}{s':Shared}(h:SP (X.wish E) pins D f s'):SP X pins D f s':=by
 cases f with
 | next=>obtain⟨σ',H',I,q⟩:=h;exact⟨σ',H',I.unwish,q⟩
 | brk=>obtain⟨σ',H',I,q⟩:=h;exact⟨σ',H',I.unwish,q⟩
 | cont=>obtain⟨σ',H',I,q⟩:=h;exact⟨σ',H',I.unwish,q⟩
 | ret u=>obtain⟨v,σ',H',I,r,q⟩:=h;exact⟨v,σ',H',I.unwish,r,q⟩
theorem PSs.nox{st:List Stmt}{t:TS}(h:PSs X.nox st t):PSs X st t:=fun pins s σ H D I hw=>
 wpAny_mono (h pins s σ H D (I.wish _) hw) (fun _ _ q=>q.unwish) fun _ _ z=>False.elim z
end
section
variable{X:Cx}{st:Stmt}{rest:List Stmt}{t u:TS}{e:Expr}{te:TE}{pos:Pos}
noncomputable def tNext:TS:=fun D σ H=>D.nx σ H
noncomputable def tSeq(t u:TS):TS:=fun D σ H=>t {D with nx:=u D} σ H
theorem pss_nil:PSs X [] tNext:=fun _ _ σ H _ I h=>wpAny_execs_nil ⟨σ,H,I,h⟩
theorem pss_cons(h1:PS X st t)(h2:PSs X rest u):PSs X (st::rest) (tSeq t u):=by
 intro pins s σ H D I h
 refine wpAny_execs_cons (thn (h1 pins s σ H {D with nx:=u D} I h) fun f s1 q=>?_)
 cases f with
 | next=>
  obtain⟨σ',H',I',q⟩:=q
  exact h2 pins s1 σ' H' D I' q
 | ret v=>exact q
 | brk=>exact q
 | cont=>exact q
theorem pss_one(h1:PS X st t):PSs X [st] t:=by
 intro pins s σ H D I h
 refine wpAny_execs_cons (thn (h1 pins s σ H D I h) fun f s1 q=>?_)
 cases f with
 | next=>exact wpAny_execs_nil q
 | ret v=>exact q
 | brk=>exact q
 | cont=>exact q
theorem Inv.quiet{pins:List (Addr×Obj)}{σ:St}{H:Hp}{s:Shared}(I:Inv X pins σ H s):interactive X.env=false:=by simp[interactive,I.ok.kind]
noncomputable def tDrop(te:TE):TS:=fun D σ H=>te σ H fun _ H1=>D.nx σ H1
theorem ps_expr(he:PE X e te)(hs:swapsWith e none pos.line X.env=pure false:=by rfl):PS X (.Expr e pos) (tDrop te):=by
 intro pins s σ H D I h
 exact wpAny_Expr_any (thn (he pins s σ H _ I h) fun v s1 ⟨x,H1,I1,r1,q1⟩=>⟨σ,H1,I1,q1⟩) I.quiet hs
noncomputable def tRet(te:TE):TS:=fun D σ H=>te σ H D.rt
theorem ps_ret(he:PE X e te):PS X (.Return (some e) pos) (tRet te):=by
 intro pins s σ H D I h
 exact wpAny_Return_some (thn (he pins s σ H _ I h) fun v s1 ⟨x,H1,I1,r1,q1⟩=>⟨x,σ,H1,I1,r1,q1⟩)
noncomputable def tIfS(c:TT)(t u:TS):TS:=fun D σ H=>c σ H fun b H1=>if b=true then t D σ H1 else u D σ H1
theorem ps_if{c:Expr}{a b:List Stmt}{tc:TT}(hc:PT X c tc)(ha:PSs X a t)(hb:PSs X b u):PS X (.If c a b pos) (tIfS tc t u):=by
 intro pins s σ H D I h
 refine wpAny_If (thn (hc pins s σ H _ I h) fun d s1 ⟨H1,I1,q1⟩=>?_)
 cases d with
 | true=>exact ha pins s1 σ H1 D I1 q1
 | false=>exact hb pins s1 σ H1 D I1 q1
end
noncomputable abbrev TG:=V->St->Hp->(St->Hp->Prop)->Prop
noncomputable abbrev TGs:=List V->St->Hp->(St->Hp->Prop)->Prop
noncomputable def PG(X:Cx)(target:Expr)(t:TG):Prop:=
 ∀(pins:List (Addr×Obj)) (s:Shared) (σ:St) (H:Hp) (v:V) (u:Value) (Q:St->Hp->Prop),Inv X pins σ H s->RelV v u->t v σ H Q->
  wpAny (model X.prog X.w) X.A (assign target X.env u) (fun _ s'=>∃σ' H',Inv X pins σ' H' s'/\Q σ' H') X.xe s
noncomputable def PGs(X:Cx)(ts:List Expr)(t:TGs):Prop:=
 ∀(pins:List (Addr×Obj)) (s:Shared) (σ:St) (H:Hp) (vs:List V) (us:List Value) (Q:St->Hp->Prop),Inv X pins σ H s->Vals vs us->t vs σ H Q->
  wpAny (model X.prog X.w) X.A (assignInOrder ((assignEach ts X.env).map (·.2)) us) (fun _ s'=>∃σ' H',Inv X pins σ' H' s'/\Q σ' H') X.xe s
noncomputable abbrev TSet:=V->V->V->Hp->(Hp->Prop)->Prop
noncomputable def PSet(X:Cx)(t:TSet):Prop:=
 ∀(pins:List (Addr×Obj)) (s:Shared) (σ:St) (H:Hp) (o i v:V) (ov iv u:Value) (Q:Hp->Prop),Inv X pins σ H s->RelV o ov->RelV i iv->RelV v u->t o i v H Q->
  wpAny (model X.prog X.w) X.A (setItem ov iv u) (fun _ s'=>∃H',Inv X pins σ H' s'/\Q H') X.xe s
noncomputable abbrev TIp:=V->V->Hp->VK->Prop
noncomputable def PIp(X:Cx)(op:Operator)(t:TIp):Prop:=
 ∀(pins:List (Addr×Obj)) (s:Shared) (σ:St) (H:Hp) (x y:V) (v u:Value) (Q:VK),Inv X pins σ H s->RelV x v->RelV y u->t x y H Q->
  wpAny (model X.prog X.w) X.A (inplaceOp op v u) (EP X pins σ Q) X.xe s
section
variable{X:Cx}{pos:Pos}
noncomputable def gName(i:Nat):TG:=fun v σ H Q=>Q (σ.set i (some v)) H
theorem pg_name{i:Nat}{x:Str}(hN:X.N.Nodup)(hi:X.N[i]?=some x)(hx:Loc X.env.scope x)(hf:X.fn x=true\/X.env.scope.names.lookup x=some .local:=by first|exact .inl rfl|exact .inr rfl|assumption):PG X (.Name x pos) (gName i):=by
 intro pins s σ H v u Q I r h
 exact wpAny_assign_Name (store_ok I hN hi hx r (fun s' I'=>⟨_,H,I',h⟩) hf)
noncomputable def gNil:TGs:=fun vs σ H Q=>vs=[]/\Q σ H
noncomputable def gCons(t:TG)(u:TGs):TGs:=fun vs σ H Q=>∃v r,vs=v::r/\t v σ H fun σ' H'=>u r σ' H' Q
theorem pgs_nil:PGs X [] gNil:=by
 intro pins s σ H vs us Q I r h
 obtain⟨e,h⟩:=h
 subst e
 cases r
 exact assignInOrder_nil ⟨σ,H,I,h⟩
theorem pgs_cons{e:Expr}{es:List Expr}{t:TG}{u:TGs}(h1:PG X e t)(h2:PGs X es u)
  (hs:(assignEach (e::es) X.env).map (·.2)=assign e X.env::(assignEach es X.env).map (·.2):=by rfl):PGs X (e::es) (gCons t u):=by
 intro pins s σ H vs us Q I r h
 obtain⟨v,vr,e1,h⟩:=h
 subst e1
 cases r with
 | cons r rr=>
  rw[hs]
  refine assignInOrder_cons (thn (h1 pins s σ H _ _ _ I r h) fun _ s1 ⟨σ1,H1,I1,q1⟩=>?_)
  exact h2 pins s1 σ1 H1 _ _ Q I1 rr q1
noncomputable def gTup(K:PySem.W.Frag)(n:Nat)(t:TGs):TG:=fun v σ H Q=>∃a xs,v=.ref a/\SqT K H a xs/\xs.length=n/\t xs σ H Q
theorem pg_tup{es:List Expr}{k:Nat}{t:TGs}{n:Nat}(hc:X.calm=true)(h:PGs X es t)
  (hn:(assignEach es X.env).length=n:=by rfl) (hst:(assignEach es X.env).findIdx? (·.1)=none:=by rfl):PG X (.Tuple es k pos) (gTup X.K n t):=by
 intro pins s σ H v u Q I r hw
 obtain⟨a,xs,e1,hq,hl,hw⟩:=hw
 subst e1
 cases r
 obtain⟨its,rv,ht,hz⟩:=I.tuple hq
 refine assign_Tuple_tuple (I.ok.hd hc) ht (by simp[hn,<-hl,rv.length]) hst fun h' hx=>?_
 have I1:Inv X pins σ H {s with heap:=h'}:=I.kept (t':=s.toks) fun b o e=>hx b o (Nat.ne_of_lt (Heap.lt_size e)) e
 exact h pins _ σ H xs _ Q I1 (by simpa using rv) hw
noncomputable def gSub(to ti:TE)(t:TSet):TG:=fun v σ H Q=>to σ H fun o H1=>ti σ H1 fun i H2=>t o i v H2 fun H3=>Q σ H3
theorem pg_sub{o i:Expr}{to ti:TE}{t:TSet}(ho:PE X o to)(hi:PE X i ti)(hs:PSet X t)
  (ha:∀v,assign (.Subscript o i pos) X.env v=(do
   let ov <-holding [v] (eval o X.env)
   let iv <-holding [v,ov] (eval i X.env)
   standAt pos
   holding [v,ov,iv] (setItem ov iv v)
   release [v,ov,iv] []):=by intro _;rfl):PG X (.Subscript o i pos) (gSub to ti t):=by
 intro pins s σ H v u Q I r h
 rw[ha]
 refine wpAny_bind (wpAny_holding (thn (ho pins s σ H _ I h) fun ov s1 ⟨x,H1,I1,r1,q1⟩=>?_))
 refine wpAny_bind (wpAny_holding (thn (hi pins s1 σ H1 _ I1 q1) fun iv s2 ⟨y,H2,I2,r2,q2⟩=>?_))
 refine wpAny_bind (wpAny_standAt (wpAny_bind (wpAny_holding (thn (hs pins s2 σ H2 x y v ov iv u _ I2 r1 r2 r q2) fun _ s3 ⟨H3,I3,q3⟩=>?_))))
 exact wpAny_release ⟨σ,H3,I3,q3⟩
noncomputable def tAsg(te:TE)(g:TG):TS:=fun D σ H=>te σ H fun x H1=>g x σ H1 D.nx
theorem ps_asg{tg e:Expr}{te:TE}{g:TG}(he:PE X e te)(hg:PG X tg g)(hs:swapsWithSole [tg] e pos.line X.env=pure false:=by rfl)(hw:swappedStores [tg] e X.env=pure none:=by rfl)
  (h1:(assignEach [tg] X.env).map (·.2)=[assign tg X.env]:=by rfl):PS X (.Assign [tg] e pos) (tAsg te g):=by
 intro pins s σ H D I h
 refine wpAny_Assign_stores (thn (he pins s σ H _ I h) fun v s1 ⟨x,H1,I1,r1,q1⟩=>?_) hs hw
 rw[h1]
 exact thn (hg pins s1 σ H1 x v _ I1 r1 q1) fun _ s2 q=>q
theorem ps_set{i:Nat}{x:Str}{e:Expr}{te:TE}{pos':Pos}(hN:X.N.Nodup)(hi:X.N[i]?=some x)(hx:Loc X.env.scope x)(he:PE X e te)(hs:swapsWith e (some (.Name x pos')) pos.line X.env=pure false:=by rfl)(hf:X.fn x=true\/X.env.scope.names.lookup x=some .local:=by first|exact .inl rfl|exact .inr rfl|assumption) :
  PS X (.Assign [.Name x pos'] e pos) (tAsg te (gName i)):=by
 intro pins s σ H D I h
 refine wpAny_Assign_Name (thn (he pins s σ H _ I h) fun v s1 ⟨y,H1,I1,r1,q1⟩=>?_) hs
 exact store_ok I1 hN hi hx r1 (fun s2 I2=>⟨_,H1,I2,q1⟩) hf
noncomputable def tAug(i:Nat)(te:TE)(ti:TIp):TS:=fun D σ H=>∃x,σ[i]?=some (some x)/\te σ H fun y H1=>ti x y H1 fun z H2=>D.nx (σ.set i (some z)) H2
theorem ps_aug{i:Nat}{x:Str}{e:Expr}{te:TE}{op:Operator}{ti:TIp}{pos':Pos}(hN:X.N.Nodup)(hi:X.N[i]?=some x)(hx:Loc X.env.scope x)(he:PE X e te)(ho:PIp X op ti)(hf:X.fn x=true\/X.env.scope.names.lookup x=some .local:=by first|exact .inl rfl|exact .inr rfl|assumption) :
  PS X (.AugAssign (.Name x pos') op e pos) (tAug i te ti):=by
 intro pins s σ H D I h
 obtain⟨v,e1,h⟩:=h
 obtain⟨m,hn,hl⟩:=I.loc
 have vis:Vis X.env.scope x:=by rcases hx with k|k;exact .inl k;exact .inr (.inl k)
 obtain⟨u,r,l⟩:=hl i x v hi e1 vis
 refine wpAny_AugAssign_Name ?_
 have go:wpAny (model X.prog X.w) X.A (eval e X.env) (fun w s₂=>wpAny (model X.prog X.w) X.A (inplaceOp op u w) (fun r s₃=>wpAny (model X.prog X.w) X.A (storeName X.env x r) (fun _=>SP X pins D .next) X.xe s₃) X.xe s₂) X.xe s:=by
  refine thn (he pins s σ H _ I h) fun w s1 ⟨y,H1,I1,r1,q1⟩=>?_
  refine thn (ho pins s1 σ H1 v y u w _ I1 r r1 q1) fun z s2 ⟨zv,H2,I2,r2,q2⟩=>?_
  exact store_ok I2 hN hi hx r2 (fun s3 I3=>⟨_,H2,I3,q2⟩) hf
 rcases l with ⟨hk,hm⟩|⟨hk,c,hc,hcell⟩
 .exact wpAny_loadName_local I.ok.kind hk hn hm go
 .rcases hk with hk|hk
  .exact wpAny_loadName_cell I.ok.kind hk hc hcell go
  .rcases hx with k|k
   .have:X.env.scope.names.lookup x=some .free:=hk
    rw[k]at this;cases this
   .have:X.env.scope.names.lookup x=some .free:=hk
    rw[k]at this;cases this
noncomputable def ipI(f:Int->Int->Int):TIp:=fun x y H Q=>∃i j,x=.int i/\y=.int j/\Q (.int (f i j)) H
theorem ip_add:PIp X .Add (ipI fun i j=>i+j):=by
 intro pins s σ H x y v u Q I r1 r2 h
 obtain⟨i,j,e1,e2,q⟩:=h
 subst e1;subst e2
 obtain⟨t,rfl⟩:=r1
 obtain⟨t',rfl⟩:=r2
 exact iadd_int ⟨.int _,H,I.tok _,⟨_,rfl⟩,q⟩
noncomputable def tWhile(c:TT)(tb:TS):TS:=fun D σ H=>∃W:Nat->St->Hp->Prop,(∃m,W m σ H)/\∀m σ H,W m σ H->
 c σ H fun b H1=>if b=true then ∃N:St->Hp->Prop,(∀σ' H',N σ' H'->∃m',m'<m/\W m' σ' H')/\tb {D with nx:=N,ct:=N,bk:=D.nx} σ H1 else D.nx σ H1
theorem ps_while{c:Expr}{body:List Stmt}{tc:TT}{tb:TS}(hp:PassesOwn (model X.prog X.w) X.A X.env X.xe)(hc:PT X c tc)(hb:PSs X body tb):PS X (.While c body [] pos) (tWhile tc tb):=by
 intro pins s σ H D I h
 obtain⟨W,⟨m0,w0⟩,turn⟩:=h
 refine wpAny_While (codeAny_whileLoop (fun n s'=>∃σ' H',Inv X pins σ' H' s'/\W n σ' H') ?_ m0 ⟨σ,H,I,w0⟩)
 rintro n s1 ⟨σ1,H1,I1,w1⟩
 refine wpAny_passesOwn hp (thn (hc pins s1 σ1 H1 _ I1 (turn n σ1 H1 w1)) fun b s2 ⟨H2,I2,q2⟩=>?_)
 cases b with
 | true=>
  obtain⟨N,hN,q2⟩:=q2
  rw[if_pos rfl]
  refine wpAny_passesOwn hp (thn (hb pins s2 σ1 H2 _ I2 q2) fun f s3 q3=>?_)
  cases f with
  | next=>
   obtain⟨σ3,H3,I3,n3⟩:=q3
   obtain⟨m',hm,w3⟩:=hN σ3 H3 n3
   exact⟨m',hm,σ3,H3,I3,w3⟩
  | cont=>
   obtain⟨σ3,H3,I3,n3⟩:=q3
   obtain⟨m',hm,w3⟩:=hN σ3 H3 n3
   exact⟨m',hm,σ3,H3,I3,w3⟩
  | brk=>exact q3
  | ret v=>exact q3
 | false=>
  rw[if_neg Bool.false_ne_true]
  exact wpAny_execs_nil ⟨σ1,H2,I2,q2⟩
end
structure It where
 go:Nat->Hp->Prop
 yld:Nat->Hp->V->Hp->Prop
 stop:Nat->Hp->Prop
noncomputable def FpOk(X:Cx)(pins:List (Addr×Obj))(H:Hp)(b:Addr):Prop:=
 H b=none/\b≠X.env.locals/\b∉X.fs/\(b∈X.ex\/X.s₀.heap.objs.size<=b)/\(∀x c,X.env.cells.lookup x=some c->c≠b)/\∀p∈X.pn++pins,p.1≠b
theorem Inv.fpOk{X:Cx}{pins:List (Addr×Obj)}{σ:St}{H H':Hp}{s:Shared}{b:Addr}(I:Inv X pins σ H s)(hb:s.heap.objs.size<=b)(hn:H' b=none):FpOk X pins H' b:=by
 refine⟨hn,Nat.ne_of_gt (Nat.lt_of_lt_of_le I.lt hb),I.nofs hb,.inr (Nat.le_trans I.sz hb),fun x c e z=>?_,fun p hp z=>?_⟩
 .obtain⟨v,q⟩:=I.cell x c e
  exact absurd (Nat.lt_of_lt_of_le q.lt (by rw[z];exact hb)) (Nat.lt_irrefl _)
 .exact absurd (Nat.lt_of_lt_of_le (Heap.lt_size (I.pin p hp).1) (by rw[z];exact hb)) (Nat.lt_irrefl _)
structure Turn(P:Program)(w:World)(K:PySem.W.Frag)(tg:Expr)(J:It)(fp:List Addr)(it:Addr)(tn:Nat->Heap->Prop):Prop where
 mem:it∈fp
 obj:∀i h,tn i h->∀b∈fp,∃o,h.get? b=some o/\∀v,o.data≠.cell v
 keep:∀i h h',tn i h->(∀b∈fp,∀o,h.get? b=some o->h'.get? b=some o)->tn i h'
 item:∀(X:Cx),X.prog=P->X.w=w->X.K=K->X.calm=true->∀(i:Nat) (pins:List (Addr×Obj)) (s:Shared) (σ:St) (H:Hp) (E:Value->Shared->Prop),Inv X pins σ H s->(∀b∈fp,FpOk X pins H b)->tn i s.heap->J.go i H->
  wpAny (model P w) X.A (pyNext (.ref it)) (fun r s1=>∃u,r=some u/\
   wpAny (model P w) X.A (letOwnedTupleGo tg (.ref it) u) (fun _ s2=>∃x H',Inv X pins σ H' s2/\RelV x u/\J.yld i H x H'/\tn (i+1) s2.heap/\∀b∈fp,H' b=none) E s1) E s
 done:∀(X:Cx),X.prog=P->X.w=w->X.K=K->X.calm=true->∀(i:Nat) (pins:List (Addr×Obj)) (s:Shared) (σ:St) (H:Hp) (E:Value->Shared->Prop),Inv X pins σ H s->(∀b∈fp,FpOk X pins H b)->tn i s.heap->J.stop i H->
  wpAny (model P w) X.A (pyNext (.ref it)) (fun r s1=>r=none/\Inv X pins σ H s1) E s
 self:∀(A:Around) (i:Nat) (s:Shared) (Q:Value->Shared->Prop) (E:Value->Shared->Prop),tn i s.heap->Q (.ref it) s->wpAny (model P w) A (pyIter (.ref it)) Q E s
noncomputable abbrev TI:=St->Hp->(It->Hp->Prop)->Prop
noncomputable def PIE(X:Cx)(pins:List (Addr×Obj))(σ:St)(tg:Expr)(R:It->Hp->Prop)(itv:Value)(s2:Shared):Prop:=
 ∃(it:Addr) (fp:List Addr) (tn:Nat->Heap->Prop) (J:It) (H':Hp),itv=.ref it/\Inv X pins σ H' s2/\Turn X.prog X.w X.K tg J fp it tn/\tn 0 s2.heap/\(∀b∈fp,FpOk X pins H' b)/\R J H'
noncomputable def PI(X:Cx)(tg iter:Expr)(wi:TI):Prop:=
 ∀(pins:List (Addr×Obj)) (s:Shared) (σ:St) (H:Hp) (R:It->Hp->Prop),Inv X pins σ H s->wi σ H R->
  wpAny (model X.prog X.w) X.A (eval iter X.env) (fun v s1=>wpAny (model X.prog X.w) X.A (pyIter v) (PIE X pins σ tg R) X.xe s1) X.xe s
theorem go_of{M:Model}{A:Around}{E:Value->Shared->Prop}{s:Shared}{tg:Expr}{it:Addr}{u:Value}{o:Obj}{n:String}{vs:Array Value}{Q:Unit->Shared->Prop}(ho:s.heap.get? it=some o)(hc:o.cls=.type n)(hd:o.data=.fields vs)
  (hn:["enumerate","zip","dict_itemiterator","dict_reverseitemiterator","odict_iterator","itertools.zip_longest","itertools.pairwise"].contains n=false) (hQ:Q () s):wpAny M A (letOwnedTupleGo tg (.ref it) u) Q E s:=by
 unfold letOwnedTupleGo
 cases tg<;>first
  | exact wpAny_pure hQ
  | (cases u<;>first
    | exact wpAny_pure hQ
    | (refine wpAny_bind (wpAny_load ho ?_)
       rw[hc,hd]
       show wpAny M A (if (["enumerate","zip","dict_itemiterator","dict_reverseitemiterator","odict_iterator","itertools.zip_longest","itertools.pairwise"].contains n&&vs[0]?==some (rawInt _))=true then _ else _) Q E s
       rw[if_neg (by intro h;rw[hn,Bool.false_and]at h;cases h)]
       exact wpAny_pure hQ))
noncomputable def Itl(K:PySem.W.Frag)(a:Addr):It:=
 ⟨fun i H=>∃xs x,SqL K H a xs/\xs[i]?=some x,fun i H x H'=>H'=H/\∀xs,SqL K H a xs->xs[i]?=some x,fun i H=>∃xs,SqL K H a xs/\xs.length<=i⟩
noncomputable def Itt(K:PySem.W.Frag)(a:Addr):It:=
 ⟨fun i H=>∃xs x,SqT K H a xs/\xs[i]?=some x,fun i H x H'=>H'=H/\∀xs,SqT K H a xs->xs[i]?=some x,fun i H=>∃xs,SqT K H a xs/\xs.length<=i⟩
noncomputable def Itr(lo:Int)(n:Nat):It:=⟨fun i _=>i<n,fun i H x H'=>H'=H/\x=.int (lo+i),fun i _=>n<=i⟩
theorem turn_list{P:Program}{w:World}{K:PySem.W.Frag}{tg:Expr}(a it:Addr):Turn P w K tg (Itl K a) [it] it (fun i h=>h.IsListIter it a i)where
 mem:=by simp
 obj:=fun i h st b hb=>by
  have e:b=it:=by simpa using hb
  subst e
  obtain⟨o,e,c,d⟩:=st
  exact⟨o,e,fun v z=>by rw[d]at z;cases z⟩
 keep:=fun i h h' st k=>st.at fun o e=>k it (by simp) o e
 item:=by
  intro X hP hw hK hc i pins s σ H E I hf st hg
  subst hP hw hK
  obtain⟨xs,x,hq,hx⟩:=hg
  obtain⟨its,rv,p,hz⟩:=I.list hq
  obtain⟨u,hu,ru⟩:=rv.get hx
  obtain⟨f0,f1,f2,f3,f4,f5⟩:=hf it (by simp)
  refine wpAny_pyNext_list_item st p.isList (x:=u) (by simpa using hu) fun h' st' sb=>?_
  have I1:Inv X pins σ H {s with heap:=h'}:=I.turned (t':=s.toks) (fun b o hb e=>(sb.2 b hb).trans e) f0 f1 f3 f4 f5
  obtain⟨o,e,c,d⟩:=id st'
  exact⟨u,rfl,go_of (s:={s with heap:=h'}) e c d (by decide) ⟨x,H,I1,ru,⟨rfl,fun ys hy=>by rw[I.list_inj hy hq];exact hx⟩,st',fun b hb=>(hf b hb).1⟩⟩
 done:=by
  intro X hP hw hK hc i pins s σ H E I hf st hg
  subst hP hw hK
  obtain⟨xs,hq,hx⟩:=hg
  obtain⟨its,rv,p,hz⟩:=I.list hq
  obtain⟨f0,f1,f2,f3,f4,f5⟩:=hf it (by simp)
  have hl:=rv.length
  exact wpAny_pyNext_list_end (I.ok.hd hc) st p.isList (by simp;omega) fun h' eb=>⟨rfl,I.turned (t':=s.toks) (fun b o hb e=>eb b o hb e) f0 f1 f3 f4 f5⟩
 self:=fun _ _ _ _ _ st h=>wpAny_pyIter_listiter st h
theorem turn_tuple{P:Program}{w:World}{K:PySem.W.Frag}{tg:Expr}(a it:Addr):Turn P w K tg (Itt K a) [it] it (fun i h=>h.IsTupleIter it a i)where
 mem:=by simp
 obj:=fun i h st b hb=>by
  have e:b=it:=by simpa using hb
  subst e
  obtain⟨o,e,c,d⟩:=st
  exact⟨o,e,fun v z=>by rw[d]at z;cases z⟩
 keep:=fun i h h' st k=>st.at fun o e=>k it (by simp) o e
 item:=by
  intro X hP hw hK hc i pins s σ H E I hf st hg
  subst hP hw hK
  obtain⟨xs,x,hq,hx⟩:=hg
  obtain⟨its,rv,p,hz⟩:=I.tuple hq
  obtain⟨u,hu,ru⟩:=rv.get hx
  obtain⟨f0,f1,f2,f3,f4,f5⟩:=hf it (by simp)
  refine wpAny_pyNext_tuple_item st (show s.heap.IsTuple a its.toArray from p) (x:=u) (by simpa using hu) fun h' st' sb=>?_
  have I1:Inv X pins σ H {s with heap:=h'}:=I.turned (t':=s.toks) (fun b o hb e=>(sb.2 b hb).trans e) f0 f1 f3 f4 f5
  obtain⟨o,e,c,d⟩:=id st'
  exact⟨u,rfl,go_of (s:={s with heap:=h'}) e c d (by decide) ⟨x,H,I1,ru,⟨rfl,fun ys hy=>by rw[I.tuple_inj hy hq];exact hx⟩,st',fun b hb=>(hf b hb).1⟩⟩
 done:=by
  intro X hP hw hK hc i pins s σ H E I hf st hg
  subst hP hw hK
  obtain⟨xs,hq,hx⟩:=hg
  obtain⟨its,rv,p,hz⟩:=I.tuple hq
  obtain⟨f0,f1,f2,f3,f4,f5⟩:=hf it (by simp)
  have hl:=rv.length
  exact wpAny_pyNext_tuple_end (I.ok.hd hc) st (show s.heap.IsTuple a its.toArray from p) (by simp;omega) fun h' eb=>⟨rfl,I.turned (t':=s.toks) (fun b o hb e=>eb b o hb e) f0 f1 f3 f4 f5⟩
 self:=fun _ _ _ _ _ st h=>wpAny_pyIter_tupleiter st h
theorem turn_range{P:Program}{w:World}{K:PySem.W.Frag}{tg:Expr}(it:Addr)(lo:Int)(n:Nat):Turn P w K tg (Itr lo n) [it] it (fun i h=>IsRangeIter h it (lo+(i:Nat)*1) ((n:Int)-(i:Nat)) 1)where
 mem:=by simp
 obj:=fun i h st b hb=>by
  have e:b=it:=by simpa using hb
  subst e
  exact⟨_,st,fun v z=>by
   have z':Data.fields _=Data.cell v:=z
   cases z'⟩
 keep:=fun i h h' st k=>k it (by simp) _ st
 item:=by
  intro X hP hw hK hc i pins s σ H E I hf st hg
  subst hP hw hK
  obtain⟨f0,f1,f2,f3,f4,f5⟩:=hf it (by simp)
  have W:=Walks.range (prog:=X.prog) (w:=X.w) (I.ok.hd hc) it lo 1 n
  refine W.item i s _ _ hg st fun v h' tk hv st' kk=>?_
  obtain⟨t,rfl⟩:=hv
  have I1:Inv X pins σ H {s with heap:=h',toks:=tk}:=I.turned (fun b o hb e=>kk b o (by simpa using hb) e) f0 f1 f3 f4 f5
  refine⟨_,rfl,go_of (s:={s with heap:=h',toks:=tk}) (n:="range_iterator") st' rfl rfl (by decide) ⟨.int (lo+i),H,I1,⟨t,?_⟩,⟨rfl,rfl⟩,st',fun b hb=>(hf b hb).1⟩⟩
  rw[Int.mul_one]
 done:=by
  intro X hP hw hK hc i pins s σ H E I hf st hg
  subst hP hw hK
  obtain⟨f0,f1,f2,f3,f4,f5⟩:=hf it (by simp)
  exact wpAny_pyNext_range_end (I.ok.hd hc) st (by have:n<=i:=hg;omega) fun h' eb=>⟨rfl,I.turned (t':=s.toks) (fun b o hb e=>eb b o hb e) f0 f1 f3 f4 f5⟩
 self:=fun _ _ _ _ _ st h=>wpAny_pyIter_rangeiter st h
end L2
namespace L2
open PySem PySem.Spec PyProof.Rows
section
variable{X:Cx}{tg:Expr}
noncomputable def iList(K:PySem.W.Frag)(tl:TE):TI:=fun σ H R=>tl σ H fun x H1=>∃a,x=.ref a/\(∃xs,SqL K H1 a xs)/\R (Itl K a) H1
noncomputable def iTup(K:PySem.W.Frag)(tl:TE):TI:=fun σ H R=>tl σ H fun x H1=>∃a,x=.ref a/\(∃xs,SqT K H1 a xs)/\R (Itt K a) H1
theorem pi_list{l:Expr}{tl:TE}(hl:PE X l tl):PI X tg l (iList X.K tl):=by
 intro pins s σ H R I h
 refine thn (hl pins s σ H _ I h) fun v s1 ⟨x,H1,I1,r1,q1⟩=>?_
 obtain⟨a,e,⟨xs,hq⟩,q⟩:=q1
 subst e
 cases r1
 obtain⟨its,rv,p,hz⟩:=I1.list hq
 refine wpAny_pyIter_list p.isList ?_
 refine⟨s1.heap.objs.size,[s1.heap.objs.size],_,_,H1,rfl,I1.kept (t':=s1.toks) fun b o e=>Heap.get?_push_of_some _ e,turn_list a _,⟨_,Heap.get?_push_size _ rfl,rfl,rfl⟩,fun b hb=>?_,q⟩
 have e:b=s1.heap.objs.size:=by simpa using hb
 subst e
 exact I1.fpOk (Nat.le_refl _) (I1.hok.fresh (Nat.le_refl _))
theorem pi_tup{l:Expr}{tl:TE}(hl:PE X l tl):PI X tg l (iTup X.K tl):=by
 intro pins s σ H R I h
 refine thn (hl pins s σ H _ I h) fun v s1 ⟨x,H1,I1,r1,q1⟩=>?_
 obtain⟨a,e,⟨xs,hq⟩,q⟩:=q1
 subst e
 cases r1
 obtain⟨its,rv,p,hz⟩:=I1.tuple hq
 refine wpAny_pyIter_tuple (show s1.heap.IsTuple a its.toArray from p) ?_
 refine⟨s1.heap.objs.size,[s1.heap.objs.size],_,_,H1,rfl,I1.kept (t':=s1.toks) fun b o e=>Heap.get?_push_of_some _ e,turn_tuple a _,⟨_,Heap.get?_push_size _ rfl,rfl,rfl⟩,fun b hb=>?_,q⟩
 have e:b=s1.heap.objs.size:=by simpa using hb
 subst e
 exact I1.fpOk (Nat.le_refl _) (I1.hok.fresh (Nat.le_refl _))
theorem range_it{pins:List (Addr×Obj)}{σ:St}{H:Hp}{s:Shared}{R:It->Hp->Prop}{E:Value->Shared->Prop}{lo hi:Int}{t u v:Tok}{tk:Nat}(I:Inv X pins σ H s)(h1:-(2^62)<=lo)(h2:lo<2^62)(h3:-(2^62)<=hi)(h4:hi<2^62)
  (q:R (Itr lo (hi-lo).toNat) H):wpAny (model X.prog X.w) X.A (pyIter (.ref s.heap.objs.size)) (PIE X pins σ tg R) E {s with heap:=s.heap.push {cls:=.type "range",data:=.fields #[.int lo t,.int hi u,.int 1 v]},toks:=tk}:=by
 refine wpAny_pyIter_range (IsRange.new ..) (small_one h1 h2 h3 h4) ?_
 have I1:Inv X pins σ H {s with heap:=s.heap.push {cls:=.type "range",data:=.fields #[.int lo t,.int hi u,.int 1 v]},toks:=tk}:=I.kept fun b o e=>Heap.get?_push_of_some _ e
 refine⟨(s.heap.push {cls:=.type "range",data:=.fields #[.int lo t,.int hi u,.int 1 v]}).objs.size,[(s.heap.push {cls:=.type "range",data:=.fields #[.int lo t,.int hi u,.int 1 v]}).objs.size],_,_,H,rfl,
  I1.kept (t':=tk) fun b o e=>Heap.get?_push_of_some _ e,turn_range _ lo (hi-lo).toNat,?_,fun b hb=>?_,q⟩
 .have e1:lo+((0:Nat):Int)*1=lo:=by simp
  have e2:(((hi-lo).toNat:Nat):Int)-((0:Nat):Int)=Builtin.Range.rangeSize lo hi 1:=by rw[rangeSize_one];split<;>omega
  show IsRangeIter _ _ (lo+((0:Nat):Int)*1) ((((hi-lo).toNat:Nat):Int)-((0:Nat):Int)) 1
  rw[e1,e2]
  exact Heap.get?_push_size _ rfl
 .have e:b=(s.heap.push {cls:=.type "range",data:=.fields #[.int lo t,.int hi u,.int 1 v]}).objs.size:=by simpa using hb
  subst e
  exact I1.fpOk (Nat.le_refl _) (I1.hok.fresh (Nat.le_refl _))
noncomputable def iRng1(ta:TA):TI:=fun σ H R=>ta σ H fun vs H1=>∃j:Int,vs=[.int j]/\-(2^62)<=j/\j<2^62/\R (Itr 0 j.toNat) H1
noncomputable def iRng2(ta:TA):TI:=fun σ H R=>ta σ H fun vs H1=>∃i j:Int,vs=[.int i,.int j]/\(-(2^62)<=i/\i<2^62/\-(2^62)<=j/\j<2^62)/\R (Itr i (j-i).toNat) H1
theorem pi_range1{a:Expr}{ta:TA}{p pos:Pos}(hg:Gl X "range")(hm:X.mg "range" = none)(ha:PA X [a] ta)(hs:starEach [a] X.env=[(false,eval a X.env)]:=by rfl):PI X tg (.Call (.Name "range" p) [a] [] pos) (iRng1 ta):=by
 intro pins s σ H R I h
 refine Call_ (ld_blt I hg hm boot_range (PyProof.Rows.callWith_type1 (thn (ha pos pins s σ H _ I h) fun us s1 ⟨vs,H1,I1,r1,q1⟩=>?_) hs rfl))
 obtain⟨j,e,q1,q2,q⟩:=q1
 subst e
 cases r1 with
 | cons r rr=>
  cases rr
  obtain⟨t,rfl⟩:=r
  exact call_range_1 (range_it I1 (by omega) (by omega) q1 q2 (by simpa using q))
theorem pi_range2{a b:Expr}{ta:TA}{p pos:Pos}(hg:Gl X "range")(hm:X.mg "range" = none)(ha:PA X [a,b] ta)(hs:starEach [a,b] X.env=[(false,eval a X.env),(false,eval b X.env)]:=by rfl)(hs2:starEach [b] X.env=[(false,eval b X.env)]:=by rfl) :
  PI X tg (.Call (.Name "range" p) [a,b] [] pos) (iRng2 ta):=by
 intro pins s σ H R I h
 refine Call_ (ld_blt I hg hm boot_range (PyProof.Rows.callWith_type1 (thn (ha pos pins s σ H _ I h) fun us s1 ⟨vs,H1,I1,r1,q1⟩=>?_) (by rw[hs,hs2]) (by rw[hs2];rfl)))
 obtain⟨i,j,e,⟨q1,q2,q3,q4⟩,q⟩:=q1
 subst e
 cases r1 with
 | cons r rr=>
  cases rr with
  | cons r' rr=>
   cases rr
   obtain⟨t,rfl⟩:=r
   obtain⟨t',rfl⟩:=r'
   exact call_range_2 (range_it I1 q1 q2 q3 q4 q)
noncomputable def tFor(wi:TI)(g:TG)(tb:TS):TS:=fun D σ H=>wi σ H fun J H1=>∃W:Nat->Nat->St->Hp->Prop,(∃m,W 0 m σ H1)/\∀i m σ H,W i m σ H->
 (J.stop i H/\D.nx σ H)\/(J.go i H/\∃N:St->Hp->Prop,(∀σ' H',N σ' H'->∃m',m'<m/\W (i+1) m' σ' H')/\∀x H',J.yld i H x H'->g x σ H' fun σ2 H2=>tb {D with nx:=N,ct:=N,bk:=D.nx} σ2 H2)
noncomputable def pinsAt(fp:List Addr)(h:Heap):List (Addr×Obj):=fp.filterMap fun b=>(h.get? b).map fun o=>(b,o)
theorem mem_pinsAt{fp:List Addr}{h:Heap}{b:Addr}{o:Obj}(hb:b∈fp)(e:h.get? b=some o):(b,o)∈pinsAt fp h:=List.mem_filterMap.mpr ⟨b,hb,by rw[e];rfl⟩
theorem of_pinsAt{fp:List Addr}{h:Heap}{p:Addr×Obj}(hp:p∈pinsAt fp h):p.1∈fp/\h.get? p.1=some p.2:=by
 obtain⟨b,hb,e⟩:=List.mem_filterMap.mp hp
 cases q:h.get? b with
 | none=>rw[q]at e;cases e
 | some o=>
  rw[q]at e
  have e':(b,o)=p:=Option.some.inj e
  subst e'
  exact⟨hb,q⟩
theorem Inv.pinned{pins:List (Addr×Obj)}{σ:St}{H:Hp}{s:Shared}{fp:List Addr}(I:Inv X pins σ H s)(hf:∀b∈fp,FpOk X pins H b)(ho:∀b∈fp,∃o,s.heap.get? b=some o/\∀v,o.data≠.cell v):Inv X (pins++pinsAt fp s.heap) σ H s:=
 I.pins_of fun p hp=>(List.mem_append.mp hp).elim (fun z=>I.pin p (List.mem_append_right _ z)) fun z=>by
  obtain⟨hb,e⟩:=of_pinsAt z
  obtain⟨f0,f1,f2,_⟩:=hf p.1 hb
  obtain⟨o,e',d⟩:=ho p.1 hb
  rw[e]at e';cases e'
  exact⟨e,f0,f1,f2,d⟩
theorem Inv.unpinned{pins pl:List (Addr×Obj)}{σ:St}{H:Hp}{s:Shared}(I:Inv X (pins++pl) σ H s):Inv X pins σ H s:=I.pins_of fun p hp=>I.pin p (List.mem_append_right _ (List.mem_append_left _ hp))
theorem ps_for{iter:Expr}{body:List Stmt}{wi:TI}{g:TG}{tb:TS}{pos:Pos}(hp:PassesOwn (model X.prog X.w) X.A X.env X.xe)(hc:X.calm=true)(hi:PI X tg iter wi)(hg:PG X tg g)(hb:PSs X body tb)
  (hs:∀x,foldedSetIterable iter X.env x=pure x:=by intro _;rfl):PS X (.For tg iter body [] pos) (tFor wi g tb):=by
 intro pins s σ H D I h
 refine wpAny_For (thn (hi pins s σ H _ I h) fun v s1 h1=>thn h1 fun itv s2 h2=>?_) hs
 obtain⟨it,fp,tn,J,H2,e,I2,T,st2,f2,W,⟨m0,w0⟩,turn⟩:=h2
 subst e
 have stat:∀{H':Hp},(∀b∈fp,H' b=none)->∀b∈fp,FpOk X pins H' b:=fun hn b hb=>⟨hn b hb,(f2 b hb).2⟩
 refine codeAny_forLoop_any (fun n s'=>∃i σ' H',Inv X pins σ' H' s'/\tn i s'.heap/\(∀b∈fp,H' b=none)/\W i n σ' H') ?_ m0 ⟨0,σ,H2,I2,st2,fun b hb=>(f2 b hb).1,w0⟩
 rintro n s3 ⟨i,σ3,H3,I3,st3,fr3,w3⟩
 rcases turn i n σ3 H3 w3 with ⟨stop,qn⟩|⟨go,N,hN,step⟩
 .refine wpAny_passesOwn hp (thn (T.done X rfl rfl rfl hc i pins s3 σ3 H3 X.xe I3 (stat fr3) st3 stop) fun r s4 ⟨hr,I4⟩=>?_)
  subst hr
  exact wpAny_execs_nil ⟨σ3,H3,I4,qn⟩
 .refine wpAny_passesOwn hp (thn (T.item X rfl rfl rfl hc i pins s3 σ3 H3 X.xe I3 (stat fr3) st3 go) fun r s4 ⟨u,hr,h4⟩=>?_)
  subst hr
  refine wpAny_passesOwn hp (thn h4 fun _ s5 ⟨x,H5,I5,r5,y5,st5,fr5⟩=>?_)
  have I5':=I5.pinned (stat fr5) (T.obj _ _ st5)
  refine wpAny_passesOwn hp (thn (hg _ s5 σ3 H5 x u _ I5' r5 (step x H5 y5)) fun _ s6 ⟨σ6,H6,I6,q6⟩=>?_)
  refine wpAny_passesOwn hp (thn (hb _ s6 σ6 H6 _ I6 q6) fun f s7 q7=>?_)
  have again:∀{σ7:St} {H7:Hp},Inv X (pins++pinsAt fp s5.heap) σ7 H7 s7->N σ7 H7->∃m,m<n/\∃i σ' H',Inv X pins σ' H' s7/\tn i s7.heap/\(∀b∈fp,H' b=none)/\W i m σ' H':=fun{σ7 H7} I7 n7=>by
   obtain⟨m',hm,w7⟩:=hN σ7 H7 n7
   refine⟨m',hm,i+1,σ7,H7,I7.unpinned,T.keep _ _ _ st5 fun b hb o e=>(I7.pin (b,o) (List.mem_append_right _ (List.mem_append_right _ (mem_pinsAt hb e)))).1,fun b hb=>?_,w7⟩
   obtain⟨o,e,d⟩:=T.obj _ _ st5 b hb
   exact(I7.pin (b,o) (List.mem_append_right _ (List.mem_append_right _ (mem_pinsAt hb e)))).2.1
  cases f with
  | next=>obtain⟨σ7,H7,I7,n7⟩:=q7;exact again I7 n7
  | cont=>obtain⟨σ7,H7,I7,n7⟩:=q7;exact again I7 n7
  | brk=>obtain⟨σ7,H7,I7,q7⟩:=q7;exact⟨σ7,H7,I7.unpinned,q7⟩
  | ret v=>obtain⟨x7,σ7,H7,I7,r7,q7⟩:=q7;exact⟨x7,σ7,H7,I7.unpinned,r7,q7⟩
end
theorem for_list{K:PySem.W.Frag}{a:Addr}{xs:List V}{g:TG}{tb:TS}{D:Ends}{σ:St}{H:Hp}(Pv:Nat->St->Hp->Prop)(h0:Pv 0 σ H)(hl:∀i σ H,i<=xs.length->Pv i σ H->SqL K H a xs)
  (hs:∀i x σ H,xs[i]?=some x->Pv i σ H->g x σ H fun σ2 H2=>tb {D with nx:=Pv (i+1),ct:=Pv (i+1),bk:=D.nx} σ2 H2) (hd:∀σ H,Pv xs.length σ H->D.nx σ H) :
  ∃W:Nat->Nat->St->Hp->Prop,(∃m,W 0 m σ H)/\∀i m σ H,W i m σ H->
   ((Itl K a).stop i H/\D.nx σ H)\/((Itl K a).go i H/\∃N:St->Hp->Prop,(∀σ' H',N σ' H'->∃m',m'<m/\W (i+1) m' σ' H')/\∀x H',(Itl K a).yld i H x H'->g x σ H' fun σ2 H2=>tb {D with nx:=N,ct:=N,bk:=D.nx} σ2 H2):=by
 refine⟨fun i m σ H=>m=xs.length-i/\i<=xs.length/\Pv i σ H,⟨xs.length,by simp,Nat.zero_le _,h0⟩,?_⟩
 rintro i m σ H ⟨rfl,hi,p⟩
 have q:=hl i σ H hi p
 by_cases hlt:i<xs.length
 .refine .inr ⟨⟨xs,xs[i],q,by simp[hlt]⟩,Pv (i+1),fun σ' H' p'=>⟨xs.length-(i+1),by omega,rfl,hlt,p'⟩,fun x H' y=>?_⟩
  obtain⟨e,y⟩:=y
  subst e
  exact hs i x σ _ (y xs q) p
 .have e:i=xs.length:=by omega
  subst e
  exact .inl ⟨⟨xs,q,Nat.le_refl _⟩,hd σ H p⟩
theorem for_tup{K:PySem.W.Frag}{a:Addr}{xs:List V}{g:TG}{tb:TS}{D:Ends}{σ:St}{H:Hp}(Pv:Nat->St->Hp->Prop)(h0:Pv 0 σ H)(hl:∀i σ H,i<=xs.length->Pv i σ H->SqT K H a xs)
  (hs:∀i x σ H,xs[i]?=some x->Pv i σ H->g x σ H fun σ2 H2=>tb {D with nx:=Pv (i+1),ct:=Pv (i+1),bk:=D.nx} σ2 H2) (hd:∀σ H,Pv xs.length σ H->D.nx σ H) :
  ∃W:Nat->Nat->St->Hp->Prop,(∃m,W 0 m σ H)/\∀i m σ H,W i m σ H->
   ((Itt K a).stop i H/\D.nx σ H)\/((Itt K a).go i H/\∃N:St->Hp->Prop,(∀σ' H',N σ' H'->∃m',m'<m/\W (i+1) m' σ' H')/\∀x H',(Itt K a).yld i H x H'->g x σ H' fun σ2 H2=>tb {D with nx:=N,ct:=N,bk:=D.nx} σ2 H2):=by
 refine⟨fun i m σ H=>m=xs.length-i/\i<=xs.length/\Pv i σ H,⟨xs.length,by simp,Nat.zero_le _,h0⟩,?_⟩
 rintro i m σ H ⟨rfl,hi,p⟩
 have q:=hl i σ H hi p
 by_cases hlt:i<xs.length
 .refine .inr ⟨⟨xs,xs[i],q,by simp[hlt]⟩,Pv (i+1),fun σ' H' p'=>⟨xs.length-(i+1),by omega,rfl,hlt,p'⟩,fun x H' y=>?_⟩
  obtain⟨e,y⟩:=y
  subst e
  exact hs i x σ _ (y xs q) p
 .have e:i=xs.length:=by omega
  subst e
  exact .inl ⟨⟨xs,q,Nat.le_refl _⟩,hd σ H p⟩
theorem for_range{lo:Int}{n:Nat}{g:TG}{tb:TS}{D:Ends}{σ:St}{H:Hp}(Pv:Nat->St->Hp->Prop)(h0:Pv 0 σ H)
  (hs:∀i σ H,i<n->Pv i σ H->g (.int (lo+i)) σ H fun σ2 H2=>tb {D with nx:=Pv (i+1),ct:=Pv (i+1),bk:=D.nx} σ2 H2) (hd:∀σ H,Pv n σ H->D.nx σ H) :
  ∃W:Nat->Nat->St->Hp->Prop,(∃m,W 0 m σ H)/\∀i m σ H,W i m σ H->
   ((Itr lo n).stop i H/\D.nx σ H)\/((Itr lo n).go i H/\∃N:St->Hp->Prop,(∀σ' H',N σ' H'->∃m',m'<m/\W (i+1) m' σ' H')/\∀x H',(Itr lo n).yld i H x H'->g x σ H' fun σ2 H2=>tb {D with nx:=N,ct:=N,bk:=D.nx} σ2 H2):=by
 refine⟨fun i m σ H=>m=n-i/\i<=n/\Pv i σ H,⟨n,by simp,Nat.zero_le _,h0⟩,?_⟩
 rintro i m σ H ⟨rfl,hi,p⟩
 by_cases hlt:i<n
 .refine .inr ⟨hlt,Pv (i+1),fun σ' H' p'=>⟨n-(i+1),by omega,rfl,hlt,p'⟩,fun x H' y=>?_⟩
  obtain⟨e,y⟩:=y
  subst e y
  exact hs i σ _ hlt p
 .have e:i=n:=by omega
  subst e
  exact .inl ⟨Nat.le_refl _,hd σ H p⟩
end L2
namespace L2
open PySem PySem.Spec PyProof.Rows
noncomputable abbrev R2:=V->V->Hp->VK->Prop
noncomputable def OpR(X:Cx)(f:Value->Value->Sem Value)(r:R2):Prop:=
 ∀(pins:List (Addr×Obj)) (s:Shared) (σ:St) (H:Hp) (x y:V) (v u:Value) (Q:VK),Inv X pins σ H s->RelV x v->RelV y u->r x y H Q->
  wpAny (model X.prog X.w) X.A (f v u) (EP X pins σ Q) X.xe s
noncomputable def UnR(X:Cx)(f:Value->Sem Value)(r:V->Hp->VK->Prop):Prop:=
 ∀(pins:List (Addr×Obj)) (s:Shared) (σ:St) (H:Hp) (x:V) (v:Value) (Q:VK),Inv X pins σ H s->RelV x v->r x H Q->
  wpAny (model X.prog X.w) X.A (f v) (EP X pins σ Q) X.xe s
noncomputable def CallR(X:Cx)(f:Value)(r:List V->Hp->VK->Prop):Prop:=
 ∀(pins:List (Addr×Obj)) (s:Shared) (σ:St) (H:Hp) (xs:List V) (us:List Value) (Q:VK),Inv X pins σ H s->Vals xs us->r xs H Q->
  wpAny (model X.prog X.w) X.A (call f us) (EP X pins σ Q) X.xe s
noncomputable def TruR(X:Cx)(r:V->Hp->(Bool->Hp->Prop)->Prop):Prop:=
 ∀(pins:List (Addr×Obj)) (s:Shared) (σ:St) (H:Hp) (x:V) (v:Value) (Q:Bool->Hp->Prop),Inv X pins σ H s->RelV x v->r x H Q->
  wpAny (model X.prog X.w) X.A (truthy v) (TP X pins σ Q) X.xe s
noncomputable def tOp(r:R2)(ta tb:TE):TE:=fun σ H Q=>ta σ H fun x H1=>tb σ H1 fun y H2=>r x y H2 Q
noncomputable def tUn(r:V->Hp->VK->Prop)(ta:TE):TE:=fun σ H Q=>ta σ H fun x H1=>r x H1 Q
noncomputable def rI(C:Int->Int->Prop)(g:Int->Int->V):R2:=fun x y H Q=>∃i j,x=.int i/\y=.int j/\C i j/\Q (g i j) H
noncomputable def rI0(g:Int->Int->V):R2:=fun x y H Q=>∃i j,x=.int i/\y=.int j/\Q (g i j) H
noncomputable def rU(g:Int->V):V->Hp->VK->Prop:=fun x H Q=>∃i,x=.int i/\Q (g i) H
section
variable{X:Cx}{a b c:Expr}{ta tb tc:TE}{pos:Pos}
theorem binT(ha:PE X a ta)(hb:PE X b tb){pins:List (Addr×Obj)}{s:Shared}{σ:St}{H:Hp}{R:V->V->Hp->Prop}(I:Inv X pins σ H s)
  (h:ta σ H fun x H1=>tb σ H1 fun y H2=>R x y H2) {Q:Value->Shared->Prop} {f:Value->Value->Sem Value}
  (hf:∀v u s2 x y H2,Inv X pins σ H2 s2->RelV x v->RelV y u->R x y H2->wpAny (model X.prog X.w) X.A (f v u) Q X.xe s2) :
  wpAny (model X.prog X.w) X.A (eval a X.env) (fun v s₁=>wpAny (model X.prog X.w) X.A (eval b X.env) (fun u s₂=>wpAny (model X.prog X.w) X.A (f v u) Q X.xe s₂) X.xe s₁) X.xe s:=by
 refine thn (ha pins s σ H _ I h) fun v s1 ⟨x,H1,I1,r1,q1⟩=>?_
 refine thn (hb pins s1 σ H1 _ I1 q1) fun u s2 ⟨y,H2,I2,r2,q2⟩=>?_
 exact hf v u s2 x y H2 I2 r1 r2 q2
theorem pe_op{op:Operator}{r:R2}(ho:OpR X (binaryOp op) r)(ha:PE X a ta)(hb:PE X b tb):PE X (.BinOp a op b pos) (tOp r ta tb):=by
 intro pins s σ H Q I h
 exact wpAny_BinOp (binT ha hb I h fun v u s2 x y H2 I2 rx ry q=>ho pins s2 σ H2 x y v u Q I2 rx ry q)
theorem pe_un{op:UnaryOp}{r:V->Hp->VK->Prop}(ho:UnR X (unaryOp op) r)(ha:PE X a ta):PE X (.UnaryOp op a pos) (tUn r ta):=by
 intro pins s σ H Q I h
 exact UnaryOp_ (thn (ha pins s σ H _ I h) fun v s1 ⟨x,H1,I1,r1,q1⟩=>ho pins s1 σ H1 x v Q I1 r1 q1)
theorem opI{f:Value->Value->Sem Value}{C:Int->Int->Prop}{g:Int->Int->Int}
  (rule:∀(i j:Int) (t u:Tok) (s:Shared) (Q:Value->Shared->Prop) (E:Value->Shared->Prop),C i j->Q (.int (g i j) s.toks) {s with toks:=s.toks+1}->wpAny (model X.prog X.w) X.A (f (.int i t) (.int j u)) Q E s) :
  OpR X f (rI C fun i j=>.int (g i j)):=by
 intro pins s σ H x y v u Q I rx ry h
 obtain⟨i,j,rfl,rfl,hc,q⟩:=h
 obtain⟨t,rfl⟩:=rx
 obtain⟨t',rfl⟩:=ry
 exact rule i j t t' s _ _ hc ⟨.int (g i j),H,I.tok _,⟨_,rfl⟩,q⟩
theorem opI0{f:Value->Value->Sem Value}{g:Int->Int->Int}
  (rule:∀(i j:Int) (t u:Tok) (s:Shared) (Q:Value->Shared->Prop) (E:Value->Shared->Prop),Q (.int (g i j) s.toks) {s with toks:=s.toks+1}->wpAny (model X.prog X.w) X.A (f (.int i t) (.int j u)) Q E s) :
  OpR X f (rI0 fun i j=>.int (g i j)):=by
 intro pins s σ H x y v u Q I rx ry h
 obtain⟨i,j,rfl,rfl,q⟩:=h
 obtain⟨t,rfl⟩:=rx
 obtain⟨t',rfl⟩:=ry
 exact rule i j t t' s _ _ ⟨.int (g i j),H,I.tok _,⟨_,rfl⟩,q⟩
theorem opB0{f:Value->Value->Sem Value}{g:Int->Int->Bool}
  (rule:∀(i j:Int) (t u:Tok) (s:Shared) (Q:Value->Shared->Prop) (E:Value->Shared->Prop),Q (.bool (g i j)) s->wpAny (model X.prog X.w) X.A (f (.int i t) (.int j u)) Q E s) :
  OpR X f (rI0 fun i j=>.bl (g i j)):=by
 intro pins s σ H x y v u Q I rx ry h
 obtain⟨i,j,rfl,rfl,q⟩:=h
 obtain⟨t,rfl⟩:=rx
 obtain⟨t',rfl⟩:=ry
 exact rule i j t t' s _ _ ⟨.bl (g i j),H,I,rfl,q⟩
noncomputable def CDiv(i j:Int):Prop:=0<j/\j<1073741824
noncomputable def CPow(i j:Int):Prop:=0<=j/\j<=1000000/\i.natAbs<2^64
noncomputable def CMul(i j:Int):Prop:=(-(2^64)<i/\i<2^64)\/(-(2^64)<j/\j<2^64)
theorem CMul.ok{i j:Int}(h:CMul i j):IntMulOk i j:=by
 rcases h with ⟨h1,h2⟩|⟨h1,h2⟩
 .exact .of_left (intBits_le_64 h1 h2)
 .exact .of_right (intBits_le_64 h1 h2)
theorem op_add:OpR X (binaryOp .Add) (rI0 fun i j=>.int (i+j)):=opI0 fun _ _ _ _ _ _ _ q=>add_int q
theorem op_sub:OpR X (binaryOp .Sub) (rI0 fun i j=>.int (i-j)):=opI0 fun _ _ _ _ _ _ _ q=>sub_int q
theorem op_mul:OpR X (binaryOp .Mult) (rI CMul fun i j=>.int (i*j)):=opI fun _ _ _ _ _ _ _ hc q=>mul_int q hc.ok
theorem op_fdiv:OpR X (binaryOp .FloorDiv) (rI CDiv fun i j=>.int (i/j)):=opI fun i j _ _ _ _ _ hc q=>by
 have h1:(0:Int)<j:=hc.1
 have h2:j<1073741824:=hc.2
 exact floordiv_int (by omega) (by rw[Int.fdiv_eq_ediv_of_nonneg i (by omega)];exact q) (.inl (PyProof.noPylong_small (by omega)))
theorem op_mod:OpR X (binaryOp .Mod) (rI (fun _ j=>0<j) fun i j=>.int (i % j)):=opI fun i j _ _ _ _ _ hc q=>by
 have h1:(0:Int)<j:=hc
 exact mod_int' (by omega) (by rw[Int.fmod_eq_emod_of_nonneg i (by omega)];exact q)
theorem op_pow:OpR X (binaryOp .Pow) (rI CPow fun i j=>.int (i^j.toNat)):=opI fun _ _ _ _ _ _ _ hc q=>pow_int_small hc.1 hc.2.1 hc.2.2 q
theorem unI{f:Value->Sem Value}{g:Int->Int}
  (rule:∀(i:Int) (t:Tok) (s:Shared) (Q:Value->Shared->Prop) (E:Value->Shared->Prop),Q (.int (g i) s.toks) {s with toks:=s.toks+1}->wpAny (model X.prog X.w) X.A (f (.int i t)) Q E s) :
  UnR X f (rU fun i=>.int (g i)):=by
 intro pins s σ H x v Q I rx h
 obtain⟨i,rfl,q⟩:=h
 obtain⟨t,rfl⟩:=rx
 exact rule i t s _ _ ⟨.int (g i),H,I.tok _,⟨_,rfl⟩,q⟩
theorem un_neg:UnR X (unaryOp .USub) (rU fun i=>.int (-i)):=unI fun _ _ _ _ _ q=>neg_int q
end
noncomputable def scal:V->V->Bool
 | .non,.non=>true|.non,.int _=>true|.int _,.non=>true|.non,.bl _=>true|.bl _,.non=>true|.non,.str _=>true|.str _,.non=>true
 | .int _,.int _=>true|.bl _,.bl _=>true|.str _,.str _=>true|.byt _,.byt _=>true
 | .int _,.str _=>true|.str _,.int _=>true|.bl _,.str _=>true|.str _,.bl _=>true
 | _,_=>false
noncomputable def rEq:R2:=fun x y H Q=>scal x y=true/\Q (.bl (decide (x=y))) H
noncomputable def rNe:R2:=fun x y H Q=>scal x y=true/\Q (.bl (!decide (x=y))) H
theorem dec_int{i j:Int}:decide (V.int i=V.int j)=(i==j):=by
 rw[Bool.eq_iff_iff]
 simp
theorem dec_bl{i j:Bool}:decide (V.bl i=V.bl j)=(i==j):=by
 rw[Bool.eq_iff_iff]
 simp
theorem dec_str{i j:Str}:decide (V.str i=V.str j)=(i==j):=by
 rw[Bool.eq_iff_iff]
 simp
theorem dec_byt{i j:Array UInt8}:decide (V.byt i=V.byt j)=(i.toList==j.toList):=by
 rw[Bool.eq_iff_iff]
 cases i
 cases j
 simp
section
variable{X:Cx}{a b c:Expr}{ta tb tc:TE}{pos:Pos}
theorem fin_bl{pins:List (Addr×Obj)}{σ:St}{H:Hp}{s:Shared}{Q:VK}{k k':Bool}(I:Inv X pins σ H s)(q:Q (.bl k) H)(e:k=k'):EP X pins σ Q (.bool k') s:=by
 subst e
 exact⟨.bl k,H,I,rfl,q⟩
theorem op_eq:OpR X (compareOp .Eq) rEq:=by
 intro pins s σ H x y v u Q I rx ry h
 obtain⟨hs,q⟩:=h
 cases x with
 | non=>
  cases rx
  cases y with
  | non=>cases ry;exact PySem.EqNone.eq_none_none (fin_bl I q (by simp))
  | bl j=>cases ry;exact PySem.EqNone.eq_none_bool (fin_bl I q (by simp))
  | int j=>obtain⟨t',rfl⟩:=ry;exact PySem.EqNone.eq_none_int (fin_bl I q (by simp))
  | str j=>obtain⟨t',rfl⟩:=ry;exact PySem.EqNone.eq_none_str (fin_bl I q (by simp))
  | _=>exact absurd (show false=true from hs) Bool.false_ne_true
 | bl i=>
  cases rx
  cases y with
  | non=>cases ry;exact PySem.EqNone.eq_bool_none (fin_bl I q (by simp))
  | bl j=>cases ry;exact eq_bool (fin_bl I q dec_bl)
  | str j=>obtain⟨t',rfl⟩:=ry;exact PySem.EqMixed.eq_bool_str (fin_bl I q (by simp))
  | _=>exact absurd (show false=true from hs) Bool.false_ne_true
 | int i=>
  obtain⟨t,rfl⟩:=rx
  cases y with
  | non=>cases ry;exact PySem.EqNone.eq_int_none (fin_bl I q (by simp))
  | int j=>obtain⟨t',rfl⟩:=ry;exact eq_int (fin_bl I q dec_int)
  | str j=>obtain⟨t',rfl⟩:=ry;exact PySem.EqMixed.eq_int_str (fin_bl I q (by simp))
  | _=>exact absurd (show false=true from hs) Bool.false_ne_true
 | str i=>
  obtain⟨t,rfl⟩:=rx
  cases y with
  | non=>cases ry;exact PySem.EqNone.eq_str_none (fin_bl I q (by simp))
  | bl j=>cases ry;exact PySem.EqMixed.eq_str_bool (fin_bl I q (by simp))
  | int j=>obtain⟨t',rfl⟩:=ry;exact PySem.EqMixed.eq_str_int (fin_bl I q (by simp))
  | str j=>obtain⟨t',rfl⟩:=ry;exact eq_str (fin_bl I q dec_str)
  | _=>exact absurd (show false=true from hs) Bool.false_ne_true
 | byt i=>
  obtain⟨t,rfl⟩:=rx
  cases y with
  | byt j=>obtain⟨t',rfl⟩:=ry;exact PySem.W.eq_bytes (fin_bl I q dec_byt)
  | _=>exact absurd (show false=true from hs) Bool.false_ne_true
 | _=>cases y<;>exact absurd (show false=true from hs) Bool.false_ne_true
theorem op_ne:OpR X (compareOp .NotEq) rNe:=by
 intro pins s σ H x y v u Q I rx ry h
 obtain⟨hs,q⟩:=h
 cases x with
 | non=>
  cases rx
  cases y with
  | non=>cases ry;exact PySem.EqNone.ne_none_none (fin_bl I q (by simp))
  | bl j=>cases ry;exact PySem.EqNone.ne_none_bool (fin_bl I q (by simp))
  | int j=>obtain⟨t',rfl⟩:=ry;exact PySem.EqNone.ne_none_int (fin_bl I q (by simp))
  | str j=>obtain⟨t',rfl⟩:=ry;exact PySem.EqNone.ne_none_str (fin_bl I q (by simp))
  | _=>exact absurd (show false=true from hs) Bool.false_ne_true
 | bl i=>
  cases rx
  cases y with
  | non=>cases ry;exact PySem.EqNone.ne_bool_none (fin_bl I q (by simp))
  | bl j=>cases ry;exact ne_bool (fin_bl I q (congrArg not dec_bl))
  | str j=>obtain⟨t',rfl⟩:=ry;exact PySem.EqMixed.ne_bool_str (fin_bl I q (by simp))
  | _=>exact absurd (show false=true from hs) Bool.false_ne_true
 | int i=>
  obtain⟨t,rfl⟩:=rx
  cases y with
  | non=>cases ry;exact PySem.EqNone.ne_int_none (fin_bl I q (by simp))
  | int j=>obtain⟨t',rfl⟩:=ry;exact ne_int (fin_bl I q (congrArg not dec_int))
  | str j=>obtain⟨t',rfl⟩:=ry;exact PySem.EqMixed.ne_int_str (fin_bl I q (by simp))
  | _=>exact absurd (show false=true from hs) Bool.false_ne_true
 | str i=>
  obtain⟨t,rfl⟩:=rx
  cases y with
  | non=>cases ry;exact PySem.EqNone.ne_str_none (fin_bl I q (by simp))
  | bl j=>cases ry;exact PySem.EqMixed.ne_str_bool (fin_bl I q (by simp))
  | int j=>obtain⟨t',rfl⟩:=ry;exact PySem.EqMixed.ne_str_int (fin_bl I q (by simp))
  | str j=>obtain⟨t',rfl⟩:=ry;exact ne_str (fin_bl I q (congrArg not dec_str))
  | _=>exact absurd (show false=true from hs) Bool.false_ne_true
 | byt i=>
  obtain⟨t,rfl⟩:=rx
  cases y with
  | byt j=>obtain⟨t',rfl⟩:=ry;exact PySem.W.ne_bytes (fin_bl I q (congrArg not dec_byt))
  | _=>exact absurd (show false=true from hs) Bool.false_ne_true
 | _=>cases y<;>exact absurd (show false=true from hs) Bool.false_ne_true
theorem op_lt:OpR X (compareOp .Lt) (rI0 fun i j=>.bl (decide (i<j))):=opB0 fun _ _ _ _ _ _ _ q=>lt_int q
theorem op_le:OpR X (compareOp .LtE) (rI0 fun i j=>.bl (decide (i<=j))):=opB0 fun _ _ _ _ _ _ _ q=>le_int q
theorem op_gt:OpR X (compareOp .Gt) (rI0 fun i j=>.bl (decide (j<i))):=opB0 fun _ _ _ _ _ _ _ q=>gt_int q
theorem op_lt_str:OpR X (compareOp .Lt) (fun x y H Q=>∃i j,x=.str i/\y=.str j/\Q (.bl (decide (i.cps.toList<j.cps.toList))) H):=by
 intro pins s σ H x y v u Q I rx ry h
 obtain⟨i,j,rfl,rfl,q⟩:=h
 obtain⟨t,rfl⟩:=rx
 obtain⟨t',rfl⟩:=ry
 exact lt_str (fin_bl I q rfl)
theorem op_in_str:OpR X (compareOp .In) (fun x y H Q=>∃i j,x=.str i/\y=.str j/\Q (.bl (!(Builtin.Str.occurrences j i 0 j.length 1).isEmpty)) H):=by
 intro pins s σ H x y v u Q I rx ry h
 obtain⟨i,j,rfl,rfl,q⟩:=h
 obtain⟨t,rfl⟩:=rx
 obtain⟨t',rfl⟩:=ry
 exact in_str (fin_bl I q rfl)
theorem op_isN:OpR X (compareOp .Is) (fun x y H Q=>y=.non/\Q (.bl (decide (x=.non))) H):=by
 intro pins s σ H x y v u Q I rx ry h
 obtain⟨rfl,q⟩:=h
 cases ry
 refine is_none_gen (fin_bl I q ?_)
 cases x<;>first
  | (cases rx;rfl)
  | (obtain⟨t,rfl⟩:=rx;rfl)
theorem op_notN:OpR X (compareOp .IsNot) (fun x y H Q=>y=.non/\Q (.bl (!decide (x=.non))) H):=by
 intro pins s σ H x y v u Q I rx ry h
 obtain⟨rfl,q⟩:=h
 cases ry
 refine isnot_none_gen (fin_bl I q ?_)
 cases x<;>first
  | (cases rx;rfl)
  | (obtain⟨t,rfl⟩:=rx;rfl)
theorem OpR.or{f:Value->Value->Sem Value}{r r':R2}(h:OpR X f r)(h':OpR X f r'):OpR X f (fun x y H Q=>r x y H Q\/r' x y H Q):=by
 intro pins s σ H x y v u Q I rx ry q
 rcases q with q|q
 .exact h pins s σ H x y v u Q I rx ry q
 .exact h' pins s σ H x y v u Q I rx ry q
theorem nomark(b:Expr){op:CmpOp}(h:op≠.In:=by decide)(h2:op≠.NotIn:=by decide):behindInMarks op b=false:=by
 have e1:(op==CmpOp.In)=false:=by cases op<;>first|rfl|exact absurd rfl h
 have e2:(op==CmpOp.NotIn)=false:=by cases op<;>first|rfl|exact absurd rfl h2
 cases b<;>simp[behindInMarks,e1,e2]
theorem pe_cmpR{op:CmpOp}{r:R2}(ho:OpR X (compareOp op) r)(ha:PE X a ta)(hb:PE X b tb)(hm:behindInMarks op b=false):PE X (.Compare a [op] [b] pos) (tOp r ta tb):=by
 intro pins s σ H Q I h
 exact wpAny_Compare1 (binT ha hb I h fun v u s2 x y H2 I2 rx ry q=>ho pins s2 σ H2 x y v u Q I2 rx ry q) hm
noncomputable def tTest(t:TE):TT:=fun σ H Q=>t σ H fun x H'=>∃k,x=.bl k/\Q k H'
theorem pt_cmpR{op:CmpOp}{r:R2}(ho:OpR X (compareOp op) r)(ha:PE X a ta)(hb:PE X b tb)(hm:behindInMarks op b=false):PT X (.Compare a [op] [b] pos) (tTest (tOp r ta tb)):=by
 intro pins s σ H Q I h
 refine wpAny_isTrue_Compare1 (thn (ha pins s σ H _ I h) fun v s1 ⟨x,H1,I1,r1,q1⟩=>thn (hb pins s1 σ H1 _ I1 q1) fun u s2 ⟨y,H2,I2,r2,q2⟩=>
  thn (ho pins s2 σ H2 x y v u _ I2 r1 r2 q2) fun c s3 ⟨z,H3,I3,r3,k,e,q3⟩=>?_) hm
 subst e
 cases r3
 exact wpAny_truthy_bool ⟨H3,I3,q3⟩
noncomputable def tChain(r r':R2)(ta tb tc:TE):TE:=fun σ H Q=>ta σ H fun x H1=>tb σ H1 fun y H2=>r x y H2 fun z H3=>∃k,z=.bl k/\
 (if k=true then tc σ H3 fun w' H4=>r' y w' H4 Q else Q (.bl false) H3)
theorem pe_chain{op op':CmpOp}{r r':R2}(ho:OpR X (compareOp op) r)(ho':OpR X (compareOp op') r')(ha:PE X a ta)(hb:PE X b tb)(hc:PE X c tc)
  (hm:lastMarks [op,op'] [b,c]=false:=by with_unfolding_all rfl):PE X (.Compare a [op,op'] [b,c] pos) (tChain r r' ta tb tc):=by
 intro pins s σ H Q I h
 refine Compare_chain (thn (ha pins s σ H _ I h) fun v s1 ⟨x,H1,I1,r1,q1⟩=>chain_link (thn (hb pins s1 σ H1 _ I1 q1) fun u s2 ⟨y,H2,I2,r2,q2⟩=>
  thn (ho pins s2 σ H2 x y v u _ I2 r1 r2 q2) fun d s3 ⟨z,H3,I3,r3,k,e,q3⟩=>?_)) hm
 subst e
 cases r3
 refine wpAny_truthy_bool ?_
 cases k with
 | false=>exact ite_ff ⟨.bl false,H3,I3,rfl,q3⟩
 | true=>exact ite_tt (chain_last (thn (hc pins s3 σ H3 _ I3 q3) fun w' s4 ⟨z',H4,I4,r4,q4⟩=>ho' pins s4 σ H4 y z' u w' Q I4 r2 r4 q4))
theorem pt_chain{op op':CmpOp}{r r':R2}(ho:OpR X (compareOp op) r)(ho':OpR X (compareOp op') r')(ha:PE X a ta)(hb:PE X b tb)(hc:PE X c tc)
  (hm:lastMarks [op,op'] [b,c]=false:=by with_unfolding_all rfl):PT X (.Compare a [op,op'] [b,c] pos) (tTest (tChain r r' ta tb tc)):=by
 intro pins s σ H Q I h
 refine isTrue_chain (thn (ha pins s σ H _ I h) fun v s1 ⟨x,H1,I1,r1,q1⟩=>test_link (thn (hb pins s1 σ H1 _ I1 q1) fun u s2 ⟨y,H2,I2,r2,q2⟩=>
  thn (ho pins s2 σ H2 x y v u _ I2 r1 r2 q2) fun d s3 ⟨z,H3,I3,r3,k,e,q3⟩=>?_)) hm
 subst e
 cases r3
 refine wpAny_truthy_bool ?_
 cases k with
 | false=>
  obtain⟨k',e',q'⟩:=q3
  cases e'
  exact ite_ff ⟨H3,I3,q'⟩
 | true=>
  refine ite_tt (test_last (thn (hc pins s3 σ H3 _ I3 q3) fun w' s4 ⟨z',H4,I4,r4,q4⟩=>thn (ho' pins s4 σ H4 y z' u w' _ I4 r2 r4 q4) fun d' s5 ⟨z2,H5,I5,r5,k2,e2,q5⟩=>?_))
  subst e2
  cases r5
  exact wpAny_truthy_bool ⟨H5,I5,q5⟩
noncomputable def TruV(K:PySem.W.Frag)(x:V)(H:Hp)(k:Bool):Prop:=
 match x with
 | .non=>k=false
 | .bl b=>k=b
 | .int i=>k=(i != 0)
 | .str y=>y.length<=sizeLine/\k=((y.length:Int) != 0)
 | .byt y=>y.size<=sizeLine/\k=((y.size:Int) != 0)
 | .ref p=>(∃xs,SqL K H p xs/\k = !xs.isEmpty)\/(∃xs,SqT K H p xs/\k = !xs.isEmpty)\/∃kvs,H p=some (.dK kvs)/\k = !kvs.isEmpty
 | _=>False
theorem isEmpty_kv{κ:Type}{kvs:List (κ×V)}{vs:List (κ×Value)}(r:KV kvs vs):(!vs.isEmpty) = !kvs.isEmpty:=by
 cases r<;>rfl
theorem isEmpty_of{xs:List V}{its:List Value}(r:Vals xs its):(!its.toArray.isEmpty) = !xs.isEmpty:=by
 cases r<;>simp
theorem line63:(sizeLine:Nat)<2^63:=by rw[sizeLine_eq];decide
theorem tru_ok:TruR X (fun x H Q=>∃k,TruV X.K x H k/\Q k H):=by
 intro pins s σ H x v Q I rx h
 obtain⟨k,e,q⟩:=h
 have hl:=line63
 have hs:sizeLine=16777216:=sizeLine_eq
 cases x with
 | non=>
  cases rx
  have e':k=false:=e
  subst e'
  exact truthy_none ⟨H,I,q⟩
 | bl b=>
  cases rx
  have e':k=b:=e
  subst e'
  exact wpAny_truthy_bool ⟨H,I,q⟩
 | int i=>
  obtain⟨t,rfl⟩:=rx
  have e':k=(i != 0):=e
  subst e'
  exact PySem.P.truthy_int ⟨H,I,q⟩
 | str y=>
  obtain⟨t,rfl⟩:=rx
  obtain⟨hy,e'⟩:y.length<=sizeLine/\k=((y.length:Int) != 0):=e
  subst e'
  exact PySem.P.truthy_str (by omega) ⟨H,I.tok _,q⟩
 | byt y=>
  obtain⟨t,rfl⟩:=rx
  obtain⟨hy,e'⟩:y.size<=sizeLine/\k=((y.size:Int) != 0):=e
  subst e'
  exact PySem.W.truthy_bytes (by omega) ⟨H,I.tok _,q⟩
 | ref p=>
  cases rx
  have e':(∃xs,SqL X.K H p xs/\k = !xs.isEmpty)\/(∃xs,SqT X.K H p xs/\k = !xs.isEmpty)\/∃kvs,H p=some (.dK kvs)/\k = !kvs.isEmpty:=e
  rcases e' with ⟨xs,hx,e'⟩|⟨xs,hx,e'⟩|⟨kvs,hx,e'⟩
  .subst e'
   obtain⟨its,r,pl,hz⟩:=I.list hx
   have hlen:=r.length
   exact wpAny_truthy_list pl.isList (by simp only[List.size_toArray];omega) ⟨H,I.tok _,by rw[isEmpty_of r];exact q⟩
  .subst e'
   obtain⟨its,r,pl,hz⟩:=I.tuple hx
   have hlen:=r.length
   exact truthy_tuple pl (by simp only[List.size_toArray];omega) ⟨H,I.tok _,by rw[isEmpty_of r];exact q⟩
  .subst e'
   obtain⟨hz,hS,vs,r,m⟩:kvs.length<=sizeLine/\(p==sysModules)=false/\∃vs,KV kvs vs/\s.heap.DictOf (mixKind X.prog X.w) p vs:=I.hok p _ hx
   have hlen:kvs.length=vs.length:=Paired.length r
   exact wpAny_truthy_dict hS m (by omega) ⟨H,I.tok _,by rw[isEmpty_kv r];exact q⟩
 | _=>exact(show False from e).elim
theorem pt_truth(ha:PE X a ta)(he:∀whole,isTrue a X.env whole=(do let v <-whole;standAt a.pos;holding [v] (truthy v))) :
  PT X a (fun σ H Q=>ta σ H fun x H'=>∃k,TruV X.K x H' k/\Q k H'):=by
 intro pins s σ H Q I h
 exact isTrue_plain (thn (ha pins s σ H _ I h) fun v s1 ⟨x,H1,I1,r1,q1⟩=>tru_ok pins s1 σ H1 x v Q I1 r1 q1) (he _)
theorem op_add_str:OpR X (binaryOp .Add) (fun x y H Q=>∃i j,x=.str i/\y=.str j/\i.length+j.length<=sizeLine/\Q (.str (i++j)) H):=by
 intro pins s σ H x y v u Q I rx ry h
 obtain⟨i,j,rfl,rfl,hz,q⟩:=h
 obtain⟨t,rfl⟩:=rx
 obtain⟨t',rfl⟩:=ry
 exact add_str (fun t' tk=>⟨.str (i++j),H,I.tok _,⟨_,rfl⟩,q⟩) hz
theorem vals1{x:V}{us:List Value}(r:Vals [x] us):∃u,us=[u]/\RelV x u:=by
 cases r with
 | cons r1 r2=>cases r2;exact⟨_,rfl,r1⟩
theorem vals2{x y:V}{us:List Value}(r:Vals [x,y] us):∃u w',us=[u,w']/\RelV x u/\RelV y w':=by
 cases r with
 | cons r1 r2=>
  cases r2 with
  | cons r3 r4=>cases r4;exact⟨_,_,rfl,r1,r3⟩
theorem call_abs:CallR X (.builtin "abs") (fun xs H Q=>∃i,xs=[.int i]/\Q (.int (if i<0 then -i else i)) H):=by
 intro pins s σ H xs us Q I r h
 obtain⟨i,rfl,q⟩:=h
 obtain⟨u,rfl,t,rfl⟩:=vals1 r
 exact call_abs_int fun u tk=>⟨.int (if i<0 then -i else i),H,I.tok _,⟨_,rfl⟩,q⟩
theorem call_max2(hc:X.calm=true):CallR X (.builtin "max") (fun xs H Q=>∃i j,xs=[.int i,.int j]/\Q (.int (if j>i then j else i)) H):=by
 intro pins s σ H xs us Q I r h
 obtain⟨i,j,rfl,q⟩:=h
 obtain⟨u,w',rfl,⟨t,rfl⟩,⟨t',rfl⟩⟩:=vals2 r
 refine max_two_ints (I.ok.hd hc) fun h' tk k=>⟨_,H,I.kept k,?_,q⟩
 by_cases hj:j>i
 .rw[if_pos hj,if_pos hj];exact⟨_,rfl⟩
 .rw[if_neg hj,if_neg hj];exact⟨_,rfl⟩
theorem call_min2(hc:X.calm=true):CallR X (.builtin "min") (fun xs H Q=>∃i j,xs=[.int i,.int j]/\Q (.int (if j<i then j else i)) H):=by
 intro pins s σ H xs us Q I r h
 obtain⟨i,j,rfl,q⟩:=h
 obtain⟨u,w',rfl,⟨t,rfl⟩,⟨t',rfl⟩⟩:=vals2 r
 refine min_two_ints (I.ok.hd hc) fun h' tk k=>⟨_,H,I.kept k,?_,q⟩
 by_cases hj:j<i
 .rw[if_pos hj,if_pos hj];exact⟨_,rfl⟩
 .rw[if_neg hj,if_neg hj];exact⟨_,rfl⟩
theorem call_int1:CallR X (.type "int") (fun xs H Q=>(∃i,xs=[.int i]/\Q (.int i) H)\/∃k,xs=[.bl k]/\Q (.int (if k then 1 else 0)) H):=by
 intro pins s σ H xs us Q I r h
 rcases h with ⟨i,rfl,q⟩|⟨k,rfl,q⟩
 .obtain⟨u,rfl,t,rfl⟩:=vals1 r
  exact call_int_int ⟨.int i,H,I,⟨_,rfl⟩,q⟩
 .obtain⟨u,rfl,r1⟩:=vals1 r
  cases r1
  exact call_int_bool ⟨.int (if k then 1 else 0),H,I.tok _,⟨_,rfl⟩,q⟩
end
end L2
namespace L2
open PySem PySem.Spec PyProof.Rows
structure ObjM(h:Heap)(x dx C:Addr)(mA:Str->Option Value):Prop where
 obj:h.get? x=some (PySem.W.instObj C dx)
 ns:h.Ns1 dx mA
 ne:dx≠x
theorem lookIn_ns{h:Heap}{dx:Addr}{mA:Str->Option Value}(n:h.Ns1 dx mA):∃od,h.get? dx=some od/\∀name,PySem.W.lookIn name od=some (mA name):=by
 obtain⟨o,es,ep,ho,hd,hk,_,hm⟩:=n
 refine⟨o,ho,fun name=>?_⟩
 have e:=hm name
 unfold nsFind findBy at e
 rw[<-Array.find?_toList]at e
 unfold PySem.W.lookIn
 rw[hd]
 dsimp only
 split
 .rename_i y q
  rw[q]at e
  exact congrArg some e
 .rename_i q
  rw[q]at e
  have a:es.toList.any (·.refKey)=false:=by
   rw[List.any_eq_false]
   intro y hy
   obtain⟨z,t,hkey⟩:=hk y (Array.mem_toList_iff.mp hy)
   simp[DictEntry.refKey,hkey]
  have a':¬es.toList.any (·.refKey)=true:=by rw[a];exact Bool.false_ne_true
  rw[if_neg a']
  exact congrArg some e
theorem ObjM.look{h:Heap}{x dx C:Addr}{mA:Str->Option Value}(I:ObjM h x dx C mA):∃od,PySem.W.InstAt h x (PySem.W.instObj C dx) C (some od)/\∀name,PySem.W.lookIn name od=some (mA name):=
 let ⟨od,ho,hl⟩:=lookIn_ns I.ns
 ⟨od,⟨I.obj,rfl,rfl,ho⟩,hl⟩
section
variable{P:Program}{w:World}{H H':Hp}{h h':Heap}{a C dx:Addr}{fs fs':List (Str×V)}
theorem ins_get(hok:HOk P w H h)(e:H a=some (.ins C dx fs)):∃mA,ObjM h a dx C mA/\(∀f,RelO (fs.lookup f) (mA f))/\PySem.Within mA (fs.map (·.1))/\fs.length<=1000/\H dx=some (.own a):=by
 obtain⟨d,z,ne,ob,mA,n,r,q⟩:=(show ObjOk P w H h a (.ins C dx fs)from hok a _ e)
 exact⟨mA,⟨ob,n,ne⟩,r,q,z,d⟩
end
structure Cls(K:PySem.W.Frag)(C:Addr):Prop where
 pg:PySem.W.plainGet K C Str.empty=true
 hd:PySem.W.hasDictIn K C=true
 po:PySem.W.plainOver K C=true
 sa:PySem.W.findIn K (.ref C) "__setattr__" = some (some (.builtin "object.__setattr__"))
theorem Cls.get{K:PySem.W.Frag}{C:Addr}(c:Cls K C)(f:Str):PySem.W.plainGet K C f=true:=c.pg
section
variable{X:Cx}{pins:List (Addr×Obj)}{σ:St}{H:Hp}{s:Shared}{A:Around}{E:Value->Shared->Prop}{Q:Value->Shared->Prop}{c:Value}{b:Bool}
inductive TyOf(K:PySem.W.Frag)(H:Hp):V->Value->Prop where
 | non:TyOf K H .non (.type "NoneType")
 | bl (x:Bool):TyOf K H (.bl x) (.type "bool")
 | int (i:Int):TyOf K H (.int i) (.type "int")
 | str (x:Str):TyOf K H (.str x) (.type "str")
 | flt (x:UInt64):TyOf K H (.flt x) (.type "float")
 | lst {a:Addr} {xs:List V} (e:H a=some (.lst xs)):TyOf K H (.ref a) (.type "list")
 | frz {a:Addr} {o:Obj} {xs:List V} (e:H a=some (.frz o (.lst xs))):TyOf K H (.ref a) (.type "list")
 | tup {a:Addr} {xs:List V} (e:H a=some (.tup xs)):TyOf K H (.ref a) (.type "tuple")
 | dK {a:Addr} {kvs:List (Key×V)} (e:H a=some (.dK kvs)):TyOf K H (.ref a) (.type "dict")
 | dT {a:Addr} {kvs:List (List Key×V)} (e:H a=some (.dT kvs)):TyOf K H (.ref a) (.type "dict")
 | ins {a C dx:Addr} {fs:List (Str×V)} (e:H a=some (.ins C dx fs)) (cl:Cls K C) (ha:PySem.W.findIn K (.ref C) "__class__" = some (some (.builtin "object.__class__")))
   (hn:PySem.W.specialIn K (.builtin "object.__class__") "__get__" = some (some (.builtin "getset_descriptor.__get__"))) (htk:PySem.W.takesIn K (.builtin "object.__class__")=some true)
   (hm:PySem.W.mroIn K C (.type "object")=some true):TyOf K H (.ref a) (.ref C)
theorem isinst_ok{x:V}{u t:Value}(I:Inv X pins σ H s)(rx:RelV x u)(ty:TyOf X.K H x t)(e:PySem.W.kitOne X.K t c=some b)(h:∀tk,Q (.bool b) {s with toks:=tk}) :
  wpAny (model X.prog X.w) A (call (.builtin "isinstance") [u,c]) Q E s:=by
 cases ty with
 | non=>cases (show u=Value.none from rx);exact PySem.W.kia_one PySem.W.kitx_none I.kIn True.intro e (fun z=>nomatch z) h
 | bl y=>cases (show u=Value.bool y from rx);exact PySem.W.kia_one PySem.W.kitx_bool I.kIn True.intro e (fun z=>nomatch z) h
 | int i=>obtain⟨t,q⟩:=(show ∃t,u=Value.int i t from rx);cases q;exact PySem.W.kia_one PySem.W.kitx_int I.kIn True.intro e (fun z=>nomatch z) h
 | str y=>obtain⟨t,q⟩:=(show ∃t,u=Value.str y t from rx);cases q;exact PySem.W.kia_one PySem.W.kitx_str I.kIn True.intro e (fun z=>nomatch z) h
 | flt y=>obtain⟨t,q⟩:=(show ∃t,u=Value.float y t from rx);cases q;exact PySem.W.kia_one PySem.W.kitx_float I.kIn True.intro e (fun z=>nomatch z) h
 | @lst a xs ea=>
  cases (show u=Value.ref a from rx)
  obtain⟨_,_,n,_,h1⟩:=(show ObjOk X.prog X.w H s.heap a (.lst xs)from I.hok a _ ea)
  exact PySem.W.kia_one PySem.W.kitx_list I.kIn ⟨_,h1,rfl⟩ e (fun z=>nomatch z) h
 | @frz a ob xs ea=>
  cases (show u=Value.ref a from rx)
  obtain⟨_,_,_,n,_,h1⟩:=(show ObjOk X.prog X.w H s.heap a (.frz ob (.lst xs))from I.hok a _ ea)
  exact PySem.W.kia_one PySem.W.kitx_list I.kIn ⟨_,h1,rfl⟩ e (fun z=>nomatch z) h
 | @tup a xs ea=>
  cases (show u=Value.ref a from rx)
  obtain⟨_,_,_,p⟩:=(show ObjOk X.prog X.w H s.heap a (.tup xs)from I.hok a _ ea)
  obtain⟨o,h1,h2,_⟩:=p
  exact PySem.W.kia_one PySem.W.kitx_tuple I.kIn ⟨o,h1,h2⟩ e (fun z=>nomatch z) h
 | @dK a kvs ea=>
  cases (show u=Value.ref a from rx)
  obtain⟨_,_,vs,_,p⟩:=(show ObjOk X.prog X.w H s.heap a (.dK kvs)from I.hok a _ ea)
  obtain⟨o,es,ep,h1,h2,_⟩:=p
  exact PySem.W.kia_one PySem.W.kitx_dict I.kIn ⟨o,h1,h2.1⟩ e (fun z=>nomatch z) h
 | @dT a kvs ea=>
  cases (show u=Value.ref a from rx)
  obtain⟨_,_,xs,_,o,es,ep,h1,h2,_⟩:=(show ObjOk X.prog X.w H s.heap a (.dT kvs)from I.hok a _ ea)
  exact PySem.W.kia_one PySem.W.kitx_dict I.kIn ⟨o,h1,h2.1⟩ e (fun z=>nomatch z) h
 | @ins a C dx fs ea cl ha hn htk hm=>
  cases (show u=Value.ref a from rx)
  obtain⟨mA,O,_⟩:=ins_get I.hok ea
  obtain⟨od,J,_⟩:=O.look
  exact PySem.W.kia_one (PySem.W.kitx_own (cl.get _) cl.hd ha hn htk hm) I.kIn J e (fun z=>nomatch z) h
end
end L2
namespace L2
open PySem PySem.Spec PyProof.Rows
structure Room(k:Nat)(A:Around):Prop where
 hd:A.handled=none
 dp:A.depth+3*k+5<recursionLimit
 un:A.units+16*k+200<cLine
theorem Room.mono{j k:Nat}{A:Around}(r:Room k A)(h:j<=k):Room j A:=⟨r.hd,by have:=r.dp;omega,by have:=r.un;omega⟩
theorem Room.deeper{k:Nat}{A:Around}(r:Room (k+1) A)(env:Env):Room k (A.deeper env):=
 ⟨r.hd,by have:=r.dp;show A.depth+1+3*k+5<_;omega,by have:=r.un;show A.units+3+16*k+200<_;omega⟩
theorem Room.depth{k:Nat}{A:Around}(r:Room k A):A.depth<recursionLimit:=by have:=r.dp;omega
theorem Room.units{k:Nat}{A:Around}(r:Room k A):A.units+64<cLine:=by have:=r.un;omega
noncomputable def tNil:TA:=fun _ H Q=>Q [] H
noncomputable def tCons(ta:TE)(tr:TA):TA:=fun σ H Q=>ta σ H fun x H1=>tr σ H1 fun xs H2=>Q (x::xs) H2
section
variable{X:Cx}{e:Expr}{es:List Expr}{te:TE}{t:TA}{pos:Pos}
theorem pa_nil:PA X [] tNil:=fun _ _ _ _ H Q I h=>Calls.spliced_nil ⟨[],H,I,.nil,h⟩
theorem pa_cons(ha:PE X e te)(hr:PA X es t)(hs:starEach (e::es) X.env=(false,eval e X.env)::starEach es X.env:=by rfl):PA X (e::es) (tCons te t):=by
 intro pos pins s σ H Q I h
 rw[hs]
 show wpAny _ _ (spliced ((false,eval e X.env)::backTo pos (starEach es X.env))) _ _ s
 refine Calls.spliced_cons (thn (ha pins s σ H _ I h) fun u s1 ⟨x,H1,I1,r1,q1⟩=>?_)
 exact thn (hr pos pins s1 σ H1 _ I1 q1) fun us s2 ⟨xs,H2,I2,r2,q2⟩=>⟨x::xs,H2,I2,.cons r1 r2,q2⟩
noncomputable def tTup(t:TA):TE:=fun σ H Q=>t σ H fun xs H1=>xs.length<=sizeLine/\∀p,H1 p=none->Q (.ref p) (upd H1 p (.tup xs))
noncomputable def tLst(t:TA):TE:=fun σ H Q=>t σ H fun xs H1=>xs.length<=sizeLine/\∀p,H1 p=none->Q (.ref p) (upd H1 p (.lst xs))
theorem pe_tup{x1}(h:PA X es t):PE X (.Tuple es x1 pos) (tTup t):=by
 intro pins s σ H Q I hq
 refine wpAny_Tuple_spliced (thn (h pos pins s σ H _ I hq) fun us s1 ⟨xs,H1,I1,r,z,q⟩=>⟨by rw[<-r.length];exact z,?_⟩)
 have hf:H1 s1.heap.objs.size=none:=I1.hok.fresh (Nat.le_refl _)
 refine⟨.ref s1.heap.objs.size,upd H1 s1.heap.objs.size (.tup xs),I1.laid (t':=s1.toks) (fun b u e=>Heap.get?_push_of_some _ e) (Nat.le_refl _) ?_,rfl,q _ hf⟩
 exact⟨z,us,r,⟨_,Heap.get?_push_size _ rfl,rfl,_,rfl⟩⟩
theorem pe_lst(h:PA X es t):PE X (.List es pos) (tLst t):=by
 intro pins s σ H Q I hq
 refine wpAny_List_spliced (thn (h pos pins s σ H _ I hq) fun us s1 ⟨xs,H1,I1,r,z,q⟩=>⟨by rw[<-r.length];exact z,?_⟩)
 have hf:H1 s1.heap.objs.size=none:=I1.hok.fresh (Nat.le_refl _)
 refine⟨.ref s1.heap.objs.size,upd H1 s1.heap.objs.size (.lst xs),I1.laid (t':=s1.toks) (fun b u e=>Heap.get?_push_of_some _ e) (Nat.le_refl _) ?_,rfl,q _ hf⟩
 exact⟨z,us,0,r,Heap.get?_push_size _ rfl⟩
end
noncomputable abbrev Sp:=List V->Hp->VK->XK->Prop
noncomputable abbrev CXT:=List Env->Hp->Shared->XK->Value->Shared->Prop
structure Env0(P:Program)(w:World)(K:PySem.W.Frag)(mg:Str->Option Value)(base:Heap)(A:Around)(outer:List Env)(s:Shared)(H:Hp):Prop where
 frames:A.frames=some outer
 mod:Mod K mg base
 bs:∀b o,base.get? b=some o->s.heap.get? b=some o/\H b=none
 bsz:base.objs.size<=s.heap.objs.size
 funs:s.heap.FunFrames base outer
 frf:∀b∈frs outer,H b=none
 hok:HOk P w H s.heap
 bare:AllBare s.gens
noncomputable def CE(outer:List Env)(P:Program)(w:World)(H:Hp)(s:Shared)(Q:VK)(u:Value)(s':Shared):Prop:=
 ∃v H',s'.os=s.os/\AllBare s'.gens/\Un (frs outer) [] H H' s.heap s'.heap/\HOk P w H' s'.heap/\RelV v u/\Q v H'
noncomputable def CR(CX:CXT)(outer:List Env)(P:Program)(w:World)(H:Hp)(s:Shared)(Q:VK)(E:XK)(r:Result)(s':Shared):Prop:=
 match r with
 | .ok (.ret u)=>CE outer P w H s Q u s'
 | .ok _=>False
 | .error e=>CX outer H s E e s'
structure FnOk(P:Program)(w:World)(K:PySem.W.Frag)(mg:Str->Option Value)(base:Heap)(CX:CXT)(k:Nat)(f:Addr)(fd:FuncData)(ps:List Str)(sp:Sp):Prop where
 len:∀vs H Q E,sp vs H Q E->vs.length=ps.length
 run:∀(A:Around) (outer:List Env) (s:Shared) (H:Hp) (args:Args) (us:List Value) (vs:List V) (Q:VK) (E:XK),Room k A->Env0 P w K mg base A outer s H->BindsTo s fd args (ps.zip us)->Vals vs us->sp vs H Q E->
  codeAny (model P w) A (.call (.ref f) args) (CR CX outer P w H s Q E) s
section
variable{X:Cx}{pins:List (Addr×Obj)}{σ:St}{H:Hp}{s s':Shared}
theorem Inv.env0(I:Inv X pins σ H s):Env0 X.prog X.w X.K X.mg X.base X.A X.stack s H:=
 ⟨I.ok.frames,I.ok.mod,I.bs,Nat.le_trans I.ok.bsz I.sz,I.stack,I.stkFree,I.hok,I.bare⟩
theorem Inv.after{Q:VK}{u:Value}(I:Inv X pins σ H s)(h:CE X.stack X.prog X.w H s Q u s'):EP X pins σ Q u s':=by
 obtain⟨v,H',os,bare,un,hok,r,q⟩:=h
 obtain⟨hh,g,d,t,os'⟩:=s'
 obtain rfl:os'=s.os:=os
 exact⟨v,H',I.call (h':=hh) (g':=g) (d':=d) (t':=t) (ch:=[]) un hok bare (fun b z=>absurd z (by simp)),r,q⟩
end
noncomputable def tCall(sp:Sp)(dvs:List V)(E:XK)(t:TA):TE:=fun σ H Q=>t σ H fun vs H1=>sp (vs++dvs) H1 Q E
noncomputable def Binds(K:PySem.W.Frag)(fd:FuncData)(ps:List Str)(ds:List Value):Prop:=
 ∀(s:Shared) (us:List Value),K.In s.heap->(us++ds).length=ps.length->BindsTo s fd ⟨us,[]⟩ (ps.zip (us++ds))
theorem Binds.all{K:PySem.W.Frag}{fd:FuncData}{ps:List Str}(h:∀us:List Value,us.length=ps.length->bindArgs fd ⟨us,[]⟩=pure (ps.zip us)):Binds K fd ps []:=fun s us _ hl=>by
 rw[List.append_nil]at hl⊢
 exact .of_eq (h us hl)
noncomputable def Passes(CX:CXT)(X:Cx)(E:XK):Prop:=∀(pins:List (Addr×Obj)) (σ:St) (H:Hp) (s:Shared) (e:Value) (s':Shared),Inv X pins σ H s->CX X.stack H s E e s'->X.xe e s'
section
variable{X:Cx}{CX:CXT}{k:Nat}{f C:Addr}{fd:FuncData}{ps:List Str}{sp:Sp}{dvs:List V}{ds:List Value}{E:XK}{x m:Str}{p pos apos:Pos}{e o:Expr}{es:List Expr}{ta:TE}{t:TA}
theorem run_fn{pins:List (Addr×Obj)}{σ:St}{H:Hp}{s:Shared}{Q:VK}{us:List Value}{vs:List V}(F:FnOk X.prog X.w X.K X.mg X.base CX k f fd ps sp)(hr:Room k X.A)(hb:Binds X.K fd ps ds)(hd:Vals dvs ds)(hx:Passes CX X E)
  (I:Inv X pins σ H s) (r:Vals vs us) (h:sp (vs++dvs) H Q E):wpAny (model X.prog X.w) X.A (call (.ref f) us) (EP X pins σ Q) X.xe s:=by
 have r2:Vals (vs++dvs) (us++ds):=r.append hd
 have hl:(us++ds).length=ps.length:=by rw[<-r2.length];exact F.len _ _ _ _ h
 refine wpAny_call (codeAny_mono (F.run X.A X.stack s H ⟨us,[]⟩ (us++ds) (vs++dvs) Q E hr I.env0 (hb s us I.kIn hl) r2 h) fun r s' hq=>?_)
 cases r with
 | error e=>exact hx pins σ H s e s' I hq
 | ok fl=>
  cases fl with
  | ret u=>exact I.after hq
  | next=>exact False.elim hq
  | brk=>exact False.elim hq
  | cont=>exact False.elim hq
theorem pe_call(F:FnOk X.prog X.w X.K X.mg X.base CX k f fd ps sp)(hr:Room k X.A)(hg:Gl X x)(hm:X.mg x=some (.ref f))(hk:PySem.W.keepIn X.K (.ref f)=true)(hb:Binds X.K fd ps ds)(hd:Vals dvs ds)(hx:Passes CX X E)
  (ha:PA X (e::es) t) (hdb:(x==("__debug__" : Str))=false:=by decide) (he:starEach (e::es) X.env=(false,eval e X.env)::starEach es X.env:=by rfl) (hpl:(backTo pos (starEach es X.env)).any (·.1)=false:=by rfl) :
  PE X (.Call (.Name x p) (e::es) [] pos) (tCall sp dvs E t):=by
 intro pins s σ H Q I h
 refine wpAny_Call_Name_kw (ld_glob I hg hm ?_ hdb)
 refine PySem.W.callWith_K (h₀:=X.base) I.ok.mod.kin hk (thn (ha pos pins s σ H _ I h) fun us s1 ⟨vs,H1,I1,r,q⟩=>⟨I1.kIn,?_⟩) he hpl
 exact run_fn F hr hb hd hx I1 r q
end
noncomputable def PK(X:Cx)(kws:List Keyword)(t:TA):Prop:=
 ∀(pos:Pos) (pins:List (Addr×Obj)) (s:Shared) (σ:St) (H:Hp) (Q:List V->Hp->Prop),Inv X pins σ H s->t σ H Q->wpAny (model X.prog X.w) X.A (evalAll ((backToKw pos (keywordEach kws X.env)).map (·.2))) (AP X pins σ Q) X.xe s
section
variable{X:Cx}{CX:CXT}{k:Nat}{f C:Addr}{fd:FuncData}{ps ks:List Str}{sp:Sp}{E:XK}{x m:Str}{p pos apos kpos:Pos}{e o:Expr}{es:List Expr}{kws:List Keyword}{te ta:TE}{t tk:TA}{nm:Option Str}
theorem pk_nil:PK X [] tNil:=fun _ _ _ _ H Q I h=>wpAny_evalAll_nil ⟨[],H,I,.nil,h⟩
theorem pk_cons(ha:PE X e te)(hr:PK X kws t):PK X (⟨nm,e,kpos⟩::kws) (tCons te t):=by
 intro pos pins s σ H Q I h
 show wpAny _ _ (evalAll ((do let v <-eval e X.env;standAt pos;pure v)::(backToKw pos (keywordEach kws X.env)).map (·.2))) _ _ s
 refine wpAny_evalAll_cons (wpAny_bind (thn (ha pins s σ H _ I h) fun u s1 ⟨x,H1,I1,r1,q1⟩=>wpAny_bind (wpAny_standAt (wpAny_pure ?_))))
 exact thn (hr pos pins s1 σ H1 _ I1 q1) fun us s2 ⟨xs,H2,I2,r2,q2⟩=>⟨x::xs,H2,I2,.cons r1 r2,q2⟩
variable{g:List Value->List Value->List Value}{gV:List V->List V->List V}
end
structure FnScope(N P:List Str)(sc:Scope):Prop where
 kind:sc.kind=.function
 co:sc.isCoroutine=false
 gen:sc.isGenerator=false
 nd:N.Nodup
 pre:N.take P.length=P
 par:∀x∈P,sc.names.lookup x=some .local\/sc.names.lookup x=some .cell
 nofree:∀y∈sc.names,y.2≠.free
theorem bindL_out{kindOf:Str->Option NameKind}{x:Str}:∀{binds:List (Str×Value)} {m:Str->Option Value},(∀v,(x,v)∉binds)->bindL kindOf binds m x=m x
 | [],_,_=>rfl
 | (n,v)::r,m,h=>by
  unfold bindL
  rw[bindL_out fun w hw=>h w (List.mem_cons_of_mem _ hw)]
  split
  .have:x≠n:=by rintro rfl;exact h v List.mem_cons_self
   simp[this]
  .rfl
theorem bindC_out{kindOf:Str->Option NameKind}{x:Str}:∀{binds:List (Str×Value)} {m:Str->Option Value},(∀v,(x,v)∉binds)->bindC kindOf binds m x=m x
 | [],_,_=>rfl
 | (n,v)::r,m,h=>by
  unfold bindC
  rw[bindC_out fun w hw=>h w (List.mem_cons_of_mem _ hw)]
  split
  .rfl
  .have:x≠n:=by rintro rfl;exact h v List.mem_cons_self
   simp[this]
theorem bindL_get{kindOf:Str->Option NameKind}{x:Str}{v:Value}:∀{P:List Str} {vs:List Value} {i:Nat} {m:Str->Option Value},P.Nodup->P[i]?=some x->vs[i]?=some v->kindOf x=some .local->
  bindL kindOf (P.zip vs) m x=some v
 | [],_,_,_,_,h,_,_=>by simp at h
 | _::_,[],_,_,_,_,h,_=>by simp at h
 | p::P,w::vs,0,m,nd,h1,h2,hk=>by
  simp at h1 h2;subst h1;subst h2
  show bindL kindOf ((p,w)::P.zip vs) m p=_
  unfold bindL
  rw[bindL_out fun v hv=>(List.nodup_cons.mp nd).1 (List.of_mem_zip hv).1,if_pos hk]
  simp
 | p::P,w::vs,i+1,m,nd,h1,h2,hk=>by
  show bindL kindOf ((p,w)::P.zip vs) m x=_
  unfold bindL
  exact bindL_get (i:=i) (List.nodup_cons.mp nd).2 (by simpa using h1) (by simpa using h2) hk
theorem bindC_get{kindOf:Str->Option NameKind}{x:Str}{v:Value}:∀{P:List Str} {vs:List Value} {i:Nat} {m:Str->Option Value},P.Nodup->P[i]?=some x->vs[i]?=some v->kindOf x≠some .local->
  bindC kindOf (P.zip vs) m x=some v
 | [],_,_,_,_,h,_,_=>by simp at h
 | _::_,[],_,_,_,_,h,_=>by simp at h
 | p::P,w::vs,0,m,nd,h1,h2,hk=>by
  simp at h1 h2;subst h1;subst h2
  show bindC kindOf ((p,w)::P.zip vs) m p=_
  unfold bindC
  rw[bindC_out fun v hv=>(List.nodup_cons.mp nd).1 (List.of_mem_zip hv).1,if_neg hk]
  simp
 | p::P,w::vs,i+1,m,nd,h1,h2,hk=>by
  show bindC kindOf ((p,w)::P.zip vs) m x=_
  unfold bindC
  exact bindC_get (i:=i) (List.nodup_cons.mp nd).2 (by simpa using h1) (by simpa using h2) hk
noncomputable def start(N:List Str)(vs:List V):St:=vs.map some++List.replicate (N.length-vs.length) none
noncomputable def cxOf(CX:CXT)(P:Program)(w:World)(K:PySem.W.Frag)(mg:Str->Option Value)(base:Heap)(N:List Str)(qual:Str)(scope:Scope)(f:Addr)(cd:Value)(A:Around)(outer:List Env)(s:Shared)(H:Hp)(E:XK):Cx where
 prog:=P
 w:=w
 K:=K
 mg:=mg
 base:=base
 A:=A.deeper (envOfC qual scope s.heap.objs.size f cd)
 N:=N
 s₀:=s
 H₀:=H
 env:=envOfC qual scope s.heap.objs.size f cd
 outer:=outer
 stack:=envOfC qual scope s.heap.objs.size f cd::outer
 ex:=[]
 calm:=true
 fn:=fun _=>true
 pn:=[]
 xe:=fun e s'=>wpAny (model P w) (A.deeper (envOfC qual scope s.heap.objs.size f cd)) (leaving (envOfC qual scope s.heap.objs.size f cd) e) (fun _ s''=>CX outer H s E e s'') (fun e' s''=>CX outer H s E e' s'') s'
theorem cell_has{sc:Scope}{n:Nat}{x:Str}(h:sc.names.lookup x=some .cell):∃c,(cellsFrom n sc.names []).lookup x=some c:=by
 have q:=PySem.W.cellsFrom_some sc.names n [] (.inl h)
 exact Option.isSome_iff_exists.mp q
theorem inv_start{CX:CXT}{P:Program}{w:World}{K:PySem.W.Frag}{mg:Str->Option Value}{base:Heap}{N ps:List Str}{qual:Str}{scope:Scope}{f:Addr}{cd:Value}{A:Around}{outer:List Env}{s s1:Shared}{H:Hp}{E:XK}{us:List Value}{vs:List V}
  (S:FnScope N ps scope) (hd:A.handled=none) (e0:Env0 P w K mg base A outer s H) (hl:vs.length=ps.length) (r:Vals vs us)
  (x:InCallC s s.heap.objs.size (bindL (envOfC qual scope s.heap.objs.size f cd).kindOf (ps.zip us) fun _=>none) (cellsFrom (s.heap.objs.size+1) scope.names []) (bindC (envOfC qual scope s.heap.objs.size f cd).kindOf (ps.zip us) fun _=>none) s1) :
  Inv (cxOf CX P w K mg base N qual scope f cd A outer s H E) [] (start N vs) H s1:=by
 have hpl:ps.length<=N.length:=by have:=congrArg List.length S.pre;rw[List.length_take]at this;omega
 obtain⟨h1,tk,rfl,hk⟩:=x.done
 have noA:∀b:Addr,b∉(cxOf CX P w K mg base N qual scope f cd A outer s H E).ex:=fun b z=>absurd (show b∈([]:List Addr)from z) (by simp)
 refine⟨⟨e0.mod,S.kind,rfl,rfl,Nat.le_refl _,fun y z c h1 h2=>?_,fun y hy=>?_,fun y c _ h=>?_,fun _=>hd,Around.frames_deeper e0.frames,.inr ⟨rfl,rfl⟩,fun b z=>absurd z (noA b),e0.bs,e0.bsz,fun b _ _=>noA b,fun b z=>absurd z (noA b),e0.funs,e0.frf⟩,
  rfl,e0.bare,Un.kept hk,⟨_,x.toInCall.ns,fun i y v h1 h2 h3=>?_⟩,fun y c h=>⟨_,x.cell y c h⟩,e0.hok.fresh (Nat.le_refl _),fun y c h=>?_,fun p hp=>absurd (show p∈([]:List (Addr×Obj))from hp) (by simp),e0.hok.kept hk,?_⟩
 .exact name_of_addr x.apart (PySem.mem_of_lookup h1) (PySem.mem_of_lookup h2)
 .have hy:scope.names.lookup y=some .cell\/scope.names.lookup y=some .free:=hy
  rcases hy with hy|hy
  .exact cell_has hy
  .exact absurd rfl (S.nofree _ (PySem.mem_of_lookup hy))
 .exact Nat.le_of_lt (x.above y c (PySem.mem_of_lookup h))
 .have hi:i<vs.length:=by
   unfold start at h2
   by_cases hi:i<vs.length
   .exact hi
   .rw[List.getElem?_append_right (by simpa using hi)]at h2
    rw[List.getElem?_replicate]at h2
    split at h2<;>cases h2
  have ha:vs[i]?=some v:=by
   unfold start at h2
   rw[List.getElem?_append_left (by simpa using hi),List.getElem?_map]at h2
   cases e:vs[i]? with
   | none=>rw[e]at h2;cases h2
   | some a=>rw[e]at h2;cases h2;rfl
  obtain⟨u,hu,rv⟩:=r.get ha
  have hp:ps[i]?=some y:=by
   rw[<-S.pre,List.getElem?_take_of_lt (by omega)];exact h1
  have ndP:ps.Nodup:=by rw[<-S.pre];exact S.nd.sublist (List.take_sublist _ _)
  refine⟨u,rv,?_⟩
  rcases S.par y (List.mem_of_getElem? hp)with k|k
  .exact .inl ⟨k,bindL_get ndP hp hu k⟩
  .obtain⟨c,e⟩:=cell_has (n:=s.heap.objs.size+1) k
   refine .inr ⟨.inl k,c,e,?_⟩
   have q:=x.cell y c e
   rw[bindC_get ndP hp hu (by show scope.names.lookup y≠_;rw[k];decide)]at q
   exact q
 .exact e0.hok.fresh (Nat.le_of_lt (x.above y c (PySem.mem_of_lookup h)))
 .unfold start
  show _=N.length
  rw[List.length_append,List.length_map,List.length_replicate]
  omega
theorem fn_of{CX:CXT}{P:Program}{w:World}{K:PySem.W.Frag}{mg:Str->Option Value}{base:Heap}{k:Nat}{f:Addr}{name qual:Str}{params:Arguments}{body:List Stmt}{scope:Scope}{dV kV doc pm cdv ct oc:Value}{an od:Option Addr}
  {osl:Array (Option Value)} {N ps:List Str} {sp:Sp} (lk:K.lookup f=some ⟨oc,od,.func (PySem.W.fnOf name qual params body scope dV kV doc pm an cdv ct),osl⟩) (hcd:PySem.W.codeIn K cdv qual=true) (S:FnScope N ps scope)
  (len:∀vs H Q E,sp vs H Q E->vs.length=ps.length)
  (hbody:∀(A:Around) (outer:List Env) (s:Shared) (H:Hp) (vs:List V) (Q:VK) (E:XK),Room k (A.deeper (envOfC qual scope s.heap.objs.size f cdv))->sp vs H Q E->
   ∃t,PSs (cxOf CX P w K mg base N qual scope f cdv A outer s H E) body t/\t {nx:=fun _ H'=>Q .non H',rt:=Q} (start N vs) H) :
  FnOk P w K mg base CX (k+1) f (PySem.W.fnOf name qual params body scope dV kV doc pm an cdv ct) ps sp:=by
 refine⟨len,fun A outer s H args us vs Q E hr e0 hb r hsp=>?_⟩
 have hl:=len _ _ _ _ hsp
 have KX:K.In s.heap:=e0.mod.kin.keeps fun b o e=>(e0.bs b o e).1
 have lim:s.heap.NoLimit:=e0.mod.nolimit.keeps fun b o e=>(e0.bs b o e).1
 have hkind:∀y∈ps.zip us,scope.names.lookup y.1=some .local\/(scope.names.lookup y.1=some .cell/\((cellsFrom (s.heap.objs.size+1) scope.names []).lookup y.1).isSome=true):=fun⟨n,v⟩ hy=>by
  rcases S.par n (List.of_mem_zip hy).1 with q|q
  .exact .inl q
  .exact .inr ⟨q,PySem.W.cellsFrom_some _ _ _ (.inl q)⟩
 refine codeAny_call_function hr.depth (KX _ _ lk) rfl S.co S.gen rfl (PySem.W.codeRec_of KX hcd) (hb _ _ _ _ ?_)
 refine wpAny_newFunctionEnv_cells S.kind hkind fun env he s1 x=>?_
 subst he
 refine⟨lim.keeps x.toInCall.keep,codeAny_func ?_⟩
 obtain⟨t,ht,hq⟩:=hbody A outer s H vs Q E (hr.deeper _) hsp
 have I:Inv (cxOf CX P w K mg base N qual scope f cdv A outer s H E) [] (start N vs) H s1:=inv_start S hr.hd e0 hl r x
 refine wpAny_mono (ht [] s1 (start N vs) H _ I hq) (fun fl s' hs=>?_) fun e s' hs=>hs
 have fin:∀{σ':St} {H':Hp} {v:V} {u:Value},Inv (cxOf CX P w K mg base N qual scope f cdv A outer s H E) [] σ' H' s'->RelV v u->Q v H'->CE outer P w H s Q u s':=
  fun{σ' H' v u} J rv q=>⟨v,H',J.os,J.bare,J.base,J.hok,rv,q⟩
 cases fl with
 | ret u=>
  obtain⟨v,σ',H',J,rv,q⟩:=hs
  exact fin J rv q
 | next=>
  obtain⟨σ',H',J,q⟩:=hs
  exact fin (v:=V.non) (u:=Value.none) J rfl q
 | brk=>
  obtain⟨_,_,_,q⟩:=hs
  exact False.elim q
 | cont=>
  obtain⟨_,_,_,q⟩:=hs
  exact False.elim q
end L2
namespace L2
open PySem PySem.Spec PyProof.Rows
section
variable{X:Cx}{x:Str}{p pos:Pos}{e:Expr}{es:List Expr}{t:TA}{id T:String}{r:List V->Hp->VK->Prop}
noncomputable def tCB(r:List V->Hp->VK->Prop)(t:TA):TE:=fun σ H Q=>t σ H fun vs H1=>r vs H1 Q
theorem pe_callB(hc:CallR X (.builtin id) r)(hg:Gl X x)(hm:X.mg x=none)(hv:bootBuiltins x=some (.builtin id))(ha:PA X (e::es) t)(hn:x≠"__name__":=by decide)(hdb:(x==("__debug__" : Str))=false:=by decide)
  (he:starEach (e::es) X.env=(false,eval e X.env)::starEach es X.env:=by rfl) (hpl:(backTo pos (starEach es X.env)).any (·.1)=false:=by rfl):PE X (.Call (.Name x p) (e::es) [] pos) (tCB r t):=by
 intro pins s σ H Q I h
 refine wpAny_Call_Name_kw (ld_blt I hg hm hv ?_ hn hdb)
 exact PyProof.Rows.callWith_builtin1 (thn (ha pos pins s σ H _ I h) fun us s1 ⟨vs,H1,I1,r1,q1⟩=>hc pins s1 σ H1 vs us Q I1 r1 q1) he hpl
theorem pe_callTy(hc:CallR X (.type T) r)(hg:Gl X x)(hm:X.mg x=none)(hv:bootBuiltins x=some (.type T))(ha:PA X (e::es) t)(hn:x≠"__name__":=by decide)(hdb:(x==("__debug__" : Str))=false:=by decide)
  (he:starEach (e::es) X.env=(false,eval e X.env)::starEach es X.env:=by rfl) (hpl:(backTo pos (starEach es X.env)).any (·.1)=false:=by rfl):PE X (.Call (.Name x p) (e::es) [] pos) (tCB r t):=by
 intro pins s σ H Q I h
 refine wpAny_Call_Name_kw (ld_blt I hg hm hv ?_ hn hdb)
 exact PyProof.Rows.callWith_type1 (thn (ha pos pins s σ H _ I h) fun us s1 ⟨vs,H1,I1,r1,q1⟩=>hc pins s1 σ H1 vs us Q I1 r1 q1) he hpl
end
end L2
namespace HT
open PySem PyProof.Rows
noncomputable def lexLt:List Int->List Int->Bool
 | [],[]=>false
 | [],_::_=>true
 | _::_,[]=>false
 | x::xs,y::ys=>if x=y then lexLt xs ys else decide (x<y)
theorem lexLt_cons(x y:Int)(xs ys:List Int):lexLt (x::xs) (y::ys)=if x=y then lexLt xs ys else decide (x<y):=rfl
theorem lexLt_nil_nil:lexLt [] []=false:=rfl
theorem lexLt_nil_cons(y:Int)(ys:List Int):lexLt [] (y::ys)=true:=rfl
theorem lexLt_cons_nil(x:Int)(xs:List Int):lexLt (x::xs) []=false:=rfl
theorem eqAt_int(A:Around)(s:Shared)(a:Int)(t:Tok)(c:Int)(u:Tok):∃e,SeqAt.EqAt A s (.int a t) (.int c u) e/\(e=true↔a=c):=
 ⟨(a==c),SeqAt.EqAt.int_int a t c u,by simp⟩
theorem rcLt_int(A:Around)(s:Shared)(a:Int)(t:Tok)(c:Int)(u:Tok)(prog:Program)(w:World)(E:Value->Shared->Prop)(Q:Value->Shared->Prop)(h:Q (.bool (decide (a<c))) s) :
  wpAny (model prog w) A (richCompare .Lt (.int a t) (.int c u)) Q E s:=
 (PyProof.Rows.lt_int h:wpAny (model prog w) A (compareOp .Lt (.int a t) (.int c u)) Q E s)
section
open PySem.SeqAt
open PySem.AutoSeq1 (wpAny_loadPart')
open PySem.MeetsSeq PySem.MeetsSeq2 PySem.MeetsSeq3
theorem tuple_lt_ints(l b:Addr)(items items2:Array Value)(n n2:Nat)(dd dd2:Option Addr)(sl sl2:Array (Option Value))(ns ms:List Int)(hi:IntsAre items.toList ns)(hj:IntsAre items2.toList ms) :
  Meets (Builtin.«tuple.__lt__» ⟨[.ref l,.ref b],[]⟩)
   (fun _ R s=>s.heap.get? l=some {cls:=.type "tuple",dict:=dd,data:=.seq items n,slots:=sl}/\s.heap.get? b=some {cls:=.type "tuple",dict:=dd2,data:=.seq items2 n2,slots:=sl2}/\
    R (.ok (.ret (.bool (lexLt ns ms)))) s):=
 .of_wp fun prog w A R s h=>by
  obtain⟨hp,g,d,tk,os⟩:=s;obtain⟨hl,hb,h⟩:=h
  have f2:=AutoSeq1.sub_tuple_tuple
  have z1:items.size=ns.length:=by rw[<-hi.length];simp
  have z2:items2.size=ms.length:=by rw[<-hj.length];simp
  wp_walk using wpAny_loadPart' hl,wpAny_loadPart' hb,wpAny_forIn_list _ (fun rest b s'=>b.1=none/\s'=⟨hp,g,d,tk,os⟩/\∃(vs ws:List Value) (ns' ms':List Int),rest=vs.zip ws/\
   IntsAre vs ns'/\IntsAre ws ms'/\ns'.length+items2.size=ms'.length+items.size/\R (.ok (.ret (.bool (lexLt ns' ms')))) ⟨hp,g,d,tk,os⟩) _
  case turn=>
   rintro⟨y,x⟩ rest b s' ⟨hb',rfl,vs,ws,ns',ms',hz,hvi,hwi,hlen,hR⟩
   cases hvi with
   | nil=>rw[List.zip_nil_left]at hz;cases hz
   | cons a t hvi'=>
    cases hwi with
    | nil=>rw[List.zip_nil_right]at hz;cases hz
    | cons c u hwi'=>
     rw[List.zip_cons_cons]at hz
     injection hz with hyx hrest
     injection hyx with hy hx
     subst hy hx
     rw[lexLt_cons]at hR
     simp only[List.length_cons]at hlen
     obtain⟨e,he,hiff⟩:=eqAt_int A.in1 ⟨hp,g,d,tk,os⟩ a t c u
     refine wpAny_bind (he prog w _ _ ?_)
     cases e with
     | true=>
      rw[if_pos (hiff.mp rfl)]at hR
      wp_walk
      exact⟨rfl,rfl,_,_,_,_,hrest,hvi',hwi',by omega,hR⟩
     | false=>
      rw[if_neg (fun q=>absurd (hiff.mpr q) Bool.false_ne_true)]at hR
      have hri:=rcLt_int A.in1 ⟨hp,g,d,tk,os⟩ a t c u prog w
      wp_walk using hri
      exact⟨_,rfl,by simpa using hR⟩
  case fin=>
   rintro⟨b1,b2⟩ s' ⟨hb',rfl,vs,ws,ns',ms',hz,hvi,hwi,hlen,hR⟩
   simp only at hb'
   subst hb'
   have hv:lexLt ns' ms'=decide (items.size<items2.size):=by
    cases hvi with
    | nil=>
     cases hwi with
     | nil=>
      simp only[List.length_nil]at hlen
      rw[lexLt_nil_nil]
      exact(decide_eq_false (by omega)).symm
     | cons c u hw=>
      simp only[List.length_nil,List.length_cons]at hlen
      rw[lexLt_nil_cons]
      exact(decide_eq_true (by omega)).symm
    | cons a t hv=>
     cases hwi with
     | nil=>
      simp only[List.length_nil,List.length_cons]at hlen
      rw[lexLt_cons_nil]
      exact(decide_eq_false (by omega)).symm
     | cons c u hw=>
      rw[List.zip_cons_cons]at hz
      cases hz
   rw[hv]at hR
   wp_walk
   exact⟨_,rfl,by simpa [Builtin.Tuple.tupleCompareSizes]using hR⟩
  case h=>
   exact⟨rfl,rfl,items.toList,items2.toList,ns,ms,rfl,hi,hj,by omega,h⟩
end
section
variable{prog:Program}{w:World}{A:Around}{E:Value->Shared->Prop}{s:Shared}
theorem lt_tupInts{l b:Addr}{items items2:Array Value}{ns ms:List Int}{Q:Value->Shared->Prop}(hl:IsTup s.heap l items)(hb:IsTup s.heap b items2)(hi:IntsAre items.toList ns)(hj:IntsAre items2.toList ms)
  (hu:A.units<cLine) (h:Q (.bool (lexLt ns ms)) s):wpAny (model prog w) A (compareOp .Lt (.ref l) (.ref b)) Q E s:=by
 obtain⟨⟨cls,dd,data,sl⟩,ho,hc,n,hd⟩:=id hl
 obtain⟨⟨cls2,dd2,data2,sl2⟩,ho2,hc2,n2,hd2⟩:=id hb
 simp only at hc hd hc2 hd2
 subst hc hd hc2 hd2
 exact richCompare_meets_room (op:=.Lt) ⟨_,ho,rfl⟩ ⟨_,ho2,rfl⟩ PySem.F.slot_tuple_lt PySem.F.entry_tuple_lt (PySem.F.args_tuple_lt_2 _ _) (tuple_lt_ints l b items items2 n n2 dd dd2 sl sl2 ns ms hi hj)
  ⟨ho,ho2,show Value.bool (lexLt ns ms)≠Value.notImplemented/\Q (.bool (lexLt ns ms)) s from ⟨(fun x=>nomatch x),h⟩⟩ hu
theorem cat_tup{t b:Addr}{vs ws:List Value}{Q:Value->Shared->Prop}(ht:IsTup s.heap t vs.toArray)(hb:IsTup s.heap b ws.toArray)(hv:vs≠[])
  (h1:ws=[]->Q (.ref t) s) (h2:ws≠[]->Q (.ref s.heap.objs.size) {s with heap:=s.heap.push {cls:=.type "tuple",data:=.seq (vs++ws).toArray}})
  (hsz:vs.length+ws.length<=sizeLine):wpAny (model prog w) A (binaryOp .Add (.ref t) (.ref b)) Q E s:=by
 obtain⟨⟨cls,dd,data,sl⟩,ho,hc,n,hd⟩:=id ht
 obtain⟨⟨cls2,dd2,data2,sl2⟩,ho2,hc2,n2,hd2⟩:=id hb
 simp only at hc hd hc2 hd2
 subst hc hd hc2 hd2
 have e:vs.toArray++ws.toArray=(vs++ws).toArray:=by simp
 by_cases hw:ws=[]
 .exact concat_meets ⟨_,ho,rfl⟩ ⟨_,ho2,rfl⟩ noFill_tuple_add seq_tuple_add PySem.F.slot_tuple_add PySem.F.entry_tuple_add (PySem.F.args_tuple_add_2 _ _)
   (tuple_addW1 t b vs.toArray ws.toArray n n2 dd dd2 sl sl2 (by simpa using hv) (by simp[hw])) ⟨ho,ho2,h1 hw⟩
 .refine concat_meets ⟨_,ho,rfl⟩ ⟨_,ho2,rfl⟩ noFill_tuple_add seq_tuple_add PySem.F.slot_tuple_add PySem.F.entry_tuple_add (PySem.F.args_tuple_add_2 _ _)
   (tuple_addW2 t b vs.toArray ws.toArray n n2 dd dd2 sl sl2 (by simpa using hv) (by simpa using hw) (by rw[List.size_toArray,List.size_toArray];exact hsz)) ⟨ho,ho2,?_⟩
  rw[e]
  exact h2 hw
noncomputable def sIx(n d:Nat):Option Int->Nat
 | none=>d
 | some v=>if v<0 then(v+(n:Int)).toNat else min v.toNat n
theorem sIx_none(n d:Nat):sIx n d none=d:=rfl
theorem sIx_nat(n d k:Nat):sIx n d (some (k:Int))=min k n:=by
 show(if (k:Int)<0 then((k:Int)+(n:Int)).toNat else min (k:Int).toNat n)=min k n
 rw[if_neg (by omega),Int.toNat_natCast]
theorem sIx_le(n d:Nat)(hd:d<=n)(o:Option Int):sIx n d o<=n:=by
 cases o with
 | none=>exact hd
 | some v=>
  show(if v<0 then(v+(n:Int)).toNat else min v.toNat n)<=n
  by_cases hv:v<0
  .rw[if_pos hv];omega
  .rw[if_neg hv];exact Nat.min_le_right _ _
theorem clip_eq(v:Int)(n d:Nat):(if v<0 then max (v+(n:Int)) 0 else min v (n:Int))=((sIx n d (some v):Nat):Int):=by
 show(if v<0 then max (v+(n:Int)) 0 else min v (n:Int))=(((if v<0 then(v+(n:Int)).toNat else min v.toNat n):Nat):Int)
 by_cases hv:v<0
 .simp only[if_pos hv];omega
 .simp only[if_neg hv];omega
theorem adjust_gen(lo hi:Option Int)(n:Nat):Builtin.Slice.sliceAdjust lo hi 1 (n:Int)=(((sIx n 0 lo:Nat):Int),((sIx n n hi:Nat):Int)):=by
 have h1:¬((1:Int)<0):=by omega
 unfold Builtin.Slice.sliceAdjust
 simp only[h1,if_false]
 refine Prod.ext ?_ ?_
 .cases lo with
  | none=>rfl
  | some v=>exact clip_eq v n 0
 .cases hi with
  | none=>rfl
  | some v=>exact clip_eq v n n
theorem places_gen(i j:Nat):Builtin.Slice.slicePlaces (i:Int) (j:Int) 1=j-i:=by
 unfold Builtin.Slice.slicePlaces
 have h1:(1:Int)>0:=by omega
 simp only[h1,if_true,Int.ediv_one]
 split<;>omega
theorem slicePart_{v:Value}{o:Option Int}{Q:Option Int->Shared->Prop}(p:IsPart v o)(h:Q o s):wpAny (model prog w) A (Builtin.Slice.slicePartIndex v) Q E s:=by
 cases p with
 | none=>exact slicePart_none h
 | int i t=>exact slicePart_int h
theorem sliceApplied_gen{sl:Addr}{vl vu:Value}{lo hi:Option Int}{n:Nat}{Q:Int×Int×Nat->Shared->Prop}(hs:s.heap.IsSliceOf sl vl vu .none)(pl:IsPart vl lo)(pu:IsPart vu hi)
  (h:Q (((sIx n 0 lo:Nat):Int),1,sIx n n hi-sIx n 0 lo) s):wpAny (model prog w) A (Builtin.Slice.sliceApplied (.ref sl) (pure (n:Int))) Q E s:=by
 obtain⟨os,hos,hcs,hds⟩:=id hs
 unfold Builtin.Slice.sliceApplied Builtin.Slice.sliceFields
 refine wpAny_bind (wpAny_bind (wpAny_field hos hds (x:=vl) rfl (wpAny_bind (wpAny_field hos hds (x:=vu) rfl (wpAny_bind (wpAny_field hos hds (x:=.none) rfl (wpAny_pure ?_)))))))
 refine wpAny_bind (slicePart_none ?_)
 show wpAny _ _ (if ((1:Int)==0)=true then _ else _) _ _ s
 rw[if_neg (by decide)]
 refine wpAny_bind (slicePart_ pl (wpAny_bind (slicePart_ pu (wpAny_bind (wpAny_pure ?_)))))
 show wpAny _ _ (match Builtin.Slice.sliceAdjust lo hi 1 (n:Int)with|(lo,hi)=>pure (lo,(1:Int),Builtin.Slice.slicePlaces lo hi 1)) _ _ s
 rw[adjust_gen lo hi n]
 show wpAny _ _ (pure (((sIx n 0 lo:Nat):Int),(1:Int),Builtin.Slice.slicePlaces ((sIx n 0 lo:Nat):Int) ((sIx n n hi:Nat):Int) 1)) _ _ s
 rw[places_gen]
 exact wpAny_pure h
theorem pick_gen(xs:Array Value)(i k:Nat):((List.range k).filterMap fun(m:Nat)=>xs[((i:Int)+(m:Int)*1).toNat]?).toArray=((xs.toList.drop i).take k).toArray:=by
 have e:(fun(m:Nat)=>xs[((i:Int)+(m:Int)*1).toNat]?)=fun m=>xs[i+m]?:=by
  funext m
  have:((i:Int)+(m:Int)*1).toNat=i+m:=by omega
  rw[this]
 rw[e]
 have:=pick_run xs i k
 rw[List.filterMap_map]at this
 have e2:((fun x=>xs[x]?)∘fun x=>i+x)=fun m=>xs[i+m]?:=rfl
 rw[e2]at this
 rw[this]
theorem getItem_tuple_cut{t sl:Addr}{items:Array Value}{vl vu:Value}{lo hi:Option Int}{Q:Value->Shared->Prop}(ht:IsTup s.heap t items)(hs:s.heap.IsSliceOf sl vl vu .none)(pl:IsPart vl lo)(pu:IsPart vu hi)
  (hw:¬(sIx items.size 0 lo=0/\sIx items.size items.size hi=items.size))
  (h:Q (.ref s.heap.objs.size) {s with heap:=s.heap.push {cls:=.type "tuple",data:=.seq ((items.toList.drop (sIx items.size 0 lo)).take (sIx items.size items.size hi-sIx items.size 0 lo)).toArray}})
  (hsz:items.size<=sizeLine):wpAny (model prog w) A (getItem (.ref t) (.ref sl)) Q E s:=by
 have htake:sizeOk (.seq ((items.toList.drop (sIx items.size 0 lo)).take (sIx items.size items.size hi-sIx items.size 0 lo)).toArray):=by
  show((items.toList.drop (sIx items.size 0 lo)).take (sIx items.size items.size hi-sIx items.size 0 lo)).toArray.size<=sizeLine
  rw[List.size_toArray,List.length_take,List.length_drop,Array.length_toList]
  omega
 have hj:sIx items.size items.size hi<=items.size:=sIx_le _ _ (Nat.le_refl _) hi
 obtain⟨os,hos,hcs,hds⟩:=id hs
 have hTs:s.TypeIs (.ref sl) "slice":=⟨os,hos,hcs⟩
 unfold getItem
 try with_reducible refine wpAny_holding ?_
 first|refine wpAny_bind (wpAny_pure ?_)|skip
 refine wpAny_bind (wpAny_sequenceKey ht.typeIs (by decide) ?_)
 refine wpAny_bind (wpAny_callSpecial?_slot (name:=Str.ofString "__getitem__") ht.typeIs PyProof.Rows.slot_tuple_getitem
  (wpAny_call_entry PyProof.Rows.slot_tuple_getitem ht.typeIs entry_tuple_getitem ?_ (args_tuple_getitem _ _)))
 show wpAny _ _ (Builtin.Tuple.tupleItemsOf (.ref t) >>= _) _ _ s
 refine wpAny_bind (tupleItemsOf_ ht ?_)
 refine wpAny_bind (wpAny_typeOf hTs ?_)
 rw[if_pos (by decide)]
 refine wpAny_bind (sliceApplied_gen hs pl pu ?_)
 have hno:¬((((sIx items.size 0 lo:Nat):Int)==0&&(1:Int)==1&&(sIx items.size items.size hi-sIx items.size 0 lo)==items.size)=true):=by
  intro q
  rw[Bool.and_eq_true,Bool.and_eq_true]at q
  have q1:((sIx items.size 0 lo:Nat):Int)=0:=eq_of_beq q.1.1
  have q2:sIx items.size items.size hi-sIx items.size 0 lo=items.size:=eq_of_beq q.2
  exact hw ⟨by omega,by omega⟩
 show wpAny _ _ (if (((sIx items.size 0 lo:Nat):Int)==0&&(1:Int)==1&&(sIx items.size items.size hi-sIx items.size 0 lo)==items.size)=true then _ else _) _ _ s
 rw[if_neg hno,pick_gen]
 first
  | exact wpAny_bind (m:=Builtin.Tuple.tupleExact _) (wpAny_newObj_type (wpAny_pure ⟨_,rfl,wpAny_pure h⟩) htake)
  | exact wpAny_bind (m:=Builtin.Tuple.tupleExact _) (wpAny_newObj_type (wpAny_bind (wpAny_pure (wpAny_pure ⟨_,rfl,wpAny_pure h⟩))) htake)
  | exact wpAny_bind (wpAny_bind (m:=Builtin.Tuple.tupleExact _) (wpAny_newObj_type (wpAny_pure (wpAny_pure ⟨_,rfl,wpAny_pure h⟩)) htake))
  | exact wpAny_bind (wpAny_bind (m:=Builtin.Tuple.tupleExact _) (wpAny_newObj_type (wpAny_pure ⟨_,rfl,wpAny_pure h⟩) htake))
end
end HT
namespace L2
open PySem PySem.Spec PyProof.Rows
noncomputable abbrev TO:=St->Hp->(Option Int->Hp->Prop)->Prop
noncomputable def PO(X:Cx)(e:Option Expr)(t:TO):Prop:=
 ∀(pins:List (Addr×Obj)) (s:Shared) (σ:St) (H:Hp) (Q:Option Int->Hp->Prop),Inv X pins σ H s->t σ H Q->
  wpAny (model X.prog X.w) X.A (evalPart e X.env) (fun u s'=>∃o H',Inv X pins σ H' s'/\IsPart u o/\Q o H') X.xe s
noncomputable def tNoPart:TO:=fun _ H Q=>Q none H
noncomputable def tPart(t:TE):TO:=fun σ H Q=>t σ H fun x H1=>∃i,x=.int i/\Q (some i) H1
theorem intsAre_of{ns:List Int}:∀{us:List Value},Vals (ns.map V.int) us->IntsAre us ns:=by
 induction ns with
 | nil=>intro us r;rw[List.map_nil]at r;cases r;exact .nil
 | cons n ns ih=>
  intro us r
  rw[List.map_cons]at r
  cases r with
  | cons r1 r2=>
   obtain⟨t,e⟩:=r1
   subst e
   exact .cons n t (ih r2)
section
variable{X:Cx}{e:Expr}{te:TE}{lo hi:Option Expr}{tl th:TO}{pos p2:Pos}
theorem po_none:PO X none tNoPart:=by
 intro pins s σ H Q I h
 rw[evalPart_none]
 exact wpAny_pure ⟨none,H,I,.none,h⟩
theorem po_some(h:PE X e te):PO X (some e) (tPart te):=by
 intro pins s σ H Q I hw
 rw[evalPart_some]
 refine thn (h pins s σ H _ I hw) fun u s1 ⟨x,H1,I1,r1,q1⟩=>?_
 obtain⟨i,rfl,q⟩:=q1
 obtain⟨t,rfl⟩:=r1
 exact⟨some i,H1,I1,.int i t,q⟩
noncomputable def SlR(X:Cx)(r:V->Option Int->Option Int->Hp->VK->Prop):Prop:=
 ∀(pins:List (Addr×Obj)) (s:Shared) (σ:St) (H:Hp) (x:V) (v vl vu:Value) (lo hi:Option Int) (sl:Addr) (Q:VK),Inv X pins σ H s->RelV x v->s.heap.IsSliceOf sl vl vu .none->IsPart vl lo->IsPart vu hi->r x lo hi H Q->
  ∃T id,typeLookup (.type T) "__getitem__" = pure (some (.builtin id))/\s.TypeIs v T/\wpAny (model X.prog X.w) X.A (getItem v (.ref sl)) (EP X pins σ Q) X.xe s
noncomputable def tSl(r:V->Option Int->Option Int->Hp->VK->Prop)(te:TE)(tl th:TO):TE:=fun σ H Q=>te σ H fun x H1=>tl σ H1 fun l H2=>th σ H2 fun u H3=>r x l u H3 Q
theorem pe_slice{r:V->Option Int->Option Int->Hp->VK->Prop}(hr:SlR X r)(he:PE X e te)(hl:PO X lo tl)(hu:PO X hi th):PE X (.Subscript e (.Slice lo hi none p2) pos) (tSl r te tl th):=by
 intro pins s σ H Q I h
 refine Subscript_ (thn (he pins s σ H _ I h) fun v s1 ⟨x,H1,I1,r1,q1⟩=>?_)
 refine wpAny_Slice (thn (hl pins s1 σ H1 _ I1 q1) fun vl s2 ⟨l,H2,I2,pl,q2⟩=>thn (hu pins s2 σ H2 _ I2 q2) fun vu s3 ⟨u,H3,I3,pu,q3⟩=>?_)
 rw[evalPart_none]
 refine wpAny_pure ?_
 have I4:Inv X pins σ H3 {s3 with heap:=s3.heap.push {cls:=.type "slice",data:=.fields #[vl,vu,.none]}}:=I3.kept (t':=s3.toks) fun b ob q=>Heap.get?_push_of_some _ q
 obtain⟨T,id,hT,ht,hg⟩:=hr pins {s3 with heap:=s3.heap.push {cls:=.type "slice",data:=.fields #[vl,vu,.none]}} σ H3 x v vl vu l u s3.heap.objs.size Q I4 r1 (Heap.IsSliceOf.new ..) pl pu q3
 show wpAny (model X.prog X.w) X.A (subscriptTail e (.Slice lo hi none p2) v (.ref s3.heap.objs.size)) (EP X pins σ Q) X.xe {s3 with heap:=s3.heap.push {cls:=.type "slice",data:=.fields #[vl,vu,.none]}}
 exact tail_any (ops:=[.ref s3.heap.objs.size,v]) ht hT hg (by with_unfolding_all rfl)
noncomputable def cutV(xs:List V)(lo hi:Option Int):List V:=(xs.drop (HT.sIx xs.length 0 lo)).take (HT.sIx xs.length xs.length hi-HT.sIx xs.length 0 lo)
theorem cutV_length(xs:List V)(lo hi:Option Int):(cutV xs lo hi).length<=xs.length:=by
 unfold cutV
 rw[List.length_take,List.length_drop]
 omega
noncomputable def rSlT(K:PySem.W.Frag):V->Option Int->Option Int->Hp->VK->Prop:=fun x lo hi H Q=>∃a xs,x=.ref a/\SqT K H a xs/\
 ¬(HT.sIx xs.length 0 lo=0/\HT.sIx xs.length xs.length hi=xs.length)/\∀p,H p=none->Q (.ref p) (upd H p (.tup (cutV xs lo hi)))
theorem sl_tup:SlR X (rSlT X.K):=by
 intro pins s σ H x v vl vu lo hi sl Q I rx hs pl pu h
 obtain⟨a,xs,rfl,hx,hw,q⟩:=h
 cases rx
 obtain⟨its,r,ht,hz⟩:=I.tuple hx
 have hlen:its.toArray.size=xs.length:=by rw[List.size_toArray];exact r.length.symm
 refine⟨"tuple",_,PyProof.Rows.slot_tuple_getitem.lookup,ht.typeIs,?_⟩
 refine HT.getItem_tuple_cut ht hs pl pu (by rw[hlen];exact hw) ?_ (by rw[hlen];exact hz)
 rw[hlen]
 refine⟨.ref s.heap.objs.size,_,I.laid (t':=s.toks) (o:=.tup (cutV xs lo hi)) (fun b ob q=>Heap.get?_push_of_some _ q) (Nat.le_refl _) ?_,rfl,q _ (I.hok.fresh (Nat.le_refl _))⟩
 exact⟨Nat.le_trans (cutV_length xs lo hi) hz,_,(r.drop (HT.sIx xs.length 0 lo)).take (HT.sIx xs.length xs.length hi-HT.sIx xs.length 0 lo),IsTup.new _ _⟩
noncomputable def rLtT(K:PySem.W.Frag):R2:=fun x y H Q=>∃a b ns ms,x=.ref a/\y=.ref b/\SqT K H a (ns.map V.int)/\SqT K H b (ms.map V.int)/\Q (.bl (HT.lexLt ns ms)) H
theorem op_ltT(hu:X.A.units<cLine):OpR X (compareOp .Lt) (rLtT X.K):=by
 intro pins s σ H x y v u Q I rx ry h
 obtain⟨a,b,ns,ms,rfl,rfl,ha,hb,q⟩:=h
 cases rx
 cases ry
 obtain⟨its,r1,p1,_⟩:=I.tuple ha
 obtain⟨its2,r2,p2,_⟩:=I.tuple hb
 have i1:IntsAre its.toArray.toList ns:=intsAre_of r1
 have i2:IntsAre its2.toArray.toList ms:=intsAre_of r2
 exact HT.lt_tupInts p1 p2 i1 i2 hu ⟨.bl (HT.lexLt ns ms),H,I,rfl,q⟩
noncomputable def rCatT(K:PySem.W.Frag):R2:=fun x y H Q=>∃a b xs ys,x=.ref a/\y=.ref b/\SqT K H a xs/\SqT K H b ys/\xs≠[]/\xs.length+ys.length<=sizeLine/\
 (ys=[]->Q (.ref a) H)/\(ys≠[]->∀p,H p=none->Q (.ref p) (upd H p (.tup (xs++ys))))
theorem Vals.nil_iff{xs:List V}{us:List Value}(r:Vals xs us):us=[]↔xs=[]:=by
 cases r with
 | nil=>simp
 | cons _ _=>simp
theorem op_catT:OpR X (binaryOp .Add) (rCatT X.K):=by
 intro pins s σ H x y v u Q I rx ry h
 obtain⟨a,b,xs,ys,rfl,rfl,ha,hb,hx,hz,q1,q2⟩:=h
 cases rx
 cases ry
 obtain⟨its,r1,p1,_⟩:=I.tuple ha
 obtain⟨its2,r2,p2,_⟩:=I.tuple hb
 refine HT.cat_tup p1 p2 (fun z=>hx (r1.nil_iff.mp z)) (fun z=>⟨.ref a,H,I,rfl,q1 (r2.nil_iff.mp z)⟩) (fun z=>?_) (by rw[<-r1.length,<-r2.length];exact hz)
 refine⟨.ref s.heap.objs.size,_,I.laid (t':=s.toks) (o:=.tup (xs++ys)) (fun b ob q=>Heap.get?_push_of_some _ q) (Nat.le_refl _) ?_,rfl,q2 (fun w=>z (r2.nil_iff.mpr w)) _ (I.hok.fresh (Nat.le_refl _))⟩
 exact⟨by rw[List.length_append];exact hz,_,r1.append r2,IsTup.new _ _⟩
end
end L2
namespace L2
open PySem PySem.Spec PyProof.Rows
noncomputable def ixN(n:Nat)(i:Int):Option Nat:=if 0<=i then(if i<n then some i.toNat else none)else if -(n:Int)<=i then some (i+n).toNat else none
noncomputable def atI{α:Type}(xs:List α)(i:Int):Option α:=(ixN xs.length i).bind fun j=>xs[j]?
theorem ixN_seq{n:Nat}{i:Int}{j:Nat}(h:ixN n i=some j):seqIndex? i n=some j/\j<n/\-(n:Int)<=i/\i<n:=by
 unfold ixN at h
 by_cases h0:0<=i
 .rw[if_pos h0]at h
  by_cases h1:i<n
  .rw[if_pos h1]at h
   have e:i.toNat=j:=Option.some.inj h
   exact⟨by rw[seqIndex_of h0 h1,e],by omega,by omega,h1⟩
  .rw[if_neg h1]at h;cases h
 .rw[if_neg h0]at h
  by_cases h1:-(n:Int)<=i
  .rw[if_pos h1]at h
   have e:(i+n).toNat=j:=Option.some.inj h
   exact⟨by rw[seqIndex_neg (by omega) h1,e],by omega,h1,by omega⟩
  .rw[if_neg h1]at h;cases h
theorem atI_get{α:Type}{xs:List α}{i:Int}{v:α}(h:atI xs i=some v):∃j,seqIndex? i xs.length=some j/\xs[j]?=some v/\j<xs.length/\-(xs.length:Int)<=i/\i<xs.length:=by
 unfold atI at h
 cases e:ixN xs.length i with
 | none=>rw[e]at h;cases h
 | some j=>
  rw[e]at h
  obtain⟨h1,h2,h3,h4⟩:=ixN_seq e
  exact⟨j,h1,h,h2,h3,h4⟩
theorem atI_nat{α:Type}{xs:List α}{j:Nat}{v:α}(h:xs[j]?=some v):atI xs (j:Int)=some v:=by
 have hj:j<xs.length:=(List.getElem?_eq_some_iff.mp h).1
 have e:ixN xs.length (j:Int)=some j:=by
  unfold ixN
  rw[if_pos (by omega),if_pos (by omega)];simp
 unfold atI;rw[e];exact h
noncomputable def PlainIx(b:Expr):Prop:=∀o i,subscripted b false o i=operate [o,i] (getItem o i)
noncomputable def IxR(X:Cx)(r:R2):Prop:=
 ∀(value slice:Expr) (pins:List (Addr×Obj)) (s:Shared) (σ:St) (H:Hp) (x y:V) (v u:Value) (Q:VK),Inv X pins σ H s->RelV x v->RelV y u->r x y H Q->
  subscripted slice false v u=operate [v,u] (getItem v u)->wpAny (model X.prog X.w) X.A (subscriptTail value slice v u) (EP X pins σ Q) X.xe s
noncomputable def MtR(X:Cx)(id:String)(r:V->List V->Hp->VK->Prop):Prop:=
 ∀(pins:List (Addr×Obj)) (s:Shared) (σ:St) (H:Hp) (x:V) (xs:List V) (v:Value) (us:List Value) (Q:VK),Inv X pins σ H s->RelV x v->Vals xs us->r x xs H Q->
  wpAny (model X.prog X.w) X.A (call (.builtin id) (v::us)) (EP X pins σ Q) X.xe s
section
variable{X:Cx}{a b:Expr}{ta tb:TE}{pos:Pos}
theorem pe_ix{r:R2}(hr:IxR X r)(ha:PE X a ta)(hb:PE X b tb)(hs:PlainIx b):PE X (.Subscript a b pos) (tOp r ta tb):=by
 intro pins s σ H Q I h
 exact Subscript_ (binT ha hb I h fun v u s2 x y H2 I2 rx ry q=>hr a b pins s2 σ H2 x y v u Q I2 rx ry q (hs _ _))
noncomputable def rIxL(K:PySem.W.Frag):R2:=fun x y H Q=>∃p xs i v,x=.ref p/\y=.int i/\SqL K H p xs/\atI xs i=some v/\Q v H
noncomputable def rIxT(K:PySem.W.Frag):R2:=fun x y H Q=>∃p xs i v,x=.ref p/\y=.int i/\SqT K H p xs/\atI xs i=some v/\Q v H
noncomputable def rIxS:R2:=fun x y H Q=>∃z i c,x=.str z/\y=.int i/\z.length<=sizeLine/\atI z.cps.toList i=some c/\Q (.str ⟨#[c]⟩) H
theorem ix_list:IxR X (rIxL X.K):=by
 intro value slice pins s σ H x y v u Q I rx ry h hs
 obtain⟨p,xs,i,z,rfl,rfl,hq,he,q⟩:=h
 cases rx
 obtain⟨t,rfl⟩:=ry
 obtain⟨its,r,pl,hz⟩:=I.list hq
 obtain⟨j,h1,h2,h3,h4,h5⟩:=atI_get he
 obtain⟨w,ew,rw'⟩:=r.get h2
 have hl:=r.length
 have hn:=line63
 have fin:EP X pins σ Q w s:=⟨z,H,I,rw',q⟩
 by_cases h0:0<=i
 .have hj:i.toNat=j:=by
   rw[seqIndex_of h0 h5]at h1
   exact Option.some.inj h1
  exact item_listR pl.isList h0 (by omega) (by rw[hj];simpa using ew) fin hs
 .have hj:(i+(its.toArray.size:Int)).toNat=j:=by
   rw[seqIndex_neg (by omega) h4]at h1
   rw[List.size_toArray,<-hl]
   exact Option.some.inj h1
  exact subscriptTail_builtinR (x:=w) pl.isList.typeIs slot_list_getitem.lookup
   (wpAny_getItem_list_neg (Q:=fun r s'=>r=w/\EP X pins σ Q r s') pl.isList (by omega) (by rw[List.size_toArray]<;>omega) (by omega) (by rw[hj];simpa using ew) ⟨rfl,fin⟩) hs
theorem ix_tup:IxR X (rIxT X.K):=by
 intro value slice pins s σ H x y v u Q I rx ry h hs
 obtain⟨p,xs,i,z,rfl,rfl,hq,he,q⟩:=h
 cases rx
 obtain⟨t,rfl⟩:=ry
 obtain⟨its,r,pl,hz⟩:=I.tuple hq
 obtain⟨j,h1,h2,h3,h4,h5⟩:=atI_get he
 obtain⟨w,ew,rw'⟩:=r.get h2
 have hl:=r.length
 have hn:=line63
 have fin:EP X pins σ Q w s:=⟨z,H,I,rw',q⟩
 exact subscriptTail_builtinR (x:=w) pl.typeIs slot_tuple_getitem.lookup
  (getItem_tuple (j:=j) (Q:=fun r s'=>r=w/\EP X pins σ Q r s') pl (by omega) (by omega) (by rw[List.size_toArray,<-hl];exact h1) (by simpa using ew) ⟨rfl,fin⟩) hs
theorem ix_str:IxR X rIxS:=by
 intro value slice pins s σ H x y v u Q I rx ry h hs
 obtain⟨z,i,c,rfl,rfl,hz,he,q⟩:=h
 obtain⟨t,rfl⟩:=rx
 obtain⟨t',rfl⟩:=ry
 obtain⟨j,h1,h2,h3,h4,h5⟩:=atI_get he
 have hl:z.cps.toList.length=z.length:=by simp[Str.length]
 rw[hl]at h1 h4 h5
 have hn:=line63
 exact tail_any (typeIs_str s z t) slot_str_getitem.lookup (getItem_str (c:=c) (by
  have e1:decide (i < -(2^63:Int))=false:=decide_eq_false (by omega)
  have e2:decide (i>=2^63)=false:=decide_eq_false (by omega)
  rw[e1,e2,Bool.or_false]) (by rw[h1];simpa using h2) ⟨.str ⟨#[c]⟩,H,I.tok _,⟨_,rfl⟩,q⟩) hs
theorem mapSeq_set(its:List Value)(n j:Nat)(u:Value):Obj.mapSeq (·.setIfInBounds j u) {cls:=.type "list",data:=.seq its.toArray n}={cls:=.type "list",data:=.seq (its.set j u).toArray n}:=by
 simp[Obj.mapSeq]
theorem Inv.lst{pins:List (Addr×Obj)}{σ:St}{H:Hp}{s:Shared}{p:Addr}{xs:List V}(I:Inv X pins σ H s)(h:H p=some (.lst xs)) :
  ∃(its:List Value) (n:Nat),Vals xs its/\s.heap.get? p=some {cls:=.type "list",data:=.seq its.toArray n}/\xs.length<=sizeLine:=by
 obtain⟨z,its,n,r,e⟩:=I.hok p _ h
 exact⟨its,n,r,e,z⟩
theorem Inv.lstUpd{pins:List (Addr×Obj)}{σ:St}{H:Hp}{s:Shared}{p:Addr}{xs ys:List V}{its its':List Value}{n n':Nat}{f:Obj->Obj}(I:Inv X pins σ H s)(h:H p=some (.lst xs))
  (ho:s.heap.get? p=some {cls:=.type "list",data:=.seq its.toArray n}) (hf:f {cls:=.type "list",data:=.seq its.toArray n}={cls:=.type "list",data:=.seq its'.toArray n'}) (r:Vals ys its') (hz:ys.length<=sizeLine) (t:Nat) :
  Inv X pins σ (upd H p (.lst ys)) {s with heap:=s.heap.update p f,toks:=t}:=by
 have e:(s.heap.update p f).get? p=some {cls:=.type "list",data:=.seq its'.toArray n'}:=by
  rw[Heap.get?_update_self f ho (by rw[hf]<;>rfl),hf]
 refine I.write (x:=p) (e:=p) (by rw[h];trivial) (.inl rfl) (fun b u hb q=>(Heap.get?_update_other _ _ (Ne.symm hb)).trans q) ⟨_,e⟩ ?_
 exact⟨hz,its',n',r,e⟩
noncomputable def rSetL:V->V->V->Hp->(Hp->Prop)->Prop:=fun o i v H Q=>∃p xs k j,o=.ref p/\i=.int k/\H p=some (.lst xs)/\ixN xs.length k=some j/\Q (upd H p (.lst (xs.set j v)))
theorem set_list:PSet X rSetL:=by
 intro pins s σ H o i v ov iv u Q I ro ri rv h
 obtain⟨p,xs,k,j,rfl,rfl,hp,hj,q⟩:=h
 cases ro
 obtain⟨t,rfl⟩:=ri
 obtain⟨its,n,r,ho,hz⟩:=I.lst hp
 obtain⟨h1,h2,h3,h4⟩:=ixN_seq hj
 have hl:=r.length
 have hn:=line63
 have I':Inv X pins σ (upd H p (.lst (xs.set j v))) {s with heap:=s.heap.update p (Obj.mapSeq (·.setIfInBounds j u))}:=
  I.lstUpd hp ho (mapSeq_set its n j u) (r.set rv j) (by rw[List.length_set];exact hz) s.toks
 by_cases h0:0<=k
 .have hk:k.toNat=j:=by
   rw[seqIndex_of h0 h4]at h1
   exact Option.some.inj h1
  exact PySem.W.ki_setAt ho h0 (by omega) (by rw[List.size_toArray,<-hl];exact h4) (by rw[hk];exact⟨_,I',q⟩)
 .have hk:(k+(its.toArray.size:Int)).toNat=j:=by
   rw[seqIndex_neg (by omega) h3]at h1
   rw[List.size_toArray,<-hl]
   exact Option.some.inj h1
  exact PySem.W.ki_setBack ho (by omega) (by rw[List.size_toArray,<-hl];exact h3) (by omega) (by rw[hk];exact⟨_,I',q⟩)
theorem slice_bounds(lo hi:Option Int)(n:Nat):(sliceBounds lo hi none n).1=((HT.sIx n 0 lo:Nat):Int)/\(sliceBounds lo hi none n).2.1=((HT.sIx n n hi:Nat):Int)/\(sliceBounds lo hi none n).2.2=1:=by
 refine⟨?_,?_,rfl⟩
 .cases lo with
  | none=>simp[sliceBounds,HT.sIx]
  | some i=>
   simp only[sliceBounds,HT.sIx,Option.getD_none,show(1:Int)>0 by decide,if_true]
   by_cases h:i<0
   .simp only[h,if_true]<;>omega
   .simp only[h,if_false]<;>omega
 .cases hi with
  | none=>simp[sliceBounds,HT.sIx]
  | some i=>
   simp only[sliceBounds,HT.sIx,Option.getD_none,show(1:Int)>0 by decide,if_true]
   by_cases h:i<0
   .simp only[h,if_true]<;>omega
   .simp only[h,if_false]<;>omega
theorem slicePick_cut(its:List Value)(lo hi:Option Int):slicePick its.toArray lo hi none=((its.drop (HT.sIx its.length 0 lo)).take (HT.sIx its.length its.length hi-HT.sIx its.length 0 lo)).toArray:=by
 obtain⟨h1,h2,h3⟩:=slice_bounds lo hi its.toArray.size
 unfold slicePick
 rw[h1,h2,h3]
 simp only[sliceRange_one,pick_run,List.size_toArray]<;>rfl
noncomputable def rSlL(K:PySem.W.Frag):V->Option Int->Option Int->Hp->VK->Prop:=fun x lo hi H Q=>∃a xs,x=.ref a/\SqL K H a xs/\∀p,H p=none->Q (.ref p) (upd H p (.lst (cutV xs lo hi)))
theorem sl_list:SlR X (rSlL X.K):=by
 intro pins s σ H x v vl vu lo hi sl Q I rx hs pl pu h
 obtain⟨a,xs,rfl,hx,q⟩:=h
 cases rx
 obtain⟨its,r,ht,hz⟩:=I.list hx
 have hlen:=r.length
 refine⟨"list",_,slot_list_getitem.lookup,ht.isList.typeIs,?_⟩
 refine wpAny_getItem_list_slice ht.isList hs pl pu .none (by simp) ?_ (by rw[List.size_toArray]<;>omega)
 rw[slicePick_cut,<-hlen]
 refine⟨.ref s.heap.objs.size,_,I.laid (t':=s.toks) (o:=.lst (cutV xs lo hi)) (fun b ob q=>Heap.get?_push_of_some _ q) (Nat.le_refl _) ?_,rfl,q _ (I.hok.fresh (Nat.le_refl _))⟩
 exact⟨Nat.le_trans (cutV_length xs lo hi) hz,_,0,(r.drop (HT.sIx xs.length 0 lo)).take (HT.sIx xs.length xs.length hi-HT.sIx xs.length 0 lo),Heap.get?_push_size _ rfl⟩
theorem op_notIn_str:OpR X (compareOp .NotIn) (fun x y H Q=>∃i j,x=.str i/\y=.str j/\Q (.bl (!(!(Builtin.Str.occurrences j i 0 j.length 1).isEmpty))) H):=by
 intro pins s σ H x y v u Q I rx ry h
 obtain⟨i,j,rfl,rfl,q⟩:=h
 obtain⟨t,rfl⟩:=rx
 obtain⟨t',rfl⟩:=ry
 exact notIn_str ⟨.bl _,H,I,rfl,q⟩
theorem call_len_seq:CallR X (.builtin "len") (fun xs H Q=>∃p ys,xs=[.ref p]/\(SqL X.K H p ys\/SqT X.K H p ys)/\Q (.int ys.length) H):=by
 intro pins s σ H xs us Q I r h
 obtain⟨p,ys,rfl,hq,q⟩:=h
 obtain⟨u,rfl,rx⟩:=vals1 r
 cases rx
 have hn:=line63
 rcases hq with hq|hq
 .obtain⟨its,r',pl,hz⟩:=I.list hq
  have hlen:=r'.length
  exact Calls.call_len_list pl.isList (by simp only[List.size_toArray]<;>omega) ⟨.int ys.length,H,I.tok _,⟨s.toks+1,by rw[List.size_toArray,hlen]⟩,q⟩
 .obtain⟨its,r',pl,hz⟩:=I.tuple hq
  have hlen:=r'.length
  exact len_tuple pl (by simp only[List.size_toArray]<;>omega) ⟨.int ys.length,H,I.tok _,⟨s.toks+1,by rw[List.size_toArray,hlen]⟩,q⟩
theorem call_len_str:CallR X (.builtin "len") (fun xs H Q=>∃z,xs=[.str z]/\z.length<=sizeLine/\Q (.int z.length) H):=by
 intro pins s σ H xs us Q I r h
 obtain⟨z,rfl,hz,q⟩:=h
 obtain⟨u,rfl,t,rfl⟩:=vals1 r
 have hn:=line63
 exact len_str (by omega) ⟨.int z.length,H,I.tok _,⟨_,rfl⟩,q⟩
theorem call_list_of:CallR X (.type "list") (fun xs H Q=>∃p ys,xs=[.ref p]/\(SqL X.K H p ys\/SqT X.K H p ys)/\∀l,H l=none->Q (.ref l) (upd H l (.lst ys))):=by
 intro pins s σ H xs us Q I r h
 obtain⟨p,ys,rfl,hq,q⟩:=h
 obtain⟨u,rfl,rx⟩:=vals1 r
 cases rx
 have fin:∀(its:List Value),Vals ys its->ys.length<=sizeLine->∀(h':Heap) (c':Nat),(∀b o',s.heap.get? b=some o'->h'.get? b=some o')->
   h'.get? s.heap.objs.size=some {cls:=.type "list",dict:=none,data:=.seq its.toArray c',slots:=#[]}->EP X pins σ Q (.ref s.heap.objs.size) {s with heap:=h'}:=fun its r' hz h' c' kp e=>
  ⟨.ref s.heap.objs.size,_,I.laid (t':=s.toks) kp (Nat.le_refl _) (show ObjOk X.prog X.w _ h' _ (.lst ys)from ⟨hz,its,c',r',e⟩),rfl,q _ (I.hok.fresh (Nat.le_refl _))⟩
 rcases hq with hq|hq
 .obtain⟨its,r',pl,hz⟩:=I.list hq
  have hlen:=r'.length
  obtain⟨o,ho,hc,n,hd⟩:=pl.isList
  exact call_list_seq p (.inl rfl) ho hc hd (fun h' c' kp e=>fin its r' hz h' c' kp e) (by simp only[List.size_toArray]<;>omega)
 .obtain⟨its,r',pl,hz⟩:=I.tuple hq
  have hlen:=r'.length
  obtain⟨o,ho,hc,n,hd⟩:=pl
  exact call_list_seq p (.inr rfl) ho hc hd (fun h' c' kp e=>fin its r' hz h' c' kp e) (by simp only[List.size_toArray]<;>omega)
theorem call_tuple_of:CallR X (.type "tuple") (fun xs H Q=>∃p ys,xs=[.ref p]/\((SqL X.K H p ys/\∀l,H l=none->Q (.ref l) (upd H l (.tup ys)))\/(SqT X.K H p ys/\Q (.ref p) H))):=by
 intro pins s σ H xs us Q I r h
 obtain⟨p,ys,rfl,h⟩:=h
 obtain⟨u,rfl,rx⟩:=vals1 r
 cases rx
 rcases h with ⟨hq,q⟩|⟨hq,q⟩
 .obtain⟨its,r',pl,hz⟩:=I.list hq
  have hlen:=r'.length
  refine call_tuple_list pl.isList (fun h' kp=>?_) (by simp only[List.size_toArray]<;>omega)
  have I1:Inv X pins σ H {s with heap:=h'}:=I.kept (t':=s.toks) kp
  have I2:Inv X pins σ (upd H h'.objs.size (.tup ys)) {s with heap:=h'.push {cls:=.type "tuple",data:=.seq its.toArray}}:=
   I1.laid (t':=s.toks) (fun b o e=>Heap.get?_push_of_some _ e) (Nat.le_refl _) (show ObjOk X.prog X.w _ _ _ (.tup ys)from ⟨hz,its,r',IsTup.new _ _⟩)
  exact⟨.ref h'.objs.size,_,I2,rfl,q _ (I1.hok.fresh (Nat.le_refl _))⟩
 .obtain⟨its,r',pl,hz⟩:=I.tuple hq
  exact call_tuple_same pl ⟨.ref p,H,I,rfl,q⟩
noncomputable def tyV(K:PySem.W.Frag)(T:String)(x:V)(H:Hp):Prop:=match x with
 | .str _=>T="str"
 | .int _=>T="int"
 | .ref p=>(T="list"/\∃xs,SqL K H p xs)\/(T="tuple"/\∃o,K.lookup p=some o/\o.cls=.type "tuple"/\o.dict=none)\/
   (T="dict"/\((∃kvs,H p=some (.dK kvs))\/∃kvs,H p=some (.dT kvs)))\/(T="set"/\∃S n,H p=some (.set S n))
 | _=>False
theorem tyV_is{pins:List (Addr×Obj)}{σ:St}{H:Hp}{s:Shared}{T:String}{x:V}{v:Value}(I:Inv X pins σ H s)(r:RelV x v)(ty:tyV X.K T x H) :
  s.TypeIs v T/\∀a,v=.ref a->∃ob,s.heap.get? a=some ob/\ob.dict=none:=by
 cases x with
 | str z=>
  obtain⟨t,rfl⟩:=r
  cases (show T="str" from ty)
  exact⟨typeIs_str s z t,fun _ e=>nomatch e⟩
 | int i=>
  obtain⟨t,rfl⟩:=r
  cases (show T="int" from ty)
  exact⟨typeIs_int s i t,fun _ e=>nomatch e⟩
 | ref p=>
  cases r
  rcases ty with ⟨rfl,xs,hq⟩|⟨rfl,o,hk,hc,hd⟩|⟨rfl,hk⟩|⟨rfl,S,n,hk⟩
  .obtain⟨its,_,pl,_⟩:=I.list hq
   refine⟨pl.isList.typeIs,fun a e=>?_⟩
   cases e
   obtain⟨o,n,e,c,hd,_⟩:=pl
   exact⟨o,e,hd⟩
  .refine⟨⟨o,I.kIn p o hk,hc⟩,fun a e=>?_⟩
   cases e
   exact⟨o,I.kIn _ o hk,hd⟩
  .have z:∃o,s.heap.get? p=some o/\o.ExactDict:=by
    rcases hk with ⟨kvs,hk⟩|⟨kvs,hk⟩
    .obtain⟨_,_,_,_,o,_,_,e,ex,_⟩:=I.hok p _ hk
     exact⟨o,e,ex⟩
    .obtain⟨_,_,_,_,o,_,_,e,ex,_⟩:=I.hok p _ hk
     exact⟨o,e,ex⟩
   obtain⟨o,e,ex⟩:=z
   refine⟨⟨o,e,ex.1⟩,fun a e2=>?_⟩
   cases e2
   exact⟨o,e,ex.2.1⟩
  .obtain⟨o,_,_,_,e,ex,_⟩:=I.hok p _ hk
   refine⟨⟨o,e,ex.1⟩,fun a e2=>?_⟩
   cases e2
   exact⟨o,e,ex.2.1⟩
 | _=>exact False.elim ty
noncomputable def tBM0(K:PySem.W.Frag)(T:String)(r:V->List V->Hp->VK->Prop)(to:TE):TE:=fun σ H Q=>to σ H fun x H1=>tyV K T x H1/\r x [] H1 Q
noncomputable def tBM(K:PySem.W.Frag)(T:String)(r:V->List V->Hp->VK->Prop)(to:TE)(t:TA):TE:=fun σ H Q=>to σ H fun x H1=>tyV K T x H1/\t σ H1 fun xs H2=>r x xs H2 Q
variable{o e:Expr}{es:List Expr}{to:TE}{t:TA}{name:Str}{apos cpos:Pos}{T id:String}{r:V->List V->Hp->VK->Prop}
theorem pe_bm0(pa:PlainAttrs T)(slot:Slot T name id)(hty:typeOf (.builtin id)=pure (.type "method_descriptor"))(hm:MtR X id r)(ho:PE X o to)
  (hbase:attributeBase o name X.env (eval o X.env)=eval o X.env:=by rfl) (hline:(apos.endLine==cpos.line)=true:=by rfl):PE X (.Call (.Attribute o name apos) [] [] cpos) (tBM0 X.K T r to):=by
 intro pins s σ H Q I h
 refine wpAny_Call_method0_late hbase hline (thn (ho pins s σ H _ I h) fun v s1 ⟨x,H1,I1,r1,ty,q1⟩=>?_)
 obtain⟨h1,h2⟩:=tyV_is I1 r1 ty
 exact⟨T,id,pa,slot,hty,h1,h2,Calls.callWith_builtin rfl (PySem.evalArgs_none (hm pins s1 σ H1 x [] v [] Q I1 r1 .nil q1))⟩
theorem pe_bm(pa:PlainAttrs T)(slot:Slot T name id)(hty:typeOf (.builtin id)=pure (.type "method_descriptor"))(hm:MtR X id r)(ho:PE X o to)(ha:PA X (e::es) t)
  (hbase:attributeBase o name X.env (eval o X.env)=eval o X.env:=by rfl)
  (hfew:((backTo cpos (starEach (e::es) X.env)).all (fun x=>!x.1)&&(backToKw cpos (keywordEach [] X.env)).all (fun x=>x.1.isSome)
   && decide ((e::es).length+([]:List Keyword).length+(if ([]:List Keyword).isEmpty then 0 else 1)<30))=true:=by rfl)
  (hline:(apos.endLine==cpos.line)=true:=by rfl) (hs:starEach (e::es) X.env=(false,eval e X.env)::starEach es X.env:=by rfl) (hplain:(backTo cpos (starEach es X.env)).any (·.1)=false:=by rfl) :
  PE X (.Call (.Attribute o name apos) (e::es) [] cpos) (tBM X.K T r to t):=by
 intro pins s σ H Q I h
 refine wpAny_Call_method_late hbase hfew hline rfl (thn (ho pins s σ H _ I h) fun v s1 ⟨x,H1,I1,r1,ty,q1⟩=>?_)
 obtain⟨h1,h2⟩:=tyV_is I1 r1 ty
 refine⟨T,id,pa,slot,hty,h1,h2,?_⟩
 have hA:=ha cpos pins s1 σ H1 _ I1 q1
 rw[hs]at hA⊢
 refine Calls.callWith_builtin (by show(false||(backTo cpos (starEach es X.env)).any (·.1))=false;rw[hplain]<;>rfl) (Calls.evalArgs_plain ?_)
 exact thn hA fun us s2 ⟨vs,H2,I2,r2,q2⟩=>hm pins s2 σ H2 x vs v us Q I2 r1 r2 q2
end
end L2
namespace L2
open PySem PySem.Spec PyProof.Rows
noncomputable def MtM(X:Cx)(id:String)(r:V->List V->Hp->VK->Prop):Prop:=
 ∀(pins:List (Addr×Obj)) (s:Shared) (σ:St) (H:Hp) (x:V) (xs:List V) (v:Value) (us:List Value) (Q:VK),Inv X pins σ H s->RelV x v->Vals xs us->r x xs H Q->
  wpAny (model X.prog X.w) X.A (call (.builtin id) (v::us)) (EP X pins σ Q) X.xe s
theorem Vals.one:∀{x:V} {us:List Value},Vals [x] us->∃u,us=[u]/\RelV x u
 | _,_,.cons r .nil=>⟨_,rfl,r⟩
theorem Vals.zero:∀{us:List Value},Vals [] us->us=[]
 | _,.nil=>rfl
section
variable{X:Cx}{pins:List (Addr×Obj)}{σ:St}{H:Hp}{s:Shared}{l b:Addr}{xs ys zs:List V}
theorem Inv.lset{its its':List Value}{n:Nat}{f:Array Value->Array Value}{t':Nat}(I:Inv X pins σ H s)(hH:H l=some (.lst xs))
  (e:s.heap.get? l=some {cls:=.type "list",data:=.seq its.toArray n}) (hf:f its.toArray=its'.toArray) (hv:Vals ys its') (hz:ys.length<=sizeLine) :
  Inv X pins σ (upd H l (.lst ys)) {s with heap:=s.heap.update l (Obj.mapSeq f),toks:=t'}:=by
 have q:=PySem.IsL.update e f
 rw[hf]at q
 refine I.write (x:=l) (e:=l) (by rw[hH];exact trivial) (.inl rfl) (fun b' u hb hu=>(Heap.get?_update_other s.heap (Obj.mapSeq f) (Ne.symm hb)).trans hu) ⟨_,q⟩ ?_
 exact⟨hz,its',_,hv,q⟩
theorem Inv.lnew{its:List Value}{t':Nat}(I:Inv X pins σ H s)(hv:Vals ys its)(hz:ys.length<=sizeLine) :
  Inv X pins σ (upd H s.heap.objs.size (.lst ys)) {s with heap:=s.heap.push {cls:=.type "list",data:=.seq its.toArray},toks:=t'}:=
 I.laid (fun _ _ q=>Heap.get?_push_of_some _ q) (Nat.le_refl _) ⟨hz,its,0,hv,Heap.get?_push_size _ rfl⟩
theorem Inv.fresh(I:Inv X pins σ H s):H s.heap.objs.size=none:=I.hok.fresh (Nat.le_refl _)
theorem Inv.lstM(I:Inv X pins σ H s)(hH:H l=some (.lst xs)):xs.length<=sizeLine/\∃(its:List Value) (n:Nat),Vals xs its/\xs.length=its.length/\s.heap.get? l=some {cls:=.type "list",data:=.seq its.toArray n}:=by
 obtain⟨z,its,n,r,e⟩:=I.hok l _ hH
 exact⟨z,its,n,r,r.length,e⟩
end
section
variable{X:Cx}
noncomputable def rAppend:V->List V->Hp->VK->Prop:=fun x vs H Q=>∃l xs y,x=.ref l/\vs=[y]/\H l=some (.lst xs)/\xs.length<sizeLine/\Q .non (upd H l (.lst (xs++[y])))
theorem mt_append:MtM X "list.append" rAppend:=by
 intro pins s σ H x vs v us Q I rx rv h
 obtain⟨l,xs,y,rfl,rfl,hH,hz,q⟩:=h
 cases rx
 obtain⟨u,rfl,ru⟩:=rv.one
 obtain⟨z,its,n,r,hl,e⟩:=I.lstM hH
 refine call_meets F.slot_list_append ⟨_,e,rfl⟩ F.entry_list_append (F.args_list_append_2 _ _) (PySem.list_append l its.toArray n u (by rw[List.size_toArray];omega)) ⟨e,?_⟩
 refine⟨.non,_,I.lset (its':=its++[u]) hH e (by simp) (r.append (.cons ru .nil)) ?_,rfl,q⟩
 rw[List.length_append,List.length_singleton]
 omega
noncomputable def rCat:R2:=fun x y H Q=>∃l b xs zs,x=.ref l/\y=.ref b/\H l=some (.lst xs)/\H b=some (.lst zs)/\xs.length+zs.length<=sizeLine/\∀p,H p=none->Q (.ref p) (upd H p (.lst (xs++zs)))
theorem op_cat:OpR X (binaryOp .Add) rCat:=by
 intro pins s σ H x y v u Q I rx ry h
 obtain⟨l,b,xs,zs,rfl,rfl,hH,hB,hz,q⟩:=h
 cases rx
 cases ry
 obtain⟨z,its,n,r,hl,e⟩:=I.lstM hH
 obtain⟨z2,its2,n2,r2,hl2,e2⟩:=I.lstM hB
 refine PySem.P.add_list e e2 ?_ (by rw[List.size_toArray,List.size_toArray];omega)
 have ea:its.toArray++its2.toArray=(its++its2).toArray:=by simp
 rw[ea]
 exact⟨.ref _,_,I.lnew (t':=s.toks) (r.append r2) (by rw[List.length_append];omega),rfl,q _ I.fresh⟩
end
end L2
namespace Att
open PySem PySem.W PySem.Calls PyProof.Rows
theorem ints_of_wellAll{P:Params}{h:Heap}:∀(ns:List Int) (vs:List Value),WellAll P h vs (ns.map WData.int)->IntsAre vs ns:=by
 intro ns
 induction ns with
 | nil=>
  intro vs w
  rw[List.map_nil]at w
  cases w
  exact .nil
 | cons n ns ih=>
  intro vs w
  rw[List.map_cons]at w
  cases w with
  | cons a b=>
   cases a
   exact .cons _ _ (ih _ b)
theorem script_of{l:OpenLaw}{n:Nat}(hn:l.most=some n){P:Params}{h:Heap}{args:List WData}{vals:List Value}
  (hpre:l.row.toRowW.claim.pre args=true) (hwl:WellAll P h vals args) :
  ∃a vs ns,vals=[Value.ref a]/\args=[WData.list (ns.map WData.int)]/\h.get? a=some {cls:=.type "list",data:=.seq vs.toArray}/\IntsAre vs ns/\ns.length<=n:=by
 have hsh:WShape.hasAll [] args [.list .int]=true:=(pre_splitW hpre).1
 have hc:l.pre.holds [] {args:=args}=true:=(pre_splitW hpre).2
 obtain⟨d,r,rfl,h1,h2⟩:=hasAllW_cons hsh
 obtain rfl:=hasAllW_nil h2
 obtain⟨xs,rfl,h3⟩:=hasW_list h1
 obtain⟨ns,rfl⟩:=items_int h3
 have hlen:ns.length<=n:=by
  unfold OpenLaw.pre at hc
  have h4:(WTm.not (.lt (.lit (.int (n:Int))) (.len (.arg 0)))).holds [] {args:=[.list (ns.map .int)]}=true:=by
   have h4:=(holds_andW hc).1
   rw[hn]at h4
   exact h4
  have h5:=condW_of h4 (w_not (w_lt w_lit (w_len_list (w_arg rfl))))
  rw[List.length_map]at h5
  refine Nat.le_of_not_lt fun q=>?_
  have q':(n:Int)<((ns.length:Nat):Int):=by omega
  first
   | (rw[decide_eq_true q']at h5;exact absurd h5 (by decide))
   | (simp at h5;omega)
 cases hwl with
 | cons w1 w2=>
  cases w2
  cases w1 with
  | list ho hall=>exact⟨_,_,ns,rfl,rfl,ho,ints_of_wellAll ns _ hall,hlen⟩
theorem post_true(l:OpenLaw)(args:List WData):l.row.toRowW.claim.post args (.bool true) args=true:=
 postW_of (r:=l.row.toRowW) (X:=(true==true))
  (show WShape.has [] (.bool true) .bool=true by first|rfl|decide|simp[WShape.has,WShape.arms,WShape.armsAll])
  (show(WTm.eq .res (.lit (.bool true))).value [] {args:=args,res:=some (.bool true),after:=args}=some (.bool (true==true))from w_eq_bool (w_res rfl) w_lit) rfl
theorem attach_call{l:OpenLaw}{n:Nat}{q:Program}{loose:List Str}{XP:(Str->Option Value)->Heap->Prop}{YP:World->Heap->Prop}{d:DefRec}
  (hn:l.most=some n) (hdf:d.params.defaults=[])
  (call:∀(w:World) (s₀ s₁:Shared) (mg mb:Str->Option Value) (fa:Addr) (o:Obj) (pm cd doc:Value) (a:Addr) (vs:List Value) (ns:List Int),
   Ground q loose [] XP w s₀ mg mb s₁.heap->YP w s₁.heap->
   s₁.heap.get? fa=some o->o.data=.func (docDef d.name d.params d.body d.scope pm cd doc)->s₁.heap.CodeRec cd d.name->mg d.name=some (.ref fa)->
   s₁.heap.get? a=some {cls:=.type "list",data:=.seq vs.toArray}->IntsAre vs ns->ns.length<=n->s₁.gens=#[]->
   codeAny (model l.prog w) callerA (.call (.ref fa) ⟨[.ref a],[]⟩) (fun r s'=>r=.ok (.ret (.bool true))/\OldK s₁.heap s'.heap/\s'.os=s₁.os/\AllBare s'.gens) s₁) :
  WalkO q loose XP YP l.row.toRowW d [] (fun f vs=>PySem.call f vs):=by
 intro w s₀ s₁ mg mb G Y fa o pm cd doc dV kV ho hd hcd hD hmg hg args vals as hpre hlay hrd hwl hlo
 obtain rfl:dV=.none:=Dflts.none hD hdf
 obtain rfl:kV=.none:=Dflts.noKw hD
 obtain⟨a,vs,ns,rfl,rfl,hobj,hints,hlen⟩:=script_of hn hpre hwl
 refine enter_call (codeAny_mono (call w s₀ s₁ mg mb fa o pm cd doc a vs ns G Y ho (fd_plain hd) hcd hmg hobj hints hlen hg) fun r s' hq=>?_)
 obtain⟨rfl,h2,h3,h4⟩:=hq
 exact⟨.inl ⟨.bool true,.bool true,[],rfl,fun _=>rfl,.bool true,post_true l _,fun _=>⟨List.Pairwise.nil,fun _ hm=>(nomatch hm)⟩⟩,h2,h3,h4⟩
end Att
namespace L2
open PySem PySem.Spec PyProof.Rows
theorem vals_ints:∀{vs:List Value} {ns:List Int},IntsAre vs ns->Vals (ns.map V.int) vs
 | _,_,.nil=>.nil
 | _,_,.cons n t h=>.cons ⟨t,rfl⟩ (vals_ints h)
noncomputable def Only(H:Hp):Prop:=∀b,H b=none\/∃o xs,H b=some (.frz o (.lst xs))
theorem law_call{P:Program}{w:World}{K:PySem.W.Frag}{mg mb:Str->Option Value}{CX:CXT}{k:Nat}{fa a:Addr}{fd:FuncData}{x:Str}{sp:Sp}{s₁:Shared}{vs:List Value}{ns:List Int}
  (KX:K.In s₁.heap) (hns:s₁.heap.Ns mainGlobals mg) (hb:s₁.heap.Ns builtinsNs mb) (hbb:∀x:Str,x≠"__name__"->mb x=bootBuiltins x) (hlim:s₁.heap.NoLimit) (hg:s₁.gens=#[])
  (ha:s₁.heap.get? a=some {cls:=.type "list",data:=.seq vs.toArray}) (hi:IntsAre vs ns) (hl:ns.length<=sizeLine) (hr:Room k callerA)
  (F:∀base:Heap,K.In base->base.Ns mainGlobals mg->FnOk P w K mg base CX k fa fd [x] sp) (hbind:∀(s:Shared) (u:Value),BindsTo s fd ⟨[u],[]⟩ [(x,u)])
  (hsp:∀H:Hp,Only H->SqL K H a (ns.map V.int)->sp [.ref a] H (fun v _=>v=.bl true) fun _ _ _=>False)
  (hCX:∀H e s',CX [] H s₁ (fun _ _ _=>False) e s'->False) :
  codeAny (model P w) callerA (.call (.ref fa) ⟨[.ref a],[]⟩) (fun r s'=>r=.ok (.ret (.bool true))/\OldK s₁.heap s'.heap/\s'.os=s₁.os/\AllBare s'.gens) s₁:=by
 have rv:=vals_ints hi
 have lenV:=hi.length
 have core:∀H:Hp,Only H->SqL K H a (ns.map V.int)->HOk P w H s₁.heap->(∀b,H b≠none->b=a)->(H a≠none->K.lookup a=none)->
   codeAny (model P w) callerA (.call (.ref fa) ⟨[.ref a],[]⟩) (fun r s'=>r=.ok (.ret (.bool true))/\OldK s₁.heap s'.heap/\s'.os=s₁.os/\AllBare s'.gens) s₁:=by
  intro H hO hS hok hA hK
  have base_of:∀{b:Addr} {o:Obj},s₁.heap.get? b=some o->H b=none->(hidT s₁.heap H).get? b=some o:=fun e n=>hidT_get e n
  have noA:∀{b:Addr} {o:Obj} {es:Array DictEntry} {ep:Nat},s₁.heap.get? b=some o->o.data=.dict es ep->H b=none:=fun{b o es ep} e d=>by
   cases q:H b with
   | none=>rfl
   | some u=>
    have e':b=a:=hA b (by rw[q];simp)
    subst e'
    rw[ha]at e;cases e
    have d':Data.seq vs.toArray _=Data.dict es ep:=d
    cases d'
  have nsK:∀{b:Addr} {m:Str->Option Value},s₁.heap.Ns b m->(hidT s₁.heap H).Ns b m:=fun{b m} ⟨o,es,ep,e,d,r⟩=>⟨o,es,ep,base_of e (noA e d),d,r⟩
  have hKb:K.In (hidT s₁.heap H):=fun b o e=>base_of (KX b o e) (by
   cases q:H b with
   | none=>rfl
   | some u=>
    have e':b=a:=hA b (by rw[q];simp)
    subst e'
    rw[hK (by rw[q];simp)]at e;cases e)
  have hM:Mod K mg (hidT s₁.heap H):=⟨hKb,nsK hns,⟨mb,nsK hb,hbb⟩,let ⟨mc,h1,h2⟩:=hlim;⟨mc,nsK h1,h2⟩⟩
  have e0:Env0 P w K mg (hidT s₁.heap H) callerA [] s₁ H:=⟨rfl,hM,fun b o e=>of_hidT e,Nat.le_of_eq (hidT_size _ _),trivial,fun b hb=>absurd (show b∈([]:List Addr)from hb) (by simp),hok,.of_eq hg⟩
  refine codeAny_mono ((F _ hKb (nsK hns)).run callerA [] s₁ H ⟨[.ref a],[]⟩ [.ref a] [.ref a] _ _ hr e0 (hbind s₁ (.ref a)) (.cons rfl .nil) (hsp H hO hS)) fun r s' h=>?_
  cases r with
  | error e=>exact(hCX H e s' h).elim
  | ok fl=>
   cases fl with
   | next=>exact False.elim h
   | brk=>exact False.elim h
   | cont=>exact False.elim h
   | ret u=>
    obtain⟨v,H',os,bare,un,hok',r',q⟩:=h
    have q':v=.bl true:=q
    subst q'
    obtain rfl:u=Value.bool true:=r'
    refine⟨rfl,OldK.of_keep fun b o e=>?_,os,bare⟩
    cases q:H b with
    | none=>exact un.keep b o e q (by intro z;exact absurd (show b∈([]:List Addr)from z) (by simp)) (by simp)
    | some u=>
     rcases hO b with z|⟨ob,xs,z⟩
     .rw[q]at z;cases z
     .have z2:=un.frzs b ob _ z
      obtain⟨e1,_⟩:=hok b _ z
      obtain⟨e2,_⟩:=hok' b _ z2
      rw[e]at e1;cases e1
      exact e2
 cases hk:K.lookup a with
 | some o=>
  have e:=KX a o hk
  rw[ha]at e
  cases e
  refine core (fun _=>none) (fun _=>.inl rfl) (.inr ⟨_,vs.toArray,_,hk,rfl,rfl,rfl,by rw[List.size_toArray,lenV];exact hl,by simpa using rv⟩) (fun b u z=>by have z':(none:Option HO)=some u:=z;cases z') (fun b z=>absurd rfl z) fun z=>absurd rfl z
 | none=>
  refine core (fun b=>if b=a then some (.frz {cls:=.type "list",data:=.seq vs.toArray} (.lst (ns.map V.int)))else none) (fun b=>?_) (.inl (.inr ⟨{cls:=.type "list",data:=.seq vs.toArray},if_pos rfl⟩)) (fun b u z=>?_) (fun b z=>?_) fun _=>hk
  .by_cases hb:b=a
   .exact .inr ⟨_,_,if_pos hb⟩
   .exact .inl (if_neg hb)
  .by_cases hb:b=a
   .have z':=(if_pos hb).symm.trans z
    cases z'
    subst hb
    exact⟨ha,by rw[List.length_map];exact hl,vs,_,rv,ha⟩
   .have z':=(if_neg hb).symm.trans z
    cases z'
  .by_cases hb:b=a
   .exact hb
   .exact absurd (if_neg hb) z
end L2
namespace L2
open PySem PySem.Spec PyProof.Rows
theorem walk_of{l:PySem.W.OpenLaw}{n k:Nat}{q:Program}{loose:List Str}{XP:(Str->Option Value)->Heap->Prop}{YP:World->Heap->Prop}{d:DefRec}{K:Params->PySem.W.Frag}{CX:World->CXT}{sp:World->Sp}{x:Str}
  (hn:l.most=some n) (hn2:n<=sizeLine) (hdf:d.params.defaults=[]) (hr:Room k callerA)
  (hY:∀(w:World) (h:Heap),YP w h->(K w.params).In h)
  (F:∀(w:World) (mg:Str->Option Value) (fa:Addr) (h:Heap),(K w.params).In h->h.Ns mainGlobals mg->mg d.name=some (.ref fa)->
   ∃fd:FuncData,(∀(s:Shared) (u:Value),BindsTo s fd ⟨[u],[]⟩ [(x,u)])/\
    ∀base:Heap,(K w.params).In base->base.Ns mainGlobals mg->FnOk l.prog w (K w.params) mg base (CX w) k fa fd [x] (sp w))
  (hsp:∀(w:World) (H:Hp) (a:Addr) (ns:List Int),ns.length<=n->Only H->SqL (K w.params) H a (ns.map V.int)->sp w [.ref a] H (fun v _=>v=.bl true) fun _ _ _=>False)
  (hCX:∀(w:World) (H:Hp) (s:Shared) (e:Value) (s':Shared),CX w [] H s (fun _ _ _=>False) e s'->False) :
  PySem.W.WalkO q loose XP YP l.row.toRowW d [] (fun f vs=>PySem.call f vs):=by
 refine Att.attach_call hn hdf fun w s₀ s₁ mg mb fa o pm cd doc a vs ns G Y ho hd hcd hmg hobj hints hlen hg=>?_
 have KX:=hY w _ Y
 obtain⟨fd,hb,hF⟩:=F w mg fa _ KX G.T.g hmg
 exact law_call KX G.T.g G.T.b G.T.builtins G.T.nolimit hg hobj hints (Nat.le_trans hlen hn2) hr hF hb (fun H hO hS=>hsp w H a ns hlen hO hS) fun H e s'=>hCX w H s₁ e s'
end L2
namespace L2
open PySem PySem.Spec PyProof.Rows
noncomputable def defArgs(s:Stmt):Arguments:=match s with
 | .FunctionDef _ a _ _ _ _ _ _ _ _=>a
 | _=>{posonlyargs:=[],args:=[],vararg:=none,kwonlyargs:=[],kw_defaults:=[],kwarg:=none,defaults:=[]}
noncomputable def defBody(s:Stmt):List Stmt:=match s with
 | .FunctionDef _ _ b _ _ _ _ _ _ _=>b
 | _=>[]
noncomputable def defScope(s:Stmt):Scope:=match s with
 | .FunctionDef _ _ _ _ _ _ sc _ _ _=>sc
 | _=>{kind:=.function,names:=[],isGenerator:=false,isCoroutine:=false}
noncomputable abbrev CX0:CXT:=fun _ _ _ _ _ _=>False
noncomputable abbrev E0:XK:=fun _ _ _=>False
theorem pass0{X:Cx}:Passes CX0 X E0:=fun _ _ _ _ _ _ _ h=>h.elim
structure Fun(K:PySem.W.Frag)(x qual:Str)(st:Stmt)(f:Addr)(fd:FuncData):Prop where
 ex:∃(oc:Value) (od:Option Addr) (kV doc pm:Value) (an:Option Addr) (cdv ct:Value) (osl:Array (Option Value)),
  fd=PySem.W.fnOf x qual (defArgs st) (defBody st) (defScope st) .none kV doc pm an cdv ct/\K.lookup f=some ⟨oc,od,.func fd,osl⟩/\PySem.W.codeIn K cdv qual=true
 kp:PySem.W.keepIn K (.ref f)=true
section
variable{P:Program}{w:World}{K:PySem.W.Frag}{mg:Str->Option Value}{base:Heap}
theorem Fun.ok{x qual:Str}{st:Stmt}{f:Addr}{fd:FuncData}{N ps:List Str}{k:Nat}{sp:Sp}(F:Fun K x qual st f fd)(S:FnScope N ps (defScope st))(len:∀vs H Q E,sp vs H Q E->vs.length=ps.length)
  (hbody:∀(cdv:Value) (A:Around) (outer:List Env) (s:Shared) (H:Hp) (vs:List V) (Q:VK) (E:XK),Room k (A.deeper (envOfC qual (defScope st) s.heap.objs.size f cdv))->sp vs H Q E->
   ∃t,PSs (cxOf CX0 P w K mg base N qual (defScope st) f cdv A outer s H E).nox (defBody st) t/\t {nx:=fun _ H'=>Q .non H',rt:=Q} (start N vs) H):FnOk P w K mg base CX0 (k+1) f fd ps sp:=by
 obtain⟨oc,od,kV,doc,pm,an,cdv,ct,osl,rfl,lk,hcd⟩:=F.ex
 refine fn_of lk hcd S len fun A outer s H vs Q E hr hsp=>?_
 obtain⟨t,h,q⟩:=hbody cdv A outer s H vs Q E hr hsp
 exact⟨t,h.nox,q⟩
theorem Fun.binds{x qual:Str}{st:Stmt}{f:Addr}{fd:FuncData}{ps:List Str}(F:Fun K x qual st f fd)
  (h:∀(kV doc pm:Value) (an:Option Addr) (cdv ct:Value) (us:List Value),us.length=ps.length->bindArgs (PySem.W.fnOf x qual (defArgs st) (defBody st) (defScope st) .none kV doc pm an cdv ct) ⟨us,[]⟩=pure (ps.zip us)):Binds K fd ps []:=by
 obtain⟨oc,od,kV,doc,pm,an,cdv,ct,osl,rfl,lk,hcd⟩:=F.ex
 exact .all (h kV doc pm an cdv ct)
theorem fun_mk{x qual:Str}{st:Stmt}{f:Addr}{oc:Value}{od an:Option Addr}{osl:Array (Option Value)}{kV doc pm cdv ct:Value}(l:K.lookup f=some ⟨oc,od,.func (PySem.W.fnOf x qual (defArgs st) (defBody st) (defScope st) .none kV doc pm an cdv ct),osl⟩)
  (c:PySem.W.codeIn K cdv qual=true) (k:PySem.W.keepIn K (.ref f)=true):Fun K x qual st f (PySem.W.fnOf x qual (defArgs st) (defBody st) (defScope st) .none kV doc pm an cdv ct):=⟨⟨oc,od,kV,doc,pm,an,cdv,ct,osl,rfl,l,c⟩,k⟩
end
theorem small1000{n:Nat}(h:n<=1000):n<sizeLine:=Nat.lt_of_le_of_lt h (by decide)
section
variable{X:Cx}
theorem pv(i:Nat){x:Str}{pos:Pos}(hN:X.N[i]?=some x:=by rfl)(hv:Vis X.env.scope x:=by first|exact Or.inl rfl|exact Or.inr (Or.inl rfl)|exact Or.inr (Or.inr rfl))(hd:(x==("__debug__" : Str))=false:=by decide)
  (hcd:(x==("__classdict__" : Str))=false:=by decide):PE X (.Name x pos) (tVar i):=pe_var hN hv hd hcd
end
theorem iteF{A B:Prop}(h:B):if false=true then A else B:=by
 rw[if_neg Bool.false_ne_true]
 exact h
theorem iteT{A B:Prop}(h:A):if true=true then A else B:=by
 rw[if_pos rfl]
 exact h
theorem ite2{c A B:Prop}[Decidable c](h1:c->A)(h2:¬c->B):if c then A else B:=by
 by_cases h:c
 .rw[if_pos h]
  exact h1 h
 .rw[if_neg h]
  exact h2 h
noncomputable def Same(H H':Hp):Prop:=∀b o,H b=some o->H' b=some o
theorem Same.refl(H:Hp):Same H H:=fun _ _ h=>h
theorem Same.trans{H H1 H2:Hp}(a:Same H H1)(b:Same H1 H2):Same H H2:=fun c o h=>b c o (a c o h)
theorem Same.free{H H':Hp}(e:Same H H'){l:Addr}(h:H' l=Option.none):H l=Option.none:=by
 cases q:H l with
 | none=>rfl
 | some o=>
  rw[e l o q]at h
  cases h
end L2
namespace L3
open PySem PySem.Spec PyProof.Rows L2
structure CZ where
 cl:List (Str×Addr)
 C:Addr
 s:Shared
 H:Hp
 ex:List Addr
noncomputable def cxComp(X:Cx)(N:List Str)(scope:Scope)(z:CZ):Cx where
 prog:=X.prog
 w:=X.w
 K:=X.K
 mg:=X.mg
 base:=X.base
 A:=X.A
 N:=N
 s₀:=z.s
 H₀:=z.H
 env:=compEnvC scope z.cl z.C X.env
 outer:=X.stack
 stack:=X.stack
 ex:=z.ex
 calm:=X.calm
 fn:=fun _=>false
 pn:=[]
 xe:=fun _ _=>False
noncomputable def clFrom(cells:List (Str×Addr)):List (Str×NameKind)->List (Str×Addr)->List (Str×Addr)
 | [],cs=>cs
 | (n,k)::r,cs=>if (k==NameKind.free)=true then(match cells.lookup n with|some c=>clFrom cells r ((n,c)::cs)|none=>clFrom cells r cs)else clFrom cells r cs
theorem closureFor_eq{scope:Scope}{env:Env}(h:∀x∈scope.names,x.2=.free->∃c,env.cells.lookup x.1=some c):closureFor scope env=pure (clFrom env.cells scope.names []):=by
 have go:∀(l:List (Str×NameKind)) (cs:List (Str×Addr)),(∀x∈l,x.2=.free->∃c,env.cells.lookup x.1=some c)->
   (forIn l cs fun(x:Str×NameKind) (cs:List (Str×Addr))=>if (x.2==NameKind.free)=true then do let a <-cellOf env x.1;pure (ForInStep.yield ((x.1,a)::cs))else pure (ForInStep.yield cs):Sem (List (Str×Addr)))=pure (clFrom env.cells l cs):=by
  intro l
  induction l with
  | nil=>intro cs _;rfl
  | cons x r ih=>
   intro cs hx
   obtain⟨n,k⟩:=x
   rw[List.forIn_cons]
   have ih':=fun cs=>ih cs fun y hy=>hx y (List.mem_cons_of_mem _ hy)
   unfold clFrom
   dsimp only
   by_cases hk:(k==NameKind.free)=true
   .obtain⟨c,hc⟩:=hx (n,k) List.mem_cons_self (by simpa using hk)
    rw[if_pos hk,if_pos hk]
    simp only at hc
    simp only[cellOf,hc,pure_bind]
    exact ih' _
   .rw[if_neg hk,if_neg hk]
    simp only[pure_bind]
    exact ih' _
 unfold closureFor
 have e:=go scope.names [] h
 simp only[bind_pure]at e⊢
 exact e
theorem clFrom_of{cells:List (Str×Addr)}{x:Str}{c:Addr}:∀{l:List (Str×NameKind)} {cs:List (Str×Addr)},(clFrom cells l cs).lookup x=some c->cells.lookup x=some c\/cs.lookup x=some c
 | [],cs,h=>.inr h
 | (n,k)::r,cs,h=>by
  unfold clFrom at h
  split at h
  .split at h
   .rename_i c0 e
    rcases clFrom_of h with q|q
    .exact .inl q
    .rw[List.lookup_cons]at q
     split at q
     .rename_i hx
      have hx':x=n:=by simpa using hx
      cases q
      rw[hx']
      exact .inl e
     .exact .inr q
   .exact clFrom_of h
  .exact clFrom_of h
theorem clFrom_keeps{cells:List (Str×Addr)}{x:Str}:∀{l:List (Str×NameKind)} {cs:List (Str×Addr)},(∃c,cs.lookup x=some c)->∃c,(clFrom cells l cs).lookup x=some c
 | [],cs,h=>h
 | (n,k)::r,cs,h=>by
  unfold clFrom
  split
  .split
   .refine clFrom_keeps ?_
    rw[List.lookup_cons]
    split
    .exact⟨_,rfl⟩
    .exact h
   .exact clFrom_keeps h
  .exact clFrom_keeps h
theorem clFrom_has{cells:List (Str×Addr)}{x:Str}:∀{l:List (Str×NameKind)} {cs:List (Str×Addr)},(x,NameKind.free)∈l->(∃c,cells.lookup x=some c)->∃c,(clFrom cells l cs).lookup x=some c
 | (n,k)::r,cs,hm,h=>by
  unfold clFrom
  rcases List.mem_cons.mp hm with e|hm
  .cases e
   obtain⟨c,hc⟩:=h
   rw[if_pos (show(NameKind.free==NameKind.free)=true from rfl),hc]
   refine clFrom_keeps ?_
   rw[List.lookup_cons]
   simp
  .split
   .split
    .exact clFrom_has hm h
    .exact clFrom_has hm h
   .exact clFrom_has hm h
theorem relabel_vis{scope:Scope}{env:Env}{x:Str}(hnc:∀y∈scope.names,y.2≠.cell)(h:(relabel scope env).names.lookup x=some .cell\/(relabel scope env).names.lookup x=some .free):(x,NameKind.free)∈scope.names:=by
 rcases h with h|h
 .have hm:=PySem.mem_of_lookup h
  obtain⟨⟨n,k⟩,hy,e⟩:=List.mem_map.mp hm
  dsimp only at e
  split at e
  .rename_i hc
   simp only[Bool.and_eq_true,beq_iff_eq]at hc
   cases e
   rw[hc.1.1]at hy
   exact hy
  .cases e
   exact absurd rfl (hnc _ hy)
 .have hm:=PySem.mem_of_lookup h
  obtain⟨⟨n,k⟩,hy,e⟩:=List.mem_map.mp hm
  dsimp only at e
  split at e
  .cases e
  .cases e
   exact hy
theorem relabel_free{env:Env}:∀{names:List (Str×NameKind)} {x:Str},names.lookup x=some .free->
  ((names.map fun(n,k)=>if (k==NameKind.free&&env.scope.kind==.function&&env.kindOf n==some .cell)then(n,NameKind.cell)else(n,k)).lookup x=some .cell\/
   (names.map fun(n,k)=>if (k==NameKind.free&&env.scope.kind==.function&&env.kindOf n==some .cell)then(n,NameKind.cell)else(n,k)).lookup x=some .free)
 | [],_,h=>by simp at h
 | (n,k)::r,x,h=>by
  have ih:=@relabel_free env r x
  show(List.lookup x ((if (k==NameKind.free&&env.scope.kind==.function&&env.kindOf n==some .cell)=true then(n,NameKind.cell)else(n,k))::_)=_)\/(List.lookup x ((if (k==NameKind.free&&env.scope.kind==.function&&env.kindOf n==some .cell)=true then(n,NameKind.cell)else(n,k))::_)=_)
  cases hx:x==n with
  | true=>
   simp only[List.lookup_cons,hx]at h
   cases h
   by_cases hc:((NameKind.free:NameKind)==NameKind.free&&env.scope.kind==.function&&env.kindOf n==some .cell)=true
   .rw[if_pos hc];left;simp only[List.lookup_cons,hx]
   .rw[if_neg hc];right;simp only[List.lookup_cons,hx]
  | false=>
   simp only[List.lookup_cons,hx]at h
   by_cases hc:(k==NameKind.free&&env.scope.kind==.function&&env.kindOf n==some .cell)=true
   .rw[if_pos hc];simp only[List.lookup_cons,hx];exact ih h
   .rw[if_neg hc];simp only[List.lookup_cons,hx];exact ih h
noncomputable def picks(sl:List (Option Nat))(σ:L2.St):L2.St:=sl.map fun o=>o.bind fun j=>(σ[j]?).getD none
noncomputable def slOk(N N':List Str)(sl:List (Option Nat))(sc osc:Scope):Bool:=
 sl.length==N'.length&&(List.zip N' sl).all fun p=>match p.2 with
  | none=>true
  | some j=>N[j]?==some p.1&&sc.names.lookup p.1==some .free&&(osc.names.lookup p.1==some .cell||osc.names.lookup p.1==some .free)
theorem slOk.len{N N':List Str}{sl:List (Option Nat)}{sc osc:Scope}(h:slOk N N' sl sc osc=true):sl.length=N'.length:=by
 unfold slOk at h
 rw[Bool.and_eq_true]at h
 simpa using h.1
theorem slOk.at{N N':List Str}{sl:List (Option Nat)}{sc osc:Scope}(h:slOk N N' sl sc osc=true){k j:Nat}{x:Str}(h1:N'[k]?=some x)(h2:sl[k]?=some (some j)) :
  N[j]?=some x/\sc.names.lookup x=some .free/\(osc.names.lookup x=some .cell\/osc.names.lookup x=some .free):=by
 unfold slOk at h
 rw[Bool.and_eq_true,List.all_eq_true]at h
 have hm:(x,some j)∈List.zip N' sl:=by
  refine List.mem_of_getElem? (i:=k) ?_
  rw[List.getElem?_zip_eq_some]
  exact⟨h1,h2⟩
 have q:=h.2 _ hm
 simp only[Bool.and_eq_true,Bool.or_eq_true,beq_iff_eq]at q
 exact⟨q.1.1,q.1.2,q.2⟩
noncomputable def frOk(sc osc:Scope):Bool:=sc.names.all fun x=>!(x.2==.free)||(osc.names.lookup x.1==some .cell||osc.names.lookup x.1==some .free)
theorem frOk.of{sc osc:Scope}(h:frOk sc osc=true):∀x∈sc.names,x.2=.free->osc.names.lookup x.1=some .cell\/osc.names.lookup x.1=some .free:=fun x hx e=>by
 have q:=List.all_eq_true.mp h x hx
 rw[e]at q
 simp only[beq_self_eq_true,Bool.not_true,Bool.false_or,Bool.or_eq_true,beq_iff_eq]at q
 exact q
noncomputable def Agree(σ σ':L2.St):Prop:=σ'.length=σ.length/\∀(i:Nat) v,σ[i]?=some (some v)->σ'[i]?=some (some v)
theorem Agree.refl(σ:L2.St):Agree σ σ:=⟨rfl,fun _ _ h=>h⟩
theorem Agree.set{σ σ':L2.St}(a:Agree σ σ'){i:Nat}{v:Option V}(h:σ[i]?=some none):Agree σ (σ'.set i v):=by
 refine⟨by rw[List.length_set];exact a.1,fun j w e=>?_⟩
 by_cases hij:i=j
 .subst hij;rw[h]at e;cases e
 .rw[List.getElem?_set_ne hij];exact a.2 j w e
section
variable{fs ex:List Addr}{H H':Hp}{h h1 h2:Heap}{C:Addr}
theorem Un.but(u:Un fs ex H H' h h1)(hC:h.get? C=none)(sb:∀b o,b≠C->h1.get? b=some o->h2.get? b=some o):Un fs ex H H' h h2 where
 keep:=fun b o e n hb hx=>sb b o (by rintro rfl;rw[hC]at e;cases e) (u.keep b o e n hb hx)
 slot:=fun b o e n hb hx=>by
  obtain⟨sl,q⟩:=u.slot b o e n hb hx
  exact⟨sl,sb b _ (by rintro rfl;rw[hC]at e;cases e) q⟩
 free:=u.free
 there:=fun b o e hx=>by
  obtain⟨o',q⟩:=u.there b o e hx
  exact⟨o',sb b o' (by rintro rfl;rw[hC]at e;cases e) q⟩
 tups:=u.tups
 frzs:=u.frzs
 tbls:=u.tbls
theorem HOk.but{P:Program}{w:World}(x:HOk P w H h1)(hC:H C=none)(sb:∀b o,b≠C->h1.get? b=some o->h2.get? b=some o):HOk P w H h2:=fun a o e=>
 (x a o e).stay (fun b u hc q=>sb b u (by
  rintro rfl
  rcases hc with hc|hc
  .rw[<-hc,hC]at e;cases e
  .rw[hC]at hc;cases hc) q) (fun _ q=>q) fun _ _ q=>q
end
theorem comp_start{X:Cx}{pins:List (Addr×Obj)}{σ:L2.St}{H:Hp}{s:Shared}(I:Inv X pins σ H s){scope:Scope}{N':List Str}{sl:List (Option Nat)}{fp:List Addr}{h₁:Heap}{m:Str->Option Value}{tk:Nat}
  (hk:scope.kind=.function) (hnc:∀y∈scope.names,y.2≠.cell) (hfree:∀x∈scope.names,x.2=.free->X.env.scope.names.lookup x.1=some .cell\/X.env.scope.names.lookup x.1=some .free)
  (hsl:slOk X.N N' sl scope X.env.scope=true) (hfp:∀b∈fp,FpOk X pins H b) (hlt:∀b∈fp,b<s.heap.objs.size)
  (hns:h₁.Ns s.heap.objs.size m) (hkeep:∀b o,s.heap.get? b=some o->h₁.get? b=some o) :
  Inv (cxComp X N' scope ⟨clFrom X.env.cells scope.names [],s.heap.objs.size,s,H,fp⟩) [] (picks sl σ) H {s with heap:=h₁,toks:=tk}:=by
 have cof:∀x c,(clFrom X.env.cells scope.names []).lookup x=some c->X.env.cells.lookup x=some c:=fun x c e=>by
  rcases clFrom_of e with q|q
  .exact q
  .cases q
 have has:∀x,(x,NameKind.free)∈scope.names->∃c,(clFrom X.env.cells scope.names []).lookup x=some c:=fun x hx=>
  clFrom_has hx (I.ok.has x (hfree _ hx rfl))
 refine⟨⟨I.ok.mod,hk,I.ok.glob,I.ok.blt,Nat.le_refl _,fun x y c h1 h2=>I.ok.inj x y c (cof x c h1) (cof y c h2),fun x hx=>has x (relabel_vis hnc hx),fun x c hf _=>absurd hf Bool.false_ne_true,I.ok.hd,I.ok.frames,.inl rfl,
   fun b hb=>⟨Nat.ne_of_lt (hlt b hb),fun x c e=>(hfp b hb).2.2.2.2.1 x c (cof x c e)⟩,I.bs,Nat.le_trans I.ok.bsz I.sz,fun b o e hb=>?_,fun b hb hz=>?_,I.stack,I.stkFree⟩,
  rfl,I.bare,Un.kept hkeep,⟨m,hns,fun i x v h1 h2 _=>?_⟩,fun x c e=>?_,I.hok.fresh (Nat.le_refl _),fun x c e=>I.freeC x c (cof x c e),fun p hp=>absurd (show p∈([]:List (Addr×Obj))from hp) (by simp),I.hok.kept hkeep,?_⟩
 .rcases(hfp b hb).2.2.2.1 with z|z
  .exact I.ok.noex b o e z
  .exact absurd (Nat.lt_of_lt_of_le (Heap.lt_size (I.ok.bs b o e).1) z) (Nat.lt_irrefl _)
 .rcases List.mem_cons.mp (I.stkSub b hz)with z|z
  .exact(hfp b hb).2.1 z
  .exact(hfp b hb).2.2.1 z
 .have h2':(picks sl σ)[i]?=some (some v):=h2
  unfold picks at h2'
  rw[List.getElem?_map]at h2'
  cases q:sl[i]? with
  | none=>rw[q]at h2';cases h2'
  | some o=>
   rw[q]at h2'
   cases o with
   | none=>cases h2'
   | some j=>
    have e:(σ[j]?).getD none=some v:=by simpa using h2'
    have e2:σ[j]?=some (some v):=by
     cases r:σ[j]? with
     | none=>rw[r]at e;cases e
     | some w=>rw[r]at e;simp at e;rw[e]
    obtain⟨a1,a2,a3⟩:=slOk.at hsl h1 q
    obtain⟨mo,_,hl⟩:=I.loc
    obtain⟨u,r,l⟩:=hl j x v a1 e2 (.inr a3)
    refine⟨u,r,.inr ⟨relabel_free a2,?_⟩⟩
    have a4:X.env.kindOf x=some .cell\/X.env.kindOf x=some .free:=a3
    rcases l with ⟨l,_⟩|⟨_,c,e3,z⟩
    .rcases a4 with a4|a4 <;> · rw[l]at a4;cases a4
    .obtain⟨c',e4⟩:=has x (PySem.mem_of_lookup a2)
     have e5:=cof x c' e4
     rw[e3]at e5;cases e5
     obtain⟨o,ho,hd⟩:=z
     exact(x_EAE c e4 o ⟨hkeep _ _ ho,hd⟩)
 .obtain⟨v,o,ho,hd⟩:=I.cell x c (cof x c e)
  exact(x_EE v o ⟨hkeep _ _ ho,hd⟩)
 .show(picks sl σ).length=N'.length
  unfold picks
  rw[List.length_map]
  exact slOk.len hsl
noncomputable def PTs(X:Cx)(ifs:List Expr)(t:TT):Prop:=
 ∀(pins:List (Addr×Obj)) (s:Shared) (σ:L2.St) (H:Hp) (Q:Bool->Hp->Prop),Inv X pins σ H s->t σ H Q->
  wpAny (model X.prog X.w) X.A (forIn ifs true fun c r=>if r=true then do let ok <-isTrue c X.env (eval c X.env);pure (ForInStep.yield ok)else pure (ForInStep.yield r)) (TP X pins σ Q) X.xe s
noncomputable def tYes:TT:=fun _ H Q=>Q true H
theorem pts_nil{X:Cx}:PTs X [] tYes:=fun _ _ _ H _ I h=>wpAny_tests_nil ⟨H,I,h⟩
theorem pts_one{X:Cx}{c:Expr}{t:TT}(h:PT X c t):PTs X [c] t:=fun pins s σ H Q I q=>wpAny_tests_one (h pins s σ H Q I q)
theorem compLoop_gen{prog:Program}{w:World}{A:Around}{R:Result->Shared->Prop}{s:Shared}{elt target iter:Expr}{ifs:List Expr}{scope:Scope}{pos:Pos}{it acc:Value}{env:Env}(I:Nat->Shared->Prop)
  (turn:∀n s,I n s->wpAny (model prog w) A (pyNext it) (fun r s₁=>match r with
   | none=>R (.ok .next) s₁
   | some v=>wpAny (model prog w) A (letOwnedTupleGo target it v) (fun _ s₂=>wpAny (model prog w) A (assign target env v) (fun _ s₃=>
     wpAny (model prog w) A (forIn ifs true fun c r=>if r=true then do let ok <-isTrue c env (eval c env);pure (ForInStep.yield ok)else pure (ForInStep.yield r)) (fun ok s₄=>
      if ok=true then wpAny (model prog w) A (eval elt env) (fun x s₅=>
       wpAny (model prog w) A (call (.builtin "list.append") [acc,x]) (fun _ s₆=>∃m,m<n/\I m s₆) (fun _ _=>False) s₅) (fun _ _=>False) s₄
      else ∃m,m<n/\I m s₄) (fun _ _=>False) s₃) (fun _ _=>False) s₂) (fun _ _=>False) s₁) (fun _ _=>False) s)
  (n:Nat) (h:I n s) :
  codeAny (model prog w) A (.compLoop (.ListComp elt [⟨target,iter,ifs,0⟩] scope pos) 0 it acc env) R s:=by
 refine codeAny_loop rfl I (fun n s hI=>?_) n h
 show wpAny _ A ((compTurn (.ListComp elt [⟨target,iter,ifs,0⟩] scope pos) 0 it acc env).onRaise (fun x=>do noteFrame x env;theTreesLotGoes x)) _ _ s
 refine wpAny_noted ?_
 rw[compTurn_list]
 refine wpAny_bind (wpAny_standAt (wpAny_bind (wpAny_mono (turn n s hI) (fun r s₁ h₁=>?_) fun _ _ h'=>h'.elim)))
 cases r with
 | none=>exact wpAny_pure h₁
 | some v=>
  refine wpAny_bind (wpAny_mono h₁ (fun _ s₂ h₂=>?_) fun _ _ h'=>h'.elim)
  refine wpAny_bind (wpAny_mono h₂ (fun _ s₃ h₃=>wpAny_bind (wpAny_mono h₃ (fun ok s₄ h₄=>?_) fun _ _ h'=>h'.elim)) fun _ _ h'=>h'.elim)
  cases ok with
  | false=>exact wpAny_pure ⟨rfl,h₄⟩
  | true=>
   exact wpAny_bind (wpAny_bind (wpAny_mono h₄ (fun x s₅ h₅=>wpAny_bind (wpAny_mono h₅ (fun _ s₆ h₆=>wpAny_pure (wpAny_pure ⟨rfl,h₆⟩)) fun _ _ h'=>h'.elim)) fun _ _ h'=>h'.elim))
noncomputable def CompR(J:It)(sl:List (Option Nat))(g:TG)(tt:TT)(te:TE)(σ:L2.St)(H1:Hp)(D:Addr)(Q:VK):Prop:=
 ∃W:Nat->Nat->Hp->Prop,(∃m,W 0 m (upd H1 D (.lst [])))/\∀i m H,W i m H->(J.stop i H/\Q (.ref D) H)\/
  (J.go i H/\∃N:Hp->Prop,(∀H',N H'->∃m',m'<m/\W (i+1) m' H')/\∀x H',J.yld i H x H'->g x (picks sl σ) H' fun σ2 H2=>Agree (picks sl σ) σ2/\tt σ2 H2 fun b H3=>
   if b=true then te σ2 H3 fun y H4=>∃xs,H4 D=some (.lst xs)/\xs.length<sizeLine/\N (upd H4 D (.lst (xs++[y])))else N H3)
noncomputable def tComp(wi:TI)(sl:List (Option Nat))(g:TG)(tt:TT)(te:TE):TE:=fun σ H Q=>wi σ H fun J H1=>∀D,H1 D=none->CompR J sl g tt te σ H1 D Q
section
variable{X:Cx}{elt target iter:Expr}{ifs:List Expr}{scope:Scope}{pos:Pos}
theorem comp_block{N':List Str}{sl:List (Option Nat)}{g:TG}{tt:TT}{te:TE}{pins:List (Addr×Obj)}{s₂:Shared}{σ:L2.St}{H2:Hp}{Q:VK}{RR:Value->Addr->Result->Shared->Prop}{E:Value->Shared->Prop}
  {it:Addr} {fp:List Addr} {tn:Nat->Heap->Prop} {J:It} (hc:X.calm=true) (hkind:scope.kind=.function)
  (hnc:∀y∈scope.names,y.2≠.cell) (hfree:∀x∈scope.names,x.2=.free->X.env.scope.names.lookup x.1=some .cell\/X.env.scope.names.lookup x.1=some .free)
  (hsl:slOk X.N N' sl scope X.env.scope=true)
  (hg:∀z,PG (cxComp X N' scope z) target g) (ht:∀z,PTs (cxComp X N' scope z) ifs tt) (he:∀z,PE (cxComp X N' scope z) elt te)
  (I2:Inv X pins σ H2 s₂) (T:Turn X.prog X.w X.K target J fp it tn) (st2:tn 0 s₂.heap) (f2:∀b∈fp,FpOk X pins H2 b) (hw:∀D,H2 D=none->CompR J sl g tt te σ H2 D Q)
  (hR:∀D C H' s',H' C=none->(∃m,s'.heap.Ns C m)->FpOk X pins H' C->(∀h',Heap.SameBut C s'.heap h'->Inv X pins σ H' {s' with heap:=h'})->Inv X pins σ H' s'->Q (.ref D) H'->RR (.ref D) C (.ok .next) s') :
  wpAny (model X.prog X.w) X.A (newList []) (fun acc s₃=>wpAny (model X.prog X.w) X.A (newFunctionEnv scope X.env.globals (clFrom X.env.cells scope.names []) [] X.env.qual none .none (some X.env)) (fun cenv s₄=>
   codeAny (model X.prog X.w) X.A (.compStart (.ListComp elt [⟨target,iter,ifs,0⟩] scope pos) 0 (.ref it) acc {cenv with scope:=relabel scope X.env}) (RR acc cenv.locals) s₄) E s₃) E s₂:=by
 have hlt2:∀b∈fp,b<s₂.heap.objs.size:=fun b hb=>by
  obtain⟨o,e,_⟩:=T.obj _ _ st2 b hb
  exact Heap.lt_size e
 have hD:H2 s₂.heap.objs.size=none:=I2.hok.fresh (Nat.le_refl _)
 obtain⟨W,⟨m0,w0⟩,turn⟩:=hw _ hD
 refine wpAny_newList ?_ (Nat.zero_le _)
 have I3:=I2.lnew (ys:=[]) (its:=[]) (t':=s₂.toks) .nil (Nat.zero_le _)
 refine wpAny_newFunctionEnv hnc (by intro y hy;simp at hy) (fun h₁ hns₁ hsb₁=>?_) hkind
 generalize hs3:({s₂ with heap:=s₂.heap.push {cls:=.type "list",data:=.seq ([]:List Value).toArray}}:Shared)=s₃ at *
 have hs3':s₃.heap=s₂.heap.push {cls:=.type "list",data:=.seq ([]:List Value).toArray}:=by rw[<-hs3]
 have hC3:s₃.heap.objs.size=s₂.heap.objs.size+1:=by rw[hs3',Heap.size_push]
 have keep23:∀b o,s₂.heap.get? b=some o->s₃.heap.get? b=some o:=fun b o e=>by rw[hs3'];exact Heap.get?_push_of_some _ e
 have keep3:∀b o,s₃.heap.get? b=some o->h₁.get? b=some o:=fun b o e=>hsb₁.extBut b o (Nat.ne_of_lt (Heap.lt_size e)) (Heap.get?_push_of_some _ e)
 have hne:∀b∈fp,b≠s₂.heap.objs.size:=fun b hb=>Nat.ne_of_lt (hlt2 b hb)
 have f3:∀b∈fp,FpOk X pins (upd H2 s₂.heap.objs.size (.lst [])) b:=fun b hb=>⟨by rw[upd_ne (hne b hb)];exact(f2 b hb).1,(f2 b hb).2⟩
 have hlt3:∀b∈fp,b<s₃.heap.objs.size:=fun b hb=>by rw[hC3];exact Nat.lt_succ_of_lt (hlt2 b hb)
 have I4:=comp_start (tk:=s₃.toks+([]:List (Str×Value)).length) I3 hkind hnc hfree hsl f3 hlt3 hns₁ keep3
 have st4:tn 0 h₁:=T.keep _ _ _ st2 fun b _ o e=>keep3 b o (keep23 b o e)
 generalize hz:(⟨clFrom X.env.cells scope.names [],s₃.heap.objs.size,s₃,upd H2 s₂.heap.objs.size (.lst []),fp⟩:CZ)=z at I4
 have ezC:z.C=s₃.heap.objs.size:=by rw[<-hz]
 have ezx:z.ex=fp:=by rw[<-hz]
 have stat:∀{H':Hp},(∀b∈fp,H' b=none)->∀b∈fp,FpOk (cxComp X _ scope z) [] H' b:=fun hn b hb=>by
  subst hz
  have q:=I4.ok.exf b hb
  exact⟨hn b hb,q.1,I4.ok.exfs b hb,.inl hb,q.2,fun p hp=>absurd (show p∈([]:List (Addr×Obj))from hp) (by simp)⟩
 have loop:∀s₄:Shared,s₄={s₃ with heap:=h₁,toks:=s₃.toks+([]:List (Str×Value)).length}->
   codeAny (model X.prog X.w) X.A (.compLoop (.ListComp elt [⟨target,iter,ifs,0⟩] scope pos) 0 (.ref it) (.ref s₂.heap.objs.size) (cxComp X N' scope z).env) (RR (.ref s₂.heap.objs.size) s₃.heap.objs.size) s₄:=by
  rintro s₄ rfl
  refine compLoop_gen (fun n s'=>∃i H',Inv (cxComp X N' scope z) [] (picks sl σ) H' s'/\tn i s'.heap/\(∀b∈fp,H' b=none)/\W i n H') ?_ m0 (x_EE 0 _ ⟨I4,st4,fun b hb=>(f3 b hb).1,w0⟩)
  rintro n s5 ⟨i,H5,I5,st5,fr5,w5⟩
  rcases turn i n H5 w5 with ⟨stop,qn⟩|⟨go,N,hN,step⟩
  .refine thn (T.done (cxComp X N' scope z) rfl rfl rfl hc i [] s5 _ H5 _ I5 (stat fr5) st5 stop) fun r s6 ⟨hr,I6⟩=>?_
   subst hr
   have un:Un (frs X.stack) fp (upd H2 s₂.heap.objs.size (.lst [])) H5 s₃.heap s6.heap:=by subst hz;exact I6.base
   have os6:s6.os=s₃.os:=by subst hz;exact I6.os
   have fC:H5 s₃.heap.objs.size=none:=by subst hz;exact I6.free
   have hch:∀b∈fp,(b∈X.ex\/X.s₀.heap.objs.size<=b)/\b≠X.env.locals/\(∀x c,X.env.cells.lookup x=some c->c≠b)/\∀p∈X.pn++pins,p.1≠b:=fun b hb=>⟨(f2 b hb).2.2.2.1,(f2 b hb).2.1,(f2 b hb).2.2.2.2.1,(f2 b hb).2.2.2.2.2⟩
   have nC:s₃.heap.get? s₃.heap.objs.size=none:=Heap.get?_none_of_le (Nat.le_refl _)
   have ns:∃m,s6.heap.Ns s₃.heap.objs.size m:=by
    subst hz
    obtain⟨m,hn,_⟩:=I6.loc
    exact⟨m,hn⟩
   refine hR _ _ H5 s6 fC ns (I3.fpOk (Nat.le_refl _) fC) (fun h' sb=>?_) (I3.call' (ch:=fp) os6 un I6.hok I6.bare hch) qn
   exact I3.call' (s':={s6 with heap:=h'}) (ch:=fp) os6 (Un.but un nC sb.extBut) (HOk.but I6.hok fC sb.extBut) I6.bare hch
  .refine thn (T.item (cxComp X N' scope z) rfl rfl rfl hc i [] s5 _ H5 _ I5 (stat fr5) st5 go) fun r s6 ⟨u,hr,h6⟩=>?_
   subst hr
   refine thn h6 fun _ s7 ⟨x,H7,I7,r7,y7,st7,fr7⟩=>?_
   have I7':=I7.pinned (stat fr7) (T.obj _ _ st7)
   refine thn (hg z _ s7 _ H7 x u _ I7' r7 (step x H7 y7)) fun _ s8 ⟨σ8,H8,I8,ag,q8⟩=>?_
   have again:∀{s9:Shared} {H9:Hp},Inv (cxComp X N' scope z) ([]++pinsAt fp s7.heap) σ8 H9 s9->N H9->∃m,m<n/\∃i H',Inv (cxComp X N' scope z) [] (picks sl σ) H' s9/\tn i s9.heap/\(∀b∈fp,H' b=none)/\W i m H':=fun{s9 H9} I9 n9=>by
    obtain⟨m',hm,w9⟩:=hN H9 n9
    refine(x_EAEE m' hm (i+1) H9 ⟨(I9.weak ag.1.symm ag.2).unpinned,T.keep _ _ _ st7 fun b hb o e=>(I9.pin (b,o) (List.mem_append_right _ (List.mem_append_right _ (mem_pinsAt hb e)))).1,fun b hb=>?_,w9⟩)
    obtain⟨o,e,d⟩:=T.obj _ _ st7 b hb
    exact(I9.pin (b,o) (List.mem_append_right _ (List.mem_append_right _ (mem_pinsAt hb e)))).2.1
   refine thn (ht z _ s8 σ8 H8 _ I8 q8) fun ok s9 ⟨H9,I9,q9⟩=>?_
   cases ok with
   | false=>exact again I9 q9
   | true=>
    refine thn (he z _ s9 σ8 H9 _ I9 q9) fun u10 s10 ⟨y,H10,I10,r10,xs,hx,hz10,n10⟩=>?_
    exact thn (mt_append _ s10 σ8 H10 (.ref s₂.heap.objs.size) [y] (.ref s₂.heap.objs.size) [u10] (fun _ H'=>N H') I10 rfl (.cons r10 .nil) (x_EEE _ xs y ⟨rfl,rfl,hx,hz10,n10⟩)) fun _ s11 ⟨_,H11,I11,_,n11⟩=>again I11 n11
 have eenv:(cxComp X N' scope z).env=compEnvC scope (clFrom X.env.cells scope.names []) s₃.heap.objs.size X.env:=by rw[<-hz];rfl
 rw[eenv]at loop
 exact codeAny_compStart_list (loop _ rfl) (T.self _ 0 _ _ _ st4 (loop _ rfl))
theorem pe_comp(N':List Str)(sl:List (Option Nat)){wi:TI}{g:TG}{tt:TT}{te:TE}(hc:X.calm=true)(hkind:scope.kind=.function)
  (hnames:∀x∈scope.names,x.2=.local->scope.names.lookup x.1=some .local)
  (hnc:∀y∈scope.names,y.2≠.cell) (hfr:frOk scope X.env.scope=true)
  (hsl:slOk X.N N' sl scope X.env.scope=true) (hi:PI X target iter wi)
  (hg:∀z,PG (cxComp X N' scope z) target g) (ht:∀z,PTs (cxComp X N' scope z) ifs tt) (he:∀z,PE (cxComp X N' scope z) elt te)
  (hs:∀x,foldedSetIterable iter X.env x=pure x:=by intro _;rfl) :
  PE X (.ListComp elt [⟨target,iter,ifs,0⟩] scope pos) (tComp wi sl g tt te):=by
 have hfree:=frOk.of hfr
 intro pins s σ H Q I h
 rw[eval_ListComp]
 have hcl:closureFor scope X.env=pure (clFrom X.env.cells scope.names []):=closureFor_eq fun x hx hk=>I.ok.has x.1 (hfree x hx hk)
 refine wpAny_comprehension_free (use:=none) rfl hs hcl hkind hnames (thn (hi pins s σ H _ I h) fun xv s₁ h₁=>thn h₁ fun itv s₂ h₂=>?_)
 obtain⟨it,fp,tn,J,H2,e,I2,T,st2,f2,hw⟩:=h₂
 subst e
 refine comp_block (RR:=fun acc C=>compPost (model X.prog X.w) X.A X.xe none (EP X pins σ Q) acc C) hc hkind hnc hfree hsl hg ht he I2 T st2 f2 hw ?_
 intro D C H' s' fC ns _ hI _ q
 obtain⟨m,hn⟩:=ns
 exact⟨m,hn,fun h' sb=>(x_EE (.ref D) H' ⟨hI h' sb,rfl,q⟩)⟩
theorem ps_setC(N':List Str)(sl:List (Option Nat)){wi:TI}{g:TG}{tt:TT}{te:TE}{i:Nat}{y:Str}{py spos:Pos}(hN:X.N.Nodup)(hyi:X.N[i]?=some y)(hx:Loc X.env.scope y)
  (hsw:swapsWith (.ListComp elt [⟨target,iter,ifs,0⟩] scope pos) (some (.Name y py)) spos.line X.env=pure true) (hc:X.calm=true) (hkind:scope.kind=.function)
  (hnames:∀x∈scope.names,x.2=.local->scope.names.lookup x.1=some .local)
  (hnc:∀y∈scope.names,y.2≠.cell) (hfr:frOk scope X.env.scope=true)
  (hsl:slOk X.N N' sl scope X.env.scope=true) (hi:PI X target iter wi)
  (hg:∀z,PG (cxComp X N' scope z) target g) (ht:∀z,PTs (cxComp X N' scope z) ifs tt) (he:∀z,PE (cxComp X N' scope z) elt te)
  (hs:∀x,foldedSetIterable iter X.env x=pure x:=by intro _;rfl) (hf:X.fn y=true\/X.env.scope.names.lookup y=some .local:=by first|exact .inl rfl|exact .inr rfl|assumption) :
  PS X (.Assign [.Name y py] (.ListComp elt [⟨target,iter,ifs,0⟩] scope pos) spos) (tAsg (tComp wi sl g tt te) (gName i)):=by
 have hfree:=frOk.of hfr
 intro pins s σ H D I h
 rw[exec_Assign_Name_used _ _ _ _ hsw]
 refine wpAny_bind (wpAny_standAt (wpAny_bind ?_))
 show wpAny _ _ (do let _ <-comprehension (.ListComp elt [⟨target,iter,ifs,0⟩] scope pos) scope X.env _ (newList []) false (eval iter X.env) (some (assign (.Name y py) X.env))) _ _ s
 have hcl:closureFor scope X.env=pure (clFrom X.env.cells scope.names []):=closureFor_eq fun x hx hk=>I.ok.has x.1 (hfree x hx hk)
 refine wpAny_bind (wpAny_mono (wpAny_comprehension_free (use:=some (assign (.Name y py) X.env)) (Q:=fun _ s'=>SP X pins D .next s') rfl hs hcl hkind hnames
  (thn (hi pins s σ H _ I h) fun xv s₁ h₁=>thn h₁ fun itv s₂ h₂=>?_)) (fun _ s' hq=>wpAny_pure (wpAny_pure hq)) fun _ _ e=>e)
 obtain⟨it,fp,tn,J,H2,e,I2,T,st2,f2,hw⟩:=h₂
 subst e
 refine comp_block (RR:=fun acc C=>compPost (model X.prog X.w) X.A X.xe (some (assign (.Name y py) X.env)) (fun _ s'=>SP X pins D .next s') acc C) hc hkind hnc hfree hsl hg ht he I2 T st2 f2 hw ?_
 intro E C H' s' fC ns fp hI I' q
 obtain⟨m,hn⟩:=ns
 show wpAny _ _ (assign (.Name y py) X.env (.ref E)) _ _ _
 refine wpAny_assign_Name (store_ok2 I' hN hyi hx (v:=.ref E) rfl (fun s2 I2 ⟨a,sb,ha⟩=>?_) hf)
 have hCa:C≠a:=by
  rcases ha with ha|ha
  .rw[ha];exact fp.2.1
  .exact fun z=>fp.2.2.2.2.1 _ _ ha z.symm
 exact⟨m,hn.sameBut sb hCa,fun h3 sb3=>(x_EE _ H' ⟨I2.turned (t':=s2.toks) (fun b o hb e=>(sb3.2 b hb).trans e) fp.1 fp.2.1 fp.2.2.2.1 fp.2.2.2.2.1 fp.2.2.2.2.2,q⟩)⟩
end
mutual
noncomputable def Rep(H:Hp):PyData->V->Prop
 | .none,v=>v=.non
 | .bool b,v=>v=.bl b
 | .int i,v=>v=.int i
 | .str x,v=>v=.str x/\PyData.strOk x=true
 | .tuple ds,v=>∃a xs,v=.ref a/\H a=some (.tup xs)/\RepAll H ds xs
 | .list ds,v=>∃a xs,v=.ref a/\H a=some (.lst xs)/\RepAll H ds xs
 | .dict _,_=>False
noncomputable def RepAll(H:Hp):List PyData->List V->Prop
 | [],xs=>xs=[]
 | d::ds,xs=>∃x r,xs=x::r/\Rep H d x/\RepAll H ds r
end
mutual
noncomputable def imm:PyData->Bool
 | .none=>true
 | .bool _=>true
 | .int _=>true
 | .str _=>true
 | .tuple ds=>immAll ds
 | .list _=>false
 | .dict _=>false
noncomputable def immAll:List PyData->Bool
 | []=>true
 | d::ds=>imm d&&immAll ds
end
noncomputable def Tk(H H':Hp):Prop:=∀b xs,H b=some (.tup xs)->H' b=some (.tup xs)
theorem Tk.lst{H:Hp}{p:Addr}{xs:List V}{o:HO}(h:H p=some (.lst xs)):Tk H (upd H p o):=fun b ys q=>by rw[upd_ne (ne_of q h (by intro z;cases z))];exact q
mutual
theorem Rep.tk{H H':Hp}(t:Tk H H'):∀{d:PyData} {v:V},imm d=true->Rep H d v->Rep H' d v
 | .none,_,_,h=>h
 | .bool _,_,_,h=>h
 | .int _,_,_,h=>h
 | .str _,_,_,h=>h
 | .tuple ds,v,hi,h=>by
  obtain⟨a,xs,e,ha,r⟩:=h
  exact⟨a,xs,e,t _ _ ha,RepAll.tk t hi r⟩
 | .list _,_,hi,_=>absurd hi Bool.false_ne_true
 | .dict _,_,hi,_=>absurd hi Bool.false_ne_true
theorem RepAll.tk{H H':Hp}(t:Tk H H'):∀{ds:List PyData} {xs:List V},immAll ds=true->RepAll H ds xs->RepAll H' ds xs
 | [],_,_,h=>h
 | d::ds,xs,hi,h=>by
  obtain⟨x,r,e,h1,h2⟩:=h
  have hi':(imm d&&immAll ds)=true:=hi
  rw[Bool.and_eq_true]at hi'
  exact⟨x,r,e,Rep.tk t hi'.1 h1,RepAll.tk t hi'.2 h2⟩
end
mutual
theorem Rep.same{H H':Hp}(t:Same H H'):∀{d:PyData} {v:V},Rep H d v->Rep H' d v
 | .none,_,h=>h
 | .bool _,_,h=>h
 | .int _,_,h=>h
 | .str _,_,h=>h
 | .tuple ds,v,h=>by
  obtain⟨a,xs,e,ha,r⟩:=h
  exact⟨a,xs,e,t _ _ ha,RepAll.same t r⟩
 | .list ds,v,h=>by
  obtain⟨a,xs,e,ha,r⟩:=h
  exact⟨a,xs,e,t _ _ ha,RepAll.same t r⟩
 | .dict _,_,h=>h
theorem RepAll.same{H H':Hp}(t:Same H H'):∀{ds:List PyData} {xs:List V},RepAll H ds xs->RepAll H' ds xs
 | [],_,h=>h
 | d::ds,xs,h=>by
  obtain⟨x,r,e,h1,h2⟩:=h
  exact⟨x,r,e,Rep.same t h1,RepAll.same t h2⟩
end
theorem RepAll.length{H:Hp}:∀{ds:List PyData} {xs:List V},RepAll H ds xs->xs.length=ds.length
 | [],xs,h=>by have e:xs=[]:=h;rw[e];rfl
 | d::ds,xs,h=>by
  obtain⟨x,r,e,_,h2⟩:=h
  rw[e,List.length_cons,List.length_cons,RepAll.length h2]
theorem RepAll.get{H:Hp}:∀{ds:List PyData} {xs:List V} {i:Nat} {d:PyData},RepAll H ds xs->ds[i]?=some d->∃x,xs[i]?=some x/\Rep H d x
 | [],_,_,_,_,e=>by simp at e
 | d::ds,xs,0,d',h,e=>by
  obtain⟨x,r,e1,h1,_⟩:=h
  subst e1
  simp at e;subst e
  exact⟨x,rfl,h1⟩
 | d::ds,xs,i+1,d',h,e=>by
  obtain⟨x,r,e1,_,h2⟩:=h
  subst e1
  obtain⟨y,h3,h4⟩:=RepAll.get (i:=i) h2 (by simpa using e)
  exact⟨y,by simpa using h3,h4⟩
theorem RepAll.at{H:Hp}{ds:List PyData}{xs:List V}{i:Nat}{x:V}(h:RepAll H ds xs)(e:xs[i]?=some x):∃d,ds[i]?=some d/\Rep H d x:=by
 have hi:i<xs.length:=(List.getElem?_eq_some_iff.mp e).1
 have hi':i<ds.length:=by rw[<-h.length];exact hi
 obtain⟨y,h1,h2⟩:=h.get (List.getElem?_eq_getElem hi')
 rw[e]at h1;cases h1
 exact⟨_,List.getElem?_eq_getElem hi',h2⟩
theorem RepAll.append{H:Hp}:∀{ds es:List PyData} {xs ys:List V},RepAll H ds xs->RepAll H es ys->RepAll H (ds++es) (xs++ys)
 | [],es,xs,ys,h,h'=>by have e:xs=[]:=h;rw[e];exact h'
 | d::ds,es,xs,ys,h,h'=>by
  obtain⟨x,r,e,h1,h2⟩:=h
  subst e
  exact⟨x,r++ys,rfl,h1,RepAll.append h2 h'⟩
theorem RepAll.snoc{H:Hp}{ds:List PyData}{d:PyData}{xs:List V}{x:V}(h:RepAll H ds xs)(h':Rep H d x):RepAll H (ds++[d]) (xs++[x]):=h.append ⟨x,[],rfl,h',rfl⟩
theorem RepAll.drop{H:Hp}:∀{ds:List PyData} {xs:List V} (n:Nat),RepAll H ds xs->RepAll H (ds.drop n) (xs.drop n)
 | _,_,0,h=>h
 | [],xs,n+1,h=>by have e:xs=[]:=h;rw[e];rfl
 | d::ds,xs,n+1,h=>by
  obtain⟨x,r,e,_,h2⟩:=h
  subst e
  exact RepAll.drop n h2
theorem RepAll.take{H:Hp}:∀{ds:List PyData} {xs:List V} (n:Nat),RepAll H ds xs->RepAll H (ds.take n) (xs.take n)
 | _,_,0,_=>rfl
 | [],xs,n+1,h=>by have e:xs=[]:=h;rw[e];rfl
 | d::ds,xs,n+1,h=>by
  obtain⟨x,r,e,h1,h2⟩:=h
  subst e
  exact⟨x,r.take n,rfl,h1,RepAll.take n h2⟩
mutual
theorem Rep.lay{H:Hp}:∀{d:PyData} {v:V},Rep H d v->d.canLay0=true
 | .none,_,_=>rfl
 | .bool _,_,_=>rfl
 | .int _,_,_=>rfl
 | .str _,_,h=>h.2
 | .tuple ds,_,h=>by
  obtain⟨_,_,_,_,r⟩:=h
  exact RepAll.lay r
 | .list ds,_,h=>by
  obtain⟨_,_,_,_,r⟩:=h
  exact RepAll.lay r
 | .dict _,_,h=>h.elim
theorem RepAll.lay{H:Hp}:∀{ds:List PyData} {xs:List V},RepAll H ds xs->PyData.canLayAll0 ds=true
 | [],_,_=>rfl
 | d::ds,_,h=>by
  obtain⟨x,r,e,h1,h2⟩:=h
  show(d.canLay0&&PyData.canLayAll0 ds)=true
  rw[Rep.lay h1,RepAll.lay h2]
  rfl
end
section
variable{X:Cx}{pins:List (Addr×Obj)}{σ:L2.St}{H:Hp}{s:Shared}
mutual
theorem Rep.reads(I:Inv X pins σ H s):∀{d:PyData} {v:V} {u:Value},Rep H d v->RelV v u->∃as,Reads s.heap u d as
 | .none,v,u,h,r=>by cases (show v=.non from h);cases (show u=Value.none from r);exact⟨_,.none⟩
 | .bool b,v,u,h,r=>by cases (show v=.bl b from h);cases (show u=Value.bool b from r);exact⟨_,.bool b⟩
 | .int i,v,u,h,r=>by
  cases (show v=.int i from h)
  obtain⟨t,e⟩:=(show ∃t,u=Value.int i t from r)
  cases e;exact⟨_,.int i t⟩
 | .str x,v,u,h,r=>by
  cases (show v=.str x from h.1)
  obtain⟨t,e⟩:=(show ∃t,u=Value.str x t from r)
  cases e;exact⟨_,.str x t⟩
 | .tuple ds,v,u,h,r=>by
  obtain⟨a,xs,e,ha,q⟩:=h
  subst e
  cases (show u=Value.ref a from r)
  obtain⟨its,rv,⟨o,e1,e2,n,e3⟩,_⟩:=I.tuple (SqT.of (K:=X.K) ha)
  obtain⟨as,z⟩:=RepAll.reads I q rv
  exact⟨as,.tuple e1 e2 e3 z⟩
 | .list ds,v,u,h,r=>by
  obtain⟨a,xs,e,ha,q⟩:=h
  subst e
  cases (show u=Value.ref a from r)
  obtain⟨its,rv,⟨o,n,e1,e2,_,e3⟩,_⟩:=I.list (SqL.of (K:=X.K) ha)
  obtain⟨as,z⟩:=RepAll.reads I q rv
  exact⟨_,.list e1 e2 e3 z⟩
 | .dict _,_,_,h,_=>h.elim
theorem RepAll.reads(I:Inv X pins σ H s):∀{ds:List PyData} {xs:List V} {us:List Value},RepAll H ds xs->Vals xs us->∃as,ReadsAll s.heap us ds as
 | [],xs,us,h,r=>by
  cases (show xs=[]from h)
  cases r
  exact⟨_,.nil⟩
 | d::ds,xs,us,h,r=>by
  obtain⟨x,t,e,h1,h2⟩:=h
  subst e
  cases r with
  | cons r1 r2=>
   obtain⟨as,z1⟩:=Rep.reads I h1 r1
   obtain⟨bs,z2⟩:=RepAll.reads I h2 r2
   exact⟨_,.cons z1 z2⟩
end
end
noncomputable def rEqD(neg:Bool):R2:=fun x y H Q=>∃dx dy,Rep H dx x/\Rep H dy y/\dx.depth<=60/\Q (.bl (if neg then !PyData.eqv dx dy else PyData.eqv dx dy)) H
section
variable{X:Cx}
theorem op_eqD(hu:X.A.units+64<cLine):OpR X (compareOp .Eq) (rEqD false):=by
 intro pins s σ H x y v u Q I rx ry h
 obtain⟨dx,dy,hx,hy,hd,q⟩:=h
 obtain⟨as,r1⟩:=hx.reads I rx
 obtain⟨bs,r2⟩:=hy.reads I ry
 exact SeqAt.compareEq_reads r1 r2 hx.lay hy.lay (by have:=Nat.min_le_left dx.depth dy.depth;omega) ⟨.bl _,H,I,rfl,q⟩
noncomputable def rInD(neg:Bool):R2:=fun x y H Q=>∃d p xs ds,Rep H d x/\y=.ref p/\(H p=some (.lst xs)\/H p=some (.tup xs))/\RepAll H ds xs/\d.depth<=60/\
 Q (.bl (if neg then !(ds.any fun e=>PyData.eqv e d)else ds.any fun e=>PyData.eqv e d)) H
theorem op_inD(hu:X.A.units+64<cLine):OpR X (compareOp .In) (rInD false):=by
 intro pins s σ H x y v u Q I rx ry h
 obtain⟨d,p,xs,ds,hx,rfl,hp,hds,hd,q⟩:=h
 cases ry
 obtain⟨bs,r2⟩:=hx.reads I rx
 have room:X.A.units+1+min (PyData.depthAll ds) d.depth<cLine:=by have:=Nat.min_le_right (PyData.depthAll ds) d.depth;omega
 rcases hp with hp|hp
 .obtain⟨as,r1⟩:=Rep.reads I (d:=.list ds) (v:=.ref p) (u:=.ref p) ⟨p,xs,rfl,hp,hds⟩ rfl
  exact SeqAt.in_list_reads r1 r2 hds.lay hx.lay room ⟨.bl _,H,I,rfl,q⟩
 .obtain⟨as,r1⟩:=Rep.reads I (d:=.tuple ds) (v:=.ref p) (u:=.ref p) ⟨p,xs,rfl,hp,hds⟩ rfl
  exact SeqAt.in_tuple_reads r1 r2 hds.lay hx.lay room ⟨.bl _,H,I,rfl,q⟩
theorem op_notInD(hu:X.A.units+64<cLine):OpR X (compareOp .NotIn) (rInD true):=by
 intro pins s σ H x y v u Q I rx ry h
 obtain⟨d,p,xs,ds,hx,rfl,hp,hds,hd,q⟩:=h
 cases ry
 obtain⟨bs,r2⟩:=hx.reads I rx
 have room:X.A.units+1+min (PyData.depthAll ds) d.depth<cLine:=by have:=Nat.min_le_right (PyData.depthAll ds) d.depth;omega
 rcases hp with hp|hp
 .obtain⟨as,r1⟩:=Rep.reads I (d:=.list ds) (v:=.ref p) (u:=.ref p) ⟨p,xs,rfl,hp,hds⟩ rfl
  exact SeqAt.notIn_list_reads r1 r2 hds.lay hx.lay room ⟨.bl _,H,I,rfl,q⟩
 .obtain⟨as,r1⟩:=Rep.reads I (d:=.tuple ds) (v:=.ref p) (u:=.ref p) ⟨p,xs,rfl,hp,hds⟩ rfl
  exact SeqAt.notIn_tuple_reads r1 r2 hds.lay hx.lay room ⟨.bl _,H,I,rfl,q⟩
theorem call_isinst:CallR X (.builtin "isinstance") (fun xs H Q=>∃x T t b,xs=[x,.ty T]/\TyOf X.K H x t/\PySem.W.kitOne X.K t (.type T)=some b/\Q (.bl b) H):=by
 intro pins s σ H xs us Q I r h
 obtain⟨x,T,t,b,rfl,ty,e,q⟩:=h
 obtain⟨u,w',rfl,r1,r2⟩:=vals2 r
 cases (show w'=Value.type T from r2)
 exact isinst_ok I r1 ty e fun tk=>⟨.bl b,H,I.tok _,rfl,q⟩
end
noncomputable def fltLt:PyData->PyData->Bool
 | .int a,.int b=>decide (a<b)
 | .str a,.str b=>decide (a.cps.toList<b.cps.toList)
 | _,_=>false
noncomputable def rowLt:List PyData->List PyData->Bool
 | [],[]=>false
 | [],_::_=>true
 | _::_,[]=>false
 | x::xs,y::ys=>if PyData.eqv x y=true then rowLt xs ys else fltLt x y
noncomputable def Row:List Bool->List PyData->Prop
 | [],ds=>ds=[]
 | true::ks,ds=>∃i r,ds=.int i::r/\Row ks r
 | false::ks,ds=>∃x r,ds=.str x::r/\Row ks r
noncomputable def rowOf:PyData->List PyData
 | .tuple ds=>ds
 | _=>[]
noncomputable def ltAtD(ds:List PyData)(i j:Nat):Bool:=rowLt (rowOf (ds.getD i .none)) (rowOf (ds.getD j .none))
noncomputable def sortD(ds:List PyData):List PyData:=(srt (ltAtD ds) ds.length).map fun i=>ds.getD i .none
section
variable{prog:Program}{w:World}{A:Around}{E:Value->Shared->Prop}{s:Shared}{Q:Bool->Shared->Prop}
theorem lex_rows:∀{ks:List Bool} {xs ys:List PyData} {us vs:List Value} {as bs:List Addr} {i:Nat},Row ks xs->Row ks ys->ReadsAll s.heap us xs as->ReadsAll s.heap vs ys bs->Q (rowLt xs ys) s->
  PySem.W.KatLex prog w A true false Q (us.zip vs) i s
 | [],xs,ys,us,vs,as,bs,i,h1,h2,r1,r2,q=>by
  cases (show xs=[]from h1);cases (show ys=[]from h2)
  cases r1;cases r2
  exact q
 | true::ks,xs,ys,us,vs,as,bs,i,h1,h2,r1,r2,q=>by
  obtain⟨a,xr,rfl,h1⟩:=h1
  obtain⟨b,yr,rfl,h2⟩:=h2
  cases r1 with
  | cons ra r1=>
   cases r2 with
   | cons rb r2=>
    cases ra with
    | int _ t=>
     cases rb with
     | int _ u=>
      rw[List.zip_cons_cons]
      refine PySem.W.kat_cons (SeqAt.EqAt.int_int a t b u prog w _ _ ?_)
      have q':Q (if PyData.eqv (.int a) (.int b)=true then rowLt xr yr else fltLt (.int a) (.int b)) s:=q
      have e:PyData.eqv (.int a) (.int b)=(a==b):=rfl
      rw[e]at q'
      cases hb:(a==b)with
      | true=>rw[hb,if_pos rfl]at q';exact PySem.W.kat_yes (lex_rows h1 h2 r1 r2 q')
      | false=>
       rw[hb,if_neg Bool.false_ne_true]at q'
       refine PySem.W.kat_no ?_
       cases hi:(i==0)with
       | true=>exact oneLt_int q'
       | false=>exact PySem.W.kat_one _ _ (lt_int q')
 | false::ks,xs,ys,us,vs,as,bs,i,h1,h2,r1,r2,q=>by
  obtain⟨a,xr,rfl,h1⟩:=h1
  obtain⟨b,yr,rfl,h2⟩:=h2
  cases r1 with
  | cons ra r1=>
   cases r2 with
   | cons rb r2=>
    cases ra with
    | str _ t=>
     cases rb with
     | str _ u=>
      rw[List.zip_cons_cons]
      refine PySem.W.kat_cons (SeqAt.EqAt.str_str a t b u prog w _ _ ?_)
      have q':Q (if PyData.eqv (.str a) (.str b)=true then rowLt xr yr else fltLt (.str a) (.str b)) s:=q
      have e:PyData.eqv (.str a) (.str b)=(a==b):=rfl
      rw[e]at q'
      cases hb:(a==b)with
      | true=>rw[hb,if_pos rfl]at q';exact PySem.W.kat_yes (lex_rows h1 h2 r1 r2 q')
      | false=>
       rw[hb,if_neg Bool.false_ne_true]at q'
       refine PySem.W.kat_no ?_
       cases hi:(i==0)with
       | true=>exact oneLt_str q'
       | false=>exact PySem.W.kat_one _ _ (PyProof.Rows.lt_str q')
end
theorem Row.len{ks:List Bool}:∀{ds:List PyData},Row ks ds->ds.length=ks.length:=by
 induction ks with
 | nil=>intro ds h;cases (show ds=[]from h);rfl
 | cons k ks ih=>
  intro ds h
  cases k with
  | true=>obtain⟨i,r,rfl,h⟩:=h;rw[List.length_cons,List.length_cons,ih h]
  | false=>obtain⟨i,r,rfl,h⟩:=h;rw[List.length_cons,List.length_cons,ih h]
noncomputable def Rows(ks:List Bool)(ds:List PyData):Prop:=∀d∈ds,∃r,d=.tuple r/\Row (true::ks) r
section
variable{X:Cx}
theorem tup_of(I:Inv X pins σ H s){ks:List Bool}{d:PyData}{v:V}{u:Value}(h:Rep H d v)(r:RelV v u){row:List PyData}(e:d=.tuple row)(hr:Row (true::ks) row) :
  ∃a o vs n as i t,u=.ref a/\s.heap.get? a=some o/\o.cls=.type "tuple"/\o.data=.seq vs n/\ReadsAll s.heap vs.toList row as/\vs[0]?=some (.int i t):=by
 subst e
 obtain⟨as,z⟩:=h.reads I r
 cases z with
 | @tuple a o vs n _ _ e1 e2 e3 z=>
  obtain⟨i,rr,rfl,_⟩:=hr
  have z':=z
  generalize hv:vs.toList=vl at z
  cases z with
  | cons ra rb=>
   cases ra with
   | int _ t=>
    refine⟨a,o,vs,n,_,i,t,rfl,e1,e2,e3,z',?_⟩
    rw[<-Array.getElem?_toList,hv]
    rfl
theorem kat_tups(I:Inv X pins σ H s){ks:List Bool}:∀{ds:List PyData} {xs:List V} {us:List Value},RepAll H ds xs->Vals xs us->Rows ks ds->∃fs:List Value,PySem.W.KatTups s.heap us fs/\fs.length=ds.length/\∀v∈fs,∃i t,v=Value.int i t
 | [],xs,us,h,r,_=>by
  cases (show xs=[]from h);cases r
  exact⟨[],trivial,rfl,fun v hv=>by cases hv⟩
 | d::ds,xs,us,h,r,hr=>by
  obtain⟨x,t,e,h1,h2⟩:=h
  subst e
  cases r with
  | cons r1 r2=>
   obtain⟨row,e,hrow⟩:=hr d List.mem_cons_self
   obtain⟨a,o,vs,n,as,i,tk,rfl,e1,e2,e3,_,e4⟩:=tup_of I h1 r1 e hrow
   obtain⟨fs,k1,k2,k3⟩:=kat_tups I h2 r2 fun d hd=>hr d (List.mem_cons_of_mem _ hd)
   refine⟨.int i tk::fs,PySem.W.KatTups.cons e1 e2 e3 e4 k1,by rw[List.length_cons,List.length_cons,k2],fun v hv=>?_⟩
   rcases List.mem_cons.mp hv with rfl|hv
   .exact⟨i,tk,rfl⟩
   .exact k3 v hv
theorem KatTups.keeps{h h':Heap}(k:∀b o,h.get? b=some o->h'.get? b=some o):∀{vs fs:List Value},PySem.W.KatTups h vs fs->PySem.W.KatTups h' vs fs
 | [],[],_=>trivial
 | v::vs,f::fs,x=>by
  obtain⟨⟨a,o,xs,n,e,e1,e2⟩,r⟩:=x
  exact⟨⟨a,o,xs,n,e,k _ _ e1,e2⟩,KatTups.keeps k r⟩
 | [],_::_,x=>x.elim
 | _::_,[],x=>x.elim
theorem RepAll.pick{H:Hp}{ds:List PyData}{xs:List V}(h:RepAll H ds xs):∀{is:List Nat},(∀i∈is,i<ds.length)->RepAll H (is.map fun i=>ds.getD i .none) (is.map fun i=>xs.getD i .non)
 | [],_=>rfl
 | i::is,hi=>by
  have h1:i<ds.length:=hi i List.mem_cons_self
  obtain⟨x,e1,e2⟩:=h.get (List.getElem?_eq_getElem h1)
  refine⟨xs.getD i .non,_,rfl,?_,RepAll.pick h fun j hj=>hi j (List.mem_cons_of_mem _ hj)⟩
  show Rep H (ds.getD i .none) (xs.getD i .non)
  rw[List.getD_eq_getElem?_getD,List.getD_eq_getElem?_getD,e1,List.getElem?_eq_getElem h1]
  exact e2
theorem Vals.pick{xs:List V}{us:List Value}(h:Vals xs us):∀{is:List Nat},(∀i∈is,i<xs.length)->Vals (is.map fun i=>xs.getD i .non) (is.map fun i=>us.getD i Value.none)
 | [],_=>.nil
 | i::is,hi=>by
  have h1:i<xs.length:=hi i List.mem_cons_self
  obtain⟨u,e1,e2⟩:=h.get (List.getElem?_eq_getElem h1)
  refine .cons ?_ (Vals.pick h fun j hj=>hi j (List.mem_cons_of_mem _ hj))
  show L2.RelV (xs.getD i .non) (us.getD i Value.none)
  rw[List.getD_eq_getElem?_getD,List.getD_eq_getElem?_getD,e1,List.getElem?_eq_getElem h1]
  exact e2
theorem call_sortedD:CallR X (.builtin "sorted") (fun vs H Q=>∃p xs ds ks,vs=[.ref p]/\H p=some (.lst xs)/\RepAll H ds xs/\Rows ks ds/\ds.length<64/\
  ∀l ys,H l=none->RepAll (upd H l (.lst ys)) (sortD ds) ys->Q (.ref l) (upd H l (.lst ys))):=by
 intro pins s σ H xs us Q I r h
 obtain⟨p,xs,ds,ks,rfl,hp,hds,hrows,h64,q⟩:=h
 obtain⟨u,rfl,r1⟩:=vals1 r
 cases (show u=Value.ref p from r1)
 obtain⟨its,rv,pl,hz⟩:=I.list (SqL.of (K:=X.K) hp)
 have l1:xs.length=ds.length:=hds.length
 have l2:xs.length=its.length:=rv.length
 obtain⟨fs,kt,kf,ki⟩:=kat_tups I hds rv hrows
 obtain⟨as,rds⟩:=RepAll.reads I hds rv
 refine sorted_by (κ:=tuples' true) (lt:=ltAtD ds) pl.isList (by omega) (fun h2 s' k=>⟨fun Q' E' hq=>?_,fun i j hi hj Q' hq=>?_⟩) ?_
 .refine PySem.W.kat_kind (T:=Value.type "int") (KatTups.keeps k kt) (by omega) (fun v hv=>?_) rfl hq
  obtain⟨i,t,rfl⟩:=ki v hv
  exact PySem.W.Looks.of_pure rfl
 .have tup:∀i,i<its.length->∃a o vs n bs row,its.getD i Value.none=.ref a/\ds.getD i .none=.tuple row/\Row (true::ks) row/\s'.heap.get? a=some o/\o.data=.seq vs n/\ReadsAll s'.heap vs.toList row bs:=fun i hi=>by
   have hi':i<ds.length:=by omega
   obtain⟨x,e1,e2⟩:=hds.get (List.getElem?_eq_getElem hi')
   obtain⟨u,e3,e4⟩:=rv.get e1
   obtain⟨row,e5,hrow⟩:=hrows _ (List.getElem_mem hi')
   obtain⟨a,o,vs,n,bs,_,_,rfl,g1,_,g3,g4,_⟩:=tup_of I e2 e4 e5 hrow
   refine⟨a,o,vs,n,bs,row,?_,?_,hrow,k _ _ g1,g3,ReadsAll.keeps k g4⟩
   .rw[List.getD_eq_getElem?_getD,e3];rfl
   .rw[List.getD_eq_getElem?_getD,List.getElem?_eq_getElem hi',e5];rfl
  obtain⟨a,o,vs,n,as1,row,e1,e2,e3,e4,e5,e6⟩:=tup i hi
  obtain⟨a',o',vs',n',as2,row',f1,f2,f3,f4,f5,f6⟩:=tup j hj
  rw[e1,f1]
  have hq':Q' (rowLt row row') s':=by
   have:ltAtD ds i j=rowLt row row':=by unfold ltAtD;rw[e2,f2];rfl
   rw[<-this];exact hq
  have z1:vs.size=ks.length+1:=by have q1:=SeqAt.ReadsAll.length _ _ _ e6;have q2:=e3.len;simp at q1 q2;omega
  have z2:vs'.size=ks.length+1:=by have q1:=SeqAt.ReadsAll.length _ _ _ f6;have q2:=f3.len;simp at q1 q2;omega
  refine PySem.W.kat_lt e4 e5 f4 f5 ?_
  rw[decide_eq_false (by omega)]
  exact lex_rows e3 f3 e6 f6 hq'
 .have hl:∀i∈srt (ltAtD ds) its.length,i<xs.length:=fun i hi=>by have:=srt_lt _ _ i hi;omega
  obtain⟨e,he⟩:=sortedAll_at s.heap its (List.toArray ((srt (ltAtD ds) its.length).map fun i=>its.getD i Value.none))
  have hn:H (s.heap.objs.size+1)=none:=I.hok.fresh (Nat.le_succ _)
  have hv:=Vals.pick rv hl
  have hz':((srt (ltAtD ds) its.length).map fun i=>xs.getD i .non).length<=sizeLine:=by rw[List.length_map,srt_length];omega
  have hsame:Same H (upd H (s.heap.objs.size+1) (.lst ((srt (ltAtD ds) its.length).map fun i=>xs.getD i .non))):=fun b o q=>by rw[upd_ne (ne_of_none q hn)];exact q
  refine⟨.ref (s.heap.objs.size+1),_,I.laid (t':=s.toks) (o:=.lst ((srt (ltAtD ds) its.length).map fun i=>xs.getD i .non)) (fun b u e=>sortedAll_old e) (Nat.le_succ _) ⟨hz',_,e,hv,he⟩,rfl,q _ _ hn ?_⟩
  unfold sortD
  rw[<-l1,l2]
  refine(RepAll.pick hds (is:=srt (ltAtD ds) its.length) fun i hi=>by have:=hl i hi;omega).same hsame
end
end L3
namespace L3
open PySem PySem.Spec PyProof.Rows
theorem args_minD(a v:Value):argsOk "min" ⟨[a],[(Str.ofString "default",v)]⟩:=by unfold argsOk;kernel_rfl
section
variable{prog:Program}{w:World}{A:Around}{R:Result->Shared->Prop}{I:Addr}{fp wr:List Addr}{n:Nat}{P:Nat->Value->Prop}{St:Nat->Heap->Prop}
theorem min_loopK(kw:List (Str×Value))(W:Walks prog w A.in1 I fp wr n P St)(bt:Nat->Nat->Bool)(hcmp:CmpOf prog w A.in1 .Lt P bt)(S:Addr)(hSf:S∉fp) :
  ∀(k j:Nat) (s:Shared) (vb:Value) (c:Nat),n-(j+1)=k->j+1<=n->St (j+1) s.heap->P (argBest bt j) vb->
  s.heap.get? S=some {cls:=.type "list",dict:=none,data:=.seq #[vb,vb] c,slots:=#[]}->
  (∀v h' tk,P (argBest bt (n-1)) v->(∀b o,b∉wr->b≠S->s.heap.get? b=some o->h'.get? b=some o)->R (.ok (.ret v)) {s with heap:=h',toks:=tk})->
  codeAny (model prog w) A (.builtin "min.loop" ⟨[.ref I,.none,.ref S],kw⟩) R s:=by
 have hSw:S∉wr:=fun h=>hSf (W.sub _ h)
 have nm:(toString "min" ++ toString ".loop" : String)="min.loop":=by decide
 intro k
 induction k with
 | zero=>
  intro j s vb c hk hj hst hPb hS hR
  have hin:j+1=n:=by omega
  refine codeAny_builtin F.entry_min_loop ?_
  rw[Around.under_plainId F.plain_min_loop _]
  show wpAny _ A.in1 (seqItems? (.ref S) >>= _) _ _ s
  refine wpAny_bind (wpAny_seqItems hS rfl ?_)
  show wpAny _ A.in1 (tryCatch (pyNext (.ref I)) _ >>= _) _ _ s
  refine wpAny_bind (wpAny_tryCatch (W.done s _ _ (hin▸hst) fun h' tk hk'=>?_))
  have hS':=hk' S _ hSw hS
  show wpAny _ A.in1 (updateSeq S (fun _=>#[]) >>= _) _ _ _
  refine wpAny_bind (wpAny_updateSeq hS' rfl (wpAny_bind (wpAny_letGo (wpAny_pure ?_))))
  exact hR vb _ tk (by rw[<-hin];exact hPb) fun b o hbw hbS e=>(Heap.get?_update_other _ _ (Ne.symm hbS)).trans (hk' b o hbw e)
 | succ k ih=>
  intro j s vb c hk hj hst hPb hS hR
  have hlt:j+1<n:=by omega
  refine codeAny_builtin F.entry_min_loop ?_
  rw[Around.under_plainId F.plain_min_loop _]
  show wpAny _ A.in1 (seqItems? (.ref S) >>= _) _ _ s
  refine wpAny_bind (wpAny_seqItems hS rfl ?_)
  show wpAny _ A.in1 (tryCatch (pyNext (.ref I)) _ >>= _) _ _ s
  refine wpAny_bind (wpAny_tryCatch (W.item (j+1) s _ _ hlt hst fun v h' tk hP hst' hk'=>?_))
  have hS':=hk' S _ hSw hS
  show wpAny _ A.in1 (tryCatch (holding [v,v] (richCompare .Lt v vb >>= _)) _ >>= _) _ _ _
  refine wpAny_bind (wpAny_tryCatch (wpAny_holding (wpAny_bind (hcmp (j+1) (argBest bt j) v vb _ _ _ hP hPb ?_))))
  refine wpAny_bind (wpAny_holding (wpAny_truthy_bool ?_))
  refine wpAny_bind (wpAny_letGo (wpAny_pure ?_))
  cases hb:bt (j+1) (argBest bt j)with
  | true=>
   simp only[if_true]
   refine wpAny_bind (wpAny_updateSeq hS' rfl (wpAny_bind (wpAny_letGo ?_)))
   rw[nm]
   refine wpAny_pure ⟨plainId_quiet F.plain_min_loop _,ih (j+1) _ v _ (by omega) hlt (W.frame _ _ _ hst' fun b hbf o e=>?_) (by simp only[argBest,hb,if_true];exact hP) (Heap.get?_update_self _ hS' rfl) fun v' h'' tk'' hP' hk''=>?_⟩
   .exact(Heap.get?_update_other _ _ (fun h:S=b=>hSf (by rw[h];exact hbf))).trans e
   .exact hR v' h'' tk'' hP' fun b o hbw hbS e=>hk'' b o hbw hbS ((Heap.get?_update_other _ _ (Ne.symm hbS)).trans (hk' b o hbw e))
  | false=>
   simp only[Bool.false_eq_true,if_false]
   refine wpAny_bind (wpAny_letGo ?_)
   rw[nm]
   refine wpAny_pure ⟨plainId_quiet F.plain_min_loop _,ih (j+1) _ vb c (by omega) hlt hst' (by simp only[argBest,hb,Bool.false_eq_true,if_false];exact hPb) hS' fun v' h'' tk'' hP' hk''=>?_⟩
   exact hR v' h'' tk'' hP' fun b o hbw hbS e=>hk'' b o hbw hbS (hk' b o hbw e)
theorem min_firstK(kw:List (Str×Value))(W:Walks prog w A.in1 I fp wr n P St)(bt:Nat->Nat->Bool)(hcmp:CmpOf prog w A.in1 .Lt P bt)(S:Addr)(hSf:S∉fp)(hn:0<n){s:Shared}{c:Nat}(hst:St 0 s.heap)
  (hS:s.heap.get? S=some {cls:=.type "list",dict:=none,data:=.seq #[] c,slots:=#[]})
  (hR:∀v h' tk,P (argBest bt (n-1)) v->(∀b o,b∉wr->b≠S->s.heap.get? b=some o->h'.get? b=some o)->R (.ok (.ret v)) {s with heap:=h',toks:=tk}) :
  codeAny (model prog w) A (.builtin "min.loop" ⟨[.ref I,.none,.ref S],kw⟩) R s:=by
 have hSw:S∉wr:=fun h=>hSf (W.sub _ h)
 have nm:(toString "min" ++ toString ".loop" : String)="min.loop":=by decide
 refine codeAny_builtin F.entry_min_loop ?_
 rw[Around.under_plainId F.plain_min_loop _]
 show wpAny _ A.in1 (seqItems? (.ref S) >>= _) _ _ s
 refine wpAny_bind (wpAny_seqItems hS rfl ?_)
 show wpAny _ A.in1 (tryCatch (pyNext (.ref I)) _ >>= _) _ _ s
 refine wpAny_bind (wpAny_tryCatch (W.item 0 s _ _ hn hst fun v h' tk hP hst' hk'=>?_))
 have hS':=hk' S _ hSw hS
 show wpAny _ A.in1 (updateSeq S (fun _=>#[v,v]) >>= _) _ _ _
 refine wpAny_bind (wpAny_updateSeq hS' rfl ?_)
 rw[nm]
 refine wpAny_pure ⟨plainId_quiet F.plain_min_loop _,min_loopK kw W bt hcmp S hSf _ 0 _ v _ rfl hn (W.frame _ _ _ hst' fun b hbf o e=>?_) hP (Heap.get?_update_self _ hS' rfl) fun v' h'' tk'' hP' hk''=>?_⟩
 .exact(Heap.get?_update_other _ _ (fun h:S=b=>hSf (by rw[h];exact hbf))).trans e
 .exact hR v' h'' tk'' hP' fun b o hbw hbS e=>hk'' b o hbw hbS ((Heap.get?_update_other _ _ (Ne.symm hbS)).trans (hk' b o hbw e))
end
section
variable{prog:Program}{w:World}{A:Around}{E:Value->Shared->Prop}{s:Shared}
theorem call_min_kw{x d:Value}{Q:Value->Shared->Prop}
  (h:wpAny (model prog w) A.in1 (pyIter x) (fun it s₂=>∃I fp wr n P St bt,it=.ref I/\Walks prog w A.in1 I fp wr n P St/\St 0 s₂.heap/\(∀b∈fp,b<s₂.heap.objs.size)/\0<n/\CmpOf prog w A.in1 .Lt P bt/\
   ∀v h' tk,P (argBest bt (n-1)) v->(∀b o,b∉wr->s₂.heap.get? b=some o->h'.get? b=some o)->Q v {s₂ with heap:=h',toks:=tk}) E s) :
  wpAny (model prog w) A (call (.builtin "min") [x] [(Str.ofString "default",d)]) Q E s:=by
 have nm:(toString "min" ++ toString ".loop" : String)="min.loop":=by decide
 refine wpAny_call (codeAny_call_builtin F.plain_min F.entry_min ?_)
 simp only[checkBuiltinCall,F.kind_min]
 have go:wpAny (model prog w) A.in1 (Builtin.«min» ⟨[x],[(Str.ofString "default",d)]⟩) (fun fin s'=>match fin with
   | .done f=>(match (Except.ok f:Result)with|.ok (.ret v)=>Q v s'|.ok _=>False|.error e=>E e s')
   | .again c'=>c'.quiet=true/\codeAny (model prog w) A c' (fun r s'=>match r with|.ok (.ret v)=>Q v s'|.ok _=>False|.error e=>E e s') s') E s:=by
  show wpAny _ A.in1 (Builtin.Builtins.bindParams "min" ["key","default"] 0 ⟨[],[(Str.ofString "default",d)]⟩ >>= _) _ _ s
  refine wpAny_bind (wpAny_of_eq (show Builtin.Builtins.bindParams "min" ["key","default"] 0 ⟨[],[(Str.ofString "default",d)]⟩=pure [none,some d]from rfl) ?_)
  refine wpAny_bind (wpAny_pure ?_)
  refine wpAny_bind (wpAny_mono h (fun it s₂ h₂=>?_) fun _ _ e=>e)
  obtain⟨I,fp,wr,n,P,St,bt,rfl,W,hst,hfp,hn,hcmp,hQ⟩:=h₂
  refine wpAny_bind (wpAny_newObj_type ?_)
  have hSf:s₂.heap.objs.size∉fp:=fun hm=>Nat.lt_irrefl _ (hfp _ hm)
  rw[nm]
  refine wpAny_pure ⟨plainId_quiet F.plain_min_loop _,min_firstK _ W bt hcmp s₂.heap.objs.size hSf hn (W.frame _ _ _ hst fun b _ o e=>Heap.get?_push_of_some _ e) (Heap.get?_push_size _ rfl) fun v h' tk hP hk=>?_⟩
  exact hQ v h' tk hP fun b o hbw e=>hk b o hbw (Nat.ne_of_lt (Heap.lt_size e)) (Heap.get?_push_of_some _ e)
 cases hsig:Manifest.signature? "min" with
 | none=>exact wpAny_pure go
 | some sig=>
  have ha':Bind.checkArgs "min" sig ⟨[x],[(Str.ofString "default",d)]⟩=pure ():=by
   have:=args_minD x d
   simpa only [argsOk,hsig]using this
  simp only[ha']
  exact wpAny_pure go
theorem min_listK{l:Addr}{d:Value}{vs:List Value}{ns:List Int}{Q:Value->Shared->Prop}(hh:A.handled=none)(hl:s.heap.IsList l vs.toArray)(hi:IntsAre vs ns)(hne:0<ns.length)
  (h:∀h' M (t:Tok) tk,(∀b o,s.heap.get? b=some o->h'.get? b=some o)->M∈ns->(∀a,a∈ns->M<=a)->Q (.int M t) {s with heap:=h',toks:=tk}) :
  wpAny (model prog w) A (call (.builtin "min") [.ref l] [(Str.ofString "default",d)]) Q E s:=by
 obtain⟨xs,e⟩:=hi.allInts.items
 have hns:ns=xs.toList.map (·.1):=by rw[<-hi.numsOf,<-nums_intItems,<-e]
 have hsz:0<xs.size:=by
  have h3:=hne;rw[hns,List.length_map,Array.length_toList]at h3;exact h3
 rw[e]at hl
 refine call_min_kw (iter_intList hl fun s₂ e st hfp hlI=>?_)
 subst e
 refine(x_EEEEE _ _ _ _ _ (x_EE _ _ ⟨rfl,Walks.list (A:=A.in1) hh _ l hlI (intItems xs),st,hfp,by simpa [intItems]using hsz,CmpOf.ints_lt (numAt xs) (fun _ _=>intItems_at),fun v h' tk hP hk=>?_⟩))
 have hv:(intItems xs)[argBest (fun i j=>decide (numAt xs i<numAt xs j)) (xs.size-1)]?=some v:=by simpa [intItems]using hP
 obtain⟨t,rfl⟩:=intItems_at hv
 obtain⟨h1,h2⟩:=argBest_lt (numAt xs) (xs.size-1)
 refine h _ _ t tk (old_kept hk) ?_ fun a ha=>?_
 .rw[hns,numAt_eq];exact getD_mem (by rw[List.length_map,Array.length_toList];omega)
 .rw[hns]at ha
  obtain⟨j,hj,rfl⟩:=mem_getD ha
  rw[List.length_map,Array.length_toList]at hj
  rw[<-numAt_eq];exact h2 j (by omega)
theorem min_list0{l:Addr}{vs:List Value}{ns:List Int}{Q:Value->Shared->Prop}(hh:A.handled=none)(hl:s.heap.IsList l vs.toArray)(hi:IntsAre vs ns)(hne:0<ns.length)
  (h:∀h' M (t:Tok) tk,(∀b o,s.heap.get? b=some o->h'.get? b=some o)->M∈ns->(∀a,a∈ns->M<=a)->Q (.int M t) {s with heap:=h',toks:=tk}) :
  wpAny (model prog w) A (call (.builtin "min") [.ref l]) Q E s:=by
 obtain⟨xs,e⟩:=hi.allInts.items
 have hns:ns=xs.toList.map (·.1):=by rw[<-hi.numsOf,<-nums_intItems,<-e]
 have hsz:0<xs.size:=by
  have h3:=hne;rw[hns,List.length_map,Array.length_toList]at h3;exact h3
 rw[e]at hl
 refine min_intList hh hl hsz fun v h' tk hv hk=>?_
 obtain⟨t,rfl⟩:=intItems_at hv
 obtain⟨h1,h2⟩:=argBest_lt (numAt xs) (xs.size-1)
 refine h _ _ t tk hk ?_ fun a ha=>?_
 .rw[hns,numAt_eq];exact getD_mem (by rw[List.length_map,Array.length_toList];omega)
 .rw[hns]at ha
  obtain⟨j,hj,rfl⟩:=mem_getD ha
  rw[List.length_map,Array.length_toList]at hj
  rw[<-numAt_eq];exact h2 j (by omega)
end
end L3
namespace L3
open PySem PySem.Spec PyProof.Rows L2
noncomputable def notStar:Expr->Bool
 | .Starred _ _=>false
 | _=>true
theorem star_cons{e:Expr}{es:List Expr}{env:Env}(h:notStar e=true):starEach (e::es) env=(false,eval e env)::starEach es env:=by
 cases e<;>first|rfl|exact absurd h Bool.false_ne_true
theorem star_none{pos:Pos}{env:Env}:∀{es:List Expr},es.all notStar=true->(backTo pos (starEach es env)).any (·.1)=false
 | [],_=>rfl
 | e::es,h=>by
  rw[List.all_cons,Bool.and_eq_true]at h
  rw[star_cons h.1]
  show(false||(backTo pos (starEach es env)).any (·.1))=false
  rw[star_none h.2]
  rfl
theorem pa_c{X:Cx}{e:Expr}{es:List Expr}{te:TE}{t:TA}(ha:PE X e te)(hr:PA X es t)(h:notStar e=true:=by rfl):PA X (e::es) (tCons te t):=pa_cons ha hr (star_cons h)
theorem pe_cB{X:Cx}{x:Str}{p pos:Pos}{e:Expr}{es:List Expr}{t:TA}{id:String}{r:List V->Hp->VK->Prop}(hc:CallR X (.builtin id) r)(hg:Gl X x)(hm:X.mg x=none)(hv:bootBuiltins x=some (.builtin id))(ha:PA X (e::es) t)
  (hn:x≠"__name__":=by decide) (hdb:(x==("__debug__" : Str))=false:=by decide) (h1:notStar e=true:=by rfl) (h2:es.all notStar=true:=by rfl):PE X (.Call (.Name x p) (e::es) [] pos) (tCB r t):=
 pe_callB hc hg hm hv ha hn hdb (star_cons h1) (star_none h2)
theorem pe_cT{X:Cx}{x:Str}{p pos:Pos}{e:Expr}{es:List Expr}{t:TA}{T:String}{r:List V->Hp->VK->Prop}(hc:CallR X (.type T) r)(hg:Gl X x)(hm:X.mg x=none)(hv:bootBuiltins x=some (.type T))(ha:PA X (e::es) t)
  (hn:x≠"__name__":=by decide) (hdb:(x==("__debug__" : Str))=false:=by decide) (h1:notStar e=true:=by rfl) (h2:es.all notStar=true:=by rfl):PE X (.Call (.Name x p) (e::es) [] pos) (tCB r t):=
 pe_callTy hc hg hm hv ha hn hdb (star_cons h1) (star_none h2)
theorem pi_r1{X:Cx}{tg a:Expr}{ta:TA}{p pos:Pos}(hg:Gl X "range")(hm:X.mg "range" = none)(ha:PA X [a] ta)(h:notStar a=true:=by rfl):PI X tg (.Call (.Name "range" p) [a] [] pos) (iRng1 ta):=
 pi_range1 hg hm ha (star_cons h)
theorem pi_r2{X:Cx}{tg a b:Expr}{ta:TA}{p pos:Pos}(hg:Gl X "range")(hm:X.mg "range" = none)(ha:PA X [a,b] ta)(h:notStar a=true:=by rfl)(h2:notStar b=true:=by rfl):PI X tg (.Call (.Name "range" p) [a,b] [] pos) (iRng2 ta):=
 pi_range2 hg hm ha (by rw[star_cons h,star_cons h2];rfl) (by rw[star_cons h2];rfl)
noncomputable def Fn(P:Program)(w:World)(K:PySem.W.Frag)(mg:Str->Option Value)(base:Heap)(x:Str)(k:Nat)(ps:List Str)(sp:Sp):Prop:=
 ∃f fd,FnOk P w K mg base CX0 k f fd ps sp/\mg x=some (.ref f)/\PySem.W.keepIn K (.ref f)=true/\Binds K fd ps []
section
variable{X:Cx}{k j:Nat}{ps:List Str}{sp:Sp}{x:Str}{p pos kpos:Pos}{e e2:Expr}{es:List Expr}{t tk:TA}{te:TE}
theorem pe_fn(F:Fn X.prog X.w X.K X.mg X.base x k ps sp)(hr:Room j X.A)(hk:k<=j)(hg:Gl X x)
  (ha:PA X (e::es) t) (hdb:(x==("__debug__" : Str))=false:=by decide) (h1:notStar e=true:=by rfl) (h2:es.all notStar=true:=by rfl) :
  PE X (.Call (.Name x p) (e::es) [] pos) (tCall sp [] E0 t):=by
 obtain⟨f,fd,F,m,kp,b⟩:=F
 exact pe_call F (hr.mono hk) hg m kp b .nil pass0 ha hdb (star_cons h1) (star_none h2)
noncomputable def rMin:List V->Hp->VK->Prop:=fun xs H Q=>∃q,∃ns:List Int,xs=[.ref q]/\H q=some (.lst (ns.map V.int))/\0<ns.length/\∀M,M∈ns->(∀a∈ns,M<=a)->Q (.int M) H
theorem call_minL(hc:X.calm=true):CallR X (.builtin "min") rMin:=by
 intro pins s σ H xs us Q I r h
 obtain⟨q,ns,rfl,hq,hn,h⟩:=h
 obtain⟨u,rfl,r1⟩:=vals1 r
 cases (show u=Value.ref q from r1)
 obtain⟨its,rv,pl,hz⟩:=I.list (SqL.of (K:=X.K) hq)
 exact min_list0 (I.ok.hd hc) pl.isList (intsAre_of rv) hn fun h' M t tk k h1 h2=>(x_EE (.int M) H ⟨I.kept k,⟨_,rfl⟩,h M h1 h2⟩)
noncomputable def tMinD(t tk:TA):TE:=fun σ H Q=>t σ H fun vs H1=>tk σ H1 fun zs H2=>zs.length=1/\rMin vs H2 Q
theorem pe_minD(hc:X.calm=true)(hg:Gl X "min")(hm:X.mg "min" = none)(ha:PA X [e] t)(hkw:PK X [⟨some "default",e2,kpos⟩] tk)
  (he:backTo pos (starEach [e] X.env)=(false,eval e X.env)::backTo pos (starEach [] X.env):=by rfl) (hpl:(backTo pos (starEach [e] X.env)).any (·.1)=false:=by rfl) :
  PE X (.Call (.Name "min" p) [e] [⟨some "default",e2,kpos⟩] pos) (tMinD t tk):=by
 intro pins s σ H Q I h
 refine wpAny_Call_Name_kw (ld_blt I hg hm boot_min ?_ (by decide) (by decide))
 refine callWith_kw (thn (ha pos pins s σ H _ I h) fun us s1 ⟨vs,H1,I1,r,q⟩=>thn (hkw pos pins s1 σ H1 _ I1 q) fun ws s2 ⟨zs,H2,I2,rz,hz1,q2⟩=>?_) he hpl
 obtain⟨d,rfl⟩:∃d,ws=[d]:=by
  have hl:ws.length=1:=rz.length.symm.trans hz1
  match ws,hl with
  | [d],_=>exact⟨d,rfl⟩
 obtain⟨l,ns,rfl,hq,hn,hQ⟩:=q2
 obtain⟨u,rfl,r1⟩:=vals1 r
 cases (show u=Value.ref l from r1)
 obtain⟨its,rv,pl,hz⟩:=I2.list (SqL.of (K:=X.K) hq)
 exact min_listK (I2.ok.hd hc) pl.isList (intsAre_of rv) hn fun h' M t tk k h1 h2=>(x_EE (.int M) H2 ⟨I2.kept k,⟨_,rfl⟩,hQ M h1 h2⟩)
end
theorem pg_tupC{X:Cx}{N:List Str}{scope:Scope}{z:CZ}{es:List Expr}{k:Nat}{pos:Pos}{t:TGs}{n:Nat}(hc:X.calm=true)(h:PGs (cxComp X N scope z) es t)
  (hn:(assignEach es (cxComp X N scope z).env).length=n:=by rfl) (hst:(assignEach es (cxComp X N scope z).env).findIdx? (·.1)=none:=by rfl):PG (cxComp X N scope z) (.Tuple es k pos) (gTup X.K n t):=
 pg_tup (X:=cxComp X N scope z) hc h hn hst
section
variable{X:Cx}{N:List Str}{scope:Scope}{z:CZ}
theorem ix_tupC:IxR (cxComp X N scope z) (rIxT X.K):=ix_tup (X:=cxComp X N scope z)
end
section
variable{K:PySem.W.Frag}{a D:Addr}{xs:List V}{sl:List (Option Nat)}{g:TG}{tt:TT}{te:TE}{σ:L2.St}{H1:Hp}{Q:VK}
noncomputable def Nx(D:Addr)(i:Nat)(Pv:Nat->List V->Hp->Prop):Hp->Prop:=fun H'=>∃ys,H' D=some (.lst ys)/\ys.length<=i+1/\Pv (i+1) ys H'
theorem nx_put{i:Nat}{Pv:Nat->List V->Hp->Prop}{H:Hp}{ys:List V}{y:V}(hi:i<1000)(hD:H D=some (.lst ys))(hl:ys.length<=i)(h:Pv (i+1) (ys++[y]) (upd H D (.lst (ys++[y])))) :
  ∃xs,H D=some (.lst xs)/\xs.length<sizeLine/\Nx D i Pv (upd H D (.lst (xs++[y]))):=
 (x_EAAE ys hD (small1000 (by omega)) (ys++[y]) ⟨upd_same,by rw[List.length_append,List.length_singleton];omega,h⟩)
theorem comp_by(J:It)(n:Nat)(Pv:Nat->List V->Hp->Prop)(h0:Pv 0 [] (upd H1 D (.lst [])))
  (hgo:∀i ys H,i<n->Pv i ys H->J.go i H) (hst:∀ys H,Pv n ys H->J.stop n H)
  (hs:∀i x ys H H',i<n->J.yld i H x H'->H D=some (.lst ys)->ys.length<=i->Pv i ys H->g x (picks sl σ) H' fun σ2 H2=>Agree (picks sl σ) σ2/\tt σ2 H2 fun b H3=>
   if b=true then te σ2 H3 fun y H4=>∃xs,H4 D=some (.lst xs)/\xs.length<sizeLine/\Nx D i Pv (upd H4 D (.lst (xs++[y])))else Nx D i Pv H3)
  (hd:∀ys H,H D=some (.lst ys)->ys.length<=n->Pv n ys H->Q (.ref D) H):CompR J sl g tt te σ H1 D Q:=by
 refine⟨fun i m H=>m=n-i/\i<=n/\∃ys,H D=some (.lst ys)/\ys.length<=i/\Pv i ys H,(x_EAAE n (by simp) (Nat.zero_le _) ([]) ⟨upd_same,Nat.le_refl _,h0⟩),?_⟩
 rintro i m H ⟨rfl,hi,ys,hy,hl,p⟩
 by_cases hlt:i<n
 .refine .inr ⟨hgo i ys H hlt p,Nx D i Pv,fun H' ⟨ys',e1,e2,e3⟩=>⟨n-(i+1),by omega,rfl,hlt,ys',e1,e2,e3⟩,fun x H' y=>hs i x ys H H' hlt y hy hl p⟩
 .have e:i=n:=by omega
  subst e
  exact .inl ⟨hst ys H p,hd ys H hy hl p⟩
theorem comp_list(Pv:Nat->List V->Hp->Prop)(h0:Pv 0 [] (upd H1 D (.lst [])))(hl:∀i ys H,Pv i ys H->SqL K H a xs)
  (hs:∀i x ys H,xs[i]?=some x->i<xs.length->H D=some (.lst ys)->ys.length<=i->Pv i ys H->g x (picks sl σ) H fun σ2 H2=>Agree (picks sl σ) σ2/\tt σ2 H2 fun b H3=>
   if b=true then te σ2 H3 fun y H4=>∃xs,H4 D=some (.lst xs)/\xs.length<sizeLine/\Nx D i Pv (upd H4 D (.lst (xs++[y])))else Nx D i Pv H3)
  (hd:∀ys H,H D=some (.lst ys)->ys.length<=xs.length->Pv xs.length ys H->Q (.ref D) H):CompR (Itl K a) sl g tt te σ H1 D Q:=by
 refine comp_by (Itl K a) xs.length Pv h0 (fun i ys H hi p=>(x_EE xs (xs[i]) ⟨hl i ys H p,by simp[hi]⟩)) (fun ys H p=>⟨xs,hl _ ys H p,Nat.le_refl _⟩) (fun i x ys H H' hi y hD hyl p=>?_) hd
 obtain⟨e,y⟩:=y
 subst e
 exact hs i x ys _ (y xs (hl i ys _ p)) hi hD hyl p
theorem comp_tup(Pv:Nat->List V->Hp->Prop)(h0:Pv 0 [] (upd H1 D (.lst [])))(hl:∀i ys H,Pv i ys H->SqT K H a xs)
  (hs:∀i x ys H,xs[i]?=some x->i<xs.length->H D=some (.lst ys)->ys.length<=i->Pv i ys H->g x (picks sl σ) H fun σ2 H2=>Agree (picks sl σ) σ2/\tt σ2 H2 fun b H3=>
   if b=true then te σ2 H3 fun y H4=>∃xs,H4 D=some (.lst xs)/\xs.length<sizeLine/\Nx D i Pv (upd H4 D (.lst (xs++[y])))else Nx D i Pv H3)
  (hd:∀ys H,H D=some (.lst ys)->ys.length<=xs.length->Pv xs.length ys H->Q (.ref D) H):CompR (Itt K a) sl g tt te σ H1 D Q:=by
 refine comp_by (Itt K a) xs.length Pv h0 (fun i ys H hi p=>(x_EE xs (xs[i]) ⟨hl i ys H p,by simp[hi]⟩)) (fun ys H p=>⟨xs,hl _ ys H p,Nat.le_refl _⟩) (fun i x ys H H' hi y hD hyl p=>?_) hd
 obtain⟨e,y⟩:=y
 subst e
 exact hs i x ys _ (y xs (hl i ys _ p)) hi hD hyl p
theorem comp_range{lo:Int}{n:Nat}(Pv:Nat->List V->Hp->Prop)(h0:Pv 0 [] (upd H1 D (.lst [])))
  (hs:∀i ys H,i<n->H D=some (.lst ys)->ys.length<=i->Pv i ys H->g (.int (lo+i)) (picks sl σ) H fun σ2 H2=>Agree (picks sl σ) σ2/\tt σ2 H2 fun b H3=>
   if b=true then te σ2 H3 fun y H4=>∃xs,H4 D=some (.lst xs)/\xs.length<sizeLine/\Nx D i Pv (upd H4 D (.lst (xs++[y])))else Nx D i Pv H3)
  (hd:∀ys H,H D=some (.lst ys)->ys.length<=n->Pv n ys H->Q (.ref D) H):CompR (Itr lo n) sl g tt te σ H1 D Q:=by
 refine comp_by (Itr lo n) n Pv h0 (fun i ys H hi p=>hi) (fun ys H p=>Nat.le_refl _) (fun i x ys H H' hi y hD hyl p=>?_) hd
 obtain⟨e,e2⟩:=y
 subst e e2
 exact hs i ys _ hi hD hyl p
end
noncomputable def Ex(W:List Addr)(H H':Hp):Prop:=∀b o,b∉W->H b=some o->H' b=some o
theorem Ex.refl(W:List Addr)(H:Hp):Ex W H H:=fun _ _ _ h=>h
theorem Ex.trans{W:List Addr}{H H1 H2:Hp}(a:Ex W H H1)(b:Ex W H1 H2):Ex W H H2:=fun c o hc h=>b c o hc (a c o hc h)
theorem Ex.of_same{W:List Addr}{H H':Hp}(a:Same H H'):Ex W H H':=fun c o _ h=>a c o h
theorem Ex.fresh{W:List Addr}{H:Hp}{p:Addr}{o:HO}(h:H p=none):Ex W H (upd H p o):=fun b u _ q=>by rw[upd_ne (ne_of_none q h)];exact q
theorem Ex.upd{W:List Addr}{H:Hp}{p:Addr}{o:HO}(h:p∈W):Ex W H (upd H p o):=fun b u hb q=>by rw[upd_ne (show b≠p from fun e=>hb (by rw[e];exact h))];exact q
theorem Ex.new{W:List Addr}{H H':Hp}{p:Addr}{o:HO}(a:Ex W H H')(h:H p=none):Ex W H (L2.upd H' p o):=fun b u hb q=>by rw[upd_ne (ne_of_none q h)];exact a b u hb q
theorem Ex.tk{W:List Addr}{H H':Hp}(a:Ex W H H')(h:∀b∈W,∃xs,H b=some (.lst xs)):Tk H H':=fun b xs q=>a b _ (fun hb=>by
 obtain⟨ys,e⟩:=h b hb
 rw[q]at e;cases e) q
theorem Ex.one{st:Addr}{H H':Hp}{xs:List V}(a:Ex [st] H H')(h:H st=some (.lst xs)):Tk H H':=a.tk fun b hb=>⟨xs,by rw[List.mem_singleton.mp hb];exact h⟩
theorem Ex.at{st:Addr}{H H':Hp}{b:Addr}{o:HO}(a:Ex [st] H H')(hb:b≠st)(h:H b=some o):H' b=some o:=a b o (by simpa using hb) h
theorem upd_none{H:Hp}{p b:Addr}{o:HO}(h:upd H p o b=none):b≠p/\H b=none:=by
 by_cases e:b=p
 .subst e;rw[upd_same]at h;cases h
 .rw[upd_ne e]at h;exact⟨e,h⟩
theorem _root_.L2.Same.new{H H':Hp}{p:Addr}{o:HO}(a:Same H H')(h:H p=none):Same H (upd H' p o):=fun b u q=>by rw[upd_ne (ne_of_none q h)];exact a b u q
theorem _root_.L2.Same.fresh{H:Hp}{p:Addr}(o:HO)(h:H p=none):Same H (upd H p o):=(Same.refl H).new h
noncomputable def Cells(cs:List PyData):Prop:=∀d∈cs,∃r c:Int,d=.tuple [.int r,.int c]
noncomputable def Spots(ds:List PyData):Prop:=∀d∈ds,∃(r c:Int) (x:Str),d=.tuple [.int r,.int c,.str x]
theorem immAll_of:∀{ds:List PyData},(∀d∈ds,imm d=true)->immAll ds=true
 | [],_=>rfl
 | d::ds,h=>by
  show(imm d&&immAll ds)=true
  rw[h d List.mem_cons_self,immAll_of fun e he=>h e (List.mem_cons_of_mem _ he)]
  rfl
theorem Cells.imm{cs:List PyData}(h:Cells cs):immAll cs=true:=immAll_of fun d hd=>by obtain⟨r,c,rfl⟩:=h d hd;rfl
theorem Spots.imm{ds:List PyData}(h:Spots ds):immAll ds=true:=immAll_of fun d hd=>by obtain⟨r,c,x,rfl⟩:=h d hd;rfl
theorem rep_cell{H:Hp}{r c:Int}{v:V}(h:Rep H (.tuple [.int r,.int c]) v):∃a,v=.ref a/\H a=some (.tup [.int r,.int c]):=by
 obtain⟨a,xs,e,ha,x1,r1,e1,h1,x2,r2,e2,h2,e3⟩:=h
 cases (show x1=.int r from h1);cases (show x2=.int c from h2);cases (show r2=[]from e3)
 subst e1 e2
 exact⟨a,e,ha⟩
theorem rep_spot{H:Hp}{r c:Int}{x:Str}{v:V}(h:Rep H (.tuple [.int r,.int c,.str x]) v):∃a,v=.ref a/\H a=some (.tup [.int r,.int c,.str x])/\PyData.strOk x=true:=by
 obtain⟨a,xs,e,ha,x1,r1,e1,h1,x2,r2,e2,h2,x3,r3,e3,h3,e4⟩:=h
 cases (show x1=.int r from h1);cases (show x2=.int c from h2);cases (show x3=.str x from h3.1);cases (show r3=[]from e4)
 subst e1 e2 e3
 exact⟨a,e,ha,h3.2⟩
theorem cell_rep{H:Hp}{a:Addr}{r c:Int}(h:H a=some (.tup [.int r,.int c])):Rep H (.tuple [.int r,.int c]) (.ref a):=(x_EEAAEEAAE a _ rfl h _ _ rfl rfl _ ⟨_,rfl,rfl,rfl⟩)
theorem spot_rep{H:Hp}{a:Addr}{r c:Int}{x:Str}(h:H a=some (.tup [.int r,.int c,.str x]))(hx:PyData.strOk x=true):Rep H (.tuple [.int r,.int c,.str x]) (.ref a):=
 (x_EEAAEEAAE a _ rfl h _ _ rfl rfl _ (x_EAAE _ rfl rfl _ ⟨_,rfl,⟨rfl,hx⟩,rfl⟩))
theorem Spots.at{H:Hp}{ds:List PyData}{xs:List V}{i:Nat}{v:V}(h:Spots ds)(r:RepAll H ds xs)(e:xs[i]?=some v) :
  ∃(a:Addr) (p q:Int) (x:Str),v=.ref a/\H a=some (.tup [.int p,.int q,.str x])/\PyData.strOk x=true/\ds[i]?=some (.tuple [.int p,.int q,.str x]):=by
 obtain⟨d,e1,e2⟩:=r.at e
 obtain⟨p,q,x,rfl⟩:=h d (List.mem_of_getElem? e1)
 obtain⟨a,e3,e4,e5⟩:=rep_spot e2
 exact(x_EEEE a p q x ⟨e3,e4,e5,e1⟩)
noncomputable def row1:PyData->Int
 | .tuple (.int r::_)=>r
 | _=>0
noncomputable def col1:PyData->Int
 | .tuple (_::.int c::_)=>c
 | _=>0
noncomputable def minI:List Int->Int
 | []=>0
 | [a]=>a
 | a::b::r=>if a<=minI (b::r)then a else minI (b::r)
theorem minI_mem:∀{ns:List Int},0<ns.length->minI ns∈ns
 | [],h=>by simp at h
 | [a],_=>by simp[minI]
 | a::b::r,_=>by
  unfold minI
  split
  .exact List.mem_cons_self
  .exact List.mem_cons_of_mem _ (minI_mem (by simp))
theorem minI_le:∀{ns:List Int},∀a∈ns,minI ns<=a
 | [],a,h=>by cases h
 | [a],b,h=>by
  have e:b=a:=by simpa using h
  rw[e];exact Int.le_refl _
 | a::b::r,x,h=>by
  unfold minI
  rcases List.mem_cons.mp h with e|h
  .rw[e]
   split
   .exact Int.le_refl _
   .omega
  .have:=minI_le (ns:=b::r) x h
   split
   .omega
   .exact this
theorem minI_eq{ns:List Int}{M:Int}(h1:M∈ns)(h2:∀a∈ns,M<=a):M=minI ns:=by
 have hp:0<ns.length:=List.length_pos_of_mem h1
 have a1:=h2 _ (minI_mem hp)
 have a2:=minI_le M h1
 omega
noncomputable def shift1(t l:Int):PyData->PyData
 | .tuple [.int r,.int c,.str x]=>.tuple [.int (r-t),.int (c-l),.str x]
 | d=>d
noncomputable def shiftD(ds:List PyData):List PyData:=ds.map (shift1 (minI (ds.map row1)) (minI (ds.map col1)))
section
variable{K:PySem.W.Frag}{a:Addr}{xs:List V}{ds:List PyData}{σ:L2.St}{H:Hp}{Q:VK}
theorem map_take_succ{α β:Type}(f:α->β){l:List α}{i:Nat}{x:α}(h:l[i]?=some x):(l.take (i+1)).map f=(l.take i).map f++[f x]:=by
 rw[List.take_add_one,h]
 simp
theorem read_proj(j:Int)(pr:PyData->Int)(hj:∀(r c:Int) (x:Str),atI [V.int r,.int c,.str x] j=some (.int (pr (.tuple [.int r,.int c,.str x]))))
  (hσ:σ[0]?=some (some (.ref a))) (ha:H a=some (.lst xs)) (hr:RepAll H ds xs) (hs:Spots ds) (hl:ds.length<64)
  (q:∀D H',Same H H'->H' D=some (.lst ((ds.map pr).map V.int))->Q (.ref D) H') :
  tComp (iList K (tVar 0)) [none] (gName 0) tYes (tOp (rIxT K) (tVar 0) (tC (.int j))) σ H Q:=by
 have hlen:=hr.length
 refine(x_EAE _ hσ a ⟨rfl,⟨_,SqL.of ha⟩,fun D hD=>?_⟩)
 refine comp_list (xs:=xs) (fun i ys H'=>Same H H'/\ys=((ds.take i).map pr).map V.int) ⟨Same.fresh _ hD,rfl⟩ (fun i ys H' p=>SqL.of (p.1 _ _ ha)) (fun i x ys H' hx hi hDy hyl p=>?_) (fun ys H' hDy hyl p=>?_)
 .obtain⟨p1,rfl⟩:=p
  obtain⟨b,r,c,z,rfl,hb,hz,hd⟩:=hs.at hr hx
  refine⟨Agree.set (Agree.refl _) rfl,?_⟩
  dsimp only[tYes]
  refine iteT ?_
  refine(x_EAEEEE _ rfl b _ _ _ ⟨rfl,rfl,SqT.of (p1 _ _ hb),hj r c z,nx_put (by omega) hDy hyl ⟨p1.new hD,?_⟩⟩)
  rw[map_take_succ pr hd,List.map_append]
  rfl
 .obtain⟨p1,rfl⟩:=p
  refine q D H' p1 ?_
  rw[hDy,List.take_of_length_le (by omega)]
theorem read_shift{t l:Int}(hσ:σ[0]?=some (some (.ref a)))(h1:σ[1]?=some (some (.int t)))(h2:σ[2]?=some (some (.int l)))(ha:H a=some (.lst xs))(hr:RepAll H ds xs)(hs:Spots ds)(hl:ds.length<64)
  (q:∀D ys H',Same H H'->H' D=some (.lst ys)->RepAll H' (ds.map (shift1 t l)) ys->Q (.ref D) H') :
  tComp (iList K (tVar 0)) [none,none,none,some 1,some 2] (gTup K 3 (gCons (gName 0) (gCons (gName 1) (gCons (gName 2) gNil)))) tYes
   (tTup (tCons (tOp (rI0 fun i j=>.int (i-j)) (tVar 0) (tVar 3)) (tCons (tOp (rI0 fun i j=>.int (i-j)) (tVar 1) (tVar 4)) (tCons (tVar 2) tNil)))) σ H Q:=by
 have hlen:=hr.length
 refine(x_EAE _ hσ a ⟨rfl,⟨_,SqL.of ha⟩,fun D hD=>?_⟩)
 have hp:picks [none,none,none,some 1,some 2] σ=[none,none,none,some (.int t),some (.int l)]:=by
  unfold picks
  simp[h1,h2]
 refine comp_list (xs:=xs) (fun i ys H'=>Same H H'/\RepAll H' ((ds.take i).map (shift1 t l)) ys) ⟨Same.fresh _ hD,rfl⟩ (fun i ys H' p=>SqL.of (p.1 _ _ ha)) (fun i x ys H' hx hi hDy hyl p=>?_) (fun ys H' hDy hyl p=>?_)
 .obtain⟨p1,p2⟩:=p
  obtain⟨b,r,c,z,rfl,hb,hz,hd⟩:=hs.at hr hx
  rw[hp]
  refine(x_EEAAAEEAE b _ rfl (SqT.of (p1 _ _ hb)) rfl _ _ rfl _ (x_EAEE _ rfl _ _ ⟨rfl,rfl,?_⟩))
  refine⟨Agree.set (Agree.set (Agree.set (Agree.refl _) rfl) rfl) rfl,?_⟩
  dsimp only[tYes]
  refine iteT ?_
  refine(x_EAEAEEAAE _ rfl _ rfl _ _ rfl rfl _ ⟨rfl,(x_EAEEAAE _ rfl _ _ rfl rfl _ ⟨rfl,(by show 3<=sizeLine;decide),fun n hn=>?_⟩)⟩)
  have hnD:D≠n:=fun e=>by rw[<-e,hDy]at hn;cases hn
  have hnH:H n=none:=p1.free hn
  have im:immAll (((ds.take i).map (shift1 t l))++[.tuple [.int (r-t),.int (c-l),.str z]])=true:=immAll_of fun d hd'=>by
   rcases List.mem_append.mp hd' with h|h
   .obtain⟨d0,h0,rfl⟩:=List.mem_map.mp h
    obtain⟨r0,c0,x0,rfl⟩:=hs d0 (List.mem_of_mem_take h0)
    rfl
   .rw[List.mem_singleton.mp h];rfl
  have hDn:upd H' n (.tup [.int (r-t),.int (c-l),.str z]) D=some (.lst ys):=by rw[upd_ne hnD];exact hDy
  have hs1:Same H' (upd H' n (.tup [.int (r-t),.int (c-l),.str z])):=Same.fresh _ hn
  have hs2:RepAll (upd H' n (.tup [.int (r-t),.int (c-l),.str z])) (((ds.take i).map (shift1 t l))++[.tuple [.int (r-t),.int (c-l),.str z]]) (ys++[.ref n]):=(p2.same hs1).snoc (spot_rep upd_same hz)
  refine nx_put (by omega) hDn hyl ⟨(p1.trans hs1).new hD,?_⟩
  rw[map_take_succ (shift1 t l) hd]
  exact hs2.tk (Tk.lst hDn) im
 .obtain⟨p1,p2⟩:=p
  rw[List.take_of_length_le (by omega)]at p2
  exact q D ys H' p1 hDy p2
end
theorem shift_rows{ds:List PyData}(hs:Spots ds)(t l:Int):Rows [true,false] (ds.map (shift1 t l)):=fun d hd=>by
 obtain⟨e,he,rfl⟩:=List.mem_map.mp hd
 obtain⟨r,c,x,rfl⟩:=hs e he
 exact(x_EAEE _ rfl _ _ ⟨rfl,(x_EE _ _ ⟨rfl,(x_EE _ _ ⟨rfl,rfl⟩)⟩)⟩)
noncomputable def sLt(x y:Str):Bool:=decide (x.cps.toList<y.cps.toList)
theorem sLt_asy{x y:Str}(h:sLt x y=true):sLt y x=false:=by
 have h':x.cps.toList<y.cps.toList:=of_decide_eq_true h
 exact decide_eq_false (List.lt_asymm h')
theorem sLt_tr{a b c:Str}(h1:sLt b a=false)(h2:sLt c b=false):sLt c a=false:=by
 have h1':a.cps.toList<=b.cps.toList:=of_decide_eq_false h1
 have h2':b.cps.toList<=c.cps.toList:=of_decide_eq_false h2
 exact decide_eq_false (List.le_trans h1' h2')
theorem sLt_eq{a b:Str}(h1:sLt a b=false)(h2:sLt b a=false):a=b:=by
 have h1':b.cps.toList<=a.cps.toList:=of_decide_eq_false h1
 have h2':a.cps.toList<=b.cps.toList:=of_decide_eq_false h2
 have e:=List.le_antisymm h2' h1'
 cases a;cases b
 simp only at e
 congr
 exact Array.ext' e
theorem rl_int(i j:Int)(r r':List PyData):rowLt (.int i::r) (.int j::r')=if i=j then rowLt r r' else decide (i<j):=by
 show(if (i==j)=true then rowLt r r' else decide (i<j))=_
 by_cases h:i=j
 .rw[if_pos h,if_pos (by rw[h];simp)]
 .rw[if_neg h,if_neg (by simpa using h)]
theorem rl_str(x y:Str)(r r':List PyData):rowLt (.str x::r) (.str y::r')=if x=y then rowLt r r' else sLt x y:=by
 show(if (x==y)=true then rowLt r r' else decide (x.cps.toList<y.cps.toList))=_
 by_cases h:x=y
 .rw[if_pos h,if_pos (by rw[h];simp)]
 .rw[if_neg h,if_neg (by simpa using h)]
  rfl
theorem rl_asy:∀{ks:List Bool} {xs ys:List PyData},Row ks xs->Row ks ys->rowLt xs ys=true->rowLt ys xs=false
 | [],xs,ys,h1,h2,h=>by
  cases (show xs=[]from h1);cases (show ys=[]from h2)
  rfl
 | true::ks,xs,ys,h1,h2,h=>by
  obtain⟨i,r,rfl,h1⟩:=h1
  obtain⟨j,r',rfl,h2⟩:=h2
  rw[rl_int]at h⊢
  by_cases e:i=j
  .rw[if_pos e]at h;rw[if_pos e.symm];exact rl_asy h1 h2 h
  .rw[if_neg e]at h;rw[if_neg (Ne.symm e)]
   have:=of_decide_eq_true h
   exact decide_eq_false (by omega)
 | false::ks,xs,ys,h1,h2,h=>by
  obtain⟨i,r,rfl,h1⟩:=h1
  obtain⟨j,r',rfl,h2⟩:=h2
  rw[rl_str]at h⊢
  by_cases e:i=j
  .rw[if_pos e]at h;rw[if_pos e.symm];exact rl_asy h1 h2 h
  .rw[if_neg e]at h;rw[if_neg (Ne.symm e)]
   exact sLt_asy h
theorem rl_tr:∀{ks:List Bool} {a b c:List PyData},Row ks a->Row ks b->Row ks c->rowLt b a=false->rowLt c b=false->rowLt c a=false
 | [],a,b,c,h1,h2,h3,h4,h5=>by
  cases (show a=[]from h1);cases (show c=[]from h3)
  rfl
 | true::ks,a,b,c,h1,h2,h3,h4,h5=>by
  obtain⟨i,r,rfl,h1⟩:=h1
  obtain⟨j,r',rfl,h2⟩:=h2
  obtain⟨k,r'',rfl,h3⟩:=h3
  rw[rl_int]at h4 h5⊢
  by_cases e1:j=i
  .rw[if_pos e1]at h4
   by_cases e2:k=j
   .rw[if_pos e2]at h5;rw[if_pos (e2.trans e1)];exact rl_tr h1 h2 h3 h4 h5
   .rw[if_neg e2]at h5;rw[if_neg (by omega)]
    have:=of_decide_eq_false h5
    exact decide_eq_false (by omega)
  .rw[if_neg e1]at h4
   have q1:=of_decide_eq_false h4
   by_cases e2:k=j
   .rw[if_neg (by omega)];exact decide_eq_false (by omega)
   .rw[if_neg e2]at h5
    have q2:=of_decide_eq_false h5
    rw[if_neg (by omega)];exact decide_eq_false (by omega)
 | false::ks,a,b,c,h1,h2,h3,h4,h5=>by
  obtain⟨i,r,rfl,h1⟩:=h1
  obtain⟨j,r',rfl,h2⟩:=h2
  obtain⟨k,r'',rfl,h3⟩:=h3
  rw[rl_str]at h4 h5⊢
  by_cases e1:j=i
  .rw[if_pos e1]at h4
   by_cases e2:k=j
   .rw[if_pos e2]at h5;rw[if_pos (e2.trans e1)];exact rl_tr h1 h2 h3 h4 h5
   .rw[if_neg e2]at h5;rw[if_neg (by rw[<-e1];exact e2),<-e1];exact h5
  .rw[if_neg e1]at h4
   by_cases e2:k=j
   .rw[if_neg (by rw[e2];exact e1),e2];exact h4
   .rw[if_neg e2]at h5
    by_cases e3:k=i
    .subst e3
     exact absurd (sLt_eq h5 h4) e2
    .rw[if_neg e3];exact sLt_tr h4 h5
theorem row_ord{ks0:List Bool}{ds:List PyData}(h:Rows ks0 ds):Ord (ltAtD ds):=by
 obtain⟨ks,hks,hk⟩:∃ks,ks=true::ks0/\ks≠[]:=⟨_,rfl,by simp⟩
 have at':∀i,rowOf (ds.getD i .none)=[]\/Row ks (rowOf (ds.getD i .none)):=fun i=>by
  by_cases hi:i<ds.length
  .right
   have e:ds.getD i .none=ds[i]:=by simp[List.getD,hi]
   obtain⟨r,e2,hr⟩:=h ds[i] (List.getElem_mem hi)
   rw[e,e2,hks]
   exact hr
  .left
   have e:ds.getD i .none=.none:=by simp[List.getD,List.getElem?_eq_none (Nat.le_of_not_lt hi)]
   rw[e];rfl
 have ne:∀{r:List PyData},Row ks r->∃x xs,r=x::xs:=fun{r} hr=>by
  match ks,hk,hr with
  | true::ks,_,⟨i,r,e,_⟩=>exact⟨_,_,e⟩
  | false::ks,_,⟨i,r,e,_⟩=>exact⟨_,_,e⟩
 refine⟨fun a b hab=>?_,fun a b c h1 h2=>?_⟩
 .show rowLt (rowOf (ds.getD b .none)) (rowOf (ds.getD a .none))=false
  have hab':rowLt (rowOf (ds.getD a .none)) (rowOf (ds.getD b .none))=true:=hab
  rcases at' a with ea|ea<;>rcases at' b with eb|eb
  .rw[ea,eb];rfl
  .obtain⟨x,xs,e⟩:=ne eb
   rw[ea,e];rfl
  .obtain⟨x,xs,e⟩:=ne ea
   rw[e,eb]at hab';cases hab'
  .exact rl_asy ea eb hab'
 .show rowLt (rowOf (ds.getD c .none)) (rowOf (ds.getD a .none))=false
  have h1':rowLt (rowOf (ds.getD b .none)) (rowOf (ds.getD a .none))=false:=h1
  have h2':rowLt (rowOf (ds.getD c .none)) (rowOf (ds.getD b .none))=false:=h2
  rcases at' a with ea|ea
  .rw[ea]
   rcases at' c with ec|ec
   .rw[ec];rfl
   .obtain⟨x,xs,e⟩:=ne ec
    rw[e];rfl
  .obtain⟨x,xs,e⟩:=ne ea
   rcases at' b with eb|eb
   .rw[eb,e]at h1';cases h1'
   .obtain⟨y,ys,e2⟩:=ne eb
    rcases at' c with ec|ec
    .rw[ec,e2]at h2';cases h2'
    .exact rl_tr ea eb ec h1' h2'
section
open PySem.W PySem.Calls
noncomputable def OkQ(n:Nat)(p:Array Nat):Prop:=OkP n p/\p.Perm (List.toArray (List.range n))
theorem OkQ.get{n:Nat}{p:Array Nat}(h:OkQ n p)(hn:0<n)(i:Nat):p.getD i 0<n:=h.1.get hn i
theorem OkQ.perm{n:Nat}{p q:Array Nat}(h:OkQ n p)(e:q.Perm p):OkQ n q:=⟨h.1.perm e,e.trans h.2⟩
theorem OkQ.rev{n:Nat}{p:Array Nat}(h:OkQ n p)(i j:Nat):OkQ n (kas_rev p i j):=h.perm (mirror_perm _ _ _ _)
theorem OkQ.bub{n:Nat}{p:Array Nat}(h:OkQ n p)(i j:Nat):OkQ n (bubble p i j):=h.perm (bubble_perm _ _ _)
section
variable{n:Nat}
theorem postQ_asc(hn:0<n){p:Array Nat}(hp:OkQ n p):∀(f m:Nat),PostT n (fun _=>True) (kas_asc p f m)
 | 0,m=>trivial
 | f+1,m=>⟨hp.get hn _,hp.get hn _,fun b=>by
   cases b with
   | true=>exact trivial
   | false=>exact postQ_asc hn hp f (m+1)⟩
theorem postQ_desc(hn:0<n):∀(f:Nat) (p:Array Nat) (m q:Nat),OkQ n p->PostT n (fun r:Array Nat×Nat×Nat=>OkQ n r.1) (kas_desc f p m q)
 | 0,p,m,q,hp=>hp
 | f+1,p,m,q,hp=>⟨hp.get hn _,hp.get hn _,fun b=>by
   cases b with
   | true=>
    show PostT n _ (if q>0 then _ else _)
    split
    .exact postQ_desc hn f _ _ _ (hp.rev _ _)
    .exact postQ_desc hn f _ _ _ hp
   | false=>
    refine⟨hp.get hn _,hp.get hn _,fun b=>?_⟩
    cases b with
    | true=>exact hp
    | false=>exact postQ_desc hn f _ _ _ hp⟩
theorem postQ_tail3(hn:0<n){m r:Nat}{p:Array Nat}(hp:OkQ n p):PostT n (fun r:Nat×Array Nat=>OkQ n r.2) (kas_tail3 m r p):=
 PostT.bind (postQ_asc hn (hp.rev _ _) _ _) fun _ _=>hp.rev _ _
theorem postQ_descPart(hn:0<n){m r:Nat}{p:Array Nat}(hp:OkQ n p):PostT n (fun r:Nat×Array Nat=>OkQ n r.2) (kas_descPart m r p):=
 PostT.bind (postQ_desc hn _ _ _ _ hp) fun a ha=>by
  split
  .exact postQ_tail3 hn (ha.rev _ _)
  .exact postQ_tail3 hn ha
theorem postQ_count(hn:0<n){r:Nat}{p:Array Nat}(hp:OkQ n p):PostT n (fun r:Nat×Array Nat=>OkQ n r.2) (kas_count r p):=
 PostT.bind (postQ_asc hn hp _ _) fun a _=>by
  split
  .exact hp
  .split
   .refine⟨hp.get hn _,hp.get hn _,fun b=>?_⟩
    cases b with
    | true=>exact hp
    | false=>exact postQ_descPart hn (hp.rev _ _)
   .exact postQ_descPart hn hp
theorem postQ_place(hn:0<n){p:Array Nat}(hp:OkQ n p)(k:Nat):∀(f l r:Nat),PostT n (fun _=>True) (kas_place p k f l r)
 | 0,l,r=>trivial
 | f+1,l,r=>by
  unfold kas_place
  split
  .exact trivial
  .refine⟨hp.get hn _,hp.get hn _,fun b=>?_⟩
   cases b with
   | true=>exact postQ_place hn hp k f _ _
   | false=>exact postQ_place hn hp k f _ _
theorem postQ_bin(hn:0<n):∀(f:Nat) (p:Array Nat) (k:Nat),OkQ n p->PostT n (OkQ n) (kas_bin f p k)
 | 0,p,k,hp=>hp
 | f+1,p,k,hp=>PostT.bind (postQ_place hn hp k _ _ _) fun l _=>postQ_bin hn f _ _ (hp.bub _ _)
theorem postQ_sort(hn:0<n):PostT n (OkQ n) (kas_sort n):=by
 have h0:OkQ n (List.toArray (List.range n)):=⟨⟨by simp,fun x hx=>by simpa using hx⟩,.refl _⟩
 refine PostT.bind (postQ_count hn h0) fun a ha=>?_
 split
 .exact postQ_bin hn _ _ _ ha
 .exact ha
end
theorem srt_perm(lt:Nat->Nat->Bool)(n:Nat):(srt lt n).Perm (List.range n):=by
 unfold srt
 split
 .exact .refl _
 .have h:=(PostT.run lt (postQ_sort (n:=n) (by omega))).2
  simpa using h.toList
theorem srt_up{lt:Nat->Nat->Bool}(o:Ord lt)(n:Nat){i j:Nat}(h1:i<=j)(h2:j<n):lt ((srt lt n).getD j 0) ((srt lt n).getD i 0)=false:=by
 unfold srt
 split
 .have e1:i=0:=by omega
  have e2:j=0:=by omega
  rw[e1,e2];exact o.irr _
 .have h:=(run_sort o (N:=n) (by omega)).2 i j h1 h2
  have e:∀k,(runT lt (kas_sort n)).toList.getD k 0=(runT lt (kas_sort n)).getD k 0:=fun k=>by
   rw[Array.getD_eq_getD_getElem?,List.getD_eq_getElem?_getD];simp
  rw[e,e]
  exact h
end
theorem map_range_getD(ds:List PyData):((List.range ds.length).map fun i=>ds.getD i .none)=ds:=by
 apply List.ext_getElem
 .simp
 .intro i h1 h2
  simp[List.getD,h2]
theorem sortD_perm(ds:List PyData):(sortD ds).Perm ds:=by
 have h:=(srt_perm (ltAtD ds) ds.length).map fun i=>ds.getD i .none
 rw[map_range_getD]at h
 exact h
theorem sortD_up{ks:List Bool}{ds:List PyData}(h:Rows ks ds){i j:Nat}{x y:PyData}(hx:(sortD ds)[i]?=some x)(hy:(sortD ds)[j]?=some y)(hij:i<=j):rowLt (rowOf y) (rowOf x)=false:=by
 unfold sortD at hx hy
 rw[List.getElem?_map]at hx hy
 have hj:j<(srt (ltAtD ds) ds.length).length:=by
  cases e:(srt (ltAtD ds) ds.length)[j]? with
  | none=>rw[e]at hy;cases hy
  | some k=>exact(List.getElem?_eq_some_iff.mp e).1
 have hi:i<(srt (ltAtD ds) ds.length).length:=by omega
 rw[List.getElem?_eq_getElem hi]at hx
 rw[List.getElem?_eq_getElem hj]at hy
 cases hx;cases hy
 have u:=srt_up (row_ord h) ds.length hij (by rw[srt_length]at hj;exact hj)
 have e1:(srt (ltAtD ds) ds.length).getD i 0=(srt (ltAtD ds) ds.length)[i]:=by simp[List.getD,hi]
 have e2:(srt (ltAtD ds) ds.length).getD j 0=(srt (ltAtD ds) ds.length)[j]:=by simp[List.getD,hj]
 rw[e1,e2]at u
 exact u
end L3
namespace L3
open PySem PySem.Spec PyProof.Rows
end L3
namespace L3
noncomputable abbrev Cl:=Int×Int
noncomputable def Tch(a b:Cl):Prop:=(a.1=b.1/\(b.2=a.2+1\/a.2=b.2+1))\/(a.2=b.2/\(b.1=a.1+1\/a.1=b.1+1))
theorem Tch.symm{a b:Cl}(h:Tch a b):Tch b a:=by
 unfold Tch at *
 omega
noncomputable def Conn(S:List Cl):Prop:=∀T:Cl->Prop,(∃a,a∈S/\T a)->(∀a b,a∈S->b∈S->T a->Tch a b->T b)->∀a,a∈S->T a
theorem Conn.one(a:Cl):Conn [a]:=fun T ⟨b,hb,tb⟩ _ c hc=>by
 rw[List.mem_singleton.mp hc,<-List.mem_singleton.mp hb]
 exact tb
theorem Conn.snoc{S:List Cl}{a b:Cl}(h:Conn S)(ha:a∈S)(t:Tch a b):Conn (S++[b]):=fun T ⟨c,hc,tc⟩ go d hd=>by
 have mS:∀{x},x∈S->x∈S++[b]:=fun hx=>List.mem_append_left _ hx
 have mb:b∈S++[b]:=List.mem_append_right _ (List.mem_singleton.mpr rfl)
 have inS:∃x,x∈S/\T x:=by
  rcases List.mem_append.mp hc with h1|h1
  .exact⟨c,h1,tc⟩
  .rw[List.mem_singleton.mp h1]at tc
   exact⟨a,ha,go b a mb (mS ha) tc t.symm⟩
 have all:=h T inS fun x y hx hy tx txy=>go x y (mS hx) (mS hy) tx txy
 rcases List.mem_append.mp hd with h1|h1
 .exact all d h1
 .rw[List.mem_singleton.mp h1]
  exact go a b (mS ha) mb (all a ha) t
theorem Conn.map{S:List Cl}{f:Cl->Cl}(h:Conn S)(hf:∀a b,Tch a b->Tch (f a) (f b)):Conn (S.map f):=fun T ⟨c,hc,tc⟩ go d hd=>by
 obtain⟨x,hx,rfl⟩:=List.mem_map.mp hc
 obtain⟨y,hy,rfl⟩:=List.mem_map.mp hd
 exact h (fun a=>T (f a)) ⟨x,hx,tc⟩ (fun a b ha hb ta tab=>go _ _ (List.mem_map_of_mem ha) (List.mem_map_of_mem hb) ta (hf a b tab)) y hy
theorem Conn.congr{S S':List Cl}(h:Conn S)(e:∀a,a∈S'↔a∈S):Conn S':=fun T ⟨c,hc,tc⟩ go d hd=>
 h T ⟨c,(e c).mp hc,tc⟩ (fun a b ha hb=>go a b ((e a).mpr ha) ((e b).mpr hb)) d ((e d).mp hd)
theorem Conn.closed{S R:List Cl}(h:Conn S)(hs:∀a,a∈R->a∈S)(hne:∃a,a∈R)(hc:∀a,a∈R->∀b,b∈S->Tch a b->b∈R):∀a,a∈S->a∈R:=by
 obtain⟨a,ha⟩:=hne
 exact h (fun x=>x∈R) ⟨a,hs a ha,ha⟩ fun x y hx hy tx txy=>hc x tx y hy txy
theorem nodup_len{α:Type}[DecidableEq α]{S R:List α}(hS:S.Nodup)(hR:R.Nodup)(e:∀a,a∈R↔a∈S):R.length=S.length:=by
 apply Nat.le_antisymm
 .exact List.Nodup.length_le_of_subset hR fun a ha=>(e a).mp ha
 .exact List.Nodup.length_le_of_subset hS fun a ha=>(e a).mpr ha
theorem Tch.shift(r c:Int){a b:Cl}(h:Tch a b):Tch (a.1-r,a.2-c) (b.1-r,b.2-c):=by
 unfold Tch at *
 simp only
 omega
end L3
namespace L3
open PySem PySem.Spec PyProof.Rows L2
theorem spots_rows{ds:List PyData}(h:Spots ds):Rows [true,false] ds:=fun d hd=>by
 obtain⟨r,c,x,rfl⟩:=h d hd
 exact(x_EAEE _ rfl _ _ ⟨rfl,(x_EE _ _ ⟨rfl,(x_EE _ _ ⟨rfl,rfl⟩)⟩)⟩)
section
variable{K:PySem.W.Frag}{a:Addr}{xs:List V}{ds:List PyData}{σ:L2.St}{H:Hp}{Q:VK}
theorem row_at(r c:Int)(x:Str):atI [V.int r,.int c,.str x] 0=some (.int (row1 (.tuple [.int r,.int c,.str x]))):=rfl
theorem col_at(r c:Int)(x:Str):atI [V.int r,.int c,.str x] 1=some (.int (col1 (.tuple [.int r,.int c,.str x]))):=rfl
end
section
variable{X:Cx}{x:Str}{pos:Pos}
theorem pe_globS{z:Str}(h:∃t,X.mg x=some (.str z t))(hg:Gl X x)(hd:(x==("__debug__" : Str))=false:=by decide):PE X (.Name x pos) (tC (.str z)):=by
 obtain⟨t,h⟩:=h
 exact pe_glob hg h ⟨t,rfl⟩ hd
theorem pe_globI{z:Int}(h:∃t,X.mg x=some (.int z t))(hg:Gl X x)(hd:(x==("__debug__" : Str))=false:=by decide):PE X (.Name x pos) (tC (.int z)):=by
 obtain⟨t,h⟩:=h
 exact pe_glob hg h ⟨t,rfl⟩ hd
end
noncomputable def tDict0:TE:=fun _ H Q=>∀p,H p=none->Q (.ref p) (upd H p (.dK []))
theorem pe_dict0{X:Cx}{pos:Pos}:PE X (.Dict [] [] pos) tDict0:=fun pins s σ H Q I h=>by
 have hb:sysModules<s.heap.objs.size:=by
  have h:mainGlobals<s.heap.objs.size:=(I.mod.glob.keeps I.bk).lt
  exact Nat.lt_trans (by decide) h
 refine wpAny_Dict_empty (x_EE (.ref s.heap.objs.size) _ ⟨I.laid (a:=s.heap.objs.size) (o:=.dK []) (t':=s.toks) (fun _ _ q=>Heap.get?_push_of_some _ q) (Nat.le_refl _) ?_,rfl,h _ (I.hok.fresh (Nat.le_refl _))⟩)
 exact⟨Nat.zero_le _,beq_eq_false_iff_ne.mpr (Ne.symm (Nat.ne_of_lt hb)),[],.nil,Heap.DictOf.new s.heap⟩
section
variable{X:Cx}
theorem op_le_str:OpR X (compareOp .LtE) (fun x y H Q=>∃i j,x=.str i/\y=.str j/\Q (.bl (!decide (j.cps.toList<i.cps.toList))) H):=by
 intro pins s σ H x y v u Q I rx ry h
 obtain⟨i,j,rfl,rfl,q⟩:=h
 obtain⟨t,rfl⟩:=rx
 obtain⟨t',rfl⟩:=ry
 exact PySem.P.le_str (x_EE (.bl _) H ⟨I,rfl,q⟩)
noncomputable def rSlS:V->Option Int->Option Int->Hp->VK->Prop:=fun x lo hi H Q=>∃z,x=.str z/\z.length<=sizeLine/\Q (.str (Txt.slice z lo hi)) H
theorem sl_str:SlR X rSlS:=by
 intro pins s σ H x v vl vu lo hi sl Q I rx hs pl pu h
 obtain⟨z,rfl,hz,q⟩:=h
 obtain⟨t,rfl⟩:=rx
 obtain⟨o,ho,hc,hd⟩:=hs
 have fin:∀t' k,EP X pins σ Q (.str (Txt.slice z lo hi) t') {s with toks:=k}:=fun t' k=>(x_EE (.str _) H ⟨I.tok _,⟨_,rfl⟩,q⟩)
 refine(x_EE ("str") _ ⟨F.slot_str_getitem.lookup,typeIs_str _ _ _,?_⟩)
 cases pl with
 | none=>
  cases pu with
  | none=>exact wpAny_getItem_str_slice (l:=none) (u:=none) (st:=none) ⟨o,ho,hc,hd⟩ rfl (post_val_or_str ⟨Nat.le_trans (Txt.slice_le z _ _) hz,fin⟩)
  | int j uj=>exact wpAny_getItem_str_slice (l:=none) (u:=some (j,uj)) (st:=none) ⟨o,ho,hc,hd⟩ rfl (post_val_or_str ⟨Nat.le_trans (Txt.slice_le z _ _) hz,fin⟩)
 | int i ui=>
  cases pu with
  | none=>exact wpAny_getItem_str_slice (l:=some (i,ui)) (u:=none) (st:=none) ⟨o,ho,hc,hd⟩ rfl (post_val_or_str ⟨Nat.le_trans (Txt.slice_le z _ _) hz,fin⟩)
  | int j uj=>exact wpAny_getItem_str_slice (l:=some (i,ui)) (u:=some (j,uj)) (st:=none) ⟨o,ho,hc,hd⟩ rfl (post_val_or_str ⟨Nat.le_trans (Txt.slice_le z _ _) hz,fin⟩)
theorem fold_len(x:Array Nat):∀(k:Nat) (acc:Array Nat),((List.replicate k x).foldl (· ++ ·) acc).size=acc.size+k*x.size
 | 0,acc=>by simp
 | k+1,acc=>by
  rw[List.replicate_succ,List.foldl_cons,fold_len x k]
  simp only[Array.size_append]
  rw[Nat.add_mul]
  omega
theorem fold_mem(x:Array Nat):∀(k:Nat) (acc:Array Nat) (c:Nat),c∈((List.replicate k x).foldl (· ++ ·) acc).toList->c∈acc.toList\/c∈x.toList
 | 0,acc,c,h=>.inl (by simpa using h)
 | k+1,acc,c,h=>by
  rw[List.replicate_succ,List.foldl_cons]at h
  rcases fold_mem x k _ c h with h|h
  .simpa using h
  .exact .inr h
noncomputable def rMulS:R2:=fun x y H Q=>∃(z:Str) (n:Int),x=.str z/\y=.int n/\0<=n/\n<=1000/\z.length<=1000/\∀w:Str,w.length=z.length*n.toNat->(∀c∈w.cps.toList,c∈z.cps.toList)->Q (.str w) H
theorem op_mulS:OpR X (binaryOp .Mult) rMulS:=by
 intro pins s σ H x y v u Q I rx ry h
 obtain⟨z,n,rfl,rfl,h0,h1,hz,q⟩:=h
 obtain⟨t,rfl⟩:=rx
 obtain⟨t',rfl⟩:=ry
 have hprod:z.length*n.toNat<=1000000:=by
  have a1:n.toNat<=1000:=by omega
  calc z.length*n.toNat<=1000*1000:=Nat.mul_le_mul hz a1
   _=1000000:=rfl
 refine PySem.P.mul_str (by rw[decide_eq_false (by omega),decide_eq_false (by omega)];rfl) (fun h2 _=>?_) (fun _ _=>?_) ?_
 .have h3:(1:Int)<=n:=by omega
  have h4:((2:Int)^63-1)/n>=(2^63-1)/1000:=by
   refine(Int.le_ediv_iff_mul_le (by omega)).mpr ?_
   calc ((2:Int)^63-1)/1000*n<=((2:Int)^63-1)/1000*1000:=Int.mul_le_mul_of_nonneg_left h1 (by decide)
    _<=2^63-1:=by decide
  have h5:((2:Int)^63-1)/1000>=1000:=by decide
  omega
 .unfold PySem.Builtin.Str.tooLong
  rw[sizeLine_eq]
  exact decide_eq_false (by omega)
 .by_cases hn:n<1
  .rw[if_pos hn]
   have e:n=0:=by omega
   subst e
   exact⟨by decide,(x_EE (.str Str.empty) H ⟨I.tok _,⟨_,rfl⟩,q _ (by simp[Str.empty,Str.length]) (by simp[Str.empty])⟩)⟩
  .rw[if_neg hn]
   by_cases hc:(n==1||z.length==0)=true
   .rw[if_pos hc]
    refine(x_EE (.str z) H ⟨I,⟨_,rfl⟩,q _ ?_ fun c hc=>hc⟩)
    simp only[Bool.or_eq_true,beq_iff_eq]at hc
    rcases hc with e|e
    .rw[e];simp
    .rw[e];simp
   .rw[if_neg hc]
    have e:(⟨(List.replicate n.toNat z.cps).foldl (· ++ ·) #[]⟩:Str).length=z.length*n.toNat:=by
     show((List.replicate n.toNat z.cps).foldl (· ++ ·) #[]).size=_
     rw[fold_len,Nat.mul_comm]
     simp[Str.length]
    refine⟨by rw[e,sizeLine_eq];omega,(x_EE (.str _) H ⟨I.tok _,⟨_,rfl⟩,q _ e fun c hc=>?_⟩)⟩
    rcases fold_mem z.cps n.toNat #[] c (by simpa using hc)with h|h
    .simp at h
    .exact h
theorem strs_of:∀{ys:List Str} {us:List Value},Vals (ys.map V.str) us->StrsAre us ys
 | [],us,h=>by cases h;exact .nil
 | y::ys,us,h=>by
  cases h with
  | cons r t=>
   obtain⟨k,e⟩:=(show ∃t,_=Value.str y t from r)
   subst e
   exact .cons y k (strs_of t)
noncomputable def rJoin:V->List V->Hp->VK->Prop:=fun x vs H Q=>∃(z:Str) (l:Addr) (ys:List Str),x=.str z/\vs=[.ref l]/\H l=some (.lst (ys.map V.str))/\(ys.map (·.length)).sum+ys.length*z.length<=1000000/\Q (.str (Txt.join z ys)) H
theorem mt_join:MtR X "str.join" rJoin:=by
 intro pins s σ H x vs v us Q I rx rv h
 obtain⟨z,l,ys,rfl,rfl,hl,hz,q⟩:=h
 obtain⟨t,rfl⟩:=rx
 obtain⟨u,rfl,r1⟩:=vals1 rv
 cases (show u=Value.ref l from r1)
 obtain⟨its,r,pl,_⟩:=I.list (SqL.of (K:=X.K) hl)
 exact join_list pl.isList (by simpa using strs_of r) (by omega) fun t' k=>(x_EE (.str _) H ⟨I.tok _,⟨_,rfl⟩,q⟩)
noncomputable def rAll:List V->Hp->VK->Prop:=fun xs H Q=>∃(p:Addr) (bs:List Bool),xs=[.ref p]/\H p=some (.lst (bs.map V.bl))/\Q (.bl (bs.all id)) H
theorem range_all:∀(bs:List Bool),((List.range bs.length).all fun i=>(bs[i]?).getD true)=bs.all id:=fun bs=>by
 rw[Bool.eq_iff_iff,List.all_eq_true,List.all_eq_true]
 constructor
 .intro h b hb
  obtain⟨i,hi,rfl⟩:=List.mem_iff_getElem.mp hb
  have:=h i (by simpa using hi)
  simpa [hi]using this
 .intro h i hi
  have hi':i<bs.length:=by simpa using hi
  have:=h bs[i] (List.getElem_mem hi')
  simpa [hi']using this
theorem call_all(hc:X.calm=true):CallR X (.builtin "all") rAll:=by
 intro pins s σ H xs us Q I r h
 obtain⟨p,bs,rfl,hp,q⟩:=h
 obtain⟨u,rfl,r1⟩:=vals1 r
 cases (show u=Value.ref p from r1)
 obtain⟨its,rv,pl,hz⟩:=I.list (SqL.of (K:=X.K) hp)
 have hlt:p<s.heap.objs.size:=by obtain⟨_,_,e,_⟩:=pl;exact Heap.lt_size e
 have hlen:its.length=bs.length:=by rw[<-rv.length,List.length_map]
 refine call_all_walk (wpAny_pyIter_list pl.isList ?_)
 refine⟨s.heap.objs.size,[s.heap.objs.size,p],[s.heap.objs.size],its.toArray.size,_,_,fun i=>(bs[i]?).getD true,rfl,Walks.list (A:=X.A.in1) (I.ok.hd hc) _ p (Nat.ne_of_lt hlt) its.toArray,
  ⟨⟨_,Heap.get?_push_size _ rfl,rfl,rfl⟩,pl.isList.push _⟩,fun i v s' Q' E' hP hQ=>?_,fun h' tk hk=>?_⟩
 .have hi:its[i]?=some v:=by simpa using hP
  have hi2:i<bs.length:=by rw[<-hlen];exact(List.getElem?_eq_some_iff.mp hi).1
  obtain⟨u',e1,e2⟩:=rv.get (i:=i) (x:=.bl bs[i]) (by rw[List.getElem?_map,List.getElem?_eq_getElem hi2];rfl)
  rw[hi]at e1;cases e1
  cases (show v=Value.bool bs[i]from e2)
  have hQ2:Q' ((bs[i]?).getD true) s':=hQ
  rw[List.getElem?_eq_getElem hi2]at hQ2
  exact wpAny_truthy_bool hQ2
 .refine(x_EE (.bl _) H ⟨I.kept (fun b o e=>hk b o (fun hm=>?_) (Heap.get?_push_of_some _ e)),rfl,?_⟩)
  .rw[List.mem_singleton.mp hm]at e
   exact Nat.lt_irrefl _ (Heap.lt_size e)
  .rw[List.size_toArray,hlen,range_all]
   exact q
end
noncomputable def Its(x:Str):It:=⟨fun i _=>i<x.cps.toList.length,fun i H v H'=>H'=H/\∃c,x.cps.toList[i]?=some c/\v=.str ⟨#[c]⟩,fun i _=>x.cps.toList.length<=i⟩
theorem turn_ascii{P:Program}{w:World}{K:PySem.W.Frag}{tg:Expr}(x:Str)(t:Tok)(it:Addr):Turn P w K tg (Its x) [it] it (fun i h=>h.IsStrIter it "str_ascii_iterator" x t i)where
 mem:=by simp
 obj:=fun i h st b hb=>by
  have e:b=it:=by simpa using hb
  subst e
  obtain⟨o,e,c,d⟩:=st
  exact⟨o,e,fun v z=>by rw[d]at z;cases z⟩
 keep:=fun i h h' st k=>by
  obtain⟨o,e,r⟩:=st
  exact⟨o,k it (by simp) o e,r⟩
 item:=by
  intro X hP hw hK hc i pins s σ H E I hf st hg
  subst hP hw hK
  obtain⟨f0,f1,f2,f3,f4,f5⟩:=hf it (by simp)
  have hi:i<x.cps.size:=by simpa [Its]using hg
  refine wpAny_pyNext_ascii_item st (c:=x.cps[i]) (by simp[hi]) fun h' st' sb=>?_
  have I1:Inv X pins σ H {s with heap:=h',toks:=s.toks+1}:=I.turned (t':=s.toks+1) (fun b o hb e=>(sb.2 b hb).trans e) f0 f1 f3 f4 f5
  obtain⟨o,e,c,d⟩:=id st'
  exact⟨_,rfl,go_of (s:={s with heap:=h',toks:=s.toks+1}) e c d (by decide) (x_EE (.str ⟨#[x.cps[i]]⟩) H ⟨I1,⟨_,rfl⟩,⟨rfl,x.cps[i],by simp[hi],rfl⟩,st',fun b hb=>(hf b hb).1⟩)⟩
 done:=by
  intro X hP hw hK hc i pins s σ H E I hf st hg
  subst hP hw hK
  obtain⟨f0,f1,f2,f3,f4,f5⟩:=hf it (by simp)
  have hi:x.cps.size<=i:=by simpa [Its]using hg
  exact wpAny_pyNext_ascii_end (I.ok.hd hc) st (by simp;omega) fun h' eb=>⟨rfl,I.turned (t':=s.toks) (fun b o hb e=>eb b o hb e) f0 f1 f3 f4 f5⟩
 self:=fun _ _ _ _ _ st h=>wpAny_pyIter_striter_ascii st h
theorem turn_wide{P:Program}{w:World}{K:PySem.W.Frag}{tg:Expr}(x:Str)(t:Tok)(it:Addr):Turn P w K tg (Its x) [it] it (fun i h=>h.IsStrIter it "str_iterator" x t i)where
 mem:=by simp
 obj:=fun i h st b hb=>by
  have e:b=it:=by simpa using hb
  subst e
  obtain⟨o,e,c,d⟩:=st
  exact⟨o,e,fun v z=>by rw[d]at z;cases z⟩
 keep:=fun i h h' st k=>by
  obtain⟨o,e,r⟩:=st
  exact⟨o,k it (by simp) o e,r⟩
 item:=by
  intro X hP hw hK hc i pins s σ H E I hf st hg
  subst hP hw hK
  obtain⟨f0,f1,f2,f3,f4,f5⟩:=hf it (by simp)
  have hi:i<x.cps.size:=by simpa [Its]using hg
  refine wpAny_pyNext_wide_item st (c:=x.cps[i]) (by simp[hi]) fun h' st' sb=>?_
  have I1:Inv X pins σ H {s with heap:=h',toks:=s.toks+1}:=I.turned (t':=s.toks+1) (fun b o hb e=>(sb.2 b hb).trans e) f0 f1 f3 f4 f5
  obtain⟨o,e,c,d⟩:=id st'
  exact⟨_,rfl,go_of (s:={s with heap:=h',toks:=s.toks+1}) e c d (by decide) (x_EE (.str ⟨#[x.cps[i]]⟩) H ⟨I1,⟨_,rfl⟩,⟨rfl,x.cps[i],by simp[hi],rfl⟩,st',fun b hb=>(hf b hb).1⟩)⟩
 done:=by
  intro X hP hw hK hc i pins s σ H E I hf st hg
  subst hP hw hK
  obtain⟨f0,f1,f2,f3,f4,f5⟩:=hf it (by simp)
  have hi:x.cps.size<=i:=by simpa [Its]using hg
  exact wpAny_pyNext_wide_end (I.ok.hd hc) st (by simp;omega) fun h' eb=>⟨rfl,I.turned (t':=s.toks) (fun b o hb e=>eb b o hb e) f0 f1 f3 f4 f5⟩
 self:=fun _ _ _ _ _ st h=>wpAny_pyIter_striter_wide st h
noncomputable def iStr(tl:TE):TI:=fun σ H R=>tl σ H fun x H1=>∃z,x=.str z/\R (Its z) H1
theorem pi_str{X:Cx}{tg l:Expr}{tl:TE}(hl:PE X l tl):PI X tg l (iStr tl):=by
 intro pins s σ H R I h
 refine thn (hl pins s σ H _ I h) fun v s1 ⟨x,H1,I1,r1,z,e,q⟩=>?_
 subst e
 obtain⟨t,rfl⟩:=r1
 cases ha:z.cps.all (· < 128)with
 | true=>
  refine wpAny_pyIter_ascii ha ?_
  have I2:Inv X pins σ H1 {s1 with heap:=s1.heap.push {cls:=.type "str_ascii_iterator",data:=.fields #[.str z t,.int 0 0]}}:=I1.kept (t':=s1.toks) fun b o e=>Heap.get?_push_of_some _ e
  exact(x_EEEEE _ _ _ (Its z) H1 ⟨rfl,I2,turn_ascii z t s1.heap.objs.size,⟨_,Heap.get?_push_size _ rfl,rfl,rfl⟩,fun b hb=>by rw[List.mem_singleton.mp hb];exact I1.fpOk (Nat.le_refl _) (I1.hok.fresh (Nat.le_refl _)),q⟩)
 | false=>
  refine wpAny_pyIter_wide ha ?_
  have I2:Inv X pins σ H1 {s1 with heap:=s1.heap.push {cls:=.type "str_iterator",data:=.fields #[.str z t,.int 0 0]}}:=I1.kept (t':=s1.toks) fun b o e=>Heap.get?_push_of_some _ e
  exact(x_EEEEE _ _ _ (Its z) H1 ⟨rfl,I2,turn_wide z t s1.heap.objs.size,⟨_,Heap.get?_push_size _ rfl,rfl,rfl⟩,fun b hb=>by rw[List.mem_singleton.mp hb];exact I1.fpOk (Nat.le_refl _) (I1.hok.fresh (Nat.le_refl _)),q⟩)
theorem for_str{x:Str}{g:TG}{tb:TS}{D:Ends}{σ:L2.St}{H:Hp}(Pv:Nat->L2.St->Hp->Prop)(h0:Pv 0 σ H)
  (hs:∀i c σ H,x.cps.toList[i]?=some c->Pv i σ H->g (.str ⟨#[c]⟩) σ H fun σ2 H2=>tb {D with nx:=Pv (i+1),ct:=Pv (i+1),bk:=D.nx} σ2 H2) (hd:∀σ H,Pv x.cps.toList.length σ H->D.nx σ H) :
  ∃W:Nat->Nat->L2.St->Hp->Prop,(∃m,W 0 m σ H)/\∀i m σ H,W i m σ H->
   ((Its x).stop i H/\D.nx σ H)\/((Its x).go i H/\∃N:L2.St->Hp->Prop,(∀σ' H',N σ' H'->∃m',m'<m/\W (i+1) m' σ' H')/\∀v H',(Its x).yld i H v H'->g v σ H' fun σ2 H2=>tb {D with nx:=N,ct:=N,bk:=D.nx} σ2 H2):=by
 refine⟨fun i m σ H=>m=x.cps.toList.length-i/\i<=x.cps.toList.length/\Pv i σ H,⟨x.cps.toList.length,by simp,Nat.zero_le _,h0⟩,?_⟩
 rintro i m σ H ⟨rfl,hi,p⟩
 by_cases hlt:i<x.cps.toList.length
 .refine .inr ⟨hlt,Pv (i+1),fun σ' H' p'=>⟨x.cps.toList.length-(i+1),by omega,rfl,hlt,p'⟩,fun v H' y=>?_⟩
  obtain⟨e,c,hc,rfl⟩:=y
  subst e
  exact hs i c σ _ hc p
 .have e:i=x.cps.toList.length:=by omega
  subst e
  exact .inl ⟨Nat.le_refl _,hd σ H p⟩
theorem comp_str{x:Str}{D:Addr}{sl:List (Option Nat)}{g:TG}{tt:TT}{te:TE}{σ:L2.St}{H1:Hp}{Q:VK}(Pv:Nat->List V->Hp->Prop)(h0:Pv 0 [] (upd H1 D (.lst [])))
  (hs:∀i c ys H,x.cps.toList[i]?=some c->i<x.cps.toList.length->H D=some (.lst ys)->ys.length<=i->Pv i ys H->g (.str ⟨#[c]⟩) (picks sl σ) H fun σ2 H2=>Agree (picks sl σ) σ2/\tt σ2 H2 fun b H3=>
   if b=true then te σ2 H3 fun y H4=>∃xs,H4 D=some (.lst xs)/\xs.length<sizeLine/\Nx D i Pv (upd H4 D (.lst (xs++[y])))else Nx D i Pv H3)
  (hd:∀ys H,H D=some (.lst ys)->ys.length<=x.cps.toList.length->Pv x.cps.toList.length ys H->Q (.ref D) H):CompR (Its x) sl g tt te σ H1 D Q:=by
 refine comp_by (Its x) x.cps.toList.length Pv h0 (fun i ys H hi p=>hi) (fun ys H p=>Nat.le_refl _) (fun i v ys H H' hi y hD hyl p=>?_) hd
 obtain⟨e,c,hc,rfl⟩:=y
 subst e
 exact hs i c ys _ hc hi hD hyl p
noncomputable def NoStr(H:Hp)(v:V):Prop:=v=.non\/(∃i,v=.int i)\/∃a,v=.ref a/\((∃xs,H a=some (.lst xs))\/(∃xs,H a=some (.tup xs))\/H a=some (.dK []))
noncomputable def NoTup(H:Hp)(v:V):Prop:=v=.non\/(∃i,v=.int i)\/(∃z,v=.str z)\/∃a,v=.ref a/\((∃xs,H a=some (.lst xs))\/H a=some (.dK []))
theorem NoStr.ty{K:PySem.W.Frag}{H:Hp}{v:V}(h:NoStr H v):∃t,TyOf K H v t/\PySem.W.kitOne K t (.type "str")=some false:=by
 rcases h with rfl|⟨i,rfl⟩|⟨a,rfl,⟨xs,h⟩|⟨xs,h⟩|h⟩
 .exact⟨_,.non,rfl⟩
 .exact⟨_,.int i,rfl⟩
 .exact⟨_,.lst h,rfl⟩
 .exact⟨_,.tup h,rfl⟩
 .exact⟨_,.dK h,rfl⟩
theorem NoTup.ty{K:PySem.W.Frag}{H:Hp}{v:V}(h:NoTup H v):∃t,TyOf K H v t/\PySem.W.kitOne K t (.type "tuple")=some false:=by
 rcases h with rfl|⟨i,rfl⟩|⟨z,rfl⟩|⟨a,rfl,⟨xs,h⟩|h⟩
 .exact⟨_,.non,rfl⟩
 .exact⟨_,.int i,rfl⟩
 .exact⟨_,.str z,rfl⟩
 .exact⟨_,.lst h,rfl⟩
 .exact⟨_,.dK h,rfl⟩
theorem NoStr.same{H H':Hp}{v:V}(h:NoStr H v)(s:Same H H'):NoStr H' v:=by
 rcases h with rfl|⟨i,rfl⟩|⟨a,rfl,⟨xs,h⟩|⟨xs,h⟩|h⟩
 .exact .inl rfl
 .exact .inr (.inl ⟨i,rfl⟩)
 .exact .inr (.inr ⟨a,rfl,.inl ⟨xs,s _ _ h⟩⟩)
 .exact .inr (.inr ⟨a,rfl,.inr (.inl ⟨xs,s _ _ h⟩)⟩)
 .exact .inr (.inr ⟨a,rfl,.inr (.inr (s _ _ h))⟩)
theorem NoTup.same{H H':Hp}{v:V}(h:NoTup H v)(s:Same H H'):NoTup H' v:=by
 rcases h with rfl|⟨i,rfl⟩|⟨z,rfl⟩|⟨a,rfl,⟨xs,h⟩|h⟩
 .exact .inl rfl
 .exact .inr (.inl ⟨i,rfl⟩)
 .exact .inr (.inr (.inl ⟨z,rfl⟩))
 .exact .inr (.inr (.inr ⟨a,rfl,.inl ⟨xs,s _ _ h⟩⟩))
 .exact .inr (.inr (.inr ⟨a,rfl,.inr (s _ _ h)⟩))
noncomputable def Tx(z:Str):Prop:=z.length<=80/\∀c∈z.cps.toList,c<128
noncomputable def Itm(H:Hp)(v:V):Option Str->Prop
 | some z=>v=.str z/\Tx z
 | none=>NoStr H v
noncomputable def Itms(H:Hp)(vs:List V)(os:List (Option Str)):Prop:=vs.length=os.length/\∀(i:Nat) (v:V) (o:Option Str),vs[i]?=some v->os[i]?=some o->Itm H v o
noncomputable def Thing(H:Hp)(v:V):Option (List (Option Str))->Prop
 | none=>NoTup H v
 | some os=>os.length<=500/\∃a vs,v=.ref a/\H a=some (.tup vs)/\Itms H vs os
theorem Itm.same{H H':Hp}{v:V}{o:Option Str}(h:Itm H v o)(s:Same H H'):Itm H' v o:=by
 cases o with
 | none=>exact NoStr.same h s
 | some z=>exact h
theorem Itms.same{H H':Hp}{vs:List V}{os:List (Option Str)}(h:Itms H vs os)(s:Same H H'):Itms H' vs os:=⟨h.1,fun i v o e e'=>(h.2 i v o e e').same s⟩
theorem Thing.same{H H':Hp}{v:V}{T:Option (List (Option Str))}(h:Thing H v T)(s:Same H H'):Thing H' v T:=by
 cases T with
 | none=>exact NoTup.same h s
 | some os=>
  obtain⟨hl,a,vs,e,ha,hi⟩:=h
  exact⟨hl,(x_EE a vs ⟨e,s _ _ ha,hi.same s⟩)⟩
theorem Itms.at{H:Hp}{vs:List V}{os:List (Option Str)}{i:Nat}{v:V}(h:Itms H vs os)(e:vs[i]?=some v):∃o,os[i]?=some o/\Itm H v o:=by
 have hi:i<vs.length:=(List.getElem?_eq_some_iff.mp e).1
 have hi':i<os.length:=by rw[<-h.1];exact hi
 exact⟨os[i],List.getElem?_eq_getElem hi',h.2 i v _ e (List.getElem?_eq_getElem hi')⟩
theorem Tx.ok{z:Str}(h:Tx z):PyData.strOk z=true:=by
 unfold PyData.strOk
 rw[Array.all_eq_true']
 intro c hc
 have:=h.2 c (by simpa using hc)
 simp only[decide_eq_true_eq]
 omega
noncomputable def sgB(c:Nat):Bool:=(c==35||c==46||c==44)||(decide (65<=c)&&decide (c<=90))||(decide (97<=c)&&decide (c<=122))
noncomputable def rowB:Option Str->Bool
 | some z=>decide (1<=z.length)&&decide (z.length<=8)&&z.cps.toList.all sgB
 | none=>false
noncomputable def lenO:Option Str->Nat
 | some z=>z.length
 | none=>0
noncomputable def flB:Option (List (Option Str))->Bool
 | none=>false
 | some os=>decide (1<=os.length)&&decide (os.length<=8)&&os.all fun o=>rowB o&&(lenO o==lenO ((os[0]?).getD none))
theorem slice_mem{x:Str}{l u:Option Int}{c:Nat}(h:c∈(Txt.slice x l u).cps.toList):c∈x.cps.toList:=by
 unfold Txt.slice at h
 split at h
 .exact h
 .simp only[List.mem_filterMap]at h
  obtain⟨i,_,e⟩:=h
  have e':x.cps.toList[i]?=some c:=by simpa using e
  exact List.mem_of_getElem? e'
theorem Tx.slice{x:Str}(h:Tx x)(l u:Option Int):Tx (Txt.slice x l u):=⟨Nat.le_trans (Txt.slice_le x l u) h.1,fun c hc=>h.2 c (slice_mem hc)⟩
theorem len_cat(x y:Str):(x++y).length=x.length+y.length:=by
 show(x.cps++y.cps).size=_
 simp[Str.length]
theorem Tx.cat{x y:Str}(hx:Tx x)(hy:Tx y)(hl:x.length+y.length<=80):Tx (x++y):=⟨by rw[len_cat];exact hl,fun c hc=>by
 have hc':c∈(x.cps++y.cps).toList:=hc
 rw[Array.toList_append,List.mem_append]at hc'
 rcases hc' with h|h
 .exact hx.2 c h
 .exact hy.2 c h⟩
theorem foldJ{g:Array Nat}(hg:g=#[]):∀(l:List Str) (a:Array Nat),(l.foldl (fun acc p=>acc++g++p.cps) a).toList=a.toList++(l.map fun p=>p.cps.toList).flatten
 | [],a=>by simp
 | p::l,a=>by
  rw[List.foldl_cons,foldJ hg l,hg]
  simp
theorem join_list_eq{g:Str}(hg:g.cps=#[]):∀ys:List Str,(Txt.join g ys).cps.toList=(ys.map fun p=>p.cps.toList).flatten
 | []=>by simp[Txt.join,PySem.Builtin.Str.glued,Str.empty]
 | y::ys=>by
  show((ys.foldl (fun acc p=>acc++g.cps++p.cps) y.cps)).toList=_
  rw[foldJ hg]
  simp
theorem flat_len:∀{ys:List Str},(∀y∈ys,y.length=1)->((ys.map fun p=>p.cps.toList).flatten).length=ys.length
 | [],_=>rfl
 | y::ys,h=>by
  have h1:=h y List.mem_cons_self
  have h2:=flat_len (ys:=ys) fun z hz=>h z (List.mem_cons_of_mem _ hz)
  unfold Str.length at h1
  simp[h2,h1]<;>omega
theorem Tx.join{g:Str}{ys:List Str}(hg:g.cps=#[])(h1:∀y∈ys,y.length=1)(h2:∀y∈ys,Tx y)(hl:ys.length<=80):Tx (Txt.join g ys)/\(Txt.join g ys).length=ys.length:=by
 have e:=join_list_eq hg ys
 have l:(Txt.join g ys).length=ys.length:=by
  rw[<-flat_len h1,<-e]
  simp[Str.length]
 refine⟨⟨by omega,fun c hc=>?_⟩,l⟩
 rw[e,List.mem_flatten]at hc
 obtain⟨t,ht,hc⟩:=hc
 obtain⟨y,hy,rfl⟩:=List.mem_map.mp ht
 exact(h2 y hy).2 c hc
section
variable{X:Cx}
noncomputable def rAny:List V->Hp->VK->Prop:=fun xs H Q=>∃(p:Addr) (bs:List Bool),xs=[.ref p]/\H p=some (.lst (bs.map V.bl))/\Q (.bl (bs.any id)) H
theorem range_any:∀(bs:List Bool),((List.range bs.length).any fun i=>(bs[i]?).getD true)=bs.any id:=fun bs=>by
 rw[Bool.eq_iff_iff,List.any_eq_true,List.any_eq_true]
 constructor
 .rintro⟨i,hi,h⟩
  have hi':i<bs.length:=by simpa using hi
  exact⟨bs[i],List.getElem_mem hi',by simpa [hi']using h⟩
 .rintro⟨b,hb,h⟩
  obtain⟨i,hi,rfl⟩:=List.mem_iff_getElem.mp hb
  exact⟨i,by simpa using hi,by simpa [hi]using h⟩
theorem call_any(hc:X.calm=true):CallR X (.builtin "any") rAny:=by
 intro pins s σ H xs us Q I r h
 obtain⟨p,bs,rfl,hp,q⟩:=h
 obtain⟨u,rfl,r1⟩:=vals1 r
 cases (show u=Value.ref p from r1)
 obtain⟨its,rv,pl,hz⟩:=I.list (SqL.of (K:=X.K) hp)
 have hlt:p<s.heap.objs.size:=by obtain⟨_,_,e,_⟩:=pl;exact Heap.lt_size e
 have hlen:its.length=bs.length:=by rw[<-rv.length,List.length_map]
 refine call_any_walk (wpAny_pyIter_list pl.isList ?_)
 refine⟨s.heap.objs.size,[s.heap.objs.size,p],[s.heap.objs.size],its.toArray.size,_,_,fun i=>(bs[i]?).getD true,rfl,Walks.list (A:=X.A.in1) (I.ok.hd hc) _ p (Nat.ne_of_lt hlt) its.toArray,
  ⟨⟨_,Heap.get?_push_size _ rfl,rfl,rfl⟩,pl.isList.push _⟩,fun i v s' Q' E' hP hQ=>?_,fun h' tk hk=>?_⟩
 .have hi:its[i]?=some v:=by simpa using hP
  have hi2:i<bs.length:=by rw[<-hlen];exact(List.getElem?_eq_some_iff.mp hi).1
  obtain⟨u',e1,e2⟩:=rv.get (i:=i) (x:=.bl bs[i]) (by rw[List.getElem?_map,List.getElem?_eq_getElem hi2];rfl)
  rw[hi]at e1;cases e1
  cases (show v=Value.bool bs[i]from e2)
  have hQ2:Q' ((bs[i]?).getD true) s':=hQ
  rw[List.getElem?_eq_getElem hi2]at hQ2
  exact wpAny_truthy_bool hQ2
 .refine(x_EE (.bl _) H ⟨I.kept (fun b o e=>hk b o (fun hm=>?_) (Heap.get?_push_of_some _ e)),rfl,?_⟩)
  .rw[List.mem_singleton.mp hm]at e
   exact Nat.lt_irrefl _ (Heap.lt_size e)
  .rw[List.size_toArray,hlen,range_any]
   exact q
end
end L3
namespace L3
open PySem
noncomputable def sm5:Nat->Nat
 | 0=>0
 | m+1=>5*sm5 m+1
noncomputable def g5(m i:Nat):Nat:=5^m*i+sm5 m
theorem g5_succ(m i:Nat):g5 (m+1) i=5*g5 m i+1:=by
 show 5^(m+1)*i+(5*sm5 m+1)=5*(5^m*i+sm5 m)+1
 rw[Nat.pow_succ,Nat.mul_add,Nat.mul_comm (5^m) 5,Nat.mul_assoc,Nat.add_assoc]
theorem g5_add(m n i:Nat):g5 (m+n) i=g5 m (g5 n i):=by
 induction m with
 | zero=>rw[Nat.zero_add];unfold g5 sm5;simp
 | succ m ih=>rw[Nat.succ_add,g5_succ,ih,g5_succ]
theorem sm5_add(m n:Nat):sm5 (m+n)=5^m*sm5 n+sm5 m:=by
 have h:=g5_add m n 0
 unfold g5 at h
 simpa using h
theorem five_two:∀k,∃c d:Nat,5^(2^k)=1+2^(k+2)*c/\sm5 (2^k)=2^k*(2*d+1)
 | 0=>(x_EE 1 0 ⟨rfl,rfl⟩)
 | k+1=>by
  obtain⟨c,d,h1,h2⟩:=five_two k
  have e:2^(k+1)=2^k+2^k:=by rw[Nat.pow_succ];omega
  refine(x_EE (c+2^(k+1)*c*c) (d+2^k*c*(2*d+1)) ⟨?_,?_⟩)
  .rw[e,Nat.pow_add,h1,show 2^(k+1+2)=8*2^k by rw[Nat.pow_add,Nat.pow_add];omega,show 2^(k+2)=4*2^k by rw[Nat.pow_add];omega]
   generalize 2^k=A
   grind
  .rw[e,sm5_add,h1,h2,show 2^(k+2)=4*2^k by rw[Nat.pow_add];omega]
   generalize 2^k=A
   grind
theorem g5_half(k i:Nat):g5 (2^k) i % 2^(k+1)=(i+2^k) % 2^(k+1):=by
 obtain⟨c,d,h1,h2⟩:=five_two k
 unfold g5
 rw[h1,h2]
 have e3:2^(k+2)=2^(k+1)*2:=by rw[show k+2=(k+1)+1 by omega,Nat.pow_succ]
 have e:(1+2^(k+2)*c)*i+2^k*(2*d+1)=(i+2^k)+2^(k+1)*(2*(c*i)+d):=by
  rw[e3,Nat.pow_succ]
  generalize 2^k=A
  simp only[Nat.add_mul,Nat.mul_add,Nat.one_mul,Nat.mul_one,Nat.mul_assoc,Nat.mul_comm,Nat.mul_left_comm]
  omega
 rw[e,Nat.add_mul_mod_self_left]
theorem g5_all:∀(k i j:Nat),∃m,m<2^k/\g5 m i % 2^k=j % 2^k
 | 0,i,j=>⟨0,by decide,by simp[Nat.mod_one]⟩
 | k+1,i,j=>by
  obtain⟨m,hm,e⟩:=g5_all k i j
  have e2:2^(k+1)=2*2^k:=by rw[Nat.pow_succ];omega
  by_cases h:g5 m i % 2^(k+1)=j % 2^(k+1)
  .exact⟨m,by omega,h⟩
  .refine⟨2^k+m,by omega,?_⟩
   rw[g5_add,g5_half]
   have a:=Nat.mod_add_div (g5 m i) (2^(k+1))
   have l1:g5 m i % 2^(k+1)<2^(k+1):=Nat.mod_lt _ (by rw[e2];have:=Nat.two_pow_pos k;omega)
   have l2:j % 2^(k+1)<2^(k+1):=Nat.mod_lt _ (by rw[e2];have:=Nat.two_pow_pos k;omega)
   have m1:g5 m i % 2^(k+1) % 2^k=g5 m i % 2^k:=Nat.mod_mod_of_dvd _ ⟨2,by rw[e2];omega⟩
   have m2:j % 2^(k+1) % 2^k=j % 2^k:=Nat.mod_mod_of_dvd _ ⟨2,by rw[e2];omega⟩
   rw[Nat.add_mod,Nat.mod_eq_of_lt (show 2^k<2^(k+1) by have:=Nat.two_pow_pos k;omega)]
   generalize g5 m i % 2^(k+1)=x at *
   generalize j % 2^(k+1)=y at *
   rw[<-m1,<-m2]at e
   generalize 2^(k+1)=A at *
   generalize 2^k=B at *
   subst e2
   have hx:x % B=if x<B then x else x-B:=by
    split
    .exact Nat.mod_eq_of_lt (by assumption)
    .rw[Nat.mod_eq_sub_mod (by omega),Nat.mod_eq_of_lt (by omega)]
   have hy:y % B=if y<B then y else y-B:=by
    split
    .exact Nat.mod_eq_of_lt (by assumption)
    .rw[Nat.mod_eq_sub_mod (by omega),Nat.mod_eq_of_lt (by omega)]
   rw[hx,hy]at e
   have hz:(x+B) % (2*B)=if x+B<2*B then x+B else x+B-2*B:=by
    split
    .exact Nat.mod_eq_of_lt (by assumption)
    .rw[Nat.mod_eq_sub_mod (by omega),Nat.mod_eq_of_lt (by omega)]
   rw[hz]
   split at e<;>split at e<;>split<;>omega
open SetTable
noncomputable def itn{α:Type}(f:α->α):Nat->α->α
 | 0,x=>x
 | n+1,x=>itn f n (f x)
theorem itn_add{α:Type}(f:α->α):∀(m n:Nat) (x:α),itn f (m+n) x=itn f n (itn f m x)
 | 0,n,x=>by rw[Nat.zero_add];rfl
 | m+1,n,x=>by rw[Nat.succ_add];exact itn_add f m n (f x)
theorem itn_succ{α:Type}(f:α->α)(n:Nat)(x:α):itn f (n+1) x=f (itn f n x):=by
 rw[itn_add f n 1 x];rfl
noncomputable def adv(mask:Nat)(p:Probe):Probe:=
 if p.more>0 then{p with j:=p.j+1,more:=p.more-1}else
 {p with j:=(leap mask p.i p.perturb).1,more:=runEnd mask (leap mask p.i p.perturb).1-(leap mask p.i p.perturb).1,i:=(leap mask p.i p.perturb).1,perturb:=(leap mask p.i p.perturb).2}
noncomputable def lp(mask:Nat)(x:Nat×Nat):Nat×Nat:=leap mask x.1 x.2
noncomputable def at0(mask:Nat)(x:Nat×Nat)(d:Option Nat):Probe:=⟨x.1,runEnd mask x.1-x.1,x.1,x.2,d⟩
theorem run_le(mask i:Nat):runEnd mask i-i<=9:=by unfold runEnd;split<;>omega
theorem to_leap(mask:Nat):∀(m:Nat) (p:Probe),p.more=m->itn (adv mask) (m+1) p=at0 mask (lp mask (p.i,p.perturb)) p.dummy
 | 0,p,h=>by
  show adv mask p=_
  unfold adv
  rw[if_neg (by omega)]
  rfl
 | m+1,p,h=>by
  show itn (adv mask) (m+1) (adv mask p)=_
  have e:adv mask p={p with j:=p.j+1,more:=p.more-1}:=by unfold adv;rw[if_pos (by omega)]
  rw[e,to_leap mask m _ (by show p.more-1=m;omega)]
theorem leaps(mask:Nat):∀(m:Nat) (x:Nat×Nat) (d:Option Nat),∃n,n<=10*m/\itn (adv mask) n (at0 mask x d)=at0 mask (itn (lp mask) m x) d
 | 0,x,d=>⟨0,Nat.le_refl _,rfl⟩
 | m+1,x,d=>by
  have h:=to_leap mask _ (at0 mask x d) rfl
  obtain⟨n,hn,e⟩:=leaps mask m (lp mask x) d
  refine⟨((at0 mask x d).more+1)+n,?_,?_⟩
  .have:(at0 mask x d).more<=9:=run_le mask x.1
   omega
  .rw[itn_add,h]
   exact e
theorem per_small(mask:Nat):∀(m:Nat) (x:Nat×Nat) (b:Nat),x.2<32^b->(itn (lp mask) m x).2<32^(b-m)
 | 0,x,b,h=>by simpa [itn]using h
 | m+1,x,b,h=>by
  have h':(lp mask x).2<32^(b-1):=by
   show x.2/32<32^(b-1)
   cases b with
   | zero=>simp at h;simp[h]
   | succ b=>
    rw[Nat.pow_succ]at h
    simpa using Nat.div_lt_of_lt_mul (by omega)
  have:=per_small mask m (lp mask x) (b-1) h'
  rw[show b-(m+1)=b-1-m by omega]
  exact this
theorem plain_leaps{mask k:Nat}(hk:mask+1=2^k):∀(m i:Nat),i<2^k->itn (lp mask) m (i,0)=(g5 m i % 2^k,0)
 | 0,i,h=>by
  have e:g5 0 i=i:=by unfold g5 sm5;simp
  rw[e,Nat.mod_eq_of_lt h]
  rfl
 | m+1,i,h=>by
  rw[itn_succ,plain_leaps hk m i h]
  show((g5 m i % 2^k*5+1+0/32) % (mask+1),0/32)=_
  rw[hk,g5_succ]
  have e:(g5 m i % 2^k*5+1+0/32) % 2^k=(5*g5 m i+1) % 2^k:=by
   rw[show 0/32=0 from rfl,Nat.add_zero,Nat.mul_comm,Nat.add_mod,Nat.mul_mod,Nat.mod_mod,<-Nat.mul_mod,<-Nat.add_mod]
  rw[e]
theorem lp_lt{mask k:Nat}(hk:mask+1=2^k)(x:Nat×Nat):(lp mask x).1<2^k:=by
 show(x.1*5+1+x.2/32) % (mask+1)<2^k
 rw[hk]
 exact Nat.mod_lt _ (Nat.two_pow_pos k)
theorem reach{mask k:Nat}(hk:mask+1=2^k)(p:Probe)(hm:p.more<=9)(hp:p.perturb<2^64)(j:Nat)(hj:j<=mask):∃n,n<10*turns mask/\(itn (adv mask) n p).j=j:=by
 have h1:=to_leap mask p.more p rfl
 obtain⟨n2,hn2,e2⟩:=leaps mask 12 (lp mask (p.i,p.perturb)) p.dummy
 have hz:(itn (lp mask) 12 (lp mask (p.i,p.perturb))).2<32^(13-13):=by
  have:=per_small mask 13 (p.i,p.perturb) 13 (by show p.perturb<32^13;exact Nat.lt_of_lt_of_le hp (by decide))
  exact this
 have hz0:(itn (lp mask) 12 (lp mask (p.i,p.perturb))).2=0:=by simpa using hz
 have hi:(itn (lp mask) 12 (lp mask (p.i,p.perturb))).1<2^k:=by
  rw[itn_succ]
  exact lp_lt hk _
 generalize itn (lp mask) 12 (lp mask (p.i,p.perturb))=y at *
 obtain⟨y1,y2⟩:=y
 simp only at hz0 hi
 subst hz0
 obtain⟨m,hm2,e3⟩:=g5_all k y1 j
 obtain⟨n3,hn3,e4⟩:=leaps mask m (y1,0) p.dummy
 rw[plain_leaps hk m y1 hi,e3,Nat.mod_eq_of_lt (by omega)]at e4
 refine⟨(p.more+1)+(n2+n3),?_,?_⟩
 .unfold turns
  omega
 .rw[itn_add,h1,itn_add,e2,e4]
  rfl
end L3
namespace L3
open PySem SetTable
noncomputable def Low(xs:Array Nat)(j b:Nat):Prop:=b<=xs.size/\(∀i v,i<b->xs[i]?=some v->v<j)/\(∀i v,b<=i->xs[i]?=some v->j<=v)
theorem rise_at{xs:Array Nat}(h:xs.toList.Pairwise (· < ·)){i k v u:Nat}(hi:xs[i]?=some v)(hk:xs[k]?=some u)(hik:i<k):v<u:=by
 rw[<-Array.getElem?_toList]at hi hk
 obtain⟨h1,rfl⟩:=List.getElem?_eq_some_iff.mp hi
 obtain⟨h2,rfl⟩:=List.getElem?_eq_some_iff.mp hk
 exact List.pairwise_iff_getElem.mp h i k h1 h2 hik
theorem below_go{xs:Array Nat}(h:xs.toList.Pairwise (· < ·))(j:Nat):∀(fuel lo hi:Nat),hi-lo<=fuel->lo<=hi->hi<=xs.size->(∀i v,i<lo->xs[i]?=some v->v<j)->(∀i v,hi<=i->xs[i]?=some v->j<=v)->
  Low xs j (below.go xs j fuel lo hi)
 | 0,lo,hi,h1,h2,h3,a,b=>by
  have e:lo=hi:=by omega
  subst e
  exact⟨h3,a,b⟩
 | fuel+1,lo,hi,h1,h2,h3,a,b=>by
  unfold below.go
  by_cases hlt:lo<hi
  .rw[if_pos hlt]
   have hm:(lo+hi)/2<xs.size:=by omega
   have e:xs.getD ((lo+hi)/2) j=xs[(lo+hi)/2]:=by simp[Array.getD,hm]
   have e':xs[(lo+hi)/2]?=some xs[(lo+hi)/2]:=by simp[hm]
   dsimp only
   rw[e]
   by_cases hc:xs[(lo+hi)/2]<j
   .rw[if_pos hc]
    refine below_go h j fuel _ _ (by omega) (by omega) h3 (fun i v hi' hv=>?_) b
    by_cases q:i=(lo+hi)/2
    .subst q;rw[e']at hv;cases hv;exact hc
    .have:=rise_at h hv e' (by omega)
     omega
   .rw[if_neg hc]
    refine below_go h j fuel _ _ (by omega) (by omega) (by omega) a (fun i v hi' hv=>?_)
    by_cases q:i=(lo+hi)/2
    .subst q;rw[e']at hv;cases hv;omega
    .have:=rise_at h e' hv (by omega)
     omega
  .rw[if_neg hlt]
   have e:lo=hi:=by omega
   subst e
   exact⟨h3,a,b⟩
theorem below_low{xs:Array Nat}(h:xs.toList.Pairwise (· < ·))(j:Nat):Low xs j (below xs j):=
 below_go h j xs.size 0 xs.size (by omega) (by omega) (Nat.le_refl _) (fun i v hi=>by omega) (fun i v hi hv=>by
  have:=(Array.getElem?_eq_some_iff.mp hv).1
  omega)
theorem below_at{xs:Array Nat}(h:xs.toList.Pairwise (· < ·)){i j:Nat}(hi:xs[i]?=some j):below xs j=i:=by
 obtain⟨a,b,c⟩:=below_low h j
 by_cases q:i<below xs j
 .have:=b i j q hi;omega
 by_cases q2:below xs j<i
 .have hl:=(Array.getElem?_eq_some_iff.mp hi).1
  have e':xs[below xs j]?=some xs[below xs j]:=by simp
  have:=rise_at h e' hi q2
  have:=c _ _ (Nat.le_refl _) e'
  omega
 .omega
theorem slot_live{t:SetTable}(h:t.place.toList.Pairwise (· < ·)){i j:Nat}(hi:t.place[i]?=some j):t.slot j=.live i:=by
 unfold slot
 rw[below_at h hi]
 dsimp only
 rw[hi,if_pos (by simp)]
theorem slot_empty{t:SetTable}(h:t.place.toList.Pairwise (· < ·))(hd:t.dummies=#[]){j:Nat}(hj:j∉t.place.toList):t.slot j=.empty:=by
 unfold slot
 dsimp only
 rw[if_neg,if_neg]
 .rw[hd];unfold has;simp
 .intro e
  have e':t.place[below t.place j]?=some j:=by simpa using e
  apply hj
  rw[<-Array.getElem?_toList]at e'
  exact List.mem_of_getElem? e'
theorem place_at{t:SetTable}{j:Nat}(hj:j∈t.place.toList):∃i:Nat,t.place[i]?=some j:=by
 obtain⟨i,h⟩:=List.getElem?_of_mem hj
 exact⟨i,by rw[<-Array.getElem?_toList];exact h⟩
theorem insertAt_list{α:Type}(xs:Array α)(p:Nat)(x:α):(insertAt xs p x).toList=xs.toList.take p++x::xs.toList.drop p:=by
 unfold insertAt
 simp[Array.toList_extract]
 rw[List.take_of_length_le (by simp)]
theorem insert_rise{xs:Array Nat}(h:xs.toList.Pairwise (· < ·)){j:Nat}(hj:j∉xs.toList):(insertAt xs (below xs j) j).toList.Pairwise (· < ·):=by
 obtain⟨a,b,c⟩:=below_low h j
 rw[insertAt_list,List.pairwise_append]
 refine⟨h.sublist (List.take_sublist _ _),?_,?_⟩
 .rw[List.pairwise_cons]
  refine⟨fun v hv=>?_,h.sublist (List.drop_sublist _ _)⟩
  obtain⟨i,hi⟩:=List.getElem?_of_mem hv
  rw[List.getElem?_drop,Array.getElem?_toList]at hi
  have:=c _ v (by omega) hi
  have:v≠j:=fun e=>hj (by rw[<-e];rw[<-Array.getElem?_toList]at hi;exact List.mem_of_getElem? hi)
  omega
 .intro u hu v hv
  obtain⟨i,hi⟩:=List.getElem?_of_mem hu
  have hi2:i<below xs j:=by
   have:=(List.getElem?_eq_some_iff.mp hi).1
   rw[List.length_take]at this
   omega
  rw[List.getElem?_take_of_lt hi2,Array.getElem?_toList]at hi
  have h1:=b i u hi2 hi
  rcases List.mem_cons.mp hv with rfl|hv
  .exact h1
  .obtain⟨i',hi'⟩:=List.getElem?_of_mem hv
   rw[List.getElem?_drop,Array.getElem?_toList]at hi'
   have:=c _ v (by omega) hi'
   omega
noncomputable def Side(ps:List Nat)(es:List (Int×Value))(j:Nat)(e:Int×Value):Prop:=∃i:Nat,ps[i]?=some j/\es[i]?=some e
theorem side_insert{ps:List Nat}{es:List (Int×Value)}(hl:ps.length=es.length)(p j0:Nat)(hp:p<=ps.length)(e0:Int×Value){j:Nat}{e:Int×Value} :
  Side (ps.take p++j0::ps.drop p) (es.take p++e0::es.drop p) j e↔(j=j0/\e=e0)\/Side ps es j e:=by
 have l1:(ps.take p).length=p:=by rw[List.length_take];omega
 have l2:(es.take p).length=p:=by rw[List.length_take];omega
 constructor
 .rintro⟨i,h1,h2⟩
  by_cases hi:i<p
  .rw[List.getElem?_append_left (by omega),List.getElem?_take_of_lt hi]at h1 h2
   exact .inr ⟨i,h1,h2⟩
  .rw[List.getElem?_append_right (by omega),l1]at h1
   rw[List.getElem?_append_right (by omega),l2]at h2
   cases hq:i-p with
   | zero=>rw[hq]at h1 h2;cases h1;cases h2;exact .inl ⟨rfl,rfl⟩
   | succ q=>
    rw[hq,List.getElem?_cons_succ,List.getElem?_drop]at h1 h2
    exact .inr ⟨p+q,h1,h2⟩
 .rintro(⟨rfl,rfl⟩|⟨i,h1,h2⟩)
  .exact⟨p,by rw[List.getElem?_append_right (by omega),l1,Nat.sub_self];rfl,by rw[List.getElem?_append_right (by omega),l2,Nat.sub_self];rfl⟩
  .by_cases hi:i<p
   .exact⟨i,by rw[List.getElem?_append_left (by omega),List.getElem?_take_of_lt hi];exact h1,by rw[List.getElem?_append_left (by omega),List.getElem?_take_of_lt hi];exact h2⟩
   .refine⟨i+1,?_,?_⟩
    .rw[List.getElem?_append_right (by omega),l1,show i+1-p=(i-p)+1 by omega,List.getElem?_cons_succ,List.getElem?_drop,show p+(i-p)=i by omega];exact h1
    .rw[List.getElem?_append_right (by omega),l2,show i+1-p=(i-p)+1 by omega,List.getElem?_cons_succ,List.getElem?_drop,show p+(i-p)=i by omega];exact h2
noncomputable def st0(mask:Nat)(h:Int):Probe:=at0 mask (bits h % (mask+1),bits h) none
theorem start_eq(t:SetTable)(h:Int):t.probeStart h=st0 t.mask h:=rfl
noncomputable def road(mask:Nat)(h:Int)(n:Nat):Nat:=(itn (adv mask) n (st0 mask h)).j
theorem bits_lt(h:Int):bits h<2^64:=by unfold bits;omega
noncomputable def Stand(mask:Nat)(p:Probe):Prop:=p.more<=9/\p.perturb<2^64/\p.j+p.more<=mask
theorem at0_stand(mask:Nat)(x:Nat×Nat)(d:Option Nat)(h1:x.1<=mask)(h2:x.2<2^64):Stand mask (at0 mask x d):=by
 refine⟨run_le mask x.1,h2,?_⟩
 show x.1+(runEnd mask x.1-x.1)<=mask
 unfold runEnd
 split<;>omega
theorem adv_stand{mask:Nat}{p:Probe}(h:Stand mask p):Stand mask (adv mask p):=by
 obtain⟨h1,h2,h3⟩:=h
 unfold adv
 split
 .exact⟨by simp only;omega,h2,by simp only;omega⟩
 .refine at0_stand mask (leap mask p.i p.perturb) p.dummy ?_ ?_
  .show(p.i*5+1+p.perturb/32) % (mask+1)<=mask
   have:=Nat.mod_lt (p.i*5+1+p.perturb/32) (show 0<mask+1 by omega)
   omega
  .show p.perturb/32<2^64
   omega
theorem itn_stand{mask:Nat}:∀(n:Nat) {p:Probe},Stand mask p->Stand mask (itn (adv mask) n p)
 | 0,_,h=>h
 | n+1,_,h=>itn_stand n (adv_stand h)
theorem st0_stand(mask:Nat)(h:Int):Stand mask (st0 mask h):=at0_stand mask _ _ (by
 have:=Nat.mod_lt (bits h) (show 0<mask+1 by omega)
 show bits h % (mask+1)<=mask
 omega) (bits_lt h)
theorem road_le(mask:Nat)(h:Int)(n:Nat):road mask h n<=mask:=by
 have:=(itn_stand n (st0_stand mask h)).2.2
 unfold road
 omega
structure TOk(t:SetTable)(es:Array (Int×Value)):Prop where
 two:∃k,t.mask+1=2^k/\3<=k/\k<=13
 dm:t.dummies=#[]
 rise:t.place.toList.Pairwise (· < ·)
 bd:∀j∈t.place.toList,j<=t.mask
 sz:t.place.size=es.size
 fit:t.place.size<=t.mask
 onroad:∀j e,Side t.place.toList es.toList j e->∃n,road t.mask e.1 n=j/\∀n',n'<n->road t.mask e.1 n'∈t.place.toList
theorem pigeon{ps:List Nat}{m:Nat}(h:ps.length<=m):∃j,j<=m/\j∉ps:=by
 apply Classical.byContradiction
 intro hn
 have hall:∀j,j<=m->j∈ps:=fun j hj=>Classical.byContradiction fun q=>hn ⟨j,hj,q⟩
 have:=List.Nodup.length_le_of_subset (l₁:=List.range (m+1)) (l₂:=ps) List.nodup_range (fun j hj=>hall j (by have:=List.mem_range.mp hj;omega))
 rw[List.length_range]at this
 omega
theorem go_spec{t:SetTable}{es:Array (Int×Value)}(ok:TOk t es)(hashAt:Nat->Int)(h:Int):∀(fuel:Nat) (p:Probe),(∃n,n<fuel/\(itn (adv t.mask) n p).j∉t.place.toList)->
  (∃n,probe.go t hashAt h fuel p=some (.empty (itn (adv t.mask) n p).j p.dummy)/\(itn (adv t.mask) n p).j∉t.place.toList/\∀n',n'<n->∃i:Nat,t.place[i]?=some (itn (adv t.mask) n' p).j/\hashAt i≠h)\/
  (∃n i,probe.go t hashAt h fuel p=some (.candidate (itn (adv t.mask) n p).j i (itn (adv t.mask) (n+1) p))/\t.place[i]?=some (itn (adv t.mask) n p).j/\hashAt i=h/\∀n',n'<n->∃i':Nat,t.place[i']?=some (itn (adv t.mask) n' p).j/\hashAt i'≠h)
 | 0,p,⟨n,hn,_⟩=>by omega
 | fuel+1,p,⟨n,hn,hfree⟩=>by
  by_cases hp:p.j∈t.place.toList
  .obtain⟨i,hi⟩:=place_at hp
   have hs:=slot_live ok.rise hi
   by_cases hh:hashAt i=h
   .refine .inr (x_EE 0 i ⟨?_,hi,hh,fun n' hn'=>by omega⟩)
    unfold probe.go
    rw[hs]
    dsimp only
    rw[if_pos (by simp[hh])]
    rfl
   .have hrest:∃n,n<fuel/\(itn (adv t.mask) n (adv t.mask p)).j∉t.place.toList:=by
     cases n with
     | zero=>exact absurd hp hfree
     | succ n=>exact⟨n,by omega,hfree⟩
    have hgo:probe.go t hashAt h (fuel+1) p=probe.go t hashAt h fuel (adv t.mask p):=by
     rw[probe.go,hs]
     dsimp only
     rw[if_neg (by simp[hh])]
     rfl
    have hd:(adv t.mask p).dummy=p.dummy:=by unfold adv;split<;>rfl
    have lift:∀{n:Nat},(∀n',n'<n->∃i':Nat,t.place[i']?=some (itn (adv t.mask) n' (adv t.mask p)).j/\hashAt i'≠h)->∀n',n'<n+1->∃i':Nat,t.place[i']?=some (itn (adv t.mask) n' p).j/\hashAt i'≠h:=fun H n' hn'=>by
     cases n' with
     | zero=>exact⟨i,hi,hh⟩
     | succ n'=>exact H n' (by omega)
    rcases go_spec ok hashAt h fuel (adv t.mask p) hrest with ⟨m,e,f,g⟩|⟨m,i',e,f,g,g'⟩
    .exact .inl ⟨m+1,by rw[hgo,e,hd];rfl,f,lift g⟩
    .exact .inr (x_EE (m+1) i' ⟨by rw[hgo,e];rfl,f,g,lift g'⟩)
  .refine .inl ⟨0,?_,hp,fun n' hn'=>by omega⟩
   unfold probe.go
   rw[slot_empty ok.rise ok.dm hp]
   rfl
theorem probe_spec{t:SetTable}{es:Array (Int×Value)}(ok:TOk t es)(hashAt:Nat->Int)(h:Int){p:Probe}(st:Stand t.mask p) :
  (∃n,t.probe hashAt h p=some (.empty (itn (adv t.mask) n p).j p.dummy)/\(itn (adv t.mask) n p).j∉t.place.toList/\∀n',n'<n->∃i:Nat,t.place[i]?=some (itn (adv t.mask) n' p).j/\hashAt i≠h)\/
  (∃n i,t.probe hashAt h p=some (.candidate (itn (adv t.mask) n p).j i (itn (adv t.mask) (n+1) p))/\t.place[i]?=some (itn (adv t.mask) n p).j/\hashAt i=h/\∀n',n'<n->∃i':Nat,t.place[i']?=some (itn (adv t.mask) n' p).j/\hashAt i'≠h):=by
 obtain⟨k,hk,_,_⟩:=ok.two
 obtain⟨j,hj,hn⟩:=pigeon (ps:=t.place.toList) (m:=t.mask) (by rw[Array.length_toList];exact ok.fit)
 obtain⟨n,hl,e⟩:=reach hk p st.1 st.2.1 j hj
 exact go_spec ok hashAt h _ p ⟨n,hl,by rw[e];exact hn⟩
theorem TOk.ahead{t:SetTable}{es:Array (Int×Value)}(ok:TOk t es){j:Nat}{e:Int×Value}(hs:Side t.place.toList es.toList j e){n:Nat}(hf:road t.mask e.1 n∉t.place.toList):∃m,m<n/\road t.mask e.1 m=j:=by
 obtain⟨m,h1,h2⟩:=ok.onroad j e hs
 refine⟨m,?_,h1⟩
 apply Classical.byContradiction
 intro hm
 by_cases q:n<m
 .exact hf (h2 n q)
 .have:m=n:=by omega
  subst this
  rw[h1]at hf
  obtain⟨i,hi,_⟩:=hs
  exact hf (List.mem_of_getElem? hi)
theorem TOk.put{t:SetTable}{es:Array (Int×Value)}(ok:TOk t es){h:Int}{x:Value}{n:Nat}(hf:road t.mask h n∉t.place.toList)(hr:∀n',n'<n->road t.mask h n'∈t.place.toList)(hroom:t.place.size+1<=t.mask) :
  TOk (t.put (road t.mask h n)).1 (insertAt es (t.put (road t.mask h n)).2 (h,x))/\(t.put (road t.mask h n)).1.mask=t.mask/\(t.put (road t.mask h n)).2<=es.size/\(t.put (road t.mask h n)).1.place.size=t.place.size+1:=by
 have hlow:=below_low ok.rise (road t.mask h n)
 have hnod:has t.dummies (road t.mask h n)=false:=by rw[ok.dm];unfold has;simp
 have hput:t.put (road t.mask h n)=({t with place:=insertAt t.place (below t.place (road t.mask h n)) (road t.mask h n),dummies:=#[]},below t.place (road t.mask h n)):=by
  unfold SetTable.put
  rw[hnod,ok.dm]
  rfl
 rw[hput]
 have hsize:(insertAt t.place (below t.place (road t.mask h n)) (road t.mask h n)).size=t.place.size+1:=by
  rw[<-Array.length_toList,insertAt_list,List.length_append,List.length_cons,List.length_take,List.length_drop,Array.length_toList]
  have:=hlow.1
  omega
 have hsz:=ok.sz
 have hmem:∀j,j∈(insertAt t.place (below t.place (road t.mask h n)) (road t.mask h n)).toList↔j=road t.mask h n\/j∈t.place.toList:=fun j=>by
  rw[insertAt_list]
  constructor
  .intro hj
   rcases List.mem_append.mp hj with q|q
   .exact .inr (List.mem_of_mem_take q)
   .rcases List.mem_cons.mp q with q|q
    .exact .inl q
    .exact .inr (List.mem_of_mem_drop q)
  .rintro(rfl|hj)
   .exact List.mem_append_right _ List.mem_cons_self
   .rw[<-List.take_append_drop (below t.place (road t.mask h n)) t.place.toList]at hj
    rcases List.mem_append.mp hj with q|q
    .exact List.mem_append_left _ q
    .exact List.mem_append_right _ (List.mem_cons_of_mem _ q)
 refine⟨⟨ok.two,rfl,insert_rise ok.rise hf,?_,?_,?_,?_⟩,rfl,?_,hsize⟩
 .intro j hj
  rcases(hmem j).mp hj with rfl|q
  .exact road_le _ _ _
  .exact ok.bd j q
 .show(insertAt t.place _ _).size=(insertAt es (below t.place (road t.mask h n)) (h,x)).size
  rw[hsize,<-Array.length_toList (xs:=insertAt es _ _),insertAt_list,List.length_append,List.length_cons,List.length_take,List.length_drop,Array.length_toList]
  have:=hlow.1
  omega
 .show(insertAt t.place _ _).size<=t.mask
  rw[hsize];exact hroom
 .intro j e hs
  have hs':Side (t.place.toList.take (below t.place (road t.mask h n))++road t.mask h n::t.place.toList.drop (below t.place (road t.mask h n))) (es.toList.take (below t.place (road t.mask h n))++(h,x)::es.toList.drop (below t.place (road t.mask h n))) j e:=by
   have hs2:Side (insertAt t.place (below t.place (road t.mask h n)) (road t.mask h n)).toList (insertAt es (below t.place (road t.mask h n)) (h,x)).toList j e:=hs
   rw[insertAt_list,insertAt_list]at hs2
   exact hs2
  rcases(side_insert (by rw[Array.length_toList,Array.length_toList];exact hsz) _ _ (by rw[Array.length_toList];exact hlow.1) _).mp hs' with ⟨rfl,rfl⟩|q
  .exact⟨n,rfl,fun n' hn'=>(hmem _).mpr (.inr (hr n' hn'))⟩
  .obtain⟨m,h1,h2⟩:=ok.onroad j e q
   exact⟨m,h1,fun n' hn'=>(hmem _).mpr (.inr (h2 n' hn'))⟩
 .show below t.place _<=es.size
  have:=hlow.1
  omega
theorem TOk.fits{t:SetTable}{es:Array (Int×Value)}(ok:TOk t es):t.fits es.size=true:=by
 unfold SetTable.fits SetTable.fill
 rw[ok.dm]
 simp[ok.sz]
 have:=ok.fit
 have:=ok.sz
 omega
theorem TOk.noway{t:SetTable}{es:Array (Int×Value)}(ok:TOk t es):t.gaveWay=false:=by
 obtain⟨k,hk,h3,_⟩:=ok.two
 unfold SetTable.gaveWay
 have:2^k % 2=0:=by
  rw[show k=(k-1)+1 by omega,Nat.pow_succ]
  omega
 simp
 omega
theorem TOk.fresh(finger moves:Nat)(led:Bool):TOk (.fresh finger moves led) #[]:=
 ⟨⟨3,rfl,by decide,by decide⟩,rfl,List.Pairwise.nil,(fun j hj=>by cases hj),rfl,(by show 0<=7;decide),(fun j e ⟨i,h,_⟩=>by simp[SetTable.fresh]at h)⟩
theorem reachL{mask k:Nat}(hk:mask+1=2^k)(x:Nat×Nat)(hp:x.2<2^64)(j:Nat)(hj:j<=mask):∃m,m<turns mask/\(itn (lp mask) m x).1=j:=by
 have hz:(itn (lp mask) 13 x).2<32^(13-13):=per_small mask 13 x 13 (Nat.lt_of_lt_of_le hp (by decide))
 have hz0:(itn (lp mask) 13 x).2=0:=by simpa using hz
 have hi:(itn (lp mask) 13 x).1<2^k:=by
  rw[itn_succ]
  exact lp_lt hk _
 have e0:∀m,itn (lp mask) (13+m) x=itn (lp mask) m (itn (lp mask) 13 x):=fun m=>itn_add _ _ _ _
 generalize itn (lp mask) 13 x=y at *
 obtain⟨y1,y2⟩:=y
 simp only at hz0 hi
 subst hz0
 obtain⟨m,hm2,e3⟩:=g5_all k y1 j
 refine⟨13+m,?_,?_⟩
 .unfold turns
  omega
 .rw[e0,plain_leaps hk m y1 hi]
  show g5 m y1 % 2^k=j
  rw[e3,Nat.mod_eq_of_lt (by omega)]
theorem in_run(mask:Nat):∀(q:Nat) (p:Probe),q<=p.more->(itn (adv mask) q p).j=p.j+q
 | 0,p,_=>rfl
 | q+1,p,h=>by
  show(itn (adv mask) q (adv mask p)).j=_
  have e:adv mask p={p with j:=p.j+1,more:=p.more-1}:=by unfold adv;rw[if_pos (by omega)]
  rw[e,in_run mask q _ (by show q<=p.more-1;omega)]
  show p.j+1+q=p.j+(q+1)
  omega
noncomputable def Taken(owner:Array (Option Nat))(j:Nat):Prop:=∃q,owner[j]?=some (some q)
theorem free_spec{mask k:Nat}(hk:mask+1=2^k){owner:Array (Option Nat)}(hs:owner.size=mask+1){f:Nat}(hf:owner[f]?=some none):∀(fuel:Nat) (x:Nat×Nat),x.1<=mask->x.2<2^64->(∃m,m<fuel/\(itn (lp mask) m x).1=f)->
  ∃j n,layClean.free mask owner fuel x.1 x.2=some j/\(itn (adv mask) n (at0 mask x none)).j=j/\owner[j]?=some none/\∀n',n'<n->Taken owner (itn (adv mask) n' (at0 mask x none)).j
 | 0,x,_,_,⟨m,hm,_⟩=>by omega
 | fuel+1,x,h1,h2,⟨m,hm,em⟩=>by
  have hrun:(at0 mask x none).more=runEnd mask x.1-x.1:=rfl
  have hend:runEnd mask x.1<=mask/\x.1<=runEnd mask x.1:=by
   unfold runEnd
   split<;>omega
  have get:∀q,(hq:q<runEnd mask x.1+1-x.1)->owner.getD (x.1+q) (some 0)=owner[x.1+q]'(by omega):=fun q hq=>by
   simp only[Array.getD]
   rw[dif_pos (show x.1+q<owner.size by omega)]
   rfl
  have pos:∀q,q<runEnd mask x.1+1-x.1->(itn (adv mask) q (at0 mask x none)).j=x.1+q:=fun q hq=>in_run mask q _ (by rw[hrun];omega)
  have occ:∀q (hq:q<runEnd mask x.1+1-x.1),(owner.getD (x.1+q) (some 0)).isNone=false->Taken owner (x.1+q):=fun q hq hn=>by
   rw[get q hq]at hn
   cases hv:owner[x.1+q]'(by omega)with
   | none=>rw[hv]at hn;cases hn
   | some v=>exact⟨v,by rw[Array.getElem?_eq_getElem (by omega),hv]⟩
  unfold layClean.free
  cases hfd:(List.range (runEnd mask x.1+1-x.1)).find? fun k=>(owner.getD (x.1+k) (some 0)).isNone with
  | some q=>
   rw[List.find?_range_eq_some]at hfd
   obtain⟨a,b,c⟩:=hfd
   have hq:q<runEnd mask x.1+1-x.1:=List.mem_range.mp b
   refine(x_EE (x.1+q) q ⟨rfl,pos q hq,?_,fun n' hn'=>?_⟩)
   .rw[get q hq]at a
    rw[Array.getElem?_eq_getElem (by omega)]
    cases hv:owner[x.1+q]'(by omega)with
    | none=>rfl
    | some v=>rw[hv]at a;cases a
   .rw[pos n' (by omega)]
    exact occ n' (by omega) (by simpa using c n' hn')
  | none=>
   rw[List.find?_range_eq_none]at hfd
   dsimp only
   cases m with
   | zero=>
    have e0:x.1=f:=em
    have:=hfd 0 (by omega)
    rw[Nat.add_zero]at this
    have g:=get 0 (by omega)
    simp only[Nat.add_zero]at g
    rw[g]at this
    subst e0
    rw[Array.getElem?_eq_getElem (by omega)]at hf
    injection hf with hf
    rw[hf]at this
    cases this
   | succ m=>
    have hl1:(lp mask x).1<=mask:=by have:=lp_lt hk x;omega
    have hl2:(lp mask x).2<2^64:=by show x.2/32<2^64;omega
    obtain⟨j,n,e1,e2,e3,e4⟩:=free_spec hk hs hf fuel (lp mask x) hl1 hl2 ⟨m,by omega,em⟩
    have tl:=to_leap mask _ (at0 mask x none) rfl
    refine(x_EE j ((at0 mask x none).more+1+n) ⟨e1,?_,e3,fun n' hn'=>?_⟩)
    .rw[itn_add,tl];exact e2
    .by_cases hq:n'<(at0 mask x none).more+1
     .have hq':n'<runEnd mask x.1+1-x.1:=by rw[hrun]at hq;omega
      rw[pos n' hq']
      exact occ n' hq' (by simpa using hfd n' hq')
     .have:=e4 (n'-((at0 mask x none).more+1)) (by omega)
      rw[show n'=(at0 mask x none).more+1+(n'-((at0 mask x none).more+1)) by omega,itn_add,tl]
      exact this
structure Own(mask:Nat)(hs:List Int)(owner:Array (Option Nat))(k:Nat):Prop where
 size:owner.size=mask+1
 o1:∀j q:Nat,owner[j]?=some (some q)->q<k/\∃h,hs[q]?=some h/\∃n,road mask h n=j/\∀n',n'<n->Taken owner (road mask h n')
 o2:∀q:Nat,q<k->∃j:Nat,owner[j]?=some (some q)
 o3:∀j j' q:Nat,owner[j]?=some (some q)->owner[j']?=some (some q)->j=j'
theorem Own.free{mask:Nat}{hs:List Int}{owner:Array (Option Nat)}{k:Nat}(o:Own mask hs owner k)(hk:k<=mask):∃f,f<=mask/\owner[f]?=some none:=by
 apply Classical.byContradiction
 intro hn
 have hall:∀j,j<=mask->∃q,owner[j]?=some (some q):=fun j hj=>by
  have hj':j<owner.size:=by rw[o.size];omega
  cases hv:owner[j]with
  | none=>exact absurd ⟨j,hj,by rw[Array.getElem?_eq_getElem hj',hv]⟩ hn
  | some q=>exact⟨q,by rw[Array.getElem?_eq_getElem hj',hv]⟩
 have val:∀(j q:Nat),owner[j]?=some (some q)->((owner[j]?).getD none).getD 0=q:=fun j q h=>by rw[h];rfl
 have nd:((List.range (mask+1)).map fun j=>((owner[j]?).getD none).getD 0).Nodup:=by
  show List.Pairwise _ _
  rw[List.pairwise_map]
  refine List.Pairwise.imp_of_mem ?_ (List.nodup_range (n:=mask+1))
  intro a b ha hb hab e
  obtain⟨q,hq⟩:=hall a (by have:=List.mem_range.mp ha;omega)
  obtain⟨q',hq'⟩:=hall b (by have:=List.mem_range.mp hb;omega)
  rw[val a q hq,val b q' hq']at e
  subst e
  exact hab (o.o3 a b q hq hq')
 have:=List.Nodup.length_le_of_subset (l₂:=List.range k) nd (fun v hv=>by
  obtain⟨j,hj,rfl⟩:=List.mem_map.mp hv
  obtain⟨q,hq⟩:=hall j (by have:=List.mem_range.mp hj;omega)
  rw[val j q hq]
  exact List.mem_range.mpr (o.o1 j q hq).1)
 rw[List.length_map,List.length_range,List.length_range]at this
 omega
noncomputable def layStep(mask:Nat)(acc:Option (Array (Option Nat)×Nat))(h:Int):Option (Array (Option Nat)×Nat):=do
 let (owner,k) <-acc
 let j <-layClean.free mask owner (turns mask) (bits h % (mask+1)) (bits h)
 pure (owner.setIfInBounds j (some k),k+1)
theorem layClean_eq(mask:Nat)(hs:Array Int):layClean mask hs=(hs.toList.foldl (layStep mask) (some (Array.replicate (mask+1) none,0))).map (·.1):=by
 unfold layClean
 rw[<-Array.foldl_toList]
 rfl
theorem set_get{owner:Array (Option Nat)}{j:Nat}{v:Option Nat}(hj:j<owner.size)(i:Nat):(owner.setIfInBounds j v)[i]?=if i=j then some v else owner[i]?:=by
 rw[Array.getElem?_setIfInBounds]
 by_cases e:j=i
 .subst e;rw[if_pos rfl,if_pos hj,if_pos rfl]
 .rw[if_neg e,if_neg (Ne.symm e)]
theorem lay_fold{mask k0:Nat}(hk0:mask+1=2^k0)(hs:List Int)(hle:hs.length<=mask):∀(rest:List Int) (k:Nat) (owner:Array (Option Nat)),hs.drop k=rest->k<=hs.length->Own mask hs owner k->
  ∃owner',rest.foldl (layStep mask) (some (owner,k))=some (owner',hs.length)/\Own mask hs owner' hs.length
 | [],k,owner,hd,hk,o=>by
  have:hs.length<=k:=by
   have:=congrArg List.length hd
   rw[List.length_drop]at this
   simp at this
   omega
  have e:k=hs.length:=by omega
  subst e
  exact⟨owner,rfl,o⟩
 | h::rest,k,owner,hd,hk,o=>by
  have hkl:k<hs.length:=by
   have:=congrArg List.length hd
   rw[List.length_drop]at this
   simp at this
   omega
  have hat:hs[k]?=some h:=by
   have:(hs.drop k)[0]?=some h:=by rw[hd];rfl
   rw[List.getElem?_drop]at this
   simpa using this
  obtain⟨f,hfm,hf⟩:=o.free (by omega)
  obtain⟨m,hm,em⟩:=reachL hk0 (bits h % (mask+1),bits h) (bits_lt h) f hfm
  have hb:bits h % (mask+1)<=mask:=by have:=Nat.mod_lt (bits h) (show 0<mask+1 by omega);omega
  obtain⟨j,n,e1,e2,e3,e4⟩:=free_spec hk0 o.size hf (turns mask) (bits h % (mask+1),bits h) hb (bits_lt h) ⟨m,hm,em⟩
  have ej:road mask h n=j:=e2
  have hjs:j<owner.size:=by
   have:=(Array.getElem?_eq_some_iff.mp e3).1
   exact this
  have hstep:layStep mask (some (owner,k)) h=some (owner.setIfInBounds j (some k),k+1):=by
   show(layClean.free mask owner (turns mask) (bits h % (mask+1)) (bits h)).bind _=_
   rw[e1]
   rfl
  have tk:∀i,Taken owner i->Taken (owner.setIfInBounds j (some k)) i:=fun i ⟨q,hq⟩=>by
   by_cases e:i=j
   .exact⟨k,by rw[set_get hjs,if_pos e]⟩
   .exact⟨q,by rw[set_get hjs,if_neg e];exact hq⟩
  have o':Own mask hs (owner.setIfInBounds j (some k)) (k+1):=by
   refine⟨by rw[Array.size_setIfInBounds];exact o.size,fun i q hq=>?_,fun q hq=>?_,fun i i' q hq hq'=>?_⟩
   .rw[set_get hjs]at hq
    by_cases e:i=j
    .rw[if_pos e]at hq
     cases hq
     exact⟨by omega,(x_EAE h hat n ⟨by rw[ej,e],fun n' hn'=>tk _ (e4 n' hn')⟩)⟩
    .rw[if_neg e]at hq
     obtain⟨a,h',b,n',c,d⟩:=o.o1 i q hq
     exact⟨by omega,(x_EAE h' b n' ⟨c,fun n'' hn''=>tk _ (d n'' hn'')⟩)⟩
   .by_cases e:q=k
    .exact⟨j,by rw[set_get hjs,if_pos rfl,e]⟩
    .obtain⟨i,hi⟩:=o.o2 q (by omega)
     have:i≠j:=fun e'=>by rw[e',e3]at hi;cases hi
     exact⟨i,by rw[set_get hjs,if_neg this];exact hi⟩
   .rw[set_get hjs]at hq hq'
    by_cases e:i=j<;>by_cases e':i'=j
    .rw[e,e']
    .rw[if_pos e]at hq;rw[if_neg e']at hq'
     cases hq
     have:=(o.o1 i' k hq').1
     omega
    .rw[if_neg e]at hq;rw[if_pos e']at hq'
     cases hq'
     have:=(o.o1 i k hq).1
     omega
    .rw[if_neg e]at hq;rw[if_neg e']at hq'
     exact o.o3 i i' q hq hq'
  rw[List.foldl_cons,hstep]
  refine lay_fold hk0 hs hle rest (k+1) _ ?_ (by omega) o'
  rw[<-List.drop_drop,hd]
  rfl
theorem layClean_spec{mask k0:Nat}(hk0:mask+1=2^k0)(hs:Array Int)(hle:hs.size<=mask):∃owner,layClean mask hs=some owner/\Own mask hs.toList owner hs.size:=by
 rw[layClean_eq]
 obtain⟨o,e,ok⟩:=lay_fold hk0 hs.toList (by rw[Array.length_toList];exact hle) hs.toList 0 (Array.replicate (mask+1) none) rfl (Nat.zero_le _) (by
  refine⟨by simp,fun j q hq=>?_,fun q hq=>by omega,fun j j' q hq hq'=>?_⟩
  .rw[Array.getElem?_replicate]at hq
   split at hq<;>cases hq
  .rw[Array.getElem?_replicate]at hq
   split at hq<;>cases hq)
 rw[e]
 exact⟨o,rfl,by rw[Array.length_toList]at ok;exact ok⟩
theorem sizeAbove_go:∀(fuel k n:Nat),∃k',sizeAbove.go n fuel (2^k)=2^k'/\k<=k'/\k'<=k+fuel/\(n<2^(k+fuel)->n<2^k')/\(k'=k\/2^k'<=2*n)
 | 0,k,n=>⟨k,rfl,Nat.le_refl _,Nat.le_refl _,id,.inl rfl⟩
 | fuel+1,k,n=>by
  unfold sizeAbove.go
  by_cases h:2^k<=n
  .rw[if_pos h,show 2^k*2=2^(k+1)from (Nat.pow_succ ..).symm]
   obtain⟨k',a,b,c,d,e⟩:=sizeAbove_go fuel (k+1) n
   refine⟨k',a,by omega,by omega,fun q=>d (by rw[show k+1+fuel=k+(fuel+1) by omega];exact q),?_⟩
   rcases e with e|e
   .rw[e,Nat.pow_succ];omega
   .exact .inr e
  .rw[if_neg h]
   exact⟨k,rfl,Nat.le_refl _,by omega,fun _=>by omega,.inl rfl⟩
theorem sizeAbove_spec(n:Nat)(hn:n<2^13):∃k,sizeAbove n=2^k/\3<=k/\k<=13/\n<2^k:=by
 obtain⟨k,a,b,c,d,e⟩:=sizeAbove_go 64 3 n
 refine⟨k,a,b,?_,d (Nat.lt_trans hn (Nat.pow_lt_pow_right (by decide) (by decide)))⟩
 rcases e with e|e
 .omega
 .apply Classical.byContradiction
  intro h
  have:2^14<=2^k:=Nat.pow_le_pow_right (by decide) (by omega)
  have e14:2^14=2*2^13:=by decide
  omega
theorem filterMap_all{α β:Type}{f:α->Option β}{g:α->β}:∀(l:List α),(∀x∈l,f x=some (g x))->l.filterMap f=l.map g
 | [],_=>rfl
 | a::l,h=>by
  rw[List.filterMap_cons,h a List.mem_cons_self,List.map_cons,filterMap_all l fun x hx=>h x (List.mem_cons_of_mem _ hx)]
theorem relaid_spec{t:SetTable}{es:Array (Int×Value)}{wanted:Nat}(hw:es.size*4<=wanted)(hw2:wanted<2^13)(hpos:0<es.size) :
  ∃t' order,t.relaid (es.map (·.1)) wanted=some (t',order)/\TOk t' (order.filterMap (es[·]?))/\(order.filterMap (es[·]?)).toList.Perm es.toList/\t'.place.size*5<t'.mask*3/\t'.led=t.led:=by
 obtain⟨k,ek,k3,k13,hn⟩:=sizeAbove_spec wanted hw2
 have hmask:sizeAbove wanted-1+1=2^k:=by rw[ek];have:=Nat.two_pow_pos k;omega
 have hle:(es.map (·.1)).size<=sizeAbove wanted-1:=by rw[Array.size_map,ek];omega
 obtain⟨owner,eo,ok⟩:=layClean_spec hmask (es.map (·.1)) hle
 rw[Array.size_map]at ok
 generalize hm:sizeAbove wanted-1=mask at *
 let live:=(List.range (mask+1)).filterMap fun j=>(owner.getD j none).map fun q=>(j,q)
 have hlive:∀j q,(j,q)∈live↔owner[j]?=some (some q):=fun j q=>by
  show(j,q)∈(List.range (mask+1)).filterMap _↔_
  rw[List.mem_filterMap]
  constructor
  .rintro⟨a,ha,e⟩
   have hs:a<owner.size:=by rw[ok.size];exact List.mem_range.mp ha
   simp only[Array.getD,dif_pos hs]at e
   cases hv:owner[a]with
   | none=>
    have e':(owner[a]).map (fun q=>(a,q))=some (j,q):=e
    rw[hv]at e';cases e'
   | some v=>
    have e':(owner[a]).map (fun q=>(a,q))=some (j,q):=e
    rw[hv]at e';cases e'
    rw[Array.getElem?_eq_getElem hs,hv]
  .intro h
   obtain⟨hs,hv⟩:=Array.getElem?_eq_some_iff.mp h
   refine⟨j,List.mem_range.mpr (by rw[<-ok.size];exact hs),?_⟩
   simp only[Array.getD,dif_pos hs]
   show(owner[j]).map (fun q=>(j,q))=some (j,q)
   rw[hv];rfl
 have hrise:(live.map (·.1)).Pairwise (· < ·):=by
  rw[List.pairwise_map]
  show((List.range (mask+1)).filterMap _).Pairwise _
  rw[List.pairwise_filterMap]
  refine List.Pairwise.imp ?_ (List.pairwise_lt_range (n:=mask+1))
  intro a b hab x hx y hy
  obtain⟨q,_,rfl⟩:=Option.map_eq_some_iff.mp hx
  obtain⟨q',_,rfl⟩:=Option.map_eq_some_iff.mp hy
  exact hab
 have hnd:(live.map (·.2)).Nodup:=by
  show List.Pairwise _ _
  rw[List.pairwise_map]
  have h1:live.Pairwise fun a b=>a.1<b.1:=by rw[List.pairwise_map]at hrise;exact hrise
  refine List.Pairwise.imp_of_mem ?_ h1
  intro a b ha hb hab e
  have:=ok.o3 a.1 b.1 a.2 ((hlive _ _).mp ha) (by rw[e];exact(hlive _ _).mp hb)
  omega
 have hperm:(live.map (·.2)).Perm (List.range es.size):=by
  rw[List.perm_ext_iff_of_nodup hnd List.nodup_range]
  intro q
  rw[List.mem_map,List.mem_range]
  constructor
  .rintro⟨⟨j,q'⟩,h,rfl⟩
   exact(ok.o1 j q' ((hlive _ _).mp h)).1
  .intro h
   obtain⟨j,hj⟩:=ok.o2 q h
   exact⟨(j,q),(hlive _ _).mpr hj,rfl⟩
 have hlen:live.length=es.size:=by have:=hperm.length_eq;rw[List.length_map,List.length_range]at this;exact this
 have hfm:((live.map (·.2)).toArray.filterMap (es[·]?)).toList=live.map fun x=>es[x.2]?.getD (0,.none):=by
  rw[Array.toList_filterMap]
  show List.filterMap _ (live.map (·.2))=_
  rw[List.filterMap_map]
  have:∀x∈live,es[x.2]?=some (es[x.2]?.getD (0,.none)):=fun x hx=>by
   have hlt:=(ok.o1 x.1 x.2 ((hlive x.1 x.2).mp hx)).1
   rw[Array.getElem?_eq_getElem hlt];rfl
  exact filterMap_all live this
 have hesl:(live.map fun x=>es[x.2]?.getD (0,.none)).Perm es.toList:=by
  have h1:=hperm.map fun q=>es[q]?.getD (0,.none)
  rw[List.map_map]at h1
  have h2:(List.range es.size).map (fun q=>es[q]?.getD (0,.none))=es.toList:=by
   apply List.ext_getElem
   .simp
   .intro i a b
    simp
    rw[Array.getElem?_eq_getElem (by simpa using b)]
    rfl
  rw[h2]at h1
  exact h1
 refine(x_EE ⟨mask,(live.map (·.1)).toArray,#[],t.finger,t.led,t.movedTo mask,t.plain⟩ ((live.map (·.2)).toArray) ⟨?_,?_,?_,?_,rfl⟩)
 .unfold SetTable.relaid SetTable.laid
  rw[hm,eo]
  rfl
 .refine⟨⟨k,hmask,k3,k13⟩,rfl,by simpa using hrise,?_,?_,?_,?_⟩
  .intro j hj
   have hj':j∈live.map (·.1):=by simpa using hj
   obtain⟨⟨j',q⟩,h,rfl⟩:=List.mem_map.mp hj'
   have:=(Array.getElem?_eq_some_iff.mp ((hlive _ _).mp h)).1
   rw[ok.size]at this
   show j'<=mask
   omega
  .rw[<-Array.length_toList (xs:=Array.filterMap _ _),hfm]
   simp
  .show(live.map (·.1)).toArray.size<=mask
   simp
   rw[Array.size_map]at hle
   omega
  .intro j e hs
   rw[hfm]at hs
   obtain⟨i,h1,h2⟩:=hs
   have h1':(live.map (·.1))[i]?=some j:=by simpa using h1
   rw[List.getElem?_map]at h1' h2
   cases hl:live[i]? with
   | none=>rw[hl]at h1';cases h1'
   | some x=>
    rw[hl]at h1' h2
    obtain⟨j',q⟩:=x
    cases h1'
    obtain⟨hq,h,a,n,b,c⟩:=ok.o1 j' q ((hlive _ _).mp (List.mem_of_getElem? hl))
    have e2:es[q]?.getD (0,.none)=e:=by cases h2;rfl
    have e3:e.1=h:=by
     rw[<-e2,Array.getElem?_eq_getElem hq]
     have a':(es.map (·.1))[q]?=some h:=by rw[<-Array.getElem?_toList];exact a
     rw[Array.getElem?_map,Array.getElem?_eq_getElem hq]at a'
     simpa using a'
    rw[e3]
    refine⟨n,b,fun n' hn'=>?_⟩
    obtain⟨q',hq'⟩:=c n' hn'
    have:road mask h n'∈live.map (·.1):=List.mem_map.mpr ⟨(road mask h n',q'),(hlive _ _).mpr hq',rfl⟩
    simpa using this
 .rw[hfm];exact hesl
 .show(live.map (·.1)).toArray.size*5<mask*3
  simp
  rw[hlen]
  omega
end L3
namespace L3
open PySem
variable{Pv:Value->PyData->Prop}
mutual
noncomputable def kd:PyData->Bool
 | .int _=>true
 | .str _=>true
 | .tuple ds=>kdAll ds
 | .none=>false
 | .bool _=>false
 | .list _=>false
 | .dict _=>false
noncomputable def kdAll:List PyData->Bool
 | []=>true
 | d::ds=>kd d&&kdAll ds
end
mutual
noncomputable def hashD(w:World):PyData->Int
 | .int i=>hashInt i
 | .str x=>hashStr w x
 | .tuple ds=>reduceHash (Builtin.Tuple.tupleHashOf (hashAll w ds))
 | .none=>0
 | .bool _=>0
 | .list _=>0
 | .dict _=>0
noncomputable def hashAll(w:World):List PyData->List Int
 | []=>[]
 | d::ds=>hashD w d::hashAll w ds
end
noncomputable def Hashes(d:PyData):Prop:=∀(prog:Program) (w:World) (A:Around) (E:Value->Shared->Prop) (s:Shared) (v:Value) (as:List Addr) (Q:Int->Shared->Prop),Reads s.heap v d as->A.units+d.depth<cLine->(∀tk,s.toks<=tk->Q (hashD w d) {s with toks:=tk})->wpAny (model prog w) A (pyHash v) Q E s
theorem hash_tuple{ds:List PyData}(H:∀d∈ds,Hashes d):Hashes (.tuple ds):=fun prog w A E s v as Q r hu h=>by
 cases r with
 | @tuple a o vs n _ _ ho hc hd hi=>
 have hT:s.TypeIs (.ref a) "tuple":=⟨o,ho,hc⟩
 have hu':A.units+(PyData.depthAll ds+1)<cLine:=hu
 unfold pyHash
 first|unfold pyHashByItsType|skip
 first|refine wpAny_bind (wpAny_cRoomFor_or (.inr (show A.units<cLine by omega)) ?_)|skip
 refine wpAny_bind (wpAny_specialOf (name:="__hash__") hT F.slot_tuple_hash.lookup ?_)
 show wpAny _ _ (if (some (Value.builtin "tuple.__hash__")==some Value.none)=true then _ else _) _ _ _
 rw[if_neg (show ¬_ by rw[beq_builtin_none];exact Bool.false_ne_true)]
 refine wpAny_bind (wpAny_specialOf (name:="__hash__") hT F.slot_tuple_hash.lookup ?_)
 show wpAny _ _ (callSpecialIfBoundUnlessNone? (.ref a) "__hash__" _ >>= _) _ _ _
 refine wpAny_bind (wpAny_callSpecialIfBoundUnlessNone?_slot (name:="__hash__") hT F.slot_tuple_hash (wpAny_call_entry (name:="__hash__") F.slot_tuple_hash hT F.entry_tuple_hash ?_ (F.args_tuple_hash_1 _)))
 show wpAny _ _ (Builtin.Tuple.tupleItemsOf (.ref a) >>= _) _ _ _
 refine wpAny_bind (wpAny_tupleItemsOf (n:=n) ho hd ?_)
 refine wpAny_bind ?_
 rw[<-Array.forIn_toList]
 refine wpAny_forIn_list _
  (fun rest (b:Array Int) s'=>∃done left bs tk,ds=done++left/\ReadsAll s.heap rest left bs/\b.toList=hashAll w done/\s'={s with toks:=tk}/\s.toks<=tk)
  _ (fun x rest b s' hI=>?_) (fun b s' hI=>?_) _ _ (x_EEEE ([]) ds as s.toks ⟨rfl,hi,rfl,rfl,Nat.le_refl _⟩)
 .obtain⟨done,left,bs,tk,e,hl,hb,rfl,hk⟩:=hI
  cases hl with
  | @cons _ _ d ds' _ _ h1 hl'=>
   have hmem:d∈ds:=by rw[e];simp
   have hdep:∀(l:List PyData),d∈l->d.depth<=PyData.depthAll l:=fun l=>by
    induction l with
    | nil=>intro q;cases q
    | cons y l ih=>
     intro q
     show _<=max y.depth (PyData.depthAll l)
     rcases List.mem_cons.mp q with rfl|q
     .exact Nat.le_max_left _ _
     .exact Nat.le_trans (ih q) (Nat.le_max_right _ _)
   have hd1:=hdep ds hmem
   refine wpAny_bind (H d hmem prog w _ E {s with toks:=tk} x _ _ h1 (by show A.units+1+d.depth<cLine;omega) fun tk' hk'=>?_)
   have hap:∀(l:List PyData),hashAll w (l++[d])=hashAll w l++[hashD w d]:=fun l=>by
    induction l with
    | nil=>rfl
    | cons y l ih=>show hashD w y::hashAll w (l++[d])=_;rw[ih];rfl
   first
    | exact wpAny_pure (x_EEEE (done++[d]) ds' _ tk' ⟨by simp[e],hl',by simp[hb,hap],rfl,Nat.le_trans hk hk'⟩)
    | exact wpAny_bind (wpAny_pure (wpAny_pure ⟨done++[d],ds',_,tk',by simp[e],hl',by simp[hb,hap],rfl,Nat.le_trans hk hk'⟩))
 .obtain⟨done,left,bs,tk,e,hl,hb,rfl,hk⟩:=hI
  cases hl
  rw[List.append_nil]at e
  subst e
  show wpAny _ _ (retInt (Builtin.Tuple.tupleHashOf b.toList)) _ _ _
  rw[hb]
  refine wpAny_ret_mkInt ?_
  show wpAny _ _ (if (decide (-(2:Int)^63<=Builtin.Tuple.tupleHashOf (hashAll w ds))&&decide (Builtin.Tuple.tupleHashOf (hashAll w ds)<2^63))=true then _ else _) _ _ _
  have h':∀tk,s.toks<=tk->Q (reduceHash (Builtin.Tuple.tupleHashOf (hashAll w ds))) {s with toks:=tk}:=h
  unfold reduceHash at h'
  split
  .rename_i hr
   rw[if_pos hr]at h'
   exact wpAny_pure (h' _ (by simp only;omega))
  .rename_i hr
   rw[if_neg hr]at h'
   exact wpAny_bind (wpAny_rule (wpAny_pure (h' _ (by simp only;omega))))
mutual
theorem hash_reads:∀(d:PyData),kd d=true->Hashes d
 | .int i,_=>fun prog w A E s v as Q r hu h=>by
  cases r with
  | int=>exact wpAny_pyHash_int (h _ (by omega))
 | .str x,_=>fun prog w A E s v as Q r hu h=>by
  cases r with
  | str=>exact wpAny_pyHash_str (h _ (by omega))
 | .tuple ds,hk=>hash_tuple (hash_readsAll ds hk)
 | .none,hk=>absurd hk Bool.false_ne_true
 | .bool _,hk=>absurd hk Bool.false_ne_true
 | .list _,hk=>absurd hk Bool.false_ne_true
 | .dict _,hk=>absurd hk Bool.false_ne_true
theorem hash_readsAll:∀(ds:List PyData),kdAll ds=true->∀d∈ds,Hashes d
 | [],_,d,hd=>by cases hd
 | e::ds,hk,d,hd=>by
  have hk':(kd e&&kdAll ds)=true:=hk
  rw[Bool.and_eq_true]at hk'
  rcases List.mem_cons.mp hd with h|hd
  .rw[h];exact hash_reads e hk'.1
  .exact hash_readsAll ds hk'.2 d hd
end
mutual
theorem eqv_kd:∀(d e:PyData),kd d=true->kd e=true->PyData.eqv d e=true->d=e
 | .int i,e,_,he,h=>by
  cases e<;>simp[PyData.eqv,kd]at h he⊢
  exact h
 | .str x,e,_,he,h=>by
  cases e<;>simp[PyData.eqv,kd]at h he⊢
  exact h
 | .tuple ds,e,hd,he,h=>by
  cases e with
  | tuple es=>
   have:=eqv_kdAll ds es hd he (by simpa [PyData.eqv]using h)
   rw[this]
  | _=>simp[PyData.eqv,kd]at h he
 | .none,_,hd,_,_=>absurd hd Bool.false_ne_true
 | .bool _,_,hd,_,_=>absurd hd Bool.false_ne_true
 | .list _,_,hd,_,_=>absurd hd Bool.false_ne_true
 | .dict _,_,hd,_,_=>absurd hd Bool.false_ne_true
theorem eqv_kdAll:∀(ds es:List PyData),kdAll ds=true->kdAll es=true->PyData.eqvAll ds es=true->ds=es
 | [],[],_,_,_=>rfl
 | [],_::_,_,_,h=>by simp[PyData.eqvAll]at h
 | _::_,[],_,_,h=>by simp[PyData.eqvAll]at h
 | d::ds,e::es,hd,he,h=>by
  have hd':(kd d&&kdAll ds)=true:=hd
  have he':(kd e&&kdAll es)=true:=he
  rw[Bool.and_eq_true]at hd' he'
  have h':PyData.eqv d e=true/\PyData.eqvAll ds es=true:=by simpa [PyData.eqvAll]using h
  rw[eqv_kd d e hd'.1 he'.1 h'.1,eqv_kdAll ds es hd'.2 he'.2 h'.2]
end
theorem reads_all_mem{h:Heap}:∀{vs:List Value} {ds:List PyData} {as:List Addr},ReadsAll h vs ds as->∀v∈vs,∃d bs,d∈ds/\Reads h v d bs
 | _,_,_,.nil,v,hv=>by cases hv
 | _,_,_,.cons h1 h2,v,hv=>by
  rcases List.mem_cons.mp hv with e|hv
  .rw[e];exact(x_EE _ _ ⟨List.mem_cons_self,h1⟩)
  .obtain⟨d,bs,q1,q2⟩:=reads_all_mem h2 v hv
   exact(x_EE d bs ⟨List.mem_cons_of_mem _ q1,q2⟩)
theorem kd_mem:∀{ds:List PyData},kdAll ds=true->∀d∈ds,kd d=true
 | [],_,d,hd=>by cases hd
 | e::ds,hk,d,hd=>by
  have hk':(kd e&&kdAll ds)=true:=hk
  rw[Bool.and_eq_true]at hk'
  rcases List.mem_cons.mp hd with h|hd
  .rw[h];exact hk'.1
  .exact kd_mem hk'.2 d hd
theorem dep_mem:∀{ds:List PyData},∀d∈ds,d.depth<=PyData.depthAll ds
 | [],d,hd=>by cases hd
 | e::ds,d,hd=>by
  show _<=max e.depth (PyData.depthAll ds)
  rcases List.mem_cons.mp hd with h|hd
  .rw[h];exact Nat.le_max_left _ _
  .exact Nat.le_trans (dep_mem d hd) (Nat.le_max_right _ _)
section
variable{prog:Program}{w:World}{A:Around}{E:Value->Shared->Prop}{s:Shared}
theorem quiet_reads(n:Nat):∀{v:Value} {d:PyData} {as:List Addr} {Q:Bool->Shared->Prop},kd d=true->Reads s.heap v d as->d.depth<n->Q true s->wpAny (model prog w) A (eqIsQuiet n v) Q E s:=by
 induction n with
 | zero=>intro v d as Q hk r hn q;exact absurd hn (Nat.not_lt_zero _)
 | succ n ih=>
  intro v d as Q hk r hn q
  cases d with
  | int i=>cases r with|int=>rw[eqIsQuiet_byValue _ rfl];exact wpAny_pure q
  | str x=>cases r with|str=>rw[eqIsQuiet_byValue _ rfl];exact wpAny_pure q
  | tuple ds=>
    cases r with
    | @tuple a o vs m _ _ ho hc hd hi=>
    have hT:s.TypeIs (.ref a) "tuple":=⟨o,ho,hc⟩
    have hn':PyData.depthAll ds+1<n+1:=hn
    unfold eqIsQuiet
    refine wpAny_bind (wpAny_specialOf (name:="__eq__") hT F.slot_tuple_eq.lookup ?_)
    show wpAny _ _ (isInstance (.ref a) (.type "tuple") >>= _) _ _ _
    refine wpAny_bind (wpAny_isInstance (T:="tuple") hT isSubtype_tuple_tuple ?_)
    simp only[Bool.not_true,Bool.false_eq_true,if_false]
    refine wpAny_bind (wpAny_seqItems (n:=m) ho hd ?_)
    refine wpAny_bind ?_
    show wpAny _ _ (forIn vs _ _) _ _ _
    rw[<-Array.forIn_toList]
    refine wpAny_forIn_list _ (fun rest r s'=>r.1=none/\s'=s/\∀v∈rest,v∈vs.toList) _ (fun v rest r s' hI=>?_) (fun r s' hI=>?_) _ _ ⟨rfl,rfl,fun v hv=>hv⟩
    .obtain⟨hr,es,hall⟩:=hI
     rw[es]
     obtain⟨d,bs,hd1,hd2⟩:=reads_all_mem hi v (hall v List.mem_cons_self)
     refine wpAny_bind (ih (kd_mem hk d hd1) hd2 (by have:=dep_mem d hd1;omega) ?_)
     simp only[Bool.not_true,Bool.false_eq_true,if_false]
     exact wpAny_pure ⟨rfl,rfl,fun u hu=>hall u (List.mem_cons_of_mem _ hu)⟩
    .obtain⟨r1,r2⟩:=r
     obtain⟨hr,rfl,_⟩:=hI
     simp only at hr
     subst hr
     exact wpAny_pure q
  | none=>exact absurd hk Bool.false_ne_true
  | bool _=>exact absurd hk Bool.false_ne_true
  | list _=>exact absurd hk Bool.false_ne_true
  | dict _=>exact absurd hk Bool.false_ne_true
theorem plain_reads(n:Nat):∀{v:Value} {d:PyData} {as:List Addr} {Q:Bool->Shared->Prop},kd d=true->Reads s.heap v d as->d.depth<n->Q false s->wpAny (model prog w) A (ofAClassStatement n v) Q E s:=by
 induction n with
 | zero=>intro v d as Q hk r hn q;exact absurd hn (Nat.not_lt_zero _)
 | succ n ih=>
  intro v d as Q hk r hn q
  cases d with
  | int i=>cases r with|int=>unfold ofAClassStatement;exact wpAny_pure q
  | str x=>cases r with|str=>unfold ofAClassStatement;exact wpAny_pure q
  | tuple ds=>
    cases r with
    | @tuple a o vs m _ _ ho hc hd hi=>
    have hT:s.TypeIs (.ref a) "tuple":=⟨o,ho,hc⟩
    have hn':PyData.depthAll ds+1<n+1:=hn
    unfold ofAClassStatement
    refine wpAny_bind (wpAny_typeOf (T:="tuple") hT ?_)
    dsimp only
    rw[if_pos (by decide)]
    refine wpAny_bind (wpAny_pure ?_)
    simp only[Bool.not_true,Bool.false_eq_true,if_false]
    refine wpAny_bind (wpAny_seqItems (n:=m) ho hd ?_)
    dsimp only
    refine wpAny_bind ?_
    rw[<-Array.forIn_toList]
    refine wpAny_forIn_list _ (fun rest r s'=>r.1=none/\s'=s/\∀v∈rest,v∈vs.toList) _ (fun v rest r s' hI=>?_) (fun r s' hI=>?_) _ _ ⟨rfl,rfl,fun v hv=>hv⟩
    .obtain⟨hr,es,hall⟩:=hI
     rw[es]
     obtain⟨d,bs,hd1,hd2⟩:=reads_all_mem hi v (hall v List.mem_cons_self)
     refine wpAny_bind (ih (kd_mem hk d hd1) hd2 (by have:=dep_mem d hd1;omega) ?_)
     simp only[Bool.false_eq_true,if_false]
     exact wpAny_pure ⟨rfl,rfl,fun u hu=>hall u (List.mem_cons_of_mem _ hu)⟩
    .obtain⟨r1,r2⟩:=r
     obtain⟨hr,rfl,_⟩:=hI
     simp only at hr
     subst hr
     exact wpAny_pure q
  | none=>exact absurd hk Bool.false_ne_true
  | bool _=>exact absurd hk Bool.false_ne_true
  | list _=>exact absurd hk Bool.false_ne_true
  | dict _=>exact absurd hk Bool.false_ne_true
theorem byval_reads:∀(n:Nat) {v:Value} {d:PyData} {as:List Addr} {Q:Bool->Shared->Prop},kd d=true->Reads s.heap v d as->(∀b,Q b s)->wpAny (model prog w) A (hashByValue n v) Q E s
 | n,v,.int i,as,Q,hk,r,q=>by
  cases r with|int=>unfold hashByValue;exact wpAny_pure (q _)
 | n,v,.str x,as,Q,hk,r,q=>by
  cases r with|str=>unfold hashByValue;exact wpAny_pure (q _)
 | 0,v,.tuple ds,as,Q,hk,r,q=>by
  cases r with|tuple=>unfold hashByValue;exact wpAny_pure (q _)
 | n+1,v,.tuple ds,as,Q,hk,r,q=>by
  cases r with
  | @tuple a o vs m _ _ ho hc hd hi=>
  have hT:s.TypeIs (.ref a) "tuple":=⟨o,ho,hc⟩
  unfold hashByValue
  refine wpAny_bind (wpAny_specialOf (name:="__hash__") hT F.slot_tuple_hash.lookup ?_)
  dsimp only
  refine wpAny_bind (wpAny_seqItems (n:=m) ho hd ?_)
  refine wpAny_bind ?_
  show wpAny _ _ (forIn vs _ _) _ _ _
  rw[<-Array.forIn_toList]
  refine wpAny_forIn_list _ (fun rest r s'=>r.1=none/\s'=s/\∀v∈rest,v∈vs.toList) _ (fun v rest r s' hI=>?_) (fun r s' hI=>?_) _ _ ⟨rfl,rfl,fun v hv=>hv⟩
  .obtain⟨hr,es,hall⟩:=hI
   rw[es]
   obtain⟨d,bs,hd1,hd2⟩:=reads_all_mem hi v (hall v List.mem_cons_self)
   refine wpAny_bind (byval_reads n (kd_mem hk d hd1) hd2 fun b=>?_)
   cases b with
   | true=>
    simp only[Bool.not_true,Bool.false_eq_true,if_false]
    exact wpAny_pure ⟨rfl,rfl,fun u hu=>hall u (List.mem_cons_of_mem _ hu)⟩
   | false=>
    simp only[Bool.not_false,if_true]
    exact wpAny_pure (wpAny_pure (q _))
  .obtain⟨r1,r2⟩:=r
   obtain⟨hr,rfl,_⟩:=hI
   simp only at hr
   subst hr
   exact wpAny_pure (q _)
 | _,_,.none,_,_,hk,_,_=>absurd hk Bool.false_ne_true
 | _,_,.bool _,_,_,hk,_,_=>absurd hk Bool.false_ne_true
 | _,_,.list _,_,_,hk,_,_=>absurd hk Bool.false_ne_true
 | _,_,.dict _,_,_,hk,_,_=>absurd hk Bool.false_ne_true
structure El(Pv:Value->PyData->Prop)(w:World)(h:Heap)(e:Int×Value)(d:PyData):Prop where
 own:Pv e.2 d
 hash:e.1=hashD w d
 key:kd d=true
 tup:∃ds,d=.tuple ds
 lay:d.canLay0=true
 deep:d.depth<8
 reads:∃as,Reads h e.2 d as
theorem El.ref{w:World}{h:Heap}{e:Int×Value}{d:PyData}(x:El Pv w h e d):∃a,e.2=.ref a:=by
 obtain⟨ds,rfl⟩:=x.tup
 obtain⟨as,r⟩:=x.reads
 generalize e.2=v at r
 cases r with
 | tuple=>exact⟨_,rfl⟩
theorem El.eq{h:Heap}{A:Around}{e e':Int×Value}{d d':PyData}(hs:s.heap=h)(x:El Pv w h e d)(y:El Pv w h e' d')(hu:A.units+8<cLine){Q:Bool->Shared->Prop}(q:∀b:Bool,(b=true↔d=d')->Q b s):wpAny (model prog w) A (eqBool e.2 e'.2) Q E s:=by
 subst hs
 obtain⟨as,r⟩:=x.reads
 obtain⟨bs,r'⟩:=y.reads
 refine SeqAt.eqBoolOverData prog w A E s _ _ d d' as bs Q r r' x.lay y.lay (by have:=x.deep;have:=Nat.min_le_left d.depth d'.depth;omega) ?_
 refine q _ ⟨fun z=>eqv_kd d d' x.key y.key z,fun z=>?_⟩
 rw[<-z]
 exact SeqAt.eqv_refl _ x.lay
theorem seen_no{x:Int×Value}{d:PyData}(hx:El Pv w s.heap x d):∀(ys:List Value) {Q:Bool->Shared->Prop},(∀y∈ys,∃h e,El Pv w s.heap (h,y) e)->Q false s->wpAny (model prog w) A (searchCouldBeSeen x.2 ys) Q E s:=by
 intro ys Q hy q
 unfold searchCouldBeSeen
 refine wpAny_bind ?_
 refine wpAny_forIn_list _ (fun rest r s'=>r.1=none/\s'=s/\∀v∈rest,v∈ys) _ (fun v rest r s' hI=>?_) (fun r s' hI=>?_) _ _ ⟨rfl,rfl,fun v hv=>hv⟩
 .obtain⟨hr,rfl,hall⟩:=hI
  obtain⟨h,e,hE⟩:=hy v (hall v List.mem_cons_self)
  obtain⟨a,ea⟩:=hx.ref
  obtain⟨b,eb⟩:=hE.ref
  obtain⟨as,r1⟩:=hx.reads
  obtain⟨bs,r2⟩:=hE.reads
  have nxt:∀u∈rest,u∈ys:=fun u hu=>hall u (List.mem_cons_of_mem _ hu)
  simp only at eb r2
  have stay:wpAny (model prog w) A (pure (ForInStep.yield ((none:Option Bool),())):Sem (ForInStep (Option Bool×Unit))) (fun r s'_1=>match r with
   | ForInStep.yield b'=>b'.fst=none/\s'_1=s'/\∀(v:Value),v∈rest->v∈ys
   | ForInStep.done b'=>wpAny (model prog w) A (match b'.fst with|some r=>pure r|none=>pure false) Q E s'_1) E s':=wpAny_pure ⟨rfl,rfl,nxt⟩
  subst eb
  rw[ea]at r1⊢
  dsimp only
  split
  .exact stay
  .refine wpAny_bind (quiet_reads 8 hx.key r1 hx.deep ?_)
   simp only[Bool.not_true,Bool.false_eq_true,if_false]
   refine wpAny_bind (quiet_reads 8 hE.key r2 hE.deep ?_)
   simp only[Bool.not_true,Bool.false_eq_true,if_false]
   refine wpAny_bind (plain_reads 8 hx.key r1 hx.deep ?_)
   simp only[Bool.false_eq_true,if_false]
   refine wpAny_bind (plain_reads 8 hE.key r2 hE.deep ?_)
   simp only[Bool.false_eq_true,if_false]
   exact stay
 .obtain⟨r1,r2⟩:=r
  obtain⟨hr,rfl,_⟩:=hI
  simp only at hr
  subst hr
  exact wpAny_pure q
noncomputable def Els(Pv:Value->PyData->Prop)(w:World)(h:Heap)(es:List (Int×Value))(ds:List PyData):Prop:=es.length=ds.length/\∀(i:Nat) e d,es[i]?=some e->ds[i]?=some d->El Pv w h e d
theorem Els.at{h:Heap}{es:List (Int×Value)}{ds:List PyData}(x:Els Pv w h es ds){i:Nat}{e:Int×Value}(he:es[i]?=some e):∃d,ds[i]?=some d/\El Pv w h e d:=by
 have hl:=(List.getElem?_eq_some_iff.mp he).1
 have hd:ds[i]?=some (ds[i]'(by rw[<-x.1];exact hl)):=List.getElem?_eq_getElem _
 exact⟨_,hd,x.2 i e _ he hd⟩
theorem probe_met{t:SetTable}{es:Array (Int×Value)}(ok:TOk t es){f:Nat->Int}{h:Int}{p:SetTable.Probe}(st:Stand t.mask p) :
  ∃met,t.probe f h p=some met/\((∃n,met=.empty (itn (adv t.mask) n p).j p.dummy/\(itn (adv t.mask) n p).j∉t.place.toList/\∀n',n'<n->∃i:Nat,t.place[i]?=some (itn (adv t.mask) n' p).j/\f i≠h)\/
  (∃n i,met=.candidate (itn (adv t.mask) n p).j i (itn (adv t.mask) (n+1) p)/\t.place[i]?=some (itn (adv t.mask) n p).j/\f i=h/\∀n',n'<n->∃i':Nat,t.place[i']?=some (itn (adv t.mask) n' p).j/\f i'≠h)):=by
 rcases probe_spec ok f h st with ⟨n,e,r⟩|⟨n,i,e,r⟩
 .exact⟨_,e,.inl ⟨n,rfl,r⟩⟩
 .exact⟨_,e,.inr (x_EE n i ⟨rfl,r⟩)⟩
theorem dummy_itn(mask:Nat):∀(n:Nat) (p:SetTable.Probe),(itn (adv mask) n p).dummy=p.dummy
 | 0,_=>rfl
 | n+1,p=>by
  show(itn (adv mask) n (adv mask p)).dummy=_
  rw[dummy_itn mask n]
  unfold adv
  split<;>rfl
theorem search_add{a:Addr}{o:Obj}{es:Array (Int×Value)}{ep:Nat}{t:SetTable}{ds:List PyData}{x:Int×Value}{d:PyData}{Q:SetFound->Shared->Prop}
  (ho:s.heap.get? a=some o) (hd:o.data=.set es ep t) (ok:TOk t es) (els:Els Pv w s.heap es.toList ds) (hx:El Pv w s.heap x d) (hu:A.units+8<cLine)
  (q1:d∈ds->Q (.there none) s) (q2:∀n,d∉ds->road t.mask x.1 n∉t.place.toList->(∀n',n'<n->road t.mask x.1 n'∈t.place.toList)->Q (.free (road t.mask x.1 n) false) s) :
  ∀(fuel m N:Nat) (stand:Option SetTable.Probe),stand.getD (st0 t.mask x.1)=itn (adv t.mask) m (st0 t.mask x.1)->road t.mask x.1 N∉t.place.toList->N<m+fuel->
   (∀n',n'<m->∃i:Nat,t.place[i]?=some (road t.mask x.1 n')/\ds[i]?≠some d)->wpAny (model prog w) A (setSearchFrom a x.2 x.1 true fuel stand) Q E s
 | 0,m,N,stand,hst,hN,hf,hm=>by
  exfalso
  obtain⟨i,h1,h2⟩:=hm N (by omega)
  exact hN (by rw[<-Array.getElem?_toList]at h1;exact List.mem_of_getElem? h1)
 | fuel+1,m,N,stand,hst,hN,hf,hm=>by
  unfold setSearchFrom
  refine wpAny_bind (wpAny_setState_of ho hd ok.fits ?_)
  dsimp only
  rw[ok.noway]
  simp only[Bool.false_eq_true,if_false]
  rw[start_eq,hst]
  have hstand:Stand t.mask (itn (adv t.mask) m (st0 t.mask x.1)):=itn_stand m (st0_stand _ _)
  have roadm:∀n,(itn (adv t.mask) n (itn (adv t.mask) m (st0 t.mask x.1))).j=road t.mask x.1 (m+n):=fun n=>by unfold road;rw[itn_add]
  have inj:∀{i i' j:Nat},t.place[i]?=some j->t.place[i']?=some j->i=i':=fun{i i' j} h1 h2=>by rw[<-below_at ok.rise h1,below_at ok.rise h2]
  have entry:∀{i j:Nat},t.place[i]?=some j->∃e di,es[i]?=some e/\ds[i]?=some di/\El Pv w s.heap e di:=fun{i j} h1=>by
   have hl:=(Array.getElem?_eq_some_iff.mp h1).1
   have he:es[i]?=some (es[i]'(by rw[<-ok.sz];exact hl)):=Array.getElem?_eq_getElem _
   obtain⟨di,h2,h3⟩:=els.at (by rw[Array.getElem?_toList];exact he)
   exact(x_EE _ di ⟨he,h2,h3⟩)
  obtain⟨met,hp,hmet⟩:=probe_met ok (f:=_) (h:=x.1) hstand
  rw[hp]
  have away:∀{n i:Nat},t.place[i]?=some (itn (adv t.mask) n (itn (adv t.mask) m (st0 t.mask x.1))).j->(es[i]?.map (·.1)).getD 0≠x.1->ds[i]?≠some d:=fun{n i} h1 h2 h3=>by
   obtain⟨e,di,g1,g2,g3⟩:=entry h1
   rw[g2]at h3
   cases h3
   apply h2
   rw[g1]
   show e.1=x.1
   rw[g3.hash,hx.hash]
  rcases hmet with ⟨n,rfl,hfree,hbef⟩|⟨n,i,rfl,hpl,hfi,hbef⟩
  .have hbef':∀n',n'<n->∃i:Nat,t.place[i]?=some (itn (adv t.mask) n' (itn (adv t.mask) m (st0 t.mask x.1))).j/\ds[i]?≠some d:=fun n' hn'=>by
    obtain⟨i',h1,h2⟩:=hbef n' hn'
    exact⟨i',h1,away h1 h2⟩
   dsimp only
   rw[dummy_itn]
   show wpAny _ _ (pure _) _ _ _
   rw[roadm]at hfree⊢
   have before:∀n',n'<m+n->∃i:Nat,t.place[i]?=some (road t.mask x.1 n')/\ds[i]?≠some d:=fun n' hn'=>by
    by_cases hq:n'<m
    .exact hm n' hq
    .obtain⟨i',h1,h2⟩:=hbef' (n'-m) (by omega)
     rw[roadm,show m+(n'-m)=n' by omega]at h1
     exact⟨i',h1,h2⟩
   refine wpAny_pure (q2 (m+n) (fun hin=>?_) hfree fun n' hn'=>?_)
   .obtain⟨k,hk⟩:=List.getElem?_of_mem hin
    have hkl:=(List.getElem?_eq_some_iff.mp hk).1
    have hke:es.toList[k]?=some (es.toList[k]'(by rw[els.1];exact hkl)):=List.getElem?_eq_getElem _
    have hel:=els.2 k _ d hke hk
    have hkp:t.place[k]?=some (t.place[k]'(by rw[ok.sz,<-Array.length_toList,els.1];exact hkl)):=Array.getElem?_eq_getElem _
    obtain⟨n',hn',hr⟩:=ok.ahead (j:=t.place[k]'(by rw[ok.sz,<-Array.length_toList,els.1];exact hkl)) (e:=es.toList[k]'(by rw[els.1];exact hkl)) ⟨k,by rw[Array.getElem?_toList];exact hkp,hke⟩ (n:=m+n) (by rw[hel.hash,<-hx.hash];exact hfree)
    rw[hel.hash,<-hx.hash]at hr
    obtain⟨i',g1,g2⟩:=before n' hn'
    rw[hr]at g1
    have e:=inj hkp g1
    rw[<-e]at g2
    exact g2 hk
   .obtain⟨i',g1,_⟩:=before n' hn'
    rw[<-Array.getElem?_toList]at g1
    exact List.mem_of_getElem? g1
  .obtain⟨e,di,g1,g2,g3⟩:=entry hpl
   obtain⟨eh,y⟩:=e
   obtain⟨ya,ey⟩:=g3.ref
   have ey':y=.ref ya:=ey
   subst ey'
   dsimp only
   have fin:wpAny (model prog w) A (setSearchFrom a x.2 x.1 true fuel (some (itn (adv t.mask) (n+1) (itn (adv t.mask) m (st0 t.mask x.1))))) Q E s\/di=d:=by
    by_cases hq:di=d
    .exact .inr hq
    .refine .inl (search_add ho hd ok els hx hu q1 q2 fuel (m+n+1) N _ ?_ hN (by omega) fun n' hn'=>?_)
     .show itn (adv t.mask) (n+1) (itn (adv t.mask) m (st0 t.mask x.1))=_
      rw[<-itn_add];rfl
     .by_cases hq1:n'<m
      .exact hm n' hq1
      .by_cases hq2:n'-m<n
       .obtain⟨i',h1,h2⟩:=hbef (n'-m) hq2
        have h3:=away h1 h2
        rw[roadm,show m+(n'-m)=n' by omega]at h1
        exact⟨i',h1,h3⟩
       .rw[roadm,show m+n=n' by omega]at hpl
        exact⟨i,hpl,by rw[g2];intro z;cases z;exact hq rfl⟩
   have cand:∀(b:Bool),(b=true↔di=d)->(b=true->wpAny (model prog w) A (pure (SetFound.there none)) Q E s):=fun b hb hbt=>wpAny_pure (q1 (by
    rw[<-hb.mp hbt]
    exact List.mem_of_getElem? g2))
   rw[g1]
   dsimp only
   have sm:t.sameMemory t.moves t.mask=some true:=by unfold SetTable.sameMemory;simp
   cases hled:t.led with
   | true=>
    simp only[Bool.not_true,Bool.false_eq_true,if_false]
    refine wpAny_bind (wpAny_holding (El.eq rfl g3 hx hu fun b hb=>?_))
    refine wpAny_bind (wpAny_setState_of ho hd ok.fits ?_)
    cases b with
    | true=>
     simp only[Bool.and_self,if_true]
     exact cand true hb rfl
    | false=>
     simp only[Bool.and_false,Bool.false_eq_true,if_false]
     rw[sm]
     dsimp only
     rw[if_pos rfl,slot_live ok.rise hpl]
     dsimp only
     rw[g1]
     dsimp only
     refine wpAny_bind (wpAny_isSame_ref_self ?_)
     refine wpAny_bind (wpAny_pure ?_)
     simp only[if_true,Bool.false_eq_true,if_false]
     rcases fin with f|f
     .exact f
     .exact absurd (hb.mpr f) (by simp)
   | false=>
    simp only[Bool.not_false,if_true]
    refine wpAny_bind (seen_no hx _ (fun y hy=>?_) ?_)
    .obtain⟨e,he,rfl⟩:=List.mem_map.mp hy
     have he':e∈es.toList:=by
      rw[Array.toList_filter]at he
      exact(List.mem_filter.mp he).1
     obtain⟨k,hk⟩:=List.getElem?_of_mem he'
     obtain⟨dk,_,hE⟩:=els.at hk
     exact(x_EE e.1 dk hE)
    simp only[Bool.false_eq_true,if_false]
    refine wpAny_bind (wpAny_holding (El.eq rfl g3 hx hu fun b hb=>?_))
    refine wpAny_bind (wpAny_setState_of ho hd ok.fits ?_)
    cases b with
    | true=>
     simp only[Bool.and_self,if_true]
     exact cand true hb rfl
    | false=>
     simp only[Bool.and_false,Bool.false_eq_true,if_false]
     rw[sm]
     dsimp only
     rw[if_pos rfl,slot_live ok.rise hpl]
     dsimp only
     rw[g1]
     dsimp only
     refine wpAny_bind (wpAny_isSame_ref_self ?_)
     refine wpAny_bind (wpAny_pure ?_)
     simp only[if_true,Bool.false_eq_true,if_false]
     rcases fin with f|f
     .exact f
     .exact absurd (hb.mpr f) (by simp)
end
end L3
namespace L3
open PySem
variable{Pv:Value->PyData->Prop}
theorem els_nil{w:World}{h:Heap}{ds:List PyData}(x:Els Pv w h [] ds):ds=[]:=List.length_eq_zero_iff.mp x.1.symm
theorem els_cons{w:World}{h:Heap}{e:Int×Value}{es:List (Int×Value)}{ds:List PyData}(x:Els Pv w h (e::es) ds):∃d ds',ds=d::ds'/\El Pv w h e d/\Els Pv w h es ds':=by
 match ds,x with
 | [],x=>exact absurd x.1 (by simp)
 | d::ds',x=>exact(x_EE d ds' ⟨rfl,x.2 0 e d rfl rfl,by have:=x.1;simpa using this,fun i e' d' h1 h2=>x.2 (i+1) e' d' h1 h2⟩)
theorem Els.cons{w:World}{h:Heap}{e:Int×Value}{d:PyData}{es:List (Int×Value)}{ds:List PyData}(hd:El Pv w h e d)(x:Els Pv w h es ds):Els Pv w h (e::es) (d::ds):=by
 refine⟨by rw[List.length_cons,List.length_cons,x.1],fun i e' d' h1 h2=>?_⟩
 cases i with
 | zero=>cases h1;cases h2;exact hd
 | succ i=>exact x.2 i e' d' h1 h2
theorem Els.nil{w:World}{h:Heap}:Els Pv w h [] []:=⟨rfl,fun i e d h1 _=>by simp at h1⟩
theorem Els.append{w:World}{h:Heap}:∀{es fs:List (Int×Value)} {ds gs:List PyData},Els Pv w h es ds->Els Pv w h fs gs->Els Pv w h (es++fs) (ds++gs)
 | [],fs,ds,gs,x,y=>by rw[els_nil x];exact y
 | e::es,fs,ds,gs,x,y=>by
  obtain⟨d,ds',rfl,h1,h2⟩:=els_cons x
  exact Els.cons h1 (h2.append y)
theorem Els.take{w:World}{h:Heap}{es:List (Int×Value)}{ds:List PyData}(x:Els Pv w h es ds)(n:Nat):Els Pv w h (es.take n) (ds.take n):=by
 refine⟨by rw[List.length_take,List.length_take,x.1],fun i e d h1 h2=>?_⟩
 have hi:i<n:=by
  have:=(List.getElem?_eq_some_iff.mp h1).1
  rw[List.length_take]at this
  omega
 rw[List.getElem?_take_of_lt hi]at h1 h2
 exact x.2 i e d h1 h2
theorem Els.drop{w:World}{h:Heap}{es:List (Int×Value)}{ds:List PyData}(x:Els Pv w h es ds)(n:Nat):Els Pv w h (es.drop n) (ds.drop n):=by
 refine⟨by rw[List.length_drop,List.length_drop,x.1],fun i e d h1 h2=>?_⟩
 rw[List.getElem?_drop]at h1 h2
 exact x.2 _ e d h1 h2
theorem Els.perm{w:World}{h:Heap}{es fs:List (Int×Value)}(p:es.Perm fs):∀{ds:List PyData},Els Pv w h fs ds->∃ds',ds'.Perm ds/\Els Pv w h es ds':=by
 induction p with
 | nil=>intro ds x;exact⟨ds,List.Perm.refl _,x⟩
 | cons e p ih=>
  intro ds x
  obtain⟨d,ds1,rfl,h1,h2⟩:=els_cons x
  obtain⟨ds2,p2,x2⟩:=ih h2
  exact⟨d::ds2,p2.cons d,x2.cons h1⟩
 | swap a b l=>
  intro ds x
  obtain⟨d,ds1,rfl,h1,h2⟩:=els_cons x
  obtain⟨d',ds2,rfl,h3,h4⟩:=els_cons h2
  exact⟨d'::d::ds2,List.Perm.swap _ _ _,(h4.cons h1).cons h3⟩
 | trans p1 p2 ih1 ih2=>
  intro ds x
  obtain⟨ds1,q1,x1⟩:=ih2 x
  obtain⟨ds2,q2,x2⟩:=ih1 x1
  exact⟨ds2,q2.trans q1,x2⟩
noncomputable def TupsStay(h h':Heap):Prop:=∀b ob,h.get? b=some ob->ob.cls=.type "tuple"->h'.get? b=some ob
mutual
theorem reads_stay{h h':Heap}(t:TupsStay h h'):∀(d:PyData) {v:Value} {as:List Addr},kd d=true->Reads h v d as->Reads h' v d as
 | .int i,v,as,_,r=>by cases r with|int=>exact .int _ _
 | .str x,v,as,_,r=>by cases r with|str=>exact .str _ _
 | .tuple ds,v,as,hk,r=>by
  cases r with
  | tuple ho hc hd hi=>exact .tuple (t _ _ ho hc) hc hd (reads_stayAll t ds hk hi)
 | .none,_,_,hk,_=>absurd hk Bool.false_ne_true
 | .bool _,_,_,hk,_=>absurd hk Bool.false_ne_true
 | .list _,_,_,hk,_=>absurd hk Bool.false_ne_true
 | .dict _,_,_,hk,_=>absurd hk Bool.false_ne_true
theorem reads_stayAll{h h':Heap}(t:TupsStay h h'):∀(ds:List PyData) {vs:List Value} {as:List Addr},kdAll ds=true->ReadsAll h vs ds as->ReadsAll h' vs ds as
 | [],vs,as,_,r=>by cases r;exact .nil
 | d::ds,vs,as,hk,r=>by
  have hk':(kd d&&kdAll ds)=true:=hk
  rw[Bool.and_eq_true]at hk'
  cases r with
  | cons h1 h2=>exact .cons (reads_stay t d hk'.1 h1) (reads_stayAll t ds hk'.2 h2)
end
theorem El.stay{w:World}{h h':Heap}(t:TupsStay h h'){e:Int×Value}{d:PyData}(x:El Pv w h e d):El Pv w h' e d:=
 ⟨x.own,x.hash,x.key,x.tup,x.lay,x.deep,let ⟨as,r⟩:=x.reads;⟨as,reads_stay t d x.key r⟩⟩
theorem Els.stay{w:World}{h h':Heap}(t:TupsStay h h'){es:List (Int×Value)}{ds:List PyData}(x:Els Pv w h es ds):Els Pv w h' es ds:=⟨x.1,fun i e d h1 h2=>(x.2 i e d h1 h2).stay t⟩
theorem stay_but{h h':Heap}{a:Addr}{o:Obj}(ho:h.get? a=some o)(hc:o.cls=.type "set")(hs:Heap.SameBut a h h'):TupsStay h h':=fun b ob hb ht=>by
 have:b≠a:=fun e=>by
  subst e
  rw[ho]at hb
  cases hb
  rw[hc]at ht
  exact absurd ht (by decide)
 rw[hs.2 b this]
 exact hb
noncomputable def byT(w:World):Bool:=w.params.followText "set-order"
noncomputable def SetD(Pv:Value->PyData->Prop)(w:World)(h:Heap)(a:Addr)(ds:List PyData):Prop:=
 ∃o es ep t,h.get? a=some o/\o.ExactSet/\o.data=.set es ep t/\TOk t es/\t.place.size*5<t.mask*3/\Els Pv w h es.toList ds/\ds.Nodup/\t.led = !byT w
theorem SetD.fresh{w:World}{h:Heap}{led:Bool}(hled:led = !byT w):SetD Pv w (h.push {cls:=.type "set",dict:=none,data:=.set #[] 0 (.fresh 0 0 led)}) h.objs.size []:=
 (x_EEEE _ (#[]) 0 _ ⟨Heap.get?_push_size _ rfl,⟨rfl,rfl,rfl⟩,rfl,TOk.fresh 0 0 led,(by show 0*5<7*3;decide),Els.nil,List.nodup_nil,hled⟩)
theorem TOk.withPlain{t:SetTable}{es:Array (Int×Value)}(ok:TOk t es)(b:Bool):TOk {t with plain:=b} es:=⟨ok.two,ok.dm,ok.rise,ok.bd,ok.sz,ok.fit,ok.onroad⟩
section
variable{prog:Program}{w:World}{A:Around}{E:Value->Shared->Prop}{s:Shared}
theorem relay_ok{a:Addr}{o:Obj}{es:Array (Int×Value)}{ep:Nat}{t:SetTable}{ds:List PyData}{wanted:Nat}{Q:Unit->Shared->Prop}
  (ho:s.heap.get? a=some o) (hex:o.ExactSet) (hd:o.data=.set es ep t) (ok:TOk t es) (els:Els Pv w s.heap es.toList ds) (hnd:ds.Nodup) (hled:t.led = !byT w) (hw:es.size*4<=wanted) (hw2:wanted<2^13) (hpos:0<es.size)
  (q:∀h' ds',Heap.SameBut a s.heap h'->SetD Pv w h' a ds'->ds'.Perm ds->Q () {s with heap:=h'}):wpAny (model prog w) A (setRelay a wanted) Q E s:=by
 obtain⟨t',order,e,ok',pm,few,eled⟩:=relaid_spec (t:=t) hw hw2 hpos
 obtain⟨k,ek,k3,k13,hn⟩:=sizeAbove_spec wanted hw2
 have hline:¬SetTable.sizeAbove wanted>sizeLine:=by
  rw[ek,sizeLine_eq]
  have:2^k<=2^13:=Nat.pow_le_pow_right (by decide) k13
  omega
 have hsz:(order.filterMap (es[·]?)).size=es.size:=by have:=pm.length_eq;rw[Array.length_toList,Array.length_toList]at this;exact this
 obtain⟨ds',pd,els'⟩:=els.perm pm
 unfold setRelay
 refine wpAny_bind (wpAny_setState_of ho hd ok.fits ?_)
 dsimp only
 rw[if_neg hline,e]
 refine wpAny_bind ?_
 show wpAny _ _ (ite _ _ _) _ _ _
 rw[if_neg (by simp[hsz])]
 refine wpAny_pure ?_
 have hs13:es.size<=sizeLine:=by rw[sizeLine_eq];omega
 refine wpAny_storeSet_of ho hd ?_ (by rw[hsz];exact hs13)
 have hg:(s.heap.update a (Obj.putSet (order.filterMap (es[·]?)) t')).get? a=some {o with data:=.set (order.filterMap (es[·]?)) (ep+1) t'}:=by
  have:=Heap.get?_update_self (Obj.putSet (order.filterMap (es[·]?)) t') ho (by rw[putSet_of _ t' hd];rfl)
  rw[putSet_of _ t' hd]at this;exact this
 have hsb:=Heap.SameBut.update s.heap a (Obj.putSet (order.filterMap (es[·]?)) t')
 exact q _ ds' hsb (x_EEEE _ _ _ _ ⟨hg,hex,rfl,ok',few,els'.stay (stay_but ho hex.1 hsb),(pd.nodup_iff).mpr hnd,eled.trans hled⟩) pd
theorem add_hashed{a:Addr}{ds:List PyData}{x:Int×Value}{d:PyData}{Q:Bool->Shared->Prop}(hS:SetD Pv w s.heap a ds)(hx:El Pv w s.heap x d)(hu:A.units+8<cLine)(hroom:ds.length<2000)
  (q:∀h' ds' b,Heap.SameBut a s.heap h'->SetD Pv w h' a ds'->(d∈ds->ds'=ds)->(d∉ds->ds'.Perm (d::ds))->Q b {s with heap:=h'}) :
  wpAny (model prog w) A (setAddHashed a x.2 x.1) Q E s:=by
 obtain⟨o,es,ep,t,ho,hex,hd,ok,few,els,hnd,hled⟩:=hS
 obtain⟨xa,ex⟩:=hx.ref
 obtain⟨k,hk,k3,k13⟩:=ok.two
 have hel:=els.1
 rw[Array.length_toList]at hel
 have hsz:=ok.sz
 obtain⟨j,hj,hfree⟩:=pigeon (ps:=t.place.toList) (m:=t.mask) (by rw[Array.length_toList];exact ok.fit)
 unfold setAddHashed setAddHashedIn
 refine wpAny_holding (wpAny_bind (wpAny_setState_of ho hd ok.fits ?_))
 dsimp only
 have hns:byScan x.2 es=false:=by rw[ex];rfl
 rw[hns]
 simp only[Bool.false_eq_true,if_false]
 unfold setSearch
 obtain⟨N,hN,eN⟩:=reach hk (st0 t.mask x.1) (st0_stand _ _).1 (st0_stand _ _).2.1 j hj
 have hmask:10*SetTable.turns t.mask<=100000:=by
  unfold SetTable.turns
  have:2^k<=2^13:=Nat.pow_le_pow_right (by decide) k13
  omega
 refine wpAny_bind (search_add ho hd ok els hx hu (fun hin=>?_) (fun n hnin hf hr=>?_) 100000 0 N none rfl (by unfold road;rw[eN];exact hfree) (by omega) (fun n' hn'=>by omega))
 .dsimp only
  refine wpAny_pure ?_
  have e:s={s with heap:=s.heap}:=by cases s;rfl
  rw[e]
  exact q s.heap ds false (Heap.SameBut.refl a s.heap) (x_EEEE o es ep t ⟨ho,hex,hd,ok,few,els,hnd,hled⟩) (fun _=>rfl) (fun z=>absurd hin z)
 .dsimp only
  have hm7:7<=t.mask:=by
   have:2^3<=2^k:=Nat.pow_le_pow_right (by decide) k3
   omega
  obtain⟨ok1,em,hp1,hs1⟩:=ok.put (x:=x.2) hf hr (by omega)
  have els1:Els Pv w s.heap (SetTable.insertAt es (t.put (road t.mask x.1 n)).2 (x.1,x.2)).toList (ds.take (t.put (road t.mask x.1 n)).2++d::ds.drop (t.put (road t.mask x.1 n)).2):=by
   rw[insertAt_list]
   exact(els.take _).append ((els.drop _).cons hx)
  have pm1:(ds.take (t.put (road t.mask x.1 n)).2++d::ds.drop (t.put (road t.mask x.1 n)).2).Perm (d::ds):=by
   have:=List.perm_middle (a:=d) (l₁:=ds.take (t.put (road t.mask x.1 n)).2) (l₂:=ds.drop (t.put (road t.mask x.1 n)).2)
   rw[List.take_append_drop]at this
   exact this
  have nd1:(ds.take (t.put (road t.mask x.1 n)).2++d::ds.drop (t.put (road t.mask x.1 n)).2).Nodup:=by
   rw[pm1.nodup_iff,List.nodup_cons]
   exact⟨hnin,hnd⟩
  have es1:(SetTable.insertAt es (t.put (road t.mask x.1 n)).2 (x.1,x.2)).size=es.size+1:=by rw[<-ok1.sz,hs1,hsz]
  refine wpAny_bind (wpAny_setState_of ho hd ok.fits ?_)
  dsimp only
  have hled1:(t.put (road t.mask x.1 n)).1.led=t.led:=rfl
  generalize hpt:t.put (road t.mask x.1 n)=pt at *
  obtain⟨t1,p⟩:=pt
  simp only at ok1 em hp1 hs1 els1 pm1 nd1 es1 hled1⊢
  have fin:∀t2:SetTable,TOk t2 (SetTable.insertAt es p (x.1,x.2))->t2.mask=t1.mask->t2.place=t1.place->t2.led=t1.led->wpAny (model prog w) A (storeSet a (SetTable.insertAt es p (x.1,x.2)) t2 >>= fun _=>if (!false&&t2.tooFull)=true then setRelay a (SetTable.grown (es.size+1)) >>= fun _=>pure true else pure true) Q E s:=fun t2 ok2 e1 e2 e3=>by
   have hled2:t2.led = !byT w:=e3.trans (hled1.trans hled)
   have hline:(SetTable.insertAt es p (x.1,x.2)).size<=sizeLine:=by rw[es1,sizeLine_eq];omega
   refine wpAny_bind (wpAny_storeSet_of ho hd ?_ hline)
   have hg:(s.heap.update a (Obj.putSet (SetTable.insertAt es p (x.1,x.2)) t2)).get? a=some {o with data:=.set (SetTable.insertAt es p (x.1,x.2)) (ep+1) t2}:=by
    have:=Heap.get?_update_self (Obj.putSet (SetTable.insertAt es p (x.1,x.2)) t2) ho (by rw[putSet_of _ t2 hd];rfl)
    rw[putSet_of _ t2 hd]at this;exact this
   have hsb:=Heap.SameBut.update s.heap a (Obj.putSet (SetTable.insertAt es p (x.1,x.2)) t2)
   have els2:=els1.stay (stay_but ho hex.1 hsb)
   by_cases hfull:t2.tooFull=true
   .rw[if_pos (by rw[hfull];rfl)]
    refine wpAny_bind (relay_ok (s:={s with heap:=s.heap.update a (Obj.putSet (SetTable.insertAt es p (x.1,x.2)) t2)}) hg hex rfl ok2 els2 nd1 hled2 ?_ ?_ (by rw[es1];omega) fun h' ds' hsb' hS' pd'=>?_)
    .rw[es1];unfold SetTable.grown;split<;>omega
    .unfold SetTable.grown
     rw[if_neg (by omega)]
     have:es.size<2000:=by rw[hel];exact hroom
     have:(2:Nat)^13=8192:=by decide
     omega
    .exact wpAny_pure (q h' ds' true (hsb.trans hsb') hS' (fun z=>absurd z hnin) (fun _=>pd'.trans pm1))
   .rw[if_neg (by simpa using hfull)]
    have few2:t2.place.size*5<t2.mask*3:=by
     unfold SetTable.tooFull SetTable.fill at hfull
     rw[ok2.dm]at hfull
     simpa using hfull
    exact wpAny_pure (q _ _ true hsb (x_EEEE _ _ _ _ ⟨hg,hex,rfl,ok2,few2,els2,nd1,hled2⟩) (fun z=>absurd z hnin) (fun _=>pm1))
  obtain⟨as,rx⟩:=hx.reads
  split
  .refine wpAny_bind (byval_reads 8 hx.key rx fun b=>?_)
   cases b with
   | true=>
    simp only[if_true]
    exact fin t1 ok1 rfl rfl rfl
   | false=>
    simp only[Bool.false_eq_true,if_false]
    exact fin _ (ok1.withPlain false) rfl rfl rfl
  .refine wpAny_bind (wpAny_pure ?_)
   simp only[if_true]
   exact fin t1 ok1 rfl rfl rfl
end
end L3
namespace L3
open PySem PyProof.Rows
variable{Pv:Value->PyData->Prop}
noncomputable def Keep(h0 h:Heap):Prop:=∀b o,h0.get? b=some o->h.get? b=some o
theorem Keep.tups{h0 h:Heap}(k:Keep h0 h):TupsStay h0 h:=fun b o e _=>k b o e
theorem SetD.moved{w:World}{h h':Heap}{S:Addr}{ds:List PyData}(x:SetD Pv w h S ds)(hS:∀o,h.get? S=some o->h'.get? S=some o)(t:TupsStay h h'):SetD Pv w h' S ds:=by
 obtain⟨o,es,ep,tb,ho,hex,hd,ok,few,els,nd,hled⟩:=x
 exact(x_EEEE o es ep tb ⟨hS o ho,hex,hd,ok,few,els.stay t,nd,hled⟩)
section
variable{prog:Program}{w:World}{A:Around}{R:Result->Shared->Prop}{I:Addr}{fp wr:List Addr}{G:Array GenState->Array GenState->Prop}{n:Nat}{P:Nat->Value->Prop}{St:Nat->Shared->Prop}
theorem update_loopD(W:WalksS prog w A.in1 I fp wr G n P St)(S:Addr)(hSf:S∉fp)(h0:Heap)(hwr:∀b∈wr,h0.get? b=none)(hS0:h0.get? S=none)(hwt:∀i s,St i s->∀b∈wr,∀ob,s.heap.get? b=some ob->ob.cls≠.type "tuple")
  (val:Nat->PyData) (hval:∀i v,P i v->El Pv w h0 (hashD w (val i),v) (val i)) (hu:A.units+9<cLine) (hb:n<2000) :
  ∀(k i:Nat) (s:Shared) (ds:List PyData),n-i=k->i<=n->St i s->Keep h0 s.heap->SetD Pv w s.heap S ds->(∀d,d∈ds↔∃j,j<i/\val j=d)->ds.length<=i->
   (∀s' ds',Moved (S::wr) G s s'->Keep h0 s'.heap->SetD Pv w s'.heap S ds'->(∀d,d∈ds'↔∃j,j<n/\val j=d)->ds'.length<=n->R (.ok (.ret .none)) s')->
   codeAny (model prog w) A (.builtin "set.update.loop" ⟨[.ref S,.ref I],[]⟩) R s:=by
 have hSw:S∉wr:=fun h=>hSf (W.sub _ h)
 have mono:∀b∈wr,b∈S::wr:=fun b hb=>List.mem_cons_of_mem _ hb
 have mv:∀{i:Nat} {s s':Shared} {ds:List PyData},St i s->Moved wr G s s'->Keep h0 s.heap->SetD Pv w s.heap S ds->Keep h0 s'.heap/\SetD Pv w s'.heap S ds:=fun{i s s' ds} hst hm hk hS=>by
  refine⟨fun b o e=>hm.heap b o (fun z=>by rw[hwr b z]at e;cases e) (hk b o e),hS.moved (fun o e=>hm.heap S o hSw e) fun b o e ht=>hm.heap b o (fun z=>hwt i s hst b z o e ht) e⟩
 intro k
 induction k with
 | zero=>
  intro i s ds hk hi hst hkp hS hmem hlen hR
  have hin:i=n:=by omega
  subst hin
  refine codeAny_builtin F.entry_set_update_loop (show _ from ?_)
  rw[Around.under_plainId F.plain_set_update_loop (_:Args)]
  show wpAny _ A.in1 (pyNext (.ref I) >>= _) _ _ _
  refine wpAny_bind (W.done s _ _ hst fun s' hm=>?_)
  obtain⟨k1,S1⟩:=mv hst hm hkp hS
  exact wpAny_pure (hR s' ds (hm.mono mono) k1 S1 hmem hlen)
 | succ k ih=>
  intro i s ds hk hi hst hkp hS hmem hlen hR
  have hlt:i<n:=by omega
  refine codeAny_builtin F.entry_set_update_loop (show _ from ?_)
  rw[Around.under_plainId F.plain_set_update_loop (_:Args)]
  show wpAny _ A.in1 (pyNext (.ref I) >>= _) _ _ _
  refine wpAny_bind (W.item i s _ _ hlt hst fun v s' hP hst' hm=>?_)
  obtain⟨k1,S1⟩:=mv hst hm hkp hS
  have hE:=(hval i v hP).stay k1.tups
  obtain⟨as,rv⟩:=hE.reads
  show wpAny _ A.in1 (holding [v] (setAdd S v) >>= _) _ _ _
  refine wpAny_bind (wpAny_holding ?_)
  unfold setAdd
  refine wpAny_holding ?_
  refine wpAny_bind (hash_reads (val i) hE.key prog w A.in1 _ s' v as _ rv (by show A.units+1+_<cLine;have:=hE.deep;omega) fun tk htk=>?_)
  refine add_hashed (s:={s' with toks:=tk}) (x:=(hashD w (val i),v)) S1 hE (by show A.units+1+8<cLine;omega) (by omega) fun h' ds' b hsb hS' e1 e2=>?_
  have k2:Keep h0 h':=fun b o e=>by
   rw[hsb.2 b (fun z=>by rw[z,hS0]at e;cases e)]
   exact k1 b o e
  have hmem':∀d,d∈ds'↔∃j,j<i+1/\val j=d:=fun d=>by
   have base:(∃j,j<i+1/\val j=d)↔(d∈ds\/val i=d):=by
    rw[hmem d]
    constructor
    .rintro⟨j,hj,e⟩
     by_cases q:j=i
     .subst q;exact .inr e
     .exact .inl ⟨j,by omega,e⟩
    .rintro(⟨j,hj,e⟩|e)
     .exact⟨j,by omega,e⟩
     .exact⟨i,by omega,e⟩
   rw[base]
   by_cases q:val i∈ds
   .rw[e1 q]
    exact⟨.inl,fun z=>z.elim id fun e=>e▸q⟩
   .rw[(e2 q).mem_iff,List.mem_cons]
    exact⟨fun z=>z.elim (fun e=>.inr e.symm) .inl,fun z=>z.elim .inr fun e=>.inl e.symm⟩
  have hlen':ds'.length<=i+1:=by
   by_cases q:val i∈ds
   .rw[e1 q];omega
   .rw[(e2 q).length_eq,List.length_cons];omega
  refine wpAny_pure ⟨plainId_quiet F.plain_set_update_loop _,ih (i+1) _ ds' (by omega) hlt (W.frame _ s' _ _ hst' htk fun b hb o e=>?_) k2 hS' hmem' hlen' fun s'' ds'' hm'' k'' S'' m'' l''=>?_⟩
  .rw[hsb.2 b (fun h:b=S=>hSf (by rw[<-h];exact hb))];exact e
  .refine hR s'' ds'' (Moved.trans W.gtrans ((hm.mono mono).then_heap htk fun b o hb e=>?_) hm'') k'' S'' m'' l''
   rw[hsb.2 b (fun h:b=S=>hb (by rw[h];exact List.mem_cons_self))];exact e
end
section
variable{prog:Program}{w:World}{A:Around}{E:Value->Shared->Prop}{s:Shared}
theorem code_set_newD(a:Value){Q₁:Value->Shared->Prop}
  (h:Q₁ (.ref s.heap.objs.size) {s with heap:=s.heap.push {cls:=.type "set",dict:=none,data:=.set #[] 0 (.fresh 0 0 (!byT w))}}) :
  codeAny (model prog w) A (.call (.builtin "set.__new__") ⟨[.type "set",a],[]⟩) (wants Q₁ E) s:=by
 refine codeAny_of_tree (show _ from ?_)
 show wpAny _ A.in1 (do checkBuiltinCall "set.__new__" ⟨[.type "set",a],[]⟩;again (.builtin "set.__new__" ⟨[.type "set",a],[]⟩)) _ _ _
 refine wpAny_bind (wpAny_of_eq (PySem.F.newCall_set_1 a) (wpAny_pure ⟨plainId_quiet PySem.F.plain_set_new _,codeAny_builtin PySem.F.entry_set_new (show _ from ?_)⟩))
 rw[Around.under_plainId PySem.F.plain_set_new (_:Args)]
 unfold Builtin.«set.__new__» Builtin.Frozenset.newClass
 have hsub:=sub_set_self
 obtain⟨hp,g,d,tk,os⟩:=s
 dsimp only
 wp_walk
 refine wpAny_askSetting (wpAny_pure ?_)
 dsimp only
 simp only[newObj]
 refine wpAny_bind (wpAny_alloc (wpAny_pure ?_))
 exact wpAny_pure h
theorem call_setD{l:Addr}{items:Array Value}{ds:List PyData}{Q:Value->Shared->Prop}
  (hh:A.handled=none) (hl:s.heap.IsList l items) (hi:items.size=ds.length) (hE:∀(i:Nat) v d,items[i]?=some v->ds[i]?=some d->El Pv w s.heap (hashD w d,v) d) (hb:ds.length<2000) (hu:A.units+20<cLine)
  (h:∀(h':Heap) (tk:Nat) (ds':List PyData),SetD Pv w h' s.heap.objs.size ds'->(∀d,d∈ds'↔d∈ds)->ds'.length<=ds.length->Keep s.heap h'->s.toks<=tk->Q (.ref s.heap.objs.size) {s with heap:=h',toks:=tk}) :
  wpAny (model prog w) A (call (.type "set") [.ref l]) Q E s:=by
 obtain⟨c,tl,hmro⟩:=PySem.F.called_set.mro
 have hmade:=PySem.F.called_set.made
 have hsub:=PySem.F.called_set.sub
 refine wpAny_call (codeAny_of_tree (show _ from ?_))
 show wpAny _ _ (callAny (.type "set") _) _ _ s
 refine wpAny_pure ⟨Code.quiet_builtin _ (by decide +kernel),codeAny_builtin F.entry_type_call (show _ from ?_)⟩
 rw[Around.under_plain (weight_type_call_type "set" [.ref l] []) (rfl:_=_)]
 have h1:=PySem.F.called_set.notType
 have h2:=PySem.F.called_set.canCreate
 have hct:=PySem.F.typeCall_set_1 (.ref l)
 repeat (any_goals (first|assumption|(wp_step)))
 refine codeAny_mono (code_set_newD (.ref l) (E:=E) (Q₁:=fun obj s₁=>∃led:Bool,led=(!byT w)/\obj=.ref s.heap.objs.size/\s₁={s with heap:=s.heap.push {cls:=.type "set",dict:=none,data:=.set #[] 0 (.fresh 0 0 led)}}) ⟨_,rfl,rfl,rfl⟩) fun r s₁ hr=>?_
 match r,hr with
 | .error e,hr=>exact hr
 | .ok (.ret obj),hr=>
   obtain⟨led,hled,rfl,rfl⟩:=hr
   obtain⟨emp,hemp⟩:∃ob:Obj,ob={cls:=.type "set",dict:=none,data:=.set #[] 0 (.fresh 0 0 led)}:=⟨_,rfl⟩
   have hS:(s.heap.push emp).get? s.heap.objs.size=some emp:=Heap.get?_push_size _ (by rw[hemp];rfl)
   have hT:Shared.TypeIs {s with heap:=s.heap.push emp} (.ref s.heap.objs.size) "set":=⟨_,hS,by rw[hemp]⟩
   have hSD:SetD Pv w (s.heap.push emp) s.heap.objs.size []:=by rw[hemp];exact SetD.fresh hled
   rw[<-hemp]
   have hli:=PySem.F.called_set.init.lookup
   have hbi:=PySem.F.called_set.init.bind (.ref s.heap.objs.size)
   repeat (any_goals (first|assumption|(wp_step)))
   refine codeAny_mono (codeAny_call_builtin (R:=wants (fun r s₂=>r=.none/\∃h' tk ds',s₂={s with heap:=h',toks:=tk}/\SetD Pv w h' s.heap.objs.size ds'/\(∀d,d∈ds'↔d∈ds)/\ds'.length<=ds.length/\Keep s.heap h'/\s.toks<=tk) E) PySem.F.called_set.init.plain F.entry_set_init (check_set_init_1 hT ?_)) fun r₂ s₂ hr₂=>?_
   .obtain⟨ol,hol,hcl,nl,hdl⟩:=hl
    obtain⟨ocls,odict,odata,oslots⟩:=ol
    simp only at hcl hdl
    subst hcl;subst hdl
    have hol':(s.heap.push emp).get? l=some {cls:=.type "list",dict:=odict,data:=.seq items nl,slots:=oslots}:=Heap.get?_push_of_some _ hol
    have hsls:=PySem.F.sub_list_set
    have hslf:=PySem.F.sub_list_frozenset
    have hne:(Value.type "list" == Value.type "dict")=false:=by decide
    have hl1:(s.heap.push emp).IsList l items:=(x_EAAE _ hol' rfl nl rfl)
    unfold Builtin.«set.__init__» noKeywords Builtin.Frozenset.updateFrom
    generalize hPI:pyIter=PI
    subst hemp
    wp_walk
    subst hPI
    refine wpAny_pyIter_list hl1 ?_
    refine wpAny_bind (wpAny_runValue ?_)
    have none_at:∀b,s.heap.objs.size<=b->s.heap.get? b=none:=fun b hb'=>by
     cases hq:s.heap.get? b with
     | none=>rfl
     | some ob=>exact absurd (Heap.lt_size hq) (Nat.not_lt.mpr hb')
    have hlS:l<s.heap.objs.size:=Heap.lt_size hol
    have hh3:A.in1.in1.in1.handled=none:=by simp[hh]
    have hIs:(s.heap.push {cls:=.type "set",dict:=none,data:=.set #[] 0 (.fresh 0 0 led)}).objs.size=s.heap.objs.size+1:=Heap.size_push _ _
    have hneI:l≠(s.heap.push {cls:=.type "set",dict:=none,data:=.set #[] 0 (.fresh 0 0 led)}).objs.size:=by rw[hIs];exact Nat.ne_of_lt (Nat.lt_succ_of_lt hlS)
    have hSf:s.heap.objs.size∉[(s.heap.push {cls:=.type "set",dict:=none,data:=.set #[] 0 (.fresh 0 0 led)}).objs.size,l]:=by
     rw[hIs];simp only[List.mem_cons,List.not_mem_nil,or_false,not_or]
     exact⟨Nat.ne_of_lt (Nat.lt_succ_self _),Nat.ne_of_gt hlS⟩
    have hval:∀(i:Nat) (v:Value),items[i]?=some v->El Pv w s.heap (hashD w (ds.getD i .none),v) (ds.getD i .none):=fun i v hv=>by
     have hlt:=(Array.getElem?_eq_some_iff.mp hv).1
     have hd:ds[i]?=some (ds.getD i .none):=by
      rw[List.getD_eq_getElem?_getD,List.getElem?_eq_getElem (by omega)];rfl
     exact hE i v _ hv hd
    refine update_loopD (A:=A.in1.in1) ((Walks.list hh3 _ l hneI items).toS) s.heap.objs.size hSf s.heap (fun b hb'=>none_at b (by rw[List.mem_singleton.mp hb',hIs];exact Nat.le_succ _)) (none_at _ (Nat.le_refl _)) (fun i s' hst b hb' ob e=>?hwt)
     (fun i=>ds.getD i .none) hval (by show A.units+1+1+9<cLine;omega) (by omega) (items.size-0) 0 _ [] (by omega) (Nat.zero_le _)
     ⟨⟨_,Heap.get?_push_size _ rfl,rfl,rfl⟩,(hl1.push _)⟩ ?hK0 ?hS0 (fun d=>by simp) (by simp) ?hR
    case hwt=>
     obtain⟨⟨oi,ho,hc,_⟩,_⟩:=hst
     rw[List.mem_singleton.mp hb',ho]at e
     cases e
     rw[hc]
     decide
    case hK0=>exact fun b o e=>Heap.get?_push_of_some _ (Heap.get?_push_of_some _ e)
    case hS0=>exact hSD.moved (fun o e=>Heap.get?_push_of_some _ e) fun b o e _=>Heap.get?_push_of_some _ e
    case hR=>
     intro s' ds' hm k' S' m' l'
     obtain⟨h',g',d',tk',os'⟩:=s'
     have eg:g'=s.gens:=hm.gens
     have ed:d'=s.drawn:=hm.drawn
     have eo:os'=s.os:=hm.os
     subst eg;subst ed;subst eo
     show wpAny _ _ _ _ _ _
     refine wpAny_pure ?_
     show wpAny _ _ (ret Value.none) _ _ _
     refine wpAny_pure ⟨rfl,(x_EEE h' tk' ds' ⟨rfl,S',fun d=>?_,by omega,k',hm.toks⟩)⟩
     rw[m' d]
     constructor
     .rintro⟨j,hj,rfl⟩
      rw[List.getD_eq_getElem?_getD,List.getElem?_eq_getElem (by omega)]
      exact List.getElem_mem _
     .intro hd
      obtain⟨j,hj⟩:=List.getElem?_of_mem hd
      have hjl:=(List.getElem?_eq_some_iff.mp hj).1
      exact⟨j,by omega,by rw[List.getD_eq_getElem?_getD,hj];rfl⟩
   .match r₂,hr₂ with
    | .error e,hr₂=>exact hr₂
    | .ok (.ret r),hr₂=>
      obtain⟨rfl,h',tk,ds',rfl,hS',hm',hl',hk',ht'⟩:=hr₂
      repeat (any_goals (first|assumption|(wp_step)))
      exact h _ _ ds' hS' hm' hl' hk' ht'
    | .ok .next,hr₂=>exact hr₂.elim
    | .ok .brk,hr₂=>exact hr₂.elim
    | .ok .cont,hr₂=>exact hr₂.elim
 | .ok .next,hr=>exact hr.elim
 | .ok .brk,hr=>exact hr.elim
 | .ok .cont,hr=>exact hr.elim
end
end L3
namespace L3
open PySem PySem.Spec PyProof.Rows L2
variable{Pv:Value->PyData->Prop}
noncomputable def KeyD(d:PyData):Prop:=kd d=true/\(∃ds,d=.tuple ds)/\d.depth<8
noncomputable def rLenSet:List V->Hp->VK->Prop:=fun vs H Q=>∃(p:Addr) (xs:List V) (ds:List PyData),vs=[.ref p]/\H p=some (.lst xs)/\RepAll H ds xs/\(∀d∈ds,KeyD d)/\ds.length<2000/\
 ∀ds':List PyData,ds'.Nodup->(∀d,d∈ds'↔d∈ds)->ds'.length<=ds.length->Q (.int ds'.length) H
theorem reads_at{h:Heap}:∀{us:List Value} {ds:List PyData} {as:List Addr} {i:Nat} {u:Value} {d:PyData},ReadsAll h us ds as->us[i]?=some u->ds[i]?=some d->∃bs,Reads h u d bs
 | _,_,_,i,u,d,.nil,h1,_=>by simp at h1
 | _,_,_,0,u,d,.cons a b,h1,h2=>by
  cases h1;cases h2
  exact⟨_,a⟩
 | _,_,_,i+1,u,d,.cons a b,h1,h2=>reads_at b (by simpa using h1) (by simpa using h2)
theorem lay_mem:∀{ds:List PyData},PyData.canLayAll0 ds=true->∀d∈ds,d.canLay0=true
 | [],_,d,hd=>by cases hd
 | e::ds,hk,d,hd=>by
  have hk':(e.canLay0&&PyData.canLayAll0 ds)=true:=hk
  rw[Bool.and_eq_true]at hk'
  rcases List.mem_cons.mp hd with h|hd
  .rw[h];exact hk'.1
  .exact lay_mem hk'.2 d hd
section
variable{X:Cx}{p p2 pos pos2:Pos}{e:Expr}{t:TA}
theorem pe_lenset(hc:X.calm=true)(hu:X.A.units+64<cLine)(hg:Gl X "len")(hm:X.mg "len" = none)(hg2:Gl X "set")(hm2:X.mg "set" = none)(ha:PA X [e] t)(h1:notStar e=true:=by rfl) :
  PE X (.Call (.Name "len" p) [.Call (.Name "set" p2) [e] [] pos2] [] pos) (tCB rLenSet t):=by
 intro pins s σ H Q I h
 refine wpAny_Call_Name_kw (ld_blt I hg hm PySem.boot_len ?_ (by decide) (by decide))
 refine PyProof.Rows.callWith_builtin1 ?_ (star_cons rfl) rfl
 rw[star_cons rfl]
 show wpAny _ _ (spliced ((false,eval (.Call (.Name "set" p2) [e] [] pos2) X.env)::backTo pos (starEach [] X.env))) _ _ s
 refine Calls.spliced_cons ?_
 refine wpAny_Call_Name_kw (ld_blt I hg2 hm2 boot_set ?_ (by decide) (by decide))
 refine PyProof.Rows.callWith_type1 (thn (ha pos2 pins s σ H _ I h) fun us s1 ⟨vs,H1,I1,r1,q1⟩=>?_) (star_cons h1) rfl
 obtain⟨pl,xs,ds,rfl,hp,hds,hkey,hb,q⟩:=q1
 obtain⟨u,rfl,ru⟩:=vals1 r1
 cases (show u=Value.ref pl from ru)
 obtain⟨its,rv,il,hz⟩:=I1.list (SqL.of (K:=X.K) hp)
 obtain⟨as,rds⟩:=RepAll.reads I1 hds rv
 have hlay:=hds.lay
 have hl1:xs.length=ds.length:=hds.length
 have hl2:xs.length=its.length:=rv.length
 refine call_setD (Pv:=fun _ _=>True) (ds:=ds) (I1.ok.hd hc) il.isList (by rw[List.size_toArray];omega) (fun i v d hv hd=>?_) hb (by omega) fun h' tk ds' hS hmem hlen hk ht=>?_
 .rw[List.getElem?_toArray]at hv
  obtain⟨bs,rd⟩:=reads_at rds hv hd
  have hm':=List.mem_of_getElem? hd
  exact⟨True.intro,rfl,(hkey d hm').1,(hkey d hm').2.1,lay_mem hlay d hm',(hkey d hm').2.2,bs,rd⟩
 .obtain⟨o,es,ep,tb,ho,hex,hdat,ok,few,els,nd,_⟩:=hS
  have hsz:es.size=ds'.length:=by have:=els.1;rw[Array.length_toList]at this;exact this
  refine Calls.spliced_nil ?_
  refine call_len_set ho hex hdat ok.fits (by rw[hsz];have:(ds'.length:Int)<2000:=by omega
                                              exact Int.lt_of_lt_of_le this (by decide)) ?_
  refine(x_EE (.int ds'.length) H1 ⟨?_,⟨_,by rw[<-hsz]⟩,q ds' nd hmem hlen⟩)
  exact I1.kept hk
end
end L3
namespace L3
open PySem
theorem slot_setit_next:Slot "set_iterator" "__next__" "set_iterator.__next__":=
 .of (owner:="set_iterator") (n:="__next__") (by rw[typeLookup_type,builtinLookup_eq_fast];kernel_rfl) (by decide +kernel) (by decide +kernel) (by decide +kernel) (by first|exact .inl (by decide +kernel)|exact .inr (by decide +kernel)) (by rw[isSubtype_type];kernel_rfl)
theorem entry_setit_next:entryFor table "set_iterator.__next__" = some Builtin.«set_iterator.__next__»:=entryFor_of_tree (by kernel_rfl)
theorem args_setit_next(a:Value):argsOk "set_iterator.__next__" ⟨[a],[]⟩:=by unfold argsOk;kernel_rfl
theorem entry_set_iterD:entryFor table "set.__iter__" = some Builtin.«frozenset.__iter__»:=entryFor_alias (id':="frozenset.__iter__") (by kernel_rfl) rfl (by decide +kernel) (by kernel_rfl)
theorem erase_perm{α:Type}:∀(l:List α) (i:Nat) (h:i<l.length),(l[i]::l.eraseIdx i).Perm l
 | a::l,0,h=>List.Perm.refl _
 | a::l,i+1,h=>by
  have h':i<l.length:=by simpa using h
  show(l[i]::a::l.eraseIdx i).Perm (a::l)
  exact(List.Perm.swap _ _ _).trans ((erase_perm l i h').cons a)
theorem pick_go{α:Type}(next:Nat->Nat):∀(fuel k:Nat) (left:List α) (out:Array α),left.length=fuel->((pickOrder.go next fuel k left out).toList).Perm (out.toList++left)
 | 0,k,left,out,h=>by
  have:left=[]:=List.length_eq_zero_iff.mp h
  subst this
  rw[List.append_nil]
  exact List.Perm.refl _
 | fuel+1,k,left,out,h=>by
  unfold pickOrder.go
  have hl:next k % left.length<left.length:=Nat.mod_lt _ (by omega)
  rw[List.getElem?_eq_getElem hl]
  dsimp only
  refine(pick_go next fuel (k+1) _ _ (by rw[List.length_eraseIdx_of_lt hl];omega)).trans ?_
  rw[Array.toList_push,List.append_assoc]
  refine List.Perm.append_left _ ?_
  exact(erase_perm _ _ hl)
theorem pick_perm{α:Type}(next:Nat->Nat)(xs:Array α):(pickOrder next xs).toList.Perm xs.toList:=by
 unfold pickOrder
 have:=pick_go next xs.size 0 xs.toList #[] (by simp)
 simpa using this
section
variable{prog:Program}{w:World}{A:Around}{E:Value->Shared->Prop}{s:Shared}
theorem wpAny_chooseD{src:Source}{n:Nat}{Q:Nat->Shared->Prop}(hn:0<n)(h:∀i dr,i<n->Q i {s with drawn:=dr}):wpAny (model prog w) A (choose src n) Q E s:=fun Γ p hΓ=>by
 show n≠0/\_
 exact⟨by omega,h _ _ (Nat.mod_lt _ hn)⟩
theorem draw_perm{α:Type}:∀(n:Nat) (xs:List α) (s:Shared) {Q:List α->Shared->Prop},xs.length=n->(∀ys dr,ys.Perm xs->Q ys {s with drawn:=dr})->wpAny (model prog w) A (drawOrder n xs) Q E s
 | 0,xs,s,Q,h,q=>by
  have:xs=[]:=List.length_eq_zero_iff.mp h
  subst this
  unfold drawOrder
  exact wpAny_pure (q [] s.drawn (List.Perm.refl _))
 | n+1,[],s,Q,h,q=>by simp at h
 | n+1,x::xs,s,Q,h,q=>by
  unfold drawOrder
  refine wpAny_bind (wpAny_chooseD (by simp) fun i dr hi=>?_)
  rw[List.getElem?_eq_getElem hi]
  dsimp only
  refine wpAny_bind (draw_perm n _ {s with drawn:=dr} (by rw[List.length_eraseIdx_of_lt hi];omega) fun ys dr' p=>?_)
  exact wpAny_pure (q _ dr' ((List.Perm.cons _ p).trans (erase_perm _ _ hi)))
noncomputable def itObj(first:Value)(i:Nat)(a:Addr)(n ep:Nat):Obj:={cls:=.type "set_iterator",data:=.fields #[first,.int i 0,.ref a,.int n 0,.int ep 0]}
theorem next_int{I a:Addr}{slot slot' i ep:Nat}{o:Obj}{es:Array (Int×Value)}{t:SetTable}{x:Value}{Q:Option Value->Shared->Prop}(hit:s.heap.get? I=some (itObj (.int slot 0) i a es.size ep))(ho:s.heap.get? a=some o)(hd:o.data=.set es ep t)(hf:t.fits es.size=true)
  (hnx:∀{A:Around} {E:Value->Shared->Prop} {Q:Option (Value×Nat)->Shared->Prop},Q (some (x,slot')) s->wpAny (model prog w) A (setNext a slot i ep) Q E s)
  (hQ:∀h',h'.get? I=some (itObj (.int slot' 0) (i+1) a es.size ep)->Heap.SameBut I s.heap h'->Q (some x) {s with heap:=h'}):wpAny (model prog w) A (pyNext (.ref I)) Q E s:=by
 have hT:s.TypeIs (.ref I) "set_iterator":=⟨_,hit,rfl⟩
 unfold pyNext
 refine wpAny_bind (wpAny_attempt (wpAny_callSpecial?_slot (name:=Str.ofString "__next__") hT slot_setit_next (wpAny_call_entry slot_setit_next hT entry_setit_next ?_ (args_setit_next _))))
 unfold Builtin.«set_iterator.__next__» slotArgs
 simp only[List.isEmpty_nil,Bool.not_true,Bool.false_eq_true,↓reduceIte,bind_assoc,List.length_nil,bne_self_eq_false]
 refine wpAny_bind (wpAny_pure ?_)
 dsimp only
 refine wpAny_bind (wpAny_fieldsOf hit rfl ?_)
 show wpAny _ _ (setEntries a >>= _) _ _ _
 refine wpAny_bind (wpAny_setEntries_of ho hd hf ?_)
 rw[if_neg (by simp)]
 show wpAny _ _ (setNext a (slot:Int).toNat (i:Int).toNat (ep:Int).toNat >>= _) _ _ _
 simp only[Int.toNat_natCast]
 refine wpAny_bind (hnx ?_)
 dsimp only
 refine wpAny_bind (wpAny_setField hit rfl (by show 0<5;decide) ?_)
 have g1:=Heap.get?_update_self (Obj.mapFields (·.setIfInBounds 0 (rawInt slot'))) hit rfl
 refine wpAny_bind (wpAny_setField g1 rfl (by show 1<5;decide) ?_)
 have g2:=Heap.get?_update_self (Obj.mapFields (·.setIfInBounds 1 (rawInt (i+1)))) g1 rfl
 exact wpAny_pure ⟨x,rfl,wpAny_pure (hQ _ g2 ((Heap.SameBut.update ..).trans (Heap.SameBut.update ..)))⟩
theorem end_int{I a:Addr}{slot i ep:Nat}{o:Obj}{es:Array (Int×Value)}{t:SetTable}{Q:Option Value->Shared->Prop}(hh:A.handled=none)(hit:s.heap.get? I=some (itObj (.int slot 0) i a es.size ep))(ho:s.heap.get? a=some o)(hd:o.data=.set es ep t)(hf:t.fits es.size=true)
  (hnx:∀{A:Around} {E:Value->Shared->Prop} {Q:Option (Value×Nat)->Shared->Prop},Q none s->wpAny (model prog w) A (setNext a slot i ep) Q E s)
  (hQ:∀h',Heap.ExtBut I s.heap h'->Q none {s with heap:=h'}):wpAny (model prog w) A (pyNext (.ref I)) Q E s:=by
 have hT:s.TypeIs (.ref I) "set_iterator":=⟨_,hit,rfl⟩
 unfold pyNext
 refine wpAny_bind (wpAny_attempt (wpAny_callSpecial?_slot (name:=Str.ofString "__next__") hT slot_setit_next (wpAny_call_entry slot_setit_next hT entry_setit_next ?_ (args_setit_next _))))
 unfold Builtin.«set_iterator.__next__» slotArgs
 simp only[List.isEmpty_nil,Bool.not_true,Bool.false_eq_true,↓reduceIte,bind_assoc,List.length_nil,bne_self_eq_false]
 refine wpAny_bind (wpAny_pure ?_)
 dsimp only
 refine wpAny_bind (wpAny_fieldsOf hit rfl ?_)
 show wpAny _ _ (setEntries a >>= _) _ _ _
 refine wpAny_bind (wpAny_setEntries_of ho hd hf ?_)
 rw[if_neg (by simp)]
 show wpAny _ _ (setNext a (slot:Int).toNat (i:Int).toNat (ep:Int).toNat >>= _) _ _ _
 simp only[Int.toNat_natCast]
 refine wpAny_bind (hnx ?_)
 dsimp only
 refine wpAny_bind (wpAny_setField hit rfl (by show 2<5;decide) ?_)
 show wpAny _ _ (newExc (.type "StopIteration") [] >>= _) _ _ _
 refine wpAny_bind ?_
 simp only[newExc,newTuple]
 refine wpAny_bind (wpAny_newObj_type ?_ (by size_fits))
 refine wpAny_bind (m:=firstArgMember _ _) (wpAny_of_eq (a:=Value.none) (by first|rfl|(simp only[firstArgMember];rfl)) ?_)
 refine wpAny_newObj_type ?_ (by size_fits)
 simp only[raiseNew]
 refine wpAny_bind (wpAny_handled ?_)
 rw[show A.in1.handled=none from hh]
 refine wpAny_bind (wpAny_pure (wpAny_throw ?_))
 refine wpAny_bind (wpAny_isInstance (T:="StopIteration") (b:=true) ⟨_,Heap.get?_push_size _ rfl,rfl⟩ isSubtype_stop ?_)
 exact wpAny_pure (hQ _ (((Heap.SameBut.update ..).extBut.push _).push _))
theorem next_draw{I a tp:Addr}{i ep p:Nat}{o op:Obj}{es:Array (Int×Value)}{t:SetTable}{ps:Array Value}{c:Nat}{e:Int×Value}{Q:Option Value->Shared->Prop}(hit:s.heap.get? I=some (itObj (.ref tp) i a es.size ep))(ho:s.heap.get? a=some o)(hd:o.data=.set es ep t)(hf:t.fits es.size=true)
  (hp:s.heap.get? tp=some op) (hpd:op.data=.seq ps c) (hps:ps[i]?=some (.int p 0)) (hes:es[p]?=some e)
  (hQ:∀h',h'.get? I=some (itObj (.ref tp) (i+1) a es.size ep)->Heap.SameBut I s.heap h'->Q (some e.2) {s with heap:=h'}):wpAny (model prog w) A (pyNext (.ref I)) Q E s:=by
 have hT:s.TypeIs (.ref I) "set_iterator":=⟨_,hit,rfl⟩
 unfold pyNext
 refine wpAny_bind (wpAny_attempt (wpAny_callSpecial?_slot (name:=Str.ofString "__next__") hT slot_setit_next (wpAny_call_entry slot_setit_next hT entry_setit_next ?_ (args_setit_next _))))
 unfold Builtin.«set_iterator.__next__» slotArgs
 simp only[List.isEmpty_nil,Bool.not_true,Bool.false_eq_true,↓reduceIte,bind_assoc,List.length_nil,bne_self_eq_false]
 refine wpAny_bind (wpAny_pure ?_)
 dsimp only
 refine wpAny_bind (wpAny_fieldsOf hit rfl ?_)
 show wpAny _ _ (setEntries a >>= _) _ _ _
 refine wpAny_bind (wpAny_setEntries_of ho hd hf ?_)
 rw[if_neg (by simp)]
 show wpAny _ _ (seqItems? (.ref tp) >>= _) _ _ _
 refine wpAny_bind (wpAny_seqItems hp hpd ?_)
 dsimp only
 simp only[Int.toNat_natCast,hps]
 refine wpAny_bind ?_
 unfold setNextDrawn
 refine wpAny_bind (wpAny_setState_of ho hd hf ?_)
 dsimp only
 rw[if_neg (by simp)]
 simp only[Int.toNat_natCast,hes]
 refine wpAny_pure ?_
 refine wpAny_bind (wpAny_setField hit rfl (by show 1<5;decide) ?_)
 have g2:=Heap.get?_update_self (Obj.mapFields (·.setIfInBounds 1 (rawInt (i+1)))) hit rfl
 exact wpAny_pure ⟨e.2,rfl,wpAny_pure (hQ _ g2 (Heap.SameBut.update ..))⟩
theorem end_draw{I a tp:Addr}{i ep:Nat}{o op:Obj}{es:Array (Int×Value)}{t:SetTable}{ps:Array Value}{c:Nat}{Q:Option Value->Shared->Prop}(hh:A.handled=none)(hit:s.heap.get? I=some (itObj (.ref tp) i a es.size ep))(ho:s.heap.get? a=some o)(hd:o.data=.set es ep t)(hf:t.fits es.size=true)
  (hp:s.heap.get? tp=some op) (hpd:op.data=.seq ps c) (hps:ps[i]?=none)
  (hQ:∀h',Heap.ExtBut I s.heap h'->Q none {s with heap:=h'}):wpAny (model prog w) A (pyNext (.ref I)) Q E s:=by
 have hT:s.TypeIs (.ref I) "set_iterator":=⟨_,hit,rfl⟩
 unfold pyNext
 refine wpAny_bind (wpAny_attempt (wpAny_callSpecial?_slot (name:=Str.ofString "__next__") hT slot_setit_next (wpAny_call_entry slot_setit_next hT entry_setit_next ?_ (args_setit_next _))))
 unfold Builtin.«set_iterator.__next__» slotArgs
 simp only[List.isEmpty_nil,Bool.not_true,Bool.false_eq_true,↓reduceIte,bind_assoc,List.length_nil,bne_self_eq_false]
 refine wpAny_bind (wpAny_pure ?_)
 dsimp only
 refine wpAny_bind (wpAny_fieldsOf hit rfl ?_)
 show wpAny _ _ (setEntries a >>= _) _ _ _
 refine wpAny_bind (wpAny_setEntries_of ho hd hf ?_)
 rw[if_neg (by simp)]
 show wpAny _ _ (seqItems? (.ref tp) >>= _) _ _ _
 refine wpAny_bind (wpAny_seqItems hp hpd ?_)
 dsimp only
 simp only[Int.toNat_natCast,hps]
 refine wpAny_bind (wpAny_setField hit rfl (by show 0<5;decide) ?_)
 have g1:=Heap.get?_update_self (Obj.mapFields (·.setIfInBounds 0 (rawInt 0))) hit rfl
 refine wpAny_bind (wpAny_setField g1 rfl (by show 2<5;decide) ?_)
 show wpAny _ _ (newExc (.type "StopIteration") [] >>= _) _ _ _
 refine wpAny_bind ?_
 simp only[newExc,newTuple]
 refine wpAny_bind (wpAny_newObj_type ?_ (by size_fits))
 refine wpAny_bind (m:=firstArgMember _ _) (wpAny_of_eq (a:=Value.none) (by first|rfl|(simp only[firstArgMember];rfl)) ?_)
 refine wpAny_newObj_type ?_ (by size_fits)
 simp only[raiseNew]
 refine wpAny_bind (wpAny_handled ?_)
 rw[show A.in1.handled=none from hh]
 refine wpAny_bind (wpAny_pure (wpAny_throw ?_))
 refine wpAny_bind (wpAny_isInstance (T:="StopIteration") (b:=true) ⟨_,Heap.get?_push_size _ rfl,rfl⟩ isSubtype_stop ?_)
 exact wpAny_pure (hQ _ ((((Heap.SameBut.update ..).trans (Heap.SameBut.update ..)).extBut.push _).push _))
theorem setNext_text{a:Addr}{slot given ep:Nat}{o:Obj}{es:Array (Int×Value)}{t:SetTable}{Q:Option (Value×Nat)->Shared->Prop}(hb:byT w=true)(ho:s.heap.get? a=some o)(hd:o.data=.set es ep t)(hf:t.fits es.size=true)
  (h:Q (((pickOrder (w.params.setOrder a ep) es)[given]?).map fun e=>(e.2,slot)) s):wpAny (model prog w) A (setNext a slot given ep) Q E s:=by
 have hb':w.params.followText "set-order" = true:=hb
 unfold setNext
 refine wpAny_bind (wpAny_setState_of ho hd hf ?_)
 dsimp only
 unfold setsByText
 refine wpAny_bind (wpAny_bind (wpAny_askSetting (wpAny_pure ?_)))
 show wpAny _ _ (if w.params.followText "set-order" = true then _ else _) _ _ _
 rw[if_pos hb']
 rw[if_neg (by simp)]
 refine wpAny_bind ?_
 unfold setWalk
 refine wpAny_bind (wpAny_setState_of ho hd hf ?_)
 dsimp only
 unfold setsByText
 refine wpAny_bind (wpAny_bind (wpAny_askSetting (wpAny_pure ?_)))
 show wpAny _ _ (if w.params.followText "set-order" = true then _ else _) _ _ _
 rw[if_pos hb']
 refine wpAny_bind (wpAny_askSetting (wpAny_pure ?_))
 exact wpAny_pure h
theorem setNext_plain{a:Addr}{slot given ep:Nat}{o:Obj}{es:Array (Int×Value)}{t:SetTable}{Q:Option (Value×Nat)->Shared->Prop}(hb:byT w=false)(hled:t.led=true)(hdr:(!t.plain&&decide (es.size>1))=false)(ho:s.heap.get? a=some o)(hd:o.data=.set es ep t)(hf:t.fits es.size=true)
  (h:Q (match es[SetTable.below t.place slot]?,t.place[SetTable.below t.place slot]? with|some (_,x),some j=>some (x,j+1)|_,_=>none) s):wpAny (model prog w) A (setNext a slot given ep) Q E s:=by
 have hb':w.params.followText "set-order" = false:=hb
 unfold setNext
 refine wpAny_bind (wpAny_setState_of ho hd hf ?_)
 dsimp only
 unfold setsByText
 refine wpAny_bind (wpAny_bind (wpAny_askSetting (wpAny_pure ?_)))
 show wpAny _ _ (if w.params.followText "set-order" = true then _ else _) _ _ _
 rw[if_neg (by rw[hb'];exact Bool.false_ne_true)]
 show wpAny _ _ (if (!t.plain&&decide (es.size>1))=true then _ else _) _ _ _
 rw[hdr,if_neg Bool.false_ne_true]
 refine wpAny_bind ?_
 show wpAny _ _ (if (!t.led && !es.isEmpty)=true then _ else _) _ _ _
 rw[hled,if_neg (by simp)]
 refine wpAny_pure ?_
 exact wpAny_pure h
end
theorem below_zero{xs:Array Nat}(h:xs.toList.Pairwise (· < ·)):SetTable.below xs 0=0:=by
 obtain⟨a,b,c⟩:=below_low h 0
 apply Classical.byContradiction
 intro hn
 have h0:0<xs.size:=by omega
 have:=b 0 xs[0] (by omega) (by simp[h0])
 omega
theorem below_next{xs:Array Nat}(h:xs.toList.Pairwise (· < ·)){i j:Nat}(hi:xs[i]?=some j):SetTable.below xs (j+1)=i+1:=by
 obtain⟨a,b,c⟩:=below_low h (j+1)
 have hl:=(Array.getElem?_eq_some_iff.mp hi).1
 by_cases q:SetTable.below xs (j+1)<=i
 .have:=c i j q hi
  omega
 by_cases q2:i+1<SetTable.below xs (j+1)
 .have hl2:i+1<xs.size:=by omega
  have e:xs[i+1]?=some xs[i+1]:=by simp[hl2]
  have h1:=b (i+1) _ q2 e
  have h2:=rise_at h hi e (by omega)
  omega
 .omega
noncomputable def WalkAt(w:World)(a I:Addr)(es:Array (Int×Value))(ep:Nat)(t:SetTable)(os:List Value)(i:Nat)(h:Heap):Prop:=
 (∃o,h.get? a=some o/\o.cls=.type "set"/\o.data=.set es ep t)/\
 ((byT w=true/\os=(pickOrder (w.params.setOrder a ep) es).toList.map (·.2)/\∃slot,h.get? I=some (itObj (.int (slot:Nat) 0) i a es.size ep))\/
  (byT w=false/\(!t.plain&&decide (es.size>1))=false/\os=es.toList.map (·.2)/\∃slot,h.get? I=some (itObj (.int (slot:Nat) 0) i a es.size ep)/\SetTable.below t.place slot=i)\/
  (∃tp op c,∃ord:List Nat,h.get? I=some (itObj (.ref tp) i a es.size ep)/\h.get? tp=some op/\op.cls=.type "tuple"/\op.data=.seq (ord.map fun(p:Nat)=>Value.int (p:Int) 0).toArray c/\os.length=ord.length/\∀(k:Nat) p,ord[k]?=some p->∃e,es[p]?=some e/\os[k]?=some e.2))
section
variable{prog:Program}{w:World}{A:Around}{E:Value->Shared->Prop}{s:Shared}{a I:Addr}{es:Array (Int×Value)}{ep:Nat}{t:SetTable}{os:List Value}{i:Nat}
theorem WalkAt.keep{h h':Heap}(x:WalkAt w a I es ep t os i h)(k:∀b o,h.get? b=some o->(o.cls=.type "set"\/o.cls=.type "set_iterator"\/o.cls=.type "tuple")->h'.get? b=some o):WalkAt w a I es ep t os i h':=by
 obtain⟨⟨o,h1,h2,h3⟩,hm⟩:=x
 refine⟨⟨o,k _ _ h1 (.inl h2),h2,h3⟩,?_⟩
 rcases hm with ⟨b1,b2,slot,b3⟩|⟨b1,b2,b3,slot,b4,b5⟩|⟨tp,op,c,ord,b1,b2,b3,b4,b5,b6⟩
 .exact .inl ⟨b1,b2,slot,k _ _ b3 (.inr (.inl rfl))⟩
 .exact .inr (.inl ⟨b1,b2,b3,slot,k _ _ b4 (.inr (.inl rfl)),b5⟩)
 .exact .inr (.inr (x_EEEE tp op c ord ⟨k _ _ b1 (.inr (.inl rfl)),k _ _ b2 (.inr (.inr b3)),b3,b4,b5,b6⟩))
theorem walk_item{x:Value}{Q:Option Value->Shared->Prop}(ok:TOk t es)(hled:t.led = !byT w)(hw:WalkAt w a I es ep t os i s.heap)(hx:os[i]?=some x)
  (hQ:∀h',WalkAt w a I es ep t os (i+1) h'->Heap.SameBut I s.heap h'->Q (some x) {s with heap:=h'}):wpAny (model prog w) A (pyNext (.ref I)) Q E s:=by
 obtain⟨⟨o,h1,h2,h3⟩,hm⟩:=hw
 have keepA:∀{h':Heap} {fo:Obj},s.heap.get? I=some fo->fo.cls=.type "set_iterator"->Heap.SameBut I s.heap h'->h'.get? a=some o:=fun{h' fo} hi hc sb=>by
  rw[sb.2 a (fun e=>by subst e;rw[h1]at hi;cases hi;rw[h2]at hc;exact absurd hc (by decide))]
  exact h1
 rcases hm with ⟨b1,b2,slot,b3⟩|⟨b1,b2,b3,slot,b4,b5⟩|⟨tp,op,c,ord,b1,b2,b3,b4,b5,b6⟩
 .subst b2
  rw[List.getElem?_map,Array.getElem?_toList]at hx
  obtain⟨e,he,rfl⟩:=Option.map_eq_some_iff.mp hx
  refine next_int (slot':=slot) b3 h1 h3 ok.fits (fun q=>setNext_text b1 h1 h3 ok.fits (by rw[he];exact q)) fun h' g sb=>?_
  exact hQ h' ⟨⟨o,keepA b3 rfl sb,h2,h3⟩,.inl ⟨b1,rfl,slot,g⟩⟩ sb
 .subst b3
  rw[List.getElem?_map,Array.getElem?_toList]at hx
  obtain⟨e,he,rfl⟩:=Option.map_eq_some_iff.mp hx
  have hil:=(Array.getElem?_eq_some_iff.mp he).1
  have hpl:t.place[i]?=some (t.place[i]'(by rw[ok.sz];exact hil)):=Array.getElem?_eq_getElem _
  have hl:t.led=true:=by rw[hled,b1];rfl
  obtain⟨eh,ev⟩:=e
  refine next_int (slot':=t.place[i]'(by rw[ok.sz];exact hil)+1) b4 h1 h3 ok.fits (fun q=>setNext_plain b1 hl b2 h1 h3 ok.fits (by rw[b5,he,hpl];exact q)) fun h' g sb=>?_
  exact hQ h' ⟨⟨o,keepA b4 rfl sb,h2,h3⟩,.inr (.inl ⟨b1,b2,rfl,_,g,below_next ok.rise hpl⟩)⟩ sb
 .have hil:=(List.getElem?_eq_some_iff.mp hx).1
  have hio:ord[i]?=some (ord[i]'(by omega)):=List.getElem?_eq_getElem _
  obtain⟨e,e1,e2⟩:=b6 i _ hio
  rw[hx]at e2
  cases e2
  refine next_draw b1 h1 h3 ok.fits b2 b4 (by rw[List.getElem?_toArray,List.getElem?_map,hio];rfl) e1 fun h' g sb=>?_
  have nt:tp≠I:=fun e=>by subst e;rw[b2]at b1;cases b1;exact absurd b3 (by show ¬(Value.type "set_iterator" = Value.type "tuple");decide)
  exact hQ h' ⟨⟨o,keepA b1 rfl sb,h2,h3⟩,.inr (.inr (x_EEEE tp op c ord ⟨g,by rw[sb.2 tp nt];exact b2,b3,b4,b5,b6⟩))⟩ sb
theorem walk_end{Q:Option Value->Shared->Prop}(hh:A.handled=none)(ok:TOk t es)(hled:t.led = !byT w)(hw:WalkAt w a I es ep t os i s.heap)(hx:os.length<=i)
  (hQ:∀h',Heap.ExtBut I s.heap h'->Q none {s with heap:=h'}):wpAny (model prog w) A (pyNext (.ref I)) Q E s:=by
 obtain⟨⟨o,h1,h2,h3⟩,hm⟩:=hw
 rcases hm with ⟨b1,b2,slot,b3⟩|⟨b1,b2,b3,slot,b4,b5⟩|⟨tp,op,c,ord,b1,b2,b3,b4,b5,b6⟩
 .subst b2
  rw[List.length_map,Array.length_toList]at hx
  refine end_int hh b3 h1 h3 ok.fits (fun q=>setNext_text b1 h1 h3 ok.fits (by rw[Array.getElem?_eq_none hx];exact q)) hQ
 .subst b3
  rw[List.length_map,Array.length_toList]at hx
  have hl:t.led=true:=by rw[hled,b1];rfl
  refine end_int hh b4 h1 h3 ok.fits (fun q=>setNext_plain b1 hl b2 h1 h3 ok.fits (by rw[b5,Array.getElem?_eq_none hx];exact q)) hQ
 .exact end_draw hh b1 h1 h3 ok.fits b2 b4 (by rw[List.getElem?_toArray,List.getElem?_map,List.getElem?_eq_none (by omega)];rfl) hQ
theorem walk_start{o:Obj}{Q:Value->Shared->Prop}(ho:s.heap.get? a=some o)(hex:o.ExactSet)(hd:o.data=.set es ep t)(ok:TOk t es)(hled:t.led = !byT w)(hsz:es.size<=4000)
  (hQ:∀h' I os dr,os.Perm (es.toList.map (·.2))->WalkAt w a I es ep t os 0 h'->(∀b o,s.heap.get? b=some o->h'.get? b=some o)->s.heap.objs.size<=I->Q (.ref I) {s with heap:=h',drawn:=dr}):wpAny (model prog w) A (pyIter (.ref a)) Q E s:=by
 have hT:s.TypeIs (.ref a) "set":=⟨o,ho,hex.1⟩
 refine wpAny_pyIter_slot hT PySem.F.slot_set_iter (wpAny_call_entry PySem.F.slot_set_iter hT entry_set_iterD ?_ (PySem.F.args_set_iter_1 _))
 unfold Builtin.«frozenset.__iter__» Builtin.Frozenset.slot0 slotArgs
 simp only[List.isEmpty_nil,Bool.not_true,Bool.false_eq_true,↓reduceIte,bind_assoc,List.length_nil,bne_self_eq_false]
 unfold Builtin.Frozenset.addrOf Builtin.Frozenset.sizeOf
 refine wpAny_bind (wpAny_pure ?_)
 dsimp only
 refine wpAny_bind (wpAny_pure ?_)
 refine wpAny_bind (wpAny_bind (wpAny_setEntries_of ho hd ok.fits (wpAny_pure ?_)))
 have hdrn:∀{Q:Bool->Shared->Prop},Q (!byT w&&(!t.plain&&decide (es.size>1))) s->wpAny (model prog w) A.in1 (setDrawn a) Q E s:=fun{Q} q=>by
  unfold setDrawn
  refine wpAny_bind (wpAny_setState_of ho hd ok.fits ?_)
  dsimp only
  unfold setsByText
  refine wpAny_bind (wpAny_bind (wpAny_askSetting (wpAny_pure ?_)))
  exact wpAny_pure q
 refine wpAny_bind (hdrn ?_)
 cases hc:(!byT w&&(!t.plain&&decide (es.size>1)))with
 | true=>
  rw[if_pos rfl]
  refine wpAny_bind (draw_perm es.size (List.range es.size) s (by rw[List.length_range]) fun ord dr hp=>?_)
  simp only[newTuple]
  have hol:ord.length=es.size:=by rw[hp.length_eq,List.length_range]
  obtain⟨tob,htob⟩:∃ob:Obj,ob={cls:=.type "tuple",data:=.seq (ord.map fun(p:Nat)=>Value.int (p:Int) 0).toArray}:=⟨_,rfl⟩
  have hline:((ord.map fun(p:Nat)=>Value.int (p:Int) 0).toArray).size<=sizeLine:=by rw[List.size_toArray,List.length_map,hol,sizeLine_eq];omega
  refine wpAny_bind (wpAny_newObj_type ?_ hline)
  show wpAny _ _ _ _ _ {s with heap:=s.heap.push {cls:=.type "tuple",data:=.seq (ord.map fun(p:Nat)=>Value.int (p:Int) 0).toArray},drawn:=dr}
  rw[<-htob]
  have kp1:∀b ob,s.heap.get? b=some ob->(s.heap.push tob).get? b=some ob:=fun b ob e=>Heap.get?_push_of_some _ e
  have ht1:(s.heap.push tob).get? s.heap.objs.size=some tob:=Heap.get?_push_size _ (by rw[htob];rfl)
  refine wpAny_bind (wpAny_setEpoch_of (kp1 _ _ ho) hd ok.fits ?_)
  have hg:((s.heap.push tob).push (itObj (.ref s.heap.objs.size) 0 a es.size ep)).get? (s.heap.push tob).objs.size=some (itObj (.ref s.heap.objs.size) 0 a es.size ep):=Heap.get?_push_size _ rfl
  have kp2:∀b ob,(s.heap.push tob).get? b=some ob->((s.heap.push tob).push (itObj (.ref s.heap.objs.size) 0 a es.size ep)).get? b=some ob:=fun b ob e=>Heap.get?_push_of_some _ e
  refine wpAny_bind (wpAny_newObj_type (wpAny_pure (x_EAEE _ rfl ("set_iterator") _ ⟨⟨_,hg,rfl⟩,slot_setit_next.lookup,?_⟩)))
  have hperm:(ord.map fun p=>(es[p]?.map (·.2)).getD Value.none).Perm (es.toList.map (·.2)):=by
   have h1:=hp.map fun p=>(es[p]?.map (·.2)).getD Value.none
   have h2:(List.range es.size).map (fun p=>(es[p]?.map (·.2)).getD Value.none)=es.toList.map (·.2):=by
    apply List.ext_getElem
    .simp
    .intro k a1 b1
     have hk:k<es.size:=by simpa using b1
     simp[hk]
   rw[h2]at h1
   exact h1
  refine hQ _ _ _ dr hperm ⟨⟨o,kp2 _ _ (kp1 _ _ ho),hex.1,hd⟩,.inr (.inr (x_EEEE s.heap.objs.size tob 0 ord ⟨hg,kp2 _ _ ht1,by rw[htob],by rw[htob],by rw[List.length_map],fun k p hk=>?_⟩))⟩ (fun b ob e=>kp2 _ _ (kp1 _ _ e)) (by rw[Heap.size_push];exact Nat.le_succ _)
  have hpl:p<es.size:=List.mem_range.mp (hp.mem_iff.mp (List.mem_of_getElem? hk))
  refine⟨es[p],Array.getElem?_eq_getElem hpl,?_⟩
  rw[List.getElem?_map,hk]
  show some ((es[p]?.map (·.2)).getD Value.none)=_
  rw[Array.getElem?_eq_getElem hpl]
  rfl
 | false=>
  rw[if_neg Bool.false_ne_true]
  refine wpAny_bind (wpAny_pure ?_)
  refine wpAny_bind (wpAny_setEpoch_of ho hd ok.fits ?_)
  have hg:(s.heap.push (itObj (.int ((0:Nat):Int) 0) 0 a es.size ep)).get? s.heap.objs.size=some (itObj (.int ((0:Nat):Int) 0) 0 a es.size ep):=Heap.get?_push_size _ rfl
  have kp:∀b ob,s.heap.get? b=some ob->(s.heap.push (itObj (.int ((0:Nat):Int) 0) 0 a es.size ep)).get? b=some ob:=fun b ob e=>Heap.get?_push_of_some _ e
  refine wpAny_bind (wpAny_newObj_type (wpAny_pure (x_EAEE _ rfl ("set_iterator") _ ⟨⟨_,hg,rfl⟩,slot_setit_next.lookup,?_⟩)))
  cases hb:byT w with
  | true=>exact hQ _ _ _ s.drawn ((pick_perm _ es).map _) ⟨⟨o,kp _ _ ho,hex.1,hd⟩,.inl ⟨hb,rfl,0,hg⟩⟩ kp (Nat.le_refl _)
  | false=>
   rw[hb]at hc
   exact hQ _ _ _ s.drawn (List.Perm.refl _) ⟨⟨o,kp _ _ ho,hex.1,hd⟩,.inr (.inl ⟨hb,by simpa using hc,rfl,0,hg,below_zero ok.rise⟩)⟩ kp (Nat.le_refl _)
end
theorem set_lenD:typeLookup (.type "set") "__len__" = pure (some (.builtin "set.__len__")):=by rw[typeLookup_type,builtinLookup_eq_fast];kernel_rfl
section
variable{prog:Program}{w:World}{A:Around}{a I S:Addr}{es:Array (Int×Value)}{ep:Nat}{t:SetTable}{os:List Value}{R:Result->Shared->Prop}
theorem extend_loopD(hh:A.in1.handled=none)(ok:TOk t es)(hled:t.led = !byT w)(hos:os.length<=4000)(res:Value)(h0:Heap)(hI0:h0.get? I=none)(hS0:h0.get? S=none) :
  ∀(k i:Nat) (s:Shared) (c:Nat),os.length-i=k->i<=os.length->WalkAt w a I es ep t os i s.heap->s.heap.get? S=some {cls:=.type "list",dict:=none,data:=.seq (os.take i).toArray c,slots:=#[]}->(∀b o,h0.get? b=some o->s.heap.get? b=some o)->
  (∀h' c',h'.get? S=some {cls:=.type "list",dict:=none,data:=.seq os.toArray c',slots:=#[]}->(∀b o,h0.get? b=some o->h'.get? b=some o)->R (.ok (.ret res)) {s with heap:=h'})->
  codeAny (model prog w) A (.builtin "list.extend.loop" ⟨[.ref S,.ref I,res],[]⟩) R s:=by
 intro k
 induction k with
 | zero=>
  intro i s c hk hi hw hS hkp hR
  have hin:i=os.length:=by omega
  subst hin
  rw[List.take_length]at hS
  refine codeAny_builtin PySem.F.entry_extend_loop (show _ from ?_)
  rw[Around.under_plainId PySem.F.plain_extend_loop (_:Args)]
  show wpAny _ A.in1 (pyNext (.ref I) >>= _) _ _ s
  have nSI:S≠I:=fun e=>by
   subst e
   rcases hw.2 with ⟨_,_,slot,b3⟩|⟨_,_,_,slot,b4,_⟩|⟨tp,op,c,ord,b1,_⟩
   .rw[hS]at b3;injection b3 with b3;injection b3 with b3;exact absurd b3 (by decide)
   .rw[hS]at b4;injection b4 with b4;injection b4 with b4;exact absurd b4 (by decide)
   .rw[hS]at b1;injection b1 with b1;injection b1 with b1;exact absurd b1 (by decide)
  refine wpAny_bind (walk_end hh ok hled hw (Nat.le_refl _) fun h' hx=>?_)
  exact wpAny_pure (hR h' c (hx S _ nSI hS) fun b o e=>hx b o (fun z=>by rw[z,hI0]at e;cases e) (hkp b o e))
 | succ k ih=>
  intro i s c hk hi hw hS hkp hR
  have hlt:i<os.length:=by omega
  refine codeAny_builtin PySem.F.entry_extend_loop (show _ from ?_)
  rw[Around.under_plainId PySem.F.plain_extend_loop (_:Args)]
  show wpAny _ A.in1 (pyNext (.ref I) >>= _) _ _ s
  have nSI:S≠I:=fun e=>by
   subst e
   rcases hw.2 with ⟨_,_,slot,b3⟩|⟨_,_,_,slot,b4,_⟩|⟨tp,op,c,ord,b1,_⟩
   .rw[hS]at b3;injection b3 with b3;injection b3 with b3;exact absurd b3 (by decide)
   .rw[hS]at b4;injection b4 with b4;injection b4 with b4;exact absurd b4 (by decide)
   .rw[hS]at b1;injection b1 with b1;injection b1 with b1;exact absurd b1 (by decide)
  refine wpAny_bind (walk_item ok hled hw (List.getElem?_eq_getElem hlt) fun h' hw' sb=>?_)
  have hS':h'.get? S=some {cls:=.type "list",dict:=none,data:=.seq (os.take i).toArray c,slots:=#[]}:=by rw[sb.2 S nSI];exact hS
  show wpAny _ A.in1 (updateSeq S (·.push os[i]) >>= _) _ _ _
  refine wpAny_bind ?_
  have hz1:(os.take i).toArray.size<=sizeLine:=by rw[List.size_toArray,List.length_take,sizeLine_eq];omega
  have hz2:((os.take i).toArray.push os[i]).size<=sizeLine+1:=by rw[Array.size_push];omega
  refine wpAny_updateSeq hS' rfl (wpAny_pure ⟨plainId_quiet PySem.F.plain_extend_loop _,ih (i+1) _ (c+1) (by omega) hlt (hw'.keep fun b o e hc=>?_) ?_ (fun b o e=>?_) fun h'' c' g kp=>?_⟩) hz1 hz2
  .have:b≠S:=fun z=>by
    subst z
    rw[hS']at e
    cases e
    have hc':Value.type "list" = .type "set"\/Value.type "list" = .type "set_iterator"\/Value.type "list" = .type "tuple":=hc
    revert hc'
    decide
   exact(Heap.get?_update_other _ _ (Ne.symm this)).trans e
  .have g:=Heap.get?_update_self (Obj.mapSeq (·.push os[i])) hS' rfl
   have e1:(os.take i).toArray.push os[i]=(os.take (i+1)).toArray:=by rw[List.push_toArray,List.take_append_getElem hlt]
   rw[<-e1]
   exact g.trans (congrArg some (Obj.mapSeq_push_plain _ _ _))
  .have nb:b≠S:=fun z=>by rw[z,hS0]at e;cases e
   refine(Heap.get?_update_other _ _ (Ne.symm nb)).trans ?_
   rw[sb.2 b (fun z=>by rw[z,hI0]at e;cases e)]
   exact hkp b o e
  .exact hR h'' c' g kp
theorem collect_setD{o:Obj}{E:Value->Shared->Prop}{Q:List Value->Shared->Prop}{s:Shared}(hh:A.handled=none)(ho:s.heap.get? a=some o)(hex:o.ExactSet)(hd:o.data=.set es ep t)(ok:TOk t es)(hled:t.led = !byT w)(hsz:es.size<=4000)
  (hQ:∀h' os dr,os.Perm (es.toList.map (·.2))->(∀b o,s.heap.get? b=some o->h'.get? b=some o)->Q os {s with heap:=h',drawn:=dr}):wpAny (model prog w) A (collect (.ref a)) Q E s:=by
 unfold collect
 refine wpAny_bind (wpAny_runValue (codeAny_builtin PySem.F.entry_proto_collect ?_))
 rw[Around.under_plainId PySem.F.plain_proto_collect _]
 show wpAny _ A.in1 (newList [] >>= fun l=>again (.builtin "list.__iadd__" ⟨[l,.ref a],[]⟩)) _ _ s
 refine wpAny_bind (wpAny_newObj_type ?_)
 refine wpAny_pure ⟨plainId_quiet PySem.F.plain_list_iadd _,codeAny_builtin PySem.F.entry_list_iadd ?_⟩
 rw[Around.under_plainId PySem.F.plain_list_iadd _]
 show wpAny _ A.in1 (Builtin.List.listExtendWith (.ref s.heap.objs.size) (.ref a) (.ref s.heap.objs.size)) _ _ _
 have hla:=Heap.lt_size ho
 unfold Builtin.List.listExtendWith
 generalize hH:s.heap.push {cls:=.type "list",data:=.seq ([]:List Value).toArray}=H
 have hHs:H.objs.size=s.heap.objs.size+1:=by rw[<-hH,Heap.size_push]
 have kp:∀b ob,s.heap.get? b=some ob->H.get? b=some ob:=fun b ob e=>hH▸Heap.get?_push_of_some _ e
 have hHS:H.get? s.heap.objs.size=some {cls:=.type "list",data:=.seq ([]:List Value).toArray}:=hH▸Heap.get?_push_size _ rfl
 have hT:∀(s':Shared),s'.heap.get? a=some o->s'.TypeIs (.ref a) "set":=fun s' e=>⟨o,e,hex.1⟩
 refine wpAny_bind (wpAny_typeOf (T:="set") (hT _ (kp _ _ ho)) ?_)
 have h1:Builtin.List.listSameRef (.ref s.heap.objs.size) (.ref a)=false:=by show(s.heap.objs.size==a)=false;exact beq_false_of_ne (Nat.ne_of_gt hla)
 have h2:(Value.type "set" == Value.type "list")=false:=by decide
 have h3:(Value.type "set" == Value.type "tuple")=false:=by decide
 simp only[h1,h2,h3,Bool.or_false,Bool.false_eq_true,if_false]
 refine wpAny_bind (walk_start (kp _ _ ho) hex hd ok hled hsz fun h1 I os dr hp hw k1 hI=>?_)
 refine wpAny_bind (wpAny_holding ?_)
 unfold Builtin.List.listLengthHint
 have ho1:h1.get? a=some o:=k1 _ _ (kp _ _ ho)
 refine wpAny_bind (wpAny_specialOf (T:="set") (v:=.ref a) (hT _ ho1) set_lenD ?_)
 wp_delta
 refine wpAny_bind (wpAny_isInstance (T:="set") (v:=.ref a) (b:=true) (hT _ ho1) (by rw[isSubtype_type];kernel_rfl) ?_)
 show wpAny _ A.in1 (typeOf (Value.ref a) >>= _) _ _ _
 refine wpAny_bind (wpAny_typeOf (T:="set") (v:=.ref a) (hT _ ho1) ?_)
 refine wpAny_pure ?_
 rw[if_pos (by decide)]
 show wpAny _ A.in1 (rule "list.extend.makes-room" >>= fun _=>Builtin.List.listTouch (.ref s.heap.objs.size) >>= fun _=>
  again (.builtin "list.extend.loop" ⟨[.ref s.heap.objs.size,.ref I,.ref s.heap.objs.size],[]⟩)) _ _ _
 refine wpAny_bind (wpAny_rule ?_)
 refine wpAny_bind ?_
 show wpAny _ A.in1 (updateSeq s.heap.objs.size (·.push .none) >>= fun _=>updateSeq s.heap.objs.size (·.pop)) _ _ _
 have hS:h1.get? s.heap.objs.size=some {cls:=.type "list",data:=.seq ([]:List Value).toArray}:=k1 _ _ hHS
 refine wpAny_bind (wpAny_updateSeq hS rfl ?_)
 have hS₂:=Heap.get?_update_self (Obj.mapSeq (·.push Value.none)) hS rfl
 refine wpAny_updateSeq (hz:=by seq_fits) hS₂ rfl ?_
 have hS₃:=Heap.get?_update_self (Obj.mapSeq (·.pop)) hS₂ rfl
 have oth:∀b ob,b≠s.heap.objs.size->h1.get? b=some ob->((h1.update s.heap.objs.size (Obj.mapSeq (·.push Value.none))).update s.heap.objs.size (Obj.mapSeq (·.pop))).get? b=some ob:=
  fun b ob hb e=>(Heap.get?_update_other _ _ (Ne.symm hb)).trans ((Heap.get?_update_other _ _ (Ne.symm hb)).trans e)
 have hI0:s.heap.get? I=none:=by
  cases q:s.heap.get? I with
  | none=>rfl
  | some ob=>
   have hI':H.objs.size<=I:=hI
   exact absurd (Heap.lt_size q) (Nat.not_lt.mpr (Nat.le_trans (by rw[hHs];exact Nat.le_succ _) hI'))
 have hS0:s.heap.get? s.heap.objs.size=none:=by
  cases q:s.heap.get? s.heap.objs.size with
  | none=>rfl
  | some ob=>exact absurd (Heap.lt_size q) (Nat.lt_irrefl _)
 refine wpAny_pure ⟨plainId_quiet PySem.F.plain_extend_loop _,extend_loopD hh ok hled (by rw[hp.length_eq,List.length_map,Array.length_toList];exact hsz) _ s.heap hI0 hS0 os.length 0 _ _ rfl (Nat.zero_le _) (hw.keep fun b ob e hc=>oth b ob (fun z=>?_) e) hS₃ (fun b ob e=>oth b ob (fun z=>?_) (k1 _ _ (kp _ _ e))) fun h2 c2 g2 k2=>?_⟩
 .subst z
  rw[hS]at e
  cases e
  have hc':Value.type "list" = .type "set"\/Value.type "list" = .type "set_iterator"\/Value.type "list" = .type "tuple":=hc
  revert hc'
  decide
 .subst z
  rw[hS0]at e
  cases e
 .show wpAny _ A (load s.heap.objs.size >>= _) _ _ _
  refine wpAny_bind (wpAny_load g2 ?_)
  refine wpAny_pure ?_
  exact hQ h2 os dr hp k2
end
end L3
namespace L3
open PySem PySem.Spec PyProof.Rows L2
mutual
noncomputable def Cmp:PyData->PyData->Prop
 | .int _,.int _=>True
 | .str _,.str _=>True
 | .tuple xs,.tuple ys=>CmpL xs ys
 | _,_=>False
noncomputable def CmpL:List PyData->List PyData->Prop
 | [],_=>True
 | _::_,[]=>True
 | x::xs,y::ys=>Cmp x y/\CmpL xs ys
end
mutual
noncomputable def ltD:PyData->PyData->Bool
 | .int a,.int b=>decide (a<b)
 | .str a,.str b=>sLt a b
 | .tuple xs,.tuple ys=>ltL xs ys
 | _,_=>false
noncomputable def ltL:List PyData->List PyData->Bool
 | [],[]=>false
 | [],_::_=>true
 | _::_,[]=>false
 | x::xs,y::ys=>if PyData.eqv x y=true then ltL xs ys else ltD x y
end
noncomputable def LtAt(A:Around)(s:Shared)(u v:Value)(b:Bool):Prop:=∀(prog:Program) (w:World) (E:Value->Shared->Prop) (Q:Value->Shared->Prop),Q (.bool b) s->wpAny (model prog w) A (richCompare .Lt u v) Q E s
theorem LtAt.int{A:Around}{s:Shared}(a:Int)(t:Tok)(c:Int)(u:Tok):LtAt A s (.int a t) (.int c u) (decide (a<c)):=fun prog w E Q h=>
 (PyProof.Rows.lt_int h:wpAny (model prog w) A (compareOp .Lt (.int a t) (.int c u)) Q E s)
theorem LtAt.str{A:Around}{s:Shared}(a:Str)(t:Tok)(c:Str)(u:Tok):LtAt A s (.str a t) (.str c u) (sLt a c):=fun prog w E Q h=>
 (PyProof.Rows.lt_str h:wpAny (model prog w) A (compareOp .Lt (.str a t) (.str c u)) Q E s)
noncomputable def PairAt(A:Around)(s:Shared):List Value->List Value->List PyData->List PyData->Prop
 | v::vs,w::ws,x::xs,y::ys=>SeqAt.EqAt A s v w (PyData.eqv x y)/\LtAt A s v w (ltD x y)/\PairAt A s vs ws xs ys
 | [],_,[],_=>True
 | _::_,[],_::_,[]=>True
 | _,_,_,_=>False
section
open PySem.SeqAt
open PySem.AutoSeq1 (wpAny_loadPart')
open PySem.MeetsSeq PySem.MeetsSeq2 PySem.MeetsSeq3
theorem tuple_lt_data(l b:Addr)(items items2:Array Value)(n n2:Nat)(dd dd2:Option Addr)(sl sl2:Array (Option Value))(xs ys:List PyData)(hi:items.toList.length=xs.length)(hj:items2.toList.length=ys.length) :
  Meets (Builtin.«tuple.__lt__» ⟨[.ref l,.ref b],[]⟩)
   (fun A R s=>s.heap.get? l=some {cls:=.type "tuple",dict:=dd,data:=.seq items n,slots:=sl}/\s.heap.get? b=some {cls:=.type "tuple",dict:=dd2,data:=.seq items2 n2,slots:=sl2}/\
    PairAt A.in1 s items.toList items2.toList xs ys/\R (.ok (.ret (.bool (ltL xs ys)))) s):=
 .of_wp fun prog w A R s h=>by
  obtain⟨hp,g,d,tk,os⟩:=s;obtain⟨hl,hb,hP,h⟩:=h
  have f2:=AutoSeq1.sub_tuple_tuple
  have z1:items.size=xs.length:=by rw[<-hi];simp
  have z2:items2.size=ys.length:=by rw[<-hj];simp
  wp_walk using wpAny_loadPart' hl,wpAny_loadPart' hb,wpAny_forIn_list _ (fun rest b s'=>b.1=none/\s'=⟨hp,g,d,tk,os⟩/\∃(vs ws:List Value) (ns' ms':List PyData),rest=vs.zip ws/\
   vs.length=ns'.length/\ws.length=ms'.length/\PairAt A.in1 ⟨hp,g,d,tk,os⟩ vs ws ns' ms'/\ns'.length+items2.size=ms'.length+items.size/\R (.ok (.ret (.bool (ltL ns' ms')))) ⟨hp,g,d,tk,os⟩) _
  case turn=>
   rintro⟨y,x⟩ rest b s' ⟨hb',rfl,vs,ws,ns',ms',hz,hvi,hwi,hpa,hlen,hR⟩
   cases vs with
   | nil=>rw[List.zip_nil_left]at hz;cases hz
   | cons v vs=>
    cases ws with
    | nil=>rw[List.zip_nil_right]at hz;cases hz
    | cons w' ws=>
     cases ns' with
     | nil=>cases hvi
     | cons n' ns'=>
      cases ms' with
      | nil=>cases hwi
      | cons m' ms'=>
       rw[List.zip_cons_cons]at hz
       injection hz with hyx hrest
       injection hyx with hy hx
       subst hy hx
       obtain⟨he,hlt,hpa'⟩:=hpa
       have hR':R (.ok (.ret (.bool (if PyData.eqv n' m'=true then ltL ns' ms' else ltD n' m')))) ⟨hp,g,d,tk,os⟩:=hR
       simp only[List.length_cons]at hlen hvi hwi
       refine wpAny_bind (he prog w _ _ ?_)
       cases hq:PyData.eqv n' m' with
       | true=>
        rw[hq,if_pos rfl]at hR'
        wp_walk
        exact⟨rfl,rfl,(x_EEEE _ _ _ _ ⟨hrest,by omega,by omega,hpa',by omega,hR'⟩)⟩
       | false=>
        rw[hq,if_neg Bool.false_ne_true]at hR'
        have hri:=hlt prog w
        wp_walk using hri
        exact⟨_,rfl,by simpa using hR'⟩
  case fin=>
   rintro⟨b1,b2⟩ s' ⟨hb',rfl,vs,ws,ns',ms',hz,hvi,hwi,hpa,hlen,hR⟩
   simp only at hb'
   subst hb'
   have hv:ltL ns' ms'=decide (items.size<items2.size):=by
    cases ns' with
    | nil=>
     cases ms' with
     | nil=>
      simp only[List.length_nil]at hlen
      show false=_
      exact(decide_eq_false (by omega)).symm
     | cons c u=>
      simp only[List.length_nil,List.length_cons]at hlen
      show true=_
      exact(decide_eq_true (by omega)).symm
    | cons a t=>
     cases ms' with
     | nil=>
      simp only[List.length_nil,List.length_cons]at hlen
      show false=_
      exact(decide_eq_false (by omega)).symm
     | cons c u=>
      cases vs with
      | nil=>cases hvi
      | cons v vs=>
       cases ws with
       | nil=>cases hwi
       | cons w' ws=>
        rw[List.zip_cons_cons]at hz
        cases hz
   rw[hv]at hR
   wp_walk
   exact⟨_,rfl,by simpa [Builtin.Tuple.tupleCompareSizes]using hR⟩
  case h=>
   exact⟨rfl,rfl,(x_EEEE items.toList items2.toList xs ys ⟨rfl,hi,hj,hP,by omega,h⟩)⟩
end
mutual
theorem ltAt_reads:∀(x y:PyData),Cmp x y->∀(A:Around) (s:Shared) (u v:Value) (as bs:List Addr),Reads s.heap u x as->Reads s.heap v y bs->x.canLay0=true->y.canLay0=true->
  A.units+min x.depth y.depth<cLine->LtAt A s u v (ltD x y)
 | .int a,.int b,_=>by
  intro A s u v as bs r1 r2 _ _ _
  cases r1;cases r2
  exact LtAt.int _ _ _ _
 | .str a,.str b,_=>by
  intro A s u v as bs r1 r2 _ _ _
  cases r1;cases r2
  exact LtAt.str _ _ _ _
 | .tuple xs,.tuple ys,hc=>by
  intro A s u v as bs r1 r2 h1 h2 hu
  cases r1 with
  | @tuple a o vs n _ _ e1 e2 e3 z=>
   cases r2 with
   | @tuple a' o' vs' n' _ _ f1 f2 f3 z'=>
    obtain⟨cls,dd,data,sl⟩:=o
    obtain⟨cls2,dd2,data2,sl2⟩:=o'
    simp only at e2 e3 f2 f3
    subst e2 e3 f2 f3
    intro prog w E Q hq
    have hp:=pairAt_reads xs ys hc A.in1 s _ _ _ _ z z' h1 h2 (SeqAt.room_in hu)
    exact richCompare_meets_room (op:=.Lt) ⟨_,e1,rfl⟩ ⟨_,f1,rfl⟩ PySem.F.slot_tuple_lt PySem.F.entry_tuple_lt (PySem.F.args_tuple_lt_2 _ _) (tuple_lt_data a a' vs vs' n n' dd dd2 sl sl2 xs ys (SeqAt.ReadsAll.length _ _ _ z) (SeqAt.ReadsAll.length _ _ _ z'))
     ⟨e1,f1,hp,show Value.bool (ltL xs ys)≠Value.notImplemented/\Q (.bool (ltL xs ys)) s from ⟨(fun x=>nomatch x),hq⟩⟩ (SeqAt.room_here hu)
theorem pairAt_reads:∀(xs ys:List PyData),CmpL xs ys->∀(A:Around) (s:Shared) (vs ws:List Value) (as bs:List Addr),ReadsAll s.heap vs xs as->ReadsAll s.heap ws ys bs->PyData.canLayAll0 xs=true->PyData.canLayAll0 ys=true->
  A.units+min (PyData.depthAll xs) (PyData.depthAll ys)<cLine->PairAt A s vs ws xs ys
 | [],_,_=>by
  intro A s vs ws as bs r1 r2 _ _ _
  cases r1
  cases r2 with
  | nil=>exact True.intro
  | cons _ _=>exact True.intro
 | x::xs,[],_=>by
  intro A s vs ws as bs r1 r2 _ _ _
  cases r1;cases r2
  exact True.intro
 | x::xs,y::ys,hc=>by
  intro A s vs ws as bs r1 r2 h1 h2 hu
  have h1':x.canLay0=true/\PyData.canLayAll0 xs=true:=by simpa [PyData.canLayAll0]using h1
  have h2':y.canLay0=true/\PyData.canLayAll0 ys=true:=by simpa [PyData.canLayAll0]using h2
  cases r1 with
  | cons ra rb=>
   cases r2 with
   | cons rc rd=>
    exact⟨SeqAt.eqAt_reads x y A s _ _ _ _ ra rc h1'.1 h2'.1 (SeqAt.room_head hu),ltAt_reads x y (show Cmp x y/\CmpL xs ys from hc).1 A s _ _ _ _ ra rc h1'.1 h2'.1 (SeqAt.room_head hu),
     pairAt_reads xs ys (show Cmp x y/\CmpL xs ys from hc).2 A s _ _ _ _ rb rd h1'.2 h2'.2 (SeqAt.room_tail hu)⟩
end
noncomputable def RL(R:Value->PyData->Prop):List Value->List PyData->Prop
 | [],[]=>True
 | v::vs,d::ds=>R v d/\RL R vs ds
 | _,_=>False
theorem RL.perm{R:Value->PyData->Prop}{os vs:List Value}(p:os.Perm vs):∀{ds:List PyData},RL R vs ds->∃dos,dos.Perm ds/\RL R os dos:=by
 induction p with
 | nil=>intro ds h;exact⟨ds,.refl _,h⟩
 | cons x p ih=>
  intro ds h
  cases ds with
  | nil=>exact h.elim
  | cons d ds=>
   obtain⟨dos,p',h'⟩:=ih h.2
   exact⟨d::dos,p'.cons d,h.1,h'⟩
 | swap x y l=>
  intro ds h
  match ds,h with
  | d1::d2::ds,h=>exact⟨d2::d1::ds,.swap _ _ _,h.2.1,h.1,h.2.2⟩
 | trans p1 p2 ih1 ih2=>
  intro ds h
  obtain⟨d1,q1,h1⟩:=ih2 h
  obtain⟨d2,q2,h2⟩:=ih1 h1
  exact⟨d2,q2.trans q1,h2⟩
theorem RL.length{R:Value->PyData->Prop}:∀{vs:List Value} {ds:List PyData},RL R vs ds->vs.length=ds.length
 | [],[],_=>rfl
 | v::vs,d::ds,h=>by rw[List.length_cons,List.length_cons,RL.length h.2]
 | [],_::_,h=>h.elim
 | _::_,[],h=>h.elim
theorem RL.at{R:Value->PyData->Prop}:∀{vs:List Value} {ds:List PyData} {i:Nat} {v:Value} {d:PyData},RL R vs ds->vs[i]?=some v->ds[i]?=some d->R v d
 | v::vs,d::ds,0,_,_,h,h1,h2=>by cases h1;cases h2;exact h.1
 | v::vs,d::ds,i+1,_,_,h,h1,h2=>RL.at h.2 (by simpa using h1) (by simpa using h2)
 | [],_,_,_,_,_,h1,_=>by simp at h1
 | _::_,[],_,_,_,h,_,_=>h.elim
theorem RL.els{Pv:Value->PyData->Prop}{w:World}{h:Heap}:∀{es:List (Int×Value)} {ds:List PyData},Els Pv w h es ds->RL (fun v d=>∃k,El Pv w h (k,v) d) (es.map (·.2)) ds
 | [],ds,x=>by rw[els_nil x];exact True.intro
 | e::es,ds,x=>by
  obtain⟨d,ds',rfl,h1,h2⟩:=els_cons x
  exact⟨⟨e.1,h1⟩,RL.els h2⟩
theorem Inv.drawn{X:Cx}{pins:List (Addr×Obj)}{σ:L2.St}{H:Hp}{s:Shared}(I:Inv X pins σ H s)(dr:Drawn):Inv X pins σ H {s with drawn:=dr}:=⟨I.ok,I.os,I.bare,I.base,I.loc,I.cell,I.free,I.freeC,I.pin,I.hok,I.len⟩
section
variable{X:Cx}{x:Str}{pos:Pos}
theorem pe_globR{a:Addr}(h:X.mg x=some (.ref a))(hg:Gl X x)(hd:(x==("__debug__" : Str))=false:=by decide):PE X (.Name x pos) (tC (.ref a)):=pe_glob hg h rfl hd
end
end L3
namespace K09
open PySem PyProof.Rows L2 L3
noncomputable def top(i:Nat):Stmt:=PySem.Challenge.pw_coverpieces_k09_puzzles_told.main.body.getD i (.Pass ⟨0,0,0,0⟩)
noncomputable abbrev sPw:Stmt:=top 1
noncomputable abbrev sPs:Stmt:=top 2
noncomputable abbrev sTch:Stmt:=top 17
noncomputable abbrev sFmd:Stmt:=top 18
noncomputable abbrev sPf:Stmt:=top 19
noncomputable abbrev sPsp:Stmt:=top 20
noncomputable abbrev sPh:Stmt:=top 21
noncomputable abbrev sTa:Stmt:=top 22
noncomputable abbrev sCell:Stmt:=top 35
noncomputable abbrev sState:Stmt:=top 36
noncomputable abbrev sNext:Stmt:=top 37
noncomputable abbrev sSigns:Stmt:=top 38
noncomputable abbrev sGrown:Stmt:=top 39
noncomputable abbrev sShift:Stmt:=top 40
noncomputable abbrev sForm:Stmt:=top 41
noncomputable abbrev sWhole:Stmt:=top 42
noncomputable abbrev sSpot:Stmt:=top 43
noncomputable abbrev sHangs:Stmt:=top 44
noncomputable abbrev sIsf:Stmt:=top 45
noncomputable abbrev sPsm:Stmt:=top 3
noncomputable abbrev sMode:Stmt:=top 6
noncomputable abbrev sFlo:Stmt:=top 12
noncomputable abbrev sFrow:Stmt:=top 13
noncomputable abbrev sFsg:Stmt:=top 14
noncomputable abbrev sKind:Stmt:=top 27
noncomputable abbrev sName:Stmt:=top 28
noncomputable abbrev sBnd:Stmt:=top 29
noncomputable abbrev sPuz:Stmt:=top 30
noncomputable abbrev sKinds:Stmt:=top 31
noncomputable abbrev sPairs:Stmt:=top 32
noncomputable abbrev sPair:Stmt:=top 33
noncomputable abbrev sFloor:Stmt:=top 46
noncomputable abbrev sLkind:Stmt:=top 47
noncomputable abbrev sLnames:Stmt:=top 48
noncomputable abbrev sLpairs:Stmt:=top 49
noncomputable abbrev sLpuz:Stmt:=top 50
noncomputable abbrev sLflo:Stmt:=top 51
noncomputable abbrev sLisk:Stmt:=top 52
noncomputable abbrev sLlet:Stmt:=top 53
noncomputable abbrev sLarep:Stmt:=top 54
noncomputable abbrev sLisp:Stmt:=top 55
noncomputable abbrev sLok:Stmt:=top 56
noncomputable abbrev sLop:Stmt:=top 57
noncomputable abbrev sSpoilt:Stmt:=top 58
noncomputable abbrev sLaw:Stmt:=top 59
noncomputable def blts:List Str:=["len","min","max","sorted","tuple","list","isinstance","bool","range","str","int","all","any","abs","set"]
section
variable{P:Program}{w:World}{K:PySem.W.Frag}{mg:Str->Option Value}{base:Heap}{f:Addr}{fd:FuncData}
theorem pw60:(0:Int)<10^(Int.toNat 60):=by decide
theorem pwM:(0:Int)<2305843009213693951:=by decide
noncomputable def spCell(K:PySem.W.Frag):Sp:=fun vs H Q _=>∃(a:Addr) (ns:List Int) (k:Int),vs=[.ref a,.int k]/\SqL K H a (ns.map V.int)/\0<=k/\∀c:Int,Q (.int c) H
theorem scCell:FnScope ["_law_script","_law_k"] ["_law_script","_law_k"] (defScope sCell):=⟨rfl,rfl,rfl,by decide +kernel,rfl,by decide +kernel,by decide +kernel⟩
theorem ok_cell(B:∀x∈blts,mg x=none)(F:Fun K "_law_cell_at" "_law_cell_at" sCell f fd):FnOk P w K mg base CX0 1 f fd ["_law_script","_law_k"] (spCell K):=by
 refine F.ok (k:=0) scCell (fun vs H Q E h=>?_) (fun cdv A outer s H vs Q E hr h=>?_)
 .obtain⟨a,ns,k,rfl,_⟩:=h
  rfl
 obtain⟨a,ns,k,rfl,ha,hk,q⟩:=h
 refine⟨_,(pss_cons (ps_if (pt_cmpR op_lt (pv 1) (pe_cB call_len_seq rfl (B "len" (by decide)) PySem.boot_len (pa_c (pv 0) pa_nil)) (nomark _)) (pss_one (ps_ret (pe_op op_mod (pe_ix ix_list (pv 0) (pv 1) (fun _ _=>rfl)) (pe_op op_pow pe_int pe_int)))) pss_nil)
  (pss_one (ps_ret pe_int))),?_⟩
 refine⟨_,rfl,_,rfl,a,_,rfl,.inl ha,_,_,rfl,rfl,_,rfl,?_⟩
 refine ite2 (fun c=>?_) (fun c=>?_)
 .have c':k<(((ns.map V.int).length:Nat):Int):=of_decide_eq_true c
  rw[List.length_map]at c'
  obtain⟨j,rfl⟩:=Int.eq_ofNat_of_zero_le hk
  have hj:j<ns.length:=by omega
  have hv:atI (ns.map V.int) (j:Int)=some (.int ns[j]):=atI_nat (by rw[List.getElem?_map,List.getElem?_eq_getElem hj];rfl)
  refine⟨_,rfl,_,rfl,a,_,_,_,rfl,rfl,ha,hv,_,_,rfl,rfl,⟨by decide,by decide,by decide⟩,_,_,rfl,rfl,pw60,q _⟩
 .exact q _
noncomputable def spState:Sp:=fun vs H Q _=>∃c k:Int,vs=[.int c,.int k]/\∀p n,H p=none->Q (.ref p) (upd H p (.lst [.int n]))
theorem scState:FnScope ["_law_cell","_law_k"] ["_law_cell","_law_k"] (defScope sState):=⟨rfl,rfl,rfl,by decide +kernel,rfl,by decide +kernel,by decide +kernel⟩
theorem ok_state(F:Fun K "_law_state" "_law_state" sState f fd):FnOk P w K mg base CX0 1 f fd ["_law_cell","_law_k"] spState:=by
 refine F.ok (k:=0) scState (fun vs H Q E h=>?_) (fun cdv A outer s H vs Q E hr h=>?_)
 .obtain⟨c,k,rfl,_⟩:=h
  rfl
 obtain⟨c,k,rfl,q⟩:=h
 refine⟨_,(pss_one (ps_ret (pe_lst (pa_c (pe_op op_mod (pe_op op_add (pe_op op_add (pe_op op_mul (pe_op op_mod (pv 0) (pe_op op_pow pe_int pe_int)) pe_int) (pe_op op_mul pe_int (pv 1))) pe_int) pe_int) pa_nil)))),?_⟩
 refine⟨_,rfl,_,_,rfl,rfl,⟨by decide,by decide,by decide⟩,_,_,rfl,rfl,pw60,_,_,rfl,rfl,.inr ⟨by decide,by decide⟩,_,rfl,_,_,rfl,rfl,.inl ⟨by decide,by decide⟩,_,_,rfl,rfl,_,_,rfl,rfl,_,_,rfl,rfl,pwM,
  (by show 1<=sizeLine;decide),fun p hp=>q p _ hp⟩
noncomputable def StL(xs:List V):Prop:=∃n:Int,xs=[.int n]
noncomputable def spNext:Sp:=fun vs H Q _=>∃(st:Addr) (n:List V) (m:Int),vs=[.ref st,.int m]/\H st=some (.lst n)/\StL n/\0<m/\m<=1000/\∀(n':List V) (i:Int),StL n'->0<=i->i<m->Q (.int i) (upd H st (.lst n'))
theorem scNext:FnScope ["_law_state_here","_law_many"] ["_law_state_here","_law_many"] (defScope sNext):=⟨rfl,rfl,rfl,by decide +kernel,rfl,by decide +kernel,by decide +kernel⟩
theorem ok_next(F:Fun K "_law_next" "_law_next" sNext f fd):FnOk P w K mg base CX0 1 f fd ["_law_state_here","_law_many"] spNext:=by
 refine F.ok (k:=0) scNext (fun vs H Q E h=>?_) (fun cdv A outer s H vs Q E hr h=>?_)
 .obtain⟨st,n,m,rfl,_⟩:=h
  rfl
 obtain⟨st,sx,m,rfl,hst,⟨n,rfl⟩,hm,hm1,q⟩:=h
 refine⟨_,(pss_cons (ps_asg (pe_op op_mod (pe_op op_add (pe_op op_mul (pe_ix ix_list (pv 0) pe_int (fun _ _=>rfl)) pe_int) pe_int) pe_int) (pg_sub (pv 0) pe_int set_list))
  (pss_one (ps_ret (pe_op op_mod (pe_op op_fdiv (pe_ix ix_list (pv 0) pe_int (fun _ _=>rfl)) pe_int) (pv 1))))),?_⟩
 refine⟨_,rfl,st,_,_,_,rfl,rfl,SqL.of hst,rfl,_,_,rfl,rfl,.inr ⟨by decide,by decide⟩,_,_,rfl,rfl,_,_,rfl,rfl,pwM,?_⟩
 refine⟨_,rfl,st,_,_,0,rfl,rfl,hst,rfl,?_⟩
 refine⟨_,rfl,st,_,_,_,rfl,rfl,SqL.of upd_same,rfl,_,_,rfl,rfl,⟨by decide,by decide⟩,_,rfl,_,_,rfl,rfl,hm,?_⟩
 exact q _ _ ⟨_,rfl⟩ (Int.emod_nonneg _ (by omega)) (Int.emod_lt_of_pos _ hm)
noncomputable abbrev FnNext(P:Program)(w:World)(K:PySem.W.Frag)(mg:Str->Option Value)(base:Heap):Prop:=Fn P w K mg base "_law_next" 1 ["_law_state_here","_law_many"] spNext
noncomputable def SgOk(x:Str):Prop:=0<x.length/\x.length<=26/\∀c∈x.cps.toList,65<=c/\c<=90
noncomputable def spSigns:Sp:=fun vs H Q _=>∃(st:Addr) (n:List V),vs=[.ref st]/\H st=some (.lst n)/\StL n/\∀(x:Str) (H':Hp) (n':List V),SgOk x->Ex [st] H H'->H' st=some (.lst n')->StL n'->Q (.str x) H'
theorem scSigns:FnScope ["_law_state_here"] ["_law_state_here"] (defScope sSigns):=⟨rfl,rfl,rfl,by decide +kernel,rfl,by decide +kernel,by decide +kernel⟩
theorem pick{α:Type}{xs:List α}{i:Int}(h0:0<=i)(h1:i<xs.length):∃x,atI xs i=some x/\x∈xs:=by
 obtain⟨j,rfl⟩:=Int.eq_ofNat_of_zero_le h0
 have hj:j<xs.length:=by omega
 exact⟨xs[j],atI_nat (List.getElem?_eq_getElem hj),List.getElem_mem hj⟩
theorem sgL{z:Str}(h:0<z.length/\z.length<=26/\z.cps.toList.all (fun c=>decide (65<=c)&&decide (c<=90))=true):SgOk z:=⟨h.1,h.2.1,fun c hc=>by simpa using List.all_eq_true.mp h.2.2 c hc⟩
theorem ok_signs(Fnext:FnNext P w K mg base)(F:Fun K "_law_signs" "_law_signs" sSigns f fd):FnOk P w K mg base CX0 2 f fd ["_law_state_here"] spSigns:=by
 refine F.ok (k:=1) scSigns (fun vs H Q E h=>?_) (fun cdv A outer s H vs Q E hr h=>?_)
 .obtain⟨st,n,rfl,_⟩:=h
  rfl
 obtain⟨st,n,rfl,hst,hn,q⟩:=h
 refine⟨_,(pss_one (ps_ret (pe_ix ix_list (pe_lst (pa_c pe_str (pa_c pe_str (pa_c pe_str (pa_c pe_str pa_nil))))) (pe_fn Fnext hr (by decide) rfl (pa_c (pv 0) (pa_c pe_int pa_nil))) (fun _ _=>rfl)))),?_⟩
 refine⟨(by show 4<=sizeLine;decide),fun p hp=>?_⟩
 have hne:p≠st:=fun e=>by rw[e,hst]at hp;cases hp
 refine⟨_,rfl,st,n,4,rfl,by rw[upd_ne (Ne.symm hne)];exact hst,hn,by decide,by decide,fun n' i hn' h0 h4=>?_⟩
 obtain⟨x,hx,hm⟩:=pick (α:=V) (xs:=[V.str "ABCDEFGHIJKLMNOPQRSTUVWXYZ",V.str "AB",V.str "A",V.str "QZ"]) h0 h4
 have hs:∃z,x=.str z/\SgOk z:=by
  simp only[List.mem_cons,List.not_mem_nil,or_false]at hm
  rcases hm with rfl|rfl|rfl|rfl<;>exact⟨_,rfl,sgL (by decide +kernel)⟩
 obtain⟨z,rfl,hz⟩:=hs
 refine⟨p,_,i,_,rfl,rfl,SqL.of (by rw[upd_ne hne];exact upd_same),hx,?_⟩
 exact q z _ n' hz ((Ex.fresh hp).trans (Ex.upd (by simp))) upd_same hn'
noncomputable def Bd(m:Int)(d:PyData):Prop:=-m<=row1 d/\row1 d<=m/\-m<=col1 d/\col1 d<=m
noncomputable def cl(d:PyData):Cl:=(row1 d,col1 d)
theorem cells_at{H:Hp}{cs:List PyData}{xs:List V}{i:Nat}{v:V}(h:Cells cs)(r:RepAll H cs xs)(e:xs[i]?=some v):∃(a:Addr) (p q:Int),v=.ref a/\H a=some (.tup [.int p,.int q])/\cs[i]?=some (.tuple [.int p,.int q]):=by
 obtain⟨d,e1,e2⟩:=r.at e
 obtain⟨p,q,rfl⟩:=h d (List.mem_of_getElem? e1)
 obtain⟨a,e3,e4⟩:=rep_cell e2
 exact⟨a,p,q,e3,e4,e1⟩
noncomputable def spGrown:Sp:=fun vs H Q _=>∃(st:Addr) (n:List V) (m:Int),vs=[.ref st,.int m]/\H st=some (.lst n)/\StL n/\0<m/\m<=100/\
 ∀(r:Addr) (H':Hp) (n':List V) (xs:List V) (cs:List PyData),H r=none->Ex [st] H H'->H' st=some (.lst n')->StL n'->H' r=some (.lst xs)->RepAll H' cs xs->Cells cs->(∀d∈cs,Bd 100 d)->0<cs.length->(cs.length:Int)<=m->Q (.ref r) H'
theorem scGrown:FnScope ["_law_state_here","_law_most","_law_cells","_law_k","_law_row","_law_column","_law_down","_law_right"] ["_law_state_here","_law_most"] (defScope sGrown):=⟨rfl,rfl,rfl,by decide +kernel,rfl,by decide +kernel,by decide +kernel⟩
theorem ok_grown(B:∀x∈blts,mg x=none)(Fnext:FnNext P w K mg base)(F:Fun K "_law_grown" "_law_grown" sGrown f fd):FnOk P w K mg base CX0 2 f fd ["_law_state_here","_law_most"] spGrown:=by
 refine F.ok (k:=1) scGrown (fun vs H Q E h=>?_) (fun cdv A outer s H vs Q E hr h=>?_)
 .obtain⟨st,n,m,rfl,_⟩:=h
  rfl
 obtain⟨st,n,m,rfl,hst,hn0,hm0,hm1,q⟩:=h
 have hu:=hr.units
 refine⟨_,(pss_cons (ps_set (i:=2) scGrown.nd rfl (Or.inl rfl) (pe_lst (pa_c (pe_tup (pa_c pe_int (pa_c pe_int pa_nil))) pa_nil)))
  (pss_cons (ps_for PassesOwn.never rfl (pi_r1 rfl (B "range" (by decide)) (pa_c (pe_fn Fnext hr (by decide) rfl (pa_c (pv 0) (pa_c (pv 1) pa_nil))) pa_nil)) (pg_name (i:=3) scGrown.nd rfl (Or.inl rfl)) (pss_cons (ps_asg (pe_ix ix_list (pv 2) (pe_fn Fnext hr (by decide) rfl (pa_c (pv 0) (pa_c (pe_cB call_len_seq rfl (B "len" (by decide)) PySem.boot_len (pa_c (pv 2) pa_nil)) pa_nil))) (fun _ _=>rfl)) (pg_tup (n:=2) rfl (pgs_cons (pg_name (i:=4) scGrown.nd rfl (Or.inl rfl)) (pgs_cons (pg_name (i:=5) scGrown.nd rfl (Or.inl rfl)) pgs_nil))))
  (pss_cons (ps_asg (pe_ix ix_list (pe_lst (pa_c (pe_tup (pa_c pe_int (pa_c pe_int pa_nil))) (pa_c (pe_tup (pa_c pe_int (pa_c pe_int pa_nil))) (pa_c (pe_tup (pa_c pe_int (pa_c (pe_un un_neg pe_int) pa_nil))) (pa_c (pe_tup (pa_c (pe_un un_neg pe_int) (pa_c pe_int pa_nil))) pa_nil))))) (pe_fn Fnext hr (by decide) rfl (pa_c (pv 0) (pa_c pe_int pa_nil))) (fun _ _=>rfl)) (pg_tup (n:=2) rfl (pgs_cons (pg_name (i:=6) scGrown.nd rfl (Or.inl rfl)) (pgs_cons (pg_name (i:=7) scGrown.nd rfl (Or.inl rfl)) pgs_nil))))
  (pss_one (ps_if (pt_cmpR (op_notInD hu) (pe_tup (pa_c (pe_op op_add (pv 4) (pv 6)) (pa_c (pe_op op_add (pv 5) (pv 7)) pa_nil))) (pv 2) rfl) (pss_one (ps_expr (pe_bm PySem.F.plainAttrs_list PySem.F.slot_list_append PySem.F.type_list_append mt_append (pv 2) (pa_c (pe_tup (pa_c (pe_op op_add (pv 4) (pv 6)) (pa_c (pe_op op_add (pv 5) (pv 7)) pa_nil))) pa_nil)))) pss_nil)))))
  (pss_one (ps_ret (pv 2))))),?_⟩
 refine⟨(by show 2<=sizeLine;decide),fun p1 hp1=>⟨(by show 1<=sizeLine;decide),fun p2 hp2=>?_⟩⟩
 obtain⟨hp21,hp2H⟩:=upd_none hp2
 have n1:st≠p1:=ne_of_none hst hp1
 have n2:st≠p2:=ne_of_none hst hp2H
 have hst2:upd (upd H p1 (.tup [.int 0,.int 0])) p2 (.lst [.ref p1]) st=some (.lst n):=by rw[upd_ne n2,upd_ne n1];exact hst
 refine⟨_,rfl,_,rfl,st,n,m,rfl,hst2,hn0,hm0,by omega,fun n' j hn1 hj0 hj1=>⟨j,rfl,by omega,by omega,?_⟩⟩
 refine for_range (n:=j.toNat) (lo:=0) (fun i σ' H'=>∃(x3 x4 x5 x6 x7:Option V) (n':List V) (xs:List V) (cs:List PyData),σ'=[some (.ref st),some (.int m),some (.ref p2),x3,x4,x5,x6,x7]/\Ex [st] H H'/\H' st=some (.lst n')/\StL n'/\H' p2=some (.lst xs)/\RepAll H' cs xs/\Cells cs/\(∀d∈cs,Bd i d)/\
  0<cs.length/\cs.length<=i+1) ?_ (fun i σ' H' hi h=>?_) (fun σ' H' h=>?_)
 .have e0:Ex [st] H (upd (upd H p1 (.tup [.int 0,.int 0])) p2 (.lst [.ref p1])):=(Ex.fresh hp1).trans (Ex.fresh hp2)
  have c0:upd (upd (upd H p1 (.tup [.int 0,.int 0])) p2 (.lst [.ref p1])) st (.lst n') p1=some (.tup [.int 0,.int 0]):=by
   rw[upd_ne (Ne.symm n1),upd_ne (Ne.symm hp21)];exact upd_same
  refine⟨none,none,none,none,none,n',[.ref p1],[.tuple [.int 0,.int 0]],rfl,e0.trans (Ex.upd (by simp)),upd_same,hn1,by rw[upd_ne (Ne.symm n2)];exact upd_same,⟨_,_,rfl,cell_rep c0,rfl⟩,fun d hd=>?_,fun d hd=>?_,by simp,by simp⟩
  .rw[List.mem_singleton.mp hd]
   exact⟨0,0,rfl⟩
  .rw[List.mem_singleton.mp hd]
   unfold Bd
   show -((0:Nat):Int)<=0/\(0:Int)<=((0:Nat):Int)/\-((0:Nat):Int)<=0/\(0:Int)<=((0:Nat):Int)
   omega
 .obtain⟨x3,x4,x5,x6,x7,n1',xs,cs,rfl,hex,hs',hn1',hp,hrep,hcs,hbd,hpos,hlen⟩:=h
  have hxl:=hrep.length
  refine⟨_,rfl,_,rfl,_,rfl,p2,xs,rfl,.inl (SqL.of hp),st,n1',_,rfl,hs',hn1',by omega,by omega,fun n2' i2 hn2' h20 h21=>?_⟩
  have hi2:i2.toNat<xs.length:=by omega
  have e2:i2=((i2.toNat:Nat):Int):=by omega
  obtain⟨b,r,c,hv,hb,hdat⟩:=cells_at hcs hrep (List.getElem?_eq_getElem hi2)
  have hat:atI xs i2=some (.ref b):=by rw[e2];exact atI_nat (by rw[List.getElem?_eq_getElem hi2,hv])
  have nb:b≠st:=ne_of hb hs' (by intro z;cases z)
  refine⟨p2,xs,i2,_,rfl,rfl,SqL.of (by rw[upd_ne (Ne.symm n2)];exact hp),hat,b,_,rfl,SqT.of (by rw[upd_ne nb];exact hb),rfl,_,_,rfl,_,_,rfl,rfl,?_⟩
  have exA:Ex [st] H (upd H' st (.lst n2')):=hex.trans (Ex.upd (by simp))
  have stA:upd H' st (.lst n2') st=some (.lst n2'):=upd_same
  have pA:upd H' st (.lst n2') p2=some (.lst xs):=by rw[upd_ne (Ne.symm n2)];exact hp
  have rA:RepAll (upd H' st (.lst n2')) cs xs:=hrep.tk (Tk.lst hs') hcs.imm
  generalize upd H' st (.lst n2')=HA at *
  refine⟨(by show 2<=sizeLine;decide),fun q1 hq1=>⟨(by show 2<=sizeLine;decide),fun q2 hq2=>?_⟩⟩
  refine⟨_,rfl,(by show 2<=sizeLine;decide),fun q3 hq3=>?_⟩
  refine⟨_,rfl,(by show 2<=sizeLine;decide),fun q4 hq4=>⟨(by show 4<=sizeLine;decide),fun q5 hq5=>?_⟩⟩
  have a2:=upd_none hq2
  have a3:=upd_none hq3
  have b3':=upd_none a3.2
  have a4:=upd_none hq4
  have b4:=upd_none a4.2
  have c4:=upd_none b4.2
  have a5:=upd_none hq5
  have b5:=upd_none a5.2
  have c5:=upd_none b5.2
  have d5:=upd_none c5.2
  have same:Same HA (upd (upd (upd (upd (upd HA q1 (.tup [.int 0,.int 1])) q2 (.tup [.int 1,.int 0])) q3 (.tup [.int 0,.int (-1)])) q4 (.tup [.int (-1),.int 0])) q5 (.lst [.ref q1,.ref q2,.ref q3,.ref q4])):=
   ((((Same.fresh _ hq1).trans (Same.fresh _ hq2)).trans (Same.fresh _ hq3)).trans (Same.fresh _ hq4)).trans (Same.fresh _ hq5)
  have five:∀v∈[V.ref q1,.ref q2,.ref q3,.ref q4],∃(b:Addr) (d e:Int),((d=0/\(e=1\/e = -1))\/(e=0/\(d=1\/d = -1)))/\v=.ref b/\b≠st/\(upd (upd (upd (upd (upd HA q1 (.tup [.int 0,.int 1])) q2 (.tup [.int 1,.int 0])) q3 (.tup [.int 0,.int (-1)])) q4 (.tup [.int (-1),.int 0])) q5 (.lst [.ref q1,.ref q2,.ref q3,.ref q4])) b=some (.tup [.int d,.int e]):=by
   intro v hv
   have m1:q1≠st:=fun z=>by rw[z,stA]at hq1;cases hq1
   have m2:q2≠st:=fun z=>by rw[z,stA]at a2;cases a2.2
   have m3:q3≠st:=fun z=>by rw[z,stA]at b3';cases b3'.2
   have m4:q4≠st:=fun z=>by rw[z,stA]at c4;cases c4.2
   rcases List.mem_cons.mp hv with rfl|hv
   .exact⟨q1,0,1,by omega,rfl,m1,by rw[upd_ne (Ne.symm d5.1),upd_ne (Ne.symm c4.1),upd_ne (Ne.symm b3'.1),upd_ne (Ne.symm a2.1)];exact upd_same⟩
   rcases List.mem_cons.mp hv with rfl|hv
   .exact⟨q2,1,0,by omega,rfl,m2,by rw[upd_ne (Ne.symm c5.1),upd_ne (Ne.symm b4.1),upd_ne (Ne.symm a3.1)];exact upd_same⟩
   rcases List.mem_cons.mp hv with rfl|hv
   .exact⟨q3,0,-1,by omega,rfl,m3,by rw[upd_ne (Ne.symm b5.1),upd_ne (Ne.symm a4.1)];exact upd_same⟩
   rcases List.mem_cons.mp hv with rfl|hv
   .exact⟨q4,-1,0,by omega,rfl,m4,by rw[upd_ne (Ne.symm a5.1)];exact upd_same⟩
   cases hv
  have l5:(upd (upd (upd (upd (upd HA q1 (.tup [.int 0,.int 1])) q2 (.tup [.int 1,.int 0])) q3 (.tup [.int 0,.int (-1)])) q4 (.tup [.int (-1),.int 0])) q5 (.lst [.ref q1,.ref q2,.ref q3,.ref q4])) q5=some (.lst [.ref q1,.ref q2,.ref q3,.ref q4]):=upd_same
  have exB:=exA.trans (Ex.of_same same)
  have stB:=same _ _ stA
  have pB:=same _ _ pA
  have rB:=rA.same same
  have n5:q5≠st:=fun z=>by rw[z,stA]at d5;cases d5.2
  generalize (upd (upd (upd (upd (upd HA q1 (.tup [.int 0,.int 1])) q2 (.tup [.int 1,.int 0])) q3 (.tup [.int 0,.int (-1)])) q4 (.tup [.int (-1),.int 0])) q5 (.lst [.ref q1,.ref q2,.ref q3,.ref q4]))=HB at *
  refine⟨_,rfl,st,n2',4,rfl,stB,hn2',by decide,by decide,fun n3 i3 hn3 h30 h31=>?_⟩
  obtain⟨v,hat3,hm⟩:=pick (α:=V) (xs:=[V.ref q1,.ref q2,.ref q3,.ref q4]) h30 h31
  obtain⟨b3,d,e,hde,rfl,m3,hb3⟩:=five v hm
  have exC:Ex [st] H (upd HB st (.lst n3)):=exB.trans (Ex.upd (by simp))
  have stC:upd HB st (.lst n3) st=some (.lst n3):=upd_same
  have pC:upd HB st (.lst n3) p2=some (.lst xs):=by rw[upd_ne (Ne.symm n2)];exact pB
  have rC:RepAll (upd HB st (.lst n3)) cs xs:=rB.tk (Tk.lst stB) hcs.imm
  have bC:upd HB st (.lst n3) b3=some (.tup [.int d,.int e]):=by rw[upd_ne m3];exact hb3
  have l5C:upd HB st (.lst n3) q5=some (.lst [.ref q1,.ref q2,.ref q3,.ref q4]):=by rw[upd_ne n5];exact l5
  generalize upd HB st (.lst n3)=HC at *
  refine⟨q5,_,i3,_,rfl,rfl,SqL.of l5C,hat3,b3,_,rfl,SqT.of bC,rfl,_,_,rfl,_,_,rfl,rfl,?_⟩
  refine⟨_,rfl,_,rfl,_,_,rfl,rfl,_,rfl,_,rfl,_,_,rfl,rfl,(by show 2<=sizeLine;decide),fun t1 ht1=>?_⟩
  have t1s:Same HC (upd HC t1 (.tup [.int (r+d),.int (c+e)])):=Same.fresh _ ht1
  refine⟨_,rfl,.tuple [.int (r+d),.int (c+e)],p2,xs,cs,cell_rep upd_same,rfl,.inl (t1s _ _ pC),rC.same t1s,(by simp[PyData.depth,PyData.depthAll]),_,rfl,?_⟩
  have exD:=exC.trans (Ex.of_same t1s)
  have stD:=t1s _ _ stC
  have pD:=t1s _ _ pC
  have rD:=rC.same t1s
  generalize upd HC t1 (.tup [.int (r+d),.int (c+e)])=HD at *
  refine ite2 (fun hnew=>?_) (fun _=>?_)
  .refine⟨_,rfl,.inl ⟨rfl,_,SqL.of pD⟩,_,rfl,_,rfl,_,_,rfl,rfl,_,rfl,_,rfl,_,_,rfl,rfl,(by show 2<=sizeLine;decide),fun t2 ht2=>?_⟩
   have t2s:Same HD (upd HD t2 (.tup [.int (r+d),.int (c+e)])):=Same.fresh _ ht2
   have t2c:upd HD t2 (.tup [.int (r+d),.int (c+e)]) t2=some (.tup [.int (r+d),.int (c+e)]):=upd_same
   have exE:=exD.trans (Ex.of_same t2s)
   have stE:=t2s _ _ stD
   have pE:=t2s _ _ pD
   have rE:=rD.same t2s
   generalize upd HD t2 (.tup [.int (r+d),.int (c+e)])=HE at *
   refine⟨p2,xs,.ref t2,rfl,rfl,pE,small1000 (by omega),?_⟩
   have hcs':Cells (cs++[.tuple [.int (r+d),.int (c+e)]]):=fun z hz=>by
    rcases List.mem_append.mp hz with h|h
    .exact hcs z h
    .rw[List.mem_singleton.mp h];exact⟨_,_,rfl⟩
   refine⟨_,_,_,_,_,n3,xs++[.ref t2],cs++[.tuple [.int (r+d),.int (c+e)]],rfl,?_,by rw[upd_ne n2];exact stE,hn3,upd_same,((rE.snoc (cell_rep t2c)).tk (Tk.lst pE) hcs'.imm),hcs',?_,by simp,by simp;omega⟩
   .exact exE.new hp2H
   .intro z hz
    have hrc:Bd i (.tuple [.int r,.int c]):=hbd _ (List.mem_of_getElem? hdat)
    unfold Bd at *
    rcases List.mem_append.mp hz with h|h
    .have:=hbd z h
     omega
    .rw[List.mem_singleton.mp h]
     have hrc':-(i:Int)<=r/\r<=i/\-(i:Int)<=c/\c<=i:=hrc
     show -((i+1:Nat):Int)<=r+d/\r+d<=((i+1:Nat):Int)/\-((i+1:Nat):Int)<=c+e/\c+e<=((i+1:Nat):Int)
     omega
  .exact⟨_,_,_,_,_,n3,xs,cs,rfl,exD,stD,hn3,pD,rD,hcs,(fun z hz=>by have:=hbd z hz;unfold Bd at *;omega),hpos,by omega⟩
 .obtain⟨x3,x4,x5,x6,x7,n1',xs,cs,rfl,hex,hs',hn1',hp,hrep,hcs,hbd,hpos,hlen⟩:=h
  exact⟨_,rfl,q p2 H' n1' xs cs hp2H hex hs' hn1' hp hrep hcs (fun z hz=>by have:=hbd z hz;unfold Bd at *;omega) hpos (by omega)⟩
end
noncomputable def SgD(d:PyData):Prop:=∃(r c:Int) (k:Nat),d=.tuple [.int r,.int c,.str ⟨#[k]⟩]/\65<=k/\k<=90
theorem sg_spots{ds:List PyData}(h:∀d∈ds,SgD d):Spots ds:=fun d hd=>by
 obtain⟨r,c,k,e,_⟩:=h d hd
 exact⟨r,c,_,e⟩
theorem sg_shift{d:PyData}(a b:Int)(h:SgD d):SgD (shift1 a b d):=by
 obtain⟨r,c,k,rfl,h1,h2⟩:=h
 exact⟨r-a,c-b,k,rfl,h1,h2⟩
section
variable{P:Program}{w:World}{K:PySem.W.Frag}{mg:Str->Option Value}{base:Heap}{f:Addr}{fd:FuncData}
noncomputable def spForm:Sp:=fun vs H Q _=>∃a xs ds,vs=[.ref a]/\H a=some (.lst xs)/\RepAll H ds xs/\Spots ds/\0<ds.length/\ds.length<64/\∀r H',Same H H'->Rep H' (.tuple (sortD (shiftD ds))) (.ref r)->Q (.ref r) H'
theorem read_sorted{K:PySem.W.Frag}{a:Addr}{xs:List V}{ds:List PyData}{σ:L2.St}{H H0:Hp}{Q:VK}{t l:Int}(hσ:σ[0]?=some (some (.ref a)))(h1:σ[1]?=some (some (.int t)))(h2:σ[2]?=some (some (.int l)))
  (ha:H a=some (.lst xs)) (hr:RepAll H ds xs) (hs:Spots ds) (hl:ds.length<64) (ht:t=minI (ds.map row1)) (hll:l=minI (ds.map col1)) (h0:Same H0 H)
  (q:∀r H',Same H0 H'->Rep H' (.tuple (sortD (shiftD ds))) (.ref r)->Q (.ref r) H') :
  tComp (iList K (tVar 0)) [none,none,none,some 1,some 2] (gTup K 3 (gCons (gName 0) (gCons (gName 1) (gCons (gName 2) gNil)))) tYes
   (tTup (tCons (tOp (rI0 fun i j=>.int (i-j)) (tVar 0) (tVar 3)) (tCons (tOp (rI0 fun i j=>.int (i-j)) (tVar 1) (tVar 4)) (tCons (tVar 2) tNil)))) σ H fun x H1=>∃p xs ds ks,[x]=[.ref p]/\H1 p=some (.lst xs)/\RepAll H1 ds xs/\Rows ks ds/\ds.length<64/\
  ∀l ys,H1 l=none->RepAll (upd H1 l (.lst ys)) (sortD ds) ys->∃p ys',[V.ref l]=[.ref p]/\((SqL K (upd H1 l (.lst ys)) p ys'/\∀l',upd H1 l (.lst ys) l'=none->Q (.ref l') (upd (upd H1 l (.lst ys)) l' (.tup ys')))\/(SqT K (upd H1 l (.lst ys)) p ys'/\Q (.ref p) (upd H1 l (.lst ys)))):=by
 refine read_shift hσ h1 h2 ha hr hs hl fun D ys H' hsame hD hrep=>?_
 refine⟨D,ys,_,[true,false],rfl,hD,hrep,shift_rows hs t l,by rw[List.length_map];exact hl,fun l1 zs hl1 hz=>?_⟩
 refine⟨l1,zs,rfl,.inl ⟨SqL.of upd_same,fun l2 hl2=>?_⟩⟩
 have s1:Same H' (upd H' l1 (.lst zs)):=Same.fresh _ hl1
 have s2:Same (upd H' l1 (.lst zs)) (upd (upd H' l1 (.lst zs)) l2 (.tup zs)):=Same.fresh _ hl2
 refine q l2 _ (((h0.trans hsame).trans s1).trans s2) ⟨l2,zs,rfl,upd_same,?_⟩
 have e:ds.map (shift1 t l)=shiftD ds:=by unfold shiftD;rw[ht,hll]
 rw[e]at hz
 exact hz.same s2
theorem scShift:FnScope ["_law_spots","_law_top","_law_left"] ["_law_spots"] (defScope sShift):=⟨rfl,rfl,rfl,by decide +kernel,rfl,by decide +kernel,by decide +kernel⟩
theorem ok_shift(B:∀x∈blts,mg x=none)(F:Fun K "_law_shifted" "_law_shifted" sShift f fd):FnOk P w K mg base CX0 1 f fd ["_law_spots"] spForm:=by
 refine F.ok (k:=0) scShift (fun vs H Q E h=>?_) (fun cdv A outer s H vs Q E hr h=>?_)
 .obtain⟨a,xs,ds,rfl,_⟩:=h
  rfl
 obtain⟨a,xs,ds,rfl,ha,hrep,hs,hpos,h64,q⟩:=h
 refine⟨_,(pss_cons (ps_set (i:=1) scShift.nd rfl (Or.inr rfl) (pe_cB (call_minL rfl) rfl (B "min" (by decide)) boot_min (pa_c (pe_comp ["_law_spot"] [none] rfl rfl (by decide +kernel) (by decide +kernel) rfl rfl (pi_list (pv 0)) (fun _=>(pg_name (i:=0) (show(["_law_spot"]:List PySem.Str).Nodup by decide +kernel) rfl (Or.inl rfl))) (fun _=>pts_nil) (fun _=>(pe_ix ix_tupC (pv 0) pe_int (fun _ _=>rfl)))) pa_nil)))
  (pss_cons (ps_set (i:=2) scShift.nd rfl (Or.inr rfl) (pe_cB (call_minL rfl) rfl (B "min" (by decide)) boot_min (pa_c (pe_comp ["_law_spot"] [none] rfl rfl (by decide +kernel) (by decide +kernel) rfl rfl (pi_list (pv 0)) (fun _=>(pg_name (i:=0) (show(["_law_spot"]:List PySem.Str).Nodup by decide +kernel) rfl (Or.inl rfl))) (fun _=>pts_nil) (fun _=>(pe_ix ix_tupC (pv 0) pe_int (fun _ _=>rfl)))) pa_nil)))
  (pss_one (ps_ret (pe_cT call_tuple_of rfl (B "tuple" (by decide)) boot_tuple (pa_c (pe_cB call_sortedD rfl (B "sorted" (by decide)) boot_sorted (pa_c (pe_comp ["_law_row","_law_column","_law_sign","_law_top","_law_left"] [none,none,none,some 1,some 2] rfl rfl (by decide +kernel) (by decide +kernel) rfl rfl (pi_list (pv 0)) (fun _=>(pg_tupC (n:=3) rfl (pgs_cons (pg_name (i:=0) (show(["_law_row","_law_column","_law_sign","_law_top","_law_left"]:List PySem.Str).Nodup by decide +kernel) rfl (Or.inl rfl)) (pgs_cons (pg_name (i:=1) (show(["_law_row","_law_column","_law_sign","_law_top","_law_left"]:List PySem.Str).Nodup by decide +kernel) rfl (Or.inl rfl)) (pgs_cons (pg_name (i:=2) (show(["_law_row","_law_column","_law_sign","_law_top","_law_left"]:List PySem.Str).Nodup by decide +kernel) rfl (Or.inl rfl)) pgs_nil))))) (fun _=>pts_nil) (fun _=>(pe_tup (pa_c (pe_op op_sub (pv 0) (pv 3)) (pa_c (pe_op op_sub (pv 1) (pv 4)) (pa_c (pv 2) pa_nil)))))) pa_nil)) pa_nil)))))),?_⟩
 refine read_proj 0 row1 row_at rfl ha hrep hs h64 fun D1 H1 s1 hD1=>?_
 refine⟨D1,_,rfl,hD1,by rw[List.length_map];exact hpos,fun M1 m1 m1'=>?_⟩
 refine read_proj 1 col1 col_at rfl (s1 _ _ ha) (hrep.same s1) hs h64 fun D2 H2 s2 hD2=>?_
 refine⟨D2,_,rfl,hD2,by rw[List.length_map];exact hpos,fun M2 m2 m2'=>?_⟩
 exact read_sorted rfl rfl rfl ((s1.trans s2) _ _ ha) (hrep.same (s1.trans s2)) hs h64 (minI_eq m1 m1') (minI_eq m2 m2') (s1.trans s2) q
noncomputable def spForm2:Sp:=fun vs H Q _=>∃(st:Addr) (n:List V),vs=[.ref st,.int 6]/\H st=some (.lst n)/\StL n/\∀(r:Addr) (H':Hp) (n':List V) (xs:List V) (ds:List PyData),Ex [st] H H'->H' st=some (.lst n')->StL n'->H' r=some (.tup xs)->RepAll H' ds xs->(∀d∈ds,SgD d/\Bd 1000 d)->0<ds.length->ds.length<=6->Q (.ref r) H'
theorem scForm:FnScope ["_law_state_here","_law_most","_law_signs_here","_law_spots","_law_row","_law_column"] ["_law_state_here","_law_most"] (defScope sForm):=⟨rfl,rfl,rfl,by decide +kernel,rfl,by decide +kernel,by decide +kernel⟩
theorem sg_line{x:Str}(h:SgOk x):x.length<=sizeLine:=Nat.le_of_lt (small1000 (by have:=h.2.1;omega))
theorem ok_form(B:∀x∈blts,mg x=none)(Fnext:FnNext P w K mg base)(Fsigns:Fn P w K mg base "_law_signs" 2 ["_law_state_here"] spSigns)(Fgrown:Fn P w K mg base "_law_grown" 2 ["_law_state_here","_law_most"] spGrown)(Fshift:Fn P w K mg base "_law_shifted" 1 ["_law_spots"] spForm)
  (F:Fun K "_law_drawn_form" "_law_drawn_form" sForm f fd):FnOk P w K mg base CX0 3 f fd ["_law_state_here","_law_most"] spForm2:=by
 refine F.ok (k:=2) scForm (fun vs H Q E h=>?_) (fun cdv A outer s H vs Q E hr h=>?_)
 .obtain⟨st,n,rfl,_⟩:=h
  rfl
 obtain⟨st,n,rfl,hst,hn,q⟩:=h
 refine⟨_,(pss_cons (ps_set (i:=2) scForm.nd rfl (Or.inl rfl) (pe_fn Fsigns hr (by decide) rfl (pa_c (pv 0) pa_nil)))
  (pss_cons (ps_set (i:=3) scForm.nd rfl (Or.inl rfl) (pe_lst pa_nil))
  (pss_cons (ps_for PassesOwn.never rfl (pi_list (pe_fn Fgrown hr (by decide) rfl (pa_c (pv 0) (pa_c (pv 1) pa_nil)))) (pg_tup (n:=2) rfl (pgs_cons (pg_name (i:=4) scForm.nd rfl (Or.inl rfl)) (pgs_cons (pg_name (i:=5) scForm.nd rfl (Or.inl rfl)) pgs_nil))) (pss_one (ps_expr (pe_bm PySem.F.plainAttrs_list PySem.F.slot_list_append PySem.F.type_list_append mt_append (pv 3) (pa_c (pe_tup (pa_c (pv 4) (pa_c (pv 5) (pa_c (pe_ix ix_str (pv 2) (pe_fn Fnext hr (by decide) rfl (pa_c (pv 0) (pa_c (pe_cB call_len_str rfl (B "len" (by decide)) PySem.boot_len (pa_c (pv 2) pa_nil)) pa_nil))) (fun _ _=>rfl)) pa_nil)))) pa_nil)))))
  (pss_one (ps_ret (pe_fn Fshift hr (by decide) rfl (pa_c (pv 3) pa_nil))))))),?_⟩
 refine⟨_,rfl,st,n,rfl,hst,hn,fun sg H1 n1 hsg ex1 st1 hn1=>?_⟩
 refine⟨(by show 0<=sizeLine;decide),fun sp hsp=>?_⟩
 have nsp:sp≠st:=fun e=>by rw[e,st1]at hsp;cases hsp
 have hspH:H sp=none:=by
  cases z:H sp with
  | none=>rfl
  | some o=>have z':=ex1 sp o (by simpa using nsp) z;rw[z']at hsp;cases hsp
 have ex2:Ex [st] H (upd H1 sp (.lst [])):=ex1.trans (Ex.fresh hsp)
 have st2:upd H1 sp (.lst []) st=some (.lst n1):=by rw[upd_ne (Ne.symm nsp)];exact st1
 have sp2:upd H1 sp (.lst []) sp=some (.lst []):=upd_same
 generalize upd H1 sp (.lst [])=H2 at *
 refine⟨_,rfl,_,rfl,st,n1,6,rfl,st2,hn1,by decide,by decide,fun gr H3 n3 cxs cs hgr ex3 st3 hn3 gr3 rep3 hcs hbd3 hpos3 hlen3=>?_⟩
 have sp3:H3 sp=some (.lst []):=ex3.at nsp sp2
 have ngs:gr≠sp:=fun e=>by rw[e,sp2]at hgr;cases hgr
 have ngt:gr≠st:=fun e=>by rw[e,st2]at hgr;cases hgr
 have lcx:=rep3.length
 refine⟨gr,rfl,⟨_,SqL.of gr3⟩,?_⟩
 refine for_list (xs:=cxs) (fun j σ' H'=>∃(y4 y5:Option V) (n:List V) (ds:List PyData) (ys:List V),σ'=[some (.ref st),some (.int 6),some (.str sg),some (.ref sp),y4,y5]/\
  Ex [st,sp] H3 H'/\H' st=some (.lst n)/\StL n/\H' sp=some (.lst ys)/\RepAll H' ds ys/\(∀d∈ds,SgD d)/\(∀d∈ds,Bd 100 d)/\ds.length=j) ?_ (fun j σ' H' hj h=>?_) (fun j x σ' H' hx h=>?_) (fun σ' H' h=>?_)
 .exact⟨_,_,n3,[],[],rfl,Ex.refl _ _,st3,hn3,sp3,rfl,(fun d hd=>by cases hd),(fun d hd=>by cases hd),rfl⟩
 .obtain⟨_,_,_,_,_,_,hex,_⟩:=h
  exact SqL.of (hex _ _ (by simp[ngs,ngt]) gr3)
 .obtain⟨y4,y5,n6,ds,ys,rfl,hex,st6,hn6,sp6,rep6,hsp6,hbd6,hl6⟩:=h
  have tk6:Tk H3 H':=hex.tk fun b hb=>by
   rcases List.mem_cons.mp hb with rfl|hb
   .exact⟨_,st3⟩
   .rw[List.mem_singleton.mp hb];exact⟨_,sp3⟩
  obtain⟨b,cr,cc,rfl,hb,hdat⟩:=cells_at hcs rep3 hx
  have im6:immAll ds=true:=Spots.imm fun d hd=>by obtain⟨r,c,k,e,_⟩:=hsp6 d hd;exact⟨r,c,_,e⟩
  refine⟨b,_,rfl,SqT.of (tk6 _ _ hb),rfl,_,_,rfl,_,_,rfl,rfl,?_⟩
  refine⟨_,rfl,.inl ⟨rfl,_,SqL.of sp6⟩,_,rfl,_,rfl,_,rfl,_,rfl,_,rfl,sg,rfl,sg_line hsg,st,n6,_,rfl,st6,hn6,by have:=hsg.1;omega,by have:=hsg.2.1;omega,fun n7 i7 hn7 h70 h71=>?_⟩
  obtain⟨j7,rfl⟩:=Int.eq_ofNat_of_zero_le h70
  have hj7:j7<sg.cps.toList.length:=by
   have:sg.length=sg.cps.toList.length:=by simp[Str.length]
   omega
  have hk:=hsg.2.2 _ (List.getElem_mem hj7)
  refine⟨sg,_,sg.cps.toList[j7],rfl,rfl,sg_line hsg,atI_nat (List.getElem?_eq_getElem hj7),(by show 3<=sizeLine;decide),fun t ht=>?_⟩
  generalize sg.cps.toList[j7]=k at *
  have hok:PyData.strOk (⟨#[k]⟩:Str)=true:=Tx.ok ⟨by show 1<=80;omega,fun x hx=>by
   have:x=k:=by simpa using hx
   omega⟩
  have st7:upd H' st (.lst n7) st=some (.lst n7):=upd_same
  have sp7:upd H' st (.lst n7) sp=some (.lst ys):=by rw[upd_ne nsp];exact sp6
  have rep7:RepAll (upd H' st (.lst n7)) ds ys:=rep6.tk (Tk.lst st6) im6
  have ex7:Ex [st,sp] H3 (upd H' st (.lst n7)):=hex.trans (Ex.upd (by simp))
  generalize upd H' st (.lst n7)=H7 at *
  have s8:Same H7 (upd H7 t (.tup [.int cr,.int cc,.str ⟨#[k]⟩])):=Same.fresh _ ht
  have t8:upd H7 t (.tup [.int cr,.int cc,.str ⟨#[k]⟩]) t=some (.tup [.int cr,.int cc,.str ⟨#[k]⟩]):=upd_same
  generalize upd H7 t (.tup [.int cr,.int cc,.str ⟨#[k]⟩])=H8 at *
  have sp8:=s8 _ _ sp7
  have hjl:j<cxs.length:=(List.getElem?_eq_some_iff.mp hx).1
  have hly:=rep6.length
  refine⟨sp,ys,.ref t,rfl,rfl,sp8,small1000 (by omega),?_⟩
  have hsn:∀d∈ds++[.tuple [.int cr,.int cc,.str ⟨#[k]⟩]],SgD d:=fun d hd=>by
   rcases List.mem_append.mp hd with h|h
   .exact hsp6 d h
   .rw[List.mem_singleton.mp h];exact⟨cr,cc,k,rfl,hk.1,hk.2⟩
  have imn:immAll (ds++[.tuple [.int cr,.int cc,.str ⟨#[k]⟩]])=true:=Spots.imm fun d hd=>by obtain⟨r,c,k',e,_⟩:=hsn d hd;exact⟨r,c,_,e⟩
  refine⟨_,_,n7,ds++[.tuple [.int cr,.int cc,.str ⟨#[k]⟩]],ys++[.ref t],rfl,(ex7.trans (Ex.of_same s8)).trans (Ex.upd (by simp)),by rw[upd_ne (Ne.symm nsp)];exact s8 _ _ st7,hn7,upd_same,
   (((rep7.same s8).snoc (spot_rep t8 hok)).tk (Tk.lst sp8) imn),hsn,?_,by simp[hl6]⟩
  intro z hz
  rcases List.mem_append.mp hz with h|h
  .exact hbd6 z h
  .rw[List.mem_singleton.mp h]
   have hz3:=hbd3 _ (List.mem_of_getElem? hdat)
   exact hz3
 .obtain⟨y4,y5,n6,ds,ys,rfl,hex,st6,hn6,sp6,rep6,hsp6,hbd6,hl6⟩:=h
  refine⟨_,rfl,sp,ys,ds,rfl,sp6,rep6,sg_spots hsp6,by omega,by omega,fun r H9 s9 rep9=>?_⟩
  obtain⟨r',xs9,e9,hr9,rep9⟩:=rep9
  cases e9
  have hperm:=sortD_perm (shiftD ds)
  have hlen9:(sortD (shiftD ds)).length=ds.length:=by rw[hperm.length_eq];unfold shiftD;rw[List.length_map]
  have up9:∀b o,b∉[st]->H b=some o->H9 b=some o:=fun b o hb h0=>by
   have nb:b≠sp:=fun e=>by rw[e,hspH]at h0;cases h0
   have nbs:b≠st:=by simpa using hb
   exact s9 _ _ (hex b o (by simp[nb,nbs]) (ex3 b o (by simpa using nbs) (ex2 b o hb h0)))
  refine q r H9 n6 xs9 (sortD (shiftD ds)) up9 (s9 _ _ st6) hn6 hr9 rep9 (fun d hd=>?_) (by omega) (by omega)
  obtain⟨d0,h0,rfl⟩:=List.mem_map.mp (hperm.mem_iff.mp hd)
  refine⟨sg_shift _ _ (hsp6 d0 h0),?_⟩
  have hb0:=hbd6 d0 h0
  have hne:0<(ds.map row1).length:=by rw[List.length_map];omega
  have hne2:0<(ds.map col1).length:=by rw[List.length_map];omega
  obtain⟨e1,h1,q1⟩:=List.mem_map.mp (minI_mem hne)
  obtain⟨e2,h2,q2⟩:=List.mem_map.mp (minI_mem hne2)
  have hb1:=hbd6 e1 h1
  have hb2:=hbd6 e2 h2
  obtain⟨r,c,k,rfl,_⟩:=hsp6 d0 h0
  unfold Bd at *
  have hb0':-100<=r/\r<=100/\-100<=c/\c<=100:=hb0
  show -1000<=r-minI (ds.map row1)/\r-minI (ds.map row1)<=1000/\-1000<=c-minI (ds.map col1)/\c-minI (ds.map col1)<=1000
  omega
end
structure Pre(ds:List PyData):Prop where
 sg:∀d∈ds,SgD d
 pos:0<ds.length
 six:ds.length<=6
 con:Conn (ds.map cl)
 nd:(ds.map cl).Nodup
structure Zr(ds:List PyData):Prop where
 pre:Pre ds
 r0:minI (ds.map row1)=0
 c0:minI (ds.map col1)=0
theorem Pre.spots{ds:List PyData}(h:Pre ds):Spots ds:=fun d hd=>by
 obtain⟨r,c,k,e,_⟩:=h.sg d hd
 exact⟨r,c,_,e⟩
theorem Pre.map{ds:List PyData}(h:Pre ds){f:PyData->PyData}{g:Cl->Cl}(hf:∀d,SgD d->SgD (f d)/\cl (f d)=g (cl d))(hg:∀a b,Tch a b->Tch (g a) (g b))(hi:∀a b,g a=g b->a=b):Pre (ds.map f):=by
 have e:(ds.map f).map cl=(ds.map cl).map g:=by
  rw[List.map_map,List.map_map]
  exact List.map_congr_left fun d hd=>(hf d (h.sg d hd)).2
 refine⟨fun d hd=>?_,by rw[List.length_map];exact h.pos,by rw[List.length_map];exact h.six,by rw[e];exact h.con.map hg,?_⟩
 .obtain⟨x,hx,rfl⟩:=List.mem_map.mp hd
  exact(hf x (h.sg x hx)).1
 .rw[e]
  exact List.Pairwise.map g (fun a b hab z=>hab (hi a b z)) h.nd
theorem Pre.perm{ds es:List PyData}(h:Pre ds)(p:es.Perm ds):Pre es:=
 ⟨fun d hd=>h.sg d (p.mem_iff.mp hd),by rw[p.length_eq];exact h.pos,by rw[p.length_eq];exact h.six,h.con.congr fun a=>(p.map cl).mem_iff,(p.map cl).nodup_iff.mpr h.nd⟩
theorem min_perm{ns ms:List Int}(p:ns.Perm ms)(h:0<ns.length):minI ns=minI ms:=
 minI_eq (p.mem_iff.mp (minI_mem h)) fun a ha=>minI_le a (p.mem_iff.mpr ha)
theorem Zr.perm{ds es:List PyData}(h:Zr ds)(p:es.Perm ds):Zr es:=by
 have hp:=h.pre.perm p
 exact⟨hp,(min_perm (p.map row1) (by rw[List.length_map];exact hp.pos)).trans h.r0,(min_perm (p.map col1) (by rw[List.length_map];exact hp.pos)).trans h.c0⟩
theorem sgd_shift{d:PyData}(a b:Int)(h:SgD d):SgD (shift1 a b d)/\cl (shift1 a b d)=((cl d).1-a,(cl d).2-b):=by
 obtain⟨r,c,k,rfl,h1,h2⟩:=h
 exact⟨⟨r-a,c-b,k,rfl,h1,h2⟩,rfl⟩
theorem row_cl(d:PyData):row1 d=(cl d).1:=rfl
theorem col_cl(d:PyData):col1 d=(cl d).2:=rfl
theorem min_sub{ns:List Int}(h:0<ns.length):minI (ns.map fun x=>x-minI ns)=0:=by
 refine(minI_eq ?_ fun a ha=>?_).symm
 .exact List.mem_map.mpr ⟨minI ns,minI_mem h,by omega⟩
 .obtain⟨x,hx,rfl⟩:=List.mem_map.mp ha
  have:=minI_le x hx
  omega
theorem Zr.shift{ds:List PyData}(h:Pre ds):Zr (shiftD ds):=by
 have hp:Pre (shiftD ds):=h.map (g:=fun a=>(a.1-minI (ds.map row1),a.2-minI (ds.map col1))) (fun d hd=>sgd_shift _ _ hd) (fun a b=>Tch.shift _ _) (fun a b e=>by
  injection e with e1 e2
  exact Prod.ext (by omega) (by omega))
 refine⟨hp,?_,?_⟩
 .rw[show(shiftD ds).map row1=(ds.map row1).map fun x=>x-minI (ds.map row1) by
   unfold shiftD
   rw[List.map_map,List.map_map]
   exact List.map_congr_left fun d hd=>by rw[Function.comp,row_cl,(sgd_shift _ _ (h.sg d hd)).2];rfl]
  exact min_sub (by rw[List.length_map];exact h.pos)
 .rw[show(shiftD ds).map col1=(ds.map col1).map fun x=>x-minI (ds.map col1) by
   unfold shiftD
   rw[List.map_map,List.map_map]
   exact List.map_congr_left fun d hd=>by rw[Function.comp,col_cl,(sgd_shift _ _ (h.sg d hd)).2];rfl]
  exact min_sub (by rw[List.length_map];exact h.pos)
noncomputable def cellLt(x y:PyData):Prop:=(cl x).1<(cl y).1\/((cl x).1=(cl y).1/\(cl x).2<(cl y).2)
theorem perm_sorted:∀{xs ys:List PyData},xs.Perm ys->xs.Pairwise cellLt->ys.Pairwise cellLt->xs=ys
 | [],ys,p,_,_=>(List.Perm.nil_eq p)
 | x::xs,[],p,_,_=>absurd p.length_eq (by simp)
 | x::xs,y::ys,p,hx,hy=>by
  have hx':=List.pairwise_cons.mp hx
  have hy':=List.pairwise_cons.mp hy
  have e:x=y:=by
   have m1:x∈y::ys:=p.mem_iff.mp List.mem_cons_self
   have m2:y∈x::xs:=p.mem_iff.mpr List.mem_cons_self
   rcases List.mem_cons.mp m1 with e|m1
   .exact e
   rcases List.mem_cons.mp m2 with e|m2
   .exact e.symm
   have a:=hy'.1 x m1
   have b:=hx'.1 y m2
   unfold cellLt at a b
   omega
  subst e
  rw[perm_sorted (List.Perm.cons_inv p) hx'.2 hy'.2]
theorem sorted_of{ds:List PyData}(hz:Pre ds):(sortD ds).Pairwise cellLt:=by
 have hz':=hz.perm (sortD_perm ds)
 rw[List.pairwise_iff_getElem]
 intro i j hi hj hij
 have hx:(sortD ds)[i]?=some (sortD ds)[i]:=List.getElem?_eq_getElem hi
 have hy:(sortD ds)[j]?=some (sortD ds)[j]:=List.getElem?_eq_getElem hj
 have u:=sortD_up (spots_rows hz.spots) hx hy (Nat.le_of_lt hij)
 have nd:=List.pairwise_iff_getElem.mp hz'.nd i j (by simpa using hi) (by simpa using hj) hij
 rw[List.getElem_map,List.getElem_map]at nd
 generalize (sortD ds)[i]=x at *
 generalize (sortD ds)[j]=y at *
 obtain⟨r,c,k,rfl,_⟩:=hz'.sg x (List.mem_of_getElem? hx)
 obtain⟨r',c',k',rfl,_⟩:=hz'.sg y (List.mem_of_getElem? hy)
 have nd':¬(r=r'/\c=c'):=fun⟨e1,e2⟩=>nd (by rw[e1,e2];rfl)
 show r<r'\/(r=r'/\c<c')
 have u':rowLt [.int r',.int c',.str ⟨#[k']⟩] [.int r,.int c,.str ⟨#[k]⟩]=false:=u
 rw[rl_int]at u'
 by_cases e1:r=r'
 .rw[if_pos e1.symm,rl_int]at u'
  by_cases e2:c=c'
  .exact absurd ⟨e1,e2⟩ nd'
  .rw[if_neg (Ne.symm e2)]at u'
   have:=of_decide_eq_false u'
   omega
 .rw[if_neg (Ne.symm e1)]at u'
  have:=of_decide_eq_false u'
  omega
noncomputable def Frm(es:List PyData):Prop:=Zr es/\es.Pairwise cellLt
theorem Frm.of{ds:List PyData}(h:Zr ds):Frm (sortD ds):=⟨h.perm (sortD_perm ds),sorted_of h.pre⟩
theorem sort_eq{ds es:List PyData}(h:Frm es)(p:ds.Perm es):sortD ds=es:=
 perm_sorted ((sortD_perm ds).trans p) (sorted_of (h.1.pre.perm p)) h.2
noncomputable def Kn(H:Hp)(v:V):Prop:=v=.non\/(∃b,v=.bl b)\/(∃i,v=.int i)\/(∃z,v=.str z/\Tx z)\/∃a,v=.ref a/\((∃xs,H a=some (.lst xs))\/(∃xs,H a=some (.tup xs))\/H a=some (.dK []))
theorem Kn.same{H H':Hp}{v:V}(s:Same H H')(h:Kn H v):Kn H' v:=by
 rcases h with h|h|h|h|⟨a,e,⟨xs,h⟩|⟨xs,h⟩|h⟩
 .exact .inl h
 .exact .inr (.inl h)
 .exact .inr (.inr (.inl h))
 .exact .inr (.inr (.inr (.inl h)))
 .exact .inr (.inr (.inr (.inr ⟨a,e,.inl ⟨xs,s _ _ h⟩⟩)))
 .exact .inr (.inr (.inr (.inr ⟨a,e,.inr (.inl ⟨xs,s _ _ h⟩)⟩)))
 .exact .inr (.inr (.inr (.inr ⟨a,e,.inr (.inr (s _ _ h))⟩)))
noncomputable def isW:V->Bool
 | .int _=>true
 | _=>false
noncomputable def sg1(z:Str):Bool:=match z.cps.toList with
 | [c]=>decide (65<=c)&&decide (c<=90)
 | _=>false
noncomputable def isSg:V->Bool
 | .str z=>sg1 z
 | _=>false
theorem one_of{z:Str}(h:z.length=1):∃c,z=⟨#[c]⟩:=by
 obtain⟨⟨l⟩⟩:=z
 match l,h with
 | [c],_=>exact⟨c,rfl⟩
theorem sg1_one(c:Nat):sg1 ⟨#[c]⟩=(decide (65<=c)&&decide (c<=90)):=rfl
theorem sg1_not{z:Str}(h:z.length≠1):sg1 z=false:=by
 obtain⟨⟨l⟩⟩:=z
 match l,h with
 | [],_=>rfl
 | [c],h=>exact absurd rfl h
 | _::_::_,_=>rfl
noncomputable def spot3(x y z:V):Bool:=isW x&&isW y&&isSg z
noncomputable def spotB(H:Hp):V->Bool
 | .ref a=>match H a with
  | some (.tup [x,y,z])=>spot3 x y z
  | _=>false
 | _=>false
theorem spotB_ref(H:Hp)(a:Addr):spotB H (.ref a)=(match H a with|some (.tup [x,y,z])=>spot3 x y z|_=>false):=rfl
noncomputable def Kn2(H:Hp)(v:V):Prop:=Kn H v/\∀a xs,v=.ref a->H a=some (.tup xs)->xs.length<=60/\∀x∈xs,Kn H x
noncomputable def Kn3(H:Hp)(v:V):Prop:=Kn H v/\∀a xs,v=.ref a->H a=some (.tup xs)->xs.length<=60/\∀x∈xs,Kn2 H x
theorem kn_back{H H':Hp}{a:Addr}{xs:List V}(s:Same H H')(h:Kn H (.ref a))(e:H' a=some (.tup xs)):H a=some (.tup xs):=by
 rcases h with h|⟨b,h⟩|⟨i,h⟩|⟨z,h,_⟩|⟨b,e',h⟩
 .cases h
 .cases h
 .cases h
 .cases h
 .cases e'
  rcases h with ⟨ys,h⟩|⟨ys,h⟩|h
  .rw[s _ _ h]at e;cases e
  .rw[s _ _ h]at e;cases e;exact h
  .rw[s _ _ h]at e;cases e
theorem Kn2.same{H H':Hp}{v:V}(s:Same H H')(h:Kn2 H v):Kn2 H' v:=⟨h.1.same s,fun a xs e ha=>by
 subst e
 obtain⟨h1,h2⟩:=h.2 a xs rfl (kn_back s h.1 ha)
 exact⟨h1,fun x hx=>(h2 x hx).same s⟩⟩
theorem spotB_same{H H':Hp}{v:V}(s:Same H H')(h:Kn H v):spotB H' v=spotB H v:=by
 rcases h with rfl|⟨b,rfl⟩|⟨i,rfl⟩|⟨z,rfl,_⟩|⟨b,rfl,⟨ys,h⟩|⟨ys,h⟩|h⟩
 .rfl
 .rfl
 .rfl
 .rfl
 all_goals
  rw[spotB_ref,spotB_ref,s _ _ h,h]
theorem kn_tup{K:PySem.W.Frag}{H:Hp}{v:V}(h:Kn H v):(∃a xs,v=.ref a/\H a=some (.tup xs))\/((∃t,TyOf K H v t/\PySem.W.kitOne K t (.type "tuple")=some false)/\spotB H v=false/\∀a xs,v=.ref a->H a=some (.tup xs)->False):=by
 rcases h with rfl|⟨b,rfl⟩|⟨i,rfl⟩|⟨z,rfl,_⟩|⟨a,rfl,⟨ys,h⟩|⟨ys,h⟩|h⟩
 .exact .inr ⟨⟨_,.non,rfl⟩,rfl,fun _ _ e=>by cases e⟩
 .exact .inr ⟨⟨_,.bl b,rfl⟩,rfl,fun _ _ e=>by cases e⟩
 .exact .inr ⟨⟨_,.int i,rfl⟩,rfl,fun _ _ e=>by cases e⟩
 .exact .inr ⟨⟨_,.str z,rfl⟩,rfl,fun _ _ e=>by cases e⟩
 .exact .inr ⟨⟨_,.lst h,rfl⟩,by rw[spotB_ref,h],fun b xs e ha=>by cases e;rw[h]at ha;cases ha⟩
 .exact .inl ⟨a,ys,rfl,h⟩
 .exact .inr ⟨⟨_,.dK h,rfl⟩,by rw[spotB_ref,h],fun b xs e ha=>by cases e;rw[h]at ha;cases ha⟩
theorem kn_str{K:PySem.W.Frag}{H:Hp}{v:V}(h:Kn H v):(∃z,v=.str z/\Tx z)\/((∃t,TyOf K H v t/\PySem.W.kitOne K t (.type "str")=some false)/\isSg v=false):=by
 rcases h with rfl|⟨b,rfl⟩|⟨i,rfl⟩|⟨z,rfl,hz⟩|⟨a,rfl,⟨ys,h⟩|⟨ys,h⟩|h⟩
 .exact .inr ⟨⟨_,.non,rfl⟩,rfl⟩
 .exact .inr ⟨⟨_,.bl b,rfl⟩,rfl⟩
 .exact .inr ⟨⟨_,.int i,rfl⟩,rfl⟩
 .exact .inl ⟨z,rfl,hz⟩
 .exact .inr ⟨⟨_,.lst h,rfl⟩,rfl⟩
 .exact .inr ⟨⟨_,.tup h,rfl⟩,rfl⟩
 .exact .inr ⟨⟨_,.dK h,rfl⟩,rfl⟩
theorem tx_line{z:Str}(h:Tx z):z.length<=sizeLine:=Nat.le_of_lt (small1000 (by have:=h.1;omega))
theorem le1(a b:Nat):(!decide ([b]<[a]))=decide (a<=b):=by
 have h:([b]<[a])↔b<a:=by simp[List.cons_lt_cons_iff]
 rw[decide_eq_decide.mpr h]
 by_cases c:b<a
 .rw[decide_eq_true c,decide_eq_false (by omega)];rfl
 .rw[decide_eq_false c,decide_eq_true (by omega)];rfl
theorem between{c lo hi:Nat}{a z:Str}{R:V->Prop}{A B:Prop}(ha:a.cps.toList=[lo])(hz:z.cps.toList=[hi])(q:R (.bl (decide (lo<=c)&&decide (c<=hi))))
  (hA:R (.bl (!decide (z.cps.toList<[c])))->A) (hB:R (.bl false)->B):if (!decide ((⟨#[c]⟩:Str).cps.toList<a.cps.toList))=true then A else B:=by
 have e:(⟨#[c]⟩:Str).cps.toList=[c]:=rfl
 rw[e,ha,le1]
 rw[hz,le1]at hA
 by_cases h:lo<=c
 .rw[decide_eq_true h]at *
  rw[if_pos rfl]
  exact hA q
 .rw[decide_eq_false h]at *
  rw[if_neg Bool.false_ne_true]
  exact hB q
theorem in_text(c:Nat):(!(Builtin.Str.occurrences (Str.ofString "ABCDEFGHIJKLMNOPQRSTUVWXYZ") ⟨#[c]⟩ 0 (Str.ofString "ABCDEFGHIJKLMNOPQRSTUVWXYZ").length 1).isEmpty)=(decide (65<=c)&&decide (c<=90)):=by
 rw[PySem.StrLaws.found_one]
 have e:(Str.ofString "ABCDEFGHIJKLMNOPQRSTUVWXYZ").cps.toList=[65,66,67,68,69,70,71,72,73,74,75,76,77,78,79,80,81,82,83,84,85,86,87,88,89,90]:=by decide +kernel
 rw[e,<-Bool.decide_and]
 apply decide_eq_decide.mpr
 simp only[List.mem_cons,List.not_mem_nil,or_false]
 omega
section
variable{P:Program}{w:World}{K:PySem.W.Frag}{mg:Str->Option Value}{base:Heap}{f:Addr}{fd:FuncData}
noncomputable def spW:Sp:=fun vs H Q _=>∃v,vs=[v]/\Kn H v/\Q (.bl (isW v)) H
theorem scPw:FnScope ["found"] ["found"] (defScope sPw):=⟨rfl,rfl,rfl,by decide +kernel,rfl,by decide +kernel,by decide +kernel⟩
theorem ok_pw(B:∀x∈blts,mg x=none)(F:Fun K "is_whole" "is_whole" sPw f fd):FnOk P w K mg base CX0 1 f fd ["found"] spW:=by
 refine F.ok (k:=0) scPw (fun vs H Q E h=>?_) (fun cdv A outer s H vs Q E hr h=>?_)
 .obtain⟨n,rfl,_⟩:=h
  rfl
 obtain⟨v,rfl,hv,q⟩:=h
 refine⟨_,(pss_one (ps_ret (pe_and (pe_cB call_isinst rfl (B "isinstance" (by decide)) boot_isinstance (pa_c (pv 0) (pa_c (pe_bltn (v:=.ty "int") rfl (B "int" (by decide)) PyProof.Rows.boot_int rfl) pa_nil))) (pe_one (pe_not (pe_cB call_isinst rfl (B "isinstance" (by decide)) boot_isinstance (pa_c (pv 0) (pa_c (pe_bltn (v:=.ty "bool") rfl (B "bool" (by decide)) boot_bool rfl) pa_nil)))))))),?_⟩
 rcases hv with rfl|⟨b,rfl⟩|⟨i,rfl⟩|⟨z,rfl,hz⟩|⟨a,rfl,⟨ys,h⟩|⟨ys,h⟩|h⟩
 .exact⟨_,rfl,_,_,_,false,rfl,.non,rfl,false,rfl,iteF q⟩
 .exact⟨_,rfl,_,_,_,true,rfl,.bl b,rfl,true,rfl,iteT ⟨_,rfl,_,_,_,true,rfl,.bl b,rfl,true,rfl,q⟩⟩
 .exact⟨_,rfl,_,_,_,true,rfl,.int i,rfl,true,rfl,iteT ⟨_,rfl,_,_,_,false,rfl,.int i,rfl,false,rfl,q⟩⟩
 .exact⟨_,rfl,_,_,_,false,rfl,.str z,rfl,false,rfl,iteF q⟩
 .exact⟨_,rfl,_,_,_,false,rfl,.lst h,rfl,false,rfl,iteF q⟩
 .exact⟨_,rfl,_,_,_,false,rfl,.tup h,rfl,false,rfl,iteF q⟩
 .exact⟨_,rfl,_,_,_,false,rfl,.dK h,rfl,false,rfl,iteF q⟩
theorem scWhole:FnScope ["_law_found"] ["_law_found"] (defScope sWhole):=⟨rfl,rfl,rfl,by decide +kernel,rfl,by decide +kernel,by decide +kernel⟩
theorem ok_whole(B:∀x∈blts,mg x=none)(F:Fun K "_law_whole" "_law_whole" sWhole f fd):FnOk P w K mg base CX0 1 f fd ["_law_found"] spW:=by
 refine F.ok (k:=0) scWhole (fun vs H Q E h=>?_) (fun cdv A outer s H vs Q E hr h=>?_)
 .obtain⟨n,rfl,_⟩:=h
  rfl
 obtain⟨v,rfl,hv,q⟩:=h
 refine⟨_,(pss_one (ps_ret (pe_and (pe_cB call_isinst rfl (B "isinstance" (by decide)) boot_isinstance (pa_c (pv 0) (pa_c (pe_bltn (v:=.ty "int") rfl (B "int" (by decide)) PyProof.Rows.boot_int rfl) pa_nil))) (pe_one (pe_not (pe_cB call_isinst rfl (B "isinstance" (by decide)) boot_isinstance (pa_c (pv 0) (pa_c (pe_bltn (v:=.ty "bool") rfl (B "bool" (by decide)) boot_bool rfl) pa_nil)))))))),?_⟩
 rcases hv with rfl|⟨b,rfl⟩|⟨i,rfl⟩|⟨z,rfl,hz⟩|⟨a,rfl,⟨ys,h⟩|⟨ys,h⟩|h⟩
 .exact⟨_,rfl,_,_,_,false,rfl,.non,rfl,false,rfl,iteF q⟩
 .exact⟨_,rfl,_,_,_,true,rfl,.bl b,rfl,true,rfl,iteT ⟨_,rfl,_,_,_,true,rfl,.bl b,rfl,true,rfl,q⟩⟩
 .exact⟨_,rfl,_,_,_,true,rfl,.int i,rfl,true,rfl,iteT ⟨_,rfl,_,_,_,false,rfl,.int i,rfl,false,rfl,q⟩⟩
 .exact⟨_,rfl,_,_,_,false,rfl,.str z,rfl,false,rfl,iteF q⟩
 .exact⟨_,rfl,_,_,_,false,rfl,.lst h,rfl,false,rfl,iteF q⟩
 .exact⟨_,rfl,_,_,_,false,rfl,.tup h,rfl,false,rfl,iteF q⟩
 .exact⟨_,rfl,_,_,_,false,rfl,.dK h,rfl,false,rfl,iteF q⟩
noncomputable def spS:Sp:=fun vs H Q _=>∃v,vs=[v]/\Kn H v/\Q (.bl (isSg v)) H
theorem scPs:FnScope ["found"] ["found"] (defScope sPs):=⟨rfl,rfl,rfl,by decide +kernel,rfl,by decide +kernel,by decide +kernel⟩
theorem ok_ps(B:∀x∈blts,mg x=none)(F:Fun K "is_sign" "is_sign" sPs f fd):FnOk P w K mg base CX0 1 f fd ["found"] spS:=by
 refine F.ok (k:=0) scPs (fun vs H Q E h=>?_) (fun cdv A outer s H vs Q E hr h=>?_)
 .obtain⟨c,rfl,_⟩:=h
  rfl
 obtain⟨v,rfl,hv,q⟩:=h
 refine⟨_,(pss_one (ps_ret (pe_and (pe_cB call_isinst rfl (B "isinstance" (by decide)) boot_isinstance (pa_c (pv 0) (pa_c (pe_bltn (v:=.ty "str") rfl (B "str" (by decide)) boot_str rfl) pa_nil))) (pe_and (pe_cmpR op_eq (pe_cB call_len_str rfl (B "len" (by decide)) PySem.boot_len (pa_c (pv 0) pa_nil)) pe_int (nomark _)) (pe_one (pe_chain op_le_str op_le_str pe_str (pv 0) pe_str)))))),?_⟩
 rcases kn_str (K:=K) hv with ⟨z,rfl,hz⟩|⟨⟨t,ty,kt⟩,e⟩
 .refine⟨_,rfl,_,_,_,true,rfl,.str _,rfl,true,rfl,iteT ?_⟩
  refine⟨_,rfl,z,rfl,tx_line hz,rfl,_,rfl,?_⟩
  by_cases hl:z.length=1
  .obtain⟨c,rfl⟩:=one_of hl
   refine ite2 (fun _=>?_) (fun h=>absurd (decide_eq_true rfl) h)
   exact⟨_,rfl,_,_,rfl,rfl,_,rfl,between (a:=Str.ofString "A") (z:=Str.ofString "Z") (R:=fun v=>Q v H) (by decide +kernel) (by decide +kernel) q (fun h=>⟨_,_,rfl,rfl,h⟩) (fun h=>h)⟩
  .refine ite2 (fun h=>?_) (fun _=>?_)
   .have h':=of_decide_eq_true h
    injection h' with h'
    exact absurd (Int.ofNat_inj.mp h') hl
   .have e:isSg (.str z)=false:=sg1_not hl
    rw[e]at q
    exact q
 .rw[e]at q
  exact⟨_,rfl,v,_,t,false,rfl,ty,kt,false,rfl,iteF q⟩
noncomputable def spSp:Sp:=fun vs H Q _=>∃v,vs=[v]/\Kn2 H v/\Q (.bl (spotB H v)) H
theorem scPsp:FnScope ["found"] ["found"] (defScope sPsp):=⟨rfl,rfl,rfl,by decide +kernel,rfl,by decide +kernel,by decide +kernel⟩
theorem spot_len{H:Hp}{a:Addr}{xs:List V}(ha:H a=some (.tup xs))(h:xs.length≠3):spotB H (.ref a)=false:=by
 rw[spotB_ref,ha]
 match xs,h with
 | [],_=>rfl
 | [_],_=>rfl
 | [_,_],_=>rfl
 | [_,_,_],h=>exact absurd rfl h
 | _::_::_::_::_,_=>rfl
theorem three{xs:List V}(h:xs.length=3):∃x y z,xs=[x,y,z]:=by
 match xs,h with
 | [x,y,z],_=>exact⟨x,y,z,rfl⟩
theorem ok_psp(B:∀x∈blts,mg x=none)(Fpw:Fn P w K mg base "is_whole" 1 ["found"] spW)(Fps:Fn P w K mg base "is_sign" 1 ["found"] spS)(F:Fun K "is_spot" "is_spot" sPsp f fd):FnOk P w K mg base CX0 2 f fd ["found"] spSp:=by
 refine F.ok (k:=1) scPsp (fun vs H Q E h=>?_) (fun cdv A outer s H vs Q E hr h=>?_)
 .obtain⟨c,rfl,_⟩:=h
  rfl
 obtain⟨v,rfl,hv,q⟩:=h
 refine⟨_,(pss_cons (ps_if (PW.pt (pw_or (pt_not (pt_val (pe_cB call_isinst rfl (B "isinstance" (by decide)) boot_isinstance (pa_c (pv 0) (pa_c (pe_bltn (v:=.ty "tuple") rfl (B "tuple" (by decide)) boot_tuple rfl) pa_nil))))) (pw_or1 (pt_cmpR op_ne (pe_cB call_len_seq rfl (B "len" (by decide)) PySem.boot_len (pa_c (pv 0) pa_nil)) pe_int (nomark _))))) (pss_one (ps_ret pe_bl)) pss_nil)
  (pss_one (ps_ret (pe_and (pe_fn Fpw hr (by decide) rfl (pa_c (pe_ix ix_tup (pv 0) pe_int (fun _ _=>rfl)) pa_nil)) (pe_and (pe_fn Fpw hr (by decide) rfl (pa_c (pe_ix ix_tup (pv 0) pe_int (fun _ _=>rfl)) pa_nil)) (pe_one (pe_fn Fps hr (by decide) rfl (pa_c (pe_ix ix_tup (pv 0) pe_int (fun _ _=>rfl)) pa_nil)))))))),?_⟩
 rcases kn_tup (K:=K) hv.1 with ⟨a,xs,rfl,ha⟩|⟨⟨t,ty,kt⟩,e,_⟩
 .refine⟨_,rfl,.ref a,"tuple",.type "tuple",true,rfl,.tup ha,rfl,true,rfl,iteF ?_⟩
  refine⟨_,rfl,a,xs,rfl,.inr (SqT.of ha),rfl,_,rfl,?_⟩
  by_cases hl:xs.length=3
  .refine ite2 (fun h=>?_) (fun _=>?_)
   .rw[hl]at h;exact absurd h (by simp)
   obtain⟨x,y,z,rfl⟩:=three hl
   have kn:=(hv.2 a _ rfl ha).2
   have e:spotB H (.ref a)=spot3 x y z:=by rw[spotB_ref,ha]
   rw[e]at q
   refine⟨_,rfl,a,_,_,_,rfl,rfl,SqT.of ha,rfl,x,rfl,kn x (by simp),_,rfl,?_⟩
   unfold spot3 at q
   cases hx:isW x with
   | false=>rw[hx]at q;exact iteF q
   | true=>
    rw[hx,Bool.true_and]at q
    refine iteT ⟨_,rfl,a,_,_,_,rfl,rfl,SqT.of ha,rfl,y,rfl,kn y (by simp),_,rfl,?_⟩
    cases hy:isW y with
    | false=>rw[hy]at q;exact iteF q
    | true=>
     rw[hy,Bool.true_and]at q
     exact iteT ⟨_,rfl,a,_,_,_,rfl,rfl,SqT.of ha,rfl,z,rfl,kn z (by simp),q⟩
  .refine ite2 (fun _=>?_) (fun h=>?_)
   .rw[spot_len ha hl]at q
    exact q
   .exfalso
    apply h
    have:¬V.int ((xs.length:Nat):Int)=V.int 3:=fun z=>by injection z with z;exact hl (by omega)
    rw[decide_eq_false this];rfl
 .rw[e]at q
  exact⟨_,rfl,v,"tuple",t,false,rfl,ty,kt,false,rfl,iteT (iteT q)⟩
theorem scSpot:FnScope ["_law_found"] ["_law_found"] (defScope sSpot):=⟨rfl,rfl,rfl,by decide +kernel,rfl,by decide +kernel,by decide +kernel⟩
theorem ok_spot(B:∀x∈blts,mg x=none)(Fwhole:Fn P w K mg base "_law_whole" 1 ["_law_found"] spW)(F:Fun K "_law_is_spot" "_law_is_spot" sSpot f fd):FnOk P w K mg base CX0 2 f fd ["_law_found"] spSp:=by
 refine F.ok (k:=1) scSpot (fun vs H Q E h=>?_) (fun cdv A outer s H vs Q E hr h=>?_)
 .obtain⟨c,rfl,_⟩:=h
  rfl
 obtain⟨v,rfl,hv,q⟩:=h
 refine⟨_,(pss_cons (ps_if (PW.pt (pw_or (pt_not (pt_val (pe_cB call_isinst rfl (B "isinstance" (by decide)) boot_isinstance (pa_c (pv 0) (pa_c (pe_bltn (v:=.ty "tuple") rfl (B "tuple" (by decide)) boot_tuple rfl) pa_nil))))) (pw_or (pt_cmpR op_ne (pe_cB call_len_seq rfl (B "len" (by decide)) PySem.boot_len (pa_c (pv 0) pa_nil)) pe_int (nomark _)) (pw_or (pt_not (pt_val (pe_fn Fwhole hr (by decide) rfl (pa_c (pe_ix ix_tup (pv 0) pe_int (fun _ _=>rfl)) pa_nil)))) (pw_or1 (pt_not (pt_val (pe_fn Fwhole hr (by decide) rfl (pa_c (pe_ix ix_tup (pv 0) pe_int (fun _ _=>rfl)) pa_nil))))))))) (pss_one (ps_ret pe_bl)) pss_nil)
  (pss_one (ps_ret (pe_and (pe_cB call_isinst rfl (B "isinstance" (by decide)) boot_isinstance (pa_c (pe_ix ix_tup (pv 0) pe_int (fun _ _=>rfl)) (pa_c (pe_bltn (v:=.ty "str") rfl (B "str" (by decide)) boot_str rfl) pa_nil))) (pe_and (pe_cmpR op_eq (pe_cB call_len_str rfl (B "len" (by decide)) PySem.boot_len (pa_c (pe_ix ix_tup (pv 0) pe_int (fun _ _=>rfl)) pa_nil)) pe_int (nomark _)) (pe_one (pe_cmpR op_in_str (pe_ix ix_tup (pv 0) pe_int (fun _ _=>rfl)) pe_str rfl))))))),?_⟩
 rcases kn_tup (K:=K) hv.1 with ⟨a,xs,rfl,ha⟩|⟨⟨t,ty,kt⟩,e,_⟩
 .refine⟨_,rfl,.ref a,"tuple",.type "tuple",true,rfl,.tup ha,rfl,true,rfl,iteF ?_⟩
  refine⟨_,rfl,a,xs,rfl,.inr (SqT.of ha),rfl,_,rfl,?_⟩
  by_cases hl:xs.length=3
  .refine ite2 (fun h=>?_) (fun _=>?_)
   .rw[hl]at h;exact absurd h (by simp)
   obtain⟨x,y,z,rfl⟩:=three hl
   have kn:=(hv.2 a _ rfl ha).2
   have e:spotB H (.ref a)=spot3 x y z:=by rw[spotB_ref,ha]
   rw[e]at q
   refine⟨_,rfl,a,_,_,_,rfl,rfl,SqT.of ha,rfl,x,rfl,kn x (by simp),_,rfl,?_⟩
   unfold spot3 at q
   cases hx:isW x with
   | false=>rw[hx]at q;exact iteT (iteT q)
   | true=>
    rw[hx,Bool.true_and]at q
    refine iteF ⟨_,rfl,a,_,_,_,rfl,rfl,SqT.of ha,rfl,y,rfl,kn y (by simp),_,rfl,?_⟩
    cases hy:isW y with
    | false=>rw[hy]at q;exact iteT q
    | true=>
     rw[hy,Bool.true_and]at q
     refine iteF ?_
     rcases kn_str (K:=K) (kn z (by simp))with ⟨z,rfl,hz⟩|⟨⟨t,ty,kt⟩,e⟩
     .refine⟨_,rfl,a,_,_,_,rfl,rfl,SqT.of ha,rfl,_,_,_,true,rfl,.str _,rfl,true,rfl,iteT ?_⟩
      refine⟨_,rfl,a,_,_,_,rfl,rfl,SqT.of ha,rfl,z,rfl,tx_line hz,rfl,_,rfl,?_⟩
      by_cases hl:z.length=1
      .obtain⟨c,rfl⟩:=one_of hl
       refine ite2 (fun _=>?_) (fun h=>absurd (decide_eq_true rfl) h)
       refine⟨_,rfl,a,_,_,_,rfl,rfl,SqT.of ha,rfl,_,_,rfl,rfl,?_⟩
       rw[in_text]
       exact q
      .refine ite2 (fun h=>?_) (fun _=>?_)
       .have h':=of_decide_eq_true h
        injection h' with h'
        exact absurd (Int.ofNat_inj.mp h') hl
       .have e:isSg (.str z)=false:=sg1_not hl
        rw[e]at q
        exact q
     .rw[e]at q
      exact⟨_,rfl,a,_,_,_,rfl,rfl,SqT.of ha,rfl,z,_,t,false,rfl,ty,kt,false,rfl,iteF q⟩
  .refine ite2 (fun _=>?_) (fun h=>?_)
   .rw[spot_len ha hl]at q
    exact iteT q
   .exfalso
    apply h
    have:¬V.int ((xs.length:Nat):Int)=V.int 3:=fun z=>by injection z with z;exact hl (by omega)
    rw[decide_eq_false this];rfl
 .rw[e]at q
  exact⟨_,rfl,v,"tuple",t,false,rfl,ty,kt,false,rfl,iteT (iteT q)⟩
end
noncomputable def absI(i:Int):Int:=if i<0 then -i else i
noncomputable def tchB(a b:Cl):Bool:=absI (a.1-b.1)+absI (a.2-b.2)==1
theorem tchB_iff(a b:Cl):tchB a b=true↔Tch a b:=by
 obtain⟨a1,a2⟩:=a
 obtain⟨b1,b2⟩:=b
 unfold tchB Tch absI
 simp only[beq_iff_eq]
 split<;>split<;>omega
theorem eqv_cell{d:PyData}{p q:Int}(hd:∃r c:Int,d=.tuple [.int r,.int c]):PyData.eqv d (.tuple [.int p,.int q])=true↔cl d=(p,q):=by
 obtain⟨r,c,rfl⟩:=hd
 show PyData.eqv (.tuple [.int r,.int c]) (.tuple [.int p,.int q])=true↔(r,c)=(p,q)
 rw[Prod.mk.injEq]
 simp[PyData.eqv,PyData.eqvAll]
theorem any_cell{cs:List PyData}(hcs:Cells cs)(p q:Int):(cs.any fun e=>PyData.eqv e (.tuple [.int p,.int q]))=true↔(p,q)∈cs.map cl:=by
 rw[List.any_eq_true,List.mem_map]
 constructor
 .rintro⟨d,hd,e⟩
  exact⟨d,hd,(eqv_cell (hcs d hd)).mp e⟩
 .rintro⟨d,hd,e⟩
  exact⟨d,hd,(eqv_cell (hcs d hd)).mpr e⟩
theorem cell_inj{d e:PyData}(hd:∃r c:Int,d=.tuple [.int r,.int c])(he:∃r c:Int,e=.tuple [.int r,.int c])(h:cl d=cl e):d=e:=by
 obtain⟨r,c,rfl⟩:=hd
 obtain⟨r',c',rfl⟩:=he
 have h':(r,c)=(r',c'):=h
 injection h' with h1 h2
 rw[h1,h2]
theorem conn_add:∀{T S:List Cl},Conn S->(∀b∈T,∃a∈S,Tch a b)->Conn (S++T)
 | [],S,h,_=>by rw[List.append_nil];exact h
 | b::T,S,h,ht=>by
  obtain⟨a,ha,t⟩:=ht b List.mem_cons_self
  have h1:=h.snoc ha t
  have h2:=conn_add (T:=T) h1 (fun b' hb'=>by
   obtain⟨a',ha',t'⟩:=ht b' (List.mem_cons_of_mem _ hb')
   exact⟨a',List.mem_append_left _ ha',t'⟩)
  rw[List.append_assoc]at h2
  exact h2
section
variable{P:Program}{w:World}{K:PySem.W.Frag}{mg:Str->Option Value}{base:Heap}{f:Addr}{fd:FuncData}
noncomputable def spTch:Sp:=fun vs H Q _=>∃(a b:Addr) (r c r' c':Int),vs=[.ref a,.ref b]/\H a=some (.tup [.int r,.int c])/\H b=some (.tup [.int r',.int c'])/\Q (.bl (tchB (r,c) (r',c'))) H
theorem scTch:FnScope ["cell","other"] ["cell","other"] (defScope sTch):=⟨rfl,rfl,rfl,by decide +kernel,rfl,by decide +kernel,by decide +kernel⟩
theorem ok_tch(B:∀x∈blts,mg x=none)(F:Fun K "touches" "touches" sTch f fd):FnOk P w K mg base CX0 1 f fd ["cell","other"] spTch:=by
 refine F.ok (k:=0) scTch (fun vs H Q E h=>?_) (fun cdv A outer s H vs Q E hr h=>?_)
 .obtain⟨a,b,r,c,r',c',rfl,_⟩:=h
  rfl
 obtain⟨a,b,r,c,r',c',rfl,ha,hb,q⟩:=h
 refine⟨_,(pss_one (ps_ret (pe_cmpR op_eq (pe_op op_add (pe_cB call_abs rfl (B "abs" (by decide)) boot_abs (pa_c (pe_op op_sub (pe_ix ix_tup (pv 0) pe_int (fun _ _=>rfl)) (pe_ix ix_tup (pv 1) pe_int (fun _ _=>rfl))) pa_nil)) (pe_cB call_abs rfl (B "abs" (by decide)) boot_abs (pa_c (pe_op op_sub (pe_ix ix_tup (pv 0) pe_int (fun _ _=>rfl)) (pe_ix ix_tup (pv 1) pe_int (fun _ _=>rfl))) pa_nil))) pe_int (nomark _)))),?_⟩
 refine⟨_,rfl,a,_,_,_,rfl,rfl,SqT.of ha,rfl,_,rfl,b,_,_,_,rfl,rfl,SqT.of hb,rfl,_,_,rfl,rfl,_,rfl,?_⟩
 refine⟨_,rfl,a,_,_,_,rfl,rfl,SqT.of ha,rfl,_,rfl,b,_,_,_,rfl,rfl,SqT.of hb,rfl,_,_,rfl,rfl,_,rfl,_,_,rfl,rfl,rfl,?_⟩
 rw[dec_int]
 exact q
noncomputable def spTa:Sp:=fun vs H Q _=>∃(a l:Addr) (r c:Int) (xs:List V) (cs:List PyData),vs=[.ref a,.ref l]/\H a=some (.tup [.int r,.int c])/\H l=some (.lst xs)/\RepAll H cs xs/\Cells cs/\cs.length<=60/\∀H',Same H H'->Q (.bl ((cs.map cl).any fun x=>tchB (r,c) x)) H'
theorem scTa:FnScope ["cell","others"] ["cell","others"] (defScope sTa):=⟨rfl,rfl,rfl,by decide +kernel,rfl,by decide +kernel,by decide +kernel⟩
theorem ok_ta(B:∀x∈blts,mg x=none)(Ftch:Fn P w K mg base "touches" 1 ["cell","other"] spTch)(F:Fun K "touches_any" "touches_any" sTa f fd):FnOk P w K mg base CX0 2 f fd ["cell","others"] spTa:=by
 refine F.ok (k:=1) scTa (fun vs H Q E h=>?_) (fun cdv A outer s H vs Q E hr h=>?_)
 .obtain⟨a,l,r,c,xs,cs,rfl,_⟩:=h
  rfl
 obtain⟨a,l,r,c,xs,cs,rfl,ha,hl,rep,hcs,h60,q⟩:=h
 have hlen:=rep.length
 refine⟨_,(pss_one (ps_ret (pe_cB (call_any rfl) rfl (B "any" (by decide)) boot_any (pa_c (pe_comp ["other","cell"] [none,some 0] rfl rfl (by decide +kernel) (by decide +kernel) rfl rfl (pi_list (pv 1)) (fun _=>(pg_name (i:=0) (show(["other","cell"]:List PySem.Str).Nodup by decide +kernel) rfl (Or.inl rfl))) (fun _=>pts_nil) (fun _=>(pe_fn Ftch hr (by decide) rfl (pa_c (pv 1) (pa_c (pv 0) pa_nil))))) pa_nil)))),?_⟩
 refine⟨_,rfl,l,rfl,⟨_,SqL.of hl⟩,fun D hD=>?_⟩
 refine comp_list (xs:=xs) (fun i ys H'=>Same H H'/\ys=((cs.take i).map fun d=>tchB (r,c) (cl d)).map V.bl) ⟨Same.fresh _ hD,rfl⟩ (fun i ys H' p=>SqL.of (p.1 _ _ hl)) (fun i x ys H' hx hi hDy hyl p=>?_) (fun ys H' hDy hyl p=>?_)
 .obtain⟨p1,rfl⟩:=p
  obtain⟨b,r',c',rfl,hb,hd⟩:=cells_at hcs rep hx
  refine⟨Agree.set (Agree.refl _) rfl,?_⟩
  dsimp only[tYes]
  refine iteT ?_
  refine⟨_,rfl,_,rfl,a,b,r,c,r',c',rfl,p1 _ _ ha,p1 _ _ hb,nx_put (by omega) hDy hyl ⟨p1.new hD,?_⟩⟩
  rw[map_take_succ (fun d=>tchB (r,c) (cl d)) hd,List.map_append]
  rfl
 .obtain⟨p1,rfl⟩:=p
  refine⟨D,_,rfl,hDy,?_⟩
  rw[List.take_of_length_le (by omega),List.any_map]
  have e:=q H' p1
  rw[List.any_map]at e
  exact e
noncomputable def spPh:Sp:=fun vs H Q _=>∃(a:Addr) (xs:List V) (cs:List PyData),vs=[.ref a]/\H a=some (.lst xs)/\RepAll H cs xs/\Cells cs/\(cs.map cl).Nodup/\0<cs.length/\cs.length<=6/\∀(b:Bool) (H':Hp),Same H H'->(b=true↔Conn (cs.map cl))->Q (.bl b) H'
theorem scPh:FnScope ["cells","reached","missing","near"] ["cells"] (defScope sPh):=⟨rfl,rfl,rfl,by decide +kernel,rfl,by decide +kernel,by decide +kernel⟩
theorem cut1{xs:List V}(h:0<xs.length):cutV xs none (some 1)=xs.take 1:=by
 unfold cutV
 rw[HT.sIx_none,show(some (1:Int))=some (((1:Nat):Int))from rfl,HT.sIx_nat]
 rw[show min 1 xs.length-0=1 by omega]
 rfl
theorem cutr(xs:List V):cutV xs (some 1) none=xs.drop 1:=by
 unfold cutV
 rw[HT.sIx_none,show(some (1:Int))=some (((1:Nat):Int))from rfl,HT.sIx_nat]
 by_cases h:xs.length=0
 .have:xs=[]:=List.length_eq_zero_iff.mp h
  subst this
  rfl
 .rw[show min 1 xs.length=1 by omega,List.take_of_length_le (by rw[List.length_drop];exact Nat.le_refl _)]
theorem cells_sub{ds es:List PyData}(h:Cells es)(hs:∀d∈ds,d∈es):Cells ds:=fun d hd=>h d (hs d hd)
theorem filter_take{α:Type}{p:α->Bool}{l:List α}{i:Nat}{x:α}(h:l[i]?=some x):(l.take (i+1)).filter p=(l.take i).filter p++(if p x then[x]else[]):=by
 rw[List.take_add_one,h,List.filter_append]
 by_cases hp:p x<;>simp[hp]
theorem ok_ph(B:∀x∈blts,mg x=none)(Fta:Fn P w K mg base "touches_any" 2 ["cell","others"] spTa)(F:Fun K "hang_together" "hang_together" sPh f fd):FnOk P w K mg base CX0 3 f fd ["cells"] spPh:=by
 refine F.ok (k:=2) scPh (fun vs H Q E h=>?_) (fun cdv A outer s H vs Q E hr h=>?_)
 .obtain⟨a,xs,cs,rfl,_⟩:=h
  rfl
 obtain⟨a,xs,cs,rfl,ha,rep,hcs,hnd,hpos,hsix,q⟩:=h
 have hu:=hr.units
 have hlen:=rep.length
 refine⟨_,(pss_cons (ps_set (i:=1) scPh.nd rfl (Or.inr rfl) (pe_slice sl_list (pv 0) po_none (po_some pe_int)))
  (pss_cons (ps_set (i:=2) scPh.nd rfl (Or.inl rfl) (pe_slice sl_list (pv 0) (po_some pe_int) po_none))
  (pss_cons (ps_set (i:=3) scPh.nd rfl (Or.inr rfl) (pv 1))
  (pss_cons (ps_while PassesOwn.never (pt_truth (pv 3) (by intro _;rfl)) (pss_cons (ps_set (i:=3) scPh.nd rfl (Or.inr rfl) (pe_comp ["cell","reached"] [none,some 1] rfl rfl (by decide +kernel) (by decide +kernel) rfl rfl (pi_list (pv 2)) (fun _=>(pg_name (i:=0) (show(["cell","reached"]:List PySem.Str).Nodup by decide +kernel) rfl (Or.inl rfl))) (fun _=>pts_one (pt_val (pe_fn Fta hr (by decide) rfl (pa_c (pv 0) (pa_c (pv 1) pa_nil))))) (fun _=>(pv 0))))
  (pss_cons (ps_set (i:=1) scPh.nd rfl (Or.inr rfl) (pe_op op_cat (pv 1) (pv 3)))
  (pss_one (ps_setC (i:=2) ["cell","near"] [none,some 3] scPh.nd rfl (Or.inl rfl) rfl rfl rfl (by decide +kernel) (by decide +kernel) rfl rfl (pi_list (pv 2)) (fun _=>(pg_name (i:=0) (show(["cell","near"]:List PySem.Str).Nodup by decide +kernel) rfl (Or.inl rfl))) (fun _=>pts_one (pt_cmpR (op_notInD hu) (pv 0) (pv 1) rfl)) (fun _=>(pv 0)))))))
  (pss_one (ps_ret (pe_cmpR (op_eqD hu) (pv 2) (pe_lst pa_nil) (nomark _)))))))),?_⟩
 refine⟨_,rfl,1,rfl,a,xs,rfl,SqL.of ha,fun R hR=>?_⟩
 rw[cut1 (by omega)]
 have s1:Same H (upd H R (.lst (xs.take 1))):=Same.fresh _ hR
 have R1:upd H R (.lst (xs.take 1)) R=some (.lst (xs.take 1)):=upd_same
 generalize upd H R (.lst (xs.take 1))=H1 at *
 refine⟨_,rfl,1,rfl,a,xs,rfl,SqL.of (s1 _ _ ha),fun M hM=>?_⟩
 rw[cutr]
 have s2:Same H1 (upd H1 M (.lst (xs.drop 1))):=Same.fresh _ hM
 have M2:upd H1 M (.lst (xs.drop 1)) M=some (.lst (xs.drop 1)):=upd_same
 have R2:=s2 _ _ R1
 have s12:=s1.trans s2
 generalize upd H1 M (.lst (xs.drop 1))=H2 at *
 refine⟨_,rfl,?_⟩
 refine⟨fun m σ' H'=>∃(R M N:Addr) (rs ms ns:List PyData) (rx mx nx:List V),σ'=[some (.ref a),some (.ref R),some (.ref M),some (.ref N)]/\Same H H'/\H' R=some (.lst rx)/\RepAll H' rs rx/\H' M=some (.lst mx)/\RepAll H' ms mx/\H' N=some (.lst nx)/\RepAll H' ns nx/\
  (rs++ms).Perm cs/\Conn (rs.map cl)/\0<rs.length/\(ns=[]->∀x,x∈rs.map cl->∀y,y∈ms.map cl->¬Tch x y)/\m=2*ms.length+(if ns=[]then 0 else 1),?_,?_⟩
 .obtain⟨d0,t,rfl⟩:∃d t,cs=d::t:=by
   match cs,hpos with
   | d::t,_=>exact⟨d,t,rfl⟩
  refine⟨_,R,M,R,[d0],t,[d0],_,_,_,rfl,s12,R2,(rep.same s12).take 1,M2,(rep.same s12).drop 1,R2,(rep.same s12).take 1,List.Perm.refl _,Conn.one _,by simp,(fun e=>by cases e),rfl⟩
 rintro m σ' H' ⟨R,M,N,rs,ms,ns,rx,mx,nx,rfl,sm,hR',repR,hM',repM,hN',repN,pm,con,rpos,hcl,rfl⟩
 have lR:=repR.length
 have lM:=repM.length
 have lN:=repN.length
 have lpm:=pm.length_eq
 rw[List.length_append]at lpm
 have hrs:Cells rs:=cells_sub hcs fun d hd=>pm.mem_iff.mp (List.mem_append_left _ hd)
 have hms:Cells ms:=cells_sub hcs fun d hd=>pm.mem_iff.mp (List.mem_append_right _ hd)
 refine⟨_,rfl,_,.inl ⟨nx,SqL.of hN',rfl⟩,?_⟩
 refine ite2 (fun hgo=>?_) (fun hstop=>?_)
 .have hne:ns≠[]:=fun e=>by
   rw[e]at lN
   have:nx=[]:=List.length_eq_zero_iff.mp lN
   rw[this]at hgo
   cases hgo
  refine⟨fun σ2 H2=>∃m',m'<2*ms.length+(if ns=[]then 0 else 1)/\∃(R M N:Addr) (rs ms ns:List PyData) (rx mx nx:List V),σ2=[some (.ref a),some (.ref R),some (.ref M),some (.ref N)]/\Same H H2/\H2 R=some (.lst rx)/\RepAll H2 rs rx/\H2 M=some (.lst mx)/\RepAll H2 ms mx/\H2 N=some (.lst nx)/\RepAll H2 ns nx/\
   (rs++ms).Perm cs/\Conn (rs.map cl)/\0<rs.length/\(ns=[]->∀x,x∈rs.map cl->∀y,y∈ms.map cl->¬Tch x y)/\m'=2*ms.length+(if ns=[]then 0 else 1),fun σ2 H2 h=>h,?_⟩
  let p:PyData->Bool:=fun d=>(rs.map cl).any fun x=>tchB (cl d) x
  refine⟨_,rfl,M,rfl,⟨_,SqL.of hM'⟩,fun N2 hN2=>?_⟩
  refine comp_list (xs:=mx) (fun i ys G=>Same H' G/\RepAll G ((ms.take i).filter p) ys) ⟨Same.fresh _ hN2,rfl⟩ (fun i ys G pp=>SqL.of (pp.1 _ _ hM')) (fun i x ys G hx hi hDy hyl pp=>?_) (fun nx2 G hDn hyl pp=>?_)
  .obtain⟨p1,p2⟩:=pp
   obtain⟨b,r',c',rfl,hb,hd⟩:=cells_at hms repM hx
   have hfil:=filter_take (p:=p) hd
   refine⟨Agree.set (Agree.refl _) rfl,?_⟩
   refine⟨_,rfl,_,rfl,b,R,r',c',rx,rs,rfl,p1 _ _ hb,p1 _ _ hR',repR.same p1,hrs,by omega,fun G2 s2=>⟨_,rfl,?_⟩⟩
   have hD2:=s2 _ _ hDy
   have p12:=p1.trans s2
   have cond:((rs.map cl).any fun x=>tchB (r',c') x)=p (.tuple [.int r',.int c']):=rfl
   rw[cond]
   cases hp:p (.tuple [.int r',.int c'])with
   | true=>
    rw[hp]at hfil
    refine iteT ?_
    refine⟨_,rfl,nx_put (by omega) hD2 hyl ⟨p12.new hN2,?_⟩⟩
    rw[hfil]
    refine((p2.same s2).snoc (cell_rep (p12 _ _ hb))).tk (Tk.lst hD2) (Cells.imm fun d hd'=>?_)
    rcases List.mem_append.mp hd' with h|h
    .exact hms d (List.mem_of_mem_take (List.mem_filter.mp h).1)
    .rw[List.mem_singleton.mp h];exact⟨_,_,rfl⟩
   | false=>
    rw[hp]at hfil
    refine iteF ?_
    refine⟨ys,hD2,by omega,p12,?_⟩
    rw[hfil]
    simpa using p2.same s2
  obtain⟨p1,p2⟩:=pp
  rw[List.take_of_length_le (by omega)]at p2
  have lN2:=p2.length
  have hns2:Cells (ms.filter p):=cells_sub hms fun d hd=>(List.mem_filter.mp hd).1
  have lf:(ms.filter p).length<=ms.length:=List.length_filter_le _ _
  refine⟨_,rfl,_,rfl,R,N2,rx,nx2,rfl,rfl,p1 _ _ hR',hDn,Nat.le_of_lt (small1000 (by omega)),fun R3 hR3=>?_⟩
  have s3:Same G (upd G R3 (.lst (rx++nx2))):=Same.fresh _ hR3
  have R3o:upd G R3 (.lst (rx++nx2)) R3=some (.lst (rx++nx2)):=upd_same
  generalize upd G R3 (.lst (rx++nx2))=G3 at *
  have s13:=p1.trans s3
  have hDn3:=s3 _ _ hDn
  have p23:=p2.same s3
  have pin:∀d,d∈ms->((!((ms.filter p).any fun e=>PyData.eqv e d)) = !p d):=fun d hd=>by
   obtain⟨r',c',rfl⟩:=hms d hd
   congr 1
   rw[Bool.eq_iff_iff,any_cell hns2]
   constructor
   .intro h
    obtain⟨e,he,ee⟩:=List.mem_map.mp h
    obtain⟨h1,h2⟩:=List.mem_filter.mp he
    have:=cell_inj (hms e h1) ⟨r',c',rfl⟩ ee
    rw[<-this];exact h2
   .intro h
    exact List.mem_map.mpr ⟨_,List.mem_filter.mpr ⟨hd,h⟩,rfl⟩
  refine⟨_,rfl,M,rfl,⟨_,SqL.of (s13 _ _ hM')⟩,fun M4 hM4=>?_⟩
  refine comp_list (xs:=mx) (fun i ys G=>Same G3 G/\RepAll G ((ms.take i).filter fun d=>!p d) ys) ⟨Same.fresh _ hM4,rfl⟩ (fun i ys G pp=>SqL.of (pp.1 _ _ (s13 _ _ hM'))) (fun i x ys G4 hx hi hDy hyl pp=>?_) (fun mx4 G4 hDm hyl pp=>?_)
  .obtain⟨q1,q2⟩:=pp
   obtain⟨b,r',c',rfl,hb,hd⟩:=cells_at hms repM hx
   have hfil:=filter_take (p:=fun d=>!p d) hd
   have hb4:=q1 _ _ (s13 _ _ hb)
   refine⟨Agree.set (Agree.refl _) rfl,?_⟩
   refine⟨_,rfl,_,rfl,.tuple [.int r',.int c'],N2,nx2,ms.filter p,cell_rep hb4,rfl,.inl (q1 _ _ hDn3),p23.same q1,(by simp[PyData.depth,PyData.depthAll]),_,rfl,?_⟩
   rw[if_pos rfl,pin _ (List.mem_of_getElem? hd)]
   cases hp:p (.tuple [.int r',.int c'])with
   | true=>
    simp only[hp]at hfil
    refine iteF ?_
    refine⟨ys,hDy,by omega,q1,?_⟩
    rw[hfil]
    simpa using q2
   | false=>
    simp only[hp]at hfil
    refine iteT ?_
    refine⟨_,rfl,nx_put (by omega) hDy hyl ⟨q1.new hM4,?_⟩⟩
    rw[hfil]
    refine(q2.snoc (cell_rep hb4)).tk (Tk.lst hDy) (Cells.imm fun d hd'=>?_)
    rcases List.mem_append.mp hd' with h|h
    .exact hms d (List.mem_of_mem_take (List.mem_filter.mp h).1)
    .rw[List.mem_singleton.mp h];exact⟨_,_,rfl⟩
  obtain⟨q1,q2⟩:=pp
  rw[List.take_of_length_le (by omega)]at q2
  have s14:=s13.trans q1
  have hpart:(ms.filter p++ms.filter fun d=>!p d).Perm ms:=List.filter_append_perm p ms
  refine⟨_,?_,R3,M4,N2,rs++ms.filter p,ms.filter fun d=>!p d,ms.filter p,rx++nx2,mx4,nx2,rfl,sm.trans s14,q1 _ _ R3o,((repR.same s14).append (p23.same q1)),hDm,q2,q1 _ _ hDn3,p23.same q1,?_,?_,by rw[List.length_append];omega,?_,rfl⟩
  .have hl:=hpart.length_eq
   rw[List.length_append]at hl
   rw[if_neg hne]
   by_cases he:ms.filter p=[]
   .rw[if_pos he];omega
   .rw[if_neg he]
    have:0<(ms.filter p).length:=List.length_pos_iff.mpr he
    omega
  .rw[List.append_assoc]
   exact(hpart.append_left rs).trans pm
  .rw[List.map_append]
   refine conn_add con fun b hb=>?_
   obtain⟨d,hd,rfl⟩:=List.mem_map.mp hb
   obtain⟨h1,h2⟩:=List.mem_filter.mp hd
   obtain⟨x,hx,t⟩:=List.any_eq_true.mp h2
   exact⟨x,hx,((tchB_iff _ _).mp t).symm⟩
  .intro he x hx y hy ht
   rw[he,List.append_nil]at hx
   obtain⟨d,hd,rfl⟩:=List.mem_map.mp hy
   have hd1:=(List.mem_filter.mp hd).1
   have hp:p d=true:=List.any_eq_true.mpr ⟨x,hx,(tchB_iff _ _).mpr ht.symm⟩
   have:d∈ms.filter p:=List.mem_filter.mpr ⟨hd1,hp⟩
   rw[he]at this
   cases this
 .have hns:ns=[]:=by
   have:nx.isEmpty=true:=by
    cases h:nx.isEmpty with
    | true=>rfl
    | false=>rw[h]at hstop;exact absurd rfl hstop
   rw[List.isEmpty_iff.mp this]at lN
   exact List.length_eq_zero_iff.mp lN.symm
  refine⟨_,rfl,(by show 0<=sizeLine;decide),fun l hl=>?_⟩
  have sl:Same H' (upd H' l (.lst [])):=Same.fresh _ hl
  refine⟨.list ms,.list [],⟨M,mx,rfl,sl _ _ hM',repM.same sl⟩,⟨l,[],rfl,upd_same,rfl⟩,?_,?_⟩
  .have:PyData.depthAll ms<=2:=by
    clear repM lM lpm pm hcl
    induction ms with
    | nil=>simp[PyData.depthAll]
    | cons d t ih=>
     obtain⟨r,c,rfl⟩:=hms d (by simp)
     have:=ih fun e he=>hms e (by simp[he])
     simp[PyData.depthAll,PyData.depth]
     omega
   simp[PyData.depth]
   omega
  rw[if_neg Bool.false_ne_true]
  refine q _ _ (sm.trans sl) ?_
  have hem:PyData.eqv (.list ms) (.list [])=true↔ms=[]:=by
   cases ms with
   | nil=>simp[PyData.eqv,PyData.eqvAll]
   | cons d t=>simp[PyData.eqv,PyData.eqvAll]
  rw[hem]
  have pcl:((rs.map cl)++(ms.map cl)).Perm (cs.map cl):=by rw[<-List.map_append];exact pm.map cl
  constructor
  .intro e
   rw[e,List.map_nil,List.append_nil]at pcl
   exact con.congr fun x=>pcl.symm.mem_iff
  .intro hC
   have hall:=hC.closed (R:=rs.map cl) (fun x hx=>pcl.mem_iff.mp (List.mem_append_left _ hx)) ⟨_,List.getElem_mem (l:=rs.map cl) (n:=0) (by simpa using rpos)⟩ (fun x hx y hy t=>by
    rcases List.mem_append.mp (pcl.mem_iff.mpr hy)with h|h
    .exact h
    .exact absurd t (hcl hns x hx y h))
   have hnd':=pcl.nodup_iff.mpr hnd
   apply Classical.byContradiction
   intro hne
   obtain⟨d,hd⟩:=List.exists_mem_of_ne_nil ms hne
   have h1:=hall (cl d) (pcl.mem_iff.mp (List.mem_append_right _ (List.mem_map_of_mem hd)))
   exact(List.nodup_append.mp hnd').2.2 (cl d) h1 (cl d) (List.mem_map_of_mem hd) rfl
end
end K09
namespace HT
open PySem PyProof.Rows
section
variable{prog:Program}{w:World}{A:Around}{E:Value->Shared->Prop}{s:Shared}
theorem getItem_tuple_all{t sl:Addr}{items:Array Value}{vl vu:Value}{lo hi:Option Int}{Q:Value->Shared->Prop}(ht:IsTup s.heap t items)(hs:s.heap.IsSliceOf sl vl vu .none)(pl:IsPart vl lo)(pu:IsPart vu hi)
  (hw:sIx items.size 0 lo=0/\sIx items.size items.size hi=items.size) (h:Q (.ref t) s):wpAny (model prog w) A (getItem (.ref t) (.ref sl)) Q E s:=by
 obtain⟨os,hos,hcs,hds⟩:=id hs
 have hTs:s.TypeIs (.ref sl) "slice":=⟨os,hos,hcs⟩
 unfold getItem
 try with_reducible refine wpAny_holding ?_
 first|refine wpAny_bind (wpAny_pure ?_)|skip
 refine wpAny_bind (wpAny_sequenceKey ht.typeIs (by decide) ?_)
 refine wpAny_bind (wpAny_callSpecial?_slot (name:=Str.ofString "__getitem__") ht.typeIs PyProof.Rows.slot_tuple_getitem
  (wpAny_call_entry PyProof.Rows.slot_tuple_getitem ht.typeIs entry_tuple_getitem ?_ (args_tuple_getitem _ _)))
 show wpAny _ _ (Builtin.Tuple.tupleItemsOf (.ref t) >>= _) _ _ s
 refine wpAny_bind (tupleItemsOf_ ht ?_)
 refine wpAny_bind (wpAny_typeOf hTs ?_)
 rw[if_pos (by decide)]
 refine wpAny_bind (sliceApplied_gen hs pl pu ?_)
 have hyes:(((sIx items.size 0 lo:Nat):Int)==0&&(1:Int)==1&&(sIx items.size items.size hi-sIx items.size 0 lo)==items.size)=true:=by
  rw[hw.1,hw.2]
  simp
 show wpAny _ _ (if (((sIx items.size 0 lo:Nat):Int)==0&&(1:Int)==1&&(sIx items.size items.size hi-sIx items.size 0 lo)==items.size)=true then _ else _) _ _ s
 rw[if_pos hyes]
 refine wpAny_bind (m:=Builtin.Tuple.tupleIsExact _) ?_
 unfold Builtin.Tuple.tupleIsExact
 refine wpAny_bind (wpAny_typeOf ht.typeIs (wpAny_pure ?_))
 rw[if_pos (by decide)]
 exact wpAny_bind (wpAny_rule (wpAny_pure ⟨_,rfl,wpAny_pure h⟩))
end
end HT
namespace L3
open PySem PySem.Spec PyProof.Rows L2
section
variable{X:Cx}
noncomputable def rSlT2(K:PySem.W.Frag):V->Option Int->Option Int->Hp->VK->Prop:=fun x lo hi H Q=>∃a xs,x=.ref a/\SqT K H a xs/\
 ((HT.sIx xs.length 0 lo=0/\HT.sIx xs.length xs.length hi=xs.length)->Q (.ref a) H)/\(¬(HT.sIx xs.length 0 lo=0/\HT.sIx xs.length xs.length hi=xs.length)->∀p,H p=none->Q (.ref p) (upd H p (.tup (cutV xs lo hi))))
theorem sl_tup2:SlR X (rSlT2 X.K):=by
 intro pins s σ H x v vl vu lo hi sl Q I rx hs pl pu h
 obtain⟨a,xs,rfl,hx,q1,q2⟩:=h
 by_cases hw:HT.sIx xs.length 0 lo=0/\HT.sIx xs.length xs.length hi=xs.length
 .cases rx
  obtain⟨its,r,ht,hz⟩:=I.tuple hx
  have hlen:its.toArray.size=xs.length:=by rw[List.size_toArray];exact r.length.symm
  refine(x_EE ("tuple") _ ⟨PyProof.Rows.slot_tuple_getitem.lookup,ht.typeIs,?_⟩)
  exact HT.getItem_tuple_all ht hs pl pu (by rw[hlen];exact hw) (x_EE (.ref a) H ⟨I,rfl,q1 hw⟩)
 .exact sl_tup pins s σ H _ v vl vu lo hi sl Q I rx hs pl pu (x_EE a xs ⟨rfl,hx,hw,q2 hw⟩)
noncomputable def rNeE:R2:=fun x y H Q=>∃(p q:Addr) (xs:List V),x=.ref p/\y=.ref q/\H p=some (.lst xs)/\H q=some (.lst [])/\Q (.bl (!xs.isEmpty)) H
theorem op_neE(hu:X.A.units+64<cLine):OpR X (compareOp .NotEq) rNeE:=by
 intro pins s σ H x y v u Q I rx ry h
 obtain⟨p,q',xs,rfl,rfl,hp,hq,q⟩:=h
 cases rx
 cases ry
 obtain⟨its,r1,l1,_⟩:=I.list (SqL.of (K:=X.K) hp)
 obtain⟨its2,r2,l2,_⟩:=I.list (SqL.of (K:=X.K) hq)
 have e2:its2=[]:=List.length_eq_zero_iff.mp r2.length.symm
 subst e2
 have hl:=r1.length
 cases xs with
 | nil=>
  have e1:its=[]:=List.length_eq_zero_iff.mp r1.length.symm
  subst e1
  exact SeqAt.RcNeAt.lists (e:=fun _=>true) l1.isList l2.isList rfl (by omega) (fun j h1 h2=>absurd h1 (by simp)) X.prog X.w X.xe _ (x_EE (.bl _) H ⟨I,rfl,q⟩)
 | cons x t=>
  refine SeqAt.RcNeAt.lists_lengths l1.isList l2.isList ?_ (by omega) X.prog X.w X.xe _ (x_EE (.bl _) H ⟨I,rfl,q⟩)
  rw[List.size_toArray,<-hl]
  simp
end
end L3
namespace K09
open PySem PyProof.Rows L2 L3
noncomputable def nb(r c:Int):List Cl:=[(r,c+1),(r+1,c),(r,c-1),(r-1,c)]
theorem tch_nb{r c:Int}{b:Cl}(h:Tch (r,c) b):b∈nb r c:=by
 obtain⟨x,y⟩:=b
 unfold Tch at h
 simp only at h
 unfold nb
 simp only[List.mem_cons,Prod.mk.injEq,List.not_mem_nil,or_false]
 omega
theorem nb_tch{r c:Int}{b:Cl}(h:b∈nb r c):Tch (r,c) b:=by
 obtain⟨x,y⟩:=b
 unfold nb at h
 simp only[List.mem_cons,Prod.mk.injEq,List.not_mem_nil,or_false]at h
 unfold Tch
 simp only
 omega
theorem nodup_all{R S:List Cl}(hR:R.Nodup)(hs:∀x,x∈R->x∈S)(hl:S.length<=R.length):∀x,x∈S->x∈R:=fun x hx=>by
 apply Classical.byContradiction
 intro hn
 have h1:(x::R).Nodup:=List.nodup_cons.mpr ⟨hn,hR⟩
 have:=List.Nodup.length_le_of_subset h1 (l₂:=S) (fun y hy=>by
  rcases List.mem_cons.mp hy with rfl|hy
  .exact hx
  .exact hs y hy)
 rw[List.length_cons]at this
 omega
theorem nodup_of_many:∀{S R:List Cl},R.Nodup->(∀x,x∈R->x∈S)->S.length<=R.length->S.Nodup
 | [],_,_,_,_=>List.nodup_nil
 | a::S,R,hR,hs,hl=>by
  have hall:=nodup_all hR hs hl
  have hna:a∉S:=fun ha=>by
   have:=List.Nodup.length_le_of_subset hR (l₂:=S) (fun y hy=>by
    rcases List.mem_cons.mp (hs y hy)with rfl|h
    .exact ha
    .exact h)
   rw[List.length_cons]at hl
   omega
  refine List.nodup_cons.mpr ⟨hna,nodup_of_many (R:=R.erase a) (hR.erase a) (fun x hx=>?_) ?_⟩
  .have hx':=(List.Nodup.mem_erase_iff hR).mp hx
   rcases List.mem_cons.mp (hs x hx'.2)with e|h
   .exact absurd e hx'.1
   .exact h
  .rw[List.length_erase_of_mem (hall a List.mem_cons_self)]
   rw[List.length_cons]at hl
   omega
section
variable{P:Program}{w:World}{K:PySem.W.Frag}{mg:Str->Option Value}{base:Heap}{f:Addr}{fd:FuncData}
noncomputable def spHangs:Sp:=fun vs H Q _=>∃(a:Addr) (xs:List V) (cs:List PyData),vs=[.ref a]/\H a=some (.lst xs)/\RepAll H cs xs/\Cells cs/\(cs.map cl).Nodup/\0<cs.length/\cs.length<=6/\∀(b:Bool) (H':Hp),Same H H'->(b=true↔Conn (cs.map cl))->Q (.bl b) H'
theorem scHangs:FnScope ["_law_cells","_law_reached","_law_spot","_law_row","_law_column","_law_cell"] ["_law_cells"] (defScope sHangs):=⟨rfl,rfl,rfl,by decide +kernel,rfl,by decide +kernel,by decide +kernel⟩
theorem ok_hangs(B:∀x∈blts,mg x=none)(F:Fun K "_law_hangs" "_law_hangs" sHangs f fd):FnOk P w K mg base CX0 1 f fd ["_law_cells"] spHangs:=by
 refine F.ok (k:=0) scHangs (fun vs H Q E h=>?_) (fun cdv A outer s H vs Q E hr h=>?_)
 .obtain⟨a,xs,cs,rfl,_⟩:=h
  rfl
 obtain⟨a,xs,cs,rfl,ha,hrep,hcs,hnd,hpos,hsix,q⟩:=h
 have hu:=hr.units
 have hxl:=hrep.length
 have h0x:0<xs.length:=by omega
 obtain⟨b0,r0,c0,hv0,hb0,hd0⟩:=cells_at hcs hrep (List.getElem?_eq_getElem h0x)
 have hat0:atI xs ((0:Nat):Int)=some (.ref b0):=atI_nat (by rw[List.getElem?_eq_getElem h0x,hv0])
 refine⟨_,(pss_cons (ps_set (i:=1) scHangs.nd rfl (Or.inl rfl) (pe_lst (pa_c (pe_ix ix_list (pv 0) pe_int (fun _ _=>rfl)) pa_nil)))
  (pss_cons (ps_set (i:=2) scHangs.nd rfl (Or.inl rfl) pe_int)
  (pss_cons (ps_while PassesOwn.never (pt_cmpR op_lt (pv 2) (pe_cB call_len_seq rfl (B "len" (by decide)) PySem.boot_len (pa_c (pv 1) pa_nil)) (nomark _)) (pss_cons (ps_asg (pe_ix ix_list (pv 1) (pv 2) (fun _ _=>rfl)) (pg_tup (n:=2) rfl (pgs_cons (pg_name (i:=3) scHangs.nd rfl (Or.inl rfl)) (pgs_cons (pg_name (i:=4) scHangs.nd rfl (Or.inl rfl)) pgs_nil))))
  (pss_cons (ps_for PassesOwn.never rfl (pi_list (pe_lst (pa_c (pe_tup (pa_c (pv 3) (pa_c (pe_op op_add (pv 4) pe_int) pa_nil))) (pa_c (pe_tup (pa_c (pe_op op_add (pv 3) pe_int) (pa_c (pv 4) pa_nil))) (pa_c (pe_tup (pa_c (pv 3) (pa_c (pe_op op_sub (pv 4) pe_int) pa_nil))) (pa_c (pe_tup (pa_c (pe_op op_sub (pv 3) pe_int) (pa_c (pv 4) pa_nil))) pa_nil)))))) (pg_name (i:=5) scHangs.nd rfl (Or.inl rfl)) (pss_one (ps_if (PW.pt (pw_and (pt_cmpR (op_inD hu) (pv 5) (pv 0) rfl) (pw_and1 (pt_cmpR (op_notInD hu) (pv 5) (pv 1) rfl)))) (pss_one (ps_expr (pe_bm PySem.F.plainAttrs_list PySem.F.slot_list_append PySem.F.type_list_append mt_append (pv 1) (pa_c (pv 5) pa_nil)))) pss_nil)))
  (pss_one (ps_aug (i:=2) scHangs.nd rfl (Or.inl rfl) pe_int ip_add)))))
  (pss_one (ps_ret (pe_cmpR op_eq (pe_cB call_len_seq rfl (B "len" (by decide)) PySem.boot_len (pa_c (pv 1) pa_nil)) (pe_cB call_len_seq rfl (B "len" (by decide)) PySem.boot_len (pa_c (pv 0) pa_nil)) (nomark _))))))),?_⟩
 refine⟨_,rfl,a,xs,0,_,rfl,rfl,SqL.of ha,hat0,(by show 1<=sizeLine;decide),fun R hR=>?_⟩
 have naR:a≠R:=ne_of_none ha hR
 have R1:upd H R (.lst [.ref b0]) R=some (.lst [.ref b0]):=upd_same
 have s1:Same H (upd H R (.lst [.ref b0])):=Same.fresh _ hR
 have a1:=s1 _ _ ha
 have rep1:=hrep.same s1
 have cb1:=s1 _ _ hb0
 generalize upd H R (.lst [.ref b0])=H1 at *
 refine⟨fun m σ' H'=>∃(sp:Nat) (y3 y4 y5:Option V) (rs:List PyData) (rxs:List V),σ'=[some (.ref a),some (.ref R),some (.int (sp:Nat)),y3,y4,y5]/\Ex [R] H1 H'/\H' R=some (.lst rxs)/\RepAll H' rs rxs/\Cells rs/\(rs.map cl).Nodup/\(∀x,x∈rs.map cl->x∈cs.map cl)/\Conn (rs.map cl)/\0<rs.length/\
  (∀(i:Nat) (d:PyData),i<sp->rs[i]?=some d->∀x,x∈cs.map cl->Tch (cl d) x->x∈rs.map cl)/\m=cs.length-sp,?_,?_⟩
 .refine⟨_,0,none,none,none,[.tuple [.int r0,.int c0]],[.ref b0],rfl,Ex.refl _ _,R1,⟨_,_,rfl,cell_rep cb1,rfl⟩,fun d hd=>?_,by simp,fun x hx=>?_,Conn.one _,by simp,fun i d hi=>by omega,rfl⟩
  .rw[List.mem_singleton.mp hd];exact⟨_,_,rfl⟩
  .rw[List.mem_singleton.mp hx];exact List.mem_map.mpr ⟨_,List.mem_of_getElem? hd0,rfl⟩
 rintro m σ' H' ⟨sp,y3,y4,y5,rs,rxs,rfl,hex,hR',rep',hrs,hnd',hsub,hcon',hpos',hcl,rfl⟩
 have hrl:=rep'.length
 have hle:rs.length<=cs.length:=by
  have:=List.Nodup.length_le_of_subset hnd' (fun x hx=>hsub x hx)
  simpa using this
 have tk':Tk H1 H':=hex.one R1
 have a':H' a=some (.lst xs):=hex.at naR a1
 have repc:RepAll H' cs xs:=rep1.tk tk' hcs.imm
 refine⟨_,rfl,_,rfl,R,_,rfl,.inl (SqL.of hR'),_,_,rfl,rfl,_,rfl,?_⟩
 refine ite2 (fun hlt=>?_) (fun hge=>?_)
 .have hlt':sp<rxs.length:=by
   have:(sp:Int)<((rxs.length:Nat):Int):=of_decide_eq_true hlt
   omega
  refine⟨fun σ2 H2=>∃(z3 z4 z5:Option V) (rs2:List PyData) (rxs2:List V),σ2=[some (.ref a),some (.ref R),some (.int ((sp+1:Nat):Int)),z3,z4,z5]/\Ex [R] H1 H2/\H2 R=some (.lst rxs2)/\RepAll H2 rs2 rxs2/\Cells rs2/\(rs2.map cl).Nodup/\(∀x,x∈rs2.map cl->x∈cs.map cl)/\Conn (rs2.map cl)/\0<rs2.length/\
   (∀(i:Nat) (d:PyData),i<sp+1->rs2[i]?=some d->∀x,x∈cs.map cl->Tch (cl d) x->x∈rs2.map cl),?_,?_⟩
  .rintro σ2 H2 ⟨z3,z4,z5,rs2,rxs2,rfl,h1,h2,h3,h4,h5,h6,h7,h8,h9⟩
   exact⟨_,by omega,sp+1,z3,z4,z5,rs2,rxs2,rfl,h1,h2,h3,h4,h5,h6,h7,h8,h9,rfl⟩
  obtain⟨b,r,c,hv,hb,hdat⟩:=cells_at hrs rep' (List.getElem?_eq_getElem hlt')
  have hat:atI rxs ((sp:Nat):Int)=some (.ref b):=atI_nat (by rw[List.getElem?_eq_getElem hlt',hv])
  refine⟨_,rfl,_,rfl,R,rxs,_,_,rfl,rfl,SqL.of hR',hat,b,_,rfl,SqT.of hb,rfl,_,_,rfl,_,_,rfl,rfl,?_⟩
  refine⟨_,rfl,_,rfl,_,_,rfl,rfl,(by show 2<=sizeLine;decide),fun q1 hq1=>?_⟩
  refine⟨_,rfl,_,_,rfl,rfl,_,rfl,(by show 2<=sizeLine;decide),fun q2 hq2=>?_⟩
  refine⟨_,rfl,_,rfl,_,_,rfl,rfl,(by show 2<=sizeLine;decide),fun q3 hq3=>?_⟩
  refine⟨_,rfl,_,_,rfl,rfl,_,rfl,(by show 2<=sizeLine;decide),fun q4 hq4=>⟨(by show 4<=sizeLine;decide),fun q5 hq5=>?_⟩⟩
  have k1:upd H' q1 (.tup [.int r,.int (c+1)]) q1=some (.tup [.int r,.int (c+1)]):=upd_same
  have t1:Same H' (upd H' q1 (.tup [.int r,.int (c+1)])):=Same.fresh _ hq1
  generalize upd H' q1 (.tup [.int r,.int (c+1)])=G1 at *
  have k2:upd G1 q2 (.tup [.int (r+1),.int c]) q2=some (.tup [.int (r+1),.int c]):=upd_same
  have t2:Same G1 (upd G1 q2 (.tup [.int (r+1),.int c])):=Same.fresh _ hq2
  generalize upd G1 q2 (.tup [.int (r+1),.int c])=G2 at *
  have k3:upd G2 q3 (.tup [.int r,.int (c-1)]) q3=some (.tup [.int r,.int (c-1)]):=upd_same
  have t3:Same G2 (upd G2 q3 (.tup [.int r,.int (c-1)])):=Same.fresh _ hq3
  generalize upd G2 q3 (.tup [.int r,.int (c-1)])=G3 at *
  have k4:upd G3 q4 (.tup [.int (r-1),.int c]) q4=some (.tup [.int (r-1),.int c]):=upd_same
  have t4:Same G3 (upd G3 q4 (.tup [.int (r-1),.int c])):=Same.fresh _ hq4
  generalize upd G3 q4 (.tup [.int (r-1),.int c])=G4 at *
  have k5:upd G4 q5 (.lst [.ref q1,.ref q2,.ref q3,.ref q4]) q5=some (.lst [.ref q1,.ref q2,.ref q3,.ref q4]):=upd_same
  have t5:Same G4 (upd G4 q5 (.lst [.ref q1,.ref q2,.ref q3,.ref q4])):=Same.fresh _ hq5
  generalize upd G4 q5 (.lst [.ref q1,.ref q2,.ref q3,.ref q4])=HB at *
  have n5:q5≠R:=by
   have:=(((t1.trans t2).trans t3).trans t4) _ _ hR'
   exact(ne_of_none this hq5).symm
  have four:∀(i:Nat) (v:V),[V.ref q1,.ref q2,.ref q3,.ref q4][i]?=some v->∃(b:Addr) (p q:Int),v=.ref b/\HB b=some (.tup [.int p,.int q])/\(nb r c)[i]?=some (p,q):=by
   intro i v hv
   match i,hv with
   | 0,hv=>cases hv;exact⟨q1,r,c+1,rfl,t5 _ _ (t4 _ _ (t3 _ _ (t2 _ _ k1))),rfl⟩
   | 1,hv=>cases hv;exact⟨q2,r+1,c,rfl,t5 _ _ (t4 _ _ (t3 _ _ k2)),rfl⟩
   | 2,hv=>cases hv;exact⟨q3,r,c-1,rfl,t5 _ _ (t4 _ _ k3),rfl⟩
   | 3,hv=>cases hv;exact⟨q4,r-1,c,rfl,t5 _ _ k4,rfl⟩
   | i+4,hv=>simp at hv
  have sB:Same H' HB:=(((t1.trans t2).trans t3).trans t4).trans t5
  have RB:=sB _ _ hR'
  have repB:=rep'.same sB
  have repcB:=repc.same sB
  have aB:=sB _ _ a'
  refine⟨q5,rfl,⟨_,SqL.of k5⟩,?_⟩
  refine for_list (xs:=[V.ref q1,.ref q2,.ref q3,.ref q4]) (fun j σ2 H2=>∃(z5:Option V) (rs2 ex:List PyData) (rxs2:List V),σ2=[some (.ref a),some (.ref R),some (.int (sp:Nat)),some (.int r),some (.int c),z5]/\Ex [R] HB H2/\H2 R=some (.lst rxs2)/\RepAll H2 rs2 rxs2/\Cells rs2/\(rs2.map cl).Nodup/\(∀x,x∈rs2.map cl->x∈cs.map cl)/\Conn (rs2.map cl)/\rs2=rs++ex/\
   (∀(i:Nat) (x:Cl),i<j->(nb r c)[i]?=some x->x∈cs.map cl->x∈rs2.map cl)) ?_ (fun j σ2 H2 hj h=>?_) (fun j x σ2 H2 hx h=>?_) (fun σ2 H2 h=>?_)
  .exact⟨_,rs,[],rxs,rfl,Ex.refl _ _,RB,repB,hrs,hnd',hsub,hcon',by simp,fun i x hi=>by omega⟩
  .obtain⟨_,_,_,_,_,e2,_⟩:=h
   exact SqL.of (e2.at n5 k5)
  .obtain⟨z5,rs2,ex,rxs2,rfl,ex2,R2,rep2,hrs2,nd2,sub2,con2,e2,cl2⟩:=h
   obtain⟨b2,p,q',rfl,hb2,hnb⟩:=four j x hx
   have tk2:Tk HB H2:=ex2.one RB
   have b2':=tk2 _ _ hb2
   have a2:=ex2.at naR aB
   have rc2:=repcB.tk tk2 hcs.imm
   have hl2:=rep2.length
   have hle2:rs2.length<=cs.length:=by
    have:=List.Nodup.length_le_of_subset nd2 (fun x hx=>sub2 x hx)
    simpa using this
   refine⟨_,rfl,_,rfl,.tuple [.int p,.int q'],a,xs,cs,cell_rep b2',rfl,.inl a2,rc2,(by simp[PyData.depth,PyData.depthAll]),_,rfl,?_⟩
   refine ite2 (fun h1=>?_) (fun h1=>?_)
   .have inc:(p,q')∈cs.map cl:=(any_cell hcs p q').mp h1
    refine⟨_,rfl,_,rfl,.tuple [.int p,.int q'],R,rxs2,rs2,cell_rep b2',rfl,.inl R2,rep2,(by simp[PyData.depth,PyData.depthAll]),_,rfl,?_⟩
    refine ite2 (fun h2=>?_) (fun h2=>?_)
    .have nin:(p,q')∉rs2.map cl:=fun z=>by
      rw[if_pos rfl,(any_cell hrs2 p q').mpr z]at h2
      cases h2
     refine⟨_,rfl,.inl ⟨rfl,_,SqL.of R2⟩,_,rfl,R,rxs2,.ref b2,rfl,rfl,R2,small1000 (by omega),?_⟩
     have hrs3:Cells (rs2++[.tuple [.int p,.int q']]):=fun z hz=>by
      rcases List.mem_append.mp hz with h|h
      .exact hrs2 z h
      .rw[List.mem_singleton.mp h];exact⟨_,_,rfl⟩
     refine⟨_,rs2++[.tuple [.int p,.int q']],ex++[.tuple [.int p,.int q']],rxs2++[.ref b2],rfl,ex2.trans (Ex.upd (by simp)),upd_same,((rep2.snoc (cell_rep b2')).tk (Tk.lst R2) hrs3.imm),hrs3,?_,?_,?_,by rw[e2];simp,?_⟩
     .rw[List.map_append,List.nodup_append]
      refine⟨nd2,by simp,fun x hx y hy exy=>?_⟩
      rw[exy,List.mem_singleton.mp hy]at hx
      exact nin hx
     .intro x hx
      rw[List.map_append]at hx
      rcases List.mem_append.mp hx with h|h
      .exact sub2 x h
      .rw[List.mem_singleton.mp h];exact inc
     .rw[List.map_append]
      refine con2.snoc (a:=(r,c)) ?_ ?_
      .rw[e2,List.map_append]
       exact List.mem_append_left _ (List.mem_map.mpr ⟨_,List.mem_of_getElem? hdat,rfl⟩)
      .show Tch (r,c) (p,q')
       exact nb_tch (List.mem_of_getElem? hnb)
     .intro i x hi hxi hxc
      rw[List.map_append]
      by_cases hij:i<j
      .exact List.mem_append_left _ (cl2 i x hij hxi hxc)
      .have:i=j:=by omega
       rw[this,hnb]at hxi
       cases hxi
       exact List.mem_append_right _ (List.mem_singleton.mpr rfl)
    .have yin:(p,q')∈rs2.map cl:=by
      refine(any_cell hrs2 p q').mp ?_
      rw[if_pos rfl]at h2
      simpa using h2
     refine⟨_,rs2,ex,rxs2,rfl,ex2,R2,rep2,hrs2,nd2,sub2,con2,e2,fun i x hi hxi hxc=>?_⟩
     by_cases hij:i<j
     .exact cl2 i x hij hxi hxc
     .have:i=j:=by omega
      rw[this,hnb]at hxi
      cases hxi
      exact yin
   .refine⟨_,rs2,ex,rxs2,rfl,ex2,R2,rep2,hrs2,nd2,sub2,con2,e2,fun i x hi hxi hxc=>?_⟩
    by_cases hij:i<j
    .exact cl2 i x hij hxi hxc
    .have:i=j:=by omega
     rw[this,hnb]at hxi
     cases hxi
     exact absurd ((any_cell hcs p q').mpr hxc) h1
  .obtain⟨z5,rs2,ex,rxs2,rfl,ex2,R2,rep2,hrs2,nd2,sub2,con2,e2,cl2⟩:=h
   refine⟨_,rfl,_,_,rfl,rfl,?_⟩
   refine⟨_,_,_,rs2,rxs2,rfl,(hex.trans (Ex.of_same sB)).trans ex2,R2,rep2,hrs2,nd2,sub2,con2,by rw[e2];simp;omega,fun i d hi hdi x hxc hT=>?_⟩
   have hrl':sp<rs.length:=by omega
   by_cases hij:i<sp
   .rw[e2,List.getElem?_append_left (by omega)]at hdi
    have:=hcl i d hij hdi x hxc hT
    rw[e2,List.map_append]
    exact List.mem_append_left _ this
   .have ei:i=sp:=by omega
    rw[ei,e2,List.getElem?_append_left hrl',hdat]at hdi
    cases hdi
    have hT':Tch (r,c) x:=hT
    obtain⟨k,hk⟩:=List.getElem?_of_mem (tch_nb hT')
    have hk4:k<4:=(List.getElem?_eq_some_iff.mp hk).1
    exact cl2 k x hk4 hk hxc
 .have hge':rxs.length<=sp:=by
   have:¬(sp:Int)<((rxs.length:Nat):Int):=by simpa using hge
   omega
  have hclosed:∀x,x∈rs.map cl->∀y,y∈cs.map cl->Tch x y->y∈rs.map cl:=fun x hx y hy t=>by
   obtain⟨d,hd,rfl⟩:=List.mem_map.mp hx
   obtain⟨k,hk⟩:=List.getElem?_of_mem hd
   have hk':k<rs.length:=(List.getElem?_eq_some_iff.mp hk).1
   exact hcl k d (by omega) hk y hy t
  refine⟨_,rfl,R,_,rfl,.inl (SqL.of hR'),_,rfl,a,_,rfl,.inl (SqL.of a'),rfl,?_⟩
  refine q _ H' (fun b' o hb'=>hex.at (ne_of_none hb' hR) (s1 _ _ hb')) ?_
  rw[decide_eq_true_iff]
  constructor
  .intro e
   injection e with e
   have el:rs.length=cs.length:=by omega
   have back:∀x,x∈cs.map cl->x∈rs.map cl:=nodup_all hnd' hsub (by rw[List.length_map,List.length_map];omega)
   exact hcon'.congr fun x=>⟨back x,hsub x⟩
  .intro hC
   have all:=hC.closed (R:=rs.map cl) hsub ⟨_,List.getElem_mem (l:=rs.map cl) (n:=0) (by simpa using hpos')⟩ hclosed
   have el:(rs.map cl).length=(cs.map cl).length:=nodup_len hnd hnd' fun x=>⟨hsub x,all x⟩
   rw[List.length_map,List.length_map]at el
   rw[hrl,hxl,el]
end
noncomputable def cellD(d:PyData):PyData:=.tuple [.int (row1 d),.int (col1 d)]
theorem cellD_cl(ds:List PyData):(ds.map cellD).map cl=ds.map cl:=by
 rw[List.map_map]
 rfl
theorem cellD_cells(ds:List PyData):Cells (ds.map cellD):=fun d hd=>by
 obtain⟨e,_,rfl⟩:=List.mem_map.mp hd
 exact⟨_,_,rfl⟩
section
variable{K:PySem.W.Frag}{a:Addr}{xs:List V}{ds:List PyData}{σ:L2.St}{H:Hp}{Q:VK}
theorem read_projT{i0:Nat}(j:Int)(pr:PyData->Int)(hj:∀(r c:Int) (x:Str),atI [V.int r,.int c,.str x] j=some (.int (pr (.tuple [.int r,.int c,.str x]))))
  (hσ:σ[i0]?=some (some (.ref a))) (ha:H a=some (.tup xs)) (hr:RepAll H ds xs) (hs:Spots ds) (hl:ds.length<=64)
  (q:∀D H',Same H H'->H' D=some (.lst ((ds.map pr).map V.int))->Q (.ref D) H') :
  tComp (iTup K (tVar i0)) [none] (gName 0) tYes (tOp (rIxT K) (tVar 0) (tC (.int j))) σ H Q:=by
 have hlen:=hr.length
 refine⟨_,hσ,a,rfl,⟨_,SqT.of ha⟩,fun D hD=>?_⟩
 refine comp_tup (xs:=xs) (fun i ys H'=>Same H H'/\ys=((ds.take i).map pr).map V.int) ⟨Same.fresh _ hD,rfl⟩ (fun i ys H' p=>SqT.of (p.1 _ _ ha)) (fun i x ys H' hx hi hDy hyl p=>?_) (fun ys H' hDy hyl p=>?_)
 .obtain⟨p1,rfl⟩:=p
  obtain⟨b,r,c,z,rfl,hb,hz,hd⟩:=hs.at hr hx
  refine⟨Agree.set (Agree.refl _) rfl,?_⟩
  dsimp only[tYes]
  refine iteT ?_
  refine⟨_,rfl,b,_,_,_,rfl,rfl,SqT.of (p1 _ _ hb),hj r c z,nx_put (by omega) hDy hyl ⟨p1.new hD,?_⟩⟩
  rw[map_take_succ pr hd,List.map_append]
  rfl
 .obtain⟨p1,rfl⟩:=p
  refine q D H' p1 ?_
  rw[hDy,List.take_of_length_le (by omega)]
theorem read_shiftT{t l:Int}(hσ:σ[0]?=some (some (.ref a)))(h1:σ[1]?=some (some (.int t)))(h2:σ[2]?=some (some (.int l)))(ha:H a=some (.tup xs))(hr:RepAll H ds xs)(hs:Spots ds)(hl:ds.length<64)
  (q:∀D ys H',Same H H'->H' D=some (.lst ys)->RepAll H' (ds.map (shift1 t l)) ys->Q (.ref D) H') :
  tComp (iTup K (tVar 0)) [none,none,none,some 1,some 2] (gTup K 3 (gCons (gName 0) (gCons (gName 1) (gCons (gName 2) gNil)))) tYes
   (tTup (tCons (tOp (rI0 fun i j=>.int (i-j)) (tVar 0) (tVar 3)) (tCons (tOp (rI0 fun i j=>.int (i-j)) (tVar 1) (tVar 4)) (tCons (tVar 2) tNil)))) σ H Q:=by
 have hlen:=hr.length
 refine⟨_,hσ,a,rfl,⟨_,SqT.of ha⟩,fun D hD=>?_⟩
 have hp:picks [none,none,none,some 1,some 2] σ=[none,none,none,some (.int t),some (.int l)]:=by
  unfold picks
  simp[h1,h2]
 refine comp_tup (xs:=xs) (fun i ys H'=>Same H H'/\RepAll H' ((ds.take i).map (shift1 t l)) ys) ⟨Same.fresh _ hD,rfl⟩ (fun i ys H' p=>SqT.of (p.1 _ _ ha)) (fun i x ys H' hx hi hDy hyl p=>?_) (fun ys H' hDy hyl p=>?_)
 .obtain⟨p1,p2⟩:=p
  obtain⟨b,r,c,z,rfl,hb,hz,hd⟩:=hs.at hr hx
  rw[hp]
  refine⟨b,_,rfl,SqT.of (p1 _ _ hb),rfl,_,_,rfl,_,_,rfl,_,_,rfl,rfl,?_⟩
  refine⟨Agree.set (Agree.set (Agree.set (Agree.refl _) rfl) rfl) rfl,?_⟩
  dsimp only[tYes]
  refine iteT ?_
  refine⟨_,rfl,_,rfl,_,_,rfl,rfl,_,rfl,_,rfl,_,_,rfl,rfl,_,rfl,(by show 3<=sizeLine;decide),fun n hn=>?_⟩
  have im:immAll (((ds.take i).map (shift1 t l))++[.tuple [.int (r-t),.int (c-l),.str z]])=true:=immAll_of fun d hd'=>by
   rcases List.mem_append.mp hd' with h|h
   .obtain⟨d0,h0,rfl⟩:=List.mem_map.mp h
    obtain⟨r0,c0,x0,rfl⟩:=hs d0 (List.mem_of_mem_take h0)
    rfl
   .rw[List.mem_singleton.mp h];rfl
  have hs1:Same H' (upd H' n (.tup [.int (r-t),.int (c-l),.str z])):=Same.fresh _ hn
  have hDn:=hs1 _ _ hDy
  have hs2:RepAll (upd H' n (.tup [.int (r-t),.int (c-l),.str z])) (((ds.take i).map (shift1 t l))++[.tuple [.int (r-t),.int (c-l),.str z]]) (ys++[.ref n]):=(p2.same hs1).snoc (spot_rep upd_same hz)
  refine nx_put (by omega) hDn hyl ⟨(p1.trans hs1).new hD,?_⟩
  rw[map_take_succ (shift1 t l) hd]
  exact hs2.tk (Tk.lst hDn) im
 .obtain⟨p1,p2⟩:=p
  rw[List.take_of_length_le (by omega)]at p2
  exact q D ys H' p1 hDy p2
theorem read_rcT{i0:Nat}(hσ:σ[i0]?=some (some (.ref a)))(ha:H a=some (.tup xs))(hr:RepAll H ds xs)(hs:Spots ds)(hl:ds.length<=64)
  (q:∀D ys H',Same H H'->H' D=some (.lst ys)->RepAll H' (ds.map cellD) ys->Q (.ref D) H') :
  tComp (iTup K (tVar i0)) [none,none,none] (gTup K 3 (gCons (gName 0) (gCons (gName 1) (gCons (gName 2) gNil)))) tYes (tTup (tCons (tVar 0) (tCons (tVar 1) tNil))) σ H Q:=by
 have hlen:=hr.length
 refine⟨_,hσ,a,rfl,⟨_,SqT.of ha⟩,fun D hD=>?_⟩
 refine comp_tup (xs:=xs) (fun i ys H'=>Same H H'/\RepAll H' ((ds.take i).map cellD) ys) ⟨Same.fresh _ hD,rfl⟩ (fun i ys H' p=>SqT.of (p.1 _ _ ha)) (fun i x ys H' hx hi hDy hyl p=>?_) (fun ys H' hDy hyl p=>?_)
 .obtain⟨p1,p2⟩:=p
  obtain⟨b,r,c,z,rfl,hb,hz,hd⟩:=hs.at hr hx
  refine⟨b,_,rfl,SqT.of (p1 _ _ hb),rfl,_,_,rfl,_,_,rfl,_,_,rfl,rfl,?_⟩
  refine⟨Agree.set (Agree.set (Agree.set (Agree.refl _) rfl) rfl) rfl,?_⟩
  dsimp only[tYes]
  refine iteT ?_
  refine⟨_,rfl,_,rfl,(by show 2<=sizeLine;decide),fun n hn=>?_⟩
  have im:immAll (((ds.take i).map cellD)++[.tuple [.int r,.int c]])=true:=Cells.imm fun d hd'=>by
   rcases List.mem_append.mp hd' with h|h
   .exact cellD_cells _ d h
   .rw[List.mem_singleton.mp h];exact⟨_,_,rfl⟩
  have hs1:Same H' (upd H' n (.tup [.int r,.int c])):=Same.fresh _ hn
  have hDn:=hs1 _ _ hDy
  have hs2:RepAll (upd H' n (.tup [.int r,.int c])) (((ds.take i).map cellD)++[.tuple [.int r,.int c]]) (ys++[.ref n]):=(p2.same hs1).snoc (cell_rep upd_same)
  refine nx_put (by omega) hDn hyl ⟨(p1.trans hs1).new hD,?_⟩
  rw[map_take_succ cellD hd]
  exact hs2.tk (Tk.lst hDn) im
 .obtain⟨p1,p2⟩:=p
  rw[List.take_of_length_le (by omega)]at p2
  exact q D ys H' p1 hDy p2
end
noncomputable def FormP(H:Hp)(v:V):Prop:=∃a xs ds,v=.ref a/\H a=some (.tup xs)/\RepAll H ds xs/\Frm ds
theorem spot_true{H:Hp}{d:PyData}{x:V}(h:Rep H d x)(hd:SgD d):spotB H x=true:=by
 obtain⟨r,c,k,rfl,h1,h2⟩:=hd
 obtain⟨a,rfl,ha,_⟩:=rep_spot h
 rw[spotB_ref,ha]
 show spot3 (.int r) (.int c) (.str ⟨#[k]⟩)=true
 show(true&&true&&(decide (65<=k)&&decide (k<=90)))=true
 rw[decide_eq_true h1,decide_eq_true h2]
 rfl
theorem spot_of{H:Hp}{x:V}(h:spotB H x=true):∃d,Rep H d x/\SgD d:=by
 cases x with
 | ref a=>
  rw[spotB_ref]at h
  split at h
  .rename_i x y z ha
   unfold spot3 at h
   rw[Bool.and_eq_true,Bool.and_eq_true]at h
   obtain⟨⟨hx,hy⟩,hz⟩:=h
   cases x with
   | int r=>
    cases y with
    | int c=>
     cases z with
     | str z=>
      have hz':sg1 z=true:=hz
      by_cases hl:z.length=1
      .obtain⟨k,rfl⟩:=one_of hl
       rw[sg1_one,Bool.and_eq_true]at hz'
       have k1:=of_decide_eq_true hz'.1
       have k2:=of_decide_eq_true hz'.2
       refine⟨.tuple [.int r,.int c,.str ⟨#[k]⟩],spot_rep ha (Tx.ok ⟨by show 1<=80;omega,fun x hx=>by
        have:x=k:=by simpa using hx
        omega⟩),r,c,k,rfl,k1,k2⟩
      .rw[sg1_not hl]at hz';cases hz'
     | _=>cases hz
    | _=>cases hy
   | _=>cases hx
  .cases h
 | _=>cases h
theorem spots_of{H:Hp}:∀{xs:List V},xs.all (spotB H)=true->∃ds,RepAll H ds xs/\∀d∈ds,SgD d
 | [],_=>⟨[],rfl,fun d hd=>by cases hd⟩
 | x::xs,h=>by
  rw[List.all_cons,Bool.and_eq_true]at h
  obtain⟨d,h1,h2⟩:=spot_of h.1
  obtain⟨ds,h3,h4⟩:=spots_of h.2
  refine⟨d::ds,⟨x,xs,rfl,h1,h3⟩,fun e he=>?_⟩
  rcases List.mem_cons.mp he with rfl|he
  .exact h2
  .exact h4 e he
theorem all_spots{H:Hp}:∀{ds:List PyData} {xs:List V},RepAll H ds xs->(∀d∈ds,SgD d)->xs.all (spotB H)=true
 | [],xs,h,_=>by have e:xs=[]:=h;rw[e];rfl
 | d::ds,xs,h,hs=>by
  obtain⟨x,t,rfl,h1,h2⟩:=h
  rw[List.all_cons,spot_true h1 (hs d List.mem_cons_self),all_spots h2 fun e he=>hs e (List.mem_cons_of_mem _ he)]
  rfl
theorem rep_inj{H:Hp}:∀{ds es:List PyData} {xs:List V},RepAll H ds xs->RepAll H es xs->(∀d∈ds,SgD d)->(∀d∈es,SgD d)->ds=es
 | [],[],_,_,_,_,_=>rfl
 | [],e::es,xs,h1,h2,_,_=>by
  have e1:xs=[]:=h1
  obtain⟨x,t,e2,_⟩:=h2
  rw[e1]at e2;cases e2
 | d::ds,[],xs,h1,h2,_,_=>by
  have e1:xs=[]:=h2
  obtain⟨x,t,e2,_⟩:=h1
  rw[e1]at e2;cases e2
 | d::ds,e::es,xs,h1,h2,s1,s2=>by
  obtain⟨x,t,rfl,a1,b1⟩:=h1
  obtain⟨x',t',e',a2,b2⟩:=h2
  cases e'
  obtain⟨r,c,k,rfl,_⟩:=s1 d List.mem_cons_self
  obtain⟨r',c',k',rfl,_⟩:=s2 e List.mem_cons_self
  obtain⟨p,rfl,hp,_⟩:=rep_spot a1
  obtain⟨p',ep,hp',_⟩:=rep_spot a2
  cases ep
  rw[hp]at hp'
  cases hp'
  rw[rep_inj b1 b2 (fun z hz=>s1 z (List.mem_cons_of_mem _ hz)) (fun z hz=>s2 z (List.mem_cons_of_mem _ hz))]
theorem FormP.same{H H':Hp}{a:Addr}{xs:List V}{ds:List PyData}(ha:H a=some (.tup xs))(rep:RepAll H ds xs)(hs:∀d∈ds,SgD d):FormP H (.ref a)↔Frm ds:=by
 constructor
 .rintro⟨b,ys,es,e,hb,r,fr⟩
  cases e
  rw[ha]at hb
  cases hb
  rw[rep_inj rep r hs fr.1.pre.sg]
  exact fr
 .intro h
  exact⟨a,xs,ds,rfl,ha,rep,h⟩
theorem frm_shift{ds:List PyData}(h:Frm ds):sortD (shiftD ds)=ds:=by
 have e:shiftD ds=ds:=by
  unfold shiftD
  rw[h.1.r0,h.1.c0]
  refine(List.map_congr_left fun d hd=>?_).trans (List.map_id ds)
  obtain⟨r,c,k,rfl,_⟩:=h.1.pre.sg d hd
  show PyData.tuple [.int (r-0),.int (c-0),.str ⟨#[k]⟩]=_
  rw[Int.sub_zero,Int.sub_zero]
  rfl
 rw[e]
 exact sort_eq h (List.Perm.refl _)
theorem frm_of{ds:List PyData}(pre:Pre ds)(e:sortD (shiftD ds)=ds):Frm ds:=by
 have hz:=Zr.shift pre
 have h:=Frm.of hz
 rw[e]at h
 exact h
theorem kd_sg{ds:List PyData}(h:∀d∈ds,SgD d):kdAll ds=true:=by
 induction ds with
 | nil=>rfl
 | cons d t ih=>
  obtain⟨r,c,k,rfl,_⟩:=h d List.mem_cons_self
  show(kd _&&kdAll t)=true
  rw[ih fun e he=>h e (List.mem_cons_of_mem _ he)]
  rfl
theorem depth_sg{ds:List PyData}(h:∀d∈ds,SgD d):PyData.depthAll ds<=2:=by
 induction ds with
 | nil=>simp[PyData.depthAll]
 | cons d t ih=>
  obtain⟨r,c,k,rfl,_⟩:=h d (by simp)
  have:=ih fun e he=>h e (by simp[he])
  simp[PyData.depthAll,PyData.depth]
  omega
theorem cell_key(d:PyData):KeyD (cellD d):=⟨rfl,⟨_,rfl⟩,by show(PyData.tuple [.int _,.int _]).depth<8;simp[PyData.depth,PyData.depthAll]⟩
section
variable{P:Program}{w:World}{K:PySem.W.Frag}{mg:Str->Option Value}{base:Heap}{f:Addr}{fd:FuncData}
noncomputable abbrev G6(mg:Str->Option Value):Prop:=∃t,mg "MOST_SPOTS" = some (.int 6 t)
noncomputable def spFmd:Sp:=fun vs H Q _=>∃a xs ds,vs=[.ref a]/\H a=some (.tup xs)/\RepAll H ds xs/\Spots ds/\0<ds.length/\ds.length<64/\∀r H',Same H H'->Rep H' (.tuple (sortD (shiftD ds))) (.ref r)->Q (.ref r) H'
theorem scFmd:FnScope ["spots","top","left"] ["spots"] (defScope sFmd):=⟨rfl,rfl,rfl,by decide +kernel,rfl,by decide +kernel,by decide +kernel⟩
theorem ok_fmd(B:∀x∈blts,mg x=none)(F:Fun K "formed" "formed" sFmd f fd):FnOk P w K mg base CX0 1 f fd ["spots"] spFmd:=by
 refine F.ok (k:=0) scFmd (fun vs H Q E h=>?_) (fun cdv A outer s H vs Q E hr h=>?_)
 .obtain⟨a,xs,ds,rfl,_⟩:=h
  rfl
 obtain⟨a,xs,ds,rfl,ha,hrep,hs,hpos,h64,q⟩:=h
 refine⟨_,(pss_cons (ps_set (i:=1) scFmd.nd rfl (Or.inr rfl) (pe_minD rfl rfl (B "min" (by decide)) (pa_c (pe_comp ["spot"] [none] rfl rfl (by decide +kernel) (by decide +kernel) rfl rfl (pi_tup (pv 0)) (fun _=>(pg_name (i:=0) (show(["spot"]:List PySem.Str).Nodup by decide +kernel) rfl (Or.inl rfl))) (fun _=>pts_nil) (fun _=>(pe_ix ix_tupC (pv 0) pe_int (fun _ _=>rfl)))) pa_nil) (pk_cons pe_int pk_nil)))
  (pss_cons (ps_set (i:=2) scFmd.nd rfl (Or.inr rfl) (pe_minD rfl rfl (B "min" (by decide)) (pa_c (pe_comp ["spot"] [none] rfl rfl (by decide +kernel) (by decide +kernel) rfl rfl (pi_tup (pv 0)) (fun _=>(pg_name (i:=0) (show(["spot"]:List PySem.Str).Nodup by decide +kernel) rfl (Or.inl rfl))) (fun _=>pts_nil) (fun _=>(pe_ix ix_tupC (pv 0) pe_int (fun _ _=>rfl)))) pa_nil) (pk_cons pe_int pk_nil)))
  (pss_one (ps_ret (pe_cT call_tuple_of rfl (B "tuple" (by decide)) boot_tuple (pa_c (pe_cB call_sortedD rfl (B "sorted" (by decide)) boot_sorted (pa_c (pe_comp ["row","column","sign","top","left"] [none,none,none,some 1,some 2] rfl rfl (by decide +kernel) (by decide +kernel) rfl rfl (pi_tup (pv 0)) (fun _=>(pg_tupC (n:=3) rfl (pgs_cons (pg_name (i:=0) (show(["row","column","sign","top","left"]:List PySem.Str).Nodup by decide +kernel) rfl (Or.inl rfl)) (pgs_cons (pg_name (i:=1) (show(["row","column","sign","top","left"]:List PySem.Str).Nodup by decide +kernel) rfl (Or.inl rfl)) (pgs_cons (pg_name (i:=2) (show(["row","column","sign","top","left"]:List PySem.Str).Nodup by decide +kernel) rfl (Or.inl rfl)) pgs_nil))))) (fun _=>pts_nil) (fun _=>(pe_tup (pa_c (pe_op op_sub (pv 0) (pv 3)) (pa_c (pe_op op_sub (pv 1) (pv 4)) (pa_c (pv 2) pa_nil)))))) pa_nil)) pa_nil)))))),?_⟩
 refine read_projT 0 row1 row_at rfl ha hrep hs (Nat.le_of_lt h64) fun D1 H1 s1 hD1=>?_
 refine⟨rfl,D1,_,rfl,hD1,by rw[List.length_map];exact hpos,fun M1 m1 m1'=>?_⟩
 refine read_projT 1 col1 col_at rfl (s1 _ _ ha) (hrep.same s1) hs (Nat.le_of_lt h64) fun D2 H2 s2 hD2=>?_
 refine⟨rfl,D2,_,rfl,hD2,by rw[List.length_map];exact hpos,fun M2 m2 m2'=>?_⟩
 have s12:=s1.trans s2
 refine read_shiftT rfl rfl rfl (s12 _ _ ha) (hrep.same s12) hs h64 fun D ys H' hsame hD hrep'=>?_
 refine⟨D,ys,_,[true,false],rfl,hD,hrep',shift_rows hs _ _,by rw[List.length_map];exact h64,fun l1 zs hl1 hz=>?_⟩
 refine⟨l1,zs,rfl,.inl ⟨SqL.of upd_same,fun l2 hl2=>?_⟩⟩
 have t1:Same H' (upd H' l1 (.lst zs)):=Same.fresh _ hl1
 have t2:Same (upd H' l1 (.lst zs)) (upd (upd H' l1 (.lst zs)) l2 (.tup zs)):=Same.fresh _ hl2
 refine q l2 _ (((s12.trans hsame).trans t1).trans t2) ⟨l2,zs,rfl,upd_same,?_⟩
 have e:ds.map (shift1 M1 M2)=shiftD ds:=by unfold shiftD;rw[minI_eq m1 m1',minI_eq m2 m2']
 rw[e]at hz
 exact hz.same t2
noncomputable def spPf:Sp:=fun vs H Q _=>∃v,vs=[v]/\Kn3 H v/\∀(b:Bool) (H':Hp),Same H H'->(b=true↔FormP H v)->Q (.bl b) H'
theorem scPf:FnScope ["found","cells"] ["found"] (defScope sPf):=⟨rfl,rfl,rfl,by decide +kernel,rfl,by decide +kernel,by decide +kernel⟩
theorem no_iff{A:Prop}(h:¬A):(false=true↔A):=⟨(fun z=>by cases z),fun z=>absurd z h⟩
theorem ok_pf(B:∀x∈blts,mg x=none)(g6:G6 mg)(Fpsp:Fn P w K mg base "is_spot" 2 ["found"] spSp)(Ffmd:Fn P w K mg base "formed" 1 ["spots"] spFmd)(Fph:Fn P w K mg base "hang_together" 3 ["cells"] spPh)
  (F:Fun K "is_form" "is_form" sPf f fd):FnOk P w K mg base CX0 4 f fd ["found"] spPf:=by
 refine F.ok (k:=3) scPf (fun vs H Q E h=>?_) (fun cdv A outer s H vs Q E hr h=>?_)
 .obtain⟨c,rfl,_⟩:=h
  rfl
 obtain⟨v,rfl,hv,q⟩:=h
 have hu:=hr.units
 refine⟨_,(pss_cons (ps_if (PW.pt (pw_or (pt_not (pt_val (pe_cB call_isinst rfl (B "isinstance" (by decide)) boot_isinstance (pa_c (pv 0) (pa_c (pe_bltn (v:=.ty "tuple") rfl (B "tuple" (by decide)) boot_tuple rfl) pa_nil))))) (pw_or1 (pt_not (pt_chain op_le op_le pe_int (pe_cB call_len_seq rfl (B "len" (by decide)) PySem.boot_len (pa_c (pv 0) pa_nil)) (pe_globI g6 rfl)))))) (pss_one (ps_ret pe_bl)) pss_nil)
  (pss_cons (ps_if (pt_not (pt_val (pe_cB (call_all rfl) rfl (B "all" (by decide)) boot_all (pa_c (pe_comp ["spot"] [none] rfl rfl (by decide +kernel) (by decide +kernel) rfl rfl (pi_tup (pv 0)) (fun _=>(pg_name (i:=0) (show(["spot"]:List PySem.Str).Nodup by decide +kernel) rfl (Or.inl rfl))) (fun _=>pts_nil) (fun _=>(pe_fn Fpsp hr (by decide) rfl (pa_c (pv 0) pa_nil)))) pa_nil)))) (pss_one (ps_ret pe_bl)) pss_nil)
  (pss_cons (ps_setC (i:=1) ["row","column","sign"] [none,none,none] scPf.nd rfl (Or.inl rfl) rfl rfl rfl (by decide +kernel) (by decide +kernel) rfl rfl (pi_tup (pv 0)) (fun _=>(pg_tupC (n:=3) rfl (pgs_cons (pg_name (i:=0) (show(["row","column","sign"]:List PySem.Str).Nodup by decide +kernel) rfl (Or.inl rfl)) (pgs_cons (pg_name (i:=1) (show(["row","column","sign"]:List PySem.Str).Nodup by decide +kernel) rfl (Or.inl rfl)) (pgs_cons (pg_name (i:=2) (show(["row","column","sign"]:List PySem.Str).Nodup by decide +kernel) rfl (Or.inl rfl)) pgs_nil))))) (fun _=>pts_nil) (fun _=>(pe_tup (pa_c (pv 0) (pa_c (pv 1) pa_nil)))))
  (pss_cons (ps_if (pt_cmpR op_lt (pe_lenset rfl hu rfl (B "len" (by decide)) rfl (B "set" (by decide)) (pa_c (pv 1) pa_nil)) (pe_cB call_len_seq rfl (B "len" (by decide)) PySem.boot_len (pa_c (pv 1) pa_nil)) (nomark _)) (pss_one (ps_ret pe_bl)) pss_nil)
  (pss_one (ps_ret (pe_and (pe_cmpR (op_eqD hu) (pv 0) (pe_fn Ffmd hr (by decide) rfl (pa_c (pv 0) pa_nil)) (nomark _)) (pe_one (pe_fn Fph hr (by decide) rfl (pa_c (pv 1) pa_nil)))))))))),?_⟩
 rcases kn_tup (K:=K) hv.1 with ⟨a,xs,rfl,ha⟩|⟨⟨t,ty,kt⟩,_,hno⟩
 .obtain⟨h60,kn⟩:=hv.2 a xs rfl ha
  have no:(1<=xs.length->xs.length<=6->False)->¬FormP H (.ref a):=fun hx ⟨b,ys,ds,e,hb,r,fr⟩=>by
   cases e
   rw[ha]at hb
   cases hb
   have:=r.length
   have h1:=fr.1.pre.pos
   have h6:=fr.1.pre.six
   exact hx (by omega) (by omega)
  refine⟨_,rfl,.ref a,"tuple",.type "tuple",true,rfl,.tup ha,rfl,true,rfl,iteF ?_⟩
  refine⟨_,rfl,a,xs,rfl,.inr (SqT.of ha),_,_,rfl,rfl,_,rfl,?_⟩
  refine ite2 (fun c1=>?_) (fun c1=>?_)
  .have c1':(1:Int)<=(xs.length:Int):=of_decide_eq_true c1
   refine⟨_,_,rfl,rfl,_,rfl,?_⟩
   refine ite2 (fun c2=>?_) (fun c2=>?_)
   .have c2':¬((xs.length:Int)<=6):=by simpa using c2
    exact q false H (Same.refl H) (no_iff (no fun _ h=>by omega))
   have c2':(xs.length:Int)<=6:=by simpa using c2
   refine⟨_,rfl,a,rfl,⟨_,SqT.of ha⟩,fun D hD=>?_⟩
   refine comp_tup (xs:=xs) (fun i ys H'=>Same H H'/\ys=((xs.take i).map (spotB H)).map V.bl) ⟨Same.fresh _ hD,rfl⟩ (fun i ys H' p=>SqT.of (p.1 _ _ ha)) (fun i x ys H' hx hi hDy hyl p=>?_) (fun ys H' hDy hyl p=>?_)
   .obtain⟨p1,rfl⟩:=p
    have kx:=kn x (List.mem_of_getElem? hx)
    refine⟨Agree.set (Agree.refl _) rfl,?_⟩
    dsimp only[tYes]
    refine iteT ?_
    refine⟨_,rfl,x,rfl,kx.same p1,nx_put (by omega) hDy hyl ⟨p1.new hD,?_⟩⟩
    rw[map_take_succ (spotB H) hx,List.map_append,spotB_same p1 kx.1]
    rfl
   obtain⟨p1,rfl⟩:=p
   refine⟨D,_,rfl,hDy,_,rfl,?_⟩
   rw[List.take_of_length_le (Nat.le_refl _),List.all_map]
   have eall:(xs.all (id∘spotB H))=xs.all (spotB H):=rfl
   rw[eall]
   cases hall:xs.all (spotB H)with
   | false=>
    refine iteT ?_
    refine q false H' p1 (no_iff fun⟨b,ys,ds,e,hb,r,fr⟩=>?_)
    cases e
    rw[ha]at hb
    cases hb
    rw[all_spots r fr.1.pre.sg]at hall
    cases hall
   | true=>
    refine iteF ?_
    obtain⟨ds,rep,hsg⟩:=spots_of hall
    have hF:=FormP.same (H':=H) ha rep hsg
    have hlen:=rep.length
    have hsp:=sg_spots hsg
    refine read_rcT rfl (p1 _ _ ha) (rep.same p1) hsp (by omega) fun C cys H2 s2 hC repC=>?_
    have s12:=p1.trans s2
    have lC:=repC.length
    rw[List.length_map]at lC
    refine⟨_,rfl,C,cys,ds.map cellD,rfl,hC,repC,(fun d hd=>by obtain⟨e,_,rfl⟩:=List.mem_map.mp hd;exact cell_key e),by rw[List.length_map];omega,fun ds' nd' mem' le'=>?_⟩
    refine⟨_,rfl,C,cys,rfl,.inl (SqL.of hC),_,_,rfl,rfl,_,rfl,?_⟩
    have inj':(ds'.map cl).Nodup:=by
     show List.Pairwise _ _
     rw[List.pairwise_map]
     refine List.Pairwise.imp_of_mem ?_ nd'
     intro x y hx hy hxy e
     exact hxy (cell_inj (cellD_cells ds x ((mem' x).mp hx)) (cellD_cells ds y ((mem' y).mp hy)) e)
    have mem2:∀x,x∈ds'.map cl↔x∈ds.map cl:=fun x=>by
     rw[<-cellD_cl ds]
     constructor
     .intro h
      obtain⟨d,hd,rfl⟩:=List.mem_map.mp h
      exact List.mem_map_of_mem ((mem' d).mp hd)
     .intro h
      obtain⟨d,hd,rfl⟩:=List.mem_map.mp h
      exact List.mem_map_of_mem ((mem' d).mpr hd)
    refine ite2 (fun hlt=>?_) (fun hge=>?_)
    .have hlt':(ds'.length:Int)<(cys.length:Int):=of_decide_eq_true hlt
     refine q false H2 s12 (no_iff fun h=>?_)
     have fr:=hF.mp h
     have el:=nodup_len fr.1.pre.nd inj' mem2
     rw[List.length_map,List.length_map]at el
     omega
    .have hge':¬(ds'.length:Int)<(cys.length:Int):=by simpa using hge
     have hnd:(ds.map cl).Nodup:=nodup_of_many inj' (fun x hx=>(mem2 x).mp hx) (by rw[List.length_map,List.length_map];omega)
     have h1:0<ds.length:=by omega
     have h6:ds.length<=6:=by omega
     refine⟨_,rfl,_,rfl,a,xs,ds,rfl,s12 _ _ ha,rep.same s12,hsp,h1,by omega,fun r H5 s5 rep5=>?_⟩
     have s15:=s12.trans s5
     refine⟨.tuple ds,_,⟨a,xs,rfl,s15 _ _ ha,rep.same s15⟩,rep5,?_,_,rfl,?_⟩
     .have:=depth_sg hsg
      simp[PyData.depth]
      omega
     rw[show(if false=true then !PyData.eqv (.tuple ds) (.tuple (sortD (shiftD ds)))else PyData.eqv (.tuple ds) (.tuple (sortD (shiftD ds))))=PyData.eqv (.tuple ds) (.tuple (sortD (shiftD ds)))from if_neg Bool.false_ne_true]
     have hsg':∀d∈sortD (shiftD ds),SgD d:=fun d hd=>by
      obtain⟨d0,h0,rfl⟩:=List.mem_map.mp ((sortD_perm _).mem_iff.mp hd)
      exact sg_shift _ _ (hsg d0 h0)
     cases heq:PyData.eqv (.tuple ds) (.tuple (sortD (shiftD ds)))with
     | false=>
      refine iteF ?_
      refine q false H5 s15 (no_iff fun h=>?_)
      have fr:=hF.mp h
      rw[frm_shift fr,SeqAt.eqv_refl _ (show(PyData.tuple ds).canLay0=true from rep.lay)]at heq
      cases heq
     | true=>
      refine iteT ?_
      have e:ds=sortD (shiftD ds):=by
       have:=eqv_kd _ _ (show kd (.tuple ds)=true from kd_sg hsg) (show kd (.tuple _)=true from kd_sg hsg') heq
       injection this
      refine⟨_,rfl,C,cys,ds.map cellD,rfl,s5 _ _ hC,repC.same s5,cellD_cells ds,by rw[cellD_cl];exact hnd,by rw[List.length_map];exact h1,by rw[List.length_map];exact h6,fun b H6 s6 hb=>?_⟩
      refine q b H6 (s15.trans s6) ?_
      rw[hb,cellD_cl,hF]
      exact⟨fun hc=>frm_of ⟨hsg,h1,h6,hc,hnd⟩ e.symm,fun fr=>fr.1.pre.con⟩
  .refine⟨false,rfl,iteT ?_⟩
   have c1':¬(1:Int)<=(xs.length:Int):=by simpa using c1
   exact q false H (Same.refl H) (no_iff (no fun h _=>by omega))
 .exact⟨_,rfl,v,"tuple",t,false,rfl,ty,kt,false,rfl,iteT (iteT (q false H (Same.refl H) (no_iff fun⟨b,ys,ds,e,hb,_⟩=>hno b ys e hb)))⟩
end
section
variable{K:PySem.W.Frag}{a:Addr}{xs:List V}{ds:List PyData}{σ:L2.St}{H:Hp}{Q:VK}
theorem read_cellproj{i0:Nat}(j:Int)(pr:PyData->Int)(hj:∀(r c:Int),atI [V.int r,.int c] j=some (.int (pr (.tuple [.int r,.int c]))))
  (hσ:σ[i0]?=some (some (.ref a))) (ha:H a=some (.lst xs)) (hr:RepAll H ds xs) (hs:Cells ds) (hl:ds.length<=64)
  (q:∀D H',Same H H'->H' D=some (.lst ((ds.map pr).map V.int))->Q (.ref D) H') :
  tComp (iList K (tVar i0)) [none] (gName 0) tYes (tOp (rIxT K) (tVar 0) (tC (.int j))) σ H Q:=by
 have hlen:=hr.length
 refine⟨_,hσ,a,rfl,⟨_,SqL.of ha⟩,fun D hD=>?_⟩
 refine comp_list (xs:=xs) (fun i ys H'=>Same H H'/\ys=((ds.take i).map pr).map V.int) ⟨Same.fresh _ hD,rfl⟩ (fun i ys H' p=>SqL.of (p.1 _ _ ha)) (fun i x ys H' hx hi hDy hyl p=>?_) (fun ys H' hDy hyl p=>?_)
 .obtain⟨p1,rfl⟩:=p
  obtain⟨b,r,c,rfl,hb,hd⟩:=cells_at hs hr hx
  refine⟨Agree.set (Agree.refl _) rfl,?_⟩
  dsimp only[tYes]
  refine iteT ?_
  refine⟨_,rfl,b,_,_,_,rfl,rfl,SqT.of (p1 _ _ hb),hj r c,nx_put (by omega) hDy hyl ⟨p1.new hD,?_⟩⟩
  rw[map_take_succ pr hd,List.map_append]
  rfl
 .obtain⟨p1,rfl⟩:=p
  refine q D H' p1 ?_
  rw[hDy,List.take_of_length_le (by omega)]
theorem read_cellsT{i0:Nat}(hσ:σ[i0]?=some (some (.ref a)))(ha:H a=some (.tup xs))(hr:RepAll H ds xs)(hs:Spots ds)(hl:ds.length<=64)
  (q:∀D ys H',Same H H'->H D=none->H' D=some (.lst ys)->RepAll H' (ds.map cellD) ys->Q (.ref D) H') :
  tComp (iTup K (tVar i0)) [none] (gName 0) tYes (tTup (tCons (tOp (rIxT K) (tVar 0) (tC (.int 0))) (tCons (tOp (rIxT K) (tVar 0) (tC (.int 1))) tNil))) σ H Q:=by
 have hlen:=hr.length
 refine⟨_,hσ,a,rfl,⟨_,SqT.of ha⟩,fun D hD=>?_⟩
 refine comp_tup (xs:=xs) (fun i ys H'=>Same H H'/\RepAll H' ((ds.take i).map cellD) ys) ⟨Same.fresh _ hD,rfl⟩ (fun i ys H' p=>SqT.of (p.1 _ _ ha)) (fun i x ys H' hx hi hDy hyl p=>?_) (fun ys H' hDy hyl p=>?_)
 .obtain⟨p1,p2⟩:=p
  obtain⟨b,r,c,z,rfl,hb,hz,hd⟩:=hs.at hr hx
  refine⟨Agree.set (Agree.refl _) rfl,?_⟩
  dsimp only[tYes]
  refine iteT ?_
  refine⟨_,rfl,b,_,_,_,rfl,rfl,SqT.of (p1 _ _ hb),rfl,_,rfl,b,_,_,_,rfl,rfl,SqT.of (p1 _ _ hb),rfl,(by show 2<=sizeLine;decide),fun n hn=>?_⟩
  have hnD:D≠n:=fun e=>by rw[<-e,hDy]at hn;cases hn
  have im:immAll (((ds.take i).map cellD)++[.tuple [.int r,.int c]])=true:=Cells.imm fun d hd'=>by
   rcases List.mem_append.mp hd' with h|h
   .exact cellD_cells _ d h
   .rw[List.mem_singleton.mp h];exact⟨_,_,rfl⟩
  have hs1:Same H' (upd H' n (.tup [.int r,.int c])):=Same.fresh _ hn
  have hDn:=hs1 _ _ hDy
  have hs2:RepAll (upd H' n (.tup [.int r,.int c])) (((ds.take i).map cellD)++[.tuple [.int r,.int c]]) (ys++[.ref n]):=(p2.same hs1).snoc (cell_rep upd_same)
  refine nx_put (by omega) hDn hyl ⟨(p1.trans hs1).new hD,?_⟩
  rw[map_take_succ cellD hd]
  exact hs2.tk (Tk.lst hDn) im
 .obtain⟨p1,p2⟩:=p
  rw[List.take_of_length_le (by omega)]at p2
  exact q D ys H' p1 hD hDy p2
end
theorem lex_iff(x y:PyData):HT.lexLt [row1 x,col1 x] [row1 y,col1 y]=true↔cellLt x y:=by
 unfold cellLt
 show _↔row1 x<row1 y\/row1 x=row1 y/\col1 x<col1 y
 rw[HT.lexLt_cons]
 by_cases e1:row1 x=row1 y
 .rw[if_pos e1,HT.lexLt_cons]
  by_cases e2:col1 x=col1 y
  .rw[if_pos e2,HT.lexLt_nil_nil]
   constructor
   .intro h;cases h
   .intro h;omega
  .rw[if_neg e2,decide_eq_true_iff]
   omega
 .rw[if_neg e1,decide_eq_true_iff]
  omega
theorem cellLt_trans{x y z:PyData}(h1:cellLt x y)(h2:cellLt y z):cellLt x z:=by
 unfold cellLt at *
 omega
theorem rise_all{ds:List PyData}(h:∀(i:Nat) x y,ds[i]?=some x->ds[i+1]?=some y->cellLt x y):ds.Pairwise cellLt:=by
 have key:∀(k i:Nat) x y,ds[i]?=some x->ds[i+1+k]?=some y->cellLt x y:=by
  intro k
  induction k with
  | zero=>intro i x y hx hy;exact h i x y hx hy
  | succ k ih=>
   intro i x y hx hy
   have hl:i+1+k<ds.length:=by
    have:=(List.getElem?_eq_some_iff.mp hy).1
    omega
   have hm:ds[i+1+k]?=some ds[i+1+k]:=List.getElem?_eq_getElem hl
   exact cellLt_trans (ih i x _ hx hm) (h (i+1+k) _ y hm hy)
 rw[List.pairwise_iff_getElem]
 intro i j hi hj hij
 exact key (j-(i+1)) i _ _ (List.getElem?_eq_getElem hi) (by rw[show i+1+(j-(i+1))=j by omega];exact List.getElem?_eq_getElem hj)
section
variable{P:Program}{w:World}{K:PySem.W.Frag}{mg:Str->Option Value}{base:Heap}{f:Addr}{fd:FuncData}
theorem scIsf:FnScope ["_law_found","_law_cells","_law_k"] ["_law_found"] (defScope sIsf):=⟨rfl,rfl,rfl,by decide +kernel,rfl,by decide +kernel,by decide +kernel⟩
theorem ok_isf(B:∀x∈blts,mg x=none)(Fspot:Fn P w K mg base "_law_is_spot" 2 ["_law_found"] spSp)(Fhangs:Fn P w K mg base "_law_hangs" 1 ["_law_cells"] spHangs)(F:Fun K "_law_is_form" "_law_is_form" sIsf f fd):FnOk P w K mg base CX0 3 f fd ["_law_found"] spPf:=by
 refine F.ok (k:=2) scIsf (fun vs H Q E h=>?_) (fun cdv A outer s H vs Q E hr h=>?_)
 .obtain⟨c,rfl,_⟩:=h
  rfl
 obtain⟨v,rfl,hv,q⟩:=h
 have hu:=hr.units
 refine⟨_,(pss_cons (ps_if (PW.pt (pw_or (pt_not (pt_val (pe_cB call_isinst rfl (B "isinstance" (by decide)) boot_isinstance (pa_c (pv 0) (pa_c (pe_bltn (v:=.ty "tuple") rfl (B "tuple" (by decide)) boot_tuple rfl) pa_nil))))) (pw_or1 (pt_not (pt_chain op_le op_le pe_int (pe_cB call_len_seq rfl (B "len" (by decide)) PySem.boot_len (pa_c (pv 0) pa_nil)) pe_int))))) (pss_one (ps_ret pe_bl)) pss_nil)
  (pss_cons (ps_if (pt_cmpR (op_neE hu) (pe_comp ["_law_spot"] [none] rfl rfl (by decide +kernel) (by decide +kernel) rfl rfl (pi_tup (pv 0)) (fun _=>(pg_name (i:=0) (show(["_law_spot"]:List PySem.Str).Nodup by decide +kernel) rfl (Or.inl rfl))) (fun _=>pts_one (pt_not (pt_val (pe_fn Fspot hr (by decide) rfl (pa_c (pv 0) pa_nil))))) (fun _=>(pv 0))) (pe_lst pa_nil) (nomark _)) (pss_one (ps_ret pe_bl)) pss_nil)
  (pss_cons (ps_setC (i:=1) ["_law_spot"] [none] scIsf.nd rfl (Or.inl rfl) rfl rfl rfl (by decide +kernel) (by decide +kernel) rfl rfl (pi_tup (pv 0)) (fun _=>(pg_name (i:=0) (show(["_law_spot"]:List PySem.Str).Nodup by decide +kernel) rfl (Or.inl rfl))) (fun _=>pts_nil) (fun _=>(pe_tup (pa_c (pe_ix ix_tupC (pv 0) pe_int (fun _ _=>rfl)) (pa_c (pe_ix ix_tupC (pv 0) pe_int (fun _ _=>rfl)) pa_nil)))))
  (pss_cons (ps_for PassesOwn.never rfl (pi_r2 rfl (B "range" (by decide)) (pa_c pe_int (pa_c (pe_cB call_len_seq rfl (B "len" (by decide)) PySem.boot_len (pa_c (pv 1) pa_nil)) pa_nil))) (pg_name (i:=2) scIsf.nd rfl (Or.inl rfl)) (pss_one (ps_if (pt_not (pt_cmpR (op_ltT (Nat.lt_of_le_of_lt (Nat.le_add_right _ 64) hu)) (pe_ix ix_list (pv 1) (pe_op op_sub (pv 2) pe_int) (fun _ _=>rfl)) (pe_ix ix_list (pv 1) (pv 2) (fun _ _=>rfl)) (nomark _))) (pss_one (ps_ret pe_bl)) pss_nil)))
  (pss_cons (ps_if (PW.pt (pw_or (pt_cmpR op_ne (pe_cB (call_minL rfl) rfl (B "min" (by decide)) boot_min (pa_c (pe_comp ["_law_cell"] [none] rfl rfl (by decide +kernel) (by decide +kernel) rfl rfl (pi_list (pv 1)) (fun _=>(pg_name (i:=0) (show(["_law_cell"]:List PySem.Str).Nodup by decide +kernel) rfl (Or.inl rfl))) (fun _=>pts_nil) (fun _=>(pe_ix ix_tupC (pv 0) pe_int (fun _ _=>rfl)))) pa_nil)) pe_int (nomark _)) (pw_or1 (pt_cmpR op_ne (pe_cB (call_minL rfl) rfl (B "min" (by decide)) boot_min (pa_c (pe_comp ["_law_cell"] [none] rfl rfl (by decide +kernel) (by decide +kernel) rfl rfl (pi_list (pv 1)) (fun _=>(pg_name (i:=0) (show(["_law_cell"]:List PySem.Str).Nodup by decide +kernel) rfl (Or.inl rfl))) (fun _=>pts_nil) (fun _=>(pe_ix ix_tupC (pv 0) pe_int (fun _ _=>rfl)))) pa_nil)) pe_int (nomark _))))) (pss_one (ps_ret pe_bl)) pss_nil)
  (pss_one (ps_ret (pe_fn Fhangs hr (by decide) rfl (pa_c (pv 1) pa_nil))))))))),?_⟩
 rcases kn_tup (K:=K) hv.1 with ⟨a,xs,rfl,ha⟩|⟨⟨t,ty,kt⟩,_,hno⟩
 .obtain⟨h60,kn⟩:=hv.2 a xs rfl ha
  have no:(1<=xs.length->xs.length<=6->False)->¬FormP H (.ref a):=fun hx ⟨b,ys,ds,e,hb,r,fr⟩=>by
   cases e
   rw[ha]at hb
   cases hb
   have:=r.length
   have h1:=fr.1.pre.pos
   have h6:=fr.1.pre.six
   exact hx (by omega) (by omega)
  refine⟨_,rfl,.ref a,"tuple",.type "tuple",true,rfl,.tup ha,rfl,true,rfl,iteF ?_⟩
  refine⟨_,rfl,a,xs,rfl,.inr (SqT.of ha),_,_,rfl,rfl,_,rfl,?_⟩
  refine ite2 (fun c1=>?_) (fun c1=>?_)
  .have c1':(1:Int)<=(xs.length:Int):=of_decide_eq_true c1
   refine⟨_,_,rfl,rfl,_,rfl,?_⟩
   refine ite2 (fun c2=>?_) (fun c2=>?_)
   .have c2':¬((xs.length:Int)<=6):=by simpa using c2
    exact q false H (Same.refl H) (no_iff (no fun _ h=>by omega))
   have c2':(xs.length:Int)<=6:=by simpa using c2
   refine⟨_,rfl,a,rfl,⟨_,SqT.of ha⟩,fun D hD=>?_⟩
   refine comp_tup (xs:=xs) (fun i ys H'=>Same H H'/\ys=(xs.take i).filter fun x=>!spotB H x) ⟨Same.fresh _ hD,rfl⟩ (fun i ys H' p=>SqT.of (p.1 _ _ ha)) (fun i x ys H' hx hi hDy hyl p=>?_) (fun ys H' hDy hyl p=>?_)
   .obtain⟨p1,rfl⟩:=p
    have kx:=kn x (List.mem_of_getElem? hx)
    have hfil:=filter_take (p:=fun x=>!spotB H x) hx
    refine⟨Agree.set (Agree.refl _) rfl,?_⟩
    refine⟨_,rfl,x,rfl,kx.same p1,_,rfl,?_⟩
    rw[spotB_same p1 kx.1]
    cases hb:spotB H x with
    | true=>
     simp only[hb]at hfil
     refine iteF ⟨_,hDy,by omega,p1,?_⟩
     rw[hfil]
     simp
    | false=>
     simp only[hb]at hfil
     refine iteT ⟨_,rfl,nx_put (by omega) hDy hyl ⟨p1.new hD,?_⟩⟩
     rw[hfil]
     rfl
   obtain⟨p1,rfl⟩:=p
   rw[List.take_of_length_le (Nat.le_refl _)]at hDy
   refine⟨(by show 0<=sizeLine;decide),fun l hl=>?_⟩
   have sl:Same H' (upd H' l (.lst [])):=Same.fresh _ hl
   have hl1:upd H' l (.lst []) l=some (.lst []):=upd_same
   have hD1:=sl _ _ hDy
   have s1:=p1.trans sl
   generalize upd H' l (.lst [])=H1 at *
   refine⟨D,l,_,rfl,rfl,hD1,hl1,_,rfl,?_⟩
   have hall:xs.all (spotB H)=(xs.filter fun x=>!spotB H x).isEmpty:=by
    rw[Bool.eq_iff_iff,List.all_eq_true,List.isEmpty_iff,List.filter_eq_nil_iff]
    constructor
    .intro h x hx
     rw[h x hx];simp
    .intro h x hx
     have:=h x hx
     simpa using this
   rw[<-hall]
   cases hA:xs.all (spotB H)with
   | false=>
    refine iteT ?_
    refine q false H1 s1 (no_iff fun⟨b,ys,ds,e,hb,r,fr⟩=>?_)
    cases e
    rw[ha]at hb
    cases hb
    rw[all_spots r fr.1.pre.sg]at hA
    cases hA
   | true=>
    refine iteF ?_
    obtain⟨ds,rep,hsg⟩:=spots_of hA
    have hF:=FormP.same (H':=H) ha rep hsg
    have hlen:=rep.length
    have hsp:=sg_spots hsg
    have h1:0<ds.length:=by omega
    have h6:ds.length<=6:=by omega
    refine read_cellsT rfl (s1 _ _ ha) (rep.same s1) hsp (by omega) fun C cys H2 s2 _ hC repC=>?_
    have s12:=s1.trans s2
    have hcl:=repC.length
    rw[List.length_map]at hcl
    refine⟨_,rfl,C,cys,rfl,.inl (SqL.of hC),1,_,rfl,⟨by decide,by decide,by omega,by omega⟩,?_⟩
    refine for_range (lo:=1) (fun i σ' H'=>∃(y2:Option V),σ'=[some (.ref a),some (.ref C),y2]/\H'=H2/\∀(j:Nat) x y,j<i->ds[j]?=some x->ds[j+1]?=some y->cellLt x y) ⟨_,rfl,rfl,fun j x y hj=>by omega⟩ (fun i σ' H' hi h=>?_) (fun σ' H' h=>?_)
    .obtain⟨y2,rfl,rfl,hup⟩:=h
     have i0:i<cys.length:=by omega
     have i1:i+1<cys.length:=by omega
     obtain⟨b,r0,c0,hv,hb,hdat⟩:=cells_at (cellD_cells ds) repC (List.getElem?_eq_getElem i0)
     obtain⟨b',r1,c1',hv',hb',hdat'⟩:=cells_at (cellD_cells ds) repC (List.getElem?_eq_getElem i1)
     have hat:atI cys (1+((i:Nat):Int)-1)=some (.ref b):=by
      rw[show(1+((i:Nat):Int)-1)=((i:Nat):Int) by omega]
      exact atI_nat (by rw[List.getElem?_eq_getElem i0,hv])
     have hat':atI cys (1+((i:Nat):Int))=some (.ref b'):=by
      rw[show(1+((i:Nat):Int))=((i+1:Nat):Int) by omega]
      exact atI_nat (by rw[List.getElem?_eq_getElem i1,hv'])
     rw[List.getElem?_map]at hdat hdat'
     obtain⟨x,hx,ex⟩:=Option.map_eq_some_iff.mp hdat
     obtain⟨y,hy,ey⟩:=Option.map_eq_some_iff.mp hdat'
     injection ex with ex;injection ex with e1 e2;injection e1 with e1;injection e2 with e2;injection e2 with e2
     injection ey with ey;injection ey with e3 e4;injection e3 with e3;injection e4 with e4;injection e4 with e4
     refine⟨_,rfl,_,rfl,_,_,rfl,rfl,C,cys,_,_,rfl,rfl,SqL.of hC,hat,_,rfl,_,rfl,C,cys,_,_,rfl,rfl,SqL.of hC,hat',b,b',[r0,c0],[r1,c1'],rfl,rfl,SqT.of hb,SqT.of hb',_,rfl,?_⟩
     rw[<-e1,<-e2,<-e3,<-e4]
     cases hlt:HT.lexLt [row1 x,col1 x] [row1 y,col1 y]with
     | true=>
      refine iteF ⟨_,rfl,rfl,fun j x' y' hj hx' hy'=>?_⟩
      by_cases hji:j=i
      .subst hji
       rw[hx]at hx';cases hx'
       rw[hy]at hy';cases hy'
       exact(lex_iff x y).mp hlt
      .exact hup j x' y' (by omega) hx' hy'
     | false=>
      refine iteT ?_
      refine q false _ s12 (no_iff fun h=>?_)
      have fr:=hF.mp h
      have hi1:=(List.getElem?_eq_some_iff.mp hy).1
      have hi0:=(List.getElem?_eq_some_iff.mp hx).1
      have pw:=List.pairwise_iff_getElem.mp fr.2 i (i+1) hi0 hi1 (Nat.lt_succ_self i)
      rw[(List.getElem?_eq_some_iff.mp hx).2,(List.getElem?_eq_some_iff.mp hy).2]at pw
      rw[(lex_iff x y).mpr pw]at hlt
      cases hlt
    obtain⟨y2,rfl,rfl,hup⟩:=h
    have hpair:ds.Pairwise cellLt:=rise_all fun i x y hx hy=>by
     have:=(List.getElem?_eq_some_iff.mp hy).1
     exact hup i x y (by omega) hx hy
    have hnd:(ds.map cl).Nodup:=by
     show List.Pairwise _ _
     rw[List.pairwise_map]
     refine List.Pairwise.imp ?_ hpair
     intro x y h e
     unfold cellLt at h
     rw[e]at h
     omega
    have crow:∀(ds:List PyData),(ds.map cellD).map row1=ds.map row1:=fun ds=>by rw[List.map_map];rfl
    have ccol:∀(ds:List PyData),(ds.map cellD).map col1=ds.map col1:=fun ds=>by rw[List.map_map];rfl
    refine read_cellproj 0 row1 (fun _ _=>rfl) rfl hC repC (cellD_cells ds) (by rw[List.length_map];omega) fun D3 H3 s3 hD3=>?_
    refine⟨D3,_,rfl,hD3,by rw[List.length_map,List.length_map];exact h1,fun M1 m1 m1'=>?_⟩
    have em1:=minI_eq m1 m1'
    rw[crow]at em1
    refine⟨rfl,_,rfl,?_⟩
    have s13:=s12.trans s3
    by_cases z1:M1=0
    .rw[z1]
     refine ite2 (fun h=>absurd h (by simp)) (fun _=>?_)
     refine read_cellproj 1 col1 (fun _ _=>rfl) rfl (s3 _ _ hC) (repC.same s3) (cellD_cells ds) (by rw[List.length_map];omega) fun D4 H4 s4 hD4=>?_
     refine⟨D4,_,rfl,hD4,by rw[List.length_map,List.length_map];exact h1,fun M2 m2 m2'=>?_⟩
     have em2:=minI_eq m2 m2'
     rw[ccol]at em2
     refine⟨rfl,_,rfl,?_⟩
     have s14:=s13.trans s4
     by_cases z2:M2=0
     .rw[z2]
      refine ite2 (fun h=>absurd h (by simp)) (fun _=>?_)
      have s34:=s3.trans s4
      refine⟨_,rfl,C,cys,ds.map cellD,rfl,s34 _ _ hC,repC.same s34,cellD_cells ds,by rw[cellD_cl];exact hnd,by rw[List.length_map];exact h1,by rw[List.length_map];exact h6,fun b H9 s9 hb=>?_⟩
      refine q b H9 (s14.trans s9) ?_
      rw[hb,cellD_cl,hF]
      exact⟨fun hc=>⟨⟨⟨hsg,h1,h6,hc,hnd⟩,em1.symm.trans z1,em2.symm.trans z2⟩,hpair⟩,fun fr=>fr.1.pre.con⟩
     .refine ite2 (fun _=>?_) (fun h=>?_)
      .refine q false _ s14 (no_iff fun h=>?_)
       exact z2 (em2.trans (hF.mp h).1.c0)
      .exfalso
       apply h
       have:¬V.int M2=V.int 0:=fun z=>by injection z with z;exact z2 z
       rw[decide_eq_false this];rfl
    .refine ite2 (fun _=>?_) (fun h=>?_)
     .refine q false _ s13 (no_iff fun h=>?_)
      exact z1 (em1.trans (hF.mp h).1.r0)
     .exfalso
      apply h
      have:¬V.int M1=V.int 0:=fun z=>by injection z with z;exact z1 z
      rw[decide_eq_false this];rfl
  .refine⟨false,rfl,iteT ?_⟩
   have c1':¬(1:Int)<=(xs.length:Int):=by simpa using c1
   exact q false H (Same.refl H) (no_iff (no fun h _=>by omega))
 .exact⟨_,rfl,v,"tuple",t,false,rfl,ty,kt,false,rfl,iteT (iteT (q false H (Same.refl H) (no_iff fun⟨b,ys,ds,e,hb,_⟩=>hno b ys e hb)))⟩
theorem tx1{c:Nat}(h:c<128):Tx (⟨#[c]⟩:Str):=⟨by show 1<=80;omega,fun x hx=>by
 have e:x=c:=by simpa using hx
 omega⟩
noncomputable def spSmall:Sp:=fun vs H Q _=>∃c:Nat,vs=[.str ⟨#[c]⟩]/\Q (.bl (decide (97<=c)&&decide (c<=122))) H
theorem scSmall:FnScope ["found"] ["found"] (defScope sPsm):=⟨rfl,rfl,rfl,by decide +kernel,rfl,by decide +kernel,by decide +kernel⟩
theorem len1(c:Nat):(⟨#[c]⟩:Str).length<=sizeLine:=by show 1<=sizeLine;decide
theorem ok_small(B:∀x∈blts,mg x=none)(F:Fun K "is_small" "is_small" sPsm f fd):FnOk P w K mg base CX0 1 f fd ["found"] spSmall:=by
 refine F.ok (k:=0) scSmall (fun vs H Q E h=>?_) (fun cdv A outer s H vs Q E hr h=>?_)
 .obtain⟨c,rfl,_⟩:=h
  rfl
 obtain⟨c,rfl,q⟩:=h
 refine⟨_,(pss_one (ps_ret (pe_and (pe_cB call_isinst rfl (B "isinstance" (by decide)) boot_isinstance (pa_c (pv 0) (pa_c (pe_bltn (v:=.ty "str") rfl (B "str" (by decide)) boot_str rfl) pa_nil))) (pe_and (pe_cmpR op_eq (pe_cB call_len_str rfl (B "len" (by decide)) PySem.boot_len (pa_c (pv 0) pa_nil)) pe_int (nomark _)) (pe_one (pe_chain op_le_str op_le_str pe_str (pv 0) pe_str)))))),?_⟩
 refine⟨_,rfl,_,_,_,true,rfl,.str _,rfl,true,rfl,?_⟩
 refine iteT ?_
 refine⟨_,rfl,_,rfl,len1 c,rfl,true,rfl,?_⟩
 refine iteT ?_
 exact⟨_,rfl,_,_,rfl,rfl,_,rfl,between (a:=Str.ofString "a") (z:=Str.ofString "z") (R:=fun v=>Q v H) (by decide +kernel) (by decide +kernel) q (fun h=>⟨_,_,rfl,rfl,h⟩) (fun h=>h)⟩
noncomputable def spFsg:Sp:=fun vs H Q _=>∃c:Nat,vs=[.str ⟨#[c]⟩]/\c<128/\∀H',Same H H'->Q (.bl (sgB c)) H'
theorem scFsg:FnScope ["sign"] ["sign"] (defScope sFsg):=⟨rfl,rfl,rfl,by decide +kernel,rfl,by decide +kernel,by decide +kernel⟩
theorem ok1{c:Nat}(h:c<128):PyData.strOk (⟨#[c]⟩:Str)=true:=Tx.ok ⟨by show 1<=80;omega,fun x hx=>by
 have:x=c:=by simpa using hx
 omega⟩
theorem str1_eq(c d:Nat):PyData.eqv (.str ⟨#[d]⟩) (.str ⟨#[c]⟩)=(c==d):=by
 show((⟨#[d]⟩:Str)==⟨#[c]⟩)=_
 rw[Bool.eq_iff_iff,beq_iff_eq,beq_iff_eq]
 constructor
 .intro h
  injection h with h
  injection h with h
  injection h with h
  exact h.symm
 .intro h
  rw[h]
theorem threeF(c:Nat):(if false=true then !([PyData.str (Str.ofString "#"),.str (Str.ofString "."),.str (Str.ofString ",")].any fun e=>PyData.eqv e (.str ⟨#[c]⟩))else[PyData.str (Str.ofString "#"),.str (Str.ofString "."),.str (Str.ofString ",")].any fun e=>PyData.eqv e (.str ⟨#[c]⟩))=(c==35||c==46||c==44):=by
 have e1:Str.ofString "#" = ⟨#[35]⟩:=by decide +kernel
 have e2:Str.ofString "." = ⟨#[46]⟩:=by decide +kernel
 have e3:Str.ofString "," = ⟨#[44]⟩:=by decide +kernel
 rw[if_neg Bool.false_ne_true,e1,e2,e3]
 simp only[List.any_cons,List.any_nil,str1_eq,Bool.or_false,Bool.or_assoc]
noncomputable def G8(mg:Str->Option Value):Prop:=∃t,mg "MOST_LINES" = some (.int 8 t)
noncomputable def GS(mg:Str->Option Value)(x z:Str):Prop:=∃t,mg x=some (.str z t)
theorem ok_fsg(gC:GS mg "CLOSED" "#")(gP:GS mg "COVERED" ".")(gF:GS mg "FREE" ",")(Fps:Fn P w K mg base "is_sign" 1 ["found"] spS)(Fsmall:Fn P w K mg base "is_small" 1 ["found"] spSmall)(F:Fun K "is_floor_sign" "is_floor_sign" sFsg f fd):FnOk P w K mg base CX0 2 f fd ["sign"] spFsg:=by
 refine F.ok (k:=1) scFsg (fun vs H Q E h=>?_) (fun cdv A outer s H vs Q E hr h=>?_)
 .obtain⟨c,rfl,_⟩:=h
  rfl
 obtain⟨c,rfl,hc,q⟩:=h
 have hu:=hr.units
 refine⟨_,(pss_one (ps_ret (pe_or (pe_cmpR (op_inD hu) (pv 0) (pe_tup (pa_c (pe_globS gC rfl) (pa_c (pe_globS gP rfl) (pa_c (pe_globS gF rfl) pa_nil)))) rfl) (pe_or (pe_fn Fps hr (by decide) rfl (pa_c (pv 0) pa_nil)) (pe_one (pe_fn Fsmall hr (by decide) rfl (pa_c (pv 0) pa_nil))))))),?_⟩
 refine⟨_,rfl,(by show 3<=sizeLine;decide),fun p hp=>?_⟩
 refine⟨.str ⟨#[c]⟩,p,_,[.str "#",.str ".",.str ","],⟨rfl,ok1 hc⟩,rfl,.inr upd_same,⟨_,_,rfl,⟨rfl,by decide +kernel⟩,_,_,rfl,⟨rfl,by decide +kernel⟩,_,_,rfl,⟨rfl,by decide +kernel⟩,rfl⟩,by simp[PyData.depth],_,rfl,?_⟩
 have s1:Same H (upd H p (.tup [.str "#",.str ".",.str ","])):=Same.fresh _ hp
 rw[threeF]
 have q1:=q _ s1
 unfold sgB at q1
 refine ite2 (fun h1=>?_) (fun h1=>?_)
 .rw[h1]at q1
  simpa using q1
 .rw[Bool.eq_false_iff.mpr h1]at q1
  refine⟨_,rfl,.str ⟨#[c]⟩,rfl,.inr (.inr (.inr (.inl ⟨_,rfl,tx1 hc⟩))),_,rfl,?_⟩
  rw[show isSg (.str ⟨#[c]⟩)=(decide (65<=c)&&decide (c<=90))from rfl]
  refine ite2 (fun h2=>?_) (fun h2=>?_)
  .rw[h2]at q1
   simpa using q1
  .rw[Bool.eq_false_iff.mpr h2]at q1
   refine⟨_,rfl,c,rfl,?_⟩
   simpa using q1
theorem row_eq(z:Str):rowB (some z)=(decide (1<=z.length)&&decide (z.length<=8)&&z.cps.toList.all sgB):=rfl
theorem fl_eq(os:List (Option Str)):flB (some os)=(decide (1<=os.length)&&decide (os.length<=8)&&os.all fun o=>rowB o&&(lenO o==lenO ((os[0]?).getD none))):=rfl
theorem lenL(z:Str):z.cps.toList.length=z.length:=by simp[Str.length]
noncomputable def spFrow:Sp:=fun vs H Q _=>∃(v:V) (o:Option Str),vs=[v]/\Itm H v o/\∀H',Same H H'->Q (.bl (rowB o)) H'
theorem scFrow:FnScope ["found"] ["found"] (defScope sFrow):=⟨rfl,rfl,rfl,by decide +kernel,rfl,by decide +kernel,by decide +kernel⟩
theorem ok_frow(B:∀x∈blts,mg x=none)(g8:G8 mg)(Ffsg:Fn P w K mg base "is_floor_sign" 2 ["sign"] spFsg)(F:Fun K "is_floor_row" "is_floor_row" sFrow f fd):FnOk P w K mg base CX0 3 f fd ["found"] spFrow:=by
 refine F.ok (k:=2) scFrow (fun vs H Q E h=>?_) (fun cdv A outer s H vs Q E hr h=>?_)
 .obtain⟨v,o,rfl,_⟩:=h
  rfl
 obtain⟨v,o,rfl,hv,q⟩:=h
 refine⟨_,(pss_cons (ps_if (PW.pt (pw_or (pt_not (pt_val (pe_cB call_isinst rfl (B "isinstance" (by decide)) boot_isinstance (pa_c (pv 0) (pa_c (pe_bltn (v:=.ty "str") rfl (B "str" (by decide)) boot_str rfl) pa_nil))))) (pw_or1 (pt_not (pt_chain op_le op_le pe_int (pe_cB call_len_str rfl (B "len" (by decide)) PySem.boot_len (pa_c (pv 0) pa_nil)) (pe_globI g8 rfl)))))) (pss_one (ps_ret pe_bl)) pss_nil)
  (pss_one (ps_ret (pe_cB (call_all rfl) rfl (B "all" (by decide)) boot_all (pa_c (pe_comp ["sign"] [none] rfl rfl (by decide +kernel) (by decide +kernel) rfl rfl (pi_str (pv 0)) (fun _=>(pg_name (i:=0) (show(["sign"]:List PySem.Str).Nodup by decide +kernel) rfl (Or.inl rfl))) (fun _=>pts_nil) (fun _=>(pe_fn Ffsg hr (by decide) rfl (pa_c (pv 0) pa_nil)))) pa_nil))))),?_⟩
 cases o with
 | none=>
  obtain⟨t,ty,kt⟩:=NoStr.ty (K:=K) hv
  refine⟨_,rfl,v,"str",t,false,rfl,ty,kt,false,rfl,?_⟩
  refine iteT ?_
  refine iteT ?_
  exact q H (Same.refl H)
 | some z=>
  obtain⟨rfl,hz⟩:=hv
  refine⟨_,rfl,.str z,"str",.type "str",true,rfl,.str z,rfl,true,rfl,?_⟩
  refine iteF ?_
  refine⟨_,rfl,z,rfl,tx_line hz,?_⟩
  refine⟨_,_,rfl,rfl,_,rfl,?_⟩
  refine ite2 (fun c1=>?_) (fun c1=>?_)
  .have c1':(1:Int)<=(z.length:Int):=of_decide_eq_true c1
   refine⟨_,_,rfl,rfl,_,rfl,?_⟩
   refine ite2 (fun c2=>?_) (fun c2=>?_)
   .have c2':¬((z.length:Int)<=8):=by simpa using c2
    have e:rowB (some z)=false:=by
     rw[row_eq]
     rw[decide_eq_false (show ¬z.length<=8 by omega),Bool.and_false,Bool.false_and]
    rw[<-e]
    exact q H (Same.refl H)
   .have c2':(z.length:Int)<=8:=by simpa using c2
    have hl:=lenL z
    refine⟨_,rfl,z,rfl,fun D hD=>?_⟩
    refine comp_str (fun i ys H'=>Same H H'/\ys=((z.cps.toList.take i).map sgB).map V.bl) ⟨Same.fresh _ hD,rfl⟩ (fun i c ys H' hx hi hDy hyl p=>?_) (fun ys H' hDy hyl p=>?_)
    .obtain⟨p1,rfl⟩:=p
     refine⟨Agree.set (Agree.refl _) rfl,?_⟩
     dsimp only[tYes]
     refine iteT ?_
     refine⟨_,rfl,c,rfl,hz.2 c (List.mem_of_getElem? hx),fun H2 s2=>?_⟩
     refine nx_put (by omega) (s2 _ _ hDy) hyl ⟨(p1.trans s2).new hD,?_⟩
     rw[map_take_succ sgB hx,List.map_append]
     rfl
    .obtain⟨p1,rfl⟩:=p
     refine⟨D,z.cps.toList.map sgB,rfl,?_,?_⟩
     .rw[hDy,List.take_length]
     .have e:rowB (some z)=(z.cps.toList.map sgB).all id:=by
       rw[row_eq]
       rw[decide_eq_true (show 1<=z.length by omega),decide_eq_true (show z.length<=8 by omega),List.all_map]
       rfl
      rw[<-e]
      exact q H' p1
  .have c1':¬((1:Int)<=(z.length:Int)):=by simpa using c1
   refine⟨_,rfl,?_⟩
   refine iteT ?_
   have e:rowB (some z)=false:=by
    rw[row_eq]
    rw[decide_eq_false (show ¬1<=z.length by omega),Bool.false_and,Bool.false_and]
   rw[<-e]
   exact q H (Same.refl H)
theorem atI0{α:Type}{xs:List α}{x:α}(h:xs[0]?=some x):atI xs 0=some x:=by
 have:=atI_nat h
 exact this
noncomputable def spFl:Sp:=fun vs H Q _=>∃(v:V) (T:Option (List (Option Str))),vs=[v]/\Thing H v T/\∀H',Same H H'->Q (.bl (flB T)) H'
theorem scFlo:FnScope ["found"] ["found"] (defScope sFlo):=⟨rfl,rfl,rfl,by decide +kernel,rfl,by decide +kernel,by decide +kernel⟩
theorem all_and{α:Type}(f g:α->Bool):∀l:List α,(l.all fun x=>f x&&g x)=(l.all f&&l.all g)
 | []=>rfl
 | x::l=>by
  simp only[List.all_cons,all_and f g l]
  cases f x<;>cases g x<;>cases l.all f<;>rfl
theorem row_some{o:Option Str}(h:rowB o=true):∃z,o=some z:=by
 cases o with
 | none=>cases h
 | some z=>exact⟨z,rfl⟩
theorem ok_flo(B:∀x∈blts,mg x=none)(g8:G8 mg)(Ffrow:Fn P w K mg base "is_floor_row" 3 ["found"] spFrow)(F:Fun K "is_floor" "is_floor" sFlo f fd):FnOk P w K mg base CX0 4 f fd ["found"] spFl:=by
 refine F.ok (k:=3) scFlo (fun vs H Q E h=>?_) (fun cdv A outer s H vs Q E hr h=>?_)
 .obtain⟨v,T,rfl,_⟩:=h
  rfl
 obtain⟨v,T,rfl,hv,q⟩:=h
 refine⟨_,(pss_cons (ps_if (PW.pt (pw_or (pt_not (pt_val (pe_cB call_isinst rfl (B "isinstance" (by decide)) boot_isinstance (pa_c (pv 0) (pa_c (pe_bltn (v:=.ty "tuple") rfl (B "tuple" (by decide)) boot_tuple rfl) pa_nil))))) (pw_or1 (pt_not (pt_chain op_le op_le pe_int (pe_cB call_len_seq rfl (B "len" (by decide)) PySem.boot_len (pa_c (pv 0) pa_nil)) (pe_globI g8 rfl)))))) (pss_one (ps_ret pe_bl)) pss_nil)
  (pss_cons (ps_if (pt_not (pt_val (pe_cB (call_all rfl) rfl (B "all" (by decide)) boot_all (pa_c (pe_comp ["row"] [none] rfl rfl (by decide +kernel) (by decide +kernel) rfl rfl (pi_tup (pv 0)) (fun _=>(pg_name (i:=0) (show(["row"]:List PySem.Str).Nodup by decide +kernel) rfl (Or.inl rfl))) (fun _=>pts_nil) (fun _=>(pe_fn Ffrow hr (by decide) rfl (pa_c (pv 0) pa_nil)))) pa_nil)))) (pss_one (ps_ret pe_bl)) pss_nil)
  (pss_one (ps_ret (pe_cB (call_all rfl) rfl (B "all" (by decide)) boot_all (pa_c (pe_comp ["row","found"] [none,some 0] rfl rfl (by decide +kernel) (by decide +kernel) rfl rfl (pi_tup (pv 0)) (fun _=>(pg_name (i:=0) (show(["row","found"]:List PySem.Str).Nodup by decide +kernel) rfl (Or.inl rfl))) (fun _=>pts_nil) (fun _=>(pe_cmpR op_eq (pe_cB call_len_str rfl (B "len" (by decide)) PySem.boot_len (pa_c (pv 0) pa_nil)) (pe_cB call_len_str rfl (B "len" (by decide)) PySem.boot_len (pa_c (pe_ix ix_tupC (pv 1) pe_int (fun _ _=>rfl)) pa_nil)) (nomark _)))) pa_nil)))))),?_⟩
 cases T with
 | none=>
  obtain⟨t,ty,kt⟩:=NoTup.ty (K:=K) hv
  refine⟨_,rfl,v,"tuple",t,false,rfl,ty,kt,false,rfl,?_⟩
  refine iteT ?_
  refine iteT ?_
  exact q H (Same.refl H)
 | some os=>
  obtain⟨h100,a,xs,rfl,ha,hi⟩:=hv
  have hl:=hi.1
  refine⟨_,rfl,.ref a,"tuple",.type "tuple",true,rfl,.tup ha,rfl,true,rfl,?_⟩
  refine iteF ?_
  refine⟨_,rfl,a,xs,rfl,.inr (SqT.of ha),?_⟩
  refine⟨_,_,rfl,rfl,_,rfl,?_⟩
  refine ite2 (fun c1=>?_) (fun c1=>?_)
  .have c1':(1:Int)<=(xs.length:Int):=of_decide_eq_true c1
   refine⟨_,_,rfl,rfl,_,rfl,?_⟩
   refine ite2 (fun c2=>?_) (fun c2=>?_)
   .have c2':¬((xs.length:Int)<=8):=by simpa using c2
    have e:flB (some os)=false:=by
     rw[fl_eq]
     rw[decide_eq_false (show ¬os.length<=8 by omega),Bool.and_false,Bool.false_and]
    rw[<-e]
    exact q H (Same.refl H)
   .have c2':(xs.length:Int)<=8:=by simpa using c2
    have ef:flB (some os)=(os.all rowB&&os.all fun o=>lenO o==lenO ((os[0]?).getD none)):=by
     rw[fl_eq]
     rw[decide_eq_true (show 1<=os.length by omega),decide_eq_true (show os.length<=8 by omega),all_and]
     rfl
    refine⟨_,rfl,a,rfl,⟨_,SqT.of ha⟩,fun D hD=>?_⟩
    refine comp_tup (xs:=xs) (fun i ys H'=>Same H H'/\ys=((os.take i).map rowB).map V.bl) ⟨Same.fresh _ hD,rfl⟩ (fun i ys H' p=>SqT.of (p.1 _ _ ha)) (fun i x ys H' hx hil hDy hyl p=>?_) (fun ys H' hDy hyl p=>?_)
    .obtain⟨p1,rfl⟩:=p
     obtain⟨o,ho,hit⟩:=hi.at hx
     refine⟨Agree.set (Agree.refl _) rfl,?_⟩
     dsimp only[tYes]
     refine iteT ?_
     refine⟨_,rfl,x,o,rfl,hit.same p1,fun H2 s2=>?_⟩
     refine nx_put (by omega) (s2 _ _ hDy) hyl ⟨(p1.trans s2).new hD,?_⟩
     rw[map_take_succ rowB ho,List.map_append]
     rfl
    .obtain⟨p1,rfl⟩:=p
     refine⟨D,os.map rowB,rfl,?_,?_⟩
     .rw[hDy,List.take_of_length_le (by omega)]
     refine⟨_,rfl,?_⟩
     have ea:(os.map rowB).all id=os.all rowB:=by rw[List.all_map];rfl
     rw[ea]
     refine ite2 (fun c3=>?_) (fun c3=>?_)
     .have c3':os.all rowB=false:=by simpa using c3
      have e:flB (some os)=false:=by rw[ef,c3'];rfl
      rw[<-e]
      exact q H' p1
     .have c3':os.all rowB=true:=by simpa using c3
      have i1:=hi.same p1
      refine⟨_,rfl,a,rfl,⟨_,SqT.of (p1 _ _ ha)⟩,fun D2 hD2=>?_⟩
      refine comp_tup (xs:=xs) (fun i ys H2=>Same H' H2/\ys=((os.take i).map fun o=>lenO o==lenO ((os[0]?).getD none)).map V.bl) ⟨Same.fresh _ hD2,rfl⟩ (fun i ys H2 p=>SqT.of (p.1 _ _ (p1 _ _ ha))) (fun i x ys H2 hx hil hDy2 hyl2 p=>?_) (fun ys H2 hDy2 hyl2 p=>?_)
      .obtain⟨p2,rfl⟩:=p
       obtain⟨o,ho,hit⟩:=i1.at hx
       obtain⟨z,rfl⟩:=row_some (List.all_eq_true.mp c3' o (List.mem_of_getElem? ho))
       obtain⟨rfl,hz⟩:=hit
       have h0:0<xs.length:=by omega
       obtain⟨o0,ho0,hit0⟩:=i1.at (List.getElem?_eq_getElem h0)
       obtain⟨z0,rfl⟩:=row_some (List.all_eq_true.mp c3' o0 (List.mem_of_getElem? ho0))
       obtain⟨e0,hz0⟩:=hit0
       refine⟨Agree.set (Agree.refl _) rfl,?_⟩
       dsimp only[tYes]
       refine iteT ?_
       refine⟨_,rfl,z,rfl,tx_line hz,?_⟩
       refine⟨_,rfl,a,xs,_,.str z0,rfl,rfl,SqT.of (p2 _ _ (p1 _ _ ha)),atI0 (by rw[List.getElem?_eq_getElem h0,e0]),z0,rfl,tx_line hz0,?_⟩
       refine⟨rfl,nx_put (by omega) hDy2 hyl2 ⟨p2.new hD2,?_⟩⟩
       rw[map_take_succ _ ho,List.map_append,ho0]
       have ee:decide (V.int (z.length:Int)=V.int (z0.length:Int))=(lenO (some z)==lenO ((some (some z0)).getD none)):=by
        show _=(z.length==z0.length)
        rw[Bool.eq_iff_iff,decide_eq_true_eq,beq_iff_eq]
        constructor
        .intro h
         injection h with h
         omega
        .intro h
         rw[h]
       rw[ee]
       rfl
      .obtain⟨p2,rfl⟩:=p
       refine⟨D2,os.map fun o=>lenO o==lenO ((os[0]?).getD none),rfl,?_,?_⟩
       .rw[hDy2,List.take_of_length_le (by omega)]
       .have e:flB (some os)=(os.map fun o=>lenO o==lenO ((os[0]?).getD none)).all id:=by
         rw[ef,c3',List.all_map]
         rfl
        rw[<-e]
        exact q H2 (p1.trans p2)
  .have c1':¬((1:Int)<=(xs.length:Int)):=by simpa using c1
   refine⟨_,rfl,?_⟩
   refine iteT ?_
   have e:flB (some os)=false:=by
    rw[fl_eq]
    rw[decide_eq_false (show ¬1<=os.length by omega),Bool.false_and,Bool.false_and]
   rw[<-e]
   exact q H (Same.refl H)
theorem in_textF(c:Nat):(!(!(Builtin.Str.occurrences (Str.ofString "#.,ABCDEFGHIJKLMNOPQRSTUVWXYZabcdefghijklmnopqrstuvwxyz") ⟨#[c]⟩ 0 (Str.ofString "#.,ABCDEFGHIJKLMNOPQRSTUVWXYZabcdefghijklmnopqrstuvwxyz").length 1).isEmpty)) = !sgB c:=by
 rw[show(!(Builtin.Str.occurrences (Str.ofString "#.,ABCDEFGHIJKLMNOPQRSTUVWXYZabcdefghijklmnopqrstuvwxyz") ⟨#[c]⟩ 0 (Str.ofString "#.,ABCDEFGHIJKLMNOPQRSTUVWXYZabcdefghijklmnopqrstuvwxyz").length 1).isEmpty)=sgB c from ?_]
 rw[PySem.StrLaws.found_one]
 have e:(Str.ofString "#.,ABCDEFGHIJKLMNOPQRSTUVWXYZabcdefghijklmnopqrstuvwxyz").cps.toList=[35,46,44,65,66,67,68,69,70,71,72,73,74,75,76,77,78,79,80,81,82,83,84,85,86,87,88,89,90,97,98,99,100,101,102,103,104,105,106,107,108,109,110,111,112,113,114,115,116,117,118,119,120,121,122]:=by decide +kernel
 rw[e,Bool.eq_iff_iff]
 simp only[decide_eq_true_eq,List.mem_cons,List.not_mem_nil,or_false,sgB,Bool.or_eq_true,Bool.and_eq_true,beq_iff_eq]
 omega
theorem scLflo:FnScope ["_law_found","_law_row","_law_sign"] ["_law_found"] (defScope sLflo):=⟨rfl,rfl,rfl,by decide +kernel,rfl,by decide +kernel,by decide +kernel⟩
theorem ok_lflo(B:∀x∈blts,mg x=none)(F:Fun K "_law_is_floor" "_law_is_floor" sLflo f fd):FnOk P w K mg base CX0 1 f fd ["_law_found"] spFl:=by
 refine F.ok (k:=0) scLflo (fun vs H Q E h=>?_) (fun cdv A outer s H vs Q E hr h=>?_)
 .obtain⟨v,T,rfl,_⟩:=h
  rfl
 obtain⟨v,T,rfl,hv,q⟩:=h
 refine⟨_,(pss_cons (ps_if (PW.pt (pw_or (pt_not (pt_val (pe_cB call_isinst rfl (B "isinstance" (by decide)) boot_isinstance (pa_c (pv 0) (pa_c (pe_bltn (v:=.ty "tuple") rfl (B "tuple" (by decide)) boot_tuple rfl) pa_nil))))) (pw_or1 (pt_not (pt_chain op_le op_le pe_int (pe_cB call_len_seq rfl (B "len" (by decide)) PySem.boot_len (pa_c (pv 0) pa_nil)) pe_int))))) (pss_one (ps_ret pe_bl)) pss_nil)
  (pss_cons (ps_for PassesOwn.never rfl (pi_tup (pv 0)) (pg_name (i:=1) scLflo.nd rfl (Or.inl rfl)) (pss_cons (ps_if (PW.pt (pw_or (pt_not (pt_val (pe_cB call_isinst rfl (B "isinstance" (by decide)) boot_isinstance (pa_c (pv 1) (pa_c (pe_bltn (v:=.ty "str") rfl (B "str" (by decide)) boot_str rfl) pa_nil))))) (pw_or (pt_not (pt_chain op_le op_le pe_int (pe_cB call_len_str rfl (B "len" (by decide)) PySem.boot_len (pa_c (pv 1) pa_nil)) pe_int)) (pw_or1 (pt_cmpR op_ne (pe_cB call_len_str rfl (B "len" (by decide)) PySem.boot_len (pa_c (pv 1) pa_nil)) (pe_cB call_len_str rfl (B "len" (by decide)) PySem.boot_len (pa_c (pe_ix ix_tup (pv 0) pe_int (fun _ _=>rfl)) pa_nil)) (nomark _)))))) (pss_one (ps_ret pe_bl)) pss_nil)
  (pss_one (ps_for PassesOwn.never rfl (pi_str (pv 1)) (pg_name (i:=2) scLflo.nd rfl (Or.inl rfl)) (pss_one (ps_if (pt_cmpR op_notIn_str (pv 2) pe_str rfl) (pss_one (ps_ret pe_bl)) pss_nil))))))
  (pss_one (ps_ret pe_bl)))),?_⟩
 have q0:=q H (Same.refl H)
 clear q
 cases T with
 | none=>
  obtain⟨t,ty,kt⟩:=NoTup.ty (K:=K) hv
  refine⟨_,rfl,v,"tuple",t,false,rfl,ty,kt,false,rfl,?_⟩
  refine iteT ?_
  refine iteT ?_
  exact q0
 | some os=>
  obtain⟨h100,a,xs,rfl,ha,hi⟩:=hv
  have hl:=hi.1
  refine⟨_,rfl,.ref a,"tuple",.type "tuple",true,rfl,.tup ha,rfl,true,rfl,?_⟩
  refine iteF ?_
  refine⟨_,rfl,a,xs,rfl,.inr (SqT.of ha),?_⟩
  refine⟨_,_,rfl,rfl,_,rfl,?_⟩
  refine ite2 (fun c1=>?_) (fun c1=>?_)
  .have c1':(1:Int)<=(xs.length:Int):=of_decide_eq_true c1
   refine⟨_,_,rfl,rfl,_,rfl,?_⟩
   refine ite2 (fun c2=>?_) (fun c2=>?_)
   .have c2':¬((xs.length:Int)<=8):=by simpa using c2
    have e:flB (some os)=false:=by
     rw[fl_eq]
     rw[decide_eq_false (show ¬os.length<=8 by omega),Bool.and_false,Bool.false_and]
    rw[<-e]
    exact q0
   .have c2':(xs.length:Int)<=8:=by simpa using c2
    have ef:flB (some os)=(os.all fun o=>rowB o&&(lenO o==lenO ((os[0]?).getD none))):=by
     rw[fl_eq]
     rw[decide_eq_true (show 1<=os.length by omega),decide_eq_true (show os.length<=8 by omega)]
     rfl
    have no:∀(i:Nat) (o:Option Str),os[i]?=some o->(rowB o&&(lenO o==lenO ((os[0]?).getD none)))=false->Q (.bl false) H:=fun i o ho hb=>by
     have e:flB (some os)=false:=by
      rw[ef,List.all_eq_false]
      exact⟨o,List.mem_of_getElem? ho,by rw[hb];simp⟩
     rw[<-e]
     exact q0
    have h0:0<xs.length:=by omega
    obtain⟨o0,ho0,hit0⟩:=hi.at (List.getElem?_eq_getElem h0)
    refine⟨_,rfl,a,rfl,⟨_,SqT.of ha⟩,?_⟩
    refine for_tup (xs:=xs) (fun i σ' H'=>∃y1 y2,σ'=[some (.ref a),y1,y2]/\H'=H/\∀(j:Nat) (o:Option Str),j<i->os[j]?=some o->(rowB o&&(lenO o==lenO ((os[0]?).getD none)))=true) ?_ (fun i σ' H' hil h=>?_) (fun i x σ' H' hx h=>?_) (fun σ' H' h=>?_)
    .exact⟨_,_,rfl,rfl,fun j o hj=>by omega⟩
    .obtain⟨_,_,_,rfl,_⟩:=h
     exact SqT.of ha
    .obtain⟨y1,y2,rfl,rfl,hall⟩:=h
     obtain⟨o,ho,hit⟩:=hi.at hx
     cases o with
     | none=>
      obtain⟨t,ty,kt⟩:=NoStr.ty (K:=K) hit
      refine⟨_,rfl,x,"str",t,false,rfl,ty,kt,false,rfl,?_⟩
      refine iteT ?_
      refine iteT ?_
      exact no i none ho rfl
     | some z=>
      obtain⟨rfl,hz⟩:=hit
      refine⟨_,rfl,.str z,"str",.type "str",true,rfl,.str z,rfl,true,rfl,?_⟩
      refine iteF ?_
      refine⟨_,rfl,z,rfl,tx_line hz,?_⟩
      refine⟨_,_,rfl,rfl,_,rfl,?_⟩
      refine ite2 (fun c3=>?_) (fun c3=>?_)
      .have c3':(1:Int)<=(z.length:Int):=of_decide_eq_true c3
       refine⟨_,_,rfl,rfl,_,rfl,?_⟩
       refine ite2 (fun c4=>?_) (fun c4=>?_)
       .have c4':¬((z.length:Int)<=8):=by simpa using c4
        refine iteT ?_
        refine no i (some z) ho ?_
        rw[row_eq,decide_eq_false (show ¬z.length<=8 by omega),Bool.and_false,Bool.false_and,Bool.false_and]
       .have c4':(z.length:Int)<=8:=by simpa using c4
        have hz0:∃z0,o0=some z0:=by
         cases i with
         | zero=>rw[ho]at ho0;cases ho0;exact⟨_,rfl⟩
         | succ i=>
          have:=hall 0 o0 (by omega) ho0
          rw[Bool.and_eq_true]at this
          exact row_some this.1
        obtain⟨z0,rfl⟩:=hz0
        obtain⟨e0,hz0⟩:=hit0
        refine⟨_,rfl,z,rfl,tx_line hz,_,rfl,a,xs,_,.str z0,rfl,rfl,SqT.of ha,atI0 (by rw[List.getElem?_eq_getElem h0,e0]),z0,rfl,tx_line hz0,rfl,_,rfl,?_⟩
        have ee:(!decide (V.int (z.length:Int)=V.int (z0.length:Int))) = !(lenO (some z)==lenO ((os[0]?).getD none)):=by
         rw[ho0]
         show _ = !(z.length==z0.length)
         rw[show decide (V.int (z.length:Int)=V.int (z0.length:Int))=(z.length==z0.length)from ?_]
         rw[Bool.eq_iff_iff,decide_eq_true_eq,beq_iff_eq]
         constructor
         .intro h
          injection h with h
          omega
         .intro h
          rw[h]
        rw[ee]
        refine ite2 (fun c5=>?_) (fun c5=>?_)
        .have c5':(lenO (some z)==lenO ((os[0]?).getD none))=false:=by simpa using c5
         refine no i (some z) ho ?_
         rw[c5',Bool.and_false]
        .have c5':(lenO (some z)==lenO ((os[0]?).getD none))=true:=by simpa using c5
         refine⟨_,rfl,z,rfl,?_⟩
         refine for_str (x:=z) (fun j σ' H2=>∃y2,σ'=[some (.ref a),some (.str z),y2]/\H2=H'/\∀(m c:Nat),m<j->z.cps.toList[m]?=some c->sgB c=true) ?_ (fun j c σ' H' hc h=>?_) (fun σ' H' h=>?_)
         .exact⟨_,rfl,rfl,fun m c hm=>by omega⟩
         .obtain⟨y2,rfl,rfl,hsg⟩:=h
          refine⟨_,rfl,_,_,rfl,rfl,_,rfl,?_⟩
          rw[in_textF]
          refine ite2 (fun c6=>?_) (fun c6=>?_)
          .have c6':sgB c=false:=by simpa using c6
           refine no i (some z) ho ?_
           have:z.cps.toList.all sgB=false:=by
            rw[List.all_eq_false]
            exact⟨c,List.mem_of_getElem? hc,by rw[c6'];simp⟩
           rw[row_eq,this,Bool.and_false,Bool.false_and]
          .have c6':sgB c=true:=by simpa using c6
           refine⟨_,rfl,rfl,fun m c2 hm h2=>?_⟩
           by_cases em:m<j
           .exact hsg m c2 em h2
           .have em':m=j:=by omega
            subst em'
            rw[hc]at h2;cases h2
            exact c6'
         .obtain⟨y2,rfl,rfl,hsg⟩:=h
          refine⟨_,_,rfl,rfl,fun m o hm h2=>?_⟩
          by_cases em:m<i
          .exact hall m o em h2
          .have em':m=i:=by omega
           subst em'
           rw[ho]at h2;cases h2
           have:z.cps.toList.all sgB=true:=by
            rw[List.all_eq_true]
            intro c hc
            obtain⟨j,hj,rfl⟩:=List.mem_iff_getElem.mp hc
            exact hsg j _ hj (List.getElem?_eq_getElem hj)
           rw[row_eq,this,c5',decide_eq_true (show 1<=z.length by omega),decide_eq_true (show z.length<=8 by omega)]
           rfl
      .have c3':¬((1:Int)<=(z.length:Int)):=by simpa using c3
       refine⟨_,rfl,?_⟩
       refine iteT ?_
       refine iteT ?_
       refine no i (some z) ho ?_
       rw[row_eq,decide_eq_false (show ¬1<=z.length by omega),Bool.false_and,Bool.false_and,Bool.false_and]
    .obtain⟨y1,y2,rfl,rfl,hall⟩:=h
     have e:flB (some os)=true:=by
      rw[ef,List.all_eq_true]
      intro o ho
      obtain⟨j,hj,rfl⟩:=List.mem_iff_getElem.mp ho
      exact hall j _ (by omega) (List.getElem?_eq_getElem hj)
     rw[e]at q0
     exact q0
  .have c1':¬((1:Int)<=(xs.length:Int)):=by simpa using c1
   refine⟨_,rfl,?_⟩
   refine iteT ?_
   have e:flB (some os)=false:=by
    rw[fl_eq]
    rw[decide_eq_false (show ¬1<=os.length by omega),Bool.false_and,Bool.false_and]
   rw[<-e]
   exact q0
end
end K09
namespace L3
open PySem PySem.Spec PyProof.Rows L2
noncomputable def ltG(g:Value->Int)(vs:List Value)(i j:Nat):Bool:=decide (g (vs.getD i Value.none)<g (vs.getD j Value.none))
theorem ltG_ord(g:Value->Int)(vs:List Value):Ord (ltG g vs):=
 ⟨fun a b h=>decide_eq_false (by have:=of_decide_eq_true h;omega),fun a b c h1 h2=>decide_eq_false (by have:=of_decide_eq_false h1;have:=of_decide_eq_false h2;omega)⟩
theorem range_getD(vs:List Value):((List.range vs.length).map fun i=>vs.getD i Value.none)=vs:=by
 apply List.ext_getElem
 .simp
 .intro i h1 h2
  simp[List.getD,h2]
theorem srtG_perm(g:Value->Int)(vs:List Value):((srt (ltG g vs) vs.length).map fun i=>vs.getD i Value.none).Perm vs:=by
 have h:=(srt_perm (ltG g vs) vs.length).map fun i=>vs.getD i Value.none
 rw[range_getD]at h
 exact h
theorem srtG_up(g:Value->Int)(vs:List Value):((srt (ltG g vs) vs.length).map fun i=>vs.getD i Value.none).Pairwise (fun x y=>g x<=g y):=by
 have hl:(srt (ltG g vs) vs.length).length=vs.length:=srt_length _ _
 rw[List.pairwise_map,List.pairwise_iff_getElem]
 intro i j hi hj hij
 have h:=srt_up (ltG_ord g vs) vs.length (Nat.le_of_lt hij) (by omega)
 rw[List.getD_eq_getElem?_getD,List.getD_eq_getElem?_getD,List.getElem?_eq_getElem hi,List.getElem?_eq_getElem hj]at h
 have:=of_decide_eq_false h
 simp only[Option.getD_some]at this
 omega
theorem getD_in{vs:List Value}{i:Nat}(h:i<vs.length):vs.getD i Value.none∈vs:=by
 rw[List.getD_eq_getElem?_getD,List.getElem?_eq_getElem h]
 exact List.getElem_mem h
section
variable{prog:Program}{w:World}{A:Around}{E:Value->Shared->Prop}{s:Shared}
theorem list_sort_any{a:Addr}{vs:List Value}{n:Nat}{κ:SortKind}{g:Value->Int}{P:PySem.Fin->Shared->Prop}(ho:s.heap.get? a=some (seqObj "list" vs.toArray n))(hz:vs.length<64)
  (hk:2<=vs.length->∀s':Shared,(∀b o,b≠a->s.heap.get? b=some o->s'.heap.get? b=some o)->
   (∀(Q:SortKind->Shared->Prop) (E:Value->Shared->Prop),Q κ s'->wpAny (model prog w) A (keyKind' vs.toArray) Q E s')/\
   ∀x y,x∈vs->y∈vs->∀(Q:Bool->Shared->Prop),Q (decide (g x<g y)) s'->wpAny (model prog w) A (keyLt' κ x y) Q (fun _ _=>False) s')
  (h:∀us:List Value,us.Perm vs->us.Pairwise (fun x y=>g x<=g y)->P (.done (.ret .none)) {s with heap:=sortedHeap s.heap a vs us.toArray}) :
  wpAny (model prog w) A (Builtin.«list.sort» ⟨[.ref a],[]⟩) P E s:=
 list_sort_by (lt:=ltG g vs) ho hz (fun h2 s' k=>⟨(hk h2 s' k).1,fun i j hi hj Q q=>(hk h2 s' k).2 _ _ (getD_in hi) (getD_in hj) Q q⟩) (h _ (srtG_perm g vs) (srtG_up g vs))
theorem sorted_any{l:Addr}{vs:List Value}{κ:SortKind}{g:Value->Int}{Q:Value->Shared->Prop}(hl:s.heap.IsList l vs.toArray)(hz:vs.length<64)
  (hk:2<=vs.length->∀s':Shared,(∀b o,s.heap.get? b=some o->s'.heap.get? b=some o)->
   (∀(Q:SortKind->Shared->Prop) (E:Value->Shared->Prop),Q κ s'->wpAny (model prog w) A.in1.in1 (keyKind' vs.toArray) Q E s')/\
   ∀x y,x∈vs->y∈vs->∀(Q:Bool->Shared->Prop),Q (decide (g x<g y)) s'->wpAny (model prog w) A.in1.in1 (keyLt' κ x y) Q (fun _ _=>False) s')
  (h:∀us:List Value,us.Perm vs->us.Pairwise (fun x y=>g x<=g y)->Q (.ref (s.heap.objs.size+1)) {s with heap:=sortedAll s.heap vs us.toArray}) :
  wpAny (model prog w) A (call (.builtin "sorted") [.ref l]) Q E s:=
 sorted_by (lt:=ltG g vs) hl hz (fun h2 s' k=>⟨(hk h2 s' k).1,fun i j hi hj Q q=>(hk h2 s' k).2 _ _ (getD_in hi) (getD_in hj) Q q⟩) (h _ (srtG_perm g vs) (srtG_up g vs))
end
theorem perm_lift{α β:Type}(g:α->β){us vs:List β}(p:us.Perm vs):∀{l:List α},l.map g=vs->∃l':List α,l'.Perm l/\l'.map g=us:=by
 induction p with
 | nil=>intro l e;exact⟨l,List.Perm.refl _,e⟩
 | cons x p ih=>
  intro l e
  match l,e with
  | a::l,e=>
   rw[List.map_cons]at e
   obtain⟨e1,e2⟩:=List.cons.inj e
   obtain⟨l',p1,e3⟩:=ih e2
   exact⟨a::l',p1.cons a,by rw[List.map_cons,e1,e3]⟩
 | swap x y r=>
  intro l e
  match l,e with
  | a::b::l,e=>
   rw[List.map_cons,List.map_cons]at e
   obtain⟨e1,e'⟩:=List.cons.inj e
   obtain⟨e2,e3⟩:=List.cons.inj e'
   exact⟨b::a::l,List.Perm.swap _ _ _,by rw[List.map_cons,List.map_cons,e1,e2,e3]⟩
 | trans p q ih1 ih2=>
  intro l e
  obtain⟨l1,p1,e1⟩:=ih2 e
  obtain⟨l2,p2,e2⟩:=ih1 e1
  exact⟨l2,p2.trans p1,e2⟩
theorem countP_less{α:Type}{p q:α->Bool}:∀{l:List α},(∀e∈l,p e=true->q e=true)->(∃e∈l,q e=true/\p e=false)->l.countP p<l.countP q
 | [],_,⟨e,he,_⟩=>by simp at he
 | a::l,h,⟨e,he,h1,h2⟩=>by
  have hl:∀e∈l,p e=true->q e=true:=fun e he=>h e (List.mem_cons_of_mem _ he)
  have mono:l.countP p<=l.countP q:=List.countP_mono_left hl
  rcases List.mem_cons.mp he with rfl|he
  .rw[List.countP_cons_of_neg (by simp[h2]),List.countP_cons_of_pos h1]
   omega
  .have ih:=countP_less hl ⟨e,he,h1,h2⟩
   cases hp:p a with
   | true=>rw[List.countP_cons_of_pos hp,List.countP_cons_of_pos (h a List.mem_cons_self hp)];omega
   | false=>
    rw[List.countP_cons_of_neg (by simp[hp])]
    have:=List.countP_le_length (p:=q) (l:=l)
    cases hq:q a with
    | true=>rw[List.countP_cons_of_pos hq];omega
    | false=>rw[List.countP_cons_of_neg (by simp[hq])];exact ih
structure OrdD(lt:PyData->PyData->Bool)(ds:List PyData):Prop where
 asy:∀x∈ds,∀y∈ds,lt x y=true->lt y x=false
 tr:∀x∈ds,∀y∈ds,∀z∈ds,lt y x=false->lt z y=false->lt z x=false
noncomputable def rankD(lt:PyData->PyData->Bool)(ds:List PyData)(d:PyData):Int:=((ds.countP fun e=>lt e d:Nat):Int)
theorem rank_lt{lt:PyData->PyData->Bool}{ds:List PyData}(o:OrdD lt ds){d e:PyData}(hd:d∈ds)(he:e∈ds):decide (rankD lt ds d<rankD lt ds e)=lt d e:=by
 have irr:∀x∈ds,lt x x=false:=fun x hx=>by
  cases q:lt x x with
  | false=>rfl
  | true=>have:=o.asy x hx x hx q;rw[q]at this;exact this
 unfold rankD
 cases h:lt d e with
 | true=>
  refine decide_eq_true ?_
  have:=countP_less (p:=fun z=>lt z d) (q:=fun z=>lt z e) (l:=ds) (fun z hz h1=>?_) ⟨d,hd,h,irr d hd⟩
  .omega
  .show lt z e=true
   cases q:lt z e with
   | true=>rfl
   | false=>rw[o.tr d hd e he z hz (o.asy d hd e he h) q]at h1;exact h1
 | false=>
  refine decide_eq_false ?_
  have:=List.countP_mono_left (p:=fun z=>lt z e) (q:=fun z=>lt z d) (l:=ds) fun z hz h1=>?_
  .omega
  .show lt z d=true
   cases q:lt z d with
   | true=>rfl
   | false=>rw[o.tr e he d hd z hz h q]at h1;exact h1
theorem repAll_map{α:Type}{H:Hp}{f:α->PyData}{g:α->V}:∀{l:List α},(∀t∈l,Rep H (f t) (g t))->RepAll H (l.map f) (l.map g)
 | [],_=>rfl
 | t::l,h=>⟨_,_,rfl,h t List.mem_cons_self,repAll_map fun t ht=>h t (List.mem_cons_of_mem _ ht)⟩
theorem vals_map{α:Type}{f:α->V}{g:α->Value}:∀{l:List α},(∀t∈l,RelV (f t) (g t))->Vals (l.map f) (l.map g)
 | [],_=>.nil
 | t::l,h=>.cons (h t List.mem_cons_self) (vals_map fun t ht=>h t (List.mem_cons_of_mem _ ht))
section
variable{X:Cx}{pins:List (Addr×Obj)}{σ:L2.St}{H:Hp}{s:Shared}{A:Around}{E:Value->Shared->Prop}
open Classical in
theorem sorted_data(I:Inv X pins σ H s){p:Addr}{ds:List PyData}{xs:List V}{its:List Value}{κ:SortKind}{lt:PyData->PyData->Bool}{Q:V->Hp->Prop}(hp:H p=some (.lst xs))(hds:RepAll H ds xs)(rv:Vals xs its)(pl:s.heap.IsList p its.toArray)(hz:xs.length<64)(o:OrdD lt ds)
  (hk:2<=its.length->∀s':Shared,(∀b o,s.heap.get? b=some o->s'.heap.get? b=some o)->∀(Q:SortKind->Shared->Prop) (E:Value->Shared->Prop),Q κ s'->wpAny (model X.prog X.w) A.in1.in1 (keyKind' its.toArray) Q E s')
  (hc:∀s':Shared,(∀b o,s.heap.get? b=some o->s'.heap.get? b=some o)->∀(i j:Nat) (d e:PyData) (u v:Value),ds[i]?=some d->its[i]?=some u->ds[j]?=some e->its[j]?=some v->∀(Q:Bool->Shared->Prop),Q (lt d e) s'->wpAny (model X.prog X.w) A.in1.in1 (keyLt' κ u v) Q (fun _ _=>False) s')
  (q:∀l ys es,H l=none->es.Perm ds->es.Pairwise (fun x y=>lt y x=false)->RepAll (upd H l (.lst ys)) es ys->Q (.ref l) (upd H l (.lst ys))) :
  wpAny (model X.prog X.w) A (call (.builtin "sorted") [.ref p]) (fun u s'=>∃v H',Inv X pins σ H' s'/\RelV v u/\Q v H') E s:=by
 have l1:xs.length=ds.length:=hds.length
 have l2:xs.length=its.length:=rv.length
 obtain⟨g,hg⟩:∃g:Value->Int,∀(i:Nat) (d:PyData) (u:Value),ds[i]?=some d->its[i]?=some u->g u=rankD lt ds d:=by
  refine⟨fun u=>if h:∃d,∃as,Reads s.heap u d as/\d∈ds then rankD lt ds h.choose else 0,fun i d u h1 h2=>?_⟩
  obtain⟨x,e1,r1⟩:=hds.get h1
  obtain⟨u',e2,r2⟩:=rv.get e1
  rw[h2]at e2;cases e2
  obtain⟨as,rd⟩:=r1.reads I r2
  have hx:∃d,∃as,Reads s.heap u d as/\d∈ds:=⟨d,as,rd,List.mem_of_getElem? h1⟩
  show(if h:∃d,∃as,Reads s.heap u d as/\d∈ds then rankD lt ds h.choose else 0)=_
  rw[dif_pos hx]
  obtain⟨bs,rb,_⟩:=hx.choose_spec
  rw[SeqAt.Reads.unique d hx.choose u as bs r1.lay rd rb]
 refine sorted_any (κ:=κ) (g:=g) pl (by omega) (fun h2 s' k=>⟨hk h2 s' k,fun x y hx hy Q' hq=>?_⟩) fun us u1 u2=>?_
 .obtain⟨i,hi⟩:=List.mem_iff_getElem?.mp hx
  obtain⟨j,hj⟩:=List.mem_iff_getElem?.mp hy
  have hi':i<ds.length:=by have:=(List.getElem?_eq_some_iff.mp hi).1;omega
  have hj':j<ds.length:=by have:=(List.getElem?_eq_some_iff.mp hj).1;omega
  have di:=List.getElem?_eq_getElem hi'
  have dj:=List.getElem?_eq_getElem hj'
  rw[hg i _ x di hi,hg j _ y dj hj,rank_lt o (List.getElem_mem hi') (List.getElem_mem hj')]at hq
  exact hc s' k i j _ _ x y di hi dj hj Q' hq
 .have third:(ds.zip (xs.zip its)).map (fun t=>t.2.2)=its:=by
   have:(ds.zip (xs.zip its)).map (fun t=>t.2.2)=((ds.zip (xs.zip its)).map Prod.snd).map Prod.snd:=by rw[List.map_map];rfl
   rw[this,List.map_snd_zip (by rw[List.length_zip];omega),List.map_snd_zip (by omega)]
  have first:(ds.zip (xs.zip its)).map (fun t=>t.1)=ds:=List.map_fst_zip (by rw[List.length_zip];omega)
  obtain⟨T,tp,te⟩:=perm_lift (fun t:PyData×V×Value=>t.2.2) u1 third
  have tm:∀t∈T,∃i:Nat,ds[i]?=some t.1/\xs[i]?=some t.2.1/\its[i]?=some t.2.2:=fun t ht=>by
   obtain⟨i,hi⟩:=List.mem_iff_getElem?.mp (tp.mem_iff.mp ht)
   obtain⟨a1,a2⟩:=List.getElem?_zip_eq_some.mp hi
   obtain⟨a3,a4⟩:=List.getElem?_zip_eq_some.mp a2
   exact⟨i,a1,a3,a4⟩
  have tl:T.length=its.length:=by rw[tp.length_eq];have:=congrArg List.length third;simpa using this
  obtain⟨e,he⟩:=sortedAll_at s.heap its us.toArray
  have hn:H (s.heap.objs.size+1)=none:=I.hok.fresh (Nat.le_succ _)
  have hv:Vals (T.map fun t=>t.2.1) us:=by
   rw[<-te]
   exact vals_map fun t ht=>by
    obtain⟨i,_,a2,a3⟩:=tm t ht
    obtain⟨u,b1,b2⟩:=rv.get a2
    rw[a3]at b1;cases b1
    exact b2
  have hz':(T.map fun t=>t.2.1).length<=sizeLine:=by rw[List.length_map,sizeLine_eq];omega
  have hsame:Same H (upd H (s.heap.objs.size+1) (.lst (T.map fun t=>t.2.1))):=fun b o q=>by rw[upd_ne (ne_of_none q hn)];exact q
  refine⟨.ref (s.heap.objs.size+1),_,I.laid (t':=s.toks) (o:=.lst (T.map fun t=>t.2.1)) (fun b u e=>sortedAll_old e) (Nat.le_succ _) ⟨hz',_,e,hv,he⟩,rfl,q _ _ (T.map fun t=>t.1) hn ?_ ?_ ?_⟩
  .rw[<-first]
   exact tp.map _
  .rw[List.pairwise_map]
   have u3:=u2
   rw[<-te,List.pairwise_map]at u3
   refine List.Pairwise.imp_of_mem (fun{a b} ha hb hab=>?_) u3
   obtain⟨i,a1,_,a3⟩:=tm a ha
   obtain⟨j,b1,_,b3⟩:=tm b hb
   rw[hg i _ _ a1 a3,hg j _ _ b1 b3]at hab
   rw[<-rank_lt o (List.mem_of_getElem? b1) (List.mem_of_getElem? a1)]
   exact decide_eq_false (by omega)
  .refine RepAll.same hsame (repAll_map fun t ht=>?_)
   obtain⟨i,a1,a2,_⟩:=tm t ht
   obtain⟨x,b1,b2⟩:=hds.get a1
   rw[a2]at b1;cases b1
   exact b2
end
noncomputable def ltR(x y:PyData):Bool:=rowLt (rowOf x) (rowOf y)
section
variable{prog:Program}{w:World}{A:Around}{E:Value->Shared->Prop}{s:Shared}
theorem two_walk{op:CmpOp}(hop:op=.Lt\/op=.Gt){a b:Str}{t u:Tok}{Q:Value->Shared->Prop}(hh:A.handled=none)
  (h:∀h' tk v,(∀c o,s.heap.get? c=some o->h'.get? c=some o)->(v=.str a t\/v=.str b u)->Q v {s with heap:=h',toks:=tk}) :
  wpAny (model prog w) A.in1 (pyIter (.ref s.heap.objs.size)) (fun it s₂=>∃I fp wr n P St bt,it=.ref I/\Walks prog w A.in1 I fp wr n P St/\St 0 s₂.heap/\(∀b∈fp,b<s₂.heap.objs.size)/\0<n/\CmpOf prog w A.in1 op P bt/\
   ∀v h' tk,P (argBest bt (n-1)) v->(∀b o,b∉wr->s₂.heap.get? b=some o->h'.get? b=some o)->Q v {s₂ with heap:=h',toks:=tk}) E
   {s with heap:=s.heap.push {cls:=.type "tuple",data:=.seq #[.str a t,.str b u]}}:=by
 have hT:(s.heap.push {cls:=.type "tuple",data:=.seq #[.str a t,.str b u]}).IsTuple s.heap.objs.size #[.str a t,.str b u]:=⟨_,Heap.get?_push_size _ rfl,rfl,0,rfl⟩
 refine wpAny_pyIter_tuple hT ?_
 have hsz:(s.heap.push {cls:=.type "tuple",data:=.seq #[.str a t,.str b u]}).objs.size=s.heap.objs.size+1:=Heap.size_push ..
 have two:∀(i:Nat) (v:Value),(#[.str a t,.str b u]:Array Value)[i]?=some v->v=.str a t\/v=.str b u:=fun i v e=>by
  match i,e with
  | 0,e=>exact .inl (by simpa using e.symm)
  | 1,e=>exact .inr (by simpa using e.symm)
  | i+2,e=>simp at e
 refine⟨_,[_,s.heap.objs.size],[_],_,_,_,fun i j=>match (#[Value.str a t,.str b u]:Array Value)[i]?,(#[Value.str a t,.str b u]:Array Value)[j]? with
   | some (.str x _),some (.str y _)=>if op=.Lt then decide (x.cps.toList<y.cps.toList)else decide (y.cps.toList<x.cps.toList)
   | _,_=>false,rfl,Walks.tuple (A:=A.in1) hh _ s.heap.objs.size (by rw[hsz];exact Nat.ne_of_lt (Nat.lt_succ_self _)) #[.str a t,.str b u],
  ⟨⟨_,Heap.get?_push_size _ rfl,rfl,rfl⟩,hT.push _⟩,fun c hc=>?_,by simp,?_,fun v h' tk hP hk=>?_⟩
 .show c<((s.heap.push _).push _).objs.size
  rw[Heap.size_push,hsz]
  rcases List.mem_cons.mp hc with rfl|hc
  .rw[hsz];exact Nat.lt_succ_self _
  .rcases List.mem_cons.mp hc with rfl|hc
   .exact Nat.lt_succ_of_lt (Nat.lt_succ_self _)
   .cases hc
 .intro i j vi vj s Q E hi hj h
  dsimp only at h
  rw[hi,hj]at h
  have isst:∀v,(v=Value.str a t\/v=.str b u)->∃x y,v=.str x y:=fun v hv=>by rcases hv with e|e<;>exact⟨_,_,e⟩
  obtain⟨x,tx,rfl⟩:=isst vi (two i vi hi)
  obtain⟨y,ty,rfl⟩:=isst vj (two j vj hj)
  rcases hop with rfl|rfl
  .exact(PyProof.Rows.lt_str (by simpa using h):wpAny (model prog w) _ (compareOp .Lt (.str x tx) (.str y ty)) Q E s)
  .exact richCompare_gives (op:=.Gt) (typeIs_str s _ tx) (typeIs_str s _ ty) F.slot_str_gt F.entry_str_gt (F.args_str_gt_2 _ _) (gives_str_gt x y tx ty) (fun e=>nomatch e) (show Q (.bool (decide (y.cps.toList<x.cps.toList))) s from by simpa using h)
 .have hold:∀c o,s.heap.get? c=some o->h'.get? c=some o:=fun c o e=>by
   refine hk c o (fun hm=>?_) (Heap.get?_push_of_some _ (Heap.get?_push_of_some _ e))
   rcases List.mem_cons.mp hm with e1|hm
   .have:=Heap.lt_size e;rw[e1,hsz]at this;exact Nat.lt_irrefl _ (Nat.lt_of_succ_lt this)
   .cases hm
  exact h h' tk v hold (two _ v hP)
end
section
variable{X:Cx}
noncomputable def rTwoS:List V->Hp->VK->Prop:=fun xs H Q=>∃i j:Str,xs=[.str i,.str j]/\∀z,(z=i\/z=j)->Q (.str z) H
theorem call_min2S(hc:X.calm=true):CallR X (.builtin "min") rTwoS:=by
 intro pins s σ H xs us Q I r h
 obtain⟨i,j,rfl,q⟩:=h
 obtain⟨u,w',rfl,⟨t,rfl⟩,⟨t',rfl⟩⟩:=vals2 r
 refine call_min_two (two_walk (.inl rfl) (I.ok.hd hc) fun h' tk v k hv=>?_)
 rcases hv with rfl|rfl
 .exact⟨.str i,H,I.kept k,⟨_,rfl⟩,q i (.inl rfl)⟩
 .exact⟨.str j,H,I.kept k,⟨_,rfl⟩,q j (.inr rfl)⟩
theorem call_max2S(hc:X.calm=true):CallR X (.builtin "max") rTwoS:=by
 intro pins s σ H xs us Q I r h
 obtain⟨i,j,rfl,q⟩:=h
 obtain⟨u,w',rfl,⟨t,rfl⟩,⟨t',rfl⟩⟩:=vals2 r
 refine call_max_two (two_walk (.inr rfl) (I.ok.hd hc) fun h' tk v k hv=>?_)
 rcases hv with rfl|rfl
 .exact⟨.str i,H,I.kept k,⟨_,rfl⟩,q i (.inl rfl)⟩
 .exact⟨.str j,H,I.kept k,⟨_,rfl⟩,q j (.inr rfl)⟩
noncomputable def rJoinT:V->List V->Hp->VK->Prop:=fun x vs H Q=>∃(z:Str) (l:Addr) (ys:List Str),x=.str z/\vs=[.ref l]/\H l=some (.tup (ys.map V.str))/\(ys.map (·.length)).sum+ys.length*z.length<=1000000/\Q (.str (Txt.join z ys)) H
theorem mt_joinT:MtR X "str.join" rJoinT:=by
 intro pins s σ H x vs v us Q I rx rv h
 obtain⟨z,l,ys,rfl,rfl,hl,hz,q⟩:=h
 obtain⟨t,rfl⟩:=rx
 obtain⟨u,rfl,r1⟩:=vals1 rv
 cases (show u=Value.ref l from r1)
 obtain⟨its,r,pl,_⟩:=I.tuple (SqT.of (K:=X.K) hl)
 exact join_tuple pl (by simpa using strs_of r) (by omega) fun t' k=>⟨.str _,H,I.tok _,⟨_,rfl⟩,q⟩
noncomputable def rInG(prog:Program)(w:World)(K:PySem.W.Frag):R2:=fun x y H Q=>∃(p:Addr) (k:Str) (o:Obj) (kvs:List (Str×Value)),y=.ref p/\x=.str k/\K.lookup p=some o/\o.IsDictOf (strKind prog w) kvs/\(p==sysModules)=false/\Q (.bl (valueAt kvs k).isSome) H
theorem op_inG:OpR X (compareOp .In) (rInG X.prog X.w X.K):=by
 intro pins s σ H x y v u Q I rx ry h
 obtain⟨p,k,o,kvs,rfl,rfl,hk,hd,hp,q⟩:=h
 obtain⟨t',rfl⟩:=rx
 cases ry
 have hm:s.heap.DictOf (strKind X.prog X.w) p kvs:=Heap.dictOf_iff.mpr ⟨o,I.kIn p o hk,hd⟩
 exact wpAny_in_of (strKind_is _ _ k t') hp hm.mapOf ⟨.bl _,H,I.tok _,rfl,q⟩
noncomputable def rLtD:R2:=fun x y H Q=>∃dx dy,Rep H dx x/\Rep H dy y/\Cmp dx dy/\dx.depth<=60/\Q (.bl (ltD dx dy)) H
theorem op_ltD(hu:X.A.units+64<cLine):OpR X (compareOp .Lt) rLtD:=by
 intro pins s σ H x y v u Q I rx ry h
 obtain⟨dx,dy,hx,hy,hc,hd,q⟩:=h
 obtain⟨as,r1⟩:=hx.reads I rx
 obtain⟨bs,r2⟩:=hy.reads I ry
 have hl:=ltAt_reads dx dy hc X.A s v u as bs r1 r2 hx.lay hy.lay (by have:=Nat.min_le_left dx.depth dy.depth;omega) X.prog X.w X.xe (EP X pins σ Q) ⟨.bl _,H,I,rfl,q⟩
 exact hl
end
noncomputable def RowsS(ks:List Bool)(ds:List PyData):Prop:=∀d∈ds,∃r,d=.tuple r/\Row (false::ks) r
theorem rows_ordS{ks:List Bool}{ds:List PyData}(h:RowsS ks ds):OrdD ltR ds:=by
 have at':∀d∈ds,Row (false::ks) (rowOf d):=fun d hd=>by
  obtain⟨r,e,hr⟩:=h d hd
  rw[e];exact hr
 exact⟨fun x hx y hy q=>rl_asy (at' x hx) (at' y hy) q,fun x hx y hy z hz q1 q2=>rl_tr (at' x hx) (at' y hy) (at' z hz) q1 q2⟩
theorem tup_ofS{h:Heap}{ks:List Bool}{d:PyData}{u:Value}{bs:List Addr}(z:Reads h u d bs){row:List PyData}(e:d=.tuple row)(hr:Row (false::ks) row) :
  ∃a o vs n as i t,u=.ref a/\h.get? a=some o/\o.cls=.type "tuple"/\o.data=.seq vs n/\ReadsAll h vs.toList row as/\vs[0]?=some (.str i t):=by
 subst e
 cases z with
 | @tuple a o vs n _ _ e1 e2 e3 z=>
  obtain⟨i,rr,rfl,_⟩:=hr
  have z':=z
  generalize hv:vs.toList=vl at z
  cases z with
  | cons ra rb=>
   cases ra with
   | str _ t=>
    refine⟨a,o,vs,n,_,i,t,rfl,e1,e2,e3,z',?_⟩
    rw[<-Array.getElem?_toList,hv]
    rfl
theorem kat_tupsS{h:Heap}{ks:List Bool}:∀{ds:List PyData} {us:List Value},us.length=ds.length->(∀(i:Nat) u d,us[i]?=some u->ds[i]?=some d->∃as,Reads h u d as)->RowsS ks ds->∃fs:List Value,PySem.W.KatTups h us fs/\fs.length=ds.length/\∀v∈fs,∃i t,v=Value.str i t
 | [],[],_,_,_=>⟨[],trivial,rfl,fun v hv=>by cases hv⟩
 | [],u::us,hl,_,_=>by cases hl
 | d::ds,[],hl,_,_=>by cases hl
 | d::ds,u::us,hl,r,hr=>by
  obtain⟨row,e,hrow⟩:=hr d List.mem_cons_self
  obtain⟨bs,z⟩:=r 0 u d rfl rfl
  obtain⟨a,o,vs,n,as,i,tk,rfl,e1,e2,e3,_,e4⟩:=tup_ofS z e hrow
  obtain⟨fs,k1,k2,k3⟩:=kat_tupsS (ds:=ds) (us:=us) (by simpa using hl) (fun i u d h1 h2=>r (i+1) u d (by simpa using h1) (by simpa using h2)) fun d hd=>hr d (List.mem_cons_of_mem _ hd)
  refine⟨.str i tk::fs,PySem.W.KatTups.cons e1 e2 e3 e4 k1,by rw[List.length_cons,List.length_cons,k2],fun v hv=>?_⟩
  rcases List.mem_cons.mp hv with rfl|hv
  .exact⟨i,tk,rfl⟩
  .exact k3 v hv
section
variable{prog:Program}{w:World}{A:Around}{s:Shared}{E:Value->Shared->Prop}
theorem keyS{ks:List Bool}{d e:PyData}{u v:Value}{as bs:List Addr}(r1:Reads s.heap u d as)(r2:Reads s.heap v e bs)(hd:∃r,d=.tuple r/\Row (false::ks) r)(he:∃r,e=.tuple r/\Row (false::ks) r){Q:Bool->Shared->Prop}(hq:Q (ltR d e) s) :
  wpAny (model prog w) A (keyLt' (tuples' true) u v) Q (fun _ _=>False) s:=by
 obtain⟨row,rfl,hr⟩:=hd
 obtain⟨row',rfl,hr'⟩:=he
 obtain⟨a,o,vs,n,as1,_,_,rfl,e4,_,e5,e6,_⟩:=tup_ofS r1 rfl hr
 obtain⟨a',o',vs',n',as2,_,_,rfl,f4,_,f5,f6,_⟩:=tup_ofS r2 rfl hr'
 have z1:vs.size=ks.length+1:=by have q1:=SeqAt.ReadsAll.length _ _ _ e6;have q2:=hr.len;simp at q1 q2;omega
 have z2:vs'.size=ks.length+1:=by have q1:=SeqAt.ReadsAll.length _ _ _ f6;have q2:=hr'.len;simp at q1 q2;omega
 refine PySem.W.kat_lt e4 e5 f4 f5 ?_
 rw[decide_eq_false (by omega)]
 exact lex_rows hr hr' e6 f6 hq
theorem kindS{ks:List Bool}{ds:List PyData}{us:List Value}(hl:us.length=ds.length)(h2:2<=us.length)(r:∀(i:Nat) u d,us[i]?=some u->ds[i]?=some d->∃as,Reads s.heap u d as)(hr:RowsS ks ds){Q:SortKind->Shared->Prop}(hq:Q (tuples' true) s) :
  wpAny (model prog w) A (keyKind' us.toArray) Q E s:=by
 obtain⟨fs,kt,kf,ki⟩:=kat_tupsS hl r hr
 refine PySem.W.kat_kind (T:=Value.type "str") kt (by omega) (fun v hv=>?_) rfl hq
 obtain⟨i,t,rfl⟩:=ki v hv
 exact PySem.W.Looks.of_pure rfl
end
section
variable{X:Cx}
theorem call_sortedS:CallR X (.builtin "sorted") (fun vs H Q=>∃p xs ds ks,vs=[.ref p]/\H p=some (.lst xs)/\RepAll H ds xs/\RowsS ks ds/\ds.length<64/\
  ∀l ys es,H l=none->es.Perm ds->es.Pairwise (fun x y=>ltR y x=false)->RepAll (upd H l (.lst ys)) es ys->Q (.ref l) (upd H l (.lst ys))):=by
 intro pins s σ H xs us Q I r h
 obtain⟨p,xs,ds,ks,rfl,hp,hds,hrows,h64,q⟩:=h
 obtain⟨u,rfl,r1⟩:=vals1 r
 cases (show u=Value.ref p from r1)
 obtain⟨its,rv,pl,hz⟩:=I.list (SqL.of (K:=X.K) hp)
 have l1:xs.length=ds.length:=hds.length
 have l2:xs.length=its.length:=rv.length
 obtain⟨as,rds⟩:=RepAll.reads I hds rv
 refine sorted_data (κ:=tuples' true) (lt:=ltR) I hp hds rv pl.isList (by omega) (rows_ordS hrows) (fun h2 s' k Q' E' hq=>?_) (fun s' k i j d e u v di ui dj vj Q' hq=>?_) q
 .refine kindS (by omega) h2 (fun i u d h1 h2=>?_) hrows hq
  obtain⟨bs,rd⟩:=reads_at rds h1 h2
  exact⟨bs,Reads.keeps k rd⟩
 .obtain⟨bs,rd⟩:=reads_at rds ui di
  obtain⟨bs',rd'⟩:=reads_at rds vj dj
  exact keyS (Reads.keeps k rd) (Reads.keeps k rd') (hrows d (List.mem_of_getElem? di)) (hrows e (List.mem_of_getElem? dj)) hq
end
open Classical in
theorem sort_vals{h:Heap}{lt:PyData->PyData->Bool}{os:List Value}{dos:List PyData}(hl:os.length=dos.length)(rd:∀(i:Nat) (v:Value) (d:PyData),os[i]?=some v->dos[i]?=some d->d.canLay0=true/\∃as,Reads h v d as)(o:OrdD lt dos) :
  ∃g:Value->Int,(∀(i j:Nat) (u v:Value) (d e:PyData),os[i]?=some u->dos[i]?=some d->os[j]?=some v->dos[j]?=some e->decide (g u<g v)=lt d e)/\
   ∀us:List Value,us.Perm os->us.Pairwise (fun x y=>g x<=g y)->∃T:List (PyData×Value),T.map (·.2)=us/\(T.map (·.1)).Perm dos/\(T.map (·.1)).Pairwise (fun x y=>lt y x=false)/\∀t∈T,∃i:Nat,dos[i]?=some t.1/\os[i]?=some t.2:=by
 obtain⟨g,hg⟩:∃g:Value->Int,∀(i:Nat) (d:PyData) (u:Value),dos[i]?=some d->os[i]?=some u->g u=rankD lt dos d:=by
  refine⟨fun u=>if h:∃d,∃as,Reads h u d as/\d∈dos then rankD lt dos h.choose else 0,fun i d u h1 h2=>?_⟩
  obtain⟨lay,as,r⟩:=rd i u d h2 h1
  have hx:∃d,∃as,Reads h u d as/\d∈dos:=⟨d,as,r,List.mem_of_getElem? h1⟩
  show(if h:∃d,∃as,Reads h u d as/\d∈dos then rankD lt dos h.choose else 0)=_
  rw[dif_pos hx]
  obtain⟨bs,rb,_⟩:=hx.choose_spec
  rw[SeqAt.Reads.unique d hx.choose u as bs lay r rb]
 refine⟨g,fun i j u v d e u1 d1 v1 e1=>?_,fun us p up=>?_⟩
 .rw[hg i d u d1 u1,hg j e v e1 v1]
  exact rank_lt o (List.mem_of_getElem? d1) (List.mem_of_getElem? e1)
 .have second:(dos.zip os).map (fun t=>t.2)=os:=List.map_snd_zip (by omega)
  have first:(dos.zip os).map (fun t=>t.1)=dos:=List.map_fst_zip (by omega)
  obtain⟨T,tp,te⟩:=perm_lift (fun t:PyData×Value=>t.2) p second
  have tm:∀t∈T,∃i:Nat,dos[i]?=some t.1/\os[i]?=some t.2:=fun t ht=>by
   obtain⟨i,hi⟩:=List.mem_iff_getElem?.mp (tp.mem_iff.mp ht)
   obtain⟨a1,a2⟩:=List.getElem?_zip_eq_some.mp hi
   exact⟨i,a1,a2⟩
  refine⟨T,te,?_,?_,tm⟩
  .have:=tp.map (fun t=>t.1)
   rw[first]at this
   exact this
  .rw[List.pairwise_map]
   rw[<-te,List.pairwise_map]at up
   refine List.Pairwise.imp_of_mem (fun{a b} ha hb hab=>?_) up
   obtain⟨i,a1,a3⟩:=tm a ha
   obtain⟨j,b1,b3⟩:=tm b hb
   rw[hg i _ _ a1 a3,hg j _ _ b1 b3]at hab
   rw[<-rank_lt o (List.mem_of_getElem? b1) (List.mem_of_getElem? a1)]
   exact decide_eq_false (by omega)
section
variable{prog:Program}{w:World}{A:Around}{E:Value->Shared->Prop}{s:Shared}
theorem sorted_setN{a:Addr}{o:Obj}{es:Array (Int×Value)}{ep:Nat}{t:SetTable}{κ:SortKind}{Q:Value->Shared->Prop}(hh:A.handled=none)(ho:s.heap.get? a=some o)(hex:o.ExactSet)(hd:o.data=.set es ep t)(ok:TOk t es)(hled:t.led = !byT w)(hsz:es.size<64)
  (h:∀os:List Value,os.Perm (es.toList.map (·.2))->∃g:Value->Int,(2<=os.length->∀s':Shared,Keep s.heap s'.heap->
   (∀(Q:SortKind->Shared->Prop) (E:Value->Shared->Prop),Q κ s'->wpAny (model prog w) A.in1.in1 (keyKind' os.toArray) Q E s')/\
   ∀x y,x∈os->y∈os->∀(Q:Bool->Shared->Prop),Q (decide (g x<g y)) s'->wpAny (model prog w) A.in1.in1 (keyLt' κ x y) Q (fun _ _=>False) s')/\
   ∀(us:List Value) (h1 h2:Heap) dr e,us.Perm os->us.Pairwise (fun x y=>g x<=g y)->Keep s.heap h1->Keep h1 h2->h2.get? h1.objs.size=some (seqObj "list" us.toArray e)->Q (.ref h1.objs.size) {s with heap:=h2,drawn:=dr}) :
  wpAny (model prog w) A (call (.builtin "sorted") [.ref a]) Q E s:=by
 refine Calls.call_function_entry kind_sorted plain_sorted entry_sorted (args_sorted1 _) ?_
 unfold Builtin.«sorted»
 refine wpAny_bind (m:=checkCount "sorted" 1 1 _) (wpAny_pure ?_)
 refine wpAny_bind (collect_setD (A:=A.in1) hh ho hex hd ok hled (by omega) fun h1 os dr hp k1=>?_)
 obtain⟨g,hk,h⟩:=h os hp
 have hol:os.length<64:=by rw[hp.length_eq,List.length_map,Array.length_toList];omega
 refine wpAny_bind (wpAny_newList ?_ (by rw[sizeLine_eq];omega))
 have hoL:(h1.push (seqObj "list" os.toArray 0)).get? h1.objs.size=some (seqObj "list" os.toArray 0):=Heap.get?_push_size _ rfl
 have keep:Keep h1 (h1.push (seqObj "list" os.toArray 0)):=fun b o q=>Heap.get?_push_of_some _ q
 show wpAny _ _ _ _ _ {s with heap:=h1.push (seqObj "list" os.toArray 0),drawn:=dr}
 refine wpAny_bind (wpAny_holding (wpAny_call_entry slot_list_sort ⟨_,hoL,rfl⟩ entry_list_sort ?body (args_list_sort _)))
 case body=>
  refine list_sort_any (κ:=κ) (g:=g) hoL hol (fun h2 s' k=>hk h2 s' fun b o e=>k b o (Nat.ne_of_lt (Heap.lt_size (k1 b o e))) (keep b o (k1 b o e))) fun us u1 u2=>?_
  obtain⟨e,he⟩:=sortedHeap_at (out:=us.toArray) hoL
  refine⟨_,rfl,wpAny_pure ⟨_,rfl,h us h1 _ dr e u1 u2 k1 (fun b ob q=>?_) he⟩⟩
  exact(sortedHeap_old (Nat.ne_of_lt (Heap.lt_size q)) (by rw[size_push'];exact Nat.lt_succ_of_lt (Heap.lt_size q))).trans (keep b ob q)
end
structure SortsAs(prog:Program)(w:World)(A:Around)(κ:SortKind)(lt:PyData->PyData->Bool)(ds:List PyData):Prop where
 ord:OrdD lt ds
 kind:∀(s:Shared) (os:List Value) (dos:List PyData),(∀d∈dos,d∈ds)->os.length=dos.length->2<=os.length->(∀(i:Nat) (v:Value) (d:PyData),os[i]?=some v->dos[i]?=some d->∃as,Reads s.heap v d as)->
  ∀(Q:SortKind->Shared->Prop) (E:Value->Shared->Prop),Q κ s->wpAny (model prog w) A (keyKind' os.toArray) Q E s
 key:∀(s:Shared) (u v:Value) (d e:PyData) (as bs:List Addr),d∈ds->e∈ds->Reads s.heap u d as->Reads s.heap v e bs->d.canLay0=true->e.canLay0=true->∀(Q:Bool->Shared->Prop),Q (lt d e) s->wpAny (model prog w) A (keyLt' κ u v) Q (fun _ _=>False) s
theorem sortsAs_S{prog:Program}{w:World}{A:Around}{ks:List Bool}{ds:List PyData}(h:RowsS ks ds):SortsAs prog w A (tuples' true) ltR ds:=
 ⟨rows_ordS h,fun s os dos hs hl h2 r Q E q=>kindS hl h2 r (fun d hd=>h d (hs d hd)) q,fun s u v d e as bs hd he r1 r2 _ _ Q q=>keyS r1 r2 (h d hd) (h e he) q⟩
section
variable{X:Cx}{pins:List (Addr×Obj)}{σ:L2.St}{H:Hp}{s:Shared}
theorem sorted_set_data(I:Inv X pins σ H s){Pv:Value->PyData->Prop}(hPv:∀v d,Pv v d->∃x,RelV x v/\Rep H d x){a:Addr}{ds:List PyData}(hc:X.calm=true)(hS:SetD Pv X.w s.heap a ds)(hlen:ds.length<64){κ:SortKind}{lt:PyData->PyData->Bool}(sa:SortsAs X.prog X.w X.A.in1.in1 κ lt ds){Q:VK}
  (q:∀(es:List PyData) (l:Addr) (ys:List V),es.Perm ds->es.Pairwise (fun x y=>lt y x=false)->H l=none->RepAll (upd H l (.lst ys)) es ys->Q (.ref l) (upd H l (.lst ys))) :
  wpAny (model X.prog X.w) X.A (call (.builtin "sorted") [.ref a]) (EP X pins σ Q) X.xe s:=by
 obtain⟨o,es,ep,tb,ho,hex,hdat,ok,few,els,nd,hled⟩:=hS
 have hsz:es.size=ds.length:=by have:=els.1;rw[Array.length_toList]at this;exact this
 refine sorted_setN (κ:=κ) (I.ok.hd hc) ho hex hdat ok hled (by omega) fun os hperm=>?_
 obtain⟨dos,pd,rl⟩:=RL.perm hperm (RL.els els)
 have hol:os.length=dos.length:=rl.length
 have elt:∀(i:Nat) v d,os[i]?=some v->dos[i]?=some d->∃k,El Pv X.w s.heap (k,v) d:=fun i v d h1 h2=>rl.at h1 h2
 have sub:∀d∈dos,d∈ds:=fun d hd=>pd.mem_iff.mp hd
 have odos:OrdD lt dos:=⟨fun x hx y hy=>sa.ord.asy x (sub x hx) y (sub y hy),fun x hx y hy z hz=>sa.ord.tr x (sub x hx) y (sub y hy) z (sub z hz)⟩
 obtain⟨g,g1,g2⟩:=sort_vals (h:=s.heap) hol (fun i v d h1 h2=>by
  obtain⟨k,el⟩:=elt i v d h1 h2
  exact⟨el.lay,el.reads⟩) odos
 refine⟨g,fun h2 s' kp=>⟨fun Q' E' hq=>?_,fun x y hx hy Q' hq=>?_⟩,fun us h1 h2 dr e u1 u2 kp1 kp2 hg3=>?_⟩
 .refine sa.kind s' os dos sub hol h2 (fun i v d h1 h2=>?_) Q' E' hq
  obtain⟨k,el⟩:=elt i v d h1 h2
  obtain⟨bs,rd⟩:=el.reads
  exact⟨bs,Reads.keeps kp rd⟩
 .obtain⟨i,hi⟩:=List.mem_iff_getElem?.mp hx
  obtain⟨j,hj⟩:=List.mem_iff_getElem?.mp hy
  have hi':i<dos.length:=by have:=(List.getElem?_eq_some_iff.mp hi).1;omega
  have hj':j<dos.length:=by have:=(List.getElem?_eq_some_iff.mp hj).1;omega
  have di:=List.getElem?_eq_getElem hi'
  have dj:=List.getElem?_eq_getElem hj'
  obtain⟨k,el⟩:=elt i _ _ hi di
  obtain⟨k',el'⟩:=elt j _ _ hj dj
  obtain⟨bs,rd⟩:=el.reads
  obtain⟨bs',rd'⟩:=el'.reads
  rw[g1 i j x y _ _ hi di hj dj]at hq
  exact sa.key s' x y _ _ bs bs' (sub _ (List.getElem_mem hi')) (sub _ (List.getElem_mem hj')) (Reads.keeps kp rd) (Reads.keeps kp rd') el.lay el'.lay Q' hq
 .obtain⟨T,te,tp,tu,tm⟩:=g2 us u1 u2
  have tr:∀t∈T,∃x,RelV x t.2/\Rep H t.1 x:=fun t ht=>by
   obtain⟨i,a1,a2⟩:=tm t ht
   obtain⟨k,el⟩:=elt i _ _ a2 a1
   exact hPv _ _ el.own
  obtain⟨ys,v1,v2⟩:∃ys,Vals ys us/\RepAll H (T.map (·.1)) ys:=by
   rw[<-te]
   clear te tp tu tm
   induction T with
   | nil=>exact⟨[],.nil,rfl⟩
   | cons t T ih=>
    obtain⟨x,x1,x2⟩:=tr t List.mem_cons_self
    obtain⟨ys,y1,y2⟩:=ih fun t ht=>tr t (List.mem_cons_of_mem _ ht)
    exact⟨x::ys,.cons x1 y1,x,ys,rfl,x2,y2⟩
  have I3:Inv X pins σ H {s with heap:=h1,drawn:=dr}:=(L3.Inv.drawn I dr).kept (t':=s.toks) kp1
  have hn:H h1.objs.size=none:=I3.hok.fresh (Nat.le_refl _)
  have hyl:=v2.length
  have htl:=tp.length_eq
  have hpl:=pd.length_eq
  have hz':ys.length<=sizeLine:=by rw[sizeLine_eq];omega
  have hsame:Same H (upd H h1.objs.size (.lst ys)):=fun b o q=>by rw[upd_ne (ne_of_none q hn)];exact q
  exact⟨.ref h1.objs.size,_,I3.laid (t':=s.toks) (o:=.lst ys) kp2 (Nat.le_refl _) ⟨hz',_,e,v1,hg3⟩,rfl,q (T.map (·.1)) _ ys (tp.trans pd) tu hn (v2.same hsame)⟩
end
section
variable{Pv:Value->PyData->Prop}{prog:Program}{w:World}{A:Around}{E:Value->Shared->Prop}{s:Shared}
theorem call_setT{l:Addr}{items:Array Value}{ds:List PyData}{Q:Value->Shared->Prop}
  (hh:A.handled=none) (hl:s.heap.IsTuple l items) (hi:items.size=ds.length) (hE:∀(i:Nat) v d,items[i]?=some v->ds[i]?=some d->El Pv w s.heap (hashD w d,v) d) (hb:ds.length<2000) (hu:A.units+20<cLine)
  (h:∀(h':Heap) (tk:Nat) (ds':List PyData),SetD Pv w h' s.heap.objs.size ds'->(∀d,d∈ds'↔d∈ds)->ds'.length<=ds.length->Keep s.heap h'->s.toks<=tk->Q (.ref s.heap.objs.size) {s with heap:=h',toks:=tk}) :
  wpAny (model prog w) A (call (.type "set") [.ref l]) Q E s:=by
 obtain⟨c,tl,hmro⟩:=PySem.F.called_set.mro
 have hmade:=PySem.F.called_set.made
 have hsub:=PySem.F.called_set.sub
 refine wpAny_call (codeAny_of_tree (show _ from ?_))
 show wpAny _ _ (callAny (.type "set") _) _ _ s
 refine wpAny_pure ⟨Code.quiet_builtin _ (by decide +kernel),codeAny_builtin F.entry_type_call (show _ from ?_)⟩
 rw[Around.under_plain (weight_type_call_type "set" [.ref l] []) (rfl:_=_)]
 have h1:=PySem.F.called_set.notType
 have h2:=PySem.F.called_set.canCreate
 have hct:=PySem.F.typeCall_set_1 (.ref l)
 repeat (any_goals (first|assumption|(wp_step)))
 refine codeAny_mono (code_set_newD (.ref l) (E:=E) (Q₁:=fun obj s₁=>∃led:Bool,led=(!byT w)/\obj=.ref s.heap.objs.size/\s₁={s with heap:=s.heap.push {cls:=.type "set",dict:=none,data:=.set #[] 0 (.fresh 0 0 led)}}) ⟨_,rfl,rfl,rfl⟩) fun r s₁ hr=>?_
 match r,hr with
 | .error e,hr=>exact hr
 | .ok (.ret obj),hr=>
   obtain⟨led,hled,rfl,rfl⟩:=hr
   obtain⟨emp,hemp⟩:∃ob:Obj,ob={cls:=.type "set",dict:=none,data:=.set #[] 0 (.fresh 0 0 led)}:=⟨_,rfl⟩
   have hS:(s.heap.push emp).get? s.heap.objs.size=some emp:=Heap.get?_push_size _ (by rw[hemp];rfl)
   have hT:Shared.TypeIs {s with heap:=s.heap.push emp} (.ref s.heap.objs.size) "set":=⟨_,hS,by rw[hemp]⟩
   have hSD:SetD Pv w (s.heap.push emp) s.heap.objs.size []:=by rw[hemp];exact SetD.fresh hled
   rw[<-hemp]
   have hli:=PySem.F.called_set.init.lookup
   have hbi:=PySem.F.called_set.init.bind (.ref s.heap.objs.size)
   repeat (any_goals (first|assumption|(wp_step)))
   refine codeAny_mono (codeAny_call_builtin (R:=wants (fun r s₂=>r=.none/\∃h' tk ds',s₂={s with heap:=h',toks:=tk}/\SetD Pv w h' s.heap.objs.size ds'/\(∀d,d∈ds'↔d∈ds)/\ds'.length<=ds.length/\Keep s.heap h'/\s.toks<=tk) E) PySem.F.called_set.init.plain F.entry_set_init (check_set_init_1 hT ?_)) fun r₂ s₂ hr₂=>?_
   .obtain⟨ol,hol,hcl,nl,hdl⟩:=hl
    obtain⟨ocls,odict,odata,oslots⟩:=ol
    simp only at hcl hdl
    subst hcl;subst hdl
    have hol':(s.heap.push emp).get? l=some {cls:=.type "tuple",dict:=odict,data:=.seq items nl,slots:=oslots}:=Heap.get?_push_of_some _ hol
    have hsls:=PySem.F.sub_tuple_set
    have hslf:=PySem.F.sub_tuple_frozenset
    have hne:(Value.type "tuple" == Value.type "dict")=false:=by decide
    have hl1:(s.heap.push emp).IsTuple l items:=⟨_,hol',rfl,nl,rfl⟩
    unfold Builtin.«set.__init__» noKeywords Builtin.Frozenset.updateFrom
    generalize hPI:pyIter=PI
    subst hemp
    wp_walk
    subst hPI
    refine wpAny_pyIter_tuple hl1 ?_
    refine wpAny_bind (wpAny_runValue ?_)
    have none_at:∀b,s.heap.objs.size<=b->s.heap.get? b=none:=fun b hb'=>by
     cases hq:s.heap.get? b with
     | none=>rfl
     | some ob=>exact absurd (Heap.lt_size hq) (Nat.not_lt.mpr hb')
    have hlS:l<s.heap.objs.size:=Heap.lt_size hol
    have hh3:A.in1.in1.in1.handled=none:=by simp[hh]
    have hIs:(s.heap.push {cls:=.type "set",dict:=none,data:=.set #[] 0 (.fresh 0 0 led)}).objs.size=s.heap.objs.size+1:=Heap.size_push _ _
    have hneI:l≠(s.heap.push {cls:=.type "set",dict:=none,data:=.set #[] 0 (.fresh 0 0 led)}).objs.size:=by rw[hIs];exact Nat.ne_of_lt (Nat.lt_succ_of_lt hlS)
    have hSf:s.heap.objs.size∉[(s.heap.push {cls:=.type "set",dict:=none,data:=.set #[] 0 (.fresh 0 0 led)}).objs.size,l]:=by
     rw[hIs];simp only[List.mem_cons,List.not_mem_nil,or_false,not_or]
     exact⟨Nat.ne_of_lt (Nat.lt_succ_self _),Nat.ne_of_gt hlS⟩
    have hval:∀(i:Nat) (v:Value),items[i]?=some v->El Pv w s.heap (hashD w (ds.getD i .none),v) (ds.getD i .none):=fun i v hv=>by
     have hlt:=(Array.getElem?_eq_some_iff.mp hv).1
     have hd:ds[i]?=some (ds.getD i .none):=by
      rw[List.getD_eq_getElem?_getD,List.getElem?_eq_getElem (by omega)];rfl
     exact hE i v _ hv hd
    refine update_loopD (A:=A.in1.in1) ((Walks.tuple hh3 _ l hneI items).toS) s.heap.objs.size hSf s.heap (fun b hb'=>none_at b (by rw[List.mem_singleton.mp hb',hIs];exact Nat.le_succ _)) (none_at _ (Nat.le_refl _)) (fun i s' hst b hb' ob e=>?hwt)
     (fun i=>ds.getD i .none) hval (by show A.units+1+1+9<cLine;omega) (by omega) (items.size-0) 0 _ [] (by omega) (Nat.zero_le _)
     ⟨⟨_,Heap.get?_push_size _ rfl,rfl,rfl⟩,(hl1.push _)⟩ ?hK0 ?hS0 (fun d=>by simp) (by simp) ?hR
    case hwt=>
     obtain⟨⟨oi,ho,hc,_⟩,_⟩:=hst
     rw[List.mem_singleton.mp hb',ho]at e
     cases e
     rw[hc]
     decide
    case hK0=>exact fun b o e=>Heap.get?_push_of_some _ (Heap.get?_push_of_some _ e)
    case hS0=>exact hSD.moved (fun o e=>Heap.get?_push_of_some _ e) fun b o e _=>Heap.get?_push_of_some _ e
    case hR=>
     intro s' ds' hm k' S' m' l'
     obtain⟨h',g',d',tk',os'⟩:=s'
     have eg:g'=s.gens:=hm.gens
     have ed:d'=s.drawn:=hm.drawn
     have eo:os'=s.os:=hm.os
     subst eg;subst ed;subst eo
     show wpAny _ _ _ _ _ _
     refine wpAny_pure ?_
     show wpAny _ _ (ret Value.none) _ _ _
     refine wpAny_pure ⟨rfl,h',tk',ds',rfl,S',fun d=>?_,by omega,k',hm.toks⟩
     rw[m' d]
     constructor
     .rintro⟨j,hj,rfl⟩
      rw[List.getD_eq_getElem?_getD,List.getElem?_eq_getElem (by omega)]
      exact List.getElem_mem _
     .intro hd
      obtain⟨j,hj⟩:=List.getElem?_of_mem hd
      have hjl:=(List.getElem?_eq_some_iff.mp hj).1
      exact⟨j,by omega,by rw[List.getD_eq_getElem?_getD,hj];rfl⟩
   .match r₂,hr₂ with
    | .error e,hr₂=>exact hr₂
    | .ok (.ret r),hr₂=>
      obtain⟨rfl,h',tk,ds',rfl,hS',hm',hl',hk',ht'⟩:=hr₂
      repeat (any_goals (first|assumption|(wp_step)))
      exact h _ _ ds' hS' hm' hl' hk' ht'
    | .ok .next,hr₂=>exact hr₂.elim
    | .ok .brk,hr₂=>exact hr₂.elim
    | .ok .cont,hr₂=>exact hr₂.elim
 | .ok .next,hr=>exact hr.elim
 | .ok .brk,hr=>exact hr.elim
 | .ok .cont,hr=>exact hr.elim
end
noncomputable def rSortSetG(prog:Program)(w:World)(A:Around)(κ:SortKind)(lt:PyData->PyData->Bool):List V->Hp->VK->Prop:=fun vs H Q=>∃(p:Addr) (xs:List V) (ds:List PyData),vs=[.ref p]/\(H p=some (.lst xs)\/H p=some (.tup xs))/\RepAll H ds xs/\(∀d∈ds,KeyD d)/\SortsAs prog w A κ lt ds/\ds.length<64/\
 ∀(es:List PyData) (l:Addr) (ys:List V),es.Nodup->(∀d,d∈es↔d∈ds)->es.Pairwise (fun x y=>lt y x=false)->H l=none->RepAll (upd H l (.lst ys)) es ys->Q (.ref l) (upd H l (.lst ys))
theorem SortsAs.sub{prog:Program}{w:World}{A:Around}{κ:SortKind}{lt:PyData->PyData->Bool}{ds es:List PyData}(h:SortsAs prog w A κ lt ds)(hs:∀d∈es,d∈ds):SortsAs prog w A κ lt es:=
 ⟨⟨fun x hx y hy=>h.ord.asy x (hs x hx) y (hs y hy),fun x hx y hy z hz=>h.ord.tr x (hs x hx) y (hs y hy) z (hs z hz)⟩,fun s os dos hd=>h.kind s os dos fun d q=>hs d (hd d q),fun s u v d e as bs hd he=>h.key s u v d e as bs (hs d hd) (hs e he)⟩
section
variable{X:Cx}{p p2 pos pos2:Pos}{e:Expr}{t:TA}
theorem pe_sortsetG(κ:SortKind)(lt:PyData->PyData->Bool)(hc:X.calm=true)(hu:X.A.units+64<cLine)(hg:Gl X "sorted")(hm:X.mg "sorted" = none)(hg2:Gl X "set")(hm2:X.mg "set" = none)(ha:PA X [e] t)(h1:notStar e=true:=by rfl) :
  PE X (.Call (.Name "sorted" p) [.Call (.Name "set" p2) [e] [] pos2] [] pos) (tCB (rSortSetG X.prog X.w X.A.in1.in1 κ lt) t):=by
 intro pins s σ H Q I h
 refine wpAny_Call_Name_kw (ld_blt I hg hm boot_sorted ?_ (by decide) (by decide))
 refine PyProof.Rows.callWith_builtin1 ?_ (star_cons rfl) rfl
 rw[star_cons rfl]
 show wpAny _ _ (spliced ((false,eval (.Call (.Name "set" p2) [e] [] pos2) X.env)::backTo pos (starEach [] X.env))) _ _ s
 refine Calls.spliced_cons ?_
 refine wpAny_Call_Name_kw (ld_blt I hg2 hm2 boot_set ?_ (by decide) (by decide))
 refine PyProof.Rows.callWith_type1 (thn (ha pos2 pins s σ H _ I h) fun us s1 ⟨vs,H1,I1,r1,q1⟩=>?_) (star_cons h1) rfl
 obtain⟨pl,xs,ds,rfl,hp,hds,hkey,sa,hb,q⟩:=q1
 obtain⟨u,rfl,ru⟩:=vals1 r1
 cases (show u=Value.ref pl from ru)
 have hlay:=hds.lay
 have hl1:xs.length=ds.length:=hds.length
 have fin:∀(its:List Value),Vals xs its->∀(h':Heap) (tk:Nat) (ds':List PyData),SetD (fun v d=>∃i:Nat,its[i]?=some v/\ds[i]?=some d) X.w h' s1.heap.objs.size ds'->(∀d,d∈ds'↔d∈ds)->ds'.length<=ds.length->Keep s1.heap h'->
   wpAny (model X.prog X.w) X.A (spliced (backTo pos (starEach [] X.env))) (fun vs s'=>wpAny (model X.prog X.w) X.A (call (.builtin "sorted") (.ref s1.heap.objs.size::vs)) (EP X pins σ Q) X.xe s') X.xe {s1 with heap:=h',toks:=tk}:=by
  intro its rv h' tk ds' hS hmem hlen hk
  refine Calls.spliced_nil ?_
  have I2:Inv X pins σ H1 {s1 with heap:=h',toks:=tk}:=I1.kept hk
  obtain⟨_,_,_,_,_,_,_,_,_,_,nd,_⟩:=id hS
  exact sorted_set_data I2 (fun v d ⟨i,g1,g2⟩=>by
   obtain⟨x,x1,x2⟩:=hds.get g2
   obtain⟨u,u1,u2⟩:=rv.get x1
   have:u=v:=by rw[u1]at g1;cases g1;rfl
   subst this
   exact⟨x,u2,x2⟩) hc hS (by omega) (sa.sub fun d hd=>(hmem d).mp hd) fun es l ys pe up hn rep=>q es l ys (pe.nodup_iff.mpr nd) (fun d=>pe.mem_iff.trans (hmem d)) up hn rep
 rcases hp with hp|hp
 .obtain⟨its,rv,il,hz⟩:=I1.list (SqL.of (K:=X.K) hp)
  obtain⟨as,rds⟩:=RepAll.reads I1 hds rv
  have hl2:xs.length=its.length:=rv.length
  refine call_setD (Pv:=fun v d=>∃i:Nat,its[i]?=some v/\ds[i]?=some d) (ds:=ds) (I1.ok.hd hc) il.isList (by rw[List.size_toArray];omega) (fun i v d hv hd=>?_) (by omega) (by omega) fun h' tk ds' hS hmem hlen hk ht=>fin its rv h' tk ds' hS hmem hlen hk
  rw[List.getElem?_toArray]at hv
  obtain⟨bs,rd⟩:=reads_at rds hv hd
  have hm':=List.mem_of_getElem? hd
  exact⟨⟨i,hv,hd⟩,rfl,(hkey d hm').1,(hkey d hm').2.1,lay_mem hlay d hm',(hkey d hm').2.2,bs,rd⟩
 .obtain⟨its,rv,il,hz⟩:=I1.tuple (SqT.of (K:=X.K) hp)
  obtain⟨as,rds⟩:=RepAll.reads I1 hds rv
  have hl2:xs.length=its.length:=rv.length
  refine call_setT (Pv:=fun v d=>∃i:Nat,its[i]?=some v/\ds[i]?=some d) (ds:=ds) (I1.ok.hd hc) (show s1.heap.IsTuple pl its.toArray from il) (by rw[List.size_toArray];omega) (fun i v d hv hd=>?_) (by omega) (by omega) fun h' tk ds' hS hmem hlen hk ht=>fin its rv h' tk ds' hS hmem hlen hk
  rw[List.getElem?_toArray]at hv
  obtain⟨bs,rd⟩:=reads_at rds hv hd
  have hm':=List.mem_of_getElem? hd
  exact⟨⟨i,hv,hd⟩,rfl,(hkey d hm').1,(hkey d hm').2.1,lay_mem hlay d hm',(hkey d hm').2.2,bs,rd⟩
end
noncomputable def SetX(prog:Program)(w:World)(h:Heap)(a:Addr)(m:List Str):Prop:=h.SetOf (PySem.strKind prog w) a (fun x=>decide (x∈m)) m.length/\m.Nodup
theorem SetX.moved{prog:Program}{w:World}{h h':Heap}{a:Addr}{m:List Str}(x:SetX prog w h a m)(hS:∀o,h.get? a=some o->h'.get? a=some o):SetX prog w h' a m:=by
 obtain⟨⟨o,es,ep,t,ho,rest⟩,nd⟩:=x
 exact⟨⟨o,es,ep,t,hS o ho,rest⟩,nd⟩
theorem SetX.fresh{prog:Program}{w:World}{h:Heap}{a:Addr}{led:Bool}(hS:h.get? a=some {cls:=.type "set",dict:=none,data:=.set #[] 0 (.fresh 0 0 led)}):SetX prog w h a []:=
 ⟨⟨_,#[],0,_,hS,⟨rfl,rfl,rfl⟩,rfl,fun e he=>by simp at he,fun k=>by simp,by decide,by rfl,rfl⟩,List.nodup_nil⟩
section
variable{prog:Program}{w:World}{A:Around}{R:Result->Shared->Prop}{I:Addr}{fp wr:List Addr}{G:Array GenState->Array GenState->Prop}{n:Nat}{P:Nat->Value->Prop}{St:Nat->Shared->Prop}
theorem update_loopX(W:WalksS prog w A.in1 I fp wr G n P St)(S:Addr)(hSf:S∉fp)(h0:Heap)(hwr:∀b∈wr,h0.get? b=none)(hS0:h0.get? S=none)
  (val:Nat->Str) (hval:∀i v,P i v->∃t,v=.str (val i) t) (hb:n+1<scanBound) :
  ∀(k i:Nat) (s:Shared) (ds:List Str),n-i=k->i<=n->St i s->Keep h0 s.heap->SetX prog w s.heap S ds->(∀d,d∈ds↔∃j,j<i/\val j=d)->ds.length<=i->
   (∀s' ds',Moved (S::wr) G s s'->Keep h0 s'.heap->SetX prog w s'.heap S ds'->(∀d,d∈ds'↔∃j,j<n/\val j=d)->ds'.length<=n->R (.ok (.ret .none)) s')->
   codeAny (model prog w) A (.builtin "set.update.loop" ⟨[.ref S,.ref I],[]⟩) R s:=by
 have hSw:S∉wr:=fun h=>hSf (W.sub _ h)
 have mono:∀b∈wr,b∈S::wr:=fun b hb=>List.mem_cons_of_mem _ hb
 have mv:∀{s s':Shared} {ds:List Str},Moved wr G s s'->Keep h0 s.heap->SetX prog w s.heap S ds->Keep h0 s'.heap/\SetX prog w s'.heap S ds:=fun{s s' ds} hm hk hS=>
  ⟨fun b o e=>hm.heap b o (fun z=>by rw[hwr b z]at e;cases e) (hk b o e),hS.moved fun o e=>hm.heap S o hSw e⟩
 intro k
 induction k with
 | zero=>
  intro i s ds hk hi hst hkp hS hmem hlen hR
  have hin:i=n:=by omega
  subst hin
  refine codeAny_builtin F.entry_set_update_loop (show _ from ?_)
  rw[Around.under_plainId F.plain_set_update_loop (_:Args)]
  show wpAny _ A.in1 (pyNext (.ref I) >>= _) _ _ _
  refine wpAny_bind (W.done s _ _ hst fun s' hm=>?_)
  obtain⟨k1,S1⟩:=mv hm hkp hS
  exact wpAny_pure (hR s' ds (hm.mono mono) k1 S1 hmem hlen)
 | succ k ih=>
  intro i s ds hk hi hst hkp hS hmem hlen hR
  have hlt:i<n:=by omega
  refine codeAny_builtin F.entry_set_update_loop (show _ from ?_)
  rw[Around.under_plainId F.plain_set_update_loop (_:Args)]
  show wpAny _ A.in1 (pyNext (.ref I) >>= _) _ _ _
  refine wpAny_bind (W.item i s _ _ hlt hst fun v s' hP hst' hm=>?_)
  obtain⟨t,rfl⟩:=hval i v hP
  obtain⟨k1,S1,nd⟩:=mv hm hkp hS
  show wpAny _ A.in1 (holding [Value.str (val i) t] (setAdd S (.str (val i) t)) >>= _) _ _ _
  refine wpAny_bind (wpAny_holding ?_)
  unfold setAdd
  refine wpAny_holding ?_
  refine wpAny_bind ((PySem.strKind prog w).pyHash (k:=val i) (strKind_is _ _ _ _) ?_)
  refine wpAny_setAddHashed_of (knd:=PySem.strKind prog w) (s:={s' with toks:=s'.toks+1}) (strKind_is _ _ _ _) rfl S1 (by omega) fun h' hsb hS2=>?_
  have k2:Keep h0 h':=fun b o e=>by
   rw[hsb.2 b (fun z=>by rw[z,hS0]at e;cases e)]
   exact k1 b o e
  obtain⟨ds',S3,hmem',hlen'⟩:∃ds':List Str,SetX prog w h' S ds'/\(∀d,d∈ds'↔∃j,j<i+1/\val j=d)/\ds'.length<=i+1:=by
   have base:∀d,(∃j,j<i+1/\val j=d)↔(d∈ds\/val i=d):=fun d=>by
    rw[hmem d]
    constructor
    .rintro⟨j,hj,e⟩
     by_cases q:j=i
     .subst q;exact .inr e
     .exact .inl ⟨j,by omega,e⟩
    .rintro(⟨j,hj,e⟩|e)
     .exact⟨j,by omega,e⟩
     .exact⟨i,by omega,e⟩
   by_cases q:val i∈ds
   .refine⟨ds,⟨SetOf_congr hS2 (fun x=>?_) (by simp[q]),nd⟩,fun d=>?_,by omega⟩
    .by_cases e:x=val i
     .subst e;simp[q]
     .simp[e]
    .rw[base d]
     exact⟨.inl,fun z=>z.elim id fun e=>e▸q⟩
   .refine⟨val i::ds,⟨SetOf_congr hS2 (fun x=>?_) (by simp[q]),List.nodup_cons.mpr ⟨q,nd⟩⟩,fun d=>?_,by rw[List.length_cons];omega⟩
    .by_cases e:x=val i
     .subst e;simp
     .simp[e]
    .rw[base d,List.mem_cons]
     exact⟨fun z=>z.elim (fun e=>.inr e.symm) .inl,fun z=>z.elim .inr fun e=>.inl e.symm⟩
  refine wpAny_pure ⟨plainId_quiet F.plain_set_update_loop _,ih (i+1) _ ds' (by omega) hlt (W.frame _ s' _ _ hst' (Nat.le_succ _) fun b hb o e=>?_) k2 S3 hmem' hlen' fun s'' ds'' hm'' k'' S'' m'' l''=>?_⟩
  .rw[hsb.2 b (fun h:b=S=>hSf (by rw[<-h];exact hb))];exact e
  .refine hR s'' ds'' (Moved.trans W.gtrans ((hm.mono mono).then_heap (Nat.le_succ _) fun b o hb e=>?_) hm'') k'' S'' m'' l''
   rw[hsb.2 b (fun h:b=S=>hb (by rw[h];exact List.mem_cons_self))];exact e
end
section
variable{prog:Program}{w:World}{A:Around}{E:Value->Shared->Prop}{s:Shared}
theorem call_setX{l:Addr}{items:Array Value}{ds:List Str}{Q:Value->Shared->Prop}
  (hh:A.handled=none) (hl:s.heap.IsList l items) (hi:items.size=ds.length) (hE:∀(i:Nat) v d,items[i]?=some v->ds[i]?=some d->∃t,v=.str d t) (hb:ds.length+1<scanBound)
  (h:∀(h':Heap) (tk:Nat) (ds':List Str),SetX prog w h' s.heap.objs.size ds'->(∀d,d∈ds'↔d∈ds)->ds'.length<=ds.length->Keep s.heap h'->s.toks<=tk->Q (.ref s.heap.objs.size) {s with heap:=h',toks:=tk}) :
  wpAny (model prog w) A (call (.type "set") [.ref l]) Q E s:=by
 obtain⟨c,tl,hmro⟩:=PySem.F.called_set.mro
 have hmade:=PySem.F.called_set.made
 have hsub:=PySem.F.called_set.sub
 refine wpAny_call (codeAny_of_tree (show _ from ?_))
 show wpAny _ _ (callAny (.type "set") _) _ _ s
 refine wpAny_pure ⟨Code.quiet_builtin _ (by decide +kernel),codeAny_builtin F.entry_type_call (show _ from ?_)⟩
 rw[Around.under_plain (weight_type_call_type "set" [.ref l] []) (rfl:_=_)]
 have h1:=PySem.F.called_set.notType
 have h2:=PySem.F.called_set.canCreate
 have hct:=PySem.F.typeCall_set_1 (.ref l)
 repeat (any_goals (first|assumption|(wp_step)))
 refine codeAny_mono (code_set_newD (.ref l) (E:=E) (Q₁:=fun obj s₁=>∃led:Bool,led=(!byT w)/\obj=.ref s.heap.objs.size/\s₁={s with heap:=s.heap.push {cls:=.type "set",dict:=none,data:=.set #[] 0 (.fresh 0 0 led)}}) ⟨_,rfl,rfl,rfl⟩) fun r s₁ hr=>?_
 match r,hr with
 | .error e,hr=>exact hr
 | .ok (.ret obj),hr=>
   obtain⟨led,hled,rfl,rfl⟩:=hr
   obtain⟨emp,hemp⟩:∃ob:Obj,ob={cls:=.type "set",dict:=none,data:=.set #[] 0 (.fresh 0 0 led)}:=⟨_,rfl⟩
   have hS:(s.heap.push emp).get? s.heap.objs.size=some emp:=Heap.get?_push_size _ (by rw[hemp];rfl)
   have hT:Shared.TypeIs {s with heap:=s.heap.push emp} (.ref s.heap.objs.size) "set":=⟨_,hS,by rw[hemp]⟩
   have hSD:SetX prog w (s.heap.push emp) s.heap.objs.size []:=by rw[hemp]at hS⊢;exact SetX.fresh hS
   rw[<-hemp]
   have hli:=PySem.F.called_set.init.lookup
   have hbi:=PySem.F.called_set.init.bind (.ref s.heap.objs.size)
   repeat (any_goals (first|assumption|(wp_step)))
   refine codeAny_mono (codeAny_call_builtin (R:=wants (fun r s₂=>r=.none/\∃h' tk ds',s₂={s with heap:=h',toks:=tk}/\SetX prog w h' s.heap.objs.size ds'/\(∀d,d∈ds'↔d∈ds)/\ds'.length<=ds.length/\Keep s.heap h'/\s.toks<=tk) E) PySem.F.called_set.init.plain F.entry_set_init (check_set_init_1 hT ?_)) fun r₂ s₂ hr₂=>?_
   .obtain⟨ol,hol,hcl,nl,hdl⟩:=hl
    obtain⟨ocls,odict,odata,oslots⟩:=ol
    simp only at hcl hdl
    subst hcl;subst hdl
    have hol':(s.heap.push emp).get? l=some {cls:=.type "list",dict:=odict,data:=.seq items nl,slots:=oslots}:=Heap.get?_push_of_some _ hol
    have hsls:=PySem.F.sub_list_set
    have hslf:=PySem.F.sub_list_frozenset
    have hne:(Value.type "list" == Value.type "dict")=false:=by decide
    have hl1:(s.heap.push emp).IsList l items:=⟨_,hol',rfl,nl,rfl⟩
    unfold Builtin.«set.__init__» noKeywords Builtin.Frozenset.updateFrom
    generalize hPI:pyIter=PI
    subst hemp
    wp_walk
    subst hPI
    refine wpAny_pyIter_list hl1 ?_
    refine wpAny_bind (wpAny_runValue ?_)
    have none_at:∀b,s.heap.objs.size<=b->s.heap.get? b=none:=fun b hb'=>by
     cases hq:s.heap.get? b with
     | none=>rfl
     | some ob=>exact absurd (Heap.lt_size hq) (Nat.not_lt.mpr hb')
    have hlS:l<s.heap.objs.size:=Heap.lt_size hol
    have hh3:A.in1.in1.in1.handled=none:=by simp[hh]
    have hIs:(s.heap.push {cls:=.type "set",dict:=none,data:=.set #[] 0 (.fresh 0 0 led)}).objs.size=s.heap.objs.size+1:=Heap.size_push _ _
    have hneI:l≠(s.heap.push {cls:=.type "set",dict:=none,data:=.set #[] 0 (.fresh 0 0 led)}).objs.size:=by rw[hIs];exact Nat.ne_of_lt (Nat.lt_succ_of_lt hlS)
    have hSf:s.heap.objs.size∉[(s.heap.push {cls:=.type "set",dict:=none,data:=.set #[] 0 (.fresh 0 0 led)}).objs.size,l]:=by
     rw[hIs];simp only[List.mem_cons,List.not_mem_nil,or_false,not_or]
     exact⟨Nat.ne_of_lt (Nat.lt_succ_self _),Nat.ne_of_gt hlS⟩
    have hval:∀(i:Nat) (v:Value),items[i]?=some v->∃t,v=.str (ds.getD i ⟨#[]⟩) t:=fun i v hv=>by
     have hlt:=(Array.getElem?_eq_some_iff.mp hv).1
     have hd:ds[i]?=some (ds.getD i ⟨#[]⟩):=by
      rw[List.getD_eq_getElem?_getD,List.getElem?_eq_getElem (by omega)];rfl
     exact hE i v _ hv hd
    refine update_loopX (A:=A.in1.in1) ((Walks.list hh3 _ l hneI items).toS) s.heap.objs.size hSf s.heap (fun b hb'=>none_at b (by rw[List.mem_singleton.mp hb',hIs];exact Nat.le_succ _)) (none_at _ (Nat.le_refl _))
     (fun i=>ds.getD i ⟨#[]⟩) hval (by omega) (items.size-0) 0 _ [] (by omega) (Nat.zero_le _)
     ⟨⟨_,Heap.get?_push_size _ rfl,rfl,rfl⟩,(hl1.push _)⟩ ?hK0 ?hS0 (fun d=>by simp) (by simp) ?hR
    case hK0=>exact fun b o e=>Heap.get?_push_of_some _ (Heap.get?_push_of_some _ e)
    case hS0=>exact hSD.moved fun o e=>Heap.get?_push_of_some _ e
    case hR=>
     intro s' ds' hm k' S' m' l'
     obtain⟨h',g',d',tk',os'⟩:=s'
     have eg:g'=s.gens:=hm.gens
     have ed:d'=s.drawn:=hm.drawn
     have eo:os'=s.os:=hm.os
     subst eg;subst ed;subst eo
     show wpAny _ _ _ _ _ _
     refine wpAny_pure ?_
     show wpAny _ _ (ret Value.none) _ _ _
     refine wpAny_pure ⟨rfl,h',tk',ds',rfl,S',fun d=>?_,by omega,k',hm.toks⟩
     rw[m' d]
     constructor
     .rintro⟨j,hj,rfl⟩
      rw[List.getD_eq_getElem?_getD,List.getElem?_eq_getElem (by omega)]
      exact List.getElem_mem _
     .intro hd
      obtain⟨j,hj⟩:=List.getElem?_of_mem hd
      have hjl:=(List.getElem?_eq_some_iff.mp hj).1
      exact⟨j,by omega,by rw[List.getD_eq_getElem?_getD,hj];rfl⟩
   .match r₂,hr₂ with
    | .error e,hr₂=>exact hr₂
    | .ok (.ret r),hr₂=>
      obtain⟨rfl,h',tk,ds',rfl,hS',hm',hl',hk',ht'⟩:=hr₂
      repeat (any_goals (first|assumption|(wp_step)))
      exact h _ _ ds' hS' hm' hl' hk' ht'
    | .ok .next,hr₂=>exact hr₂.elim
    | .ok .brk,hr₂=>exact hr₂.elim
    | .ok .cont,hr₂=>exact hr₂.elim
 | .ok .next,hr=>exact hr.elim
 | .ok .brk,hr=>exact hr.elim
 | .ok .cont,hr=>exact hr.elim
end
noncomputable def rLenSetX:List V->Hp->VK->Prop:=fun vs H Q=>∃(p:Addr) (zs:List Str),vs=[.ref p]/\H p=some (.lst (zs.map V.str))/\zs.length<=100/\
 ∀m:List Str,m.Nodup->(∀z,z∈m↔z∈zs)->m.length<=zs.length->Q (.int m.length) H
section
variable{X:Cx}{p p2 pos pos2:Pos}{e:Expr}{t:TA}
theorem pe_lensetX(hc:X.calm=true)(hg:Gl X "len")(hm:X.mg "len" = none)(hg2:Gl X "set")(hm2:X.mg "set" = none)(ha:PA X [e] t)(h1:notStar e=true:=by rfl) :
  PE X (.Call (.Name "len" p) [.Call (.Name "set" p2) [e] [] pos2] [] pos) (tCB rLenSetX t):=by
 intro pins s σ H Q I h
 refine wpAny_Call_Name_kw (ld_blt I hg hm PySem.boot_len ?_ (by decide) (by decide))
 refine PyProof.Rows.callWith_builtin1 ?_ (star_cons rfl) rfl
 rw[star_cons rfl]
 show wpAny _ _ (spliced ((false,eval (.Call (.Name "set" p2) [e] [] pos2) X.env)::backTo pos (starEach [] X.env))) _ _ s
 refine Calls.spliced_cons ?_
 refine wpAny_Call_Name_kw (ld_blt I hg2 hm2 boot_set ?_ (by decide) (by decide))
 refine PyProof.Rows.callWith_type1 (thn (ha pos2 pins s σ H _ I h) fun us s1 ⟨vs,H1,I1,r1,q1⟩=>?_) (star_cons h1) rfl
 obtain⟨pl,zs,rfl,hp,hb,q⟩:=q1
 obtain⟨u,rfl,ru⟩:=vals1 r1
 cases (show u=Value.ref pl from ru)
 obtain⟨its,rv,il,hz⟩:=I1.list (SqL.of (K:=X.K) hp)
 have hl2:(zs.map V.str).length=its.length:=rv.length
 rw[List.length_map]at hl2
 refine call_setX (ds:=zs) (I1.ok.hd hc) il.isList (by rw[List.size_toArray];omega) (fun i v d hv hd=>?_) (by unfold scanBound;omega) fun h' tk ds' hS hmem hlen hk ht=>?_
 .rw[List.getElem?_toArray]at hv
  obtain⟨u,u1,u2⟩:=rv.get (i:=i) (x:=V.str d) (by rw[List.getElem?_map,hd];rfl)
  rw[hv]at u1;cases u1
  exact u2
 .obtain⟨⟨o,es,ep,tb,ho,hex,hdat,_,_,_,hfit,hn⟩,nd⟩:=hS
  refine Calls.spliced_nil ?_
  refine call_len_set ho hex hdat hfit (by rw[hn];have:(ds'.length:Int)<2000:=by omega
                                           exact Int.lt_of_lt_of_le this (by decide)) ?_
  refine⟨.int ds'.length,H1,?_,⟨_,by rw[<-hn]⟩,q ds' nd hmem hlen⟩
  exact I1.kept hk
end
end L3
namespace L2
open PySem PySem.Spec PyProof.Rows
section
variable{P:Program}{w:World}{H:Hp}{h:Heap}{a:Addr}
theorem rd_of{u:HO}(ok:HOk P w H h)(e:Rd H a u):ObjOk P w H h a u:=e.ok ok
theorem dk_rd{kvs:List (Key×V)}(ok:HOk P w H h)(e:Rd H a (.dK kvs)):kvs.length<=sizeLine/\(a==sysModules)=false/\∃vs,KV kvs vs/\h.DictOf (mixKind P w) a vs:=
 show ObjOk P w H h a (.dK kvs)from rd_of ok e
theorem dk_of{kvs:List (Key×V)}(ok:HOk P w H h)(e:H a=some (.dK kvs)):kvs.length<=sizeLine/\(a==sysModules)=false/\∃vs,KV kvs vs/\h.DictOf (mixKind P w) a vs:=dk_rd ok (.inl e)
end
end L2
namespace L3
open PySem PySem.Spec PyProof.Rows L2 SeqAt
open AutoSeq1 (wpAny_loadPart')
theorem str_eq_dict(b:Str)(u:Tok)(l:Addr)(c:Value)(es:Array DictEntry)(n:Nat)(dd:Option Addr)(sl:Array (Option Value)) :
  Meets (Builtin.«str.__eq__» ⟨[.str b u,.ref l],[]⟩) (fun _ R s=>s.heap.get? l=some {cls:=c,dict:=dd,data:=.dict es n,slots:=sl}/\R (.ok (.ret .notImplemented)) s):=
 .of_wp fun prog w A R s h=>by obtain⟨hp,g,d,tk,os⟩:=s;obtain⟨hl,h⟩:=h;wp_walk using wpAny_loadPart' hl,wpAny_load hl;exact⟨_,rfl,h⟩
theorem dict_eq_str(l:Addr)(es:Array DictEntry)(n:Nat)(dd:Option Addr)(sl:Array (Option Value))(b:Str)(u:Tok) :
  Meets (Builtin.«dict.__eq__» ⟨[.ref l,.str b u],[]⟩) (fun _ R s=>s.heap.get? l=some {cls:=.type "dict",dict:=dd,data:=.dict es n,slots:=sl}/\R (.ok (.ret .notImplemented)) s):=
 .of_wp fun prog w A R s h=>by obtain⟨hp,g,d,tk,os⟩:=s;obtain⟨hl,h⟩:=h;have f1:=F.sub_str_dict;wp_walk using wpAny_loadPart' hl;exact⟨_,rfl,h⟩
section
variable{A:Around}{s:Shared}
theorem eq_str_dict{l:Addr}{o:Obj}{es:Array DictEntry}{n:Nat}(b:Str)(u:Tok)(ho:s.heap.get? l=some o)(hc:o.cls=.type "dict")(hd:o.data=.dict es n)(hu:A.units<cLine):EqAt A s (.str b u) (.ref l) false:=fun prog w E Q h=>by
 obtain⟨cls,dd,data,sl⟩:=o
 simp only at hc hd
 subst hc hd
 have rc:∀Q':Value->Shared->Prop,Q' (.bool false) s->wpAny (model prog w) A (richCompare .Eq (.str b u) (.ref l)) Q' E s:=fun Q' hq'=>
  rc_eq_decline_or (k:=false) (typeIs_str s b u) ⟨_,ho,rfl⟩ (by decide) F.sub_dict_str F.slot_str_eq F.slot_dict_eq_refl
   (fun _ hq=>call_meets F.slot_str_eq (typeIs_str s b u) F.entry_str_eq (F.args_str_eq_2 _ _) (str_eq_dict b u l (.type "dict") es n dd sl) ⟨ho,hq⟩)
   (fun _ hq=>call_meets F.slot_dict_eq_refl ⟨_,ho,rfl⟩ F.entry_dict_eq (F.args_dict_eq_2 _ _) (dict_eq_str l es n dd sl b u) ⟨ho,hq⟩)
   (fun _ hq=>wpAny_of_eq (rfl:isSame (.str b u) (.ref l)=pure false) hq) (.inr hu) hq'
 unfold eqBool
 refine wpAny_holding ?_
 refine wpAny_ite_split (fun hab=>absurd (eq_of_beq hab) nofun) (fun _=>?_)
 exact wpAny_bind (rc _ (wpAny_truthy_bool h))
end
section
variable{X:Cx}
noncomputable def rInE:R2:=fun x y H Q=>∃(a p:Addr) (zs:List Str),x=.ref a/\H a=some (.dK [])/\y=.ref p/\H p=some (.lst (zs.map V.str))/\Q (.bl false) H
theorem op_inE(hu:X.A.units+64<cLine):OpR X (compareOp .In) rInE:=by
 intro pins s σ H x y v u Q I rx ry h
 obtain⟨a,p,zs,rfl,ha,rfl,hp,q⟩:=h
 cases rx
 cases ry
 obtain⟨its,rv,il,_⟩:=I.list (SqL.of (K:=X.K) hp)
 obtain⟨_,hda,vs,rel,dd⟩:=dk_of I.hok ha
 obtain⟨o,es,ep,ho,hcls,hdat,_⟩:=dd
 have e:(its.toArray.any fun _=>false)=false:=by simp
 refine in_listAt (fun _=>false) il.isList (fun y hy=>?_) (by rw[e];exact⟨.bl false,H,I,rfl,q⟩)
 have hy':y∈its:=by simpa using hy
 obtain⟨i,hi⟩:=List.mem_iff_getElem?.mp hy'
 have hil:i<zs.length:=by have h1:=(List.getElem?_eq_some_iff.mp hi).1;have h2:=rv.length;rw[List.length_map]at h2;omega
 obtain⟨u,u1,u2⟩:=rv.get (i:=i) (x:=V.str zs[i]) (by rw[List.getElem?_map,List.getElem?_eq_getElem hil];rfl)
 rw[hi]at u1;cases u1
 obtain⟨t,rfl⟩:=u2
 exact eq_str_dict zs[i] t ho hcls.1 hdat (by show X.A.units+1<cLine;omega)
end
theorem noFill_tuple_mulX:fillsNumberSlot (.type "tuple") "mul" = pure false:=
 PySem.fillsNumberSlot_seq (id:="tuple.__mul__") (r:=some (.builtin "tuple.__rmul__")) F.slot_tuple_mul.lookup (by decide +kernel) F.slot_tuple_rmul.lookup (by decide +kernel)
theorem repeat_tupleX:seqRepeat? (.type "tuple")=pure (some (.builtin "tuple.__mul__")):=by
 unfold seqRepeat?
 rw[PySem.seqSlot_of (T:="tuple") (name:="__mul__") (id:="tuple.__mul__") F.slot_tuple_mul.lookup (by decide +kernel),PySem.seqSlot_of (T:="tuple") (name:="__rmul__") (id:="tuple.__rmul__") F.slot_tuple_rmul.lookup (by decide +kernel)]
 rfl
theorem int_rmul_tupleX(a:Int)(t:Tok)(l:Addr)(items:Array Value)(n:Nat)(dd:Option Addr)(sl:Array (Option Value)):Meets (Builtin.«int.__rmul__» ⟨[.int a t,.ref l],[]⟩) (fun _ R s=>s.heap.get? l=some {cls:=.type "tuple",dict:=dd,data:=.seq items n,slots:=sl}/\R (.ok (.ret Value.notImplemented)) s):=
 .of_wp fun prog w A R s h=>by obtain⟨hp,g,d,tk,os⟩:=s;obtain⟨hl,h⟩:=h;wp_walk;exact⟨_,rfl,h⟩
theorem tuple_mul7(l:Addr)(t:Tok)(items:Array Value)(n:Nat)(dd:Option Addr)(sl:Array (Option Value))(h0:items.isEmpty=false)(hz:items.size<=1000) :
  Meets (Builtin.«tuple.__mul__» ⟨[.ref l,.int 7 t],[]⟩) (fun _ R s=>s.heap.get? l=some {cls:=.type "tuple",dict:=dd,data:=.seq items n,slots:=sl}/\
   R (.ok (.ret (.ref s.heap.objs.size))) {s with heap:=s.heap.push {cls:=.type "tuple",data:=.seq ((List.replicate 7 items).foldl (· ++ ·) #[])}}):=
 .of_wp fun prog w A R s h=>by
  obtain⟨hp,g,d,tk,os⟩:=s
  obtain⟨hl,h⟩:=h
  have h1:(items.isEmpty||(7:Int)==1)=false:=by rw[h0];rfl
  have h2:((7:Int)<=0||items.isEmpty)=false:=by rw[h0];rfl
  wp_walk using wpAny_loadPart' hl
  have hn7:(items.size:Int)*7<=7000:=by omega
  have htm:Builtin.Tuple.tupleTooMany ((items.size:Int)*7)=false:=by
   unfold Builtin.Tuple.tupleTooMany
   simp[sizeLine_eq]
   omega
  rw[if_neg (by have:((2:Int)^63-1)/8=1152921504606846975:=by decide
                omega)]
  dsimp only
  rw[htm,if_neg Bool.false_ne_true]
  unfold Builtin.Tuple.tupleExact
  refine wpAny_bind (wpAny_newObj_type ?_ ?_)
  .exact wpAny_pure ⟨_,rfl,h⟩
  .show(List.foldl (fun x1 x2=>x1++x2) #[] (List.replicate 7 items)).size<=sizeLine
   have e:List.replicate 7 items=[items,items,items,items,items,items,items]:=rfl
   rw[e]
   simp[sizeLine_eq]
   omega
section
variable{X:Cx}
noncomputable def rRep7:R2:=fun x y H Q=>∃(l:Addr) (xs:List V),x=.ref l/\y=.int 7/\H l=some (.tup xs)/\0<xs.length/\xs.length<=60/\∀p,H p=none->Q (.ref p) (upd H p (.tup (List.replicate 7 xs).flatten))
theorem op_rep7:OpR X (binaryOp .Mult) rRep7:=by
 intro pins s σ H x y v u Q I rx ry h
 obtain⟨l,xs,rfl,rfl,hl,h0,h60,q⟩:=h
 cases rx
 obtain⟨t,rfl⟩:=ry
 obtain⟨its,r,⟨o,ho,hc,n,hd⟩,hz⟩:=I.tuple (SqT.of (K:=X.K) hl)
 have hlen:=r.length
 obtain⟨cls,dd,data,sl⟩:=o
 simp only at hc hd
 subst hc hd
 refine wpAny_binaryOp_repeat_ref (T:="tuple") (U:="int") (by decide) ⟨_,ho,rfl⟩ (fun s'=>typeIs_int s' 7 t) noFill_tuple_mulX F.fills_int_mul F.slot_int_rmul repeat_tupleX F.slot_int_index.lookup
  (call_meets F.slot_int_rmul (typeIs_int s 7 t) F.entry_int_rmul (F.args_int_rmul_2 _ _) (int_rmul_tupleX 7 t l its.toArray n dd sl)
   ⟨ho,rfl,⟨_,ho,rfl⟩,call_meets F.slot_tuple_mul ⟨_,ho,rfl⟩ F.entry_tuple_mul (F.args_tuple_mul_2 _ _) (tuple_mul7 l t its.toArray n dd sl (by
    cases its with
    | nil=>rw[hlen]at h0;exact absurd h0 (Nat.lt_irrefl _)
    | cons a b=>rfl) (by rw[List.size_toArray];omega)) ⟨ho,?_⟩⟩)
 have e:(List.replicate 7 its.toArray).foldl (· ++ ·) #[]=((List.replicate 7 its).flatten).toArray:=by
  show #[]++its.toArray++its.toArray++its.toArray++its.toArray++its.toArray++its.toArray++its.toArray=(its++(its++(its++(its++(its++(its++(its++[]))))))).toArray
  simp
 have rv:Vals (List.replicate 7 xs).flatten (List.replicate 7 its).flatten:=r.append (r.append (r.append (r.append (r.append (r.append (r.append .nil))))))
 rw[e]
 refine⟨.ref s.heap.objs.size,_,I.laid (t':=s.toks) (o:=.tup (List.replicate 7 xs).flatten) (fun b ob q=>Heap.get?_push_of_some _ q) (Nat.le_refl _) ?_,rfl,q _ (I.hok.fresh (Nat.le_refl _))⟩
 refine⟨?_,_,rv,IsTup.new _ _⟩
 have:(List.replicate 7 xs).flatten.length=7*xs.length:=by rw[List.length_flatten,List.map_replicate,List.sum_replicate_nat]
 rw[this,sizeLine_eq]
 omega
end
end L3
namespace K09
open PySem PyProof.Rows L2 L3
noncomputable def KnN:Nat->Hp->V->Prop
 | 0,H,v=>Kn H v
 | n+1,H,v=>Kn H v/\∀a xs,v=.ref a->H a=some (.tup xs)->xs.length<=60/\∀x∈xs,KnN n H x
theorem KnN.kn{n:Nat}{H:Hp}{v:V}(h:KnN n H v):Kn H v:=by
 cases n with
 | zero=>exact h
 | succ n=>exact h.1
theorem KnN.same{H H':Hp}(s:Same H H'):∀{n:Nat} {v:V},KnN n H v->KnN n H' v
 | 0,v,h=>Kn.same s h
 | n+1,v,h=>⟨h.1.same s,fun a xs e ha=>by
  subst e
  obtain⟨h1,h2⟩:=h.2 a xs rfl (kn_back s h.1 ha)
  exact⟨h1,fun x hx=>KnN.same s (h2 x hx)⟩⟩
theorem KnN.down:∀{n:Nat} {H:Hp} {v:V},KnN (n+1) H v->KnN n H v
 | 0,H,v,h=>h.1
 | n+1,H,v,h=>⟨h.1,fun a xs e ha=>⟨(h.2 a xs e ha).1,fun x hx=>KnN.down ((h.2 a xs e ha).2 x hx)⟩⟩
noncomputable def smB(c:Nat):Bool:=decide (97<=c)&&decide (c<=122)
noncomputable def nameB:V->Bool
 | .str z=>decide (1<=z.length)&&decide (z.length<=8)&&z.cps.toList.all smB
 | _=>false
noncomputable def mode1(z:Str):Bool:=decide (z=Str.ofString "still")||decide (z=Str.ofString "turn")||decide (z=Str.ofString "flip")
noncomputable def modeB:V->Bool
 | .str z=>mode1 z
 | _=>false
noncomputable def bndB:V->V->Bool
 | .int i,.non=>decide (0<=i)&&decide (i<=64)
 | .int i,.int j=>decide (0<=i)&&decide (i<=64)&&(decide (i<=j)&&decide (j<=64))
 | _,_=>false
noncomputable def DictM(P:Program)(w:World)(K:PySem.W.Frag)(mg:Str->Option Value):Prop:=∃aD oD kvs,mg "TURNINGS_BY_MODE" = some (.ref aD)/\K.lookup aD=some oD/\oD.IsDictOf (PySem.strKind P w) kvs/\(aD==sysModules)=false/\∀z,(valueAt kvs z).isSome=mode1 z
noncomputable def GI(mg:Str->Option Value)(x:Str)(n:Int):Prop:=∃t,mg x=some (.int n t)
theorem kn_strM{K:PySem.W.Frag}{H:Hp}{v:V}(h:Kn H v):(∃z,v=.str z/\Tx z)\/((∃t,TyOf K H v t/\PySem.W.kitOne K t (.type "str")=some false)/\modeB v=false/\nameB v=false):=by
 rcases h with rfl|⟨b,rfl⟩|⟨i,rfl⟩|⟨z,rfl,hz⟩|⟨a,rfl,⟨ys,h⟩|⟨ys,h⟩|h⟩
 .exact .inr ⟨⟨_,.non,rfl⟩,rfl,rfl⟩
 .exact .inr ⟨⟨_,.bl b,rfl⟩,rfl,rfl⟩
 .exact .inr ⟨⟨_,.int i,rfl⟩,rfl,rfl⟩
 .exact .inl ⟨z,rfl,hz⟩
 .exact .inr ⟨⟨_,.lst h,rfl⟩,rfl,rfl⟩
 .exact .inr ⟨⟨_,.tup h,rfl⟩,rfl,rfl⟩
 .exact .inr ⟨⟨_,.dK h,rfl⟩,rfl,rfl⟩
section
variable{P:Program}{w:World}{K:PySem.W.Frag}{mg:Str->Option Value}{base:Heap}{f:Addr}{fd:FuncData}
noncomputable def spMode:Sp:=fun vs H Q _=>∃v,vs=[v]/\Kn H v/\Q (.bl (modeB v)) H
theorem scMode:FnScope ["found"] ["found"] (defScope sMode):=⟨rfl,rfl,rfl,by decide +kernel,rfl,by decide +kernel,by decide +kernel⟩
theorem ok_mode(B:∀x∈blts,mg x=none)(hM:DictM P w K mg)(F:Fun K "is_mode" "is_mode" sMode f fd):FnOk P w K mg base CX0 1 f fd ["found"] spMode:=by
 refine F.ok (k:=0) scMode (fun vs H Q E h=>?_) (fun cdv A outer s H vs Q E hr h=>?_)
 .obtain⟨c,rfl,_⟩:=h
  rfl
 obtain⟨v,rfl,hv,q⟩:=h
 obtain⟨aD,oD,kvs,hD,lD,dD,nD,mD⟩:=hM
 refine⟨_,(pss_one (ps_ret (pe_and (pe_cB call_isinst rfl (B "isinstance" (by decide)) boot_isinstance (pa_c (pv 0) (pa_c (pe_bltn (v:=.ty "str") rfl (B "str" (by decide)) boot_str rfl) pa_nil))) (pe_one (pe_cmpR op_inG (pv 0) (pe_globR hD rfl) rfl))))),?_⟩
 rcases kn_strM (K:=K) hv with ⟨z,rfl,hz⟩|⟨⟨t,ty,kt⟩,e,_⟩
 .refine⟨_,rfl,_,_,_,true,rfl,.str _,rfl,true,rfl,iteT ?_⟩
  refine⟨_,rfl,aD,z,oD,kvs,rfl,rfl,lD,dD,nD,?_⟩
  rw[mD]
  exact q
 .rw[e]at q
  exact⟨_,rfl,v,_,t,false,rfl,ty,kt,false,rfl,iteF q⟩
theorem name_eq(z:Str):nameB (.str z)=(decide (1<=z.length)&&decide (z.length<=8)&&z.cps.toList.all smB):=rfl
noncomputable def spName:Sp:=fun vs H Q _=>∃v,vs=[v]/\Kn H v/\∀H',Same H H'->Q (.bl (nameB v)) H'
theorem scName:FnScope ["found"] ["found"] (defScope sName):=⟨rfl,rfl,rfl,by decide +kernel,rfl,by decide +kernel,by decide +kernel⟩
theorem ok_name(B:∀x∈blts,mg x=none)(gLN:GI mg "LONGEST_NAME" 8)(Fsmall:Fn P w K mg base "is_small" 1 ["found"] spSmall)(F:Fun K "is_name" "is_name" sName f fd):FnOk P w K mg base CX0 2 f fd ["found"] spName:=by
 refine F.ok (k:=1) scName (fun vs H Q E h=>?_) (fun cdv A outer s H vs Q E hr h=>?_)
 .obtain⟨v,rfl,_⟩:=h
  rfl
 obtain⟨v,rfl,hv,q⟩:=h
 refine⟨_,(pss_cons (ps_if (PW.pt (pw_or (pt_not (pt_val (pe_cB call_isinst rfl (B "isinstance" (by decide)) boot_isinstance (pa_c (pv 0) (pa_c (pe_bltn (v:=.ty "str") rfl (B "str" (by decide)) boot_str rfl) pa_nil))))) (pw_or1 (pt_not (pt_chain op_le op_le pe_int (pe_cB call_len_str rfl (B "len" (by decide)) PySem.boot_len (pa_c (pv 0) pa_nil)) (pe_globI gLN rfl)))))) (pss_one (ps_ret pe_bl)) pss_nil)
  (pss_one (ps_ret (pe_cB (call_all rfl) rfl (B "all" (by decide)) boot_all (pa_c (pe_comp ["letter"] [none] rfl rfl (by decide +kernel) (by decide +kernel) rfl rfl (pi_str (pv 0)) (fun _=>(pg_name (i:=0) (show(["letter"]:List PySem.Str).Nodup by decide +kernel) rfl (Or.inl rfl))) (fun _=>pts_nil) (fun _=>(pe_fn Fsmall hr (by decide) rfl (pa_c (pv 0) pa_nil)))) pa_nil))))),?_⟩
 rcases kn_strM (K:=K) hv with ⟨z,rfl,hz⟩|⟨⟨t,ty,kt⟩,_,e⟩
 .refine⟨_,rfl,.str z,"str",.type "str",true,rfl,.str z,rfl,true,rfl,?_⟩
  refine iteF ?_
  refine⟨_,rfl,z,rfl,tx_line hz,?_⟩
  refine⟨_,_,rfl,rfl,_,rfl,?_⟩
  refine ite2 (fun c1=>?_) (fun c1=>?_)
  .have c1':(1:Int)<=(z.length:Int):=of_decide_eq_true c1
   refine⟨_,_,rfl,rfl,_,rfl,?_⟩
   refine ite2 (fun c2=>?_) (fun c2=>?_)
   .have c2':¬((z.length:Int)<=8):=by simpa using c2
    have e:nameB (.str z)=false:=by
     rw[name_eq]
     rw[decide_eq_false (show ¬z.length<=8 by omega),Bool.and_false,Bool.false_and]
    rw[<-e]
    exact q H (Same.refl H)
   .have c2':(z.length:Int)<=8:=by simpa using c2
    have hl:=lenL z
    refine⟨_,rfl,z,rfl,fun D hD=>?_⟩
    refine comp_str (fun i ys H'=>Same H H'/\ys=((z.cps.toList.take i).map smB).map V.bl) ⟨Same.fresh _ hD,rfl⟩ (fun i c ys H' hx hi hDy hyl p=>?_) (fun ys H' hDy hyl p=>?_)
    .obtain⟨p1,rfl⟩:=p
     refine⟨Agree.set (Agree.refl _) rfl,?_⟩
     dsimp only[tYes]
     refine iteT ?_
     refine⟨_,rfl,c,rfl,?_⟩
     refine nx_put (by omega) hDy hyl ⟨p1.new hD,?_⟩
     rw[map_take_succ smB hx,List.map_append]
     rfl
    .obtain⟨p1,rfl⟩:=p
     refine⟨D,z.cps.toList.map smB,rfl,?_,?_⟩
     .rw[hDy,List.take_length]
     .have e:nameB (.str z)=(z.cps.toList.map smB).all id:=by
       rw[name_eq]
       rw[decide_eq_true (show 1<=z.length by omega),decide_eq_true (show z.length<=8 by omega),List.all_map]
       rfl
      rw[<-e]
      exact q H' p1
  .have c1':¬((1:Int)<=(z.length:Int)):=by simpa using c1
   refine⟨_,rfl,?_⟩
   refine iteT ?_
   have e:nameB (.str z)=false:=by
    rw[name_eq]
    rw[decide_eq_false (show ¬1<=z.length by omega),Bool.false_and,Bool.false_and]
   rw[<-e]
   exact q H (Same.refl H)
 .rw[e]at q
  refine⟨_,rfl,v,"str",t,false,rfl,ty,kt,false,rfl,?_⟩
  refine iteT ?_
  refine iteT ?_
  exact q H (Same.refl H)
noncomputable def spBnd:Sp:=fun vs H Q _=>∃l m,vs=[l,m]/\Kn H l/\Kn H m/\Q (.bl (bndB l m)) H
theorem scBnd:FnScope ["least","most"] ["least","most"] (defScope sBnd):=⟨rfl,rfl,rfl,by decide +kernel,rfl,by decide +kernel,by decide +kernel⟩
theorem kn_int{H:Hp}{v:V}(h:Kn H v):(∃i,v=.int i)\/(isW v=false/\(∀m,bndB v m=false)/\(v≠.non->∀i,bndB (.int i) v=false)):=by
 rcases h with rfl|⟨b,rfl⟩|⟨i,rfl⟩|⟨z,rfl,hz⟩|⟨a,rfl,h⟩
 .exact .inr ⟨rfl,fun _=>rfl,fun h=>absurd rfl h⟩
 .exact .inr ⟨rfl,fun _=>rfl,fun _ _=>rfl⟩
 .exact .inl ⟨i,rfl⟩
 .exact .inr ⟨rfl,fun _=>rfl,fun _ _=>rfl⟩
 .exact .inr ⟨rfl,fun _=>rfl,fun _ _=>rfl⟩
theorem ok_bnd(B:∀x∈blts,mg x=none)(g64:GI mg "MOST_LAID" 64)(Fpw:Fn P w K mg base "is_whole" 1 ["found"] spW)(F:Fun K "are_bounds" "are_bounds" sBnd f fd):FnOk P w K mg base CX0 2 f fd ["least","most"] spBnd:=by
 refine F.ok (k:=1) scBnd (fun vs H Q E h=>?_) (fun cdv A outer s H vs Q E hr h=>?_)
 .obtain⟨l,m,rfl,_⟩:=h
  rfl
 obtain⟨l,m,rfl,hl,hm,q⟩:=h
 refine⟨_,(pss_cons (ps_if (PW.pt (pw_or (pt_not (pt_val (pe_fn Fpw hr (by decide) rfl (pa_c (pv 0) pa_nil)))) (pw_or1 (pt_not (pt_chain op_le op_le pe_int (pv 0) (pe_globI g64 rfl)))))) (pss_one (ps_ret pe_bl)) pss_nil)
  (pss_one (ps_ret (pe_or (pe_cmpR op_isN (pv 1) pe_non (nomark _)) (pe_one (pe_and (pe_fn Fpw hr (by decide) rfl (pa_c (pv 1) pa_nil)) (pe_one (pe_chain op_le op_le (pv 0) (pv 1) (pe_globI g64 rfl))))))))),?_⟩
 rcases kn_int hl with ⟨i,rfl⟩|⟨e1,e2,_⟩
 .refine⟨_,rfl,.int i,rfl,hl,true,rfl,iteF ?_⟩
  refine⟨_,rfl,_,_,rfl,rfl,_,rfl,?_⟩
  have bnd0:∀m,(¬0<=i\/¬i<=64)->bndB (.int i) m=false:=fun m h=>by
   cases m<;>first|rfl|(unfold bndB;rcases h with h|h<;>simp[h])
  refine ite2 (fun c1=>?_) (fun c1=>?_)
  .have c1':(0:Int)<=i:=of_decide_eq_true c1
   refine⟨_,_,rfl,rfl,_,rfl,?_⟩
   refine ite2 (fun c2=>?_) (fun c2=>?_)
   .have c2':¬(i<=64):=by simpa using c2
    rw[bnd0 m (.inr c2')]at q
    exact q
   .have c2':i<=64:=by simpa using c2
    refine⟨_,rfl,rfl,_,rfl,?_⟩
    by_cases hn:m=.non
    .subst hn
     have e:bndB (.int i) .non=true:=by unfold bndB;simp[c1',c2']
     rw[e]at q
     exact iteT q
    .rw[decide_eq_false hn]
     refine iteF ?_
     refine⟨_,rfl,m,rfl,hm,?_⟩
     rcases kn_int hm with ⟨j,rfl⟩|⟨e1,_,e3⟩
     .refine⟨true,rfl,iteT ?_⟩
      have e:bndB (.int i) (.int j)=(decide (i<=j)&&decide (j<=64)):=by unfold bndB;simp[c1',c2']
      rw[e]at q
      refine⟨_,rfl,_,rfl,_,_,rfl,rfl,_,rfl,?_⟩
      refine ite2 (fun c3=>?_) (fun c3=>?_)
      .rw[c3,Bool.true_and]at q
       exact⟨_,_,rfl,rfl,q⟩
      .rw[Bool.eq_false_iff.mpr c3,Bool.false_and]at q
       exact q
     .rw[e1]
      rw[e3 hn]at q
      exact⟨false,rfl,iteF q⟩
  .have c1':¬((0:Int)<=i):=by simpa using c1
   refine⟨_,rfl,?_⟩
   refine iteT ?_
   rw[bnd0 m (.inl c1')]at q
   exact q
 .refine⟨_,rfl,l,rfl,hl,false,by rw[e1],iteT ?_⟩
  rw[e2]at q
  exact iteT q
noncomputable def leS(x y:Str):Bool:=!decide (y.cps.toList<x.cps.toList)
noncomputable def pair2:V->V->Bool
 | .str x,.str y=>sg1 x&&sg1 y&&leS x y
 | _,_=>false
noncomputable def pairB(H:Hp):V->Bool
 | .ref a=>match H a with
  | some (.tup [x,y])=>pair2 x y
  | _=>false
 | _=>false
noncomputable def spPair:Sp:=fun vs H Q _=>∃v,vs=[v]/\KnN 1 H v/\Q (.bl (pairB H v)) H
theorem scPair:FnScope ["found"] ["found"] (defScope sPair):=⟨rfl,rfl,rfl,by decide +kernel,rfl,by decide +kernel,by decide +kernel⟩
theorem pairB_ref(H:Hp)(a:Addr):pairB H (.ref a)=(match H a with|some (.tup [x,y])=>pair2 x y|_=>false):=rfl
theorem pair_len{H:Hp}{a:Addr}{xs:List V}(ha:H a=some (.tup xs))(h:xs.length≠2):pairB H (.ref a)=false:=by
 rw[pairB_ref,ha]
 match xs,h with
 | [],_=>rfl
 | [_],_=>rfl
 | [_,_],h=>exact absurd rfl h
 | _::_::_::_,_=>rfl
theorem kn_tupP{K:PySem.W.Frag}{H:Hp}{v:V}(h:Kn H v):(∃a xs,v=.ref a/\H a=some (.tup xs))\/((∃t,TyOf K H v t/\PySem.W.kitOne K t (.type "tuple")=some false)/\pairB H v=false/\∀a xs,v=.ref a->H a=some (.tup xs)->False):=by
 rcases h with rfl|⟨b,rfl⟩|⟨i,rfl⟩|⟨z,rfl,_⟩|⟨a,rfl,⟨ys,h⟩|⟨ys,h⟩|h⟩
 .exact .inr ⟨⟨_,.non,rfl⟩,rfl,fun _ _ e=>by cases e⟩
 .exact .inr ⟨⟨_,.bl b,rfl⟩,rfl,fun _ _ e=>by cases e⟩
 .exact .inr ⟨⟨_,.int i,rfl⟩,rfl,fun _ _ e=>by cases e⟩
 .exact .inr ⟨⟨_,.str z,rfl⟩,rfl,fun _ _ e=>by cases e⟩
 .exact .inr ⟨⟨_,.lst h,rfl⟩,by rw[pairB_ref,h],fun b xs e ha=>by cases e;rw[h]at ha;cases ha⟩
 .exact .inl ⟨a,ys,rfl,h⟩
 .exact .inr ⟨⟨_,.dK h,rfl⟩,by rw[pairB_ref,h],fun b xs e ha=>by cases e;rw[h]at ha;cases ha⟩
theorem sg_str{v:V}(h:isSg v=true):∃z,v=.str z/\sg1 z=true:=by
 cases v<;>first|(exact⟨_,rfl,h⟩)|(exact absurd h Bool.false_ne_true)
theorem pair_no1{x y:V}(h:isSg x=false):pair2 x y=false:=by
 cases x<;>first|rfl|(cases y<;>first|rfl|(show(sg1 _&&sg1 _&&leS _ _)=false;rw[show sg1 _=false from h];rfl))
theorem pair_no2{x y:V}(h:isSg y=false):pair2 x y=false:=by
 cases x<;>first|rfl|(cases y<;>first|rfl|(show(sg1 _&&sg1 _&&leS _ _)=false;rw[show sg1 _=false from h];simp))
theorem len_ne{n m:Nat}(h:n≠m):decide (V.int ((n:Nat):Int)=V.int ((m:Nat):Int))=false:=decide_eq_false fun e=>h (by injection e with e;exact Int.ofNat_inj.mp e)
theorem ok_pair(B:∀x∈blts,mg x=none)(Fps:Fn P w K mg base "is_sign" 1 ["found"] spS)(F:Fun K "is_pair" "is_pair" sPair f fd):FnOk P w K mg base CX0 2 f fd ["found"] spPair:=by
 refine F.ok (k:=1) scPair (fun vs H Q E h=>?_) (fun cdv A outer s H vs Q E hr h=>?_)
 .obtain⟨v,rfl,_⟩:=h
  rfl
 obtain⟨v,rfl,hv,q⟩:=h
 refine⟨_,(pss_cons (ps_if (PW.pt (pw_or (pt_not (pt_val (pe_cB call_isinst rfl (B "isinstance" (by decide)) boot_isinstance (pa_c (pv 0) (pa_c (pe_bltn (v:=.ty "tuple") rfl (B "tuple" (by decide)) boot_tuple rfl) pa_nil))))) (pw_or1 (pt_cmpR op_ne (pe_cB call_len_seq rfl (B "len" (by decide)) PySem.boot_len (pa_c (pv 0) pa_nil)) pe_int (nomark _))))) (pss_one (ps_ret pe_bl)) pss_nil)
  (pss_one (ps_ret (pe_and (pe_fn Fps hr (by decide) rfl (pa_c (pe_ix ix_tup (pv 0) pe_int (fun _ _=>rfl)) pa_nil)) (pe_and (pe_fn Fps hr (by decide) rfl (pa_c (pe_ix ix_tup (pv 0) pe_int (fun _ _=>rfl)) pa_nil)) (pe_one (pe_cmpR op_le_str (pe_ix ix_tup (pv 0) pe_int (fun _ _=>rfl)) (pe_ix ix_tup (pv 0) pe_int (fun _ _=>rfl)) (nomark _)))))))),?_⟩
 rcases kn_tupP (K:=K) hv.kn with ⟨a,xs,rfl,ha⟩|⟨⟨t,ty,kt⟩,e,_⟩
 .obtain⟨h60,kn⟩:=hv.2 a xs rfl ha
  refine⟨_,rfl,.ref a,"tuple",.type "tuple",true,rfl,.tup ha,rfl,true,rfl,iteF ?_⟩
  refine⟨_,rfl,a,xs,rfl,.inr (SqT.of ha),rfl,_,rfl,?_⟩
  by_cases h2:xs.length=2
  .match xs,h2,ha,kn with
   | [x,y],_,ha,kn=>
    have kx:Kn H x:=kn x (by simp)
    have ky:Kn H y:=kn y (by simp)
    have eq2:pairB H (.ref a)=pair2 x y:=by rw[pairB_ref,ha]
    rw[eq2]at q
    refine iteF ?_
    refine⟨_,rfl,a,_,_,_,rfl,rfl,SqT.of ha,rfl,x,rfl,kx,?_⟩
    cases hx:isSg x with
    | false=>
     rw[pair_no1 hx]at q
     exact⟨false,rfl,iteF q⟩
    | true=>
     refine⟨true,rfl,iteT ?_⟩
     refine⟨_,rfl,a,_,_,_,rfl,rfl,SqT.of ha,rfl,y,rfl,ky,?_⟩
     cases hy:isSg y with
     | false=>
      rw[pair_no2 hy]at q
      exact⟨false,rfl,iteF q⟩
     | true=>
      refine⟨true,rfl,iteT ?_⟩
      obtain⟨zx,rfl,sx⟩:=sg_str hx
      obtain⟨zy,rfl,sy⟩:=sg_str hy
      refine⟨_,rfl,a,_,_,_,rfl,rfl,SqT.of ha,rfl,_,rfl,a,_,_,_,rfl,rfl,SqT.of ha,rfl,zx,zy,rfl,rfl,?_⟩
      have e:pair2 (.str zx) (.str zy) = !decide (zy.cps.toList<zx.cps.toList):=by
       show(sg1 zx&&sg1 zy&&leS zx zy)=_
       rw[sx,sy];rfl
      rw[e]at q
      exact q
  .rw[pair_len ha h2]at q
   refine ite2 (fun _=>?_) (fun h=>absurd (show(!decide (V.int ((xs.length:Nat):Int)=V.int ((2:Nat):Int)))=true by rw[len_ne h2];rfl) h)
   exact q
 .rw[e]at q
  refine⟨_,rfl,v,"tuple",t,false,rfl,ty,kt,false,rfl,iteT ?_⟩
  exact iteT q
end
theorem form_same{H H':Hp}{v:V}(s:Same H H')(h:Kn3 H v):FormP H' v↔FormP H v:=by
 constructor
 .rintro⟨a,xs,ds,rfl,ha,rep,fr⟩
  have ha0:=kn_back s h.1 ha
  obtain⟨_,kx⟩:=h.2 a xs rfl ha0
  have e:xs.all (spotB H)=xs.all (spotB H'):=by
   rw[Bool.eq_iff_iff,List.all_eq_true,List.all_eq_true]
   constructor
   .intro q x hx
    rw[spotB_same s (kx x hx).1];exact q x hx
   .intro q x hx
    rw[<-spotB_same s (kx x hx).1];exact q x hx
  have hall:=all_spots rep fr.1.pre.sg
  rw[<-e]at hall
  obtain⟨es,re,hes⟩:=spots_of hall
  have:=rep_inj (re.same s) rep hes fr.1.pre.sg
  subst this
  exact⟨a,xs,es,rfl,ha0,re,fr⟩
 .rintro⟨a,xs,ds,rfl,ha,rep,fr⟩
  exact⟨a,xs,ds,rfl,s _ _ ha,rep.same s,fr⟩
noncomputable def KindP(H:Hp)(v:V):Prop:=∃a n l m md fm,v=.ref a/\H a=some (.tup [n,l,m,md,fm])/\nameB n=true/\bndB l m=true/\modeB md=true/\FormP H fm
theorem kind_same{H H':Hp}{v:V}(s:Same H H')(h:KnN 3 H v):KindP H' v↔KindP H v:=by
 constructor
 .rintro⟨a,n,l,m,md,fm,rfl,ha,h1,h2,h3,h4⟩
  have ha':=kn_back s h.kn ha
  have kf:KnN 2 H fm:=(h.2 a _ rfl ha').2 fm (by simp)
  exact⟨a,n,l,m,md,fm,rfl,ha',h1,h2,h3,(form_same s kf).mp h4⟩
 .rintro⟨a,n,l,m,md,fm,rfl,ha,h1,h2,h3,h4⟩
  have kf:KnN 2 H fm:=(h.2 a _ rfl ha).2 fm (by simp)
  exact⟨a,n,l,m,md,fm,rfl,s _ _ ha,h1,h2,h3,(form_same s kf).mpr h4⟩
section
variable{P:Program}{w:World}{K:PySem.W.Frag}{mg:Str->Option Value}{base:Heap}{f:Addr}{fd:FuncData}
noncomputable def spKind:Sp:=fun vs H Q _=>∃v,vs=[v]/\KnN 3 H v/\∀(b:Bool) (H':Hp),Same H H'->(b=true↔KindP H v)->Q (.bl b) H'
theorem scKind:FnScope ["found"] ["found"] (defScope sKind):=⟨rfl,rfl,rfl,by decide +kernel,rfl,by decide +kernel,by decide +kernel⟩
theorem ok_kind(B:∀x∈blts,mg x=none)(Fname:Fn P w K mg base "is_name" 2 ["found"] spName)(Fbnd:Fn P w K mg base "are_bounds" 2 ["least","most"] spBnd)(Fmode:Fn P w K mg base "is_mode" 1 ["found"] spMode)(Fpf:Fn P w K mg base "is_form" 4 ["found"] spPf)
  (F:Fun K "is_kind" "is_kind" sKind f fd):FnOk P w K mg base CX0 5 f fd ["found"] spKind:=by
 refine F.ok (k:=4) scKind (fun vs H Q E h=>?_) (fun cdv A outer s H vs Q E hr h=>?_)
 .obtain⟨v,rfl,_⟩:=h
  rfl
 obtain⟨v,rfl,hv,q⟩:=h
 refine⟨_,(pss_cons (ps_if (PW.pt (pw_or (pt_not (pt_val (pe_cB call_isinst rfl (B "isinstance" (by decide)) boot_isinstance (pa_c (pv 0) (pa_c (pe_bltn (v:=.ty "tuple") rfl (B "tuple" (by decide)) boot_tuple rfl) pa_nil))))) (pw_or1 (pt_cmpR op_ne (pe_cB call_len_seq rfl (B "len" (by decide)) PySem.boot_len (pa_c (pv 0) pa_nil)) pe_int (nomark _))))) (pss_one (ps_ret pe_bl)) pss_nil)
  (pss_one (ps_ret (pe_and (pe_fn Fname hr (by decide) rfl (pa_c (pe_ix ix_tup (pv 0) pe_int (fun _ _=>rfl)) pa_nil)) (pe_and (pe_fn Fbnd hr (by decide) rfl (pa_c (pe_ix ix_tup (pv 0) pe_int (fun _ _=>rfl)) (pa_c (pe_ix ix_tup (pv 0) pe_int (fun _ _=>rfl)) pa_nil))) (pe_and (pe_fn Fmode hr (by decide) rfl (pa_c (pe_ix ix_tup (pv 0) pe_int (fun _ _=>rfl)) pa_nil)) (pe_one (pe_fn Fpf hr (by decide) rfl (pa_c (pe_ix ix_tup (pv 0) pe_int (fun _ _=>rfl)) pa_nil))))))))),?_⟩
 rcases kn_tupP (K:=K) hv.kn with ⟨a,xs,rfl,ha⟩|⟨⟨t,ty,kt⟩,_,hno⟩
 .obtain⟨h60,kn⟩:=hv.2 a xs rfl ha
  refine⟨_,rfl,.ref a,"tuple",.type "tuple",true,rfl,.tup ha,rfl,true,rfl,iteF ?_⟩
  refine⟨_,rfl,a,xs,rfl,.inr (SqT.of ha),rfl,_,rfl,?_⟩
  by_cases h5:xs.length=5
  .match xs,h5,ha,kn with
   | [n,l,m,md,fm],_,ha,kn=>
    have kN:KnN 2 H n:=kn n (by simp)
    have kL:KnN 2 H l:=kn l (by simp)
    have kM:KnN 2 H m:=kn m (by simp)
    have kD:KnN 2 H md:=kn md (by simp)
    have kF:KnN 2 H fm:=kn fm (by simp)
    have no:(nameB n=false\/bndB l m=false\/modeB md=false\/¬FormP H fm)->¬KindP H (.ref a):=fun hx ⟨a',n',l',m',md',fm',e,ha',h1,h2,h3,h4⟩=>by
     cases e
     rw[ha]at ha'
     cases ha'
     rcases hx with hx|hx|hx|hx
     .rw[hx]at h1;cases h1
     .rw[hx]at h2;cases h2
     .rw[hx]at h3;cases h3
     .exact hx h4
    refine iteF ?_
    refine⟨_,rfl,a,_,_,_,rfl,rfl,SqT.of ha,rfl,n,rfl,kN.kn,fun H1 s1=>?_⟩
    have ha1:=s1 _ _ ha
    cases e1:nameB n with
    | false=>exact⟨false,rfl,iteF (q false H1 s1 (no_iff (no (.inl e1))))⟩
    | true=>
     refine⟨true,rfl,iteT ?_⟩
     refine⟨_,rfl,a,_,_,_,rfl,rfl,SqT.of ha1,rfl,_,rfl,a,_,_,_,rfl,rfl,SqT.of ha1,rfl,l,m,rfl,(kL.kn.same s1),(kM.kn.same s1),?_⟩
     cases e2:bndB l m with
     | false=>exact⟨false,rfl,iteF (q false H1 s1 (no_iff (no (.inr (.inl e2)))))⟩
     | true=>
      refine⟨true,rfl,iteT ?_⟩
      refine⟨_,rfl,a,_,_,_,rfl,rfl,SqT.of ha1,rfl,md,rfl,kD.kn.same s1,?_⟩
      cases e3:modeB md with
      | false=>exact⟨false,rfl,iteF (q false H1 s1 (no_iff (no (.inr (.inr (.inl e3))))))⟩
      | true=>
       refine⟨true,rfl,iteT ?_⟩
       refine⟨_,rfl,a,_,_,_,rfl,rfl,SqT.of ha1,rfl,fm,rfl,kF.same s1,fun b H2 s2 hb=>?_⟩
       refine q b H2 (s1.trans s2) ?_
       rw[hb,form_same s1 kF]
       exact⟨fun h4=>⟨a,n,l,m,md,fm,rfl,ha,e1,e2,e3,h4⟩,fun hk=>by
        obtain⟨a',n',l',m',md',fm',e,ha',_,_,_,h4⟩:=hk
        cases e
        rw[ha]at ha'
        cases ha'
        exact h4⟩
  .refine ite2 (fun _=>?_) (fun h=>absurd (show(!decide (V.int ((xs.length:Nat):Int)=V.int ((5:Nat):Int)))=true by rw[len_ne h5];rfl) h)
   refine q false H (Same.refl H) (no_iff fun hk=>?_)
   obtain⟨a',n',l',m',md',fm',e,ha',_⟩:=hk
   cases e
   rw[ha]at ha'
   cases ha'
   exact h5 rfl
 .refine⟨_,rfl,v,"tuple",t,false,rfl,ty,kt,false,rfl,iteT ?_⟩
  refine iteT (q false H (Same.refl H) (no_iff fun hk=>?_))
  obtain⟨a',n',l',m',md',fm',e,ha',_⟩:=hk
  exact hno a' _ e ha'
end
end K09
namespace L3
theorem strict_uniq{α:Type}{R:α->α->Prop}(as:∀x y,R x y->¬R y x):∀{xs ys:List α},xs.Pairwise R->ys.Pairwise R->(∀z,z∈xs↔z∈ys)->xs=ys
 | [],[],_,_,_=>rfl
 | [],y::ys,_,_,h=>absurd ((h y).mpr List.mem_cons_self) (by simp)
 | x::xs,[],_,_,h=>absurd ((h x).mp List.mem_cons_self) (by simp)
 | x::xs,y::ys,p,q,h=>by
  obtain⟨p1,p2⟩:=List.pairwise_cons.mp p
  obtain⟨q1,q2⟩:=List.pairwise_cons.mp q
  have e:x=y:=by
   rcases List.mem_cons.mp ((h x).mp List.mem_cons_self)with e|a
   .exact e
   .rcases List.mem_cons.mp ((h y).mpr List.mem_cons_self)with e|b
    .exact e.symm
    .exact absurd (q1 x a) (as _ _ (p1 y b))
  subst e
  refine congrArg _ (strict_uniq as p2 q2 fun z=>⟨fun hz=>?_,fun hz=>?_⟩)
  .rcases List.mem_cons.mp ((h z).mp (List.mem_cons_of_mem _ hz))with e|a
   .subst e;exact absurd (p1 z hz) (fun k=>as _ _ k k)
   .exact a
  .rcases List.mem_cons.mp ((h z).mpr (List.mem_cons_of_mem _ hz))with e|a
   .subst e;exact absurd (q1 z hz) (fun k=>as _ _ k k)
   .exact a
end L3
namespace K09
open PySem PyProof.Rows L2 L3
noncomputable def PrD(d:PyData):Prop:=∃x y:Nat,d=.tuple [.str ⟨#[x]⟩,.str ⟨#[y]⟩]/\65<=x/\x<=y/\y<=90
noncomputable def prN:PyData->Nat
 | .tuple [.str x,.str y]=>128*(x.cps.toList.headD 0)+y.cps.toList.headD 0
 | _=>0
theorem prN_eq(x y:Nat):prN (.tuple [.str ⟨#[x]⟩,.str ⟨#[y]⟩])=128*x+y:=rfl
theorem prN_inj{d e:PyData}(hd:PrD d)(he:PrD e)(h:prN d=prN e):d=e:=by
 obtain⟨x,y,rfl,h1,h2,h3⟩:=hd
 obtain⟨x',y',rfl,h1',h2',h3'⟩:=he
 rw[prN_eq,prN_eq]at h
 have e1:x=x':=by omega
 have e2:y=y':=by omega
 rw[e1,e2]
theorem one_lt(a b:Nat):sLt ⟨#[a]⟩ ⟨#[b]⟩=decide (a<b):=by
 show decide ([a]<[b])=_
 by_cases h:a<b
 .rw[decide_eq_true h]
  exact decide_eq_true (List.Lex.rel h)
 .rw[decide_eq_false h]
  refine decide_eq_false fun q=>?_
  cases q with
  | rel r=>exact h r
  | cons r=>cases r
theorem one_eq(a b:Nat):((⟨#[a]⟩:Str)=⟨#[b]⟩)↔a=b:=⟨fun h=>by
 injection h with h
 injection h with h
 injection h,fun h=>by rw[h]⟩
theorem pr_ltR{d e:PyData}(hd:PrD d)(he:PrD e):ltR d e=decide (prN d<prN e):=by
 obtain⟨x,y,rfl,h1,h2,h3⟩:=hd
 obtain⟨x',y',rfl,h1',h2',h3'⟩:=he
 rw[prN_eq,prN_eq]
 show rowLt [.str ⟨#[x]⟩,.str ⟨#[y]⟩] [.str ⟨#[x']⟩,.str ⟨#[y']⟩]=_
 rw[rl_str,rl_str]
 simp only[one_eq,one_lt]
 rw[show rowLt [] []=false from rfl]
 by_cases e1:x=x'
 .rw[if_pos e1]
  by_cases e2:y=y'
  .rw[if_pos e2,decide_eq_false (by omega)]
  .rw[if_neg e2]
   by_cases h:y<y'
   .rw[decide_eq_true h,decide_eq_true (by omega)]
   .rw[decide_eq_false h,decide_eq_false (by omega)]
 .rw[if_neg e1]
  by_cases h:x<x'
  .rw[decide_eq_true h,decide_eq_true (by omega)]
  .rw[decide_eq_false h,decide_eq_false (by omega)]
theorem pr_ltD{d e:PyData}(hd:PrD d)(he:PrD e):ltD d e=decide (prN d<prN e):=by
 rw[<-pr_ltR hd he]
 obtain⟨x,y,rfl,h1,h2,h3⟩:=hd
 obtain⟨x',y',rfl,h1',h2',h3'⟩:=he
 show ltL [.str ⟨#[x]⟩,.str ⟨#[y]⟩] [.str ⟨#[x']⟩,.str ⟨#[y']⟩]=rowLt [.str ⟨#[x]⟩,.str ⟨#[y]⟩] [.str ⟨#[x']⟩,.str ⟨#[y']⟩]
 rfl
theorem pr_rows{ds:List PyData}(h:∀d∈ds,PrD d):RowsS [false] ds:=fun d hd=>by
 obtain⟨x,y,rfl,_⟩:=h d hd
 exact⟨_,rfl,_,_,rfl,_,_,rfl,rfl⟩
theorem pr_key{d:PyData}(h:PrD d):KeyD d:=by
 obtain⟨x,y,rfl,_⟩:=h
 exact⟨rfl,⟨_,rfl⟩,by simp[PyData.depth,PyData.depthAll]⟩
theorem pr_cmp{d e:PyData}(hd:PrD d)(he:PrD e):Cmp d e:=by
 obtain⟨x,y,rfl,h1,h2,h3⟩:=hd
 obtain⟨x',y',rfl,h1',h2',h3'⟩:=he
 exact⟨trivial,trivial,trivial⟩
noncomputable def PairsP(H:Hp)(v:V):Prop:=∃a xs ds,v=.ref a/\H a=some (.tup xs)/\RepAll H ds xs/\(∀d∈ds,PrD d)/\ds.Pairwise (fun x y=>prN x<prN y)
theorem pairB_same{H H':Hp}{v:V}(s:Same H H')(h:Kn H v):pairB H' v=pairB H v:=by
 rcases h with rfl|⟨b,rfl⟩|⟨i,rfl⟩|⟨z,rfl,_⟩|⟨a,rfl,⟨ys,h⟩|⟨ys,h⟩|h⟩
 .rfl
 .rfl
 .rfl
 .rfl
 .rw[pairB_ref,pairB_ref,h,s _ _ h]
 .rw[pairB_ref,pairB_ref,h,s _ _ h]
 .rw[pairB_ref,pairB_ref,h,s _ _ h]
theorem leS_one(x y:Nat):leS ⟨#[x]⟩ ⟨#[y]⟩=decide (x<=y):=le1 x y
theorem sg1_of{z:Str}(h:sg1 z=true):∃c,z=⟨#[c]⟩/\65<=c/\c<=90:=by
 by_cases hl:z.length=1
 .obtain⟨c,rfl⟩:=one_of hl
  rw[sg1_one]at h
  simp at h
  exact⟨c,rfl,h⟩
 .rw[sg1_not hl]at h
  cases h
theorem pair2_of{x y:V}(h:pair2 x y=true):∃zx zy,x=.str zx/\y=.str zy/\(sg1 zx&&sg1 zy&&leS zx zy)=true:=by
 cases x<;>first|(exact absurd h Bool.false_ne_true)|(cases y<;>first|(exact absurd h Bool.false_ne_true)|exact⟨_,_,rfl,rfl,h⟩)
theorem pair_of{H:Hp}{v:V}(h:pairB H v=true):∃d,Rep H d v/\PrD d:=by
 cases v with
 | ref a=>
  have h0:=h
  rw[pairB_ref]at h
  cases ha:H a with
  | none=>rw[ha]at h;cases h
  | some o=>
   rw[ha]at h
   cases o with
   | tup xs=>
    by_cases h2:xs.length=2
    .match xs,h2,ha,h with
     | [x,y],_,ha,h=>
      obtain⟨zx,zy,rfl,rfl,h'⟩:=pair2_of h
      rw[Bool.and_eq_true,Bool.and_eq_true]at h'
      obtain⟨⟨h1,h2⟩,h3⟩:=h'
      obtain⟨c,rfl,c1,c2⟩:=sg1_of h1
      obtain⟨e,rfl,e1,e2⟩:=sg1_of h2
      rw[leS_one]at h3
      refine⟨.tuple [.str ⟨#[c]⟩,.str ⟨#[e]⟩],⟨a,_,rfl,ha,.str ⟨#[c]⟩,_,rfl,⟨rfl,ok1 (by omega)⟩,.str ⟨#[e]⟩,_,rfl,⟨rfl,ok1 (by omega)⟩,rfl⟩,c,e,rfl,c1,of_decide_eq_true h3,e2⟩
    .rw[pair_len ha h2]at h0
     cases h0
   | _=>cases h
 | _=>cases h
theorem pair_is{H:Hp}{v:V}{d:PyData}(r:Rep H d v)(h:PrD d):pairB H v=true:=by
 obtain⟨x,y,rfl,h1,h2,h3⟩:=h
 obtain⟨a,xs,rfl,ha,v1,r1,rfl,⟨rfl,_⟩,v2,r2,rfl,⟨rfl,_⟩,e⟩:=r
 cases (show r2=[]from e)
 rw[pairB_ref,ha]
 show(sg1 _&&sg1 _&&leS _ _)=true
 rw[sg1_one,sg1_one,leS_one]
 simp
 omega
theorem pairs_of{H:Hp}:∀{xs:List V},xs.all (pairB H)=true->∃ds,RepAll H ds xs/\∀d∈ds,PrD d
 | [],_=>⟨[],rfl,fun d hd=>by cases hd⟩
 | x::xs,h=>by
  rw[List.all_cons,Bool.and_eq_true]at h
  obtain⟨d,r,p⟩:=pair_of h.1
  obtain⟨ds,rs,ps⟩:=pairs_of h.2
  exact⟨d::ds,⟨x,xs,rfl,r,rs⟩,fun e he=>by
   rcases List.mem_cons.mp he with rfl|he
   .exact p
   .exact ps e he⟩
theorem all_pairs{H:Hp}:∀{ds:List PyData} {xs:List V},RepAll H ds xs->(∀d∈ds,PrD d)->xs.all (pairB H)=true
 | [],xs,r,_=>by cases (show xs=[]from r);rfl
 | d::ds,xs,r,h=>by
  obtain⟨x,ys,rfl,r1,r2⟩:=r
  rw[List.all_cons,pair_is r1 (h d List.mem_cons_self),all_pairs r2 fun e he=>h e (List.mem_cons_of_mem _ he)]
  rfl
theorem kd_pr:∀{ds:List PyData},(∀d∈ds,PrD d)->kdAll ds=true
 | [],_=>rfl
 | d::ds,h=>by
  show(kd d&&kdAll ds)=true
  rw[(pr_key (h d List.mem_cons_self)).1,kd_pr fun e he=>h e (List.mem_cons_of_mem _ he)]
  rfl
theorem depth_pr:∀{ds:List PyData},(∀d∈ds,PrD d)->PyData.depthAll ds<=8
 | [],_=>by simp[PyData.depthAll]
 | d::ds,h=>by
  have h1:=(pr_key (h d List.mem_cons_self)).2.2
  have h2:=depth_pr fun e he=>h e (List.mem_cons_of_mem _ he)
  simp[PyData.depthAll]
  omega
theorem pr_uniq{H:Hp}:∀{ds es:List PyData} {xs:List V},RepAll H ds xs->RepAll H es xs->(∀d∈ds,PrD d)->(∀d∈es,PrD d)->ds=es
 | [],es,xs,r,r',_,_=>by
  cases (show xs=[]from r)
  cases es with
  | nil=>rfl
  | cons e es=>obtain⟨_,_,q,_⟩:=r';cases q
 | d::ds,es,xs,r,r',h,h'=>by
  obtain⟨x,ys,rfl,r1,r2⟩:=r
  cases es with
  | nil=>cases r'
  | cons e es=>
   obtain⟨_,_,q,q1,q2⟩:=r'
   cases q
   have e1:d=e:=by
    obtain⟨c1,c2,rfl,_⟩:=h d List.mem_cons_self
    obtain⟨c1',c2',rfl,_⟩:=h' e List.mem_cons_self
    obtain⟨a,xs,rfl,ha,v1,_,rfl,⟨rfl,_⟩,v2,_,rfl,⟨rfl,_⟩,z⟩:=r1
    obtain⟨a',xs',e',ha',v1',_,e2',⟨e3',_⟩,v2',_,e4',⟨e5',_⟩,z'⟩:=q1
    cases e'
    rw[ha]at ha'
    subst e2' e3' e4' e5'
    injection ha' with ha'
    injection ha' with ha'
    injection ha' with i1 i2
    injection i2 with i2 i3
    injection i1 with i1
    injection i2 with i2
    rw[i1,i2]
   rw[e1,pr_uniq r2 q2 (fun e he=>h e (List.mem_cons_of_mem _ he)) fun e he=>h' e (List.mem_cons_of_mem _ he)]
theorem pairsP_ref{H:Hp}{a:Addr}{xs:List V}{ds:List PyData}(ha:H a=some (.tup xs))(r:RepAll H ds xs)(h:∀d∈ds,PrD d):PairsP H (.ref a)↔ds.Pairwise (fun x y=>prN x<prN y):=by
 constructor
 .rintro⟨b,ys,es,e,hb,re,he,hp⟩
  cases e
  rw[ha]at hb
  cases hb
  rw[pr_uniq r re h he]
  exact hp
 .intro hp
  exact⟨a,xs,ds,rfl,ha,r,h,hp⟩
theorem pairs_same{H H':Hp}{v:V}(s:Same H H')(h:KnN 2 H v):PairsP H' v↔PairsP H v:=by
 constructor
 .rintro⟨a,xs,ds,rfl,ha,r,hp,hw⟩
  have ha0:=kn_back s h.kn ha
  obtain⟨_,kx⟩:=h.2 a xs rfl ha0
  have hall:=all_pairs r hp
  have e:xs.all (pairB H)=true:=by
   rw[List.all_eq_true]at hall⊢
   intro x hx
   rw[<-pairB_same s (kx x hx).kn]
   exact hall x hx
  obtain⟨es,re,pe⟩:=pairs_of e
  cases pr_uniq (re.same s) r pe hp
  exact⟨a,xs,_,rfl,ha0,re,hp,hw⟩
 .rintro⟨a,xs,ds,rfl,ha,r,hp,hw⟩
  exact⟨a,xs,ds,rfl,s _ _ ha,r.same s,hp,hw⟩
section
variable{P:Program}{w:World}{K:PySem.W.Frag}{mg:Str->Option Value}{base:Heap}{f:Addr}{fd:FuncData}
noncomputable def spPairs:Sp:=fun vs H Q _=>∃v,vs=[v]/\KnN 2 H v/\∀(b:Bool) (H':Hp),Same H H'->(b=true↔PairsP H v)->Q (.bl b) H'
theorem scPairs:FnScope ["found"] ["found"] (defScope sPairs):=⟨rfl,rfl,rfl,by decide +kernel,rfl,by decide +kernel,by decide +kernel⟩
theorem ok_pairs(B:∀x∈blts,mg x=none)(Fpair:Fn P w K mg base "is_pair" 2 ["found"] spPair)
  (F:Fun K "are_pairs" "are_pairs" sPairs f fd):FnOk P w K mg base CX0 3 f fd ["found"] spPairs:=by
 refine F.ok (k:=2) scPairs (fun vs H Q E h=>?_) (fun cdv A outer s H vs Q E hr h=>?_)
 .obtain⟨v,rfl,_⟩:=h
  rfl
 obtain⟨v,rfl,hv,q⟩:=h
 have hu:=hr.units
 refine⟨_,(pss_cons (ps_if (PW.pt (pw_or (pt_not (pt_val (pe_cB call_isinst rfl (B "isinstance" (by decide)) boot_isinstance (pa_c (pv 0) (pa_c (pe_bltn (v:=.ty "tuple") rfl (B "tuple" (by decide)) boot_tuple rfl) pa_nil))))) (pw_or1 (pt_not (pt_val (pe_cB (call_all rfl) rfl (B "all" (by decide)) boot_all (pa_c (pe_comp ["pair"] [none] rfl rfl (by decide +kernel) (by decide +kernel) rfl rfl (pi_tup (pv 0)) (fun _=>(pg_name (i:=0) (show(["pair"]:List PySem.Str).Nodup by decide +kernel) rfl (Or.inl rfl))) (fun _=>pts_nil) (fun _=>(pe_fn Fpair hr (by decide) rfl (pa_c (pv 0) pa_nil)))) pa_nil))))))) (pss_one (ps_ret pe_bl)) pss_nil)
  (pss_one (ps_ret (pe_cmpR (op_eqD hu) (pe_cT call_list_of rfl (B "list" (by decide)) boot_list (pa_c (pv 0) pa_nil)) (pe_sortsetG (tuples' true) ltR rfl hu rfl (B "sorted" (by decide)) rfl (B "set" (by decide)) (pa_c (pv 0) pa_nil)) (nomark _))))),?_⟩
 rcases kn_tupP (K:=K) hv.kn with ⟨a,xs,rfl,ha⟩|⟨⟨t,ty,kt⟩,_,hno⟩
 .obtain⟨h60,kn⟩:=hv.2 a xs rfl ha
  refine⟨_,rfl,.ref a,"tuple",.type "tuple",true,rfl,.tup ha,rfl,true,rfl,iteF ?_⟩
  refine⟨_,rfl,a,rfl,⟨_,SqT.of ha⟩,fun D hD=>?_⟩
  refine comp_tup (xs:=xs) (fun i ys H'=>Same H H'/\ys=((xs.take i).map (pairB H)).map V.bl) ⟨Same.fresh _ hD,rfl⟩ (fun i ys H' p=>SqT.of (p.1 _ _ ha)) (fun i x ys H' hx hi hDy hyl p=>?_) (fun ys H' hDy hyl p=>?_)
  .obtain⟨p1,rfl⟩:=p
   have kx:=kn x (List.mem_of_getElem? hx)
   refine⟨Agree.set (Agree.refl _) rfl,?_⟩
   dsimp only[tYes]
   refine iteT ?_
   refine⟨_,rfl,x,rfl,kx.same p1,nx_put (by omega) hDy hyl ⟨p1.new hD,?_⟩⟩
   rw[map_take_succ (pairB H) hx,List.map_append,pairB_same p1 kx.kn]
   rfl
  obtain⟨p1,rfl⟩:=p
  refine⟨D,_,rfl,hDy,_,rfl,?_⟩
  rw[List.take_of_length_le (Nat.le_refl _),List.all_map]
  have eall:(xs.all (id∘pairB H))=xs.all (pairB H):=rfl
  rw[eall]
  cases hall:xs.all (pairB H)with
  | false=>
   refine iteT ?_
   refine q false H' p1 (no_iff fun⟨b,ys,ds,e,hb,r,hp,_⟩=>?_)
   cases e
   rw[ha]at hb
   cases hb
   rw[all_pairs r hp]at hall
   cases hall
  | true=>
   refine iteF ?_
   obtain⟨ds,rep,hpr⟩:=pairs_of hall
   have hF:=pairsP_ref ha rep hpr
   have ha1:=p1 _ _ ha
   refine⟨_,rfl,a,xs,rfl,.inr (SqT.of ha1),fun l hl=>?_⟩
   have s2:Same H' (upd H' l (.lst xs)):=Same.fresh _ hl
   have r2:=rep.same (p1.trans s2)
   have hlen:=rep.length
   refine⟨_,rfl,a,xs,ds,rfl,.inr (s2 _ _ ha1),r2,fun d hd=>pr_key (hpr d hd),sortsAs_S (pr_rows hpr),by omega,fun es l2 ys nd mem sorted hl2 re=>?_⟩
   have s3:Same (upd H' l (.lst xs)) (upd (upd H' l (.lst xs)) l2 (.lst ys)):=Same.fresh _ hl2
   have hes:∀d∈es,PrD d:=fun d hd=>hpr d ((mem d).mp hd)
   refine⟨.list ds,.list es,⟨l,xs,rfl,s3 _ _ upd_same,r2.same s3⟩,⟨l2,ys,rfl,upd_same,re⟩,?_,?_⟩
   .have:=depth_pr hpr
    simp[PyData.depth]
    omega
   refine q _ _ ((p1.trans s2).trans s3) ?_
   rw[hF,if_neg Bool.false_ne_true]
   have strict:es.Pairwise (fun x y=>prN x<prN y):=by
    have both:=List.Pairwise.and nd sorted
    refine List.Pairwise.imp_of_mem (fun{x y} hx hy hxy=>?_) both
    have h1:=hxy.2
    rw[pr_ltR (hes y hy) (hes x hx)]at h1
    have h2:¬prN y<prN x:=of_decide_eq_false h1
    have h3:prN x≠prN y:=fun e=>hxy.1 (prN_inj (hes x hx) (hes y hy) e)
    omega
   constructor
   .intro h
    have e:ds=es:=eqv_kdAll ds es (kd_pr hpr) (kd_pr hes) h
    rw[e]
    exact strict
   .intro h
    have e:ds=es:=strict_uniq (R:=fun x y=>prN x<prN y) (fun x y h1 h2=>by omega) h strict fun z=>(mem z).symm
    rw[e]
    exact SeqAt.eqv_refl (.list es) (show(PyData.list es).canLay0=true from re.lay)
 .exact⟨_,rfl,v,"tuple",t,false,rfl,ty,kt,false,rfl,iteT (iteT (q false H (Same.refl H) (no_iff fun⟨b,ys,ds,e,hb,_⟩=>hno b ys e hb)))⟩
end
noncomputable def Nms(H:Hp)(xs:List V)(zs:List Str):Prop:=zs.length=xs.length/\∀(i:Nat) (x:V),xs[i]?=some x->∃(b:Addr) (z:Str) (r:List V),x=.ref b/\H b=some (.tup (.str z::r))/\zs[i]?=some z
theorem Nms.same{H H':Hp}{xs:List V}{zs:List Str}(s:Same H H')(h:Nms H xs zs):Nms H' xs zs:=⟨h.1,fun i x hx=>by
 obtain⟨b,z,r,e,hb,hz⟩:=h.2 i x hx
 exact⟨b,z,r,e,s _ _ hb,hz⟩⟩
theorem Nms.uniq{H:Hp}{xs:List V}{zs ys:List Str}(h:Nms H xs zs)(k:Nms H xs ys):zs=ys:=by
 apply List.ext_getElem?
 intro i
 by_cases hi:i<xs.length
 .obtain⟨b,z,r,e,hb,hz⟩:=h.2 i _ (List.getElem?_eq_getElem hi)
  obtain⟨b',z',r',e',hb',hz'⟩:=k.2 i _ (List.getElem?_eq_getElem hi)
  rw[e]at e'
  cases e'
  rw[hb]at hb'
  injection hb' with q
  injection q with q
  injection q with q _
  injection q with q
  rw[hz,hz',q]
 .rw[List.getElem?_eq_none (by have:=h.1;omega),List.getElem?_eq_none (by have:=k.1;omega)]
theorem name_str{v:V}(h:nameB v=true):∃z,v=.str z:=by
 cases v<;>first|(exact⟨_,rfl⟩)|(exact absurd h Bool.false_ne_true)
theorem kind_names{H:Hp}:∀{xs:List V},(∀x∈xs,KindP H x)->∃zs,Nms H xs zs
 | [],_=>⟨[],rfl,fun i x hx=>by simp at hx⟩
 | x::xs,h=>by
  obtain⟨a,n,l,m,md,fm,rfl,ha,h1,_⟩:=h x List.mem_cons_self
  obtain⟨z,rfl⟩:=name_str h1
  obtain⟨zs,hl,hz⟩:=kind_names fun y hy=>h y (List.mem_cons_of_mem _ hy)
  refine⟨z::zs,by rw[List.length_cons,List.length_cons,hl],fun i y hy=>?_⟩
  cases i with
  | zero=>
   cases (show V.ref a=y from by simpa using hy)
   exact⟨a,z,_,rfl,ha,rfl⟩
  | succ i=>exact hz i y (by simpa using hy)
noncomputable def KindsP(H:Hp)(v:V):Prop:=∃a xs zs,v=.ref a/\H a=some (.tup xs)/\1<=xs.length/\xs.length<=6/\(∀x∈xs,KindP H x)/\Nms H xs zs/\zs.Nodup
theorem kinds_same{H H':Hp}{v:V}(s:Same H H')(h:KnN 4 H v):KindsP H' v↔KindsP H v:=by
 constructor
 .rintro⟨a,xs,zs,rfl,ha,h1,h2,h3,h4,h5⟩
  have ha0:=kn_back s h.kn ha
  obtain⟨_,kx⟩:=h.2 a xs rfl ha0
  have hk:∀x∈xs,KindP H x:=fun x hx=>(kind_same s (kx x hx)).mp (h3 x hx)
  obtain⟨ys,hy⟩:=kind_names hk
  cases (hy.same s).uniq h4
  exact⟨a,xs,_,rfl,ha0,h1,h2,hk,hy,h5⟩
 .rintro⟨a,xs,zs,rfl,ha,h1,h2,h3,h4,h5⟩
  obtain⟨_,kx⟩:=h.2 a xs rfl ha
  exact⟨a,xs,zs,rfl,s _ _ ha,h1,h2,fun x hx=>(kind_same s (kx x hx)).mpr (h3 x hx),h4.same s,h5⟩
open Classical in
noncomputable def kindB(H:Hp)(x:V):Bool:=decide (KindP H x)
theorem kindB_iff{H:Hp}{x:V}:kindB H x=true↔KindP H x:=by unfold kindB;exact @decide_eq_true_iff _ (Classical.propDecidable _)
theorem kindB_of{H:Hp}{x:V}{b:Bool}(h:b=true↔KindP H x):b=kindB H x:=by
 rw[Bool.eq_iff_iff,h,kindB_iff]
theorem nodup_all'{α:Type}[DecidableEq α]{R S:List α}(hR:R.Nodup)(hs:∀x,x∈R->x∈S)(hl:S.length<=R.length):S.Nodup:=by
 induction S generalizing R with
 | nil=>exact List.nodup_nil
 | cons a S ih=>
  by_cases ha:a∈S
  .have hs':∀x,x∈R->x∈S:=fun x hx=>(List.mem_cons.mp (hs x hx)).elim (fun e=>e▸ha) id
   have:=List.Nodup.length_le_of_subset hR fun x hx=>hs' x hx
   rw[List.length_cons]at hl
   omega
  .refine List.nodup_cons.mpr ⟨ha,ih (R:=R.erase a) (hR.erase a) (fun x hx=>?_) ?_⟩
   .have hx':=List.mem_of_mem_erase hx
    rcases List.mem_cons.mp (hs x hx')with e|h
    .subst e
     exact absurd hx (List.Nodup.not_mem_erase hR)
    .exact h
   .have hl2:R.length<=(R.erase a).length+1:=by
     by_cases h:a∈R
     .rw[List.length_erase_of_mem h];omega
     .rw[List.erase_of_not_mem h];omega
    rw[List.length_cons]at hl
    omega
section
variable{K:PySem.W.Frag}{a D:Addr}{xs:List V}{zs:List Str}{σ:L2.St}{H:Hp}{Q:VK}
theorem names_comp(ha:H a=some (.tup xs))(hn:Nms H xs zs)(hl:xs.length<=60)(hD:H D=none)(q:∀H',Same H H'->H' D=some (.lst (zs.map V.str))->Q (.ref D) H') :
  CompR (Itt K a) [none] (gName 0) tYes (tOp (rIxT K) (tVar 0) (tC (.int 0))) σ H D Q:=by
 refine comp_tup (xs:=xs) (fun i ys H'=>Same H H'/\ys=(zs.take i).map V.str) ⟨Same.fresh _ hD,rfl⟩ (fun i ys H' p=>SqT.of (p.1 _ _ ha)) (fun i x ys H' hx hi hDy hyl p=>?_) (fun ys H' hDy hyl p=>?_)
 .obtain⟨p1,rfl⟩:=p
  obtain⟨b,z,r,rfl,hb,hz⟩:=hn.2 i x hx
  refine⟨Agree.set (Agree.refl _) rfl,?_⟩
  dsimp only[tYes]
  refine iteT ?_
  refine⟨_,rfl,b,_,_,_,rfl,rfl,SqT.of (p1 _ _ hb),atI0 rfl,nx_put (by omega) hDy hyl ⟨p1.new hD,?_⟩⟩
  rw[map_take_succ V.str hz]
 .obtain⟨p1,rfl⟩:=p
  rw[List.take_of_length_le (by rw[hn.1];exact Nat.le_refl _)]at hDy
  exact q H' p1 hDy
end
section
variable{P:Program}{w:World}{K:PySem.W.Frag}{mg:Str->Option Value}{base:Heap}{f:Addr}{fd:FuncData}
noncomputable def spKinds:Sp:=fun vs H Q _=>∃v,vs=[v]/\KnN 4 H v/\∀(b:Bool) (H':Hp),Same H H'->(b=true↔KindsP H v)->Q (.bl b) H'
theorem scKinds:FnScope ["found"] ["found"] (defScope sKinds):=⟨rfl,rfl,rfl,by decide +kernel,rfl,by decide +kernel,by decide +kernel⟩
theorem ok_kinds(B:∀x∈blts,mg x=none)(gMK:GI mg "MOST_KINDS" 6)(Fkind:Fn P w K mg base "is_kind" 5 ["found"] spKind)
  (F:Fun K "are_kinds" "are_kinds" sKinds f fd):FnOk P w K mg base CX0 6 f fd ["found"] spKinds:=by
 refine F.ok (k:=5) scKinds (fun vs H Q E h=>?_) (fun cdv A outer s H vs Q E hr h=>?_)
 .obtain⟨v,rfl,_⟩:=h
  rfl
 obtain⟨v,rfl,hv,q⟩:=h
 have hu:=hr.units
 refine⟨_,(pss_cons (ps_if (PW.pt (pw_or (pt_not (pt_val (pe_cB call_isinst rfl (B "isinstance" (by decide)) boot_isinstance (pa_c (pv 0) (pa_c (pe_bltn (v:=.ty "tuple") rfl (B "tuple" (by decide)) boot_tuple rfl) pa_nil))))) (pw_or1 (pt_not (pt_chain op_le op_le pe_int (pe_cB call_len_seq rfl (B "len" (by decide)) PySem.boot_len (pa_c (pv 0) pa_nil)) (pe_globI gMK rfl)))))) (pss_one (ps_ret pe_bl)) pss_nil)
  (pss_cons (ps_if (pt_not (pt_val (pe_cB (call_all rfl) rfl (B "all" (by decide)) boot_all (pa_c (pe_comp ["kind"] [none] rfl rfl (by decide +kernel) (by decide +kernel) rfl rfl (pi_tup (pv 0)) (fun _=>(pg_name (i:=0) (show(["kind"]:List PySem.Str).Nodup by decide +kernel) rfl (Or.inl rfl))) (fun _=>pts_nil) (fun _=>(pe_fn Fkind hr (by decide) rfl (pa_c (pv 0) pa_nil)))) pa_nil)))) (pss_one (ps_ret pe_bl)) pss_nil)
  (pss_one (ps_ret (pe_cmpR op_eq (pe_lensetX rfl rfl (B "len" (by decide)) rfl (B "set" (by decide)) (pa_c (pe_comp ["kind"] [none] rfl rfl (by decide +kernel) (by decide +kernel) rfl rfl (pi_tup (pv 0)) (fun _=>(pg_name (i:=0) (show(["kind"]:List PySem.Str).Nodup by decide +kernel) rfl (Or.inl rfl))) (fun _=>pts_nil) (fun _=>(pe_ix ix_tupC (pv 0) pe_int (fun _ _=>rfl)))) pa_nil)) (pe_cB call_len_seq rfl (B "len" (by decide)) PySem.boot_len (pa_c (pv 0) pa_nil)) (nomark _)))))),?_⟩
 rcases kn_tupP (K:=K) hv.kn with ⟨a,xs,rfl,ha⟩|⟨⟨t,ty,kt⟩,_,hno⟩
 .obtain⟨h60,kn⟩:=hv.2 a xs rfl ha
  have no:(1<=xs.length->xs.length<=6->False)->¬KindsP H (.ref a):=fun hx ⟨b,ys,zs,e,hb,h1,h2,_⟩=>by
   cases e
   rw[ha]at hb
   cases hb
   exact hx h1 h2
  refine⟨_,rfl,.ref a,"tuple",.type "tuple",true,rfl,.tup ha,rfl,true,rfl,iteF ?_⟩
  refine⟨_,rfl,a,xs,rfl,.inr (SqT.of ha),_,_,rfl,rfl,_,rfl,?_⟩
  refine ite2 (fun c1=>?_) (fun c1=>?_)
  .have c1':(1:Int)<=(xs.length:Int):=of_decide_eq_true c1
   refine⟨_,_,rfl,rfl,_,rfl,?_⟩
   refine ite2 (fun c2=>?_) (fun c2=>?_)
   .have c2':¬((xs.length:Int)<=6):=by simpa using c2
    exact q false H (Same.refl H) (no_iff (no fun _ h=>by omega))
   have c2':(xs.length:Int)<=6:=by simpa using c2
   refine⟨_,rfl,a,rfl,⟨_,SqT.of ha⟩,fun D hD=>?_⟩
   refine comp_tup (xs:=xs) (fun i ys H'=>Same H H'/\ys=((xs.take i).map (kindB H)).map V.bl) ⟨Same.fresh _ hD,rfl⟩ (fun i ys H' p=>SqT.of (p.1 _ _ ha)) (fun i x ys H' hx hi hDy hyl p=>?_) (fun ys H' hDy hyl p=>?_)
   .obtain⟨p1,rfl⟩:=p
    have kx:=kn x (List.mem_of_getElem? hx)
    refine⟨Agree.set (Agree.refl _) rfl,?_⟩
    dsimp only[tYes]
    refine iteT ?_
    refine⟨_,rfl,x,rfl,kx.same p1,fun b H2 s2 hb=>?_⟩
    rw[kind_same p1 kx]at hb
    rw[kindB_of hb]
    refine nx_put (by omega) (s2 _ _ hDy) hyl ⟨(p1.trans s2).new hD,?_⟩
    rw[map_take_succ (kindB H) hx,List.map_append]
    rfl
   obtain⟨p1,rfl⟩:=p
   refine⟨D,_,rfl,hDy,_,rfl,?_⟩
   rw[List.take_of_length_le (Nat.le_refl _),List.all_map]
   have eall:(xs.all (id∘kindB H))=xs.all (kindB H):=rfl
   rw[eall]
   cases hall:xs.all (kindB H)with
   | false=>
    refine iteT ?_
    refine q false H' p1 (no_iff fun⟨b,ys,zs,e,hb,_,_,h3,_⟩=>?_)
    cases e
    rw[ha]at hb
    cases hb
    rw[List.all_eq_true.mpr fun x hx=>kindB_iff.mpr (h3 x hx)]at hall
    cases hall
   | true=>
    refine iteF ?_
    have hk:∀x∈xs,KindP H x:=fun x hx=>kindB_iff.mp (List.all_eq_true.mp hall x hx)
    obtain⟨zs,hn⟩:=kind_names hk
    have hzl:=hn.1
    refine⟨_,rfl,a,rfl,⟨_,SqT.of (p1 _ _ ha)⟩,fun D2 hD2=>?_⟩
    refine names_comp (p1 _ _ ha) (hn.same p1) h60 hD2 fun H2 s2 hD2=>?_
    refine⟨D2,zs,rfl,hD2,by omega,fun m nd mem le=>?_⟩
    have s12:=p1.trans s2
    refine⟨_,rfl,a,xs,rfl,.inr (SqT.of (s12 _ _ ha)),rfl,?_⟩
    refine q _ _ s12 ?_
    have iff:KindsP H (.ref a)↔zs.Nodup:=by
     constructor
     .rintro⟨b,ys,zs',e,hb,_,_,_,h4,h5⟩
      cases e
      rw[ha]at hb
      cases hb
      rw[hn.uniq h4]
      exact h5
     .intro h
      exact⟨a,xs,zs,rfl,ha,by omega,by omega,hk,hn,h⟩
    rw[iff,decide_eq_true_iff]
    constructor
    .intro e
     injection e with e
     exact nodup_all' nd (fun x hx=>(mem x).mp hx) (by omega)
    .intro h
     have:=nodup_len h nd mem
     rw[this,hzl]
  .refine⟨false,rfl,iteT ?_⟩
   have c1':¬(1:Int)<=(xs.length:Int):=by simpa using c1
   exact q false H (Same.refl H) (no_iff (no fun h _=>by omega))
 .exact⟨_,rfl,v,"tuple",t,false,rfl,ty,kt,false,rfl,iteT (iteT (q false H (Same.refl H) (no_iff fun⟨b,ys,ds,e,hb,_⟩=>hno b ys e hb)))⟩
end
theorem NoStr.notStr{H:Hp}{z:Str}(h:NoStr H (.str z)):False:=by
 rcases h with h|⟨i,h⟩|⟨a,h,_⟩<;>cases h
theorem Itm.uniq{H:Hp}{v:V}{o o':Option Str}(h:Itm H v o)(h':Itm H v o'):o=o':=by
 cases o with
 | none=>
  cases o' with
  | none=>rfl
  | some z=>obtain⟨rfl,_⟩:=h';exact(NoStr.notStr h).elim
 | some z=>
  obtain⟨rfl,_⟩:=h
  cases o' with
  | none=>exact(NoStr.notStr h').elim
  | some z'=>obtain⟨e,_⟩:=h';cases e;rfl
theorem Itms.uniq{H:Hp}{vs:List V}{os os':List (Option Str)}(h:Itms H vs os)(h':Itms H vs os'):os=os':=by
 apply List.ext_getElem?
 intro i
 by_cases hi:i<vs.length
 .obtain⟨o,ho,io⟩:=h.at (List.getElem?_eq_getElem hi)
  obtain⟨o',ho',io'⟩:=h'.at (List.getElem?_eq_getElem hi)
  rw[ho,ho',Itm.uniq io io']
 .rw[List.getElem?_eq_none (by have:=h.1;omega),List.getElem?_eq_none (by have:=h'.1;omega)]
theorem NoTup.notTup{H:Hp}{a:Addr}{xs:List V}(h:NoTup H (.ref a))(ha:H a=some (.tup xs)):False:=by
 rcases h with h|⟨i,h⟩|⟨z,h⟩|⟨b,h,⟨ys,hb⟩|hb⟩
 .cases h
 .cases h
 .cases h
 .cases h;rw[ha]at hb;cases hb
 .cases h;rw[ha]at hb;cases hb
theorem Thing.uniq{H:Hp}{v:V}{T T':Option (List (Option Str))}(h:Thing H v T)(h':Thing H v T'):T=T':=by
 cases T with
 | none=>
  cases T' with
  | none=>rfl
  | some os=>obtain⟨_,a,vs,rfl,ha,_⟩:=h';exact(NoTup.notTup h ha).elim
 | some os=>
  obtain⟨_,a,vs,rfl,ha,hi⟩:=h
  cases T' with
  | none=>exact(NoTup.notTup h' ha).elim
  | some os'=>
   obtain⟨_,a',vs',e,ha',hi'⟩:=h'
   cases e
   rw[ha]at ha'
   cases ha'
   rw[Itms.uniq hi hi']
noncomputable def FloP(H:Hp)(v:V):Prop:=∃T,Thing H v T/\flB T=true
theorem floP_iff{H:Hp}{v:V}{T:Option (List (Option Str))}(h:Thing H v T):flB T=true↔FloP H v:=
 ⟨fun q=>⟨T,h,q⟩,fun⟨T',h',q⟩=>by rw[Thing.uniq h h'];exact q⟩
noncomputable def PuzP(H:Hp)(v:V):Prop:=∃a f k p,v=.ref a/\H a=some (.tup [f,k,p])/\FloP H f/\KindsP H k/\PairsP H p
noncomputable def Pz(H:Hp)(v:V):Prop:=Kn H v/\∀a xs,v=.ref a->H a=some (.tup xs)->xs.length<=60/\∀f k p,xs=[f,k,p]->(∃T,Thing H f T)/\KnN 4 H k/\KnN 2 H p
section
variable{P:Program}{w:World}{K:PySem.W.Frag}{mg:Str->Option Value}{base:Heap}{f:Addr}{fd:FuncData}
noncomputable def spPuz:Sp:=fun vs H Q _=>∃v,vs=[v]/\Pz H v/\∀(b:Bool) (H':Hp),Same H H'->(b=true↔PuzP H v)->Q (.bl b) H'
theorem scPuz:FnScope ["found"] ["found"] (defScope sPuz):=⟨rfl,rfl,rfl,by decide +kernel,rfl,by decide +kernel,by decide +kernel⟩
theorem ok_puz(B:∀x∈blts,mg x=none)(Fflo:Fn P w K mg base "is_floor" 4 ["found"] spFl)(Fkinds:Fn P w K mg base "are_kinds" 6 ["found"] spKinds)(Fpairs:Fn P w K mg base "are_pairs" 3 ["found"] spPairs)
  (F:Fun K "is_puzzle" "is_puzzle" sPuz f fd):FnOk P w K mg base CX0 7 f fd ["found"] spPuz:=by
 refine F.ok (k:=6) scPuz (fun vs H Q E h=>?_) (fun cdv A outer s H vs Q E hr h=>?_)
 .obtain⟨v,rfl,_⟩:=h
  rfl
 obtain⟨v,rfl,hv,q⟩:=h
 refine⟨_,(pss_cons (ps_if (PW.pt (pw_or (pt_not (pt_val (pe_cB call_isinst rfl (B "isinstance" (by decide)) boot_isinstance (pa_c (pv 0) (pa_c (pe_bltn (v:=.ty "tuple") rfl (B "tuple" (by decide)) boot_tuple rfl) pa_nil))))) (pw_or1 (pt_cmpR op_ne (pe_cB call_len_seq rfl (B "len" (by decide)) PySem.boot_len (pa_c (pv 0) pa_nil)) pe_int (nomark _))))) (pss_one (ps_ret pe_bl)) pss_nil)
  (pss_one (ps_ret (pe_and (pe_fn Fflo hr (by decide) rfl (pa_c (pe_ix ix_tup (pv 0) pe_int (fun _ _=>rfl)) pa_nil)) (pe_and (pe_fn Fkinds hr (by decide) rfl (pa_c (pe_ix ix_tup (pv 0) pe_int (fun _ _=>rfl)) pa_nil)) (pe_one (pe_fn Fpairs hr (by decide) rfl (pa_c (pe_ix ix_tup (pv 0) pe_int (fun _ _=>rfl)) pa_nil)))))))),?_⟩
 rcases kn_tupP (K:=K) hv.1 with ⟨a,xs,rfl,ha⟩|⟨⟨t,ty,kt⟩,_,hno⟩
 .obtain⟨h60,kn⟩:=hv.2 a xs rfl ha
  refine⟨_,rfl,.ref a,"tuple",.type "tuple",true,rfl,.tup ha,rfl,true,rfl,iteF ?_⟩
  refine⟨_,rfl,a,xs,rfl,.inr (SqT.of ha),rfl,_,rfl,?_⟩
  by_cases h3:xs.length=3
  .match xs,h3,ha,kn with
   | [fl,k,p],_,ha,kn=>
    obtain⟨⟨T,hT⟩,kK,kP⟩:=kn fl k p rfl
    have no:(flB T=false\/¬KindsP H k\/¬PairsP H p)->¬PuzP H (.ref a):=fun hx ⟨a',f',k',p',e,ha',h1,h2,h3⟩=>by
     cases e
     rw[ha]at ha'
     cases ha'
     rcases hx with hx|hx|hx
     .rw[(floP_iff hT).mpr h1]at hx;cases hx
     .exact hx h2
     .exact hx h3
    refine iteF ?_
    refine⟨_,rfl,a,_,_,_,rfl,rfl,SqT.of ha,rfl,fl,T,rfl,hT,fun H1 s1=>?_⟩
    have ha1:=s1 _ _ ha
    cases e1:flB T with
    | false=>exact⟨false,rfl,iteF (q false H1 s1 (no_iff (no (.inl e1))))⟩
    | true=>
     refine⟨true,rfl,iteT ?_⟩
     refine⟨_,rfl,a,_,_,_,rfl,rfl,SqT.of ha1,rfl,k,rfl,kK.same s1,fun b H2 s2 hb=>?_⟩
     rw[kinds_same s1 kK]at hb
     have s12:=s1.trans s2
     cases b with
     | false=>exact⟨false,rfl,iteF (q false H2 s12 (no_iff (no (.inr (.inl fun h=>by cases hb.mpr h)))))⟩
     | true=>
      refine⟨true,rfl,iteT ?_⟩
      refine⟨_,rfl,a,_,_,_,rfl,rfl,SqT.of (s12 _ _ ha),rfl,p,rfl,kP.same s12,fun b3 H3 s3 hb3=>?_⟩
      rw[pairs_same s12 kP]at hb3
      refine q b3 H3 (s12.trans s3) ?_
      rw[hb3]
      exact⟨fun h=>⟨a,fl,k,p,rfl,ha,(floP_iff hT).mp e1,hb.mp rfl,h⟩,fun hk=>by
       obtain⟨a',f',k',p',e,ha',_,_,h⟩:=hk
       cases e
       rw[ha]at ha'
       cases ha'
       exact h⟩
  .refine ite2 (fun _=>?_) (fun h=>absurd (show(!decide (V.int ((xs.length:Nat):Int)=V.int ((3:Nat):Int)))=true by rw[len_ne h3];rfl) h)
   refine q false H (Same.refl H) (no_iff fun hk=>?_)
   obtain⟨a',f',k',p',e,ha',_⟩:=hk
   cases e
   rw[ha]at ha'
   cases ha'
   exact h3 rfl
 .refine⟨_,rfl,v,"tuple",t,false,rfl,ty,kt,false,rfl,iteT ?_⟩
  refine iteT (q false H (Same.refl H) (no_iff fun hk=>?_))
  obtain⟨a',f',k',p',e,ha',_⟩:=hk
  exact hno a' _ e ha'
end
theorem in_small(c:Nat):(!(Builtin.Str.occurrences (Str.ofString "abcdefghijklmnopqrstuvwxyz") ⟨#[c]⟩ 0 (Str.ofString "abcdefghijklmnopqrstuvwxyz").length 1).isEmpty)=smB c:=by
 rw[PySem.StrLaws.found_one]
 have e:(Str.ofString "abcdefghijklmnopqrstuvwxyz").cps.toList=[97,98,99,100,101,102,103,104,105,106,107,108,109,110,111,112,113,114,115,116,117,118,119,120,121,122]:=by decide +kernel
 unfold smB
 rw[e,<-Bool.decide_and]
 apply decide_eq_decide.mpr
 simp only[List.mem_cons,List.not_mem_nil,or_false]
 omega
noncomputable def Dt(H:Hp)(v:V):Prop:=(∃d,Rep H d v/\d.depth<=60)\/∃a,v=.ref a/\H a=some (.dK [])
theorem Dt.same{H H':Hp}{v:V}(s:Same H H')(h:Dt H v):Dt H' v:=by
 rcases h with ⟨d,r,hd⟩|⟨a,e,ha⟩
 .exact .inl ⟨d,r.same s,hd⟩
 .exact .inr ⟨a,e,s _ _ ha⟩
noncomputable def modesL:List PyData:=[.str (Str.ofString "still"),.str (Str.ofString "turn"),.str (Str.ofString "flip")]
theorem str_dec(x z:Str):PyData.eqv (.str x) (.str z)=decide (z=x):=by
 show(x==z)=_
 rw[Bool.eq_iff_iff,beq_iff_eq,decide_eq_true_iff]
 exact eq_comm
theorem mode_any{H:Hp}{d:PyData}{v:V}(r:Rep H d v)(k:Kn H v):(modesL.any fun e=>PyData.eqv e d)=modeB v:=by
 cases d with
 | str z=>
  obtain⟨rfl,_⟩:=r
  show _=mode1 z
  unfold modesL mode1
  simp only[List.any_cons,List.any_nil,str_dec,Bool.or_false,Bool.or_assoc]
 | none=>cases (show v=.non from r);rfl
 | int i=>obtain⟨rfl⟩:=r;rfl
 | bool b=>cases (show v=.bl b from r);rfl
 | tuple ds=>obtain⟨a,xs,rfl,_⟩:=r;rfl
 | list ds=>obtain⟨a,xs,rfl,_⟩:=r;rfl
 | dict es=>exact(show False from r).elim
section
variable{P:Program}{w:World}{K:PySem.W.Frag}{mg:Str->Option Value}{base:Heap}{f:Addr}{fd:FuncData}
theorem scLlet:FnScope ["_law_found"] ["_law_found"] (defScope sLlet):=⟨rfl,rfl,rfl,by decide +kernel,rfl,by decide +kernel,by decide +kernel⟩
theorem ok_llet(B:∀x∈blts,mg x=none)(F:Fun K "_law_is_letter" "_law_is_letter" sLlet f fd):FnOk P w K mg base CX0 1 f fd ["_law_found"] spS:=by
 refine F.ok (k:=0) scLlet (fun vs H Q E h=>?_) (fun cdv A outer s H vs Q E hr h=>?_)
 .obtain⟨c,rfl,_⟩:=h
  rfl
 obtain⟨v,rfl,hv,q⟩:=h
 refine⟨_,(pss_one (ps_ret (pe_and (pe_cB call_isinst rfl (B "isinstance" (by decide)) boot_isinstance (pa_c (pv 0) (pa_c (pe_bltn (v:=.ty "str") rfl (B "str" (by decide)) boot_str rfl) pa_nil))) (pe_and (pe_cmpR op_eq (pe_cB call_len_str rfl (B "len" (by decide)) PySem.boot_len (pa_c (pv 0) pa_nil)) pe_int (nomark _)) (pe_one (pe_cmpR op_in_str (pv 0) pe_str rfl)))))),?_⟩
 rcases kn_str (K:=K) hv with ⟨z,rfl,hz⟩|⟨⟨t,ty,kt⟩,e⟩
 .refine⟨_,rfl,_,_,_,true,rfl,.str _,rfl,true,rfl,iteT ?_⟩
  refine⟨_,rfl,z,rfl,tx_line hz,rfl,_,rfl,?_⟩
  by_cases hl:z.length=1
  .obtain⟨c,rfl⟩:=one_of hl
   refine ite2 (fun _=>?_) (fun h=>absurd (decide_eq_true rfl) h)
   refine⟨_,rfl,_,_,rfl,rfl,?_⟩
   rw[in_text]
   exact q
  .refine ite2 (fun h=>?_) (fun _=>?_)
   .have h':=of_decide_eq_true h
    injection h' with h'
    exact absurd (Int.ofNat_inj.mp h') hl
   .have e:isSg (.str z)=false:=sg1_not hl
    rw[e]at q
    exact q
 .rw[e]at q
  exact⟨_,rfl,v,_,t,false,rfl,ty,kt,false,rfl,iteF q⟩
noncomputable def spLisk:Sp:=fun vs H Q _=>∃v,vs=[v]/\KnN 3 H v/\(∀a z l m md fm,v=.ref a->H a=some (.tup [.str z,l,m,md,fm])->Dt H md)/\∀(b:Bool) (H':Hp),Same H H'->(b=true↔KindP H v)->Q (.bl b) H'
theorem scLisk:FnScope ["_law_found"] ["_law_found"] (defScope sLisk):=⟨rfl,rfl,rfl,by decide +kernel,rfl,by decide +kernel,by decide +kernel⟩
theorem ok_lisk(B:∀x∈blts,mg x=none)(Fwhole:Fn P w K mg base "_law_whole" 1 ["_law_found"] spW)(Fisf:Fn P w K mg base "_law_is_form" 3 ["_law_found"] spPf)
  (F:Fun K "_law_is_kind" "_law_is_kind" sLisk f fd):FnOk P w K mg base CX0 4 f fd ["_law_found"] spLisk:=by
 refine F.ok (k:=3) scLisk (fun vs H Q E h=>?_) (fun cdv A outer s H vs Q E hr h=>?_)
 .obtain⟨v,rfl,_⟩:=h
  rfl
 obtain⟨v,rfl,hv,hdt,q⟩:=h
 have hu:=hr.units
 refine⟨_,(pss_cons (ps_if (PW.pt (pw_or (pt_not (pt_val (pe_cB call_isinst rfl (B "isinstance" (by decide)) boot_isinstance (pa_c (pv 0) (pa_c (pe_bltn (v:=.ty "tuple") rfl (B "tuple" (by decide)) boot_tuple rfl) pa_nil))))) (pw_or (pt_cmpR op_ne (pe_cB call_len_seq rfl (B "len" (by decide)) PySem.boot_len (pa_c (pv 0) pa_nil)) pe_int (nomark _)) (pw_or1 (pt_not (pt_val (pe_cB call_isinst rfl (B "isinstance" (by decide)) boot_isinstance (pa_c (pe_ix ix_tup (pv 0) pe_int (fun _ _=>rfl)) (pa_c (pe_bltn (v:=.ty "str") rfl (B "str" (by decide)) boot_str rfl) pa_nil))))))))) (pss_one (ps_ret pe_bl)) pss_nil)
  (pss_cons (ps_if (PW.pt (pw_or (pt_not (pt_chain op_le op_le pe_int (pe_cB call_len_str rfl (B "len" (by decide)) PySem.boot_len (pa_c (pe_ix ix_tup (pv 0) pe_int (fun _ _=>rfl)) pa_nil)) pe_int)) (pw_or1 (pt_not (pt_val (pe_cB (call_all rfl) rfl (B "all" (by decide)) boot_all (pa_c (pe_comp ["_law_sign"] [none] rfl rfl (by decide +kernel) (by decide +kernel) rfl rfl (pi_str (pe_ix ix_tup (pv 0) pe_int (fun _ _=>rfl))) (fun _=>(pg_name (i:=0) (show(["_law_sign"]:List PySem.Str).Nodup by decide +kernel) rfl (Or.inl rfl))) (fun _=>pts_nil) (fun _=>(pe_cmpR op_in_str (pv 0) pe_str rfl))) pa_nil))))))) (pss_one (ps_ret pe_bl)) pss_nil)
  (pss_cons (ps_if (PW.pt (pw_or (pt_not (pt_val (pe_fn Fwhole hr (by decide) rfl (pa_c (pe_ix ix_tup (pv 0) pe_int (fun _ _=>rfl)) pa_nil)))) (pw_or1 (pt_not (pt_chain op_le op_le pe_int (pe_ix ix_tup (pv 0) pe_int (fun _ _=>rfl)) pe_int))))) (pss_one (ps_ret pe_bl)) pss_nil)
  (pss_cons (ps_if (PW.pt (pw_and (pt_cmpR op_notN (pe_ix ix_tup (pv 0) pe_int (fun _ _=>rfl)) pe_non (nomark _)) (pw_and1 (PW.pt (pw_or (pt_not (pt_val (pe_fn Fwhole hr (by decide) rfl (pa_c (pe_ix ix_tup (pv 0) pe_int (fun _ _=>rfl)) pa_nil)))) (pw_or1 (pt_not (pt_chain op_le op_le (pe_ix ix_tup (pv 0) pe_int (fun _ _=>rfl)) (pe_ix ix_tup (pv 0) pe_int (fun _ _=>rfl)) pe_int)))))))) (pss_one (ps_ret pe_bl)) pss_nil)
  (pss_one (ps_ret (pe_and (pe_cmpR ((op_inD hu).or (op_inE hu)) (pe_ix ix_tup (pv 0) pe_int (fun _ _=>rfl)) (pe_lst (pa_c pe_str (pa_c pe_str (pa_c pe_str pa_nil)))) rfl) (pe_one (pe_fn Fisf hr (by decide) rfl (pa_c (pe_ix ix_tup (pv 0) pe_int (fun _ _=>rfl)) pa_nil)))))))))),?_⟩
 rcases kn_tupP (K:=K) hv.kn with ⟨a,xs,rfl,ha⟩|⟨⟨t,ty,kt⟩,_,hno⟩
 .obtain⟨h60,kn⟩:=hv.2 a xs rfl ha
  refine⟨_,rfl,.ref a,"tuple",.type "tuple",true,rfl,.tup ha,rfl,true,rfl,iteF ?_⟩
  refine⟨_,rfl,a,xs,rfl,.inr (SqT.of ha),rfl,_,rfl,?_⟩
  by_cases h5:xs.length=5
  .match xs,h5,ha,kn with
   | [n,l,m,md,fm],_,ha,kn=>
    have kN:KnN 2 H n:=kn n (by simp)
    have kL:KnN 2 H l:=kn l (by simp)
    have kM:KnN 2 H m:=kn m (by simp)
    have kD:KnN 2 H md:=kn md (by simp)
    have kF:KnN 2 H fm:=kn fm (by simp)
    have no:(nameB n=false\/bndB l m=false\/modeB md=false\/¬FormP H fm)->¬KindP H (.ref a):=fun hx ⟨a',n',l',m',md',fm',e,ha',h1,h2,h3,h4⟩=>by
     cases e
     rw[ha]at ha'
     cases ha'
     rcases hx with hx|hx|hx|hx
     .rw[hx]at h1;cases h1
     .rw[hx]at h2;cases h2
     .rw[hx]at h3;cases h3
     .exact hx h4
    refine iteF ?_
    rcases kn_strM (K:=K) kN.kn with ⟨z,rfl,hz⟩|⟨⟨t,ty,kt⟩,_,e⟩
    .have hdt:=hdt a z l m md fm rfl ha
     refine⟨_,rfl,a,_,_,_,rfl,rfl,SqT.of ha,rfl,_,_,_,true,rfl,.str _,rfl,true,rfl,iteF ?_⟩
     refine⟨_,rfl,a,_,_,_,rfl,rfl,SqT.of ha,rfl,z,rfl,tx_line hz,?_⟩
     refine⟨_,_,rfl,rfl,_,rfl,?_⟩
     refine ite2 (fun c1=>?_) (fun c1=>?_)
     .have c1':(1:Int)<=(z.length:Int):=of_decide_eq_true c1
      refine⟨_,_,rfl,rfl,_,rfl,?_⟩
      refine ite2 (fun c2=>?_) (fun c2=>?_)
      .have c2':¬((z.length:Int)<=8):=by simpa using c2
       have e:nameB (.str z)=false:=by
        rw[name_eq]
        rw[decide_eq_false (show ¬z.length<=8 by omega),Bool.and_false,Bool.false_and]
       exact q false H (Same.refl H) (no_iff (no (.inl e)))
      .have c2':(z.length:Int)<=8:=by simpa using c2
       have hl:=lenL z
       refine⟨_,rfl,a,_,_,_,rfl,rfl,SqT.of ha,rfl,z,rfl,fun D hD=>?_⟩
       refine comp_str (fun i ys H'=>Same H H'/\ys=((z.cps.toList.take i).map smB).map V.bl) ⟨Same.fresh _ hD,rfl⟩ (fun i c ys H' hx hi hDy hyl p=>?_) (fun ys H' hDy hyl p=>?_)
       .obtain⟨p1,rfl⟩:=p
        refine⟨Agree.set (Agree.refl _) rfl,?_⟩
        dsimp only[tYes]
        refine iteT ?_
        refine⟨_,rfl,_,_,rfl,rfl,?_⟩
        rw[in_small]
        refine nx_put (by omega) hDy hyl ⟨p1.new hD,?_⟩
        rw[map_take_succ smB hx,List.map_append]
        rfl
       obtain⟨s1,rfl⟩:=p
       refine⟨D,z.cps.toList.map smB,rfl,by rw[hDy,List.take_length],_,rfl,?_⟩
       have e1:nameB (.str z)=(z.cps.toList.map smB).all id:=by
        rw[name_eq]
        rw[decide_eq_true (show 1<=z.length by omega),decide_eq_true (show z.length<=8 by omega),List.all_map]
        rfl
       rw[<-e1]
       have ha1:=s1 _ _ ha
       cases e:nameB (.str z)with
       | false=>exact iteT (q false H' s1 (no_iff (no (.inl e))))
       | true=>
        refine iteF ?_
        refine⟨_,rfl,a,_,_,_,rfl,rfl,SqT.of ha1,rfl,l,rfl,kL.kn.same s1,_,rfl,?_⟩
        rcases kn_int kL.kn with ⟨i,rfl⟩|⟨w1,w2,_⟩
        .refine iteF ?_
         refine⟨_,rfl,a,_,_,_,rfl,rfl,SqT.of ha1,rfl,_,_,rfl,rfl,_,rfl,?_⟩
         have bnd0:∀m,(¬0<=i\/¬i<=64)->bndB (.int i) m=false:=fun m h=>by
          cases m<;>first|rfl|(unfold bndB;rcases h with h|h<;>simp[h])
         refine ite2 (fun c1=>?_) (fun c1=>?_)
         .have d1:(0:Int)<=i:=of_decide_eq_true c1
          refine⟨_,_,rfl,rfl,_,rfl,?_⟩
          refine ite2 (fun c2=>?_) (fun c2=>?_)
          .have d2:¬(i<=64):=by simpa using c2
           exact q false H' s1 (no_iff (no (.inr (.inl (bnd0 m (.inr d2))))))
          .have d2:i<=64:=by simpa using c2
           refine⟨_,rfl,a,_,_,_,rfl,rfl,SqT.of ha1,rfl,rfl,_,rfl,?_⟩
           by_cases hn:m=.non
           .subst hn
            have eb:bndB (.int i) .non=true:=by unfold bndB;simp[d1,d2]
            refine iteF ?_
            refine⟨_,rfl,a,_,_,_,rfl,rfl,SqT.of ha1,rfl,(by show 3<=sizeLine;decide),fun p hp=>?_⟩
            have s2:Same H' (upd H' p (.lst [.str (Str.ofString "still"),.str (Str.ofString "turn"),.str (Str.ofString "flip")])):=Same.fresh _ hp
            have s12:=s1.trans s2
            rcases hdt.same s12 with ⟨d,rd,hd⟩|⟨b,rfl,hb⟩
            .refine .inl ⟨d,p,_,modesL,rd,rfl,.inl upd_same,⟨_,_,rfl,⟨rfl,by decide +kernel⟩,_,_,rfl,⟨rfl,by decide +kernel⟩,_,_,rfl,⟨rfl,by decide +kernel⟩,rfl⟩,hd,?_⟩
             rw[if_neg Bool.false_ne_true,mode_any rd (kD.kn.same s12)]
             cases e3:modeB md with
             | false=>exact⟨false,rfl,iteF (q false _ s12 (no_iff (no (.inr (.inr (.inl e3))))))⟩
             | true=>
              refine⟨true,rfl,iteT ?_⟩
              refine⟨_,rfl,a,_,_,_,rfl,rfl,SqT.of (s12 _ _ ha),rfl,fm,rfl,kF.same s12,fun b H2 s3 hb=>?_⟩
              refine q b H2 (s12.trans s3) ?_
              rw[hb,form_same s12 kF]
              exact⟨fun h4=>⟨a,_,_,_,md,fm,rfl,ha,e,eb,e3,h4⟩,fun hk=>by
               obtain⟨a',n',l',m',md',fm',e,ha',_,_,_,h4⟩:=hk
               cases e
               rw[ha]at ha'
               cases ha'
               exact h4⟩
            .refine .inr ⟨b,p,[Str.ofString "still",Str.ofString "turn",Str.ofString "flip"],rfl,hb,rfl,upd_same,?_⟩
             exact⟨false,rfl,iteF (q false _ s12 (no_iff (no (.inr (.inr (.inl rfl))))))⟩
           .rw[decide_eq_false hn]
            refine iteT ?_
            refine⟨_,rfl,a,_,_,_,rfl,rfl,SqT.of ha1,rfl,m,rfl,kM.kn.same s1,_,rfl,?_⟩
            rcases kn_int kM.kn with ⟨j,rfl⟩|⟨w1,_,w3⟩
            .refine iteF ?_
             have ej:bndB (.int i) (.int j)=(decide (i<=j)&&decide (j<=64)):=by unfold bndB;simp[d1,d2]
             refine⟨_,rfl,a,_,_,_,rfl,rfl,SqT.of ha1,rfl,_,rfl,a,_,_,_,rfl,rfl,SqT.of ha1,rfl,_,_,rfl,rfl,_,rfl,?_⟩
             refine ite2 (fun c3=>?_) (fun c3=>?_)
             .refine⟨_,_,rfl,rfl,_,rfl,?_⟩
              rw[c3,Bool.true_and]at ej
              refine ite2 (fun c4=>?_) (fun c4=>?_)
              .have c4':decide (j<=64)=false:=by simpa using c4
               exact q false H' s1 (no_iff (no (.inr (.inl (by rw[ej,c4'])))))
              .have c4':decide (j<=64)=true:=by simpa using c4
               have eb:bndB (.int i) (.int j)=true:=by rw[ej,c4']
               refine⟨_,rfl,a,_,_,_,rfl,rfl,SqT.of ha1,rfl,(by show 3<=sizeLine;decide),fun p hp=>?_⟩
               have s2:Same H' (upd H' p (.lst [.str (Str.ofString "still"),.str (Str.ofString "turn"),.str (Str.ofString "flip")])):=Same.fresh _ hp
               have s12:=s1.trans s2
               rcases hdt.same s12 with ⟨d,rd,hd⟩|⟨b,rfl,hb⟩
               .refine .inl ⟨d,p,_,modesL,rd,rfl,.inl upd_same,⟨_,_,rfl,⟨rfl,by decide +kernel⟩,_,_,rfl,⟨rfl,by decide +kernel⟩,_,_,rfl,⟨rfl,by decide +kernel⟩,rfl⟩,hd,?_⟩
                rw[if_neg Bool.false_ne_true,mode_any rd (kD.kn.same s12)]
                cases e3:modeB md with
                | false=>exact⟨false,rfl,iteF (q false _ s12 (no_iff (no (.inr (.inr (.inl e3))))))⟩
                | true=>
                 refine⟨true,rfl,iteT ?_⟩
                 refine⟨_,rfl,a,_,_,_,rfl,rfl,SqT.of (s12 _ _ ha),rfl,fm,rfl,kF.same s12,fun b H2 s3 hb=>?_⟩
                 refine q b H2 (s12.trans s3) ?_
                 rw[hb,form_same s12 kF]
                 exact⟨fun h4=>⟨a,_,_,_,md,fm,rfl,ha,e,eb,e3,h4⟩,fun hk=>by
                  obtain⟨a',n',l',m',md',fm',e,ha',_,_,_,h4⟩:=hk
                  cases e
                  rw[ha]at ha'
                  cases ha'
                  exact h4⟩
               .refine .inr ⟨b,p,[Str.ofString "still",Str.ofString "turn",Str.ofString "flip"],rfl,hb,rfl,upd_same,?_⟩
                exact⟨false,rfl,iteF (q false _ s12 (no_iff (no (.inr (.inr (.inl rfl))))))⟩
             .refine⟨_,rfl,?_⟩
              exact iteT (q false H' s1 (no_iff (no (.inr (.inl (by rw[ej,Bool.eq_false_iff.mpr c3];rfl))))))
            .rw[w1]
             exact iteT (iteT (q false H' s1 (no_iff (no (.inr (.inl (w3 hn i)))))))
         .have d1:¬((0:Int)<=i):=by simpa using c1
          refine⟨_,rfl,?_⟩
          exact iteT (q false H' s1 (no_iff (no (.inr (.inl (bnd0 m (.inl d1)))))))
        .rw[w1]
         exact iteT (iteT (q false H' s1 (no_iff (no (.inr (.inl (w2 m)))))))
     .have c1':¬((1:Int)<=(z.length:Int)):=by simpa using c1
      refine⟨_,rfl,?_⟩
      have e:nameB (.str z)=false:=by
       rw[name_eq]
       rw[decide_eq_false (show ¬1<=z.length by omega),Bool.false_and,Bool.false_and]
      exact iteT (q false H (Same.refl H) (no_iff (no (.inl e))))
    .exact⟨_,rfl,a,_,_,_,rfl,rfl,SqT.of ha,rfl,n,_,t,false,rfl,ty,kt,false,rfl,iteT (q false H (Same.refl H) (no_iff (no (.inl e))))⟩
  .refine ite2 (fun _=>?_) (fun h=>absurd (show(!decide (V.int ((xs.length:Nat):Int)=V.int ((5:Nat):Int)))=true by rw[len_ne h5];rfl) h)
   refine iteT ?_
   refine q false H (Same.refl H) (no_iff fun hk=>?_)
   obtain⟨a',n',l',m',md',fm',e,ha',_⟩:=hk
   cases e
   rw[ha]at ha'
   cases ha'
   exact h5 rfl
 .refine⟨_,rfl,v,"tuple",t,false,rfl,ty,kt,false,rfl,iteT ?_⟩
  refine iteT (q false H (Same.refl H) (no_iff fun hk=>?_))
  obtain⟨a',n',l',m',md',fm',e,ha',_⟩:=hk
  exact hno a' _ e ha'
end
theorem pr_rise{ds:List PyData}(h:∀(j:Nat) x y,ds[j]?=some x->ds[j+1]?=some y->prN x<prN y):ds.Pairwise (fun x y=>prN x<prN y):=by
 have key:∀(k i:Nat) x y,ds[i]?=some x->ds[i+1+k]?=some y->prN x<prN y:=by
  intro k
  induction k with
  | zero=>intro i x y hx hy;exact h i x y hx hy
  | succ k ih=>
   intro i x y hx hy
   have hl:i+1+k<ds.length:=by
    have:=(List.getElem?_eq_some_iff.mp hy).1
    omega
   have hm:ds[i+1+k]?=some ds[i+1+k]:=List.getElem?_eq_getElem hl
   have h1:=ih i x _ hx hm
   have h2:=h (i+1+k) _ y hm hy
   omega
 rw[List.pairwise_iff_getElem]
 intro i j hi hj hij
 exact key (j-(i+1)) i _ _ (List.getElem?_eq_getElem hi) (by rw[show i+1+(j-(i+1))=j by omega];exact List.getElem?_eq_getElem hj)
theorem all_rise{ds:List PyData}(h:ds.Pairwise (fun x y=>prN x<prN y)){j:Nat}{x y:PyData}(hx:ds[j]?=some x)(hy:ds[j+1]?=some y):prN x<prN y:=by
 obtain⟨h1,rfl⟩:=List.getElem?_eq_some_iff.mp hx
 obtain⟨h2,rfl⟩:=List.getElem?_eq_some_iff.mp hy
 exact(List.pairwise_iff_getElem.mp h) j (j+1) h1 h2 (by omega)
theorem repAll_at{H:Hp}:∀{ds:List PyData} {xs:List V} {i:Nat} {x:V},RepAll H ds xs->xs[i]?=some x->∃d,ds[i]?=some d/\Rep H d x
 | [],xs,i,x,r,e=>by cases (show xs=[]from r);simp at e
 | d::ds,xs,i,x,r,e=>by
  obtain⟨y,ys,rfl,r1,r2⟩:=r
  cases i with
  | zero=>cases (show y=x from by simpa using e);exact⟨d,rfl,r1⟩
  | succ i=>exact repAll_at (i:=i) r2 (by simpa using e)
section
variable{P:Program}{w:World}{K:PySem.W.Frag}{mg:Str->Option Value}{base:Heap}{f:Addr}{fd:FuncData}
theorem scLarep:FnScope ["_law_found","_law_pair"] ["_law_found"] (defScope sLarep):=⟨rfl,rfl,rfl,by decide +kernel,rfl,by decide +kernel,by decide +kernel⟩
theorem ok_larep(B:∀x∈blts,mg x=none)(Fllet:Fn P w K mg base "_law_is_letter" 1 ["_law_found"] spS)(F:Fun K "_law_are_pairs" "_law_are_pairs" sLarep f fd):FnOk P w K mg base CX0 2 f fd ["_law_found"] spPairs:=by
 refine F.ok (k:=1) scLarep (fun vs H Q E h=>?_) (fun cdv A outer s H vs Q E hr h=>?_)
 .obtain⟨v,rfl,_⟩:=h
  rfl
 obtain⟨v,rfl,hv,q⟩:=h
 have hu:=hr.units
 refine⟨_,(pss_cons (ps_if (pt_not (pt_val (pe_cB call_isinst rfl (B "isinstance" (by decide)) boot_isinstance (pa_c (pv 0) (pa_c (pe_bltn (v:=.ty "tuple") rfl (B "tuple" (by decide)) boot_tuple rfl) pa_nil))))) (pss_one (ps_ret pe_bl)) pss_nil)
  (pss_cons (ps_for PassesOwn.never rfl (pi_tup (pv 0)) (pg_name (i:=1) scLarep.nd rfl (Or.inl rfl)) (pss_cons (ps_if (PW.pt (pw_or (pt_not (pt_val (pe_cB call_isinst rfl (B "isinstance" (by decide)) boot_isinstance (pa_c (pv 1) (pa_c (pe_bltn (v:=.ty "tuple") rfl (B "tuple" (by decide)) boot_tuple rfl) pa_nil))))) (pw_or (pt_cmpR op_ne (pe_cB call_len_seq rfl (B "len" (by decide)) PySem.boot_len (pa_c (pv 1) pa_nil)) pe_int (nomark _)) (pw_or (pt_not (pt_val (pe_fn Fllet hr (by decide) rfl (pa_c (pe_ix ix_tup (pv 1) pe_int (fun _ _=>rfl)) pa_nil)))) (pw_or1 (pt_not (pt_val (pe_fn Fllet hr (by decide) rfl (pa_c (pe_ix ix_tup (pv 1) pe_int (fun _ _=>rfl)) pa_nil))))))))) (pss_one (ps_ret pe_bl)) pss_nil)
  (pss_one (ps_if (pt_cmpR op_lt_str (pe_ix ix_tup (pv 1) pe_int (fun _ _=>rfl)) (pe_ix ix_tup (pv 1) pe_int (fun _ _=>rfl)) (nomark _)) (pss_one (ps_ret pe_bl)) pss_nil))))
  (pss_one (ps_ret (pe_cB (call_all rfl) rfl (B "all" (by decide)) boot_all (pa_c (pe_comp ["_law_k","_law_found"] [none,some 0] rfl rfl (by decide +kernel) (by decide +kernel) rfl rfl (pi_r2 rfl (B "range" (by decide)) (pa_c pe_int (pa_c (pe_cB call_len_seq rfl (B "len" (by decide)) PySem.boot_len (pa_c (pv 0) pa_nil)) pa_nil))) (fun _=>(pg_name (i:=0) (show(["_law_k","_law_found"]:List PySem.Str).Nodup by decide +kernel) rfl (Or.inl rfl))) (fun _=>pts_nil) (fun _=>(pe_cmpR (op_ltD hu) (pe_ix ix_tupC (pv 1) (pe_op op_sub (pv 0) pe_int) (fun _ _=>rfl)) (pe_ix ix_tupC (pv 1) (pv 0) (fun _ _=>rfl)) (nomark _)))) pa_nil)))))),?_⟩
 rcases kn_tupP (K:=K) hv.kn with ⟨a,xs,rfl,ha⟩|⟨⟨t,ty,kt⟩,_,hno⟩
 .obtain⟨h60,kn⟩:=hv.2 a xs rfl ha
  refine⟨_,rfl,.ref a,"tuple",.type "tuple",true,rfl,.tup ha,rfl,true,rfl,iteF ?_⟩
  have no:∀(i:Nat) (x:V),xs[i]?=some x->pairB H x=false->Q (.bl false) H:=fun i x hx hb=>by
   refine q false H (Same.refl H) (no_iff fun⟨b,ys,ds,e,hb',r,hp,_⟩=>?_)
   cases e
   rw[ha]at hb'
   cases hb'
   have:=List.all_eq_true.mp (all_pairs r hp) x (List.mem_of_getElem? hx)
   rw[hb]at this
   cases this
  refine⟨_,rfl,a,rfl,⟨_,SqT.of ha⟩,?_⟩
  refine for_tup (xs:=xs) (fun i σ' H'=>∃y1,σ'=[some (.ref a),y1]/\H'=H/\∀(j:Nat) (x:V),j<i->xs[j]?=some x->pairB H x=true) ?_ (fun i σ' H' hil h=>?_) (fun i x σ' H' hx h=>?_) (fun σ' H' h=>?_)
  .exact⟨_,rfl,rfl,fun j o hj=>by omega⟩
  .obtain⟨_,_,rfl,_⟩:=h
   exact SqT.of ha
  .obtain⟨y1,rfl,rfl,hall⟩:=h
   have kx:KnN 1 H' x:=kn x (List.mem_of_getElem? hx)
   rcases kn_tupP (K:=K) kx.kn with ⟨b,zs,rfl,hb⟩|⟨⟨t,ty,kt⟩,e,_⟩
   .obtain⟨_,kz⟩:=kx.2 b zs rfl hb
    refine⟨_,rfl,.ref b,"tuple",.type "tuple",true,rfl,.tup hb,rfl,true,rfl,iteF ?_⟩
    refine⟨_,rfl,b,zs,rfl,.inr (SqT.of hb),rfl,_,rfl,?_⟩
    by_cases h2:zs.length=2
    .match zs,h2,hb,kz with
     | [x,y],_,hb,kz=>
      have k1:Kn H' x:=kz x (by simp)
      have k2:Kn H' y:=kz y (by simp)
      have eq2:pairB H' (.ref b)=pair2 x y:=by rw[pairB_ref,hb]
      refine iteF ?_
      refine⟨_,rfl,b,_,_,_,rfl,rfl,SqT.of hb,rfl,x,rfl,k1,_,rfl,?_⟩
      cases hx1:isSg x with
      | false=>exact iteT (iteT (no i _ hx (by rw[eq2,pair_no1 hx1])))
      | true=>
       refine iteF ?_
       refine⟨_,rfl,b,_,_,_,rfl,rfl,SqT.of hb,rfl,y,rfl,k2,_,rfl,?_⟩
       cases hy1:isSg y with
       | false=>exact iteT (no i _ hx (by rw[eq2,pair_no2 hy1]))
       | true=>
        refine iteF ?_
        obtain⟨zx,rfl,sx⟩:=sg_str hx1
        obtain⟨zy,rfl,sy⟩:=sg_str hy1
        have e:pair2 (.str zx) (.str zy) = !decide (zy.cps.toList<zx.cps.toList):=by
         show(sg1 zx&&sg1 zy&&leS zx zy)=_
         rw[sx,sy];rfl
        refine⟨_,rfl,b,_,_,_,rfl,rfl,SqT.of hb,rfl,_,rfl,b,_,_,_,rfl,rfl,SqT.of hb,rfl,zy,zx,rfl,rfl,_,rfl,?_⟩
        cases hlt:decide (zy.cps.toList<zx.cps.toList)with
        | true=>exact iteT (no i _ hx (by rw[eq2,e,hlt];rfl))
        | false=>
         refine iteF ⟨_,rfl,rfl,fun j x' hj hx'=>?_⟩
         by_cases em:j<i
         .exact hall j x' em hx'
         .have em':j=i:=by omega
          subst em'
          rw[hx]at hx';cases hx'
          rw[eq2,e,hlt];rfl
    .refine ite2 (fun _=>?_) (fun h=>absurd (show(!decide (V.int ((zs.length:Nat):Int)=V.int ((2:Nat):Int)))=true by rw[len_ne h2];rfl) h)
     exact iteT (no i _ hx (pair_len hb h2))
   .exact⟨_,rfl,x,"tuple",t,false,rfl,ty,kt,false,rfl,iteT (iteT (no i x hx e))⟩
  .obtain⟨y1,rfl,rfl,hall⟩:=h
   have hA:xs.all (pairB H')=true:=List.all_eq_true.mpr fun x hx=>by
    obtain⟨j,hj,rfl⟩:=List.mem_iff_getElem.mp hx
    exact hall j _ hj (List.getElem?_eq_getElem hj)
   obtain⟨ds,rep,hpr⟩:=pairs_of hA
   have hF:=pairsP_ref ha rep hpr
   have hlen:=rep.length
   refine⟨_,rfl,a,xs,rfl,.inr (SqT.of ha),1,_,rfl,⟨by decide,by decide,by omega,by omega⟩,fun D hD=>?_⟩
   refine comp_range (lo:=1) (fun i ys H2=>Same H' H2/\∃bs:List Bool,ys=bs.map V.bl/\bs.length=i/\∀(j:Nat) (b:Bool) x y,bs[j]?=some b->ds[j]?=some x->ds[j+1]?=some y->b=decide (prN x<prN y)) ⟨Same.fresh _ hD,[],rfl,rfl,fun j b x y h=>by simp at h⟩ (fun i ys H2 hi hDy hyl p=>?_) (fun ys H2 hDy hyl p=>?_)
   .obtain⟨p1,bs,rfl,hbl,hbs⟩:=p
    have i0:i<xs.length:=by omega
    have i1:i+1<xs.length:=by omega
    obtain⟨d0,hd0,r0⟩:=repAll_at rep (List.getElem?_eq_getElem i0)
    obtain⟨d1,hd1,r1⟩:=repAll_at rep (List.getElem?_eq_getElem i1)
    have hat:atI xs (1+((i:Nat):Int)-1)=some xs[i]:=by
     rw[show(1+((i:Nat):Int)-1)=((i:Nat):Int) by omega]
     exact atI_nat (List.getElem?_eq_getElem i0)
    have hat':atI xs (1+((i:Nat):Int))=some xs[i+1]:=by
     rw[show(1+((i:Nat):Int))=((i+1:Nat):Int) by omega]
     exact atI_nat (List.getElem?_eq_getElem i1)
    have pr0:=hpr d0 (List.mem_of_getElem? hd0)
    have pr1:=hpr d1 (List.mem_of_getElem? hd1)
    refine⟨Agree.set (Agree.refl _) rfl,?_⟩
    dsimp only[tYes]
    refine iteT ?_
    refine⟨_,rfl,_,rfl,_,_,rfl,rfl,a,xs,_,_,rfl,rfl,SqT.of (p1 _ _ ha),hat,_,rfl,_,rfl,a,xs,_,_,rfl,rfl,SqT.of (p1 _ _ ha),hat',d0,d1,r0.same p1,r1.same p1,pr_cmp pr0 pr1,?_,?_⟩
    .have:=(pr_key pr0).2.2
     omega
    rw[pr_ltD pr0 pr1]
    refine nx_put (by omega) hDy hyl ⟨p1.new hD,bs++[decide (prN d0<prN d1)],by rw[List.map_append];rfl,by rw[List.length_append,hbl];rfl,fun j b x y hb hx hy=>?_⟩
    by_cases hj:j<bs.length
    .rw[List.getElem?_append_left hj]at hb
     exact hbs j b x y hb hx hy
    .have hjl:=(List.getElem?_eq_some_iff.mp hb).1
     rw[List.length_append,List.length_singleton]at hjl
     have ej:j=i:=by omega
     subst ej
     rw[<-hbl,List.getElem?_append_right (Nat.le_refl _),Nat.sub_self]at hb
     rw[hd0]at hx;rw[hd1]at hy
     cases hx;cases hy
     exact(Option.some.inj hb).symm
   .obtain⟨p1,bs,rfl,hbl,hbs⟩:=p
    refine⟨D,bs,rfl,hDy,?_⟩
    refine q _ H2 p1 ?_
    rw[hF,List.all_eq_true]
    constructor
    .intro h
     refine pr_rise fun j x y hx hy=>?_
     have hj:j<bs.length:=by
      have:=(List.getElem?_eq_some_iff.mp hy).1
      omega
     have hb:=List.getElem?_eq_getElem hj
     have e:=hbs j _ x y hb hx hy
     have t:bs[j]=true:=h _ (List.getElem_mem hj)
     rw[t]at e
     exact of_decide_eq_true e.symm
    .intro h b hb
     obtain⟨j,hj,rfl⟩:=List.mem_iff_getElem.mp hb
     have h0:j<ds.length:=by omega
     have h1:j+1<ds.length:=by omega
     have e:=hbs j _ _ _ (List.getElem?_eq_getElem hj) (List.getElem?_eq_getElem h0) (List.getElem?_eq_getElem h1)
     show bs[j]=true
     rw[e]
     exact decide_eq_true (all_rise h (List.getElem?_eq_getElem h0) (List.getElem?_eq_getElem h1))
 .exact⟨_,rfl,v,"tuple",t,false,rfl,ty,kt,false,rfl,iteT (q false H (Same.refl H) (no_iff fun⟨b,ys,ds,e,hb,_⟩=>hno b ys e hb))⟩
end
noncomputable def DtK(H:Hp)(x:V):Prop:=∀a z l m md fm,x=.ref a->H a=some (.tup [.str z,l,m,md,fm])->Dt H md
theorem DtK.same{H H':Hp}{x:V}(s:Same H H')(k:Kn H x)(h:DtK H x):DtK H' x:=fun a n l m md fm e ha=>by
 subst e
 exact(h a n l m md fm rfl (kn_back s k ha)).same s
noncomputable def PzD(H:Hp)(v:V):Prop:=∀a f k p b xs,v=.ref a->H a=some (.tup [f,k,p])->k=.ref b->H b=some (.tup xs)->∀x∈xs,DtK H x
section
variable{P:Program}{w:World}{K:PySem.W.Frag}{mg:Str->Option Value}{base:Heap}{f:Addr}{fd:FuncData}
noncomputable def spLisp:Sp:=fun vs H Q _=>∃v,vs=[v]/\Pz H v/\PzD H v/\∀(b:Bool) (H':Hp),Same H H'->(b=true↔PuzP H v)->Q (.bl b) H'
theorem scLisp:FnScope ["_law_found","_law_names_here"] ["_law_found"] (defScope sLisp):=⟨rfl,rfl,rfl,by decide +kernel,rfl,by decide +kernel,by decide +kernel⟩
theorem ok_lisp(B:∀x∈blts,mg x=none)(Flflo:Fn P w K mg base "_law_is_floor" 1 ["_law_found"] spFl)(Flisk:Fn P w K mg base "_law_is_kind" 4 ["_law_found"] spLisk)(Flarep:Fn P w K mg base "_law_are_pairs" 2 ["_law_found"] spPairs)
  (F:Fun K "_law_is_puzzle" "_law_is_puzzle" sLisp f fd):FnOk P w K mg base CX0 5 f fd ["_law_found"] spLisp:=by
 refine F.ok (k:=4) scLisp (fun vs H Q E h=>?_) (fun cdv A outer s H vs Q E hr h=>?_)
 .obtain⟨v,rfl,_⟩:=h
  rfl
 obtain⟨v,rfl,hv,hdt,q⟩:=h
 have hu:=hr.units
 refine⟨_,(pss_cons (ps_if (PW.pt (pw_or (pt_not (pt_val (pe_cB call_isinst rfl (B "isinstance" (by decide)) boot_isinstance (pa_c (pv 0) (pa_c (pe_bltn (v:=.ty "tuple") rfl (B "tuple" (by decide)) boot_tuple rfl) pa_nil))))) (pw_or (pt_cmpR op_ne (pe_cB call_len_seq rfl (B "len" (by decide)) PySem.boot_len (pa_c (pv 0) pa_nil)) pe_int (nomark _)) (pw_or1 (pt_not (pt_val (pe_fn Flflo hr (by decide) rfl (pa_c (pe_ix ix_tup (pv 0) pe_int (fun _ _=>rfl)) pa_nil)))))))) (pss_one (ps_ret pe_bl)) pss_nil)
  (pss_cons (ps_if (PW.pt (pw_or (pt_not (pt_val (pe_cB call_isinst rfl (B "isinstance" (by decide)) boot_isinstance (pa_c (pe_ix ix_tup (pv 0) pe_int (fun _ _=>rfl)) (pa_c (pe_bltn (v:=.ty "tuple") rfl (B "tuple" (by decide)) boot_tuple rfl) pa_nil))))) (pw_or1 (pt_not (pt_chain op_le op_le pe_int (pe_cB call_len_seq rfl (B "len" (by decide)) PySem.boot_len (pa_c (pe_ix ix_tup (pv 0) pe_int (fun _ _=>rfl)) pa_nil)) pe_int))))) (pss_one (ps_ret pe_bl)) pss_nil)
  (pss_cons (ps_if (pt_cmpR (op_neE hu) (pe_comp ["_law_kind_here"] [none] rfl rfl (by decide +kernel) (by decide +kernel) rfl rfl (pi_tup (pe_ix ix_tup (pv 0) pe_int (fun _ _=>rfl))) (fun _=>(pg_name (i:=0) (show(["_law_kind_here"]:List PySem.Str).Nodup by decide +kernel) rfl (Or.inl rfl))) (fun _=>pts_one (pt_not (pt_val (pe_fn Flisk hr (by decide) rfl (pa_c (pv 0) pa_nil))))) (fun _=>(pv 0))) (pe_lst pa_nil) (nomark _)) (pss_one (ps_ret pe_bl)) pss_nil)
  (pss_cons (ps_setC (i:=1) ["_law_kind_here"] [none] scLisp.nd rfl (Or.inl rfl) rfl rfl rfl (by decide +kernel) (by decide +kernel) rfl rfl (pi_tup (pe_ix ix_tup (pv 0) pe_int (fun _ _=>rfl))) (fun _=>(pg_name (i:=0) (show(["_law_kind_here"]:List PySem.Str).Nodup by decide +kernel) rfl (Or.inl rfl))) (fun _=>pts_nil) (fun _=>(pe_ix ix_tupC (pv 0) pe_int (fun _ _=>rfl))))
  (pss_one (ps_ret (pe_and (pe_cmpR op_eq (pe_lensetX rfl rfl (B "len" (by decide)) rfl (B "set" (by decide)) (pa_c (pv 1) pa_nil)) (pe_cB call_len_seq rfl (B "len" (by decide)) PySem.boot_len (pa_c (pv 1) pa_nil)) (nomark _)) (pe_one (pe_fn Flarep hr (by decide) rfl (pa_c (pe_ix ix_tup (pv 0) pe_int (fun _ _=>rfl)) pa_nil)))))))))),?_⟩
 rcases kn_tupP (K:=K) hv.1 with ⟨a,xs,rfl,ha⟩|⟨⟨t,ty,kt⟩,_,hno⟩
 .obtain⟨h60,kn⟩:=hv.2 a xs rfl ha
  refine⟨_,rfl,.ref a,"tuple",.type "tuple",true,rfl,.tup ha,rfl,true,rfl,iteF ?_⟩
  refine⟨_,rfl,a,xs,rfl,.inr (SqT.of ha),rfl,_,rfl,?_⟩
  by_cases h3:xs.length=3
  .match xs,h3,ha,kn with
   | [fl,k,p],_,ha,kn=>
    obtain⟨⟨T,hT⟩,kK,kP⟩:=kn fl k p rfl
    have no:(flB T=false\/¬KindsP H k\/¬PairsP H p)->¬PuzP H (.ref a):=fun hx ⟨a',f',k',p',e,ha',h1,h2,h3⟩=>by
     cases e
     rw[ha]at ha'
     cases ha'
     rcases hx with hx|hx|hx
     .rw[(floP_iff hT).mpr h1]at hx;cases hx
     .exact hx h2
     .exact hx h3
    refine iteF ?_
    refine⟨_,rfl,a,_,_,_,rfl,rfl,SqT.of ha,rfl,fl,T,rfl,hT,fun H1 s1=>⟨_,rfl,?_⟩⟩
    have ha1:=s1 _ _ ha
    cases e1:flB T with
    | false=>exact iteT (q false H1 s1 (no_iff (no (.inl e1))))
    | true=>
     refine iteF ?_
     rcases kn_tupP (K:=K) kK.kn with ⟨b,ks,rfl,hb⟩|⟨⟨t,ty,kt⟩,_,hno⟩
     .obtain⟨k60,kk⟩:=kK.2 b ks rfl hb
      have hdk:=hdt a fl _ p b ks rfl ha rfl hb
      have noK:(1<=ks.length->ks.length<=6->False)->¬KindsP H (.ref b):=fun hx ⟨b',ys,zs,e,hb',h1,h2,_⟩=>by
       cases e
       rw[hb]at hb'
       cases hb'
       exact hx h1 h2
      have hb1:=s1 _ _ hb
      refine⟨_,rfl,a,_,_,_,rfl,rfl,SqT.of ha1,rfl,.ref b,"tuple",.type "tuple",true,rfl,.tup hb1,rfl,true,rfl,iteF ?_⟩
      refine⟨_,rfl,a,_,_,_,rfl,rfl,SqT.of ha1,rfl,b,ks,rfl,.inr (SqT.of hb1),_,_,rfl,rfl,_,rfl,?_⟩
      refine ite2 (fun c1=>?_) (fun c1=>?_)
      .have c1':(1:Int)<=(ks.length:Int):=of_decide_eq_true c1
       refine⟨_,_,rfl,rfl,_,rfl,?_⟩
       refine ite2 (fun c2=>?_) (fun c2=>?_)
       .have c2':¬((ks.length:Int)<=6):=by simpa using c2
        exact q false H1 s1 (no_iff (no (.inr (.inl (noK fun _ h=>by omega)))))
       have c2':(ks.length:Int)<=6:=by simpa using c2
       refine⟨_,rfl,a,_,_,_,rfl,rfl,SqT.of ha1,rfl,b,rfl,⟨_,SqT.of hb1⟩,fun D hD=>?_⟩
       refine comp_tup (xs:=ks) (fun i ys H'=>Same H1 H'/\ys=(ks.take i).filter fun x=>!kindB H x) ⟨Same.fresh _ hD,rfl⟩ (fun i ys H' p=>SqT.of (p.1 _ _ hb1)) (fun i x ys H' hx hi hDy hyl p=>?_) (fun ys H' hDy hyl p=>?_)
       .obtain⟨p1,rfl⟩:=p
        have hxm:=List.mem_of_getElem? hx
        have kx:=kk x hxm
        have s2:=s1.trans p1
        have hfil:=filter_take (p:=fun x=>!kindB H x) hx
        refine⟨Agree.set (Agree.refl _) rfl,?_⟩
        refine⟨_,rfl,x,rfl,kx.same s2,(hdk x hxm).same s2 kx.kn,fun b2 H2 s3 hb2=>⟨_,rfl,?_⟩⟩
        rw[kind_same s2 kx]at hb2
        rw[kindB_of hb2]
        cases hb:kindB H x with
        | true=>
         simp only[hb]at hfil
         refine iteF ⟨_,s3 _ _ hDy,by omega,p1.trans s3,?_⟩
         rw[hfil]
         simp
        | false=>
         simp only[hb]at hfil
         refine iteT ⟨_,rfl,nx_put (by omega) (s3 _ _ hDy) hyl ⟨(p1.trans s3).new hD,?_⟩⟩
         rw[hfil]
         rfl
       obtain⟨p1,rfl⟩:=p
       rw[List.take_of_length_le (Nat.le_refl _)]at hDy
       refine⟨(by show 0<=sizeLine;decide),fun l hl=>?_⟩
       have sl:Same H' (upd H' l (.lst [])):=Same.fresh _ hl
       have hl1:upd H' l (.lst []) l=some (.lst []):=upd_same
       have hD1:=sl _ _ hDy
       have s2:=(s1.trans p1).trans sl
       generalize upd H' l (.lst [])=H2 at *
       refine⟨D,l,_,rfl,rfl,hD1,hl1,_,rfl,?_⟩
       have hall:ks.all (kindB H)=(ks.filter fun x=>!kindB H x).isEmpty:=by
        rw[Bool.eq_iff_iff,List.all_eq_true,List.isEmpty_iff,List.filter_eq_nil_iff]
        constructor
        .intro h x hx
         rw[h x hx];simp
        .intro h x hx
         have:=h x hx
         simpa using this
       rw[<-hall]
       cases hA:ks.all (kindB H)with
       | false=>
        refine iteT ?_
        refine q false H2 s2 (no_iff (no (.inr (.inl fun⟨b',ys,zs,e,hb',_,_,h3,_⟩=>?_))))
        cases e
        rw[hb]at hb'
        cases hb'
        rw[List.all_eq_true.mpr fun x hx=>kindB_iff.mpr (h3 x hx)]at hA
        cases hA
       | true=>
        refine iteF ?_
        have hk:∀x∈ks,KindP H x:=fun x hx=>kindB_iff.mp (List.all_eq_true.mp hA x hx)
        obtain⟨zs,hn⟩:=kind_names hk
        have hzl:=hn.1
        refine⟨_,rfl,a,_,_,_,rfl,rfl,SqT.of (s2 _ _ ha),rfl,b,rfl,⟨_,SqT.of (s2 _ _ hb)⟩,fun D2 hD2=>?_⟩
        refine names_comp (s2 _ _ hb) (hn.same s2) k60 hD2 fun H3 s3 hD2=>?_
        have s13:=s2.trans s3
        refine⟨_,rfl,D2,zs,rfl,hD2,by omega,fun m nd mem le=>?_⟩
        refine⟨_,rfl,D2,_,rfl,.inl (SqL.of hD2),rfl,?_⟩
        have iff:KindsP H (.ref b)↔zs.Nodup:=by
         constructor
         .rintro⟨b',ys,zs',e,hb',_,_,_,h4,h5⟩
          cases e
          rw[hb]at hb'
          cases hb'
          rw[hn.uniq h4]
          exact h5
         .intro h
          exact⟨b,ks,zs,rfl,hb,by omega,by omega,hk,hn,h⟩
        rw[List.length_map]
        refine⟨_,rfl,?_⟩
        refine ite2 (fun ce=>?_) (fun ce=>?_)
        .have ce':=of_decide_eq_true ce
         injection ce' with ce'
         have hnd:zs.Nodup:=nodup_all' nd (fun x hx=>(mem x).mp hx) (by omega)
         refine⟨_,rfl,a,_,_,_,rfl,rfl,SqT.of (s13 _ _ ha),rfl,p,rfl,kP.same s13,fun b3 H4 s4 hb3=>?_⟩
         rw[pairs_same s13 kP]at hb3
         refine q b3 H4 (s13.trans s4) ?_
         rw[hb3]
         exact⟨fun h=>⟨a,fl,.ref b,p,rfl,ha,(floP_iff hT).mp e1,iff.mpr hnd,h⟩,fun hk=>by
          obtain⟨a',f',k',p',e,ha',_,_,h⟩:=hk
          cases e
          rw[ha]at ha'
          cases ha'
          exact h⟩
        .refine q false _ s13 (no_iff (no (.inr (.inl fun h=>ce ?_))))
         have:=nodup_len (iff.mp h) nd mem
         rw[this]
         exact decide_eq_true rfl
      .refine⟨false,rfl,iteT ?_⟩
       have c1':¬(1:Int)<=(ks.length:Int):=by simpa using c1
       exact q false H1 s1 (no_iff (no (.inr (.inl (noK fun h _=>by omega)))))
     .rcases kn_tupP (K:=K) (kK.kn.same s1)with ⟨b,ks,rfl,hb⟩|⟨⟨t',ty',kt'⟩,_,_⟩
      .exact(hno b ks rfl (kn_back s1 kK.kn hb)).elim
      .exact⟨_,rfl,a,_,_,_,rfl,rfl,SqT.of ha1,rfl,k,"tuple",t',false,rfl,ty',kt',false,rfl,iteT (iteT (q false H1 s1 (no_iff (no (.inr (.inl fun⟨b',ys,zs,e,hb',_⟩=>hno b' ys e hb'))))))⟩
  .refine ite2 (fun _=>?_) (fun h=>absurd (show(!decide (V.int ((xs.length:Nat):Int)=V.int ((3:Nat):Int)))=true by rw[len_ne h3];rfl) h)
   refine iteT (q false H (Same.refl H) (no_iff fun hk=>?_))
   obtain⟨a',f',k',p',e,ha',_⟩:=hk
   cases e
   rw[ha]at ha'
   cases ha'
   exact h3 rfl
 .refine⟨_,rfl,v,"tuple",t,false,rfl,ty,kt,false,rfl,iteT ?_⟩
  refine iteT (q false H (Same.refl H) (no_iff fun hk=>?_))
  obtain⟨a',f',k',p',e,ha',_⟩:=hk
  exact hno a' _ e ha'
end
noncomputable def Lk(H H':Hp):Prop:=∀b o,H b=some o->H' b=some o\/∃xs ys,o=.lst xs/\H' b=some (.lst ys)
theorem Lk.tup{H H':Hp}(l:Lk H H'){b:Addr}{xs:List V}(h:H b=some (.tup xs)):H' b=some (.tup xs):=by
 rcases l b _ h with h|⟨_,_,e,_⟩
 .exact h
 .cases e
theorem Lk.dK{H H':Hp}(l:Lk H H'){b:Addr}(h:H b=some (.dK [])):H' b=some (.dK []):=by
 rcases l b _ h with h|⟨_,_,e,_⟩
 .exact h
 .cases e
theorem Lk.lst{H H':Hp}(l:Lk H H'){b:Addr}{xs:List V}(h:H b=some (.lst xs)):∃ys,H' b=some (.lst ys):=by
 rcases l b _ h with h|⟨_,ys,_,h⟩
 .exact⟨xs,h⟩
 .exact⟨ys,h⟩
theorem Lk.of_same{H H':Hp}(s:Same H H'):Lk H H':=fun b o h=>.inl (s b o h)
theorem Lk.of_ex{H H':Hp}{st:Addr}{n n':List V}(e:Ex [st] H H')(h:H st=some (.lst n))(h':H' st=some (.lst n')):Lk H H':=fun b o hb=>by
 by_cases q:b=st
 .subst q
  rw[h]at hb
  cases hb
  exact .inr ⟨n,n',rfl,h'⟩
 .exact .inl (e.at q hb)
theorem Kn.lk{H H':Hp}{v:V}(l:Lk H H')(h:Kn H v):Kn H' v:=by
 rcases h with rfl|⟨b,rfl⟩|⟨i,rfl⟩|⟨z,rfl,hz⟩|⟨a,rfl,⟨ys,h⟩|⟨ys,h⟩|h⟩
 .exact .inl rfl
 .exact .inr (.inl ⟨b,rfl⟩)
 .exact .inr (.inr (.inl ⟨i,rfl⟩))
 .exact .inr (.inr (.inr (.inl ⟨z,rfl,hz⟩)))
 .exact .inr (.inr (.inr (.inr ⟨a,rfl,.inl (l.lst h)⟩)))
 .exact .inr (.inr (.inr (.inr ⟨a,rfl,.inr (.inl ⟨ys,l.tup h⟩)⟩)))
 .exact .inr (.inr (.inr (.inr ⟨a,rfl,.inr (.inr (l.dK h))⟩)))
theorem kn_backL{H H':Hp}{a:Addr}{xs:List V}(l:Lk H H')(h:Kn H (.ref a))(e:H' a=some (.tup xs)):H a=some (.tup xs):=by
 rcases h with h|⟨b,h⟩|⟨i,h⟩|⟨z,h,hz⟩|⟨b,h,⟨ys,hb⟩|⟨ys,hb⟩|hb⟩<;>try (cases h)
 .obtain⟨zs,hz⟩:=l.lst hb
  rw[hz]at e;cases e
 .rw[l.tup hb]at e;cases e;exact hb
 .rw[l.dK hb]at e;cases e
theorem KnN.lk{H H':Hp}(l:Lk H H'):∀{n:Nat} {v:V},KnN n H v->KnN n H' v
 | 0,v,h=>Kn.lk l h
 | n+1,v,h=>⟨h.1.lk l,fun a xs e ha=>by
  subst e
  obtain⟨h1,h2⟩:=h.2 a xs rfl (kn_backL l h.1 ha)
  exact⟨h1,fun x hx=>KnN.lk l (h2 x hx)⟩⟩
theorem kn_str0{n:Nat}{H:Hp}{z:Str}(h:Tx z):KnN n H (.str z):=by
 cases n with
 | zero=>exact .inr (.inr (.inr (.inl ⟨z,rfl,h⟩)))
 | succ n=>exact⟨.inr (.inr (.inr (.inl ⟨z,rfl,h⟩))),fun a xs e=>by cases e⟩
theorem kn_int0{n:Nat}{H:Hp}(i:Int):KnN n H (.int i):=by
 cases n with
 | zero=>exact .inr (.inr (.inl ⟨i,rfl⟩))
 | succ n=>exact⟨.inr (.inr (.inl ⟨i,rfl⟩)),fun a xs e=>by cases e⟩
theorem kn_bl0{n:Nat}{H:Hp}(b:Bool):KnN n H (.bl b):=by
 cases n with
 | zero=>exact .inr (.inl ⟨b,rfl⟩)
 | succ n=>exact⟨.inr (.inl ⟨b,rfl⟩),fun a xs e=>by cases e⟩
theorem kn_non0{n:Nat}{H:Hp}:KnN n H .non:=by
 cases n with
 | zero=>exact .inl rfl
 | succ n=>exact⟨.inl rfl,fun a xs e=>by cases e⟩
theorem kn_tup0{n:Nat}{H:Hp}{a:Addr}{xs:List V}(ha:H a=some (.tup xs))(hl:xs.length<=60)(h:∀x∈xs,KnN n H x):KnN (n+1) H (.ref a):=
 ⟨.inr (.inr (.inr (.inr ⟨a,rfl,.inr (.inl ⟨xs,ha⟩)⟩))),fun b ys e hb=>by
  cases e
  rw[ha]at hb
  cases hb
  exact⟨hl,h⟩⟩
theorem kn_lst0{n:Nat}{H:Hp}{a:Addr}{xs:List V}(ha:H a=some (.lst xs)):KnN n H (.ref a):=by
 cases n with
 | zero=>exact .inr (.inr (.inr (.inr ⟨a,rfl,.inl ⟨xs,ha⟩⟩)))
 | succ n=>exact⟨.inr (.inr (.inr (.inr ⟨a,rfl,.inl ⟨xs,ha⟩⟩))),fun b ys e hb=>by cases e;rw[ha]at hb;cases hb⟩
theorem kn_dK0{n:Nat}{H:Hp}{a:Addr}(ha:H a=some (.dK [])):KnN n H (.ref a):=by
 cases n with
 | zero=>exact .inr (.inr (.inr (.inr ⟨a,rfl,.inr (.inr ha)⟩)))
 | succ n=>exact⟨.inr (.inr (.inr (.inr ⟨a,rfl,.inr (.inr ha)⟩))),fun b ys e hb=>by cases e;rw[ha]at hb;cases hb⟩
noncomputable def KindW(H:Hp)(x:V):Prop:=∃(b:Addr) (z:Str) (l:Int) (m:V) (mo:Str) (fm:Addr) (fx:List V),x=.ref b/\H b=some (.tup [.str z,.int l,m,.str mo,.ref fm])/\Tx z/\z.length<=8/\(m=.non\/∃j,m=.int j)/\Tx mo/\H fm=some (.tup fx)/\0<fx.length/\fx.length<=6/\∀y∈fx,KnN 2 H y/\∃c,y=.ref c
theorem KindW.lk{H H':Hp}{x:V}(l:Lk H H')(h:KindW H x):KindW H' x:=by
 obtain⟨b,z,i,m,mo,fm,fx,e,hb,h1,h2,h3,h4,hf,h5,h6,h7⟩:=h
 exact⟨b,z,i,m,mo,fm,fx,e,l.tup hb,h1,h2,h3,h4,l.tup hf,h5,h6,fun y hy=>⟨(h7 y hy).1.lk l,(h7 y hy).2⟩⟩
theorem KindW.kn{H:Hp}{x:V}(h:KindW H x):KnN 3 H x:=by
 obtain⟨b,z,i,m,mo,fm,fx,rfl,hb,h1,h2,h3,h4,hf,h5,h6,h7⟩:=h
 refine kn_tup0 hb (by show 5<=60;omega) fun y hy=>?_
 simp only[List.mem_cons,List.not_mem_nil,or_false]at hy
 rcases hy with rfl|rfl|rfl|rfl|rfl
 .exact kn_str0 h1
 .exact kn_int0 i
 .rcases h3 with rfl|⟨j,rfl⟩
  .exact kn_non0
  .exact kn_int0 j
 .exact kn_str0 h4
 .exact kn_tup0 hf (by omega) fun y hy=>(h7 y hy).1.down
theorem spot_kn{H:Hp}:∀{ds:List PyData} {xs:List V},RepAll H ds xs->(∀d∈ds,SgD d)->∀y∈xs,KnN 2 H y/\∃c,y=.ref c
 | [],xs,r,_,y,hy=>by cases (show xs=[]from r);cases hy
 | d::ds,xs,r,h,y,hy=>by
  obtain⟨x,ys,rfl,r1,r2⟩:=r
  rcases List.mem_cons.mp hy with rfl|hy
  .obtain⟨p,q,k,rfl,k1,k2⟩:=h d List.mem_cons_self
   obtain⟨a,xs,rfl,ha,v1,_,rfl,e1,v2,_,rfl,e2,v3,_,rfl,⟨e3,_⟩,e⟩:=r1
   cases (show v1=.int p from e1);cases (show v2=.int q from e2);cases e3;cases e
   refine⟨kn_tup0 ha (by show 3<=60;omega) fun z hz=>?_,_,rfl⟩
   simp only[List.mem_cons,List.not_mem_nil,or_false]at hz
   rcases hz with rfl|rfl|rfl
   .exact kn_int0 p
   .exact kn_int0 q
   .exact kn_str0 (tx1 (by omega))
  .exact spot_kn r2 (fun e he=>h e (List.mem_cons_of_mem _ he)) y hy
section
variable{P:Program}{w:World}{K:PySem.W.Frag}{mg:Str->Option Value}{base:Heap}{f:Addr}{fd:FuncData}
noncomputable def Rw(zs:List Str):Prop:=0<zs.length/\zs.length<=8/\∀z∈zs,Tx z/\0<z.length/\z.length<=8
noncomputable def spFloor:Sp:=fun vs H Q _=>∃(st:Addr) (n:List V) (sg:Str),vs=[.ref st,.int 8,.str sg]/\H st=some (.lst n)/\StL n/\Tx sg/\0<sg.length/\
 ∀(p:Addr) (zs:List Str) (H':Hp) (n':List V),H p=none->Ex [st] H H'->H' st=some (.lst n')->StL n'->H' p=some (.tup (zs.map V.str))->Rw zs->Q (.ref p) H'
theorem scFloor:FnScope ["_law_state_here","_law_most","_law_signs_here","_law_high","_law_wide","_law_rows","_law_row"] ["_law_state_here","_law_most","_law_signs_here"] (defScope sFloor):=⟨rfl,rfl,rfl,by decide +kernel,rfl,by decide +kernel,by decide +kernel⟩
theorem ok_floor(B:∀x∈blts,mg x=none)(Fnext:FnNext P w K mg base)(F:Fun K "_law_floor" "_law_floor" sFloor f fd):FnOk P w K mg base CX0 2 f fd ["_law_state_here","_law_most","_law_signs_here"] spFloor:=by
 refine F.ok (k:=1) scFloor (fun vs H Q E h=>?_) (fun cdv A outer s H vs Q E hr h=>?_)
 .obtain⟨st,n,sg,rfl,_⟩:=h
  rfl
 obtain⟨st,n,sg,rfl,hst,hn,hsg,hsg0,q⟩:=h
 refine⟨_,(pss_cons (ps_set (i:=3) scFloor.nd rfl (Or.inl rfl) (pe_op op_add pe_int (pe_fn Fnext hr (by decide) rfl (pa_c (pv 0) (pa_c (pv 1) pa_nil)))))
  (pss_cons (ps_set (i:=4) scFloor.nd rfl (Or.inl rfl) (pe_op op_add pe_int (pe_fn Fnext hr (by decide) rfl (pa_c (pv 0) (pa_c (pv 1) pa_nil)))))
  (pss_cons (ps_set (i:=5) scFloor.nd rfl (Or.inl rfl) (pe_lst pa_nil))
  (pss_cons (ps_for PassesOwn.never rfl (pi_r1 rfl (B "range" (by decide)) (pa_c (pv 3) pa_nil)) (pg_name (i:=6) scFloor.nd rfl (Or.inl rfl)) (pss_one (ps_expr (pe_bm PySem.F.plainAttrs_list PySem.F.slot_list_append PySem.F.type_list_append mt_append (pv 5) (pa_c (pe_bm PySem.F.plainAttrs_str PySem.F.slot_str_join PySem.F.type_str_join mt_join pe_str (pa_c (pe_comp ["_law_column","_law_signs_here","_law_state_here"] [none,some 2,some 0] rfl rfl (by decide +kernel) (by decide +kernel) rfl rfl (pi_r1 rfl (B "range" (by decide)) (pa_c (pv 4) pa_nil)) (fun _=>(pg_name (i:=0) (show(["_law_column","_law_signs_here","_law_state_here"]:List PySem.Str).Nodup by decide +kernel) rfl (Or.inl rfl))) (fun _=>pts_nil) (fun _=>(pe_ix ix_str (pv 1) (pe_fn Fnext hr (by decide) rfl (pa_c (pv 2) (pa_c (pe_cB call_len_str rfl (B "len" (by decide)) PySem.boot_len (pa_c (pv 1) pa_nil)) pa_nil))) (fun _ _=>rfl)))) pa_nil)) pa_nil)))))
  (pss_one (ps_ret (pe_cT call_tuple_of rfl (B "tuple" (by decide)) boot_tuple (pa_c (pv 5) pa_nil)))))))),?_⟩
 refine⟨_,rfl,_,rfl,st,n,8,rfl,hst,hn,by decide,by decide,fun n1 i1 hn1 h10 h11=>⟨_,_,rfl,rfl,?_⟩⟩
 have st1:upd H st (.lst n1) st=some (.lst n1):=upd_same
 have ex1:Ex [st] H (upd H st (.lst n1)):=Ex.upd (by simp)
 generalize upd H st (.lst n1)=H1 at *
 refine⟨_,rfl,_,rfl,st,n1,8,rfl,st1,hn1,by decide,by decide,fun n2 i2 hn2 h20 h21=>⟨_,_,rfl,rfl,?_⟩⟩
 have st2:upd H1 st (.lst n2) st=some (.lst n2):=upd_same
 have ex2:Ex [st] H (upd H1 st (.lst n2)):=ex1.trans (Ex.upd (by simp))
 generalize upd H1 st (.lst n2)=H2 at *
 refine⟨(by show 0<=sizeLine;decide),fun r hr0=>?_⟩
 have nr:r≠st:=fun e=>by rw[e,st2]at hr0;cases hr0
 have hrH:H r=none:=by
  cases z:H r with
  | none=>rfl
  | some o=>have z':=ex2 r o (by simpa using nr) z;rw[z']at hr0;cases hr0
 have st3:upd H2 r (.lst []) st=some (.lst n2):=by rw[upd_ne (Ne.symm nr)];exact st2
 have r3:upd H2 r (.lst []) r=some (.lst []):=upd_same
 have ex3:Ex [st] H (upd H2 r (.lst [])):=ex2.trans (Ex.fresh hr0)
 generalize upd H2 r (.lst [])=H3 at *
 obtain⟨hi,rfl⟩:∃hi:Nat,i1=hi:=Int.eq_ofNat_of_zero_le h10
 obtain⟨wi,rfl⟩:∃wi:Nat,i2=wi:=Int.eq_ofNat_of_zero_le h20
 refine⟨_,rfl,_,rfl,?_,?_,?_⟩
 .omega
 .omega
 refine for_range (lo:=0) (fun i σ' H'=>∃(y6:Option V) (n:List V) (zs:List Str),σ'=[some (.ref st),some (.int 8),some (.str sg),some (.int (1+hi)),some (.int (1+wi)),some (.ref r),y6]/\Ex [st,r] H H'/\H' st=some (.lst n)/\StL n/\H' r=some (.lst (zs.map V.str))/\zs.length=i/\∀z∈zs,Tx z/\0<z.length/\z.length<=8) ?_ (fun i σ' H' hi' h=>?_) (fun σ' H' h=>?_)
 .exact⟨_,n2,[],rfl,fun b o hb h0=>ex3 b o (fun z=>hb (by simp[List.mem_singleton.mp z])) h0,st3,hn2,r3,rfl,fun z hz=>by cases hz⟩
 .obtain⟨y6,n4,zs,rfl,ex4,st4,hn4,r4,hl4,hz4⟩:=h
  refine⟨_,rfl,.inl ⟨rfl,_,SqL.of r4⟩,rfl,?_⟩
  refine⟨_,rfl,_,rfl,?_,?_,?_⟩
  .omega
  .omega
  intro D hD
  have nD:D≠st:=fun e=>by rw[e,st4]at hD;cases hD
  have nDr:D≠r:=fun e=>by rw[e,r4]at hD;cases hD
  refine comp_range (lo:=0) (fun j ys H5=>∃(n5:List V) (ws:List Str),Ex [st,D] H' H5/\H5 st=some (.lst n5)/\StL n5/\ys=ws.map V.str/\ws.length=j/\∀w∈ws,w.length=1/\Tx w) ?_ (fun j ys H5 hj hDy hyl p=>?_) (fun ys H5 hDy hyl p=>?_)
  .exact⟨n4,[],Ex.fresh hD,by rw[upd_ne (Ne.symm nD)];exact st4,hn4,rfl,rfl,fun w hw=>by cases hw⟩
  .obtain⟨n5,ws,ex5,st5,hn5,rfl,hl5,hw5⟩:=p
   refine⟨Agree.set (Agree.refl _) rfl,?_⟩
   dsimp only[tYes]
   refine iteT ?_
   refine⟨_,rfl,_,rfl,_,rfl,sg,rfl,tx_line hsg,st,n5,_,rfl,st5,hn5,by omega,by have:=hsg.1;omega,fun n6 i6 hn6 h60 h61=>?_⟩
   obtain⟨j6,rfl⟩:=Int.eq_ofNat_of_zero_le h60
   have hj6:j6<sg.cps.toList.length:=by
    have:=lenL sg
    omega
   refine⟨sg,_,sg.cps.toList[j6],rfl,rfl,tx_line hsg,atI_nat (List.getElem?_eq_getElem hj6),?_⟩
   refine nx_put (by omega) (by rw[upd_ne nD];exact hDy) hyl ⟨n6,ws++[⟨#[sg.cps.toList[j6]]⟩],(ex5.trans (Ex.upd (by simp))).trans (Ex.upd (by simp)),?_,hn6,by rw[List.map_append];rfl,by simp[hl5],fun w hw=>?_⟩
   .rw[upd_ne (Ne.symm nD)];exact upd_same
   .rcases List.mem_append.mp hw with h|h
    .exact hw5 w h
    .rw[List.mem_singleton.mp h]
     refine⟨rfl,by show 1<=80;omega,fun c hc=>?_⟩
     have e:c=sg.cps.toList[j6]:=by simpa using hc
     rw[e]
     exact hsg.2 _ (List.getElem_mem hj6)
  .obtain⟨n5,ws,ex5,st5,hn5,rfl,hl5,hw5⟩:=p
   have hsum:=PySem.StrLaws.sumLen_le (B:=1) ws fun y hy=>Nat.le_of_eq (hw5 y hy).1
   obtain⟨tj,lj⟩:=Tx.join (g:=Str.ofString "") (by decide +kernel) (fun y hy=>(hw5 y hy).1) (fun y hy=>(hw5 y hy).2) (by omega)
   have e0:(Str.ofString "").length=0:=by decide +kernel
   refine⟨_,D,ws,rfl,rfl,hDy,by rw[e0];omega,?_⟩
   have r5:H5 r=some (.lst (zs.map V.str)):=ex5 _ _ (by simp[nr,Ne.symm nDr]) r4
   refine⟨r,zs.map V.str,_,rfl,rfl,r5,small1000 (by rw[List.length_map];omega),?_⟩
   refine⟨_,n5,zs++[Txt.join (Str.ofString "") ws],rfl,?_,?_,hn5,?_,by simp[hl4],fun z hz=>?_⟩
   .intro b o hb h0
    have h1:=ex4 b o hb h0
    have nb:b≠D:=fun e=>by rw[e,hD]at h1;cases h1
    have hb':b≠st/\b≠r:=by simpa using hb
    have h2:=ex5 b o (by simp[hb'.1,nb]) h1
    rw[upd_ne hb'.2]
    exact h2
   .rw[upd_ne (Ne.symm nr)];exact st5
   .rw[List.map_append];exact upd_same
   .rcases List.mem_append.mp hz with h|h
    .exact hz4 z h
    .rw[List.mem_singleton.mp h]
     exact⟨tj,by omega,by omega⟩
 .obtain⟨y6,n4,zs,rfl,ex4,st4,hn4,r4,hl4,hz4⟩:=h
  refine⟨_,rfl,r,zs.map V.str,rfl,.inl ⟨SqL.of r4,fun p hp=>?_⟩⟩
  have np:p≠st:=fun e=>by rw[e,st4]at hp;cases hp
  have npr:p≠r:=fun e=>by rw[e,r4]at hp;cases hp
  refine q p zs _ n4 ?_ ?_ ?_ hn4 upd_same ⟨by omega,by omega,hz4⟩
  .cases z:H p with
   | none=>rfl
   | some o=>have z':=ex4 p o (by simp[np,npr]) z;rw[z']at hp;cases hp
  .intro b o hb h0
   have nb:b≠r:=fun e=>by rw[e,hrH]at h0;cases h0
   have nbs:b≠st:=by simpa using hb
   have h1:=ex4 b o (by simp[nb,nbs]) h0
   rw[upd_ne (ne_of_none h1 hp)]
   exact h1
  .rw[upd_ne (Ne.symm np)];exact st4
end
theorem txL{z:Str}(h:z.length<=80/\z.cps.toList.all (· < 128)=true):Tx z:=⟨h.1,fun c hc=>by simpa using List.all_eq_true.mp h.2 c hc⟩
theorem ne_st{H:Hp}{st p:Addr}{o:HO}(hst:H st=some o)(hp:H p=none):p≠st:=fun e=>by rw[e,hst]at hp;cases hp
theorem laid_draw{H:Hp}{st p:Addr}{n n':List V}{o:HO}(hst:H st=some (.lst n))(hp:H p=none) :
  (upd (upd H p o) st (.lst n')) p=some o/\Ex [st] H (upd (upd H p o) st (.lst n'))/\(upd (upd H p o) st (.lst n')) st=some (.lst n'):=
 ⟨by rw[upd_ne (ne_st hst hp)];exact upd_same,(Ex.fresh hp).trans (Ex.upd (by simp)),upd_same⟩
theorem laid_st{H:Hp}{st p:Addr}{n:List V}{o:HO}(hst:H st=some (.lst n))(hp:H p=none):upd H p o st=some (.lst n):=by
 rw[upd_ne (Ne.symm (ne_st hst hp))];exact hst
section
variable{P:Program}{w:World}{K:PySem.W.Frag}{mg:Str->Option Value}{base:Heap}{f:Addr}{fd:FuncData}
noncomputable def spLkind:Sp:=fun vs H Q _=>∃(st:Addr) (n:List V) (z:Str),vs=[.ref st,.str z,.int 6]/\H st=some (.lst n)/\StL n/\Tx z/\z.length<=8/\∀(p:Addr) (H':Hp) (n':List V),Ex [st] H H'->H' st=some (.lst n')->StL n'->KindW H' (.ref p)->Q (.ref p) H'
theorem scLkind:FnScope ["_law_state_here","_law_name","_law_most","_law_form","_law_least","_law_top"] ["_law_state_here","_law_name","_law_most"] (defScope sLkind):=⟨rfl,rfl,rfl,by decide +kernel,rfl,by decide +kernel,by decide +kernel⟩
theorem ok_lkind(B:∀x∈blts,mg x=none)(Fnext:FnNext P w K mg base)(Fform:Fn P w K mg base "_law_drawn_form" 3 ["_law_state_here","_law_most"] spForm2)
  (F:Fun K "_law_kind" "_law_kind" sLkind f fd):FnOk P w K mg base CX0 4 f fd ["_law_state_here","_law_name","_law_most"] spLkind:=by
 refine F.ok (k:=3) scLkind (fun vs H Q E h=>?_) (fun cdv A outer s H vs Q E hr h=>?_)
 .obtain⟨st,n,z,rfl,_⟩:=h
  rfl
 obtain⟨st,n,z,rfl,hst,hn,hz,hz8,q⟩:=h
 refine⟨_,(pss_cons (ps_set (i:=3) scLkind.nd rfl (Or.inl rfl) (pe_fn Fform hr (by decide) rfl (pa_c (pv 0) (pa_c (pv 2) pa_nil))))
  (pss_cons (ps_set (i:=4) scLkind.nd rfl (Or.inl rfl) (pe_ix ix_list (pe_lst (pa_c pe_int (pa_c pe_int (pa_c pe_int (pa_c pe_int (pa_c pe_int pa_nil)))))) (pe_fn Fnext hr (by decide) rfl (pa_c (pv 0) (pa_c pe_int pa_nil))) (fun _ _=>rfl)))
  (pss_cons (ps_set (i:=5) scLkind.nd rfl (Or.inl rfl) (pe_ix ix_list (pe_lst (pa_c pe_non (pa_c (pv 4) (pa_c (pe_cB (call_min2 rfl) rfl (B "min" (by decide)) boot_min (pa_c pe_int (pa_c (pe_op op_add (pv 4) (pe_fn Fnext hr (by decide) rfl (pa_c (pv 0) (pa_c pe_int pa_nil)))) pa_nil))) (pa_c pe_int pa_nil))))) (pe_fn Fnext hr (by decide) rfl (pa_c (pv 0) (pa_c pe_int pa_nil))) (fun _ _=>rfl)))
  (pss_one (ps_ret (pe_tup (pa_c (pv 1) (pa_c (pv 4) (pa_c (pv 5) (pa_c (pe_ix ix_list (pe_lst (pa_c pe_str (pa_c pe_str (pa_c pe_str pa_nil)))) (pe_fn Fnext hr (by decide) rfl (pa_c (pv 0) (pa_c pe_int pa_nil))) (fun _ _=>rfl)) (pa_c (pv 3) pa_nil))))))))))),?_⟩
 refine⟨_,rfl,_,rfl,st,n,rfl,hst,hn,fun r H1 n1 xs ds ex1 st1 hn1 hr1 rep1 hds h1 h6=>?_⟩
 have hlen:=rep1.length
 have kx0:=spot_kn rep1 fun d hd=>(hds d hd).1
 have kr:∀y∈xs,∃c,y=.ref c:=fun y hy=>(kx0 y hy).2
 have kx:∀y∈xs,KnN 2 H1 y:=fun y hy=>(kx0 y hy).1
 refine⟨(by show 5<=sizeLine;decide),fun p hp=>?_⟩
 refine⟨_,rfl,st,n1,5,rfl,laid_st st1 hp,hn1,by decide,by decide,fun n2 i2 hn2 h20 h25=>?_⟩
 obtain⟨x,hx,hm⟩:=pick (α:=V) (xs:=[V.int 0,V.int 0,V.int 1,V.int 2,V.int 64]) h20 h25
 have hs:∃l,x=.int l/\0<=l/\l<=64:=by
  simp only[List.mem_cons,List.not_mem_nil,or_false]at hm
  rcases hm with rfl|rfl|rfl|rfl|rfl<;>exact⟨_,rfl,by decide,by decide⟩
 obtain⟨l,rfl,l0,l64⟩:=hs
 obtain⟨hp2,ex2,st2⟩:=laid_draw (o:=.lst [V.int 0,V.int 0,V.int 1,V.int 2,V.int 64]) (n':=n2) st1 hp
 refine⟨p,_,i2,_,rfl,rfl,SqL.of hp2,hx,?_⟩
 have ex12:=ex1.trans ex2
 have hr2:=(Lk.of_ex ex2 st1 st2).tup hr1
 have kx2:∀y∈xs,KnN 2 _ y:=fun y hy=>(kx y hy).lk (Lk.of_ex ex2 st1 st2)
 generalize upd (upd H1 p _) st _=H2 at *
 refine⟨_,rfl,_,rfl,_,rfl,st,n2,9,rfl,st2,hn2,by decide,by decide,fun n3 i3 hn3 h30 h39=>⟨_,_,rfl,rfl,_,_,rfl,(by show 4<=sizeLine;decide),fun p3 hp3=>?_⟩⟩
 have st3:upd H2 st (.lst n3) st=some (.lst n3):=upd_same
 have ex3:Ex [st] H2 (upd H2 st (.lst n3)):=Ex.upd (by simp)
 have ex13:=ex12.trans ex3
 have l3:=Lk.of_ex ex3 st2 st3
 have hr3:=l3.tup hr2
 have kx3:∀y∈xs,KnN 2 _ y:=fun y hy=>(kx2 y hy).lk l3
 generalize upd H2 st _=H3 at *
 refine⟨_,rfl,st,n3,4,rfl,laid_st st3 hp3,hn3,by decide,by decide,fun n4 i4 hn4 h40 h44=>?_⟩
 obtain⟨m,hm4,hmm⟩:=pick (α:=V) (xs:=[V.non,V.int l,V.int (if l+i3<64 then l+i3 else 64),V.int 64]) h40 h44
 have hmt:m=.non\/∃j,m=.int j:=by
  simp only[List.mem_cons,List.not_mem_nil,or_false]at hmm
  rcases hmm with rfl|rfl|rfl|rfl
  .exact .inl rfl
  .exact .inr ⟨_,rfl⟩
  .exact .inr ⟨_,rfl⟩
  .exact .inr ⟨_,rfl⟩
 obtain⟨hp4,ex4,st4⟩:=laid_draw (o:=.lst [V.non,V.int l,V.int (if l+i3<64 then l+i3 else 64),V.int 64]) (n':=n4) st3 hp3
 refine⟨p3,_,i4,_,rfl,rfl,SqL.of hp4,hm4,?_⟩
 have ex14:=ex13.trans ex4
 have l4:=Lk.of_ex ex4 st3 st4
 have hr4:=l4.tup hr3
 have kx4:∀y∈xs,KnN 2 _ y:=fun y hy=>(kx3 y hy).lk l4
 generalize upd (upd H3 p3 _) st _=H4 at *
 refine⟨_,rfl,_,rfl,_,rfl,(by show 3<=sizeLine;decide),fun p5 hp5=>?_⟩
 refine⟨_,rfl,st,n4,3,rfl,laid_st st4 hp5,hn4,by decide,by decide,fun n5 i5 hn5 h50 h53=>?_⟩
 obtain⟨mo,hmo,hmom⟩:=pick (α:=V) (xs:=[V.str "still",V.str "turn",V.str "flip"]) h50 h53
 have hmos:∃y,mo=.str y/\Tx y:=by
  simp only[List.mem_cons,List.not_mem_nil,or_false]at hmom
  rcases hmom with rfl|rfl|rfl<;>exact⟨_,rfl,txL (by decide +kernel)⟩
 obtain⟨y,rfl,hy⟩:=hmos
 obtain⟨hp6,ex5,st5⟩:=laid_draw (o:=.lst [V.str "still",V.str "turn",V.str "flip"]) (n':=n5) st4 hp5
 refine⟨p5,_,i5,_,rfl,rfl,SqL.of hp6,hmo,?_⟩
 have ex15:=ex14.trans ex5
 have l5:=Lk.of_ex ex5 st4 st5
 have hr5:=l5.tup hr4
 have kx5:∀y∈xs,KnN 2 _ y:=fun y hy=>(kx4 y hy).lk l5
 generalize upd (upd H4 p5 _) st _=H5 at *
 refine⟨_,rfl,(by show 5<=sizeLine;decide),fun t ht=>?_⟩
 have s6:Same H5 (upd H5 t (.tup [.str z,.int l,m,.str y,.ref r])):=Same.fresh _ ht
 refine q t _ n5 (ex15.trans (Ex.of_same s6)) (s6 _ _ st5) hn5 ?_
 exact⟨t,z,l,m,y,r,xs,rfl,upd_same,hz,hz8,hmt,hy,s6 _ _ hr5,by omega,by omega,fun v hv=>⟨(kx5 v hv).same s6,kr v hv⟩⟩
end
noncomputable def PP(d:PyData):Prop:=∃x y:Str,d=.tuple [.str x,.str y]/\Tx x/\Tx y
theorem pp_imm:∀{ds:List PyData},(∀d∈ds,PP d)->immAll ds=true
 | [],_=>rfl
 | d::ds,h=>by
  obtain⟨x,y,rfl,_⟩:=h d List.mem_cons_self
  show(imm _&&immAll ds)=true
  rw[pp_imm fun e he=>h e (List.mem_cons_of_mem _ he)]
  rfl
theorem pp_rows{ds:List PyData}(h:∀d∈ds,PP d):RowsS [false] ds:=fun d hd=>by
 obtain⟨x,y,rfl,_⟩:=h d hd
 exact⟨_,rfl,_,_,rfl,_,_,rfl,rfl⟩
theorem pp_kn{H:Hp}:∀{ds:List PyData} {xs:List V},RepAll H ds xs->(∀d∈ds,PP d)->∀y∈xs,KnN 1 H y
 | [],xs,r,_,y,hy=>by cases (show xs=[]from r);cases hy
 | d::ds,xs,r,h,y,hy=>by
  obtain⟨x,ys,rfl,r1,r2⟩:=r
  rcases List.mem_cons.mp hy with rfl|hy
  .obtain⟨p,q,rfl,k1,k2⟩:=h d List.mem_cons_self
   obtain⟨a,xs,rfl,ha,v1,_,rfl,⟨e1,_⟩,v2,_,rfl,⟨e2,_⟩,e⟩:=r1
   cases e1;cases e2;cases e
   refine kn_tup0 ha (by show 2<=60;omega) fun z hz=>?_
   simp only[List.mem_cons,List.not_mem_nil,or_false]at hz
   rcases hz with rfl|rfl
   .exact kn_str0 k1
   .exact kn_str0 k2
  .exact pp_kn r2 (fun e he=>h e (List.mem_cons_of_mem _ he)) y hy
theorem pp_rep{H:Hp}{t:Addr}{x y:Str}(ht:H t=some (.tup [.str x,.str y]))(hx:Tx x)(hy:Tx y):Rep H (.tuple [.str x,.str y]) (.ref t):=
 ⟨t,_,rfl,ht,_,_,rfl,⟨rfl,hx.ok⟩,_,_,rfl,⟨rfl,hy.ok⟩,rfl⟩
section
variable{P:Program}{w:World}{K:PySem.W.Frag}{mg:Str->Option Value}{base:Heap}{f:Addr}{fd:FuncData}
noncomputable def spLnames:Sp:=fun vs H Q _=>∃(st:Addr) (n:List V),vs=[.ref st]/\H st=some (.lst n)/\StL n/\∀(p:Addr) (zs:List Str) (H':Hp) (n':List V),H p=none->Ex [st] H H'->H' st=some (.lst n')->StL n'->H' p=some (.lst (zs.map V.str))->zs.length=6->(∀z∈zs,Tx z/\z.length<=8)->Q (.ref p) H'
theorem scLnames:FnScope ["_law_state_here","_law_letters","_law_size","_law_base","_law_spot","_law_step","_law_names_here","_law_k","_law_word","_law_place","_law_shift"] ["_law_state_here"] (defScope sLnames):=⟨rfl,rfl,rfl,by decide +kernel,rfl,by decide +kernel,by decide +kernel⟩
theorem ok_lnames(B:∀x∈blts,mg x=none)(Fnext:FnNext P w K mg base)
  (F:Fun K "_law_names" "_law_names" sLnames f fd):FnOk P w K mg base CX0 2 f fd ["_law_state_here"] spLnames:=by
 refine F.ok (k:=1) scLnames (fun vs H Q E h=>?_) (fun cdv A outer s H vs Q E hr h=>?_)
 .obtain⟨st,n,rfl,_⟩:=h
  rfl
 obtain⟨st,n,rfl,hst,hn,q⟩:=h
 refine⟨_,(pss_cons (ps_set (i:=1) scLnames.nd rfl (Or.inl rfl) pe_str)
  (pss_cons (ps_set (i:=2) scLnames.nd rfl (Or.inl rfl) (pe_op op_add pe_int (pe_fn Fnext hr (by decide) rfl (pa_c (pv 0) (pa_c pe_int pa_nil)))))
  (pss_cons (ps_setC (i:=3) ["_law_k","_law_state_here"] [none,some 0] scLnames.nd rfl (Or.inl rfl) rfl rfl rfl (by decide +kernel) (by decide +kernel) rfl rfl (pi_r1 rfl (B "range" (by decide)) (pa_c (pv 2) pa_nil)) (fun _=>(pg_name (i:=0) (show(["_law_k","_law_state_here"]:List PySem.Str).Nodup by decide +kernel) rfl (Or.inl rfl))) (fun _=>pts_nil) (fun _=>(pe_fn Fnext hr (by decide) rfl (pa_c (pv 1) (pa_c pe_int pa_nil)))))
  (pss_cons (ps_set (i:=4) scLnames.nd rfl (Or.inl rfl) (pe_fn Fnext hr (by decide) rfl (pa_c (pv 0) (pa_c (pv 2) pa_nil))))
  (pss_cons (ps_set (i:=5) scLnames.nd rfl (Or.inl rfl) (pe_op op_add pe_int (pe_fn Fnext hr (by decide) rfl (pa_c (pv 0) (pa_c pe_int pa_nil)))))
  (pss_cons (ps_set (i:=6) scLnames.nd rfl (Or.inl rfl) (pe_lst pa_nil))
  (pss_cons (ps_for PassesOwn.never rfl (pi_r1 rfl (B "range" (by decide)) (pa_c pe_int pa_nil)) (pg_name (i:=7) scLnames.nd rfl (Or.inl rfl)) (pss_cons (ps_set (i:=8) scLnames.nd rfl (Or.inl rfl) pe_str)
  (pss_cons (ps_for PassesOwn.never rfl (pi_r1 rfl (B "range" (by decide)) (pa_c (pv 2) pa_nil)) (pg_name (i:=9) scLnames.nd rfl (Or.inl rfl)) (pss_cons (ps_set (i:=10) scLnames.nd rfl (Or.inl rfl) (pe_op op_mul (pe_op op_mul (pv 5) (pv 7)) (pe_cT call_int1 rfl (B "int" (by decide)) PyProof.Rows.boot_int (pa_c (pe_cmpR op_eq (pv 9) (pv 4) (nomark _)) pa_nil))))
  (pss_one (ps_set (i:=8) scLnames.nd rfl (Or.inl rfl) (pe_op op_add_str (pv 8) (pe_ix ix_str (pv 1) (pe_op op_mod (pe_op op_add (pe_ix ix_list (pv 3) (pv 9) (fun _ _=>rfl)) (pv 10)) pe_int) (fun _ _=>rfl)))))))
  (pss_one (ps_expr (pe_bm PySem.F.plainAttrs_list PySem.F.slot_list_append PySem.F.type_list_append mt_append (pv 6) (pa_c (pv 8) pa_nil)))))))
  (pss_cons (ps_if (pt_cmpR op_eq (pe_fn Fnext hr (by decide) rfl (pa_c (pv 0) (pa_c pe_int pa_nil))) pe_int (nomark _)) (pss_one (ps_setC (i:=6) ["_law_k"] [none] scLnames.nd rfl (Or.inl rfl) rfl rfl rfl (by decide +kernel) (by decide +kernel) rfl rfl (pi_r1 rfl (B "range" (by decide)) (pa_c pe_int pa_nil)) (fun _=>(pg_name (i:=0) (show(["_law_k"]:List PySem.Str).Nodup by decide +kernel) rfl (Or.inl rfl))) (fun _=>pts_nil) (fun _=>(pe_op op_mulS pe_str (pe_op op_add (pv 0) pe_int))))) pss_nil)
  (pss_one (ps_ret (pv 6))))))))))),?_⟩
 refine⟨_,rfl,st,n,8,rfl,hst,hn,by decide,by decide,fun n1 i1 hn1 h10 h18=>⟨_,_,rfl,rfl,?_⟩⟩
 have st1:upd H st (.lst n1) st=some (.lst n1):=upd_same
 have ex1:Ex [st] H (upd H st (.lst n1)):=Ex.upd (by simp)
 generalize upd H st (.lst n1)=H1 at *
 obtain⟨si,rfl⟩:∃si:Nat,i1=si:=Int.eq_ofNat_of_zero_le h10
 refine⟨_,rfl,_,rfl,by omega,by omega,?_⟩
 intro D hD
 have nD:=ne_st st1 hD
 refine comp_range (lo:=0) (fun j ys H5=>∃(n5:List V) (ks:List Int),Ex [st,D] H1 H5/\H5 st=some (.lst n5)/\StL n5/\ys=ks.map V.int/\ks.length=j) ?_ (fun j ys H5 hj hDy hyl p=>?_) (fun ys H5 hDy hyl p=>?_)
 .exact⟨n1,[],Ex.fresh hD,by rw[upd_ne (Ne.symm nD)];exact st1,hn1,rfl,rfl⟩
 .obtain⟨n5,ks,ex5,st5,hn5,rfl,hl5⟩:=p
  refine⟨Agree.set (Agree.refl _) rfl,?_⟩
  dsimp only[tYes]
  refine iteT ?_
  refine⟨_,rfl,st,n5,26,rfl,st5,hn5,by decide,by decide,fun n6 i6 hn6 h60 h61=>?_⟩
  refine nx_put (by omega) (by rw[upd_ne nD];exact hDy) hyl ⟨n6,ks++[i6],(ex5.trans (Ex.upd (by simp))).trans (Ex.upd (by simp)),?_,hn6,by rw[List.map_append];rfl,by simp[hl5]⟩
  rw[upd_ne (Ne.symm nD)];exact upd_same
 obtain⟨n5,ks,ex5,st5,hn5,rfl,hl5⟩:=p
 have ex15:Ex [st] H H5:=fun b o hb h0=>by
  have h1:=ex1 b o hb h0
  have nb:b≠D:=ne_of_none h1 hD
  have nbs:b≠st:=by simpa using hb
  exact ex5 b o (by simp[nb,nbs]) h1
 refine⟨_,rfl,_,rfl,st,n5,_,rfl,st5,hn5,by omega,by omega,fun n6 i6 hn6 h60 h61=>?_⟩
 have st6:upd H5 st (.lst n6) st=some (.lst n6):=upd_same
 have ex6:Ex [st] H (upd H5 st (.lst n6)):=ex15.trans (Ex.upd (by simp))
 have hD6:upd H5 st (.lst n6) D=some (.lst (ks.map V.int)):=by rw[upd_ne nD];exact hDy
 generalize upd H5 st (.lst n6)=H6 at *
 refine⟨_,rfl,st,n6,5,rfl,st6,hn6,by decide,by decide,fun n7 i7 hn7 h70 h71=>⟨_,_,rfl,rfl,?_⟩⟩
 have st7:upd H6 st (.lst n7) st=some (.lst n7):=upd_same
 have ex7:Ex [st] H (upd H6 st (.lst n7)):=ex6.trans (Ex.upd (by simp))
 have hD7:upd H6 st (.lst n7) D=some (.lst (ks.map V.int)):=by rw[upd_ne nD];exact hD6
 generalize upd H6 st (.lst n7)=H7 at *
 refine⟨(by show 0<=sizeLine;decide),fun r hr0=>?_⟩
 have nr:=ne_st st7 hr0
 have nrD:r≠D:=fun e=>by rw[e,hD7]at hr0;cases hr0
 have hrH:H r=none:=by
  cases z:H r with
  | none=>rfl
  | some o=>have z':=ex7 r o (by simpa using nr) z;rw[z']at hr0;cases hr0
 have st8:=laid_st (o:=.lst []) st7 hr0
 have r8:upd H7 r (.lst []) r=some (.lst []):=upd_same
 have hD8:upd H7 r (.lst []) D=some (.lst (ks.map V.int)):=by rw[upd_ne (Ne.symm nrD)];exact hD7
 have ex8:Ex [st] H (upd H7 r (.lst [])):=ex7.trans (Ex.fresh hr0)
 generalize upd H7 r (.lst [])=H8 at *
 refine⟨_,rfl,by decide,by decide,?_⟩
 refine for_range (lo:=0) (fun i σ' H'=>∃(y7 y8 y9 y10:Option V) (zs:List Str),σ'=[some (.ref st),some (.str (Str.ofString "abcdefghijklmnopqrstuvwxyz")),some (.int (1+si)),some (.ref D),some (.int i6),some (.int (1+i7)),some (.ref r),y7,y8,y9,y10]/\Ex [r] H8 H'/\H' r=some (.lst (zs.map V.str))/\zs.length=i/\∀z∈zs,Tx z/\z.length<=8) ?_ (fun i σ' H' hi' h=>?_) (fun σ' H' h=>?_)
 .exact⟨_,_,_,_,[],rfl,Ex.refl _ _,r8,rfl,fun z hz=>by cases hz⟩
 .obtain⟨y7,y8,y9,y10,zs,rfl,ex9,r9,hl9,hz9⟩:=h
  have hD9:=ex9.at (Ne.symm nrD) hD8
  refine⟨_,rfl,_,rfl,by omega,by omega,?_⟩
  refine for_range (lo:=0) (fun j σ' H2=>∃(y9 y10:Option V) (wd:Str),σ'=[some (.ref st),some (.str (Str.ofString "abcdefghijklmnopqrstuvwxyz")),some (.int (1+si)),some (.ref D),some (.int i6),some (.int (1+i7)),some (.ref r),some (.int (0+i)),some (.str wd),y9,y10]/\H2=H'/\Tx wd/\wd.length=j) ?_ (fun j σ' H2 hj h=>?_) (fun σ' H2 h=>?_)
  .exact⟨_,_,_,rfl,rfl,txL (by decide +kernel),by decide +kernel⟩
  .obtain⟨y9,y10,wd,rfl,rfl,twd,lwd⟩:=h
   have hj':j<ks.length:=by omega
   have hat:atI (ks.map V.int) (0+((j:Nat):Int))=some (.int ks[j]):=by
    rw[show(0+((j:Nat):Int))=((j:Nat):Int) by omega]
    exact atI_nat (by rw[List.getElem?_map,List.getElem?_eq_getElem hj'];rfl)
   refine⟨_,rfl,_,rfl,_,_,rfl,rfl,.inl ⟨by omega,by omega⟩,_,rfl,_,rfl,rfl,.inr ⟨_,rfl,_,_,rfl,rfl,.inr ⟨?_,?_⟩,?_⟩⟩
   .split<;>decide
   .split<;>decide
   obtain⟨c,hc,hcm⟩:=pick (α:=Nat) (xs:=(Str.ofString "abcdefghijklmnopqrstuvwxyz").cps.toList) (i:=(ks[j]+(1+i7)*(0+(i:Int))*(if decide (V.int (0+(j:Int))=V.int i6)=true then 1 else 0)) % 26) (Int.emod_nonneg _ (by decide)) (Int.lt_of_lt_of_le (Int.emod_lt_of_pos _ (by decide)) (by decide +kernel))
   have hc128:c<128:=by
    have:=(txL (z:=Str.ofString "abcdefghijklmnopqrstuvwxyz") (by decide +kernel)).2 c hcm
    exact this
   refine⟨_,rfl,_,rfl,_,rfl,_,rfl,D,_,_,_,rfl,rfl,SqL.of hD9,hat,_,rfl,_,_,rfl,rfl,_,_,rfl,rfl,(show(0:Int)<26 by decide),_,_,c,rfl,rfl,tx_line (txL (by decide +kernel)),hc,wd,_,rfl,rfl,?_,?_⟩
   .exact Nat.le_of_lt (small1000 (by rw[lwd];show j+1<=1000;omega))
   exact⟨_,_,wd++⟨#[c]⟩,rfl,rfl,Tx.cat twd (tx1 hc128) (by rw[lwd];show j+1<=80;omega),by rw[L3.len_cat,lwd];rfl⟩
  .obtain⟨y9,y10,wd,rfl,rfl,twd,lwd⟩:=h
   refine⟨_,rfl,.inl ⟨rfl,_,SqL.of r9⟩,_,rfl,r,zs.map V.str,_,rfl,rfl,r9,small1000 (by rw[List.length_map];omega),?_⟩
   refine⟨_,_,_,_,zs++[wd],rfl,ex9.trans (Ex.upd (by simp)),by rw[List.map_append];exact upd_same,by simp[hl9],fun z hz=>?_⟩
   rcases List.mem_append.mp hz with h|h
   .exact hz9 z h
   .rw[List.mem_singleton.mp h]
    exact⟨twd,by omega⟩
 .obtain⟨y7,y8,y9,y10,zs,rfl,ex9,r9,hl9,hz9⟩:=h
  have st9:=ex9.at (Ne.symm nr) st8
  refine⟨_,rfl,st,n7,4,rfl,st9,hn7,by decide,by decide,fun n10 i10 hn10 h100 h104=>⟨rfl,_,rfl,?_⟩⟩
  have st10:upd H' st (.lst n10) st=some (.lst n10):=upd_same
  have r10:upd H' st (.lst n10) r=some (.lst (zs.map V.str)):=by rw[upd_ne nr];exact r9
  have ex10:Ex [st] H (upd H' st (.lst n10)):=fun b o hb h0=>by
   have nb:b≠r:=ne_of_none h0 hrH
   have nbs:b≠st:=by simpa using hb
   rw[upd_ne nbs]
   exact ex9.at nb (ex8 b o hb h0)
  generalize upd H' st (.lst n10)=H10 at *
  refine ite2 (fun _=>?_) (fun _=>?_)
  .refine⟨_,rfl,by decide,by decide,fun D2 hD2=>?_⟩
   refine comp_range (lo:=0) (fun j ys H2=>Same H10 H2/\∃ws:List Str,ys=ws.map V.str/\ws.length=j/\∀w∈ws,Tx w/\w.length<=8) ⟨Same.fresh _ hD2,[],rfl,rfl,fun w hw=>by cases hw⟩ (fun j ys H2 hj hDy hyl p=>?_) (fun ys H2 hDy hyl p=>?_)
   .obtain⟨p1,ws,rfl,hwl,hws⟩:=p
    refine⟨Agree.set (Agree.refl _) rfl,?_⟩
    dsimp only[tYes]
    refine iteT ?_
    refine⟨_,rfl,_,_,rfl,rfl,_,_,rfl,rfl,by omega,by omega,by decide +kernel,fun w hw hc=>?_⟩
    have hj6:j<6:=hj
    have ea:(Str.ofString "a").length=1:=by decide +kernel
    rw[ea]at hw
    refine nx_put (by omega) hDy hyl ⟨p1.new hD2,ws++[w],by rw[List.map_append];rfl,by simp[hwl],fun z hz=>?_⟩
    rcases List.mem_append.mp hz with h|h
    .exact hws z h
    .rw[List.mem_singleton.mp h]
     refine⟨⟨by omega,fun c hcm=>?_⟩,by omega⟩
     have:=hc c hcm
     have e:(Str.ofString "a").cps.toList=[97]:=by decide +kernel
     rw[e]at this
     have:c=97:=by simpa using this
     omega
   .obtain⟨p1,ws,rfl,hwl,hws⟩:=p
    refine⟨_,rfl,q D2 ws _ n10 ?_ (ex10.trans (Ex.of_same p1)) (p1 _ _ st10) hn10 hDy hwl hws⟩
    cases z:H D2 with
    | none=>rfl
    | some o=>
     have nd:=ne_st st10 hD2
     have z':=ex10 D2 o (by simpa using nd) z
     rw[z']at hD2;cases hD2
  .exact⟨_,rfl,q r zs _ n10 hrH ex10 st10 hn10 r10 hl9 hz9⟩
noncomputable def spLpairs:Sp:=fun vs H Q _=>∃(st:Addr) (n:List V),vs=[.ref st]/\H st=some (.lst n)/\StL n/\∀(p:Addr) (ys:List V) (H':Hp) (n':List V),Ex [st] H H'->H' st=some (.lst n')->StL n'->H' p=some (.tup ys)->ys.length<=3->(∀y∈ys,KnN 1 H' y)->Q (.ref p) H'
theorem scLpairs:FnScope ["_law_state_here","_law_some","_law_k","_law_one","_law_other"] ["_law_state_here"] (defScope sLpairs):=⟨rfl,rfl,rfl,by decide +kernel,rfl,by decide +kernel,by decide +kernel⟩
theorem ok_lpairs(B:∀x∈blts,mg x=none)(Fnext:FnNext P w K mg base)
  (F:Fun K "_law_pairs" "_law_pairs" sLpairs f fd):FnOk P w K mg base CX0 2 f fd ["_law_state_here"] spLpairs:=by
 refine F.ok (k:=1) scLpairs (fun vs H Q E h=>?_) (fun cdv A outer s H vs Q E hr h=>?_)
 .obtain⟨st,n,rfl,_⟩:=h
  rfl
 obtain⟨st,n,rfl,hst,hn,q⟩:=h
 have hu:=hr.units
 refine⟨_,(pss_cons (ps_set (i:=1) scLpairs.nd rfl (Or.inl rfl) (pe_lst pa_nil))
  (pss_cons (ps_for PassesOwn.never rfl (pi_r1 rfl (B "range" (by decide)) (pa_c (pe_fn Fnext hr (by decide) rfl (pa_c (pv 0) (pa_c pe_int pa_nil))) pa_nil)) (pg_name (i:=2) scLpairs.nd rfl (Or.inl rfl)) (pss_cons (ps_set (i:=3) scLpairs.nd rfl (Or.inl rfl) (pe_ix ix_str pe_str (pe_fn Fnext hr (by decide) rfl (pa_c (pv 0) (pa_c pe_int pa_nil))) (fun _ _=>rfl)))
  (pss_cons (ps_set (i:=4) scLpairs.nd rfl (Or.inl rfl) (pe_ix ix_str pe_str (pe_fn Fnext hr (by decide) rfl (pa_c (pv 0) (pa_c pe_int pa_nil))) (fun _ _=>rfl)))
  (pss_one (ps_if (pt_cmpR (op_notInD hu) (pe_tup (pa_c (pe_cB (call_min2S rfl) rfl (B "min" (by decide)) boot_min (pa_c (pv 3) (pa_c (pv 4) pa_nil))) (pa_c (pe_cB (call_max2S rfl) rfl (B "max" (by decide)) boot_max (pa_c (pv 3) (pa_c (pv 4) pa_nil))) pa_nil))) (pv 1) rfl) (pss_one (ps_expr (pe_bm PySem.F.plainAttrs_list PySem.F.slot_list_append PySem.F.type_list_append mt_append (pv 1) (pa_c (pe_tup (pa_c (pe_cB (call_min2S rfl) rfl (B "min" (by decide)) boot_min (pa_c (pv 3) (pa_c (pv 4) pa_nil))) (pa_c (pe_cB (call_max2S rfl) rfl (B "max" (by decide)) boot_max (pa_c (pv 3) (pa_c (pv 4) pa_nil))) pa_nil))) pa_nil)))) pss_nil)))))
  (pss_one (ps_ret (pe_cT call_tuple_of rfl (B "tuple" (by decide)) boot_tuple (pa_c (pe_cB call_sortedS rfl (B "sorted" (by decide)) boot_sorted (pa_c (pv 1) pa_nil)) pa_nil)))))),?_⟩
 refine⟨(by show 0<=sizeLine;decide),fun r hr0=>?_⟩
 have nr:=ne_st hst hr0
 refine⟨_,rfl,st,n,4,rfl,laid_st hst hr0,hn,by decide,by decide,fun n1 i1 hn1 h10 h14=>⟨_,rfl,by omega,by omega,?_⟩⟩
 obtain⟨r1,ex1,st1⟩:=laid_draw (o:=.lst []) (n':=n1) hst hr0
 generalize upd (upd H r (.lst [])) st (.lst n1)=H1 at *
 have letter:∀i:Int,0<=i->i<5->∃c:Nat,atI (Str.ofString "ABQYZ").cps.toList i=some c/\Tx ⟨#[c]⟩:=fun i h0 h5=>by
  obtain⟨c,hc,hm⟩:=pick (α:=Nat) (xs:=(Str.ofString "ABQYZ").cps.toList) h0 (by show i<5;exact h5)
  exact⟨c,hc,tx1 ((txL (z:=Str.ofString "ABQYZ") (by decide +kernel)).2 c hm)⟩
 have hline:(Str.ofString "ABQYZ").length<=sizeLine:=tx_line (txL (by decide +kernel))
 refine for_range (lo:=0) (fun i σ' H'=>∃(y2 y3 y4:Option V) (n:List V) (ds:List PyData) (ys:List V),σ'=[some (.ref st),some (.ref r),y2,y3,y4]/\Ex [st,r] H1 H'/\H' st=some (.lst n)/\StL n/\H' r=some (.lst ys)/\RepAll H' ds ys/\(∀d∈ds,PP d)/\ds.length<=i) ?_ (fun i σ' H' hi' h=>?_) (fun σ' H' h=>?_)
 .exact⟨_,_,_,n1,[],[],rfl,Ex.refl _ _,st1,hn1,r1,rfl,(fun d hd=>by cases hd),Nat.le_refl _⟩
 .obtain⟨y2,y3,y4,n2,ds,ys,rfl,ex2,st2,hn2,r2,rep2,pp2,hl2⟩:=h
  have im2:=pp_imm pp2
  have hly:=rep2.length
  refine⟨_,rfl,st,n2,5,rfl,st2,hn2,by decide,by decide,fun n3 i3 hn3 h30 h35=>?_⟩
  obtain⟨c3,hc3,t3⟩:=letter i3 h30 h35
  refine⟨_,_,c3,rfl,rfl,hline,hc3,?_⟩
  have st3:upd H' st (.lst n3) st=some (.lst n3):=upd_same
  have r3:upd H' st (.lst n3) r=some (.lst ys):=by rw[upd_ne nr];exact r2
  have rep3:RepAll (upd H' st (.lst n3)) ds ys:=rep2.tk (Tk.lst st2) im2
  have ex3:Ex [st,r] H1 (upd H' st (.lst n3)):=ex2.trans (Ex.upd (by simp))
  generalize upd H' st (.lst n3)=H3 at *
  refine⟨_,rfl,st,n3,5,rfl,st3,hn3,by decide,by decide,fun n4 i4 hn4 h40 h45=>?_⟩
  obtain⟨c4,hc4,t4⟩:=letter i4 h40 h45
  refine⟨_,_,c4,rfl,rfl,hline,hc4,?_⟩
  have st4:upd H3 st (.lst n4) st=some (.lst n4):=upd_same
  have r4:upd H3 st (.lst n4) r=some (.lst ys):=by rw[upd_ne nr];exact r3
  have rep4:RepAll (upd H3 st (.lst n4)) ds ys:=rep3.tk (Tk.lst st3) im2
  have ex4:Ex [st,r] H1 (upd H3 st (.lst n4)):=ex3.trans (Ex.upd (by simp))
  generalize upd H3 st (.lst n4)=H4 at *
  have one:∀z:Str,(z=⟨#[c3]⟩\/z=⟨#[c4]⟩)->Tx z:=fun z hz=>by
   rcases hz with rfl|rfl
   .exact t3
   .exact t4
  refine⟨_,rfl,_,rfl,_,_,rfl,fun z1 hz1=>⟨_,rfl,_,rfl,_,_,rfl,fun z2 hz2=>⟨(by show 2<=sizeLine;decide),fun t ht=>?_⟩⟩⟩
  have s5:Same H4 (upd H4 t (.tup [.str z1,.str z2])):=Same.fresh _ ht
  have rp5:=pp_rep (H:=upd H4 t (.tup [.str z1,.str z2])) upd_same (one z1 hz1) (one z2 hz2)
  have st5:=s5 _ _ st4
  have r5:=s5 _ _ r4
  have rep5:=rep4.same s5
  have ex5:=ex4.trans (Ex.of_same (W:=[st,r]) s5)
  generalize upd H4 t (.tup [.str z1,.str z2])=H5 at *
  refine⟨_,rfl,.tuple [.str z1,.str z2],r,ys,ds,rp5,rfl,.inl r5,rep5,by simp[PyData.depth,PyData.depthAll],_,rfl,?_⟩
  refine ite2 (fun _=>?_) (fun _=>?_)
  .refine⟨_,rfl,.inl ⟨rfl,_,SqL.of r5⟩,_,rfl,_,rfl,_,_,rfl,fun z3 hz3=>⟨_,rfl,_,rfl,_,_,rfl,fun z4 hz4=>⟨(by show 2<=sizeLine;decide),fun t2 ht2=>?_⟩⟩⟩
   have s6:Same H5 (upd H5 t2 (.tup [.str z3,.str z4])):=Same.fresh _ ht2
   have rp6:=pp_rep (H:=upd H5 t2 (.tup [.str z3,.str z4])) upd_same (one z3 hz3) (one z4 hz4)
   have st6:=s6 _ _ st5
   have r6:=s6 _ _ r5
   have rep6:=rep5.same s6
   have ex6:=ex5.trans (Ex.of_same (W:=[st,r]) s6)
   generalize upd H5 t2 (.tup [.str z3,.str z4])=H6 at *
   refine⟨r,ys,.ref t2,rfl,rfl,r6,small1000 (by omega),?_⟩
   have pp7:∀d∈ds++[.tuple [.str z3,.str z4]],PP d:=fun d hd=>by
    rcases List.mem_append.mp hd with h|h
    .exact pp2 d h
    .rw[List.mem_singleton.mp h];exact⟨z3,z4,rfl,one z3 hz3,one z4 hz4⟩
   exact⟨_,_,_,n4,ds++[.tuple [.str z3,.str z4]],ys++[.ref t2],rfl,ex6.trans (Ex.upd (by simp)),by rw[upd_ne (Ne.symm nr)];exact st6,hn4,upd_same,(rep6.snoc rp6).tk (Tk.lst r6) (pp_imm pp7),pp7,by rw[List.length_append,List.length_singleton];omega⟩
  .exact⟨_,_,_,n4,ds,ys,rfl,ex5,st5,hn4,r5,rep5,pp2,by omega⟩
 .obtain⟨y2,y3,y4,n2,ds,ys,rfl,ex2,st2,hn2,r2,rep2,pp2,hl2⟩:=h
  refine⟨_,rfl,r,ys,ds,[false],rfl,r2,rep2,pp_rows pp2,by omega,fun l zs es hl perm _ repE=>⟨l,zs,rfl,.inl ⟨SqL.of upd_same,fun l2 hl3=>?_⟩⟩⟩
  have s3:Same H' (upd H' l (.lst zs)):=Same.fresh _ hl
  have s4:Same (upd H' l (.lst zs)) (upd (upd H' l (.lst zs)) l2 (.tup zs)):=Same.fresh _ hl3
  have s34:=s3.trans s4
  have ppE:∀d∈es,PP d:=fun d hd=>pp2 d (perm.mem_iff.mp hd)
  have lE:=repE.length
  have pE:=perm.length_eq
  refine q l2 zs _ n2 ?_ (s34 _ _ st2) hn2 upd_same (by omega) (pp_kn (repE.same s4) ppE)
  intro b o hb h0
  have nb:b≠r:=ne_of_none h0 hr0
  have nbs:b≠st:=by simpa using hb
  exact s34 _ _ (ex2 b o (by simp[nb,nbs]) (ex1 b o hb h0))
end
noncomputable def PzW(H:Hp)(v:V):Prop:=∃(a f k p:Addr) (zs:List Str) (ks ps:List V),v=.ref a/\H a=some (.tup [.ref f,.ref k,.ref p])/\H f=some (.tup (zs.map V.str))/\Rw zs/\H k=some (.tup ks)/\0<ks.length/\ks.length<=6/\(∀x∈ks,KindW H x)/\H p=some (.tup ps)/\ps.length<=3/\∀y∈ps,KnN 1 H y
theorem cut_to{xs:List V}{k:Nat}(hk:k<=xs.length):cutV xs none (some (k:Int))=xs.take k:=by
 unfold cutV
 rw[HT.sIx_none,HT.sIx_nat,Nat.sub_zero,show min k xs.length=k by omega]
 rfl
theorem sgT:Tx (Str.ofString "....,,##ABCDEFGHIJKLMNOPQRSTUVWXYZabcdefghijklmnopqrstuvwxyz"):=txL (by decide +kernel)
section
variable{P:Program}{w:World}{K:PySem.W.Frag}{mg:Str->Option Value}{base:Heap}{f:Addr}{fd:FuncData}
noncomputable def spLpuz:Sp:=fun vs H Q _=>∃(st:Addr) (n:List V),vs=[.ref st,.int 8,.int 6,.int 6]/\H st=some (.lst n)/\StL n/\∀(p:Addr) (H':Hp) (n':List V),Ex [st] H H'->H' st=some (.lst n')->StL n'->PzW H' (.ref p)->Q (.ref p) H'
theorem scLpuz:FnScope ["_law_state_here","_law_most","_law_spots","_law_many","_law_signs_here","_law_floor_here","_law_kinds"] ["_law_state_here","_law_most","_law_spots","_law_many"] (defScope sLpuz):=⟨rfl,rfl,rfl,by decide +kernel,rfl,by decide +kernel,by decide +kernel⟩
theorem ok_lpuz(B:∀x∈blts,mg x=none)(Fnext:FnNext P w K mg base)(Ffloor:Fn P w K mg base "_law_floor" 2 ["_law_state_here","_law_most","_law_signs_here"] spFloor)(Flkind:Fn P w K mg base "_law_kind" 4 ["_law_state_here","_law_name","_law_most"] spLkind)(Flnames:Fn P w K mg base "_law_names" 2 ["_law_state_here"] spLnames)(Flpairs:Fn P w K mg base "_law_pairs" 2 ["_law_state_here"] spLpairs)
  (F:Fun K "_law_puzzle" "_law_puzzle" sLpuz f fd):FnOk P w K mg base CX0 5 f fd ["_law_state_here","_law_most","_law_spots","_law_many"] spLpuz:=by
 refine F.ok (k:=4) scLpuz (fun vs H Q E h=>?_) (fun cdv A outer s H vs Q E hr h=>?_)
 .obtain⟨st,n,rfl,_⟩:=h
  rfl
 obtain⟨st,n,rfl,hst,hn,q⟩:=h
 refine⟨_,(pss_cons (ps_set (i:=4) scLpuz.nd rfl (Or.inl rfl) pe_str)
  (pss_cons (ps_set (i:=5) scLpuz.nd rfl (Or.inl rfl) (pe_fn Ffloor hr (by decide) rfl (pa_c (pv 0) (pa_c (pv 1) (pa_c (pe_slice sl_str (pv 4) po_none (po_some (pe_ix ix_list (pe_lst (pa_c pe_int (pa_c pe_int pa_nil))) (pe_fn Fnext hr (by decide) rfl (pa_c (pv 0) (pa_c pe_int pa_nil))) (fun _ _=>rfl)))) pa_nil)))))
  (pss_cons (ps_setC (i:=6) ["_law_name","_law_state_here","_law_spots"] [none,some 0,some 2] scLpuz.nd rfl (Or.inl rfl) rfl rfl rfl (by decide +kernel) (by decide +kernel) rfl rfl (pi_list (pe_slice sl_list (pe_fn Flnames hr (by decide) rfl (pa_c (pv 0) pa_nil)) po_none (po_some (pe_op op_add pe_int (pe_fn Fnext hr (by decide) rfl (pa_c (pv 0) (pa_c (pv 3) pa_nil))))))) (fun _=>(pg_name (i:=0) (show(["_law_name","_law_state_here","_law_spots"]:List PySem.Str).Nodup by decide +kernel) rfl (Or.inl rfl))) (fun _=>pts_nil) (fun _=>(pe_fn Flkind hr (by decide) rfl (pa_c (pv 1) (pa_c (pv 0) (pa_c (pv 2) pa_nil))))))
  (pss_one (ps_ret (pe_tup (pa_c (pv 5) (pa_c (pe_cT call_tuple_of rfl (B "tuple" (by decide)) boot_tuple (pa_c (pv 6) pa_nil)) (pa_c (pe_fn Flpairs hr (by decide) rfl (pa_c (pv 0) pa_nil)) pa_nil))))))))),?_⟩
 refine⟨_,rfl,_,rfl,_,rfl,(by show 2<=sizeLine;decide),fun p1 hp1=>?_⟩
 refine⟨_,rfl,st,n,2,rfl,laid_st hst hp1,hn,by decide,by decide,fun n1 i1 hn1 h10 h12=>?_⟩
 obtain⟨k,hk,hkm⟩:=pick (α:=V) (xs:=[V.int 8,V.int 60]) h10 h12
 obtain⟨hp2,ex1,st1⟩:=laid_draw (o:=.lst [V.int 8,V.int 60]) (n':=n1) hst hp1
 have hks:∃j:Int,k=.int j/\0<(Txt.slice (Str.ofString "....,,##ABCDEFGHIJKLMNOPQRSTUVWXYZabcdefghijklmnopqrstuvwxyz") none (some j)).length:=by
  simp only[List.mem_cons,List.not_mem_nil,or_false]at hkm
  rcases hkm with rfl|rfl
  .exact⟨8,rfl,by decide +kernel⟩
  .exact⟨60,rfl,by decide +kernel⟩
 obtain⟨j,rfl,hj0⟩:=hks
 refine⟨p1,_,i1,_,rfl,rfl,SqL.of hp2,hk,j,rfl,_,rfl,tx_line sgT,?_⟩
 generalize upd (upd H p1 _) st _=H1 at *
 refine⟨st,n1,_,rfl,st1,hn1,sgT.slice _ _,hj0,fun fa zs H2 n2 hfa ex2 st2 hn2 hf2 rw2=>?_⟩
 have ex12:=ex1.trans ex2
 refine⟨_,rfl,st,n2,rfl,st2,hn2,fun na ns H3 n3 hna ex3 st3 hn3 hn3l hns6 hnsT=>?_⟩
 have ex13:=ex12.trans ex3
 have l3:=Lk.of_ex ex3 st2 st3
 have hf3:=l3.tup hf2
 have nna:=ne_st st2 hna
 refine⟨_,rfl,_,rfl,st,n3,6,rfl,st3,hn3,by decide,by decide,fun n4 i4 hn4 h40 h46=>⟨_,_,rfl,rfl,_,rfl,?_⟩⟩
 have st4:upd H3 st (.lst n4) st=some (.lst n4):=upd_same
 have ex4:Ex [st] H3 (upd H3 st (.lst n4)):=Ex.upd (by simp)
 have hf4:=(Lk.of_ex ex4 st3 st4).tup hf3
 have hn4l:=ex4.at nna hn3l
 have ex14:=ex13.trans ex4
 generalize upd H3 st (.lst n4)=H4 at *
 obtain⟨m,rfl⟩:=Int.eq_ofNat_of_zero_le h40
 have hcut:cutV (ns.map V.str) none (some (1+(m:Int)))=(ns.take (1+m)).map V.str:=by
  rw[show(1+(m:Int))=((1+m:Nat):Int) by omega,cut_to (by rw[List.length_map];omega),List.map_take]
 refine⟨na,_,rfl,SqL.of hn4l,fun sa hsa=>?_⟩
 rw[hcut]
 have s5:Same H4 (upd H4 sa (.lst ((ns.take (1+m)).map V.str))):=Same.fresh _ hsa
 have sa5:upd H4 sa (.lst ((ns.take (1+m)).map V.str)) sa=some (.lst ((ns.take (1+m)).map V.str)):=upd_same
 have st5:=s5 _ _ st4
 have hf5:=s5 _ _ hf4
 have ex15:=ex14.trans (Ex.of_same (W:=[st]) s5)
 have nsa:=ne_st st4 hsa
 generalize upd H4 sa (.lst ((ns.take (1+m)).map V.str))=H5 at *
 have hsl:((ns.take (1+m)).map V.str).length=1+m:=by rw[List.length_map,List.length_take];omega
 refine⟨sa,rfl,⟨_,SqL.of sa5⟩,fun D hD=>?_⟩
 have nD:=ne_st st5 hD
 have nDs:D≠sa:=ne_st sa5 hD
 refine comp_list (xs:=(ns.take (1+m)).map V.str) (fun j ys H6=>∃(n6:List V),Ex [st,D] H5 H6/\H6 st=some (.lst n6)/\StL n6/\ys.length=j/\∀y∈ys,KindW H6 y) ?_ (fun j ys H6 p=>?_) (fun j x ys H6 hx hj hDy hyl p=>?_) (fun ys H6 hDy hyl p=>?_)
 .exact⟨n4,Ex.fresh hD,by rw[upd_ne (Ne.symm nD)];exact st5,hn4,rfl,fun y hy=>by cases hy⟩
 .obtain⟨_,ex6,_⟩:=p
  exact SqL.of (ex6 _ _ (by simp[Ne.symm nsa,Ne.symm nDs,nsa]) sa5)
 .obtain⟨n6,ex6,st6,hn6,hyj,hky⟩:=p
  have hxz:∃z,x=.str z/\Tx z/\z.length<=8:=by
   obtain⟨z,hz,rfl⟩:=List.mem_map.mp (List.mem_of_getElem? hx)
   exact⟨z,rfl,hnsT z (List.mem_of_mem_take hz)⟩
  obtain⟨z,rfl,tz,z8⟩:=hxz
  refine⟨Agree.set (Agree.refl _) rfl,?_⟩
  dsimp only[tYes]
  refine iteT ?_
  refine⟨_,rfl,_,rfl,_,rfl,st,n6,z,rfl,st6,hn6,tz,z8,fun kp H7 n7 ex7 st7 hn7 kw7=>?_⟩
  have l7:=Lk.of_ex ex7 st6 st7
  have hD7:=ex7.at nD hDy
  have l8:Lk H7 (upd H7 D (.lst (ys++[.ref kp]))):=fun b o hb=>by
   by_cases e:b=D
   .subst e
    rw[hD7]at hb;cases hb
    exact .inr ⟨_,_,rfl,upd_same⟩
   .exact .inl (by rw[upd_ne e];exact hb)
  refine nx_put (by omega) hD7 hyl ⟨n7,?_,by rw[upd_ne (Ne.symm nD)];exact st7,hn7,by rw[List.length_append,hyj];rfl,fun y hy=>?_⟩
  .intro b o hb h0
   have hb':b≠st/\b≠D:=by simpa using hb
   rw[upd_ne hb'.2]
   exact ex7.at hb'.1 (ex6 b o hb h0)
  .rcases List.mem_append.mp hy with h|h
   .exact((hky y h).lk l7).lk l8
   .rw[List.mem_singleton.mp h]
    exact kw7.lk l8
 .obtain⟨n6,ex6,st6,hn6,hyj,hky⟩:=p
  have hf6:H6 fa=some (.tup (zs.map V.str)):=ex6 _ _ (by
   have e1:fa≠st:=fun e=>by rw[e,st5]at hf5;cases hf5
   have e2:fa≠D:=fun e=>by rw[e,hD]at hf5;cases hf5
   simp[e1,e2]) hf5
  have ex16:Ex [st] H H6:=fun b o hb h0=>by
   have h1:=ex15 b o hb h0
   have nb:b≠D:=ne_of_none h1 hD
   have nbs:b≠st:=by simpa using hb
   exact ex6 b o (by simp[nb,nbs]) h1
  refine⟨_,rfl,_,rfl,D,ys,rfl,.inl ⟨SqL.of hDy,fun ka hka=>?_⟩⟩
  have s7:Same H6 (upd H6 ka (.tup ys)):=Same.fresh _ hka
  have ka7:upd H6 ka (.tup ys) ka=some (.tup ys):=upd_same
  have st7:=s7 _ _ st6
  have hf7:=s7 _ _ hf6
  have ex17:=ex16.trans (Ex.of_same (W:=[st]) s7)
  have kw7:∀y∈ys,KindW _ y:=fun y hy=>(hky y hy).lk (Lk.of_same s7)
  generalize upd H6 ka (.tup ys)=H7 at *
  refine⟨_,rfl,st,n6,rfl,st7,hn6,fun pa ps H8 n8 ex8 st8 hn8 hp8 hps hpk=>⟨(by show 3<=sizeLine;decide),fun ta hta=>?_⟩⟩
  have l8:=Lk.of_ex ex8 st7 st8
  have s9:Same H8 (upd H8 ta (.tup [.ref fa,.ref ka,.ref pa])):=Same.fresh _ hta
  have l9:=Lk.of_same s9
  refine q ta _ n8 ((ex17.trans ex8).trans (Ex.of_same s9)) (s9 _ _ st8) hn8 ?_
  exact⟨ta,fa,ka,pa,zs,ys,ps,rfl,upd_same,l9.tup (l8.tup hf7),rw2,l9.tup (l8.tup ka7),by omega,by omega,fun x hx=>((kw7 x hx).lk l8).lk l9,l9.tup hp8,hps,fun y hy=>(hpk y hy).lk l9⟩
end
end K09
namespace L3
open PySem PySem.Spec PyProof.Rows L2
section
variable{X:Cx}
noncomputable def rCatA(K:PySem.W.Frag):R2:=fun x y H Q=>∃a b xs ys,x=.ref a/\y=.ref b/\SqT K H a xs/\SqT K H b ys/\xs.length+ys.length<=sizeLine/\
 (xs=[]->Q (.ref b) H)/\(xs≠[]->ys=[]->Q (.ref a) H)/\(xs≠[]->ys≠[]->∀p,H p=none->Q (.ref p) (upd H p (.tup (xs++ys))))
theorem op_catA:OpR X (binaryOp .Add) (rCatA X.K):=by
 intro pins s σ H x y v u Q I rx ry h
 obtain⟨a,b,xs,ys,rfl,rfl,ha,hb,hz,q0,q1,q2⟩:=h
 cases rx
 cases ry
 obtain⟨its,r1,p1,_⟩:=I.tuple ha
 obtain⟨its2,r2,p2,_⟩:=I.tuple hb
 by_cases hx:xs=[]
 .have hv:its=[]:=r1.nil_iff.mpr hx
  obtain⟨⟨cls,dd,data,sl⟩,ho,hc,n,hd⟩:=p1
  obtain⟨⟨cls2,dd2,data2,sl2⟩,ho2,hc2,n2,hd2⟩:=p2
  simp only at hc hd hc2 hd2
  subst hc hd hc2 hd2
  exact concat_meets ⟨_,ho,rfl⟩ ⟨_,ho2,rfl⟩ noFill_tuple_add seq_tuple_add PySem.F.slot_tuple_add PySem.F.entry_tuple_add (PySem.F.args_tuple_add_2 _ _)
   (tuple_addW0 a b its.toArray its2.toArray n n2 dd dd2 sl sl2 (by simp[hv])) ⟨ho,ho2,.ref b,H,I,rfl,q0 hx⟩
 .refine HT.cat_tup p1 p2 (fun z=>hx (r1.nil_iff.mp z)) (fun z=>⟨.ref a,H,I,rfl,q1 hx (r2.nil_iff.mp z)⟩) (fun z=>?_) (by rw[<-r1.length,<-r2.length];exact hz)
  refine⟨.ref s.heap.objs.size,_,I.laid (t':=s.toks) (o:=.tup (xs++ys)) (fun b ob q=>Heap.get?_push_of_some _ q) (Nat.le_refl _) ?_,rfl,q2 hx (fun e=>z (r2.nil_iff.mpr e)) _ (I.hok.fresh (Nat.le_refl _))⟩
  exact⟨by rw[List.length_append];exact hz,_,r1.append r2,IsTup.new _ _⟩
theorem mt_upperZ:MtR X "str.upper" (fun x vs H Q=>∃z:Str,x=.str z/\vs=[]/\Tx z/\∀y:Str,Tx y->y.length=z.length->Q (.str y) H):=by
 intro pins s σ H x vs v us Q I rx rv h
 obtain⟨z,rfl,rfl,hz,q⟩:=h
 obtain⟨t,rfl⟩:=rx
 have hus:=rv.zero
 subst hus
 have e:=upper_ascii hz.2
 refine SC.upper (fit_upper (by have:=hz.1;omega)) ⟨.str _,H,I.tok _,⟨_,rfl⟩,q _ ?_ ?_⟩
 .rw[e]
  refine⟨by show(z.cps.map up1).size<=80;rw[Array.size_map];exact hz.1,fun c hc=>?_⟩
  have hc':c∈z.cps.toList.map up1:=by simpa using hc
  obtain⟨d,hd,rfl⟩:=List.mem_map.mp hc'
  have:=hz.2 d hd
  unfold up1
  split<;>omega
 .rw[e]
  show(z.cps.map up1).size=z.cps.size
  exact Array.size_map
end
end L3
namespace K09
open PySem PyProof.Rows L2 L3
noncomputable def DtA(st:Addr)(H:Hp)(v:V):Prop:=v=.non\/(∃i,v=.int i)\/(∃z,v=.str z/\Tx z)\/(∃(a:Addr) (zs:List Str),v=.ref a/\a≠st/\H a=some (.lst (zs.map V.str))/\∀z∈zs,Tx z)\/∃a,v=.ref a/\H a=some (.dK [])
theorem rep_strs{H:Hp}:∀{zs:List Str},(∀z∈zs,Tx z)->RepAll H (zs.map PyData.str) (zs.map V.str)
 | [],_=>rfl
 | z::zs,h=>⟨_,_,rfl,⟨rfl,(h z List.mem_cons_self).ok⟩,rep_strs fun y hy=>h y (List.mem_cons_of_mem _ hy)⟩
theorem depth_strs:∀(zs:List Str),PyData.depthAll (zs.map PyData.str)<=8
 | []=>by simp[PyData.depthAll]
 | z::zs=>by
  have:=depth_strs zs
  simp[PyData.depthAll,PyData.depth]
  omega
theorem DtA.dt{st:Addr}{H:Hp}{v:V}(h:DtA st H v):Dt H v:=by
 rcases h with rfl|⟨i,rfl⟩|⟨z,rfl,hz⟩|⟨a,zs,rfl,_,ha,hz⟩|h
 .exact .inl ⟨.none,rfl,by simp[PyData.depth]⟩
 .exact .inl ⟨.int i,rfl,by simp[PyData.depth]⟩
 .exact .inl ⟨.str z,⟨rfl,hz.ok⟩,by simp[PyData.depth]⟩
 .exact .inl ⟨.list (zs.map PyData.str),⟨a,_,rfl,ha,rep_strs hz⟩,by have:=depth_strs zs;simp[PyData.depth];omega⟩
 .exact .inr h
theorem DtA.ex{st:Addr}{H H':Hp}{v:V}{n:List V}(e:Ex [st] H H')(hst:H st=some (.lst n))(h:DtA st H v):DtA st H' v:=by
 rcases h with rfl|⟨i,rfl⟩|⟨z,rfl,hz⟩|⟨a,zs,rfl,na,ha,hz⟩|⟨a,rfl,ha⟩
 .exact .inl rfl
 .exact .inr (.inl ⟨i,rfl⟩)
 .exact .inr (.inr (.inl ⟨z,rfl,hz⟩))
 .exact .inr (.inr (.inr (.inl ⟨a,zs,rfl,na,e.at na ha,hz⟩)))
 .exact .inr (.inr (.inr (.inr ⟨a,rfl,e.at (fun q=>by rw[q,hst]at ha;cases ha) ha⟩)))
noncomputable def DtS(st:Addr)(H:Hp)(v:V):Prop:=∀a z l m md fm,v=.ref a->H a=some (.tup [.str z,l,m,md,fm])->DtA st H md
theorem DtS.dtk{st:Addr}{H:Hp}{v:V}(h:DtS st H v):DtK H v:=fun a n l m md fm e ha=>(h a n l m md fm e ha).dt
theorem DtS.ex{st:Addr}{H H':Hp}{v:V}{n n':List V}(e:Ex [st] H H')(hst:H st=some (.lst n))(hst':H' st=some (.lst n'))(k:Kn H v)(h:DtS st H v):DtS st H' v:=fun a n l m md fm e' ha=>by
 subst e'
 exact(h a n l m md fm rfl (kn_backL (Lk.of_ex e hst hst') k ha)).ex e hst
theorem KindW.dts{st:Addr}{H:Hp}{x:V}(h:KindW H x):DtS st H x:=fun a n l m md fm e ha=>by
 obtain⟨b,z,i,m',mo,fm',fx,rfl,hb,h1,h2,h3,h4,hf,h5,h6,h7⟩:=h
 cases e
 rw[hb]at ha
 cases ha
 exact .inr (.inr (.inl ⟨mo,rfl,h4⟩))
seal L2.PE L2.PT L2.PW L2.PA L2.PS L2.PSs L2.PG L2.PGs L2.PI L2.PO
section
variable{P:Program}{w:World}{K:PySem.W.Frag}{mg:Str->Option Value}{base:Heap}{f:Addr}{fd:FuncData}
noncomputable def spLok:Sp:=fun vs H Q _=>∃(st b:Addr) (n:List V),vs=[.ref st,.ref b]/\H st=some (.lst n)/\StL n/\KindW H (.ref b)/\∀(v:V) (H':Hp) (n':List V),Ex [st] H H'->H' st=some (.lst n')->StL n'->KnN 3 H' v->DtS st H' v->Q v H'
theorem scLok:FnScope ["_law_state_here","_law_kind_here","_law_name","_law_least","_law_most","_law_mode","_law_form","_law_way"] ["_law_state_here","_law_kind_here"] (defScope sLok):=⟨rfl,rfl,rfl,by decide +kernel,rfl,by decide +kernel,by decide +kernel⟩
theorem ok_lok(B:∀x∈blts,mg x=none)(Fnext:FnNext P w K mg base)
  (F:Fun K "_law_odd_kind" "_law_odd_kind" sLok f fd):FnOk P w K mg base CX0 2 f fd ["_law_state_here","_law_kind_here"] spLok:=by
 refine F.ok (k:=1) scLok (fun vs H Q E h=>?_) (fun cdv A outer s H vs Q E hr h=>?_)
 .obtain⟨st,b,n,rfl,_⟩:=h
  rfl
 obtain⟨st,b,n,rfl,hst,hn,kw,q⟩:=h
 refine⟨_,(pss_cons (ps_asg (pv 1) (pg_tup (n:=5) rfl (pgs_cons (pg_name (i:=2) scLok.nd rfl (Or.inl rfl)) (pgs_cons (pg_name (i:=3) scLok.nd rfl (Or.inl rfl)) (pgs_cons (pg_name (i:=4) scLok.nd rfl (Or.inl rfl)) (pgs_cons (pg_name (i:=5) scLok.nd rfl (Or.inl rfl)) (pgs_cons (pg_name (i:=6) scLok.nd rfl (Or.inl rfl)) pgs_nil)))))))
  (pss_cons (ps_set (i:=7) scLok.nd rfl (Or.inl rfl) (pe_fn Fnext hr (by decide) rfl (pa_c (pv 0) (pa_c pe_int pa_nil))))
  (pss_cons (ps_if (pt_cmpR op_eq (pv 7) pe_int (nomark _)) (pss_one (ps_set (i:=2) scLok.nd rfl (Or.inl rfl) (pe_ix ix_list (pe_lst (pa_c pe_str (pa_c (pe_op op_add_str (pv 2) pe_str) (pa_c (pe_bm0 PySem.F.plainAttrs_str PySem.F.slot_str_upper PySem.F.type_str_upper mt_upperZ (pv 2)) (pa_c (pe_op op_add_str (pv 2) pe_str) (pa_c pe_int (pa_c pe_non (pa_c pe_str (pa_c pe_str (pa_c (pe_lst pa_nil) (pa_c pe_dict0 pa_nil))))))))))) (pe_fn Fnext hr (by decide) rfl (pa_c (pv 0) (pa_c pe_int pa_nil))) (fun _ _=>rfl)))) pss_nil)
  (pss_cons (ps_if (pt_cmpR op_eq (pv 7) pe_int (nomark _)) (pss_one (ps_set (i:=3) scLok.nd rfl (Or.inl rfl) (pe_ix ix_list (pe_lst (pa_c (pe_un un_neg pe_int) (pa_c pe_int (pa_c pe_non (pa_c pe_bl (pa_c pe_str (pa_c pe_int (pa_c pe_int (pa_c (pe_lst pa_nil) pa_nil))))))))) (pe_fn Fnext hr (by decide) rfl (pa_c (pv 0) (pa_c pe_int pa_nil))) (fun _ _=>rfl)))) pss_nil)
  (pss_cons (ps_if (pt_cmpR op_eq (pv 7) pe_int (nomark _)) (pss_one (ps_set (i:=4) scLok.nd rfl (Or.inl rfl) (pe_ix ix_list (pe_lst (pa_c (pe_op op_sub (pv 3) pe_int) (pa_c pe_int (pa_c pe_str (pa_c pe_bl (pa_c (pe_un un_neg pe_int) (pa_c pe_int (pa_c pe_non (pa_c (pv 3) (pa_c pe_dict0 pa_nil)))))))))) (pe_fn Fnext hr (by decide) rfl (pa_c (pv 0) (pa_c pe_int pa_nil))) (fun _ _=>rfl)))) pss_nil)
  (pss_cons (ps_if (pt_cmpR op_eq (pv 7) pe_int (nomark _)) (pss_one (ps_set (i:=5) scLok.nd rfl (Or.inl rfl) (pe_ix ix_list (pe_lst (pa_c pe_str (pa_c pe_str (pa_c pe_non (pa_c pe_str (pa_c pe_int (pa_c pe_str (pa_c (pe_lst pa_nil) (pa_c pe_dict0 (pa_c (pe_lst (pa_c pe_str pa_nil)) pa_nil)))))))))) (pe_fn Fnext hr (by decide) rfl (pa_c (pv 0) (pa_c pe_int pa_nil))) (fun _ _=>rfl)))) pss_nil)
  (pss_cons (ps_if (pt_cmpR op_eq (pv 7) pe_int (nomark _)) (pss_one (ps_set (i:=6) scLok.nd rfl (Or.inl rfl) (pe_ix ix_list (pe_lst (pa_c (pe_cT call_list_of rfl (B "list" (by decide)) boot_list (pa_c (pv 6) pa_nil)) (pa_c (pe_slice sl_tup2 (pv 6) (po_some pe_int) po_none) (pa_c (pe_op op_catT (pv 6) (pv 6)) (pa_c (pe_tup pa_nil) (pa_c pe_non (pa_c (pv 6) (pa_c pe_dict0 pa_nil)))))))) (pe_fn Fnext hr (by decide) rfl (pa_c (pv 0) (pa_c pe_int pa_nil))) (fun _ _=>rfl)))) pss_nil)
  (pss_cons (ps_if (pt_cmpR op_eq (pv 7) pe_int (nomark _)) (pss_one (ps_ret (pe_ix ix_list (pe_lst (pa_c (pe_cT call_list_of rfl (B "list" (by decide)) boot_list (pa_c (pv 1) pa_nil)) (pa_c (pe_slice sl_tup2 (pv 1) po_none (po_some pe_int)) (pa_c (pe_op op_catT (pv 1) (pe_tup (pa_c pe_int pa_nil))) (pa_c pe_non (pa_c (pv 2) (pa_c (pv 1) pa_nil))))))) (pe_fn Fnext hr (by decide) rfl (pa_c (pv 0) (pa_c pe_int pa_nil))) (fun _ _=>rfl)))) pss_nil)
  (pss_one (ps_ret (pe_tup (pa_c (pv 2) (pa_c (pv 3) (pa_c (pv 4) (pa_c (pv 5) (pa_c (pv 6) pa_nil)))))))))))))))),?_⟩
 have kw0:=kw
 obtain⟨b',z,l,m,mo,fm,fx,e,hb,tz,z8,hm,tmo,hf,f0,f6,fk⟩:=kw
 cases e
 replace fk:∀y∈fx,KnN 1 H y:=fun y hy=>(fk y hy).1.down
 refine⟨_,rfl,b,_,rfl,SqT.of hb,rfl,?_⟩
 refine⟨_,_,rfl,_,_,rfl,_,_,rfl,_,_,rfl,_,_,rfl,rfl,?_⟩
 refine⟨_,rfl,st,n,6,rfl,hst,hn,by decide,by decide,fun n1 i1 hn1 h10 h16=>?_⟩
 have st1:upd H st (.lst n1) st=some (.lst n1):=upd_same
 have ex1:Ex [st] H (upd H st (.lst n1)):=Ex.upd (by simp)
 have kw1:=kw0.lk (Lk.of_ex ex1 hst st1)
 have hb1:=(Lk.of_ex ex1 hst st1).tup hb
 have hf1:=(Lk.of_ex ex1 hst st1).tup hf
 have fk1:∀y∈fx,KnN 1 _ y:=fun y hy=>(fk y hy).lk (Lk.of_ex ex1 hst st1)
 generalize upd H st (.lst n1)=H1 at *
 obtain⟨j1,rfl⟩:∃j1:Nat,i1=j1:=Int.eq_ofNat_of_zero_le h10
 have hj:j1=0\/j1=1\/j1=2\/j1=3\/j1=4\/j1=5:=by omega
 have fin:∀(H2:Hp) (n2:List V) (a1 a2 a3 a4 a5:V) (t:Addr),Ex [st] H H2->H2 st=some (.lst n2)->StL n2->H2 t=none->KnN 2 H2 a1->KnN 2 H2 a2->KnN 2 H2 a3->KnN 2 H2 a4->KnN 2 H2 a5->DtA st H2 a4->Q (.ref t) (upd H2 t (.tup [a1,a2,a3,a4,a5])):=fun H2 n2 a1 a2 a3 a4 a5 t ex st2 hn2 ht k1 k2 k3 k4 k5 dt=>by
  have s3:Same H2 (upd H2 t (.tup [a1,a2,a3,a4,a5])):=Same.fresh _ ht
  refine q _ _ n2 (ex.trans (Ex.of_same s3)) (s3 _ _ st2) hn2 (kn_tup0 upd_same (by show 5<=60;omega) fun x hx=>?_) (fun a' n' l' m' md' fm' e ha'=>?_)
  .simp only[List.mem_cons,List.not_mem_nil,or_false]at hx
   rcases hx with rfl|rfl|rfl|rfl|rfl
   .exact k1.same s3
   .exact k2.same s3
   .exact k3.same s3
   .exact k4.same s3
   .exact k5.same s3
  .cases e
   rw[upd_same]at ha'
   cases ha'
   exact dt.ex (Ex.of_same s3) st2
 have kz:∀H2,KnN 2 H2 (V.str z):=fun H2=>kn_str0 tz
 have kl:∀H2,KnN 2 H2 (V.int l):=fun H2=>kn_int0 l
 have km:∀H2,KnN 2 H2 m:=fun H2=>by
  rcases hm with rfl|⟨j,rfl⟩
  .exact kn_non0
  .exact kn_int0 j
 have kmo:∀H2,KnN 2 H2 (V.str mo):=fun H2=>kn_str0 tmo
 have kf:∀H2,Lk H1 H2->KnN 2 H2 (V.ref fm):=fun H2 l2=>kn_tup0 (l2.tup hf1) (by omega) fun y hy=>(fk1 y hy).lk l2
 have dmo:∀H2,DtA st H2 (V.str mo):=fun H2=>.inr (.inr (.inl ⟨mo,rfl,tmo⟩))
 have l11:Lk H1 H1:=Lk.of_same (Same.refl H1)
 have tx:∀y:Str,(y.length<=80/\y.cps.toList.all (· < 128)=true)->Tx y:=fun y h=>txL h
 rcases hj with rfl|rfl|rfl|rfl|rfl|rfl
 .
  refine⟨_,rfl,rfl,_,rfl,iteT ?_⟩
  have l8:(Str.ofString "abcdefgh").length=8:=by decide +kernel
  have l1:(Str.ofString "1").length=1:=by decide +kernel
  have t8:Tx (z++Str.ofString "abcdefgh"):=Tx.cat tz (txL (by decide +kernel)) (by rw[l8];omega)
  have t1':Tx (z++Str.ofString "1"):=Tx.cat tz (txL (by decide +kernel)) (by rw[l1];omega)
  refine⟨_,rfl,_,_,rfl,rfl,Nat.le_of_lt (small1000 (by rw[l8];omega)),?_⟩
  refine⟨_,rfl,rfl,z,rfl,rfl,tz,fun y ty ly=>?_⟩
  refine⟨_,rfl,_,_,rfl,rfl,Nat.le_of_lt (small1000 (by rw[l1];omega)),?_⟩
  refine⟨(by show 0<=sizeLine;decide),fun e0 he0=>?_⟩
  have s2:Same H1 (upd H1 e0 (.lst [])):=Same.fresh _ he0
  have fe0:upd H1 e0 (.lst []) e0=some (.lst []):=upd_same
  have ne0:=ne_st st1 he0
  have st2:=s2 _ _ st1
  have t2:=s2
  generalize upd H1 e0 (.lst [])=H2 at *
  refine fun d0 hd0=>?_
  have s3:Same H2 (upd H2 d0 (.dK [])):=Same.fresh _ hd0
  have fd0:upd H2 d0 (.dK []) d0=some (.dK []):=upd_same
  have nd0:=ne_st st2 hd0
  have st3:=s3 _ _ st2
  replace fe0:=s3 _ _ fe0
  have t3:=t2.trans s3
  generalize upd H2 d0 (.dK [])=H3 at *
  refine⟨(by show 10<=sizeLine;decide),fun p hp=>?_⟩
  refine⟨_,rfl,st,n1,10,rfl,laid_st st3 hp,hn1,by decide,by decide,fun n3 i3 hn3 h30 h38=>?_⟩
  obtain⟨x,hx,hm3⟩:=pick (α:=V) (xs:=[V.str "",V.str (z++Str.ofString "abcdefgh"),V.str y,V.str (z++Str.ofString "1"),V.int 7,V.non,V.str "a b",V.str "x",V.ref e0,V.ref d0]) h30 h38
  obtain⟨hp3,ex3,st3'⟩:=laid_draw (o:=.lst [V.str "",V.str (z++Str.ofString "abcdefgh"),V.str y,V.str (z++Str.ofString "1"),V.int 7,V.non,V.str "a b",V.str "x",V.ref e0,V.ref d0]) (n':=n3) st3 hp
  have l3:Lk H1 _:=fun b o h=>(Lk.of_ex ex3 st3 st3') b o (t3 b o h)
  replace fe0:=ex3.at ne0 fe0
  replace fd0:=ex3.at nd0 fd0
  refine⟨p,_,i3,_,rfl,rfl,SqL.of hp3,hx,?_⟩
  have ex13:=(ex1.trans (Ex.of_same (W:=[st]) t3)).trans ex3
  generalize upd (upd H3 p _) st _=HH at *
  simp only[List.mem_cons,List.not_mem_nil,or_false]at hm3
  have kx:KnN 2 HH x:=by
   rcases hm3 with rfl|rfl|rfl|rfl|rfl|rfl|rfl|rfl|rfl|rfl
   .exact kn_str0 (txL (by decide +kernel))
   .exact kn_str0 t8
   .exact kn_str0 ty
   .exact kn_str0 t1'
   .exact kn_int0 _
   .exact kn_non0
   .exact kn_str0 (txL (by decide +kernel))
   .exact kn_str0 (txL (by decide +kernel))
   .exact kn_lst0 fe0
   .exact kn_dK0 fd0
  refine⟨_,rfl,rfl,_,rfl,iteF ?_⟩
  refine⟨_,rfl,rfl,_,rfl,iteF ?_⟩
  refine⟨_,rfl,rfl,_,rfl,iteF ?_⟩
  refine⟨_,rfl,rfl,_,rfl,iteF ?_⟩
  refine⟨_,rfl,rfl,_,rfl,iteF ?_⟩
  refine⟨_,rfl,_,rfl,_,rfl,_,rfl,_,rfl,(by show 5<=sizeLine;decide),fun t ht=>?_⟩
  exact fin HH n3 _ _ _ _ _ t ex13 st3' hn3 ht kx (kl _) (km _) (kmo _) (kf _ l3) (dmo _)
 .
  refine⟨_,rfl,rfl,_,rfl,iteF ?_⟩
  refine⟨_,rfl,rfl,_,rfl,iteT ?_⟩
  refine⟨_,rfl,(by show 0<=sizeLine;decide),fun e0 he0=>?_⟩
  have s2:Same H1 (upd H1 e0 (.lst [])):=Same.fresh _ he0
  have fe0:upd H1 e0 (.lst []) e0=some (.lst []):=upd_same
  have ne0:=ne_st st1 he0
  have st2:=s2 _ _ st1
  have t2:=s2
  generalize upd H1 e0 (.lst [])=H2 at *
  refine⟨(by show 8<=sizeLine;decide),fun p hp=>?_⟩
  refine⟨_,rfl,st,n1,8,rfl,laid_st st2 hp,hn1,by decide,by decide,fun n3 i3 hn3 h30 h38=>?_⟩
  obtain⟨x,hx,hm3⟩:=pick (α:=V) (xs:=[V.int (-1),V.int 65,V.non,V.bl true,V.str "1",V.int 64,V.int 0,V.ref e0]) h30 h38
  obtain⟨hp3,ex3,st3'⟩:=laid_draw (o:=.lst [V.int (-1),V.int 65,V.non,V.bl true,V.str "1",V.int 64,V.int 0,V.ref e0]) (n':=n3) st2 hp
  have l3:Lk H1 _:=fun b o h=>(Lk.of_ex ex3 st2 st3') b o (t2 b o h)
  replace fe0:=ex3.at ne0 fe0
  refine⟨p,_,i3,_,rfl,rfl,SqL.of hp3,hx,?_⟩
  have ex13:=(ex1.trans (Ex.of_same (W:=[st]) t2)).trans ex3
  generalize upd (upd H2 p _) st _=HH at *
  simp only[List.mem_cons,List.not_mem_nil,or_false]at hm3
  have kx:KnN 2 HH x:=by
   rcases hm3 with rfl|rfl|rfl|rfl|rfl|rfl|rfl|rfl
   .exact kn_int0 _
   .exact kn_int0 _
   .exact kn_non0
   .exact kn_bl0 _
   .exact kn_str0 (txL (by decide +kernel))
   .exact kn_int0 _
   .exact kn_int0 _
   .exact kn_lst0 fe0
  refine⟨_,rfl,rfl,_,rfl,iteF ?_⟩
  refine⟨_,rfl,rfl,_,rfl,iteF ?_⟩
  refine⟨_,rfl,rfl,_,rfl,iteF ?_⟩
  refine⟨_,rfl,rfl,_,rfl,iteF ?_⟩
  refine⟨_,rfl,_,rfl,_,rfl,_,rfl,_,rfl,(by show 5<=sizeLine;decide),fun t ht=>?_⟩
  exact fin HH n3 _ _ _ _ _ t ex13 st3' hn3 ht (kz _) kx (km _) (kmo _) (kf _ l3) (dmo _)
 .
  refine⟨_,rfl,rfl,_,rfl,iteF ?_⟩
  refine⟨_,rfl,rfl,_,rfl,iteF ?_⟩
  refine⟨_,rfl,rfl,_,rfl,iteT ?_⟩
  refine⟨_,rfl,_,_,rfl,rfl,_,rfl,_,rfl,fun d0 hd0=>?_⟩
  have s2:Same H1 (upd H1 d0 (.dK [])):=Same.fresh _ hd0
  have fd0:upd H1 d0 (.dK []) d0=some (.dK []):=upd_same
  have nd0:=ne_st st1 hd0
  have st2:=s2 _ _ st1
  have t2:=s2
  generalize upd H1 d0 (.dK [])=H2 at *
  refine⟨(by show 9<=sizeLine;decide),fun p hp=>?_⟩
  refine⟨_,rfl,st,n1,9,rfl,laid_st st2 hp,hn1,by decide,by decide,fun n3 i3 hn3 h30 h38=>?_⟩
  obtain⟨x,hx,hm3⟩:=pick (α:=V) (xs:=[V.int (l-1),V.int 65,V.str "any",V.bl false,V.int (-1),V.int 64,V.non,V.int l,V.ref d0]) h30 h38
  obtain⟨hp3,ex3,st3'⟩:=laid_draw (o:=.lst [V.int (l-1),V.int 65,V.str "any",V.bl false,V.int (-1),V.int 64,V.non,V.int l,V.ref d0]) (n':=n3) st2 hp
  have l3:Lk H1 _:=fun b o h=>(Lk.of_ex ex3 st2 st3') b o (t2 b o h)
  replace fd0:=ex3.at nd0 fd0
  refine⟨p,_,i3,_,rfl,rfl,SqL.of hp3,hx,?_⟩
  have ex13:=(ex1.trans (Ex.of_same (W:=[st]) t2)).trans ex3
  generalize upd (upd H2 p _) st _=HH at *
  simp only[List.mem_cons,List.not_mem_nil,or_false]at hm3
  have kx:KnN 2 HH x:=by
   rcases hm3 with rfl|rfl|rfl|rfl|rfl|rfl|rfl|rfl|rfl
   .exact kn_int0 _
   .exact kn_int0 _
   .exact kn_str0 (txL (by decide +kernel))
   .exact kn_bl0 _
   .exact kn_int0 _
   .exact kn_int0 _
   .exact kn_non0
   .exact kn_int0 _
   .exact kn_dK0 fd0
  refine⟨_,rfl,rfl,_,rfl,iteF ?_⟩
  refine⟨_,rfl,rfl,_,rfl,iteF ?_⟩
  refine⟨_,rfl,rfl,_,rfl,iteF ?_⟩
  refine⟨_,rfl,_,rfl,_,rfl,_,rfl,_,rfl,(by show 5<=sizeLine;decide),fun t ht=>?_⟩
  exact fin HH n3 _ _ _ _ _ t ex13 st3' hn3 ht (kz _) (kl _) kx (kmo _) (kf _ l3) (dmo _)
 .
  refine⟨_,rfl,rfl,_,rfl,iteF ?_⟩
  refine⟨_,rfl,rfl,_,rfl,iteF ?_⟩
  refine⟨_,rfl,rfl,_,rfl,iteF ?_⟩
  refine⟨_,rfl,rfl,_,rfl,iteT ?_⟩
  refine⟨(by show 0<=sizeLine;decide),fun e0 he0=>?_⟩
  have s2:Same H1 (upd H1 e0 (.lst [])):=Same.fresh _ he0
  have fe0:upd H1 e0 (.lst []) e0=some (.lst []):=upd_same
  have ne0:=ne_st st1 he0
  have st2:=s2 _ _ st1
  have t2:=s2
  generalize upd H1 e0 (.lst [])=H2 at *
  refine fun d0 hd0=>?_
  have s3:Same H2 (upd H2 d0 (.dK [])):=Same.fresh _ hd0
  have fd0:upd H2 d0 (.dK []) d0=some (.dK []):=upd_same
  have nd0:=ne_st st2 hd0
  have st3:=s3 _ _ st2
  replace fe0:=s3 _ _ fe0
  have t3:=t2.trans s3
  generalize upd H2 d0 (.dK [])=H3 at *
  refine⟨(by show 1<=sizeLine;decide),fun e1 he1=>?_⟩
  have s4:Same H3 (upd H3 e1 (.lst [V.str "flip"])):=Same.fresh _ he1
  have fe1:upd H3 e1 (.lst [V.str "flip"]) e1=some (.lst [V.str "flip"]):=upd_same
  have ne1:=ne_st st3 he1
  have st4:=s4 _ _ st3
  replace fe0:=s4 _ _ fe0
  replace fd0:=s4 _ _ fd0
  have t4:=t3.trans s4
  generalize upd H3 e1 (.lst [V.str "flip"])=H4 at *
  refine⟨(by show 9<=sizeLine;decide),fun p hp=>?_⟩
  refine⟨_,rfl,st,n1,9,rfl,laid_st st4 hp,hn1,by decide,by decide,fun n3 i3 hn3 h30 h38=>?_⟩
  obtain⟨x,hx,hm3⟩:=pick (α:=V) (xs:=[V.str "Flip",V.str "",V.non,V.str "turns",V.int 4,V.str "still",V.ref e0,V.ref d0,V.ref e1]) h30 h38
  obtain⟨hp3,ex3,st3'⟩:=laid_draw (o:=.lst [V.str "Flip",V.str "",V.non,V.str "turns",V.int 4,V.str "still",V.ref e0,V.ref d0,V.ref e1]) (n':=n3) st4 hp
  have l3:Lk H1 _:=fun b o h=>(Lk.of_ex ex3 st4 st3') b o (t4 b o h)
  replace fe0:=ex3.at ne0 fe0
  replace fd0:=ex3.at nd0 fd0
  replace fe1:=ex3.at ne1 fe1
  refine⟨p,_,i3,_,rfl,rfl,SqL.of hp3,hx,?_⟩
  have ex13:=(ex1.trans (Ex.of_same (W:=[st]) t4)).trans ex3
  generalize upd (upd H4 p _) st _=HH at *
  simp only[List.mem_cons,List.not_mem_nil,or_false]at hm3
  have dx:DtA st HH x:=by
   rcases hm3 with rfl|rfl|rfl|rfl|rfl|rfl|rfl|rfl|rfl
   .exact .inr (.inr (.inl ⟨_,rfl,txL (by decide +kernel)⟩))
   .exact .inr (.inr (.inl ⟨_,rfl,txL (by decide +kernel)⟩))
   .exact .inl rfl
   .exact .inr (.inr (.inl ⟨_,rfl,txL (by decide +kernel)⟩))
   .exact .inr (.inl ⟨_,rfl⟩)
   .exact .inr (.inr (.inl ⟨_,rfl,txL (by decide +kernel)⟩))
   .exact .inr (.inr (.inr (.inl ⟨e0,[],rfl,ne0,fe0,fun z hz=>by cases hz⟩)))
   .exact .inr (.inr (.inr (.inr ⟨d0,rfl,fd0⟩)))
   .exact .inr (.inr (.inr (.inl ⟨e1,[Str.ofString "flip"],rfl,ne1,fe1,fun z hz=>by rw[List.mem_singleton.mp hz];exact txL (by decide +kernel)⟩)))
  have kx:KnN 2 HH x:=by
   rcases hm3 with rfl|rfl|rfl|rfl|rfl|rfl|rfl|rfl|rfl
   .exact kn_str0 (txL (by decide +kernel))
   .exact kn_str0 (txL (by decide +kernel))
   .exact kn_non0
   .exact kn_str0 (txL (by decide +kernel))
   .exact kn_int0 _
   .exact kn_str0 (txL (by decide +kernel))
   .exact kn_lst0 fe0
   .exact kn_dK0 fd0
   .exact kn_lst0 fe1
  refine⟨_,rfl,rfl,_,rfl,iteF ?_⟩
  refine⟨_,rfl,rfl,_,rfl,iteF ?_⟩
  refine⟨_,rfl,_,rfl,_,rfl,_,rfl,_,rfl,(by show 5<=sizeLine;decide),fun t ht=>?_⟩
  exact fin HH n3 _ _ _ _ _ t ex13 st3' hn3 ht (kz _) (kl _) (km _) kx (kf _ l3) dx
 .
  refine⟨_,rfl,rfl,_,rfl,iteF ?_⟩
  refine⟨_,rfl,rfl,_,rfl,iteF ?_⟩
  refine⟨_,rfl,rfl,_,rfl,iteF ?_⟩
  refine⟨_,rfl,rfl,_,rfl,iteF ?_⟩
  refine⟨_,rfl,rfl,_,rfl,iteT ?_⟩
  refine⟨_,rfl,fm,fx,rfl,.inr (SqT.of hf1),fun e0 he0=>?_⟩
  have s2:Same H1 (upd H1 e0 (.lst fx)):=Same.fresh _ he0
  have fe0:upd H1 e0 (.lst fx) e0=some (.lst fx):=upd_same
  have ne0:=ne_st st1 he0
  have st2:=s2 _ _ st1
  have t2:=s2
  generalize upd H1 e0 (.lst fx)=H2 at *
  have hf2:=t2 _ _ hf1
  refine⟨_,rfl,_,rfl,fm,fx,rfl,SqT.of hf2,fun hw=>?_,fun _ e1 he1=>?_⟩
  .exfalso
   have h1:=hw.1
   rw[show(some (1:Int))=some (((1:Nat):Int))from rfl,HT.sIx_nat]at h1
   omega
  rw[cutr]
  have s3:Same H2 (upd H2 e1 (.tup (fx.drop 1))):=Same.fresh _ he1
  have fe1:upd H2 e1 (.tup (fx.drop 1)) e1=some (.tup (fx.drop 1)):=upd_same
  have ne1:=ne_st st2 he1
  have st3:=s3 _ _ st2
  replace fe0:=s3 _ _ fe0
  have t3:=t2.trans s3
  generalize upd H2 e1 (.tup (fx.drop 1))=H3 at *
  have hf3:=t3 _ _ hf1
  have hne:fx≠[]:=fun e=>by rw[e]at f0;exact absurd f0 (by decide)
  refine⟨_,rfl,_,rfl,fm,fm,fx,fx,rfl,rfl,SqT.of hf3,SqT.of hf3,hne,Nat.le_of_lt (small1000 (by omega)),fun e=>absurd e hne,fun _ e2 he2=>?_⟩
  have s4:Same H3 (upd H3 e2 (.tup (fx++fx))):=Same.fresh _ he2
  have fe2:upd H3 e2 (.tup (fx++fx)) e2=some (.tup (fx++fx)):=upd_same
  have ne2:=ne_st st3 he2
  have st4:=s4 _ _ st3
  replace fe0:=s4 _ _ fe0
  replace fe1:=s4 _ _ fe1
  have t4:=t3.trans s4
  generalize upd H3 e2 (.tup (fx++fx))=H4 at *
  refine⟨(by show 0<=sizeLine;decide),fun e3 he3=>?_⟩
  have s5:Same H4 (upd H4 e3 (.tup [])):=Same.fresh _ he3
  have fe3:upd H4 e3 (.tup []) e3=some (.tup []):=upd_same
  have ne3:=ne_st st4 he3
  have st5:=s5 _ _ st4
  replace fe0:=s5 _ _ fe0
  replace fe1:=s5 _ _ fe1
  replace fe2:=s5 _ _ fe2
  have t5:=t4.trans s5
  generalize upd H4 e3 (.tup [])=H5 at *
  refine⟨_,rfl,fun d0 hd0=>?_⟩
  have s6:Same H5 (upd H5 d0 (.dK [])):=Same.fresh _ hd0
  have fd0:upd H5 d0 (.dK []) d0=some (.dK []):=upd_same
  have nd0:=ne_st st5 hd0
  have st6:=s6 _ _ st5
  replace fe0:=s6 _ _ fe0
  replace fe1:=s6 _ _ fe1
  replace fe2:=s6 _ _ fe2
  replace fe3:=s6 _ _ fe3
  have t6:=t5.trans s6
  generalize upd H5 d0 (.dK [])=H6 at *
  refine⟨(by show 7<=sizeLine;decide),fun p hp=>?_⟩
  refine⟨_,rfl,st,n1,7,rfl,laid_st st6 hp,hn1,by decide,by decide,fun n3 i3 hn3 h30 h38=>?_⟩
  obtain⟨x,hx,hm3⟩:=pick (α:=V) (xs:=[V.ref e0,V.ref e1,V.ref e2,V.ref e3,V.non,V.ref fm,V.ref d0]) h30 h38
  obtain⟨hp3,ex3,st3'⟩:=laid_draw (o:=.lst [V.ref e0,V.ref e1,V.ref e2,V.ref e3,V.non,V.ref fm,V.ref d0]) (n':=n3) st6 hp
  have l3:Lk H1 _:=fun b o h=>(Lk.of_ex ex3 st6 st3') b o (t6 b o h)
  replace fe0:=ex3.at ne0 fe0
  replace fe1:=ex3.at ne1 fe1
  replace fe2:=ex3.at ne2 fe2
  replace fe3:=ex3.at ne3 fe3
  replace fd0:=ex3.at nd0 fd0
  refine⟨p,_,i3,_,rfl,rfl,SqL.of hp3,hx,?_⟩
  have ex13:=(ex1.trans (Ex.of_same (W:=[st]) t6)).trans ex3
  generalize upd (upd H6 p _) st _=HH at *
  simp only[List.mem_cons,List.not_mem_nil,or_false]at hm3
  have fkH:∀y∈fx,KnN 1 HH y:=fun y hy=>(fk1 y hy).lk l3
  have kx:KnN 2 HH x:=by
   rcases hm3 with rfl|rfl|rfl|rfl|rfl|rfl|rfl
   .exact kn_lst0 fe0
   .exact kn_tup0 fe1 (by rw[List.length_drop];omega) fun y hy=>fkH y (List.mem_of_mem_drop hy)
   .exact kn_tup0 fe2 (by rw[List.length_append];omega) fun y hy=>(List.mem_append.mp hy).elim (fkH y) (fkH y)
   .exact kn_tup0 fe3 (by decide) fun y hy=>by cases hy
   .exact kn_non0
   .exact kf _ l3
   .exact kn_dK0 fd0
  refine⟨_,rfl,rfl,_,rfl,iteF ?_⟩
  refine⟨_,rfl,_,rfl,_,rfl,_,rfl,_,rfl,(by show 5<=sizeLine;decide),fun t ht=>?_⟩
  exact fin HH n3 _ _ _ _ _ t ex13 st3' hn3 ht (kz _) (kl _) (km _) (kmo _) kx (dmo _)
 .
  refine⟨_,rfl,rfl,_,rfl,iteF ?_⟩
  refine⟨_,rfl,rfl,_,rfl,iteF ?_⟩
  refine⟨_,rfl,rfl,_,rfl,iteF ?_⟩
  refine⟨_,rfl,rfl,_,rfl,iteF ?_⟩
  refine⟨_,rfl,rfl,_,rfl,iteF ?_⟩
  refine⟨_,rfl,rfl,_,rfl,iteT ?_⟩
  refine⟨_,rfl,b,_,rfl,.inr (SqT.of hb1),fun e0 he0=>?_⟩
  have s2:Same H1 (upd H1 e0 (.lst [V.str z,V.int l,m,V.str mo,V.ref fm])):=Same.fresh _ he0
  have fe0:upd H1 e0 (.lst [V.str z,V.int l,m,V.str mo,V.ref fm]) e0=some (.lst [V.str z,V.int l,m,V.str mo,V.ref fm]):=upd_same
  have ne0:=ne_st st1 he0
  have st2:=s2 _ _ st1
  have t2:=s2
  generalize upd H1 e0 (.lst [V.str z,V.int l,m,V.str mo,V.ref fm])=H2 at *
  have hb2:=t2 _ _ hb1
  refine⟨_,rfl,_,rfl,b,_,rfl,SqT.of hb2,fun hw=>absurd hw.2 (show ¬(4:Nat)=5 by decide),fun _ e1 he1=>?_⟩
  have hcut:cutV [V.str z,V.int l,m,V.str mo,V.ref fm] none (some 4)=[V.str z,V.int l,m,V.str mo]:=rfl
  rw[hcut]
  have s3:Same H2 (upd H2 e1 (.tup [V.str z,V.int l,m,V.str mo])):=Same.fresh _ he1
  have fe1:upd H2 e1 (.tup [V.str z,V.int l,m,V.str mo]) e1=some (.tup [V.str z,V.int l,m,V.str mo]):=upd_same
  have ne1:=ne_st st2 he1
  have st3:=s3 _ _ st2
  replace fe0:=s3 _ _ fe0
  have t3:=t2.trans s3
  generalize upd H2 e1 (.tup [V.str z,V.int l,m,V.str mo])=H3 at *
  have hb3:=t3 _ _ hb1
  refine⟨_,rfl,(by show 1<=sizeLine;decide),fun e4 he4=>?_⟩
  have s4:Same H3 (upd H3 e4 (.tup [V.int 0])):=Same.fresh _ he4
  have fe4:upd H3 e4 (.tup [V.int 0]) e4=some (.tup [V.int 0]):=upd_same
  have ne4:=ne_st st3 he4
  have st4:=s4 _ _ st3
  replace fe0:=s4 _ _ fe0
  replace fe1:=s4 _ _ fe1
  have t4:=t3.trans s4
  generalize upd H3 e4 (.tup [V.int 0])=H4 at *
  have hb4:=t4 _ _ hb1
  refine⟨b,e4,_,_,rfl,rfl,SqT.of hb4,SqT.of fe4,(fun e=>by cases e),(by show 6<=sizeLine;decide),(fun e=>by cases e),fun _ e2 he2=>?_⟩
  have s5:Same H4 (upd H4 e2 (.tup ([V.str z,V.int l,m,V.str mo,V.ref fm]++[V.int 0]))):=Same.fresh _ he2
  have fe2:upd H4 e2 (.tup ([V.str z,V.int l,m,V.str mo,V.ref fm]++[V.int 0])) e2=some (.tup ([V.str z,V.int l,m,V.str mo,V.ref fm]++[V.int 0])):=upd_same
  have ne2:=ne_st st4 he2
  have st5:=s5 _ _ st4
  replace fe0:=s5 _ _ fe0
  replace fe1:=s5 _ _ fe1
  replace fe4:=s5 _ _ fe4
  have t5:=t4.trans s5
  generalize upd H4 e2 (.tup ([V.str z,V.int l,m,V.str mo,V.ref fm]++[V.int 0]))=H5 at *
  refine⟨_,rfl,_,rfl,(by show 6<=sizeLine;decide),fun p hp=>?_⟩
  refine⟨_,rfl,st,n1,6,rfl,laid_st st5 hp,hn1,by decide,by decide,fun n3 i3 hn3 h30 h38=>?_⟩
  obtain⟨x,hx,hm3⟩:=pick (α:=V) (xs:=[V.ref e0,V.ref e1,V.ref e2,V.non,V.str z,V.ref b]) h30 h38
  obtain⟨hp3,ex3,st3'⟩:=laid_draw (o:=.lst [V.ref e0,V.ref e1,V.ref e2,V.non,V.str z,V.ref b]) (n':=n3) st5 hp
  have l3:Lk H1 _:=fun b o h=>(Lk.of_ex ex3 st5 st3') b o (t5 b o h)
  replace fe0:=ex3.at ne0 fe0
  replace fe1:=ex3.at ne1 fe1
  replace fe4:=ex3.at ne4 fe4
  replace fe2:=ex3.at ne2 fe2
  refine⟨p,_,i3,_,rfl,rfl,SqL.of hp3,hx,?_⟩
  have ex13:=(ex1.trans (Ex.of_same (W:=[st]) t5)).trans ex3
  generalize upd (upd H5 p _) st _=HH at *
  simp only[List.mem_cons,List.not_mem_nil,or_false]at hm3
  have kwH:=kw1.lk l3
  have hbH:=l3.tup hb1
  have k5:∀y∈[V.str z,V.int l,m,V.str mo,V.ref fm],KnN 2 HH y:=fun y hy=>(kwH.kn.2 b _ rfl hbH).2 y hy
  have kx:KnN 3 HH x:=by
   rcases hm3 with rfl|rfl|rfl|rfl|rfl|rfl
   .exact kn_lst0 fe0
   .exact kn_tup0 fe1 (by show 4<=60;omega) fun y hy=>k5 y (by simp only[List.mem_cons,List.not_mem_nil,or_false]at hy⊢;rcases hy with h|h|h|h<;>simp[h])
   .exact kn_tup0 fe2 (by show 6<=60;omega) fun y hy=>(List.mem_append.mp hy).elim (k5 y) fun h=>by rw[List.mem_singleton.mp h];exact kn_int0 _
   .exact kn_non0
   .exact kn_str0 tz
   .exact kwH.kn
  refine q x HH n3 ex13 st3' hn3 kx ?_
  rcases hm3 with rfl|rfl|rfl|rfl|rfl|rfl
  .exact fun a' n' l' m' md' fm' e ha'=>by cases e;rw[fe0]at ha';cases ha'
  .exact fun a' n' l' m' md' fm' e ha'=>by cases e;rw[fe1]at ha';cases ha'
  .exact fun a' n' l' m' md' fm' e ha'=>by cases e;rw[fe2]at ha';cases ha'
  .exact fun a' n' l' m' md' fm' e ha'=>by cases e
  .exact fun a' n' l' m' md' fm' e ha'=>by cases e
  .exact kwH.dts
end
theorem cut_mem'{xs:List V}{lo hi:Option Int}{x:V}(h:x∈cutV xs lo hi):x∈xs:=by
 unfold cutV at h
 exact List.mem_of_mem_drop (List.mem_of_mem_take h)
section
variable{P:Program}{w:World}{K:PySem.W.Frag}{mg:Str->Option Value}{base:Heap}{f:Addr}{fd:FuncData}
noncomputable def spLop:Sp:=fun vs H Q _=>∃(st p:Addr) (n ps:List V),vs=[.ref st,.ref p]/\H st=some (.lst n)/\StL n/\H p=some (.tup ps)/\ps.length<=3/\(∀y∈ps,KnN 1 H y)/\∀(v:V) (H':Hp) (n':List V),Ex [st] H H'->H' st=some (.lst n')->StL n'->KnN 2 H' v->Q v H'
theorem scLop:FnScope ["_law_state_here","_law_some","_law_odd","_law_way"] ["_law_state_here","_law_some"] (defScope sLop):=⟨rfl,rfl,rfl,by decide +kernel,rfl,by decide +kernel,by decide +kernel⟩
theorem ok_lop(B:∀x∈blts,mg x=none)(Fnext:FnNext P w K mg base)
  (F:Fun K "_law_odd_pairs" "_law_odd_pairs" sLop f fd):FnOk P w K mg base CX0 2 f fd ["_law_state_here","_law_some"] spLop:=by
 refine F.ok (k:=1) scLop (fun vs H Q E h=>?_) (fun cdv A outer s H0 vs Q E hr h=>?_)
 .obtain⟨st,p,n,ps,rfl,_⟩:=h
  rfl
 obtain⟨st,pa,n0,ps,rfl,st0,hn0,hpa,hps,hpk,q⟩:=h
 refine⟨_,(pss_cons (ps_set (i:=2) scLop.nd rfl (Or.inl rfl) (pe_lst (pa_c (pe_tup (pa_c pe_str (pa_c pe_str pa_nil))) (pa_c (pe_tup (pa_c pe_str (pa_c pe_str pa_nil))) (pa_c (pe_tup (pa_c pe_str pa_nil)) (pa_c (pe_tup (pa_c pe_str (pa_c pe_str (pa_c pe_str pa_nil)))) (pa_c (pe_lst (pa_c pe_str (pa_c pe_str pa_nil))) (pa_c pe_str (pa_c pe_non (pa_c (pe_tup (pa_c pe_str (pa_c pe_str pa_nil))) (pa_c (pe_tup (pa_c pe_int (pa_c pe_int pa_nil))) (pa_c (pe_tup (pa_c pe_str (pa_c pe_str pa_nil))) pa_nil))))))))))))
  (pss_cons (ps_set (i:=2) scLop.nd rfl (Or.inl rfl) (pe_op op_cat (pv 2) (pe_lst (pa_c (pe_tup (pa_c (pe_lst pa_nil) (pa_c pe_str pa_nil))) (pa_c pe_dict0 pa_nil)))))
  (pss_cons (ps_set (i:=3) scLop.nd rfl (Or.inl rfl) (pe_fn Fnext hr (by decide) rfl (pa_c (pv 0) (pa_c pe_int pa_nil))))
  (pss_cons (ps_if (pt_cmpR op_eq (pv 3) pe_int (nomark _)) (pss_one (ps_ret (pe_op op_catA (pv 1) (pe_tup (pa_c (pe_ix ix_list (pv 2) (pe_fn Fnext hr (by decide) rfl (pa_c (pv 0) (pa_c pe_int pa_nil))) (fun _ _=>rfl)) pa_nil))))) pss_nil)
  (pss_cons (ps_if (pt_cmpR op_eq (pv 3) pe_int (nomark _)) (pss_one (ps_ret (pe_cT call_list_of rfl (B "list" (by decide)) boot_list (pa_c (pv 1) pa_nil)))) pss_nil)
  (pss_cons (ps_if (pt_cmpR op_eq (pv 3) pe_int (nomark _)) (pss_one (ps_ret (pe_op op_catA (pv 1) (pe_slice sl_tup2 (pv 1) po_none (po_some pe_int))))) pss_nil)
  (pss_one (ps_ret (pe_op op_catT (pe_tup (pa_c (pe_tup (pa_c pe_str (pa_c pe_str pa_nil))) pa_nil)) (pv 1)))))))))),?_⟩
 refine⟨(by show 2<=sizeLine;decide),fun a1 ha1=>?_⟩
 have s1:Same H0 (upd H0 a1 (.tup [V.str "B",V.str "A"])):=Same.fresh _ ha1
 have fa1:upd H0 a1 (.tup [V.str "B",V.str "A"]) a1=some (.tup [V.str "B",V.str "A"]):=upd_same
 have na1:=ne_st st0 ha1
 have st1:=s1 _ _ st0
 have t1:=s1
 generalize upd H0 a1 (.tup [V.str "B",V.str "A"])=H1 at *
 refine⟨(by show 2<=sizeLine;decide),fun a2 ha2=>?_⟩
 have s2:Same H1 (upd H1 a2 (.tup [V.str "a",V.str "b"])):=Same.fresh _ ha2
 have fa2:upd H1 a2 (.tup [V.str "a",V.str "b"]) a2=some (.tup [V.str "a",V.str "b"]):=upd_same
 have na2:=ne_st st1 ha2
 have st2:=s2 _ _ st1
 replace fa1:=s2 _ _ fa1
 have t2:=t1.trans s2
 generalize upd H1 a2 (.tup [V.str "a",V.str "b"])=H2 at *
 refine⟨(by show 1<=sizeLine;decide),fun a3 ha3=>?_⟩
 have s3:Same H2 (upd H2 a3 (.tup [V.str "A"])):=Same.fresh _ ha3
 have fa3:upd H2 a3 (.tup [V.str "A"]) a3=some (.tup [V.str "A"]):=upd_same
 have na3:=ne_st st2 ha3
 have st3:=s3 _ _ st2
 replace fa1:=s3 _ _ fa1
 replace fa2:=s3 _ _ fa2
 have t3:=t2.trans s3
 generalize upd H2 a3 (.tup [V.str "A"])=H3 at *
 refine⟨(by show 3<=sizeLine;decide),fun a4 ha4=>?_⟩
 have s4:Same H3 (upd H3 a4 (.tup [V.str "A",V.str "A",V.str "A"])):=Same.fresh _ ha4
 have fa4:upd H3 a4 (.tup [V.str "A",V.str "A",V.str "A"]) a4=some (.tup [V.str "A",V.str "A",V.str "A"]):=upd_same
 have na4:=ne_st st3 ha4
 have st4:=s4 _ _ st3
 replace fa1:=s4 _ _ fa1
 replace fa2:=s4 _ _ fa2
 replace fa3:=s4 _ _ fa3
 have t4:=t3.trans s4
 generalize upd H3 a4 (.tup [V.str "A",V.str "A",V.str "A"])=H4 at *
 refine⟨(by show 2<=sizeLine;decide),fun a5 ha5=>?_⟩
 have s5:Same H4 (upd H4 a5 (.lst [V.str "A",V.str "B"])):=Same.fresh _ ha5
 have fa5:upd H4 a5 (.lst [V.str "A",V.str "B"]) a5=some (.lst [V.str "A",V.str "B"]):=upd_same
 have na5:=ne_st st4 ha5
 have st5:=s5 _ _ st4
 replace fa1:=s5 _ _ fa1
 replace fa2:=s5 _ _ fa2
 replace fa3:=s5 _ _ fa3
 replace fa4:=s5 _ _ fa4
 have t5:=t4.trans s5
 generalize upd H4 a5 (.lst [V.str "A",V.str "B"])=H5 at *
 refine⟨(by show 2<=sizeLine;decide),fun a6 ha6=>?_⟩
 have s6:Same H5 (upd H5 a6 (.tup [V.str "",V.str "A"])):=Same.fresh _ ha6
 have fa6:upd H5 a6 (.tup [V.str "",V.str "A"]) a6=some (.tup [V.str "",V.str "A"]):=upd_same
 have na6:=ne_st st5 ha6
 have st6:=s6 _ _ st5
 replace fa1:=s6 _ _ fa1
 replace fa2:=s6 _ _ fa2
 replace fa3:=s6 _ _ fa3
 replace fa4:=s6 _ _ fa4
 replace fa5:=s6 _ _ fa5
 have t6:=t5.trans s6
 generalize upd H5 a6 (.tup [V.str "",V.str "A"])=H6 at *
 refine⟨(by show 2<=sizeLine;decide),fun a7 ha7=>?_⟩
 have s7:Same H6 (upd H6 a7 (.tup [V.int 1,V.int 2])):=Same.fresh _ ha7
 have fa7:upd H6 a7 (.tup [V.int 1,V.int 2]) a7=some (.tup [V.int 1,V.int 2]):=upd_same
 have na7:=ne_st st6 ha7
 have st7:=s7 _ _ st6
 replace fa1:=s7 _ _ fa1
 replace fa2:=s7 _ _ fa2
 replace fa3:=s7 _ _ fa3
 replace fa4:=s7 _ _ fa4
 replace fa5:=s7 _ _ fa5
 replace fa6:=s7 _ _ fa6
 have t7:=t6.trans s7
 generalize upd H6 a7 (.tup [V.int 1,V.int 2])=H7 at *
 refine⟨(by show 2<=sizeLine;decide),fun a8 ha8=>?_⟩
 have s8:Same H7 (upd H7 a8 (.tup [V.str "AB",V.str "C"])):=Same.fresh _ ha8
 have fa8:upd H7 a8 (.tup [V.str "AB",V.str "C"]) a8=some (.tup [V.str "AB",V.str "C"]):=upd_same
 have na8:=ne_st st7 ha8
 have st8:=s8 _ _ st7
 replace fa1:=s8 _ _ fa1
 replace fa2:=s8 _ _ fa2
 replace fa3:=s8 _ _ fa3
 replace fa4:=s8 _ _ fa4
 replace fa5:=s8 _ _ fa5
 replace fa6:=s8 _ _ fa6
 replace fa7:=s8 _ _ fa7
 have t8:=t7.trans s8
 generalize upd H7 a8 (.tup [V.str "AB",V.str "C"])=H8 at *
 refine⟨(by show 10<=sizeLine;decide),fun o1 ho1=>?_⟩
 have s9:Same H8 (upd H8 o1 (.lst [V.ref a1,V.ref a2,V.ref a3,V.ref a4,V.ref a5,V.str "AB",V.non,V.ref a6,V.ref a7,V.ref a8])):=Same.fresh _ ho1
 have fo1:upd H8 o1 (.lst [V.ref a1,V.ref a2,V.ref a3,V.ref a4,V.ref a5,V.str "AB",V.non,V.ref a6,V.ref a7,V.ref a8]) o1=some (.lst [V.ref a1,V.ref a2,V.ref a3,V.ref a4,V.ref a5,V.str "AB",V.non,V.ref a6,V.ref a7,V.ref a8]):=upd_same
 have no1:=ne_st st8 ho1
 have st9:=s9 _ _ st8
 replace fa1:=s9 _ _ fa1
 replace fa2:=s9 _ _ fa2
 replace fa3:=s9 _ _ fa3
 replace fa4:=s9 _ _ fa4
 replace fa5:=s9 _ _ fa5
 replace fa6:=s9 _ _ fa6
 replace fa7:=s9 _ _ fa7
 replace fa8:=s9 _ _ fa8
 have t9:=t8.trans s9
 generalize upd H8 o1 (.lst [V.ref a1,V.ref a2,V.ref a3,V.ref a4,V.ref a5,V.str "AB",V.non,V.ref a6,V.ref a7,V.ref a8])=H9 at *
 refine⟨_,rfl,(by show 0<=sizeLine;decide),fun b1 hb1=>?_⟩
 have s10:Same H9 (upd H9 b1 (.lst [])):=Same.fresh _ hb1
 have fb1:upd H9 b1 (.lst []) b1=some (.lst []):=upd_same
 have nb1:=ne_st st9 hb1
 have st10:=s10 _ _ st9
 replace fa1:=s10 _ _ fa1
 replace fa2:=s10 _ _ fa2
 replace fa3:=s10 _ _ fa3
 replace fa4:=s10 _ _ fa4
 replace fa5:=s10 _ _ fa5
 replace fa6:=s10 _ _ fa6
 replace fa7:=s10 _ _ fa7
 replace fa8:=s10 _ _ fa8
 replace fo1:=s10 _ _ fo1
 have t10:=t9.trans s10
 generalize upd H9 b1 (.lst [])=H10 at *
 refine⟨(by show 2<=sizeLine;decide),fun b2 hb2=>?_⟩
 have s11:Same H10 (upd H10 b2 (.tup [V.ref b1,V.str "A"])):=Same.fresh _ hb2
 have fb2:upd H10 b2 (.tup [V.ref b1,V.str "A"]) b2=some (.tup [V.ref b1,V.str "A"]):=upd_same
 have nb2:=ne_st st10 hb2
 have st11:=s11 _ _ st10
 replace fa1:=s11 _ _ fa1
 replace fa2:=s11 _ _ fa2
 replace fa3:=s11 _ _ fa3
 replace fa4:=s11 _ _ fa4
 replace fa5:=s11 _ _ fa5
 replace fa6:=s11 _ _ fa6
 replace fa7:=s11 _ _ fa7
 replace fa8:=s11 _ _ fa8
 replace fo1:=s11 _ _ fo1
 replace fb1:=s11 _ _ fb1
 have t11:=t10.trans s11
 generalize upd H10 b2 (.tup [V.ref b1,V.str "A"])=H11 at *
 refine fun b3 hb3=>?_
 have s12:Same H11 (upd H11 b3 (.dK [])):=Same.fresh _ hb3
 have fb3:upd H11 b3 (.dK []) b3=some (.dK []):=upd_same
 have nb3:=ne_st st11 hb3
 have st12:=s12 _ _ st11
 replace fa1:=s12 _ _ fa1
 replace fa2:=s12 _ _ fa2
 replace fa3:=s12 _ _ fa3
 replace fa4:=s12 _ _ fa4
 replace fa5:=s12 _ _ fa5
 replace fa6:=s12 _ _ fa6
 replace fa7:=s12 _ _ fa7
 replace fa8:=s12 _ _ fa8
 replace fo1:=s12 _ _ fo1
 replace fb1:=s12 _ _ fb1
 replace fb2:=s12 _ _ fb2
 have t12:=t11.trans s12
 generalize upd H11 b3 (.dK [])=H12 at *
 refine⟨(by show 2<=sizeLine;decide),fun o2 ho2=>?_⟩
 have s13:Same H12 (upd H12 o2 (.lst [V.ref b2,V.ref b3])):=Same.fresh _ ho2
 have fo2:upd H12 o2 (.lst [V.ref b2,V.ref b3]) o2=some (.lst [V.ref b2,V.ref b3]):=upd_same
 have no2:=ne_st st12 ho2
 have st13:=s13 _ _ st12
 replace fa1:=s13 _ _ fa1
 replace fa2:=s13 _ _ fa2
 replace fa3:=s13 _ _ fa3
 replace fa4:=s13 _ _ fa4
 replace fa5:=s13 _ _ fa5
 replace fa6:=s13 _ _ fa6
 replace fa7:=s13 _ _ fa7
 replace fa8:=s13 _ _ fa8
 replace fo1:=s13 _ _ fo1
 replace fb1:=s13 _ _ fb1
 replace fb2:=s13 _ _ fb2
 replace fb3:=s13 _ _ fb3
 have t13:=t12.trans s13
 generalize upd H12 o2 (.lst [V.ref b2,V.ref b3])=H13 at *
 refine⟨o1,o2,_,_,rfl,rfl,fo1,fo2,(by show 12<=sizeLine;decide),fun o3 ho3=>?_⟩
 have s14:Same H13 (upd H13 o3 (HO.lst ([V.ref a1,V.ref a2,V.ref a3,V.ref a4,V.ref a5,V.str "AB",V.non,V.ref a6,V.ref a7,V.ref a8]++[V.ref b2,V.ref b3]))):=Same.fresh _ ho3
 have fo3:upd H13 o3 (HO.lst ([V.ref a1,V.ref a2,V.ref a3,V.ref a4,V.ref a5,V.str "AB",V.non,V.ref a6,V.ref a7,V.ref a8]++[V.ref b2,V.ref b3])) o3=some (HO.lst ([V.ref a1,V.ref a2,V.ref a3,V.ref a4,V.ref a5,V.str "AB",V.non,V.ref a6,V.ref a7,V.ref a8]++[V.ref b2,V.ref b3])):=upd_same
 have no3:=ne_st st13 ho3
 have st14:=s14 _ _ st13
 replace fa1:=s14 _ _ fa1
 replace fa2:=s14 _ _ fa2
 replace fa3:=s14 _ _ fa3
 replace fa4:=s14 _ _ fa4
 replace fa5:=s14 _ _ fa5
 replace fa6:=s14 _ _ fa6
 replace fa7:=s14 _ _ fa7
 replace fa8:=s14 _ _ fa8
 replace fo1:=s14 _ _ fo1
 replace fb1:=s14 _ _ fb1
 replace fb2:=s14 _ _ fb2
 replace fb3:=s14 _ _ fb3
 replace fo2:=s14 _ _ fo2
 have t14:=t13.trans s14
 generalize upd H13 o3 (HO.lst ([V.ref a1,V.ref a2,V.ref a3,V.ref a4,V.ref a5,V.str "AB",V.non,V.ref a6,V.ref a7,V.ref a8]++[V.ref b2,V.ref b3]))=H14 at *
 have str1:∀(H:Hp) (y:V) (zs:List Str),y∈zs.map V.str->(∀z∈zs,Tx z)->KnN 0 H y:=fun H y zs hy h=>by
  obtain⟨z,hz,rfl⟩:=List.mem_map.mp hy
  exact kn_str0 (h z hz)
 have k12:∀x∈[V.ref a1,V.ref a2,V.ref a3,V.ref a4,V.ref a5,V.str "AB",V.non,V.ref a6,V.ref a7,V.ref a8,V.ref b2,V.ref b3],KnN 1 H14 x:=fun x hx=>by
  simp only[List.mem_cons,List.not_mem_nil,or_false]at hx
  rcases hx with rfl|rfl|rfl|rfl|rfl|rfl|rfl|rfl|rfl|rfl|rfl|rfl
  .exact kn_tup0 fa1 (by decide) fun y hy=>str1 _ y [Str.ofString "B",Str.ofString "A"] hy fun z hz=>by
    simp only[List.mem_cons,List.not_mem_nil,or_false]at hz
    rcases hz with rfl|rfl<;>exact txL (by decide +kernel)
  .exact kn_tup0 fa2 (by decide) fun y hy=>str1 _ y [Str.ofString "a",Str.ofString "b"] hy fun z hz=>by
    simp only[List.mem_cons,List.not_mem_nil,or_false]at hz
    rcases hz with rfl|rfl<;>exact txL (by decide +kernel)
  .exact kn_tup0 fa3 (by decide) fun y hy=>str1 _ y [Str.ofString "A"] hy fun z hz=>by
    simp only[List.mem_cons,List.not_mem_nil,or_false]at hz
    rcases hz with rfl<;>exact txL (by decide +kernel)
  .exact kn_tup0 fa4 (by decide) fun y hy=>str1 _ y [Str.ofString "A",Str.ofString "A",Str.ofString "A"] hy fun z hz=>by
    simp only[List.mem_cons,List.not_mem_nil,or_false]at hz
    rcases hz with rfl|rfl|rfl<;>exact txL (by decide +kernel)
  .exact kn_lst0 fa5
  .exact kn_str0 (txL (by decide +kernel))
  .exact kn_non0
  .exact kn_tup0 fa6 (by decide) fun y hy=>str1 _ y [Str.ofString "",Str.ofString "A"] hy fun z hz=>by
    simp only[List.mem_cons,List.not_mem_nil,or_false]at hz
    rcases hz with rfl|rfl<;>exact txL (by decide +kernel)
  .exact kn_tup0 fa7 (by decide) fun y hy=>by
    simp only[List.mem_cons,List.not_mem_nil,or_false]at hy
    rcases hy with rfl|rfl<;>exact kn_int0 _
  .exact kn_tup0 fa8 (by decide) fun y hy=>str1 _ y [Str.ofString "AB",Str.ofString "C"] hy fun z hz=>by
    simp only[List.mem_cons,List.not_mem_nil,or_false]at hz
    rcases hz with rfl|rfl<;>exact txL (by decide +kernel)
  .exact kn_tup0 fb2 (by show 2<=60;omega) fun y hy=>by
    simp only[List.mem_cons,List.not_mem_nil,or_false]at hy
    rcases hy with rfl|rfl
    .exact kn_lst0 fb1
    .exact kn_str0 (txL (by decide +kernel))
  .exact kn_dK0 fb3
 have fo3':H14 o3=some (.lst [V.ref a1,V.ref a2,V.ref a3,V.ref a4,V.ref a5,V.str "AB",V.non,V.ref a6,V.ref a7,V.ref a8,V.ref b2,V.ref b3]):=fo3
 clear fo3
 have hpa1:=t14 _ _ hpa
 have hpk1:∀y∈ps,KnN 1 H14 y:=fun y hy=>(hpk y hy).same t14
 refine⟨_,rfl,st,n0,4,rfl,st14,hn0,by decide,by decide,fun n1 i1 hn1 h10 h14=>?_⟩
 have su:upd H14 st (.lst n1) st=some (.lst n1):=upd_same
 have exu:Ex [st] H14 (upd H14 st (.lst n1)):=Ex.upd (by simp)
 have lu:=Lk.of_ex exu st14 su
 replace fo3':=exu.at no3 fo3'
 replace hpa1:=lu.tup hpa1
 replace hpk1:∀y∈ps,KnN 1 _ y:=fun y hy=>(hpk1 y hy).lk lu
 replace k12:∀x∈[V.ref a1,V.ref a2,V.ref a3,V.ref a4,V.ref a5,V.str "AB",V.non,V.ref a6,V.ref a7,V.ref a8,V.ref b2,V.ref b3],KnN 1 _ x:=fun x hx=>(k12 x hx).lk lu
 have exU:=(Ex.of_same (W:=[st]) t14).trans exu
 generalize upd H14 st (.lst n1)=HU at *
 have kps:KnN 2 HU (.ref pa):=kn_tup0 hpa1 (by omega) hpk1
 obtain⟨j1,rfl⟩:∃j1:Nat,i1=j1:=Int.eq_ofNat_of_zero_le h10
 have hj:j1=0\/j1=1\/j1=2\/j1=3:=by omega
 rcases hj with rfl|rfl|rfl|rfl
 .refine⟨_,rfl,rfl,_,rfl,iteT ?_⟩
  refine⟨_,rfl,_,rfl,_,rfl,st,n1,12,rfl,su,hn1,by decide,by decide,fun n2 i2 hn2 h20 h22=>?_⟩
  obtain⟨x,hx,hm⟩:=pick (α:=V) (xs:=[V.ref a1,V.ref a2,V.ref a3,V.ref a4,V.ref a5,V.str "AB",V.non,V.ref a6,V.ref a7,V.ref a8,V.ref b2,V.ref b3]) h20 h22
  have sv:upd HU st (.lst n2) st=some (.lst n2):=upd_same
  have exv:Ex [st] HU (upd HU st (.lst n2)):=Ex.upd (by simp)
  have lv:=Lk.of_ex exv su sv
  have fo4:=exv.at no3 fo3'
  have hpa2:=lv.tup hpa1
  have hpk2:∀y∈ps,KnN 1 _ y:=fun y hy=>(hpk1 y hy).lk lv
  have kx:KnN 1 _ x:=(k12 x hm).lk lv
  refine⟨o3,_,i2,x,rfl,rfl,SqL.of fo4,hx,(by show 1<=sizeLine;decide),fun t ht=>?_⟩
  have exV:=exU.trans exv
  generalize upd HU st (.lst n2)=HV at *
  have s3:Same HV (upd HV t (.tup [x])):=Same.fresh _ ht
  have ft:upd HV t (.tup [x]) t=some (.tup [x]):=upd_same
  have sv3:=s3 _ _ sv
  have ex3:=exV.trans (Ex.of_same (W:=[st]) s3)
  replace hpa2:=s3 _ _ hpa2
  replace hpk2:∀y∈ps,KnN 1 _ y:=fun y hy=>(hpk2 y hy).same s3
  replace kx:=kx.same s3
  generalize upd HV t (.tup [x])=HW at *
  refine⟨pa,t,ps,[x],rfl,rfl,SqT.of hpa2,SqT.of ft,Nat.le_of_lt (small1000 (by show ps.length+1<=1000;omega)),fun _=>?_,(fun _ e=>by cases e),fun _ _ p hp=>?_⟩
  .exact q _ HW n2 ex3 sv3 hn2 (kn_tup0 ft (by show 1<=60;omega) fun y hy=>by rw[List.mem_singleton.mp hy];exact kx)
  .have s4:Same HW (upd HW p (.tup (ps++[x]))):=Same.fresh _ hp
   refine q _ _ n2 (ex3.trans (Ex.of_same s4)) (s4 _ _ sv3) hn2 (kn_tup0 upd_same (by rw[List.length_append];show ps.length+1<=60;omega) fun y hy=>?_)
   rcases List.mem_append.mp hy with h|h
   .exact(hpk2 y h).same s4
   .rw[List.mem_singleton.mp h];exact kx.same s4
 .refine⟨_,rfl,rfl,_,rfl,iteF ?_⟩
  refine⟨_,rfl,rfl,_,rfl,iteT ?_⟩
  refine⟨_,rfl,pa,ps,rfl,.inr (SqT.of hpa1),fun l hl=>?_⟩
  have s3:Same HU (upd HU l (.lst ps)):=Same.fresh _ hl
  exact q _ _ n1 (exU.trans (Ex.of_same s3)) (s3 _ _ su) hn1 (kn_lst0 upd_same)
 .refine⟨_,rfl,rfl,_,rfl,iteF ?_⟩
  refine⟨_,rfl,rfl,_,rfl,iteF ?_⟩
  refine⟨_,rfl,rfl,_,rfl,iteT ?_⟩
  have two:∀(HV:Hp) (e:Addr) (es:List V),Same HU HV->HV e=some (.tup es)->es.length<=3->(∀y∈es,KnN 1 HV y)->rCatA K (.ref pa) (.ref e) HV Q:=fun HV e es sV he hel hek=>by
   have hpa2:=sV _ _ hpa1
   refine⟨pa,e,ps,es,rfl,rfl,SqT.of hpa2,SqT.of he,Nat.le_of_lt (small1000 (by omega)),fun _=>?_,fun _ _=>?_,fun _ _ p hp=>?_⟩
   .exact q _ HV n1 (exU.trans (Ex.of_same sV)) (sV _ _ su) hn1 (kn_tup0 he (by omega) hek)
   .exact q _ HV n1 (exU.trans (Ex.of_same sV)) (sV _ _ su) hn1 (kps.same sV)
   .have s4:Same HV (upd HV p (.tup (ps++es))):=Same.fresh _ hp
    refine q _ _ n1 ((exU.trans (Ex.of_same sV)).trans (Ex.of_same s4)) (s4 _ _ (sV _ _ su)) hn1 (kn_tup0 upd_same (by rw[List.length_append];omega) fun y hy=>?_)
    rcases List.mem_append.mp hy with h|h
    .exact((hpk1 y h).same sV).same s4
    .exact(hek y h).same s4
  refine⟨_,rfl,_,rfl,_,rfl,pa,ps,rfl,SqT.of hpa1,fun _=>?_,fun _ e he=>?_⟩
  .exact two HU pa ps (Same.refl HU) hpa1 hps hpk1
  .have s3:Same HU (upd HU e (.tup (cutV ps none (some 1)))):=Same.fresh _ he
   exact two _ e _ s3 upd_same (Nat.le_trans (cutV_length _ _ _) hps) fun y hy=>(hpk1 y (cut_mem' hy)).same s3
 .refine⟨_,rfl,rfl,_,rfl,iteF ?_⟩
  refine⟨_,rfl,rfl,_,rfl,iteF ?_⟩
  refine⟨_,rfl,rfl,_,rfl,iteF ?_⟩
  refine⟨(by show 2<=sizeLine;decide),fun y1 hy1=>?_⟩
  have s3:Same HU (upd HU y1 (.tup [V.str "Y",V.str "Z"])):=Same.fresh _ hy1
  have fy1:upd HU y1 (.tup [V.str "Y",V.str "Z"]) y1=some (.tup [V.str "Y",V.str "Z"]):=upd_same
  generalize upd HU y1 (.tup [V.str "Y",V.str "Z"])=HV at *
  refine⟨(by show 1<=sizeLine;decide),fun y2 hy2=>?_⟩
  have s4:Same HV (upd HV y2 (.tup [V.ref y1])):=Same.fresh _ hy2
  have fy2:upd HV y2 (.tup [V.ref y1]) y2=some (.tup [V.ref y1]):=upd_same
  replace fy1:=s4 _ _ fy1
  generalize upd HV y2 (.tup [V.ref y1])=HW at *
  have s34:=s3.trans s4
  have ky:∀y∈[V.ref y1],KnN 1 HW y:=fun y hy=>by
   rw[List.mem_singleton.mp hy]
   exact kn_tup0 fy1 (by decide) fun y hy=>str1 _ y [Str.ofString "Y",Str.ofString "Z"] hy fun z hz=>by
    simp only[List.mem_cons,List.not_mem_nil,or_false]at hz
    rcases hz with rfl|rfl<;>exact txL (by decide +kernel)
  refine⟨_,rfl,y2,pa,[V.ref y1],ps,rfl,rfl,SqT.of fy2,SqT.of (s34 _ _ hpa1),(fun e=>by cases e),Nat.le_of_lt (small1000 (by show 1+ps.length<=1000;omega)),fun _=>?_,fun _ p hp=>?_⟩
  .exact q _ HW n1 (exU.trans (Ex.of_same s34)) (s34 _ _ su) hn1 (kn_tup0 fy2 (by show 1<=60;omega) ky)
  .have s5:Same HW (upd HW p (.tup ([V.ref y1]++ps))):=Same.fresh _ hp
   refine q _ _ n1 ((exU.trans (Ex.of_same s34)).trans (Ex.of_same s5)) (s5 _ _ (s34 _ _ su)) hn1 (kn_tup0 upd_same (by rw[List.length_append];show 1+ps.length<=60;omega) fun y hy=>?_)
   rcases List.mem_append.mp hy with h|h
   .exact(ky y h).same s5
   .exact((hpk1 y h).same s34).same s5
end
noncomputable def PzA(st:Addr)(H:Hp)(v:V):Prop:=∀a f k p b xs,v=.ref a->H a=some (.tup [f,k,p])->k=.ref b->H b=some (.tup xs)->∀x∈xs,DtS st H x
theorem PzA.pzd{st:Addr}{H:Hp}{v:V}(h:PzA st H v):PzD H v:=fun a f k p b xs e ha e2 hb x hx=>(h a f k p b xs e ha e2 hb x hx).dtk
theorem itms_strs{H:Hp}{zs:List Str}(h:∀z∈zs,Tx z):Itms H (zs.map V.str) (zs.map some):=
 ⟨by rw[List.length_map,List.length_map],fun i v o e e'=>by
  rw[List.getElem?_map]at e e'
  obtain⟨z,hz,rfl⟩:=Option.map_eq_some_iff.mp e
  obtain⟨z',hz',rfl⟩:=Option.map_eq_some_iff.mp e'
  rw[hz]at hz'
  cases hz'
  exact⟨rfl,h z (List.mem_of_getElem? hz)⟩⟩
theorem thing_strs{H:Hp}{a:Addr}{zs:List Str}(ha:H a=some (.tup (zs.map V.str)))(hl:zs.length<=500)(h:∀z∈zs,Tx z):∃T,Thing H (.ref a) T:=
 ⟨some (zs.map some),by rw[List.length_map];exact hl,a,_,rfl,ha,itms_strs h⟩
theorem KindW.up5{H:Hp}{x:V}(h:KindW H x):KnN 4 H x:=by
 obtain⟨b,z,i,m,mo,fm,fx,rfl,hb,h1,h2,h3,h4,hf,h5,h6,h7⟩:=h
 refine kn_tup0 hb (by show 5<=60;omega) fun y hy=>?_
 simp only[List.mem_cons,List.not_mem_nil,or_false]at hy
 rcases hy with rfl|rfl|rfl|rfl|rfl
 .exact kn_str0 h1
 .exact kn_int0 i
 .rcases h3 with rfl|⟨j,rfl⟩
  .exact kn_non0
  .exact kn_int0 j
 .exact kn_str0 h4
 .exact kn_tup0 hf (by omega) fun y hy=>(h7 y hy).1
theorem catA_any{K:PySem.W.Frag}{H:Hp}{a b:Addr}{xs ys:List V}{Q:VK}(ha:H a=some (.tup xs))(hb:H b=some (.tup ys))(hl:xs.length+ys.length<=1000)(q:∀c H',Same H H'->H' c=some (.tup (xs++ys))->Q (.ref c) H'):rCatA K (.ref a) (.ref b) H Q:=
 ⟨a,b,xs,ys,rfl,rfl,SqT.of ha,SqT.of hb,Nat.le_of_lt (small1000 hl),fun e=>q b H (Same.refl H) (by rw[e];exact hb),fun _ e=>q a H (Same.refl H) (by rw[e,List.append_nil];exact ha),fun _ _ p hp=>q p _ (Same.fresh _ hp) upd_same⟩
theorem catT_any{K:PySem.W.Frag}{H:Hp}{a b:Addr}{xs ys:List V}{Q:VK}(ha:H a=some (.tup xs))(hb:H b=some (.tup ys))(h0:0<xs.length)(hl:xs.length+ys.length<=1000)(q:∀c H',Same H H'->H' c=some (.tup (xs++ys))->Q (.ref c) H'):rCatT K (.ref a) (.ref b) H Q:=
 ⟨a,b,xs,ys,rfl,rfl,SqT.of ha,SqT.of hb,(fun e=>by rw[e]at h0;exact absurd h0 (by decide)),Nat.le_of_lt (small1000 hl),fun e=>q a H (Same.refl H) (by rw[e,List.append_nil];exact ha),fun _ p hp=>q p _ (Same.fresh _ hp) upd_same⟩
theorem slT2_any{K:PySem.W.Frag}{H:Hp}{a:Addr}{xs:List V}{lo hi:Option Int}{Q:VK}(ha:H a=some (.tup xs))(q:∀c H',Same H H'->H' c=some (.tup (cutV xs lo hi))->Q (.ref c) H'):rSlT2 K (.ref a) lo hi H Q:=
 ⟨a,xs,rfl,SqT.of ha,fun hw=>q a H (Same.refl H) (by
  have e:cutV xs lo hi=xs:=by
   unfold cutV
   rw[hw.1,hw.2,Nat.sub_zero,List.drop_zero,List.take_length]
  rw[e];exact ha),fun _ p hp=>q p _ (Same.fresh _ hp) upd_same⟩
section
variable{P:Program}{w:World}{K:PySem.W.Frag}{mg:Str->Option Value}{base:Heap}{f:Addr}{fd:FuncData}
noncomputable def spSpoilt:Sp:=fun vs H Q _=>∃(st a:Addr) (n:List V),vs=[.ref st,.ref a]/\H st=some (.lst n)/\StL n/\PzW H (.ref a)/\∀(v:V) (H':Hp) (n':List V),Ex [st] H H'->H' st=some (.lst n')->StL n'->Pz H' v->PzA st H' v->Q v H'
theorem scSpoilt:FnScope ["_law_state_here","_law_puzzle_here","_law_floor_here","_law_kinds","_law_some","_law_way","_law_spot"] ["_law_state_here","_law_puzzle_here"] (defScope sSpoilt):=⟨rfl,rfl,rfl,by decide +kernel,rfl,by decide +kernel,by decide +kernel⟩
theorem ok_spoilt(B:∀x∈blts,mg x=none)(Fnext:FnNext P w K mg base)(Flok:Fn P w K mg base "_law_odd_kind" 2 ["_law_state_here","_law_kind_here"] spLok)(Flop:Fn P w K mg base "_law_odd_pairs" 2 ["_law_state_here","_law_some"] spLop)
  (F:Fun K "_law_spoilt" "_law_spoilt" sSpoilt f fd):FnOk P w K mg base CX0 3 f fd ["_law_state_here","_law_puzzle_here"] spSpoilt:=by
 refine F.ok (k:=2) scSpoilt (fun vs H Q E h=>?_) (fun cdv A outer s H vs Q E hr h=>?_)
 .obtain⟨st,a,n,rfl,_⟩:=h
  rfl
 obtain⟨st,a,n,rfl,hst,hn,pw,q⟩:=h
 refine⟨_,(pss_cons (ps_asg (pv 1) (pg_tup (n:=3) rfl (pgs_cons (pg_name (i:=2) scSpoilt.nd rfl (Or.inl rfl)) (pgs_cons (pg_name (i:=3) scSpoilt.nd rfl (Or.inl rfl)) (pgs_cons (pg_name (i:=4) scSpoilt.nd rfl (Or.inl rfl)) pgs_nil)))))
  (pss_cons (ps_set (i:=5) scSpoilt.nd rfl (Or.inl rfl) (pe_fn Fnext hr (by decide) rfl (pa_c (pv 0) (pa_c pe_int pa_nil))))
  (pss_cons (ps_set (i:=6) scSpoilt.nd rfl (Or.inl rfl) (pe_fn Fnext hr (by decide) rfl (pa_c (pv 0) (pa_c (pe_cB call_len_seq rfl (B "len" (by decide)) PySem.boot_len (pa_c (pv 3) pa_nil)) pa_nil))))
  (pss_cons (ps_if (pt_cmpR op_lt (pv 5) pe_int (nomark _)) (pss_one (ps_set (i:=3) scSpoilt.nd rfl (Or.inl rfl) (pe_op op_catA (pe_op op_catA (pe_slice sl_tup2 (pv 3) po_none (po_some (pv 6))) (pe_tup (pa_c (pe_fn Flok hr (by decide) rfl (pa_c (pv 0) (pa_c (pe_ix ix_tup (pv 3) (pv 6) (fun _ _=>rfl)) pa_nil))) pa_nil))) (pe_slice sl_tup2 (pv 3) (po_some (pe_op op_add (pv 6) pe_int)) po_none)))) pss_nil)
  (pss_cons (ps_if (pt_cmpR op_eq (pv 5) pe_int (nomark _)) (pss_one (ps_set (i:=3) scSpoilt.nd rfl (Or.inl rfl) (pe_ix ix_list (pe_lst (pa_c (pe_tup pa_nil) (pa_c (pe_op op_catT (pv 3) (pe_slice sl_tup2 (pv 3) po_none (po_some pe_int))) (pa_c (pe_slice sl_tup2 (pe_op op_rep7 (pv 3) pe_int) po_none (po_some pe_int)) (pa_c (pe_cT call_list_of rfl (B "list" (by decide)) boot_list (pa_c (pv 3) pa_nil)) (pa_c (pe_ix ix_tup (pv 3) (pv 6) (fun _ _=>rfl)) pa_nil)))))) (pe_fn Fnext hr (by decide) rfl (pa_c (pv 0) (pa_c pe_int pa_nil))) (fun _ _=>rfl)))) pss_nil)
  (pss_cons (ps_if (pt_cmpR op_eq (pv 5) pe_int (nomark _)) (pss_one (ps_set (i:=4) scSpoilt.nd rfl (Or.inl rfl) (pe_fn Flop hr (by decide) rfl (pa_c (pv 0) (pa_c (pv 4) pa_nil))))) pss_nil)
  (pss_cons (ps_if (pt_cmpR op_eq (pv 5) pe_int (nomark _)) (pss_one (ps_set (i:=2) scSpoilt.nd rfl (Or.inl rfl) (pe_ix ix_list (pe_lst (pa_c (pe_cT call_list_of rfl (B "list" (by decide)) boot_list (pa_c (pv 2) pa_nil)) (pa_c (pe_op op_catT (pv 2) (pe_tup (pa_c pe_str pa_nil))) (pa_c (pe_op op_catT (pv 2) (pe_slice sl_tup2 (pv 2) po_none (po_some pe_int))) (pa_c (pe_tup pa_nil) (pa_c pe_non (pa_c (pe_bm PySem.F.plainAttrs_str PySem.F.slot_str_join PySem.F.type_str_join mt_joinT pe_str (pa_c (pv 2) pa_nil)) pa_nil))))))) (pe_fn Fnext hr (by decide) rfl (pa_c (pv 0) (pa_c pe_int pa_nil))) (fun _ _=>rfl)))) pss_nil)
  (pss_cons (ps_if (pt_cmpR op_eq (pv 5) pe_int (nomark _)) (pss_one (ps_ret (pe_ix ix_list (pe_lst (pa_c (pe_lst (pa_c (pv 2) (pa_c (pv 3) (pa_c (pv 4) pa_nil)))) (pa_c (pe_tup (pa_c (pv 2) (pa_c (pv 3) pa_nil))) (pa_c (pe_op op_catT (pv 1) (pe_tup (pa_c pe_int pa_nil))) (pa_c pe_non (pa_c pe_int (pa_c pe_str (pa_c (pv 2) (pa_c pe_dict0 pa_nil))))))))) (pe_fn Fnext hr (by decide) rfl (pa_c (pv 0) (pa_c pe_int pa_nil))) (fun _ _=>rfl)))) pss_nil)
  (pss_one (ps_ret (pe_tup (pa_c (pv 2) (pa_c (pv 3) (pa_c (pv 4) pa_nil)))))))))))))),?_⟩
 obtain⟨a',fa,ka,pa,zs,ks,ps,e,ha,hf,rw,hk,k1,k6,kk,hp,p3,pk⟩:=pw
 cases e
 refine⟨_,rfl,a,_,rfl,SqT.of ha,rfl,?_⟩
 refine⟨_,_,rfl,_,_,rfl,_,_,rfl,rfl,?_⟩
 refine⟨_,rfl,st,n,7,rfl,hst,hn,by decide,by decide,fun n1 i1 hn1 h10 h17=>?_⟩
 have st1:upd H st (.lst n1) st=some (.lst n1):=upd_same
 have ex1:Ex [st] H (upd H st (.lst n1)):=Ex.upd (by simp)
 have lk1:=Lk.of_ex ex1 hst st1
 generalize upd H st (.lst n1)=H1 at *
 refine⟨_,rfl,_,rfl,ka,ks,rfl,.inr (SqT.of (lk1.tup hk)),st,n1,_,rfl,st1,hn1,by omega,by omega,fun n2 i2 hn2 h20 h22=>?_⟩
 have st2:upd H1 st (.lst n2) st=some (.lst n2):=upd_same
 have ex2:Ex [st] H1 (upd H1 st (.lst n2)):=Ex.upd (by simp)
 have lk2:=Lk.of_ex ex2 st1 st2
 have ex12:=ex1.trans ex2
 have ha2:=lk2.tup (lk1.tup ha)
 have hf2:=lk2.tup (lk1.tup hf)
 have hk2:=lk2.tup (lk1.tup hk)
 have hp2:=lk2.tup (lk1.tup hp)
 have kk2:∀x∈ks,KindW _ x:=fun x hx=>((kk x hx).lk lk1).lk lk2
 have pk2:∀y∈ps,KnN 1 _ y:=fun y hy=>((pk y hy).lk lk1).lk lk2
 generalize upd H1 st (.lst n2)=H2 at *
 obtain⟨j1,rfl⟩:∃j1:Nat,i1=j1:=Int.eq_ofNat_of_zero_le h10
 obtain⟨sp,rfl⟩:∃sp:Nat,i2=sp:=Int.eq_ofNat_of_zero_le h20
 have hsp:sp<ks.length:=by omega
 have neI:∀{a b:Int},a≠b->decide (V.int a=V.int b)=false:=fun h=>decide_eq_false fun e=>h (by injection e)
 have thF:∀H3,Lk H2 H3->∃T,Thing H3 (.ref fa) T:=fun H3 l=>thing_strs (l.tup hf2) (by have:=rw.2.1;omega) fun z hz=>(rw.2.2 z hz).1
 have kK:∀H3,Lk H2 H3->KnN 4 H3 (.ref ka):=fun H3 l=>kn_tup0 (l.tup hk2) (by omega) fun x hx=>((kk2 x hx).lk l).kn
 have dK:∀H3,Lk H2 H3->∀b xs,V.ref ka=.ref b->H3 b=some (.tup xs)->∀x∈xs,DtS st H3 x:=fun H3 l b xs e hb x hx=>by
  cases e
  rw[l.tup hk2]at hb
  cases hb
  exact((kk2 x hx).lk l).dts
 have kP:∀H3,Lk H2 H3->KnN 2 H3 (.ref pa):=fun H3 l=>kn_tup0 (l.tup hp2) (by omega) fun y hy=>(pk2 y hy).lk l
 have fin:∀(H3:Hp) (n3:List V) (fv kv pv:V) (t:Addr),Ex [st] H H3->H3 st=some (.lst n3)->StL n3->H3 t=none->(∃T,Thing H3 fv T)->KnN 4 H3 kv->(∀b xs,kv=.ref b->H3 b=some (.tup xs)->∀x∈xs,DtS st H3 x)->KnN 2 H3 pv->Q (.ref t) (upd H3 t (.tup [fv,kv,pv])):=fun H3 n3 fv kv pv t ex st3 hn3 ht ⟨T,hT⟩ k4 d4 k2=>by
  have s3:Same H3 (upd H3 t (.tup [fv,kv,pv])):=Same.fresh _ ht
  refine q _ _ n3 (ex.trans (Ex.of_same s3)) (s3 _ _ st3) hn3 ⟨.inr (.inr (.inr (.inr ⟨t,rfl,.inr (.inl ⟨_,upd_same⟩)⟩))),fun a' xs e ha'=>?_⟩ (fun a' f' k' p' b xs e ha' e2 hb x hx=>?_)
  .cases e
   rw[upd_same]at ha'
   cases ha'
   exact⟨by show 3<=60;omega,fun f' k' p' e=>by cases e;exact⟨⟨T,hT.same s3⟩,k4.same s3,k2.same s3⟩⟩
  .cases e
   rw[upd_same]at ha'
   cases ha'
   subst e2
   have hb3:=kn_back s3 k4.kn hb
   exact(d4 b xs rfl hb3 x hx).ex (Ex.of_same s3) st3 (s3 _ _ st3) ((k4.2 b xs rfl hb3).2 x hx).kn
 have l22:Lk H2 H2:=Lk.of_same (Same.refl H2)
 have hj:j1<3\/j1=3\/j1=4\/j1=5\/j1=6:=by omega
 rcases hj with hj|rfl|rfl|rfl|rfl
 .
  refine⟨_,rfl,_,_,rfl,rfl,_,rfl,?_⟩
  rw[show decide (((j1:Nat):Int)<3)=true from decide_eq_true (by omega)]
  refine iteT ?_
  refine⟨_,rfl,_,rfl,_,rfl,slT2_any hk2 fun c1 H3 s3 hc1=>?_⟩
  have hat:atI ks ((sp:Nat):Int)=some ks[sp]:=atI_nat (List.getElem?_eq_getElem hsp)
  have kws:=kk2 _ (List.getElem_mem hsp)
  obtain⟨b,eb⟩:∃b,ks[sp]=.ref b:=by
   obtain⟨b,_,_,_,_,_,_,e,_⟩:=kws
   exact⟨b,e⟩
  rw[eb]at hat kws
  refine⟨_,rfl,_,rfl,_,rfl,ka,ks,_,_,rfl,rfl,SqT.of (s3 _ _ hk2),hat,st,b,n2,rfl,s3 _ _ st2,hn2,kws.lk (Lk.of_same s3),fun v H4 n4 ex4 st4 hn4 k4 d4=>⟨(by show 1<=sizeLine;decide),fun t0 ht0=>?_⟩⟩
  have l4:=Lk.of_ex ex4 (s3 _ _ st2) st4
  have l24:Lk H2 H4:=fun x o h=>l4 x o (s3 x o h)
  have s5:Same H4 (upd H4 t0 (.tup [v])):=Same.fresh _ ht0
  have ft0:upd H4 t0 (.tup [v]) t0=some (.tup [v]):=upd_same
  generalize upd H4 t0 (.tup [v])=H5 at *
  have hc5:=s5 _ _ (l4.tup hc1)
  have cl1:=cutV_length ks none (some ((sp:Nat):Int))
  refine catA_any hc5 ft0 (by show _+1<=1000;omega) fun c2 H6 s6 hc2=>?_
  have hk6:=s6 _ _ (s5 _ _ (l24.tup hk2))
  refine⟨_,rfl,_,rfl,_,_,rfl,rfl,_,rfl,?_⟩
  dsimp only[tNoPart]
  refine slT2_any hk6 fun c3 H7 s7 hc3=>?_
  have cl2:=cutV_length ks (some (((sp:Nat):Int)+1)) none
  refine catA_any (s7 _ _ hc2) hc3 (by rw[List.length_append];show _+1+_<=1000;omega) fun c4 H8 s8 hc4=>?_
  have s48:=((s5.trans s6).trans s7).trans s8
  have l28:Lk H2 H8:=fun x o h=>by
   rcases l24 x o h with h|⟨xs,ys,e,h⟩
   .exact .inl (s48 _ _ h)
   .exact .inr ⟨xs,ys,e,s48 _ _ h⟩
  have mem:∀x∈cutV ks none (some ((sp:Nat):Int))++[v]++cutV ks (some (((sp:Nat):Int)+1)) none,KnN 3 H8 x/\DtS st H8 x:=fun x hx=>by
   have old:x∈ks->KnN 3 H8 x/\DtS st H8 x:=fun h=>⟨((kk2 x h).lk l28).kn,((kk2 x h).lk l28).dts⟩
   rcases List.mem_append.mp hx with h|h
   .rcases List.mem_append.mp h with h|h
    .exact old (cut_mem' h)
    .rw[List.mem_singleton.mp h]
     exact⟨k4.same s48,d4.ex (Ex.of_same s48) st4 (s48 _ _ st4) k4.kn⟩
   .exact old (cut_mem' h)
  refine⟨_,rfl,rfl,_,rfl,?_⟩
  rw[neI (show((j1:Nat):Int)≠3 by omega)]
  refine iteF ?_
  refine⟨_,rfl,rfl,_,rfl,?_⟩
  rw[neI (show((j1:Nat):Int)≠4 by omega)]
  refine iteF ?_
  refine⟨_,rfl,rfl,_,rfl,?_⟩
  rw[neI (show((j1:Nat):Int)≠5 by omega)]
  refine iteF ?_
  refine⟨_,rfl,rfl,_,rfl,?_⟩
  rw[neI (show((j1:Nat):Int)≠6 by omega)]
  refine iteF ?_
  refine⟨_,rfl,_,rfl,_,rfl,(by show 3<=sizeLine;decide),fun t ht=>?_⟩
  refine fin H8 n4 _ _ _ t ((ex12.trans (Ex.of_same s3)).trans (ex4.trans (Ex.of_same s48))) (s48 _ _ st4) hn4 ht (thF _ l28) (kn_tup0 hc4 (by rw[List.length_append,List.length_append];show _+1+_<=60;omega) fun x hx=>(mem x hx).1) (fun b' xs' e hb' x hx=>?_) (kP _ l28)
  cases e
  rw[hc4]at hb'
  cases hb'
  exact(mem x hx).2
 .
  refine⟨_,rfl,_,_,rfl,rfl,_,rfl,iteF ?_⟩
  refine⟨_,rfl,rfl,_,rfl,iteT ?_⟩
  refine⟨(by show 0<=sizeLine;decide),fun e1 he1=>?_⟩
  have s3:Same H2 (upd H2 e1 (.tup [])):=Same.fresh _ he1
  have fe1:upd H2 e1 (.tup []) e1=some (.tup []):=upd_same
  generalize upd H2 e1 (.tup [])=H3 at *
  refine⟨_,rfl,_,rfl,_,rfl,slT2_any (s3 _ _ hk2) fun c2 H4 s4 hc2=>?_⟩
  have t4:=s3.trans s4
  have cl1:=cutV_length ks none (some 1)
  refine catT_any (t4 _ _ hk2) hc2 k1 (by omega) fun c3 H5 s5 hc3=>?_
  have t5:=t4.trans s5
  refine⟨_,rfl,ka,ks,rfl,rfl,t5 _ _ hk2,k1,by omega,fun c4 hc4=>?_⟩
  have s6:Same H5 (upd H5 c4 (.tup (List.replicate 7 ks).flatten)):=Same.fresh _ hc4
  have fc4:upd H5 c4 (.tup (List.replicate 7 ks).flatten) c4=some (.tup (List.replicate 7 ks).flatten):=upd_same
  generalize upd H5 c4 (.tup (List.replicate 7 ks).flatten)=H6 at *
  have t6:=t5.trans s6
  refine⟨_,rfl,slT2_any fc4 fun c5 H7 s7 hc5=>?_⟩
  have t7:=t6.trans s7
  refine⟨_,rfl,ka,ks,rfl,.inr (SqT.of (t7 _ _ hk2)),fun c6 hc6=>?_⟩
  have s8:Same H7 (upd H7 c6 (.lst ks)):=Same.fresh _ hc6
  have fc6:upd H7 c6 (.lst ks) c6=some (.lst ks):=upd_same
  generalize upd H7 c6 (.lst ks)=H8 at *
  have t8:=t7.trans s8
  have hat:atI ks ((sp:Nat):Int)=some ks[sp]:=atI_nat (List.getElem?_eq_getElem hsp)
  refine⟨_,rfl,_,rfl,ka,ks,_,_,rfl,rfl,SqT.of (t8 _ _ hk2),hat,(by show 5<=sizeLine;decide),fun p hp=>?_⟩
  have st8:=t8 _ _ st2
  refine⟨_,rfl,st,n2,5,rfl,laid_st st8 hp,hn2,by decide,by decide,fun n3 i3 hn3 h30 h35=>?_⟩
  obtain⟨x,hx,hm⟩:=pick (α:=V) (xs:=[V.ref e1,V.ref c3,V.ref c5,V.ref c6,ks[sp]]) h30 h35
  obtain⟨hp3,ex9,st9⟩:=laid_draw (o:=.lst [V.ref e1,V.ref c3,V.ref c5,V.ref c6,ks[sp]]) (n':=n3) st8 hp
  have l89:=Lk.of_ex ex9 st8 st9
  have l9:Lk H2 _:=fun x o h=>l89 x o (t8 x o h)
  have nc6:=ne_st (t7 _ _ st2) hc6
  have fe1':=l89.tup ((((((s4.trans s5).trans s6).trans s7).trans s8)) _ _ fe1)
  have hc3':=l89.tup (((s6.trans s7).trans s8) _ _ hc3)
  have hc5':=l89.tup (s8 _ _ hc5)
  have fc6':=ex9.at nc6 fc6
  refine⟨p,_,i3,_,rfl,rfl,SqL.of hp3,hx,?_⟩
  have ex19:=(ex12.trans (Ex.of_same (W:=[st]) t8)).trans ex9
  generalize upd (upd H8 p _) st _=HH at *
  have kw9:∀x∈ks,KindW HH x:=fun x hx=>(kk2 x hx).lk l9
  have c5m:∀y∈cutV (List.replicate 7 ks).flatten none (some 7),y∈ks:=fun y hy=>by
   obtain⟨l,hl,hy⟩:=List.mem_flatten.mp (cut_mem' hy)
   rw[(List.mem_replicate.mp hl).2]at hy
   exact hy
  have c3m:∀y∈ks++cutV ks none (some 1),y∈ks:=fun y hy=>(List.mem_append.mp hy).elim id cut_mem'
  have l5:(cutV (List.replicate 7 ks).flatten none (some 7)).length<=60:=by
   have h1:=cutV_length (List.replicate 7 ks).flatten none (some 7)
   have h2:(List.replicate 7 ks).flatten.length=7*ks.length:=by rw[List.length_flatten,List.map_replicate,List.sum_replicate_nat]
   omega
  simp only[List.mem_cons,List.not_mem_nil,or_false]at hm
  have both:KnN 4 HH x/\∀b xs,x=.ref b->HH b=some (.tup xs)->∀y∈xs,DtS st HH y:=by
   have tup:∀(c:Addr) (xs:List V),HH c=some (.tup xs)->xs.length<=60->(∀y∈xs,y∈ks)->KnN 4 HH (.ref c)/\∀b xs,V.ref c=.ref b->HH b=some (.tup xs)->∀y∈xs,DtS st HH y:=fun c xs hc hl hm=>⟨kn_tup0 hc hl fun y hy=>(kw9 y (hm y hy)).kn,fun b' xs' e hb y hy=>by
    cases e
    rw[hc]at hb
    cases hb
    exact(kw9 y (hm y hy)).dts⟩
   rcases hm with rfl|rfl|rfl|rfl|e
   .exact tup e1 [] fe1' (by decide) fun y hy=>by cases hy
   .exact tup c3 _ hc3' (by rw[List.length_append];omega) c3m
   .exact tup c5 _ hc5' l5 c5m
   .exact⟨kn_lst0 fc6',fun b xs e hb=>by cases e;rw[fc6']at hb;cases hb⟩
   .have kw:=kw9 _ (List.getElem_mem hsp)
    rw[<-e]at kw
    refine⟨kw.up5,fun b xs e2 hb y hy=>?_⟩
    obtain⟨b',z,i,m,mo,fm,fx,e3,hb',h1,h2,h3,h4,hf',h5,h6,h7⟩:=kw
    rw[e2]at e3
    cases e3
    rw[hb]at hb'
    cases hb'
    intro a'' z'' l'' m'' md'' fm'' e4 ha''
    simp only[List.mem_cons,List.not_mem_nil,or_false]at hy
    rcases hy with rfl|rfl|rfl|rfl|rfl
    .cases e4
    .cases e4
    .rcases h3 with rfl|⟨j,rfl⟩<;>cases e4
    .cases e4
    .cases e4
     rw[hf']at ha''
     injection ha'' with q1
     injection q1 with q1
     obtain⟨c,hc⟩:=(h7 (.str z'') (by rw[q1];simp)).2
     cases hc
  refine⟨_,rfl,rfl,_,rfl,iteF ?_⟩
  refine⟨_,rfl,rfl,_,rfl,iteF ?_⟩
  refine⟨_,rfl,rfl,_,rfl,iteF ?_⟩
  refine⟨_,rfl,_,rfl,_,rfl,(by show 3<=sizeLine;decide),fun t ht=>?_⟩
  exact fin HH n3 _ _ _ t ex19 st9 hn3 ht (thF _ l9) both.1 both.2 (kP _ l9)
 .
  refine⟨_,rfl,_,_,rfl,rfl,_,rfl,iteF ?_⟩
  refine⟨_,rfl,rfl,_,rfl,iteF ?_⟩
  refine⟨_,rfl,rfl,_,rfl,iteT ?_⟩
  refine⟨_,rfl,_,rfl,st,pa,n2,ps,rfl,st2,hn2,hp2,p3,pk2,fun v H3 n3 ex3 st3 hn3 k3=>?_⟩
  refine⟨_,rfl,rfl,_,rfl,iteF ?_⟩
  refine⟨_,rfl,rfl,_,rfl,iteF ?_⟩
  refine⟨_,rfl,_,rfl,_,rfl,(by show 3<=sizeLine;decide),fun t ht=>?_⟩
  have l3:=Lk.of_ex ex3 st2 st3
  exact fin H3 n3 _ _ _ t (ex12.trans ex3) st3 hn3 ht (thF _ l3) (kK _ l3) (dK _ l3) k3
 .
  refine⟨_,rfl,_,_,rfl,rfl,_,rfl,iteF ?_⟩
  refine⟨_,rfl,rfl,_,rfl,iteF ?_⟩
  refine⟨_,rfl,rfl,_,rfl,iteF ?_⟩
  refine⟨_,rfl,rfl,_,rfl,iteT ?_⟩
  refine⟨_,rfl,fa,_,rfl,.inr (SqT.of hf2),fun e1 he1=>?_⟩
  have s3:Same H2 (upd H2 e1 (.lst (zs.map V.str))):=Same.fresh _ he1
  have fe1:upd H2 e1 (.lst (zs.map V.str)) e1=some (.lst (zs.map V.str)):=upd_same
  generalize upd H2 e1 (.lst (zs.map V.str))=H3 at *
  have hzl:=rw.2.1
  have hz0:=rw.1
  have tz:∀z∈zs,Tx z:=fun z hz=>(rw.2.2 z hz).1
  refine⟨_,rfl,(by show 1<=sizeLine;decide),fun e2 he2=>?_⟩
  have s4:Same H3 (upd H3 e2 (.tup [V.str ""])):=Same.fresh _ he2
  have fe2:upd H3 e2 (.tup [V.str ""]) e2=some (.tup [V.str ""]):=upd_same
  generalize upd H3 e2 (.tup [V.str ""])=H4 at *
  have t4:=s3.trans s4
  refine catT_any (t4 _ _ hf2) fe2 (by rw[List.length_map];exact hz0) (by rw[List.length_map];show _+1<=1000;omega) fun c3 H5 s5 hc3=>?_
  have t5:=t4.trans s5
  have cl1:=cutV_length (zs.map V.str) none (some 1)
  rw[List.length_map]at cl1
  refine⟨_,rfl,_,rfl,_,rfl,slT2_any (t5 _ _ hf2) fun c4 H6 s6 hc4=>?_⟩
  have t6:=t5.trans s6
  refine catT_any (t6 _ _ hf2) hc4 (by rw[List.length_map];exact hz0) (by rw[List.length_map];omega) fun c5 H7 s7 hc5=>?_
  have t7:=t6.trans s7
  refine⟨(by show 0<=sizeLine;decide),fun e8 he8=>?_⟩
  have s8:Same H7 (upd H7 e8 (.tup [])):=Same.fresh _ he8
  have fe8:upd H7 e8 (.tup []) e8=some (.tup []):=upd_same
  generalize upd H7 e8 (.tup [])=H8 at *
  have t8:=t7.trans s8
  have hsum:=PySem.StrLaws.sumLen_le (B:=8) zs fun y hy=>(rw.2.2 y hy).2.2
  have e0:(Str.ofString "/").length=1:=by decide +kernel
  refine⟨rfl,_,rfl,_,fa,zs,rfl,rfl,t8 _ _ hf2,by rw[e0];omega,?_⟩
  refine⟨(by show 6<=sizeLine;decide),fun p hp=>?_⟩
  have st8:=t8 _ _ st2
  refine⟨_,rfl,st,n2,6,rfl,laid_st st8 hp,hn2,by decide,by decide,fun n3 i3 hn3 h30 h35=>?_⟩
  obtain⟨x,hx,hm⟩:=pick (α:=V) (xs:=[V.ref e1,V.ref c3,V.ref c5,V.ref e8,V.non,V.str (Txt.join "/" zs)]) h30 h35
  obtain⟨hp3,ex9,st9⟩:=laid_draw (o:=.lst [V.ref e1,V.ref c3,V.ref c5,V.ref e8,V.non,V.str (Txt.join "/" zs)]) (n':=n3) st8 hp
  have l89:=Lk.of_ex ex9 st8 st9
  have l9:Lk H2 _:=fun x o h=>l89 x o (t8 x o h)
  obtain⟨ls,fe1'⟩:=l89.lst (((((s4.trans s5).trans s6).trans s7).trans s8) _ _ fe1)
  have hc3':=l89.tup (((s6.trans s7).trans s8) _ _ hc3)
  have hc5':=l89.tup (s8 _ _ hc5)
  have fe8':=l89.tup fe8
  refine⟨p,_,i3,_,rfl,rfl,SqL.of hp3,hx,?_⟩
  have ex19:=(ex12.trans (Ex.of_same (W:=[st]) t8)).trans ex9
  generalize upd (upd H8 p _) st _=HH at *
  simp only[List.mem_cons,List.not_mem_nil,or_false]at hm
  have thx:∃T,Thing HH x T:=by
   rcases hm with rfl|rfl|rfl|rfl|rfl|rfl
   .exact⟨none,.inr (.inr (.inr ⟨e1,rfl,.inl ⟨ls,fe1'⟩⟩))⟩
   .refine thing_strs (zs:=zs++[Str.ofString ""]) (by rw[List.map_append];exact hc3') (by rw[List.length_append];show _+1<=500;omega) fun z hz=>?_
    rcases List.mem_append.mp hz with h|h
    .exact tz z h
    .rw[List.mem_singleton.mp h];exact txL (by decide +kernel)
   .have ec:zs.map V.str++cutV (zs.map V.str) none (some 1)=(zs++zs.take 1).map V.str:=by
     rw[cut1 (by rw[List.length_map];exact hz0),List.map_append,List.map_take]
    rw[ec]at hc5'
    refine thing_strs hc5' (by rw[List.length_append,List.length_take];omega) fun z hz=>?_
    rcases List.mem_append.mp hz with h|h
    .exact tz z h
    .exact tz z (List.mem_of_mem_take h)
   .exact thing_strs (zs:=[]) fe8' (by decide) fun z hz=>by cases hz
   .exact⟨none,.inl rfl⟩
   .exact⟨none,.inr (.inr (.inl ⟨_,rfl⟩))⟩
  refine⟨_,rfl,rfl,_,rfl,iteF ?_⟩
  refine⟨_,rfl,_,rfl,_,rfl,(by show 3<=sizeLine;decide),fun t ht=>?_⟩
  exact fin HH n3 _ _ _ t ex19 st9 hn3 ht thx (kK _ l9) (dK _ l9) (kP _ l9)
 .
  refine⟨_,rfl,_,_,rfl,rfl,_,rfl,iteF ?_⟩
  refine⟨_,rfl,rfl,_,rfl,iteF ?_⟩
  refine⟨_,rfl,rfl,_,rfl,iteF ?_⟩
  refine⟨_,rfl,rfl,_,rfl,iteF ?_⟩
  refine⟨_,rfl,rfl,_,rfl,iteT ?_⟩
  refine⟨_,rfl,_,rfl,_,rfl,(by show 3<=sizeLine;decide),fun e1 he1=>?_⟩
  have s3:Same H2 (upd H2 e1 (.lst [V.ref fa,V.ref ka,V.ref pa])):=Same.fresh _ he1
  have fe1:upd H2 e1 (.lst [V.ref fa,V.ref ka,V.ref pa]) e1=some (.lst [V.ref fa,V.ref ka,V.ref pa]):=upd_same
  generalize upd H2 e1 (.lst [V.ref fa,V.ref ka,V.ref pa])=H3 at *
  refine⟨_,rfl,_,rfl,(by show 2<=sizeLine;decide),fun e2 he2=>?_⟩
  have s4:Same H3 (upd H3 e2 (.tup [V.ref fa,V.ref ka])):=Same.fresh _ he2
  have fe2:upd H3 e2 (.tup [V.ref fa,V.ref ka]) e2=some (.tup [V.ref fa,V.ref ka]):=upd_same
  generalize upd H3 e2 (.tup [V.ref fa,V.ref ka])=H4 at *
  have t4:=s3.trans s4
  refine⟨_,rfl,(by show 1<=sizeLine;decide),fun e3 he3=>?_⟩
  have s5:Same H4 (upd H4 e3 (.tup [V.int 0])):=Same.fresh _ he3
  have fe3:upd H4 e3 (.tup [V.int 0]) e3=some (.tup [V.int 0]):=upd_same
  generalize upd H4 e3 (.tup [V.int 0])=H5 at *
  have t5:=t4.trans s5
  refine catT_any (t5 _ _ ha2) fe3 (by show 0<3;decide) (by show 3+1<=1000;decide) fun c4 H6 s6 hc4=>?_
  have t6:=t5.trans s6
  refine⟨_,rfl,fun d7 hd7=>?_⟩
  have s7:Same H6 (upd H6 d7 (.dK [])):=Same.fresh _ hd7
  have fd7:upd H6 d7 (.dK []) d7=some (.dK []):=upd_same
  generalize upd H6 d7 (.dK [])=H7 at *
  have t7:=t6.trans s7
  refine⟨(by show 8<=sizeLine;decide),fun p hp=>?_⟩
  have st7:=t7 _ _ st2
  refine⟨_,rfl,st,n2,8,rfl,laid_st st7 hp,hn2,by decide,by decide,fun n3 i3 hn3 h30 h35=>?_⟩
  obtain⟨x,hx,hm⟩:=pick (α:=V) (xs:=[V.ref e1,V.ref e2,V.ref c4,V.non,V.int 5,V.str "puzzle",V.ref fa,V.ref d7]) h30 h35
  obtain⟨hp3,ex9,st9⟩:=laid_draw (o:=.lst [V.ref e1,V.ref e2,V.ref c4,V.non,V.int 5,V.str "puzzle",V.ref fa,V.ref d7]) (n':=n3) st7 hp
  have l79:=Lk.of_ex ex9 st7 st9
  obtain⟨ls,fe1'⟩:=l79.lst ((((s4.trans s5).trans s6).trans s7) _ _ fe1)
  have fe2':=l79.tup (((s5.trans s6).trans s7) _ _ fe2)
  have hc4':=l79.tup (s7 _ _ hc4)
  have fd7':=l79.dK fd7
  have hf9:=l79.tup (t7 _ _ hf2)
  refine⟨p,_,i3,_,rfl,rfl,SqL.of hp3,hx,?_⟩
  have ex19:=(ex12.trans (Ex.of_same (W:=[st]) t7)).trans ex9
  generalize upd (upd H7 p _) st _=HH at *
  simp only[List.mem_cons,List.not_mem_nil,or_false]at hm
  have plain:∀v:V,Kn HH v->(∀a xs,v=.ref a->HH a=some (.tup xs)->xs.length<=60/\xs.length≠3)->Q v HH:=fun v kv hv=>q v HH n3 ex19 st9 hn3 ⟨kv,fun a xs e ha=>⟨(hv a xs e ha).1,fun f' k' p' e'=>absurd (by rw[e'];rfl) (hv a xs e ha).2⟩⟩ fun a f' k' p' b xs e ha _ _ _ _=>absurd rfl (hv a _ e ha).2
  rcases hm with rfl|rfl|rfl|rfl|rfl|rfl|rfl|rfl
  .exact plain _ (kn_lst0 (n:=0) fe1') fun a' xs e ha'=>by cases e;rw[fe1']at ha';cases ha'
  .exact plain _ (.inr (.inr (.inr (.inr ⟨e2,rfl,.inr (.inl ⟨_,fe2'⟩)⟩)))) fun a' xs e ha'=>by cases e;rw[fe2']at ha';cases ha';exact⟨by show 2<=60;omega,by show ¬2=3;decide⟩
  .exact plain _ (.inr (.inr (.inr (.inr ⟨c4,rfl,.inr (.inl ⟨_,hc4'⟩)⟩)))) fun a' xs e ha'=>by cases e;rw[hc4']at ha';cases ha';exact⟨by show 4<=60;omega,by show ¬4=3;decide⟩
  .exact plain _ (.inl rfl) fun a' xs e=>by cases e
  .exact plain _ (.inr (.inr (.inl ⟨5,rfl⟩))) fun a' xs e=>by cases e
  .exact plain _ (kn_str0 (n:=0) (txL (by decide +kernel))) fun a' xs e=>by cases e
  .refine q _ HH n3 ex19 st9 hn3 ⟨.inr (.inr (.inr (.inr ⟨fa,rfl,.inr (.inl ⟨_,hf9⟩)⟩))),fun a' xs e ha'=>?_⟩ (fun a' f' k' p' b xs e ha' e2=>?_)
   .cases e
    rw[hf9]at ha'
    cases ha'
    refine⟨by rw[List.length_map];have:=rw.2.1;omega,fun f' k' p' e=>?_⟩
    have mem:∀y∈[f',k',p'],∃z,y=V.str z/\Tx z:=fun y hy=>by
     rw[<-e]at hy
     obtain⟨z,hz,rfl⟩:=List.mem_map.mp hy
     exact⟨z,rfl,(rw.2.2 z hz).1⟩
    obtain⟨z1,rfl,tz1⟩:=mem f' (by simp)
    obtain⟨z2,rfl,tz2⟩:=mem k' (by simp)
    obtain⟨z3,rfl,tz3⟩:=mem p' (by simp)
    exact⟨⟨none,.inr (.inr (.inl ⟨z1,rfl⟩))⟩,kn_str0 tz2,kn_str0 tz3⟩
   .cases e
    rw[hf9]at ha'
    injection ha' with q1
    injection q1 with q1
    have hm:k'∈zs.map V.str:=by rw[q1];simp
    obtain⟨z,_,e3⟩:=List.mem_map.mp hm
    rw[e2]at e3
    cases e3
  .exact plain _ (kn_dK0 (n:=0) fd7') fun a' xs e ha'=>by cases e;rw[fd7']at ha';cases ha'
end
theorem seq_keep{K:PySem.W.Frag}{H H':Hp}{a:Addr}{xs:List V}(h:SqL K H a xs)(k:∀o,H a=some o->H' a=some o):SqL K H' a xs:=by
 rcases h with (h|⟨o,h⟩)|h
 .exact .inl (.inl (k _ h))
 .exact .inl (.inr ⟨o,k _ h⟩)
 .exact .inr h
theorem same_bl(b:Bool):(!decide (V.bl b=V.bl b))=false:=by rw[decide_eq_true rfl];rfl
theorem Pz.same{H H':Hp}{v:V}(s:Same H H')(h:Pz H v):Pz H' v:=⟨h.1.same s,fun a xs e ha=>by
 subst e
 obtain⟨h1,h2⟩:=h.2 a xs rfl (kn_back s h.1 ha)
 exact⟨h1,fun f k p e=>by
  obtain⟨⟨T,hT⟩,k4,k2⟩:=h2 f k p e
  exact⟨⟨T,hT.same s⟩,k4.same s,k2.same s⟩⟩⟩
theorem PzD.same{H H':Hp}{v:V}(s:Same H H')(z:Pz H v)(h:PzD H v):PzD H' v:=fun a f k p b xs e ha e2 hb x hx=>by
 subst e e2
 have ha0:=kn_back s z.1 ha
 obtain⟨_,k4,_⟩:=(z.2 a _ rfl ha0).2 f _ p rfl
 have hb0:=kn_back s k4.kn hb
 exact(h a f _ p b xs rfl ha0 rfl hb0 x hx).same s ((k4.2 b xs rfl hb0).2 x hx).kn
theorem flo_same{H H':Hp}{v:V}{T:Option (List (Option Str))}(s:Same H H')(h:Thing H v T):FloP H' v↔FloP H v:=by
 rw[<-floP_iff h,<-floP_iff (h.same s)]
theorem puz_same{H H':Hp}{v:V}(s:Same H H')(z:Pz H v):PuzP H' v↔PuzP H v:=by
 constructor
 .rintro⟨a,f,k,p,rfl,ha,h1,h2,h3⟩
  have ha0:=kn_back s z.1 ha
  obtain⟨⟨T,hT⟩,k4,k2⟩:=(z.2 a _ rfl ha0).2 f k p rfl
  exact⟨a,f,k,p,rfl,ha0,(flo_same s hT).mp h1,(kinds_same s k4).mp h2,(pairs_same s k2).mp h3⟩
 .rintro⟨a,f,k,p,rfl,ha,h1,h2,h3⟩
  obtain⟨⟨T,hT⟩,k4,k2⟩:=(z.2 a _ rfl ha).2 f k p rfl
  exact⟨a,f,k,p,rfl,s _ _ ha,(flo_same s hT).mpr h1,(kinds_same s k4).mpr h2,(pairs_same s k2).mpr h3⟩
theorem PzW.pz{st:Addr}{H:Hp}{v:V}(h:PzW H v):Pz H v/\PzA st H v:=by
 obtain⟨a,fa,ka,pa,zs,ks,ps,rfl,ha,hf,rw,hk,k1,k6,kk,hp,p3,pk⟩:=h
 refine⟨⟨.inr (.inr (.inr (.inr ⟨a,rfl,.inr (.inl ⟨_,ha⟩)⟩))),fun a' xs e ha'=>?_⟩,fun a' f' k' p' b xs e ha' e2 hb x hx=>?_⟩
 .cases e
  rw[ha]at ha'
  cases ha'
  exact⟨by show 3<=60;omega,fun f' k' p' e=>by
   cases e
   exact⟨thing_strs hf (by have:=rw.2.1;omega) fun z hz=>(rw.2.2 z hz).1,kn_tup0 hk (by omega) fun x hx=>(kk x hx).kn,kn_tup0 hp (by omega) pk⟩⟩
 .cases e
  rw[ha]at ha'
  cases ha'
  cases e2
  rw[hk]at hb
  cases hb
  exact(kk x hx).dts
section
variable{P:Program}{w:World}{K:PySem.W.Frag}{mg:Str->Option Value}{base:Heap}{f:Addr}{fd:FuncData}
noncomputable def spLaw(K:PySem.W.Frag):Sp:=fun vs H Q _=>∃(a:Addr) (ns:List Int),vs=[.ref a]/\SqL K H a (ns.map V.int)/\ns.length<=63/\∀H',Q (.bl true) H'
theorem scLaw:FnScope ["_law_script","_law_k","_law_state_here","_law_found","_law_told","_law_kind_here"] ["_law_script"] (defScope sLaw):=⟨rfl,rfl,rfl,by decide +kernel,rfl,by decide +kernel,by decide +kernel⟩
theorem ok_law(B:∀x∈blts,mg x=none)(Fnext:FnNext P w K mg base)(Fcell:Fn P w K mg base "_law_cell_at" 1 ["_law_script","_law_k"] (spCell K))(Fstate:Fn P w K mg base "_law_state" 1 ["_law_cell","_law_k"] spState)
  (Flpuz:Fn P w K mg base "_law_puzzle" 5 ["_law_state_here","_law_most","_law_spots","_law_many"] spLpuz) (Fspoilt:Fn P w K mg base "_law_spoilt" 3 ["_law_state_here","_law_puzzle_here"] spSpoilt) (Fpuz:Fn P w K mg base "is_puzzle" 7 ["found"] spPuz) (Flisp:Fn P w K mg base "_law_is_puzzle" 5 ["_law_found"] spLisp) (Fkind:Fn P w K mg base "is_kind" 5 ["found"] spKind) (Flisk:Fn P w K mg base "_law_is_kind" 4 ["_law_found"] spLisk)
  (F:Fun K "law" "law" sLaw f fd):FnOk P w K mg base CX0 8 f fd ["_law_script"] (spLaw K):=by
 refine F.ok (k:=7) scLaw (fun vs H Q E h=>?_) (fun cdv A outer s H vs Q E hr h=>?_)
 .obtain⟨a,ns,rfl,_⟩:=h
  rfl
 obtain⟨a,ns,rfl,hS,h63,q⟩:=h
 refine⟨_,(pss_cons (ps_for PassesOwn.never rfl (pi_r1 rfl (B "range" (by decide)) (pa_c (pe_cB (call_max2 rfl) rfl (B "max" (by decide)) boot_max (pa_c pe_int (pa_c (pe_cB (call_min2 rfl) rfl (B "min" (by decide)) boot_min (pa_c (pe_cB call_len_seq rfl (B "len" (by decide)) PySem.boot_len (pa_c (pv 0) pa_nil)) (pa_c pe_int pa_nil))) pa_nil))) pa_nil)) (pg_name (i:=1) scLaw.nd rfl (Or.inl rfl)) (pss_cons (ps_set (i:=2) scLaw.nd rfl (Or.inl rfl) (pe_fn Fstate hr (by decide) rfl (pa_c (pe_fn Fcell hr (by decide) rfl (pa_c (pv 0) (pa_c (pv 1) pa_nil))) (pa_c (pv 1) pa_nil))))
  (pss_cons (ps_set (i:=3) scLaw.nd rfl (Or.inl rfl) (pe_fn Flpuz hr (by decide) rfl (pa_c (pv 2) (pa_c pe_int (pa_c pe_int (pa_c pe_int pa_nil))))))
  (pss_cons (ps_if (pt_cmpR op_gt (pe_fn Fnext hr (by decide) rfl (pa_c (pv 2) (pa_c pe_int pa_nil))) pe_int (nomark _)) (pss_one (ps_set (i:=3) scLaw.nd rfl (Or.inl rfl) (pe_fn Fspoilt hr (by decide) rfl (pa_c (pv 2) (pa_c (pv 3) pa_nil))))) pss_nil)
  (pss_cons (ps_set (i:=4) scLaw.nd rfl (Or.inl rfl) (pe_fn Fpuz hr (by decide) rfl (pa_c (pv 3) pa_nil)))
  (pss_cons (ps_if (PW.pt (pw_or (pt_not (pt_val (pe_cB call_isinst rfl (B "isinstance" (by decide)) boot_isinstance (pa_c (pv 4) (pa_c (pe_bltn (v:=.ty "bool") rfl (B "bool" (by decide)) boot_bool rfl) pa_nil))))) (pw_or1 (pt_cmpR op_ne (pv 4) (pe_fn Flisp hr (by decide) rfl (pa_c (pv 3) pa_nil)) (nomark _))))) (pss_one (ps_ret pe_bl)) pss_nil)
  (pss_one (ps_if (PW.pt (pw_and (pt_val (pe_cB call_isinst rfl (B "isinstance" (by decide)) boot_isinstance (pa_c (pv 3) (pa_c (pe_bltn (v:=.ty "tuple") rfl (B "tuple" (by decide)) boot_tuple rfl) pa_nil)))) (pw_and (pt_cmpR op_eq (pe_cB call_len_seq rfl (B "len" (by decide)) PySem.boot_len (pa_c (pv 3) pa_nil)) pe_int (nomark _)) (pw_and1 (pt_val (pe_cB call_isinst rfl (B "isinstance" (by decide)) boot_isinstance (pa_c (pe_ix ix_tup (pv 3) pe_int (fun _ _=>rfl)) (pa_c (pe_bltn (v:=.ty "tuple") rfl (B "tuple" (by decide)) boot_tuple rfl) pa_nil)))))))) (pss_one (ps_for PassesOwn.never rfl (pi_tup (pe_ix ix_tup (pv 3) pe_int (fun _ _=>rfl))) (pg_name (i:=5) scLaw.nd rfl (Or.inl rfl)) (pss_cons (ps_set (i:=4) scLaw.nd rfl (Or.inl rfl) (pe_fn Fkind hr (by decide) rfl (pa_c (pv 5) pa_nil)))
  (pss_one (ps_if (PW.pt (pw_or (pt_not (pt_val (pe_cB call_isinst rfl (B "isinstance" (by decide)) boot_isinstance (pa_c (pv 4) (pa_c (pe_bltn (v:=.ty "bool") rfl (B "bool" (by decide)) boot_bool rfl) pa_nil))))) (pw_or1 (pt_cmpR op_ne (pv 4) (pe_fn Flisk hr (by decide) rfl (pa_c (pv 5) pa_nil)) (nomark _))))) (pss_one (ps_ret pe_bl)) pss_nil))))) pss_nil))))))))
  (pss_one (ps_ret pe_bl))),?_⟩
 refine⟨_,rfl,a,_,rfl,.inl hS,_,_,rfl,_,_,rfl,_,rfl,?_,?_,?_⟩
 .split<;>split<;>omega
 .split<;>split<;>omega
 refine for_range (lo:=0) (fun i σ' H'=>∃x1 x2 x3 x4 x5,σ'=[some (.ref a),x1,x2,x3,x4,x5]/\SqL K H' a (ns.map V.int)) ?_ (fun i σ' G hi h=>?_) (fun σ' H' h=>?_)
 .exact⟨_,_,_,_,_,rfl,hS⟩
 .obtain⟨x1,x2,x3,x4,x5,rfl,hG⟩:=h
  refine⟨_,rfl,_,rfl,a,ns,_,rfl,hG,by omega,fun c=>⟨_,rfl,c,_,rfl,fun st n0 hst0=>?_⟩⟩
  have s0:Same G (upd G st (.lst [.int n0])):=Same.fresh _ hst0
  have st0:upd G st (.lst [.int n0]) st=some (.lst [.int n0]):=upd_same
  generalize upd G st (.lst [.int n0])=G0 at *
  have keep:∀G',Ex [st] G0 G'->∀o,G a=some o->G' a=some o:=fun G' ex o ho=>by
   refine ex a o (fun z=>?_) (s0 _ _ ho)
   rw[List.mem_singleton.mp z,hst0]at ho;cases ho
  refine⟨_,rfl,st,_,rfl,st0,⟨n0,rfl⟩,fun p G1 n1 ex1 st1 hn1 pw1=>?_⟩
  refine⟨_,rfl,st,n1,4,rfl,st1,hn1,by decide,by decide,fun n2 i2 hn2 h20 h24=>⟨_,_,rfl,rfl,_,rfl,?_⟩⟩
  have st2:upd G1 st (.lst n2) st=some (.lst n2):=upd_same
  have exa:Ex [st] G1 (upd G1 st (.lst n2)):=Ex.upd (by simp)
  have l2:=Lk.of_ex exa st1 st2
  have pw2:PzW (upd G1 st (.lst n2)) (.ref p):=by
   obtain⟨a,fa,ka,pa,zs,ks,ps,e,ha,hf,rw,hk,k1,k6,kk,hp,p3,pk⟩:=pw1
   exact⟨a,fa,ka,pa,zs,ks,ps,e,l2.tup ha,l2.tup hf,rw,l2.tup hk,k1,k6,fun x hx=>(kk x hx).lk l2,l2.tup hp,p3,fun y hy=>(pk y hy).lk l2⟩
  have ex2:=ex1.trans exa
  generalize upd G1 st (.lst n2)=G2 at *
  refine ite2 (fun c1=>?_) (fun c1=>?_)
  .refine⟨_,rfl,_,rfl,st,p,n2,rfl,st2,hn2,pw2,fun v G5 n5 ex5' st5 hn5 pz pa=>?_⟩
   have ex5:=ex2.trans ex5'
   have pd:=pa.pzd
   refine⟨_,rfl,v,rfl,pz,fun b G6 s6 hb=>?_⟩
   refine⟨_,rfl,.bl _,"bool",.type "bool",true,rfl,.bl _,rfl,true,rfl,iteF ?_⟩
   refine⟨_,rfl,_,rfl,v,rfl,pz.same s6,pd.same s6 pz,fun b2 G7 s7 hb2=>⟨rfl,_,rfl,?_⟩⟩
   have eb:b2=b:=by rw[Bool.eq_iff_iff,hb,hb2,puz_same s6 pz]
   rw[eb,same_bl]
   refine iteF ?_
   have s67:=s6.trans s7
   have pz7:=pz.same s67
   have pd7:=pd.same s67 pz
   have ex7:=ex5.trans (Ex.of_same (W:=[st]) s67)
   have done:∀G8,Same G7 G8->SqL K G8 a (ns.map V.int):=fun G8 s8=>seq_keep hG (keep G8 (ex7.trans (Ex.of_same s8)))
   have here:=done G7 (Same.refl G7)
   rcases kn_tupP (K:=K) pz7.1 with ⟨b',xs,rfl,hb'⟩|⟨⟨t,ty,kt⟩,_,_⟩
   .refine⟨_,rfl,.ref b',"tuple",.type "tuple",true,rfl,.tup hb',rfl,true,rfl,iteT ?_⟩
    refine⟨_,rfl,b',xs,rfl,.inr (SqT.of hb'),rfl,_,rfl,?_⟩
    by_cases h3:xs.length=3
    .match xs,h3,hb' with
     | [fl,k,pp],_,hb'=>
      obtain⟨_,kK,_⟩:=(pz7.2 b' _ rfl hb').2 fl k pp rfl
      refine iteT ?_
      rcases kn_tupP (K:=K) kK.kn with ⟨kb,ks,rfl,hkb⟩|⟨⟨t,ty,kt⟩,_,_⟩
      .obtain⟨k60,kk⟩:=kK.2 kb ks rfl hkb
       have dks:=pd7 b' fl _ pp kb ks rfl hb' rfl hkb
       refine⟨_,rfl,b',_,_,_,rfl,rfl,SqT.of hb',rfl,.ref kb,"tuple",.type "tuple",true,rfl,.tup hkb,rfl,true,rfl,iteT ?_⟩
       refine⟨_,rfl,b',_,_,_,rfl,rfl,SqT.of hb',rfl,kb,rfl,⟨_,SqT.of hkb⟩,?_⟩
       refine for_tup (xs:=ks) (fun j σ' H'=>∃y4 y5,σ'=[some (.ref a),some (.int (0+i)),some (.ref st),some (.ref b'),y4,y5]/\Same G7 H') ?_ (fun j σ' H' hj h=>?_) (fun j x σ' H' hx h=>?_) (fun σ' H' h=>?_)
       .exact⟨_,_,rfl,Same.refl G7⟩
       .obtain⟨_,_,_,s8⟩:=h
        exact SqT.of (s8 _ _ hkb)
       .obtain⟨y4,y5,rfl,s8⟩:=h
        have hxm:=List.mem_of_getElem? hx
        have kx:=kk x hxm
        refine⟨_,rfl,x,rfl,kx.same s8,fun b8 G9 s9 hb8=>?_⟩
        refine⟨_,rfl,.bl _,"bool",.type "bool",true,rfl,.bl _,rfl,true,rfl,iteF ?_⟩
        have s89:=s8.trans s9
        refine⟨_,rfl,_,rfl,x,rfl,kx.same s89,(dks x hxm).same s89 kx.kn,fun b9 G10 s10 hb9=>⟨rfl,_,rfl,?_⟩⟩
        have eb:b9=b8:=by rw[Bool.eq_iff_iff,hb8,hb9,kind_same s8 kx,kind_same s89 kx]
        rw[eb,same_bl]
        exact iteF ⟨_,_,rfl,s89.trans s10⟩
       .obtain⟨y4,y5,rfl,s8⟩:=h
        exact⟨_,_,_,_,_,rfl,done _ s8⟩
      .exact⟨_,rfl,b',_,_,_,rfl,rfl,SqT.of hb',rfl,k,"tuple",t,false,rfl,ty,kt,false,rfl,iteF ⟨_,_,_,_,_,rfl,here⟩⟩
    .rw[show decide (V.int ((xs.length:Nat):Int)=V.int 3)=false from len_ne h3]
     exact iteF (iteF ⟨_,_,_,_,_,rfl,here⟩)
   .exact⟨_,rfl,v,"tuple",t,false,rfl,ty,kt,false,rfl,iteF (iteF ⟨_,_,_,_,_,rfl,here⟩)⟩
  .obtain⟨pz,pa⟩:=PzW.pz (st:=st) pw2
   have st5:=st2
   have ex5:=ex2
   have pd:=pa.pzd
   refine⟨_,rfl,_,rfl,pz,fun b G6 s6 hb=>?_⟩
   refine⟨_,rfl,.bl _,"bool",.type "bool",true,rfl,.bl _,rfl,true,rfl,iteF ?_⟩
   refine⟨_,rfl,_,rfl,_,rfl,pz.same s6,pd.same s6 pz,fun b2 G7 s7 hb2=>⟨rfl,_,rfl,?_⟩⟩
   have eb:b2=b:=by rw[Bool.eq_iff_iff,hb,hb2,puz_same s6 pz]
   rw[eb,same_bl]
   refine iteF ?_
   have s67:=s6.trans s7
   have pz7:=pz.same s67
   have pd7:=pd.same s67 pz
   have ex7:=ex5.trans (Ex.of_same (W:=[st]) s67)
   have done:∀G8,Same G7 G8->SqL K G8 a (ns.map V.int):=fun G8 s8=>seq_keep hG (keep G8 (ex7.trans (Ex.of_same s8)))
   have here:=done G7 (Same.refl G7)
   rcases kn_tupP (K:=K) pz7.1 with ⟨p,xs,ep,hp⟩|⟨⟨t,ty,kt⟩,_,_⟩
   .cases ep
    refine⟨_,rfl,.ref p,"tuple",.type "tuple",true,rfl,.tup hp,rfl,true,rfl,iteT ?_⟩
    refine⟨_,rfl,p,xs,rfl,.inr (SqT.of hp),rfl,_,rfl,?_⟩
    by_cases h3:xs.length=3
    .match xs,h3,hp with
     | [fl,k,pp],_,hp=>
      obtain⟨_,kK,_⟩:=(pz7.2 p _ rfl hp).2 fl k pp rfl
      refine iteT ?_
      rcases kn_tupP (K:=K) kK.kn with ⟨kb,ks,rfl,hkb⟩|⟨⟨t,ty,kt⟩,_,_⟩
      .obtain⟨k60,kk⟩:=kK.2 kb ks rfl hkb
       have dks:=pd7 p fl _ pp kb ks rfl hp rfl hkb
       refine⟨_,rfl,p,_,_,_,rfl,rfl,SqT.of hp,rfl,.ref kb,"tuple",.type "tuple",true,rfl,.tup hkb,rfl,true,rfl,iteT ?_⟩
       refine⟨_,rfl,p,_,_,_,rfl,rfl,SqT.of hp,rfl,kb,rfl,⟨_,SqT.of hkb⟩,?_⟩
       refine for_tup (xs:=ks) (fun j σ' H'=>∃y4 y5,σ'=[some (.ref a),some (.int (0+i)),some (.ref st),some (.ref p),y4,y5]/\Same G7 H') ?_ (fun j σ' H' hj h=>?_) (fun j x σ' H' hx h=>?_) (fun σ' H' h=>?_)
       .exact⟨_,_,rfl,Same.refl G7⟩
       .obtain⟨_,_,_,s8⟩:=h
        exact SqT.of (s8 _ _ hkb)
       .obtain⟨y4,y5,rfl,s8⟩:=h
        have hxm:=List.mem_of_getElem? hx
        have kx:=kk x hxm
        refine⟨_,rfl,x,rfl,kx.same s8,fun b8 G9 s9 hb8=>?_⟩
        refine⟨_,rfl,.bl _,"bool",.type "bool",true,rfl,.bl _,rfl,true,rfl,iteF ?_⟩
        have s89:=s8.trans s9
        refine⟨_,rfl,_,rfl,x,rfl,kx.same s89,(dks x hxm).same s89 kx.kn,fun b9 G10 s10 hb9=>⟨rfl,_,rfl,?_⟩⟩
        have eb:b9=b8:=by rw[Bool.eq_iff_iff,hb8,hb9,kind_same s8 kx,kind_same s89 kx]
        rw[eb,same_bl]
        exact iteF ⟨_,_,rfl,s89.trans s10⟩
       .obtain⟨y4,y5,rfl,s8⟩:=h
        exact⟨_,_,_,_,_,rfl,done _ s8⟩
      .exact⟨_,rfl,p,_,_,_,rfl,rfl,SqT.of hp,rfl,k,"tuple",t,false,rfl,ty,kt,false,rfl,iteF ⟨_,_,_,_,_,rfl,here⟩⟩
    .rw[show decide (V.int ((xs.length:Nat):Int)=V.int 3)=false from len_ne h3]
     exact iteF (iteF ⟨_,_,_,_,_,rfl,here⟩)
   .exact⟨_,rfl,_,"tuple",t,false,rfl,ty,kt,false,rfl,iteF (iteF ⟨_,_,_,_,_,rfl,here⟩)⟩
 .obtain⟨x1,x2,x3,x4,x5,rfl,hG⟩:=h
  exact q H'
end
end K09
namespace L3
open PySem PyProof.Rows L2
theorem len_z{P:List Value->Prop}(h:P []):∀us:List Value,us.length=0->P us:=fun us e=>by cases us with|nil=>exact h|cons a t=>cases e
theorem len_s{P:List Value->Prop}{n:Nat}(h:∀a (t:List Value),t.length=n->P (a::t)):∀us:List Value,us.length=n+1->P us:=fun us e=>by cases us with|nil=>cases e|cons a t=>exact h a t (Nat.succ.inj e)
theorem len_1{P:List Value->Prop}(h:∀a,P [a]):∀us:List Value,us.length=1->P us:=len_s (n:=0) fun a=>len_z (P:=fun t=>P (a::t)) (h a)
theorem len_2{P:List Value->Prop}(h:∀a b,P [a,b]):∀us:List Value,us.length=2->P us:=len_s (n:=1) fun a=>len_1 (P:=fun t=>P (a::t)) (h a)
theorem len_3{P:List Value->Prop}(h:∀a b c,P [a,b,c]):∀us:List Value,us.length=3->P us:=len_s (n:=2) fun a=>len_2 (P:=fun t=>P (a::t)) (h a)
theorem len_4{P:List Value->Prop}(h:∀a b c d,P [a,b,c,d]):∀us:List Value,us.length=4->P us:=len_s (n:=3) fun a=>len_3 (P:=fun t=>P (a::t)) (h a)
noncomputable def Df(K:PySem.W.Frag)(n:Str)(st:Stmt):Prop:=∃f fd,PySem.W.nsIn K mainGlobals n=some (some (.ref f))/\Fun K n n st f fd
theorem df_mk{K:PySem.W.Frag}{n:Str}{st:Stmt}{f:Addr}{oc:Value}{od an:Option Addr}{sl:Array (Option Value)}{kV dc pm cd ct:Value}(a:PySem.W.nsIn K mainGlobals n=some (some (.ref f)))
  (l:K.lookup f=some ⟨oc,od,.func (PySem.W.fnOf n n (defArgs st) (defBody st) (defScope st) .none kV dc pm an cd ct),sl⟩) (c:PySem.W.codeIn K cd n=true) (k:PySem.W.keepIn K (.ref f)=true):Df K n st:=(x_EE f _ ⟨a,fun_mk l c k⟩)
theorem Df.fn{P:Program}{w:World}{K:PySem.W.Frag}{h base:Heap}{mg:Str->Option Value}{n:Str}{st:Stmt}{d:Nat}{ps:List Str}{sp:Sp}(D:Df K n st)(X:K.In h)(G:h.Ns mainGlobals mg)(ok:∀{f fd},Fun K n n st f fd->FnOk P w K mg base CX0 d f fd ps sp)
  (b:∀(kV doc pm:Value) (an:Option Addr) (cdv ct:Value) (us:List Value),us.length=ps.length->bindArgs (PySem.W.fnOf n n (defArgs st) (defBody st) (defScope st) .none kV doc pm an cdv ct) ⟨us,[]⟩=pure (ps.zip us):=by
   intro _ _ _ _ _ _
   first
   | exact len_1 (fun _=>rfl)
   | exact len_2 (fun _ _=>rfl)
   | exact len_3 (fun _ _ _=>rfl)
   | exact len_4 (fun _ _ _ _=>rfl)):Fn P w K mg base n d ps sp:=by
 obtain⟨f,fd,a,F⟩:=D
 exact(x_EE f fd ⟨ok F,PySem.W.mg_of X G a,F.kp,F.binds b⟩)
end L3
namespace K09
open PySem PyProof.Rows L2 L3
theorem dict_m{P:Program}{w:World}{K:PySem.W.Frag}{mg:Str->Option Value}{aD:Addr}{w1 v1 w2 v2 w3 v3:Tok}{ep:Nat}(h:mg "TURNINGS_BY_MODE" = some (.ref aD))(ld:K.lookup aD=some ⟨.type "dict",none,.dict #[⟨hashStr w "still",.str "still" w1,.int 1 v1⟩,⟨hashStr w "turn",.str "turn" w2,.int 4 v2⟩,⟨hashStr w "flip",.str "flip" w3,.int 8 v3⟩] ep,#[]⟩)(nd:(aD==sysModules)=false):DictM P w K mg:=by
 refine⟨aD,_,[("still",.int 1 v1),("turn",.int 4 v2),("flip",.int 8 v3)],h,ld,⟨_,ep,⟨rfl,rfl,rfl⟩,rfl,fun e he=>?_,?_,(show((["still","turn","flip"]:List Str).Nodup) by decide)⟩,nd,fun z=>?_⟩
 .have he':e=⟨hashStr w "still",.str "still" w1,.int 1 v1⟩\/e=⟨hashStr w "turn",.str "turn" w2,.int 4 v2⟩\/e=⟨hashStr w "flip",.str "flip" w3,.int 8 v3⟩:=by simpa using he
  rcases he' with rfl|rfl|rfl
  .exact⟨"still",strKind_is P w _ w1,rfl⟩
  .exact⟨"turn",strKind_is P w _ w2,rfl⟩
  .exact⟨"flip",strKind_is P w _ w3,rfl⟩
 .exact .cons (strKind_is P w _ w1) rfl (.cons (strKind_is P w _ w2) rfl (.cons (strKind_is P w _ w3) rfl .nil))
 .unfold mode1
  by_cases h1:z=Str.ofString "still"
  .subst h1;rfl
  .by_cases h2:z=Str.ofString "turn"
   .subst h2;rfl
   .by_cases h3:z=Str.ofString "flip"
    .subst h3;rfl
    .simp[valueAt,h1,h2,h3,Ne.symm h1,Ne.symm h2,Ne.symm h3]
theorem all_mk{l:PySem.W.OpenLaw}{w:World}{K:PySem.W.Frag}{h:Heap}{mg:Str->Option Value}{fa:Addr}(X:K.In h)(G:h.Ns mainGlobals mg)(hfa:mg "law" = some (.ref fa))
  (d1:Df K "is_whole" sPw)
  (d2:Df K "is_sign" sPs)
  (d3:Df K "is_small" sPsm)
  (d4:Df K "is_mode" sMode)
  (d5:Df K "is_floor" sFlo)
  (d6:Df K "is_floor_row" sFrow)
  (d7:Df K "is_floor_sign" sFsg)
  (d8:Df K "touches" sTch)
  (d9:Df K "formed" sFmd)
  (d10:Df K "is_form" sPf)
  (d11:Df K "is_spot" sPsp)
  (d12:Df K "hang_together" sPh)
  (d13:Df K "touches_any" sTa)
  (d14:Df K "is_kind" sKind)
  (d15:Df K "is_name" sName)
  (d16:Df K "are_bounds" sBnd)
  (d17:Df K "is_puzzle" sPuz)
  (d18:Df K "are_kinds" sKinds)
  (d19:Df K "are_pairs" sPairs)
  (d20:Df K "is_pair" sPair)
  (d21:Df K "_law_cell_at" sCell)
  (d22:Df K "_law_state" sState)
  (d23:Df K "_law_next" sNext)
  (d24:Df K "_law_signs" sSigns)
  (d25:Df K "_law_grown" sGrown)
  (d26:Df K "_law_shifted" sShift)
  (d27:Df K "_law_drawn_form" sForm)
  (d28:Df K "_law_whole" sWhole)
  (d29:Df K "_law_is_spot" sSpot)
  (d30:Df K "_law_hangs" sHangs)
  (d31:Df K "_law_is_form" sIsf)
  (d32:Df K "_law_floor" sFloor)
  (d33:Df K "_law_kind" sLkind)
  (d34:Df K "_law_names" sLnames)
  (d35:Df K "_law_pairs" sLpairs)
  (d36:Df K "_law_puzzle" sLpuz)
  (d37:Df K "_law_is_floor" sLflo)
  (d38:Df K "_law_is_kind" sLisk)
  (d39:Df K "_law_is_letter" sLlet)
  (d40:Df K "_law_are_pairs" sLarep)
  (d41:Df K "_law_is_puzzle" sLisp)
  (d42:Df K "_law_odd_kind" sLok)
  (d43:Df K "_law_odd_pairs" sLop)
  (d44:Df K "_law_spoilt" sSpoilt)
  (d45:Df K "law" sLaw)
  {u1 u2 u3 u4 u5 u6 u7 u8:Tok} (y1:PySem.W.nsIn K mainGlobals "MOST_SPOTS" = some (some (.int 6 u1))) (y2:PySem.W.nsIn K mainGlobals "MOST_LINES" = some (some (.int 8 u2))) (y3:PySem.W.nsIn K mainGlobals "CLOSED" = some (some (.str "#" u3))) (y4:PySem.W.nsIn K mainGlobals "COVERED" = some (some (.str "." u4))) (y5:PySem.W.nsIn K mainGlobals "FREE" = some (some (.str "," u5))) (y6:PySem.W.nsIn K mainGlobals "LONGEST_NAME" = some (some (.int 8 u6))) (y7:PySem.W.nsIn K mainGlobals "MOST_LAID" = some (some (.int 64 u7))) (y8:PySem.W.nsIn K mainGlobals "MOST_KINDS" = some (some (.int 6 u8))) {aD:Addr} {w1 v1 w2 v2 w3 v3:Tok} {ep:Nat} (yd:PySem.W.nsIn K mainGlobals "TURNINGS_BY_MODE" = some (some (.ref aD))) (ld:K.lookup aD=some ⟨.type "dict",none,.dict #[⟨hashStr w "still",.str "still" w1,.int 1 v1⟩,⟨hashStr w "turn",.str "turn" w2,.int 4 v2⟩,⟨hashStr w "flip",.str "flip" w3,.int 8 v3⟩] ep,#[]⟩) (nd:(aD==sysModules)=false)
  (z1:PySem.W.nsIn K mainGlobals "len" = some none) (z2:PySem.W.nsIn K mainGlobals "min" = some none) (z3:PySem.W.nsIn K mainGlobals "max" = some none) (z4:PySem.W.nsIn K mainGlobals "sorted" = some none) (z5:PySem.W.nsIn K mainGlobals "tuple" = some none) (z6:PySem.W.nsIn K mainGlobals "list" = some none) (z7:PySem.W.nsIn K mainGlobals "isinstance" = some none) (z8:PySem.W.nsIn K mainGlobals "bool" = some none) (z9:PySem.W.nsIn K mainGlobals "range" = some none) (z10:PySem.W.nsIn K mainGlobals "str" = some none) (z11:PySem.W.nsIn K mainGlobals "int" = some none) (z12:PySem.W.nsIn K mainGlobals "all" = some none) (z13:PySem.W.nsIn K mainGlobals "any" = some none) (z14:PySem.W.nsIn K mainGlobals "abs" = some none) (z15:PySem.W.nsIn K mainGlobals "set" = some none) :
  ∃fd:FuncData,(∀(s:Shared) (v:Value),BindsTo s fd ⟨[v],[]⟩ [("_law_script",v)])/\∀base:Heap,K.In base->base.Ns mainGlobals mg->FnOk l.prog w K mg base CX0 8 fa fd ["_law_script"] (spLaw K):=by
 obtain⟨f,fd,a,F⟩:=d45
 cases hfa.symm.trans (PySem.W.mg_of X G a)
 have B:∀x∈blts,mg x=none:=by
  intro x hx
  simp only[blts,List.mem_cons,List.not_mem_nil,or_false]at hx
  rcases hx with rfl|rfl|rfl|rfl|rfl|rfl|rfl|rfl|rfl|rfl|rfl|rfl|rfl|rfl|rfl
  .exact PySem.W.mg_none_of X G z1
  .exact PySem.W.mg_none_of X G z2
  .exact PySem.W.mg_none_of X G z3
  .exact PySem.W.mg_none_of X G z4
  .exact PySem.W.mg_none_of X G z5
  .exact PySem.W.mg_none_of X G z6
  .exact PySem.W.mg_none_of X G z7
  .exact PySem.W.mg_none_of X G z8
  .exact PySem.W.mg_none_of X G z9
  .exact PySem.W.mg_none_of X G z10
  .exact PySem.W.mg_none_of X G z11
  .exact PySem.W.mg_none_of X G z12
  .exact PySem.W.mg_none_of X G z13
  .exact PySem.W.mg_none_of X G z14
  .exact PySem.W.mg_none_of X G z15
 obtain⟨oc,od,kV,doc,pm,an,cdv,ct,osl,rfl,lk,hcd⟩:=id F.ex
 refine⟨PySem.W.fnOf "law" "law" (defArgs sLaw) (defBody sLaw) (defScope sLaw) .none kV doc pm an cdv ct,fun s v=>.of_eq rfl,fun base _ _=>?_⟩
 have g6:G6 mg:=⟨_,PySem.W.mg_of X G y1⟩
 have g8:G8 mg:=⟨_,PySem.W.mg_of X G y2⟩
 have gC:GS mg "CLOSED" "#":=⟨_,PySem.W.mg_of X G y3⟩
 have gP:GS mg "COVERED" ".":=⟨_,PySem.W.mg_of X G y4⟩
 have gF:GS mg "FREE" ",":=⟨_,PySem.W.mg_of X G y5⟩
 have gLN:GI mg "LONGEST_NAME" 8:=⟨_,PySem.W.mg_of X G y6⟩
 have g64:GI mg "MOST_LAID" 64:=⟨_,PySem.W.mg_of X G y7⟩
 have gMK:GI mg "MOST_KINDS" 6:=⟨_,PySem.W.mg_of X G y8⟩
 have dm:DictM l.prog w K mg:=dict_m (PySem.W.mg_of X G yd) ld nd
 have nx:=d23.fn (P:=l.prog) (w:=w) (base:=base) X G (ok_next)
 have pw:=d1.fn (P:=l.prog) (w:=w) (base:=base) X G (ok_pw B)
 have pS:=d2.fn (P:=l.prog) (w:=w) (base:=base) X G (ok_ps B)
 have sm:=d3.fn (P:=l.prog) (w:=w) (base:=base) X G (ok_small B)
 have md:=d4.fn (P:=l.prog) (w:=w) (base:=base) X G (ok_mode B dm)
 have sg:=d7.fn (P:=l.prog) (w:=w) (base:=base) X G (ok_fsg gC gP gF pS sm)
 have rw:=d6.fn (P:=l.prog) (w:=w) (base:=base) X G (ok_frow B g8 sg)
 have fl:=d5.fn (P:=l.prog) (w:=w) (base:=base) X G (ok_flo B g8 rw)
 have tc:=d8.fn (P:=l.prog) (w:=w) (base:=base) X G (ok_tch B)
 have ta:=d13.fn (P:=l.prog) (w:=w) (base:=base) X G (ok_ta B tc)
 have fm:=d9.fn (P:=l.prog) (w:=w) (base:=base) X G (ok_fmd B)
 have sp:=d11.fn (P:=l.prog) (w:=w) (base:=base) X G (ok_psp B pw pS)
 have ph:=d12.fn (P:=l.prog) (w:=w) (base:=base) X G (ok_ph B ta)
 have pf:=d10.fn (P:=l.prog) (w:=w) (base:=base) X G (ok_pf B g6 sp fm ph)
 have nm:=d15.fn (P:=l.prog) (w:=w) (base:=base) X G (ok_name B gLN sm)
 have bd:=d16.fn (P:=l.prog) (w:=w) (base:=base) X G (ok_bnd B g64 pw)
 have kd:=d14.fn (P:=l.prog) (w:=w) (base:=base) X G (ok_kind B nm bd md pf)
 have pr:=d20.fn (P:=l.prog) (w:=w) (base:=base) X G (ok_pair B pS)
 have prs:=d19.fn (P:=l.prog) (w:=w) (base:=base) X G (ok_pairs B pr)
 have kds:=d18.fn (P:=l.prog) (w:=w) (base:=base) X G (ok_kinds B gMK kd)
 have pz:=d17.fn (P:=l.prog) (w:=w) (base:=base) X G (ok_puz B fl kds prs)
 have wh:=d28.fn (P:=l.prog) (w:=w) (base:=base) X G (ok_whole B)
 have ls:=d29.fn (P:=l.prog) (w:=w) (base:=base) X G (ok_spot B wh)
 have lh:=d30.fn (P:=l.prog) (w:=w) (base:=base) X G (ok_hangs B)
 have lf:=d31.fn (P:=l.prog) (w:=w) (base:=base) X G (ok_isf B ls lh)
 have lfl:=d37.fn (P:=l.prog) (w:=w) (base:=base) X G (ok_lflo B)
 have lk:=d38.fn (P:=l.prog) (w:=w) (base:=base) X G (ok_lisk B wh lf)
 have ll:=d39.fn (P:=l.prog) (w:=w) (base:=base) X G (ok_llet B)
 have lp:=d40.fn (P:=l.prog) (w:=w) (base:=base) X G (ok_larep B ll)
 have lz:=d41.fn (P:=l.prog) (w:=w) (base:=base) X G (ok_lisp B lfl lk lp)
 have si:=d24.fn (P:=l.prog) (w:=w) (base:=base) X G (ok_signs nx)
 have gr:=d25.fn (P:=l.prog) (w:=w) (base:=base) X G (ok_grown B nx)
 have sh:=d26.fn (P:=l.prog) (w:=w) (base:=base) X G (ok_shift B)
 have df:=d27.fn (P:=l.prog) (w:=w) (base:=base) X G (ok_form B nx si gr sh)
 have fo:=d32.fn (P:=l.prog) (w:=w) (base:=base) X G (ok_floor B nx)
 have ki:=d33.fn (P:=l.prog) (w:=w) (base:=base) X G (ok_lkind B nx df)
 have na:=d34.fn (P:=l.prog) (w:=w) (base:=base) X G (ok_lnames B nx)
 have pa:=d35.fn (P:=l.prog) (w:=w) (base:=base) X G (ok_lpairs B nx)
 have pu:=d36.fn (P:=l.prog) (w:=w) (base:=base) X G (ok_lpuz B nx fo ki na pa)
 have ok:=d42.fn (P:=l.prog) (w:=w) (base:=base) X G (ok_lok B nx)
 have op:=d43.fn (P:=l.prog) (w:=w) (base:=base) X G (ok_lop B nx)
 have so:=d44.fn (P:=l.prog) (w:=w) (base:=base) X G (ok_spoilt B nx ok op)
 have ce:=d21.fn (P:=l.prog) (w:=w) (base:=base) X G (ok_cell B)
 have ste:=d22.fn (P:=l.prog) (w:=w) (base:=base) X G (ok_state)
 exact ok_law B nx ce ste pu so pz lz kd lk F
theorem walk{l:PySem.W.OpenLaw}{q:Program}{loose:List Str}{XP:(Str->Option Value)->Heap->Prop}{YP:World->Heap->Prop}{d:DefRec}{K:Params->PySem.W.Frag}(hn:l.most=some 63)(hdf:d.params.defaults=[])
  (hY:∀(w:World) (h:Heap),YP w h->(K w.params).In h)
  (F:∀(w:World) (mg:Str->Option Value) (fa:Addr) (h:Heap),(K w.params).In h->h.Ns mainGlobals mg->mg d.name=some (.ref fa)->
   ∃fd:FuncData,(∀(s:Shared) (u:Value),BindsTo s fd ⟨[u],[]⟩ [("_law_script",u)])/\∀base:Heap,(K w.params).In base->base.Ns mainGlobals mg->FnOk l.prog w (K w.params) mg base CX0 8 fa fd ["_law_script"] (spLaw (K w.params))) :
  PySem.W.WalkO q loose XP YP l.row.toRowW d [] (fun f vs=>PySem.call f vs):=
 L2.walk_of (n:=63) (k:=8) (x:="_law_script") (CX:=fun _=>CX0) (sp:=fun w=>spLaw (K w.params)) hn (by decide) hdf ⟨rfl,by decide,by decide⟩ hY F (fun _ _ a ns hl _ hS=>⟨a,ns,rfl,hS,hl,fun _=>rfl⟩) fun _ _ _ _ _ z=>z
noncomputable def vw:Program:=PySem.W.view PySem.Challenge.pw_coverpieces_k09_puzzles_told [1,2,3,5,6,8,9,10,11,12,13,14,16,17,18,19,20,21,22,24,25,26,27,28,29,30,31,32,33,35,36,37,38,39,40,41,42,43,44,45,46,47,48,49,50,51,52,53,54,55,56,57,58,59]
set_option maxHeartbeats 0 in
theorem said:PySem.W.OpenLaw.wellSaid PySem.Challenge.rw_coverpieces_k09_puzzles_told=true:=by kernel_rfl
end K09
open PySem PySem.W PyProof.Rows
local macro_rules | `(tactic| o_law)=>`(tactic| refine holds_law K09.said fun said=>?_)
local macro_rules | `(tactic| o_head $H)=>`(tactic| refine(fun h hw=>holds_open (q:=K09.vw) (loose:=["TURNINGS_BY_MODE"]) (Xt:=(fun s=>xlAt K09.vw [] s&&recOk (RowW.records (OpenLaw.row PySem.Challenge.rw_coverpieces_k09_puzzles_told).toRowW) s)) (XP:=XL K09.vw []) (Yf:=Hook.obs $H) (Ya:=Hook.val $H) (YP:=Hook.says $H) (N:=3104) (And.left h) (Hook.of $H) (Hook.keeps $H) (fun s e=>xl_of s (Bool.and_eq_true_iff.mp e).1) XL.keeps (by rfl) (by rfl) (by rfl) (fun s e=>recFacts_of (Bool.and_eq_true_iff.mp e).2) (by rfl) (by assumption) (by decide +kernel) ⟨rfl,rfl,rfl,rfl,rfl,by decide +kernel⟩ hw (And.right h)) ?hc ?hw)
set_option maxRecDepth 100000 in
set_option maxHeartbeats 0 in
open_top K09.hd for PySem.Challenge.rw_coverpieces_k09_puzzles_told
namespace K09
noncomputable def hk:Hook:=kHook K09.hd.heap_1 [2,3,15,17,18,20,21,22,24,25,27,28,29,31,32,34,35,36,37,39,40,42,43,44,47,48,49,52,53,54,56,57,59,60,61,63,64,66,67,68,71,72,73,76,77,78,80,81,83,84,85,88,89,90,93,94,95,97,98,100,101,102,105,106,107,109,110,112,113,114,116,117,119,120,121,124,125,126,129,130,131,133,134,136,137,138,140,141,143,144,145,147,148,150,151,152,154,155,157,158,159,161,162,164,165,166,168,169,171,172,173,176,177,178,180,181,183,184,185,187,188,190,191,192,194,195,197,198,199,201,202,204,205,206,209,210,211,214,215,216,218,219,221,222,223,226,227,228,230,231,233,234,235,238,239,240,242,243,245,246,247,250,251,252,254,255,257,258,259,262,263,264,267,268,269,271,272,274,275,276,278,279,281,282,283,285,286,288,289,290,292,293,295,296] (fun _=>by kernel_rfl)
noncomputable def Lo(w:World):Prop:=(openEnds treeTable PySem.Challenge.pw_coverpieces_k09_puzzles_told w 3104).map (fun s=>(openSeen vw ["TURNINGS_BY_MODE"] (importedModules PySem.Challenge.pw_coverpieces_k09_puzzles_told.main.body) (fun s=>xlAt vw [] s&&recOk (RowW.records (OpenLaw.row PySem.Challenge.rw_coverpieces_k09_puzzles_told).toRowW) s) true s,hk.obs s))=some (openGood vw ["TURNINGS_BY_MODE"],hk.val w)
set_option maxHeartbeats 0 in
theorem lf(w:World):Lo (w.withFollow "special-get-raises" false):=by unfold Lo;kernel_rfl
set_option maxHeartbeats 0 in
theorem lt(w:World):Lo (w.withFollow "special-get-raises" true):=by unfold Lo;kernel_rfl
theorem left:∀w,Lo w:=byRow2 "special-get-raises" lf lt
end K09
set_option maxRecDepth 100000 in
set_option maxHeartbeats 0 in
theorem PySem.Challenge.cw_coverpieces_k09_puzzles_told_holds : PySem.Challenge.rw_coverpieces_k09_puzzles_told.Holds := by
 refine K09.hd ⟨K09.left,?_⟩
 k_fill
 refine K09.walk (l:=PySem.Challenge.rw_coverpieces_k09_puzzles_told) rfl rfl (fun w h Y=>PySem.W.kIn_of Y) ?F
 case F=>
  intro w mg fa h KX G hmg
  refine' K09.all_mk KX G hmg ?d1 ?d2 ?d3 ?d4 ?d5 ?d6 ?d7 ?d8 ?d9 ?d10 ?d11 ?d12 ?d13 ?d14 ?d15 ?d16 ?d17 ?d18 ?d19 ?d20 ?d21 ?d22 ?d23 ?d24 ?d25 ?d26 ?d27 ?d28 ?d29 ?d30 ?d31 ?d32 ?d33 ?d34 ?d35 ?d36 ?d37 ?d38 ?d39 ?d40 ?d41 ?d42 ?d43 ?d44 ?d45 ?y1 ?y2 ?y3 ?y4 ?y5 ?y6 ?y7 ?y8 ?yd ?ld ?nd ?z1 ?z2 ?z3 ?z4 ?z5 ?z6 ?z7 ?z8 ?z9 ?z10 ?z11 ?z12 ?z13 ?z14 ?z15
  case d1|d2|d3|d4|d5|d6|d7|d8|d9|d10|d11|d12|d13|d14|d15|d16|d17|d18|d19|d20|d21|d22|d23|d24|d25|d26|d27|d28|d29|d30|d31|d32|d33|d34|d35|d36|d37|d38|d39|d40|d41|d42|d43|d44|d45=>refine' L3.df_mk ?a ?l ?c ?k;(case a=>k_is);(case l=>k_is);(case c=>k_is);(case k=>k_is)
  case y1=>k_is
  case y2=>k_is
  case y3=>k_is
  case y4=>k_is
  case y5=>k_is
  case y6=>k_is
  case y7=>k_is
  case y8=>k_is
  case yd=>k_is
  case ld=>k_is
  case nd=>rfl
  case z1|z2|z3|z4|z5|z6|z7|z8|z9|z10|z11|z12|z13|z14|z15=>k_is
