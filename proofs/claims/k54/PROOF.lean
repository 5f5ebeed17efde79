import PyProof.Rows.All
import Wide.All
import OpenK.AllK
import Wide.FinOn
import Lean
import PyProof.EqAt
import PyProof.EqKinds
import PyProof.TupleCall
import PyProof.Rows.SortRuns
import PyProof.CompFree
import KE.KSortTup
import PyProof.P3Eq
import PyProof.P3In
import PyProof.NeData
import PyProof.WalkInts
import PyProof.Rows.MinMaxN
import PyProof.StrWalks
import PyProof.StrBlockH
import PyProof.StrLawsIn
import PyProof.FString5
import PyProof.StrOps2
import PyProof.ListStr
import PyProof.ConsumeWalk
import PyProof.Rows.StrJoin2
import PyProof.EnumMake
import PyProof.EnumFor
import PyProof.LayNew
import PyProof.Rows.EnumRows
import PyProof.StrCalls
import PyProof.Rows.StrCase
import PyProof.Rows.StrAscii2
import PyProof.Rows.StrFit
import PyProof.IsRules
import PyProof.DictWalks
import PyProof.TupleOfStr
import PyProof.CollectWalk
import PyProof.WalkLemmas
import PyProof.Rows.Range3
import PyProof.Cells
import KE.KRevSl
import PySem.SetTable
import PySem.SetOps
import PyProof.SetKind
import PyProof.TupleKey
import PyProof.DictKinds
import PyProof.Rows.SetFrom
import PyProof.Seq
import PyProof.SetRoads
import PyProof.Walk
import PyProof.MinMaxWalk
import PyProof.DictRoads
import PyProof.AutoListH
import PyProof.FactsAll.list_3
import PyProof.NeKinds
import PyProof.DictRoadsH
import KE.KDictSum
import PyProof.Rows.TupDisplay
import PyProof.DictTable
import KE.KDictOf
import PyProof.DictItems
import PyProof.EnumIter
import PyProof.Rows.SumAny
import KE.KTryOn
import PyProof.ExcClass3
import PyProof.NsDelKeeps
import KE.KIsAll
import PyProof.ExcAttrAll.ValueError
import PyProof.ListRange
import PyProof.Walks
import PyProof.CallType
import PyProof.FactsAll.list_2
import PyProof.EnumStmt
import PyProof.Rows.FactsT2
import PyProof.ExcBaseAll.ValueError
import PySem.Challenge.RW_coverpieces_k54_refused_primes
set_option Elab.async false
set_option linter.all false
set_option maxRecDepth 100000
section
namespace K54
open PySem PyProof.Rows
noncomputable def vw:Program:=PySem.W.view PySem.Challenge.pw_coverpieces_k54_refused_primes [1,2,3,5,6,7,8,9,11,12,13,14,15,17,18,19,20,21,22,23,24,26,27,28,29,30,31,33,34,35,36,37,38,39,40,41,42,43,44,45,47,48]
set_option maxHeartbeats 0 in
theorem said:PySem.W.OpenLaw.wellSaid PySem.Challenge.rw_coverpieces_k54_refused_primes=true:=by kernel_rfl
end K54
open PySem PySem.W PyProof.Rows
local macro_rules | `(tactic| o_law)=>`(tactic| refine holds_law K54.said fun said=>?_)
local macro_rules | `(tactic| o_head $H)=>`(tactic| refine(fun h hw=>holds_open (q:=K54.vw) (loose:=["TURNINGS_BY_MODE"]) (Xt:=(fun s=>xlAt K54.vw [] s&&recOk (RowW.records (OpenLaw.row PySem.Challenge.rw_coverpieces_k54_refused_primes).toRowW) s)) (XP:=XL K54.vw []) (Yf:=Hook.obs $H) (Ya:=Hook.val $H) (YP:=Hook.says $H) (N:=4418) (And.left h) (Hook.of $H) (Hook.keeps $H) (fun s e=>xl_of s (Bool.and_eq_true_iff.mp e).1) XL.keeps (by rfl) (by rfl) (by rfl) (fun s e=>recFacts_of (Bool.and_eq_true_iff.mp e).2) (by rfl) (by assumption) (by decide +kernel) ⟨rfl,rfl,rfl,rfl,rfl,by decide +kernel⟩ hw (And.right h)) ?hc ?hw)
set_option maxRecDepth 100000 in
set_option maxHeartbeats 0 in
open_top K54.hd for PySem.Challenge.rw_coverpieces_k54_refused_primes
namespace K54
noncomputable def hk:Hook:=kHook K54.hd.heap_1 [2,3,15,17,18,20,21,22,24,25,27,28,29,31,32,34,35,36,43,44,45,46,49,56,57,58,61,68,69,70,73,80,81,82,85,92,93,94,97,98,100,101,103,104,105,108,109,110,113,114,115,118,119,120,122,123,125,126,127,129,130,132,133,134,136,137,139,140,141,143,144,146,147,148,151,152,153,155,156,158,159,160,163,164,165,168,169,170,173,174,175,178,179,180,182,183,185,186,187,190,191,192,194,195,197,198,199,202,203,204,207,208,209,212,213,214,216,217,219,220,221,224,225,226,229,230,231,233,234,236,237,238,241,242,243,245,246,248,249,250,253,254,255,257,258,260,261,262,264,265,267,268,269,271,272,274,275] (fun _=>by kernel_rfl)
noncomputable def Lo(w:World):Prop:=(openEnds treeTable PySem.Challenge.pw_coverpieces_k54_refused_primes w 4418).map (fun s=>(openSeen vw ["TURNINGS_BY_MODE"] (importedModules PySem.Challenge.pw_coverpieces_k54_refused_primes.main.body) (fun s=>xlAt vw [] s&&recOk (RowW.records (OpenLaw.row PySem.Challenge.rw_coverpieces_k54_refused_primes).toRowW) s) true s,hk.obs s))=some (openGood vw ["TURNINGS_BY_MODE"],hk.val w)
set_option maxHeartbeats 0 in
theorem lf(w:World):Lo (w.withFollow "special-get-raises" false):=by unfold Lo;kernel_rfl
set_option maxHeartbeats 0 in
theorem lt(w:World):Lo (w.withFollow "special-get-raises" true):=by unfold Lo;kernel_rfl
theorem left:∀w,Lo w:=byRow2 "special-get-raises" lf lt
end K54
end
set_option Elab.async false
set_option linter.all false
set_option maxRecDepth 100000
set_option maxHeartbeats 8000000
theorem x_EE{α0:Sort u0}{α1:Sort u1}{t:α0->α1->Prop}(x0:α0)(x1:α1)(h:t x0 x1):∃x0,∃x1,t x0 x1:=⟨x0,x1,h⟩
theorem x_EAE{α0:Sort u0}{α1:Sort u1}{p0:α0->Prop}{t:α0->α1->Prop}(x0:α0)(h0:p0 x0)(x1:α1)(h:t x0 x1):∃x0,p0 x0/\∃x1,t x0 x1:=⟨x0,h0,x1,h⟩
theorem x_EEE{α0:Sort u0}{α1:Sort u1}{α2:Sort u2}{t:α0->α1->α2->Prop}(x0:α0)(x1:α1)(x2:α2)(h:t x0 x1 x2):∃x0,∃x1,∃x2,t x0 x1 x2:=⟨x0,x1,x2,h⟩
theorem x_EAAE{α0:Sort u0}{α1:Sort u1}{p0:α0->Prop}{p1:α0->Prop}{t:α0->α1->Prop}(x0:α0)(h0:p0 x0)(h1:p1 x0)(x1:α1)(h:t x0 x1):∃x0,p0 x0/\p1 x0/\∃x1,t x0 x1:=⟨x0,h0,h1,x1,h⟩
theorem x_EAEE{α0:Sort u0}{α1:Sort u1}{α2:Sort u2}{p0:α0->Prop}{t:α0->α1->α2->Prop}(x0:α0)(h0:p0 x0)(x1:α1)(x2:α2)(h:t x0 x1 x2):∃x0,p0 x0/\∃x1,∃x2,t x0 x1 x2:=⟨x0,h0,x1,x2,h⟩
theorem x_EEEE{α0:Sort u0}{α1:Sort u1}{α2:Sort u2}{α3:Sort u3}{t:α0->α1->α2->α3->Prop}(x0:α0)(x1:α1)(x2:α2)(x3:α3)(h:t x0 x1 x2 x3):∃x0,∃x1,∃x2,∃x3,t x0 x1 x2 x3:=⟨x0,x1,x2,x3,h⟩
theorem x_EEEEE{α0:Sort u0}{α1:Sort u1}{α2:Sort u2}{α3:Sort u3}{α4:Sort u4}{t:α0->α1->α2->α3->α4->Prop}(x0:α0)(x1:α1)(x2:α2)(x3:α3)(x4:α4)(h:t x0 x1 x2 x3 x4):∃x0,∃x1,∃x2,∃x3,∃x4,t x0 x1 x2 x3 x4:=⟨x0,x1,x2,x3,x4,h⟩
theorem x_EAEEEE{α0:Sort u0}{α1:Sort u1}{α2:Sort u2}{α3:Sort u3}{α4:Sort u4}{p0:α0->Prop}{t:α0->α1->α2->α3->α4->Prop}(x0:α0)(h0:p0 x0)(x1:α1)(x2:α2)(x3:α3)(x4:α4)(h:t x0 x1 x2 x3 x4):∃x0,p0 x0/\∃x1,∃x2,∃x3,∃x4,t x0 x1 x2 x3 x4:=⟨x0,h0,x1,x2,x3,x4,h⟩
theorem x_EEAAAEEAE{α0:Sort u0}{α1:Sort u1}{α2:Sort u2}{α3:Sort u3}{α4:Sort u4}{p0:α0->α1->Prop}{p1:α0->α1->Prop}{p2:α0->α1->Prop}{p3:α0->α1->α2->α3->Prop}{t:α0->α1->α2->α3->α4->Prop}(x0:α0)(x1:α1)(h0:p0 x0 x1)(h1:p1 x0 x1)(h2:p2 x0 x1)(x2:α2)(x3:α3)(h3:p3 x0 x1 x2 x3)(x4:α4)(h:t x0 x1 x2 x3 x4):∃x0,∃x1,p0 x0 x1/\p1 x0 x1/\p2 x0 x1/\∃x2,∃x3,p3 x0 x1 x2 x3/\∃x4,t x0 x1 x2 x3 x4:=⟨x0,x1,h0,h1,h2,x2,x3,h3,x4,h⟩
theorem x_EEAAEEAAE{α0:Sort u0}{α1:Sort u1}{α2:Sort u2}{α3:Sort u3}{α4:Sort u4}{p0:α0->α1->Prop}{p1:α0->α1->Prop}{p2:α0->α1->α2->α3->Prop}{p3:α0->α1->α2->α3->Prop}{t:α0->α1->α2->α3->α4->Prop}(x0:α0)(x1:α1)(h0:p0 x0 x1)(h1:p1 x0 x1)(x2:α2)(x3:α3)(h2:p2 x0 x1 x2 x3)(h3:p3 x0 x1 x2 x3)(x4:α4)(h:t x0 x1 x2 x3 x4):∃x0,∃x1,p0 x0 x1/\p1 x0 x1/\∃x2,∃x3,p2 x0 x1 x2 x3/\p3 x0 x1 x2 x3/\∃x4,t x0 x1 x2 x3 x4:=⟨x0,x1,h0,h1,x2,x3,h2,h3,x4,h⟩
namespace L3
structure Ord(lt:Nat->Nat->Bool):Prop where
 asy:∀a b,lt a b=true->lt b a=false
 tr:∀a b c,lt b a=false->lt c b=false->lt c a=false
noncomputable def insN(lt:Nat->Nat->Bool)(x:Nat):List Nat->List Nat
 | []=>[x]
 | y::l=>if lt y x=true then y::insN lt x l else x::y::l
noncomputable def srtL(lt:Nat->Nat->Bool):List Nat->List Nat
 | []=>[]
 | x::l=>insN lt x (srtL lt l)
noncomputable def srt(lt:Nat->Nat->Bool)(n:Nat):List Nat:=srtL lt (List.range n)
theorem insN_perm(lt:Nat->Nat->Bool)(x:Nat):∀l,(insN lt x l).Perm (x::l)
 | []=>List.Perm.refl _
 | y::l=>by
  unfold insN
  split
  .exact((insN_perm lt x l).cons y).trans (List.Perm.swap x y l)
  .exact List.Perm.refl _
theorem srtL_perm(lt:Nat->Nat->Bool):∀l,(srtL lt l).Perm l
 | []=>List.Perm.refl _
 | x::l=>(insN_perm lt x _).trans ((srtL_perm lt l).cons x)
theorem srt_perm(lt:Nat->Nat->Bool)(n:Nat):(srt lt n).Perm (List.range n):=srtL_perm lt _
theorem srt_length(lt:Nat->Nat->Bool)(n:Nat):(srt lt n).length=n:=by rw[(srt_perm lt n).length_eq,List.length_range]
theorem Ord.irr{lt:Nat->Nat->Bool}(o:Ord lt)(a:Nat):lt a a=false:=by
 cases h:lt a a with
 | false=>rfl
 | true=>exact h.symm.trans (o.asy a a h)
theorem insN_up{lt:Nat->Nat->Bool}(o:Ord lt)(x:Nat):∀{l:List Nat},l.Pairwise (fun a b=>lt b a=false)->(insN lt x l).Pairwise (fun a b=>lt b a=false)
 | [],_=>by simp[insN]
 | y::l,h=>by
  have h':=List.pairwise_cons.mp h
  unfold insN
  split
  .rename_i hy
   refine List.pairwise_cons.mpr ⟨fun z hz=>?_,insN_up o x h'.2⟩
   rcases List.mem_cons.mp ((insN_perm lt x l).mem_iff.mp hz)with rfl|hz
   .exact o.asy _ _ hy
   .exact h'.1 z hz
  .rename_i hy
   have hy':lt y x=false:=by simpa using hy
   refine List.pairwise_cons.mpr ⟨fun z hz=>?_,h⟩
   rcases List.mem_cons.mp hz with rfl|hz
   .exact hy'
   .exact o.tr _ _ _ hy' (h'.1 z hz)
theorem srtL_up{lt:Nat->Nat->Bool}(o:Ord lt):∀l,(srtL lt l).Pairwise (fun a b=>lt b a=false)
 | []=>List.Pairwise.nil
 | x::l=>insN_up o x (srtL_up o l)
theorem srt_up{lt:Nat->Nat->Bool}(o:Ord lt)(n:Nat){i j:Nat}(h1:i<=j)(h2:j<n):lt ((srt lt n).getD j 0) ((srt lt n).getD i 0)=false:=by
 have hl:=srt_length lt n
 have hj:j<(srt lt n).length:=by omega
 have hi:i<(srt lt n).length:=by omega
 rw[List.getD_eq_getElem?_getD,List.getD_eq_getElem?_getD,List.getElem?_eq_getElem hj,List.getElem?_eq_getElem hi]
 show lt (srt lt n)[j] (srt lt n)[i]=false
 by_cases e:i=j
 .subst e;exact o.irr _
 .exact List.pairwise_iff_getElem.mp (srtL_up o (List.range n)) i j hi hj (by omega)
end L3
namespace L2
open PySem PySem.Spec PyProof.Rows
noncomputable abbrev Key:=Sum Int Str
noncomputable def keyIs:Key->Value->Bool
 | .inl k,v=>Value.isInt k v
 | .inr x,v=>Value.isStrOf x v
noncomputable def keyH(w:World):Key->Int
 | .inl k=>hashInt k
 | .inr x=>hashStr w x
theorem keyIs_shape:∀{k:Key} {v:Value},keyIs k v=true->(∃i t,k=Sum.inl i/\v=Value.int i t)\/(∃x t,k=Sum.inr x/\v=Value.str x t)
 | .inl i,v,h=>by
  obtain⟨t,e⟩:=Value.isInt_shape (k:=i) (v:=v) h
  exact .inl ⟨i,t,rfl,e⟩
 | .inr x,v,h=>by
  obtain⟨t,e⟩:=Value.isStrOf_shape (x:=x) (v:=v) h
  exact .inr ⟨x,t,rfl,e⟩
theorem key_ll(a b:Int):decide ((Sum.inl a:Key)=Sum.inl b)=(a==b):=by
 by_cases e:a=b
 .subst e;simp
 .have h:¬(Sum.inl a:Key)=Sum.inl b:=fun q=>e (Sum.inl.inj q)
  rw[decide_eq_false h]
  exact(beq_eq_false_iff_ne.mpr e).symm
theorem key_rr(a b:Str):decide ((Sum.inr a:Key)=Sum.inr b)=decide (a=b):=by
 by_cases e:a=b
 .subst e;simp
 .have h:¬(Sum.inr a:Key)=Sum.inr b:=fun q=>e (Sum.inr.inj q)
  rw[decide_eq_false h,decide_eq_false e]
theorem key_lr(a:Int)(b:Str):decide ((Sum.inl a:Key)=Sum.inr b)=false:=decide_eq_false (fun q=>nomatch q)
theorem key_rl(a:Str)(b:Int):decide ((Sum.inr a:Key)=Sum.inl b)=false:=decide_eq_false (fun q=>nomatch q)
noncomputable def mixKind(prog:Program)(w:World):PySem.KeyKind prog w Key where
 is:=keyIs
 hash:=keyH w
 inj:=fun v a b ha hb=>by
  rcases keyIs_shape ha with ⟨i,t,rfl,rfl⟩|⟨x,t,rfl,rfl⟩
  .rcases keyIs_shape hb with ⟨j,u,rfl,e⟩|⟨y,u,rfl,e⟩
   .injection e with e1 _;rw[e1]
   .exact nomatch e
  .rcases keyIs_shape hb with ⟨j,u,rfl,e⟩|⟨y,u,rfl,e⟩
   .exact nomatch e
   .injection e with e1 _;rw[e1]
 byValue:=fun k v h=>by
  rcases keyIs_shape h with ⟨i,t,rfl,rfl⟩|⟨x,t,rfl,rfl⟩<;>rfl
 pyHash:=fun hv h=>by
  rcases keyIs_shape hv with ⟨i,t,rfl,rfl⟩|⟨x,t,rfl,rfl⟩
  .exact wpAny_pyHash_int h
  .exact wpAny_pyHash_str h
 eqBool:=fun hu hv h=>by
  rcases keyIs_shape hu with ⟨i,t,rfl,rfl⟩|⟨x,t,rfl,rfl⟩
  .rcases keyIs_shape hv with ⟨j,u,rfl,rfl⟩|⟨y,u,rfl,rfl⟩
   .rw[key_ll]at h;exact wpAny_eqBool_int h
   .rw[key_lr]at h;exact SeqAt.EqAt.int_str i t y u _ _ _ _ h
  .rcases keyIs_shape hv with ⟨j,u,rfl,rfl⟩|⟨y,u,rfl,rfl⟩
   .rw[key_rl]at h;exact SeqAt.EqAt.str_int x t j u _ _ _ _ h
   .rw[key_rr]at h;exact wpAny_eqBool_str h
 «strs»:=fun k x t v h=>by
  rcases keyIs_shape h with ⟨i,u,rfl,e⟩|⟨y,u,rfl,e⟩
  .exact nomatch e
  .injection e with e1 _
   subst e1
   cases v<;>rfl
end L2
namespace L2
open PySem PySem.Spec PyProof.Rows
inductive V where
 | non|bl (b:Bool)|int (i:Int)|str (x:Str)|byt (b:Array UInt8)|flt (b:UInt64)|ref (a:Addr)|ty (n:String)
 deriving DecidableEq
noncomputable def RelV:V->Value->Prop
 | .non,u=>u=Value.none
 | .bl b,u=>u=Value.bool b
 | .int i,u=>∃t,u=Value.int i t
 | .str x,u=>∃t,u=Value.str x t
 | .byt b,u=>∃t,u=Value.bytes b t
 | .flt b,u=>∃t,u=Value.float b t
 | .ref a,u=>u=Value.ref a
 | .ty n,u=>u=Value.type n
noncomputable abbrev Vals:List V->List Value->Prop:=Paired RelV
theorem Vals.length{xs:List V}{us:List Value}(r:Vals xs us):xs.length=us.length:=Paired.length r
theorem Vals.get:∀{xs:List V} {us:List Value} {i:Nat} {x:V},Vals xs us->xs[i]?=some x->∃u,us[i]?=some u/\RelV x u
 | _,_,_,_,.nil,e=>by simp at e
 | _,_,0,_,.cons r _,e=>by simp at e;subst e;exact⟨_,rfl,r⟩
 | _,_,i+1,x,.cons _ t,e=>by
  obtain⟨u,h1,h2⟩:=Vals.get (i:=i) (x:=x) t (by simpa using e)
  exact⟨u,by simpa using h1,h2⟩
theorem Vals.append:∀{xs ys:List V} {us ws:List Value},Vals xs us->Vals ys ws->Vals (xs++ys) (us++ws)
 | _,_,_,_,.nil,s=>s
 | _,_,_,_,.cons r t,s=>.cons r (Vals.append t s)
theorem Vals.take:∀{xs:List V} {us:List Value} (n:Nat),Vals xs us->Vals (xs.take n) (us.take n)
 | _,_,0,_=>.nil
 | _,_,_+1,.nil=>.nil
 | _,_,n+1,.cons r t=>.cons r (Vals.take n t)
theorem Vals.drop:∀{xs:List V} {us:List Value} (n:Nat),Vals xs us->Vals (xs.drop n) (us.drop n)
 | _,_,0,r=>r
 | _,_,_+1,.nil=>.nil
 | _,_,n+1,.cons _ t=>Vals.drop n t
noncomputable def RelO:Option V->Option Value->Prop
 | some v,some u=>RelV v u
 | none,none=>True
 | _,_=>False
noncomputable def KV{κ:Type}:List (κ×V)->List (κ×Value)->Prop:=Paired fun(p:κ×V) (q:κ×Value)=>p.1=q.1/\RelV p.2 q.2
noncomputable def kV:Key->V
 | .inl i=>.int i
 | .inr x=>.str x
inductive HO where
 | lst (xs:List V)
 | tup (xs:List V)
 | dK (kvs:List (Key×V))|dT (kvs:List (List Key×V))
 | set (S:Int->Bool) (n:Nat)
 | ins (C dx:Addr) (fs:List (Str×V))
 | own (x:Addr)
 | xd (fs:List (Str×V))
 | met (f x:Addr)
 | rng (lo hi:Int)
 | frz (o:Obj) (u:HO)
 | tbl (ps:Array Value)
 | ext (φ:Heap->Prop)
noncomputable abbrev Hp:=Addr->Option HO
noncomputable def upd(H:Hp)(a:Addr)(o:HO):Hp:=fun b=>if b=a then some o else H b
theorem upd_same{H:Hp}{a:Addr}{o:HO}:upd H a o a=some o:=by unfold upd;rw[if_pos rfl]
theorem upd_ne{H:Hp}{a b:Addr}{o:HO}(h:b≠a):upd H a o b=H b:=by unfold upd;rw[if_neg h]
theorem ne_of{H:Hp}{a b:Addr}{o u:HO}(h:H a=some o)(h':H b=some u)(d:o≠u):a≠b:=by
 intro e;subst e;rw[h]at h';exact d (Option.some.inj h')
theorem ne_of_none{H:Hp}{a b:Addr}{o:HO}(h:H a=some o)(h':H b=none):a≠b:=by
 intro e;subst e;rw[h]at h';cases h'
section
variable(P:Program)(w:World)
noncomputable def ObjOk(H:Hp)(h:Heap)(a:Addr):HO->Prop
 | .lst xs=>xs.length<=sizeLine/\∃(its:List Value) (n:Nat),Vals xs its/\h.get? a=some {cls:=.type "list",data:=.seq its.toArray n}
 | .tup xs=>xs.length<=sizeLine/\∃its:List Value,Vals xs its/\IsTup h a its.toArray
 | .dK kvs=>kvs.length<=sizeLine/\(a==sysModules)=false/\∃vs,KV kvs vs/\h.DictOf (mixKind P w) a vs
 | .dT kvs=>kvs.length<=sizeLine/\(a==sysModules)=false/\∃xs:List (List Key×Addr×Value),
   Paired (fun(p:List Key×V) (q:List Key×Addr×Value)=>p.1=q.1/\H q.2.1=some (.tup (p.1.map kV))/\RelV p.2 q.2.2) kvs xs/\
   ∃o es ep,h.get? a=some o/\o.ExactDict/\o.data=.dict es ep/\es.toList=xs.map (entryOfKey (tupleKind (mixKind P w)))/\(xs.map (·.1)).Nodup
 | .set S n=>h.SetOf (intKind P w) a S n
 | .ins C dx fs=>H dx=some (.own a)/\fs.length<=1000/\dx≠a/\h.get? a=some (PySem.W.instObj C dx)/\
   ∃mA,h.Ns1 dx mA/\(∀f,RelO (fs.lookup f) (mA f))/\PySem.Within mA (fs.map (·.1))
 | .own _=>∃o,h.get? a=some o
 | .xd fs=>∃mA,h.Ns1 a mA/\∀f,RelO (fs.lookup f) (mA f)
 | .rng lo hi=>∃t u v,h.get? a=some {cls:=.type "range",data:=.fields #[.int lo t,.int hi u,.int 1 v]}
 | .frz o u=>h.get? a=some o/\ObjOk H h a u
 | .tbl ps=>h.get? a=some {cls:=.none,data:=.fields ps}
 | .met f x=>h.get? a=some (PySem.W.methodObj (.ref f) (.ref x))
 | .ext φ=>φ h/\(∃o,h.get? a=some o)/\∀h1 h2:Heap,φ h1->(∀o,h1.get? a=some o->h2.get? a=some o)->φ h2
noncomputable def HOk(H:Hp)(h:Heap):Prop:=∀a o,H a=some o->ObjOk P w H h a o
end
section
variable{P:Program}{w:World}{H H':Hp}{h h':Heap}{a:Addr}{o:HO}
theorem ObjOk.lt(x:ObjOk P w H h a o):a<h.objs.size:=by
 cases o with
 | lst xs=>obtain⟨_,_,_,_,e⟩:=x;exact Heap.lt_size e
 | tup xs=>obtain⟨_,_,_,p⟩:=x;exact p.lt
 | dK kvs=>obtain⟨_,_,_,_,o,_,_,e,_⟩:=x;exact Heap.lt_size e
 | dT kvs=>obtain⟨_,_,_,_,o,_,_,e,_⟩:=x;exact Heap.lt_size e
 | set S n=>obtain⟨o,_,_,_,e,_⟩:=x;exact Heap.lt_size e
 | ins C dx fs=>obtain⟨_,_,_,e,_⟩:=x;exact Heap.lt_size e
 | own y=>obtain⟨_,e⟩:=x;exact Heap.lt_size e
 | xd fs=>obtain⟨_,⟨_,_,_,e,_⟩,_⟩:=x;exact Heap.lt_size e
 | rng lo hi=>obtain⟨_,_,_,e⟩:=x;exact Heap.lt_size e
 | frz ob u=>obtain⟨e,_⟩:=x;exact Heap.lt_size e
 | tbl ps=>exact Heap.lt_size (show h.get? a=some _ from x)
 | met f y=>exact Heap.lt_size (show h.get? a=some _ from x)
 | ext φ=>obtain⟨_,⟨_,e⟩,_⟩:=x;exact Heap.lt_size e
theorem Paired.mapP{α β:Type}{F G:α->β->Prop}:∀{l₁:List α} {l₂:List β},Paired F l₁ l₂->(∀a b,F a b->G a b)->Paired G l₁ l₂
 | _,_,.nil,_=>.nil
 | _,_,.cons r t,f=>.cons (f _ _ r) (Paired.mapP t f)
theorem ObjOk.stay(x:ObjOk P w H h a o)(k:∀b u,(b=a\/H b=some (.own a))->h.get? b=some u->h'.get? b=some u)
  (ho:∀b,H b=some (.own a)->H' b=some (.own a)) (ht:∀b xs,H b=some (.tup xs)->H' b=some (.tup xs)):ObjOk P w H' h' a o:=by
 induction o with
 | lst xs=>obtain⟨z,its,n,r,e⟩:=x;exact⟨z,its,n,r,k _ _ (.inl rfl) e⟩
 | tup xs=>obtain⟨z,its,r,ob,e,c⟩:=x;exact⟨z,its,r,ob,k _ _ (.inl rfl) e,c⟩
 | dK kvs=>obtain⟨z,y,vs,r,ob,es,ep,e,c⟩:=x;exact⟨z,y,vs,r,ob,es,ep,k _ _ (.inl rfl) e,c⟩
 | dT kvs=>
  obtain⟨z,y,xs,r,ob,es,ep,e,c⟩:=x
  exact⟨z,y,xs,Paired.mapP r fun p q z=>⟨z.1,ht _ _ z.2.1,z.2.2⟩,ob,es,ep,k _ _ (.inl rfl) e,c⟩
 | set S n=>obtain⟨ob,es,ep,t,e,c⟩:=x;exact⟨ob,es,ep,t,k _ _ (.inl rfl) e,c⟩
 | ins C dx fs=>
  obtain⟨d,z,ne,e,mA,⟨od,es,ep,e2,c⟩,r⟩:=x
  exact⟨ho _ d,z,ne,k _ _ (.inl rfl) e,mA,⟨od,es,ep,k _ _ (.inr d) e2,c⟩,r⟩
 | own y=>obtain⟨ob,e⟩:=x;exact⟨ob,k _ _ (.inl rfl) e⟩
 | xd fs=>obtain⟨mA,⟨od,es,ep,e,c⟩,r⟩:=x;exact⟨mA,⟨od,es,ep,k _ _ (.inl rfl) e,c⟩,r⟩
 | rng lo hi=>obtain⟨t,u,v,e⟩:=x;exact⟨t,u,v,k _ _ (.inl rfl) e⟩
 | frz ob u ih=>obtain⟨e,q⟩:=x;exact⟨k _ _ (.inl rfl) e,ih q⟩
 | tbl ps=>
  have e:h.get? a=some {cls:=.none,data:=.fields ps}:=x
  show h'.get? a=some {cls:=.none,data:=.fields ps}
  exact k a _ (.inl rfl) e
 | met f y=>
  have e:h.get? a=some (PySem.W.methodObj (.ref f) (.ref y)):=x
  show h'.get? a=some (PySem.W.methodObj (.ref f) (.ref y))
  exact k a _ (.inl rfl) e
 | ext φ=>obtain⟨p,⟨o,e⟩,st⟩:=x;exact⟨st _ _ p fun o q=>k _ _ (.inl rfl) q,⟨o,k _ _ (.inl rfl) e⟩,st⟩
theorem HOk.lt(x:HOk P w H h)(e:H a=some o):a<h.objs.size:=(x a o e).lt
theorem HOk.fresh(x:HOk P w H h)(e:h.objs.size<=a):H a=none:=by
 cases q:H a with
 | none=>rfl
 | some u=>exact absurd (Nat.lt_of_lt_of_le (x.lt q) e) (Nat.lt_irrefl _)
theorem HOk.kept(x:HOk P w H h)(k:∀b u,h.get? b=some u->h'.get? b=some u):HOk P w H h':=fun a o e=>
 (x a o e).stay (fun b u _ q=>k b u q) (fun _ q=>q) fun _ _ q=>q
theorem HOk.laid(x:HOk P w H h)(k:∀b u,h.get? b=some u->h'.get? b=some u)(hp:h.objs.size<=a)(new:ObjOk P w (upd H a o) h' a o):HOk P w (upd H a o) h':=fun b u e=>by
 have hn:=x.fresh hp
 by_cases hb:b=a
 .subst hb;rw[upd_same]at e;cases e;exact new
 .rw[upd_ne hb]at e
  exact(x b u e).stay (fun c v _ q=>k c v q) (fun c q=>by rw[upd_ne (ne_of_none q hn)];exact q) fun c xs q=>by rw[upd_ne (ne_of_none q hn)];exact q
end
noncomputable def Rd(H:Hp)(a:Addr)(u:HO):Prop:=H a=some u\/∃o,H a=some (.frz o u)
theorem Rd.ok{P:Program}{w:World}{H:Hp}{h:Heap}{a:Addr}{u:HO}(r:Rd H a u)(x:HOk P w H h):ObjOk P w H h a u:=by
 rcases r with r|⟨o,r⟩
 .exact x a u r
 .obtain⟨_,q⟩:=x a _ r
  exact q
noncomputable def Mut:Option HO->Prop
 | some (.lst _)=>True
 | some (.dK _)=>True
 | some (.dT _)=>True
 | some (.set _ _)=>True
 | some (.ins _ _ _)=>True
 | some (.ext _)=>True
 | _=>False
section
variable{P:Program}{w:World}{H:Hp}{h h':Heap}{x e:Addr}{o':HO}
theorem HOk.write(ok:HOk P w H h)(mu:Mut (H x))(he:e=x\/H e=some (.own x))(k:∀b u,b≠e->h.get? b=some u->h'.get? b=some u)(heo:∃u,h'.get? e=some u)
  (new:ObjOk P w (upd H x o') h' x o'):HOk P w (upd H x o') h':=fun b u q=>by
 have nown:∀c y,H c=some (.own y)->c≠x:=fun c y r z=>by subst z;rw[r]at mu;exact mu
 have ntup:∀c xs,H c=some (.tup xs)->c≠x:=fun c xs r z=>by subst z;rw[r]at mu;exact mu
 by_cases hb:b=x
 .subst hb;rw[upd_same]at q;cases q;exact new
 .rw[upd_ne hb]at q
  by_cases hbe:b=e
  .have q':H b=some (.own x):=by
    rcases he with z|z
    .exact absurd (hbe.trans z) hb
    .rw[hbe];exact z
   rw[q]at q';cases q'
   obtain⟨v,hv⟩:=heo
   exact⟨v,by rw[hbe];exact hv⟩
  .refine(ok b u q).stay (fun c v hc r=>k c v ?_ r) (fun c r=>by rw[upd_ne (nown c b r)];exact r) fun c xs r=>by rw[upd_ne (ntup c xs r)];exact r
   rcases hc with rfl|hc
   .exact hbe
   .rintro rfl
    rcases he with z|z
    .exact nown c b hc z
    .rw[hc]at z;cases z;exact hb rfl
end
structure Un(fs ex:List Addr)(H H':Hp)(h h':Heap):Prop where
 keep:∀b o,h.get? b=some o->H b=none->b∉fs->b∉ex->h'.get? b=some o
 slot:∀b o,h.get? b=some o->H b=none->b∈fs->b∉ex->∃sl,h'.get? b=some {o with slots:=sl}
 free:∀b o,h.get? b=some o->H b=none->b∉ex->H' b=none
 there:∀b o,h.get? b=some o->b∉ex->∃o',h'.get? b=some o'
 tups:∀b xs,H b=some (.tup xs)->H' b=some (.tup xs)
 frzs:∀b o u,H b=some (.frz o u)->H' b=some (.frz o u)
 tbls:∀b ps,H b=some (.tbl ps)->∃more,H' b=some (.tbl (ps++more))
section
variable{fs fs' ex ex':List Addr}{H H1 H2:Hp}{h h1 h2 h':Heap}{a x e:Addr}{o:HO}
theorem Un.any(u:Un fs ex H H1 h h1){b:Addr}{ob:Obj}(q:h.get? b=some ob)(n:H b=none)(hx:b∉ex):∃sl,h1.get? b=some {ob with slots:=sl}:=by
 by_cases hb:b∈fs
 .exact u.slot b ob q n hb hx
 .exact⟨ob.slots,u.keep b ob q n hb hx⟩
theorem Un.kept(k:∀b u,h.get? b=some u->h'.get? b=some u):Un fs ex H H h h':=
 ⟨fun b ob q _ _ _=>k b ob q,fun b ob q _ _ _=>⟨ob.slots,k b ob q⟩,fun _ _ _ n _=>n,fun b ob q _=>⟨ob,k b ob q⟩,fun _ _ q=>q,fun _ _ _ q=>q,fun _ ps q=>⟨#[],by rw[q];simp⟩⟩
theorem Un.refl:Un fs ex H H h h:=Un.kept fun _ _ q=>q
theorem Un.laid(k:∀b u,h.get? b=some u->h'.get? b=some u)(hp:h.objs.size<=a)(hn:H a=none):Un fs ex H (upd H a o) h h' where
 keep:=fun b u q _ _ _=>k b u q
 slot:=fun b u q _ _ _=>⟨u.slots,k b u q⟩
 free:=fun b u q n _=>by rw[upd_ne (Nat.ne_of_lt (Nat.lt_of_lt_of_le (Heap.lt_size q) hp))];exact n
 there:=fun b u q _=>⟨u,k b u q⟩
 tups:=fun b xs q=>by rw[upd_ne (ne_of_none q hn)];exact q
 frzs:=fun b u xs q=>by rw[upd_ne (ne_of_none q hn)];exact q
 tbls:=fun b ps q=>⟨#[],by rw[upd_ne (ne_of_none q hn),q];simp⟩
theorem Un.write(mu:Mut (H x))(he:e=x\/H e=some (.own x))(k:∀b u,b≠e->h.get? b=some u->h'.get? b=some u)(heo:∃u,h'.get? e=some u):Un fs ex H (upd H x o) h h':=by
 have hx:∀b,H b=none->b≠x:=fun b n z=>by subst z;rw[n]at mu;exact mu
 have hb:∀b,H b=none->b≠e:=fun b n z=>by
  subst z
  rcases he with r|r
  .exact hx b n r
  .rw[n]at r;cases r
 have hm:∀b u,H b=some u->¬Mut (some u)->b≠x:=fun b u q nm z=>by subst z;rw[q]at mu;exact nm mu
 refine⟨fun b u q n _ _=>k b u (hb b n) q,fun b u q n _ _=>⟨u.slots,k b u (hb b n) q⟩,fun b u q n _=>by rw[upd_ne (hx b n)];exact n,fun b u q _=>?_,
  fun b xs q=>by rw[upd_ne (hm b _ q fun z=>z)];exact q,fun b u xs q=>by rw[upd_ne (hm b _ q fun z=>z)];exact q,fun b ps q=>⟨#[],by rw[upd_ne (hm b _ q fun z=>z),q];simp⟩⟩
 by_cases hbe:b=e
 .subst hbe;exact heo
 .exact⟨u,k b u hbe q⟩
end
noncomputable def trk(h:Heap)(H:Hp):List Addr:=(List.range h.objs.size).filter fun a=>(H a).isSome
noncomputable def hidT(h:Heap)(H:Hp):Heap:=PySem.W.hideAll h (trk h H)
theorem hidT_size(h:Heap)(H:Hp):(hidT h H).objs.size=h.objs.size:=PySem.W.hideAll_size _ _
theorem hidT_get{h:Heap}{H:Hp}{b:Addr}{o:Obj}(e:h.get? b=some o)(n:H b=none):(hidT h H).get? b=some o:=
 PySem.W.hideAll_get _ e fun hm=>by
  have q:(H b).isSome=true:=(List.mem_filter.mp hm).2
  rw[n]at q;simp at q
theorem of_hidT{h:Heap}{H:Hp}{b:Addr}{o:Obj}(e:(hidT h H).get? b=some o):h.get? b=some o/\H b=none:=by
 have e':h.get? b=some o:=PySem.W.of_hideAll (trk h H) e
 refine⟨e',?_⟩
 cases q:H b with
 | none=>rfl
 | some x=>
  have hm:b∈trk h H:=List.mem_filter.mpr ⟨List.mem_range.mpr (Heap.lt_size e'),by simp[q]⟩
  have z:(hidT h H).get? b=none:=PySem.W.hideAll_none (trk h H) hm
  rw[z]at e;cases e
end L2
namespace L2
open PySem PySem.Spec PyProof.Rows
structure Mod(K:PySem.W.Frag)(mg:Str->Option Value)(base:Heap):Prop where
 kin:K.In base
 glob:base.Ns mainGlobals mg
 blt:∃mb,base.Ns builtinsNs mb/\∀x:Str,x≠"__name__"->mb x=bootBuiltins x
 nolimit:base.NoLimit
structure Cx where
 prog:Program
 w:World
 K:PySem.W.Frag
 mg:Str->Option Value
 base:Heap
 A:Around
 N:List Str
 s₀:Shared
 H₀:Hp
 env:Env
 outer:List Env
 stack:List Env
 ex:List Addr
 fn:Str->Bool
 calm:Bool
 pn:List (Addr×Obj)
 xe:Value->Shared->Prop
noncomputable def frs(l:List Env):List Addr:=l.filterMap (·.frame)
noncomputable abbrev Cx.fs(X:Cx):List Addr:=frs X.outer
noncomputable def Vis(sc:Scope)(x:Str):Prop:=sc.names.lookup x=some .local\/sc.names.lookup x=some .cell\/sc.names.lookup x=some .free
noncomputable def Loc(sc:Scope)(x:Str):Prop:=sc.names.lookup x=some .local\/sc.names.lookup x=some .cell
noncomputable def Look(env:Env)(h:Heap)(m:Str->Option Value)(x:Str)(u:Value):Prop:=
 (env.kindOf x=some .local/\m x=some u)\/((env.kindOf x=some .cell\/env.kindOf x=some .free)/\∃c,env.cells.lookup x=some c/\h.IsCell c (some u))
structure Cx.Ok(X:Cx):Prop where
 mod:Mod X.K X.mg X.base
 kind:X.env.scope.kind=.function
 glob:X.env.globals=mainGlobals
 blt:X.env.builtins=builtinsNs
 above:X.s₀.heap.objs.size<=X.env.locals
 inj:∀x y c,X.env.cells.lookup x=some c->X.env.cells.lookup y=some c->x=y
 has:∀x,(X.env.kindOf x=some .cell\/X.env.kindOf x=some .free)->∃c,X.env.cells.lookup x=some c
 cab:∀x c,X.fn x=true->X.env.cells.lookup x=some c->X.s₀.heap.objs.size<=c
 hd:X.calm=true->X.A.handled=none
 frames:X.A.frames=some X.stack
 stk:X.stack=X.outer\/(X.stack=X.env::X.outer/\X.env.frame=some X.env.locals)
 exf:∀b∈X.ex,b≠X.env.locals/\∀x c,X.env.cells.lookup x=some c->c≠b
 bs:∀b o,X.base.get? b=some o->X.s₀.heap.get? b=some o/\X.H₀ b=none
 bsz:X.base.objs.size<=X.s₀.heap.objs.size
 noex:∀b o,X.base.get? b=some o->b∉X.ex
 exfs:∀b∈X.ex,b∉X.fs
 funs:X.s₀.heap.FunFrames X.base X.outer
 frf:∀b∈X.fs,X.H₀ b=none
structure Inv(X:Cx)(pins:List (Addr×Obj))(σ:List (Option V))(H:Hp)(s:Shared):Prop where
 ok:X.Ok
 os:s.os=X.s₀.os
 bare:AllBare s.gens
 base:Un X.fs X.ex X.H₀ H X.s₀.heap s.heap
 loc:∃m,s.heap.Ns X.env.locals m/\∀(i:Nat) (x:Str) (v:V),X.N[i]?=some x->σ[i]?=some (some v)->Vis X.env.scope x->∃u,RelV v u/\Look X.env s.heap m x u
 cell:∀x c,X.env.cells.lookup x=some c->∃v,s.heap.IsCell c v
 free:H X.env.locals=none
 freeC:∀x c,X.env.cells.lookup x=some c->H c=none
 pin:∀p∈X.pn++pins,s.heap.get? p.1=some p.2/\H p.1=none/\p.1≠X.env.locals/\p.1∉X.fs/\∀v,p.2.data≠.cell v
 hok:HOk X.prog X.w H s.heap
 len:σ.length=X.N.length
section
variable{X:Cx}{pins:List (Addr×Obj)}{σ:List (Option V)}{H H':Hp}{s:Shared}{h':Heap}
theorem Cx.Ok.nofr(ok:X.Ok){b:Addr}{o:Obj}(e:X.base.get? b=some o):b∉X.fs:=fun hb=>by
 have:=(ok.funs.mem hb).1
 rw[e]at this;cases this
theorem Inv.bs(I:Inv X pins σ H s):∀b o,X.base.get? b=some o->s.heap.get? b=some o/\H b=none:=fun b o e=>
 ⟨I.base.keep b o (I.ok.bs b o e).1 (I.ok.bs b o e).2 (I.ok.nofr e) (I.ok.noex b o e),I.base.free b o (I.ok.bs b o e).1 (I.ok.bs b o e).2 (I.ok.noex b o e)⟩
theorem Inv.bk(I:Inv X pins σ H s):∀b o,X.base.get? b=some o->s.heap.get? b=some o:=fun b o e=>(I.bs b o e).1
theorem Inv.mod(I:Inv X pins σ H s):Mod X.K X.mg X.base:=I.ok.mod
theorem Inv.kIn(I:Inv X pins σ H s):X.K.In s.heap:=I.ok.mod.kin.keeps I.bk
theorem Inv.lt(I:Inv X pins σ H s):X.env.locals<s.heap.objs.size:=let ⟨_,hn,_⟩:=I.loc;hn.lt
theorem Inv.sz(I:Inv X pins σ H s):X.s₀.heap.objs.size<=s.heap.objs.size:=Nat.le_trans I.ok.above (Nat.le_of_lt I.lt)
theorem Inv.nofs(I:Inv X pins σ H s){a:Addr}(h:s.heap.objs.size<=a):a∉X.fs:=fun hb=>by
 obtain⟨_,o,ho,_⟩:=I.ok.funs.mem hb
 exact absurd (Nat.lt_of_lt_of_le (Heap.lt_size ho) (Nat.le_trans I.sz h)) (Nat.lt_irrefl _)
theorem Inv.cne(I:Inv X pins σ H s):∀x c,X.env.cells.lookup x=some c->c≠X.env.locals:=fun x c e z=>by
 obtain⟨v,o,ho,hd⟩:=I.cell x c e
 obtain⟨m,⟨o',es,ep,ho',hd',_⟩,_⟩:=I.loc
 rw[z,ho']at ho;cases ho;rw[hd']at hd;cases hd
theorem Inv.funs(I:Inv X pins σ H s):s.heap.FunFrames X.base X.outer:=by
 have all:∀(l:List Env),(∀b∈frs l,b∈X.fs)->X.s₀.heap.FunFrames X.base l->s.heap.FunFrames X.base l:=by
  intro l
  induction l with
  | nil=>intro _ _;trivial
  | cons env r ih=>
   intro hs hl
   obtain⟨hk,⟨L,o,hf,hn,ho,hd⟩,hr⟩:=hl
   have hL:L∈X.fs:=hs L (by unfold frs;rw[List.filterMap_cons,hf];exact List.mem_cons_self)
   obtain⟨sl,e⟩:=I.base.slot L o ho (I.ok.frf L hL) hL fun z=>I.ok.exfs L z hL
   exact⟨hk,⟨L,_,hf,hn,e,hd⟩,ih (fun b hb=>hs b (by unfold frs;rw[List.filterMap_cons,hf];exact List.mem_cons_of_mem _ hb)) hr⟩
 exact all X.outer (fun _ hb=>hb) I.ok.funs
theorem Inv.stack(I:Inv X pins σ H s):s.heap.FunFrames X.base X.stack:=by
 rcases I.ok.stk with e|⟨e,hf⟩
 .rw[e];exact I.funs
 .rw[e]
  obtain⟨m,hn,_⟩:=I.loc
  refine .cons (by rw[I.ok.kind];decide) hf hn ?_ I.funs
  exact Heap.get?_none_of_le (Nat.le_trans I.ok.bsz I.ok.above)
theorem Inv.stkSub(I:Inv X pins σ H s):∀b∈frs X.stack,b∈X.env.locals::X.fs:=fun b hb=>by
 rcases I.ok.stk with e|⟨e,hf⟩
 .rw[e]at hb;exact List.mem_cons_of_mem _ hb
 .rw[e]at hb
  unfold frs at hb
  rw[List.filterMap_cons,hf]at hb
  exact hb
theorem Inv.stkFree(I:Inv X pins σ H s):∀b∈frs X.stack,H b=none:=fun b hb=>by
 rcases List.mem_cons.mp (I.stkSub b hb)with e|hb
 .rw[e];exact I.free
 .obtain⟨_,o,ho,_⟩:=I.ok.funs.mem hb
  exact I.base.free b o ho (I.ok.frf b hb) fun z=>I.ok.exfs b z hb
theorem Inv.step{g':Array GenState}{t':Nat}{d':Drawn}{ch:List Addr}(I:Inv X pins σ H s)
  (hch:∀b∈ch,(b∈X.ex\/X.s₀.heap.objs.size<=b)/\b≠X.env.locals/\(∀x c,X.env.cells.lookup x=some c->c≠b)/\∀p∈X.pn++pins,p.1≠b)
  (keep:∀b o,b≠X.env.locals->b∉X.fs->b∉ch->s.heap.get? b=some o->H b=none->h'.get? b=some o)
  (slot:∀b o,b≠X.env.locals->b∈X.fs->b∉ch->s.heap.get? b=some o->H b=none->∃sl,h'.get? b=some {o with slots:=sl}) (free:∀b o,b∉ch->s.heap.get? b=some o->H b=none->H' b=none)
  (there:∀b o,b∉ch->s.heap.get? b=some o->∃o',h'.get? b=some o')
  (tups:∀b xs,H b=some (.tup xs)->H' b=some (.tup xs)) (frzs:∀b o u,H b=some (.frz o u)->H' b=some (.frz o u)) (tbls:∀b ps,H b=some (.tbl ps)->∃more,H' b=some (.tbl (ps++more)))
  (ns:∀m,s.heap.Ns X.env.locals m->h'.Ns X.env.locals m) (hok:HOk X.prog X.w H' h') (hg:AllBare g') :
  Inv X pins σ H' {s with heap:=h',gens:=g',drawn:=d',toks:=t'}:=by
 have neL:∀b o,X.s₀.heap.get? b=some o->b≠X.env.locals:=fun b o e=>Nat.ne_of_lt (Nat.lt_of_lt_of_le (Heap.lt_size e) I.ok.above)
 have neC:∀b o,X.s₀.heap.get? b=some o->b∉X.ex->b∉ch:=fun b o e hx hb=>by
  rcases(hch b hb).1 with z|z
  .exact hx z
  .exact absurd (Nat.lt_of_lt_of_le (Heap.lt_size e) z) (Nat.lt_irrefl _)
 have cellK:∀x c,X.env.cells.lookup x=some c->∀v,s.heap.IsCell c v->h'.IsCell c v:=fun x c e v ⟨o,ho,hd⟩=>by
  have nch:c∉ch:=fun z=>(hch c z).2.2.1 x c e rfl
  by_cases hc:c∈X.fs
  .obtain⟨sl,q⟩:=slot c o (I.cne x c e) hc nch ho (I.freeC x c e)
   exact⟨_,q,hd⟩
  .exact⟨o,keep c o (I.cne x c e) hc nch ho (I.freeC x c e),hd⟩
 refine⟨I.ok,I.os,hg,⟨fun b o e n hb hx=>?_,fun b o e n hb hx=>?_,fun b o e n hx=>?_,fun b o e hx=>?_,fun b xs e=>tups b xs (I.base.tups b xs e),fun b o xs e=>frzs b o xs (I.base.frzs b o xs e),fun b ps e=>?_⟩,?_,fun x c e=>?_,?_,fun x c e=>?_,fun p hp=>?_,hok,I.len⟩
 .exact keep b o (neL b o e) hb (neC b o e hx) (I.base.keep b o e n hb hx) (I.base.free b o e n hx)
 .obtain⟨sl,e1⟩:=I.base.slot b o e n hb hx
  obtain⟨sl',e2⟩:=slot b _ (neL b o e) hb (neC b o e hx) e1 (I.base.free b o e n hx)
  exact⟨sl',e2⟩
 .obtain⟨o',e1⟩:=I.base.there b o e hx
  exact free b o' (neC b o e hx) e1 (I.base.free b o e n hx)
 .obtain⟨o',e1⟩:=I.base.there b o e hx
  exact there b o' (neC b o e hx) e1
 .obtain⟨m1,e1⟩:=I.base.tbls b ps e
  obtain⟨m2,e2⟩:=tbls b _ e1
  exact⟨m1++m2,by rw[e2,Array.append_assoc]⟩
 .obtain⟨m,hn,hl⟩:=I.loc
  refine⟨m,ns m hn,fun i x v e1 e2 e3=>?_⟩
  obtain⟨u,r,l⟩:=hl i x v e1 e2 e3
  refine⟨u,r,?_⟩
  rcases l with l|⟨k,c,e,z⟩
  .exact .inl l
  .exact .inr ⟨k,c,e,cellK x c e _ z⟩
 .obtain⟨v,z⟩:=I.cell x c e
  exact⟨v,cellK x c e v z⟩
 .obtain⟨m,⟨o,_,_,ho,_⟩,_⟩:=I.loc
  exact free _ o (fun z=>(hch _ z).2.1 rfl) ho I.free
 .obtain⟨v,o,ho,hd⟩:=I.cell x c e
  exact free c o (fun z=>(hch c z).2.2.1 x c e rfl) ho (I.freeC x c e)
 .obtain⟨e,n,ne,nf,d⟩:=I.pin p hp
  have nch:p.1∉ch:=fun z=>(hch p.1 z).2.2.2 p hp rfl
  exact⟨keep p.1 p.2 ne nf nch e n,free p.1 p.2 nch e n,ne,nf,d⟩
theorem Inv.un{t':Nat}(I:Inv X pins σ H s)(u:Un X.fs [] H H' s.heap h')(hok:HOk X.prog X.w H' h'):Inv X pins σ H' {s with heap:=h',toks:=t'}:=by
 obtain⟨m,⟨o,es,ep,ho,r⟩,_⟩:=id I.loc
 obtain⟨sl,hL⟩:=u.any ho I.free (by simp)
 exact I.step (g':=s.gens) (d':=s.drawn) (ch:=[]) (fun _ z=>nomatch z) (fun b o _ hb _ e n=>u.keep b o e n hb (by simp)) (fun b o _ hb _ e n=>u.slot b o e n hb (by simp)) (fun b o _ e n=>u.free b o e n (by simp)) (fun b o _ e=>u.there b o e (by simp)) u.tups u.frzs u.tbls (fun m' hm=>by
  obtain⟨o',es',ep',ho',r'⟩:=hm
  rw[ho]at ho';cases ho'
  exact⟨_,es',ep',hL,r'⟩) hok I.bare
theorem Inv.call{g':Array GenState}{t':Nat}{d':Drawn}{ch:List Addr}(I:Inv X pins σ H s)(u:Un (frs X.stack) ch H H' s.heap h')(hok:HOk X.prog X.w H' h')(hg:AllBare g')
  (hch:∀b∈ch,(b∈X.ex\/X.s₀.heap.objs.size<=b)/\b≠X.env.locals/\(∀x c,X.env.cells.lookup x=some c->c≠b)/\∀p∈X.pn++pins,p.1≠b) :
  Inv X pins σ H' {s with heap:=h',gens:=g',drawn:=d',toks:=t'}:=by
 obtain⟨m,⟨o,es,ep,ho,r⟩,_⟩:=id I.loc
 obtain⟨sl,hL⟩:=u.any ho I.free fun z=>(hch _ z).2.1 rfl
 exact I.step (ch:=ch) hch (fun b o hL hb hc e n=>u.keep b o e n (fun z=>(List.mem_cons.mp (I.stkSub b z)).elim hL hb) hc) (fun b o _ _ hc e n=>u.any e n hc) (fun b o hc e n=>u.free b o e n hc) (fun b o hc e=>u.there b o e hc) u.tups u.frzs u.tbls (fun m' hm=>by
  obtain⟨o',es',ep',ho',r'⟩:=hm
  rw[ho]at ho';cases ho'
  exact⟨_,es',ep',hL,r'⟩) hok hg
theorem Inv.turned{t':Nat}{it:Addr}(I:Inv X pins σ H s)(k:∀b o,b≠it->s.heap.get? b=some o->h'.get? b=some o)(hn:H it=none)(hL:it≠X.env.locals)
  (h1:it∈X.ex\/X.s₀.heap.objs.size<=it) (h2:∀x c,X.env.cells.lookup x=some c->c≠it) (h3:∀p∈X.pn++pins,p.1≠it):Inv X pins σ H {s with heap:=h',toks:=t'}:=by
 have nit:∀b u,H b=some u->b≠it:=fun b u e z=>by rw[z,hn]at e;cases e
 refine I.step (g':=s.gens) (d':=s.drawn) (ch:=[it]) (fun b hb=>?_) (fun b o _ _ hc e _=>k b o (fun z=>hc (by simp[z])) e) (fun b o _ _ hc e _=>⟨o.slots,k b o (fun z=>hc (by simp[z])) e⟩) (fun _ _ _ _ n=>n)
  (fun b o hc e=>⟨o,k b o (fun z=>hc (by simp[z])) e⟩) (fun _ _ e=>e) (fun _ _ _ e=>e) (fun b ps e=>⟨#[],by rw[e];simp⟩) (fun m hm=>?_) (fun b u e=>?_) I.bare
 .have e:b=it:=by simpa using hb
  subst e
  exact⟨h1,hL,h2,h3⟩
 .obtain⟨o,es,ep,ho,r⟩:=hm
  exact⟨o,es,ep,k _ o (Ne.symm hL) ho,r⟩
 .refine(I.hok b u e).stay (fun c v hc q=>k c v ?_ q) (fun _ q=>q) fun _ _ q=>q
  rcases hc with z|z
  .rw[z];exact nit b u e
  .exact nit c _ z
theorem Inv.tok(I:Inv X pins σ H s)(t:Nat):Inv X pins σ H {s with toks:=t}:=I.un (h':=s.heap) (t':=t) Un.refl I.hok
theorem Inv.kept{t':Nat}(I:Inv X pins σ H s)(k:∀b u,s.heap.get? b=some u->h'.get? b=some u):Inv X pins σ H {s with heap:=h',toks:=t'}:=I.un (Un.kept k) (I.hok.kept k)
theorem Inv.laid{a:Addr}{o:HO}{t':Nat}(I:Inv X pins σ H s)(k:∀b u,s.heap.get? b=some u->h'.get? b=some u)(hp:s.heap.objs.size<=a)(new:ObjOk X.prog X.w (upd H a o) h' a o) :
  Inv X pins σ (upd H a o) {s with heap:=h',toks:=t'}:=I.un (Un.laid k hp (I.hok.fresh hp)) (I.hok.laid k hp new)
theorem Inv.write{x e:Addr}{o:HO}{t':Nat}(I:Inv X pins σ H s)(mu:Mut (H x))(he:e=x\/H e=some (.own x))(k:∀b u,b≠e->s.heap.get? b=some u->h'.get? b=some u)(heo:∃u,h'.get? e=some u)
  (new:ObjOk X.prog X.w (upd H x o) h' x o):Inv X pins σ (upd H x o) {s with heap:=h',toks:=t'}:=I.un (Un.write mu he k heo) (I.hok.write mu he k heo new)
theorem Inv.weak{σ':List (Option V)}(I:Inv X pins σ H s)(hl:σ'.length=σ.length)(w:∀(i:Nat) v,σ'[i]?=some (some v)->σ[i]?=some (some v)):Inv X pins σ' H s:=
 ⟨I.ok,I.os,I.bare,I.base,let ⟨m,hn,hl'⟩:=I.loc;⟨m,hn,fun i x v e1 e2 e3=>hl' i x v e1 (w i v e2) e3⟩,I.cell,I.free,I.freeC,I.pin,I.hok,hl.trans I.len⟩
theorem Inv.pins_of{pins':List (Addr×Obj)}(I:Inv X pins σ H s)(h:∀p∈pins',s.heap.get? p.1=some p.2/\H p.1=none/\p.1≠X.env.locals/\p.1∉X.fs/\∀v,p.2.data≠.cell v):Inv X pins' σ H s:=
 ⟨I.ok,I.os,I.bare,I.base,I.loc,I.cell,I.free,I.freeC,fun p hp=>(List.mem_append.mp hp).elim (fun z=>I.pin p (List.mem_append_left _ z)) (h p),I.hok,I.len⟩
theorem nodup_ix{N:List Str}(hN:N.Nodup){i j:Nat}{x:Str}(a:N[i]?=some x)(b:N[j]?=some x):i=j:=by
 obtain⟨h1,e1⟩:=List.getElem?_eq_some_iff.mp a
 obtain⟨h2,e2⟩:=List.getElem?_eq_some_iff.mp b
 exact(List.getElem_inj hN).mp (e1.trans e2.symm)
theorem store_ok2{M:Model}{A:Around}{E:Value->Shared->Prop}{i:Nat}{x:Str}{v:V}{u:Value}{Q:Unit->Shared->Prop}(I:Inv X pins σ H s)(hN:X.N.Nodup)(hi:X.N[i]?=some x)(hx:Loc X.env.scope x)(r:RelV v u)
  (h:∀s',Inv X pins (σ.set i (some v)) H s'->(∃a,Heap.SameBut a s.heap s'.heap/\(a=X.env.locals\/X.env.cells.lookup x=some a))->Q () s') (hf:X.fn x=true\/X.env.scope.names.lookup x=some .local:=by first|exact .inl rfl|exact .inr rfl|assumption):wpAny M A (storeName X.env x u) Q E s:=by
 obtain⟨m,hn,hl⟩:=id I.loc
 have hcls:(X.env.scope.kind==.class||(X.env.scope.kind==.module&&X.env.locals != X.env.globals))=false:=by rw[I.ok.kind];rfl
 have hiσ:i<σ.length:=by rw[I.len];exact(List.getElem?_eq_some_iff.mp hi).1
 have cne:=I.cne
 have tracked:∀{a:Addr} {h':Heap},(∃o,s.heap.get? a=some o/\H a=none)->Heap.SameBut a s.heap h'->HOk X.prog X.w H h':=fun{a h'} ha hs b ob e=>by
  obtain⟨_,_,hfree⟩:=ha
  refine(I.hok b ob e).stay (fun c w' hc q=>(hs.2 c ?_).trans q) (fun _ q=>q) fun _ _ q=>q
  rintro rfl
  rcases hc with rfl|hc
  .rw[hfree]at e;cases e
  .rw[hfree]at hc;cases hc
 rcases hx with hk|hk
 .refine wpAny_storeName_local hk hn (fun h' hn' hs=>?_) hcls
  obtain⟨oL,_,_,hoL,_⟩:=id hn
  refine h _ ⟨I.ok,I.os,I.bare,⟨fun b o e n hb hx=>?_,fun b o e n hb hx=>?_,I.base.free,fun b o e hx=>?_,I.base.tups,I.base.frzs,I.base.tbls⟩,⟨_,hn',fun j y v' e1 e2 e3=>?_⟩,fun y c e=>?_,I.free,I.freeC,fun p hp=>?_,tracked ⟨oL,hoL,I.free⟩ hs,by simpa using I.len⟩ ⟨_,hs,.inl rfl⟩
  .exact(hs.2 b (Nat.ne_of_lt (Nat.lt_of_lt_of_le (Heap.lt_size e) I.ok.above))).trans (I.base.keep b o e n hb hx)
  .obtain⟨sl,e1⟩:=I.base.slot b o e n hb hx
   exact⟨sl,(hs.2 b (Nat.ne_of_lt (Nat.lt_of_lt_of_le (Heap.lt_size e) I.ok.above))).trans e1⟩
  .obtain⟨o',e1⟩:=I.base.there b o e hx
   exact⟨o',(hs.2 b (Nat.ne_of_lt (Nat.lt_of_lt_of_le (Heap.lt_size e) I.ok.above))).trans e1⟩
  .by_cases hj:j=i
   .subst hj
    rw[hi]at e1;cases e1
    rw[List.getElem?_set_self hiσ]at e2
    cases e2
    exact⟨u,r,.inl ⟨hk,by simp⟩⟩
   .rw[List.getElem?_set_ne (Ne.symm hj)]at e2
    obtain⟨u',r',q⟩:=hl j y v' e1 e2 e3
    refine⟨u',r',?_⟩
    rcases q with ⟨k,e⟩|⟨k,c,e,z⟩
    .refine .inl ⟨k,?_⟩
     have:y≠x:=fun e=>hj (nodup_ix hN e1 (e▸hi))
     simp[this,e]
    .exact .inr ⟨k,c,e,z.sameBut hs (cne y c e)⟩
  .obtain⟨w',z⟩:=I.cell y c e
   exact⟨w',z.sameBut hs (cne y c e)⟩
  .obtain⟨e,n,ne,nf,d⟩:=I.pin p hp
   exact⟨(hs.2 p.1 ne).trans e,n,ne,nf,d⟩
 .have hfn:X.fn x=true:=by
   rcases hf with z|z
   .exact z
   .rw[z]at hk;cases hk
  obtain⟨c,hc⟩:=I.ok.has x (.inl hk)
  obtain⟨w',z⟩:=I.cell x c hc
  refine wpAny_storeName_cell I.ok.kind hk hc z (fun h' hc' hs=>?_)
  obtain⟨oc,hoc,hocd⟩:=id z
  refine h {s with heap:=h'} ⟨I.ok,I.os,I.bare,⟨fun b o e n hb hx=>?_,fun b o e n hb hx=>?_,I.base.free,fun b o e hx=>?_,I.base.tups,I.base.frzs,I.base.tbls⟩,⟨m,hn.sameBut hs (Ne.symm (cne x c hc)),fun j y v' e1 e2 e3=>?_⟩,fun y c' e=>?_,I.free,I.freeC,fun p hp=>?_,tracked ⟨oc,hoc,I.freeC x c hc⟩ hs,by simpa using I.len⟩ ⟨c,hs,.inr hc⟩
  .exact(hs.2 b (Nat.ne_of_lt (Nat.lt_of_lt_of_le (Heap.lt_size e) (I.ok.cab x c hfn hc)))).trans (I.base.keep b o e n hb hx)
  .obtain⟨sl,e1⟩:=I.base.slot b o e n hb hx
   exact⟨sl,(hs.2 b (Nat.ne_of_lt (Nat.lt_of_lt_of_le (Heap.lt_size e) (I.ok.cab x c hfn hc)))).trans e1⟩
  .obtain⟨o',e1⟩:=I.base.there b o e hx
   exact⟨o',(hs.2 b (Nat.ne_of_lt (Nat.lt_of_lt_of_le (Heap.lt_size e) (I.ok.cab x c hfn hc)))).trans e1⟩
  .by_cases hj:j=i
   .subst hj
    rw[hi]at e1;cases e1
    rw[List.getElem?_set_self hiσ]at e2
    cases e2
    exact⟨u,r,.inr ⟨.inl hk,c,hc,hc'⟩⟩
   .rw[List.getElem?_set_ne (Ne.symm hj)]at e2
    obtain⟨u',r',q⟩:=hl j y v' e1 e2 e3
    refine⟨u',r',?_⟩
    rcases q with q|⟨k,c',e,z'⟩
    .exact .inl q
    .refine .inr ⟨k,c',e,z'.sameBut hs ?_⟩
     rintro rfl
     exact hj (nodup_ix hN e1 (I.ok.inj _ _ _ e hc▸hi))
  .by_cases hcc:c'=c
   .subst hcc;exact⟨_,hc'⟩
   .obtain⟨w2,z2⟩:=I.cell y c' e
    exact⟨w2,z2.sameBut hs hcc⟩
  .obtain⟨e,n,ne,nf,d⟩:=I.pin p hp
   refine⟨(hs.2 p.1 ?_).trans e,n,ne,nf,d⟩
   intro q
   rw[q,hoc]at e
   have q':oc=p.2:=Option.some.inj e
   exact d w' (by rw[<-q'];exact hocd)
theorem store_ok{M:Model}{A:Around}{E:Value->Shared->Prop}{i:Nat}{x:Str}{v:V}{u:Value}{Q:Unit->Shared->Prop}(I:Inv X pins σ H s)(hN:X.N.Nodup)(hi:X.N[i]?=some x)(hx:Loc X.env.scope x)(r:RelV v u)
  (h:∀s',Inv X pins (σ.set i (some v)) H s'->Q () s') (hf:X.fn x=true\/X.env.scope.names.lookup x=some .local:=by first|exact .inl rfl|exact .inr rfl|assumption):wpAny M A (storeName X.env x u) Q E s:=
 store_ok2 I hN hi hx r (fun s' I' _=>h s' I') hf
theorem Inv.call'{s':Shared}{ch:List Addr}(I:Inv X pins σ H s)(ho:s'.os=s.os)(u:Un (frs X.stack) ch H H' s.heap s'.heap)(hok:HOk X.prog X.w H' s'.heap)(hg:AllBare s'.gens)
  (hch:∀b∈ch,(b∈X.ex\/X.s₀.heap.objs.size<=b)/\b≠X.env.locals/\(∀x c,X.env.cells.lookup x=some c->c≠b)/\∀p∈X.pn++pins,p.1≠b):Inv X pins σ H' s':=by
 obtain⟨h',g',d',t',o'⟩:=s'
 have e:o'=s.os:=ho
 subst e
 exact I.call (g':=g') (t':=t') (d':=d') u hok hg hch
end
noncomputable abbrev XK:=Value->Option Addr->Hp->Prop
noncomputable abbrev St:=List (Option V)
noncomputable abbrev VK:=V->Hp->Prop
noncomputable abbrev TE:=St->Hp->VK->Prop
noncomputable abbrev TT:=St->Hp->(Bool->Hp->Prop)->Prop
noncomputable abbrev TA:=St->Hp->(List V->Hp->Prop)->Prop
structure Ends where
 nx:St->Hp->Prop
 rt:VK
 bk:St->Hp->Prop:=fun _ _=>False
 ct:St->Hp->Prop:=fun _ _=>False
noncomputable abbrev TS:=Ends->St->Hp->Prop
noncomputable def EP(X:Cx)(pins:List (Addr×Obj))(σ:St)(Q:VK)(u:Value)(s':Shared):Prop:=∃v H',Inv X pins σ H' s'/\RelV v u/\Q v H'
noncomputable def TP(X:Cx)(pins:List (Addr×Obj))(σ:St)(Q:Bool->Hp->Prop)(b:Bool)(s':Shared):Prop:=∃H',Inv X pins σ H' s'/\Q b H'
noncomputable def AP(X:Cx)(pins:List (Addr×Obj))(σ:St)(Q:List V->Hp->Prop)(us:List Value)(s':Shared):Prop:=∃vs H',Inv X pins σ H' s'/\Vals vs us/\Q vs H'
noncomputable def SP(X:Cx)(pins:List (Addr×Obj))(D:Ends)(f:Flow)(s':Shared):Prop:=
 match f with
 | .next=>∃σ' H',Inv X pins σ' H' s'/\D.nx σ' H'
 | .brk=>∃σ' H',Inv X pins σ' H' s'/\D.bk σ' H'
 | .cont=>∃σ' H',Inv X pins σ' H' s'/\D.ct σ' H'
 | .ret u=>∃v σ' H',Inv X pins σ' H' s'/\RelV v u/\D.rt v H'
noncomputable def PE(X:Cx)(e:Expr)(t:TE):Prop:=
 ∀(pins:List (Addr×Obj)) (s:Shared) (σ:St) (H:Hp) (Q:VK),Inv X pins σ H s->t σ H Q->wpAny (model X.prog X.w) X.A (eval e X.env) (EP X pins σ Q) X.xe s
noncomputable def PT(X:Cx)(e:Expr)(t:TT):Prop:=
 ∀(pins:List (Addr×Obj)) (s:Shared) (σ:St) (H:Hp) (Q:Bool->Hp->Prop),Inv X pins σ H s->t σ H Q->wpAny (model X.prog X.w) X.A (isTrue e X.env (eval e X.env)) (TP X pins σ Q) X.xe s
noncomputable def PW(X:Cx)(e:Expr)(t:TT):Prop:=
 ∀(whole:Sem Value) (pins:List (Addr×Obj)) (s:Shared) (σ:St) (H:Hp) (Q:Bool->Hp->Prop),Inv X pins σ H s->t σ H Q->wpAny (model X.prog X.w) X.A (isTrue e X.env whole) (TP X pins σ Q) X.xe s
theorem PW.pt{X:Cx}{e:Expr}{t:TT}(h:PW X e t):PT X e t:=h _
noncomputable def PA(X:Cx)(es:List Expr)(t:TA):Prop:=
 ∀(pos:Pos) (pins:List (Addr×Obj)) (s:Shared) (σ:St) (H:Hp) (Q:List V->Hp->Prop),Inv X pins σ H s->t σ H Q->wpAny (model X.prog X.w) X.A (spliced (backTo pos (starEach es X.env))) (AP X pins σ Q) X.xe s
noncomputable def PS(X:Cx)(st:Stmt)(t:TS):Prop:=
 ∀(pins:List (Addr×Obj)) (s:Shared) (σ:St) (H:Hp) (D:Ends),Inv X pins σ H s->t D σ H->wpAny (model X.prog X.w) X.A (exec st X.env) (SP X pins D) X.xe s
noncomputable def PSs(X:Cx)(st:List Stmt)(t:TS):Prop:=
 ∀(pins:List (Addr×Obj)) (s:Shared) (σ:St) (H:Hp) (D:Ends),Inv X pins σ H s->t D σ H->wpAny (model X.prog X.w) X.A (execs st X.env) (SP X pins D) X.xe s
theorem thn{α:Type}{t:Sem α}{Q Q':α->Shared->Prop}{M:Model}{A:Around}{E:Value->Shared->Prop}{s:Shared}(h:wpAny M A t Q E s)(hQ:∀a s,Q a s->Q' a s):wpAny M A t Q' E s:=wpAny_mono h hQ fun _ _ x=>x
end L2
namespace L2
open PySem PySem.Spec PyProof.Rows
section
variable{X:Cx}
noncomputable def tVar(i:Nat):TE:=fun σ H Q=>∃v,σ[i]?=some (some v)/\Q v H
noncomputable def tC(v:V):TE:=fun _ H Q=>Q v H
theorem pe_var{i:Nat}{x:Str}{pos:Pos}(hN:X.N[i]?=some x)(hv:Vis X.env.scope x)(hd:(x==("__debug__" : Str))=false:=by decide)(hcd:(x==("__classdict__" : Str))=false:=by decide):PE X (.Name x pos) (tVar i):=by
 intro pins s σ H Q I h
 obtain⟨v,e,h⟩:=h
 obtain⟨m,hn,hl⟩:=I.loc
 obtain⟨u,r,l⟩:=hl i x v hN e hv
 have fin:EP X pins σ Q u s:=⟨v,H,I,r,h⟩
 rcases l with ⟨hk,hm⟩|⟨hk,c,hc,hcell⟩
 .exact wpAny_Name (wpAny_loadName_local I.ok.kind hk hn hm fin) hd
 .rcases hk with hk|hk
  .exact wpAny_Name (wpAny_loadName_cell I.ok.kind hk hc hcell fin) hd
  .exact wpAny_Name (wpAny_loadName_free I.ok.kind hk hc hcell fin hcd) hd
theorem pe_int{i j pos}:PE X (.Constant (.int i) j pos) (tC (.int i)):=fun _ _ _ H _ I h=>wpAny_Constant_int ⟨.int i,H,I.tok _,⟨_,rfl⟩,h⟩
theorem pe_bl{b j pos}:PE X (.Constant (.bool b) j pos) (tC (.bl b)):=fun _ _ _ H _ I h=>Constant_bool ⟨.bl b,H,I,rfl,h⟩
theorem pe_non{j pos}:PE X (.Constant .none j pos) (tC .non):=fun _ _ _ H _ I h=>Constant_none ⟨.non,H,I,rfl,h⟩
theorem pe_str{x j pos}:PE X (.Constant (.str x) j pos) (tC (.str x)):=fun _ _ _ H _ I h=>Calls.Constant_str ⟨.str x,H,I.tok _,⟨_,rfl⟩,h⟩
noncomputable def Gl(X:Cx)(x:Str):Prop:=X.env.kindOf x=some .globalImplicit
theorem ld_glob{E:Value->Shared->Prop}{pins:List (Addr×Obj)}{s:Shared}{σ:St}{H:Hp}{x:Str}{u:Value}{pos:Pos}{Q:Value->Shared->Prop}(I:Inv X pins σ H s)(hg:Gl X x)(hm:X.mg x=some u)(h:Q u s)
  (hd:(x==("__debug__" : Str))=false:=by decide):wpAny (model X.prog X.w) X.A (eval (.Name x pos) X.env) Q E s:=
 Calls.Name_function_global I.ok.kind hg (Calls.loadGlobal_global (by rw[I.ok.glob];exact I.mod.glob.keeps I.bk) hm h) hd
theorem ld_blt{E:Value->Shared->Prop}{pins:List (Addr×Obj)}{s:Shared}{σ:St}{H:Hp}{x:Str}{u:Value}{pos:Pos}{Q:Value->Shared->Prop}(I:Inv X pins σ H s)(hg:Gl X x)(hm:X.mg x=none)(hv:bootBuiltins x=some u)(h:Q u s)
  (hn:x≠"__name__":=by decide) (hd:(x==("__debug__" : Str))=false:=by decide):wpAny (model X.prog X.w) X.A (eval (.Name x pos) X.env) Q E s:=by
 obtain⟨mb,h1,h2⟩:=I.mod.blt
 exact Calls.Name_function_global I.ok.kind hg (Calls.loadGlobal_builtin (by rw[I.ok.glob];exact I.mod.glob.keeps I.bk) hm (by rw[I.ok.blt];exact h1.keeps I.bk) ((h2 x hn).trans hv) h) hd
theorem pe_glob{x:Str}{v:V}{u:Value}{pos:Pos}(hg:Gl X x)(hm:X.mg x=some u)(r:RelV v u)(hd:(x==("__debug__" : Str))=false:=by decide):PE X (.Name x pos) (tC v):=
 fun _ _ _ H _ I h=>ld_glob I hg hm ⟨v,H,I,r,h⟩ hd
theorem pe_bltn{x:Str}{v:V}{u:Value}{pos:Pos}(hg:Gl X x)(hm:X.mg x=none)(hv:bootBuiltins x=some u)(r:RelV v u)(hn:x≠"__name__":=by decide)(hd:(x==("__debug__" : Str))=false:=by decide):PE X (.Name x pos) (tC v):=
 fun _ _ _ H _ I h=>ld_blt I hg hm hv ⟨v,H,I,r,h⟩ hn hd
variable{a b:Expr}{ta tb:TE}{pos:Pos}
noncomputable def PC(X:Cx)(op:CmpOp)(a b:Expr)(t:TE):Prop:=
 ∀(pins:List (Addr×Obj)) (s:Shared) (σ:St) (H:Hp) (Q:VK),Inv X pins σ H s->t σ H Q->
  wpAny (model X.prog X.w) X.A (eval a X.env) (fun v s₁=>wpAny (model X.prog X.w) X.A (eval b X.env) (fun u s₂=>wpAny (model X.prog X.w) X.A (compareOp op v u) (EP X pins σ Q) X.xe s₂) X.xe s₁) X.xe s
noncomputable def tB(t:TE):TT:=fun σ H Q=>t σ H fun x H1=>∃c,x=.bl c/\Q c H1
theorem pt_cmp{op:CmpOp}{t:TE}(h:PC X op a b t)(h1:behindInMarks op b=false:=by first|exact nobehind _ (by decide) (by decide)|rfl):PT X (.Compare a [op] [b] pos) (tB t):=by
 intro pins s σ H Q I hw
 refine wpAny_isTrue_Compare1 (thn (h pins s σ H _ I hw) fun v s1 h1=>thn h1 fun u s2 h2=>thn h2 fun c s3 ⟨x,H1,I1,r1,q1⟩=>?_) h1
 obtain⟨d,rfl,q⟩:=q1
 cases r1
 exact wpAny_truthy_bool ⟨H1,I1,q⟩
theorem pt_val{e:Expr}{t:TE}(h:PE X e t)(he:∀whole,isTrue e X.env whole=(do let v <-whole;standAt e.pos;holding [v] (truthy v)):=by intro _;rfl):PT X e (tB t):=by
 intro pins s σ H Q I hw
 refine isTrue_plain (thn (h pins s σ H _ I hw) fun v s1 ⟨x,H1,I1,r1,q1⟩=>?_) (he _)
 obtain⟨d,rfl,q⟩:=q1
 cases r1
 exact wpAny_truthy_bool ⟨H1,I1,q⟩
variable{tA tB':TT}{rest:List Expr}
noncomputable def tAnd(t u:TT):TT:=fun σ H Q=>t σ H fun c H1=>if c=true then u σ H1 Q else Q false H1
noncomputable def tOr(t u:TT):TT:=fun σ H Q=>t σ H fun c H1=>if c=true then Q true H1 else u σ H1 Q
noncomputable def tNot(t:TT):TT:=fun σ H Q=>t σ H fun c H1=>Q (!c) H1
theorem pw_and1(ha:PT X a tA):PW X (.BoolOp .And [a] pos) tA:=by
 intro wh pins s σ H Q I h
 refine isTrue_and (thn (ha pins s σ H Q I h) fun c s1 e=>?_)
 cases c with
 | true=>exact isTrue_and_nil e
 | false=>exact e
theorem pw_or1(ha:PT X a tA):PW X (.BoolOp .Or [a] pos) tA:=by
 intro wh pins s σ H Q I h
 refine isTrue_or (thn (ha pins s σ H Q I h) fun c s1 e=>?_)
 cases c with
 | false=>exact isTrue_or_nil e
 | true=>exact e
theorem pw_and(ha:PT X a tA)(hb:PW X (.BoolOp .And (b::rest) pos) tB'):PW X (.BoolOp .And (a::b::rest) pos) (tAnd tA tB'):=by
 intro wh pins s σ H Q I h
 refine isTrue_and (thn (ha pins s σ H _ I h) fun c s1 ⟨H1,I1,q1⟩=>?_)
 cases c with
 | true=>exact hb wh pins s1 σ H1 Q I1 q1
 | false=>exact⟨H1,I1,q1⟩
theorem pw_or(ha:PT X a tA)(hb:PW X (.BoolOp .Or (b::rest) pos) tB'):PW X (.BoolOp .Or (a::b::rest) pos) (tOr tA tB'):=by
 intro wh pins s σ H Q I h
 refine isTrue_or (thn (ha pins s σ H _ I h) fun c s1 ⟨H1,I1,q1⟩=>?_)
 cases c with
 | true=>exact⟨H1,I1,q1⟩
 | false=>exact hb wh pins s1 σ H1 Q I1 q1
theorem pt_not(ha:PT X a tA):PT X (.UnaryOp .Not a pos) (tNot tA):=by
 intro pins s σ H Q I h
 exact isTrue_not (ha pins s σ H (fun c H1=>Q (!c) H1) I h)
noncomputable def tAndV(ta tb:TE):TE:=fun σ H Q=>ta σ H fun x H1=>∃c,x=.bl c/\if c=true then tb σ H1 Q else Q (.bl false) H1
noncomputable def tOrV(ta tb:TE):TE:=fun σ H Q=>ta σ H fun x H1=>∃c,x=.bl c/\if c=true then Q (.bl true) H1 else tb σ H1 Q
noncomputable def tNotV(ta:TE):TE:=fun σ H Q=>ta σ H fun x H1=>∃c,x=.bl c/\Q (.bl (!c)) H1
theorem pe_one{op}{t:TE}(h:PE X a t):PE X (.BoolOp op [a] pos) t:=fun pins s σ H Q I hw=>BoolOp_one (h pins s σ H Q I hw)
theorem pe_and(ha:PE X a ta)(hb:PE X (.BoolOp .And (b::rest) pos) tb):PE X (.BoolOp .And (a::b::rest) pos) (tAndV ta tb):=by
 intro pins s σ H Q I h
 refine BoolOp_and (thn (ha pins s σ H _ I h) fun v s1 ⟨x,H1,I1,r1,q1⟩=>?_)
 obtain⟨c,rfl,q1⟩:=q1
 cases r1
 refine wpAny_truthy_bool ?_
 cases c with
 | true=>exact hb pins s1 σ H1 Q I1 q1
 | false=>exact⟨.bl false,H1,I1,rfl,q1⟩
theorem pe_or(ha:PE X a ta)(hb:PE X (.BoolOp .Or (b::rest) pos) tb):PE X (.BoolOp .Or (a::b::rest) pos) (tOrV ta tb):=by
 intro pins s σ H Q I h
 refine BoolOp_or (thn (ha pins s σ H _ I h) fun v s1 ⟨x,H1,I1,r1,q1⟩=>?_)
 obtain⟨c,rfl,q1⟩:=q1
 cases r1
 refine wpAny_truthy_bool ?_
 cases c with
 | false=>exact hb pins s1 σ H1 Q I1 q1
 | true=>exact⟨.bl true,H1,I1,rfl,q1⟩
theorem pe_not(ha:PE X a ta):PE X (.UnaryOp .Not a pos) (tNotV ta):=by
 intro pins s σ H Q I h
 refine UnaryOp_ (thn (ha pins s σ H _ I h) fun v s1 ⟨x,H1,I1,r1,q1⟩=>?_)
 obtain⟨c,rfl,q1⟩:=q1
 cases r1
 exact not_of (wpAny_truthy_bool ⟨.bl (!c),H1,I1,rfl,q1⟩)
noncomputable def tIf(t:TT)(ta tb:TE):TE:=fun σ H Q=>t σ H fun c H1=>if c=true then ta σ H1 Q else tb σ H1 Q
theorem pe_ifExp{c:Expr}(hc:PT X c tA)(ha:PE X a ta)(hb:PE X b tb):PE X (.IfExp c a b pos) (tIf tA ta tb):=by
 intro pins s σ H Q I h
 refine wpAny_IfExp (thn (hc pins s σ H _ I h) fun d s1 ⟨H1,I1,q1⟩=>?_)
 cases d with
 | true=>exact ha pins s1 σ H1 Q I1 q1
 | false=>exact hb pins s1 σ H1 Q I1 q1
end
end L2
namespace L2
open PySem PySem.Spec PyProof.Rows
noncomputable def SqL(K:PySem.W.Frag)(H:Hp)(a:Addr)(xs:List V):Prop:=
 Rd H a (.lst xs)\/
  ∃(o:Obj) (its:Array Value) (n:Nat),K.lookup a=some o/\o.cls=.type "list"/\o.dict=none/\o.data=.seq its n/\its.size<=sizeLine/\Vals xs its.toList
noncomputable def SqT(K:PySem.W.Frag)(H:Hp)(a:Addr)(xs:List V):Prop:=
 Rd H a (.tup xs)\/
  ∃(o:Obj) (its:Array Value) (n:Nat),K.lookup a=some o/\o.cls=.type "tuple"/\o.data=.seq its n/\its.size<=sizeLine/\Vals xs its.toList
noncomputable def absV:Value->Option V
 | .none=>some .non
 | .bool b=>some (.bl b)
 | .int i _=>some (.int i)
 | .str x _=>some (.str x)
 | .bytes b _=>some (.byt b)
 | .float b _=>some (.flt b)
 | .ref a=>some (.ref a)
 | .type n=>some (.ty n)
 | _=>none
theorem RelV.abs{x:V}{u:Value}(r:RelV x u):absV u=some x:=by
 cases x with
 | non=>cases r;rfl
 | bl _=>cases r;rfl
 | int _=>obtain⟨t,rfl⟩:=r;rfl
 | str _=>obtain⟨t,rfl⟩:=r;rfl
 | byt _=>obtain⟨t,rfl⟩:=r;rfl
 | flt _=>obtain⟨t,rfl⟩:=r;rfl
 | ref _=>cases r;rfl
 | ty _=>cases r;rfl
theorem RelV.inj{x y:V}{u:Value}(r:RelV x u)(q:RelV y u):x=y:=Option.some.inj (r.abs.symm.trans q.abs)
theorem Vals.inj:∀{xs ys:List V} {us:List Value},Vals xs us->Vals ys us->xs=ys
 | _,_,_,.nil,.nil=>rfl
 | _,_,_,.cons r t,.cons r' t'=>by rw[r.inj r',Vals.inj t t']
section
variable{X:Cx}{pins:List (Addr×Obj)}{σ:St}{H:Hp}{s:Shared}{a:Addr}{xs ys:List V}
theorem SqL.of{K:PySem.W.Frag}(h:H a=some (.lst xs)):SqL K H a xs:=.inl (.inl h)
theorem SqT.of{K:PySem.W.Frag}(h:H a=some (.tup xs)):SqT K H a xs:=.inl (.inl h)
theorem Inv.list(I:Inv X pins σ H s)(h:SqL X.K H a xs):∃its:List Value,Vals xs its/\PlainL s.heap a its.toArray/\xs.length<=sizeLine:=by
 rcases h with h|⟨o,its,n,hk,hc,hd,hs,hz,r⟩
 .obtain⟨z,its,n,r,e⟩:=h.ok I.hok
  exact⟨its,r,⟨_,n,e,rfl,rfl,rfl⟩,z⟩
 .refine⟨its.toList,r,⟨o,n,I.kIn a o hk,hc,hd,by simpa using hs⟩,?_⟩
  have e:=r.length
  simp only[Array.length_toList]at e
  omega
theorem Inv.tuple(I:Inv X pins σ H s)(h:SqT X.K H a xs):∃its:List Value,Vals xs its/\IsTup s.heap a its.toArray/\xs.length<=sizeLine:=by
 rcases h with h|⟨o,its,n,hk,hc,hs,hz,r⟩
 .obtain⟨z,its,r,p⟩:=h.ok I.hok
  exact⟨its,r,p,z⟩
 .refine⟨its.toList,r,⟨o,I.kIn a o hk,hc,n,by simpa using hs⟩,?_⟩
  have e:=r.length
  simp only[Array.length_toList]at e
  omega
theorem Inv.list_inj(I:Inv X pins σ H s)(h:SqL X.K H a xs)(h':SqL X.K H a ys):xs=ys:=by
 obtain⟨its,r,⟨o,n,e,_,_,d⟩,_⟩:=I.list h
 obtain⟨its',r',⟨o',n',e',_,_,d'⟩,_⟩:=I.list h'
 rw[e]at e';cases e'
 rw[d]at d'
 injection d' with d1 _
 have:its=its':=by simpa using congrArg Array.toList d1
 subst this
 exact r.inj r'
theorem Inv.tuple_inj(I:Inv X pins σ H s)(h:SqT X.K H a xs)(h':SqT X.K H a ys):xs=ys:=by
 obtain⟨its,r,⟨o,e,_,n,d⟩,_⟩:=I.tuple h
 obtain⟨its',r',⟨o',e',_,n',d'⟩,_⟩:=I.tuple h'
 rw[e]at e';cases e'
 rw[d]at d'
 injection d' with d1 _
 have:its=its':=by simpa using congrArg Array.toList d1
 subst this
 exact r.inj r'
end
noncomputable abbrev Cx.wish(X:Cx)(E:Value->Shared->Prop):Cx:={X with xe:=E}
noncomputable abbrev Cx.nox(X:Cx):Cx:=X.wish fun _ _=>False
theorem Cx.Ok.wish{X:Cx}(ok:X.Ok)(E:Value->Shared->Prop):(X.wish E).Ok:=
 ⟨ok.mod,ok.kind,ok.glob,ok.blt,ok.above,ok.inj,ok.has,ok.cab,ok.hd,ok.frames,ok.stk,ok.exf,ok.bs,ok.bsz,ok.noex,ok.exfs,ok.funs,ok.frf⟩
theorem Cx.Ok.unwish{X:Cx}{E:Value->Shared->Prop}(ok:(X.wish E).Ok):X.Ok:=
 ⟨ok.mod,ok.kind,ok.glob,ok.blt,ok.above,ok.inj,ok.has,ok.cab,ok.hd,ok.frames,ok.stk,ok.exf,ok.bs,ok.bsz,ok.noex,ok.exfs,ok.funs,ok.frf⟩
section
variable{X:Cx}{pins:List (Addr×Obj)}{σ:St}{H:Hp}{s:Shared}{E:Value->Shared->Prop}
theorem Inv.wish(I:Inv X pins σ H s)(E:Value->Shared->Prop):Inv (X.wish E) pins σ H s:=⟨I.ok.wish E,I.os,I.bare,I.base,I.loc,I.cell,I.free,I.freeC,I.pin,I.hok,I.len⟩
theorem Inv.unwish(I:Inv (X.wish E) pins σ H s):Inv X pins σ H s:=⟨I.ok.unwish,I.os,I.bare,I.base,I.loc,I.cell,I.free,I.freeC,I.pin,I.hok,I.len⟩
theorem SP.unwish{D:Ends}{f:Flow}{s':Shared}(h:SP (X.wish E) pins D f s'):SP X pins D f s':=by
 cases f with
 | next=>obtain⟨σ',H',I,q⟩:=h;exact⟨σ',H',I.unwish,q⟩
 | brk=>obtain⟨σ',H',I,q⟩:=h;exact⟨σ',H',I.unwish,q⟩
 | cont=>obtain⟨σ',H',I,q⟩:=h;exact⟨σ',H',I.unwish,q⟩
 | ret u=>obtain⟨v,σ',H',I,r,q⟩:=h;exact⟨v,σ',H',I.unwish,r,q⟩
theorem PSs.nox{st:List Stmt}{t:TS}(h:PSs X.nox st t):PSs X st t:=fun pins s σ H D I hw=>
 wpAny_mono (h pins s σ H D (I.wish _) hw) (fun _ _ q=>q.unwish) fun _ _ z=>False.elim z
end
section
variable{X:Cx}{st:Stmt}{rest:List Stmt}{t u:TS}{e:Expr}{te:TE}{pos:Pos}
noncomputable def tNext:TS:=fun D σ H=>D.nx σ H
noncomputable def tSeq(t u:TS):TS:=fun D σ H=>t {D with nx:=u D} σ H
theorem pss_nil:PSs X [] tNext:=fun _ _ σ H _ I h=>wpAny_execs_nil ⟨σ,H,I,h⟩
theorem pss_cons(h1:PS X st t)(h2:PSs X rest u):PSs X (st::rest) (tSeq t u):=by
 intro pins s σ H D I h
 refine wpAny_execs_cons (thn (h1 pins s σ H {D with nx:=u D} I h) fun f s1 q=>?_)
 cases f with
 | next=>
  obtain⟨σ',H',I',q⟩:=q
  exact h2 pins s1 σ' H' D I' q
 | ret v=>exact q
 | brk=>exact q
 | cont=>exact q
theorem pss_one(h1:PS X st t):PSs X [st] t:=by
 intro pins s σ H D I h
 refine wpAny_execs_cons (thn (h1 pins s σ H D I h) fun f s1 q=>?_)
 cases f with
 | next=>exact wpAny_execs_nil q
 | ret v=>exact q
 | brk=>exact q
 | cont=>exact q
theorem Inv.quiet{pins:List (Addr×Obj)}{σ:St}{H:Hp}{s:Shared}(I:Inv X pins σ H s):interactive X.env=false:=by simp[interactive,I.ok.kind]
noncomputable def tDrop(te:TE):TS:=fun D σ H=>te σ H fun _ H1=>D.nx σ H1
theorem ps_expr(he:PE X e te)(hs:swapsWith e none pos.line X.env=pure false:=by rfl):PS X (.Expr e pos) (tDrop te):=by
 intro pins s σ H D I h
 exact wpAny_Expr_any (thn (he pins s σ H _ I h) fun v s1 ⟨x,H1,I1,r1,q1⟩=>⟨σ,H1,I1,q1⟩) I.quiet hs
noncomputable def tRet(te:TE):TS:=fun D σ H=>te σ H D.rt
theorem ps_ret(he:PE X e te):PS X (.Return (some e) pos) (tRet te):=by
 intro pins s σ H D I h
 exact wpAny_Return_some (thn (he pins s σ H _ I h) fun v s1 ⟨x,H1,I1,r1,q1⟩=>⟨x,σ,H1,I1,r1,q1⟩)
noncomputable def tIfS(c:TT)(t u:TS):TS:=fun D σ H=>c σ H fun b H1=>if b=true then t D σ H1 else u D σ H1
theorem ps_if{c:Expr}{a b:List Stmt}{tc:TT}(hc:PT X c tc)(ha:PSs X a t)(hb:PSs X b u):PS X (.If c a b pos) (tIfS tc t u):=by
 intro pins s σ H D I h
 refine wpAny_If (thn (hc pins s σ H _ I h) fun d s1 ⟨H1,I1,q1⟩=>?_)
 cases d with
 | true=>exact ha pins s1 σ H1 D I1 q1
 | false=>exact hb pins s1 σ H1 D I1 q1
noncomputable def tNever:TS:=fun _ _ _=>False
theorem ps_never:PS X st tNever:=fun _ _ _ _ _ _ h=>h.elim
end
noncomputable abbrev TG:=V->St->Hp->(St->Hp->Prop)->Prop
noncomputable abbrev TGs:=List V->St->Hp->(St->Hp->Prop)->Prop
noncomputable def PG(X:Cx)(target:Expr)(t:TG):Prop:=
 ∀(pins:List (Addr×Obj)) (s:Shared) (σ:St) (H:Hp) (v:V) (u:Value) (Q:St->Hp->Prop),Inv X pins σ H s->RelV v u->t v σ H Q->
  wpAny (model X.prog X.w) X.A (assign target X.env u) (fun _ s'=>∃σ' H',Inv X pins σ' H' s'/\Q σ' H') X.xe s
noncomputable def PGs(X:Cx)(ts:List Expr)(t:TGs):Prop:=
 ∀(pins:List (Addr×Obj)) (s:Shared) (σ:St) (H:Hp) (vs:List V) (us:List Value) (Q:St->Hp->Prop),Inv X pins σ H s->Vals vs us->t vs σ H Q->
  wpAny (model X.prog X.w) X.A (assignInOrder ((assignEach ts X.env).map (·.2)) us) (fun _ s'=>∃σ' H',Inv X pins σ' H' s'/\Q σ' H') X.xe s
section
variable{X:Cx}{pos:Pos}
noncomputable def gName(i:Nat):TG:=fun v σ H Q=>Q (σ.set i (some v)) H
theorem pg_name{i:Nat}{x:Str}(hN:X.N.Nodup)(hi:X.N[i]?=some x)(hx:Loc X.env.scope x)(hf:X.fn x=true\/X.env.scope.names.lookup x=some .local:=by first|exact .inl rfl|exact .inr rfl|assumption):PG X (.Name x pos) (gName i):=by
 intro pins s σ H v u Q I r h
 exact wpAny_assign_Name (store_ok I hN hi hx r (fun s' I'=>⟨_,H,I',h⟩) hf)
noncomputable def gNil:TGs:=fun vs σ H Q=>vs=[]/\Q σ H
noncomputable def gCons(t:TG)(u:TGs):TGs:=fun vs σ H Q=>∃v r,vs=v::r/\t v σ H fun σ' H'=>u r σ' H' Q
theorem pgs_nil:PGs X [] gNil:=by
 intro pins s σ H vs us Q I r h
 obtain⟨e,h⟩:=h
 subst e
 cases r
 exact assignInOrder_nil ⟨σ,H,I,h⟩
theorem pgs_cons{e:Expr}{es:List Expr}{t:TG}{u:TGs}(h1:PG X e t)(h2:PGs X es u)
  (hs:(assignEach (e::es) X.env).map (·.2)=assign e X.env::(assignEach es X.env).map (·.2):=by rfl):PGs X (e::es) (gCons t u):=by
 intro pins s σ H vs us Q I r h
 obtain⟨v,vr,e1,h⟩:=h
 subst e1
 cases r with
 | cons r rr=>
  rw[hs]
  refine assignInOrder_cons (thn (h1 pins s σ H _ _ _ I r h) fun _ s1 ⟨σ1,H1,I1,q1⟩=>?_)
  exact h2 pins s1 σ1 H1 _ _ Q I1 rr q1
noncomputable def gTup(K:PySem.W.Frag)(n:Nat)(t:TGs):TG:=fun v σ H Q=>∃a xs,v=.ref a/\SqT K H a xs/\xs.length=n/\t xs σ H Q
theorem pg_tup{es:List Expr}{k:Nat}{t:TGs}{n:Nat}(hc:X.calm=true)(h:PGs X es t)
  (hn:(assignEach es X.env).length=n:=by rfl) (hst:(assignEach es X.env).findIdx? (·.1)=none:=by rfl):PG X (.Tuple es k pos) (gTup X.K n t):=by
 intro pins s σ H v u Q I r hw
 obtain⟨a,xs,e1,hq,hl,hw⟩:=hw
 subst e1
 cases r
 obtain⟨its,rv,ht,hz⟩:=I.tuple hq
 refine assign_Tuple_tuple (I.ok.hd hc) ht (by simp[hn,<-hl,rv.length]) hst fun h' hx=>?_
 have I1:Inv X pins σ H {s with heap:=h'}:=I.kept (t':=s.toks) fun b o e=>hx b o (Nat.ne_of_lt (Heap.lt_size e)) e
 exact h pins _ σ H xs _ Q I1 (by simpa using rv) hw
noncomputable def tAsg(te:TE)(g:TG):TS:=fun D σ H=>te σ H fun x H1=>g x σ H1 D.nx
theorem ps_set{i:Nat}{x:Str}{e:Expr}{te:TE}{pos':Pos}(hN:X.N.Nodup)(hi:X.N[i]?=some x)(hx:Loc X.env.scope x)(he:PE X e te)(hs:swapsWith e (some (.Name x pos')) pos.line X.env=pure false:=by rfl)(hf:X.fn x=true\/X.env.scope.names.lookup x=some .local:=by first|exact .inl rfl|exact .inr rfl|assumption) :
  PS X (.Assign [.Name x pos'] e pos) (tAsg te (gName i)):=by
 intro pins s σ H D I h
 refine wpAny_Assign_Name (thn (he pins s σ H _ I h) fun v s1 ⟨y,H1,I1,r1,q1⟩=>?_) hs
 exact store_ok I1 hN hi hx r1 (fun s2 I2=>⟨_,H1,I2,q1⟩) hf
end
structure It where
 go:Nat->Hp->Prop
 yld:Nat->Hp->V->Hp->Prop
 stop:Nat->Hp->Prop
noncomputable def FpOk(X:Cx)(pins:List (Addr×Obj))(H:Hp)(b:Addr):Prop:=
 H b=none/\b≠X.env.locals/\b∉X.fs/\(b∈X.ex\/X.s₀.heap.objs.size<=b)/\(∀x c,X.env.cells.lookup x=some c->c≠b)/\∀p∈X.pn++pins,p.1≠b
theorem Inv.fpOk{X:Cx}{pins:List (Addr×Obj)}{σ:St}{H H':Hp}{s:Shared}{b:Addr}(I:Inv X pins σ H s)(hb:s.heap.objs.size<=b)(hn:H' b=none):FpOk X pins H' b:=by
 refine⟨hn,Nat.ne_of_gt (Nat.lt_of_lt_of_le I.lt hb),I.nofs hb,.inr (Nat.le_trans I.sz hb),fun x c e z=>?_,fun p hp z=>?_⟩
 .obtain⟨v,q⟩:=I.cell x c e
  exact absurd (Nat.lt_of_lt_of_le q.lt (by rw[z];exact hb)) (Nat.lt_irrefl _)
 .exact absurd (Nat.lt_of_lt_of_le (Heap.lt_size (I.pin p hp).1) (by rw[z];exact hb)) (Nat.lt_irrefl _)
structure Turn(P:Program)(w:World)(K:PySem.W.Frag)(tg:Expr)(J:It)(fp:List Addr)(it:Addr)(tn:Nat->Heap->Prop):Prop where
 mem:it∈fp
 obj:∀i h,tn i h->∀b∈fp,∃o,h.get? b=some o/\∀v,o.data≠.cell v
 keep:∀i h h',tn i h->(∀b∈fp,∀o,h.get? b=some o->h'.get? b=some o)->tn i h'
 item:∀(X:Cx),X.prog=P->X.w=w->X.K=K->X.calm=true->∀(i:Nat) (pins:List (Addr×Obj)) (s:Shared) (σ:St) (H:Hp) (E:Value->Shared->Prop),Inv X pins σ H s->(∀b∈fp,FpOk X pins H b)->tn i s.heap->J.go i H->
  wpAny (model P w) X.A (pyNext (.ref it)) (fun r s1=>∃u,r=some u/\
   wpAny (model P w) X.A (letOwnedTupleGo tg (.ref it) u) (fun _ s2=>∃x H',Inv X pins σ H' s2/\RelV x u/\J.yld i H x H'/\tn (i+1) s2.heap/\∀b∈fp,H' b=none) E s1) E s
 done:∀(X:Cx),X.prog=P->X.w=w->X.K=K->X.calm=true->∀(i:Nat) (pins:List (Addr×Obj)) (s:Shared) (σ:St) (H:Hp) (E:Value->Shared->Prop),Inv X pins σ H s->(∀b∈fp,FpOk X pins H b)->tn i s.heap->J.stop i H->
  wpAny (model P w) X.A (pyNext (.ref it)) (fun r s1=>r=none/\Inv X pins σ H s1) E s
 self:∀(A:Around) (i:Nat) (s:Shared) (Q:Value->Shared->Prop) (E:Value->Shared->Prop),tn i s.heap->Q (.ref it) s->wpAny (model P w) A (pyIter (.ref it)) Q E s
noncomputable abbrev TI:=St->Hp->(It->Hp->Prop)->Prop
noncomputable def PIE(X:Cx)(pins:List (Addr×Obj))(σ:St)(tg:Expr)(R:It->Hp->Prop)(itv:Value)(s2:Shared):Prop:=
 ∃(it:Addr) (fp:List Addr) (tn:Nat->Heap->Prop) (J:It) (H':Hp),itv=.ref it/\Inv X pins σ H' s2/\Turn X.prog X.w X.K tg J fp it tn/\tn 0 s2.heap/\(∀b∈fp,FpOk X pins H' b)/\R J H'
noncomputable def PI(X:Cx)(tg iter:Expr)(wi:TI):Prop:=
 ∀(pins:List (Addr×Obj)) (s:Shared) (σ:St) (H:Hp) (R:It->Hp->Prop),Inv X pins σ H s->wi σ H R->
  wpAny (model X.prog X.w) X.A (eval iter X.env) (fun v s1=>wpAny (model X.prog X.w) X.A (pyIter v) (PIE X pins σ tg R) X.xe s1) X.xe s
theorem go_of{M:Model}{A:Around}{E:Value->Shared->Prop}{s:Shared}{tg:Expr}{it:Addr}{u:Value}{o:Obj}{n:String}{vs:Array Value}{Q:Unit->Shared->Prop}(ho:s.heap.get? it=some o)(hc:o.cls=.type n)(hd:o.data=.fields vs)
  (hn:["enumerate","zip","dict_itemiterator","dict_reverseitemiterator","odict_iterator","itertools.zip_longest","itertools.pairwise"].contains n=false) (hQ:Q () s):wpAny M A (letOwnedTupleGo tg (.ref it) u) Q E s:=by
 unfold letOwnedTupleGo
 cases tg<;>first
  | exact wpAny_pure hQ
  | (cases u<;>first
    | exact wpAny_pure hQ
    | (refine wpAny_bind (wpAny_load ho ?_)
       rw[hc,hd]
       show wpAny M A (if (["enumerate","zip","dict_itemiterator","dict_reverseitemiterator","odict_iterator","itertools.zip_longest","itertools.pairwise"].contains n&&vs[0]?==some (rawInt _))=true then _ else _) Q E s
       rw[if_neg (by intro h;rw[hn,Bool.false_and]at h;cases h)]
       exact wpAny_pure hQ))
noncomputable def Itl(K:PySem.W.Frag)(a:Addr):It:=
 ⟨fun i H=>∃xs x,SqL K H a xs/\xs[i]?=some x,fun i H x H'=>H'=H/\∀xs,SqL K H a xs->xs[i]?=some x,fun i H=>∃xs,SqL K H a xs/\xs.length<=i⟩
noncomputable def Itt(K:PySem.W.Frag)(a:Addr):It:=
 ⟨fun i H=>∃xs x,SqT K H a xs/\xs[i]?=some x,fun i H x H'=>H'=H/\∀xs,SqT K H a xs->xs[i]?=some x,fun i H=>∃xs,SqT K H a xs/\xs.length<=i⟩
noncomputable def Itr(lo:Int)(n:Nat):It:=⟨fun i _=>i<n,fun i H x H'=>H'=H/\x=.int (lo+i),fun i _=>n<=i⟩
theorem turn_list{P:Program}{w:World}{K:PySem.W.Frag}{tg:Expr}(a it:Addr):Turn P w K tg (Itl K a) [it] it (fun i h=>h.IsListIter it a i)where
 mem:=by simp
 obj:=fun i h st b hb=>by
  have e:b=it:=by simpa using hb
  subst e
  obtain⟨o,e,c,d⟩:=st
  exact⟨o,e,fun v z=>by rw[d]at z;cases z⟩
 keep:=fun i h h' st k=>st.at fun o e=>k it (by simp) o e
 item:=by
  intro X hP hw hK hc i pins s σ H E I hf st hg
  subst hP hw hK
  obtain⟨xs,x,hq,hx⟩:=hg
  obtain⟨its,rv,p,hz⟩:=I.list hq
  obtain⟨u,hu,ru⟩:=rv.get hx
  obtain⟨f0,f1,f2,f3,f4,f5⟩:=hf it (by simp)
  refine wpAny_pyNext_list_item st p.isList (x:=u) (by simpa using hu) fun h' st' sb=>?_
  have I1:Inv X pins σ H {s with heap:=h'}:=I.turned (t':=s.toks) (fun b o hb e=>(sb.2 b hb).trans e) f0 f1 f3 f4 f5
  obtain⟨o,e,c,d⟩:=id st'
  exact⟨u,rfl,go_of (s:={s with heap:=h'}) e c d (by decide) ⟨x,H,I1,ru,⟨rfl,fun ys hy=>by rw[I.list_inj hy hq];exact hx⟩,st',fun b hb=>(hf b hb).1⟩⟩
 done:=by
  intro X hP hw hK hc i pins s σ H E I hf st hg
  subst hP hw hK
  obtain⟨xs,hq,hx⟩:=hg
  obtain⟨its,rv,p,hz⟩:=I.list hq
  obtain⟨f0,f1,f2,f3,f4,f5⟩:=hf it (by simp)
  have hl:=rv.length
  exact wpAny_pyNext_list_end (I.ok.hd hc) st p.isList (by simp;omega) fun h' eb=>⟨rfl,I.turned (t':=s.toks) (fun b o hb e=>eb b o hb e) f0 f1 f3 f4 f5⟩
 self:=fun _ _ _ _ _ st h=>wpAny_pyIter_listiter st h
theorem turn_tuple{P:Program}{w:World}{K:PySem.W.Frag}{tg:Expr}(a it:Addr):Turn P w K tg (Itt K a) [it] it (fun i h=>h.IsTupleIter it a i)where
 mem:=by simp
 obj:=fun i h st b hb=>by
  have e:b=it:=by simpa using hb
  subst e
  obtain⟨o,e,c,d⟩:=st
  exact⟨o,e,fun v z=>by rw[d]at z;cases z⟩
 keep:=fun i h h' st k=>st.at fun o e=>k it (by simp) o e
 item:=by
  intro X hP hw hK hc i pins s σ H E I hf st hg
  subst hP hw hK
  obtain⟨xs,x,hq,hx⟩:=hg
  obtain⟨its,rv,p,hz⟩:=I.tuple hq
  obtain⟨u,hu,ru⟩:=rv.get hx
  obtain⟨f0,f1,f2,f3,f4,f5⟩:=hf it (by simp)
  refine wpAny_pyNext_tuple_item st (show s.heap.IsTuple a its.toArray from p) (x:=u) (by simpa using hu) fun h' st' sb=>?_
  have I1:Inv X pins σ H {s with heap:=h'}:=I.turned (t':=s.toks) (fun b o hb e=>(sb.2 b hb).trans e) f0 f1 f3 f4 f5
  obtain⟨o,e,c,d⟩:=id st'
  exact⟨u,rfl,go_of (s:={s with heap:=h'}) e c d (by decide) ⟨x,H,I1,ru,⟨rfl,fun ys hy=>by rw[I.tuple_inj hy hq];exact hx⟩,st',fun b hb=>(hf b hb).1⟩⟩
 done:=by
  intro X hP hw hK hc i pins s σ H E I hf st hg
  subst hP hw hK
  obtain⟨xs,hq,hx⟩:=hg
  obtain⟨its,rv,p,hz⟩:=I.tuple hq
  obtain⟨f0,f1,f2,f3,f4,f5⟩:=hf it (by simp)
  have hl:=rv.length
  exact wpAny_pyNext_tuple_end (I.ok.hd hc) st (show s.heap.IsTuple a its.toArray from p) (by simp;omega) fun h' eb=>⟨rfl,I.turned (t':=s.toks) (fun b o hb e=>eb b o hb e) f0 f1 f3 f4 f5⟩
 self:=fun _ _ _ _ _ st h=>wpAny_pyIter_tupleiter st h
theorem turn_range{P:Program}{w:World}{K:PySem.W.Frag}{tg:Expr}(it:Addr)(lo:Int)(n:Nat):Turn P w K tg (Itr lo n) [it] it (fun i h=>IsRangeIter h it (lo+(i:Nat)*1) ((n:Int)-(i:Nat)) 1)where
 mem:=by simp
 obj:=fun i h st b hb=>by
  have e:b=it:=by simpa using hb
  subst e
  exact⟨_,st,fun v z=>by
   have z':Data.fields _=Data.cell v:=z
   cases z'⟩
 keep:=fun i h h' st k=>k it (by simp) _ st
 item:=by
  intro X hP hw hK hc i pins s σ H E I hf st hg
  subst hP hw hK
  obtain⟨f0,f1,f2,f3,f4,f5⟩:=hf it (by simp)
  have W:=Walks.range (prog:=X.prog) (w:=X.w) (I.ok.hd hc) it lo 1 n
  refine W.item i s _ _ hg st fun v h' tk hv st' kk=>?_
  obtain⟨t,rfl⟩:=hv
  have I1:Inv X pins σ H {s with heap:=h',toks:=tk}:=I.turned (fun b o hb e=>kk b o (by simpa using hb) e) f0 f1 f3 f4 f5
  refine⟨_,rfl,go_of (s:={s with heap:=h',toks:=tk}) (n:="range_iterator") st' rfl rfl (by decide) ⟨.int (lo+i),H,I1,⟨t,?_⟩,⟨rfl,rfl⟩,st',fun b hb=>(hf b hb).1⟩⟩
  rw[Int.mul_one]
 done:=by
  intro X hP hw hK hc i pins s σ H E I hf st hg
  subst hP hw hK
  obtain⟨f0,f1,f2,f3,f4,f5⟩:=hf it (by simp)
  exact wpAny_pyNext_range_end (I.ok.hd hc) st (by have:n<=i:=hg;omega) fun h' eb=>⟨rfl,I.turned (t':=s.toks) (fun b o hb e=>eb b o hb e) f0 f1 f3 f4 f5⟩
 self:=fun _ _ _ _ _ st h=>wpAny_pyIter_rangeiter st h
end L2
namespace L2
open PySem PySem.Spec PyProof.Rows
section
variable{X:Cx}{tg:Expr}
noncomputable def iList(K:PySem.W.Frag)(tl:TE):TI:=fun σ H R=>tl σ H fun x H1=>∃a,x=.ref a/\(∃xs,SqL K H1 a xs)/\R (Itl K a) H1
noncomputable def iTup(K:PySem.W.Frag)(tl:TE):TI:=fun σ H R=>tl σ H fun x H1=>∃a,x=.ref a/\(∃xs,SqT K H1 a xs)/\R (Itt K a) H1
theorem pi_list{l:Expr}{tl:TE}(hl:PE X l tl):PI X tg l (iList X.K tl):=by
 intro pins s σ H R I h
 refine thn (hl pins s σ H _ I h) fun v s1 ⟨x,H1,I1,r1,q1⟩=>?_
 obtain⟨a,e,⟨xs,hq⟩,q⟩:=q1
 subst e
 cases r1
 obtain⟨its,rv,p,hz⟩:=I1.list hq
 refine wpAny_pyIter_list p.isList ?_
 refine⟨s1.heap.objs.size,[s1.heap.objs.size],_,_,H1,rfl,I1.kept (t':=s1.toks) fun b o e=>Heap.get?_push_of_some _ e,turn_list a _,⟨_,Heap.get?_push_size _ rfl,rfl,rfl⟩,fun b hb=>?_,q⟩
 have e:b=s1.heap.objs.size:=by simpa using hb
 subst e
 exact I1.fpOk (Nat.le_refl _) (I1.hok.fresh (Nat.le_refl _))
theorem pi_tup{l:Expr}{tl:TE}(hl:PE X l tl):PI X tg l (iTup X.K tl):=by
 intro pins s σ H R I h
 refine thn (hl pins s σ H _ I h) fun v s1 ⟨x,H1,I1,r1,q1⟩=>?_
 obtain⟨a,e,⟨xs,hq⟩,q⟩:=q1
 subst e
 cases r1
 obtain⟨its,rv,p,hz⟩:=I1.tuple hq
 refine wpAny_pyIter_tuple (show s1.heap.IsTuple a its.toArray from p) ?_
 refine⟨s1.heap.objs.size,[s1.heap.objs.size],_,_,H1,rfl,I1.kept (t':=s1.toks) fun b o e=>Heap.get?_push_of_some _ e,turn_tuple a _,⟨_,Heap.get?_push_size _ rfl,rfl,rfl⟩,fun b hb=>?_,q⟩
 have e:b=s1.heap.objs.size:=by simpa using hb
 subst e
 exact I1.fpOk (Nat.le_refl _) (I1.hok.fresh (Nat.le_refl _))
theorem range_it{pins:List (Addr×Obj)}{σ:St}{H:Hp}{s:Shared}{R:It->Hp->Prop}{E:Value->Shared->Prop}{lo hi:Int}{t u v:Tok}{tk:Nat}(I:Inv X pins σ H s)(h1:-(2^62)<=lo)(h2:lo<2^62)(h3:-(2^62)<=hi)(h4:hi<2^62)
  (q:R (Itr lo (hi-lo).toNat) H):wpAny (model X.prog X.w) X.A (pyIter (.ref s.heap.objs.size)) (PIE X pins σ tg R) E {s with heap:=s.heap.push {cls:=.type "range",data:=.fields #[.int lo t,.int hi u,.int 1 v]},toks:=tk}:=by
 refine wpAny_pyIter_range (IsRange.new ..) (small_one h1 h2 h3 h4) ?_
 have I1:Inv X pins σ H {s with heap:=s.heap.push {cls:=.type "range",data:=.fields #[.int lo t,.int hi u,.int 1 v]},toks:=tk}:=I.kept fun b o e=>Heap.get?_push_of_some _ e
 refine⟨(s.heap.push {cls:=.type "range",data:=.fields #[.int lo t,.int hi u,.int 1 v]}).objs.size,[(s.heap.push {cls:=.type "range",data:=.fields #[.int lo t,.int hi u,.int 1 v]}).objs.size],_,_,H,rfl,
  I1.kept (t':=tk) fun b o e=>Heap.get?_push_of_some _ e,turn_range _ lo (hi-lo).toNat,?_,fun b hb=>?_,q⟩
 .have e1:lo+((0:Nat):Int)*1=lo:=by simp
  have e2:(((hi-lo).toNat:Nat):Int)-((0:Nat):Int)=Builtin.Range.rangeSize lo hi 1:=by rw[rangeSize_one];split<;>omega
  show IsRangeIter _ _ (lo+((0:Nat):Int)*1) ((((hi-lo).toNat:Nat):Int)-((0:Nat):Int)) 1
  rw[e1,e2]
  exact Heap.get?_push_size _ rfl
 .have e:b=(s.heap.push {cls:=.type "range",data:=.fields #[.int lo t,.int hi u,.int 1 v]}).objs.size:=by simpa using hb
  subst e
  exact I1.fpOk (Nat.le_refl _) (I1.hok.fresh (Nat.le_refl _))
noncomputable def iRng1(ta:TA):TI:=fun σ H R=>ta σ H fun vs H1=>∃j:Int,vs=[.int j]/\-(2^62)<=j/\j<2^62/\R (Itr 0 j.toNat) H1
noncomputable def iRng2(ta:TA):TI:=fun σ H R=>ta σ H fun vs H1=>∃i j:Int,vs=[.int i,.int j]/\(-(2^62)<=i/\i<2^62/\-(2^62)<=j/\j<2^62)/\R (Itr i (j-i).toNat) H1
theorem pi_range1{a:Expr}{ta:TA}{p pos:Pos}(hg:Gl X "range")(hm:X.mg "range" = none)(ha:PA X [a] ta)(hs:starEach [a] X.env=[(false,eval a X.env)]:=by rfl):PI X tg (.Call (.Name "range" p) [a] [] pos) (iRng1 ta):=by
 intro pins s σ H R I h
 refine Call_ (ld_blt I hg hm boot_range (PyProof.Rows.callWith_type1 (thn (ha pos pins s σ H _ I h) fun us s1 ⟨vs,H1,I1,r1,q1⟩=>?_) hs rfl))
 obtain⟨j,e,q1,q2,q⟩:=q1
 subst e
 cases r1 with
 | cons r rr=>
  cases rr
  obtain⟨t,rfl⟩:=r
  exact call_range_1 (range_it I1 (by omega) (by omega) q1 q2 (by simpa using q))
theorem pi_range2{a b:Expr}{ta:TA}{p pos:Pos}(hg:Gl X "range")(hm:X.mg "range" = none)(ha:PA X [a,b] ta)(hs:starEach [a,b] X.env=[(false,eval a X.env),(false,eval b X.env)]:=by rfl)(hs2:starEach [b] X.env=[(false,eval b X.env)]:=by rfl) :
  PI X tg (.Call (.Name "range" p) [a,b] [] pos) (iRng2 ta):=by
 intro pins s σ H R I h
 refine Call_ (ld_blt I hg hm boot_range (PyProof.Rows.callWith_type1 (thn (ha pos pins s σ H _ I h) fun us s1 ⟨vs,H1,I1,r1,q1⟩=>?_) (by rw[hs,hs2]) (by rw[hs2];rfl)))
 obtain⟨i,j,e,⟨q1,q2,q3,q4⟩,q⟩:=q1
 subst e
 cases r1 with
 | cons r rr=>
  cases rr with
  | cons r' rr=>
   cases rr
   obtain⟨t,rfl⟩:=r
   obtain⟨t',rfl⟩:=r'
   exact call_range_2 (range_it I1 q1 q2 q3 q4 q)
noncomputable def tFor(wi:TI)(g:TG)(tb:TS):TS:=fun D σ H=>wi σ H fun J H1=>∃W:Nat->Nat->St->Hp->Prop,(∃m,W 0 m σ H1)/\∀i m σ H,W i m σ H->
 (J.stop i H/\D.nx σ H)\/(J.go i H/\∃N:St->Hp->Prop,(∀σ' H',N σ' H'->∃m',m'<m/\W (i+1) m' σ' H')/\∀x H',J.yld i H x H'->g x σ H' fun σ2 H2=>tb {D with nx:=N,ct:=N,bk:=D.nx} σ2 H2)
noncomputable def pinsAt(fp:List Addr)(h:Heap):List (Addr×Obj):=fp.filterMap fun b=>(h.get? b).map fun o=>(b,o)
theorem mem_pinsAt{fp:List Addr}{h:Heap}{b:Addr}{o:Obj}(hb:b∈fp)(e:h.get? b=some o):(b,o)∈pinsAt fp h:=List.mem_filterMap.mpr ⟨b,hb,by rw[e];rfl⟩
theorem of_pinsAt{fp:List Addr}{h:Heap}{p:Addr×Obj}(hp:p∈pinsAt fp h):p.1∈fp/\h.get? p.1=some p.2:=by
 obtain⟨b,hb,e⟩:=List.mem_filterMap.mp hp
 cases q:h.get? b with
 | none=>rw[q]at e;cases e
 | some o=>
  rw[q]at e
  have e':(b,o)=p:=Option.some.inj e
  subst e'
  exact⟨hb,q⟩
theorem Inv.pinned{pins:List (Addr×Obj)}{σ:St}{H:Hp}{s:Shared}{fp:List Addr}(I:Inv X pins σ H s)(hf:∀b∈fp,FpOk X pins H b)(ho:∀b∈fp,∃o,s.heap.get? b=some o/\∀v,o.data≠.cell v):Inv X (pins++pinsAt fp s.heap) σ H s:=
 I.pins_of fun p hp=>(List.mem_append.mp hp).elim (fun z=>I.pin p (List.mem_append_right _ z)) fun z=>by
  obtain⟨hb,e⟩:=of_pinsAt z
  obtain⟨f0,f1,f2,_⟩:=hf p.1 hb
  obtain⟨o,e',d⟩:=ho p.1 hb
  rw[e]at e';cases e'
  exact⟨e,f0,f1,f2,d⟩
theorem Inv.unpinned{pins pl:List (Addr×Obj)}{σ:St}{H:Hp}{s:Shared}(I:Inv X (pins++pl) σ H s):Inv X pins σ H s:=I.pins_of fun p hp=>I.pin p (List.mem_append_right _ (List.mem_append_left _ hp))
theorem ps_for{iter:Expr}{body:List Stmt}{wi:TI}{g:TG}{tb:TS}{pos:Pos}(hp:PassesOwn (model X.prog X.w) X.A X.env X.xe)(hc:X.calm=true)(hi:PI X tg iter wi)(hg:PG X tg g)(hb:PSs X body tb)
  (hs:∀x,foldedSetIterable iter X.env x=pure x:=by intro _;rfl):PS X (.For tg iter body [] pos) (tFor wi g tb):=by
 intro pins s σ H D I h
 refine wpAny_For (thn (hi pins s σ H _ I h) fun v s1 h1=>thn h1 fun itv s2 h2=>?_) hs
 obtain⟨it,fp,tn,J,H2,e,I2,T,st2,f2,W,⟨m0,w0⟩,turn⟩:=h2
 subst e
 have stat:∀{H':Hp},(∀b∈fp,H' b=none)->∀b∈fp,FpOk X pins H' b:=fun hn b hb=>⟨hn b hb,(f2 b hb).2⟩
 refine codeAny_forLoop_any (fun n s'=>∃i σ' H',Inv X pins σ' H' s'/\tn i s'.heap/\(∀b∈fp,H' b=none)/\W i n σ' H') ?_ m0 ⟨0,σ,H2,I2,st2,fun b hb=>(f2 b hb).1,w0⟩
 rintro n s3 ⟨i,σ3,H3,I3,st3,fr3,w3⟩
 rcases turn i n σ3 H3 w3 with ⟨stop,qn⟩|⟨go,N,hN,step⟩
 .refine wpAny_passesOwn hp (thn (T.done X rfl rfl rfl hc i pins s3 σ3 H3 X.xe I3 (stat fr3) st3 stop) fun r s4 ⟨hr,I4⟩=>?_)
  subst hr
  exact wpAny_execs_nil ⟨σ3,H3,I4,qn⟩
 .refine wpAny_passesOwn hp (thn (T.item X rfl rfl rfl hc i pins s3 σ3 H3 X.xe I3 (stat fr3) st3 go) fun r s4 ⟨u,hr,h4⟩=>?_)
  subst hr
  refine wpAny_passesOwn hp (thn h4 fun _ s5 ⟨x,H5,I5,r5,y5,st5,fr5⟩=>?_)
  have I5':=I5.pinned (stat fr5) (T.obj _ _ st5)
  refine wpAny_passesOwn hp (thn (hg _ s5 σ3 H5 x u _ I5' r5 (step x H5 y5)) fun _ s6 ⟨σ6,H6,I6,q6⟩=>?_)
  refine wpAny_passesOwn hp (thn (hb _ s6 σ6 H6 _ I6 q6) fun f s7 q7=>?_)
  have again:∀{σ7:St} {H7:Hp},Inv X (pins++pinsAt fp s5.heap) σ7 H7 s7->N σ7 H7->∃m,m<n/\∃i σ' H',Inv X pins σ' H' s7/\tn i s7.heap/\(∀b∈fp,H' b=none)/\W i m σ' H':=fun{σ7 H7} I7 n7=>by
   obtain⟨m',hm,w7⟩:=hN σ7 H7 n7
   refine⟨m',hm,i+1,σ7,H7,I7.unpinned,T.keep _ _ _ st5 fun b hb o e=>(I7.pin (b,o) (List.mem_append_right _ (List.mem_append_right _ (mem_pinsAt hb e)))).1,fun b hb=>?_,w7⟩
   obtain⟨o,e,d⟩:=T.obj _ _ st5 b hb
   exact(I7.pin (b,o) (List.mem_append_right _ (List.mem_append_right _ (mem_pinsAt hb e)))).2.1
  cases f with
  | next=>obtain⟨σ7,H7,I7,n7⟩:=q7;exact again I7 n7
  | cont=>obtain⟨σ7,H7,I7,n7⟩:=q7;exact again I7 n7
  | brk=>obtain⟨σ7,H7,I7,q7⟩:=q7;exact⟨σ7,H7,I7.unpinned,q7⟩
  | ret v=>obtain⟨x7,σ7,H7,I7,r7,q7⟩:=q7;exact⟨x7,σ7,H7,I7.unpinned,r7,q7⟩
end
theorem for_list{K:PySem.W.Frag}{a:Addr}{xs:List V}{g:TG}{tb:TS}{D:Ends}{σ:St}{H:Hp}(Pv:Nat->St->Hp->Prop)(h0:Pv 0 σ H)(hl:∀i σ H,i<=xs.length->Pv i σ H->SqL K H a xs)
  (hs:∀i x σ H,xs[i]?=some x->Pv i σ H->g x σ H fun σ2 H2=>tb {D with nx:=Pv (i+1),ct:=Pv (i+1),bk:=D.nx} σ2 H2) (hd:∀σ H,Pv xs.length σ H->D.nx σ H) :
  ∃W:Nat->Nat->St->Hp->Prop,(∃m,W 0 m σ H)/\∀i m σ H,W i m σ H->
   ((Itl K a).stop i H/\D.nx σ H)\/((Itl K a).go i H/\∃N:St->Hp->Prop,(∀σ' H',N σ' H'->∃m',m'<m/\W (i+1) m' σ' H')/\∀x H',(Itl K a).yld i H x H'->g x σ H' fun σ2 H2=>tb {D with nx:=N,ct:=N,bk:=D.nx} σ2 H2):=by
 refine⟨fun i m σ H=>m=xs.length-i/\i<=xs.length/\Pv i σ H,⟨xs.length,by simp,Nat.zero_le _,h0⟩,?_⟩
 rintro i m σ H ⟨rfl,hi,p⟩
 have q:=hl i σ H hi p
 by_cases hlt:i<xs.length
 .refine .inr ⟨⟨xs,xs[i],q,by simp[hlt]⟩,Pv (i+1),fun σ' H' p'=>⟨xs.length-(i+1),by omega,rfl,hlt,p'⟩,fun x H' y=>?_⟩
  obtain⟨e,y⟩:=y
  subst e
  exact hs i x σ _ (y xs q) p
 .have e:i=xs.length:=by omega
  subst e
  exact .inl ⟨⟨xs,q,Nat.le_refl _⟩,hd σ H p⟩
theorem for_range{lo:Int}{n:Nat}{g:TG}{tb:TS}{D:Ends}{σ:St}{H:Hp}(Pv:Nat->St->Hp->Prop)(h0:Pv 0 σ H)
  (hs:∀i σ H,i<n->Pv i σ H->g (.int (lo+i)) σ H fun σ2 H2=>tb {D with nx:=Pv (i+1),ct:=Pv (i+1),bk:=D.nx} σ2 H2) (hd:∀σ H,Pv n σ H->D.nx σ H) :
  ∃W:Nat->Nat->St->Hp->Prop,(∃m,W 0 m σ H)/\∀i m σ H,W i m σ H->
   ((Itr lo n).stop i H/\D.nx σ H)\/((Itr lo n).go i H/\∃N:St->Hp->Prop,(∀σ' H',N σ' H'->∃m',m'<m/\W (i+1) m' σ' H')/\∀x H',(Itr lo n).yld i H x H'->g x σ H' fun σ2 H2=>tb {D with nx:=N,ct:=N,bk:=D.nx} σ2 H2):=by
 refine⟨fun i m σ H=>m=n-i/\i<=n/\Pv i σ H,⟨n,by simp,Nat.zero_le _,h0⟩,?_⟩
 rintro i m σ H ⟨rfl,hi,p⟩
 by_cases hlt:i<n
 .refine .inr ⟨hlt,Pv (i+1),fun σ' H' p'=>⟨n-(i+1),by omega,rfl,hlt,p'⟩,fun x H' y=>?_⟩
  obtain⟨e,y⟩:=y
  subst e y
  exact hs i σ _ hlt p
 .have e:i=n:=by omega
  subst e
  exact .inl ⟨Nat.le_refl _,hd σ H p⟩
end L2
namespace L2
open PySem PySem.Spec PyProof.Rows
noncomputable abbrev R2:=V->V->Hp->VK->Prop
noncomputable def OpR(X:Cx)(f:Value->Value->Sem Value)(r:R2):Prop:=
 ∀(pins:List (Addr×Obj)) (s:Shared) (σ:St) (H:Hp) (x y:V) (v u:Value) (Q:VK),Inv X pins σ H s->RelV x v->RelV y u->r x y H Q->
  wpAny (model X.prog X.w) X.A (f v u) (EP X pins σ Q) X.xe s
noncomputable def UnR(X:Cx)(f:Value->Sem Value)(r:V->Hp->VK->Prop):Prop:=
 ∀(pins:List (Addr×Obj)) (s:Shared) (σ:St) (H:Hp) (x:V) (v:Value) (Q:VK),Inv X pins σ H s->RelV x v->r x H Q->
  wpAny (model X.prog X.w) X.A (f v) (EP X pins σ Q) X.xe s
noncomputable def CallR(X:Cx)(f:Value)(r:List V->Hp->VK->Prop):Prop:=
 ∀(pins:List (Addr×Obj)) (s:Shared) (σ:St) (H:Hp) (xs:List V) (us:List Value) (Q:VK),Inv X pins σ H s->Vals xs us->r xs H Q->
  wpAny (model X.prog X.w) X.A (call f us) (EP X pins σ Q) X.xe s
noncomputable def TruR(X:Cx)(r:V->Hp->(Bool->Hp->Prop)->Prop):Prop:=
 ∀(pins:List (Addr×Obj)) (s:Shared) (σ:St) (H:Hp) (x:V) (v:Value) (Q:Bool->Hp->Prop),Inv X pins σ H s->RelV x v->r x H Q->
  wpAny (model X.prog X.w) X.A (truthy v) (TP X pins σ Q) X.xe s
noncomputable def tOp(r:R2)(ta tb:TE):TE:=fun σ H Q=>ta σ H fun x H1=>tb σ H1 fun y H2=>r x y H2 Q
noncomputable def tUn(r:V->Hp->VK->Prop)(ta:TE):TE:=fun σ H Q=>ta σ H fun x H1=>r x H1 Q
noncomputable def rI(C:Int->Int->Prop)(g:Int->Int->V):R2:=fun x y H Q=>∃i j,x=.int i/\y=.int j/\C i j/\Q (g i j) H
noncomputable def rI0(g:Int->Int->V):R2:=fun x y H Q=>∃i j,x=.int i/\y=.int j/\Q (g i j) H
noncomputable def rU(g:Int->V):V->Hp->VK->Prop:=fun x H Q=>∃i,x=.int i/\Q (g i) H
section
variable{X:Cx}{a b c:Expr}{ta tb tc:TE}{pos:Pos}
theorem binT(ha:PE X a ta)(hb:PE X b tb){pins:List (Addr×Obj)}{s:Shared}{σ:St}{H:Hp}{R:V->V->Hp->Prop}(I:Inv X pins σ H s)
  (h:ta σ H fun x H1=>tb σ H1 fun y H2=>R x y H2) {Q:Value->Shared->Prop} {f:Value->Value->Sem Value}
  (hf:∀v u s2 x y H2,Inv X pins σ H2 s2->RelV x v->RelV y u->R x y H2->wpAny (model X.prog X.w) X.A (f v u) Q X.xe s2) :
  wpAny (model X.prog X.w) X.A (eval a X.env) (fun v s₁=>wpAny (model X.prog X.w) X.A (eval b X.env) (fun u s₂=>wpAny (model X.prog X.w) X.A (f v u) Q X.xe s₂) X.xe s₁) X.xe s:=by
 refine thn (ha pins s σ H _ I h) fun v s1 ⟨x,H1,I1,r1,q1⟩=>?_
 refine thn (hb pins s1 σ H1 _ I1 q1) fun u s2 ⟨y,H2,I2,r2,q2⟩=>?_
 exact hf v u s2 x y H2 I2 r1 r2 q2
theorem pe_op{op:Operator}{r:R2}(ho:OpR X (binaryOp op) r)(ha:PE X a ta)(hb:PE X b tb):PE X (.BinOp a op b pos) (tOp r ta tb):=by
 intro pins s σ H Q I h
 exact wpAny_BinOp (binT ha hb I h fun v u s2 x y H2 I2 rx ry q=>ho pins s2 σ H2 x y v u Q I2 rx ry q)
theorem pe_un{op:UnaryOp}{r:V->Hp->VK->Prop}(ho:UnR X (unaryOp op) r)(ha:PE X a ta):PE X (.UnaryOp op a pos) (tUn r ta):=by
 intro pins s σ H Q I h
 exact UnaryOp_ (thn (ha pins s σ H _ I h) fun v s1 ⟨x,H1,I1,r1,q1⟩=>ho pins s1 σ H1 x v Q I1 r1 q1)
theorem opI{f:Value->Value->Sem Value}{C:Int->Int->Prop}{g:Int->Int->Int}
  (rule:∀(i j:Int) (t u:Tok) (s:Shared) (Q:Value->Shared->Prop) (E:Value->Shared->Prop),C i j->Q (.int (g i j) s.toks) {s with toks:=s.toks+1}->wpAny (model X.prog X.w) X.A (f (.int i t) (.int j u)) Q E s) :
  OpR X f (rI C fun i j=>.int (g i j)):=by
 intro pins s σ H x y v u Q I rx ry h
 obtain⟨i,j,rfl,rfl,hc,q⟩:=h
 obtain⟨t,rfl⟩:=rx
 obtain⟨t',rfl⟩:=ry
 exact rule i j t t' s _ _ hc ⟨.int (g i j),H,I.tok _,⟨_,rfl⟩,q⟩
theorem opI0{f:Value->Value->Sem Value}{g:Int->Int->Int}
  (rule:∀(i j:Int) (t u:Tok) (s:Shared) (Q:Value->Shared->Prop) (E:Value->Shared->Prop),Q (.int (g i j) s.toks) {s with toks:=s.toks+1}->wpAny (model X.prog X.w) X.A (f (.int i t) (.int j u)) Q E s) :
  OpR X f (rI0 fun i j=>.int (g i j)):=by
 intro pins s σ H x y v u Q I rx ry h
 obtain⟨i,j,rfl,rfl,q⟩:=h
 obtain⟨t,rfl⟩:=rx
 obtain⟨t',rfl⟩:=ry
 exact rule i j t t' s _ _ ⟨.int (g i j),H,I.tok _,⟨_,rfl⟩,q⟩
theorem opB0{f:Value->Value->Sem Value}{g:Int->Int->Bool}
  (rule:∀(i j:Int) (t u:Tok) (s:Shared) (Q:Value->Shared->Prop) (E:Value->Shared->Prop),Q (.bool (g i j)) s->wpAny (model X.prog X.w) X.A (f (.int i t) (.int j u)) Q E s) :
  OpR X f (rI0 fun i j=>.bl (g i j)):=by
 intro pins s σ H x y v u Q I rx ry h
 obtain⟨i,j,rfl,rfl,q⟩:=h
 obtain⟨t,rfl⟩:=rx
 obtain⟨t',rfl⟩:=ry
 exact rule i j t t' s _ _ ⟨.bl (g i j),H,I,rfl,q⟩
noncomputable def CDiv(i j:Int):Prop:=0<j/\j<1073741824
noncomputable def CPow(i j:Int):Prop:=0<=j/\j<=1000000/\i.natAbs<2^64
noncomputable def CMul(i j:Int):Prop:=(-(2^64)<i/\i<2^64)\/(-(2^64)<j/\j<2^64)
theorem CMul.ok{i j:Int}(h:CMul i j):IntMulOk i j:=by
 rcases h with ⟨h1,h2⟩|⟨h1,h2⟩
 .exact .of_left (intBits_le_64 h1 h2)
 .exact .of_right (intBits_le_64 h1 h2)
theorem op_add:OpR X (binaryOp .Add) (rI0 fun i j=>.int (i+j)):=opI0 fun _ _ _ _ _ _ _ q=>add_int q
theorem op_sub:OpR X (binaryOp .Sub) (rI0 fun i j=>.int (i-j)):=opI0 fun _ _ _ _ _ _ _ q=>sub_int q
theorem op_mul:OpR X (binaryOp .Mult) (rI CMul fun i j=>.int (i*j)):=opI fun _ _ _ _ _ _ _ hc q=>mul_int q hc.ok
theorem op_fdiv:OpR X (binaryOp .FloorDiv) (rI CDiv fun i j=>.int (i/j)):=opI fun i j _ _ _ _ _ hc q=>by
 have h1:(0:Int)<j:=hc.1
 have h2:j<1073741824:=hc.2
 exact floordiv_int (by omega) (by rw[Int.fdiv_eq_ediv_of_nonneg i (by omega)];exact q) (.inl (PyProof.noPylong_small (by omega)))
theorem op_mod:OpR X (binaryOp .Mod) (rI (fun _ j=>0<j) fun i j=>.int (i % j)):=opI fun i j _ _ _ _ _ hc q=>by
 have h1:(0:Int)<j:=hc
 exact mod_int' (by omega) (by rw[Int.fmod_eq_emod_of_nonneg i (by omega)];exact q)
theorem op_pow:OpR X (binaryOp .Pow) (rI CPow fun i j=>.int (i^j.toNat)):=opI fun _ _ _ _ _ _ _ hc q=>pow_int_small hc.1 hc.2.1 hc.2.2 q
theorem unI{f:Value->Sem Value}{g:Int->Int}
  (rule:∀(i:Int) (t:Tok) (s:Shared) (Q:Value->Shared->Prop) (E:Value->Shared->Prop),Q (.int (g i) s.toks) {s with toks:=s.toks+1}->wpAny (model X.prog X.w) X.A (f (.int i t)) Q E s) :
  UnR X f (rU fun i=>.int (g i)):=by
 intro pins s σ H x v Q I rx h
 obtain⟨i,rfl,q⟩:=h
 obtain⟨t,rfl⟩:=rx
 exact rule i t s _ _ ⟨.int (g i),H,I.tok _,⟨_,rfl⟩,q⟩
theorem un_neg:UnR X (unaryOp .USub) (rU fun i=>.int (-i)):=unI fun _ _ _ _ _ q=>neg_int q
end
noncomputable def scal:V->V->Bool
 | .non,.non=>true|.non,.int _=>true|.int _,.non=>true|.non,.bl _=>true|.bl _,.non=>true|.non,.str _=>true|.str _,.non=>true
 | .int _,.int _=>true|.bl _,.bl _=>true|.str _,.str _=>true|.byt _,.byt _=>true
 | .int _,.str _=>true|.str _,.int _=>true|.bl _,.str _=>true|.str _,.bl _=>true
 | _,_=>false
noncomputable def rEq:R2:=fun x y H Q=>scal x y=true/\Q (.bl (decide (x=y))) H
noncomputable def rNe:R2:=fun x y H Q=>scal x y=true/\Q (.bl (!decide (x=y))) H
theorem dec_int{i j:Int}:decide (V.int i=V.int j)=(i==j):=by
 rw[Bool.eq_iff_iff]
 simp
theorem dec_bl{i j:Bool}:decide (V.bl i=V.bl j)=(i==j):=by
 rw[Bool.eq_iff_iff]
 simp
theorem dec_str{i j:Str}:decide (V.str i=V.str j)=(i==j):=by
 rw[Bool.eq_iff_iff]
 simp
theorem dec_byt{i j:Array UInt8}:decide (V.byt i=V.byt j)=(i.toList==j.toList):=by
 rw[Bool.eq_iff_iff]
 cases i
 cases j
 simp
section
variable{X:Cx}{a b c:Expr}{ta tb tc:TE}{pos:Pos}
theorem fin_bl{pins:List (Addr×Obj)}{σ:St}{H:Hp}{s:Shared}{Q:VK}{k k':Bool}(I:Inv X pins σ H s)(q:Q (.bl k) H)(e:k=k'):EP X pins σ Q (.bool k') s:=by
 subst e
 exact⟨.bl k,H,I,rfl,q⟩
theorem op_eq:OpR X (compareOp .Eq) rEq:=by
 intro pins s σ H x y v u Q I rx ry h
 obtain⟨hs,q⟩:=h
 cases x with
 | non=>
  cases rx
  cases y with
  | non=>cases ry;exact PySem.EqNone.eq_none_none (fin_bl I q (by simp))
  | bl j=>cases ry;exact PySem.EqNone.eq_none_bool (fin_bl I q (by simp))
  | int j=>obtain⟨t',rfl⟩:=ry;exact PySem.EqNone.eq_none_int (fin_bl I q (by simp))
  | str j=>obtain⟨t',rfl⟩:=ry;exact PySem.EqNone.eq_none_str (fin_bl I q (by simp))
  | _=>exact absurd (show false=true from hs) Bool.false_ne_true
 | bl i=>
  cases rx
  cases y with
  | non=>cases ry;exact PySem.EqNone.eq_bool_none (fin_bl I q (by simp))
  | bl j=>cases ry;exact eq_bool (fin_bl I q dec_bl)
  | str j=>obtain⟨t',rfl⟩:=ry;exact PySem.EqMixed.eq_bool_str (fin_bl I q (by simp))
  | _=>exact absurd (show false=true from hs) Bool.false_ne_true
 | int i=>
  obtain⟨t,rfl⟩:=rx
  cases y with
  | non=>cases ry;exact PySem.EqNone.eq_int_none (fin_bl I q (by simp))
  | int j=>obtain⟨t',rfl⟩:=ry;exact eq_int (fin_bl I q dec_int)
  | str j=>obtain⟨t',rfl⟩:=ry;exact PySem.EqMixed.eq_int_str (fin_bl I q (by simp))
  | _=>exact absurd (show false=true from hs) Bool.false_ne_true
 | str i=>
  obtain⟨t,rfl⟩:=rx
  cases y with
  | non=>cases ry;exact PySem.EqNone.eq_str_none (fin_bl I q (by simp))
  | bl j=>cases ry;exact PySem.EqMixed.eq_str_bool (fin_bl I q (by simp))
  | int j=>obtain⟨t',rfl⟩:=ry;exact PySem.EqMixed.eq_str_int (fin_bl I q (by simp))
  | str j=>obtain⟨t',rfl⟩:=ry;exact eq_str (fin_bl I q dec_str)
  | _=>exact absurd (show false=true from hs) Bool.false_ne_true
 | byt i=>
  obtain⟨t,rfl⟩:=rx
  cases y with
  | byt j=>obtain⟨t',rfl⟩:=ry;exact PySem.W.eq_bytes (fin_bl I q dec_byt)
  | _=>exact absurd (show false=true from hs) Bool.false_ne_true
 | _=>cases y<;>exact absurd (show false=true from hs) Bool.false_ne_true
theorem op_ne:OpR X (compareOp .NotEq) rNe:=by
 intro pins s σ H x y v u Q I rx ry h
 obtain⟨hs,q⟩:=h
 cases x with
 | non=>
  cases rx
  cases y with
  | non=>cases ry;exact PySem.EqNone.ne_none_none (fin_bl I q (by simp))
  | bl j=>cases ry;exact PySem.EqNone.ne_none_bool (fin_bl I q (by simp))
  | int j=>obtain⟨t',rfl⟩:=ry;exact PySem.EqNone.ne_none_int (fin_bl I q (by simp))
  | str j=>obtain⟨t',rfl⟩:=ry;exact PySem.EqNone.ne_none_str (fin_bl I q (by simp))
  | _=>exact absurd (show false=true from hs) Bool.false_ne_true
 | bl i=>
  cases rx
  cases y with
  | non=>cases ry;exact PySem.EqNone.ne_bool_none (fin_bl I q (by simp))
  | bl j=>cases ry;exact ne_bool (fin_bl I q (congrArg not dec_bl))
  | str j=>obtain⟨t',rfl⟩:=ry;exact PySem.EqMixed.ne_bool_str (fin_bl I q (by simp))
  | _=>exact absurd (show false=true from hs) Bool.false_ne_true
 | int i=>
  obtain⟨t,rfl⟩:=rx
  cases y with
  | non=>cases ry;exact PySem.EqNone.ne_int_none (fin_bl I q (by simp))
  | int j=>obtain⟨t',rfl⟩:=ry;exact ne_int (fin_bl I q (congrArg not dec_int))
  | str j=>obtain⟨t',rfl⟩:=ry;exact PySem.EqMixed.ne_int_str (fin_bl I q (by simp))
  | _=>exact absurd (show false=true from hs) Bool.false_ne_true
 | str i=>
  obtain⟨t,rfl⟩:=rx
  cases y with
  | non=>cases ry;exact PySem.EqNone.ne_str_none (fin_bl I q (by simp))
  | bl j=>cases ry;exact PySem.EqMixed.ne_str_bool (fin_bl I q (by simp))
  | int j=>obtain⟨t',rfl⟩:=ry;exact PySem.EqMixed.ne_str_int (fin_bl I q (by simp))
  | str j=>obtain⟨t',rfl⟩:=ry;exact ne_str (fin_bl I q (congrArg not dec_str))
  | _=>exact absurd (show false=true from hs) Bool.false_ne_true
 | byt i=>
  obtain⟨t,rfl⟩:=rx
  cases y with
  | byt j=>obtain⟨t',rfl⟩:=ry;exact PySem.W.ne_bytes (fin_bl I q (congrArg not dec_byt))
  | _=>exact absurd (show false=true from hs) Bool.false_ne_true
 | _=>cases y<;>exact absurd (show false=true from hs) Bool.false_ne_true
theorem op_lt:OpR X (compareOp .Lt) (rI0 fun i j=>.bl (decide (i<j))):=opB0 fun _ _ _ _ _ _ _ q=>lt_int q
theorem op_le:OpR X (compareOp .LtE) (rI0 fun i j=>.bl (decide (i<=j))):=opB0 fun _ _ _ _ _ _ _ q=>le_int q
theorem op_ge:OpR X (compareOp .GtE) (rI0 fun i j=>.bl (decide (j<=i))):=opB0 fun _ _ _ _ _ _ _ q=>ge_int q
theorem op_isN:OpR X (compareOp .Is) (fun x y H Q=>y=.non/\Q (.bl (decide (x=.non))) H):=by
 intro pins s σ H x y v u Q I rx ry h
 obtain⟨rfl,q⟩:=h
 cases ry
 refine is_none_gen (fin_bl I q ?_)
 cases x<;>first
  | (cases rx;rfl)
  | (obtain⟨t,rfl⟩:=rx;rfl)
theorem nomark(b:Expr){op:CmpOp}(h:op≠.In:=by decide)(h2:op≠.NotIn:=by decide):behindInMarks op b=false:=by
 have e1:(op==CmpOp.In)=false:=by cases op<;>first|rfl|exact absurd rfl h
 have e2:(op==CmpOp.NotIn)=false:=by cases op<;>first|rfl|exact absurd rfl h2
 cases b<;>simp[behindInMarks,e1,e2]
theorem pe_cmpR{op:CmpOp}{r:R2}(ho:OpR X (compareOp op) r)(ha:PE X a ta)(hb:PE X b tb)(hm:behindInMarks op b=false):PE X (.Compare a [op] [b] pos) (tOp r ta tb):=by
 intro pins s σ H Q I h
 exact wpAny_Compare1 (binT ha hb I h fun v u s2 x y H2 I2 rx ry q=>ho pins s2 σ H2 x y v u Q I2 rx ry q) hm
noncomputable def tTest(t:TE):TT:=fun σ H Q=>t σ H fun x H'=>∃k,x=.bl k/\Q k H'
theorem pt_cmpR{op:CmpOp}{r:R2}(ho:OpR X (compareOp op) r)(ha:PE X a ta)(hb:PE X b tb)(hm:behindInMarks op b=false):PT X (.Compare a [op] [b] pos) (tTest (tOp r ta tb)):=by
 intro pins s σ H Q I h
 refine wpAny_isTrue_Compare1 (thn (ha pins s σ H _ I h) fun v s1 ⟨x,H1,I1,r1,q1⟩=>thn (hb pins s1 σ H1 _ I1 q1) fun u s2 ⟨y,H2,I2,r2,q2⟩=>
  thn (ho pins s2 σ H2 x y v u _ I2 r1 r2 q2) fun c s3 ⟨z,H3,I3,r3,k,e,q3⟩=>?_) hm
 subst e
 cases r3
 exact wpAny_truthy_bool ⟨H3,I3,q3⟩
noncomputable def tChain(r r':R2)(ta tb tc:TE):TE:=fun σ H Q=>ta σ H fun x H1=>tb σ H1 fun y H2=>r x y H2 fun z H3=>∃k,z=.bl k/\
 (if k=true then tc σ H3 fun w' H4=>r' y w' H4 Q else Q (.bl false) H3)
theorem pe_chain{op op':CmpOp}{r r':R2}(ho:OpR X (compareOp op) r)(ho':OpR X (compareOp op') r')(ha:PE X a ta)(hb:PE X b tb)(hc:PE X c tc)
  (hm:lastMarks [op,op'] [b,c]=false:=by with_unfolding_all rfl):PE X (.Compare a [op,op'] [b,c] pos) (tChain r r' ta tb tc):=by
 intro pins s σ H Q I h
 refine Compare_chain (thn (ha pins s σ H _ I h) fun v s1 ⟨x,H1,I1,r1,q1⟩=>chain_link (thn (hb pins s1 σ H1 _ I1 q1) fun u s2 ⟨y,H2,I2,r2,q2⟩=>
  thn (ho pins s2 σ H2 x y v u _ I2 r1 r2 q2) fun d s3 ⟨z,H3,I3,r3,k,e,q3⟩=>?_)) hm
 subst e
 cases r3
 refine wpAny_truthy_bool ?_
 cases k with
 | false=>exact ite_ff ⟨.bl false,H3,I3,rfl,q3⟩
 | true=>exact ite_tt (chain_last (thn (hc pins s3 σ H3 _ I3 q3) fun w' s4 ⟨z',H4,I4,r4,q4⟩=>ho' pins s4 σ H4 y z' u w' Q I4 r2 r4 q4))
theorem pt_chain{op op':CmpOp}{r r':R2}(ho:OpR X (compareOp op) r)(ho':OpR X (compareOp op') r')(ha:PE X a ta)(hb:PE X b tb)(hc:PE X c tc)
  (hm:lastMarks [op,op'] [b,c]=false:=by with_unfolding_all rfl):PT X (.Compare a [op,op'] [b,c] pos) (tTest (tChain r r' ta tb tc)):=by
 intro pins s σ H Q I h
 refine isTrue_chain (thn (ha pins s σ H _ I h) fun v s1 ⟨x,H1,I1,r1,q1⟩=>test_link (thn (hb pins s1 σ H1 _ I1 q1) fun u s2 ⟨y,H2,I2,r2,q2⟩=>
  thn (ho pins s2 σ H2 x y v u _ I2 r1 r2 q2) fun d s3 ⟨z,H3,I3,r3,k,e,q3⟩=>?_)) hm
 subst e
 cases r3
 refine wpAny_truthy_bool ?_
 cases k with
 | false=>
  obtain⟨k',e',q'⟩:=q3
  cases e'
  exact ite_ff ⟨H3,I3,q'⟩
 | true=>
  refine ite_tt (test_last (thn (hc pins s3 σ H3 _ I3 q3) fun w' s4 ⟨z',H4,I4,r4,q4⟩=>thn (ho' pins s4 σ H4 y z' u w' _ I4 r2 r4 q4) fun d' s5 ⟨z2,H5,I5,r5,k2,e2,q5⟩=>?_))
  subst e2
  cases r5
  exact wpAny_truthy_bool ⟨H5,I5,q5⟩
noncomputable def TruV(K:PySem.W.Frag)(x:V)(H:Hp)(k:Bool):Prop:=
 match x with
 | .non=>k=false
 | .bl b=>k=b
 | .int i=>k=(i != 0)
 | .str y=>y.length<=sizeLine/\k=((y.length:Int) != 0)
 | .byt y=>y.size<=sizeLine/\k=((y.size:Int) != 0)
 | .ref p=>(∃xs,SqL K H p xs/\k = !xs.isEmpty)\/(∃xs,SqT K H p xs/\k = !xs.isEmpty)\/∃kvs,H p=some (.dK kvs)/\k = !kvs.isEmpty
 | _=>False
theorem isEmpty_kv{κ:Type}{kvs:List (κ×V)}{vs:List (κ×Value)}(r:KV kvs vs):(!vs.isEmpty) = !kvs.isEmpty:=by
 cases r<;>rfl
theorem isEmpty_of{xs:List V}{its:List Value}(r:Vals xs its):(!its.toArray.isEmpty) = !xs.isEmpty:=by
 cases r<;>simp
theorem line63:(sizeLine:Nat)<2^63:=by rw[sizeLine_eq];decide
theorem tru_ok:TruR X (fun x H Q=>∃k,TruV X.K x H k/\Q k H):=by
 intro pins s σ H x v Q I rx h
 obtain⟨k,e,q⟩:=h
 have hl:=line63
 have hs:sizeLine=16777216:=sizeLine_eq
 cases x with
 | non=>
  cases rx
  have e':k=false:=e
  subst e'
  exact truthy_none ⟨H,I,q⟩
 | bl b=>
  cases rx
  have e':k=b:=e
  subst e'
  exact wpAny_truthy_bool ⟨H,I,q⟩
 | int i=>
  obtain⟨t,rfl⟩:=rx
  have e':k=(i != 0):=e
  subst e'
  exact PySem.P.truthy_int ⟨H,I,q⟩
 | str y=>
  obtain⟨t,rfl⟩:=rx
  obtain⟨hy,e'⟩:y.length<=sizeLine/\k=((y.length:Int) != 0):=e
  subst e'
  exact PySem.P.truthy_str (by omega) ⟨H,I.tok _,q⟩
 | byt y=>
  obtain⟨t,rfl⟩:=rx
  obtain⟨hy,e'⟩:y.size<=sizeLine/\k=((y.size:Int) != 0):=e
  subst e'
  exact PySem.W.truthy_bytes (by omega) ⟨H,I.tok _,q⟩
 | ref p=>
  cases rx
  have e':(∃xs,SqL X.K H p xs/\k = !xs.isEmpty)\/(∃xs,SqT X.K H p xs/\k = !xs.isEmpty)\/∃kvs,H p=some (.dK kvs)/\k = !kvs.isEmpty:=e
  rcases e' with ⟨xs,hx,e'⟩|⟨xs,hx,e'⟩|⟨kvs,hx,e'⟩
  .subst e'
   obtain⟨its,r,pl,hz⟩:=I.list hx
   have hlen:=r.length
   exact wpAny_truthy_list pl.isList (by simp only[List.size_toArray];omega) ⟨H,I.tok _,by rw[isEmpty_of r];exact q⟩
  .subst e'
   obtain⟨its,r,pl,hz⟩:=I.tuple hx
   have hlen:=r.length
   exact truthy_tuple pl (by simp only[List.size_toArray];omega) ⟨H,I.tok _,by rw[isEmpty_of r];exact q⟩
  .subst e'
   obtain⟨hz,hS,vs,r,m⟩:kvs.length<=sizeLine/\(p==sysModules)=false/\∃vs,KV kvs vs/\s.heap.DictOf (mixKind X.prog X.w) p vs:=I.hok p _ hx
   have hlen:kvs.length=vs.length:=Paired.length r
   exact wpAny_truthy_dict hS m (by omega) ⟨H,I.tok _,by rw[isEmpty_kv r];exact q⟩
 | _=>exact(show False from e).elim
theorem pt_truth(ha:PE X a ta)(he:∀whole,isTrue a X.env whole=(do let v <-whole;standAt a.pos;holding [v] (truthy v))) :
  PT X a (fun σ H Q=>ta σ H fun x H'=>∃k,TruV X.K x H' k/\Q k H'):=by
 intro pins s σ H Q I h
 exact isTrue_plain (thn (ha pins s σ H _ I h) fun v s1 ⟨x,H1,I1,r1,q1⟩=>tru_ok pins s1 σ H1 x v Q I1 r1 q1) (he _)
theorem vals1{x:V}{us:List Value}(r:Vals [x] us):∃u,us=[u]/\RelV x u:=by
 cases r with
 | cons r1 r2=>cases r2;exact⟨_,rfl,r1⟩
theorem vals2{x y:V}{us:List Value}(r:Vals [x,y] us):∃u w',us=[u,w']/\RelV x u/\RelV y w':=by
 cases r with
 | cons r1 r2=>
  cases r2 with
  | cons r3 r4=>cases r4;exact⟨_,_,rfl,r1,r3⟩
end
end L2
namespace L2
open PySem PySem.Spec PyProof.Rows
structure ObjM(h:Heap)(x dx C:Addr)(mA:Str->Option Value):Prop where
 obj:h.get? x=some (PySem.W.instObj C dx)
 ns:h.Ns1 dx mA
 ne:dx≠x
theorem lookIn_ns{h:Heap}{dx:Addr}{mA:Str->Option Value}(n:h.Ns1 dx mA):∃od,h.get? dx=some od/\∀name,PySem.W.lookIn name od=some (mA name):=by
 obtain⟨o,es,ep,ho,hd,hk,_,hm⟩:=n
 refine⟨o,ho,fun name=>?_⟩
 have e:=hm name
 unfold nsFind findBy at e
 rw[<-Array.find?_toList]at e
 unfold PySem.W.lookIn
 rw[hd]
 dsimp only
 split
 .rename_i y q
  rw[q]at e
  exact congrArg some e
 .rename_i q
  rw[q]at e
  have a:es.toList.any (·.refKey)=false:=by
   rw[List.any_eq_false]
   intro y hy
   obtain⟨z,t,hkey⟩:=hk y (Array.mem_toList_iff.mp hy)
   simp[DictEntry.refKey,hkey]
  have a':¬es.toList.any (·.refKey)=true:=by rw[a];exact Bool.false_ne_true
  rw[if_neg a']
  exact congrArg some e
theorem ObjM.look{h:Heap}{x dx C:Addr}{mA:Str->Option Value}(I:ObjM h x dx C mA):∃od,PySem.W.InstAt h x (PySem.W.instObj C dx) C (some od)/\∀name,PySem.W.lookIn name od=some (mA name):=
 let ⟨od,ho,hl⟩:=lookIn_ns I.ns
 ⟨od,⟨I.obj,rfl,rfl,ho⟩,hl⟩
theorem RelO.some_of{v:V}{o:Option Value}(r:RelO (some v) o):∃u,o=some u/\RelV v u:=by
 cases o with
 | none=>exact(show False from r).elim
 | some u=>exact⟨u,rfl,r⟩
section
variable{P:Program}{w:World}{H H':Hp}{h h':Heap}{a C dx:Addr}{fs fs':List (Str×V)}
theorem ins_get(hok:HOk P w H h)(e:H a=some (.ins C dx fs)):∃mA,ObjM h a dx C mA/\(∀f,RelO (fs.lookup f) (mA f))/\PySem.Within mA (fs.map (·.1))/\fs.length<=1000/\H dx=some (.own a):=by
 obtain⟨d,z,ne,ob,mA,n,r,q⟩:=(show ObjOk P w H h a (.ins C dx fs)from hok a _ e)
 exact⟨mA,⟨ob,n,ne⟩,r,q,z,d⟩
end
structure Cls(K:PySem.W.Frag)(C:Addr):Prop where
 pg:PySem.W.plainGet K C Str.empty=true
 hd:PySem.W.hasDictIn K C=true
 po:PySem.W.plainOver K C=true
 sa:PySem.W.findIn K (.ref C) "__setattr__" = some (some (.builtin "object.__setattr__"))
theorem Cls.get{K:PySem.W.Frag}{C:Addr}(c:Cls K C)(f:Str):PySem.W.plainGet K C f=true:=c.pg
section
variable{X:Cx}{pins:List (Addr×Obj)}{σ:St}{H:Hp}{s:Shared}{A:Around}{E:Value->Shared->Prop}{Q:Value->Shared->Prop}{c:Value}{b:Bool}
inductive TyOf(K:PySem.W.Frag)(H:Hp):V->Value->Prop where
 | non:TyOf K H .non (.type "NoneType")
 | bl (x:Bool):TyOf K H (.bl x) (.type "bool")
 | int (i:Int):TyOf K H (.int i) (.type "int")
 | str (x:Str):TyOf K H (.str x) (.type "str")
 | flt (x:UInt64):TyOf K H (.flt x) (.type "float")
 | lst {a:Addr} {xs:List V} (e:H a=some (.lst xs)):TyOf K H (.ref a) (.type "list")
 | frz {a:Addr} {o:Obj} {xs:List V} (e:H a=some (.frz o (.lst xs))):TyOf K H (.ref a) (.type "list")
 | tup {a:Addr} {xs:List V} (e:H a=some (.tup xs)):TyOf K H (.ref a) (.type "tuple")
 | dK {a:Addr} {kvs:List (Key×V)} (e:H a=some (.dK kvs)):TyOf K H (.ref a) (.type "dict")
 | dT {a:Addr} {kvs:List (List Key×V)} (e:H a=some (.dT kvs)):TyOf K H (.ref a) (.type "dict")
 | ins {a C dx:Addr} {fs:List (Str×V)} (e:H a=some (.ins C dx fs)) (cl:Cls K C) (ha:PySem.W.findIn K (.ref C) "__class__" = some (some (.builtin "object.__class__")))
   (hn:PySem.W.specialIn K (.builtin "object.__class__") "__get__" = some (some (.builtin "getset_descriptor.__get__"))) (htk:PySem.W.takesIn K (.builtin "object.__class__")=some true)
   (hm:PySem.W.mroIn K C (.type "object")=some true):TyOf K H (.ref a) (.ref C)
theorem isinst_ok{x:V}{u t:Value}(I:Inv X pins σ H s)(rx:RelV x u)(ty:TyOf X.K H x t)(e:PySem.W.kitOne X.K t c=some b)(h:∀tk,Q (.bool b) {s with toks:=tk}) :
  wpAny (model X.prog X.w) A (call (.builtin "isinstance") [u,c]) Q E s:=by
 cases ty with
 | non=>cases (show u=Value.none from rx);exact PySem.W.kia_one PySem.W.kitx_none I.kIn True.intro e (fun z=>nomatch z) h
 | bl y=>cases (show u=Value.bool y from rx);exact PySem.W.kia_one PySem.W.kitx_bool I.kIn True.intro e (fun z=>nomatch z) h
 | int i=>obtain⟨t,q⟩:=(show ∃t,u=Value.int i t from rx);cases q;exact PySem.W.kia_one PySem.W.kitx_int I.kIn True.intro e (fun z=>nomatch z) h
 | str y=>obtain⟨t,q⟩:=(show ∃t,u=Value.str y t from rx);cases q;exact PySem.W.kia_one PySem.W.kitx_str I.kIn True.intro e (fun z=>nomatch z) h
 | flt y=>obtain⟨t,q⟩:=(show ∃t,u=Value.float y t from rx);cases q;exact PySem.W.kia_one PySem.W.kitx_float I.kIn True.intro e (fun z=>nomatch z) h
 | @lst a xs ea=>
  cases (show u=Value.ref a from rx)
  obtain⟨_,_,n,_,h1⟩:=(show ObjOk X.prog X.w H s.heap a (.lst xs)from I.hok a _ ea)
  exact PySem.W.kia_one PySem.W.kitx_list I.kIn ⟨_,h1,rfl⟩ e (fun z=>nomatch z) h
 | @frz a ob xs ea=>
  cases (show u=Value.ref a from rx)
  obtain⟨_,_,_,n,_,h1⟩:=(show ObjOk X.prog X.w H s.heap a (.frz ob (.lst xs))from I.hok a _ ea)
  exact PySem.W.kia_one PySem.W.kitx_list I.kIn ⟨_,h1,rfl⟩ e (fun z=>nomatch z) h
 | @tup a xs ea=>
  cases (show u=Value.ref a from rx)
  obtain⟨_,_,_,p⟩:=(show ObjOk X.prog X.w H s.heap a (.tup xs)from I.hok a _ ea)
  obtain⟨o,h1,h2,_⟩:=p
  exact PySem.W.kia_one PySem.W.kitx_tuple I.kIn ⟨o,h1,h2⟩ e (fun z=>nomatch z) h
 | @dK a kvs ea=>
  cases (show u=Value.ref a from rx)
  obtain⟨_,_,vs,_,p⟩:=(show ObjOk X.prog X.w H s.heap a (.dK kvs)from I.hok a _ ea)
  obtain⟨o,es,ep,h1,h2,_⟩:=p
  exact PySem.W.kia_one PySem.W.kitx_dict I.kIn ⟨o,h1,h2.1⟩ e (fun z=>nomatch z) h
 | @dT a kvs ea=>
  cases (show u=Value.ref a from rx)
  obtain⟨_,_,xs,_,o,es,ep,h1,h2,_⟩:=(show ObjOk X.prog X.w H s.heap a (.dT kvs)from I.hok a _ ea)
  exact PySem.W.kia_one PySem.W.kitx_dict I.kIn ⟨o,h1,h2.1⟩ e (fun z=>nomatch z) h
 | @ins a C dx fs ea cl ha hn htk hm=>
  cases (show u=Value.ref a from rx)
  obtain⟨mA,O,_⟩:=ins_get I.hok ea
  obtain⟨od,J,_⟩:=O.look
  exact PySem.W.kia_one (PySem.W.kitx_own (cl.get _) cl.hd ha hn htk hm) I.kIn J e (fun z=>nomatch z) h
end
end L2
namespace L2
open PySem PySem.Spec PyProof.Rows
structure Room(k:Nat)(A:Around):Prop where
 hd:A.handled=none
 dp:A.depth+3*k+5<recursionLimit
 un:A.units+16*k+200<cLine
theorem Room.mono{j k:Nat}{A:Around}(r:Room k A)(h:j<=k):Room j A:=⟨r.hd,by have:=r.dp;omega,by have:=r.un;omega⟩
theorem Room.deeper{k:Nat}{A:Around}(r:Room (k+1) A)(env:Env):Room k (A.deeper env):=
 ⟨r.hd,by have:=r.dp;show A.depth+1+3*k+5<_;omega,by have:=r.un;show A.units+3+16*k+200<_;omega⟩
theorem Room.depth{k:Nat}{A:Around}(r:Room k A):A.depth<recursionLimit:=by have:=r.dp;omega
theorem Room.units{k:Nat}{A:Around}(r:Room k A):A.units+64<cLine:=by have:=r.un;omega
noncomputable def tNil:TA:=fun _ H Q=>Q [] H
noncomputable def tCons(ta:TE)(tr:TA):TA:=fun σ H Q=>ta σ H fun x H1=>tr σ H1 fun xs H2=>Q (x::xs) H2
section
variable{X:Cx}{e:Expr}{es:List Expr}{te:TE}{t:TA}{pos:Pos}
theorem pa_nil:PA X [] tNil:=fun _ _ _ _ H Q I h=>Calls.spliced_nil ⟨[],H,I,.nil,h⟩
theorem pa_cons(ha:PE X e te)(hr:PA X es t)(hs:starEach (e::es) X.env=(false,eval e X.env)::starEach es X.env:=by rfl):PA X (e::es) (tCons te t):=by
 intro pos pins s σ H Q I h
 rw[hs]
 show wpAny _ _ (spliced ((false,eval e X.env)::backTo pos (starEach es X.env))) _ _ s
 refine Calls.spliced_cons (thn (ha pins s σ H _ I h) fun u s1 ⟨x,H1,I1,r1,q1⟩=>?_)
 exact thn (hr pos pins s1 σ H1 _ I1 q1) fun us s2 ⟨xs,H2,I2,r2,q2⟩=>⟨x::xs,H2,I2,.cons r1 r2,q2⟩
noncomputable def tTup(t:TA):TE:=fun σ H Q=>t σ H fun xs H1=>xs.length<=sizeLine/\∀p,H1 p=none->Q (.ref p) (upd H1 p (.tup xs))
noncomputable def tLst(t:TA):TE:=fun σ H Q=>t σ H fun xs H1=>xs.length<=sizeLine/\∀p,H1 p=none->Q (.ref p) (upd H1 p (.lst xs))
theorem pe_tup{x1}(h:PA X es t):PE X (.Tuple es x1 pos) (tTup t):=by
 intro pins s σ H Q I hq
 refine wpAny_Tuple_spliced (thn (h pos pins s σ H _ I hq) fun us s1 ⟨xs,H1,I1,r,z,q⟩=>⟨by rw[<-r.length];exact z,?_⟩)
 have hf:H1 s1.heap.objs.size=none:=I1.hok.fresh (Nat.le_refl _)
 refine⟨.ref s1.heap.objs.size,upd H1 s1.heap.objs.size (.tup xs),I1.laid (t':=s1.toks) (fun b u e=>Heap.get?_push_of_some _ e) (Nat.le_refl _) ?_,rfl,q _ hf⟩
 exact⟨z,us,r,⟨_,Heap.get?_push_size _ rfl,rfl,_,rfl⟩⟩
theorem pe_lst(h:PA X es t):PE X (.List es pos) (tLst t):=by
 intro pins s σ H Q I hq
 refine wpAny_List_spliced (thn (h pos pins s σ H _ I hq) fun us s1 ⟨xs,H1,I1,r,z,q⟩=>⟨by rw[<-r.length];exact z,?_⟩)
 have hf:H1 s1.heap.objs.size=none:=I1.hok.fresh (Nat.le_refl _)
 refine⟨.ref s1.heap.objs.size,upd H1 s1.heap.objs.size (.lst xs),I1.laid (t':=s1.toks) (fun b u e=>Heap.get?_push_of_some _ e) (Nat.le_refl _) ?_,rfl,q _ hf⟩
 exact⟨z,us,0,r,Heap.get?_push_size _ rfl⟩
end
noncomputable abbrev Sp:=List V->Hp->VK->XK->Prop
noncomputable abbrev CXT:=List Env->Hp->Shared->XK->Value->Shared->Prop
structure Env0(P:Program)(w:World)(K:PySem.W.Frag)(mg:Str->Option Value)(base:Heap)(A:Around)(outer:List Env)(s:Shared)(H:Hp):Prop where
 frames:A.frames=some outer
 mod:Mod K mg base
 bs:∀b o,base.get? b=some o->s.heap.get? b=some o/\H b=none
 bsz:base.objs.size<=s.heap.objs.size
 funs:s.heap.FunFrames base outer
 frf:∀b∈frs outer,H b=none
 hok:HOk P w H s.heap
 bare:AllBare s.gens
noncomputable def CE(outer:List Env)(P:Program)(w:World)(H:Hp)(s:Shared)(Q:VK)(u:Value)(s':Shared):Prop:=
 ∃v H',s'.os=s.os/\AllBare s'.gens/\Un (frs outer) [] H H' s.heap s'.heap/\HOk P w H' s'.heap/\RelV v u/\Q v H'
noncomputable def CR(CX:CXT)(outer:List Env)(P:Program)(w:World)(H:Hp)(s:Shared)(Q:VK)(E:XK)(r:Result)(s':Shared):Prop:=
 match r with
 | .ok (.ret u)=>CE outer P w H s Q u s'
 | .ok _=>False
 | .error e=>CX outer H s E e s'
structure FnOk(P:Program)(w:World)(K:PySem.W.Frag)(mg:Str->Option Value)(base:Heap)(CX:CXT)(k:Nat)(f:Addr)(fd:FuncData)(ps:List Str)(sp:Sp):Prop where
 len:∀vs H Q E,sp vs H Q E->vs.length=ps.length
 run:∀(A:Around) (outer:List Env) (s:Shared) (H:Hp) (args:Args) (us:List Value) (vs:List V) (Q:VK) (E:XK),Room k A->Env0 P w K mg base A outer s H->BindsTo s fd args (ps.zip us)->Vals vs us->sp vs H Q E->
  codeAny (model P w) A (.call (.ref f) args) (CR CX outer P w H s Q E) s
theorem FnOk.mono{P:Program}{w:World}{K:PySem.W.Frag}{mg:Str->Option Value}{base:Heap}{CX:CXT}{j k:Nat}{f:Addr}{fd:FuncData}{ps:List Str}{sp:Sp}(F:FnOk P w K mg base CX j f fd ps sp)(h:j<=k) :
  FnOk P w K mg base CX k f fd ps sp:=⟨F.len,fun A outer s H args us vs Q E hr=>F.run A outer s H args us vs Q E (hr.mono h)⟩
section
variable{X:Cx}{pins:List (Addr×Obj)}{σ:St}{H:Hp}{s s':Shared}
theorem Inv.env0(I:Inv X pins σ H s):Env0 X.prog X.w X.K X.mg X.base X.A X.stack s H:=
 ⟨I.ok.frames,I.ok.mod,I.bs,Nat.le_trans I.ok.bsz I.sz,I.stack,I.stkFree,I.hok,I.bare⟩
theorem Inv.after{Q:VK}{u:Value}(I:Inv X pins σ H s)(h:CE X.stack X.prog X.w H s Q u s'):EP X pins σ Q u s':=by
 obtain⟨v,H',os,bare,un,hok,r,q⟩:=h
 obtain⟨hh,g,d,t,os'⟩:=s'
 obtain rfl:os'=s.os:=os
 exact⟨v,H',I.call (h':=hh) (g':=g) (d':=d) (t':=t) (ch:=[]) un hok bare (fun b z=>absurd z (by simp)),r,q⟩
end
noncomputable def tCall(sp:Sp)(dvs:List V)(E:XK)(t:TA):TE:=fun σ H Q=>t σ H fun vs H1=>sp (vs++dvs) H1 Q E
noncomputable def Binds(K:PySem.W.Frag)(fd:FuncData)(ps:List Str)(ds:List Value):Prop:=
 ∀(s:Shared) (us:List Value),K.In s.heap->(us++ds).length=ps.length->BindsTo s fd ⟨us,[]⟩ (ps.zip (us++ds))
theorem Binds.all{K:PySem.W.Frag}{fd:FuncData}{ps:List Str}(h:∀us:List Value,us.length=ps.length->bindArgs fd ⟨us,[]⟩=pure (ps.zip us)):Binds K fd ps []:=fun s us _ hl=>by
 rw[List.append_nil]at hl⊢
 exact .of_eq (h us hl)
noncomputable def Passes(CX:CXT)(X:Cx)(E:XK):Prop:=∀(pins:List (Addr×Obj)) (σ:St) (H:Hp) (s:Shared) (e:Value) (s':Shared),Inv X pins σ H s->CX X.stack H s E e s'->X.xe e s'
section
variable{X:Cx}{CX:CXT}{k:Nat}{f C:Addr}{fd:FuncData}{ps:List Str}{sp:Sp}{dvs:List V}{ds:List Value}{E:XK}{x m:Str}{p pos apos:Pos}{e o:Expr}{es:List Expr}{ta:TE}{t:TA}
theorem run_fn{pins:List (Addr×Obj)}{σ:St}{H:Hp}{s:Shared}{Q:VK}{us:List Value}{vs:List V}(F:FnOk X.prog X.w X.K X.mg X.base CX k f fd ps sp)(hr:Room k X.A)(hb:Binds X.K fd ps ds)(hd:Vals dvs ds)(hx:Passes CX X E)
  (I:Inv X pins σ H s) (r:Vals vs us) (h:sp (vs++dvs) H Q E):wpAny (model X.prog X.w) X.A (call (.ref f) us) (EP X pins σ Q) X.xe s:=by
 have r2:Vals (vs++dvs) (us++ds):=r.append hd
 have hl:(us++ds).length=ps.length:=by rw[<-r2.length];exact F.len _ _ _ _ h
 refine wpAny_call (codeAny_mono (F.run X.A X.stack s H ⟨us,[]⟩ (us++ds) (vs++dvs) Q E hr I.env0 (hb s us I.kIn hl) r2 h) fun r s' hq=>?_)
 cases r with
 | error e=>exact hx pins σ H s e s' I hq
 | ok fl=>
  cases fl with
  | ret u=>exact I.after hq
  | next=>exact False.elim hq
  | brk=>exact False.elim hq
  | cont=>exact False.elim hq
theorem pe_call(F:FnOk X.prog X.w X.K X.mg X.base CX k f fd ps sp)(hr:Room k X.A)(hg:Gl X x)(hm:X.mg x=some (.ref f))(hk:PySem.W.keepIn X.K (.ref f)=true)(hb:Binds X.K fd ps ds)(hd:Vals dvs ds)(hx:Passes CX X E)
  (ha:PA X (e::es) t) (hdb:(x==("__debug__" : Str))=false:=by decide) (he:starEach (e::es) X.env=(false,eval e X.env)::starEach es X.env:=by rfl) (hpl:(backTo pos (starEach es X.env)).any (·.1)=false:=by rfl) :
  PE X (.Call (.Name x p) (e::es) [] pos) (tCall sp dvs E t):=by
 intro pins s σ H Q I h
 refine wpAny_Call_Name_kw (ld_glob I hg hm ?_ hdb)
 refine PySem.W.callWith_K (h₀:=X.base) I.ok.mod.kin hk (thn (ha pos pins s σ H _ I h) fun us s1 ⟨vs,H1,I1,r,q⟩=>⟨I1.kIn,?_⟩) he hpl
 exact run_fn F hr hb hd hx I1 r q
end
noncomputable def PK(X:Cx)(kws:List Keyword)(t:TA):Prop:=
 ∀(pos:Pos) (pins:List (Addr×Obj)) (s:Shared) (σ:St) (H:Hp) (Q:List V->Hp->Prop),Inv X pins σ H s->t σ H Q->wpAny (model X.prog X.w) X.A (evalAll ((backToKw pos (keywordEach kws X.env)).map (·.2))) (AP X pins σ Q) X.xe s
section
variable{X:Cx}{CX:CXT}{k:Nat}{f C:Addr}{fd:FuncData}{ps ks:List Str}{sp:Sp}{E:XK}{x m:Str}{p pos apos kpos:Pos}{e o:Expr}{es:List Expr}{kws:List Keyword}{te ta:TE}{t tk:TA}{nm:Option Str}
theorem pk_nil:PK X [] tNil:=fun _ _ _ _ H Q I h=>wpAny_evalAll_nil ⟨[],H,I,.nil,h⟩
theorem pk_cons(ha:PE X e te)(hr:PK X kws t):PK X (⟨nm,e,kpos⟩::kws) (tCons te t):=by
 intro pos pins s σ H Q I h
 show wpAny _ _ (evalAll ((do let v <-eval e X.env;standAt pos;pure v)::(backToKw pos (keywordEach kws X.env)).map (·.2))) _ _ s
 refine wpAny_evalAll_cons (wpAny_bind (thn (ha pins s σ H _ I h) fun u s1 ⟨x,H1,I1,r1,q1⟩=>wpAny_bind (wpAny_standAt (wpAny_pure ?_))))
 exact thn (hr pos pins s1 σ H1 _ I1 q1) fun us s2 ⟨xs,H2,I2,r2,q2⟩=>⟨x::xs,H2,I2,.cons r1 r2,q2⟩
variable{g:List Value->List Value->List Value}{gV:List V->List V->List V}
end
structure FnScope(N P:List Str)(sc:Scope):Prop where
 kind:sc.kind=.function
 co:sc.isCoroutine=false
 gen:sc.isGenerator=false
 nd:N.Nodup
 pre:N.take P.length=P
 par:∀x∈P,sc.names.lookup x=some .local\/sc.names.lookup x=some .cell
 nofree:∀y∈sc.names,y.2≠.free
theorem bindL_out{kindOf:Str->Option NameKind}{x:Str}:∀{binds:List (Str×Value)} {m:Str->Option Value},(∀v,(x,v)∉binds)->bindL kindOf binds m x=m x
 | [],_,_=>rfl
 | (n,v)::r,m,h=>by
  unfold bindL
  rw[bindL_out fun w hw=>h w (List.mem_cons_of_mem _ hw)]
  split
  .have:x≠n:=by rintro rfl;exact h v List.mem_cons_self
   simp[this]
  .rfl
theorem bindC_out{kindOf:Str->Option NameKind}{x:Str}:∀{binds:List (Str×Value)} {m:Str->Option Value},(∀v,(x,v)∉binds)->bindC kindOf binds m x=m x
 | [],_,_=>rfl
 | (n,v)::r,m,h=>by
  unfold bindC
  rw[bindC_out fun w hw=>h w (List.mem_cons_of_mem _ hw)]
  split
  .rfl
  .have:x≠n:=by rintro rfl;exact h v List.mem_cons_self
   simp[this]
theorem bindL_get{kindOf:Str->Option NameKind}{x:Str}{v:Value}:∀{P:List Str} {vs:List Value} {i:Nat} {m:Str->Option Value},P.Nodup->P[i]?=some x->vs[i]?=some v->kindOf x=some .local->
  bindL kindOf (P.zip vs) m x=some v
 | [],_,_,_,_,h,_,_=>by simp at h
 | _::_,[],_,_,_,_,h,_=>by simp at h
 | p::P,w::vs,0,m,nd,h1,h2,hk=>by
  simp at h1 h2;subst h1;subst h2
  show bindL kindOf ((p,w)::P.zip vs) m p=_
  unfold bindL
  rw[bindL_out fun v hv=>(List.nodup_cons.mp nd).1 (List.of_mem_zip hv).1,if_pos hk]
  simp
 | p::P,w::vs,i+1,m,nd,h1,h2,hk=>by
  show bindL kindOf ((p,w)::P.zip vs) m x=_
  unfold bindL
  exact bindL_get (i:=i) (List.nodup_cons.mp nd).2 (by simpa using h1) (by simpa using h2) hk
theorem bindC_get{kindOf:Str->Option NameKind}{x:Str}{v:Value}:∀{P:List Str} {vs:List Value} {i:Nat} {m:Str->Option Value},P.Nodup->P[i]?=some x->vs[i]?=some v->kindOf x≠some .local->
  bindC kindOf (P.zip vs) m x=some v
 | [],_,_,_,_,h,_,_=>by simp at h
 | _::_,[],_,_,_,_,h,_=>by simp at h
 | p::P,w::vs,0,m,nd,h1,h2,hk=>by
  simp at h1 h2;subst h1;subst h2
  show bindC kindOf ((p,w)::P.zip vs) m p=_
  unfold bindC
  rw[bindC_out fun v hv=>(List.nodup_cons.mp nd).1 (List.of_mem_zip hv).1,if_neg hk]
  simp
 | p::P,w::vs,i+1,m,nd,h1,h2,hk=>by
  show bindC kindOf ((p,w)::P.zip vs) m x=_
  unfold bindC
  exact bindC_get (i:=i) (List.nodup_cons.mp nd).2 (by simpa using h1) (by simpa using h2) hk
noncomputable def start(N:List Str)(vs:List V):St:=vs.map some++List.replicate (N.length-vs.length) none
noncomputable def cxOf(CX:CXT)(P:Program)(w:World)(K:PySem.W.Frag)(mg:Str->Option Value)(base:Heap)(N:List Str)(qual:Str)(scope:Scope)(f:Addr)(cd:Value)(A:Around)(outer:List Env)(s:Shared)(H:Hp)(E:XK):Cx where
 prog:=P
 w:=w
 K:=K
 mg:=mg
 base:=base
 A:=A.deeper (envOfC qual scope s.heap.objs.size f cd)
 N:=N
 s₀:=s
 H₀:=H
 env:=envOfC qual scope s.heap.objs.size f cd
 outer:=outer
 stack:=envOfC qual scope s.heap.objs.size f cd::outer
 ex:=[]
 calm:=true
 fn:=fun _=>true
 pn:=[]
 xe:=fun e s'=>wpAny (model P w) (A.deeper (envOfC qual scope s.heap.objs.size f cd)) (leaving (envOfC qual scope s.heap.objs.size f cd) e) (fun _ s''=>CX outer H s E e s'') (fun e' s''=>CX outer H s E e' s'') s'
theorem cell_has{sc:Scope}{n:Nat}{x:Str}(h:sc.names.lookup x=some .cell):∃c,(cellsFrom n sc.names []).lookup x=some c:=by
 have q:=PySem.W.cellsFrom_some sc.names n [] (.inl h)
 exact Option.isSome_iff_exists.mp q
theorem inv_start{CX:CXT}{P:Program}{w:World}{K:PySem.W.Frag}{mg:Str->Option Value}{base:Heap}{N ps:List Str}{qual:Str}{scope:Scope}{f:Addr}{cd:Value}{A:Around}{outer:List Env}{s s1:Shared}{H:Hp}{E:XK}{us:List Value}{vs:List V}
  (S:FnScope N ps scope) (hd:A.handled=none) (e0:Env0 P w K mg base A outer s H) (hl:vs.length=ps.length) (r:Vals vs us)
  (x:InCallC s s.heap.objs.size (bindL (envOfC qual scope s.heap.objs.size f cd).kindOf (ps.zip us) fun _=>none) (cellsFrom (s.heap.objs.size+1) scope.names []) (bindC (envOfC qual scope s.heap.objs.size f cd).kindOf (ps.zip us) fun _=>none) s1) :
  Inv (cxOf CX P w K mg base N qual scope f cd A outer s H E) [] (start N vs) H s1:=by
 have hpl:ps.length<=N.length:=by have:=congrArg List.length S.pre;rw[List.length_take]at this;omega
 obtain⟨h1,tk,rfl,hk⟩:=x.done
 have noA:∀b:Addr,b∉(cxOf CX P w K mg base N qual scope f cd A outer s H E).ex:=fun b z=>absurd (show b∈([]:List Addr)from z) (by simp)
 refine⟨⟨e0.mod,S.kind,rfl,rfl,Nat.le_refl _,fun y z c h1 h2=>?_,fun y hy=>?_,fun y c _ h=>?_,fun _=>hd,Around.frames_deeper e0.frames,.inr ⟨rfl,rfl⟩,fun b z=>absurd z (noA b),e0.bs,e0.bsz,fun b _ _=>noA b,fun b z=>absurd z (noA b),e0.funs,e0.frf⟩,
  rfl,e0.bare,Un.kept hk,⟨_,x.toInCall.ns,fun i y v h1 h2 h3=>?_⟩,fun y c h=>⟨_,x.cell y c h⟩,e0.hok.fresh (Nat.le_refl _),fun y c h=>?_,fun p hp=>absurd (show p∈([]:List (Addr×Obj))from hp) (by simp),e0.hok.kept hk,?_⟩
 .exact name_of_addr x.apart (PySem.mem_of_lookup h1) (PySem.mem_of_lookup h2)
 .have hy:scope.names.lookup y=some .cell\/scope.names.lookup y=some .free:=hy
  rcases hy with hy|hy
  .exact cell_has hy
  .exact absurd rfl (S.nofree _ (PySem.mem_of_lookup hy))
 .exact Nat.le_of_lt (x.above y c (PySem.mem_of_lookup h))
 .have hi:i<vs.length:=by
   unfold start at h2
   by_cases hi:i<vs.length
   .exact hi
   .rw[List.getElem?_append_right (by simpa using hi)]at h2
    rw[List.getElem?_replicate]at h2
    split at h2<;>cases h2
  have ha:vs[i]?=some v:=by
   unfold start at h2
   rw[List.getElem?_append_left (by simpa using hi),List.getElem?_map]at h2
   cases e:vs[i]? with
   | none=>rw[e]at h2;cases h2
   | some a=>rw[e]at h2;cases h2;rfl
  obtain⟨u,hu,rv⟩:=r.get ha
  have hp:ps[i]?=some y:=by
   rw[<-S.pre,List.getElem?_take_of_lt (by omega)];exact h1
  have ndP:ps.Nodup:=by rw[<-S.pre];exact S.nd.sublist (List.take_sublist _ _)
  refine⟨u,rv,?_⟩
  rcases S.par y (List.mem_of_getElem? hp)with k|k
  .exact .inl ⟨k,bindL_get ndP hp hu k⟩
  .obtain⟨c,e⟩:=cell_has (n:=s.heap.objs.size+1) k
   refine .inr ⟨.inl k,c,e,?_⟩
   have q:=x.cell y c e
   rw[bindC_get ndP hp hu (by show scope.names.lookup y≠_;rw[k];decide)]at q
   exact q
 .exact e0.hok.fresh (Nat.le_of_lt (x.above y c (PySem.mem_of_lookup h)))
 .unfold start
  show _=N.length
  rw[List.length_append,List.length_map,List.length_replicate]
  omega
theorem fn_of{CX:CXT}{P:Program}{w:World}{K:PySem.W.Frag}{mg:Str->Option Value}{base:Heap}{k:Nat}{f:Addr}{name qual:Str}{params:Arguments}{body:List Stmt}{scope:Scope}{dV kV doc pm cdv ct oc:Value}{an od:Option Addr}
  {osl:Array (Option Value)} {N ps:List Str} {sp:Sp} (lk:K.lookup f=some ⟨oc,od,.func (PySem.W.fnOf name qual params body scope dV kV doc pm an cdv ct),osl⟩) (hcd:PySem.W.codeIn K cdv qual=true) (S:FnScope N ps scope)
  (len:∀vs H Q E,sp vs H Q E->vs.length=ps.length)
  (hbody:∀(A:Around) (outer:List Env) (s:Shared) (H:Hp) (vs:List V) (Q:VK) (E:XK),Room k (A.deeper (envOfC qual scope s.heap.objs.size f cdv))->sp vs H Q E->
   ∃t,PSs (cxOf CX P w K mg base N qual scope f cdv A outer s H E) body t/\t {nx:=fun _ H'=>Q .non H',rt:=Q} (start N vs) H) :
  FnOk P w K mg base CX (k+1) f (PySem.W.fnOf name qual params body scope dV kV doc pm an cdv ct) ps sp:=by
 refine⟨len,fun A outer s H args us vs Q E hr e0 hb r hsp=>?_⟩
 have hl:=len _ _ _ _ hsp
 have KX:K.In s.heap:=e0.mod.kin.keeps fun b o e=>(e0.bs b o e).1
 have lim:s.heap.NoLimit:=e0.mod.nolimit.keeps fun b o e=>(e0.bs b o e).1
 have hkind:∀y∈ps.zip us,scope.names.lookup y.1=some .local\/(scope.names.lookup y.1=some .cell/\((cellsFrom (s.heap.objs.size+1) scope.names []).lookup y.1).isSome=true):=fun⟨n,v⟩ hy=>by
  rcases S.par n (List.of_mem_zip hy).1 with q|q
  .exact .inl q
  .exact .inr ⟨q,PySem.W.cellsFrom_some _ _ _ (.inl q)⟩
 refine codeAny_call_function hr.depth (KX _ _ lk) rfl S.co S.gen rfl (PySem.W.codeRec_of KX hcd) (hb _ _ _ _ ?_)
 refine wpAny_newFunctionEnv_cells S.kind hkind fun env he s1 x=>?_
 subst he
 refine⟨lim.keeps x.toInCall.keep,codeAny_func ?_⟩
 obtain⟨t,ht,hq⟩:=hbody A outer s H vs Q E (hr.deeper _) hsp
 have I:Inv (cxOf CX P w K mg base N qual scope f cdv A outer s H E) [] (start N vs) H s1:=inv_start S hr.hd e0 hl r x
 refine wpAny_mono (ht [] s1 (start N vs) H _ I hq) (fun fl s' hs=>?_) fun e s' hs=>hs
 have fin:∀{σ':St} {H':Hp} {v:V} {u:Value},Inv (cxOf CX P w K mg base N qual scope f cdv A outer s H E) [] σ' H' s'->RelV v u->Q v H'->CE outer P w H s Q u s':=
  fun{σ' H' v u} J rv q=>⟨v,H',J.os,J.bare,J.base,J.hok,rv,q⟩
 cases fl with
 | ret u=>
  obtain⟨v,σ',H',J,rv,q⟩:=hs
  exact fin J rv q
 | next=>
  obtain⟨σ',H',J,q⟩:=hs
  exact fin (v:=V.non) (u:=Value.none) J rfl q
 | brk=>
  obtain⟨_,_,_,q⟩:=hs
  exact False.elim q
 | cont=>
  obtain⟨_,_,_,q⟩:=hs
  exact False.elim q
end L2
namespace L2
open PySem PySem.Spec PyProof.Rows
section
variable{X:Cx}{x:Str}{p pos:Pos}{e:Expr}{es:List Expr}{t:TA}{id T:String}{r:List V->Hp->VK->Prop}
noncomputable def tCB(r:List V->Hp->VK->Prop)(t:TA):TE:=fun σ H Q=>t σ H fun vs H1=>r vs H1 Q
theorem pe_callB(hc:CallR X (.builtin id) r)(hg:Gl X x)(hm:X.mg x=none)(hv:bootBuiltins x=some (.builtin id))(ha:PA X (e::es) t)(hn:x≠"__name__":=by decide)(hdb:(x==("__debug__" : Str))=false:=by decide)
  (he:starEach (e::es) X.env=(false,eval e X.env)::starEach es X.env:=by rfl) (hpl:(backTo pos (starEach es X.env)).any (·.1)=false:=by rfl):PE X (.Call (.Name x p) (e::es) [] pos) (tCB r t):=by
 intro pins s σ H Q I h
 refine wpAny_Call_Name_kw (ld_blt I hg hm hv ?_ hn hdb)
 exact PyProof.Rows.callWith_builtin1 (thn (ha pos pins s σ H _ I h) fun us s1 ⟨vs,H1,I1,r1,q1⟩=>hc pins s1 σ H1 vs us Q I1 r1 q1) he hpl
theorem pe_callTy(hc:CallR X (.type T) r)(hg:Gl X x)(hm:X.mg x=none)(hv:bootBuiltins x=some (.type T))(ha:PA X (e::es) t)(hn:x≠"__name__":=by decide)(hdb:(x==("__debug__" : Str))=false:=by decide)
  (he:starEach (e::es) X.env=(false,eval e X.env)::starEach es X.env:=by rfl) (hpl:(backTo pos (starEach es X.env)).any (·.1)=false:=by rfl):PE X (.Call (.Name x p) (e::es) [] pos) (tCB r t):=by
 intro pins s σ H Q I h
 refine wpAny_Call_Name_kw (ld_blt I hg hm hv ?_ hn hdb)
 exact PyProof.Rows.callWith_type1 (thn (ha pos pins s σ H _ I h) fun us s1 ⟨vs,H1,I1,r1,q1⟩=>hc pins s1 σ H1 vs us Q I1 r1 q1) he hpl
end
end L2
namespace HT
open PySem PyProof.Rows
section
variable{prog:Program}{w:World}{A:Around}{E:Value->Shared->Prop}{s:Shared}
noncomputable def sIx(n d:Nat):Option Int->Nat
 | none=>d
 | some v=>if v<0 then(v+(n:Int)).toNat else min v.toNat n
end
end HT
namespace L2
open PySem PySem.Spec PyProof.Rows
noncomputable abbrev TO:=St->Hp->(Option Int->Hp->Prop)->Prop
noncomputable def PO(X:Cx)(e:Option Expr)(t:TO):Prop:=
 ∀(pins:List (Addr×Obj)) (s:Shared) (σ:St) (H:Hp) (Q:Option Int->Hp->Prop),Inv X pins σ H s->t σ H Q->
  wpAny (model X.prog X.w) X.A (evalPart e X.env) (fun u s'=>∃o H',Inv X pins σ H' s'/\IsPart u o/\Q o H') X.xe s
noncomputable def tNoPart:TO:=fun _ H Q=>Q none H
noncomputable def tPart(t:TE):TO:=fun σ H Q=>t σ H fun x H1=>∃i,x=.int i/\Q (some i) H1
theorem intsAre_of{ns:List Int}:∀{us:List Value},Vals (ns.map V.int) us->IntsAre us ns:=by
 induction ns with
 | nil=>intro us r;rw[List.map_nil]at r;cases r;exact .nil
 | cons n ns ih=>
  intro us r
  rw[List.map_cons]at r
  cases r with
  | cons r1 r2=>
   obtain⟨t,e⟩:=r1
   subst e
   exact .cons n t (ih r2)
section
variable{X:Cx}{e:Expr}{te:TE}{lo hi:Option Expr}{tl th:TO}{pos p2:Pos}
theorem po_none:PO X none tNoPart:=by
 intro pins s σ H Q I h
 rw[evalPart_none]
 exact wpAny_pure ⟨none,H,I,.none,h⟩
theorem po_some(h:PE X e te):PO X (some e) (tPart te):=by
 intro pins s σ H Q I hw
 rw[evalPart_some]
 refine thn (h pins s σ H _ I hw) fun u s1 ⟨x,H1,I1,r1,q1⟩=>?_
 obtain⟨i,rfl,q⟩:=q1
 obtain⟨t,rfl⟩:=r1
 exact⟨some i,H1,I1,.int i t,q⟩
noncomputable def SlR(X:Cx)(r:V->Option Int->Option Int->Hp->VK->Prop):Prop:=
 ∀(pins:List (Addr×Obj)) (s:Shared) (σ:St) (H:Hp) (x:V) (v vl vu:Value) (lo hi:Option Int) (sl:Addr) (Q:VK),Inv X pins σ H s->RelV x v->s.heap.IsSliceOf sl vl vu .none->IsPart vl lo->IsPart vu hi->r x lo hi H Q->
  ∃T id,typeLookup (.type T) "__getitem__" = pure (some (.builtin id))/\s.TypeIs v T/\wpAny (model X.prog X.w) X.A (getItem v (.ref sl)) (EP X pins σ Q) X.xe s
noncomputable def tSl(r:V->Option Int->Option Int->Hp->VK->Prop)(te:TE)(tl th:TO):TE:=fun σ H Q=>te σ H fun x H1=>tl σ H1 fun l H2=>th σ H2 fun u H3=>r x l u H3 Q
theorem pe_slice{r:V->Option Int->Option Int->Hp->VK->Prop}(hr:SlR X r)(he:PE X e te)(hl:PO X lo tl)(hu:PO X hi th):PE X (.Subscript e (.Slice lo hi none p2) pos) (tSl r te tl th):=by
 intro pins s σ H Q I h
 refine Subscript_ (thn (he pins s σ H _ I h) fun v s1 ⟨x,H1,I1,r1,q1⟩=>?_)
 refine wpAny_Slice (thn (hl pins s1 σ H1 _ I1 q1) fun vl s2 ⟨l,H2,I2,pl,q2⟩=>thn (hu pins s2 σ H2 _ I2 q2) fun vu s3 ⟨u,H3,I3,pu,q3⟩=>?_)
 rw[evalPart_none]
 refine wpAny_pure ?_
 have I4:Inv X pins σ H3 {s3 with heap:=s3.heap.push {cls:=.type "slice",data:=.fields #[vl,vu,.none]}}:=I3.kept (t':=s3.toks) fun b ob q=>Heap.get?_push_of_some _ q
 obtain⟨T,id,hT,ht,hg⟩:=hr pins {s3 with heap:=s3.heap.push {cls:=.type "slice",data:=.fields #[vl,vu,.none]}} σ H3 x v vl vu l u s3.heap.objs.size Q I4 r1 (Heap.IsSliceOf.new ..) pl pu q3
 show wpAny (model X.prog X.w) X.A (subscriptTail e (.Slice lo hi none p2) v (.ref s3.heap.objs.size)) (EP X pins σ Q) X.xe {s3 with heap:=s3.heap.push {cls:=.type "slice",data:=.fields #[vl,vu,.none]}}
 exact tail_any (ops:=[.ref s3.heap.objs.size,v]) ht hT hg (by with_unfolding_all rfl)
noncomputable def cutV(xs:List V)(lo hi:Option Int):List V:=(xs.drop (HT.sIx xs.length 0 lo)).take (HT.sIx xs.length xs.length hi-HT.sIx xs.length 0 lo)
theorem cutV_length(xs:List V)(lo hi:Option Int):(cutV xs lo hi).length<=xs.length:=by
 unfold cutV
 rw[List.length_take,List.length_drop]
 omega
end
end L2
namespace L2
open PySem PySem.Spec PyProof.Rows
noncomputable def ixN(n:Nat)(i:Int):Option Nat:=if 0<=i then(if i<n then some i.toNat else none)else if -(n:Int)<=i then some (i+n).toNat else none
noncomputable def atI{α:Type}(xs:List α)(i:Int):Option α:=(ixN xs.length i).bind fun j=>xs[j]?
theorem ixN_seq{n:Nat}{i:Int}{j:Nat}(h:ixN n i=some j):seqIndex? i n=some j/\j<n/\-(n:Int)<=i/\i<n:=by
 unfold ixN at h
 by_cases h0:0<=i
 .rw[if_pos h0]at h
  by_cases h1:i<n
  .rw[if_pos h1]at h
   have e:i.toNat=j:=Option.some.inj h
   exact⟨by rw[seqIndex_of h0 h1,e],by omega,by omega,h1⟩
  .rw[if_neg h1]at h;cases h
 .rw[if_neg h0]at h
  by_cases h1:-(n:Int)<=i
  .rw[if_pos h1]at h
   have e:(i+n).toNat=j:=Option.some.inj h
   exact⟨by rw[seqIndex_neg (by omega) h1,e],by omega,h1,by omega⟩
  .rw[if_neg h1]at h;cases h
theorem atI_get{α:Type}{xs:List α}{i:Int}{v:α}(h:atI xs i=some v):∃j,seqIndex? i xs.length=some j/\xs[j]?=some v/\j<xs.length/\-(xs.length:Int)<=i/\i<xs.length:=by
 unfold atI at h
 cases e:ixN xs.length i with
 | none=>rw[e]at h;cases h
 | some j=>
  rw[e]at h
  obtain⟨h1,h2,h3,h4⟩:=ixN_seq e
  exact⟨j,h1,h,h2,h3,h4⟩
theorem atI_nat{α:Type}{xs:List α}{j:Nat}{v:α}(h:xs[j]?=some v):atI xs (j:Int)=some v:=by
 have hj:j<xs.length:=(List.getElem?_eq_some_iff.mp h).1
 have e:ixN xs.length (j:Int)=some j:=by
  unfold ixN
  rw[if_pos (by omega),if_pos (by omega)];simp
 unfold atI;rw[e];exact h
noncomputable def PlainIx(b:Expr):Prop:=∀o i,subscripted b false o i=operate [o,i] (getItem o i)
noncomputable def IxR(X:Cx)(r:R2):Prop:=
 ∀(value slice:Expr) (pins:List (Addr×Obj)) (s:Shared) (σ:St) (H:Hp) (x y:V) (v u:Value) (Q:VK),Inv X pins σ H s->RelV x v->RelV y u->r x y H Q->
  subscripted slice false v u=operate [v,u] (getItem v u)->wpAny (model X.prog X.w) X.A (subscriptTail value slice v u) (EP X pins σ Q) X.xe s
noncomputable def MtR(X:Cx)(id:String)(r:V->List V->Hp->VK->Prop):Prop:=
 ∀(pins:List (Addr×Obj)) (s:Shared) (σ:St) (H:Hp) (x:V) (xs:List V) (v:Value) (us:List Value) (Q:VK),Inv X pins σ H s->RelV x v->Vals xs us->r x xs H Q->
  wpAny (model X.prog X.w) X.A (call (.builtin id) (v::us)) (EP X pins σ Q) X.xe s
section
variable{X:Cx}{a b:Expr}{ta tb:TE}{pos:Pos}
theorem pe_ix{r:R2}(hr:IxR X r)(ha:PE X a ta)(hb:PE X b tb)(hs:PlainIx b):PE X (.Subscript a b pos) (tOp r ta tb):=by
 intro pins s σ H Q I h
 exact Subscript_ (binT ha hb I h fun v u s2 x y H2 I2 rx ry q=>hr a b pins s2 σ H2 x y v u Q I2 rx ry q (hs _ _))
noncomputable def rIxL(K:PySem.W.Frag):R2:=fun x y H Q=>∃p xs i v,x=.ref p/\y=.int i/\SqL K H p xs/\atI xs i=some v/\Q v H
noncomputable def rIxT(K:PySem.W.Frag):R2:=fun x y H Q=>∃p xs i v,x=.ref p/\y=.int i/\SqT K H p xs/\atI xs i=some v/\Q v H
noncomputable def rIxS:R2:=fun x y H Q=>∃z i c,x=.str z/\y=.int i/\z.length<=sizeLine/\atI z.cps.toList i=some c/\Q (.str ⟨#[c]⟩) H
theorem ix_list:IxR X (rIxL X.K):=by
 intro value slice pins s σ H x y v u Q I rx ry h hs
 obtain⟨p,xs,i,z,rfl,rfl,hq,he,q⟩:=h
 cases rx
 obtain⟨t,rfl⟩:=ry
 obtain⟨its,r,pl,hz⟩:=I.list hq
 obtain⟨j,h1,h2,h3,h4,h5⟩:=atI_get he
 obtain⟨w,ew,rw'⟩:=r.get h2
 have hl:=r.length
 have hn:=line63
 have fin:EP X pins σ Q w s:=⟨z,H,I,rw',q⟩
 by_cases h0:0<=i
 .have hj:i.toNat=j:=by
   rw[seqIndex_of h0 h5]at h1
   exact Option.some.inj h1
  exact item_listR pl.isList h0 (by omega) (by rw[hj];simpa using ew) fin hs
 .have hj:(i+(its.toArray.size:Int)).toNat=j:=by
   rw[seqIndex_neg (by omega) h4]at h1
   rw[List.size_toArray,<-hl]
   exact Option.some.inj h1
  exact subscriptTail_builtinR (x:=w) pl.isList.typeIs slot_list_getitem.lookup
   (wpAny_getItem_list_neg (Q:=fun r s'=>r=w/\EP X pins σ Q r s') pl.isList (by omega) (by rw[List.size_toArray]<;>omega) (by omega) (by rw[hj];simpa using ew) ⟨rfl,fin⟩) hs
theorem ix_tup:IxR X (rIxT X.K):=by
 intro value slice pins s σ H x y v u Q I rx ry h hs
 obtain⟨p,xs,i,z,rfl,rfl,hq,he,q⟩:=h
 cases rx
 obtain⟨t,rfl⟩:=ry
 obtain⟨its,r,pl,hz⟩:=I.tuple hq
 obtain⟨j,h1,h2,h3,h4,h5⟩:=atI_get he
 obtain⟨w,ew,rw'⟩:=r.get h2
 have hl:=r.length
 have hn:=line63
 have fin:EP X pins σ Q w s:=⟨z,H,I,rw',q⟩
 exact subscriptTail_builtinR (x:=w) pl.typeIs slot_tuple_getitem.lookup
  (getItem_tuple (j:=j) (Q:=fun r s'=>r=w/\EP X pins σ Q r s') pl (by omega) (by omega) (by rw[List.size_toArray,<-hl];exact h1) (by simpa using ew) ⟨rfl,fin⟩) hs
theorem ix_str:IxR X rIxS:=by
 intro value slice pins s σ H x y v u Q I rx ry h hs
 obtain⟨z,i,c,rfl,rfl,hz,he,q⟩:=h
 obtain⟨t,rfl⟩:=rx
 obtain⟨t',rfl⟩:=ry
 obtain⟨j,h1,h2,h3,h4,h5⟩:=atI_get he
 have hl:z.cps.toList.length=z.length:=by simp[Str.length]
 rw[hl]at h1 h4 h5
 have hn:=line63
 exact tail_any (typeIs_str s z t) slot_str_getitem.lookup (getItem_str (c:=c) (by
  have e1:decide (i < -(2^63:Int))=false:=decide_eq_false (by omega)
  have e2:decide (i>=2^63)=false:=decide_eq_false (by omega)
  rw[e1,e2,Bool.or_false]) (by rw[h1];simpa using h2) ⟨.str ⟨#[c]⟩,H,I.tok _,⟨_,rfl⟩,q⟩) hs
theorem slice_bounds(lo hi:Option Int)(n:Nat):(sliceBounds lo hi none n).1=((HT.sIx n 0 lo:Nat):Int)/\(sliceBounds lo hi none n).2.1=((HT.sIx n n hi:Nat):Int)/\(sliceBounds lo hi none n).2.2=1:=by
 refine⟨?_,?_,rfl⟩
 .cases lo with
  | none=>simp[sliceBounds,HT.sIx]
  | some i=>
   simp only[sliceBounds,HT.sIx,Option.getD_none,show(1:Int)>0 by decide,if_true]
   by_cases h:i<0
   .simp only[h,if_true]<;>omega
   .simp only[h,if_false]<;>omega
 .cases hi with
  | none=>simp[sliceBounds,HT.sIx]
  | some i=>
   simp only[sliceBounds,HT.sIx,Option.getD_none,show(1:Int)>0 by decide,if_true]
   by_cases h:i<0
   .simp only[h,if_true]<;>omega
   .simp only[h,if_false]<;>omega
theorem slicePick_cut(its:List Value)(lo hi:Option Int):slicePick its.toArray lo hi none=((its.drop (HT.sIx its.length 0 lo)).take (HT.sIx its.length its.length hi-HT.sIx its.length 0 lo)).toArray:=by
 obtain⟨h1,h2,h3⟩:=slice_bounds lo hi its.toArray.size
 unfold slicePick
 rw[h1,h2,h3]
 simp only[sliceRange_one,pick_run,List.size_toArray]<;>rfl
noncomputable def rSlL(K:PySem.W.Frag):V->Option Int->Option Int->Hp->VK->Prop:=fun x lo hi H Q=>∃a xs,x=.ref a/\SqL K H a xs/\∀p,H p=none->Q (.ref p) (upd H p (.lst (cutV xs lo hi)))
theorem sl_list:SlR X (rSlL X.K):=by
 intro pins s σ H x v vl vu lo hi sl Q I rx hs pl pu h
 obtain⟨a,xs,rfl,hx,q⟩:=h
 cases rx
 obtain⟨its,r,ht,hz⟩:=I.list hx
 have hlen:=r.length
 refine⟨"list",_,slot_list_getitem.lookup,ht.isList.typeIs,?_⟩
 refine wpAny_getItem_list_slice ht.isList hs pl pu .none (by simp) ?_ (by rw[List.size_toArray]<;>omega)
 rw[slicePick_cut,<-hlen]
 refine⟨.ref s.heap.objs.size,_,I.laid (t':=s.toks) (o:=.lst (cutV xs lo hi)) (fun b ob q=>Heap.get?_push_of_some _ q) (Nat.le_refl _) ?_,rfl,q _ (I.hok.fresh (Nat.le_refl _))⟩
 exact⟨Nat.le_trans (cutV_length xs lo hi) hz,_,0,(r.drop (HT.sIx xs.length 0 lo)).take (HT.sIx xs.length xs.length hi-HT.sIx xs.length 0 lo),Heap.get?_push_size _ rfl⟩
theorem call_len_seq:CallR X (.builtin "len") (fun xs H Q=>∃p ys,xs=[.ref p]/\(SqL X.K H p ys\/SqT X.K H p ys)/\Q (.int ys.length) H):=by
 intro pins s σ H xs us Q I r h
 obtain⟨p,ys,rfl,hq,q⟩:=h
 obtain⟨u,rfl,rx⟩:=vals1 r
 cases rx
 have hn:=line63
 rcases hq with hq|hq
 .obtain⟨its,r',pl,hz⟩:=I.list hq
  have hlen:=r'.length
  exact Calls.call_len_list pl.isList (by simp only[List.size_toArray]<;>omega) ⟨.int ys.length,H,I.tok _,⟨s.toks+1,by rw[List.size_toArray,hlen]⟩,q⟩
 .obtain⟨its,r',pl,hz⟩:=I.tuple hq
  have hlen:=r'.length
  exact len_tuple pl (by simp only[List.size_toArray]<;>omega) ⟨.int ys.length,H,I.tok _,⟨s.toks+1,by rw[List.size_toArray,hlen]⟩,q⟩
theorem call_len_str:CallR X (.builtin "len") (fun xs H Q=>∃z,xs=[.str z]/\z.length<=sizeLine/\Q (.int z.length) H):=by
 intro pins s σ H xs us Q I r h
 obtain⟨z,rfl,hz,q⟩:=h
 obtain⟨u,rfl,t,rfl⟩:=vals1 r
 have hn:=line63
 exact len_str (by omega) ⟨.int z.length,H,I.tok _,⟨_,rfl⟩,q⟩
theorem call_list_of:CallR X (.type "list") (fun xs H Q=>∃p ys,xs=[.ref p]/\(SqL X.K H p ys\/SqT X.K H p ys)/\∀l,H l=none->Q (.ref l) (upd H l (.lst ys))):=by
 intro pins s σ H xs us Q I r h
 obtain⟨p,ys,rfl,hq,q⟩:=h
 obtain⟨u,rfl,rx⟩:=vals1 r
 cases rx
 have fin:∀(its:List Value),Vals ys its->ys.length<=sizeLine->∀(h':Heap) (c':Nat),(∀b o',s.heap.get? b=some o'->h'.get? b=some o')->
   h'.get? s.heap.objs.size=some {cls:=.type "list",dict:=none,data:=.seq its.toArray c',slots:=#[]}->EP X pins σ Q (.ref s.heap.objs.size) {s with heap:=h'}:=fun its r' hz h' c' kp e=>
  ⟨.ref s.heap.objs.size,_,I.laid (t':=s.toks) kp (Nat.le_refl _) (show ObjOk X.prog X.w _ h' _ (.lst ys)from ⟨hz,its,c',r',e⟩),rfl,q _ (I.hok.fresh (Nat.le_refl _))⟩
 rcases hq with hq|hq
 .obtain⟨its,r',pl,hz⟩:=I.list hq
  have hlen:=r'.length
  obtain⟨o,ho,hc,n,hd⟩:=pl.isList
  exact call_list_seq p (.inl rfl) ho hc hd (fun h' c' kp e=>fin its r' hz h' c' kp e) (by simp only[List.size_toArray]<;>omega)
 .obtain⟨its,r',pl,hz⟩:=I.tuple hq
  have hlen:=r'.length
  obtain⟨o,ho,hc,n,hd⟩:=pl
  exact call_list_seq p (.inr rfl) ho hc hd (fun h' c' kp e=>fin its r' hz h' c' kp e) (by simp only[List.size_toArray]<;>omega)
theorem call_tuple_of:CallR X (.type "tuple") (fun xs H Q=>∃p ys,xs=[.ref p]/\((SqL X.K H p ys/\∀l,H l=none->Q (.ref l) (upd H l (.tup ys)))\/(SqT X.K H p ys/\Q (.ref p) H))):=by
 intro pins s σ H xs us Q I r h
 obtain⟨p,ys,rfl,h⟩:=h
 obtain⟨u,rfl,rx⟩:=vals1 r
 cases rx
 rcases h with ⟨hq,q⟩|⟨hq,q⟩
 .obtain⟨its,r',pl,hz⟩:=I.list hq
  have hlen:=r'.length
  refine call_tuple_list pl.isList (fun h' kp=>?_) (by simp only[List.size_toArray]<;>omega)
  have I1:Inv X pins σ H {s with heap:=h'}:=I.kept (t':=s.toks) kp
  have I2:Inv X pins σ (upd H h'.objs.size (.tup ys)) {s with heap:=h'.push {cls:=.type "tuple",data:=.seq its.toArray}}:=
   I1.laid (t':=s.toks) (fun b o e=>Heap.get?_push_of_some _ e) (Nat.le_refl _) (show ObjOk X.prog X.w _ _ _ (.tup ys)from ⟨hz,its,r',IsTup.new _ _⟩)
  exact⟨.ref h'.objs.size,_,I2,rfl,q _ (I1.hok.fresh (Nat.le_refl _))⟩
 .obtain⟨its,r',pl,hz⟩:=I.tuple hq
  exact call_tuple_same pl ⟨.ref p,H,I,rfl,q⟩
noncomputable def tyV(K:PySem.W.Frag)(T:String)(x:V)(H:Hp):Prop:=match x with
 | .str _=>T="str"
 | .int _=>T="int"
 | .ref p=>(T="list"/\∃xs,SqL K H p xs)\/(T="tuple"/\∃o,K.lookup p=some o/\o.cls=.type "tuple"/\o.dict=none)\/
   (T="dict"/\((∃kvs,H p=some (.dK kvs))\/∃kvs,H p=some (.dT kvs)))\/(T="set"/\∃S n,H p=some (.set S n))
 | _=>False
theorem tyV_is{pins:List (Addr×Obj)}{σ:St}{H:Hp}{s:Shared}{T:String}{x:V}{v:Value}(I:Inv X pins σ H s)(r:RelV x v)(ty:tyV X.K T x H) :
  s.TypeIs v T/\∀a,v=.ref a->∃ob,s.heap.get? a=some ob/\ob.dict=none:=by
 cases x with
 | str z=>
  obtain⟨t,rfl⟩:=r
  cases (show T="str" from ty)
  exact⟨typeIs_str s z t,fun _ e=>nomatch e⟩
 | int i=>
  obtain⟨t,rfl⟩:=r
  cases (show T="int" from ty)
  exact⟨typeIs_int s i t,fun _ e=>nomatch e⟩
 | ref p=>
  cases r
  rcases ty with ⟨rfl,xs,hq⟩|⟨rfl,o,hk,hc,hd⟩|⟨rfl,hk⟩|⟨rfl,S,n,hk⟩
  .obtain⟨its,_,pl,_⟩:=I.list hq
   refine⟨pl.isList.typeIs,fun a e=>?_⟩
   cases e
   obtain⟨o,n,e,c,hd,_⟩:=pl
   exact⟨o,e,hd⟩
  .refine⟨⟨o,I.kIn p o hk,hc⟩,fun a e=>?_⟩
   cases e
   exact⟨o,I.kIn _ o hk,hd⟩
  .have z:∃o,s.heap.get? p=some o/\o.ExactDict:=by
    rcases hk with ⟨kvs,hk⟩|⟨kvs,hk⟩
    .obtain⟨_,_,_,_,o,_,_,e,ex,_⟩:=I.hok p _ hk
     exact⟨o,e,ex⟩
    .obtain⟨_,_,_,_,o,_,_,e,ex,_⟩:=I.hok p _ hk
     exact⟨o,e,ex⟩
   obtain⟨o,e,ex⟩:=z
   refine⟨⟨o,e,ex.1⟩,fun a e2=>?_⟩
   cases e2
   exact⟨o,e,ex.2.1⟩
  .obtain⟨o,_,_,_,e,ex,_⟩:=I.hok p _ hk
   refine⟨⟨o,e,ex.1⟩,fun a e2=>?_⟩
   cases e2
   exact⟨o,e,ex.2.1⟩
 | _=>exact False.elim ty
noncomputable def tBM0(K:PySem.W.Frag)(T:String)(r:V->List V->Hp->VK->Prop)(to:TE):TE:=fun σ H Q=>to σ H fun x H1=>tyV K T x H1/\r x [] H1 Q
noncomputable def tBM(K:PySem.W.Frag)(T:String)(r:V->List V->Hp->VK->Prop)(to:TE)(t:TA):TE:=fun σ H Q=>to σ H fun x H1=>tyV K T x H1/\t σ H1 fun xs H2=>r x xs H2 Q
variable{o e:Expr}{es:List Expr}{to:TE}{t:TA}{name:Str}{apos cpos:Pos}{T id:String}{r:V->List V->Hp->VK->Prop}
theorem pe_bm0(pa:PlainAttrs T)(slot:Slot T name id)(hty:typeOf (.builtin id)=pure (.type "method_descriptor"))(hm:MtR X id r)(ho:PE X o to)
  (hbase:attributeBase o name X.env (eval o X.env)=eval o X.env:=by rfl) (hline:(apos.endLine==cpos.line)=true:=by rfl):PE X (.Call (.Attribute o name apos) [] [] cpos) (tBM0 X.K T r to):=by
 intro pins s σ H Q I h
 refine wpAny_Call_method0_late hbase hline (thn (ho pins s σ H _ I h) fun v s1 ⟨x,H1,I1,r1,ty,q1⟩=>?_)
 obtain⟨h1,h2⟩:=tyV_is I1 r1 ty
 exact⟨T,id,pa,slot,hty,h1,h2,Calls.callWith_builtin rfl (PySem.evalArgs_none (hm pins s1 σ H1 x [] v [] Q I1 r1 .nil q1))⟩
theorem pe_bm(pa:PlainAttrs T)(slot:Slot T name id)(hty:typeOf (.builtin id)=pure (.type "method_descriptor"))(hm:MtR X id r)(ho:PE X o to)(ha:PA X (e::es) t)
  (hbase:attributeBase o name X.env (eval o X.env)=eval o X.env:=by rfl)
  (hfew:((backTo cpos (starEach (e::es) X.env)).all (fun x=>!x.1)&&(backToKw cpos (keywordEach [] X.env)).all (fun x=>x.1.isSome)
   && decide ((e::es).length+([]:List Keyword).length+(if ([]:List Keyword).isEmpty then 0 else 1)<30))=true:=by rfl)
  (hline:(apos.endLine==cpos.line)=true:=by rfl) (hs:starEach (e::es) X.env=(false,eval e X.env)::starEach es X.env:=by rfl) (hplain:(backTo cpos (starEach es X.env)).any (·.1)=false:=by rfl) :
  PE X (.Call (.Attribute o name apos) (e::es) [] cpos) (tBM X.K T r to t):=by
 intro pins s σ H Q I h
 refine wpAny_Call_method_late hbase hfew hline rfl (thn (ho pins s σ H _ I h) fun v s1 ⟨x,H1,I1,r1,ty,q1⟩=>?_)
 obtain⟨h1,h2⟩:=tyV_is I1 r1 ty
 refine⟨T,id,pa,slot,hty,h1,h2,?_⟩
 have hA:=ha cpos pins s1 σ H1 _ I1 q1
 rw[hs]at hA⊢
 refine Calls.callWith_builtin (by show(false||(backTo cpos (starEach es X.env)).any (·.1))=false;rw[hplain]<;>rfl) (Calls.evalArgs_plain ?_)
 exact thn hA fun us s2 ⟨vs,H2,I2,r2,q2⟩=>hm pins s2 σ H2 x vs v us Q I2 r1 r2 q2
end
end L2
namespace L2
open PySem PySem.Spec PyProof.Rows
noncomputable def MtM(X:Cx)(id:String)(r:V->List V->Hp->VK->Prop):Prop:=
 ∀(pins:List (Addr×Obj)) (s:Shared) (σ:St) (H:Hp) (x:V) (xs:List V) (v:Value) (us:List Value) (Q:VK),Inv X pins σ H s->RelV x v->Vals xs us->r x xs H Q->
  wpAny (model X.prog X.w) X.A (call (.builtin id) (v::us)) (EP X pins σ Q) X.xe s
theorem Vals.one:∀{x:V} {us:List Value},Vals [x] us->∃u,us=[u]/\RelV x u
 | _,_,.cons r .nil=>⟨_,rfl,r⟩
theorem Vals.zero:∀{us:List Value},Vals [] us->us=[]
 | _,.nil=>rfl
section
variable{X:Cx}{pins:List (Addr×Obj)}{σ:St}{H:Hp}{s:Shared}{l b:Addr}{xs ys zs:List V}
theorem Inv.lset{its its':List Value}{n:Nat}{f:Array Value->Array Value}{t':Nat}(I:Inv X pins σ H s)(hH:H l=some (.lst xs))
  (e:s.heap.get? l=some {cls:=.type "list",data:=.seq its.toArray n}) (hf:f its.toArray=its'.toArray) (hv:Vals ys its') (hz:ys.length<=sizeLine) :
  Inv X pins σ (upd H l (.lst ys)) {s with heap:=s.heap.update l (Obj.mapSeq f),toks:=t'}:=by
 have q:=PySem.IsL.update e f
 rw[hf]at q
 refine I.write (x:=l) (e:=l) (by rw[hH];exact trivial) (.inl rfl) (fun b' u hb hu=>(Heap.get?_update_other s.heap (Obj.mapSeq f) (Ne.symm hb)).trans hu) ⟨_,q⟩ ?_
 exact⟨hz,its',_,hv,q⟩
theorem Inv.lnew{its:List Value}{t':Nat}(I:Inv X pins σ H s)(hv:Vals ys its)(hz:ys.length<=sizeLine) :
  Inv X pins σ (upd H s.heap.objs.size (.lst ys)) {s with heap:=s.heap.push {cls:=.type "list",data:=.seq its.toArray},toks:=t'}:=
 I.laid (fun _ _ q=>Heap.get?_push_of_some _ q) (Nat.le_refl _) ⟨hz,its,0,hv,Heap.get?_push_size _ rfl⟩
theorem Inv.fresh(I:Inv X pins σ H s):H s.heap.objs.size=none:=I.hok.fresh (Nat.le_refl _)
theorem Inv.lstM(I:Inv X pins σ H s)(hH:H l=some (.lst xs)):xs.length<=sizeLine/\∃(its:List Value) (n:Nat),Vals xs its/\xs.length=its.length/\s.heap.get? l=some {cls:=.type "list",data:=.seq its.toArray n}:=by
 obtain⟨z,its,n,r,e⟩:=I.hok l _ hH
 exact⟨z,its,n,r,r.length,e⟩
theorem notLongL{n:Nat}(h:n<=sizeLine):Builtin.List.listTooLong n=false:=by
 unfold Builtin.List.listTooLong
 exact decide_eq_false (by omega)
end
section
variable{X:Cx}
noncomputable def rAppend:V->List V->Hp->VK->Prop:=fun x vs H Q=>∃l xs y,x=.ref l/\vs=[y]/\H l=some (.lst xs)/\xs.length<sizeLine/\Q .non (upd H l (.lst (xs++[y])))
theorem mt_append:MtM X "list.append" rAppend:=by
 intro pins s σ H x vs v us Q I rx rv h
 obtain⟨l,xs,y,rfl,rfl,hH,hz,q⟩:=h
 cases rx
 obtain⟨u,rfl,ru⟩:=rv.one
 obtain⟨z,its,n,r,hl,e⟩:=I.lstM hH
 refine call_meets F.slot_list_append ⟨_,e,rfl⟩ F.entry_list_append (F.args_list_append_2 _ _) (PySem.list_append l its.toArray n u (by rw[List.size_toArray];omega)) ⟨e,?_⟩
 refine⟨.non,_,I.lset (its':=its++[u]) hH e (by simp) (r.append (.cons ru .nil)) ?_,rfl,q⟩
 rw[List.length_append,List.length_singleton]
 omega
noncomputable def rExtend:V->List V->Hp->VK->Prop:=fun x vs H Q=>∃l b xs zs,x=.ref l/\vs=[.ref b]/\H l=some (.lst xs)/\H b=some (.lst zs)/\xs.length+zs.length<=sizeLine/\Q .non (upd H l (.lst (xs++zs)))
theorem mt_extend:MtM X "list.extend" rExtend:=by
 intro pins s σ H x vs v us Q I rx rv h
 obtain⟨l,b,xs,zs,rfl,rfl,hH,hB,hz,q⟩:=h
 cases rx
 obtain⟨u,rfl,ru⟩:=rv.one
 cases ru
 obtain⟨z,its,n,r,hl,e⟩:=I.lstM hH
 obtain⟨z2,its2,n2,r2,hl2,e2⟩:=I.lstM hB
 have hsz:its.toArray.size+its2.toArray.size<=sizeLine:=by rw[List.size_toArray,List.size_toArray];omega
 have hlong:¬(!its.toArray.isEmpty&&Builtin.List.listTooLong (its.toArray.size+its2.toArray.size))=true:=by
  rw[notLongL hsz,Bool.and_false]
  exact Bool.false_ne_true
 refine call_meets F.slot_list_extend ⟨_,e,rfl⟩ F.entry_list_extend (F.args_list_extend_2 _ _)
  (AutoSeq1.list_extend_list_list_0 l its.toArray n b its2.toArray n2 hlong (by rw[List.size_toArray];omega) (by omega)) ⟨e,e2,?_⟩
 refine⟨.non,_,I.lset (its':=its++its2) hH e (by simp) (r.append r2) ?_,rfl,q⟩
 rw[List.length_append]
 omega
noncomputable def rCat:R2:=fun x y H Q=>∃l b xs zs,x=.ref l/\y=.ref b/\H l=some (.lst xs)/\H b=some (.lst zs)/\xs.length+zs.length<=sizeLine/\∀p,H p=none->Q (.ref p) (upd H p (.lst (xs++zs)))
theorem op_cat:OpR X (binaryOp .Add) rCat:=by
 intro pins s σ H x y v u Q I rx ry h
 obtain⟨l,b,xs,zs,rfl,rfl,hH,hB,hz,q⟩:=h
 cases rx
 cases ry
 obtain⟨z,its,n,r,hl,e⟩:=I.lstM hH
 obtain⟨z2,its2,n2,r2,hl2,e2⟩:=I.lstM hB
 refine PySem.P.add_list e e2 ?_ (by rw[List.size_toArray,List.size_toArray];omega)
 have ea:its.toArray++its2.toArray=(its++its2).toArray:=by simp
 rw[ea]
 exact⟨.ref _,_,I.lnew (t':=s.toks) (r.append r2) (by rw[List.length_append];omega),rfl,q _ I.fresh⟩
end
end L2
namespace Att
open PySem PySem.W PySem.Calls PyProof.Rows
theorem ints_of_wellAll{P:Params}{h:Heap}:∀(ns:List Int) (vs:List Value),WellAll P h vs (ns.map WData.int)->IntsAre vs ns:=by
 intro ns
 induction ns with
 | nil=>
  intro vs w
  rw[List.map_nil]at w
  cases w
  exact .nil
 | cons n ns ih=>
  intro vs w
  rw[List.map_cons]at w
  cases w with
  | cons a b=>
   cases a
   exact .cons _ _ (ih _ b)
theorem script_of{l:OpenLaw}{n:Nat}(hn:l.most=some n){P:Params}{h:Heap}{args:List WData}{vals:List Value}
  (hpre:l.row.toRowW.claim.pre args=true) (hwl:WellAll P h vals args) :
  ∃a vs ns,vals=[Value.ref a]/\args=[WData.list (ns.map WData.int)]/\h.get? a=some {cls:=.type "list",data:=.seq vs.toArray}/\IntsAre vs ns/\ns.length<=n:=by
 have hsh:WShape.hasAll [] args [.list .int]=true:=(pre_splitW hpre).1
 have hc:l.pre.holds [] {args:=args}=true:=(pre_splitW hpre).2
 obtain⟨d,r,rfl,h1,h2⟩:=hasAllW_cons hsh
 obtain rfl:=hasAllW_nil h2
 obtain⟨xs,rfl,h3⟩:=hasW_list h1
 obtain⟨ns,rfl⟩:=items_int h3
 have hlen:ns.length<=n:=by
  unfold OpenLaw.pre at hc
  have h4:(WTm.not (.lt (.lit (.int (n:Int))) (.len (.arg 0)))).holds [] {args:=[.list (ns.map .int)]}=true:=by
   have h4:=(holds_andW hc).1
   rw[hn]at h4
   exact h4
  have h5:=condW_of h4 (w_not (w_lt w_lit (w_len_list (w_arg rfl))))
  rw[List.length_map]at h5
  refine Nat.le_of_not_lt fun q=>?_
  have q':(n:Int)<((ns.length:Nat):Int):=by omega
  first
   | (rw[decide_eq_true q']at h5;exact absurd h5 (by decide))
   | (simp at h5;omega)
 cases hwl with
 | cons w1 w2=>
  cases w2
  cases w1 with
  | list ho hall=>exact⟨_,_,ns,rfl,rfl,ho,ints_of_wellAll ns _ hall,hlen⟩
theorem post_true(l:OpenLaw)(args:List WData):l.row.toRowW.claim.post args (.bool true) args=true:=
 postW_of (r:=l.row.toRowW) (X:=(true==true))
  (show WShape.has [] (.bool true) .bool=true by first|rfl|decide|simp[WShape.has,WShape.arms,WShape.armsAll])
  (show(WTm.eq .res (.lit (.bool true))).value [] {args:=args,res:=some (.bool true),after:=args}=some (.bool (true==true))from w_eq_bool (w_res rfl) w_lit) rfl
theorem attach_call{l:OpenLaw}{n:Nat}{q:Program}{loose:List Str}{XP:(Str->Option Value)->Heap->Prop}{YP:World->Heap->Prop}{d:DefRec}
  (hn:l.most=some n) (hdf:d.params.defaults=[])
  (call:∀(w:World) (s₀ s₁:Shared) (mg mb:Str->Option Value) (fa:Addr) (o:Obj) (pm cd doc:Value) (a:Addr) (vs:List Value) (ns:List Int),
   Ground q loose [] XP w s₀ mg mb s₁.heap->YP w s₁.heap->
   s₁.heap.get? fa=some o->o.data=.func (docDef d.name d.params d.body d.scope pm cd doc)->s₁.heap.CodeRec cd d.name->mg d.name=some (.ref fa)->
   s₁.heap.get? a=some {cls:=.type "list",data:=.seq vs.toArray}->IntsAre vs ns->ns.length<=n->s₁.gens=#[]->
   codeAny (model l.prog w) callerA (.call (.ref fa) ⟨[.ref a],[]⟩) (fun r s'=>r=.ok (.ret (.bool true))/\OldK s₁.heap s'.heap/\s'.os=s₁.os/\AllBare s'.gens) s₁) :
  WalkO q loose XP YP l.row.toRowW d [] (fun f vs=>PySem.call f vs):=by
 intro w s₀ s₁ mg mb G Y fa o pm cd doc dV kV ho hd hcd hD hmg hg args vals as hpre hlay hrd hwl hlo
 obtain rfl:dV=.none:=Dflts.none hD hdf
 obtain rfl:kV=.none:=Dflts.noKw hD
 obtain⟨a,vs,ns,rfl,rfl,hobj,hints,hlen⟩:=script_of hn hpre hwl
 refine enter_call (codeAny_mono (call w s₀ s₁ mg mb fa o pm cd doc a vs ns G Y ho (fd_plain hd) hcd hmg hobj hints hlen hg) fun r s' hq=>?_)
 obtain⟨rfl,h2,h3,h4⟩:=hq
 exact⟨.inl ⟨.bool true,.bool true,[],rfl,fun _=>rfl,.bool true,post_true l _,fun _=>⟨List.Pairwise.nil,fun _ hm=>(nomatch hm)⟩⟩,h2,h3,h4⟩
end Att
namespace L2
open PySem PySem.Spec PyProof.Rows
theorem vals_ints:∀{vs:List Value} {ns:List Int},IntsAre vs ns->Vals (ns.map V.int) vs
 | _,_,.nil=>.nil
 | _,_,.cons n t h=>.cons ⟨t,rfl⟩ (vals_ints h)
noncomputable def Only(H:Hp):Prop:=∀b,H b=none\/∃o xs,H b=some (.frz o (.lst xs))
theorem law_call{P:Program}{w:World}{K:PySem.W.Frag}{mg mb:Str->Option Value}{CX:CXT}{k:Nat}{fa a:Addr}{fd:FuncData}{x:Str}{sp:Sp}{s₁:Shared}{vs:List Value}{ns:List Int}
  (KX:K.In s₁.heap) (hns:s₁.heap.Ns mainGlobals mg) (hb:s₁.heap.Ns builtinsNs mb) (hbb:∀x:Str,x≠"__name__"->mb x=bootBuiltins x) (hlim:s₁.heap.NoLimit) (hg:s₁.gens=#[])
  (ha:s₁.heap.get? a=some {cls:=.type "list",data:=.seq vs.toArray}) (hi:IntsAre vs ns) (hl:ns.length<=sizeLine) (hr:Room k callerA)
  (F:∀base:Heap,K.In base->base.Ns mainGlobals mg->FnOk P w K mg base CX k fa fd [x] sp) (hbind:∀(s:Shared) (u:Value),BindsTo s fd ⟨[u],[]⟩ [(x,u)])
  (hsp:∀H:Hp,Only H->SqL K H a (ns.map V.int)->sp [.ref a] H (fun v _=>v=.bl true) fun _ _ _=>False)
  (hCX:∀H e s',CX [] H s₁ (fun _ _ _=>False) e s'->False) :
  codeAny (model P w) callerA (.call (.ref fa) ⟨[.ref a],[]⟩) (fun r s'=>r=.ok (.ret (.bool true))/\OldK s₁.heap s'.heap/\s'.os=s₁.os/\AllBare s'.gens) s₁:=by
 have rv:=vals_ints hi
 have lenV:=hi.length
 have core:∀H:Hp,Only H->SqL K H a (ns.map V.int)->HOk P w H s₁.heap->(∀b,H b≠none->b=a)->(H a≠none->K.lookup a=none)->
   codeAny (model P w) callerA (.call (.ref fa) ⟨[.ref a],[]⟩) (fun r s'=>r=.ok (.ret (.bool true))/\OldK s₁.heap s'.heap/\s'.os=s₁.os/\AllBare s'.gens) s₁:=by
  intro H hO hS hok hA hK
  have base_of:∀{b:Addr} {o:Obj},s₁.heap.get? b=some o->H b=none->(hidT s₁.heap H).get? b=some o:=fun e n=>hidT_get e n
  have noA:∀{b:Addr} {o:Obj} {es:Array DictEntry} {ep:Nat},s₁.heap.get? b=some o->o.data=.dict es ep->H b=none:=fun{b o es ep} e d=>by
   cases q:H b with
   | none=>rfl
   | some u=>
    have e':b=a:=hA b (by rw[q];simp)
    subst e'
    rw[ha]at e;cases e
    have d':Data.seq vs.toArray _=Data.dict es ep:=d
    cases d'
  have nsK:∀{b:Addr} {m:Str->Option Value},s₁.heap.Ns b m->(hidT s₁.heap H).Ns b m:=fun{b m} ⟨o,es,ep,e,d,r⟩=>⟨o,es,ep,base_of e (noA e d),d,r⟩
  have hKb:K.In (hidT s₁.heap H):=fun b o e=>base_of (KX b o e) (by
   cases q:H b with
   | none=>rfl
   | some u=>
    have e':b=a:=hA b (by rw[q];simp)
    subst e'
    rw[hK (by rw[q];simp)]at e;cases e)
  have hM:Mod K mg (hidT s₁.heap H):=⟨hKb,nsK hns,⟨mb,nsK hb,hbb⟩,let ⟨mc,h1,h2⟩:=hlim;⟨mc,nsK h1,h2⟩⟩
  have e0:Env0 P w K mg (hidT s₁.heap H) callerA [] s₁ H:=⟨rfl,hM,fun b o e=>of_hidT e,Nat.le_of_eq (hidT_size _ _),trivial,fun b hb=>absurd (show b∈([]:List Addr)from hb) (by simp),hok,.of_eq hg⟩
  refine codeAny_mono ((F _ hKb (nsK hns)).run callerA [] s₁ H ⟨[.ref a],[]⟩ [.ref a] [.ref a] _ _ hr e0 (hbind s₁ (.ref a)) (.cons rfl .nil) (hsp H hO hS)) fun r s' h=>?_
  cases r with
  | error e=>exact(hCX H e s' h).elim
  | ok fl=>
   cases fl with
   | next=>exact False.elim h
   | brk=>exact False.elim h
   | cont=>exact False.elim h
   | ret u=>
    obtain⟨v,H',os,bare,un,hok',r',q⟩:=h
    have q':v=.bl true:=q
    subst q'
    obtain rfl:u=Value.bool true:=r'
    refine⟨rfl,OldK.of_keep fun b o e=>?_,os,bare⟩
    cases q:H b with
    | none=>exact un.keep b o e q (by intro z;exact absurd (show b∈([]:List Addr)from z) (by simp)) (by simp)
    | some u=>
     rcases hO b with z|⟨ob,xs,z⟩
     .rw[q]at z;cases z
     .have z2:=un.frzs b ob _ z
      obtain⟨e1,_⟩:=hok b _ z
      obtain⟨e2,_⟩:=hok' b _ z2
      rw[e]at e1;cases e1
      exact e2
 cases hk:K.lookup a with
 | some o=>
  have e:=KX a o hk
  rw[ha]at e
  cases e
  refine core (fun _=>none) (fun _=>.inl rfl) (.inr ⟨_,vs.toArray,_,hk,rfl,rfl,rfl,by rw[List.size_toArray,lenV];exact hl,by simpa using rv⟩) (fun b u z=>by have z':(none:Option HO)=some u:=z;cases z') (fun b z=>absurd rfl z) fun z=>absurd rfl z
 | none=>
  refine core (fun b=>if b=a then some (.frz {cls:=.type "list",data:=.seq vs.toArray} (.lst (ns.map V.int)))else none) (fun b=>?_) (.inl (.inr ⟨{cls:=.type "list",data:=.seq vs.toArray},if_pos rfl⟩)) (fun b u z=>?_) (fun b z=>?_) fun _=>hk
  .by_cases hb:b=a
   .exact .inr ⟨_,_,if_pos hb⟩
   .exact .inl (if_neg hb)
  .by_cases hb:b=a
   .have z':=(if_pos hb).symm.trans z
    cases z'
    subst hb
    exact⟨ha,by rw[List.length_map];exact hl,vs,_,rv,ha⟩
   .have z':=(if_neg hb).symm.trans z
    cases z'
  .by_cases hb:b=a
   .exact hb
   .exact absurd (if_neg hb) z
end L2
namespace L2
open PySem PySem.Spec PyProof.Rows
theorem walk_of{l:PySem.W.OpenLaw}{n k:Nat}{q:Program}{loose:List Str}{XP:(Str->Option Value)->Heap->Prop}{YP:World->Heap->Prop}{d:DefRec}{K:Params->PySem.W.Frag}{CX:World->CXT}{sp:World->Sp}{x:Str}
  (hn:l.most=some n) (hn2:n<=sizeLine) (hdf:d.params.defaults=[]) (hr:Room k callerA)
  (hY:∀(w:World) (h:Heap),YP w h->(K w.params).In h)
  (F:∀(w:World) (mg:Str->Option Value) (fa:Addr) (h:Heap),(K w.params).In h->h.Ns mainGlobals mg->mg d.name=some (.ref fa)->
   ∃fd:FuncData,(∀(s:Shared) (u:Value),BindsTo s fd ⟨[u],[]⟩ [(x,u)])/\
    ∀base:Heap,(K w.params).In base->base.Ns mainGlobals mg->FnOk l.prog w (K w.params) mg base (CX w) k fa fd [x] (sp w))
  (hsp:∀(w:World) (H:Hp) (a:Addr) (ns:List Int),ns.length<=n->Only H->SqL (K w.params) H a (ns.map V.int)->sp w [.ref a] H (fun v _=>v=.bl true) fun _ _ _=>False)
  (hCX:∀(w:World) (H:Hp) (s:Shared) (e:Value) (s':Shared),CX w [] H s (fun _ _ _=>False) e s'->False) :
  PySem.W.WalkO q loose XP YP l.row.toRowW d [] (fun f vs=>PySem.call f vs):=by
 refine Att.attach_call hn hdf fun w s₀ s₁ mg mb fa o pm cd doc a vs ns G Y ho hd hcd hmg hobj hints hlen hg=>?_
 have KX:=hY w _ Y
 obtain⟨fd,hb,hF⟩:=F w mg fa _ KX G.T.g hmg
 exact law_call KX G.T.g G.T.b G.T.builtins G.T.nolimit hg hobj hints (Nat.le_trans hlen hn2) hr hF hb (fun H hO hS=>hsp w H a ns hlen hO hS) fun H e s'=>hCX w H s₁ e s'
end L2
namespace L2
open PySem PySem.Spec PyProof.Rows
noncomputable def defArgs(s:Stmt):Arguments:=match s with
 | .FunctionDef _ a _ _ _ _ _ _ _ _=>a
 | _=>{posonlyargs:=[],args:=[],vararg:=none,kwonlyargs:=[],kw_defaults:=[],kwarg:=none,defaults:=[]}
noncomputable def defBody(s:Stmt):List Stmt:=match s with
 | .FunctionDef _ _ b _ _ _ _ _ _ _=>b
 | _=>[]
noncomputable def defScope(s:Stmt):Scope:=match s with
 | .FunctionDef _ _ _ _ _ _ sc _ _ _=>sc
 | _=>{kind:=.function,names:=[],isGenerator:=false,isCoroutine:=false}
noncomputable abbrev CX0:CXT:=fun _ _ _ _ _ _=>False
noncomputable abbrev E0:XK:=fun _ _ _=>False
theorem pass0{X:Cx}:Passes CX0 X E0:=fun _ _ _ _ _ _ _ h=>h.elim
structure Fun(K:PySem.W.Frag)(x qual:Str)(st:Stmt)(f:Addr)(fd:FuncData):Prop where
 ex:∃(oc:Value) (od:Option Addr) (kV doc pm:Value) (an:Option Addr) (cdv ct:Value) (osl:Array (Option Value)),
  fd=PySem.W.fnOf x qual (defArgs st) (defBody st) (defScope st) .none kV doc pm an cdv ct/\K.lookup f=some ⟨oc,od,.func fd,osl⟩/\PySem.W.codeIn K cdv qual=true
 kp:PySem.W.keepIn K (.ref f)=true
section
variable{P:Program}{w:World}{K:PySem.W.Frag}{mg:Str->Option Value}{base:Heap}
theorem Fun.ok{x qual:Str}{st:Stmt}{f:Addr}{fd:FuncData}{N ps:List Str}{k:Nat}{sp:Sp}(F:Fun K x qual st f fd)(S:FnScope N ps (defScope st))(len:∀vs H Q E,sp vs H Q E->vs.length=ps.length)
  (hbody:∀(cdv:Value) (A:Around) (outer:List Env) (s:Shared) (H:Hp) (vs:List V) (Q:VK) (E:XK),Room k (A.deeper (envOfC qual (defScope st) s.heap.objs.size f cdv))->sp vs H Q E->
   ∃t,PSs (cxOf CX0 P w K mg base N qual (defScope st) f cdv A outer s H E).nox (defBody st) t/\t {nx:=fun _ H'=>Q .non H',rt:=Q} (start N vs) H):FnOk P w K mg base CX0 (k+1) f fd ps sp:=by
 obtain⟨oc,od,kV,doc,pm,an,cdv,ct,osl,rfl,lk,hcd⟩:=F.ex
 refine fn_of lk hcd S len fun A outer s H vs Q E hr hsp=>?_
 obtain⟨t,h,q⟩:=hbody cdv A outer s H vs Q E hr hsp
 exact⟨t,h.nox,q⟩
theorem Fun.binds{x qual:Str}{st:Stmt}{f:Addr}{fd:FuncData}{ps:List Str}(F:Fun K x qual st f fd)
  (h:∀(kV doc pm:Value) (an:Option Addr) (cdv ct:Value) (us:List Value),us.length=ps.length->bindArgs (PySem.W.fnOf x qual (defArgs st) (defBody st) (defScope st) .none kV doc pm an cdv ct) ⟨us,[]⟩=pure (ps.zip us)):Binds K fd ps []:=by
 obtain⟨oc,od,kV,doc,pm,an,cdv,ct,osl,rfl,lk,hcd⟩:=F.ex
 exact .all (h kV doc pm an cdv ct)
theorem fun_mk{x qual:Str}{st:Stmt}{f:Addr}{oc:Value}{od an:Option Addr}{osl:Array (Option Value)}{kV doc pm cdv ct:Value}(l:K.lookup f=some ⟨oc,od,.func (PySem.W.fnOf x qual (defArgs st) (defBody st) (defScope st) .none kV doc pm an cdv ct),osl⟩)
  (c:PySem.W.codeIn K cdv qual=true) (k:PySem.W.keepIn K (.ref f)=true):Fun K x qual st f (PySem.W.fnOf x qual (defArgs st) (defBody st) (defScope st) .none kV doc pm an cdv ct):=⟨⟨oc,od,kV,doc,pm,an,cdv,ct,osl,rfl,l,c⟩,k⟩
end
theorem small1000{n:Nat}(h:n<=1000):n<sizeLine:=Nat.lt_of_le_of_lt h (by decide)
section
variable{X:Cx}
theorem pv(i:Nat){x:Str}{pos:Pos}(hN:X.N[i]?=some x:=by rfl)(hv:Vis X.env.scope x:=by first|exact Or.inl rfl|exact Or.inr (Or.inl rfl)|exact Or.inr (Or.inr rfl))(hd:(x==("__debug__" : Str))=false:=by decide)
  (hcd:(x==("__classdict__" : Str))=false:=by decide):PE X (.Name x pos) (tVar i):=pe_var hN hv hd hcd
end
theorem iteF{A B:Prop}(h:B):if false=true then A else B:=by
 rw[if_neg Bool.false_ne_true]
 exact h
theorem iteT{A B:Prop}(h:A):if true=true then A else B:=by
 rw[if_pos rfl]
 exact h
theorem ite2{c A B:Prop}[Decidable c](h1:c->A)(h2:¬c->B):if c then A else B:=by
 by_cases h:c
 .rw[if_pos h]
  exact h1 h
 .rw[if_neg h]
  exact h2 h
noncomputable def Same(H H':Hp):Prop:=∀b o,H b=some o->H' b=some o
theorem Same.refl(H:Hp):Same H H:=fun _ _ h=>h
theorem Same.trans{H H1 H2:Hp}(a:Same H H1)(b:Same H1 H2):Same H H2:=fun c o h=>b c o (a c o h)
theorem Same.free{H H':Hp}(e:Same H H'){l:Addr}(h:H' l=Option.none):H l=Option.none:=by
 cases q:H l with
 | none=>rfl
 | some o=>
  rw[e l o q]at h
  cases h
end L2
namespace L3
theorem hid{G:Prop}(h:∀C:Prop,(G->C)->C):G:=h G id
end L3
namespace L3
open PySem PyProof.Rows
noncomputable def gallop':Bool->Keyed->Array Keyed->Nat->Nat->Nat->StateT SortSt Sem (Option Nat):=sortPriv% PySem.Builtin.gallop
noncomputable def beyond'(left:Bool)(key:Keyed)(arr:Array Keyed)(base i:Nat):StateT SortSt Sem (Option Bool):=do
 let x <-elem' arr (base+i)
 if left then lt' x key else return (<-lt' key x).map (!·)
theorem wpS_ite{M:Model}{A:Around}{E:Value->Shared->Prop}{s:Shared}{σ α:Type}{c:Prop}[Decidable c]{t e:StateT σ Sem α}{Q:α->σ->Prop}{st:σ}(a:c->wpS M A E s t Q st)(b:¬c->wpS M A E s e Q st):wpS M A E s (if c then t else e) Q st:=by
 by_cases h:c
 .rw[if_pos h];exact a h
 .rw[if_neg h];exact b h
section
variable{prog:Program}{w:World}{A:Around}{E:Value->Shared->Prop}{s:Shared}
noncomputable def CmpS(prog:Program)(w:World)(A:Around)(s:Shared)(κ:SortKind)(mem:Keyed->Prop)(lt:Keyed->Keyed->Bool):Prop:=
 ∀x y,mem x->mem y->∀(Q:Bool->Shared->Prop),Q (lt x y) s->wpAny (model prog w) A (keyLt' κ x.1 y.1) Q (fun _ _=>False) s
variable{κ:SortKind}{mem:Keyed->Prop}{lt:Keyed->Keyed->Bool}
theorem wpS_lt(C:CmpS prog w A s κ mem lt){st:SortSt}(hk:kindOf st=κ){x y:Keyed}(hx:mem x)(hy:mem y){Q:Option Bool->SortSt->Prop}(h:Q (some (lt x y)) st):wpS (model prog w) A E s (lt' x y) Q st:=by
 rw[lt'_eq]
 refine wpS_bind (wpS_get ?_)
 rw[hk]
 refine wpS_bind (wpS_lift (wpAny_attempt (wpAny_mono (C x y hx hy (fun b s'=>s'=s/\b=lt x y) ⟨rfl,rfl⟩) (fun b s' hb=>⟨hb.1,?_⟩) fun _ _ z=>z.elim)))
 rw[hb.2]
 exact wpS_pure h
theorem wpS_beyond(C:CmpS prog w A s κ mem lt){st:SortSt}(hk:kindOf st=κ){left:Bool}{key:Keyed}{arr:Array Keyed}{base i:Nat}{x:Keyed}(hx:arr[base+i]?=some x)(hm:mem x)(hy:mem key){Q:Option Bool->SortSt->Prop}(h:Q (some (if left=true then lt x key else !lt key x)) st) :
  wpS (model prog w) A E s (beyond' left key arr base i) Q st:=by
 unfold beyond'
 rw[elem'_eq,hx]
 refine wpS_bind (wpS_pure ?_)
 cases left with
 | true=>exact wpS_lt C hk hm hy h
 | false=>exact wpS_bind (wpS_lt C hk hy hm (wpS_pure h))
theorem wpS_gallop(C:CmpS prog w A s κ mem lt){st:SortSt}(hk:kindOf st=κ){left:Bool}{key:Keyed}{arr:Array Keyed}{base n hint:Nat}(hkey:mem key)
  (harr:∀i,i<n->∃x,arr[base+i]?=some x/\mem x) (hh:hint<n) (B:Nat->Bool) (hB:∀i x,i<n->arr[base+i]?=some x->B i=(if left=true then lt x key else !lt key x))
  (mono:∀i j,i<=j->j<n->B j=true->B i=true) {Q:Option Nat->SortSt->Prop} (h:∀k,k<=n->(∀i,i<k->B i=true)->(∀i,k<=i->i<n->B i=false)->Q (some k) st) :
  wpS (model prog w) A E s (gallop' left key arr base n hint) Q st:=by
 have ask:∀(i:Nat) (Q:Option Bool->SortSt->Prop),i<n->Q (some (B i)) st->wpS (model prog w) A E s (beyond' left key arr base i) Q st:=fun i Q hi q=>by
  obtain⟨x,hx,hm⟩:=harr i hi
  rw[hB i x hi hx]at q
  exact wpS_beyond C hk hx hm hkey q
 have fin:∀(lo hi:Nat) ,lo<=hi->hi<=n->(∀i,i<lo->B i=true)->(∀i,hi<=i->i<n->B i=false)->
   wpS (model prog w) A E s (do
    let mut l:=lo
    let mut r:=hi
    for _ in [0:n] do
     if l>=r then break
     let mid:=l+(r-l)/2
     let some up <-beyond' left key arr base mid|return none
     if up then l:=mid+1 else r:=mid
    return some r) Q st:=by
  intro lo hi h1 h2 h3 h4
  refine wpS_bind (wpS_mono (wpS_forRange (I:=fun x c st'=>st'=st/\∃l r,c=(none,l,r)/\l<=r/\r<=n/\r-l<=n-x/\(∀i,i<l->B i=true)/\(∀i,r<=i->i<n->B i=false))
   (Q:=fun c st'=>st'=st/\∃l r,c=(none,l,r)/\l=r/\r<=n/\(∀i,i<l->B i=true)/\(∀i,r<=i->i<n->B i=false)) ?step ?fin ?init) ?post)
  case init=>exact⟨rfl,(x_EE lo hi ⟨rfl,h1,h2,by omega,h3,h4⟩)⟩
  case fin=>
   intro c st' hIh
   refine hid fun Cg hCg=>?_
   obtain⟨rfl,l,r,rfl,a1,a2,a3,a4,a5⟩:=hIh
   refine hCg ?_
   exact⟨rfl,(x_EE l r ⟨rfl,by omega,a2,a4,a5⟩)⟩
  case post=>
   intro c st' hIh
   refine hid fun Cg hCg=>?_
   obtain⟨rfl,l,r,rfl,rfl,a2,a4,a5⟩:=hIh
   refine hCg ?_
   exact wpS_pure (h l a2 a4 a5)
  case step=>
   intro x c st' _ hx hIh
   refine hid fun Cg hCg=>?_
   obtain⟨rfl,l,r,rfl,a1,a2,a3,a4,a5⟩:=hIh
   refine hCg ?_
   dsimp only
   by_cases hge:l>=r
   .rw[if_pos hge]
    exact wpS_pure ⟨rfl,(x_EE l r ⟨rfl,by omega,a2,a4,a5⟩)⟩
   .rw[if_neg hge]
    refine wpS_bind (ask _ _ (by omega) ?_)
    cases hb:B (l+(r-l)/2)with
    | true=>exact wpS_pure ⟨rfl,(x_EE (l+(r-l)/2+1) r ⟨rfl,by omega,a2,by omega,fun i hi=>mono _ _ (show i<=l+(r-l)/2 by omega) (by omega) hb,a5⟩)⟩
    | false=>
     refine wpS_pure ⟨rfl,(x_EE l (l+(r-l)/2) ⟨rfl,by omega,by omega,by omega,a4,fun i hi hn=>?_⟩)⟩
     cases hbi:B i with
     | false=>rfl
     | true=>rw[mono _ _ hi hn hbi]at hb;cases hb
 refine wpS_bind (ask hint _ hh ?_)
 cases hb0:B hint with
 | true=>
  dsimp only
  simp only[if_true]
  refine wpS_bind (wpS_mono (wpS_forRange (I:=fun x c st'=>st'=st/\∃lo ofs,c=(none,lo,ofs)/\x+1<=ofs/\lo<ofs/\hint+lo<n/\B (hint+lo)=true)
   (Q:=fun c st'=>st'=st/\∃lo ofs,c=(none,lo,ofs)/\lo<ofs/\hint+lo<n/\B (hint+lo)=true/\(n-hint<=ofs\/(ofs<n-hint/\B (hint+ofs)=false))) ?step ?fin ?init) ?post)
  case init=>exact⟨rfl,(x_EE 0 1 ⟨rfl,by omega,by omega,by omega,hb0⟩)⟩
  case fin=>
   intro c st' hIh
   refine hid fun Cg hCg=>?_
   obtain⟨rfl,lo,ofs,rfl,a1,a2,a3,a4⟩:=hIh
   refine hCg ?_
   exact⟨rfl,(x_EE lo ofs ⟨rfl,a2,a3,a4,.inl (by omega)⟩)⟩
  case step=>
   intro x c st' _ hx hIh
   refine hid fun Cg hCg=>?_
   obtain⟨rfl,lo,ofs,rfl,a1,a2,a3,a4⟩:=hIh
   refine hCg ?_
   dsimp only
   by_cases hge:ofs>=n-hint
   .rw[if_pos hge]
    exact wpS_pure ⟨rfl,(x_EE lo ofs ⟨rfl,a2,a3,a4,.inl hge⟩)⟩
   .rw[if_neg hge]
    refine wpS_bind (ask _ _ (by omega) ?_)
    cases hb:B (hint+ofs)with
    | false=>exact wpS_pure ⟨rfl,(x_EE lo ofs ⟨rfl,a2,a3,a4,.inr ⟨by omega,hb⟩⟩)⟩
    | true=>exact wpS_pure ⟨rfl,(x_EE ofs (2*ofs+1) ⟨rfl,by omega,by omega,by omega,hb⟩)⟩
  case post=>
   intro c st' hIh
   refine hid fun Cg hCg=>?_
   obtain⟨rfl,lo,ofs,rfl,a2,a3,a4,a5⟩:=hIh
   refine hCg ?_
   dsimp only
   refine fin _ _ ?_ ?_ (fun i hi=>mono _ _ (show i<=hint+lo by omega) a3 a4) fun i hi hn=>?_
   .omega
   .omega
   .rcases a5 with h5|⟨h5,h6⟩
    .omega
    .cases hbi:B i with
     | false=>rfl
     | true=>rw[mono _ _ (show hint+ofs<=i by omega) hn hbi]at h6;cases h6
 | false=>
  dsimp only
  simp only[Bool.false_eq_true,if_false]
  refine wpS_bind (wpS_mono (wpS_forRange (I:=fun x c st'=>st'=st/\∃lo ofs,c=(none,lo,ofs)/\x+1<=ofs/\lo<ofs/\lo<=hint/\B (hint-lo)=false)
   (Q:=fun c st'=>st'=st/\∃lo ofs,c=(none,lo,ofs)/\lo<ofs/\lo<=hint/\B (hint-lo)=false/\(hint+1<=ofs\/(ofs<hint+1/\B (hint-ofs)=true))) ?step ?fin ?init) ?post)
  case init=>exact⟨rfl,(x_EE 0 1 ⟨rfl,by omega,by omega,by omega,hb0⟩)⟩
  case fin=>
   intro c st' hIh
   refine hid fun Cg hCg=>?_
   obtain⟨rfl,lo,ofs,rfl,a1,a2,a3,a4⟩:=hIh
   refine hCg ?_
   exact⟨rfl,(x_EE lo ofs ⟨rfl,a2,a3,a4,.inl (by omega)⟩)⟩
  case step=>
   intro x c st' _ hx hIh
   refine hid fun Cg hCg=>?_
   obtain⟨rfl,lo,ofs,rfl,a1,a2,a3,a4⟩:=hIh
   refine hCg ?_
   dsimp only
   by_cases hge:ofs>=hint+1
   .rw[if_pos hge]
    exact wpS_pure ⟨rfl,(x_EE lo ofs ⟨rfl,a2,a3,a4,.inl hge⟩)⟩
   .rw[if_neg hge]
    refine wpS_bind (ask _ _ (by omega) ?_)
    cases hb:B (hint-ofs)with
    | true=>exact wpS_pure ⟨rfl,(x_EE lo ofs ⟨rfl,a2,a3,a4,.inr ⟨by omega,hb⟩⟩)⟩
    | false=>exact wpS_pure ⟨rfl,(x_EE ofs (2*ofs+1) ⟨rfl,by omega,by omega,by omega,hb⟩)⟩
  case post=>
   intro c st' hIh
   refine hid fun Cg hCg=>?_
   obtain⟨rfl,lo,ofs,rfl,a2,a3,a4,a5⟩:=hIh
   refine hCg ?_
   dsimp only
   refine fin _ _ ?_ ?_ (fun i hi=>?_) fun i hi hn=>?_
   .omega
   .omega
   .rcases a5 with h5|⟨h5,h6⟩
    .omega
    .exact mono _ _ (show i<=hint-ofs by omega) (by omega) h6
   .cases hbi:B i with
    | false=>rfl
    | true=>rw[mono _ _ (show hint-lo<=i by omega) hn hbi]at a4;cases a4
end
structure KOrd(lt:Keyed->Keyed->Bool):Prop where
 asy:∀x y,lt x y=true->lt y x=false
 tr:∀x y z,lt y x=false->lt z y=false->lt z x=false
noncomputable def Srt(lt:Keyed->Keyed->Bool)(l:List Keyed):Prop:=l.Pairwise fun x y=>lt y x=false
structure Mid(lt:Keyed->Keyed->Bool)(la lb out:List Keyed)(ia ib:Nat):Prop where
 perm:out.Perm (la.take ia++lb.take ib)
 srt:Srt lt out
 leA:∀x∈out,∀y∈la.drop ia,lt y x=false
 leB:∀x∈out,∀y∈lb.drop ib,lt y x=false
section
variable{lt:Keyed->Keyed->Bool}{la lb out:List Keyed}{ia ib:Nat}
theorem take_more{l:List Keyed}{i k:Nat}:l.take (i+k)=l.take i++(l.drop i).take k:=by
 rw[List.take_add]
theorem Mid.pushA(m:Mid lt la lb out ia ib)(hA:Srt lt la)(k:Nat)(h:∀x∈(la.drop ia).take k,∀y∈lb.drop ib,lt y x=false):Mid lt la lb (out++(la.drop ia).take k) (ia+k) ib:=by
 have hd:Srt lt (la.drop ia):=List.Pairwise.sublist (List.drop_sublist _ _) hA
 have hs:(la.drop ia).take k++la.drop (ia+k)=la.drop ia:=by
  rw[<-List.drop_drop];exact List.take_append_drop k _
 have hd2:=hd
 unfold Srt at hd2
 rw[<-hs,List.pairwise_append]at hd2
 refine⟨?_,?_,fun x hx y hy=>?_,fun x hx y hy=>?_⟩
 .rw[take_more]
  refine((m.perm.append_right _).trans ?_)
  rw[List.append_assoc,List.append_assoc]
  exact List.Perm.append_left _ List.perm_append_comm
 .exact List.pairwise_append.mpr ⟨m.srt,hd2.1,fun x hx y hy=>m.leA x hx y (List.mem_of_mem_take hy)⟩
 .rcases List.mem_append.mp hx with h1|h1
  .exact m.leA x h1 y (by rw[<-hs];exact List.mem_append_right _ hy)
  .exact hd2.2.2 x h1 y hy
 .rcases List.mem_append.mp hx with h1|h1
  .exact m.leB x h1 y hy
  .exact h x h1 y hy
theorem Mid.pushB(m:Mid lt la lb out ia ib)(hB:Srt lt lb)(k:Nat)(h:∀x∈(lb.drop ib).take k,∀y∈la.drop ia,lt y x=false):Mid lt la lb (out++(lb.drop ib).take k) ia (ib+k):=by
 have hd:Srt lt (lb.drop ib):=List.Pairwise.sublist (List.drop_sublist _ _) hB
 have hs:(lb.drop ib).take k++lb.drop (ib+k)=lb.drop ib:=by
  rw[<-List.drop_drop];exact List.take_append_drop k _
 have hd2:=hd
 unfold Srt at hd2
 rw[<-hs,List.pairwise_append]at hd2
 refine⟨?_,?_,fun x hx y hy=>?_,fun x hx y hy=>?_⟩
 .rw[take_more,<-List.append_assoc]
  exact m.perm.append_right _
 .exact List.pairwise_append.mpr ⟨m.srt,hd2.1,fun x hx y hy=>m.leB x hx y (List.mem_of_mem_take hy)⟩
 .rcases List.mem_append.mp hx with h1|h1
  .exact m.leA x h1 y hy
  .exact h x h1 y hy
 .rcases List.mem_append.mp hx with h1|h1
  .exact m.leB x h1 y (by rw[<-hs];exact List.mem_append_right _ hy)
  .exact hd2.2.2 x h1 y hy
noncomputable def Merged(lt:Keyed->Keyed->Bool)(la lb out:List Keyed):Prop:=out.Perm (la++lb)/\Srt lt out
theorem Mid.endB(m:Mid lt la lb out ia ib)(hA:Srt lt la)(h:lb.length<=ib):Merged lt la lb (out++la.drop ia):=by
 have hd:Srt lt (la.drop ia):=List.Pairwise.sublist (List.drop_sublist _ _) hA
 refine⟨?_,List.pairwise_append.mpr ⟨m.srt,hd,m.leA⟩⟩
 have e:lb.take ib=lb:=List.take_of_length_le h
 have p:=m.perm.append_right (la.drop ia)
 rw[e,List.append_assoc]at p
 refine p.trans ((List.Perm.append_left _ List.perm_append_comm).trans ?_)
 rw[<-List.append_assoc,List.take_append_drop]
theorem Mid.endA(m:Mid lt la lb out ia ib)(hB:Srt lt lb)(h:la.length<=ia):Merged lt la lb (out++lb.drop ib):=by
 have hd:Srt lt (lb.drop ib):=List.Pairwise.sublist (List.drop_sublist _ _) hB
 refine⟨?_,List.pairwise_append.mpr ⟨m.srt,hd,m.leB⟩⟩
 have e:la.take ia=la:=List.take_of_length_le h
 have p:=m.perm.append_right (lb.drop ib)
 rw[e,List.append_assoc,List.take_append_drop]at p
 exact p
theorem Mid.lastA(m:Mid lt la lb out ia ib)(o:KOrd lt)(hA:Srt lt la)(hB:Srt lt lb)(h:ia+1=la.length)(hl:∀y∈lb,∀x∈la.drop ia,lt y x=true):Merged lt la lb (out++lb.drop ib++la.drop ia):=by
 have m2:=m.pushB hB (lb.length-ib) fun x hx y hy=>o.asy _ _ (hl x (List.mem_of_mem_drop (List.mem_of_mem_take hx)) y hy)
 have e:(lb.drop ib).take (lb.length-ib)=lb.drop ib:=List.take_of_length_le (by rw[List.length_drop];exact Nat.le_refl _)
 rw[e]at m2
 exact m2.endB hA (by omega)
end
noncomputable def setMinGallop':Nat->StateT SortSt Sem Unit:=sortPriv% PySem.Builtin.setMinGallop
noncomputable abbrev setGal(st:SortSt)(g:Nat):SortSt:=SortSt.mk' (kindOf st) (arrOf st) (pendingOf st) g (failedOf st)
noncomputable def mergeLo':Array Keyed->Array Keyed->StateT SortSt Sem (Array Keyed):=sortPriv% PySem.Builtin.mergeLo
noncomputable def SameG(st st':SortSt):Prop:=kindOf st'=kindOf st/\arrOf st'=arrOf st/\pendingOf st'=pendingOf st/\failedOf st'=failedOf st
theorem SameG.refl(st:SortSt):SameG st st:=⟨rfl,rfl,rfl,rfl⟩
theorem SameG.gal{st st':SortSt}(h:SameG st st')(g:Nat):SameG st (setGal st' g):=h
section
variable{prog:Program}{w:World}{A:Around}{E:Value->Shared->Prop}{s:Shared}
variable{κ:SortKind}{mem:Keyed->Prop}{lt:Keyed->Keyed->Bool}
structure Two(mem:Keyed->Prop)(lt:Keyed->Keyed->Bool)(a b:Array Keyed):Prop where
 mA:∀x∈a.toList,mem x
 mB:∀x∈b.toList,mem x
 sA:Srt lt a.toList
 sB:Srt lt b.toList
 pA:0<a.size
 pB:0<b.size
 first:∀x y,b[0]?=some x->a[0]?=some y->lt x y=true
 last:∀y∈b.toList,∀x,a[a.size-1]?=some x->lt y x=true
theorem gal_at{st:SortSt}{g:Nat}{Q:Unit->SortSt->Prop}(q:Q () (setGal st g)):wpS (model prog w) A E s (setMinGallop' g) Q st:=
 show wpS (model prog w) A E s (modify fun z=>setGal z g) Q st from wpS_modify q
theorem elem_at{arr:Array Keyed}{i:Nat}{x:Keyed}(h:arr[i]?=some x){st:SortSt}{Q:Keyed->SortSt->Prop}(q:Q x st):wpS (model prog w) A E s (elem' arr i) Q st:=by
 rw[elem'_eq,h]
 exact wpS_pure q
theorem drop_at{arr:Array Keyed}{i:Nat}{x:Keyed}(h:arr[i]?=some x):arr.toList.drop i=x::arr.toList.drop (i+1):=by
 obtain⟨hi,e⟩:=Array.getElem?_eq_some_iff.mp h
 have:=List.drop_eq_getElem_cons (l:=arr.toList) (i:=i) (by simpa using hi)
 rw[this]
 simp[e]
theorem srt_head{l:List Keyed}{x:Keyed}{r:List Keyed}(o:KOrd lt)(hs:Srt lt l)(e:l=x::r):∀z∈l,lt z x=false:=by
 subst e
 intro z hz
 rcases List.mem_cons.mp hz with h|h
 .rw[h]
  cases q:lt x x with
  | false=>rfl
  | true=>have:=o.asy _ _ q;rw[q]at this;cases this
 .exact(List.pairwise_cons.mp hs).1 z h
theorem srt_drop{l:List Keyed}(hs:Srt lt l)(i:Nat):Srt lt (l.drop i):=List.Pairwise.sublist (List.drop_sublist _ _) hs
theorem srt_two{arr:Array Keyed}(o:KOrd lt)(hs:Srt lt arr.toList){i j:Nat}{x y:Keyed}(hij:i<=j)(hx:arr[i]?=some x)(hy:arr[j]?=some y):lt y x=false:=by
 have e:=drop_at hx
 have hm:y∈arr.toList.drop i:=by
  rw[List.mem_iff_getElem?]
  exact⟨j-i,by rw[List.getElem?_drop,show i+(j-i)=j by omega];simpa using hy⟩
 exact srt_head o (srt_drop hs i) e y hm
noncomputable def Live(lt:Keyed->Keyed->Bool)(a b out:Array Keyed)(ia ib:Nat):Prop:=Mid lt a.toList b.toList out.toList ia ib/\ia+1<a.size/\ib<b.size
theorem stepB{a b out:Array Keyed}{ia ib:Nat}{x:Keyed}(o:KOrd lt)(T:Two mem lt a b)(m:Mid lt a.toList b.toList out.toList ia ib)(hx:b[ib]?=some x)(h:∀z∈a.toList.drop ia,lt z x=false) :
  Mid lt a.toList b.toList (out.push x).toList ia (ib+1):=by
 have m2:=m.pushB T.sB 1 fun u hu y hy=>by
  rw[drop_at hx]at hu
  have:u=x:=by simpa using hu
  rw[this]
  exact h y hy
 rw[drop_at hx]at m2
 simpa using m2
theorem stepA{a b out:Array Keyed}{ia ib:Nat}{y:Keyed}(o:KOrd lt)(T:Two mem lt a b)(m:Mid lt a.toList b.toList out.toList ia ib)(hy:a[ia]?=some y)(h:∀z∈b.toList.drop ib,lt z y=false) :
  Mid lt a.toList b.toList (out.push y).toList (ia+1) ib:=by
 have m2:=m.pushA T.sA 1 fun u hu z hz=>by
  rw[drop_at hy]at hu
  have:u=y:=by simpa using hu
  rw[this]
  exact h z hz
 rw[drop_at hy]at m2
 simpa using m2
theorem le_rest{arr:Array Keyed}(o:KOrd lt)(hs:Srt lt arr.toList){i:Nat}{x y:Keyed}(hx:arr[i]?=some x)(h:lt x y=false):∀z∈arr.toList.drop i,lt z y=false:=fun z hz=>
 o.tr y x z h (srt_head o (srt_drop hs i) (drop_at hx) z hz)
theorem doneB{a b out:Array Keyed}{ia ib:Nat}(T:Two mem lt a b)(m:Mid lt a.toList b.toList out.toList ia ib)(h:ib=b.size):Merged lt a.toList b.toList (out++a.extract ia a.size++b.extract ib b.size).toList:=by
 have:=m.endB T.sA (by simp[h])
 have e:List.take (a.size-ia) (a.toList.drop ia)=a.toList.drop ia:=List.take_of_length_le (by simp)
 simpa [h,e]using this
theorem doneA{a b out:Array Keyed}{ia ib:Nat}(T:Two mem lt a b)(m:Mid lt a.toList b.toList out.toList ia ib)(h:ia=a.size):Merged lt a.toList b.toList (out++a.extract ia a.size++b.extract ib b.size).toList:=by
 have:=m.endA T.sB (by simp[h])
 have e:List.take (b.size-ib) (b.toList.drop ib)=b.toList.drop ib:=List.take_of_length_le (by simp)
 simpa [h,e]using this
theorem doneL{a b out:Array Keyed}{ia ib:Nat}(o:KOrd lt)(T:Two mem lt a b)(m:Mid lt a.toList b.toList out.toList ia ib)(h:ia+1=a.size):Merged lt a.toList b.toList (out++b.extract ib b.size++a.extract ia a.size).toList:=by
 have:=m.lastA o T.sA T.sB (by simpa using h) fun y hy x hx=>by
  have hl:a[ia]?=some (a[ia]'(by omega)):=by simp
  rw[drop_at hl,List.drop_eq_nil_of_le (by simp;omega)]at hx
  have e:x=a[ia]'(by omega):=by simpa using hx
  refine T.last y hy x ?_
  rw[e,show a.size-1=ia by omega]
  exact hl
 have e:List.take (a.size-ia) (a.toList.drop ia)=a.toList.drop ia:=List.take_of_length_le (by simp)
 have e2:List.take (b.size-ib) (b.toList.drop ib)=b.toList.drop ib:=List.take_of_length_le (by simp)
 simpa [e,e2]using this
theorem low_take{arr:Array Keyed}{P:Keyed->Prop}{base k:Nat}(h:∀i z,i<k->arr[base+i]?=some z->P z):∀z∈(arr.toList.drop base).take k,P z:=fun z hz=>by
 obtain⟨i,hi⟩:=List.mem_iff_getElem?.mp hz
 have hik:i<k:=by
  have:=(List.getElem?_eq_some_iff.mp hi).1
  rw[List.length_take]at this
  omega
 rw[List.getElem?_take_of_lt hik,List.getElem?_drop]at hi
 exact h i z hik (by simpa using hi)
theorem high_drop{arr:Array Keyed}{P:Keyed->Prop}{base k:Nat}(h:∀i z,k<=i->arr[base+i]?=some z->P z):∀z∈arr.toList.drop (base+k),P z:=fun z hz=>by
 obtain⟨i,hi⟩:=List.mem_iff_getElem?.mp hz
 rw[List.getElem?_drop]at hi
 exact h (k+i) z (by omega) (by rw[<-Nat.add_assoc];simpa using hi)
theorem wpS_galR(C:CmpS prog w A s κ mem lt)(o:KOrd lt){st:SortSt}(hk:kindOf st=κ){key:Keyed}{arr:Array Keyed}{base n hint:Nat}(hkey:mem key)(hn:base+n<=arr.size)(hm:∀i z,i<n->arr[base+i]?=some z->mem z)(hh:hint<n)
  (hs:∀i j y z,i<=j->j<n->arr[base+i]?=some y->arr[base+j]?=some z->lt z y=false) {Q:Option Nat->SortSt->Prop}
  (h:∀k,k<=n->(∀i z,i<k->arr[base+i]?=some z->lt key z=false)->(∀i z,k<=i->i<n->arr[base+i]?=some z->lt key z=true)->Q (some k) st):wpS (model prog w) A E s (gallop' false key arr base n hint) Q st:=by
 have ex:∀i,i<n->∃z,arr[base+i]?=some z:=fun i hi=>⟨arr[base+i]'(by omega),by simp⟩
 refine wpS_gallop C hk hkey (fun i hi=>?_) hh (fun i=>match arr[base+i]? with|some z=>!lt key z|none=>false) (fun i z hi hz=>by simp[hz]) (fun i j hij hj hb=>?_) fun k hkn h1 h2=>h k hkn (fun i z hi hz=>?_) fun i z hi hn' hz=>?_
 .obtain⟨z,hz⟩:=ex i hi
  exact⟨z,hz,hm i z hi hz⟩
 .obtain⟨y,hy⟩:=ex i (by omega)
  obtain⟨z,hz⟩:=ex j hj
  simp only[hz,hy,Bool.not_eq_true']at hb⊢
  exact o.tr _ _ _ (hs i j y z hij hj hy hz) hb
 .have:=h1 i hi
  simpa [hz]using this
 .have:=h2 i hi hn'
  simpa [hz]using this
theorem wpS_galL(C:CmpS prog w A s κ mem lt)(o:KOrd lt){st:SortSt}(hk:kindOf st=κ){key:Keyed}{arr:Array Keyed}{base n hint:Nat}(hkey:mem key)(hn:base+n<=arr.size)(hm:∀i z,i<n->arr[base+i]?=some z->mem z)(hh:hint<n)
  (hs:∀i j y z,i<=j->j<n->arr[base+i]?=some y->arr[base+j]?=some z->lt z y=false) {Q:Option Nat->SortSt->Prop}
  (h:∀k,k<=n->(∀i z,i<k->arr[base+i]?=some z->lt z key=true)->(∀i z,k<=i->i<n->arr[base+i]?=some z->lt z key=false)->Q (some k) st):wpS (model prog w) A E s (gallop' true key arr base n hint) Q st:=by
 have ex:∀i,i<n->∃z,arr[base+i]?=some z:=fun i hi=>⟨arr[base+i]'(by omega),by simp⟩
 refine wpS_gallop C hk hkey (fun i hi=>?_) hh (fun i=>match arr[base+i]? with|some z=>lt z key|none=>false) (fun i z hi hz=>by simp[hz]) (fun i j hij hj hb=>?_) fun k hkn h1 h2=>h k hkn (fun i z hi hz=>?_) fun i z hi hn' hz=>?_
 .obtain⟨z,hz⟩:=ex i hi
  exact⟨z,hz,hm i z hi hz⟩
 .obtain⟨y,hy⟩:=ex i (by omega)
  obtain⟨z,hz⟩:=ex j hj
  simp only[hz,hy]at hb⊢
  cases q:lt y key with
  | true=>rfl
  | false=>rw[o.tr _ _ _ q (hs i j y z hij hj hy hz)]at hb;cases hb
 .have:=h1 i hi
  simpa [hz]using this
 .have:=h2 i hi hn'
  simpa [hz]using this
theorem wpS_mergeLo(C:CmpS prog w A s κ mem lt)(o:KOrd lt){st:SortSt}(hk:kindOf st=κ){a b:Array Keyed}(T:Two mem lt a b){Q:Array Keyed->SortSt->Prop}
  (h:∀out st',SameG st st'->Merged lt a.toList b.toList out.toList->Q out st'):wpS (model prog w) A E s (mergeLo' a b) Q st:=by
 refine wpS_bind (wpS_lift (wpAny_rule ⟨rfl,?_⟩))
 have hb0:b[0]?=some (b[0]'T.pB):=by simp[T.pB]
 have ha0:a[0]?=some (a[0]'T.pA):=by simp[T.pA]
 refine wpS_bind (elem_at hb0 ?_)
 have m0:Mid lt a.toList b.toList (#[]:Array Keyed).toList 0 0:=⟨by simp,List.Pairwise.nil,by simp,by simp⟩
 have m1:=stepB o T m0 hb0 fun z hz=>o.tr _ _ _ (o.asy _ _ (T.first _ _ hb0 ha0)) (srt_head o (srt_drop T.sA 0) (drop_at ha0) z hz)
 dsimp only
 refine wpS_ite (fun(hb1:(1==b.size)=true)=>?_) (fun(hb1:¬(1==b.size)=true)=>?_)
 .exact wpS_pure (h _ _ (SameG.refl _) (doneB T m1 (by simpa using hb1)))
 refine wpS_ite (fun(ha1:(0+1==a.size)=true)=>?_) (fun(ha1:¬(0+1==a.size)=true)=>?_)
 .exact wpS_pure (h _ _ (SameG.refl _) (doneL o T m1 (by simpa using ha1)))
 have hb2:1<b.size:=by have:¬1=b.size:=by simpa using hb1
                       have:=T.pB
                       omega
 have ha2:0+1<a.size:=by have:¬0+1=a.size:=by simpa using ha1
                         have:=T.pA
                         omega
 refine wpS_bind (wpS_get ?_)
 refine wpS_bind (wpS_mono (wpS_forRange (I:=fun x c st'=>SameG st st'/\∃out ia ib mg,c=(none,out,ia,ib,mg)/\Live lt a b out ia ib/\x+1<=ia+ib)
  (Q:=fun c st'=>SameG st st'/\∃res r,c=(some res,r)/\Merged lt a.toList b.toList res.toList) ?step ?fin ?init) ?post)
 case init=>exact⟨SameG.refl _,(x_EEEE _ _ _ _ ⟨rfl,⟨m1,ha2,hb2⟩,Nat.le_refl _⟩)⟩
 case fin=>
  intro c st' hIh
  refine hid fun Cg hCg=>?_
  obtain⟨_,out,ia,ib,mg,rfl,⟨_,h1,h2⟩,h3⟩:=hIh
  refine hCg ?_
  omega
 case post=>
  intro c st' hIh
  refine hid fun Cg hCg=>?_
  obtain⟨sg,res,r,rfl,hm⟩:=hIh
  refine hCg ?_
  exact wpS_pure (h _ _ sg hm)
 case step=>
  intro x c st' _ hx hIh
  refine hid fun Cg hCg=>?_
  obtain⟨sg,out,ia,ib,mg,rfl,L,hp⟩:=hIh
  refine hCg ?_
  dsimp only
  refine wpS_bind (wpS_mono (wpS_forRange (I:=fun y c st'=>SameG st st'/\∃out' ia' ib' ac bc,c=(none,out',ia',ib',ac,bc)/\Live lt a b out' ia' ib'/\ia+ib<=ia'+ib')
   (Q:=fun c st'=>SameG st st'/\((∃res r,c=(some res,r)/\Merged lt a.toList b.toList res.toList)\/∃out' ia' ib' ac bc,c=(none,out',ia',ib',ac,bc)/\Live lt a b out' ia' ib'/\ia+ib<=ia'+ib')) ?istep ?ifin ?iinit) ?ipost)
  case iinit=>exact⟨sg,(x_EEEEE _ _ _ _ _ ⟨rfl,L,Nat.le_refl _⟩)⟩
  case ifin=>
   rintro c st2 ⟨sg2,rest⟩
   exact⟨sg2,.inr rest⟩
  case istep=>
   intro y c st2 _ hy hIh
   refine hid fun Cg hCg=>?_
   obtain⟨sg2,out',ia',ib',ac,bc,rfl,⟨m,l1,l2⟩,hp'⟩:=hIh
   refine hCg ?_
   dsimp only
   have hxb:b[ib']?=some (b[ib']'l2):=by simp[l2]
   have hxa:a[ia']?=some (a[ia']'(by omega)):=by simp
   refine wpS_bind (elem_at hxb (wpS_bind (elem_at hxa (wpS_bind (wpS_lt C (sg2.1.trans hk) (T.mB _ (by simp)) (T.mA _ (by simp)) ?_)))))
   cases hl:lt b[ib'] a[ia']with
   | true=>
    dsimp only
    simp only[if_true]
    refine wpS_bind (elem_at hxb ?_)
    have m2:=stepB o T m hxb (le_rest o T.sA hxa (o.asy _ _ hl))
    try dsimp only
    refine wpS_ite (fun(he:(ib'+1==b.size)=true)=>?_) (fun(he:¬(ib'+1==b.size)=true)=>?_)
    .exact wpS_pure ⟨sg2,.inl (x_EE _ _ ⟨rfl,doneB T m2 (by simpa using he)⟩)⟩
    .have he':¬ib'+1=b.size:=by simpa using he
     have L2:Live lt a b (out'.push b[ib']) ia' (ib'+1):=⟨m2,l1,by omega⟩
     split
     .exact wpS_pure ⟨sg2,.inr (x_EEEEE _ _ _ _ _ ⟨rfl,L2,by omega⟩)⟩
     .exact wpS_pure ⟨sg2,(x_EEEEE _ _ _ _ _ ⟨rfl,L2,by omega⟩)⟩
   | false=>
    dsimp only
    simp only[Bool.false_eq_true,if_false]
    refine wpS_bind (elem_at hxa ?_)
    have m2:=stepA o T m hxa (le_rest o T.sB hxb hl)
    try dsimp only
    refine wpS_ite (fun(he:(ia'+1+1==a.size)=true)=>?_) (fun(he:¬(ia'+1+1==a.size)=true)=>?_)
    .exact wpS_pure ⟨sg2,.inl (x_EE _ _ ⟨rfl,doneL o T m2 (by simpa using he)⟩)⟩
    .have he':¬ia'+1+1=a.size:=by simpa using he
     have L2:Live lt a b (out'.push a[ia']) (ia'+1) ib':=⟨m2,by omega,l2⟩
     split
     .exact wpS_pure ⟨sg2,.inr (x_EEEEE _ _ _ _ _ ⟨rfl,L2,by omega⟩)⟩
     .exact wpS_pure ⟨sg2,(x_EEEEE _ _ _ _ _ ⟨rfl,L2,by omega⟩)⟩
  case ipost=>
   intro c st2 hIh
   refine hid fun Cg hCg=>?_
   (rcases hIh with ⟨sg2,(⟨res,r,rfl,hm⟩|⟨out',ia',ib',ac,bc,rfl,L2,hp2⟩)⟩)<;>refine hCg ?_
   .dsimp only
    exact wpS_pure ⟨sg2,(x_EE _ _ ⟨rfl,hm⟩)⟩
   .dsimp only
    refine wpS_bind (wpS_lift (wpAny_rule ⟨rfl,?_⟩))
    refine wpS_bind (wpS_mono (wpS_forRange (I:=fun y c st'=>SameG st st'/\∃out2 ia2 ib2 mg2 ac bc,c=(none,out2,ia2,ib2,mg2,ac,bc)/\Live lt a b out2 ia2 ib2/\ia'+ib'+y<=ia2+ib2)
     (Q:=fun c st'=>SameG st st'/\((∃res r,c=(some res,r)/\Merged lt a.toList b.toList res.toList)\/∃out2 ia2 ib2 mg2 ac bc,c=(none,out2,ia2,ib2,mg2,ac,bc)/\Live lt a b out2 ia2 ib2/\ia'+ib'+1<=ia2+ib2)) ?jstep ?jfin ?jinit) ?jpost)
    case jinit=>exact⟨sg2,(x_EEEEE _ _ _ _ _ ⟨_,rfl,L2,Nat.le_refl _⟩)⟩
    case jfin=>
     intro c st3 hIh
     refine hid fun Cg hCg=>?_
     obtain⟨sg3,out2,ia2,ib2,mg2,ac2,bc2,rfl,L3,hp3⟩:=hIh
     refine hCg ?_
     exact⟨sg3,.inr (x_EEEEE _ _ _ _ _ ⟨_,rfl,L3,by have:=T.pA;omega⟩)⟩
    case jpost=>
     intro c st3 hIh
     refine hid fun Cg hCg=>?_
     (rcases hIh with ⟨sg3,(⟨res,r,rfl,hm⟩|⟨out2,ia2,ib2,mg2,ac2,bc2,rfl,L3,hp3⟩)⟩)<;>refine hCg ?_
     .dsimp only
      exact wpS_pure ⟨sg3,(x_EE _ _ ⟨rfl,hm⟩)⟩
     .dsimp only
      refine wpS_bind (gal_at ?_)
      exact wpS_pure ⟨sg3.gal _,(x_EEEE _ _ _ _ ⟨rfl,L3,by omega⟩)⟩
    case jstep=>
     intro y c st3 _ hy hIh
     refine hid fun Cg hCg=>?_
     obtain⟨sg3,out2,ia2,ib2,mg2,ac2,bc2,rfl,⟨m3,l3,l4⟩,hp3⟩:=hIh
     refine hCg ?_
     dsimp only
     have hxb:b[ib2]?=some (b[ib2]'l4):=by simp[l4]
     have memA:∀i z,a[i]?=some z->mem z:=fun i z hz=>T.mA z (by obtain⟨h1,h2⟩:=Array.getElem?_eq_some_iff.mp hz;rw[<-h2];simp)
     have memB:∀i z,b[i]?=some z->mem z:=fun i z hz=>T.mB z (by obtain⟨h1,h2⟩:=Array.getElem?_eq_some_iff.mp hz;rw[<-h2];simp)
     have body:∀(mg3:Nat) (st4:SortSt),SameG st st4->∀(k:Nat),k<=a.size-ia2->(∀i z,i<k->a[ia2+i]?=some z->lt b[ib2] z=false)->(∀i z,k<=i->i<a.size-ia2->a[ia2+i]?=some z->lt b[ib2] z=true)->
       ∃out3:Array Keyed,out3=out2++a.extract ia2 (ia2+k)/\Mid lt a.toList b.toList out3.toList (ia2+k) ib2/\∀z∈a.toList.drop (ia2+k),lt z b[ib2]=false:=by
      intro mg3 st4 sg4 k hkn h1 h2
      refine⟨_,rfl,?_,?_⟩
      .have m4:=m3.pushA T.sA k fun z hz y hy=>le_rest o T.sB hxb (low_take (P:=fun z=>lt b[ib2] z=false) h1 z hz) y hy
       have e:(out2++a.extract ia2 (ia2+k)).toList=out2.toList++(a.toList.drop ia2).take k:=by
        simp
       rw[e]
       exact m4
      .exact high_drop (P:=fun z=>lt z b[ib2]=false) fun i z hi hz=>o.asy _ _ (h2 i z hi (by have:=(Array.getElem?_eq_some_iff.mp hz).1;omega) hz)
     have rest2:∀(out4:Array Keyed) (ia3 ib3 mg3 k k1:Nat) (st4:SortSt),SameG st st4->Mid lt a.toList b.toList out4.toList ia3 ib3->ia3+1<a.size->ib3<b.size->(∀z,a[ia3]?=some z->∀u∈b.toList.drop ib3,lt u z=false)->ia'+ib'+y+1<=ia3+ib3->
       wpS (model prog w) A E s (do
        let z2 <-elem' a ia3
        if (ia3+1+1==a.size)=true then
         pure (ForInStep.done (some (out4.push z2++b.extract ib3 b.size++a.extract (ia3+1) a.size),out4.push z2,ia3+1,ib3,mg3,k,k1))
        else if (decide (k<7)&&decide (k1<7))=true then pure (ForInStep.done (none,out4.push z2,ia3+1,ib3,mg3,k,k1))
        else pure (ForInStep.yield (none,out4.push z2,ia3+1,ib3,mg3,k,k1)))
       (fun r st'=>match r with
        | .done c'=>SameG st st'/\((∃res r,c'=(some res,r)/\Merged lt a.toList b.toList res.toList)\/∃out2 ia2 ib2 mg2 ac bc,c'=(none,out2,ia2,ib2,mg2,ac,bc)/\Live lt a b out2 ia2 ib2/\ia'+ib'+1<=ia2+ib2)
        | .yield c'=>SameG st st'/\∃out2 ia2 ib2 mg2 ac bc,c'=(none,out2,ia2,ib2,mg2,ac,bc)/\Live lt a b out2 ia2 ib2/\ia'+ib'+(y+1)<=ia2+ib2) st4:=by
      intro out4 ia3 ib3 mg3 k k1 st4 sg4 m5 l5 l6 hu hp5
      have hxa:a[ia3]?=some (a[ia3]'(by omega)):=by simp
      refine wpS_bind (elem_at hxa ?_)
      have m6:=stepA o T m5 hxa (hu _ hxa)
      refine wpS_ite (fun(he:(ia3+1+1==a.size)=true)=>?_) (fun(he:¬(ia3+1+1==a.size)=true)=>?_)
      .exact wpS_pure ⟨sg4,.inl (x_EE _ _ ⟨rfl,doneL o T m6 (by simpa using he)⟩)⟩
      .have he':¬ia3+1+1=a.size:=by simpa using he
       have L6:Live lt a b (out4.push a[ia3]) (ia3+1) ib3:=⟨m6,by omega,l6⟩
       split
       .exact wpS_pure ⟨sg4,.inr (x_EEEEE _ _ _ _ _ ⟨_,rfl,L6,by omega⟩)⟩
       .exact wpS_pure ⟨sg4,(x_EEEEE _ _ _ _ _ ⟨_,rfl,L6,by omega⟩)⟩
     have rest:∀(out3:Array Keyed) (ia3 mg3 k:Nat) (st4:SortSt),SameG st st4->Mid lt a.toList b.toList out3.toList ia3 ib2->ia3+1<a.size->(∀z∈a.toList.drop ia3,lt z b[ib2]=false)->ia'+ib'+y<=ia3+ib2->
       wpS (model prog w) A E s (do
        let z <-elem' b ib2
        if (ib2+1==b.size)=true then
         pure (ForInStep.done (some (out3.push z++a.extract ia3 a.size++b.extract (ib2+1) b.size),out3.push z,ia3,ib2+1,mg3,k,bc2))
        else do
         let z1 <-elem' a ia3
         let x <-gallop' true z1 b (ib2+1) (b.size-(ib2+1)) 0
         match x with
         | some k1=>
          if k1>0 then
           if (ib2+1+k1==b.size)=true then
            pure (ForInStep.done (some (out3.push z++b.extract (ib2+1) (ib2+1+k1)++a.extract ia3 a.size++b.extract (ib2+1+k1) b.size),out3.push z++b.extract (ib2+1) (ib2+1+k1),ia3,ib2+1+k1,mg3,k,k1))
           else do
            let z2 <-elem' a ia3
            if (ia3+1+1==a.size)=true then
             pure (ForInStep.done (some ((out3.push z++b.extract (ib2+1) (ib2+1+k1)).push z2++b.extract (ib2+1+k1) b.size++a.extract (ia3+1) a.size),(out3.push z++b.extract (ib2+1) (ib2+1+k1)).push z2,ia3+1,ib2+1+k1,mg3,k,k1))
            else if (decide (k<7)&&decide (k1<7))=true then pure (ForInStep.done (none,(out3.push z++b.extract (ib2+1) (ib2+1+k1)).push z2,ia3+1,ib2+1+k1,mg3,k,k1))
            else pure (ForInStep.yield (none,(out3.push z++b.extract (ib2+1) (ib2+1+k1)).push z2,ia3+1,ib2+1+k1,mg3,k,k1))
          else do
           let z2 <-elem' a ia3
           if (ia3+1+1==a.size)=true then
            pure (ForInStep.done (some ((out3.push z).push z2++b.extract (ib2+1) b.size++a.extract (ia3+1) a.size),(out3.push z).push z2,ia3+1,ib2+1,mg3,k,k1))
           else if (decide (k<7)&&decide (k1<7))=true then pure (ForInStep.done (none,(out3.push z).push z2,ia3+1,ib2+1,mg3,k,k1))
           else pure (ForInStep.yield (none,(out3.push z).push z2,ia3+1,ib2+1,mg3,k,k1))
         | _=>pure (ForInStep.done (some (out3.push z++a.extract ia3 a.size++b.extract (ib2+1) b.size),out3.push z,ia3,ib2+1,mg3,k,bc2)))
       (fun r st'=>match r with
        | .done c'=>SameG st st'/\((∃res r,c'=(some res,r)/\Merged lt a.toList b.toList res.toList)\/∃out2 ia2 ib2 mg2 ac bc,c'=(none,out2,ia2,ib2,mg2,ac,bc)/\Live lt a b out2 ia2 ib2/\ia'+ib'+1<=ia2+ib2)
        | .yield c'=>SameG st st'/\∃out2 ia2 ib2 mg2 ac bc,c'=(none,out2,ia2,ib2,mg2,ac,bc)/\Live lt a b out2 ia2 ib2/\ia'+ib'+(y+1)<=ia2+ib2) st4:=by
      intro out3 ia3 mg3 k st4 sg4 m4 l5 hz4 hp4
      refine wpS_bind (elem_at hxb ?_)
      have m5:=stepB o T m4 hxb hz4
      refine wpS_ite (fun(he:(ib2+1==b.size)=true)=>?_) (fun(he:¬(ib2+1==b.size)=true)=>?_)
      .exact wpS_pure ⟨sg4,.inl (x_EE _ _ ⟨rfl,doneB T m5 (by simpa using he)⟩)⟩
      have he':¬ib2+1=b.size:=by simpa using he
      have hxa:a[ia3]?=some (a[ia3]'(by omega)):=by simp
      refine wpS_bind (elem_at hxa ?_)
      refine wpS_bind (wpS_galL (st:=st4) (base:=ib2+1) (n:=b.size-(ib2+1)) (hint:=0) C o (sg4.1.trans hk) (memA _ _ hxa) (by omega) (fun i z hi hz=>memB _ z hz) (by omega) (fun i j y z hij hj hy hz=>srt_two o T.sB (show ib2+1+i<=ib2+1+j by omega) hy hz) fun k1 hkn h1 h2=>?_)
      dsimp only
      have m6:=m5.pushB T.sB k1 fun z hz u hu=>le_rest o T.sA hxa (o.asy _ _ (low_take (P:=fun z=>lt z a[ia3]=true) h1 z hz)) u hu
      have e6:(out3.push b[ib2]++b.extract (ib2+1) (ib2+1+k1)).toList=(out3.push b[ib2]).toList++(b.toList.drop (ib2+1)).take k1:=by simp
      rw[<-e6]at m6
      have hu6:∀z,a[ia3]?=some z->∀u∈b.toList.drop (ib2+1+k1),lt u z=false:=fun z hz=>by
       rw[hxa]at hz
       cases hz
       exact high_drop (P:=fun u=>lt u a[ia3]=false) fun i z hi hz=>h2 i z hi (by have:=(Array.getElem?_eq_some_iff.mp hz).1;omega) hz
      refine wpS_ite (fun(hk0:k1>0)=>?_) (fun(hk0:¬(k1>0))=>?_)
      .refine wpS_ite (fun(he2:(ib2+1+k1==b.size)=true)=>?_) (fun(he2:¬(ib2+1+k1==b.size)=true)=>?_)
       .exact wpS_pure ⟨sg4,.inl (x_EE _ _ ⟨rfl,doneB T m6 (by simpa using he2)⟩)⟩
       .have he3:¬ib2+1+k1=b.size:=by simpa using he2
        exact rest2 _ ia3 (ib2+1+k1) mg3 k k1 st4 sg4 m6 l5 (by omega) hu6 (by omega)
      .have e0:k1=0:=by omega
       subst e0
       exact rest2 _ ia3 (ib2+1) mg3 k 0 st4 sg4 m5 l5 (by omega) hu6 (by omega)
     refine wpS_ite (fun(hmg:mg2>1)=>?_) (fun(hmg:¬(mg2>1))=>?_)
     .refine wpS_bind (gal_at ?_)
      have sg4:SameG st (setGal st3 (mg2-1)):=sg3.gal _
      refine wpS_bind (elem_at hxb ?_)
      refine wpS_bind (wpS_galR (st:=setGal st3 (mg2-1)) (base:=ia2) (n:=a.size-ia2) (hint:=0) C o (sg4.1.trans hk) (memB _ _ hxb) (by omega) (fun i z hi hz=>memA _ z hz) (by omega) (fun i j y z hij hj hy hz=>srt_two o T.sA (show ia2+i<=ia2+j by omega) hy hz) fun k hkn h1 h2=>?_)
      obtain⟨out3,e3,m4,hz4⟩:=body 0 st3 sg3 k hkn h1 h2
      dsimp only
      by_cases hk0:k>0
      .rw[if_pos hk0,<-e3]
       refine wpS_ite (fun(he:(ia2+k+1==a.size)=true)=>?_) (fun(he:¬(ia2+k+1==a.size)=true)=>?_)
       .exact wpS_pure ⟨sg4,.inl (x_EE _ _ ⟨rfl,doneL o T m4 (by simpa using he)⟩)⟩
       have he':¬ia2+k+1=a.size:=by simpa using he
       refine wpS_ite (fun(he2:(ia2+k==a.size)=true)=>?_) (fun(he2:¬(ia2+k==a.size)=true)=>?_)
       .exact wpS_pure ⟨sg4,.inl (x_EE _ _ ⟨rfl,doneA T m4 (by simpa using he2)⟩)⟩
       have he3:¬ia2+k=a.size:=by simpa using he2
       refine wpS_mono (rest out3 (ia2+k) (mg2-1) k _ sg4 m4 (by omega) hz4 (by omega)) fun r st' hr=>?_
       cases r<;>exact hr
      .rw[if_neg hk0]
       have e0:k=0:=by omega
       subst e0
       have e5:out3=out2:=Array.ext' (by rw[e3];simp)
       rw[e5]at m4
       refine wpS_mono (rest out2 ia2 (mg2-1) 0 _ sg4 m4 l3 hz4 hp3) fun r st' hr=>?_
       cases r<;>exact hr
     .refine wpS_bind (gal_at ?_)
      have sg4:SameG st (setGal st3 (mg2)):=sg3.gal _
      refine wpS_bind (elem_at hxb ?_)
      refine wpS_bind (wpS_galR (st:=setGal st3 (mg2)) (base:=ia2) (n:=a.size-ia2) (hint:=0) C o (sg4.1.trans hk) (memB _ _ hxb) (by omega) (fun i z hi hz=>memA _ z hz) (by omega) (fun i j y z hij hj hy hz=>srt_two o T.sA (show ia2+i<=ia2+j by omega) hy hz) fun k hkn h1 h2=>?_)
      obtain⟨out3,e3,m4,hz4⟩:=body 0 st3 sg3 k hkn h1 h2
      dsimp only
      by_cases hk0:k>0
      .rw[if_pos hk0,<-e3]
       refine wpS_ite (fun(he:(ia2+k+1==a.size)=true)=>?_) (fun(he:¬(ia2+k+1==a.size)=true)=>?_)
       .exact wpS_pure ⟨sg4,.inl (x_EE _ _ ⟨rfl,doneL o T m4 (by simpa using he)⟩)⟩
       have he':¬ia2+k+1=a.size:=by simpa using he
       refine wpS_ite (fun(he2:(ia2+k==a.size)=true)=>?_) (fun(he2:¬(ia2+k==a.size)=true)=>?_)
       .exact wpS_pure ⟨sg4,.inl (x_EE _ _ ⟨rfl,doneA T m4 (by simpa using he2)⟩)⟩
       have he3:¬ia2+k=a.size:=by simpa using he2
       refine wpS_mono (rest out3 (ia2+k) (mg2) k _ sg4 m4 (by omega) hz4 (by omega)) fun r st' hr=>?_
       cases r<;>exact hr
      .rw[if_neg hk0]
       have e0:k=0:=by omega
       subst e0
       have e5:out3=out2:=Array.ext' (by rw[e3];simp)
       rw[e5]at m4
       refine wpS_mono (rest out2 ia2 (mg2) 0 _ sg4 m4 l3 hz4 hp3) fun r st' hr=>?_
       cases r<;>exact hr
end
structure MidH(lt:Keyed->Keyed->Bool)(la lb R:List Keyed)(na nb:Nat):Prop where
 perm:R.Perm (la.drop na++lb.drop nb)
 srt:Srt lt R
 geA:∀x∈la.take na,∀y∈R,lt y x=false
 geB:∀x∈lb.take nb,∀y∈R,lt y x=false
section
variable{lt:Keyed->Keyed->Bool}{la lb R:List Keyed}{na nb:Nat}
theorem take_cut{l:List Keyed}{i n:Nat}(h:i<=n):l.take i++(l.take n).drop i=l.take n:=by
 have:=List.take_append_drop i (l.take n)
 rw[List.take_take,Nat.min_eq_left h]at this
 exact this
theorem cut_drop{l:List Keyed}{i n:Nat}(h:i<=n):(l.take n).drop i++l.drop n=l.drop i:=by
 have e:=List.take_append_drop n l
 have:=congrArg (List.drop i) e
 rw[List.drop_append]at this
 by_cases hl:n<=l.length
 .rw[List.length_take,Nat.min_eq_left hl,show i-n=0 by omega,List.drop_zero]at this
  exact this
 .rw[List.drop_eq_nil_of_le (show l.length<=n by omega),List.append_nil,List.take_of_length_le (by omega)]
theorem MidH.pushA(m:MidH lt la lb R na nb)(hA:Srt lt la){i:Nat}(hi:i<=na)(h:∀x∈lb.take nb,∀y∈(la.take na).drop i,lt y x=false):MidH lt la lb ((la.take na).drop i++R) i nb:=by
 have ht:Srt lt (la.take na):=List.Pairwise.sublist (List.take_sublist _ _) hA
 have hs:=take_cut (l:=la) hi
 have ht2:=ht
 unfold Srt at ht2
 rw[<-hs,List.pairwise_append]at ht2
 refine⟨?_,?_,fun x hx y hy=>?_,fun x hx y hy=>?_⟩
 .rw[<-cut_drop (l:=la) hi,List.append_assoc]
  exact List.Perm.append_left _ m.perm
 .exact List.pairwise_append.mpr ⟨ht2.2.1,m.srt,fun x hx y hy=>m.geA x (List.mem_of_mem_drop hx) y hy⟩
 .rcases List.mem_append.mp hy with h1|h1
  .exact ht2.2.2 x hx y h1
  .exact m.geA x (by rw[<-hs];exact List.mem_append_left _ hx) y h1
 .rcases List.mem_append.mp hy with h1|h1
  .exact h x hx y h1
  .exact m.geB x hx y h1
theorem MidH.pushB(m:MidH lt la lb R na nb)(hB:Srt lt lb){i:Nat}(hi:i<=nb)(h:∀x∈la.take na,∀y∈(lb.take nb).drop i,lt y x=false):MidH lt la lb ((lb.take nb).drop i++R) na i:=by
 have ht:Srt lt (lb.take nb):=List.Pairwise.sublist (List.take_sublist _ _) hB
 have hs:=take_cut (l:=lb) hi
 have ht2:=ht
 unfold Srt at ht2
 rw[<-hs,List.pairwise_append]at ht2
 refine⟨?_,?_,fun x hx y hy=>?_,fun x hx y hy=>?_⟩
 .rw[<-cut_drop (l:=lb) hi]
  refine(List.Perm.append_left _ m.perm).trans ?_
  rw[<-List.append_assoc,<-List.append_assoc]
  exact List.Perm.append_right _ List.perm_append_comm
 .exact List.pairwise_append.mpr ⟨ht2.2.1,m.srt,fun x hx y hy=>m.geB x (List.mem_of_mem_drop hx) y hy⟩
 .rcases List.mem_append.mp hy with h1|h1
  .exact h x hx y h1
  .exact m.geA x hx y h1
 .rcases List.mem_append.mp hy with h1|h1
  .exact ht2.2.2 x hx y h1
  .exact m.geB x (by rw[<-hs];exact List.mem_append_left _ hx) y h1
theorem MidH.endA(m:MidH lt la lb R 0 nb)(hB:Srt lt lb):Merged lt la lb (lb.take nb++R):=by
 have ht:Srt lt (lb.take nb):=List.Pairwise.sublist (List.take_sublist _ _) hB
 refine⟨?_,List.pairwise_append.mpr ⟨ht,m.srt,m.geB⟩⟩
 have p:=List.Perm.append_left (lb.take nb) m.perm
 rw[List.drop_zero]at p
 refine p.trans ?_
 rw[<-List.append_assoc]
 refine(List.Perm.append_right _ List.perm_append_comm).trans ?_
 rw[List.append_assoc,List.take_append_drop]
theorem MidH.endB(m:MidH lt la lb R na 0)(hA:Srt lt la):Merged lt la lb (la.take na++R):=by
 have ht:Srt lt (la.take na):=List.Pairwise.sublist (List.take_sublist _ _) hA
 refine⟨?_,List.pairwise_append.mpr ⟨ht,m.srt,m.geA⟩⟩
 have p:=List.Perm.append_left (la.take na) m.perm
 rw[List.drop_zero,<-List.append_assoc,List.take_append_drop]at p
 exact p
theorem MidH.firstB(m:MidH lt la lb R na 1)(o:KOrd lt)(hA:Srt lt la)(hB:Srt lt lb)(hl:∀y∈la,∀x∈lb.take 1,lt x y=true):Merged lt la lb (lb.take 1++la.take na++R):=by
 have m2:=m.pushA hA (Nat.zero_le na) fun x hx y hy=>o.asy _ _ (hl y (List.mem_of_mem_take (List.mem_of_mem_drop hy)) x hx)
 rw[List.drop_zero]at m2
 have:=m2.endA hB
 rw[List.append_assoc]
 exact this
end
noncomputable def mergeHi':Array Keyed->Array Keyed->StateT SortSt Sem (Array Keyed):=sortPriv% PySem.Builtin.mergeHi
section
variable{prog:Program}{w:World}{A:Around}{E:Value->Shared->Prop}{s:Shared}
variable{κ:SortKind}{mem:Keyed->Prop}{lt:Keyed->Keyed->Bool}
noncomputable def LiveH(lt:Keyed->Keyed->Bool)(a b out:Array Keyed)(na nb:Nat):Prop:=MidH lt a.toList b.toList out.reverse.toList na nb/\0<na/\1<nb/\na<=a.size/\nb<=b.size
theorem top_cut{arr:Array Keyed}{n:Nat}{x:Keyed}(h:arr[n]?=some x):(arr.toList.take (n+1)).drop n=[x]:=by
 obtain⟨hi,e⟩:=Array.getElem?_eq_some_iff.mp h
 have hl:n<arr.toList.length:=by simpa using hi
 rw[List.take_succ,List.drop_append,List.drop_eq_nil_of_le (by rw[List.length_take];omega)]
 have e2:n-min n arr.size=0:=by omega
 simp[h,e2]
theorem le_all{arr:Array Keyed}(o:KOrd lt)(hs:Srt lt arr.toList){n:Nat}{x y:Keyed}(hx:arr[n]?=some x)(h:lt y x=false):∀z∈arr.toList.take (n+1),lt y z=false:=fun z hz=>by
 obtain⟨i,hi⟩:=List.mem_iff_getElem?.mp hz
 have hlt:i<n+1:=by
  have:=(List.getElem?_eq_some_iff.mp hi).1
  rw[List.length_take]at this
  omega
 rw[List.getElem?_take_of_lt hlt]at hi
 exact o.tr z x y (srt_two o hs (show i<=n by omega) (by simpa using hi) hx) h
theorem ext_rev(out arr:Array Keyed){i n:Nat}(h:i<=n):(out++(arr.extract i n).reverse).reverse.toList=(arr.toList.take n).drop i++out.reverse.toList:=by
 simp[List.take_drop,show i+(n-i)=n by omega]
theorem cut_mem{arr:Array Keyed}{P:Keyed->Prop}{i n:Nat}(h:∀j z,i<=j->j<n->arr[j]?=some z->P z):∀z∈(arr.toList.take n).drop i,P z:=fun z hz=>by
 obtain⟨k,hk⟩:=List.mem_iff_getElem?.mp hz
 rw[List.getElem?_drop]at hk
 have hlt:i+k<n:=by
  have:=(List.getElem?_eq_some_iff.mp hk).1
  rw[List.length_take]at this
  omega
 rw[List.getElem?_take_of_lt hlt]at hk
 exact h (i+k) z (by omega) hlt (by simpa using hk)
theorem stepHA{a b out:Array Keyed}{na nb:Nat}{y:Keyed}(T:Two mem lt a b)(m:MidH lt a.toList b.toList out.reverse.toList (na+1) nb)(hy:a[na]?=some y)(h:∀x∈b.toList.take nb,lt y x=false):MidH lt a.toList b.toList (out.push y).reverse.toList na nb:=by
 have m2:=m.pushA T.sA (Nat.le_succ na) fun x hx u hu=>by
  rw[top_cut hy]at hu
  rw[List.mem_singleton.mp hu]
  exact h x hx
 rw[top_cut hy]at m2
 simpa using m2
theorem stepHB{a b out:Array Keyed}{na nb:Nat}{y:Keyed}(T:Two mem lt a b)(m:MidH lt a.toList b.toList out.reverse.toList na (nb+1))(hy:b[nb]?=some y)(h:∀x∈a.toList.take na,lt y x=false):MidH lt a.toList b.toList (out.push y).reverse.toList na nb:=by
 have m2:=m.pushB T.sB (Nat.le_succ nb) fun x hx u hu=>by
  rw[top_cut hy]at hu
  rw[List.mem_singleton.mp hu]
  exact h x hx
 rw[top_cut hy]at m2
 simpa using m2
theorem doneHA{a b out:Array Keyed}{na nb:Nat}(T:Two mem lt a b)(m:MidH lt a.toList b.toList out.reverse.toList na nb)(h:na=0):Merged lt a.toList b.toList (a.extract 0 na++b.extract 0 nb++out.reverse).toList:=by
 subst h
 have:=m.endA T.sB
 simpa using this
theorem doneHB{a b out:Array Keyed}{na nb:Nat}(T:Two mem lt a b)(m:MidH lt a.toList b.toList out.reverse.toList na nb)(h:nb=0):Merged lt a.toList b.toList (a.extract 0 na++b.extract 0 nb++out.reverse).toList:=by
 subst h
 have:=m.endB T.sA
 simpa using this
theorem doneHF{a b out:Array Keyed}{na nb:Nat}(o:KOrd lt)(T:Two mem lt a b)(m:MidH lt a.toList b.toList out.reverse.toList na nb)(h:nb=1):Merged lt a.toList b.toList (b.extract 0 nb++a.extract 0 na++out.reverse).toList:=by
 subst h
 have pB:=T.pB
 have pA:=T.pA
 have hb0:b[0]?=some (b[0]'T.pB):=by simp[T.pB]
 have ha0:a[0]?=some (a[0]'T.pA):=by simp[T.pA]
 have:=m.firstB o T.sA T.sB fun y hy x hx=>by
  have e1:=top_cut hb0
  rw[List.drop_zero]at e1
  rw[e1]at hx
  rw[List.mem_singleton.mp hx]
  have hya:lt y a[0]=false:=srt_head o (srt_drop T.sA 0) (drop_at ha0) y (by rw[List.drop_zero];exact hy)
  cases q:lt b[0] y with
  | true=>rfl
  | false=>have:=o.tr _ _ _ hya q;rw[T.first _ _ hb0 ha0]at this;cases this
 simpa using this
theorem wpS_mergeHi(C:CmpS prog w A s κ mem lt)(o:KOrd lt){st:SortSt}(hk:kindOf st=κ){a b:Array Keyed}(T:Two mem lt a b){Q:Array Keyed->SortSt->Prop}
  (h:∀out st',SameG st st'->Merged lt a.toList b.toList out.toList->Q out st'):wpS (model prog w) A E s (mergeHi' a b) Q st:=by
 refine wpS_bind (wpS_lift (wpAny_rule ⟨rfl,?_⟩))
 have memA:∀i z,a[i]?=some z->mem z:=fun i z hz=>T.mA z (by obtain⟨h1,h2⟩:=Array.getElem?_eq_some_iff.mp hz;rw[<-h2];simp)
 have memB:∀i z,b[i]?=some z->mem z:=fun i z hz=>T.mB z (by obtain⟨h1,h2⟩:=Array.getElem?_eq_some_iff.mp hz;rw[<-h2];simp)
 have hpA:=T.pA
 have hpB:=T.pB
 have hal:a[a.size-1]?=some (a[a.size-1]'(by omega)):=by simp
 refine wpS_bind (elem_at hal ?_)
 have m0:MidH lt a.toList b.toList (#[]:Array Keyed).reverse.toList (a.size-1+1) b.size:=by
  rw[show a.size-1+1=a.size by omega]
  exact⟨by simp,List.Pairwise.nil,by simp,by simp⟩
 have m1:=stepHA T m0 hal fun x hx=>o.asy _ _ (T.last x (List.mem_of_mem_take hx) _ hal)
 dsimp only
 refine wpS_ite (fun(ha1:(a.size-1==0)=true)=>?_) (fun(ha1:¬(a.size-1==0)=true)=>?_)
 .exact wpS_pure (h _ _ (SameG.refl _) (doneHA T m1 (by simpa using ha1)))
 refine wpS_ite (fun(hb1:(b.size==1)=true)=>?_) (fun(hb1:¬(b.size==1)=true)=>?_)
 .exact wpS_pure (h _ _ (SameG.refl _) (doneHF o T m1 (by simpa using hb1)))
 have ha2:¬a.size-1=0:=by simpa using ha1
 have hb2:¬b.size=1:=by simpa using hb1
 refine wpS_bind (wpS_get ?_)
 refine wpS_bind (wpS_mono (wpS_forRange (I:=fun x c st'=>SameG st st'/\∃na nb out mg,c=(none,na,nb,out,mg)/\LiveH lt a b out na nb/\na+nb+x+1<=a.size+b.size)
  (Q:=fun c st'=>SameG st st'/\∃res r,c=(some res,r)/\Merged lt a.toList b.toList res.toList) ?step ?fin ?init) ?post)
 case init=>exact⟨SameG.refl _,(x_EEEE _ _ _ _ ⟨rfl,⟨m1,by omega,by omega,by omega,by omega⟩,by omega⟩)⟩
 case fin=>
  intro c st' hIh
  refine hid fun Cg hCg=>?_
  obtain⟨_,na,nb,out,mg,rfl,⟨_,h1,h2,h3,h4⟩,h5⟩:=hIh
  refine hCg ?_
  omega
 case post=>
  intro c st' hIh
  refine hid fun Cg hCg=>?_
  obtain⟨sg,res,r,rfl,hm⟩:=hIh
  refine hCg ?_
  exact wpS_pure (h _ _ sg hm)
 case step=>
  intro x c st' _ hx hIh
  refine hid fun Cg hCg=>?_
  obtain⟨sg,na,nb,out,mg,rfl,L,hp⟩:=hIh
  refine hCg ?_
  dsimp only
  refine wpS_bind (wpS_mono (wpS_forRange (I:=fun y c st'=>SameG st st'/\∃na' nb' out' ac bc,c=(none,na',nb',out',ac,bc)/\LiveH lt a b out' na' nb'/\na'+nb'<=na+nb)
   (Q:=fun c st'=>SameG st st'/\((∃res r,c=(some res,r)/\Merged lt a.toList b.toList res.toList)\/∃na' nb' out' ac bc,c=(none,na',nb',out',ac,bc)/\LiveH lt a b out' na' nb'/\na'+nb'<=na+nb)) ?istep ?ifin ?iinit) ?ipost)
  case iinit=>exact⟨sg,(x_EEEEE _ _ _ _ _ ⟨rfl,L,Nat.le_refl _⟩)⟩
  case ifin=>
   rintro c st2 ⟨sg2,rest⟩
   exact⟨sg2,.inr rest⟩
  case istep=>
   intro y c st2 _ hy hIh
   refine hid fun Cg hCg=>?_
   obtain⟨sg2,na',nb',out',ac,bc,rfl,⟨m,l1,l2,l3,l4⟩,hp'⟩:=hIh
   refine hCg ?_
   obtain⟨n1,rfl⟩:∃n1,na'=n1+1:=⟨na'-1,by omega⟩
   obtain⟨n2,rfl⟩:∃n2,nb'=n2+1:=⟨nb'-1,by omega⟩
   dsimp only[Nat.add_sub_cancel]
   have hxb:b[n2]?=some (b[n2]'(by omega)):=by simp
   have hxa:a[n1]?=some (a[n1]'(by omega)):=by simp
   refine wpS_bind (elem_at hxb (wpS_bind (elem_at hxa (wpS_bind (wpS_lt C (sg2.1.trans hk) (memB _ _ hxb) (memA _ _ hxa) ?_)))))
   cases hl:lt b[n2] a[n1]with
   | true=>
    dsimp only
    simp only[if_true]
    refine wpS_bind (elem_at hxa ?_)
    have m2:=stepHA T m hxa (le_all o T.sB hxb (o.asy _ _ hl))
    try simp only[Nat.add_sub_cancel]
    refine wpS_ite (fun(he:(n1==0)=true)=>?_) (fun(he:¬(n1==0)=true)=>?_)
    .exact wpS_pure ⟨sg2,.inl (x_EE _ _ ⟨rfl,doneHA T m2 (by simpa using he)⟩)⟩
    .have he':¬n1=0:=by simpa using he
     have L2:LiveH lt a b (out'.push a[n1]) n1 (n2+1):=⟨m2,by omega,by omega,by omega,by omega⟩
     split
     .exact wpS_pure ⟨sg2,.inr (x_EEEEE _ _ _ _ _ ⟨rfl,L2,by omega⟩)⟩
     .exact wpS_pure ⟨sg2,(x_EEEEE _ _ _ _ _ ⟨rfl,L2,by omega⟩)⟩
   | false=>
    dsimp only
    simp only[Bool.false_eq_true,if_false]
    refine wpS_bind (elem_at hxb ?_)
    have m2:=stepHB T m hxb (le_all o T.sA hxa hl)
    try simp only[Nat.add_sub_cancel]
    refine wpS_ite (fun(he:(n2==1)=true)=>?_) (fun(he:¬(n2==1)=true)=>?_)
    .exact wpS_pure ⟨sg2,.inl (x_EE _ _ ⟨rfl,doneHF o T m2 (by simpa using he)⟩)⟩
    .have he':¬n2=1:=by simpa using he
     have L2:LiveH lt a b (out'.push b[n2]) (n1+1) n2:=⟨m2,by omega,by omega,by omega,by omega⟩
     split
     .exact wpS_pure ⟨sg2,.inr (x_EEEEE _ _ _ _ _ ⟨rfl,L2,by omega⟩)⟩
     .exact wpS_pure ⟨sg2,(x_EEEEE _ _ _ _ _ ⟨rfl,L2,by omega⟩)⟩
  case ipost=>
   intro c st2 hIh
   refine hid fun Cg hCg=>?_
   (rcases hIh with ⟨sg2,(⟨res,r,rfl,hm⟩|⟨na',nb',out',ac,bc,rfl,L2,hp2⟩)⟩)<;>refine hCg ?_
   .dsimp only
    exact wpS_pure ⟨sg2,(x_EE _ _ ⟨rfl,hm⟩)⟩
   .dsimp only
    refine wpS_bind (wpS_lift (wpAny_rule ⟨rfl,?_⟩))
    refine wpS_bind (wpS_mono (wpS_forRange (I:=fun y c st'=>SameG st st'/\∃na2 nb2 out2 mg2 ac bc,c=(none,na2,nb2,out2,mg2,ac,bc)/\LiveH lt a b out2 na2 nb2/\na2+nb2+y<=na'+nb')
     (Q:=fun c st'=>SameG st st'/\((∃res r,c=(some res,r)/\Merged lt a.toList b.toList res.toList)\/∃na2 nb2 out2 mg2 ac bc,c=(none,na2,nb2,out2,mg2,ac,bc)/\LiveH lt a b out2 na2 nb2/\na2+nb2+1<=na'+nb')) ?jstep ?jfin ?jinit) ?jpost)
    case jinit=>exact⟨sg2,(x_EEEEE _ _ _ _ _ ⟨_,rfl,L2,Nat.le_refl _⟩)⟩
    case jfin=>
     intro c st3 hIh
     refine hid fun Cg hCg=>?_
     obtain⟨sg3,na2,nb2,out2,mg2,ac2,bc2,rfl,L3,hp3⟩:=hIh
     refine hCg ?_
     exact⟨sg3,.inr (x_EEEEE _ _ _ _ _ ⟨_,rfl,L3,by omega⟩)⟩
    case jpost=>
     intro c st3 hIh
     refine hid fun Cg hCg=>?_
     (rcases hIh with ⟨sg3,(⟨res,r,rfl,hm⟩|⟨na2,nb2,out2,mg2,ac2,bc2,rfl,L3,hp3⟩)⟩)<;>refine hCg ?_
     .dsimp only
      exact wpS_pure ⟨sg3,(x_EE _ _ ⟨rfl,hm⟩)⟩
     .dsimp only
      refine wpS_bind (gal_at ?_)
      exact wpS_pure ⟨sg3.gal _,(x_EEEE _ _ _ _ ⟨rfl,L3,by omega⟩)⟩
    case jstep=>
     intro y c st3 _ hy hIh
     refine hid fun Cg hCg=>?_
     obtain⟨sg3,na2,nb2,out2,mg2,ac2,bc2,rfl,⟨m3,l1,l2,l3,l4⟩,hp3⟩:=hIh
     refine hCg ?_
     dsimp only
     have hxb:b[nb2-1]?=some (b[nb2-1]'(by omega)):=by simp
     have rest2:∀(out4:Array Keyed) (na3 nb3 mg3 k k1:Nat) (st4:SortSt),SameG st st4->MidH lt a.toList b.toList out4.reverse.toList na3 nb3->0<na3->1<nb3->na3<=a.size->nb3<=b.size->(∀z,a[na3-1]?=some z->∀u∈b.toList.take nb3,lt z u=false)->na3+nb3+y+1<=na'+nb'->
       wpS (model prog w) A E s (do
        let z2 <-elem' a (na3-1)
        if (na3-1==0)=true then
         pure (ForInStep.done (some (a.extract 0 (na3-1)++b.extract 0 nb3++(out4.push z2).reverse),na3-1,nb3,out4.push z2,mg3,k,k1))
        else if (decide (k<7)&&decide (k1<7))=true then pure (ForInStep.done (none,na3-1,nb3,out4.push z2,mg3,k,k1))
        else pure (ForInStep.yield (none,na3-1,nb3,out4.push z2,mg3,k,k1)))
       (fun r st'=>match r with
        | .done c'=>SameG st st'/\((∃res r,c'=(some res,r)/\Merged lt a.toList b.toList res.toList)\/∃na2 nb2 out2 mg2 ac bc,c'=(none,na2,nb2,out2,mg2,ac,bc)/\LiveH lt a b out2 na2 nb2/\na2+nb2+1<=na'+nb')
        | .yield c'=>SameG st st'/\∃na2 nb2 out2 mg2 ac bc,c'=(none,na2,nb2,out2,mg2,ac,bc)/\LiveH lt a b out2 na2 nb2/\na2+nb2+(y+1)<=na'+nb') st4:=by
      intro out4 na3 nb3 mg3 k k1 st4 sg4 m5 q1 q2 q3 q4 hu hp5
      have hxa:a[na3-1]?=some (a[na3-1]'(by omega)):=by simp
      refine wpS_bind (elem_at hxa ?_)
      have m6:=stepHA (na:=na3-1) T (by rw[show na3-1+1=na3 by omega];exact m5) hxa (hu _ hxa)
      refine wpS_ite (fun(he:(na3-1==0)=true)=>?_) (fun(he:¬(na3-1==0)=true)=>?_)
      .exact wpS_pure ⟨sg4,.inl (x_EE _ _ ⟨rfl,doneHA T m6 (by simpa using he)⟩)⟩
      .have he':¬na3-1=0:=by simpa using he
       have L6:LiveH lt a b (out4.push a[na3-1]) (na3-1) nb3:=⟨m6,by omega,by omega,by omega,by omega⟩
       split
       .exact wpS_pure ⟨sg4,.inr (x_EEEEE _ _ _ _ _ ⟨_,rfl,L6,by omega⟩)⟩
       .exact wpS_pure ⟨sg4,(x_EEEEE _ _ _ _ _ ⟨_,rfl,L6,by omega⟩)⟩
     have rest:∀(out3:Array Keyed) (na3 mg3 k:Nat) (st4:SortSt),SameG st st4->MidH lt a.toList b.toList out3.reverse.toList na3 nb2->0<na3->na3<=a.size->(∀z∈a.toList.take na3,lt b[nb2-1] z=false)->na3+nb2+y<=na'+nb'->
       wpS (model prog w) A E s (do
        let z <-elem' b (nb2-1)
        if (nb2-1==1)=true then
         pure (ForInStep.done (some (b.extract 0 (nb2-1)++a.extract 0 na3++(out3.push z).reverse),na3,nb2-1,out3.push z,mg3,k,bc2))
        else do
         let z1 <-elem' a (na3-1)
         let x <-gallop' true z1 b 0 (nb2-1) (nb2-1-1)
         match x with
         | some at1=>
          if nb2-1-at1>0 then
           if (at1==1)=true then
            pure (ForInStep.done (some (b.extract 0 at1++a.extract 0 na3++(out3.push z++(b.extract at1 (nb2-1)).reverse).reverse),na3,at1,(out3.push z++(b.extract at1 (nb2-1)).reverse),mg3,k,nb2-1-at1))
           else if (at1==0)=true then
            pure (ForInStep.done (some (a.extract 0 na3++b.extract 0 at1++(out3.push z++(b.extract at1 (nb2-1)).reverse).reverse),na3,at1,(out3.push z++(b.extract at1 (nb2-1)).reverse),mg3,k,nb2-1-at1))
           else do
            let z2 <-elem' a (na3-1)
            if (na3-1==0)=true then
             pure (ForInStep.done (some (a.extract 0 (na3-1)++b.extract 0 at1++((out3.push z++(b.extract at1 (nb2-1)).reverse).push z2).reverse),na3-1,at1,(out3.push z++(b.extract at1 (nb2-1)).reverse).push z2,mg3,k,nb2-1-at1))
            else if (decide (k<7)&&decide (nb2-1-at1<7))=true then pure (ForInStep.done (none,na3-1,at1,(out3.push z++(b.extract at1 (nb2-1)).reverse).push z2,mg3,k,nb2-1-at1))
            else pure (ForInStep.yield (none,na3-1,at1,(out3.push z++(b.extract at1 (nb2-1)).reverse).push z2,mg3,k,nb2-1-at1))
          else do
           let z2 <-elem' a (na3-1)
           if (na3-1==0)=true then
            pure (ForInStep.done (some (a.extract 0 (na3-1)++b.extract 0 (nb2-1)++((out3.push z).push z2).reverse),na3-1,(nb2-1),(out3.push z).push z2,mg3,k,nb2-1-at1))
           else if (decide (k<7)&&decide (nb2-1-at1<7))=true then pure (ForInStep.done (none,na3-1,(nb2-1),(out3.push z).push z2,mg3,k,nb2-1-at1))
           else pure (ForInStep.yield (none,na3-1,(nb2-1),(out3.push z).push z2,mg3,k,nb2-1-at1))
         | _=>pure (ForInStep.done (some (a.extract 0 na3++b.extract 0 (nb2-1)++(out3.push z).reverse),na3,nb2-1,out3.push z,mg3,k,bc2)))
       (fun r st'=>match r with
        | .done c'=>SameG st st'/\((∃res r,c'=(some res,r)/\Merged lt a.toList b.toList res.toList)\/∃na2 nb2 out2 mg2 ac bc,c'=(none,na2,nb2,out2,mg2,ac,bc)/\LiveH lt a b out2 na2 nb2/\na2+nb2+1<=na'+nb')
        | .yield c'=>SameG st st'/\∃na2 nb2 out2 mg2 ac bc,c'=(none,na2,nb2,out2,mg2,ac,bc)/\LiveH lt a b out2 na2 nb2/\na2+nb2+(y+1)<=na'+nb') st4:=by
      intro out3 na3 mg3 k st4 sg4 m4 q1 q3 hz4 hp4
      refine wpS_bind (elem_at hxb ?_)
      have m5:=stepHB (nb:=nb2-1) T (by rw[show nb2-1+1=nb2 by omega];exact m4) hxb hz4
      refine wpS_ite (fun(he:(nb2-1==1)=true)=>?_) (fun(he:¬(nb2-1==1)=true)=>?_)
      .exact wpS_pure ⟨sg4,.inl (x_EE _ _ ⟨rfl,doneHF o T m5 (by simpa using he)⟩)⟩
      have he':¬nb2-1=1:=by simpa using he
      have hxa:a[na3-1]?=some (a[na3-1]'(by omega)):=by simp
      refine wpS_bind (elem_at hxa ?_)
      refine wpS_bind (wpS_galL (st:=st4) (base:=0) (n:=nb2-1) (hint:=nb2-1-1) C o (sg4.1.trans hk) (memA _ _ hxa) (by omega) (fun i z hi hz=>memB _ z hz) (by omega) (fun i j y z hij hj hy hz=>srt_two o T.sB (show 0+i<=0+j by omega) hy hz) fun at1 hkn h1 h2=>?_)
      dsimp only
      have m6:=m5.pushB T.sB (i:=at1) hkn fun x hx u hu=>by
       have hu2:lt u a[na3-1]=false:=cut_mem (P:=fun u=>lt u a[na3-1]=false) (fun i z hi hn hz=>h2 i z hi hn (by rw[Nat.zero_add];exact hz)) u hu
       exact le_all o T.sA hxa hu2 x (by rw[show na3-1+1=na3 by omega];exact hx)
      have e6:(out3.push b[nb2-1]++(b.extract at1 (nb2-1)).reverse).reverse.toList=(b.toList.take (nb2-1)).drop at1++(out3.push b[nb2-1]).reverse.toList:=ext_rev _ _ hkn
      rw[<-e6]at m6
      have hu6:∀z,a[na3-1]?=some z->∀u∈b.toList.take at1,lt z u=false:=fun z hz=>by
       rw[hxa]at hz
       cases hz
       intro u hu
       refine o.asy _ _ (low_take (base:=0) (P:=fun u=>lt u a[na3-1]=true) h1 u ?_)
       rw[List.drop_zero]
       exact hu
      refine wpS_ite (fun(hk0:nb2-1-at1>0)=>?_) (fun(hk0:¬(nb2-1-at1>0))=>?_)
      .refine wpS_ite (fun(he2:(at1==1)=true)=>?_) (fun(he2:¬(at1==1)=true)=>?_)
       .exact wpS_pure ⟨sg4,.inl (x_EE _ _ ⟨rfl,doneHF o T m6 (by simpa using he2)⟩)⟩
       have he3:¬at1=1:=by simpa using he2
       refine wpS_ite (fun(he4:(at1==0)=true)=>?_) (fun(he4:¬(at1==0)=true)=>?_)
       .exact wpS_pure ⟨sg4,.inl (x_EE _ _ ⟨rfl,doneHB T m6 (by simpa using he4)⟩)⟩
       have he5:¬at1=0:=by simpa using he4
       exact rest2 _ na3 at1 mg3 k _ st4 sg4 m6 q1 (by omega) q3 (by omega) hu6 (by omega)
      .have e0:at1=nb2-1:=by omega
       rw[e0]at hu6
       exact rest2 _ na3 (nb2-1) mg3 k _ st4 sg4 m5 q1 (by omega) q3 (by omega) hu6 (by omega)
     refine wpS_ite (fun(hmg:mg2>1)=>?_) (fun(hmg:¬(mg2>1))=>?_)
     .refine wpS_bind (gal_at ?_)
      have sg4:SameG st (setGal st3 (mg2-1)):=sg3.gal _
      refine wpS_bind (elem_at hxb ?_)
      refine wpS_bind (wpS_galR (st:=setGal st3 (mg2-1)) (base:=0) (n:=na2) (hint:=na2-1) C o (sg4.1.trans hk) (memB _ _ hxb) (by omega) (fun i z hi hz=>memA _ z hz) (by omega) (fun i j y z hij hj hy hz=>srt_two o T.sA (show 0+i<=0+j by omega) hy hz) fun at1 hkn h1 h2=>?_)
      have m4:=m3.pushA T.sA (i:=at1) hkn fun x hx u hu=>by
       have hu2:lt b[nb2-1] u=true:=cut_mem (P:=fun u=>lt b[nb2-1] u=true) (fun i z hi hn hz=>h2 i z hi hn (by rw[Nat.zero_add];exact hz)) u hu
       exact le_all o T.sB hxb (o.asy _ _ hu2) x (by rw[show nb2-1+1=nb2 by omega];exact hx)
      have e4:(out2++(a.extract at1 na2).reverse).reverse.toList=(a.toList.take na2).drop at1++out2.reverse.toList:=ext_rev _ _ hkn
      rw[<-e4]at m4
      have hz4:∀z∈a.toList.take at1,lt b[nb2-1] z=false:=fun z hz=>low_take (base:=0) (P:=fun z=>lt b[nb2-1] z=false) h1 z (by rw[List.drop_zero];exact hz)
      dsimp only
      refine wpS_ite (fun(hk0:na2-at1>0)=>?_) (fun(hk0:¬(na2-at1>0))=>?_)
      .refine wpS_ite (fun(he:(at1==0)=true)=>?_) (fun(he:¬(at1==0)=true)=>?_)
       .exact wpS_pure ⟨sg4,.inl (x_EE _ _ ⟨rfl,doneHA T m4 (by simpa using he)⟩)⟩
       have he':¬at1=0:=by simpa using he
       refine wpS_mono (rest _ at1 (mg2-1) _ _ sg4 m4 (by omega) (by omega) hz4 (by omega)) fun r st' hr=>?_
       cases r<;>exact hr
      .have e0:at1=na2:=by omega
       rw[e0]at hz4
       refine wpS_mono (rest out2 na2 (mg2-1) _ _ sg4 m3 (by omega) (by omega) hz4 hp3) fun r st' hr=>?_
       cases r<;>exact hr
     .refine wpS_bind (gal_at ?_)
      have sg4:SameG st (setGal st3 (mg2)):=sg3.gal _
      refine wpS_bind (elem_at hxb ?_)
      refine wpS_bind (wpS_galR (st:=setGal st3 (mg2)) (base:=0) (n:=na2) (hint:=na2-1) C o (sg4.1.trans hk) (memB _ _ hxb) (by omega) (fun i z hi hz=>memA _ z hz) (by omega) (fun i j y z hij hj hy hz=>srt_two o T.sA (show 0+i<=0+j by omega) hy hz) fun at1 hkn h1 h2=>?_)
      have m4:=m3.pushA T.sA (i:=at1) hkn fun x hx u hu=>by
       have hu2:lt b[nb2-1] u=true:=cut_mem (P:=fun u=>lt b[nb2-1] u=true) (fun i z hi hn hz=>h2 i z hi hn (by rw[Nat.zero_add];exact hz)) u hu
       exact le_all o T.sB hxb (o.asy _ _ hu2) x (by rw[show nb2-1+1=nb2 by omega];exact hx)
      have e4:(out2++(a.extract at1 na2).reverse).reverse.toList=(a.toList.take na2).drop at1++out2.reverse.toList:=ext_rev _ _ hkn
      rw[<-e4]at m4
      have hz4:∀z∈a.toList.take at1,lt b[nb2-1] z=false:=fun z hz=>low_take (base:=0) (P:=fun z=>lt b[nb2-1] z=false) h1 z (by rw[List.drop_zero];exact hz)
      dsimp only
      refine wpS_ite (fun(hk0:na2-at1>0)=>?_) (fun(hk0:¬(na2-at1>0))=>?_)
      .refine wpS_ite (fun(he:(at1==0)=true)=>?_) (fun(he:¬(at1==0)=true)=>?_)
       .exact wpS_pure ⟨sg4,.inl (x_EE _ _ ⟨rfl,doneHA T m4 (by simpa using he)⟩)⟩
       have he':¬at1=0:=by simpa using he
       refine wpS_mono (rest _ at1 (mg2) _ _ sg4 m4 (by omega) (by omega) hz4 (by omega)) fun r st' hr=>?_
       cases r<;>exact hr
      .have e0:at1=na2:=by omega
       rw[e0]at hz4
       refine wpS_mono (rest out2 na2 (mg2) _ _ sg4 m3 (by omega) (by omega) hz4 hp3) fun r st' hr=>?_
       cases r<;>exact hr
end
noncomputable def Fk(f:Keyed->Int)(xs:Array Keyed)(i:Nat):Int:=(xs[i]?.map f).getD 0
noncomputable abbrev fl(f:Keyed->Int)(x y:Keyed):Bool:=decide (f x<f y)
theorem fl_ord(f:Keyed->Int):KOrd (fl f):=⟨fun x y h=>by simp at h⊢;omega,fun x y z h1 h2=>by simp at h1 h2⊢;omega⟩
noncomputable def Seg(f:Keyed->Int)(xs:Array Keyed)(lo n:Nat):Prop:=∀i j,lo<=i->i<=j->j<lo+n->Fk f xs i<=Fk f xs j
noncomputable def Dsc(f:Keyed->Int)(xs:Array Keyed)(lo n:Nat):Prop:=∀i j,lo<=i->i<=j->j<lo+n->Fk f xs j<=Fk f xs i
structure TB(κ:SortKind)(a₀:Array Keyed)(st:SortSt):Prop where
 perm:(arrOf st).Perm a₀
 kind:kindOf st=κ
 failed:failedOf st=none
structure Fr(lo:Nat)(st st':SortSt):Prop where
 pend:pendingOf st'=pendingOf st
 low:∀i,i<lo->(arrOf st')[i]?=(arrOf st)[i]?
theorem Fr.refl(lo:Nat)(st:SortSt):Fr lo st st:=⟨rfl,fun _ _=>rfl⟩
theorem Fr.trans{lo:Nat}{a b c:SortSt}(h:Fr lo a b)(k:Fr lo b c):Fr lo a c:=⟨k.pend.trans h.pend,fun i hi=>(k.low i hi).trans (h.low i hi)⟩
theorem TB.size{κ:SortKind}{a₀:Array Keyed}{st:SortSt}(h:TB κ a₀ st):(arrOf st).size=a₀.size:=h.perm.size_eq
theorem TB.set{κ:SortKind}{a₀:Array Keyed}{st:SortSt}(h:TB κ a₀ st){xs:Array Keyed}(hp:xs.Perm (arrOf st)):TB κ a₀ (setArr st xs):=⟨hp.trans h.perm,h.kind,h.failed⟩
theorem Fk_of{f:Keyed->Int}{xs ys:Array Keyed}{i j:Nat}(h:xs[i]?=ys[j]?):Fk f xs i=Fk f ys j:=by unfold Fk;rw[h]
theorem Fk_mir{f:Keyed->Int}{xs:Array Keyed}{i j:Nat}(hj:j<=xs.size)(k:Nat):Fk f (mirror xs i j ((j-i)/2)) k=if i<=k/\k<j then Fk f xs (i+j-1-k)else Fk f xs k:=by
 have e:=getElem?_mirror_all (i:=i) hj k
 split
 .rename_i h;rw[if_pos h]at e;exact Fk_of e
 .rename_i h;rw[if_neg h]at e;exact Fk_of e
theorem Fk_mir_eq{f:Keyed->Int}{xs:Array Keyed}{i j:Nat}(hj:j<=xs.size)(he:∀k,i<=k->k<j->Fk f xs k=Fk f xs (j-1))(k:Nat):Fk f (mirror xs i j ((j-i)/2)) k=Fk f xs k:=by
 rw[Fk_mir hj]
 split
 .rw[he _ (by omega) (by omega),he k (by omega) (by omega)]
 .rfl
theorem Fk_bub{f:Keyed->Int}{xs:Array Keyed}{c d:Nat}(hs:c<xs.size)(hd:d<=c)(k:Nat) :
  Fk f (bubble xs c d) k=if k=c-d then Fk f xs c else if c-d<k/\k<=c then Fk f xs (k-1)else Fk f xs k:=by
 have e:=getElem?_bubble hs d hd k
 split
 .rename_i h;rw[if_pos h]at e;exact Fk_of e
 .rename_i h
  rw[if_neg h]at e
  split
  .rename_i h2;rw[if_pos h2]at e;exact Fk_of e
  .rename_i h2;rw[if_neg h2]at e;exact Fk_of e
theorem Fr.mir{lo:Nat}{st:SortSt}{i j:Nat}(hi:lo<=i)(hj:j<=(arrOf st).size):Fr lo st (setArr st (mirror (arrOf st) i j ((j-i)/2))):=
 ⟨rfl,fun k hk=>by show(mirror (arrOf st) i j ((j-i)/2))[k]?=_;rw[getElem?_mirror_all hj,if_neg (by omega)]⟩
theorem Fr.bub{lo:Nat}{st:SortSt}{c d:Nat}(hs:c<(arrOf st).size)(hd:lo<=c-d)(hd2:d<=c):Fr lo st (setArr st (bubble (arrOf st) c d)):=
 ⟨rfl,fun k hk=>by show(bubble (arrOf st) c d)[k]?=_;rw[getElem?_bubble hs d hd2,if_neg (by omega),if_neg (by omega)]⟩
section
variable{prog:Program}{w:World}{A:Around}{E:Value->Shared->Prop}{s:Shared}
variable{κ:SortKind}{mem:Keyed->Prop}{f:Keyed->Int}{a₀:Array Keyed}
theorem TB.at{st:SortSt}(h:TB κ a₀ st)(hm:∀x∈a₀.toList,mem x){i:Nat}(hi:i<a₀.size):∃x,(arrOf st)[i]?=some x/\mem x/\f x=Fk f (arrOf st) i:=by
 have hi':i<(arrOf st).size:=by rw[h.size];exact hi
 have e:(arrOf st)[i]?=some (arrOf st)[i]:=getElem?_pos _ i hi'
 refine⟨_,e,hm _ ((Array.perm_iff_toList_perm.mp h.perm).mem_iff.mp (by simp)),?_⟩
 unfold Fk
 rw[e]
 rfl
theorem wpS_ltF(C:CmpS prog w A s κ mem (fl f))(hm:∀x∈a₀.toList,mem x){st:SortSt}(B:TB κ a₀ st){i j:Nat}(hi:i<a₀.size)(hj:j<a₀.size){Q:Option Bool->SortSt->Prop}
  (h:Q (some (decide (Fk f (arrOf st) i<Fk f (arrOf st) j))) st):wpS (model prog w) A E s (ltAt' i j) Q st:=by
 obtain⟨x,e1,m1,k1⟩:=B.at (f:=f) hm hi
 obtain⟨y,e2,m2,k2⟩:=B.at (f:=f) hm hj
 rw[ltAt'_eq]
 refine wpS_bind (wpS_get (wpS_bind (elem_at e1 (wpS_bind (elem_at e2 (wpS_lt C B.kind m1 m2 ?_))))))
 rw[<-k1,<-k2]at h
 exact h
theorem revS_at{st:SortSt}{i j:Nat}{Q:Unit->SortSt->Prop}(h:Q () (setArr st (mirror (arrOf st) i j ((j-i)/2)))):wpS (model prog w) A E s (reverseSlice' i j) Q st:=by
 rw[reverseSlice'_eq];exact wpS_modify h
noncomputable abbrev UpS:=Option (Option Nat)×Nat
noncomputable abbrev DnS:=Option (Option Nat)×Nat×Nat
noncomputable def upLoop(lo a nrem:Nat):StateT SortSt Sem UpS:=forIn [a:nrem] ((none,a):UpS) fun _ c=>do
 let q <-ltAt' (lo+c.snd) (lo+c.snd-1)
 match q with
 | some b=>if b=true then pure (.done (none,c.snd))else pure (.yield (none,c.snd+1))
 | _=>pure (.done (some none,c.snd))
noncomputable def dnTail(lo n nrem:Nat):StateT SortSt Sem (Option Nat):=do
 reverseSlice' lo (lo+n)
 let c <-upLoop lo n nrem
 match c.fst with
 | some r=>pure r
 | none=>pure (some c.snd)
noncomputable def dnLoop(lo n nrem:Nat):StateT SortSt Sem DnS:=forIn [n:nrem] ((none,n,0):DnS) fun _ c=>do
 let q <-ltAt' (lo+c.snd.fst) (lo+c.snd.fst-1)
 match q with
 | some b=>
  if b=true then
   if c.snd.snd>0 then do
    reverseSlice' (lo+c.snd.fst-(c.snd.snd+1)) (lo+c.snd.fst)
    pure (.yield (none,c.snd.fst+1,0))
   else pure (.yield (none,c.snd.fst+1,0))
  else do
   let q2 <-ltAt' (lo+c.snd.fst-1) (lo+c.snd.fst)
   match q2 with
   | some b2=>if b2=true then pure (.done (none,c.snd.fst,c.snd.snd))else pure (.yield (none,c.snd.fst+1,c.snd.snd+1))
   | _=>pure (.done (some none,c.snd.fst,c.snd.snd))
 | _=>pure (.done (some none,c.snd.fst,c.snd.snd))
noncomputable def dnPart(lo n nrem:Nat):StateT SortSt Sem (Option Nat):=do
 liftM (rule "list.sort.descending-run")
 let c <-dnLoop lo (n+1) nrem
 match c.fst with
 | some r=>pure r
 | none=>
  if c.snd.snd>0 then do
   reverseSlice' (lo+c.snd.fst-(c.snd.snd+1)) (lo+c.snd.fst)
   dnTail lo c.snd.fst nrem
  else dnTail lo c.snd.fst nrem
theorem count_lo(lo nrem:Nat):countRun' lo nrem=(do
  let c <-upLoop lo 1 nrem
  match c.fst with
  | some r=>pure r
  | none=>
   if (c.snd==nrem)=true then pure (some c.snd)
   else if c.snd>1 then do
    let q <-ltAt' lo (lo+c.snd-1)
    match q with
    | some b=>if b=true then pure (some c.snd)else do
      reverseSlice' lo (lo+c.snd)
      dnPart lo c.snd nrem
    | _=>pure none
   else dnPart lo c.snd nrem):=by
 rw[countRun'_eq]
 dsimp only
 unfold dnPart dnTail dnLoop upLoop
 congr 1
 funext c
 obtain⟨r,n⟩:=c
 cases r with
 | some r=>rfl
 | none=>
  dsimp only
  split
  .rfl
  .split
   .congr 1
    funext x
    cases x with
    | none=>rfl
    | some b=>
     dsimp only
     split
     .rfl
     .congr 1
      funext _r
      (congr 1;funext _u;congr 1;congr 1;funext c2;obtain⟨r2,n2,q2⟩:=c2;cases r2 with
       | some r2=>rfl
       | none=>(dsimp only;split;(congr 1;funext _v;(congr 1;funext _w;congr 1;(funext c3;obtain⟨r3,n3⟩:=c3;cases r3<;>rfl)));(congr 1;funext _w;congr 1;(funext c3;obtain⟨r3,n3⟩:=c3;cases r3<;>rfl))))
   ·(congr 1;funext _u;congr 1;congr 1;funext c2;obtain⟨r2,n2,q2⟩:=c2;cases r2 with
     | some r2=>rfl
     | none=>(dsimp only;split;(congr 1;funext _v;(congr 1;funext _w;congr 1;(funext c3;obtain⟨r3,n3⟩:=c3;cases r3<;>rfl)));(congr 1;funext _w;congr 1;(funext c3;obtain⟨r3,n3⟩:=c3;cases r3<;>rfl))))
theorem wpS_up(C:CmpS prog w A s κ mem (fl f))(hm:∀x∈a₀.toList,mem x){st:SortSt}{lo a nrem:Nat}{Q:UpS->SortSt->Prop}(hn:lo+nrem<=a₀.size)(ha:1<=a)(han:a<=nrem)(B:TB κ a₀ st)(hs:Seg f (arrOf st) lo a)
  (h:∀n,a<=n->n<=nrem->Seg f (arrOf st) lo n->(n=nrem\/Fk f (arrOf st) (lo+n)<Fk f (arrOf st) (lo+n-1))->Q (none,n) st):wpS (model prog w) A E s (upLoop lo a nrem) Q st:=by
 unfold upLoop
 refine wpS_forRange (I:=fun x c st'=>st'=st/\c=(none,x)/\Seg f (arrOf st) lo x) ?step ?fin ⟨rfl,rfl,hs⟩
 case fin=>
  rintro c st' ⟨rfl,rfl,hs'⟩
  rw[show max a nrem=nrem from Nat.max_eq_right (by omega)]at hs'⊢
  exact h nrem han (Nat.le_refl _) hs' (.inl rfl)
 case step=>
  rintro x c st' hax hxn ⟨rfl,rfl,hs'⟩
  dsimp only
  refine wpS_bind (wpS_ltF C hm B (by omega) (by omega) ?_)
  by_cases hl:Fk f (arrOf st') (lo+x)<Fk f (arrOf st') (lo+x-1)
  .simp only[hl,decide_true,if_true]
   exact wpS_pure (h x hax (by omega) hs' (.inr hl))
  .simp only[hl,decide_false,Bool.false_eq_true,if_false]
   refine wpS_pure ⟨rfl,rfl,fun i j hi hij hj=>?_⟩
   by_cases hjx:j<lo+x
   .exact hs' i j hi hij hjx
   .obtain rfl:j=lo+x:=by omega
    by_cases hi':i=lo+x
    .rw[hi'];exact Int.le_refl _
    .have:=hs' i (lo+x-1) hi (by omega) (by omega);omega
noncomputable abbrev RunPost(f:Keyed->Int)(κ:SortKind)(a₀:Array Keyed)(lo nrem:Nat)(st:SortSt)(Q:Option Nat->SortSt->Prop):Prop:=
 ∀m st',TB κ a₀ st'->Fr lo st st'->1<=m->m<=nrem->Seg f (arrOf st') lo m->Q (some m) st'
theorem wpS_dnTail(C:CmpS prog w A s κ mem (fl f))(hm:∀x∈a₀.toList,mem x){st0 st:SortSt}{lo n nrem:Nat}{Q:Option Nat->SortSt->Prop}(hn:lo+nrem<=a₀.size)(h1:1<=n)(hnn:n<=nrem)(B:TB κ a₀ st)(F:Fr lo st0 st)(hs:Dsc f (arrOf st) lo n)
  (h:RunPost f κ a₀ lo nrem st0 Q):wpS (model prog w) A E s (dnTail lo n nrem) Q st:=by
 unfold dnTail
 have hsz:lo+n<=(arrOf st).size:=by rw[B.size];omega
 refine wpS_bind (revS_at ?_)
 have B':TB κ a₀ (setArr st (mirror (arrOf st) lo (lo+n) ((lo+n-lo)/2))):=B.set (mirror_perm _ _ _ _)
 have F':=F.trans (Fr.mir (Nat.le_refl lo) hsz)
 refine wpS_bind (wpS_up C hm hn h1 hnn B' ?_ fun m hm1 hm2 hsm _=>wpS_pure (h m _ B' F' (by omega) hm2 hsm))
 intro i j hi hij hj
 show Fk f (mirror (arrOf st) lo (lo+n) ((lo+n-lo)/2)) i<=Fk f (mirror (arrOf st) lo (lo+n) ((lo+n-lo)/2)) j
 rw[Fk_mir hsz,Fk_mir hsz,if_pos (by omega),if_pos (by omega)]
 exact hs _ _ (by omega) (by omega) (by omega)
theorem dsc_more{xs ys:Array Keyed}{lo x:Nat}(h1:1<=x)(hs:Dsc f xs lo x)(hk:∀k,Fk f ys k=Fk f xs k)(hl:Fk f xs (lo+x)<=Fk f xs (lo+x-1)):Dsc f ys lo (x+1):=by
 intro i j hi hij hj
 rw[hk,hk]
 by_cases hjx:j<lo+x
 .exact hs i j hi hij hjx
 .obtain rfl:j=lo+x:=by omega
  by_cases hi':i=lo+x
  .rw[hi'];exact Int.le_refl _
  .have:=hs i (lo+x-1) hi (by omega) (by omega);omega
theorem wpS_dnLoop(C:CmpS prog w A s κ mem (fl f))(hm:∀x∈a₀.toList,mem x){st0 st:SortSt}{lo n nrem:Nat}{Q:DnS->SortSt->Prop}(hn:lo+nrem<=a₀.size)(h1:1<=n)(hnn:n<=nrem)(B:TB κ a₀ st)(F:Fr lo st0 st)(hs:Dsc f (arrOf st) lo n)
  (h:∀m q st',TB κ a₀ st'->Fr lo st0 st'->n<=m->m<=nrem->Dsc f (arrOf st') lo m->q+1<=m->(∀i,lo+m-(q+1)<=i->i<lo+m->Fk f (arrOf st') i=Fk f (arrOf st') (lo+m-1))->Q (none,m,q) st') :
  wpS (model prog w) A E s (dnLoop lo n nrem) Q st:=by
 unfold dnLoop
 refine wpS_forRange (I:=fun x c st'=>∃q,c=(none,x,q)/\TB κ a₀ st'/\Fr lo st0 st'/\Dsc f (arrOf st') lo x/\q+1<=x/\∀i,lo+x-(q+1)<=i->i<lo+x->Fk f (arrOf st') i=Fk f (arrOf st') (lo+x-1)) ?step ?fin ⟨0,rfl,B,F,hs,by omega,fun i h1 h2=>by congr 1;omega⟩
 case fin=>
  intro c st' hIh
  refine hid fun Cg hCg=>?_
  obtain⟨q,rfl,B',F',hs',hq,he⟩:=hIh
  refine hCg ?_
  rw[show max n nrem=nrem from Nat.max_eq_right (by omega)]at hs' hq he⊢
  exact h nrem q st' B' F' hnn (Nat.le_refl _) hs' hq he
 case step=>
  intro x c st' hax hxn hIh
  refine hid fun Cg hCg=>?_
  obtain⟨q,rfl,B',F',hs',hq,he⟩:=hIh
  refine hCg ?_
  dsimp only
  have hsz:lo+x<=(arrOf st').size:=by rw[B'.size];omega
  refine wpS_bind (wpS_ltF C hm B' (by omega) (by omega) ?_)
  by_cases hl:Fk f (arrOf st') (lo+x)<Fk f (arrOf st') (lo+x-1)
  .simp only[hl,decide_true,if_true]
   refine wpS_ite (fun(hq0:q>0)=>?_) (fun(hq0:¬(q>0))=>?_)
   .exact wpS_bind (revS_at (wpS_pure ⟨0,rfl,B'.set (mirror_perm _ _ _ _),F'.trans (Fr.mir (by omega) hsz),dsc_more (by omega) hs' (Fk_mir_eq hsz he) (Int.le_of_lt hl),by omega,fun i h1 h2=>by congr 1;omega⟩))
   .exact wpS_pure ⟨0,rfl,B',F',dsc_more (by omega) hs' (fun _=>rfl) (Int.le_of_lt hl),by omega,fun i h1 h2=>by congr 1;omega⟩
  .simp only[hl,decide_false,Bool.false_eq_true,if_false]
   refine wpS_bind (wpS_ltF C hm B' (by omega) (by omega) ?_)
   by_cases hg:Fk f (arrOf st') (lo+x-1)<Fk f (arrOf st') (lo+x)
   .simp only[hg,decide_true,if_true]
    exact wpS_pure (h x q st' B' F' hax (by omega) hs' hq he)
   .simp only[hg,decide_false,Bool.false_eq_true,if_false]
    have hx:Fk f (arrOf st') (lo+x)=Fk f (arrOf st') (lo+x-1):=by omega
    refine wpS_pure ⟨q+1,rfl,B',F',dsc_more (by omega) hs' (fun _=>rfl) (by omega),by omega,fun i h1 h2=>?_⟩
    rw[show lo+(x+1)-1=lo+x by omega]
    by_cases hix:i=lo+x
    .rw[hix]
    .rw[hx];exact he i (by omega) (by omega)
theorem wpS_dnPart(C:CmpS prog w A s κ mem (fl f))(hm:∀x∈a₀.toList,mem x){st0 st:SortSt}{lo n nrem:Nat}{Q:Option Nat->SortSt->Prop}(hn:lo+nrem<=a₀.size)(hnn:n+1<=nrem)(B:TB κ a₀ st)(F:Fr lo st0 st)(hs:Dsc f (arrOf st) lo (n+1))
  (h:RunPost f κ a₀ lo nrem st0 Q):wpS (model prog w) A E s (dnPart lo n nrem) Q st:=by
 unfold dnPart
 refine wpS_bind (wpS_lift (wpAny_rule ⟨rfl,?_⟩))
 refine wpS_bind (wpS_dnLoop C hm hn (by omega) hnn B F hs fun m q st' B' F' hm1 hm2 hs' hq he=>?_)
 dsimp only
 have hsz:lo+m<=(arrOf st').size:=by rw[B'.size];omega
 refine wpS_ite (fun(hq0:q>0)=>?_) (fun(hq0:¬(q>0))=>?_)
 .refine wpS_bind (revS_at (wpS_dnTail C hm hn (by omega) hm2 (B'.set (mirror_perm _ _ _ _)) (F'.trans (Fr.mir (by omega) hsz)) ?_ h))
  intro i j hi hij hj
  show Fk f (mirror (arrOf st') _ _ _) j<=Fk f (mirror (arrOf st') _ _ _) i
  rw[Fk_mir_eq hsz he,Fk_mir_eq hsz he]
  exact hs' i j hi hij hj
 .exact wpS_dnTail C hm hn (by omega) hm2 B' F' hs' h
theorem wpS_run(C:CmpS prog w A s κ mem (fl f))(hm:∀x∈a₀.toList,mem x){st:SortSt}{lo nrem:Nat}{Q:Option Nat->SortSt->Prop}(hn:lo+nrem<=a₀.size)(h1:1<=nrem)(B:TB κ a₀ st)(h:RunPost f κ a₀ lo nrem st Q) :
  wpS (model prog w) A E s (countRun' lo nrem) Q st:=by
 rw[count_lo]
 refine wpS_bind (wpS_up C hm hn (Nat.le_refl 1) h1 B (fun i j hi hij hj=>by obtain rfl:i=j:=by omega
                                                                             exact Int.le_refl _) fun n hn1 hn2 hsn hor=>?_)
 dsimp only
 by_cases hnn:n=nrem
 .rw[if_pos (by simpa using hnn)]
  exact wpS_pure (h n st B (Fr.refl _ _) hn1 hn2 hsn)
 .rw[if_neg (by simpa using hnn)]
  have hlt:Fk f (arrOf st) (lo+n)<Fk f (arrOf st) (lo+n-1):=hor.resolve_left hnn
  refine wpS_ite (fun(hgt:n>1)=>?_) (fun(hgt:¬(n>1))=>?_)
  .refine wpS_bind (wpS_ltF C hm B (by omega) (by omega) ?_)
   by_cases hr:Fk f (arrOf st) lo<Fk f (arrOf st) (lo+n-1)
   .simp only[hr,decide_true,if_true]
    exact wpS_pure (h n st B (Fr.refl _ _) hn1 hn2 hsn)
   .simp only[hr,decide_false,Bool.false_eq_true,if_false]
    have hsz:lo+n<=(arrOf st).size:=by rw[B.size];omega
    have hall:∀k,lo<=k->k<lo+n->Fk f (arrOf st) k=Fk f (arrOf st) (lo+n-1):=by
     intro k hlk hk
     have a1:=hsn lo k (by omega) hlk hk
     have a2:=hsn k (lo+n-1) (by omega) (by omega) (by omega)
     omega
    refine wpS_bind (revS_at (wpS_dnPart C hm hn (by omega) (B.set (mirror_perm _ _ _ _)) (Fr.mir (Nat.le_refl lo) hsz) (dsc_more (xs:=arrOf st) hn1 ?_ (Fk_mir_eq hsz hall) (Int.le_of_lt hlt)) h))
    intro i j hi hij hj
    rw[hall i (by omega) (by omega),hall j (by omega) hj]
    exact Int.le_refl _
  .obtain rfl:n=1:=by omega
   refine wpS_dnPart C hm hn (by omega) B (Fr.refl _ _) (dsc_more (xs:=arrOf st) hn1 ?_ (fun _=>rfl) (Int.le_of_lt hlt)) h
   intro i j hi hij hj
   obtain rfl:i=j:=by omega
   exact Int.le_refl _
theorem wpS_ins(C:CmpS prog w A s κ mem (fl f))(hm:∀x∈a₀.toList,mem x){st:SortSt}{lo n ok:Nat}{Q:Bool->SortSt->Prop}(hn:lo+n<=a₀.size)(hok:ok<=n)(B:TB κ a₀ st)(hs:Seg f (arrOf st) lo ok)
  (h:∀st',TB κ a₀ st'->Fr lo st st'->Seg f (arrOf st') lo n->Q true st'):wpS (model prog w) A E s (binarySort' lo n ok) Q st:=by
 rw[binarySort'_eq]
 refine wpS_bind (wpS_mono (wpS_forRange (I:=fun k c st'=>c=(none,())/\TB κ a₀ st'/\Fr lo st st'/\Seg f (arrOf st') lo (min k n)) (Q:=fun c st'=>c=(none,())/\TB κ a₀ st'/\Fr lo st st'/\Seg f (arrOf st') lo n) ?step ?fin ?init) ?post)
 case post=>
  intro c st' hIh
  refine hid fun Cg hCg=>?_
  obtain⟨rfl,B',F',hs'⟩:=hIh
  refine hCg ?_
  exact wpS_pure (h st' B' F' hs')
 case init=>
  refine⟨rfl,B,Fr.refl _ _,fun i j hi hij hj=>?_⟩
  by_cases h1:ok=0
  .obtain rfl:i=j:=by omega
   exact Int.le_refl _
  .exact hs i j hi hij (by omega)
 case fin=>
  intro c st' hIh
  refine hid fun Cg hCg=>?_
  obtain⟨hc,B',F',hs'⟩:=hIh
  refine hCg ?_
  refine⟨hc,B',F',?_⟩
  rwa [show min (max (max ok 1) n) n=n from Nat.min_eq_right (Nat.le_max_right _ _)]at hs'
 case step=>
  intro k c st' hak hkn hIh
  refine hid fun Cg hCg=>?_
  obtain⟨rfl,B',F',hs'⟩:=hIh
  refine hCg ?_
  rw[show min k n=k from Nat.min_eq_left (by omega)]at hs'
  have hk:lo+k<a₀.size:=by omega
  refine wpS_bind (wpS_mono (wpS_forRange (I:=fun x c st''=>st''=st'/\∃l r,c=(none,l,r)/\l<=r/\r<=k/\r-l<=k-x/\(∀i,i<l->Fk f (arrOf st') (lo+i)<=Fk f (arrOf st') (lo+k))/\∀i,r<=i->i<k->Fk f (arrOf st') (lo+k)<Fk f (arrOf st') (lo+i))
   (Q:=fun c st''=>st''=st'/\∃l r,c=(none,l,r)/\l<=k/\(∀i,i<l->Fk f (arrOf st') (lo+i)<=Fk f (arrOf st') (lo+k))/\∀i,l<=i->i<k->Fk f (arrOf st') (lo+k)<Fk f (arrOf st') (lo+i)) ?istep ?ifin ?iinit) ?ipost)
  case iinit=>exact⟨rfl,(x_EE 0 k ⟨rfl,by omega,by omega,by omega,fun i hi=>by omega,fun i h1 h2=>by omega⟩)⟩
  case ifin=>
   intro c st'' hIh
   refine hid fun Cg hCg=>?_
   obtain⟨rfl,l,r,rfl,hlr,hrk,hmm,hlo,hhi⟩:=hIh
   refine hCg ?_
   obtain rfl:l=r:=by omega
   exact⟨rfl,(x_EE l l ⟨rfl,hrk,hlo,hhi⟩)⟩
  case istep=>
   intro x c st'' _ hxk hIh
   refine hid fun Cg hCg=>?_
   obtain⟨rfl,l,r,rfl,hlr,hrk,hmm,hlo,hhi⟩:=hIh
   refine hCg ?_
   dsimp only
   refine wpS_ite (fun(hge:l>=r)=>?_) (fun(hge:¬(l>=r))=>?_)
   .obtain rfl:l=r:=by omega
    exact wpS_pure ⟨rfl,(x_EE l l ⟨rfl,hrk,hlo,hhi⟩)⟩
   .refine wpS_bind (wpS_ltF C hm B' hk (by omega) ?_)
    by_cases hl:Fk f (arrOf st'') (lo+k)<Fk f (arrOf st'') (lo+(l+r)/2)
    .simp only[hl,decide_true,if_true]
     refine wpS_pure ⟨rfl,(x_EE l ((l+r)/2) ⟨rfl,by omega,by omega,by omega,hlo,fun i h1 h2=>?_⟩)⟩
     have:=hs' (lo+(l+r)/2) (lo+i) (by omega) (by omega) (by omega)
     omega
    .simp only[hl,decide_false,Bool.false_eq_true,if_false]
     refine wpS_pure ⟨rfl,(x_EE ((l+r)/2+1) r ⟨rfl,by omega,by omega,by omega,fun i h1=>?_,hhi⟩)⟩
     have:=hs' (lo+i) (lo+(l+r)/2) (by omega) (by omega) (by omega)
     omega
  case ipost=>
   intro c st'' hIh
   refine hid fun Cg hCg=>?_
   obtain⟨rfl,l,r,rfl,hlk,hlo,hhi⟩:=hIh
   refine hCg ?_
   show wpS _ _ _ _ (do moveDown' (lo+k) (lo+l);pure (ForInStep.yield (none,()))) _ _
   rw[moveDown'_eq]
   have hks:lo+k<(arrOf st'').size:=by rw[B'.size];exact hk
   refine wpS_bind (wpS_modify (wpS_pure ⟨rfl,B'.set (bubble_perm _ _ _),F'.trans (Fr.bub hks (by omega) (by omega)),?_⟩))
   rw[show min (k+1) n=k+1 from Nat.min_eq_left (by omega)]
   intro i j hi hij hj
   show Fk f (bubble (arrOf st'') (lo+k) (lo+k-(lo+l))) i<=Fk f (bubble (arrOf st'') (lo+k) (lo+k-(lo+l))) j
   rw[Fk_bub hks (by omega),Fk_bub hks (by omega),show lo+k-(lo+k-(lo+l))=lo+l by omega]
   have hlo':∀i,lo<=i->i<lo+l->Fk f (arrOf st'') i<=Fk f (arrOf st'') (lo+k):=fun i a1 a2=>by
    have:=hlo (i-lo) (by omega)
    rwa [show lo+(i-lo)=i by omega]at this
   have hhi':∀i,lo+l<=i->i<lo+k->Fk f (arrOf st'') (lo+k)<Fk f (arrOf st'') i:=fun i a1 a2=>by
    have:=hhi (i-lo) (by omega) (by omega)
    rwa [show lo+(i-lo)=i by omega]at this
   repeat' split
   all_goals first
    | (exfalso;omega)
    | exact Int.le_refl _
    | exact hlo' _ (by omega) (by omega)
    | exact Int.le_of_lt (hhi' _ (by omega) (by omega))
    | exact hs' _ _ (by omega) (by omega) (by omega)
end
noncomputable def splice(arr:Array Keyed)(l:List (Keyed×Nat))(sa:Nat):Array Keyed:=l.foldl (fun a q=>a.setIfInBounds (sa+q.2) q.1) arr
theorem splice_get(sa:Nat):∀(l:List Keyed) (o:Nat) (arr:Array Keyed),sa+o+l.length<=arr.size->∀k,(splice arr (l.zipIdx o) sa)[k]?=if sa+o<=k/\k<sa+o+l.length then l[k-(sa+o)]? else arr[k]?
 | [],o,arr,h,k=>by
  show arr[k]?=_
  rw[if_neg (by show ¬(sa+o<=k/\k<sa+o+0);omega)]
 | x::l,o,arr,h,k=>by
  have h':sa+o+(l.length+1)<=arr.size:=by simpa using h
  show(splice (arr.setIfInBounds (sa+o) x) (l.zipIdx (o+1)) sa)[k]?=_
  rw[splice_get sa l (o+1) _ (by simp;omega) k]
  by_cases hk:k=sa+o
  .rw[if_neg (by omega),if_pos (by simp;omega),hk]
   simp[Array.getElem?_setIfInBounds]
   omega
  .by_cases h2:sa+(o+1)<=k/\k<sa+(o+1)+l.length
   .rw[if_pos h2,if_pos (by simp;omega)]
    obtain⟨d,hd⟩:∃d,k-(sa+o)=d+1:=⟨k-(sa+o)-1,by omega⟩
    rw[hd,List.getElem?_cons_succ]
    congr 1
    omega
   .rw[if_neg h2,if_neg (by simp;omega),Array.getElem?_setIfInBounds_ne (by omega)]
theorem splice_list{arr:Array Keyed}{l:List Keyed}{sa:Nat}(h:sa+l.length<=arr.size):(splice arr l.zipIdx sa).toList=arr.toList.take sa++l++arr.toList.drop (sa+l.length):=by
 apply List.ext_getElem?
 intro k
 have e:=splice_get sa l 0 arr (by omega) k
 rw[Array.getElem?_toList,e]
 have hs:arr.toList.length=arr.size:=by simp
 by_cases h1:k<sa
 .rw[if_neg (by omega),List.append_assoc,List.getElem?_append_left (by simp;omega),List.getElem?_take_of_lt h1,Array.getElem?_toList]
 .by_cases h2:k<sa+l.length
  .rw[if_pos (by omega),List.append_assoc,List.getElem?_append_right (by simp;omega),List.getElem?_append_left (by simp;omega)]
   congr 1
   simp
   omega
  .rw[if_neg (by omega),List.getElem?_append_right (by simp;omega),List.getElem?_drop,Array.getElem?_toList]
   congr 1
   simp
   omega
theorem splice_perm{arr:Array Keyed}{l:List Keyed}{sa e:Nat}(he:sa<=e)(h:e<=arr.size)(hp:l.Perm (arr.extract sa e).toList):(splice arr l.zipIdx sa).Perm arr:=by
 have hl:l.length=e-sa:=by rw[hp.length_eq,Array.length_toList,Array.size_extract,Nat.min_eq_left h]
 rw[Array.perm_iff_toList_perm,splice_list (by omega)]
 have e2:arr.toList=arr.toList.take sa++(arr.extract sa e).toList++arr.toList.drop (sa+l.length):=by
  rw[hl,show sa+(e-sa)=e by omega]
  have:(arr.extract sa e).toList=(arr.toList.drop sa).take (e-sa):=by simp
  rw[this]
  conv=>lhs;rw[<-List.take_append_drop sa arr.toList,<-List.take_append_drop (e-sa) (arr.toList.drop sa),List.drop_drop,show sa+(e-sa)=e by omega]
  rw[List.append_assoc]
 refine List.Perm.trans ?_ (List.Perm.of_eq e2.symm)
 exact(List.Perm.append_left _ hp).append_right _
theorem splice_from{f:Keyed->Int}{arr:Array Keyed}{l:List Keyed}{sa e:Nat}(he:sa<=e)(h:e<=arr.size)(hp:l.Perm (arr.extract sa e).toList){k:Nat}(h1:sa<=k)(h2:k<e):∃q,sa<=q/\q<e/\Fk f (splice arr l.zipIdx sa) k=Fk f arr q:=by
 have hl:l.length=e-sa:=by rw[hp.length_eq,Array.length_toList,Array.size_extract,Nat.min_eq_left h]
 have e1:=splice_get sa l 0 arr (by omega) k
 rw[if_pos (by omega)]at e1
 have hk:k-(sa+0)<l.length:=by omega
 have hx:l[k-(sa+0)]∈(arr.extract sa e).toList:=hp.mem_iff.mp (List.getElem_mem hk)
 obtain⟨q,hq⟩:=List.mem_iff_getElem?.mp hx
 rw[Array.getElem?_toList]at hq
 have hq2:q<(arr.extract sa e).size:=(Array.getElem?_eq_some_iff.mp hq).1
 have hq3:q<e-sa:=by rw[Array.size_extract,Nat.min_eq_left h]at hq2;exact hq2
 rw[Array.getElem?_extract,if_pos (by rw[Nat.min_eq_left h];exact hq3)]at hq
 refine⟨sa+q,by omega,by omega,Fk_of ?_⟩
 rw[e1,hq,getElem?_pos l _ hk]
theorem splice_out{f:Keyed->Int}{arr:Array Keyed}{l:List Keyed}{sa e:Nat}(he:sa<=e)(h:e<=arr.size)(hl:l.length=e-sa){k:Nat}(h1:k<sa\/e<=k):(splice arr l.zipIdx sa)[k]?=arr[k]?:=by
 rw[splice_get sa l 0 arr (by omega) k,if_neg (by omega)]
theorem splice_srt{f:Keyed->Int}{arr:Array Keyed}{l:List Keyed}{sa e:Nat}(he:sa<=e)(h:e<=arr.size)(hl:l.length=e-sa)(hs:Srt (fl f) l):Seg f (splice arr l.zipIdx sa) sa (e-sa):=by
 intro i j hi hij hj
 have e1:=splice_get sa l 0 arr (by omega) i
 have e2:=splice_get sa l 0 arr (by omega) j
 rw[if_pos (by omega)]at e1 e2
 have hi2:i-(sa+0)<l.length:=by omega
 have hj2:j-(sa+0)<l.length:=by omega
 rw[getElem?_pos l _ hi2]at e1
 rw[getElem?_pos l _ hj2]at e2
 unfold Fk
 rw[e1,e2]
 show f _<=f _
 by_cases hq:i=j
 .subst hq;exact Int.le_refl _
 .have:=List.pairwise_iff_getElem.mp hs (i-(sa+0)) (j-(sa+0)) hi2 hj2 (by omega)
  simpa using this
section
variable{prog:Program}{w:World}{A:Around}{E:Value->Shared->Prop}{s:Shared}
variable{κ:SortKind}{mem:Keyed->Prop}{f:Keyed->Int}{a₀:Array Keyed}
theorem set_at{st st':SortSt}{Q:PUnit->SortSt->Prop}(h:Q ⟨⟩ st'):wpS (model prog w) A E s (set st':StateT SortSt Sem PUnit) Q st:=by
 unfold wpS;rw[StateT.run_set];exact wpAny_pure ⟨rfl,h⟩
theorem Fk_some{xs:Array Keyed}{i:Nat}{x:Keyed}(h:xs[i]?=some x):Fk f xs i=f x:=by unfold Fk;rw[h];rfl
theorem wpS_mergeAt(C:CmpS prog w A s κ mem (fl f))(hm:∀x∈a₀.toList,mem x){st:SortSt}{i sa na pa sb nb pb:Nat}(B:TB κ a₀ st)(hi:(pendingOf st)[i]?=some (sa,na,pa))(hi1:(pendingOf st)[i+1]?=some (sb,nb,pb))(hsb:sb=sa+na)(hna:1<=na)(hnb:1<=nb)(hsz:sb+nb<=a₀.size)
  (sA:Seg f (arrOf st) sa na) (sB:Seg f (arrOf st) sb nb) {Q:Bool->SortSt->Prop}
  (h:∀st',TB κ a₀ st'->pendingOf st'=((pendingOf st).setIfInBounds i (sa,na+nb,pa)).eraseIdxIfInBounds (i+1)->(∀k,k<sa\/sb+nb<=k->(arrOf st')[k]?=(arrOf st)[k]?)->Seg f (arrOf st') sa (na+nb)->Q true st') :
  wpS (model prog w) A E s (mergeAt' i) Q st:=by
 refine wpS_bind (wpS_get ?_)
 rw[hi,hi1]
 dsimp only
 refine wpS_bind (set_at ?_)
 have B1:TB κ a₀ (SortSt.mk' (kindOf st) (arrOf st) (((pendingOf st).setIfInBounds i (sa,na+nb,pa)).eraseIdxIfInBounds (i+1)) (gallopOf st) (failedOf st)):=⟨B.perm,B.kind,B.failed⟩
 have h1:=h _ B1 rfl
 have h2:∀(g:Nat) (arr':Array Keyed),arr'.Perm (arrOf st)->(∀k,k<sa\/sb+nb<=k->arr'[k]?=(arrOf st)[k]?)->Seg f arr' sa (na+nb)->Q true (SortSt.mk' (kindOf st) arr' (((pendingOf st).setIfInBounds i (sa,na+nb,pa)).eraseIdxIfInBounds (i+1)) g (failedOf st)):=
  fun g arr' hp ho hs=>h (SortSt.mk' (kindOf st) arr' (((pendingOf st).setIfInBounds i (sa,na+nb,pa)).eraseIdxIfInBounds (i+1)) g (failedOf st)) ⟨hp.trans B.perm,B.kind,B.failed⟩ rfl ho hs
 have hsize:=B.size
 show wpS (model prog w) A E s _ Q (SortSt.mk' (kindOf st) (arrOf st) (((pendingOf st).setIfInBounds i (sa,na+nb,pa)).eraseIdxIfInBounds (i+1)) (gallopOf st) (failedOf st))
 generalize hst1:SortSt.mk' (kindOf st) (arrOf st) (((pendingOf st).setIfInBounds i (sa,na+nb,pa)).eraseIdxIfInBounds (i+1)) (gallopOf st) (failedOf st)=st1 at B1 h1⊢
 obtain⟨xb,exb,mxb,fxb⟩:=B.at (f:=f) hm (show sb<a₀.size by omega)
 have memA:∀i z,(arrOf st)[i]?=some z->mem z:=fun i z hz=>hm z ((Array.perm_iff_toList_perm.mp B.perm).mem_iff.mp (by obtain⟨h1,h2⟩:=Array.getElem?_eq_some_iff.mp hz;rw[<-h2];simp))
 have isA:arrOf st1=arrOf st:=by rw[<-hst1]
 refine wpS_bind (elem_at exb (wpS_bind (wpS_galR (st:=st1) (base:=sa) (n:=na) (hint:=0) C (fl_ord f) B1.kind mxb (by omega) (fun i z hi hz=>memA _ z hz) (by omega) (fun i j y z hij hj hy hz=>?_) fun k hkn g1 g2=>?_)))
 .have:=sA (sa+i) (sa+j) (by omega) (by omega) (by omega)
  rw[Fk_some hy,Fk_some hz]at this
  simpa using this
 have g1':∀q,sa<=q->q<sa+k->Fk f (arrOf st) q<=Fk f (arrOf st) sb:=fun q q1 q2=>by
  obtain⟨z,ez,_,fz⟩:=B.at (f:=f) hm (show q<a₀.size by omega)
  have:=g1 (q-sa) z (by omega) (by rw[show sa+(q-sa)=q by omega];exact ez)
  rw[<-fxb,<-fz]
  simpa using this
 dsimp only
 refine wpS_ite (fun(hk0:(na-k==0)=true)=>?_) (fun(hk0:¬(na-k==0)=true)=>?_)
 .have hk1:na-k=0:=by simpa using hk0
  refine wpS_pure (h1 (fun q _=>by rw[isA]) ?_)
  rw[isA]
  intro i j hi hij hj
  by_cases hj2:j<sb
  .exact sA i j hi hij (by omega)
  .by_cases hi2:i<sb
   .have a1:=g1' i hi (by omega)
    have a2:=sB sb j (Nat.le_refl _) (by omega) (by omega)
    omega
   .exact sB i j (by omega) hij (by omega)
 have hk1:k<na:=by have:¬na-k=0:=by simpa using hk0
                   omega
 obtain⟨xl,exl,mxl,fxl⟩:=B.at (f:=f) hm (show sb-1<a₀.size by omega)
 have exl':(arrOf st)[sa+k+(na-k)-1]?=some xl:=by rw[show sa+k+(na-k)-1=sb-1 by rw[Nat.add_assoc,Nat.add_sub_cancel' (Nat.le_of_lt hk1),<-hsb]];exact exl
 refine wpS_bind (elem_at exl' (wpS_bind (wpS_galL (st:=st1) (base:=sb) (n:=nb) (hint:=nb-1) C (fl_ord f) B1.kind mxl (by omega) (fun i z hi hz=>memA _ z hz) (by omega) (fun i j y z hij hj hy hz=>?_) fun n2 hn2 g3 g4=>?_)))
 .have:=sB (sb+i) (sb+j) (by omega) (by omega) (by omega)
  rw[Fk_some hy,Fk_some hz]at this
  simpa using this
 have g4':∀q,sb+n2<=q->q<sb+nb->Fk f (arrOf st) (sb-1)<=Fk f (arrOf st) q:=fun q q1 q2=>by
  obtain⟨z,ez,_,fz⟩:=B.at (f:=f) hm (show q<a₀.size by omega)
  have:=g4 (q-sb) z (by omega) (by omega) (by rw[show sb+(q-sb)=q by omega];exact ez)
  rw[<-fxl,<-fz]
  simpa using this
 dsimp only
 refine wpS_ite (fun(hn0:(n2==0)=true)=>?_) (fun(hn0:¬(n2==0)=true)=>?_)
 .have hn1:n2=0:=by simpa using hn0
  refine wpS_pure (h1 (fun q _=>by rw[isA]) ?_)
  rw[isA]
  intro i j hi hij hj
  by_cases hj2:j<sb
  .exact sA i j hi hij (by omega)
  .by_cases hi2:i<sb
   .have a1:=sA i (sb-1) hi (by omega) (by omega)
    have a2:=g4' j (by omega) (by omega)
    omega
   .exact sB i j (by omega) hij (by omega)
 have hn1:1<=n2:=by have:¬n2=0:=by simpa using hn0
                    omega
 have ga:∀q,((arrOf st).extract (sa+k) sb)[q]?=if q<sb-(sa+k)then(arrOf st)[sa+k+q]? else none:=fun q=>by
  rw[Array.getElem?_extract]
  have:min sb (arrOf st).size=sb:=Nat.min_eq_left (by omega)
  rw[this]
 have gb:∀q,((arrOf st).extract sb (sb+n2))[q]?=if q<n2 then(arrOf st)[sb+q]? else none:=fun q=>by
  rw[Array.getElem?_extract]
  have:min (sb+n2) (arrOf st).size-sb=n2:=by rw[Nat.min_eq_left (by omega)];exact Nat.add_sub_cancel_left _ _
  rw[this]
 have za:((arrOf st).extract (sa+k) sb).size=sb-(sa+k):=by rw[Array.size_extract,Nat.min_eq_left (by omega)]
 have zb:((arrOf st).extract sb (sb+n2)).size=n2:=by rw[Array.size_extract,Nat.min_eq_left (by omega)];exact Nat.add_sub_cancel_left _ _
 have inA:∀z∈((arrOf st).extract (sa+k) sb).toList,∃q,sa+k<=q/\q<sb/\(arrOf st)[q]?=some z:=fun z hz=>by
  obtain⟨q,hq⟩:=List.mem_iff_getElem?.mp hz
  rw[Array.getElem?_toList,ga]at hq
  by_cases hq2:q<sb-(sa+k)
  .rw[if_pos hq2]at hq;exact⟨_,by omega,by omega,hq⟩
  .rw[if_neg hq2]at hq;cases hq
 have inB:∀z∈((arrOf st).extract sb (sb+n2)).toList,∃q,q<n2/\(arrOf st)[sb+q]?=some z:=fun z hz=>by
  obtain⟨q,hq⟩:=List.mem_iff_getElem?.mp hz
  rw[Array.getElem?_toList,gb]at hq
  by_cases hq2:q<n2
  .rw[if_pos hq2]at hq;exact⟨_,hq2,hq⟩
  .rw[if_neg hq2]at hq;cases hq
 have srtOf:∀(lo m:Nat),lo+m<=(arrOf st).size->Seg f (arrOf st) lo m->Srt (fl f) ((arrOf st).extract lo (lo+m)).toList:=fun lo m hlm hs=>by
  refine List.pairwise_iff_getElem.mpr fun i j hi hj hij=>?_
  have zi:((arrOf st).extract lo (lo+m)).toList.length=m:=by rw[Array.length_toList,Array.size_extract,Nat.min_eq_left hlm];exact Nat.add_sub_cancel_left _ _
  have:=hs (lo+i) (lo+j) (by omega) (by omega) (by omega)
  rw[Fk_some (getElem?_pos (arrOf st) (lo+i) (by omega)),Fk_some (getElem?_pos (arrOf st) (lo+j) (by omega))]at this
  simpa using this
 have T:Two mem (fl f) ((arrOf st).extract (sa+k) sb) ((arrOf st).extract sb (sb+n2)):=by
  refine⟨fun z hz=>?_,fun z hz=>?_,?_,srtOf sb n2 (by omega) fun i j hi hij hj=>sB i j hi hij (by omega),by omega,by omega,fun x y hx hy=>?_,fun y hy x hx=>?_⟩
  .obtain⟨q,_,_,hq⟩:=inA z hz
   exact memA q z hq
  .obtain⟨q,_,hq⟩:=inB z hz
   exact memA _ z hq
  .have:=srtOf (sa+k) (na-k) (by omega) fun i j hi hij hj=>sA i j (by omega) hij (by omega)
   rwa [show sa+k+(na-k)=sb by rw[Nat.add_assoc,Nat.add_sub_cancel' (Nat.le_of_lt hk1),<-hsb]]at this
  .rw[gb,if_pos (by omega)]at hx
   rw[ga,if_pos (by omega)]at hy
   have e0:x=xb:=by rw[Nat.add_zero,exb]at hx;exact(Option.some.inj hx).symm
   rw[e0]
   exact g2 k y (Nat.le_refl _) hk1 (by simpa using hy)
  .obtain⟨q,hq1,hq⟩:=inB y hy
   rw[za,ga,if_pos (by omega),show sa+k+(sb-(sa+k)-1)=sb-1 by rw[<-Nat.add_sub_assoc (by omega),Nat.add_sub_cancel' (by omega)],exl]at hx
   rw[<-Option.some.inj hx]
   exact g3 q y hq1 hq
 have whole:((arrOf st).extract (sa+k) sb).toList++((arrOf st).extract sb (sb+n2)).toList=((arrOf st).extract (sa+k) (sb+n2)).toList:=by
  rw[<-Array.toList_append,Array.extract_append_extract]
  congr 2<;>omega
 have fin:∀(out:Array Keyed) (st':SortSt),SameG st1 st'->Merged (fl f) ((arrOf st).extract (sa+k) sb).toList ((arrOf st).extract sb (sb+n2)).toList out.toList->Q true (setArr st' (splice (arrOf st') out.toList.zipIdx (sa+k))):=by
  intro out st' G M
  have hp:out.toList.Perm ((arrOf st).extract (sa+k) (sb+n2)).toList:=by rw[<-whole];exact M.1
  have hl:out.toList.length=sb+n2-(sa+k):=by rw[hp.length_eq,Array.length_toList,Array.size_extract,Nat.min_eq_left (by omega)]
  have e1:setArr st' (splice (arrOf st') out.toList.zipIdx (sa+k))=SortSt.mk' (kindOf st) (splice (arrOf st) out.toList.zipIdx (sa+k)) (((pendingOf st).setIfInBounds i (sa,na+nb,pa)).eraseIdxIfInBounds (i+1)) (gallopOf st') (failedOf st):=by
   show SortSt.mk' (kindOf st') (splice (arrOf st') _ _) (pendingOf st') (gallopOf st') (failedOf st')=_
   rw[G.1,G.2.1,G.2.2.1,G.2.2.2,<-hst1]
  rw[e1]
  have sM:=splice_srt (f:=f) (arr:=arrOf st) (show sa+k<=sb+n2 by omega) (by omega) hl M.2
  have from':∀q,sa+k<=q->q<sb+n2->∃p,sa+k<=p/\p<sb+n2/\Fk f (splice (arrOf st) out.toList.zipIdx (sa+k)) q=Fk f (arrOf st) p:=fun q q1 q2=>splice_from (f:=f) (show sa+k<=sb+n2 by omega) (by omega) hp q1 q2
  have out':∀q,q<sa+k\/sb+n2<=q->(splice (arrOf st) out.toList.zipIdx (sa+k))[q]?=(arrOf st)[q]?:=fun q hq=>splice_out (f:=f) (show sa+k<=sb+n2 by omega) (by omega) hl hq
  refine h2 _ _ (splice_perm (show sa+k<=sb+n2 by omega) (by omega) hp) (fun q hq=>out' q (by omega)) ?_
  have lowAll:∀i p,sa<=i->i<sa+k->sa+k<=p->p<sb+nb->Fk f (arrOf st) i<=Fk f (arrOf st) p:=fun i p i1 i2 p1 p2=>by
   by_cases hp2:p<sb
   .exact sA i p i1 (by omega) (by omega)
   .have a1:=g1' i i1 i2
    have a2:=sB sb p (Nat.le_refl _) (by omega) (by omega)
    omega
  have hiAll:∀p j,sa<=p->p<sb+n2->sb+n2<=j->j<sb+nb->Fk f (arrOf st) p<=Fk f (arrOf st) j:=fun p j p1 p2 j1 j2=>by
   by_cases hp2:p<sb
   .have a1:=sA p (sb-1) p1 (by omega) (by omega)
    have a2:=g4' j j1 j2
    omega
   .exact sB p j (by omega) (by omega) (by omega)
  intro i j hi hij hj
  by_cases hi2:i<sa+k
  .rw[Fk_of (f:=f) (out' i (.inl hi2))]
   by_cases hj2:j<sa+k
   .rw[Fk_of (f:=f) (out' j (.inl hj2))]
    exact sA i j hi hij (by omega)
   .by_cases hj3:j<sb+n2
    .obtain⟨p,p1,p2,ep⟩:=from' j (by omega) hj3
     rw[ep]
     exact lowAll i p hi hi2 p1 (by omega)
    .rw[Fk_of (f:=f) (out' j (.inr (by omega)))]
     exact lowAll i j hi hi2 (by omega) (by omega)
  .by_cases hi3:i<sb+n2
   .by_cases hj3:j<sb+n2
    .exact sM i j (by omega) hij (by omega)
    .obtain⟨p,p1,p2,ep⟩:=from' i (by omega) hi3
     rw[ep,Fk_of (f:=f) (out' j (.inr (by omega)))]
     exact hiAll p j (by omega) p2 (by omega) (by omega)
   .rw[Fk_of (f:=f) (out' i (.inr (by omega))),Fk_of (f:=f) (out' j (.inr (by omega)))]
    exact sB i j (by omega) hij (by omega)
 have done:∀(out:Array Keyed) (st':SortSt),SameG st1 st'->Merged (fl f) ((arrOf st).extract (sa+k) sb).toList ((arrOf st).extract sb (sb+n2)).toList out.toList->
   wpS (model prog w) A E s (do
    modify fun z=>setArr z (splice (arrOf z) out.toList.zipIdx (sa+k))
    let z <-get
    pure (failedOf z).isNone) Q st':=by
  intro out st' G M
  refine wpS_bind (wpS_modify (wpS_bind (wpS_get (wpS_pure ?_))))
  have e:(failedOf (setArr st' (splice (arrOf st') out.toList.zipIdx (sa+k)))).isNone=true:=by
   show(failedOf st').isNone=true
   rw[G.2.2.2,B1.failed]
   rfl
  rw[e]
  exact fin out st' G M
 refine wpS_ite (fun(hle:na-k<=n2)=>?_) (fun(hle:¬(na-k<=n2))=>?_)
 .exact wpS_bind (wpS_mergeLo C (fl_ord f) B1.kind T done)
 .exact wpS_bind (wpS_mergeHi C (fl_ord f) B1.kind T done)
end
noncomputable def Tile:Nat->List (Nat×Nat×Nat)->Nat->Prop
 | a,[],b=>a=b
 | a,e::r,b=>e.1=a/\1<=e.2.1/\Tile (a+e.2.1) r b
theorem tile_app:∀{l1 l2:List (Nat×Nat×Nat)} {a b:Nat},Tile a (l1++l2) b↔∃c,Tile a l1 c/\Tile c l2 b
 | [],l2,a,b=>⟨fun h=>⟨a,rfl,h⟩,fun⟨c,h1,h2⟩=>by cases h1;exact h2⟩
 | e::r,l2,a,b=>⟨fun h=>by
   obtain⟨c,h1,h2⟩:=tile_app.mp h.2.2
   exact⟨c,⟨h.1,h.2.1,h1⟩,h2⟩,fun⟨c,h1,h2⟩=>⟨h1.1,h1.2.1,tile_app.mpr ⟨c,h1.2.2,h2⟩⟩⟩
theorem tile_len:∀{l:List (Nat×Nat×Nat)} {a b:Nat},Tile a l b->a+l.length<=b
 | [],a,b,h=>by cases h;exact Nat.le_refl _
 | e::r,a,b,h=>by
  have:=tile_len h.2.2
  have:=h.2.1
  simp only[List.length_cons]
  omega
theorem tile_mem:∀{l:List (Nat×Nat×Nat)} {a b:Nat},Tile a l b->∀e∈l,a<=e.1/\e.1+e.2.1<=b
 | [],a,b,h,e,he=>by simp at he
 | d::r,a,b,h,e,he=>by
  have l:=tile_len h.2.2
  have:=h.1
  have:=h.2.1
  rcases List.mem_cons.mp he with rfl|he
  .omega
  .have:=tile_mem h.2.2 e he
   omega
noncomputable abbrev prT(e:Nat×Nat×Nat):Nat×Nat:=(e.1,e.2.1)
theorem tile_like:∀{l l':List (Nat×Nat×Nat)} {a b:Nat},l'.map prT=l.map prT->Tile a l b->Tile a l' b
 | [],[],a,b,_,h=>h
 | [],e::r,a,b,q,h=>by simp at q
 | d::r,[],a,b,q,h=>by simp at q
 | d::r,e::r',a,b,q,h=>by
  rw[List.map_cons,List.map_cons]at q
  obtain⟨q1,q2⟩:=List.cons.inj q
  obtain⟨e1,e2⟩:e.1=d.1/\e.2.1=d.2.1:=Prod.mk.inj q1
  refine⟨e1.trans h.1,by rw[e2];exact h.2.1,?_⟩
  rw[e2]
  exact tile_like q2 h.2.2
theorem modify_pr(p:Array (Nat×Nat×Nat))(k w:Nat):(p.modify k fun x=>(x.fst,x.2.fst,w)).toList.map prT=p.toList.map prT:=by
 apply List.ext_getElem?
 intro i
 rw[List.getElem?_map,List.getElem?_map,Array.getElem?_toList,Array.getElem?_toList,Array.getElem?_modify]
 split
 .cases p[i]?<;>rfl
 .rfl
structure PInv(f:Keyed->Int)(κ:SortKind)(a₀:Array Keyed)(lo:Nat)(st:SortSt):Prop where
 base:TB κ a₀ st
 tile:Tile 0 (pendingOf st).toList lo
 segs:∀e∈(pendingOf st).toList,Seg f (arrOf st) e.1 e.2.1
 top:lo<=a₀.size
theorem seg_like{f:Keyed->Int}{xs ys:Array Keyed}{lo n:Nat}(h:Seg f xs lo n)(e:∀k,lo<=k->k<lo+n->ys[k]?=xs[k]?):Seg f ys lo n:=fun i j hi hij hj=>by
 rw[Fk_of (f:=f) (e i hi (by omega)),Fk_of (f:=f) (e j (by omega) hj)]
 exact h i j hi hij hj
section
variable{κ:SortKind}{f:Keyed->Int}{a₀:Array Keyed}{lo:Nat}{st st':SortSt}
theorem PInv.frame(P:PInv f κ a₀ lo st)(B:TB κ a₀ st')(F:Fr lo st st'):PInv f κ a₀ lo st':=by
 refine⟨B,by rw[F.pend];exact P.tile,fun e he=>?_,P.top⟩
 rw[F.pend]at he
 have:=tile_mem P.tile e he
 exact seg_like (P.segs e he) fun k h1 h2=>F.low k (by omega)
theorem PInv.like(P:PInv f κ a₀ lo st){p:Array (Nat×Nat×Nat)}(h:p.toList.map prT=(pendingOf st).toList.map prT):PInv f κ a₀ lo (setPending st p):=by
 refine⟨⟨P.base.perm,P.base.kind,P.base.failed⟩,tile_like h P.tile,fun e he=>?_,P.top⟩
 have h1:prT e∈(pendingOf st).toList.map prT:=by rw[<-h];exact List.mem_map.mpr ⟨e,he,rfl⟩
 obtain⟨d,hd,ed⟩:=List.mem_map.mp h1
 obtain⟨e1,e2⟩:d.1=e.1/\d.2.1=e.2.1:=Prod.mk.inj ed
 have:=P.segs d hd
 rw[e1,e2]at this
 exact this
theorem PInv.push(P:PInv f κ a₀ lo st){n w:Nat}(h1:1<=n)(ht:lo+n<=a₀.size)(hs:Seg f (arrOf st) lo n):PInv f κ a₀ (lo+n) (setPending st ((pendingOf st).push (lo,n,w))):=by
 refine⟨⟨P.base.perm,P.base.kind,P.base.failed⟩,?_,fun e he=>?_,ht⟩
 .show Tile 0 ((pendingOf st).push (lo,n,w)).toList (lo+n)
  rw[Array.toList_push]
  exact tile_app.mpr ⟨lo,P.tile,rfl,h1,rfl⟩
 .have he':e∈((pendingOf st).push (lo,n,w)).toList:=he
  rw[Array.toList_push]at he'
  rcases List.mem_append.mp he' with h|h
  .exact P.segs e h
  .rw[List.mem_singleton.mp h]
   exact hs
end
section
variable{prog:Program}{w:World}{A:Around}{E:Value->Shared->Prop}{s:Shared}
variable{κ:SortKind}{mem:Keyed->Prop}{f:Keyed->Int}{a₀:Array Keyed}
theorem wpS_mergeP(C:CmpS prog w A s κ mem (fl f))(hm:∀x∈a₀.toList,mem x){st:SortSt}{i lo:Nat}(P:PInv f κ a₀ lo st)(hi:i+1<(pendingOf st).size){Q:Bool->SortSt->Prop}
  (h:∀st',PInv f κ a₀ lo st'->(pendingOf st').size+1=(pendingOf st).size->(∀k,lo<=k->(arrOf st')[k]?=(arrOf st)[k]?)->Q true st'):wpS (model prog w) A E s (mergeAt' i) Q st:=by
 obtain⟨⟨sa,na,pa⟩,e1⟩:∃e,(pendingOf st)[i]?=some e:=⟨_,getElem?_pos _ i (by omega)⟩
 obtain⟨⟨sb,nb,pb⟩,e2⟩:∃e,(pendingOf st)[i+1]?=some e:=⟨_,getElem?_pos _ (i+1) hi⟩
 obtain⟨l1,l2,hl,hlen⟩:∃l1 l2,(pendingOf st).toList=l1++(sa,na,pa)::(sb,nb,pb)::l2/\l1.length=i:=by
  refine(x_EE ((pendingOf st).toList.take i) ((pendingOf st).toList.drop (i+2)) ⟨?_,by simp;omega⟩)
  have hi0:i<(pendingOf st).toList.length:=by simp;omega
  have hi1:i+1<(pendingOf st).toList.length:=by simp;omega
  conv=>lhs;rw[<-List.take_append_drop i (pendingOf st).toList,List.drop_eq_getElem_cons hi0,List.drop_eq_getElem_cons hi1]
  have a1:(pendingOf st).toList[i]=(sa,na,pa):=by
   have:=e1;rw[<-Array.getElem?_toList,getElem?_pos _ i hi0]at this;exact Option.some.inj this
  have a2:(pendingOf st).toList[i+1]=(sb,nb,pb):=by
   have:=e2;rw[<-Array.getElem?_toList,getElem?_pos _ (i+1) hi1]at this;exact Option.some.inj this
  rw[a1,a2]
 have ht:=P.tile
 rw[hl]at ht
 obtain⟨c,t1,t2⟩:=tile_app.mp ht
 obtain⟨h1,h2,h3,h4,t3⟩:=t2
 dsimp only at h1 h2 h3 h4 t3
 have hlast:=tile_len t3
 have sA:=P.segs (sa,na,pa) (by rw[hl];simp)
 have sB:=P.segs (sb,nb,pb) (by rw[hl];simp)
 have top:=P.top
 refine wpS_mergeAt C hm P.base e1 e2 (by omega) h2 h4 (by omega) sA sB fun st' B' hp ho hs=>h st' ?_ ?_ fun k hk=>ho k (.inr (by omega))
 .have hp2:(pendingOf st').toList=l1++(sa,na+nb,pa)::l2:=by
   rw[hp,Array.toList_eraseIdxIfInBounds,Array.toList_setIfInBounds,hl]
   rw[List.set_append_right _ _ (by omega),hlen,Nat.sub_self,List.set_cons_zero,List.eraseIdx_append_of_length_le (by omega),hlen,show i+1-i=1 by omega]
   rfl
  refine⟨B',?_,fun e he=>?_,top⟩
  .rw[hp2]
   refine tile_app.mpr ⟨c,t1,h1,by show 1<=na+nb;omega,?_⟩
   show Tile (c+(na+nb)) l2 lo
   rw[show c+(na+nb)=c+na+nb by omega]
   exact t3
  .rw[hp2]at he
   rcases List.mem_append.mp he with q|q
   .have a1:=tile_mem t1 e q
    exact seg_like (P.segs e (by rw[hl];exact List.mem_append_left _ q)) fun k k1 k2=>ho k (.inl (by omega))
   .rcases List.mem_cons.mp q with q|q
    .rw[q];exact hs
    .have a1:=tile_mem t3 e q
     exact seg_like (P.segs e (by rw[hl];simp[q])) fun k k1 k2=>ho k (.inr (by omega))
 .have:=congrArg List.length (show(pendingOf st').toList=l1++(sa,na+nb,pa)::l2 by
   rw[hp,Array.toList_eraseIdxIfInBounds,Array.toList_setIfInBounds,hl]
   rw[List.set_append_right _ _ (by omega),hlen,Nat.sub_self,List.set_cons_zero,List.eraseIdx_append_of_length_le (by omega),hlen,show i+1-i=1 by omega]
   rfl)
  have q:=congrArg List.length hl
  simp at this q
  omega
theorem wpS_sortAll(C:CmpS prog w A s κ mem (fl f))(hm:∀x∈a₀.toList,mem x){st:SortSt}(B:TB κ a₀ st)(h0:pendingOf st=#[]){Q:Unit->SortSt->Prop}
  (h:∀st',TB κ a₀ st'->Seg f (arrOf st') 0 a₀.size->Q () st'):wpS (model prog w) A E s sortRuns' Q st:=by
 rw[sortRuns'_eq]
 refine wpS_bind (wpS_get ?_)
 dsimp only
 simp only[B.size]
 refine wpS_bind (wpS_mono (wpS_forRange (I:=fun x c st'=>∃lo,c=(none,lo)/\x<=lo/\PInv f κ a₀ lo st') (Q:=fun c st'=>c=(none,a₀.size)/\PInv f κ a₀ a₀.size st') ?step ?fin ?init) ?post)
 case init=>exact⟨0,rfl,Nat.le_refl _,B,by rw[h0];rfl,fun e he=>by rw[h0]at he;simp at he,Nat.zero_le _⟩
 case fin=>
  intro c st' hIh
  refine hid fun Cg hCg=>?_
  obtain⟨lo,rfl,hx,P⟩:=hIh
  refine hCg ?_
  have:=P.top
  obtain rfl:lo=a₀.size:=by omega
  exact⟨rfl,P⟩
 case step=>
  intro x c st' _ hx hIh
  refine hid fun Cg hCg=>?_
  obtain⟨lo,rfl,hlo,P⟩:=hIh
  refine hCg ?_
  dsimp only
  have top:=P.top
  refine wpS_ite (fun(hge:lo>=a₀.size)=>?_) (fun(hge:¬(lo>=a₀.size))=>?_)
  .obtain rfl:lo=a₀.size:=by omega
   exact wpS_pure ⟨rfl,P⟩
  refine wpS_bind (wpS_run C hm (by omega) (by omega) P.base fun n st2 B2 F2 n1 n2 s2=>?_)
  dsimp only
  refine wpS_ite (fun(hmin:n<minRun' a₀.size a₀.size 0)=>?_) (fun(hmin:¬(n<minRun' a₀.size a₀.size 0))=>?_)
  .refine wpS_bind (wpS_lift (wpAny_rule ⟨rfl,?_⟩))
   refine wpS_bind (wpS_ins C hm (by omega) (by omega) B2 s2 fun st3 B3 F3 s3=>?_)
   rw[if_neg (by simp)]
   have f1:1<=(min (a₀.size-lo) (minRun' a₀.size a₀.size 0)):=by omega
   have P3:PInv f κ a₀ lo st3:=P.frame B3 (F2.trans F3)
   refine wpS_bind (wpS_get ?_)
   cases hb:(pendingOf st3).back? with
   | none=>
    dsimp only
    exact wpS_bind (wpS_modify (wpS_pure ⟨_,rfl,by omega,P3.push f1 (by omega) s3⟩))
   | some e=>
    obtain⟨s1,m1,w1⟩:=e
    dsimp only
    refine wpS_bind (wpS_mono (wpS_forRange (I:=fun _ c st4=>c=(none,())/\PInv f κ a₀ lo st4/\Seg f (arrOf st4) lo (min (a₀.size-lo) (minRun' a₀.size a₀.size 0))) (Q:=fun c st4=>c=(none,())/\PInv f κ a₀ lo st4/\Seg f (arrOf st4) lo (min (a₀.size-lo) (minRun' a₀.size a₀.size 0))) ?_ (fun _ _ hh=>hh) ⟨rfl,P3,s3⟩) ?_)
    .rintro y c st4 _ hy ⟨rfl,P4,s4⟩
     refine wpS_bind (wpS_get ?_)
     by_cases h2:(pendingOf st4).size>1
     .rw[if_pos h2,getElem?_pos (pendingOf st4) ((pendingOf st4).size-2) (by omega)]
      dsimp only
      split
      .exact wpS_pure ⟨rfl,P4,s4⟩
      .refine wpS_bind (wpS_mergeP C hm P4 (by omega) fun st5 P5 _ ho=>?_)
       rw[if_neg (by simp)]
       exact wpS_pure ⟨rfl,P5,seg_like s4 fun k k1 _=>ho k k1⟩
     .rw[if_neg h2]
      exact wpS_pure ⟨rfl,P4,s4⟩
    .rintro c st4 ⟨rfl,P4,s4⟩
     dsimp only
     refine wpS_bind (wpS_modify ?_)
     have P5:=P4.like (p:=(pendingOf st4).modify ((pendingOf st4).size-1) fun x=>(x.fst,x.2.fst,power' a₀.size (2*s1+m1) (2*s1+m1+m1+(min (a₀.size-lo) (minRun' a₀.size a₀.size 0))) a₀.size)) (modify_pr _ _ _)
     exact wpS_bind (wpS_modify (wpS_pure ⟨_,rfl,by omega,P5.push f1 (by omega) s4⟩))
  .have P3:PInv f κ a₀ lo st2:=P.frame B2 F2
   refine wpS_bind (wpS_get ?_)
   cases hb:(pendingOf st2).back? with
   | none=>
    dsimp only
    exact wpS_bind (wpS_modify (wpS_pure ⟨_,rfl,by omega,P3.push n1 (by omega) s2⟩))
   | some e=>
    obtain⟨s1,m1,w1⟩:=e
    dsimp only
    refine wpS_bind (wpS_mono (wpS_forRange (I:=fun _ c st4=>c=(none,())/\PInv f κ a₀ lo st4/\Seg f (arrOf st4) lo n) (Q:=fun c st4=>c=(none,())/\PInv f κ a₀ lo st4/\Seg f (arrOf st4) lo n) ?_ (fun _ _ hh=>hh) ⟨rfl,P3,s2⟩) ?_)
    .rintro y c st4 _ hy ⟨rfl,P4,s4⟩
     refine wpS_bind (wpS_get ?_)
     by_cases h2:(pendingOf st4).size>1
     .rw[if_pos h2,getElem?_pos (pendingOf st4) ((pendingOf st4).size-2) (by omega)]
      dsimp only
      split
      .exact wpS_pure ⟨rfl,P4,s4⟩
      .refine wpS_bind (wpS_mergeP C hm P4 (by omega) fun st5 P5 _ ho=>?_)
       rw[if_neg (by simp)]
       exact wpS_pure ⟨rfl,P5,seg_like s4 fun k k1 _=>ho k k1⟩
     .rw[if_neg h2]
      exact wpS_pure ⟨rfl,P4,s4⟩
    .rintro c st4 ⟨rfl,P4,s4⟩
     dsimp only
     refine wpS_bind (wpS_modify ?_)
     have P5:=P4.like (p:=(pendingOf st4).modify ((pendingOf st4).size-1) fun x=>(x.fst,x.2.fst,power' a₀.size (2*s1+m1) (2*s1+m1+m1+n) a₀.size)) (modify_pr _ _ _)
     exact wpS_bind (wpS_modify (wpS_pure ⟨_,rfl,by omega,P5.push n1 (by omega) s4⟩))
 case post=>
  rintro c st' ⟨rfl,P⟩
  dsimp only
  refine wpS_bind (wpS_mono (wpS_forRange (I:=fun x c st''=>c=(none,())/\PInv f κ a₀ a₀.size st''/\(pendingOf st'').size<=max 1 (a₀.size-x)) (Q:=fun c st''=>c=(none,())/\PInv f κ a₀ a₀.size st''/\(pendingOf st'').size<=1) ?_ ?_ ?_) ?_)
  .rintro x c st'' _ hx ⟨rfl,P2,hsz⟩
   refine wpS_bind (wpS_get ?_)
   refine wpS_ite (fun(h1:(pendingOf st'').size<=1)=>?_) (fun(h1:¬((pendingOf st'').size<=1))=>?_)
   .exact wpS_pure ⟨rfl,P2,h1⟩
   .refine wpS_bind (wpS_mergeP C hm P2 (by(repeat' split)<;>omega) fun st5 P5 hz _=>?_)
    rw[if_neg (by simp)]
    exact wpS_pure ⟨rfl,P5,by omega⟩
  .rintro c st'' ⟨rfl,P2,hsz⟩
   exact⟨rfl,P2,by omega⟩
  .refine⟨rfl,P,?_⟩
   have:=tile_len P.tile
   simp at this
   omega
  .rintro c st'' ⟨rfl,P2,hsz⟩
   refine wpS_pure (h st'' P2.base ?_)
   have t:=P2.tile
   have sg:=P2.segs
   have hl:(pendingOf st'').toList.length<=1:=by simpa using hsz
   match hq:(pendingOf st'').toList,hl with
   | [],_=>
    rw[hq]at t
    intro i j hi hij hj
    have:0=a₀.size:=t
    omega
   | [e],_=>
    rw[hq]at t sg
    have a1:=t.1
    have a2:0+e.2.1=a₀.size:=t.2.2
    have a3:=sg e (by simp)
    rw[a1,show e.2.1=a₀.size by omega]at a3
    exact a3
end
end L3
namespace L3
open PySem PySem.Spec PyProof.Rows L2
structure CZ where
 cl:List (Str×Addr)
 C:Addr
 s:Shared
 H:Hp
 ex:List Addr
noncomputable def cxComp(X:Cx)(N:List Str)(scope:Scope)(z:CZ):Cx where
 prog:=X.prog
 w:=X.w
 K:=X.K
 mg:=X.mg
 base:=X.base
 A:=X.A
 N:=N
 s₀:=z.s
 H₀:=z.H
 env:=compEnvC scope z.cl z.C X.env
 outer:=X.stack
 stack:=X.stack
 ex:=z.ex
 calm:=X.calm
 fn:=fun _=>false
 pn:=[]
 xe:=fun _ _=>False
noncomputable def clFrom(cells:List (Str×Addr)):List (Str×NameKind)->List (Str×Addr)->List (Str×Addr)
 | [],cs=>cs
 | (n,k)::r,cs=>if (k==NameKind.free)=true then(match cells.lookup n with|some c=>clFrom cells r ((n,c)::cs)|none=>clFrom cells r cs)else clFrom cells r cs
theorem closureFor_eq{scope:Scope}{env:Env}(h:∀x∈scope.names,x.2=.free->∃c,env.cells.lookup x.1=some c):closureFor scope env=pure (clFrom env.cells scope.names []):=by
 have go:∀(l:List (Str×NameKind)) (cs:List (Str×Addr)),(∀x∈l,x.2=.free->∃c,env.cells.lookup x.1=some c)->
   (forIn l cs fun(x:Str×NameKind) (cs:List (Str×Addr))=>if (x.2==NameKind.free)=true then do let a <-cellOf env x.1;pure (ForInStep.yield ((x.1,a)::cs))else pure (ForInStep.yield cs):Sem (List (Str×Addr)))=pure (clFrom env.cells l cs):=by
  intro l
  induction l with
  | nil=>intro cs _;rfl
  | cons x r ih=>
   intro cs hx
   obtain⟨n,k⟩:=x
   rw[List.forIn_cons]
   have ih':=fun cs=>ih cs fun y hy=>hx y (List.mem_cons_of_mem _ hy)
   unfold clFrom
   dsimp only
   by_cases hk:(k==NameKind.free)=true
   .obtain⟨c,hc⟩:=hx (n,k) List.mem_cons_self (by simpa using hk)
    rw[if_pos hk,if_pos hk]
    simp only at hc
    simp only[cellOf,hc,pure_bind]
    exact ih' _
   .rw[if_neg hk,if_neg hk]
    simp only[pure_bind]
    exact ih' _
 unfold closureFor
 have e:=go scope.names [] h
 simp only[bind_pure]at e⊢
 exact e
theorem clFrom_of{cells:List (Str×Addr)}{x:Str}{c:Addr}:∀{l:List (Str×NameKind)} {cs:List (Str×Addr)},(clFrom cells l cs).lookup x=some c->cells.lookup x=some c\/cs.lookup x=some c
 | [],cs,h=>.inr h
 | (n,k)::r,cs,h=>by
  unfold clFrom at h
  split at h
  .split at h
   .rename_i c0 e
    rcases clFrom_of h with q|q
    .exact .inl q
    .rw[List.lookup_cons]at q
     split at q
     .rename_i hx
      have hx':x=n:=by simpa using hx
      cases q
      rw[hx']
      exact .inl e
     .exact .inr q
   .exact clFrom_of h
  .exact clFrom_of h
theorem clFrom_keeps{cells:List (Str×Addr)}{x:Str}:∀{l:List (Str×NameKind)} {cs:List (Str×Addr)},(∃c,cs.lookup x=some c)->∃c,(clFrom cells l cs).lookup x=some c
 | [],cs,h=>h
 | (n,k)::r,cs,h=>by
  unfold clFrom
  split
  .split
   .refine clFrom_keeps ?_
    rw[List.lookup_cons]
    split
    .exact⟨_,rfl⟩
    .exact h
   .exact clFrom_keeps h
  .exact clFrom_keeps h
theorem clFrom_has{cells:List (Str×Addr)}{x:Str}:∀{l:List (Str×NameKind)} {cs:List (Str×Addr)},(x,NameKind.free)∈l->(∃c,cells.lookup x=some c)->∃c,(clFrom cells l cs).lookup x=some c
 | (n,k)::r,cs,hm,h=>by
  unfold clFrom
  rcases List.mem_cons.mp hm with e|hm
  .cases e
   obtain⟨c,hc⟩:=h
   rw[if_pos (show(NameKind.free==NameKind.free)=true from rfl),hc]
   refine clFrom_keeps ?_
   rw[List.lookup_cons]
   simp
  .split
   .split
    .exact clFrom_has hm h
    .exact clFrom_has hm h
   .exact clFrom_has hm h
theorem relabel_vis{scope:Scope}{env:Env}{x:Str}(hnc:∀y∈scope.names,y.2≠.cell)(h:(relabel scope env).names.lookup x=some .cell\/(relabel scope env).names.lookup x=some .free):(x,NameKind.free)∈scope.names:=by
 rcases h with h|h
 .have hm:=PySem.mem_of_lookup h
  obtain⟨⟨n,k⟩,hy,e⟩:=List.mem_map.mp hm
  dsimp only at e
  split at e
  .rename_i hc
   simp only[Bool.and_eq_true,beq_iff_eq]at hc
   cases e
   rw[hc.1.1]at hy
   exact hy
  .cases e
   exact absurd rfl (hnc _ hy)
 .have hm:=PySem.mem_of_lookup h
  obtain⟨⟨n,k⟩,hy,e⟩:=List.mem_map.mp hm
  dsimp only at e
  split at e
  .cases e
  .cases e
   exact hy
theorem relabel_free{env:Env}:∀{names:List (Str×NameKind)} {x:Str},names.lookup x=some .free->
  ((names.map fun(n,k)=>if (k==NameKind.free&&env.scope.kind==.function&&env.kindOf n==some .cell)then(n,NameKind.cell)else(n,k)).lookup x=some .cell\/
   (names.map fun(n,k)=>if (k==NameKind.free&&env.scope.kind==.function&&env.kindOf n==some .cell)then(n,NameKind.cell)else(n,k)).lookup x=some .free)
 | [],_,h=>by simp at h
 | (n,k)::r,x,h=>by
  have ih:=@relabel_free env r x
  show(List.lookup x ((if (k==NameKind.free&&env.scope.kind==.function&&env.kindOf n==some .cell)=true then(n,NameKind.cell)else(n,k))::_)=_)\/(List.lookup x ((if (k==NameKind.free&&env.scope.kind==.function&&env.kindOf n==some .cell)=true then(n,NameKind.cell)else(n,k))::_)=_)
  cases hx:x==n with
  | true=>
   simp only[List.lookup_cons,hx]at h
   cases h
   by_cases hc:((NameKind.free:NameKind)==NameKind.free&&env.scope.kind==.function&&env.kindOf n==some .cell)=true
   .rw[if_pos hc];left;simp only[List.lookup_cons,hx]
   .rw[if_neg hc];right;simp only[List.lookup_cons,hx]
  | false=>
   simp only[List.lookup_cons,hx]at h
   by_cases hc:(k==NameKind.free&&env.scope.kind==.function&&env.kindOf n==some .cell)=true
   .rw[if_pos hc];simp only[List.lookup_cons,hx];exact ih h
   .rw[if_neg hc];simp only[List.lookup_cons,hx];exact ih h
noncomputable def picks(sl:List (Option Nat))(σ:L2.St):L2.St:=sl.map fun o=>o.bind fun j=>(σ[j]?).getD none
noncomputable def slOk(N N':List Str)(sl:List (Option Nat))(sc osc:Scope):Bool:=
 sl.length==N'.length&&(List.zip N' sl).all fun p=>match p.2 with
  | none=>true
  | some j=>N[j]?==some p.1&&sc.names.lookup p.1==some .free&&(osc.names.lookup p.1==some .cell||osc.names.lookup p.1==some .free)
theorem slOk.len{N N':List Str}{sl:List (Option Nat)}{sc osc:Scope}(h:slOk N N' sl sc osc=true):sl.length=N'.length:=by
 unfold slOk at h
 rw[Bool.and_eq_true]at h
 simpa using h.1
theorem slOk.at{N N':List Str}{sl:List (Option Nat)}{sc osc:Scope}(h:slOk N N' sl sc osc=true){k j:Nat}{x:Str}(h1:N'[k]?=some x)(h2:sl[k]?=some (some j)) :
  N[j]?=some x/\sc.names.lookup x=some .free/\(osc.names.lookup x=some .cell\/osc.names.lookup x=some .free):=by
 unfold slOk at h
 rw[Bool.and_eq_true,List.all_eq_true]at h
 have hm:(x,some j)∈List.zip N' sl:=by
  refine List.mem_of_getElem? (i:=k) ?_
  rw[List.getElem?_zip_eq_some]
  exact⟨h1,h2⟩
 have q:=h.2 _ hm
 simp only[Bool.and_eq_true,Bool.or_eq_true,beq_iff_eq]at q
 exact⟨q.1.1,q.1.2,q.2⟩
noncomputable def frOk(sc osc:Scope):Bool:=sc.names.all fun x=>!(x.2==.free)||(osc.names.lookup x.1==some .cell||osc.names.lookup x.1==some .free)
theorem frOk.of{sc osc:Scope}(h:frOk sc osc=true):∀x∈sc.names,x.2=.free->osc.names.lookup x.1=some .cell\/osc.names.lookup x.1=some .free:=fun x hx e=>by
 have q:=List.all_eq_true.mp h x hx
 rw[e]at q
 simp only[beq_self_eq_true,Bool.not_true,Bool.false_or,Bool.or_eq_true,beq_iff_eq]at q
 exact q
noncomputable def Agree(σ σ':L2.St):Prop:=σ'.length=σ.length/\∀(i:Nat) v,σ[i]?=some (some v)->σ'[i]?=some (some v)
theorem Agree.refl(σ:L2.St):Agree σ σ:=⟨rfl,fun _ _ h=>h⟩
theorem Agree.set{σ σ':L2.St}(a:Agree σ σ'){i:Nat}{v:Option V}(h:σ[i]?=some none):Agree σ (σ'.set i v):=by
 refine⟨by rw[List.length_set];exact a.1,fun j w e=>?_⟩
 by_cases hij:i=j
 .subst hij;rw[h]at e;cases e
 .rw[List.getElem?_set_ne hij];exact a.2 j w e
section
variable{fs ex:List Addr}{H H':Hp}{h h1 h2:Heap}{C:Addr}
theorem Un.but(u:Un fs ex H H' h h1)(hC:h.get? C=none)(sb:∀b o,b≠C->h1.get? b=some o->h2.get? b=some o):Un fs ex H H' h h2 where
 keep:=fun b o e n hb hx=>sb b o (by rintro rfl;rw[hC]at e;cases e) (u.keep b o e n hb hx)
 slot:=fun b o e n hb hx=>by
  obtain⟨sl,q⟩:=u.slot b o e n hb hx
  exact⟨sl,sb b _ (by rintro rfl;rw[hC]at e;cases e) q⟩
 free:=u.free
 there:=fun b o e hx=>by
  obtain⟨o',q⟩:=u.there b o e hx
  exact⟨o',sb b o' (by rintro rfl;rw[hC]at e;cases e) q⟩
 tups:=u.tups
 frzs:=u.frzs
 tbls:=u.tbls
theorem HOk.but{P:Program}{w:World}(x:HOk P w H h1)(hC:H C=none)(sb:∀b o,b≠C->h1.get? b=some o->h2.get? b=some o):HOk P w H h2:=fun a o e=>
 (x a o e).stay (fun b u hc q=>sb b u (by
  rintro rfl
  rcases hc with hc|hc
  .rw[<-hc,hC]at e;cases e
  .rw[hC]at hc;cases hc) q) (fun _ q=>q) fun _ _ q=>q
end
theorem comp_start{X:Cx}{pins:List (Addr×Obj)}{σ:L2.St}{H:Hp}{s:Shared}(I:Inv X pins σ H s){scope:Scope}{N':List Str}{sl:List (Option Nat)}{fp:List Addr}{h₁:Heap}{m:Str->Option Value}{tk:Nat}
  (hk:scope.kind=.function) (hnc:∀y∈scope.names,y.2≠.cell) (hfree:∀x∈scope.names,x.2=.free->X.env.scope.names.lookup x.1=some .cell\/X.env.scope.names.lookup x.1=some .free)
  (hsl:slOk X.N N' sl scope X.env.scope=true) (hfp:∀b∈fp,FpOk X pins H b) (hlt:∀b∈fp,b<s.heap.objs.size)
  (hns:h₁.Ns s.heap.objs.size m) (hkeep:∀b o,s.heap.get? b=some o->h₁.get? b=some o) :
  Inv (cxComp X N' scope ⟨clFrom X.env.cells scope.names [],s.heap.objs.size,s,H,fp⟩) [] (picks sl σ) H {s with heap:=h₁,toks:=tk}:=by
 have cof:∀x c,(clFrom X.env.cells scope.names []).lookup x=some c->X.env.cells.lookup x=some c:=fun x c e=>by
  rcases clFrom_of e with q|q
  .exact q
  .cases q
 have has:∀x,(x,NameKind.free)∈scope.names->∃c,(clFrom X.env.cells scope.names []).lookup x=some c:=fun x hx=>
  clFrom_has hx (I.ok.has x (hfree _ hx rfl))
 refine⟨⟨I.ok.mod,hk,I.ok.glob,I.ok.blt,Nat.le_refl _,fun x y c h1 h2=>I.ok.inj x y c (cof x c h1) (cof y c h2),fun x hx=>has x (relabel_vis hnc hx),fun x c hf _=>absurd hf Bool.false_ne_true,I.ok.hd,I.ok.frames,.inl rfl,
   fun b hb=>⟨Nat.ne_of_lt (hlt b hb),fun x c e=>(hfp b hb).2.2.2.2.1 x c (cof x c e)⟩,I.bs,Nat.le_trans I.ok.bsz I.sz,fun b o e hb=>?_,fun b hb hz=>?_,I.stack,I.stkFree⟩,
  rfl,I.bare,Un.kept hkeep,⟨m,hns,fun i x v h1 h2 _=>?_⟩,fun x c e=>?_,I.hok.fresh (Nat.le_refl _),fun x c e=>I.freeC x c (cof x c e),fun p hp=>absurd (show p∈([]:List (Addr×Obj))from hp) (by simp),I.hok.kept hkeep,?_⟩
 .rcases(hfp b hb).2.2.2.1 with z|z
  .exact I.ok.noex b o e z
  .exact absurd (Nat.lt_of_lt_of_le (Heap.lt_size (I.ok.bs b o e).1) z) (Nat.lt_irrefl _)
 .rcases List.mem_cons.mp (I.stkSub b hz)with z|z
  .exact(hfp b hb).2.1 z
  .exact(hfp b hb).2.2.1 z
 .have h2':(picks sl σ)[i]?=some (some v):=h2
  unfold picks at h2'
  rw[List.getElem?_map]at h2'
  cases q:sl[i]? with
  | none=>rw[q]at h2';cases h2'
  | some o=>
   rw[q]at h2'
   cases o with
   | none=>cases h2'
   | some j=>
    have e:(σ[j]?).getD none=some v:=by simpa using h2'
    have e2:σ[j]?=some (some v):=by
     cases r:σ[j]? with
     | none=>rw[r]at e;cases e
     | some w=>rw[r]at e;simp at e;rw[e]
    obtain⟨a1,a2,a3⟩:=slOk.at hsl h1 q
    obtain⟨mo,_,hl⟩:=I.loc
    obtain⟨u,r,l⟩:=hl j x v a1 e2 (.inr a3)
    refine⟨u,r,.inr ⟨relabel_free a2,?_⟩⟩
    have a4:X.env.kindOf x=some .cell\/X.env.kindOf x=some .free:=a3
    rcases l with ⟨l,_⟩|⟨_,c,e3,z⟩
    .rcases a4 with a4|a4 <;> · rw[l]at a4;cases a4
    .obtain⟨c',e4⟩:=has x (PySem.mem_of_lookup a2)
     have e5:=cof x c' e4
     rw[e3]at e5;cases e5
     obtain⟨o,ho,hd⟩:=z
     exact(x_EAE c e4 o ⟨hkeep _ _ ho,hd⟩)
 .obtain⟨v,o,ho,hd⟩:=I.cell x c (cof x c e)
  exact(x_EE v o ⟨hkeep _ _ ho,hd⟩)
 .show(picks sl σ).length=N'.length
  unfold picks
  rw[List.length_map]
  exact slOk.len hsl
noncomputable def PTs(X:Cx)(ifs:List Expr)(t:TT):Prop:=
 ∀(pins:List (Addr×Obj)) (s:Shared) (σ:L2.St) (H:Hp) (Q:Bool->Hp->Prop),Inv X pins σ H s->t σ H Q->
  wpAny (model X.prog X.w) X.A (forIn ifs true fun c r=>if r=true then do let ok <-isTrue c X.env (eval c X.env);pure (ForInStep.yield ok)else pure (ForInStep.yield r)) (TP X pins σ Q) X.xe s
noncomputable def tYes:TT:=fun _ H Q=>Q true H
theorem pts_nil{X:Cx}:PTs X [] tYes:=fun _ _ _ H _ I h=>wpAny_tests_nil ⟨H,I,h⟩
theorem pts_one{X:Cx}{c:Expr}{t:TT}(h:PT X c t):PTs X [c] t:=fun pins s σ H Q I q=>wpAny_tests_one (h pins s σ H Q I q)
theorem compLoop_gen{prog:Program}{w:World}{A:Around}{R:Result->Shared->Prop}{s:Shared}{elt target iter:Expr}{ifs:List Expr}{scope:Scope}{pos:Pos}{it acc:Value}{env:Env}(I:Nat->Shared->Prop)
  (turn:∀n s,I n s->wpAny (model prog w) A (pyNext it) (fun r s₁=>match r with
   | none=>R (.ok .next) s₁
   | some v=>wpAny (model prog w) A (letOwnedTupleGo target it v) (fun _ s₂=>wpAny (model prog w) A (assign target env v) (fun _ s₃=>
     wpAny (model prog w) A (forIn ifs true fun c r=>if r=true then do let ok <-isTrue c env (eval c env);pure (ForInStep.yield ok)else pure (ForInStep.yield r)) (fun ok s₄=>
      if ok=true then wpAny (model prog w) A (eval elt env) (fun x s₅=>
       wpAny (model prog w) A (call (.builtin "list.append") [acc,x]) (fun _ s₆=>∃m,m<n/\I m s₆) (fun _ _=>False) s₅) (fun _ _=>False) s₄
      else ∃m,m<n/\I m s₄) (fun _ _=>False) s₃) (fun _ _=>False) s₂) (fun _ _=>False) s₁) (fun _ _=>False) s)
  (n:Nat) (h:I n s) :
  codeAny (model prog w) A (.compLoop (.ListComp elt [⟨target,iter,ifs,0⟩] scope pos) 0 it acc env) R s:=by
 refine codeAny_loop rfl I (fun n s hI=>?_) n h
 show wpAny _ A ((compTurn (.ListComp elt [⟨target,iter,ifs,0⟩] scope pos) 0 it acc env).onRaise (fun x=>do noteFrame x env;theTreesLotGoes x)) _ _ s
 refine wpAny_noted ?_
 rw[compTurn_list]
 refine wpAny_bind (wpAny_standAt (wpAny_bind (wpAny_mono (turn n s hI) (fun r s₁ h₁=>?_) fun _ _ h'=>h'.elim)))
 cases r with
 | none=>exact wpAny_pure h₁
 | some v=>
  refine wpAny_bind (wpAny_mono h₁ (fun _ s₂ h₂=>?_) fun _ _ h'=>h'.elim)
  refine wpAny_bind (wpAny_mono h₂ (fun _ s₃ h₃=>wpAny_bind (wpAny_mono h₃ (fun ok s₄ h₄=>?_) fun _ _ h'=>h'.elim)) fun _ _ h'=>h'.elim)
  cases ok with
  | false=>exact wpAny_pure ⟨rfl,h₄⟩
  | true=>
   exact wpAny_bind (wpAny_bind (wpAny_mono h₄ (fun x s₅ h₅=>wpAny_bind (wpAny_mono h₅ (fun _ s₆ h₆=>wpAny_pure (wpAny_pure ⟨rfl,h₆⟩)) fun _ _ h'=>h'.elim)) fun _ _ h'=>h'.elim))
noncomputable def CompR(J:It)(sl:List (Option Nat))(g:TG)(tt:TT)(te:TE)(σ:L2.St)(H1:Hp)(D:Addr)(Q:VK):Prop:=
 ∃W:Nat->Nat->Hp->Prop,(∃m,W 0 m (upd H1 D (.lst [])))/\∀i m H,W i m H->(J.stop i H/\Q (.ref D) H)\/
  (J.go i H/\∃N:Hp->Prop,(∀H',N H'->∃m',m'<m/\W (i+1) m' H')/\∀x H',J.yld i H x H'->g x (picks sl σ) H' fun σ2 H2=>Agree (picks sl σ) σ2/\tt σ2 H2 fun b H3=>
   if b=true then te σ2 H3 fun y H4=>∃xs,H4 D=some (.lst xs)/\xs.length<sizeLine/\N (upd H4 D (.lst (xs++[y])))else N H3)
noncomputable def tComp(wi:TI)(sl:List (Option Nat))(g:TG)(tt:TT)(te:TE):TE:=fun σ H Q=>wi σ H fun J H1=>∀D,H1 D=none->CompR J sl g tt te σ H1 D Q
section
variable{X:Cx}{elt target iter:Expr}{ifs:List Expr}{scope:Scope}{pos:Pos}
theorem comp_block{N':List Str}{sl:List (Option Nat)}{g:TG}{tt:TT}{te:TE}{pins:List (Addr×Obj)}{s₂:Shared}{σ:L2.St}{H2:Hp}{Q:VK}{RR:Value->Addr->Result->Shared->Prop}{E:Value->Shared->Prop}
  {it:Addr} {fp:List Addr} {tn:Nat->Heap->Prop} {J:It} (hc:X.calm=true) (hkind:scope.kind=.function)
  (hnc:∀y∈scope.names,y.2≠.cell) (hfree:∀x∈scope.names,x.2=.free->X.env.scope.names.lookup x.1=some .cell\/X.env.scope.names.lookup x.1=some .free)
  (hsl:slOk X.N N' sl scope X.env.scope=true)
  (hg:∀z,PG (cxComp X N' scope z) target g) (ht:∀z,PTs (cxComp X N' scope z) ifs tt) (he:∀z,PE (cxComp X N' scope z) elt te)
  (I2:Inv X pins σ H2 s₂) (T:Turn X.prog X.w X.K target J fp it tn) (st2:tn 0 s₂.heap) (f2:∀b∈fp,FpOk X pins H2 b) (hw:∀D,H2 D=none->CompR J sl g tt te σ H2 D Q)
  (hR:∀D C H' s',H' C=none->(∃m,s'.heap.Ns C m)->FpOk X pins H' C->(∀h',Heap.SameBut C s'.heap h'->Inv X pins σ H' {s' with heap:=h'})->Inv X pins σ H' s'->Q (.ref D) H'->RR (.ref D) C (.ok .next) s') :
  wpAny (model X.prog X.w) X.A (newList []) (fun acc s₃=>wpAny (model X.prog X.w) X.A (newFunctionEnv scope X.env.globals (clFrom X.env.cells scope.names []) [] X.env.qual none .none (some X.env)) (fun cenv s₄=>
   codeAny (model X.prog X.w) X.A (.compStart (.ListComp elt [⟨target,iter,ifs,0⟩] scope pos) 0 (.ref it) acc {cenv with scope:=relabel scope X.env}) (RR acc cenv.locals) s₄) E s₃) E s₂:=by
 have hlt2:∀b∈fp,b<s₂.heap.objs.size:=fun b hb=>by
  obtain⟨o,e,_⟩:=T.obj _ _ st2 b hb
  exact Heap.lt_size e
 have hD:H2 s₂.heap.objs.size=none:=I2.hok.fresh (Nat.le_refl _)
 obtain⟨W,⟨m0,w0⟩,turn⟩:=hw _ hD
 refine wpAny_newList ?_ (Nat.zero_le _)
 have I3:=I2.lnew (ys:=[]) (its:=[]) (t':=s₂.toks) .nil (Nat.zero_le _)
 refine wpAny_newFunctionEnv hnc (by intro y hy;simp at hy) (fun h₁ hns₁ hsb₁=>?_) hkind
 generalize hs3:({s₂ with heap:=s₂.heap.push {cls:=.type "list",data:=.seq ([]:List Value).toArray}}:Shared)=s₃ at *
 have hs3':s₃.heap=s₂.heap.push {cls:=.type "list",data:=.seq ([]:List Value).toArray}:=by rw[<-hs3]
 have hC3:s₃.heap.objs.size=s₂.heap.objs.size+1:=by rw[hs3',Heap.size_push]
 have keep23:∀b o,s₂.heap.get? b=some o->s₃.heap.get? b=some o:=fun b o e=>by rw[hs3'];exact Heap.get?_push_of_some _ e
 have keep3:∀b o,s₃.heap.get? b=some o->h₁.get? b=some o:=fun b o e=>hsb₁.extBut b o (Nat.ne_of_lt (Heap.lt_size e)) (Heap.get?_push_of_some _ e)
 have hne:∀b∈fp,b≠s₂.heap.objs.size:=fun b hb=>Nat.ne_of_lt (hlt2 b hb)
 have f3:∀b∈fp,FpOk X pins (upd H2 s₂.heap.objs.size (.lst [])) b:=fun b hb=>⟨by rw[upd_ne (hne b hb)];exact(f2 b hb).1,(f2 b hb).2⟩
 have hlt3:∀b∈fp,b<s₃.heap.objs.size:=fun b hb=>by rw[hC3];exact Nat.lt_succ_of_lt (hlt2 b hb)
 have I4:=comp_start (tk:=s₃.toks+([]:List (Str×Value)).length) I3 hkind hnc hfree hsl f3 hlt3 hns₁ keep3
 have st4:tn 0 h₁:=T.keep _ _ _ st2 fun b _ o e=>keep3 b o (keep23 b o e)
 generalize hz:(⟨clFrom X.env.cells scope.names [],s₃.heap.objs.size,s₃,upd H2 s₂.heap.objs.size (.lst []),fp⟩:CZ)=z at I4
 have ezC:z.C=s₃.heap.objs.size:=by rw[<-hz]
 have ezx:z.ex=fp:=by rw[<-hz]
 have stat:∀{H':Hp},(∀b∈fp,H' b=none)->∀b∈fp,FpOk (cxComp X _ scope z) [] H' b:=fun hn b hb=>by
  subst hz
  have q:=I4.ok.exf b hb
  exact⟨hn b hb,q.1,I4.ok.exfs b hb,.inl hb,q.2,fun p hp=>absurd (show p∈([]:List (Addr×Obj))from hp) (by simp)⟩
 have loop:∀s₄:Shared,s₄={s₃ with heap:=h₁,toks:=s₃.toks+([]:List (Str×Value)).length}->
   codeAny (model X.prog X.w) X.A (.compLoop (.ListComp elt [⟨target,iter,ifs,0⟩] scope pos) 0 (.ref it) (.ref s₂.heap.objs.size) (cxComp X N' scope z).env) (RR (.ref s₂.heap.objs.size) s₃.heap.objs.size) s₄:=by
  rintro s₄ rfl
  refine compLoop_gen (fun n s'=>∃i H',Inv (cxComp X N' scope z) [] (picks sl σ) H' s'/\tn i s'.heap/\(∀b∈fp,H' b=none)/\W i n H') ?_ m0 (x_EE 0 _ ⟨I4,st4,fun b hb=>(f3 b hb).1,w0⟩)
  rintro n s5 ⟨i,H5,I5,st5,fr5,w5⟩
  rcases turn i n H5 w5 with ⟨stop,qn⟩|⟨go,N,hN,step⟩
  .refine thn (T.done (cxComp X N' scope z) rfl rfl rfl hc i [] s5 _ H5 _ I5 (stat fr5) st5 stop) fun r s6 ⟨hr,I6⟩=>?_
   subst hr
   have un:Un (frs X.stack) fp (upd H2 s₂.heap.objs.size (.lst [])) H5 s₃.heap s6.heap:=by subst hz;exact I6.base
   have os6:s6.os=s₃.os:=by subst hz;exact I6.os
   have fC:H5 s₃.heap.objs.size=none:=by subst hz;exact I6.free
   have hch:∀b∈fp,(b∈X.ex\/X.s₀.heap.objs.size<=b)/\b≠X.env.locals/\(∀x c,X.env.cells.lookup x=some c->c≠b)/\∀p∈X.pn++pins,p.1≠b:=fun b hb=>⟨(f2 b hb).2.2.2.1,(f2 b hb).2.1,(f2 b hb).2.2.2.2.1,(f2 b hb).2.2.2.2.2⟩
   have nC:s₃.heap.get? s₃.heap.objs.size=none:=Heap.get?_none_of_le (Nat.le_refl _)
   have ns:∃m,s6.heap.Ns s₃.heap.objs.size m:=by
    subst hz
    obtain⟨m,hn,_⟩:=I6.loc
    exact⟨m,hn⟩
   refine hR _ _ H5 s6 fC ns (I3.fpOk (Nat.le_refl _) fC) (fun h' sb=>?_) (I3.call' (ch:=fp) os6 un I6.hok I6.bare hch) qn
   exact I3.call' (s':={s6 with heap:=h'}) (ch:=fp) os6 (Un.but un nC sb.extBut) (HOk.but I6.hok fC sb.extBut) I6.bare hch
  .refine thn (T.item (cxComp X N' scope z) rfl rfl rfl hc i [] s5 _ H5 _ I5 (stat fr5) st5 go) fun r s6 ⟨u,hr,h6⟩=>?_
   subst hr
   refine thn h6 fun _ s7 ⟨x,H7,I7,r7,y7,st7,fr7⟩=>?_
   have I7':=I7.pinned (stat fr7) (T.obj _ _ st7)
   refine thn (hg z _ s7 _ H7 x u _ I7' r7 (step x H7 y7)) fun _ s8 ⟨σ8,H8,I8,ag,q8⟩=>?_
   have again:∀{s9:Shared} {H9:Hp},Inv (cxComp X N' scope z) ([]++pinsAt fp s7.heap) σ8 H9 s9->N H9->∃m,m<n/\∃i H',Inv (cxComp X N' scope z) [] (picks sl σ) H' s9/\tn i s9.heap/\(∀b∈fp,H' b=none)/\W i m H':=fun{s9 H9} I9 n9=>by
    obtain⟨m',hm,w9⟩:=hN H9 n9
    refine(x_EAEE m' hm (i+1) H9 ⟨(I9.weak ag.1.symm ag.2).unpinned,T.keep _ _ _ st7 fun b hb o e=>(I9.pin (b,o) (List.mem_append_right _ (List.mem_append_right _ (mem_pinsAt hb e)))).1,fun b hb=>?_,w9⟩)
    obtain⟨o,e,d⟩:=T.obj _ _ st7 b hb
    exact(I9.pin (b,o) (List.mem_append_right _ (List.mem_append_right _ (mem_pinsAt hb e)))).2.1
   refine thn (ht z _ s8 σ8 H8 _ I8 q8) fun ok s9 ⟨H9,I9,q9⟩=>?_
   cases ok with
   | false=>exact again I9 q9
   | true=>
    refine thn (he z _ s9 σ8 H9 _ I9 q9) fun u10 s10 ⟨y,H10,I10,r10,xs,hx,hz10,n10⟩=>?_
    exact thn (mt_append _ s10 σ8 H10 (.ref s₂.heap.objs.size) [y] (.ref s₂.heap.objs.size) [u10] (fun _ H'=>N H') I10 rfl (.cons r10 .nil) (x_EEE _ xs y ⟨rfl,rfl,hx,hz10,n10⟩)) fun _ s11 ⟨_,H11,I11,_,n11⟩=>again I11 n11
 have eenv:(cxComp X N' scope z).env=compEnvC scope (clFrom X.env.cells scope.names []) s₃.heap.objs.size X.env:=by rw[<-hz];rfl
 rw[eenv]at loop
 exact codeAny_compStart_list (loop _ rfl) (T.self _ 0 _ _ _ st4 (loop _ rfl))
theorem pe_comp(N':List Str)(sl:List (Option Nat)){wi:TI}{g:TG}{tt:TT}{te:TE}(hc:X.calm=true)(hkind:scope.kind=.function)
  (hnames:∀x∈scope.names,x.2=.local->scope.names.lookup x.1=some .local)
  (hnc:∀y∈scope.names,y.2≠.cell) (hfr:frOk scope X.env.scope=true)
  (hsl:slOk X.N N' sl scope X.env.scope=true) (hi:PI X target iter wi)
  (hg:∀z,PG (cxComp X N' scope z) target g) (ht:∀z,PTs (cxComp X N' scope z) ifs tt) (he:∀z,PE (cxComp X N' scope z) elt te)
  (hs:∀x,foldedSetIterable iter X.env x=pure x:=by intro _;rfl) :
  PE X (.ListComp elt [⟨target,iter,ifs,0⟩] scope pos) (tComp wi sl g tt te):=by
 have hfree:=frOk.of hfr
 intro pins s σ H Q I h
 rw[eval_ListComp]
 have hcl:closureFor scope X.env=pure (clFrom X.env.cells scope.names []):=closureFor_eq fun x hx hk=>I.ok.has x.1 (hfree x hx hk)
 refine wpAny_comprehension_free (use:=none) rfl hs hcl hkind hnames (thn (hi pins s σ H _ I h) fun xv s₁ h₁=>thn h₁ fun itv s₂ h₂=>?_)
 obtain⟨it,fp,tn,J,H2,e,I2,T,st2,f2,hw⟩:=h₂
 subst e
 refine comp_block (RR:=fun acc C=>compPost (model X.prog X.w) X.A X.xe none (EP X pins σ Q) acc C) hc hkind hnc hfree hsl hg ht he I2 T st2 f2 hw ?_
 intro D C H' s' fC ns _ hI _ q
 obtain⟨m,hn⟩:=ns
 exact⟨m,hn,fun h' sb=>(x_EE (.ref D) H' ⟨hI h' sb,rfl,q⟩)⟩
theorem ps_setC(N':List Str)(sl:List (Option Nat)){wi:TI}{g:TG}{tt:TT}{te:TE}{i:Nat}{y:Str}{py spos:Pos}(hN:X.N.Nodup)(hyi:X.N[i]?=some y)(hx:Loc X.env.scope y)
  (hsw:swapsWith (.ListComp elt [⟨target,iter,ifs,0⟩] scope pos) (some (.Name y py)) spos.line X.env=pure true) (hc:X.calm=true) (hkind:scope.kind=.function)
  (hnames:∀x∈scope.names,x.2=.local->scope.names.lookup x.1=some .local)
  (hnc:∀y∈scope.names,y.2≠.cell) (hfr:frOk scope X.env.scope=true)
  (hsl:slOk X.N N' sl scope X.env.scope=true) (hi:PI X target iter wi)
  (hg:∀z,PG (cxComp X N' scope z) target g) (ht:∀z,PTs (cxComp X N' scope z) ifs tt) (he:∀z,PE (cxComp X N' scope z) elt te)
  (hs:∀x,foldedSetIterable iter X.env x=pure x:=by intro _;rfl) (hf:X.fn y=true\/X.env.scope.names.lookup y=some .local:=by first|exact .inl rfl|exact .inr rfl|assumption) :
  PS X (.Assign [.Name y py] (.ListComp elt [⟨target,iter,ifs,0⟩] scope pos) spos) (tAsg (tComp wi sl g tt te) (gName i)):=by
 have hfree:=frOk.of hfr
 intro pins s σ H D I h
 rw[exec_Assign_Name_used _ _ _ _ hsw]
 refine wpAny_bind (wpAny_standAt (wpAny_bind ?_))
 show wpAny _ _ (do let _ <-comprehension (.ListComp elt [⟨target,iter,ifs,0⟩] scope pos) scope X.env _ (newList []) false (eval iter X.env) (some (assign (.Name y py) X.env))) _ _ s
 have hcl:closureFor scope X.env=pure (clFrom X.env.cells scope.names []):=closureFor_eq fun x hx hk=>I.ok.has x.1 (hfree x hx hk)
 refine wpAny_bind (wpAny_mono (wpAny_comprehension_free (use:=some (assign (.Name y py) X.env)) (Q:=fun _ s'=>SP X pins D .next s') rfl hs hcl hkind hnames
  (thn (hi pins s σ H _ I h) fun xv s₁ h₁=>thn h₁ fun itv s₂ h₂=>?_)) (fun _ s' hq=>wpAny_pure (wpAny_pure hq)) fun _ _ e=>e)
 obtain⟨it,fp,tn,J,H2,e,I2,T,st2,f2,hw⟩:=h₂
 subst e
 refine comp_block (RR:=fun acc C=>compPost (model X.prog X.w) X.A X.xe (some (assign (.Name y py) X.env)) (fun _ s'=>SP X pins D .next s') acc C) hc hkind hnc hfree hsl hg ht he I2 T st2 f2 hw ?_
 intro E C H' s' fC ns fp hI I' q
 obtain⟨m,hn⟩:=ns
 show wpAny _ _ (assign (.Name y py) X.env (.ref E)) _ _ _
 refine wpAny_assign_Name (store_ok2 I' hN hyi hx (v:=.ref E) rfl (fun s2 I2 ⟨a,sb,ha⟩=>?_) hf)
 have hCa:C≠a:=by
  rcases ha with ha|ha
  .rw[ha];exact fp.2.1
  .exact fun z=>fp.2.2.2.2.1 _ _ ha z.symm
 exact⟨m,hn.sameBut sb hCa,fun h3 sb3=>(x_EE _ H' ⟨I2.turned (t':=s2.toks) (fun b o hb e=>(sb3.2 b hb).trans e) fp.1 fp.2.1 fp.2.2.2.1 fp.2.2.2.2.1 fp.2.2.2.2.2,q⟩)⟩
end
mutual
noncomputable def Rep(H:Hp):PyData->V->Prop
 | .none,v=>v=.non
 | .bool b,v=>v=.bl b
 | .int i,v=>v=.int i
 | .str x,v=>v=.str x/\PyData.strOk x=true
 | .tuple ds,v=>∃a xs,v=.ref a/\H a=some (.tup xs)/\RepAll H ds xs
 | .list ds,v=>∃a xs,v=.ref a/\H a=some (.lst xs)/\RepAll H ds xs
 | .dict _,_=>False
noncomputable def RepAll(H:Hp):List PyData->List V->Prop
 | [],xs=>xs=[]
 | d::ds,xs=>∃x r,xs=x::r/\Rep H d x/\RepAll H ds r
end
mutual
noncomputable def imm:PyData->Bool
 | .none=>true
 | .bool _=>true
 | .int _=>true
 | .str _=>true
 | .tuple ds=>immAll ds
 | .list _=>false
 | .dict _=>false
noncomputable def immAll:List PyData->Bool
 | []=>true
 | d::ds=>imm d&&immAll ds
end
noncomputable def Tk(H H':Hp):Prop:=∀b xs,H b=some (.tup xs)->H' b=some (.tup xs)
theorem Tk.refl(H:Hp):Tk H H:=fun _ _ h=>h
theorem Tk.trans{H H1 H2:Hp}(a:Tk H H1)(b:Tk H1 H2):Tk H H2:=fun c o h=>b c o (a c o h)
theorem Tk.of_same{H H':Hp}(h:Same H H'):Tk H H':=fun b xs q=>h b _ q
theorem Tk.fresh{H:Hp}{p:Addr}{o:HO}(h:H p=none):Tk H (upd H p o):=fun b xs q=>by rw[upd_ne (ne_of_none q h)];exact q
theorem Tk.lst{H:Hp}{p:Addr}{xs:List V}{o:HO}(h:H p=some (.lst xs)):Tk H (upd H p o):=fun b ys q=>by rw[upd_ne (ne_of q h (by intro z;cases z))];exact q
mutual
theorem Rep.tk{H H':Hp}(t:Tk H H'):∀{d:PyData} {v:V},imm d=true->Rep H d v->Rep H' d v
 | .none,_,_,h=>h
 | .bool _,_,_,h=>h
 | .int _,_,_,h=>h
 | .str _,_,_,h=>h
 | .tuple ds,v,hi,h=>by
  obtain⟨a,xs,e,ha,r⟩:=h
  exact(x_EE a xs ⟨e,t _ _ ha,RepAll.tk t hi r⟩)
 | .list _,_,hi,_=>absurd hi Bool.false_ne_true
 | .dict _,_,hi,_=>absurd hi Bool.false_ne_true
theorem RepAll.tk{H H':Hp}(t:Tk H H'):∀{ds:List PyData} {xs:List V},immAll ds=true->RepAll H ds xs->RepAll H' ds xs
 | [],_,_,h=>h
 | d::ds,xs,hi,h=>by
  obtain⟨x,r,e,h1,h2⟩:=h
  have hi':(imm d&&immAll ds)=true:=hi
  rw[Bool.and_eq_true]at hi'
  exact(x_EE x r ⟨e,Rep.tk t hi'.1 h1,RepAll.tk t hi'.2 h2⟩)
end
mutual
theorem Rep.same{H H':Hp}(t:Same H H'):∀{d:PyData} {v:V},Rep H d v->Rep H' d v
 | .none,_,h=>h
 | .bool _,_,h=>h
 | .int _,_,h=>h
 | .str _,_,h=>h
 | .tuple ds,v,h=>by
  obtain⟨a,xs,e,ha,r⟩:=h
  exact(x_EE a xs ⟨e,t _ _ ha,RepAll.same t r⟩)
 | .list ds,v,h=>by
  obtain⟨a,xs,e,ha,r⟩:=h
  exact(x_EE a xs ⟨e,t _ _ ha,RepAll.same t r⟩)
 | .dict _,_,h=>h
theorem RepAll.same{H H':Hp}(t:Same H H'):∀{ds:List PyData} {xs:List V},RepAll H ds xs->RepAll H' ds xs
 | [],_,h=>h
 | d::ds,xs,h=>by
  obtain⟨x,r,e,h1,h2⟩:=h
  exact(x_EE x r ⟨e,Rep.same t h1,RepAll.same t h2⟩)
end
theorem RepAll.length{H:Hp}:∀{ds:List PyData} {xs:List V},RepAll H ds xs->xs.length=ds.length
 | [],xs,h=>by have e:xs=[]:=h;rw[e];rfl
 | d::ds,xs,h=>by
  obtain⟨x,r,e,_,h2⟩:=h
  rw[e,List.length_cons,List.length_cons,RepAll.length h2]
theorem RepAll.get{H:Hp}:∀{ds:List PyData} {xs:List V} {i:Nat} {d:PyData},RepAll H ds xs->ds[i]?=some d->∃x,xs[i]?=some x/\Rep H d x
 | [],_,_,_,_,e=>by simp at e
 | d::ds,xs,0,d',h,e=>by
  obtain⟨x,r,e1,h1,_⟩:=h
  subst e1
  simp at e;subst e
  exact⟨x,rfl,h1⟩
 | d::ds,xs,i+1,d',h,e=>by
  obtain⟨x,r,e1,_,h2⟩:=h
  subst e1
  obtain⟨y,h3,h4⟩:=RepAll.get (i:=i) h2 (by simpa using e)
  exact⟨y,by simpa using h3,h4⟩
theorem RepAll.at{H:Hp}{ds:List PyData}{xs:List V}{i:Nat}{x:V}(h:RepAll H ds xs)(e:xs[i]?=some x):∃d,ds[i]?=some d/\Rep H d x:=by
 have hi:i<xs.length:=(List.getElem?_eq_some_iff.mp e).1
 have hi':i<ds.length:=by rw[<-h.length];exact hi
 obtain⟨y,h1,h2⟩:=h.get (List.getElem?_eq_getElem hi')
 rw[e]at h1;cases h1
 exact⟨_,List.getElem?_eq_getElem hi',h2⟩
theorem RepAll.append{H:Hp}:∀{ds es:List PyData} {xs ys:List V},RepAll H ds xs->RepAll H es ys->RepAll H (ds++es) (xs++ys)
 | [],es,xs,ys,h,h'=>by have e:xs=[]:=h;rw[e];exact h'
 | d::ds,es,xs,ys,h,h'=>by
  obtain⟨x,r,e,h1,h2⟩:=h
  subst e
  exact(x_EE x (r++ys) ⟨rfl,h1,RepAll.append h2 h'⟩)
theorem RepAll.snoc{H:Hp}{ds:List PyData}{d:PyData}{xs:List V}{x:V}(h:RepAll H ds xs)(h':Rep H d x):RepAll H (ds++[d]) (xs++[x]):=h.append (x_EE x ([]) ⟨rfl,h',rfl⟩)
mutual
theorem Rep.lay{H:Hp}:∀{d:PyData} {v:V},Rep H d v->d.canLay0=true
 | .none,_,_=>rfl
 | .bool _,_,_=>rfl
 | .int _,_,_=>rfl
 | .str _,_,h=>h.2
 | .tuple ds,_,h=>by
  obtain⟨_,_,_,_,r⟩:=h
  exact RepAll.lay r
 | .list ds,_,h=>by
  obtain⟨_,_,_,_,r⟩:=h
  exact RepAll.lay r
 | .dict _,_,h=>h.elim
theorem RepAll.lay{H:Hp}:∀{ds:List PyData} {xs:List V},RepAll H ds xs->PyData.canLayAll0 ds=true
 | [],_,_=>rfl
 | d::ds,_,h=>by
  obtain⟨x,r,e,h1,h2⟩:=h
  show(d.canLay0&&PyData.canLayAll0 ds)=true
  rw[Rep.lay h1,RepAll.lay h2]
  rfl
end
section
variable{X:Cx}{pins:List (Addr×Obj)}{σ:L2.St}{H:Hp}{s:Shared}
mutual
theorem Rep.reads(I:Inv X pins σ H s):∀{d:PyData} {v:V} {u:Value},Rep H d v->RelV v u->∃as,Reads s.heap u d as
 | .none,v,u,h,r=>by cases (show v=.non from h);cases (show u=Value.none from r);exact⟨_,.none⟩
 | .bool b,v,u,h,r=>by cases (show v=.bl b from h);cases (show u=Value.bool b from r);exact⟨_,.bool b⟩
 | .int i,v,u,h,r=>by
  cases (show v=.int i from h)
  obtain⟨t,e⟩:=(show ∃t,u=Value.int i t from r)
  cases e;exact⟨_,.int i t⟩
 | .str x,v,u,h,r=>by
  cases (show v=.str x from h.1)
  obtain⟨t,e⟩:=(show ∃t,u=Value.str x t from r)
  cases e;exact⟨_,.str x t⟩
 | .tuple ds,v,u,h,r=>by
  obtain⟨a,xs,e,ha,q⟩:=h
  subst e
  cases (show u=Value.ref a from r)
  obtain⟨its,rv,⟨o,e1,e2,n,e3⟩,_⟩:=I.tuple (SqT.of (K:=X.K) ha)
  obtain⟨as,z⟩:=RepAll.reads I q rv
  exact⟨as,.tuple e1 e2 e3 z⟩
 | .list ds,v,u,h,r=>by
  obtain⟨a,xs,e,ha,q⟩:=h
  subst e
  cases (show u=Value.ref a from r)
  obtain⟨its,rv,⟨o,n,e1,e2,_,e3⟩,_⟩:=I.list (SqL.of (K:=X.K) ha)
  obtain⟨as,z⟩:=RepAll.reads I q rv
  exact⟨_,.list e1 e2 e3 z⟩
 | .dict _,_,_,h,_=>h.elim
theorem RepAll.reads(I:Inv X pins σ H s):∀{ds:List PyData} {xs:List V} {us:List Value},RepAll H ds xs->Vals xs us->∃as,ReadsAll s.heap us ds as
 | [],xs,us,h,r=>by
  cases (show xs=[]from h)
  cases r
  exact⟨_,.nil⟩
 | d::ds,xs,us,h,r=>by
  obtain⟨x,t,e,h1,h2⟩:=h
  subst e
  cases r with
  | cons r1 r2=>
   obtain⟨as,z1⟩:=Rep.reads I h1 r1
   obtain⟨bs,z2⟩:=RepAll.reads I h2 r2
   exact⟨_,.cons z1 z2⟩
end
end
noncomputable def rEqD(neg:Bool):R2:=fun x y H Q=>∃dx dy,Rep H dx x/\Rep H dy y/\dx.depth<=60/\Q (.bl (if neg then !PyData.eqv dx dy else PyData.eqv dx dy)) H
section
variable{X:Cx}
theorem op_neD(hu:X.A.units+64<cLine):OpR X (compareOp .NotEq) (rEqD true):=by
 intro pins s σ H x y v u Q I rx ry h
 obtain⟨dx,dy,hx,hy,hd,q⟩:=h
 obtain⟨as,r1⟩:=hx.reads I rx
 obtain⟨bs,r2⟩:=hy.reads I ry
 exact SeqAt.compareNe_reads r1 r2 hx.lay hy.lay (by have:=Nat.min_le_left dx.depth dy.depth;omega) (x_EE (.bl _) H ⟨I,rfl,q⟩)
noncomputable def rInD(neg:Bool):R2:=fun x y H Q=>∃d p xs ds,Rep H d x/\y=.ref p/\(H p=some (.lst xs)\/H p=some (.tup xs))/\RepAll H ds xs/\d.depth<=60/\
 Q (.bl (if neg then !(ds.any fun e=>PyData.eqv e d)else ds.any fun e=>PyData.eqv e d)) H
theorem op_inD(hu:X.A.units+64<cLine):OpR X (compareOp .In) (rInD false):=by
 intro pins s σ H x y v u Q I rx ry h
 obtain⟨d,p,xs,ds,hx,rfl,hp,hds,hd,q⟩:=h
 cases ry
 obtain⟨bs,r2⟩:=hx.reads I rx
 have room:X.A.units+1+min (PyData.depthAll ds) d.depth<cLine:=by have:=Nat.min_le_right (PyData.depthAll ds) d.depth;omega
 rcases hp with hp|hp
 .obtain⟨as,r1⟩:=Rep.reads I (d:=.list ds) (v:=.ref p) (u:=.ref p) (x_EE p xs ⟨rfl,hp,hds⟩) rfl
  exact SeqAt.in_list_reads r1 r2 hds.lay hx.lay room (x_EE (.bl _) H ⟨I,rfl,q⟩)
 .obtain⟨as,r1⟩:=Rep.reads I (d:=.tuple ds) (v:=.ref p) (u:=.ref p) (x_EE p xs ⟨rfl,hp,hds⟩) rfl
  exact SeqAt.in_tuple_reads r1 r2 hds.lay hx.lay room (x_EE (.bl _) H ⟨I,rfl,q⟩)
theorem call_isinst:CallR X (.builtin "isinstance") (fun xs H Q=>∃x T t b,xs=[x,.ty T]/\TyOf X.K H x t/\PySem.W.kitOne X.K t (.type T)=some b/\Q (.bl b) H):=by
 intro pins s σ H xs us Q I r h
 obtain⟨x,T,t,b,rfl,ty,e,q⟩:=h
 obtain⟨u,w',rfl,r1,r2⟩:=vals2 r
 cases (show w'=Value.type T from r2)
 exact isinst_ok I r1 ty e fun tk=>(x_EE (.bl b) H ⟨I.tok _,rfl,q⟩)
end
noncomputable def fltLt:PyData->PyData->Bool
 | .int a,.int b=>decide (a<b)
 | .str a,.str b=>decide (a.cps.toList<b.cps.toList)
 | _,_=>false
noncomputable def rowLt:List PyData->List PyData->Bool
 | [],[]=>false
 | [],_::_=>true
 | _::_,[]=>false
 | x::xs,y::ys=>if PyData.eqv x y=true then rowLt xs ys else fltLt x y
noncomputable def Row:List Bool->List PyData->Prop
 | [],ds=>ds=[]
 | true::ks,ds=>∃i r,ds=.int i::r/\Row ks r
 | false::ks,ds=>∃x r,ds=.str x::r/\Row ks r
noncomputable def rowOf:PyData->List PyData
 | .tuple ds=>ds
 | _=>[]
noncomputable def ltAtD(ds:List PyData)(i j:Nat):Bool:=rowLt (rowOf (ds.getD i .none)) (rowOf (ds.getD j .none))
noncomputable def sortD(ds:List PyData):List PyData:=(srt (ltAtD ds) ds.length).map fun i=>ds.getD i .none
section
variable{prog:Program}{w:World}{A:Around}{E:Value->Shared->Prop}{s:Shared}{Q:Bool->Shared->Prop}
theorem lex_rows:∀{ks:List Bool} {xs ys:List PyData} {us vs:List Value} {as bs:List Addr} {i:Nat},Row ks xs->Row ks ys->ReadsAll s.heap us xs as->ReadsAll s.heap vs ys bs->Q (rowLt xs ys) s->
  PySem.W.KatLex prog w A true false Q (us.zip vs) i s
 | [],xs,ys,us,vs,as,bs,i,h1,h2,r1,r2,q=>by
  cases (show xs=[]from h1);cases (show ys=[]from h2)
  cases r1;cases r2
  exact q
 | true::ks,xs,ys,us,vs,as,bs,i,h1,h2,r1,r2,q=>by
  obtain⟨a,xr,rfl,h1⟩:=h1
  obtain⟨b,yr,rfl,h2⟩:=h2
  cases r1 with
  | cons ra r1=>
   cases r2 with
   | cons rb r2=>
    cases ra with
    | int _ t=>
     cases rb with
     | int _ u=>
      rw[List.zip_cons_cons]
      refine PySem.W.kat_cons (SeqAt.EqAt.int_int a t b u prog w _ _ ?_)
      have q':Q (if PyData.eqv (.int a) (.int b)=true then rowLt xr yr else fltLt (.int a) (.int b)) s:=q
      have e:PyData.eqv (.int a) (.int b)=(a==b):=rfl
      rw[e]at q'
      cases hb:(a==b)with
      | true=>rw[hb,if_pos rfl]at q';exact PySem.W.kat_yes (lex_rows h1 h2 r1 r2 q')
      | false=>
       rw[hb,if_neg Bool.false_ne_true]at q'
       refine PySem.W.kat_no ?_
       cases hi:(i==0)with
       | true=>exact oneLt_int q'
       | false=>exact PySem.W.kat_one _ _ (lt_int q')
 | false::ks,xs,ys,us,vs,as,bs,i,h1,h2,r1,r2,q=>by
  obtain⟨a,xr,rfl,h1⟩:=h1
  obtain⟨b,yr,rfl,h2⟩:=h2
  cases r1 with
  | cons ra r1=>
   cases r2 with
   | cons rb r2=>
    cases ra with
    | str _ t=>
     cases rb with
     | str _ u=>
      rw[List.zip_cons_cons]
      refine PySem.W.kat_cons (SeqAt.EqAt.str_str a t b u prog w _ _ ?_)
      have q':Q (if PyData.eqv (.str a) (.str b)=true then rowLt xr yr else fltLt (.str a) (.str b)) s:=q
      have e:PyData.eqv (.str a) (.str b)=(a==b):=rfl
      rw[e]at q'
      cases hb:(a==b)with
      | true=>rw[hb,if_pos rfl]at q';exact PySem.W.kat_yes (lex_rows h1 h2 r1 r2 q')
      | false=>
       rw[hb,if_neg Bool.false_ne_true]at q'
       refine PySem.W.kat_no ?_
       cases hi:(i==0)with
       | true=>exact oneLt_str q'
       | false=>exact PySem.W.kat_one _ _ (PyProof.Rows.lt_str q')
end
theorem Row.len{ks:List Bool}:∀{ds:List PyData},Row ks ds->ds.length=ks.length:=by
 induction ks with
 | nil=>intro ds h;cases (show ds=[]from h);rfl
 | cons k ks ih=>
  intro ds h
  cases k with
  | true=>obtain⟨i,r,rfl,h⟩:=h;rw[List.length_cons,List.length_cons,ih h]
  | false=>obtain⟨i,r,rfl,h⟩:=h;rw[List.length_cons,List.length_cons,ih h]
noncomputable def Rows(ks:List Bool)(ds:List PyData):Prop:=∀d∈ds,∃r,d=.tuple r/\Row (true::ks) r
section
variable{X:Cx}
theorem tup_of(I:Inv X pins σ H s){ks:List Bool}{d:PyData}{v:V}{u:Value}(h:Rep H d v)(r:RelV v u){row:List PyData}(e:d=.tuple row)(hr:Row (true::ks) row) :
  ∃a o vs n as i t,u=.ref a/\s.heap.get? a=some o/\o.cls=.type "tuple"/\o.data=.seq vs n/\ReadsAll s.heap vs.toList row as/\vs[0]?=some (.int i t):=by
 subst e
 obtain⟨as,z⟩:=h.reads I r
 cases z with
 | @tuple a o vs n _ _ e1 e2 e3 z=>
  obtain⟨i,rr,rfl,_⟩:=hr
  have z':=z
  generalize hv:vs.toList=vl at z
  cases z with
  | cons ra rb=>
   cases ra with
   | int _ t=>
    refine(x_EEEEE a o vs n _ (x_EE i t ⟨rfl,e1,e2,e3,z',?_⟩))
    rw[<-Array.getElem?_toList,hv]
    rfl
theorem kat_tups(I:Inv X pins σ H s){ks:List Bool}:∀{ds:List PyData} {xs:List V} {us:List Value},RepAll H ds xs->Vals xs us->Rows ks ds->∃fs:List Value,PySem.W.KatTups s.heap us fs/\fs.length=ds.length/\∀v∈fs,∃i t,v=Value.int i t
 | [],xs,us,h,r,_=>by
  cases (show xs=[]from h);cases r
  exact⟨[],trivial,rfl,fun v hv=>by cases hv⟩
 | d::ds,xs,us,h,r,hr=>by
  obtain⟨x,t,e,h1,h2⟩:=h
  subst e
  cases r with
  | cons r1 r2=>
   obtain⟨row,e,hrow⟩:=hr d List.mem_cons_self
   obtain⟨a,o,vs,n,as,i,tk,rfl,e1,e2,e3,_,e4⟩:=tup_of I h1 r1 e hrow
   obtain⟨fs,k1,k2,k3⟩:=kat_tups I h2 r2 fun d hd=>hr d (List.mem_cons_of_mem _ hd)
   refine⟨.int i tk::fs,PySem.W.KatTups.cons e1 e2 e3 e4 k1,by rw[List.length_cons,List.length_cons,k2],fun v hv=>?_⟩
   rcases List.mem_cons.mp hv with rfl|hv
   .exact(x_EE i tk rfl)
   .exact k3 v hv
theorem KatTups.keeps{h h':Heap}(k:∀b o,h.get? b=some o->h'.get? b=some o):∀{vs fs:List Value},PySem.W.KatTups h vs fs->PySem.W.KatTups h' vs fs
 | [],[],_=>trivial
 | v::vs,f::fs,x=>by
  obtain⟨⟨a,o,xs,n,e,e1,e2⟩,r⟩:=x
  exact⟨(x_EEEE a o xs n ⟨e,k _ _ e1,e2⟩),KatTups.keeps k r⟩
 | [],_::_,x=>x.elim
 | _::_,[],x=>x.elim
end
end L3
namespace L3
open PySem PySem.Spec PyProof.Rows
theorem args_maxD(a v:Value):argsOk "max" ⟨[a],[(Str.ofString "default",v)]⟩:=by unfold argsOk;kernel_rfl
end L3
namespace L3
open PySem PySem.Spec PyProof.Rows L2
noncomputable def notStar:Expr->Bool
 | .Starred _ _=>false
 | _=>true
theorem star_cons{e:Expr}{es:List Expr}{env:Env}(h:notStar e=true):starEach (e::es) env=(false,eval e env)::starEach es env:=by
 cases e<;>first|rfl|exact absurd h Bool.false_ne_true
theorem star_none{pos:Pos}{env:Env}:∀{es:List Expr},es.all notStar=true->(backTo pos (starEach es env)).any (·.1)=false
 | [],_=>rfl
 | e::es,h=>by
  rw[List.all_cons,Bool.and_eq_true]at h
  rw[star_cons h.1]
  show(false||(backTo pos (starEach es env)).any (·.1))=false
  rw[star_none h.2]
  rfl
theorem pa_c{X:Cx}{e:Expr}{es:List Expr}{te:TE}{t:TA}(ha:PE X e te)(hr:PA X es t)(h:notStar e=true:=by rfl):PA X (e::es) (tCons te t):=pa_cons ha hr (star_cons h)
theorem pe_cB{X:Cx}{x:Str}{p pos:Pos}{e:Expr}{es:List Expr}{t:TA}{id:String}{r:List V->Hp->VK->Prop}(hc:CallR X (.builtin id) r)(hg:Gl X x)(hm:X.mg x=none)(hv:bootBuiltins x=some (.builtin id))(ha:PA X (e::es) t)
  (hn:x≠"__name__":=by decide) (hdb:(x==("__debug__" : Str))=false:=by decide) (h1:notStar e=true:=by rfl) (h2:es.all notStar=true:=by rfl):PE X (.Call (.Name x p) (e::es) [] pos) (tCB r t):=
 pe_callB hc hg hm hv ha hn hdb (star_cons h1) (star_none h2)
theorem pe_cT{X:Cx}{x:Str}{p pos:Pos}{e:Expr}{es:List Expr}{t:TA}{T:String}{r:List V->Hp->VK->Prop}(hc:CallR X (.type T) r)(hg:Gl X x)(hm:X.mg x=none)(hv:bootBuiltins x=some (.type T))(ha:PA X (e::es) t)
  (hn:x≠"__name__":=by decide) (hdb:(x==("__debug__" : Str))=false:=by decide) (h1:notStar e=true:=by rfl) (h2:es.all notStar=true:=by rfl):PE X (.Call (.Name x p) (e::es) [] pos) (tCB r t):=
 pe_callTy hc hg hm hv ha hn hdb (star_cons h1) (star_none h2)
theorem pi_r1{X:Cx}{tg a:Expr}{ta:TA}{p pos:Pos}(hg:Gl X "range")(hm:X.mg "range" = none)(ha:PA X [a] ta)(h:notStar a=true:=by rfl):PI X tg (.Call (.Name "range" p) [a] [] pos) (iRng1 ta):=
 pi_range1 hg hm ha (star_cons h)
theorem pi_r2{X:Cx}{tg a b:Expr}{ta:TA}{p pos:Pos}(hg:Gl X "range")(hm:X.mg "range" = none)(ha:PA X [a,b] ta)(h:notStar a=true:=by rfl)(h2:notStar b=true:=by rfl):PI X tg (.Call (.Name "range" p) [a,b] [] pos) (iRng2 ta):=
 pi_range2 hg hm ha (by rw[star_cons h,star_cons h2];rfl) (by rw[star_cons h2];rfl)
noncomputable def Fn(P:Program)(w:World)(K:PySem.W.Frag)(mg:Str->Option Value)(base:Heap)(x:Str)(k:Nat)(ps:List Str)(sp:Sp):Prop:=
 ∃f fd,FnOk P w K mg base CX0 k f fd ps sp/\mg x=some (.ref f)/\PySem.W.keepIn K (.ref f)=true/\Binds K fd ps []
section
variable{X:Cx}{k j:Nat}{ps:List Str}{sp:Sp}{x:Str}{p pos kpos:Pos}{e e2:Expr}{es:List Expr}{t tk:TA}{te:TE}
theorem pe_fn(F:Fn X.prog X.w X.K X.mg X.base x k ps sp)(hr:Room j X.A)(hk:k<=j)(hg:Gl X x)
  (ha:PA X (e::es) t) (hdb:(x==("__debug__" : Str))=false:=by decide) (h1:notStar e=true:=by rfl) (h2:es.all notStar=true:=by rfl) :
  PE X (.Call (.Name x p) (e::es) [] pos) (tCall sp [] E0 t):=by
 obtain⟨f,fd,F,m,kp,b⟩:=F
 exact pe_call F (hr.mono hk) hg m kp b .nil pass0 ha hdb (star_cons h1) (star_none h2)
end
theorem pg_tupC{X:Cx}{N:List Str}{scope:Scope}{z:CZ}{es:List Expr}{k:Nat}{pos:Pos}{t:TGs}{n:Nat}(hc:X.calm=true)(h:PGs (cxComp X N scope z) es t)
  (hn:(assignEach es (cxComp X N scope z).env).length=n:=by rfl) (hst:(assignEach es (cxComp X N scope z).env).findIdx? (·.1)=none:=by rfl):PG (cxComp X N scope z) (.Tuple es k pos) (gTup X.K n t):=
 pg_tup (X:=cxComp X N scope z) hc h hn hst
section
variable{X:Cx}{N:List Str}{scope:Scope}{z:CZ}
theorem ix_tupC:IxR (cxComp X N scope z) (rIxT X.K):=ix_tup (X:=cxComp X N scope z)
end
section
variable{K:PySem.W.Frag}{a D:Addr}{xs:List V}{sl:List (Option Nat)}{g:TG}{tt:TT}{te:TE}{σ:L2.St}{H1:Hp}{Q:VK}
noncomputable def Nx(D:Addr)(i:Nat)(Pv:Nat->List V->Hp->Prop):Hp->Prop:=fun H'=>∃ys,H' D=some (.lst ys)/\ys.length<=i+1/\Pv (i+1) ys H'
theorem nx_put{i:Nat}{Pv:Nat->List V->Hp->Prop}{H:Hp}{ys:List V}{y:V}(hi:i<1000)(hD:H D=some (.lst ys))(hl:ys.length<=i)(h:Pv (i+1) (ys++[y]) (upd H D (.lst (ys++[y])))) :
  ∃xs,H D=some (.lst xs)/\xs.length<sizeLine/\Nx D i Pv (upd H D (.lst (xs++[y]))):=
 (x_EAAE ys hD (small1000 (by omega)) (ys++[y]) ⟨upd_same,by rw[List.length_append,List.length_singleton];omega,h⟩)
theorem comp_by(J:It)(n:Nat)(Pv:Nat->List V->Hp->Prop)(h0:Pv 0 [] (upd H1 D (.lst [])))
  (hgo:∀i ys H,i<n->Pv i ys H->J.go i H) (hst:∀ys H,Pv n ys H->J.stop n H)
  (hs:∀i x ys H H',i<n->J.yld i H x H'->H D=some (.lst ys)->ys.length<=i->Pv i ys H->g x (picks sl σ) H' fun σ2 H2=>Agree (picks sl σ) σ2/\tt σ2 H2 fun b H3=>
   if b=true then te σ2 H3 fun y H4=>∃xs,H4 D=some (.lst xs)/\xs.length<sizeLine/\Nx D i Pv (upd H4 D (.lst (xs++[y])))else Nx D i Pv H3)
  (hd:∀ys H,H D=some (.lst ys)->ys.length<=n->Pv n ys H->Q (.ref D) H):CompR J sl g tt te σ H1 D Q:=by
 refine⟨fun i m H=>m=n-i/\i<=n/\∃ys,H D=some (.lst ys)/\ys.length<=i/\Pv i ys H,(x_EAAE n (by simp) (Nat.zero_le _) ([]) ⟨upd_same,Nat.le_refl _,h0⟩),?_⟩
 rintro i m H ⟨rfl,hi,ys,hy,hl,p⟩
 by_cases hlt:i<n
 .refine .inr ⟨hgo i ys H hlt p,Nx D i Pv,fun H' ⟨ys',e1,e2,e3⟩=>⟨n-(i+1),by omega,rfl,hlt,ys',e1,e2,e3⟩,fun x H' y=>hs i x ys H H' hlt y hy hl p⟩
 .have e:i=n:=by omega
  subst e
  exact .inl ⟨hst ys H p,hd ys H hy hl p⟩
theorem comp_list(Pv:Nat->List V->Hp->Prop)(h0:Pv 0 [] (upd H1 D (.lst [])))(hl:∀i ys H,Pv i ys H->SqL K H a xs)
  (hs:∀i x ys H,xs[i]?=some x->i<xs.length->H D=some (.lst ys)->ys.length<=i->Pv i ys H->g x (picks sl σ) H fun σ2 H2=>Agree (picks sl σ) σ2/\tt σ2 H2 fun b H3=>
   if b=true then te σ2 H3 fun y H4=>∃xs,H4 D=some (.lst xs)/\xs.length<sizeLine/\Nx D i Pv (upd H4 D (.lst (xs++[y])))else Nx D i Pv H3)
  (hd:∀ys H,H D=some (.lst ys)->ys.length<=xs.length->Pv xs.length ys H->Q (.ref D) H):CompR (Itl K a) sl g tt te σ H1 D Q:=by
 refine comp_by (Itl K a) xs.length Pv h0 (fun i ys H hi p=>(x_EE xs (xs[i]) ⟨hl i ys H p,by simp[hi]⟩)) (fun ys H p=>⟨xs,hl _ ys H p,Nat.le_refl _⟩) (fun i x ys H H' hi y hD hyl p=>?_) hd
 obtain⟨e,y⟩:=y
 subst e
 exact hs i x ys _ (y xs (hl i ys _ p)) hi hD hyl p
theorem comp_tup(Pv:Nat->List V->Hp->Prop)(h0:Pv 0 [] (upd H1 D (.lst [])))(hl:∀i ys H,Pv i ys H->SqT K H a xs)
  (hs:∀i x ys H,xs[i]?=some x->i<xs.length->H D=some (.lst ys)->ys.length<=i->Pv i ys H->g x (picks sl σ) H fun σ2 H2=>Agree (picks sl σ) σ2/\tt σ2 H2 fun b H3=>
   if b=true then te σ2 H3 fun y H4=>∃xs,H4 D=some (.lst xs)/\xs.length<sizeLine/\Nx D i Pv (upd H4 D (.lst (xs++[y])))else Nx D i Pv H3)
  (hd:∀ys H,H D=some (.lst ys)->ys.length<=xs.length->Pv xs.length ys H->Q (.ref D) H):CompR (Itt K a) sl g tt te σ H1 D Q:=by
 refine comp_by (Itt K a) xs.length Pv h0 (fun i ys H hi p=>(x_EE xs (xs[i]) ⟨hl i ys H p,by simp[hi]⟩)) (fun ys H p=>⟨xs,hl _ ys H p,Nat.le_refl _⟩) (fun i x ys H H' hi y hD hyl p=>?_) hd
 obtain⟨e,y⟩:=y
 subst e
 exact hs i x ys _ (y xs (hl i ys _ p)) hi hD hyl p
theorem comp_range{lo:Int}{n:Nat}(Pv:Nat->List V->Hp->Prop)(h0:Pv 0 [] (upd H1 D (.lst [])))
  (hs:∀i ys H,i<n->H D=some (.lst ys)->ys.length<=i->Pv i ys H->g (.int (lo+i)) (picks sl σ) H fun σ2 H2=>Agree (picks sl σ) σ2/\tt σ2 H2 fun b H3=>
   if b=true then te σ2 H3 fun y H4=>∃xs,H4 D=some (.lst xs)/\xs.length<sizeLine/\Nx D i Pv (upd H4 D (.lst (xs++[y])))else Nx D i Pv H3)
  (hd:∀ys H,H D=some (.lst ys)->ys.length<=n->Pv n ys H->Q (.ref D) H):CompR (Itr lo n) sl g tt te σ H1 D Q:=by
 refine comp_by (Itr lo n) n Pv h0 (fun i ys H hi p=>hi) (fun ys H p=>Nat.le_refl _) (fun i x ys H H' hi y hD hyl p=>?_) hd
 obtain⟨e,e2⟩:=y
 subst e e2
 exact hs i ys _ hi hD hyl p
end
noncomputable def Ex(W:List Addr)(H H':Hp):Prop:=∀b o,b∉W->H b=some o->H' b=some o
theorem Ex.refl(W:List Addr)(H:Hp):Ex W H H:=fun _ _ _ h=>h
theorem Ex.trans{W:List Addr}{H H1 H2:Hp}(a:Ex W H H1)(b:Ex W H1 H2):Ex W H H2:=fun c o hc h=>b c o hc (a c o hc h)
theorem Ex.of_same{W:List Addr}{H H':Hp}(a:Same H H'):Ex W H H':=fun c o _ h=>a c o h
theorem Ex.upd{W:List Addr}{H:Hp}{p:Addr}{o:HO}(h:p∈W):Ex W H (upd H p o):=fun b u hb q=>by rw[upd_ne (show b≠p from fun e=>hb (by rw[e];exact h))];exact q
theorem Ex.tk{W:List Addr}{H H':Hp}(a:Ex W H H')(h:∀b∈W,∃xs,H b=some (.lst xs)):Tk H H':=fun b xs q=>a b _ (fun hb=>by
 obtain⟨ys,e⟩:=h b hb
 rw[q]at e;cases e) q
theorem Ex.one{st:Addr}{H H':Hp}{xs:List V}(a:Ex [st] H H')(h:H st=some (.lst xs)):Tk H H':=a.tk fun b hb=>⟨xs,by rw[List.mem_singleton.mp hb];exact h⟩
theorem Ex.at{st:Addr}{H H':Hp}{b:Addr}{o:HO}(a:Ex [st] H H')(hb:b≠st)(h:H b=some o):H' b=some o:=a b o (by simpa using hb) h
theorem _root_.L2.Same.new{H H':Hp}{p:Addr}{o:HO}(a:Same H H')(h:H p=none):Same H (upd H' p o):=fun b u q=>by rw[upd_ne (ne_of_none q h)];exact a b u q
theorem _root_.L2.Same.fresh{H:Hp}{p:Addr}(o:HO)(h:H p=none):Same H (upd H p o):=(Same.refl H).new h
noncomputable def Spots(ds:List PyData):Prop:=∀d∈ds,∃(r c:Int) (x:Str),d=.tuple [.int r,.int c,.str x]
theorem immAll_of:∀{ds:List PyData},(∀d∈ds,imm d=true)->immAll ds=true
 | [],_=>rfl
 | d::ds,h=>by
  show(imm d&&immAll ds)=true
  rw[h d List.mem_cons_self,immAll_of fun e he=>h e (List.mem_cons_of_mem _ he)]
  rfl
theorem Spots.imm{ds:List PyData}(h:Spots ds):immAll ds=true:=immAll_of fun d hd=>by obtain⟨r,c,x,rfl⟩:=h d hd;rfl
theorem rep_spot{H:Hp}{r c:Int}{x:Str}{v:V}(h:Rep H (.tuple [.int r,.int c,.str x]) v):∃a,v=.ref a/\H a=some (.tup [.int r,.int c,.str x])/\PyData.strOk x=true:=by
 obtain⟨a,xs,e,ha,x1,r1,e1,h1,x2,r2,e2,h2,x3,r3,e3,h3,e4⟩:=h
 cases (show x1=.int r from h1);cases (show x2=.int c from h2);cases (show x3=.str x from h3.1);cases (show r3=[]from e4)
 subst e1 e2 e3
 exact⟨a,e,ha,h3.2⟩
theorem spot_rep{H:Hp}{a:Addr}{r c:Int}{x:Str}(h:H a=some (.tup [.int r,.int c,.str x]))(hx:PyData.strOk x=true):Rep H (.tuple [.int r,.int c,.str x]) (.ref a):=
 (x_EEAAEEAAE a _ rfl h _ _ rfl rfl _ (x_EAAE _ rfl rfl _ ⟨_,rfl,⟨rfl,hx⟩,rfl⟩))
theorem Spots.at{H:Hp}{ds:List PyData}{xs:List V}{i:Nat}{v:V}(h:Spots ds)(r:RepAll H ds xs)(e:xs[i]?=some v) :
  ∃(a:Addr) (p q:Int) (x:Str),v=.ref a/\H a=some (.tup [.int p,.int q,.str x])/\PyData.strOk x=true/\ds[i]?=some (.tuple [.int p,.int q,.str x]):=by
 obtain⟨d,e1,e2⟩:=r.at e
 obtain⟨p,q,x,rfl⟩:=h d (List.mem_of_getElem? e1)
 obtain⟨a,e3,e4,e5⟩:=rep_spot e2
 exact(x_EEEE a p q x ⟨e3,e4,e5,e1⟩)
noncomputable def row1:PyData->Int
 | .tuple (.int r::_)=>r
 | _=>0
noncomputable def col1:PyData->Int
 | .tuple (_::.int c::_)=>c
 | _=>0
noncomputable def minI:List Int->Int
 | []=>0
 | [a]=>a
 | a::b::r=>if a<=minI (b::r)then a else minI (b::r)
theorem minI_mem:∀{ns:List Int},0<ns.length->minI ns∈ns
 | [],h=>by simp at h
 | [a],_=>by simp[minI]
 | a::b::r,_=>by
  unfold minI
  split
  .exact List.mem_cons_self
  .exact List.mem_cons_of_mem _ (minI_mem (by simp))
theorem minI_le:∀{ns:List Int},∀a∈ns,minI ns<=a
 | [],a,h=>by cases h
 | [a],b,h=>by
  have e:b=a:=by simpa using h
  rw[e];exact Int.le_refl _
 | a::b::r,x,h=>by
  unfold minI
  rcases List.mem_cons.mp h with e|h
  .rw[e]
   split
   .exact Int.le_refl _
   .omega
  .have:=minI_le (ns:=b::r) x h
   split
   .omega
   .exact this
theorem minI_eq{ns:List Int}{M:Int}(h1:M∈ns)(h2:∀a∈ns,M<=a):M=minI ns:=by
 have hp:0<ns.length:=List.length_pos_of_mem h1
 have a1:=h2 _ (minI_mem hp)
 have a2:=minI_le M h1
 omega
section
variable{K:PySem.W.Frag}{a:Addr}{xs:List V}{ds:List PyData}{σ:L2.St}{H:Hp}{Q:VK}
theorem map_take_succ{α β:Type}(f:α->β){l:List α}{i:Nat}{x:α}(h:l[i]?=some x):(l.take (i+1)).map f=(l.take i).map f++[f x]:=by
 rw[List.take_add_one,h]
 simp
end
noncomputable def sLt(x y:Str):Bool:=decide (x.cps.toList<y.cps.toList)
theorem sLt_asy{x y:Str}(h:sLt x y=true):sLt y x=false:=by
 have h':x.cps.toList<y.cps.toList:=of_decide_eq_true h
 exact decide_eq_false (List.lt_asymm h')
theorem sLt_tr{a b c:Str}(h1:sLt b a=false)(h2:sLt c b=false):sLt c a=false:=by
 have h1':a.cps.toList<=b.cps.toList:=of_decide_eq_false h1
 have h2':b.cps.toList<=c.cps.toList:=of_decide_eq_false h2
 exact decide_eq_false (List.le_trans h1' h2')
theorem sLt_eq{a b:Str}(h1:sLt a b=false)(h2:sLt b a=false):a=b:=by
 have h1':b.cps.toList<=a.cps.toList:=of_decide_eq_false h1
 have h2':a.cps.toList<=b.cps.toList:=of_decide_eq_false h2
 have e:=List.le_antisymm h2' h1'
 cases a;cases b
 simp only at e
 congr
 exact Array.ext' e
theorem sLt_irr(a:Str):sLt a a=false:=decide_eq_false (List.lt_irrefl _)
theorem rl_int(i j:Int)(r r':List PyData):rowLt (.int i::r) (.int j::r')=if i=j then rowLt r r' else decide (i<j):=by
 show(if (i==j)=true then rowLt r r' else decide (i<j))=_
 by_cases h:i=j
 .rw[if_pos h,if_pos (by rw[h];simp)]
 .rw[if_neg h,if_neg (by simpa using h)]
theorem rl_str(x y:Str)(r r':List PyData):rowLt (.str x::r) (.str y::r')=if x=y then rowLt r r' else sLt x y:=by
 show(if (x==y)=true then rowLt r r' else decide (x.cps.toList<y.cps.toList))=_
 by_cases h:x=y
 .rw[if_pos h,if_pos (by rw[h];simp)]
 .rw[if_neg h,if_neg (by simpa using h)]
  rfl
theorem rl_asy:∀{ks:List Bool} {xs ys:List PyData},Row ks xs->Row ks ys->rowLt xs ys=true->rowLt ys xs=false
 | [],xs,ys,h1,h2,h=>by
  cases (show xs=[]from h1);cases (show ys=[]from h2)
  rfl
 | true::ks,xs,ys,h1,h2,h=>by
  obtain⟨i,r,rfl,h1⟩:=h1
  obtain⟨j,r',rfl,h2⟩:=h2
  rw[rl_int]at h⊢
  by_cases e:i=j
  .rw[if_pos e]at h;rw[if_pos e.symm];exact rl_asy h1 h2 h
  .rw[if_neg e]at h;rw[if_neg (Ne.symm e)]
   have:=of_decide_eq_true h
   exact decide_eq_false (by omega)
 | false::ks,xs,ys,h1,h2,h=>by
  obtain⟨i,r,rfl,h1⟩:=h1
  obtain⟨j,r',rfl,h2⟩:=h2
  rw[rl_str]at h⊢
  by_cases e:i=j
  .rw[if_pos e]at h;rw[if_pos e.symm];exact rl_asy h1 h2 h
  .rw[if_neg e]at h;rw[if_neg (Ne.symm e)]
   exact sLt_asy h
theorem rl_tr:∀{ks:List Bool} {a b c:List PyData},Row ks a->Row ks b->Row ks c->rowLt b a=false->rowLt c b=false->rowLt c a=false
 | [],a,b,c,h1,h2,h3,h4,h5=>by
  cases (show a=[]from h1);cases (show c=[]from h3)
  rfl
 | true::ks,a,b,c,h1,h2,h3,h4,h5=>by
  obtain⟨i,r,rfl,h1⟩:=h1
  obtain⟨j,r',rfl,h2⟩:=h2
  obtain⟨k,r'',rfl,h3⟩:=h3
  rw[rl_int]at h4 h5⊢
  by_cases e1:j=i
  .rw[if_pos e1]at h4
   by_cases e2:k=j
   .rw[if_pos e2]at h5;rw[if_pos (e2.trans e1)];exact rl_tr h1 h2 h3 h4 h5
   .rw[if_neg e2]at h5;rw[if_neg (by omega)]
    have:=of_decide_eq_false h5
    exact decide_eq_false (by omega)
  .rw[if_neg e1]at h4
   have q1:=of_decide_eq_false h4
   by_cases e2:k=j
   .rw[if_neg (by omega)];exact decide_eq_false (by omega)
   .rw[if_neg e2]at h5
    have q2:=of_decide_eq_false h5
    rw[if_neg (by omega)];exact decide_eq_false (by omega)
 | false::ks,a,b,c,h1,h2,h3,h4,h5=>by
  obtain⟨i,r,rfl,h1⟩:=h1
  obtain⟨j,r',rfl,h2⟩:=h2
  obtain⟨k,r'',rfl,h3⟩:=h3
  rw[rl_str]at h4 h5⊢
  by_cases e1:j=i
  .rw[if_pos e1]at h4
   by_cases e2:k=j
   .rw[if_pos e2]at h5;rw[if_pos (e2.trans e1)];exact rl_tr h1 h2 h3 h4 h5
   .rw[if_neg e2]at h5;rw[if_neg (by rw[<-e1];exact e2),<-e1];exact h5
  .rw[if_neg e1]at h4
   by_cases e2:k=j
   .rw[if_neg (by rw[e2];exact e1),e2];exact h4
   .rw[if_neg e2]at h5
    by_cases e3:k=i
    .subst e3
     exact absurd (sLt_eq h5 h4) e2
    .rw[if_neg e3];exact sLt_tr h4 h5
theorem row_ord{ks0:List Bool}{ds:List PyData}(h:Rows ks0 ds):Ord (ltAtD ds):=by
 obtain⟨ks,hks,hk⟩:∃ks,ks=true::ks0/\ks≠[]:=⟨_,rfl,by simp⟩
 have at':∀i,rowOf (ds.getD i .none)=[]\/Row ks (rowOf (ds.getD i .none)):=fun i=>by
  by_cases hi:i<ds.length
  .right
   have e:ds.getD i .none=ds[i]:=by simp[List.getD,hi]
   obtain⟨r,e2,hr⟩:=h ds[i] (List.getElem_mem hi)
   rw[e,e2,hks]
   exact hr
  .left
   have e:ds.getD i .none=.none:=by simp[List.getD,List.getElem?_eq_none (Nat.le_of_not_lt hi)]
   rw[e];rfl
 have ne:∀{r:List PyData},Row ks r->∃x xs,r=x::xs:=fun{r} hr=>by
  match ks,hk,hr with
  | true::ks,_,⟨i,r,e,_⟩=>exact(x_EE _ _ e)
  | false::ks,_,⟨i,r,e,_⟩=>exact(x_EE _ _ e)
 refine⟨fun a b hab=>?_,fun a b c h1 h2=>?_⟩
 .show rowLt (rowOf (ds.getD b .none)) (rowOf (ds.getD a .none))=false
  have hab':rowLt (rowOf (ds.getD a .none)) (rowOf (ds.getD b .none))=true:=hab
  rcases at' a with ea|ea<;>rcases at' b with eb|eb
  .rw[ea,eb];rfl
  .obtain⟨x,xs,e⟩:=ne eb
   rw[ea,e];rfl
  .obtain⟨x,xs,e⟩:=ne ea
   rw[e,eb]at hab';cases hab'
  .exact rl_asy ea eb hab'
 .show rowLt (rowOf (ds.getD c .none)) (rowOf (ds.getD a .none))=false
  have h1':rowLt (rowOf (ds.getD b .none)) (rowOf (ds.getD a .none))=false:=h1
  have h2':rowLt (rowOf (ds.getD c .none)) (rowOf (ds.getD b .none))=false:=h2
  rcases at' a with ea|ea
  .rw[ea]
   rcases at' c with ec|ec
   .rw[ec];rfl
   .obtain⟨x,xs,e⟩:=ne ec
    rw[e];rfl
  .obtain⟨x,xs,e⟩:=ne ea
   rcases at' b with eb|eb
   .rw[eb,e]at h1';cases h1'
   .obtain⟨y,ys,e2⟩:=ne eb
    rcases at' c with ec|ec
    .rw[ec,e2]at h2';cases h2'
    .exact rl_tr ea eb ec h1' h2'
theorem map_range_getD(ds:List PyData):((List.range ds.length).map fun i=>ds.getD i .none)=ds:=by
 apply List.ext_getElem
 .simp
 .intro i h1 h2
  simp[List.getD,h2]
theorem sortD_perm(ds:List PyData):(sortD ds).Perm ds:=by
 have h:=(srt_perm (ltAtD ds) ds.length).map fun i=>ds.getD i .none
 rw[map_range_getD]at h
 exact h
theorem sortD_up{ks:List Bool}{ds:List PyData}(h:Rows ks ds){i j:Nat}{x y:PyData}(hx:(sortD ds)[i]?=some x)(hy:(sortD ds)[j]?=some y)(hij:i<=j):rowLt (rowOf y) (rowOf x)=false:=by
 unfold sortD at hx hy
 rw[List.getElem?_map]at hx hy
 have hj:j<(srt (ltAtD ds) ds.length).length:=by
  cases e:(srt (ltAtD ds) ds.length)[j]? with
  | none=>rw[e]at hy;cases hy
  | some k=>exact(List.getElem?_eq_some_iff.mp e).1
 have hi:i<(srt (ltAtD ds) ds.length).length:=by omega
 rw[List.getElem?_eq_getElem hi]at hx
 rw[List.getElem?_eq_getElem hj]at hy
 cases hx;cases hy
 have u:=srt_up (row_ord h) ds.length hij (by rw[srt_length]at hj;exact hj)
 have e1:(srt (ltAtD ds) ds.length).getD i 0=(srt (ltAtD ds) ds.length)[i]:=by simp[List.getD,hi]
 have e2:(srt (ltAtD ds) ds.length).getD j 0=(srt (ltAtD ds) ds.length)[j]:=by simp[List.getD,hj]
 rw[e1,e2]at u
 exact u
end L3
namespace L3
open PySem PySem.Spec PyProof.Rows
section
variable{prog:Program}{w:World}{A:Around}{R:Result->Shared->Prop}{I:Addr}{fp wr:List Addr}{n:Nat}{P:Nat->Value->Prop}{St:Nat->Heap->Prop}
theorem max_loopK(kw:List (Str×Value))(W:Walks prog w A.in1 I fp wr n P St)(bt:Nat->Nat->Bool)(hcmp:CmpOf prog w A.in1 .Gt P bt)(S:Addr)(hSf:S∉fp) :
  ∀(k j:Nat) (s:Shared) (vb:Value) (c:Nat),n-(j+1)=k->j+1<=n->St (j+1) s.heap->P (argBest bt j) vb->
  s.heap.get? S=some {cls:=.type "list",dict:=none,data:=.seq #[vb,vb] c,slots:=#[]}->
  (∀v h' tk,P (argBest bt (n-1)) v->(∀b o,b∉wr->b≠S->s.heap.get? b=some o->h'.get? b=some o)->R (.ok (.ret v)) {s with heap:=h',toks:=tk})->
  codeAny (model prog w) A (.builtin "max.loop" ⟨[.ref I,.none,.ref S],kw⟩) R s:=by
 have hSw:S∉wr:=fun h=>hSf (W.sub _ h)
 have nm:(toString "max" ++ toString ".loop" : String)="max.loop":=by decide
 intro k
 induction k with
 | zero=>
  intro j s vb c hk hj hst hPb hS hR
  have hin:j+1=n:=by omega
  refine codeAny_builtin F.entry_max_loop ?_
  rw[Around.under_plainId F.plain_max_loop _]
  show wpAny _ A.in1 (seqItems? (.ref S) >>= _) _ _ s
  refine wpAny_bind (wpAny_seqItems hS rfl ?_)
  show wpAny _ A.in1 (tryCatch (pyNext (.ref I)) _ >>= _) _ _ s
  refine wpAny_bind (wpAny_tryCatch (W.done s _ _ (hin▸hst) fun h' tk hk'=>?_))
  have hS':=hk' S _ hSw hS
  show wpAny _ A.in1 (updateSeq S (fun _=>#[]) >>= _) _ _ _
  refine wpAny_bind (wpAny_updateSeq hS' rfl (wpAny_bind (wpAny_letGo (wpAny_pure ?_))))
  exact hR vb _ tk (by rw[<-hin];exact hPb) fun b o hbw hbS e=>(Heap.get?_update_other _ _ (Ne.symm hbS)).trans (hk' b o hbw e)
 | succ k ih=>
  intro j s vb c hk hj hst hPb hS hR
  have hlt:j+1<n:=by omega
  refine codeAny_builtin F.entry_max_loop ?_
  rw[Around.under_plainId F.plain_max_loop _]
  show wpAny _ A.in1 (seqItems? (.ref S) >>= _) _ _ s
  refine wpAny_bind (wpAny_seqItems hS rfl ?_)
  show wpAny _ A.in1 (tryCatch (pyNext (.ref I)) _ >>= _) _ _ s
  refine wpAny_bind (wpAny_tryCatch (W.item (j+1) s _ _ hlt hst fun v h' tk hP hst' hk'=>?_))
  have hS':=hk' S _ hSw hS
  show wpAny _ A.in1 (tryCatch (holding [v,v] (richCompare .Gt v vb >>= _)) _ >>= _) _ _ _
  refine wpAny_bind (wpAny_tryCatch (wpAny_holding (wpAny_bind (hcmp (j+1) (argBest bt j) v vb _ _ _ hP hPb ?_))))
  refine wpAny_bind (wpAny_holding (wpAny_truthy_bool ?_))
  refine wpAny_bind (wpAny_letGo (wpAny_pure ?_))
  cases hb:bt (j+1) (argBest bt j)with
  | true=>
   simp only[if_true]
   refine wpAny_bind (wpAny_updateSeq hS' rfl (wpAny_bind (wpAny_letGo ?_)))
   rw[nm]
   refine wpAny_pure ⟨plainId_quiet F.plain_max_loop _,ih (j+1) _ v _ (by omega) hlt (W.frame _ _ _ hst' fun b hbf o e=>?_) (by simp only[argBest,hb,if_true];exact hP) (Heap.get?_update_self _ hS' rfl) fun v' h'' tk'' hP' hk''=>?_⟩
   .exact(Heap.get?_update_other _ _ (fun h:S=b=>hSf (by rw[h];exact hbf))).trans e
   .exact hR v' h'' tk'' hP' fun b o hbw hbS e=>hk'' b o hbw hbS ((Heap.get?_update_other _ _ (Ne.symm hbS)).trans (hk' b o hbw e))
  | false=>
   simp only[Bool.false_eq_true,if_false]
   refine wpAny_bind (wpAny_letGo ?_)
   rw[nm]
   refine wpAny_pure ⟨plainId_quiet F.plain_max_loop _,ih (j+1) _ vb c (by omega) hlt hst' (by simp only[argBest,hb,Bool.false_eq_true,if_false];exact hPb) hS' fun v' h'' tk'' hP' hk''=>?_⟩
   exact hR v' h'' tk'' hP' fun b o hbw hbS e=>hk'' b o hbw hbS (hk' b o hbw e)
theorem max_firstK(kw:List (Str×Value))(W:Walks prog w A.in1 I fp wr n P St)(bt:Nat->Nat->Bool)(hcmp:CmpOf prog w A.in1 .Gt P bt)(S:Addr)(hSf:S∉fp)(hn:0<n){s:Shared}{c:Nat}(hst:St 0 s.heap)
  (hS:s.heap.get? S=some {cls:=.type "list",dict:=none,data:=.seq #[] c,slots:=#[]})
  (hR:∀v h' tk,P (argBest bt (n-1)) v->(∀b o,b∉wr->b≠S->s.heap.get? b=some o->h'.get? b=some o)->R (.ok (.ret v)) {s with heap:=h',toks:=tk}) :
  codeAny (model prog w) A (.builtin "max.loop" ⟨[.ref I,.none,.ref S],kw⟩) R s:=by
 have hSw:S∉wr:=fun h=>hSf (W.sub _ h)
 have nm:(toString "max" ++ toString ".loop" : String)="max.loop":=by decide
 refine codeAny_builtin F.entry_max_loop ?_
 rw[Around.under_plainId F.plain_max_loop _]
 show wpAny _ A.in1 (seqItems? (.ref S) >>= _) _ _ s
 refine wpAny_bind (wpAny_seqItems hS rfl ?_)
 show wpAny _ A.in1 (tryCatch (pyNext (.ref I)) _ >>= _) _ _ s
 refine wpAny_bind (wpAny_tryCatch (W.item 0 s _ _ hn hst fun v h' tk hP hst' hk'=>?_))
 have hS':=hk' S _ hSw hS
 show wpAny _ A.in1 (updateSeq S (fun _=>#[v,v]) >>= _) _ _ _
 refine wpAny_bind (wpAny_updateSeq hS' rfl ?_)
 rw[nm]
 refine wpAny_pure ⟨plainId_quiet F.plain_max_loop _,max_loopK kw W bt hcmp S hSf _ 0 _ v _ rfl hn (W.frame _ _ _ hst' fun b hbf o e=>?_) hP (Heap.get?_update_self _ hS' rfl) fun v' h'' tk'' hP' hk''=>?_⟩
 .exact(Heap.get?_update_other _ _ (fun h:S=b=>hSf (by rw[h];exact hbf))).trans e
 .exact hR v' h'' tk'' hP' fun b o hbw hbS e=>hk'' b o hbw hbS ((Heap.get?_update_other _ _ (Ne.symm hbS)).trans (hk' b o hbw e))
end
section
variable{prog:Program}{w:World}{A:Around}{E:Value->Shared->Prop}{s:Shared}
theorem call_max_kw{x d:Value}{Q:Value->Shared->Prop}
  (h:wpAny (model prog w) A.in1 (pyIter x) (fun it s₂=>∃I fp wr n P St bt,it=.ref I/\Walks prog w A.in1 I fp wr n P St/\St 0 s₂.heap/\(∀b∈fp,b<s₂.heap.objs.size)/\0<n/\CmpOf prog w A.in1 .Gt P bt/\
   ∀v h' tk,P (argBest bt (n-1)) v->(∀b o,b∉wr->s₂.heap.get? b=some o->h'.get? b=some o)->Q v {s₂ with heap:=h',toks:=tk}) E s) :
  wpAny (model prog w) A (call (.builtin "max") [x] [(Str.ofString "default",d)]) Q E s:=by
 have nm:(toString "max" ++ toString ".loop" : String)="max.loop":=by decide
 refine wpAny_call (codeAny_call_builtin F.plain_max F.entry_max ?_)
 simp only[checkBuiltinCall,F.kind_max]
 have go:wpAny (model prog w) A.in1 (Builtin.«max» ⟨[x],[(Str.ofString "default",d)]⟩) (fun fin s'=>match fin with
   | .done f=>(match (Except.ok f:Result)with|.ok (.ret v)=>Q v s'|.ok _=>False|.error e=>E e s')
   | .again c'=>c'.quiet=true/\codeAny (model prog w) A c' (fun r s'=>match r with|.ok (.ret v)=>Q v s'|.ok _=>False|.error e=>E e s') s') E s:=by
  show wpAny _ A.in1 (Builtin.Builtins.bindParams "max" ["key","default"] 0 ⟨[],[(Str.ofString "default",d)]⟩ >>= _) _ _ s
  refine wpAny_bind (wpAny_of_eq (show Builtin.Builtins.bindParams "max" ["key","default"] 0 ⟨[],[(Str.ofString "default",d)]⟩=pure [none,some d]from rfl) ?_)
  refine wpAny_bind (wpAny_pure ?_)
  refine wpAny_bind (wpAny_mono h (fun it s₂ h₂=>?_) fun _ _ e=>e)
  obtain⟨I,fp,wr,n,P,St,bt,rfl,W,hst,hfp,hn,hcmp,hQ⟩:=h₂
  refine wpAny_bind (wpAny_newObj_type ?_)
  have hSf:s₂.heap.objs.size∉fp:=fun hm=>Nat.lt_irrefl _ (hfp _ hm)
  rw[nm]
  refine wpAny_pure ⟨plainId_quiet F.plain_max_loop _,max_firstK _ W bt hcmp s₂.heap.objs.size hSf hn (W.frame _ _ _ hst fun b _ o e=>Heap.get?_push_of_some _ e) (Heap.get?_push_size _ rfl) fun v h' tk hP hk=>?_⟩
  exact hQ v h' tk hP fun b o hbw e=>hk b o hbw (Nat.ne_of_lt (Heap.lt_size e)) (Heap.get?_push_of_some _ e)
 cases hsig:Manifest.signature? "max" with
 | none=>exact wpAny_pure go
 | some sig=>
  have ha':Bind.checkArgs "max" sig ⟨[x],[(Str.ofString "default",d)]⟩=pure ():=by
   have:=args_maxD x d
   simpa only [argsOk,hsig]using this
  simp only[ha']
  exact wpAny_pure go
theorem max_listK{l:Addr}{d:Value}{vs:List Value}{ns:List Int}{Q:Value->Shared->Prop}(hh:A.handled=none)(hl:s.heap.IsList l vs.toArray)(hi:IntsAre vs ns)(hne:0<ns.length)
  (h:∀h' M (t:Tok) tk,(∀b o,s.heap.get? b=some o->h'.get? b=some o)->M∈ns->(∀a,a∈ns->a<=M)->Q (.int M t) {s with heap:=h',toks:=tk}) :
  wpAny (model prog w) A (call (.builtin "max") [.ref l] [(Str.ofString "default",d)]) Q E s:=by
 obtain⟨xs,e⟩:=hi.allInts.items
 have hns:ns=xs.toList.map (·.1):=by rw[<-hi.numsOf,<-nums_intItems,<-e]
 have hsz:0<xs.size:=by
  have h3:=hne;rw[hns,List.length_map,Array.length_toList]at h3;exact h3
 rw[e]at hl
 refine call_max_kw (iter_intList hl fun s₂ e st hfp hlI=>?_)
 subst e
 refine(x_EEEEE _ _ _ _ _ (x_EE _ _ ⟨rfl,Walks.list (A:=A.in1) hh _ l hlI (intItems xs),st,hfp,by simpa [intItems]using hsz,CmpOf.ints_gt (numAt xs) (fun _ _=>intItems_at),fun v h' tk hP hk=>?_⟩))
 have hv:(intItems xs)[argBest (fun i j=>decide (numAt xs i>numAt xs j)) (xs.size-1)]?=some v:=by simpa [intItems]using hP
 obtain⟨t,rfl⟩:=intItems_at hv
 obtain⟨h1,h2⟩:=argBest_gt (numAt xs) (xs.size-1)
 refine h _ _ t tk (old_kept hk) ?_ fun a ha=>?_
 .rw[hns,numAt_eq];exact getD_mem (by rw[List.length_map,Array.length_toList];omega)
 .rw[hns]at ha
  obtain⟨j,hj,rfl⟩:=mem_getD ha
  rw[List.length_map,Array.length_toList]at hj
  rw[<-numAt_eq];exact h2 j (by omega)
end
end L3
namespace L3
end L3
namespace L3
open PySem PySem.Spec PyProof.Rows L2
section
variable{X:Cx}{x:Str}{p pos kpos:Pos}{e e2:Expr}{es:List Expr}{t tk:TA}{te:TE}
noncomputable def rMax:List V->Hp->VK->Prop:=fun xs H Q=>∃q,∃ns:List Int,xs=[.ref q]/\H q=some (.lst (ns.map V.int))/\0<ns.length/\∀M,M∈ns->(∀a∈ns,a<=M)->Q (.int M) H
noncomputable def tMaxD(t tk:TA):TE:=fun σ H Q=>t σ H fun vs H1=>tk σ H1 fun zs H2=>zs.length=1/\rMax vs H2 Q
theorem pe_maxD(hc:X.calm=true)(hg:Gl X "max")(hm:X.mg "max" = none)(ha:PA X [e] t)(hkw:PK X [⟨some "default",e2,kpos⟩] tk)
  (he:backTo pos (starEach [e] X.env)=(false,eval e X.env)::backTo pos (starEach [] X.env):=by rfl) (hpl:(backTo pos (starEach [e] X.env)).any (·.1)=false:=by rfl) :
  PE X (.Call (.Name "max" p) [e] [⟨some "default",e2,kpos⟩] pos) (tMaxD t tk):=by
 intro pins s σ H Q I h
 refine wpAny_Call_Name_kw (ld_blt I hg hm boot_max ?_ (by decide) (by decide))
 refine callWith_kw (thn (ha pos pins s σ H _ I h) fun us s1 ⟨vs,H1,I1,r,q⟩=>thn (hkw pos pins s1 σ H1 _ I1 q) fun ws s2 ⟨zs,H2,I2,rz,hz1,q2⟩=>?_) he hpl
 obtain⟨d,rfl⟩:∃d,ws=[d]:=by
  have hl:ws.length=1:=rz.length.symm.trans hz1
  match ws,hl with
  | [d],_=>exact⟨d,rfl⟩
 obtain⟨l,ns,rfl,hq,hn,hQ⟩:=q2
 obtain⟨u,rfl,r1⟩:=vals1 r
 cases (show u=Value.ref l from r1)
 obtain⟨its,rv,pl,hz⟩:=I2.list (SqL.of (K:=X.K) hq)
 exact max_listK (I2.ok.hd hc) pl.isList (intsAre_of rv) hn fun h' M t tk k h1 h2=>(x_EE (.int M) H2 ⟨I2.kept k,⟨_,rfl⟩,hQ M h1 h2⟩)
end
noncomputable def maxI:List Int->Int
 | []=>0
 | [a]=>a
 | a::b::r=>if maxI (b::r)<=a then a else maxI (b::r)
theorem maxI_mem:∀{ns:List Int},0<ns.length->maxI ns∈ns
 | [],h=>by simp at h
 | [a],_=>by simp[maxI]
 | a::b::r,_=>by
  unfold maxI
  split
  .exact List.mem_cons_self
  .exact List.mem_cons_of_mem _ (maxI_mem (by simp))
theorem le_maxI:∀{ns:List Int},∀a∈ns,a<=maxI ns
 | [],a,h=>by cases h
 | [a],b,h=>by
  have e:b=a:=by simpa using h
  rw[e];exact Int.le_refl _
 | a::b::r,x,h=>by
  unfold maxI
  rcases List.mem_cons.mp h with e|h
  .rw[e]
   split
   .exact Int.le_refl _
   .omega
  .have:=le_maxI (ns:=b::r) x h
   split
   .omega
   .exact this
theorem maxI_eq{ns:List Int}{M:Int}(h1:M∈ns)(h2:∀a∈ns,a<=M):M=maxI ns:=by
 have hp:0<ns.length:=List.length_pos_of_mem h1
 have a1:=h2 _ (maxI_mem hp)
 have a2:=le_maxI M h1
 omega
noncomputable def mir1(m:Int):PyData->PyData
 | .tuple [.int r,.int c,.str x]=>.tuple [.int r,.int (m-c),.str x]
 | d=>d
noncomputable def tur1(m:Int):PyData->PyData
 | .tuple [.int r,.int c,.str x]=>.tuple [.int c,.int (m-r),.str x]
 | d=>d
noncomputable def mirD(ds:List PyData):List PyData:=ds.map (mir1 (maxI (ds.map col1)))
noncomputable def turD(ds:List PyData):List PyData:=ds.map (tur1 (maxI (ds.map row1)))
noncomputable def spotsD(t:Nat)(ds:List PyData):List PyData:=(List.range (t % 4)).foldl (fun a _=>turD a) (if 4<=t then mirD ds else ds)
theorem mir_spots{ds:List PyData}(h:Spots ds)(m:Int):Spots (ds.map (mir1 m)):=fun d hd=>by
 obtain⟨e,he,rfl⟩:=List.mem_map.mp hd
 obtain⟨r,c,x,rfl⟩:=h e he
 exact(x_EEE _ _ _ rfl)
theorem tur_spots{ds:List PyData}(h:Spots ds)(m:Int):Spots (ds.map (tur1 m)):=fun d hd=>by
 obtain⟨e,he,rfl⟩:=List.mem_map.mp hd
 obtain⟨r,c,x,rfl⟩:=h e he
 exact(x_EEE _ _ _ rfl)
theorem spots_rows{ds:List PyData}(h:Spots ds):Rows [true,false] ds:=fun d hd=>by
 obtain⟨r,c,x,rfl⟩:=h d hd
 exact(x_EAEE _ rfl _ _ ⟨rfl,(x_EE _ _ ⟨rfl,(x_EE _ _ ⟨rfl,rfl⟩)⟩)⟩)
section
variable{K:PySem.W.Frag}{a:Addr}{xs:List V}{ds:List PyData}{σ:L2.St}{H:Hp}{Q:VK}
theorem read_projI{i0:Nat}(j:Int)(pr:PyData->Int)(hj:∀(r c:Int) (x:Str),atI [V.int r,.int c,.str x] j=some (.int (pr (.tuple [.int r,.int c,.str x]))))
  (hσ:σ[i0]?=some (some (.ref a))) (ha:H a=some (.lst xs)) (hr:RepAll H ds xs) (hs:Spots ds) (hl:ds.length<=64)
  (q:∀D H',Same H H'->H' D=some (.lst ((ds.map pr).map V.int))->Q (.ref D) H') :
  tComp (iList K (tVar i0)) [none] (gName 0) tYes (tOp (rIxT K) (tVar 0) (tC (.int j))) σ H Q:=by
 have hlen:=hr.length
 refine(x_EAE _ hσ a ⟨rfl,⟨_,SqL.of ha⟩,fun D hD=>?_⟩)
 refine comp_list (xs:=xs) (fun i ys H'=>Same H H'/\ys=((ds.take i).map pr).map V.int) ⟨Same.fresh _ hD,rfl⟩ (fun i ys H' p=>SqL.of (p.1 _ _ ha)) (fun i x ys H' hx hi hDy hyl p=>?_) (fun ys H' hDy hyl p=>?_)
 .obtain⟨p1,rfl⟩:=p
  obtain⟨b,r,c,z,rfl,hb,hz,hd⟩:=hs.at hr hx
  refine⟨Agree.set (Agree.refl _) rfl,?_⟩
  dsimp only[tYes]
  refine iteT ?_
  refine(x_EAEEEE _ rfl b _ _ _ ⟨rfl,rfl,SqT.of (p1 _ _ hb),hj r c z,nx_put (by omega) hDy hyl ⟨p1.new hD,?_⟩⟩)
  rw[map_take_succ pr hd,List.map_append]
  rfl
 .obtain⟨p1,rfl⟩:=p
  refine q D H' p1 ?_
  rw[hDy,List.take_of_length_le (by omega)]
theorem row_at(r c:Int)(x:Str):atI [V.int r,.int c,.str x] 0=some (.int (row1 (.tuple [.int r,.int c,.str x]))):=rfl
theorem col_at(r c:Int)(x:Str):atI [V.int r,.int c,.str x] 1=some (.int (col1 (.tuple [.int r,.int c,.str x]))):=rfl
theorem read_each{m:Int}{i0 j:Nat}{ta tb:TE}(f:Int->PyData->PyData)(hσ:σ[i0]?=some (some (.ref a)))(h1:σ[j]?=some (some (.int m)))(ha:H a=some (.lst xs))(hr:RepAll H ds xs)(hs:Spots ds)(hl:ds.length<=64)
  (hread:∀(r c:Int) (z:Str) (H':Hp) (Q':VK),(∃u v:Int,f m (.tuple [.int r,.int c,.str z])=.tuple [.int u,.int v,.str z]/\∀n,H' n=none->Q' (.ref n) (upd H' n (.tup [.int u,.int v,.str z])))->
   tTup (tCons ta (tCons tb (tCons (tVar 2) tNil))) [some (.int r),some (.int c),some (.str z),some (.int m)] H' Q')
  (q:∀D ys H',H D=none->Same H H'->H' D=some (.lst ys)->RepAll H' (ds.map (f m)) ys->Q (.ref D) H')
  (hsp:∀(r c:Int) (z:Str),∃u v:Int,f m (.tuple [.int r,.int c,.str z])=.tuple [.int u,.int v,.str z]) :
  tComp (iList K (tVar i0)) [none,none,none,some j] (gTup K 3 (gCons (gName 0) (gCons (gName 1) (gCons (gName 2) gNil)))) tYes (tTup (tCons ta (tCons tb (tCons (tVar 2) tNil)))) σ H Q:=by
 have hlen:=hr.length
 refine(x_EAE _ hσ a ⟨rfl,⟨_,SqL.of ha⟩,fun D hD=>?_⟩)
 have hp:picks [none,none,none,some j] σ=[none,none,none,some (.int m)]:=by
  unfold picks
  simp[h1]
 have im:∀es:List PyData,(∀d∈es,d∈ds)->Spots (es.map (f m)):=fun es he d hd=>by
  obtain⟨d0,h0,rfl⟩:=List.mem_map.mp hd
  obtain⟨r0,c0,x0,rfl⟩:=hs d0 (he d0 h0)
  obtain⟨u,v,e⟩:=hsp r0 c0 x0
  exact(x_EEE u v x0 e)
 refine comp_list (xs:=xs) (fun i ys H'=>Same H H'/\RepAll H' ((ds.take i).map (f m)) ys) ⟨Same.fresh _ hD,rfl⟩ (fun i ys H' p=>SqL.of (p.1 _ _ ha)) (fun i x ys H' hx hi hDy hyl p=>?_) (fun ys H' hDy hyl p=>?_)
 .obtain⟨p1,p2⟩:=p
  obtain⟨b,r,c,z,rfl,hb,hz,hd⟩:=hs.at hr hx
  rw[hp]
  refine(x_EEAAAEEAE b _ rfl (SqT.of (p1 _ _ hb)) rfl _ _ rfl _ (x_EAEE _ rfl _ _ ⟨rfl,rfl,?_⟩))
  refine⟨Agree.set (Agree.set (Agree.set (Agree.refl _) rfl) rfl) rfl,?_⟩
  dsimp only[tYes]
  refine iteT ?_
  obtain⟨u,v,ef⟩:=hsp r c z
  refine hread r c z H' _ (x_EE u v ⟨ef,fun n hn=>?_⟩)
  have s2:Same H' (upd H' n (.tup [.int u,.int v,.str z])):=Same.fresh _ hn
  have n2:upd H' n (.tup [.int u,.int v,.str z]) n=some (.tup [.int u,.int v,.str z]):=upd_same
  generalize upd H' n (.tup [.int u,.int v,.str z])=H2 at *
  have hD2:=s2 _ _ hDy
  refine nx_put (by omega) hD2 hyl ⟨(p1.trans s2).new hD,?_⟩
  have rep:RepAll H2 ((ds.take i).map (f m)++[f m (.tuple [.int r,.int c,.str z])]) (ys++[.ref n]):=by
   rw[ef]
   exact(p2.same s2).snoc (spot_rep n2 hz)
  rw[<-map_take_succ (f m) hd]at rep
  exact rep.tk (Tk.lst hD2) (Spots.imm (im _ fun d hd'=>List.mem_of_mem_take hd'))
 .obtain⟨p1,p2⟩:=p
  rw[List.take_of_length_le (by omega)]at p2
  exact q D ys H' hD p1 hDy p2
end
noncomputable def iSeq(K:PySem.W.Frag)(tl:TE):TI:=fun σ H R=>tl σ H fun x H1=>∃a,x=.ref a/\(((∃xs,SqL K H1 a xs)/\R (Itl K a) H1)\/((∃xs,SqT K H1 a xs)/\R (Itt K a) H1))
section
variable{X:Cx}{tg:Expr}
theorem pi_seq{l:Expr}{tl:TE}(hl:PE X l tl):PI X tg l (iSeq X.K tl):=by
 intro pins s σ H R I h
 refine thn (hl pins s σ H _ I h) fun v s1 ⟨x,H1,I1,r1,q1⟩=>?_
 obtain⟨a,e,⟨⟨xs,hq⟩,q⟩|⟨⟨xs,hq⟩,q⟩⟩:=q1
 .subst e
  cases r1
  obtain⟨its,rv,p,hz⟩:=I1.list hq
  refine wpAny_pyIter_list p.isList ?_
  refine(x_EEEEE s1.heap.objs.size ([s1.heap.objs.size]) _ _ H1 ⟨rfl,I1.kept (t':=s1.toks) fun b o e=>Heap.get?_push_of_some _ e,turn_list a _,⟨_,Heap.get?_push_size _ rfl,rfl,rfl⟩,fun b hb=>?_,q⟩)
  have e:b=s1.heap.objs.size:=by simpa using hb
  subst e
  exact I1.fpOk (Nat.le_refl _) (I1.hok.fresh (Nat.le_refl _))
 .subst e
  cases r1
  obtain⟨its,rv,p,hz⟩:=I1.tuple hq
  refine wpAny_pyIter_tuple (show s1.heap.IsTuple a its.toArray from p) ?_
  refine(x_EEEEE s1.heap.objs.size ([s1.heap.objs.size]) _ _ H1 ⟨rfl,I1.kept (t':=s1.toks) fun b o e=>Heap.get?_push_of_some _ e,turn_tuple a _,⟨_,Heap.get?_push_size _ rfl,rfl,rfl⟩,fun b hb=>?_,q⟩)
  have e:b=s1.heap.objs.size:=by simpa using hb
  subst e
  exact I1.fpOk (Nat.le_refl _) (I1.hok.fresh (Nat.le_refl _))
end
section
variable{K:PySem.W.Frag}{a:Addr}{xs:List V}{ds:List PyData}{σ:L2.St}{H:Hp}{Q:VK}{sl:List (Option Nat)}{g:TG}{tt:L2.TT}{te:TE}
theorem comp_seq(ha:H a=some (.lst xs)\/H a=some (.tup xs))(Pv:Addr->Nat->List V->Hp->Prop)(h0:∀D,H D=none->Pv D 0 [] (upd H D (.lst [])))(hk:∀D i ys G,Pv D i ys G->Same H G)
  (hs:∀D i x ys G,H D=none->xs[i]?=some x->i<xs.length->G D=some (.lst ys)->ys.length<=i->Pv D i ys G->g x (picks sl σ) G fun σ2 H2=>Agree (picks sl σ) σ2/\tt σ2 H2 fun b H3=>
   if b=true then te σ2 H3 fun y H4=>∃xs,H4 D=some (.lst xs)/\xs.length<sizeLine/\Nx D i (Pv D) (upd H4 D (.lst (xs++[y])))else Nx D i (Pv D) H3)
  (hd:∀D ys G,H D=none->G D=some (.lst ys)->ys.length<=xs.length->Pv D xs.length ys G->Q (.ref D) G) :
  ((∃xs,SqL K H a xs)/\∀D,H D=none->CompR (Itl K a) sl g tt te σ H D Q)\/((∃xs,SqT K H a xs)/\∀D,H D=none->CompR (Itt K a) sl g tt te σ H D Q):=by
 rcases ha with ha|ha
 .exact .inl ⟨⟨_,SqL.of ha⟩,fun D hD=>comp_list (xs:=xs) (Pv D) (h0 D hD) (fun i ys G p=>SqL.of (hk D i ys G p _ _ ha)) (fun i x ys G=>hs D i x ys G hD) fun ys G=>hd D ys G hD⟩
 .exact .inr ⟨⟨_,SqT.of ha⟩,fun D hD=>comp_tup (xs:=xs) (Pv D) (h0 D hD) (fun i ys G p=>SqT.of (hk D i ys G p _ _ ha)) (fun i x ys G=>hs D i x ys G hD) fun ys G=>hd D ys G hD⟩
theorem read_spotT{i0:Nat}{rest:L2.St}(f:PyData->PyData)(hσ:σ[i0]?=some (some (.ref a)))(hp:picks sl σ=none::none::none::rest)(ha:H a=some (.lst xs)\/H a=some (.tup xs))(hr:RepAll H ds xs)(hs:Spots ds)(hl:ds.length<=64)
  (hread:∀(r c:Int) (z:Str) (H':Hp) (Q':VK),(∃u v:Int,f (.tuple [.int r,.int c,.str z])=.tuple [.int u,.int v,.str z]/\∀n,H' n=none->Q' (.ref n) (upd H' n (.tup [.int u,.int v,.str z])))->
   te (some (.int r)::some (.int c)::some (.str z)::rest) H' Q')
  (hsp:∀(r c:Int) (z:Str),∃u v:Int,f (.tuple [.int r,.int c,.str z])=.tuple [.int u,.int v,.str z])
  (q:∀D ys H',H D=none->Same H H'->H' D=some (.lst ys)->RepAll H' (ds.map f) ys->Q (.ref D) H') :
  tComp (iSeq K (tVar i0)) sl (gTup K 3 (gCons (gName 0) (gCons (gName 1) (gCons (gName 2) gNil)))) tYes te σ H Q:=by
 have hlen:=hr.length
 have im:∀es:List PyData,(∀d∈es,d∈ds)->Spots (es.map f):=fun es he d hd=>by
  obtain⟨d0,h0,rfl⟩:=List.mem_map.mp hd
  obtain⟨r0,c0,x0,rfl⟩:=hs d0 (he d0 h0)
  obtain⟨u,v,e⟩:=hsp r0 c0 x0
  exact(x_EEE u v x0 e)
 refine(x_EAE _ hσ a ⟨rfl,comp_seq ha (fun D i ys H'=>Same H H'/\RepAll H' ((ds.take i).map f) ys) (fun D hD=>⟨Same.fresh _ hD,rfl⟩) (fun D i ys H' p=>p.1) (fun D i x ys H' hD hx hi hDy hyl p=>?_) (fun D ys H' hD hDy hyl p=>?_)⟩)
 .obtain⟨p1,p2⟩:=p
  obtain⟨b,r,c,z,rfl,hb,hz,hd⟩:=hs.at hr hx
  rw[hp]
  refine(x_EEAAAEEAE b _ rfl (SqT.of (p1 _ _ hb)) rfl _ _ rfl _ (x_EAEE _ rfl _ _ ⟨rfl,rfl,?_⟩))
  refine⟨Agree.set (Agree.set (Agree.set (Agree.refl _) rfl) rfl) rfl,?_⟩
  dsimp only[tYes]
  refine iteT ?_
  obtain⟨u,v,ef⟩:=hsp r c z
  refine hread r c z H' _ (x_EE u v ⟨ef,fun n hn=>?_⟩)
  have s2:Same H' (upd H' n (.tup [.int u,.int v,.str z])):=Same.fresh _ hn
  have n2:upd H' n (.tup [.int u,.int v,.str z]) n=some (.tup [.int u,.int v,.str z]):=upd_same
  generalize upd H' n (.tup [.int u,.int v,.str z])=H2 at *
  have hD2:=s2 _ _ hDy
  refine nx_put (by omega) hD2 hyl ⟨(p1.trans s2).new hD,?_⟩
  have rep:RepAll H2 ((ds.take i).map f++[f (.tuple [.int r,.int c,.str z])]) (ys++[.ref n]):=by
   rw[ef]
   exact(p2.same s2).snoc (spot_rep n2 hz)
  rw[<-map_take_succ f hd]at rep
  exact rep.tk (Tk.lst hD2) (Spots.imm (im _ fun d hd'=>List.mem_of_mem_take hd'))
 .obtain⟨p1,p2⟩:=p
  rw[List.take_of_length_le (by omega)]at p2
  exact q D ys H' hD p1 hDy p2
end
section
variable{X:Cx}{x:Str}{pos:Pos}
theorem pe_globS{z:Str}(h:∃t,X.mg x=some (.str z t))(hg:Gl X x)(hd:(x==("__debug__" : Str))=false:=by decide):PE X (.Name x pos) (tC (.str z)):=by
 obtain⟨t,h⟩:=h
 exact pe_glob hg h ⟨t,rfl⟩ hd
theorem pe_globI{z:Int}(h:∃t,X.mg x=some (.int z t))(hg:Gl X x)(hd:(x==("__debug__" : Str))=false:=by decide):PE X (.Name x pos) (tC (.int z)):=by
 obtain⟨t,h⟩:=h
 exact pe_glob hg h ⟨t,rfl⟩ hd
end
section
variable{X:Cx}
theorem op_le_str:OpR X (compareOp .LtE) (fun x y H Q=>∃i j,x=.str i/\y=.str j/\Q (.bl (!decide (j.cps.toList<i.cps.toList))) H):=by
 intro pins s σ H x y v u Q I rx ry h
 obtain⟨i,j,rfl,rfl,q⟩:=h
 obtain⟨t,rfl⟩:=rx
 obtain⟨t',rfl⟩:=ry
 exact PySem.P.le_str (x_EE (.bl _) H ⟨I,rfl,q⟩)
noncomputable def rAll:List V->Hp->VK->Prop:=fun xs H Q=>∃(p:Addr) (bs:List Bool),xs=[.ref p]/\H p=some (.lst (bs.map V.bl))/\Q (.bl (bs.all id)) H
theorem range_all:∀(bs:List Bool),((List.range bs.length).all fun i=>(bs[i]?).getD true)=bs.all id:=fun bs=>by
 rw[Bool.eq_iff_iff,List.all_eq_true,List.all_eq_true]
 constructor
 .intro h b hb
  obtain⟨i,hi,rfl⟩:=List.mem_iff_getElem.mp hb
  have:=h i (by simpa using hi)
  simpa [hi]using this
 .intro h i hi
  have hi':i<bs.length:=by simpa using hi
  have:=h bs[i] (List.getElem_mem hi')
  simpa [hi']using this
theorem call_all(hc:X.calm=true):CallR X (.builtin "all") rAll:=by
 intro pins s σ H xs us Q I r h
 obtain⟨p,bs,rfl,hp,q⟩:=h
 obtain⟨u,rfl,r1⟩:=vals1 r
 cases (show u=Value.ref p from r1)
 obtain⟨its,rv,pl,hz⟩:=I.list (SqL.of (K:=X.K) hp)
 have hlt:p<s.heap.objs.size:=by obtain⟨_,_,e,_⟩:=pl;exact Heap.lt_size e
 have hlen:its.length=bs.length:=by rw[<-rv.length,List.length_map]
 refine call_all_walk (wpAny_pyIter_list pl.isList ?_)
 refine⟨s.heap.objs.size,[s.heap.objs.size,p],[s.heap.objs.size],its.toArray.size,_,_,fun i=>(bs[i]?).getD true,rfl,Walks.list (A:=X.A.in1) (I.ok.hd hc) _ p (Nat.ne_of_lt hlt) its.toArray,
  ⟨⟨_,Heap.get?_push_size _ rfl,rfl,rfl⟩,pl.isList.push _⟩,fun i v s' Q' E' hP hQ=>?_,fun h' tk hk=>?_⟩
 .have hi:its[i]?=some v:=by simpa using hP
  have hi2:i<bs.length:=by rw[<-hlen];exact(List.getElem?_eq_some_iff.mp hi).1
  obtain⟨u',e1,e2⟩:=rv.get (i:=i) (x:=.bl bs[i]) (by rw[List.getElem?_map,List.getElem?_eq_getElem hi2];rfl)
  rw[hi]at e1;cases e1
  cases (show v=Value.bool bs[i]from e2)
  have hQ2:Q' ((bs[i]?).getD true) s':=hQ
  rw[List.getElem?_eq_getElem hi2]at hQ2
  exact wpAny_truthy_bool hQ2
 .refine(x_EE (.bl _) H ⟨I.kept (fun b o e=>hk b o (fun hm=>?_) (Heap.get?_push_of_some _ e)),rfl,?_⟩)
  .rw[List.mem_singleton.mp hm]at e
   exact Nat.lt_irrefl _ (Heap.lt_size e)
  .rw[List.size_toArray,hlen,range_all]
   exact q
end
noncomputable def Tx(z:Str):Prop:=z.length<=80/\∀c∈z.cps.toList,c<128
theorem Tx.ok{z:Str}(h:Tx z):PyData.strOk z=true:=by
 unfold PyData.strOk
 rw[Array.all_eq_true']
 intro c hc
 have:=h.2 c (by simpa using hc)
 simp only[decide_eq_true_eq]
 omega
noncomputable def sgB(c:Nat):Bool:=(c==35||c==46||c==44)||(decide (65<=c)&&decide (c<=90))||(decide (97<=c)&&decide (c<=122))
section
variable{prog:Program}{w:World}{A:Around}{E:Value->Shared->Prop}{s:Shared}
theorem nx_tup{I a:Addr}{k:Nat}{ys:Array Value}{v:Value}{R:Value->Shared->Prop}(st:s.heap.IsTupleIter I a k)(tp:s.heap.IsTuple a ys)(hv:ys[k]?=some v)
  (q:∀g,g.IsTupleIter I a (k+1)->Heap.SameBut I s.heap g->R v {s with heap:=g}):wpAny (model prog w) A (Builtin.SmallTypes.nextOf (.ref I)) R E s:=by
 obtain⟨u,hu,uc,ud⟩:=id st
 obtain⟨z,hz,_,nz,zd⟩:=tp
 unfold Builtin.SmallTypes.nextOf
 refine wpAny_bind (wpAny_callSpecial?_slot (name:=Str.ofString "__next__") st.typeIs F.slot_tuple_iterator_next (wpAny_call_entry F.slot_tuple_iterator_next st.typeIs F.entry_tuple_iterator_next ?_ (F.args_tuple_iterator_next_1 _)))
 refine(wpAny_bind (wpAny_field hu ud (x:=.ref a) rfl ?_):wpAny _ _ (field (.ref I) 0 >>= _) _ _ s)
 refine(?_:wpAny _ _ (if (Value.ref a==Value.none)=true then _ else _) _ _ s)
 rw[if_neg (show ¬(Value.ref a==Value.none)=true from Bool.false_ne_true)]
 refine(wpAny_bind (wpAny_field hu ud (x:=.int k 0) rfl ?_):wpAny _ _ (field (.ref I) 1 >>= _) _ _ s)
 refine(wpAny_bind (wpAny_seqItems hz zd ?_):wpAny _ _ (seqItems? (.ref a) >>= _) _ _ s)
 simp only[Int.toNat_natCast,hv]
 refine wpAny_bind (wpAny_setField hu ud (by simp) (wpAny_pure ⟨v,rfl,wpAny_pure (q _ ⟨_,Heap.get?_update_self _ hu (Obj.isFreed_of_fields (Obj.data_mapFields ud _)),?_,?_⟩ (Heap.SameBut.update ..))⟩))
 .exact(Obj.cls_mapFields ..).trans uc
 .rw[Obj.data_mapFields ud];simp[rawInt]
theorem nx_asc{I:Addr}{z:Str}{t:Tok}{k c:Nat}{R:Value->Shared->Prop}(st:s.heap.IsStrIter I "str_ascii_iterator" z t k)(hv:z.cps[k]?=some c)
  (q:∀g,g.IsStrIter I "str_ascii_iterator" z t (k+1)->Heap.SameBut I s.heap g->R (.str ⟨#[c]⟩ s.toks) {s with heap:=g,toks:=s.toks+1}):wpAny (model prog w) A (Builtin.SmallTypes.nextOf (.ref I)) R E s:=by
 obtain⟨u,hu,uc,ud⟩:=id st
 unfold Builtin.SmallTypes.nextOf
 refine wpAny_bind (wpAny_callSpecial?_slot (name:=Str.ofString "__next__") st.typeIs F.slot_str_ascii_iterator_next (wpAny_call_entry F.slot_str_ascii_iterator_next st.typeIs F.entry_str_ascii_iterator_next ?_ (F.args_str_ascii_iterator_next_1 _)))
 refine(wpAny_bind (wpAny_field hu ud (x:=.str z t) rfl ?_):wpAny _ _ (field (.ref I) 0 >>= _) _ _ s)
 refine(wpAny_bind (wpAny_field hu ud (x:=.int k 0) rfl ?_):wpAny _ _ (field (.ref I) 1 >>= _) _ _ s)
 simp only[Int.toNat_natCast,hv]
 refine wpAny_bind (wpAny_setField hu ud (by simp) (wpAny_bind (wpAny_mkStr (wpAny_pure ⟨_,rfl,wpAny_pure (q _ ⟨_,Heap.get?_update_self _ hu (Obj.isFreed_of_fields (Obj.data_mapFields ud _)),?_,?_⟩ (Heap.SameBut.update ..))⟩) (by show 1<=sizeLine;decide))))
 .exact(Obj.cls_mapFields ..).trans uc
 .rw[Obj.data_mapFields ud];simp[rawInt]
theorem stop_raised{X:Addr}{h1:Heap}{k:Value->Sem Fin}(hh:A.handled=none)(keep:Heap.ExtBut X s.heap h1)
  (q:∀g e,Heap.ExtBut X s.heap g->(∃o,g.get? e=some o/\o.cls=.type "StopIteration")->E (.ref e) {s with heap:=g}) {R:Fin->Shared->Prop}
  (ek:∀v,k v=(raiseNew v:Sem Fin)):wpAny (model prog w) A (newExc (.type "StopIteration") [] >>= k) R E {s with heap:=h1}:=by
 refine wpAny_bind ?_
 simp only[newExc,newTuple]
 refine wpAny_bind (wpAny_newObj_type ?_ (by size_fits))
 refine wpAny_bind (m:=firstArgMember _ _) (wpAny_of_eq (a:=Value.none) (by first|rfl|(simp only[firstArgMember];rfl)) (wpAny_newObj_type ?_ (by size_fits)))
 rw[ek]
 simp only[raiseNew]
 refine wpAny_bind (wpAny_handled ?_)
 rw[hh]
 exact wpAny_bind (wpAny_pure (wpAny_throw (q _ _ ((keep.push _).push _) ⟨_,Heap.get?_push_size _ rfl,rfl⟩)))
theorem nx_tup_end{I a:Addr}{k:Nat}{ys:Array Value}{R:Value->Shared->Prop}(hh:A.handled=none)(st:s.heap.IsTupleIter I a k)(tp:s.heap.IsTuple a ys)(hv:ys[k]?=none)
  (q:∀g e,Heap.ExtBut I s.heap g->(∃o,g.get? e=some o/\o.cls=.type "StopIteration")->E (.ref e) {s with heap:=g}):wpAny (model prog w) A (Builtin.SmallTypes.nextOf (.ref I)) R E s:=by
 obtain⟨u,hu,uc,ud⟩:=id st
 obtain⟨z,hz,_,nz,zd⟩:=tp
 unfold Builtin.SmallTypes.nextOf
 refine wpAny_bind (wpAny_callSpecial?_slot (name:=Str.ofString "__next__") st.typeIs F.slot_tuple_iterator_next (wpAny_call_entry F.slot_tuple_iterator_next st.typeIs F.entry_tuple_iterator_next ?_ (F.args_tuple_iterator_next_1 _)))
 refine(wpAny_bind (wpAny_field hu ud (x:=.ref a) rfl ?_):wpAny _ _ (field (.ref I) 0 >>= _) _ _ s)
 refine(?_:wpAny _ _ (if (Value.ref a==Value.none)=true then _ else _) _ _ s)
 rw[if_neg (show ¬(Value.ref a==Value.none)=true from Bool.false_ne_true)]
 refine(wpAny_bind (wpAny_field hu ud (x:=.int k 0) rfl ?_):wpAny _ _ (field (.ref I) 1 >>= _) _ _ s)
 refine(wpAny_bind (wpAny_seqItems hz zd ?_):wpAny _ _ (seqItems? (.ref a) >>= _) _ _ s)
 simp only[Int.toNat_natCast,hv]
 refine wpAny_bind (wpAny_rule (wpAny_bind (wpAny_setField hu ud (by simp) ?_)))
 exact stop_raised (A:=A.in1) hh (Heap.SameBut.update ..).extBut q fun _=>rfl
theorem nx_asc_end{I:Addr}{z:Str}{t:Tok}{k:Nat}{R:Value->Shared->Prop}(hh:A.handled=none)(st:s.heap.IsStrIter I "str_ascii_iterator" z t k)(hv:z.cps[k]?=none)
  (q:∀g e,Heap.ExtBut I s.heap g->(∃o,g.get? e=some o/\o.cls=.type "StopIteration")->E (.ref e) {s with heap:=g}):wpAny (model prog w) A (Builtin.SmallTypes.nextOf (.ref I)) R E s:=by
 obtain⟨u,hu,uc,ud⟩:=id st
 unfold Builtin.SmallTypes.nextOf
 refine wpAny_bind (wpAny_callSpecial?_slot (name:=Str.ofString "__next__") st.typeIs F.slot_str_ascii_iterator_next (wpAny_call_entry F.slot_str_ascii_iterator_next st.typeIs F.entry_str_ascii_iterator_next ?_ (F.args_str_ascii_iterator_next_1 _)))
 refine(wpAny_bind (wpAny_field hu ud (x:=.str z t) rfl ?_):wpAny _ _ (field (.ref I) 0 >>= _) _ _ s)
 refine(wpAny_bind (wpAny_field hu ud (x:=.int k 0) rfl ?_):wpAny _ _ (field (.ref I) 1 >>= _) _ _ s)
 simp only[Int.toNat_natCast,hv]
 refine wpAny_bind (wpAny_rule (wpAny_bind (wpAny_setField hu ud (by simp) (wpAny_bind (wpAny_letGo ?_)))))
 exact stop_raised (A:=A.in1) hh (Heap.SameBut.update ..).extBut q fun _=>rfl
theorem enum_item{e I:Addr}{i:Nat}{old:Value}{Y:Value->Prop}{N:Heap->Prop}{Q:Option Value->Shared->Prop}(he:IsEnum s.heap e I i old)(hne:e≠I)
  (hN:∀g g',N g->(∀o,g.get? I=some o->g'.get? I=some o)->N g')
  (hnx:∀(A':Around) (R:Value->Shared->Prop) (E':Value->Shared->Prop),(∀x g tk,Y x->N g->Heap.SameBut I s.heap g->R x {s with heap:=g,toks:=tk})->wpAny (model prog w) A' (Builtin.SmallTypes.nextOf (.ref I)) R E' s)
  (hQ:∀x g tk tk2,Y x->IsEnumOut g e I ((i:Int)+1) x s.heap.objs.size->N g->g.get? s.heap.objs.size=some {cls:=.type "tuple",data:=.seq #[.int i tk2,x]}->(∀b o,b≠e->b≠I->s.heap.get? b=some o->g.get? b=some o)->Q (some (.ref s.heap.objs.size)) {s with heap:=g,toks:=tk}) :
  wpAny (model prog w) A (pyNext (.ref e)) Q E s:=by
 obtain⟨h0,ga,dr,t0,os⟩:=s
 have ty:Shared.TypeIs ⟨h0,ga,dr,t0,os⟩ (.ref e) "enumerate":=⟨_,he,rfl⟩
 replace he:IsEnum h0 e I i old:=he
 have hel:e<h0.objs.size:=Heap.lt_size he
 unfold pyNext
 refine wpAny_bind (wpAny_attempt (wpAny_callSpecial?_slot (name:=Str.ofString "__next__") ty F.slot_enumerate_next (wpAny_call_entry F.slot_enumerate_next ty F.entry_enumerate_next ?_ (F.args_enumerate_next_1 _))))
 show wpAny _ _ (field (.ref e) 2 >>= _) _ _ ⟨h0,ga,dr,t0,os⟩
 refine wpAny_bind (wpAny_field he rfl (x:=.ref I) rfl (wpAny_bind (hnx _ _ _ fun x g1 tk yx n1 sb1=>?_)))
 replace sb1:Heap.SameBut I h0 g1:=sb1
 have e1:IsEnum g1 e I i old:=(sb1.2 e hne).trans he
 have z1:g1.objs.size=h0.objs.size:=sb1.1
 have k1:∀b o,b≠e->b≠I->h0.get? b=some o->g1.get? b=some o:=fun b o _ hb h=>(sb1.2 b hb).trans h
 clear sb1
 show wpAny _ _ (field (.ref e) 3 >>= _) _ _ ⟨g1,ga,dr,tk,os⟩
 refine wpAny_bind (wpAny_field e1 rfl (x:=rawInt i) rfl ?_)
 show wpAny _ _ (field (.ref e) 4 >>= _) _ _ ⟨g1,ga,dr,tk,os⟩
 refine wpAny_bind (wpAny_field e1 rfl (x:=.none) rfl ?_)
 show wpAny _ _ (mkInt i >>= _) _ _ ⟨g1,ga,dr,tk,os⟩
 refine wpAny_bind (wpAny_mkInt ?_)
 show wpAny _ _ (setField (.ref e) 3 (rawInt ((i:Int)+1)) >>= _) _ _ ⟨g1,ga,dr,tk+1,os⟩
 refine wpAny_bind (wpAny_setField_rec e1 (by simp) fun g2 e2 sb2=>?_)
 replace sb2:Heap.SameBut e g1 g2:=sb2
 replace e2:IsEnum g2 e I ((i:Int)+1) old:=e2
 have z2:g2.objs.size=h0.objs.size:=sb2.1.trans z1
 have n2:N g2:=hN _ _ n1 fun o h=>(sb2.2 I (Ne.symm hne)).trans h
 have k2:∀b o,b≠e->b≠I->h0.get? b=some o->g2.get? b=some o:=fun b o hb hI h=>(sb2.2 b hb).trans (k1 b o hb hI h)
 clear sb2 n1 k1 e1 z1
 show wpAny _ _ (setField (.ref e) 4 .none >>= _) _ _ ⟨g2,ga,dr,tk+1,os⟩
 refine wpAny_bind (wpAny_setField_rec e2 (by simp) fun g3 e3 sb3=>?_)
 replace sb3:Heap.SameBut e g2 g3:=sb3
 replace e3:IsEnum g3 e I ((i:Int)+1) old:=e3
 have z3:g3.objs.size=h0.objs.size:=sb3.1.trans z2
 have n3:N g3:=hN _ _ n2 fun o h=>(sb3.2 I (Ne.symm hne)).trans h
 have k3:∀b o,b≠e->b≠I->h0.get? b=some o->g3.get? b=some o:=fun b o hb hI h=>(sb3.2 b hb).trans (k2 b o hb hI h)
 clear sb3 n2 k2 e2 z2
 show wpAny _ _ (newTuple [.int i tk,x] >>= _) _ _ ⟨g3,ga,dr,tk+1,os⟩
 refine wpAny_bind (wpAny_newTuple ?_)
 have e4:IsEnum (g3.push {cls:=.type "tuple",data:=.seq #[.int i tk,x]}) e I ((i:Int)+1) old:=Heap.get?_push_of_some _ e3
 have n4:N (g3.push {cls:=.type "tuple",data:=.seq #[.int i tk,x]}):=hN _ _ n3 fun o h=>Heap.get?_push_of_some _ h
 have k4:∀b o,b≠e->b≠I->h0.get? b=some o->(g3.push {cls:=.type "tuple",data:=.seq #[.int i tk,x]}).get? b=some o:=fun b o hb hI h=>Heap.get?_push_of_some _ (k3 b o hb hI h)
 have t4:(g3.push {cls:=.type "tuple",data:=.seq #[.int i tk,x]}).get? h0.objs.size=some {cls:=.type "tuple",data:=.seq #[.int i tk,x]}:=by
  have h:=Heap.get?_push_size g3 (o:={cls:=.type "tuple",data:=.seq #[.int i tk,x]}) rfl
  rw[z3]at h;exact h
 generalize hg4:g3.push {cls:=.type "tuple",data:=.seq #[.int i tk,x]}=g4 at *
 show wpAny _ _ (Builtin.SmallTypes.ownedTupleIsFree (.ref e) >>= _) _ _ ⟨g4,ga,dr,tk+1,os⟩
 rw[z3]
 clear hg4 n3 k3 e3 z3 g3
 refine wpAny_bind ?_
 unfold Builtin.SmallTypes.ownedTupleIsFree
 refine wpAny_bind (wpAny_field e4 rfl (x:=.none) rfl (wpAny_pure ?_))
 simp only[if_true]
 refine wpAny_bind (wpAny_rule (wpAny_bind (wpAny_field e4 rfl (x:=old) rfl (wpAny_bind (wpAny_setField_rec e4 (by simp) fun g5 e5 sb5=>?_)))))
 replace sb5:Heap.SameBut e g4 g5:=sb5
 replace e5:IsEnum g5 e I ((i:Int)+1) x:=e5
 show wpAny _ _ (Builtin.SmallTypes.ownedTupleHandOut (.ref e) (.ref h0.objs.size) >>= _) _ _ ⟨g5,ga,dr,tk+1,os⟩
 refine wpAny_bind ?_
 unfold Builtin.SmallTypes.ownedTupleHandOut
 refine wpAny_bind (wpAny_setField_rec e5 (by simp) fun g6 e6 sb6=>?_)
 replace sb6:Heap.SameBut e g5 g6:=sb6
 replace e6:IsEnumOut g6 e I ((i:Int)+1) x h0.objs.size:=e6
 refine wpAny_setField_rec e6 (by simp) fun g7 e7 sb7=>?_
 replace sb7:Heap.SameBut e g6 g7:=sb7
 replace e7:IsEnumOut g7 e I ((i:Int)+1) x h0.objs.size:=e7
 have all:∀b o,b≠e->g4.get? b=some o->g7.get? b=some o:=fun b o hb h=>(sb7.2 b hb).trans ((sb6.2 b hb).trans ((sb5.2 b hb).trans h))
 exact wpAny_bind (wpAny_letGo (wpAny_pure ⟨_,rfl,wpAny_pure (hQ x g7 _ tk yx e7 (hN _ _ n4 fun o h=>all I o (Ne.symm hne) h) (all _ _ (Nat.ne_of_gt hel) t4) fun b o hb hI h=>all b o hb (k4 b o hb hI h))⟩))
theorem enum_end{e I:Addr}{i:Int}{old:Value}{Q:Option Value->Shared->Prop}(he:IsEnum s.heap e I i old)
  (hnx:∀(R:Value->Shared->Prop) (E':Value->Shared->Prop),(∀g x,Heap.ExtBut I s.heap g->(∃o,g.get? x=some o/\o.cls=.type "StopIteration")->E' (.ref x) {s with heap:=g})->wpAny (model prog w) A.in1 (Builtin.SmallTypes.nextOf (.ref I)) R E' s)
  (hQ:∀g,Heap.ExtBut I s.heap g->Q none {s with heap:=g}):wpAny (model prog w) A (pyNext (.ref e)) Q E s:=by
 have ty:s.TypeIs (.ref e) "enumerate":=⟨_,he,rfl⟩
 unfold pyNext
 refine wpAny_bind (wpAny_attempt (wpAny_callSpecial?_slot (name:=Str.ofString "__next__") ty F.slot_enumerate_next (wpAny_call_entry F.slot_enumerate_next ty F.entry_enumerate_next ?_ (F.args_enumerate_next_1 _))))
 show wpAny _ _ (field (.ref e) 2 >>= _) _ _ s
 refine wpAny_bind (wpAny_field he rfl (x:=.ref I) rfl (wpAny_bind (hnx _ _ fun g x kp ⟨o,ho,hc⟩=>?_)))
 exact wpAny_bind (wpAny_isInstance (T:="StopIteration") (b:=true) ⟨o,ho,hc⟩ isSubtype_stop (wpAny_pure (hQ _ kp)))
end
theorem new_enumT(a:Addr)(ys:Array Value)(n:Nat)(dct:Option Addr)(sl:Array (Option Value)) :
  Meets (Builtin.«enumerate.__new__» ⟨[.type "enumerate",.ref a],[]⟩) (fun _ R s=>s.heap.get? a=some {cls:=.type "tuple",dict:=dct,data:=.seq ys n,slots:=sl}/\
   R (.ok (.ret (.ref (s.heap.push {cls:=.type "tuple_iterator",data:=.fields #[.ref a,.int 0 0]}).objs.size)))
    {s with heap:=(s.heap.push {cls:=.type "tuple_iterator",data:=.fields #[.ref a,.int 0 0]}).push {cls:=.type "enumerate",data:=.fields #[.none,.bool false,.ref s.heap.objs.size,rawInt 0,.none,.none]}}):=
 .of_wp fun prog w A R s h=>by
  obtain⟨h0,ga,dr,tk,os⟩:=s;obtain⟨ha,h⟩:=h
  have hsub:=sub_enumerate
  have hT:Heap.IsTuple (Shared.heap ⟨h0,ga,dr,tk,os⟩) a ys:=(x_EAAE _ ha rfl n rfl)
  wp_walk using AutoSeq1.wpAny_loadPart' ha
  refine wpAny_stack_any fun st=>wpAny_pure ?_
  split
  .rename_i c _ _ _ _ _
   cases (c==Value.type "enumerate")
   .wp_walk using AutoSeq1.wpAny_loadPart' ha,wpAny_pyIter_tuple hT
    exact⟨_,rfl,h⟩
   .wp_walk using AutoSeq1.wpAny_loadPart' ha,wpAny_pyIter_tuple hT
    exact⟨_,rfl,h⟩
  .wp_walk using AutoSeq1.wpAny_loadPart' ha,wpAny_pyIter_tuple hT
   exact⟨_,rfl,h⟩
section
variable{prog:Program}{w:World}{A:Around}{E:Value->Shared->Prop}{s:Shared}
theorem call_enumT{a:Addr}{ys:Array Value}{Q:Value->Shared->Prop}(hT:s.heap.IsTuple a ys)
  (h:∀g,IsEnum g (s.heap.objs.size+1) s.heap.objs.size 0 .none->g.IsTupleIter s.heap.objs.size a 0->(∀b o,s.heap.get? b=some o->g.get? b=some o)->Q (.ref (s.heap.objs.size+1)) {s with heap:=g}) :
  wpAny (model prog w) A (call (.type "enumerate") [.ref a]) Q E s:=by
 obtain⟨⟨c,dct,dt,sl⟩,ha,hc,n,hd⟩:=hT
 replace hc:c=.type "tuple":=hc
 replace hd:dt=.seq ys n:=hd
 subst hc hd
 refine callType_new F.called_enumerate (by decide) (F.typeCall_enumerate_1 _) (F.newCall_enumerate_1 _) (fun obj=>F.args_object_init_2 obj _) F.entry_enumerate_new (new_enumT a ys n dct sl) ⟨ha,?_⟩
 have hz:(s.heap.push {cls:=.type "tuple_iterator",data:=.fields #[.ref a,.int 0 0]}).objs.size=s.heap.objs.size+1:=Heap.size_push ..
 refine(?_:_/\_)
 rw[hz]
 have he:IsEnum ((s.heap.push {cls:=.type "tuple_iterator",data:=.fields #[.ref a,.int 0 0]}).push {cls:=.type "enumerate",data:=.fields #[.none,.bool false,.ref s.heap.objs.size,rawInt 0,.none,.none]}) (s.heap.objs.size+1) s.heap.objs.size 0 .none:=by
  have h:=Heap.get?_push_size (s.heap.push {cls:=.type "tuple_iterator",data:=.fields #[.ref a,.int 0 0]}) (o:={cls:=.type "enumerate",data:=.fields #[.none,.bool false,.ref s.heap.objs.size,rawInt 0,.none,.none]}) rfl
  rw[hz]at h;exact h
 exact⟨⟨_,he,rfl⟩,h _ he ⟨_,Heap.get?_push_of_some _ (Heap.get?_push_size _ rfl),rfl,rfl⟩ fun b o x=>Heap.get?_push_of_some _ (Heap.get?_push_of_some _ x)⟩
end
section
variable{X:Cx}{pins:List (Addr×Obj)}{σ:L2.St}{H:Hp}{s:Shared}{h':Heap}
theorem turned2{t':Nat}{e it:Addr}(I:Inv X pins σ H s)(k:∀b o,b≠e->b≠it->s.heap.get? b=some o->h'.get? b=some o)(fe:FpOk X pins H e)(fi:FpOk X pins H it):Inv X pins σ H {s with heap:=h',toks:=t'}:=by
 obtain⟨e0,e1,e2,e3,e4,e5⟩:=fe
 obtain⟨i0,i1,i2,i3,i4,i5⟩:=fi
 have nn:∀b u,H b=some u->b≠e/\b≠it:=fun b u q=>⟨fun z=>(by rw[z,e0]at q;cases q),fun z=>(by rw[z,i0]at q;cases q)⟩
 have sp:∀b,b∉[e,it]->b≠e/\b≠it:=fun b hb=>by simpa using hb
 refine I.step (g':=s.gens) (d':=s.drawn) (ch:=[e,it]) (fun b hb=>?_) (fun b o _ _ hc q _=>k b o (sp b hc).1 (sp b hc).2 q) (fun b o _ _ hc q _=>⟨o.slots,k b o (sp b hc).1 (sp b hc).2 q⟩) (fun _ _ _ _ n=>n)
  (fun b o hc q=>⟨o,k b o (sp b hc).1 (sp b hc).2 q⟩) (fun _ _ q=>q) (fun _ _ _ q=>q) (fun b ps q=>⟨#[],by rw[q];simp⟩) (fun m hm=>?_) (fun b u q=>?_) I.bare
 .rcases List.mem_cons.mp hb with z|z
  .subst z;exact⟨e3,e1,e4,e5⟩
  .rw[List.mem_singleton.mp z];exact⟨i3,i1,i4,i5⟩
 .obtain⟨o,es,ep,ho,r⟩:=hm
  exact(x_EEE o es ep ⟨k _ o (Ne.symm e1) (Ne.symm i1) ho,r⟩)
 .refine(I.hok b u q).stay (fun c v hc r=>k c v ?_ ?_ r) (fun _ r=>r) fun _ _ r=>r
  .rcases hc with z|z
   .rw[z];exact(nn b u q).1
   .exact(nn c _ z).1
  .rcases hc with z|z
   .rw[z];exact(nn b u q).2
   .exact(nn c _ z).2
end
theorem turn_enum{P:Program}{w:World}{K:PySem.W.Frag}{elts:List Expr}{x1}{pos:Pos}(J:It)(e I:Addr)(hne:e≠I)(M:Nat->Heap->Prop)
  (hobj:∀i h,M i h->∃o,h.get? I=some o/\∀v,o.data≠.cell v) (hkeep:∀i h h',M i h->(∀o,h.get? I=some o->h'.get? I=some o)->M i h')
  (hitem:∀(X:Cx),X.prog=P->X.w=w->X.K=K->∀(i:Nat) pins (s:Shared) σ H,Inv X pins σ H s->M i s.heap->J.go i H->∃Y:Value->Prop,
   (∀u,Y u->∃x,RelV x u/\J.yld i H (.ref s.heap.objs.size) (upd H s.heap.objs.size (.tup [.int i,x])))/\
   ∀(A':Around) (R:Value->Shared->Prop) (E':Value->Shared->Prop),(∀u g tk,Y u->M (i+1) g->Heap.SameBut I s.heap g->R u {s with heap:=g,toks:=tk})->wpAny (model P w) A' (Builtin.SmallTypes.nextOf (.ref I)) R E' s)
  (hdone:∀(X:Cx),X.prog=P->X.w=w->X.K=K->∀(i:Nat) pins (s:Shared) σ H,Inv X pins σ H s->M i s.heap->J.stop i H->
   ∀(A':Around) (R:Value->Shared->Prop) (E':Value->Shared->Prop),A'.handled=none->(∀g u,Heap.ExtBut I s.heap g->(∃o,g.get? u=some o/\o.cls=.type "StopIteration")->E' (.ref u) {s with heap:=g})->wpAny (model P w) A' (Builtin.SmallTypes.nextOf (.ref I)) R E' s) :
  Turn P w K (.Tuple elts x1 pos) J [e,I] e (fun i h=>(∃old,IsEnum h e I i old)/\M i h)where
 mem:=by simp
 obj:=fun i h st b hb=>by
  obtain⟨⟨old,he⟩,m⟩:=st
  rcases List.mem_cons.mp hb with z|z
  .subst z
   exact⟨_,he,fun v z=>by cases z⟩
  .rw[List.mem_singleton.mp z]
   exact hobj i h m
 keep:=fun i h h' st k=>by
  obtain⟨⟨old,he⟩,m⟩:=st
  exact⟨⟨old,k e (by simp) _ he⟩,hkeep i h h' m fun o q=>k I (by simp) o q⟩
 item:=by
  intro X hP hw hK hc i pins s σ H E Iv hf st hg
  obtain⟨⟨old,he⟩,m⟩:=st
  obtain⟨Y,hY,hnx⟩:=hitem X hP hw hK i pins s σ H Iv m hg
  subst hP hw hK
  have fe:=hf e (by simp)
  have fi:=hf I (by simp)
  have hel:e<s.heap.objs.size:=Heap.lt_size he
  obtain⟨oi,hoi,_⟩:=hobj i _ m
  have hil:I<s.heap.objs.size:=Heap.lt_size hoi
  refine enum_item he hne (N:=M (i+1)) (fun g g' n k=>hkeep _ _ _ n k) hnx (fun u g tk tk2 yu eo n t4 k=>⟨_,rfl,?_⟩)
  refine wpAny_letOwnedTupleGo_enum (s:={s with heap:=g,toks:=tk}) eo fun g' e' sb=>?_
  obtain⟨v,rv,yl⟩:=hY u yu
  have I1:Inv X pins σ (upd H s.heap.objs.size (.tup [.int i,v])) {s with heap:=s.heap.push {cls:=.type "tuple",data:=.seq #[.int i tk2,u]},toks:=tk}:=
   Iv.laid (t':=tk) (fun b o q=>Heap.get?_push_of_some _ q) (Nat.le_refl _) ⟨by show 2<=sizeLine;decide,[.int i tk2,u],.cons ⟨tk2,rfl⟩ (.cons rv .nil),(x_EAAE _ (Heap.get?_push_size _ rfl) rfl _ rfl)⟩
  have up:∀b,b<s.heap.objs.size->FpOk X pins H b->FpOk X pins (upd H s.heap.objs.size (.tup [.int i,v])) b:=fun b hb q=>⟨by rw[upd_ne (Nat.ne_of_lt hb)];exact q.1,q.2⟩
  have I2:Inv X pins σ (upd H s.heap.objs.size (.tup [.int i,v])) {s with heap:=g,toks:=tk}:=turned2 (s:={s with heap:=s.heap.push {cls:=.type "tuple",data:=.seq #[.int i tk2,u]},toks:=tk}) (t':=tk) I1 (fun b o h1 h2 q=>by
   rcases Heap.get?_push_cases q with ⟨z1,z2⟩|z
   .rw[z1,z2];exact t4
   .exact k b o h1 h2 z) (up e hel fe) (up I hil fi)
  have fe2:=up e hel fe
  have I3:Inv X pins σ (upd H s.heap.objs.size (.tup [.int i,v])) {s with heap:=g',toks:=tk}:=Inv.turned (s:={s with heap:=g,toks:=tk}) (t':=tk) I2 (fun b o hb q=>(sb.2 b hb).trans q) fe2.1 fe2.2.1 fe2.2.2.2.1 fe2.2.2.2.2.1 fe2.2.2.2.2.2
  refine(x_EE (.ref s.heap.objs.size) _ ⟨I3,rfl,yl,⟨⟨u,e'⟩,hkeep _ _ _ n fun o q=>(sb.2 I (Ne.symm hne)).trans q⟩,fun b hb=>?_⟩)
  rcases List.mem_cons.mp hb with z|z
  .subst z;exact fe2.1
  .rw[List.mem_singleton.mp z];exact(up I hil fi).1
 done:=by
  intro X hP hw hK hc i pins s σ H E Iv hf st hg
  obtain⟨⟨old,he⟩,m⟩:=st
  have hd:=hdone X hP hw hK i pins s σ H Iv m hg
  subst hP hw hK
  have fi:=hf I (by simp)
  exact enum_end he (fun R E' q=>hd _ R E' (Iv.ok.hd hc) q) fun g kp=>⟨rfl,Iv.turned (t':=s.toks) (fun b o hb q=>kp b o hb q) fi.1 fi.2.1 fi.2.2.2.1 fi.2.2.2.2.1 fi.2.2.2.2.2⟩
 self:=fun _ _ _ _ _ st h=>by
  obtain⟨⟨old,he⟩,_⟩:=st
  exact wpAny_pyIter_enum he h
noncomputable def Jet(K:PySem.W.Frag)(a:Addr):It:=
 ⟨fun i H=>∃xs x,SqT K H a xs/\xs[i]?=some x,fun i H v H'=>∃p x,H p=none/\v=.ref p/\H'=upd H p (.tup [.int i,x])/\∀xs,SqT K H a xs->xs[i]?=some x,fun i H=>∃xs,SqT K H a xs/\xs.length<=i⟩
noncomputable def Jes(z:Str):It:=
 ⟨fun i _=>i<z.cps.toList.length,fun i H v H'=>∃p c,H p=none/\v=.ref p/\H'=upd H p (.tup [.int i,.str ⟨#[c]⟩])/\z.cps.toList[i]?=some c,fun i _=>z.cps.toList.length<=i⟩
theorem turn_enumT{P:Program}{w:World}{K:PySem.W.Frag}{elts:List Expr}{x1}{pos:Pos}(a e I:Addr)(hne:e≠I) :
  Turn P w K (.Tuple elts x1 pos) (Jet K a) [e,I] e (fun i h=>(∃old,IsEnum h e I i old)/\h.IsTupleIter I a i):=by
 refine turn_enum (Jet K a) e I hne (fun i h=>h.IsTupleIter I a i) (fun i h st=>?_) (fun i h h' st k=>st.at k) (fun X hP hw hK i pins s σ H Iv st hg=>?_) (fun X hP hw hK i pins s σ H Iv st hg A' R E' hh q=>?_)
 .obtain⟨o,ho,c,d⟩:=st
  exact⟨o,ho,fun v z=>by rw[d]at z;cases z⟩
 .subst hP hw hK
  obtain⟨xs,x,hq,hx⟩:=hg
  obtain⟨its,rv,p,hz⟩:=Iv.tuple hq
  obtain⟨u,hu,ru⟩:=rv.get hx
  refine⟨fun u'=>u'=u,fun u' hu'=>?_,fun A' R E' q=>?_⟩
  .subst hu'
   exact(x_EAEE x ru s.heap.objs.size x ⟨Iv.hok.fresh (Nat.le_refl _),rfl,rfl,fun ys hy=>by rw[Iv.tuple_inj hy hq];exact hx⟩)
  .exact nx_tup st (show s.heap.IsTuple a its.toArray from p) (v:=u) (by simpa using hu) fun g st' sb=>q u g s.toks rfl st' sb
 .subst hP hw hK
  obtain⟨xs,hq,hx⟩:=hg
  obtain⟨its,rv,p,hz⟩:=Iv.tuple hq
  have hl:=rv.length
  exact nx_tup_end hh st (show s.heap.IsTuple a its.toArray from p) (by simp;omega) q
theorem turn_enumS{P:Program}{w:World}{K:PySem.W.Frag}{elts:List Expr}{x1}{pos:Pos}(z:Str)(t:Tok)(e I:Addr)(hne:e≠I) :
  Turn P w K (.Tuple elts x1 pos) (Jes z) [e,I] e (fun i h=>(∃old,IsEnum h e I i old)/\h.IsStrIter I "str_ascii_iterator" z t i):=by
 refine turn_enum (Jes z) e I hne (fun i h=>h.IsStrIter I "str_ascii_iterator" z t i) (fun i h st=>?_) (fun i h h' st k=>?_) (fun X hP hw hK i pins s σ H Iv st hg=>?_) (fun X hP hw hK i pins s σ H Iv st hg A' R E' hh q=>?_)
 .obtain⟨o,ho,c,d⟩:=st
  exact⟨o,ho,fun v z=>by rw[d]at z;cases z⟩
 .obtain⟨o,ho,r⟩:=st
  exact⟨o,k o ho,r⟩
 .subst hP hw hK
  have hi:i<z.cps.size:=by simpa [Jes]using hg
  refine⟨fun u=>∃tk,u=.str ⟨#[z.cps[i]]⟩ tk,fun u hu=>?_,fun A' R E' q=>?_⟩
  .obtain⟨tk,rfl⟩:=hu
   exact(x_EAEE (.str ⟨#[z.cps[i]]⟩) ⟨tk,rfl⟩ s.heap.objs.size (z.cps[i]) ⟨Iv.hok.fresh (Nat.le_refl _),rfl,rfl,by simp[hi]⟩)
  .exact nx_asc st (c:=z.cps[i]) (by simp[hi]) fun g st' sb=>q _ g _ ⟨_,rfl⟩ st' sb
 .subst hP hw hK
  have hi:z.cps.size<=i:=by simpa [Jes]using hg
  exact nx_asc_end hh st (by simp;omega) q
section
variable{X:Cx}{elts:List Expr}{x1:Nat}{tpos p pos:Pos}{a:Expr}{ta:TA}
noncomputable def iEnT(K:PySem.W.Frag)(ta:TA):TI:=fun σ H R=>ta σ H fun vs H1=>∃a,vs=[.ref a]/\(∃xs,SqT K H1 a xs)/\R (Jet K a) H1
noncomputable def iEnS(ta:TA):TI:=fun σ H R=>ta σ H fun vs H1=>∃z:Str,vs=[.str z]/\(∀c∈z.cps.toList,c<128)/\R (Jes z) H1
theorem pi_enT(hg:Gl X "enumerate")(hm:X.mg "enumerate" = none)(ha:PA X [a] ta)(hs:notStar a=true:=by rfl):PI X (.Tuple elts x1 tpos) (.Call (.Name "enumerate" p) [a] [] pos) (iEnT X.K ta):=by
 intro pins s σ H R I h
 refine Call_ (ld_blt I hg hm boot_enumerate (PyProof.Rows.callWith_type1 (thn (ha pos pins s σ H _ I h) fun us s1 ⟨vs,H1,I1,r1,q1⟩=>?_) (star_cons hs) rfl))
 obtain⟨b,e,⟨xs,hq⟩,q⟩:=q1
 subst e
 obtain⟨u,rfl,ru⟩:=vals1 r1
 cases (show u=Value.ref b from ru)
 obtain⟨its,rv,pl,hz⟩:=I1.tuple hq
 refine call_enumT (show s1.heap.IsTuple b its.toArray from pl) fun g he hi kp=>wpAny_pyIter_enum (s:={s1 with heap:=g}) he ?_
 refine(x_EEEEE (s1.heap.objs.size+1) ([s1.heap.objs.size+1,s1.heap.objs.size]) _ _ H1 ⟨rfl,I1.kept (t':=s1.toks) kp,turn_enumT b (s1.heap.objs.size+1) s1.heap.objs.size (Nat.succ_ne_self _),⟨⟨_,he⟩,hi⟩,fun c hc=>?_,q⟩)
 rcases List.mem_cons.mp hc with z|z
 .subst z;exact I1.fpOk (by omega) (I1.hok.fresh (by omega))
 .rw[List.mem_singleton.mp z];exact I1.fpOk (Nat.le_refl _) (I1.hok.fresh (Nat.le_refl _))
theorem pi_enS(hg:Gl X "enumerate")(hm:X.mg "enumerate" = none)(ha:PA X [a] ta)(hs:notStar a=true:=by rfl):PI X (.Tuple elts x1 tpos) (.Call (.Name "enumerate" p) [a] [] pos) (iEnS ta):=by
 intro pins s σ H R I h
 refine Call_ (ld_blt I hg hm boot_enumerate (PyProof.Rows.callWith_type1 (thn (ha pos pins s σ H _ I h) fun us s1 ⟨vs,H1,I1,r1,q1⟩=>?_) (star_cons hs) rfl))
 obtain⟨z,e,hz,q⟩:=q1
 subst e
 obtain⟨u,rfl,t,rfl⟩:=vals1 r1
 have asc:strIterType z="str_ascii_iterator":=by
  unfold strIterType
  rw[if_pos]
  rw[Array.all_eq_true']
  intro c hc
  simpa using hz c (by simpa using hc)
 refine call_enumerate_str fun g he hi _ kp=>wpAny_pyIter_enum (s:={s1 with heap:=g}) he ?_
 rw[asc]at hi
 refine(x_EEEEE (s1.heap.objs.size+1) ([s1.heap.objs.size+1,s1.heap.objs.size]) _ _ H1 ⟨rfl,I1.kept (t':=s1.toks) kp,turn_enumS z t (s1.heap.objs.size+1) s1.heap.objs.size (Nat.succ_ne_self _),⟨⟨_,he⟩,hi⟩,fun c hc=>?_,q⟩)
 rcases List.mem_cons.mp hc with z|z
 .subst z;exact I1.fpOk (by omega) (I1.hok.fresh (by omega))
 .rw[List.mem_singleton.mp z];exact I1.fpOk (Nat.le_refl _) (I1.hok.fresh (Nat.le_refl _))
end
theorem for_any(J:It)(n:Nat){g:TG}{tb:TS}{D:Ends}{σ:L2.St}{H:Hp}(Pv:Nat->L2.St->Hp->Prop)(h0:Pv 0 σ H)(hgo:∀i σ H,i<n->Pv i σ H->J.go i H)(hst:∀σ H,Pv n σ H->J.stop n H)
  (hs:∀i v σ H H',i<n->Pv i σ H->J.yld i H v H'->g v σ H' fun σ2 H2=>tb {D with nx:=Pv (i+1),ct:=Pv (i+1),bk:=D.nx} σ2 H2) (hd:∀σ H,Pv n σ H->D.nx σ H) :
  ∃W:Nat->Nat->L2.St->Hp->Prop,(∃m,W 0 m σ H)/\∀i m σ H,W i m σ H->
   (J.stop i H/\D.nx σ H)\/(J.go i H/\∃N:L2.St->Hp->Prop,(∀σ' H',N σ' H'->∃m',m'<m/\W (i+1) m' σ' H')/\∀v H',J.yld i H v H'->g v σ H' fun σ2 H2=>tb {D with nx:=N,ct:=N,bk:=D.nx} σ2 H2):=by
 refine⟨fun i m σ H=>m=n-i/\i<=n/\Pv i σ H,⟨n,by simp,Nat.zero_le _,h0⟩,?_⟩
 rintro i m σ H ⟨rfl,hi,p⟩
 by_cases hlt:i<n
 .exact .inr ⟨hgo i σ H hlt p,Pv (i+1),fun σ' H' p'=>⟨n-(i+1),by omega,rfl,hlt,p'⟩,fun v H' y=>hs i v σ H H' hlt p y⟩
 .have e:i=n:=by omega
  subst e
  exact .inl ⟨hst σ H p,hd σ H p⟩
theorem for_enT{K:PySem.W.Frag}{a:Addr}{xs:List V}{g:TG}{tb:TS}{D:Ends}{σ:L2.St}{H:Hp}(Pv:Nat->L2.St->Hp->Prop)(h0:Pv 0 σ H)(hl:∀i σ H,Pv i σ H->SqT K H a xs)
  (hs:∀i x p σ H,xs[i]?=some x->H p=none->Pv i σ H->g (.ref p) σ (upd H p (.tup [.int (i:Nat),x])) fun σ2 H2=>tb {D with nx:=Pv (i+1),ct:=Pv (i+1),bk:=D.nx} σ2 H2) (hd:∀σ H,Pv xs.length σ H->D.nx σ H) :
  ∃W:Nat->Nat->L2.St->Hp->Prop,(∃m,W 0 m σ H)/\∀i m σ H,W i m σ H->
   ((Jet K a).stop i H/\D.nx σ H)\/((Jet K a).go i H/\∃N:L2.St->Hp->Prop,(∀σ' H',N σ' H'->∃m',m'<m/\W (i+1) m' σ' H')/\∀v H',(Jet K a).yld i H v H'->g v σ H' fun σ2 H2=>tb {D with nx:=N,ct:=N,bk:=D.nx} σ2 H2):=by
 refine for_any (Jet K a) xs.length Pv h0 (fun i σ H hi p=>(x_EE xs (xs[i]) ⟨hl i σ H p,by simp[hi]⟩)) (fun σ H p=>⟨xs,hl _ σ H p,Nat.le_refl _⟩) (fun i v σ H H' hi p y=>?_) hd
 obtain⟨b,x,hb,rfl,rfl,hx⟩:=y
 exact hs i x b σ H (hx xs (hl i σ H p)) hb p
theorem for_enS{z:Str}{g:TG}{tb:TS}{D:Ends}{σ:L2.St}{H:Hp}(Pv:Nat->L2.St->Hp->Prop)(h0:Pv 0 σ H)
  (hs:∀i c p σ H,z.cps.toList[i]?=some c->H p=none->Pv i σ H->g (.ref p) σ (upd H p (.tup [.int (i:Nat),.str ⟨#[c]⟩])) fun σ2 H2=>tb {D with nx:=Pv (i+1),ct:=Pv (i+1),bk:=D.nx} σ2 H2) (hd:∀σ H,Pv z.cps.toList.length σ H->D.nx σ H) :
  ∃W:Nat->Nat->L2.St->Hp->Prop,(∃m,W 0 m σ H)/\∀i m σ H,W i m σ H->
   ((Jes z).stop i H/\D.nx σ H)\/((Jes z).go i H/\∃N:L2.St->Hp->Prop,(∀σ' H',N σ' H'->∃m',m'<m/\W (i+1) m' σ' H')/\∀v H',(Jes z).yld i H v H'->g v σ H' fun σ2 H2=>tb {D with nx:=N,ct:=N,bk:=D.nx} σ2 H2):=by
 refine for_any (Jes z) z.cps.toList.length Pv h0 (fun i σ H hi p=>hi) (fun σ H p=>Nat.le_refl _) (fun i v σ H H' hi p y=>?_) hd
 obtain⟨b,c,hb,rfl,rfl,hc⟩:=y
 exact hs i c b σ H hc hb p
theorem upper1{c:Nat}(h:c<128):Txt.upper ⟨#[c]⟩=⟨#[up1 c]⟩:=by
 rw[upper_ascii (fun d hd=>by have e:d=c:=by simpa using hd
                              omega)]
 simp
section
variable{X:Cx}
theorem mt_upper:MtR X "str.upper" (fun x vs H Q=>∃c:Nat,x=.str ⟨#[c]⟩/\vs=[]/\c<128/\Q (.str ⟨#[up1 c]⟩) H):=by
 intro pins s σ H x vs v us Q I rx rv h
 obtain⟨c,rfl,rfl,hc,q⟩:=h
 obtain⟨t,rfl⟩:=rx
 have hus:=rv.zero
 subst hus
 refine SC.upper (fit_upper (by show 1<=5592405;omega)) (x_EE (.str _) H ⟨I.tok _,⟨_,rfl⟩,?_⟩)
 rw[upper1 hc]
 exact q
end
end L3
namespace L2
open PySem PySem.Spec PyProof.Rows
section
variable{κ:Type}[DecidableEq κ]
theorem RelO.isSome_eq{o:Option V}{u:Option Value}(r:RelO o u):o.isSome=u.isSome:=by
 cases o with
 | none=>cases u with
  | none=>rfl
  | some _=>exact(show False from r).elim
 | some _=>cases u with
  | none=>exact(show False from r).elim
  | some _=>rfl
theorem RelO.getD{o:Option V}{u:Option Value}{d:V}{d':Value}(r:RelO o u)(rd:RelV d d'):RelV (o.getD d) (u.getD d'):=by
 cases o with
 | none=>cases u with
  | none=>exact rd
  | some _=>exact(show False from r).elim
 | some _=>cases u with
  | none=>exact(show False from r).elim
  | some _=>exact r
end
section
variable{X:Cx}{pins:List (Addr×Obj)}{σ:St}{H:Hp}{s:Shared}{a:Addr}{y v:V}{u r:Value}{o:Option V}{A:Around}{E:Value->Shared->Prop}
theorem Inv.big(I:Inv X pins σ H s):sysModules<s.heap.objs.size:=by
 have h:mainGlobals<s.heap.objs.size:=(I.mod.glob.keeps I.bk).lt
 exact Nat.lt_trans (by decide) h
theorem d_write{h':Heap}{t':Nat}{ob:HO}(I:Inv X pins σ H s)(mu:Mut (H a))(hs:Heap.SameBut a s.heap h')(he:∃q,h'.get? a=some q)(new:ObjOk X.prog X.w (upd H a ob) h' a ob) :
  Inv X pins σ (upd H a ob) {s with heap:=h',toks:=t'}:=
 I.write (x:=a) (e:=a) mu (.inl rfl) (fun b q hb z=>(hs.2 b hb).trans z) he new
end
noncomputable def NoSl(i:Expr):Prop:=∀ov iv,subscripted i false ov iv=operate [ov,iv] (getItem ov iv)
theorem subD_of{prog:Program}{w:World}{A:Around}{E:Value->Shared->Prop}{s:Shared}{env:Env}{value slice:Expr}{pos:Pos}{T id:String}{Q:Value->Shared->Prop}
  (hl:typeLookup (.type T) "__getitem__" = pure (some (.builtin id))) (hs:NoSl slice)
  (h:wpAny (model prog w) A (eval value env) (fun o s₁=>wpAny (model prog w) A (eval slice env) (fun i s₂=>s₂.TypeIs o T/\wpAny (model prog w) A (getItem o i) Q E s₂) E s₁) E s) :
  wpAny (model prog w) A (eval (.Subscript value slice pos) env) Q E s:=by
 refine Subscript_ (wpAny_mono h (fun o s₁ h₁=>wpAny_mono h₁ (fun i s₂ h₂=>?_) fun _ _ x=>x) fun _ _ x=>x)
 obtain⟨hT,h₂⟩:=h₂
 unfold subscriptTail
 refine wpAny_bind ?_
 rw[getitemInPython_of_ne hT.not_modules]
 refine wpAny_bind (wpAny_specialOf hT hl ?_)
 have fin:wpAny (model prog w) A (subscripted slice false o i) (fun r s₃=>wpAny (model prog w) A (letTemporaryGo value o r >>= fun _=>pure r) Q E s₃) E s₂:=by
  rw[hs o i]
  exact wpAny_operating (wpAny_mono h₂ (fun r s₃ h₃=>wpAny_bind (wpAny_letTemporaryGo (wpAny_pure h₃))) fun _ _ x=>x)
 first
  | exact wpAny_pure (wpAny_bind fin)
  | exact wpAny_bind (wpAny_pure (wpAny_bind fin))
  | exact wpAny_bind fin
structure M2(X:Cx)(o:Expr)(m:Str)(apos:Pos)(e f:Expr)(cpos:Pos):Prop where
 base:attributeBase o m X.env (eval o X.env)=eval o X.env
 few:((backTo cpos (starEach [e,f] X.env)).all (fun x=>!x.1)&&(backToKw cpos (keywordEach [] X.env)).all (fun x=>x.1.isSome)
  && decide (([e,f]:List Expr).length+([]:List Keyword).length+(if ([]:List Keyword).isEmpty then 0 else 1)<30))=true
 line:(apos.endLine==cpos.line)=true
 trees:backTo cpos (starEach [e,f] X.env)=[(false,eval e X.env),(false,eval f X.env)]
end L2
namespace L3
open PySem
open AutoSeq1 (wpAny_loadPart')
end L3
namespace L3
open PySem PySem.Spec PyProof.Rows L2
end L3
namespace L3
structure Mat where
 h:Nat
 w:Nat
 g:Nat->Nat->Nat
noncomputable def lineM(M:Mat)(r:Nat):List Nat:=(List.range M.w).map (M.g r)
structure OkM(P:Nat->Prop)(M:Mat):Prop where
 h1:0<M.h
 h8:M.h<=8
 w1:0<M.w
 w8:M.w<=8
 sg:∀r c,r<M.h->c<M.w->P (M.g r c)
theorem strict_uniq{α:Type}{R:α->α->Prop}(as:∀x y,R x y->¬R y x):∀{xs ys:List α},xs.Pairwise R->ys.Pairwise R->(∀z,z∈xs↔z∈ys)->xs=ys
 | [],[],_,_,_=>rfl
 | [],y::ys,_,_,h=>absurd ((h y).mpr List.mem_cons_self) (by simp)
 | x::xs,[],_,_,h=>absurd ((h x).mp List.mem_cons_self) (by simp)
 | x::xs,y::ys,p,q,h=>by
  obtain⟨p1,p2⟩:=List.pairwise_cons.mp p
  obtain⟨q1,q2⟩:=List.pairwise_cons.mp q
  have e:x=y:=by
   rcases List.mem_cons.mp ((h x).mp List.mem_cons_self)with e|a
   .exact e
   .rcases List.mem_cons.mp ((h y).mpr List.mem_cons_self)with e|b
    .exact e.symm
    .exact absurd (q1 x a) (as _ _ (p1 y b))
  subst e
  refine congrArg _ (strict_uniq as p2 q2 fun z=>⟨fun hz=>?_,fun hz=>?_⟩)
  .rcases List.mem_cons.mp ((h z).mp (List.mem_cons_of_mem _ hz))with e|a
   .subst e;exact absurd (p1 z hz) (fun k=>as _ _ k k)
   .exact a
  .rcases List.mem_cons.mp ((h z).mpr (List.mem_cons_of_mem _ hz))with e|a
   .subst e;exact absurd (q1 z hz) (fun k=>as _ _ k k)
   .exact a
end L3
namespace L3
open PySem PySem.W PySem.Calls PyProof.Rows
theorem zip_two{vs:List Value}{p:Keyed}(h:p∈(vs.toArray.zip vs.toArray).toList):p.1=p.2/\p.1∈vs:=mem_zip_self (by simpa using h)
theorem out_perm{vs:List Value}{arr:Array Keyed}(h:arr.Perm (vs.toArray.zip vs.toArray)):(arr.map (·.2)).toList.Perm vs:=by
 have h1:=(Array.perm_iff_toList_perm.mp h).map (·.2)
 have e:(vs.toArray.zip vs.toArray).toList.map (·.2)=vs:=by
  rw[show(vs.toArray.zip vs.toArray).toList=vs.zip vs by simp]
  exact List.map_snd_zip (Nat.le_refl _)
 rw[e]at h1
 rw[Array.toList_map]
 exact h1
theorem out_up{g:Value->Int}{vs:List Value}{arr:Array Keyed}(h:arr.Perm (vs.toArray.zip vs.toArray))(hs:Seg (fun p=>g p.1) arr 0 (vs.toArray.zip vs.toArray).size):(arr.map (·.2)).toList.Pairwise fun x y=>g x<=g y:=by
 have hsz:=h.size_eq
 rw[Array.toList_map,List.pairwise_map]
 refine List.pairwise_iff_getElem.mpr fun i j hi hj hij=>?_
 have hi':i<arr.size:=by simpa using hi
 have hj':j<arr.size:=by simpa using hj
 have q:=hs i j (Nat.zero_le _) (by omega) (by omega)
 rw[Fk_some (getElem?_pos arr i hi'),Fk_some (getElem?_pos arr j hj')]at q
 have two:∀k (hk:k<arr.size),arr[k].1=arr[k].2:=fun k hk=>(zip_two ((Array.perm_iff_toList_perm.mp h).mem_iff.mp (by simp))).1
 rw[two i hi',two j hj']at q
 simpa using q
section
variable{prog:Program}{w:World}{A:Around}{E:Value->Shared->Prop}{s:Shared}
theorem list_sort_any{a:Addr}{vs:List Value}{n:Nat}{κ:SortKind}{g:Value->Int}{P:PySem.Fin->Shared->Prop}(ho:s.heap.get? a=some (seqObj "list" vs.toArray n))(hz:vs.length<=sizeLine)
  (hk:2<=vs.length->∀s':Shared,(∀b o,b≠a->s.heap.get? b=some o->s'.heap.get? b=some o)->
   (∀(Q:SortKind->Shared->Prop) (E:Value->Shared->Prop),Q κ s'->wpAny (model prog w) A (keyKind' vs.toArray) Q E s')/\
   ∀x y,x∈vs->y∈vs->∀(Q:Bool->Shared->Prop),Q (decide (g x<g y)) s'->wpAny (model prog w) A (keyLt' κ x y) Q (fun _ _=>False) s')
  (h:∀us:List Value,us.Perm vs->us.Pairwise (fun x y=>g x<=g y)->P (.done (.ret .none)) {s with heap:=sortedHeap s.heap a vs us.toArray}) :
  wpAny (model prog w) A (Builtin.«list.sort» ⟨[.ref a],[]⟩) P E s:=by
 have ha:a<s.heap.objs.size:=Heap.lt_size ho
 obtain⟨e1,ho1⟩:∃e1,(s.heap.update a (Obj.mapSeq fun _=>(#[]:Array Value))).get? a=some (seqObj "list" #[] e1):=⟨_,get?_update_seq ho fun _=>#[]⟩
 have ho6:(((s.heap.update a (Obj.mapSeq fun _=>(#[]:Array Value))).push (seqObj "tuple" vs.toArray 0)).push (seqObj "list" #[] 0)).get? a=some (seqObj "list" #[] e1):=
  Heap.get?_push_of_some _ (Heap.get?_push_of_some _ ho1)
 have kept:∀b o,b≠a->s.heap.get? b=some o->(((s.heap.update a (Obj.mapSeq fun _=>(#[]:Array Value))).push (seqObj "tuple" vs.toArray 0)).push (seqObj "list" #[] 0)).get? b=some o:=fun b o hb e=>
  Heap.get?_push_of_some _ (Heap.get?_push_of_some _ ((Heap.get?_update_other s.heap _ (Ne.symm hb)).trans e))
 rw[list_sort_plain]
 refine wpAny_bind (listItems_at ho rfl ?_)
 refine wpAny_bind (listUpdate_at ho rfl ?_ (by rw[List.size_toArray];exact hz) (Nat.zero_le _))
 refine wpAny_bind (seqEpoch_at ho1 rfl ?_)
 refine wpAny_bind (wpAny_newTuple ?_ (by show vs.length<=_;exact hz))
 refine wpAny_bind (wpAny_newList ?_ (Nat.zero_le _))
 refine wpAny_holding ?_
 show wpAny (model prog w) A _ P E {s with heap:=((s.heap.update a (Obj.mapSeq fun _=>(#[]:Array Value))).push (seqObj "tuple" vs.toArray 0)).push (seqObj "list" #[] 0)}
 dsimp only
 have rest:∀(st':SortSt),(arrOf st').Perm (vs.toArray.zip vs.toArray)->failedOf st'=none->Seg (fun p=>g p.1) (arrOf st') 0 (vs.toArray.zip vs.toArray).size->∃us:List Value,us.Perm vs/\us.Pairwise (fun x y=>g x<=g y)/\(arrOf st').map (·.2)=us.toArray:=fun st' hp hf hs=>
  ⟨_,out_perm hp,out_up hp hs,Array.toArray_toList.symm⟩
 by_cases h2:vs.toArray.size<2
 .have h2':vs.length<2:=by simpa using h2
  rw[if_pos h2,if_pos h2]
  refine wpAny_bind (wpAny_pure ?_)
  rw[StateT.run_pure]
  refine wpAny_bind (wpAny_pure ?_)
  dsimp only
  obtain⟨us,u1,u2,e0⟩:=rest (SortSt.mk' general' (vs.toArray.zip vs.toArray) #[] 7 none) (Array.Perm.refl _) rfl (fun i j hi hij hj=>by
   have hz2:(vs.toArray.zip vs.toArray).size=vs.length:=by simp
   obtain rfl:i=j:=by omega
   exact Int.le_refl _)
  have hul:=u1.length_eq
  rw[e0]
  refine wpAny_bind (seqEpoch_at ho6 rfl ?_)
  refine wpAny_bind (listUpdate_at ho6 rfl ?_ (Nat.zero_le _) (by rw[List.size_toArray,hul];exact Nat.le_succ_of_le hz))
  simp only[bne_self_eq_false,Bool.false_eq_true,if_false]
  exact wpAny_pure (h us u1 u2)
 .have h2':2<=vs.length:=by have:¬vs.length<2:=by simpa using h2
                            omega
  rw[if_neg h2,if_neg h2]
  obtain⟨k1,k2⟩:=hk h2' {s with heap:=((s.heap.update a (Obj.mapSeq fun _=>(#[]:Array Value))).push (seqObj "tuple" vs.toArray 0)).push (seqObj "list" #[] 0)} kept
  refine wpAny_bind (k1 _ _ ?_)
  refine wpAny_bind (wpAny_mono (wpS_sortAll (E:=E) (κ:=κ) (a₀:=vs.toArray.zip vs.toArray) (f:=fun p=>g p.1) (mem:=fun p=>p.1∈vs) (Q:=fun _ st'=>∃us:List Value,us.Perm vs/\us.Pairwise (fun x y=>g x<=g y)/\(arrOf st').map (·.2)=us.toArray/\failedOf st'=none)
   (fun x y hx hy Q hq=>k2 x.1 y.1 hx hy Q hq) (fun x hx=>(zip_two hx).2) ⟨Array.Perm.refl _,rfl,rfl⟩ rfl (fun st' B hs=>?_)) ?_ fun _ _ e=>e)
  .obtain⟨us,u1,u2,e0⟩:=rest st' B.perm B.failed hs
   exact⟨us,u1,u2,e0,B.failed⟩
  .rintro⟨⟨⟩,st'⟩ s' ⟨rfl,us,u1,u2,hout,hf⟩
   have hul:=u1.length_eq
   dsimp only at hout hf⊢
   rw[hout]
   refine wpAny_bind (seqEpoch_at ho6 rfl ?_)
   refine wpAny_bind (listUpdate_at ho6 rfl ?_ (Nat.zero_le _) (by rw[List.size_toArray,hul];exact Nat.le_succ_of_le hz))
   rw[hf]
   simp only[bne_self_eq_false,Bool.false_eq_true,if_false]
   exact wpAny_pure (h us u1 u2)
theorem sorted_any{l:Addr}{vs:List Value}{κ:SortKind}{g:Value->Int}{Q:Value->Shared->Prop}(hl:s.heap.IsList l vs.toArray)(hz:vs.length<=sizeLine)
  (hk:2<=vs.length->∀s':Shared,(∀b o,s.heap.get? b=some o->s'.heap.get? b=some o)->
   (∀(Q:SortKind->Shared->Prop) (E:Value->Shared->Prop),Q κ s'->wpAny (model prog w) A.in1.in1 (keyKind' vs.toArray) Q E s')/\
   ∀x y,x∈vs->y∈vs->∀(Q:Bool->Shared->Prop),Q (decide (g x<g y)) s'->wpAny (model prog w) A.in1.in1 (keyLt' κ x y) Q (fun _ _=>False) s')
  (h:∀us:List Value,us.Perm vs->us.Pairwise (fun x y=>g x<=g y)->Q (.ref (s.heap.objs.size+1)) {s with heap:=sortedAll s.heap vs us.toArray}) :
  wpAny (model prog w) A (call (.builtin "sorted") [.ref l]) Q E s:=by
 refine Calls.call_function_entry kind_sorted plain_sorted entry_sorted (args_sorted1 _) ?_
 unfold Builtin.«sorted»
 refine wpAny_bind (m:=checkCount "sorted" 1 1 _) (wpAny_pure ?_)
 refine wpAny_bind (collect_list hl ?_ hz)
 refine wpAny_bind (wpAny_newList ?_ hz)
 have hsz:((s.heap.push (seqObj "list" #[] 0)).update s.heap.objs.size (Obj.mapSeq (· ++ vs.toArray))).objs.size=s.heap.objs.size+1:=by
  rw[Heap.size_update,size_push']
 have hoL:(((s.heap.push (seqObj "list" #[] 0)).update s.heap.objs.size (Obj.mapSeq (· ++ vs.toArray))).push (seqObj "list" vs.toArray 0)).get? (s.heap.objs.size+1)=some (seqObj "list" vs.toArray 0):=by
  rw[<-hsz];exact Heap.get?_push_size _ rfl
 have keep:∀b o,s.heap.get? b=some o->(((s.heap.push (seqObj "list" #[] 0)).update s.heap.objs.size (Obj.mapSeq (· ++ vs.toArray))).push (seqObj "list" vs.toArray 0)).get? b=some o:=fun b o q=>by
  have hlt:b<s.heap.objs.size:=Heap.lt_size q
  exact Heap.get?_push_of_some _ ((Heap.get?_update_other _ _ (Ne.symm (Nat.ne_of_lt hlt))).trans (Heap.get?_push_of_some _ q))
 show wpAny _ _ _ _ _ {s with heap:=((s.heap.push (seqObj "list" #[] 0)).update s.heap.objs.size (Obj.mapSeq (· ++ vs.toArray))).push (seqObj "list" vs.toArray 0)}
 rw[hsz]
 refine wpAny_bind (wpAny_holding (wpAny_call_entry slot_list_sort ⟨_,hoL,rfl⟩ entry_list_sort ?body (args_list_sort _)))
 case body=>
  refine list_sort_any (κ:=κ) (g:=g) hoL hz (fun h2 s' k=>hk h2 s' fun b o e=>k b o (Nat.ne_of_lt (Nat.lt_succ_of_lt (Heap.lt_size e))) (keep b o e)) fun us u1 u2=>?_
  exact⟨_,rfl,wpAny_pure ⟨_,rfl,h us u1 u2⟩⟩
end
end L3
namespace L3
open PySem PySem.Spec PyProof.Rows L2
theorem perm_lift{α β:Type}(g:α->β){us vs:List β}(p:us.Perm vs):∀{l:List α},l.map g=vs->∃l':List α,l'.Perm l/\l'.map g=us:=by
 induction p with
 | nil=>intro l e;exact⟨l,List.Perm.refl _,e⟩
 | cons x p ih=>
  intro l e
  match l,e with
  | a::l,e=>
   rw[List.map_cons]at e
   obtain⟨e1,e2⟩:=List.cons.inj e
   obtain⟨l',p1,e3⟩:=ih e2
   exact⟨a::l',p1.cons a,by rw[List.map_cons,e1,e3]⟩
 | swap x y r=>
  intro l e
  match l,e with
  | a::b::l,e=>
   rw[List.map_cons,List.map_cons]at e
   obtain⟨e1,e'⟩:=List.cons.inj e
   obtain⟨e2,e3⟩:=List.cons.inj e'
   exact⟨b::a::l,List.Perm.swap _ _ _,by rw[List.map_cons,List.map_cons,e1,e2,e3]⟩
 | trans p q ih1 ih2=>
  intro l e
  obtain⟨l1,p1,e1⟩:=ih2 e
  obtain⟨l2,p2,e2⟩:=ih1 e1
  exact⟨l2,p2.trans p1,e2⟩
theorem countP_less{α:Type}{p q:α->Bool}:∀{l:List α},(∀e∈l,p e=true->q e=true)->(∃e∈l,q e=true/\p e=false)->l.countP p<l.countP q
 | [],_,⟨e,he,_⟩=>by simp at he
 | a::l,h,⟨e,he,h1,h2⟩=>by
  have hl:∀e∈l,p e=true->q e=true:=fun e he=>h e (List.mem_cons_of_mem _ he)
  have mono:l.countP p<=l.countP q:=List.countP_mono_left hl
  rcases List.mem_cons.mp he with rfl|he
  .rw[List.countP_cons_of_neg (by simp[h2]),List.countP_cons_of_pos h1]
   omega
  .have ih:=countP_less hl ⟨e,he,h1,h2⟩
   cases hp:p a with
   | true=>rw[List.countP_cons_of_pos hp,List.countP_cons_of_pos (h a List.mem_cons_self hp)];omega
   | false=>
    rw[List.countP_cons_of_neg (by simp[hp])]
    have:=List.countP_le_length (p:=q) (l:=l)
    cases hq:q a with
    | true=>rw[List.countP_cons_of_pos hq];omega
    | false=>rw[List.countP_cons_of_neg (by simp[hq])];exact ih
structure OrdD(lt:PyData->PyData->Bool)(ds:List PyData):Prop where
 asy:∀x∈ds,∀y∈ds,lt x y=true->lt y x=false
 tr:∀x∈ds,∀y∈ds,∀z∈ds,lt y x=false->lt z y=false->lt z x=false
noncomputable def rankD(lt:PyData->PyData->Bool)(ds:List PyData)(d:PyData):Int:=((ds.countP fun e=>lt e d:Nat):Int)
theorem rank_lt{lt:PyData->PyData->Bool}{ds:List PyData}(o:OrdD lt ds){d e:PyData}(hd:d∈ds)(he:e∈ds):decide (rankD lt ds d<rankD lt ds e)=lt d e:=by
 have irr:∀x∈ds,lt x x=false:=fun x hx=>by
  cases q:lt x x with
  | false=>rfl
  | true=>have:=o.asy x hx x hx q;rw[q]at this;exact this
 unfold rankD
 cases h:lt d e with
 | true=>
  refine decide_eq_true ?_
  have:=countP_less (p:=fun z=>lt z d) (q:=fun z=>lt z e) (l:=ds) (fun z hz h1=>?_) ⟨d,hd,h,irr d hd⟩
  .omega
  .show lt z e=true
   cases q:lt z e with
   | true=>rfl
   | false=>rw[o.tr d hd e he z hz (o.asy d hd e he h) q]at h1;exact h1
 | false=>
  refine decide_eq_false ?_
  have:=List.countP_mono_left (p:=fun z=>lt z e) (q:=fun z=>lt z d) (l:=ds) fun z hz h1=>?_
  .omega
  .show lt z d=true
   cases q:lt z d with
   | true=>rfl
   | false=>rw[o.tr e he d hd z hz h q]at h1;exact h1
theorem repAll_map{α:Type}{H:Hp}{f:α->PyData}{g:α->V}:∀{l:List α},(∀t∈l,Rep H (f t) (g t))->RepAll H (l.map f) (l.map g)
 | [],_=>rfl
 | t::l,h=>(x_EE _ _ ⟨rfl,h t List.mem_cons_self,repAll_map fun t ht=>h t (List.mem_cons_of_mem _ ht)⟩)
theorem vals_map{α:Type}{f:α->V}{g:α->Value}:∀{l:List α},(∀t∈l,RelV (f t) (g t))->Vals (l.map f) (l.map g)
 | [],_=>.nil
 | t::l,h=>.cons (h t List.mem_cons_self) (vals_map fun t ht=>h t (List.mem_cons_of_mem _ ht))
section
variable{X:Cx}{pins:List (Addr×Obj)}{σ:L2.St}{H:Hp}{s:Shared}{A:Around}{E:Value->Shared->Prop}
open Classical in
theorem sorted_data(I:Inv X pins σ H s){p:Addr}{ds:List PyData}{xs:List V}{its:List Value}{κ:SortKind}{lt:PyData->PyData->Bool}{Q:V->Hp->Prop}(hp:H p=some (.lst xs))(hds:RepAll H ds xs)(rv:Vals xs its)(pl:s.heap.IsList p its.toArray)(hz:xs.length<=sizeLine)(o:OrdD lt ds)
  (hk:2<=its.length->∀s':Shared,(∀b o,s.heap.get? b=some o->s'.heap.get? b=some o)->∀(Q:SortKind->Shared->Prop) (E:Value->Shared->Prop),Q κ s'->wpAny (model X.prog X.w) A.in1.in1 (keyKind' its.toArray) Q E s')
  (hc:∀s':Shared,(∀b o,s.heap.get? b=some o->s'.heap.get? b=some o)->∀(i j:Nat) (d e:PyData) (u v:Value),ds[i]?=some d->its[i]?=some u->ds[j]?=some e->its[j]?=some v->∀(Q:Bool->Shared->Prop),Q (lt d e) s'->wpAny (model X.prog X.w) A.in1.in1 (keyLt' κ u v) Q (fun _ _=>False) s')
  (q:∀l ys es,H l=none->es.Perm ds->es.Pairwise (fun x y=>lt y x=false)->RepAll (upd H l (.lst ys)) es ys->Q (.ref l) (upd H l (.lst ys))) :
  wpAny (model X.prog X.w) A (call (.builtin "sorted") [.ref p]) (fun u s'=>∃v H',Inv X pins σ H' s'/\RelV v u/\Q v H') E s:=by
 have l1:xs.length=ds.length:=hds.length
 have l2:xs.length=its.length:=rv.length
 obtain⟨g,hg⟩:∃g:Value->Int,∀(i:Nat) (d:PyData) (u:Value),ds[i]?=some d->its[i]?=some u->g u=rankD lt ds d:=by
  refine⟨fun u=>if h:∃d,∃as,Reads s.heap u d as/\d∈ds then rankD lt ds h.choose else 0,fun i d u h1 h2=>?_⟩
  obtain⟨x,e1,r1⟩:=hds.get h1
  obtain⟨u',e2,r2⟩:=rv.get e1
  rw[h2]at e2;cases e2
  obtain⟨as,rd⟩:=r1.reads I r2
  have hx:∃d,∃as,Reads s.heap u d as/\d∈ds:=(x_EE d as ⟨rd,List.mem_of_getElem? h1⟩)
  show(if h:∃d,∃as,Reads s.heap u d as/\d∈ds then rankD lt ds h.choose else 0)=_
  rw[dif_pos hx]
  obtain⟨bs,rb,_⟩:=hx.choose_spec
  rw[SeqAt.Reads.unique d hx.choose u as bs r1.lay rd rb]
 refine sorted_any (κ:=κ) (g:=g) pl (by omega) (fun h2 s' k=>⟨hk h2 s' k,fun x y hx hy Q' hq=>?_⟩) fun us u1 u2=>?_
 .obtain⟨i,hi⟩:=List.mem_iff_getElem?.mp hx
  obtain⟨j,hj⟩:=List.mem_iff_getElem?.mp hy
  have hi':i<ds.length:=by have:=(List.getElem?_eq_some_iff.mp hi).1;omega
  have hj':j<ds.length:=by have:=(List.getElem?_eq_some_iff.mp hj).1;omega
  have di:=List.getElem?_eq_getElem hi'
  have dj:=List.getElem?_eq_getElem hj'
  rw[hg i _ x di hi,hg j _ y dj hj,rank_lt o (List.getElem_mem hi') (List.getElem_mem hj')]at hq
  exact hc s' k i j _ _ x y di hi dj hj Q' hq
 .have third:(ds.zip (xs.zip its)).map (fun t=>t.2.2)=its:=by
   have:(ds.zip (xs.zip its)).map (fun t=>t.2.2)=((ds.zip (xs.zip its)).map Prod.snd).map Prod.snd:=by rw[List.map_map];rfl
   rw[this,List.map_snd_zip (by rw[List.length_zip];omega),List.map_snd_zip (by omega)]
  have first:(ds.zip (xs.zip its)).map (fun t=>t.1)=ds:=List.map_fst_zip (by rw[List.length_zip];omega)
  obtain⟨T,tp,te⟩:=perm_lift (fun t:PyData×V×Value=>t.2.2) u1 third
  have tm:∀t∈T,∃i:Nat,ds[i]?=some t.1/\xs[i]?=some t.2.1/\its[i]?=some t.2.2:=fun t ht=>by
   obtain⟨i,hi⟩:=List.mem_iff_getElem?.mp (tp.mem_iff.mp ht)
   obtain⟨a1,a2⟩:=List.getElem?_zip_eq_some.mp hi
   obtain⟨a3,a4⟩:=List.getElem?_zip_eq_some.mp a2
   exact⟨i,a1,a3,a4⟩
  have tl:T.length=its.length:=by rw[tp.length_eq];have:=congrArg List.length third;simpa using this
  obtain⟨e,he⟩:=sortedAll_at s.heap its us.toArray
  have hn:H (s.heap.objs.size+1)=none:=I.hok.fresh (Nat.le_succ _)
  have hv:Vals (T.map fun t=>t.2.1) us:=by
   rw[<-te]
   exact vals_map fun t ht=>by
    obtain⟨i,_,a2,a3⟩:=tm t ht
    obtain⟨u,b1,b2⟩:=rv.get a2
    rw[a3]at b1;cases b1
    exact b2
  have hz':(T.map fun t=>t.2.1).length<=sizeLine:=by rw[List.length_map];omega
  have hsame:Same H (upd H (s.heap.objs.size+1) (.lst (T.map fun t=>t.2.1))):=fun b o q=>by rw[upd_ne (ne_of_none q hn)];exact q
  refine(x_EE (.ref (s.heap.objs.size+1)) _ ⟨I.laid (t':=s.toks) (o:=.lst (T.map fun t=>t.2.1)) (fun b u e=>sortedAll_old e) (Nat.le_succ _) ⟨hz',(x_EE _ e ⟨hv,he⟩)⟩,rfl,q _ _ (T.map fun t=>t.1) hn ?_ ?_ ?_⟩)
  .rw[<-first]
   exact tp.map _
  .rw[List.pairwise_map]
   have u3:=u2
   rw[<-te,List.pairwise_map]at u3
   refine List.Pairwise.imp_of_mem (fun{a b} ha hb hab=>?_) u3
   obtain⟨i,a1,_,a3⟩:=tm a ha
   obtain⟨j,b1,_,b3⟩:=tm b hb
   rw[hg i _ _ a1 a3,hg j _ _ b1 b3]at hab
   rw[<-rank_lt o (List.mem_of_getElem? b1) (List.mem_of_getElem? a1)]
   exact decide_eq_false (by omega)
  .refine RepAll.same hsame (repAll_map fun t ht=>?_)
   obtain⟨i,a1,a2,_⟩:=tm t ht
   obtain⟨x,b1,b2⟩:=hds.get a1
   rw[a2]at b1;cases b1
   exact b2
end
noncomputable def ltR(x y:PyData):Bool:=rowLt (rowOf x) (rowOf y)
theorem rows_ord{ks:List Bool}{ds:List PyData}(h:Rows ks ds):OrdD ltR ds:=by
 have at':∀d∈ds,Row (true::ks) (rowOf d):=fun d hd=>by
  obtain⟨r,e,hr⟩:=h d hd
  rw[e];exact hr
 exact⟨fun x hx y hy q=>rl_asy (at' x hx) (at' y hy) q,fun x hx y hy z hz q1 q2=>rl_tr (at' x hx) (at' y hy) (at' z hz) q1 q2⟩
section
variable{X:Cx}
theorem call_sortedN:CallR X (.builtin "sorted") (fun vs H Q=>∃p xs ds ks,vs=[.ref p]/\H p=some (.lst xs)/\RepAll H ds xs/\Rows ks ds/\
  ∀l ys es,H l=none->es.Perm ds->es.Pairwise (fun x y=>ltR y x=false)->RepAll (upd H l (.lst ys)) es ys->Q (.ref l) (upd H l (.lst ys))):=by
 intro pins s σ H xs us Q I r h
 obtain⟨p,xs,ds,ks,rfl,hp,hds,hrows,q⟩:=h
 obtain⟨u,rfl,r1⟩:=vals1 r
 cases (show u=Value.ref p from r1)
 obtain⟨its,rv,pl,hz⟩:=I.list (SqL.of (K:=X.K) hp)
 have l1:xs.length=ds.length:=hds.length
 have l2:xs.length=its.length:=rv.length
 obtain⟨fs,kt,kf,ki⟩:=kat_tups I hds rv hrows
 refine sorted_data (κ:=tuples' true) (lt:=ltR) I hp hds rv pl.isList (by omega) (rows_ord hrows) (fun h2 s' k Q' E' hq=>?_) (fun s' k i j d e u v di ui dj vj Q' hq=>?_) q
 .refine PySem.W.kat_kind (T:=Value.type "int") (KatTups.keeps k kt) (by omega) (fun v hv=>?_) rfl hq
  obtain⟨i,t,rfl⟩:=ki v hv
  exact PySem.W.Looks.of_pure rfl
 .have tup:∀(i:Nat) (d:PyData) (u:Value),ds[i]?=some d->its[i]?=some u->∃a o vs n bs row,u=.ref a/\d=.tuple row/\Row (true::ks) row/\s'.heap.get? a=some o/\o.data=.seq vs n/\ReadsAll s'.heap vs.toList row bs:=fun i d u hd hu=>by
   obtain⟨x,e1,e2⟩:=hds.get hd
   obtain⟨u',e3,e4⟩:=rv.get e1
   rw[hu]at e3;cases e3
   obtain⟨row,e5,hrow⟩:=hrows _ (List.mem_of_getElem? hd)
   obtain⟨a,o,vs,n,bs,_,_,rfl,g1,_,g3,g4,_⟩:=tup_of I e2 e4 e5 hrow
   exact(x_EEEEE a o vs n bs ⟨row,rfl,e5,hrow,k _ _ g1,g3,ReadsAll.keeps k g4⟩)
  obtain⟨a,o,vs,n,as1,row,rfl,rfl,e3,e4,e5,e6⟩:=tup i d u di ui
  obtain⟨a',o',vs',n',as2,row',rfl,rfl,f3,f4,f5,f6⟩:=tup j e v dj vj
  have hq':Q' (rowLt row row') s':=hq
  have z1:vs.size=ks.length+1:=by have q1:=SeqAt.ReadsAll.length _ _ _ e6;have q2:=e3.len;simp at q1 q2;omega
  have z2:vs'.size=ks.length+1:=by have q1:=SeqAt.ReadsAll.length _ _ _ f6;have q2:=f3.len;simp at q1 q2;omega
  refine PySem.W.kat_lt e4 e5 f4 f5 ?_
  rw[decide_eq_false (by omega)]
  exact lex_rows e3 f3 e6 f6 hq'
end
noncomputable def spotM(M:Mat)(r c:Nat):PyData:=.tuple [.int (r:Nat),.int (c:Nat),.str ⟨#[M.g r c]⟩]
noncomputable def strsM(M:Mat):List Str:=(List.range M.h).map fun r=>⟨(lineM M r).toArray⟩
theorem div_at{w r c:Nat}(hc:c<w):(r*w+c)/w=r:=by
 rw[Nat.mul_comm,Nat.mul_add_div (by omega),Nat.div_eq_of_lt hc,Nat.add_zero]
theorem mod_at{w r c:Nat}(hc:c<w):(r*w+c) % w=c:=by
 rw[Nat.mul_comm,Nat.mul_add_mod,Nat.mod_eq_of_lt hc]
noncomputable def lt2(x y:PyData):Prop:=row1 x<row1 y\/row1 x=row1 y/\col1 x<col1 y
theorem lt2_asy(x y:PyData)(h:lt2 x y):¬lt2 y x:=by
 unfold lt2 at *
 omega
noncomputable def SgP(c:Nat):Prop:=sgB c=true
theorem sg128{c:Nat}(h:SgP c):c<128:=by
 unfold SgP sgB at h
 simp at h
 omega
noncomputable def FlM(H:Hp)(a:Addr)(M:Mat):Prop:=H a=some (.tup ((strsM M).map V.str))/\OkM SgP M
theorem FlM.same{H H':Hp}{a:Addr}{M:Mat}(h:FlM H a M)(s:Same H H'):FlM H' a M:=⟨s _ _ h.1,h.2⟩
theorem strs_len(M:Mat):(strsM M).length=M.h:=by unfold strsM;simp
theorem strs_at{M:Mat}{r:Nat}(h:r<M.h):(strsM M)[r]?=some ⟨(lineM M r).toArray⟩:=by
 unfold strsM
 rw[List.getElem?_map,List.getElem?_range h]
 rfl
theorem line_len(M:Mat)(r:Nat):(lineM M r).length=M.w:=by unfold lineM;simp
theorem line_at{M:Mat}{r c:Nat}(h:c<M.w):(lineM M r)[c]?=some (M.g r c):=by
 unfold lineM
 rw[List.getElem?_map,List.getElem?_range h]
 rfl
theorem line_sg{M:Mat}(o:OkM SgP M){r:Nat}(hr:r<M.h):∀c∈lineM M r,SgP c:=fun c hc=>by
 unfold lineM at hc
 obtain⟨k,hk,rfl⟩:=List.mem_map.mp hc
 exact o.sg r k hr (by simpa using hk)
theorem strs_mem{M:Mat}{z:Str}(h:z∈strsM M):∃r,r<M.h/\z=⟨(lineM M r).toArray⟩:=by
 unfold strsM at h
 obtain⟨r,hr,rfl⟩:=List.mem_map.mp h
 exact⟨r,by simpa using hr,rfl⟩
end L3
namespace L3
open PySem
noncomputable def sm5:Nat->Nat
 | 0=>0
 | m+1=>5*sm5 m+1
noncomputable def g5(m i:Nat):Nat:=5^m*i+sm5 m
theorem g5_succ(m i:Nat):g5 (m+1) i=5*g5 m i+1:=by
 show 5^(m+1)*i+(5*sm5 m+1)=5*(5^m*i+sm5 m)+1
 rw[Nat.pow_succ,Nat.mul_add,Nat.mul_comm (5^m) 5,Nat.mul_assoc,Nat.add_assoc]
theorem g5_add(m n i:Nat):g5 (m+n) i=g5 m (g5 n i):=by
 induction m with
 | zero=>rw[Nat.zero_add];unfold g5 sm5;simp
 | succ m ih=>rw[Nat.succ_add,g5_succ,ih,g5_succ]
theorem sm5_add(m n:Nat):sm5 (m+n)=5^m*sm5 n+sm5 m:=by
 have h:=g5_add m n 0
 unfold g5 at h
 simpa using h
theorem five_two:∀k,∃c d:Nat,5^(2^k)=1+2^(k+2)*c/\sm5 (2^k)=2^k*(2*d+1)
 | 0=>(x_EE 1 0 ⟨rfl,rfl⟩)
 | k+1=>by
  obtain⟨c,d,h1,h2⟩:=five_two k
  have e:2^(k+1)=2^k+2^k:=by rw[Nat.pow_succ];omega
  refine(x_EE (c+2^(k+1)*c*c) (d+2^k*c*(2*d+1)) ⟨?_,?_⟩)
  .rw[e,Nat.pow_add,h1,show 2^(k+1+2)=8*2^k by rw[Nat.pow_add,Nat.pow_add];omega,show 2^(k+2)=4*2^k by rw[Nat.pow_add];omega]
   generalize 2^k=A
   grind
  .rw[e,sm5_add,h1,h2,show 2^(k+2)=4*2^k by rw[Nat.pow_add];omega]
   generalize 2^k=A
   grind
theorem g5_half(k i:Nat):g5 (2^k) i % 2^(k+1)=(i+2^k) % 2^(k+1):=by
 obtain⟨c,d,h1,h2⟩:=five_two k
 unfold g5
 rw[h1,h2]
 have e3:2^(k+2)=2^(k+1)*2:=by rw[show k+2=(k+1)+1 by omega,Nat.pow_succ]
 have e:(1+2^(k+2)*c)*i+2^k*(2*d+1)=(i+2^k)+2^(k+1)*(2*(c*i)+d):=by
  rw[e3,Nat.pow_succ]
  generalize 2^k=A
  simp only[Nat.add_mul,Nat.mul_add,Nat.one_mul,Nat.mul_one,Nat.mul_assoc,Nat.mul_comm,Nat.mul_left_comm]
  omega
 rw[e,Nat.add_mul_mod_self_left]
theorem g5_all:∀(k i j:Nat),∃m,m<2^k/\g5 m i % 2^k=j % 2^k
 | 0,i,j=>⟨0,by decide,by simp[Nat.mod_one]⟩
 | k+1,i,j=>by
  obtain⟨m,hm,e⟩:=g5_all k i j
  have e2:2^(k+1)=2*2^k:=by rw[Nat.pow_succ];omega
  by_cases h:g5 m i % 2^(k+1)=j % 2^(k+1)
  .exact⟨m,by omega,h⟩
  .refine⟨2^k+m,by omega,?_⟩
   rw[g5_add,g5_half]
   have a:=Nat.mod_add_div (g5 m i) (2^(k+1))
   have l1:g5 m i % 2^(k+1)<2^(k+1):=Nat.mod_lt _ (by rw[e2];have:=Nat.two_pow_pos k;omega)
   have l2:j % 2^(k+1)<2^(k+1):=Nat.mod_lt _ (by rw[e2];have:=Nat.two_pow_pos k;omega)
   have m1:g5 m i % 2^(k+1) % 2^k=g5 m i % 2^k:=Nat.mod_mod_of_dvd _ ⟨2,by rw[e2];omega⟩
   have m2:j % 2^(k+1) % 2^k=j % 2^k:=Nat.mod_mod_of_dvd _ ⟨2,by rw[e2];omega⟩
   rw[Nat.add_mod,Nat.mod_eq_of_lt (show 2^k<2^(k+1) by have:=Nat.two_pow_pos k;omega)]
   generalize g5 m i % 2^(k+1)=x at *
   generalize j % 2^(k+1)=y at *
   rw[<-m1,<-m2]at e
   generalize 2^(k+1)=A at *
   generalize 2^k=B at *
   subst e2
   have hx:x % B=if x<B then x else x-B:=by
    split
    .exact Nat.mod_eq_of_lt (by assumption)
    .rw[Nat.mod_eq_sub_mod (by omega),Nat.mod_eq_of_lt (by omega)]
   have hy:y % B=if y<B then y else y-B:=by
    split
    .exact Nat.mod_eq_of_lt (by assumption)
    .rw[Nat.mod_eq_sub_mod (by omega),Nat.mod_eq_of_lt (by omega)]
   rw[hx,hy]at e
   have hz:(x+B) % (2*B)=if x+B<2*B then x+B else x+B-2*B:=by
    split
    .exact Nat.mod_eq_of_lt (by assumption)
    .rw[Nat.mod_eq_sub_mod (by omega),Nat.mod_eq_of_lt (by omega)]
   rw[hz]
   split at e<;>split at e<;>split<;>omega
open SetTable
noncomputable def itn{α:Type}(f:α->α):Nat->α->α
 | 0,x=>x
 | n+1,x=>itn f n (f x)
theorem itn_add{α:Type}(f:α->α):∀(m n:Nat) (x:α),itn f (m+n) x=itn f n (itn f m x)
 | 0,n,x=>by rw[Nat.zero_add];rfl
 | m+1,n,x=>by rw[Nat.succ_add];exact itn_add f m n (f x)
theorem itn_succ{α:Type}(f:α->α)(n:Nat)(x:α):itn f (n+1) x=f (itn f n x):=by
 rw[itn_add f n 1 x];rfl
noncomputable def adv(mask:Nat)(p:Probe):Probe:=
 if p.more>0 then{p with j:=p.j+1,more:=p.more-1}else
 {p with j:=(leap mask p.i p.perturb).1,more:=runEnd mask (leap mask p.i p.perturb).1-(leap mask p.i p.perturb).1,i:=(leap mask p.i p.perturb).1,perturb:=(leap mask p.i p.perturb).2}
noncomputable def lp(mask:Nat)(x:Nat×Nat):Nat×Nat:=leap mask x.1 x.2
noncomputable def at0(mask:Nat)(x:Nat×Nat)(d:Option Nat):Probe:=⟨x.1,runEnd mask x.1-x.1,x.1,x.2,d⟩
theorem run_le(mask i:Nat):runEnd mask i-i<=9:=by unfold runEnd;split<;>omega
theorem to_leap(mask:Nat):∀(m:Nat) (p:Probe),p.more=m->itn (adv mask) (m+1) p=at0 mask (lp mask (p.i,p.perturb)) p.dummy
 | 0,p,h=>by
  show adv mask p=_
  unfold adv
  rw[if_neg (by omega)]
  rfl
 | m+1,p,h=>by
  show itn (adv mask) (m+1) (adv mask p)=_
  have e:adv mask p={p with j:=p.j+1,more:=p.more-1}:=by unfold adv;rw[if_pos (by omega)]
  rw[e,to_leap mask m _ (by show p.more-1=m;omega)]
theorem leaps(mask:Nat):∀(m:Nat) (x:Nat×Nat) (d:Option Nat),∃n,n<=10*m/\itn (adv mask) n (at0 mask x d)=at0 mask (itn (lp mask) m x) d
 | 0,x,d=>⟨0,Nat.le_refl _,rfl⟩
 | m+1,x,d=>by
  have h:=to_leap mask _ (at0 mask x d) rfl
  obtain⟨n,hn,e⟩:=leaps mask m (lp mask x) d
  refine⟨((at0 mask x d).more+1)+n,?_,?_⟩
  .have:(at0 mask x d).more<=9:=run_le mask x.1
   omega
  .rw[itn_add,h]
   exact e
theorem per_small(mask:Nat):∀(m:Nat) (x:Nat×Nat) (b:Nat),x.2<32^b->(itn (lp mask) m x).2<32^(b-m)
 | 0,x,b,h=>by simpa [itn]using h
 | m+1,x,b,h=>by
  have h':(lp mask x).2<32^(b-1):=by
   show x.2/32<32^(b-1)
   cases b with
   | zero=>simp at h;simp[h]
   | succ b=>
    rw[Nat.pow_succ]at h
    simpa using Nat.div_lt_of_lt_mul (by omega)
  have:=per_small mask m (lp mask x) (b-1) h'
  rw[show b-(m+1)=b-1-m by omega]
  exact this
theorem plain_leaps{mask k:Nat}(hk:mask+1=2^k):∀(m i:Nat),i<2^k->itn (lp mask) m (i,0)=(g5 m i % 2^k,0)
 | 0,i,h=>by
  have e:g5 0 i=i:=by unfold g5 sm5;simp
  rw[e,Nat.mod_eq_of_lt h]
  rfl
 | m+1,i,h=>by
  rw[itn_succ,plain_leaps hk m i h]
  show((g5 m i % 2^k*5+1+0/32) % (mask+1),0/32)=_
  rw[hk,g5_succ]
  have e:(g5 m i % 2^k*5+1+0/32) % 2^k=(5*g5 m i+1) % 2^k:=by
   rw[show 0/32=0 from rfl,Nat.add_zero,Nat.mul_comm,Nat.add_mod,Nat.mul_mod,Nat.mod_mod,<-Nat.mul_mod,<-Nat.add_mod]
  rw[e]
theorem lp_lt{mask k:Nat}(hk:mask+1=2^k)(x:Nat×Nat):(lp mask x).1<2^k:=by
 show(x.1*5+1+x.2/32) % (mask+1)<2^k
 rw[hk]
 exact Nat.mod_lt _ (Nat.two_pow_pos k)
theorem reach{mask k:Nat}(hk:mask+1=2^k)(p:Probe)(hm:p.more<=9)(hp:p.perturb<2^64)(j:Nat)(hj:j<=mask):∃n,n<10*turns mask/\(itn (adv mask) n p).j=j:=by
 have h1:=to_leap mask p.more p rfl
 obtain⟨n2,hn2,e2⟩:=leaps mask 12 (lp mask (p.i,p.perturb)) p.dummy
 have hz:(itn (lp mask) 12 (lp mask (p.i,p.perturb))).2<32^(13-13):=by
  have:=per_small mask 13 (p.i,p.perturb) 13 (by show p.perturb<32^13;exact Nat.lt_of_lt_of_le hp (by decide))
  exact this
 have hz0:(itn (lp mask) 12 (lp mask (p.i,p.perturb))).2=0:=by simpa using hz
 have hi:(itn (lp mask) 12 (lp mask (p.i,p.perturb))).1<2^k:=by
  rw[itn_succ]
  exact lp_lt hk _
 generalize itn (lp mask) 12 (lp mask (p.i,p.perturb))=y at *
 obtain⟨y1,y2⟩:=y
 simp only at hz0 hi
 subst hz0
 obtain⟨m,hm2,e3⟩:=g5_all k y1 j
 obtain⟨n3,hn3,e4⟩:=leaps mask m (y1,0) p.dummy
 rw[plain_leaps hk m y1 hi,e3,Nat.mod_eq_of_lt (by omega)]at e4
 refine⟨(p.more+1)+(n2+n3),?_,?_⟩
 .unfold turns
  omega
 .rw[itn_add,h1,itn_add,e2,e4]
  rfl
end L3
namespace L3
open PySem SetTable
noncomputable def Low(xs:Array Nat)(j b:Nat):Prop:=b<=xs.size/\(∀i v,i<b->xs[i]?=some v->v<j)/\(∀i v,b<=i->xs[i]?=some v->j<=v)
theorem rise_at{xs:Array Nat}(h:xs.toList.Pairwise (· < ·)){i k v u:Nat}(hi:xs[i]?=some v)(hk:xs[k]?=some u)(hik:i<k):v<u:=by
 rw[<-Array.getElem?_toList]at hi hk
 obtain⟨h1,rfl⟩:=List.getElem?_eq_some_iff.mp hi
 obtain⟨h2,rfl⟩:=List.getElem?_eq_some_iff.mp hk
 exact List.pairwise_iff_getElem.mp h i k h1 h2 hik
theorem below_go{xs:Array Nat}(h:xs.toList.Pairwise (· < ·))(j:Nat):∀(fuel lo hi:Nat),hi-lo<=fuel->lo<=hi->hi<=xs.size->(∀i v,i<lo->xs[i]?=some v->v<j)->(∀i v,hi<=i->xs[i]?=some v->j<=v)->
  Low xs j (below.go xs j fuel lo hi)
 | 0,lo,hi,h1,h2,h3,a,b=>by
  have e:lo=hi:=by omega
  subst e
  exact⟨h3,a,b⟩
 | fuel+1,lo,hi,h1,h2,h3,a,b=>by
  unfold below.go
  by_cases hlt:lo<hi
  .rw[if_pos hlt]
   have hm:(lo+hi)/2<xs.size:=by omega
   have e:xs.getD ((lo+hi)/2) j=xs[(lo+hi)/2]:=by simp[Array.getD,hm]
   have e':xs[(lo+hi)/2]?=some xs[(lo+hi)/2]:=by simp[hm]
   dsimp only
   rw[e]
   by_cases hc:xs[(lo+hi)/2]<j
   .rw[if_pos hc]
    refine below_go h j fuel _ _ (by omega) (by omega) h3 (fun i v hi' hv=>?_) b
    by_cases q:i=(lo+hi)/2
    .subst q;rw[e']at hv;cases hv;exact hc
    .have:=rise_at h hv e' (by omega)
     omega
   .rw[if_neg hc]
    refine below_go h j fuel _ _ (by omega) (by omega) (by omega) a (fun i v hi' hv=>?_)
    by_cases q:i=(lo+hi)/2
    .subst q;rw[e']at hv;cases hv;omega
    .have:=rise_at h e' hv (by omega)
     omega
  .rw[if_neg hlt]
   have e:lo=hi:=by omega
   subst e
   exact⟨h3,a,b⟩
theorem below_low{xs:Array Nat}(h:xs.toList.Pairwise (· < ·))(j:Nat):Low xs j (below xs j):=
 below_go h j xs.size 0 xs.size (by omega) (by omega) (Nat.le_refl _) (fun i v hi=>by omega) (fun i v hi hv=>by
  have:=(Array.getElem?_eq_some_iff.mp hv).1
  omega)
theorem below_at{xs:Array Nat}(h:xs.toList.Pairwise (· < ·)){i j:Nat}(hi:xs[i]?=some j):below xs j=i:=by
 obtain⟨a,b,c⟩:=below_low h j
 by_cases q:i<below xs j
 .have:=b i j q hi;omega
 by_cases q2:below xs j<i
 .have hl:=(Array.getElem?_eq_some_iff.mp hi).1
  have e':xs[below xs j]?=some xs[below xs j]:=by simp
  have:=rise_at h e' hi q2
  have:=c _ _ (Nat.le_refl _) e'
  omega
 .omega
theorem slot_live{t:SetTable}(h:t.place.toList.Pairwise (· < ·)){i j:Nat}(hi:t.place[i]?=some j):t.slot j=.live i:=by
 unfold slot
 rw[below_at h hi]
 dsimp only
 rw[hi,if_pos (by simp)]
theorem slot_empty{t:SetTable}(h:t.place.toList.Pairwise (· < ·))(hd:t.dummies=#[]){j:Nat}(hj:j∉t.place.toList):t.slot j=.empty:=by
 unfold slot
 dsimp only
 rw[if_neg,if_neg]
 .rw[hd];unfold has;simp
 .intro e
  have e':t.place[below t.place j]?=some j:=by simpa using e
  apply hj
  rw[<-Array.getElem?_toList]at e'
  exact List.mem_of_getElem? e'
theorem place_at{t:SetTable}{j:Nat}(hj:j∈t.place.toList):∃i:Nat,t.place[i]?=some j:=by
 obtain⟨i,h⟩:=List.getElem?_of_mem hj
 exact⟨i,by rw[<-Array.getElem?_toList];exact h⟩
theorem insertAt_list{α:Type}(xs:Array α)(p:Nat)(x:α):(insertAt xs p x).toList=xs.toList.take p++x::xs.toList.drop p:=by
 unfold insertAt
 simp[Array.toList_extract]
 rw[List.take_of_length_le (by simp)]
theorem insert_rise{xs:Array Nat}(h:xs.toList.Pairwise (· < ·)){j:Nat}(hj:j∉xs.toList):(insertAt xs (below xs j) j).toList.Pairwise (· < ·):=by
 obtain⟨a,b,c⟩:=below_low h j
 rw[insertAt_list,List.pairwise_append]
 refine⟨h.sublist (List.take_sublist _ _),?_,?_⟩
 .rw[List.pairwise_cons]
  refine⟨fun v hv=>?_,h.sublist (List.drop_sublist _ _)⟩
  obtain⟨i,hi⟩:=List.getElem?_of_mem hv
  rw[List.getElem?_drop,Array.getElem?_toList]at hi
  have:=c _ v (by omega) hi
  have:v≠j:=fun e=>hj (by rw[<-e];rw[<-Array.getElem?_toList]at hi;exact List.mem_of_getElem? hi)
  omega
 .intro u hu v hv
  obtain⟨i,hi⟩:=List.getElem?_of_mem hu
  have hi2:i<below xs j:=by
   have:=(List.getElem?_eq_some_iff.mp hi).1
   rw[List.length_take]at this
   omega
  rw[List.getElem?_take_of_lt hi2,Array.getElem?_toList]at hi
  have h1:=b i u hi2 hi
  rcases List.mem_cons.mp hv with rfl|hv
  .exact h1
  .obtain⟨i',hi'⟩:=List.getElem?_of_mem hv
   rw[List.getElem?_drop,Array.getElem?_toList]at hi'
   have:=c _ v (by omega) hi'
   omega
noncomputable def Side(ps:List Nat)(es:List (Int×Value))(j:Nat)(e:Int×Value):Prop:=∃i:Nat,ps[i]?=some j/\es[i]?=some e
theorem side_insert{ps:List Nat}{es:List (Int×Value)}(hl:ps.length=es.length)(p j0:Nat)(hp:p<=ps.length)(e0:Int×Value){j:Nat}{e:Int×Value} :
  Side (ps.take p++j0::ps.drop p) (es.take p++e0::es.drop p) j e↔(j=j0/\e=e0)\/Side ps es j e:=by
 have l1:(ps.take p).length=p:=by rw[List.length_take];omega
 have l2:(es.take p).length=p:=by rw[List.length_take];omega
 constructor
 .rintro⟨i,h1,h2⟩
  by_cases hi:i<p
  .rw[List.getElem?_append_left (by omega),List.getElem?_take_of_lt hi]at h1 h2
   exact .inr ⟨i,h1,h2⟩
  .rw[List.getElem?_append_right (by omega),l1]at h1
   rw[List.getElem?_append_right (by omega),l2]at h2
   cases hq:i-p with
   | zero=>rw[hq]at h1 h2;cases h1;cases h2;exact .inl ⟨rfl,rfl⟩
   | succ q=>
    rw[hq,List.getElem?_cons_succ,List.getElem?_drop]at h1 h2
    exact .inr ⟨p+q,h1,h2⟩
 .rintro(⟨rfl,rfl⟩|⟨i,h1,h2⟩)
  .exact⟨p,by rw[List.getElem?_append_right (by omega),l1,Nat.sub_self];rfl,by rw[List.getElem?_append_right (by omega),l2,Nat.sub_self];rfl⟩
  .by_cases hi:i<p
   .exact⟨i,by rw[List.getElem?_append_left (by omega),List.getElem?_take_of_lt hi];exact h1,by rw[List.getElem?_append_left (by omega),List.getElem?_take_of_lt hi];exact h2⟩
   .refine⟨i+1,?_,?_⟩
    .rw[List.getElem?_append_right (by omega),l1,show i+1-p=(i-p)+1 by omega,List.getElem?_cons_succ,List.getElem?_drop,show p+(i-p)=i by omega];exact h1
    .rw[List.getElem?_append_right (by omega),l2,show i+1-p=(i-p)+1 by omega,List.getElem?_cons_succ,List.getElem?_drop,show p+(i-p)=i by omega];exact h2
noncomputable def st0(mask:Nat)(h:Int):Probe:=at0 mask (bits h % (mask+1),bits h) none
theorem start_eq(t:SetTable)(h:Int):t.probeStart h=st0 t.mask h:=rfl
noncomputable def road(mask:Nat)(h:Int)(n:Nat):Nat:=(itn (adv mask) n (st0 mask h)).j
theorem bits_lt(h:Int):bits h<2^64:=by unfold bits;omega
noncomputable def Stand(mask:Nat)(p:Probe):Prop:=p.more<=9/\p.perturb<2^64/\p.j+p.more<=mask
theorem at0_stand(mask:Nat)(x:Nat×Nat)(d:Option Nat)(h1:x.1<=mask)(h2:x.2<2^64):Stand mask (at0 mask x d):=by
 refine⟨run_le mask x.1,h2,?_⟩
 show x.1+(runEnd mask x.1-x.1)<=mask
 unfold runEnd
 split<;>omega
theorem adv_stand{mask:Nat}{p:Probe}(h:Stand mask p):Stand mask (adv mask p):=by
 obtain⟨h1,h2,h3⟩:=h
 unfold adv
 split
 .exact⟨by simp only;omega,h2,by simp only;omega⟩
 .refine at0_stand mask (leap mask p.i p.perturb) p.dummy ?_ ?_
  .show(p.i*5+1+p.perturb/32) % (mask+1)<=mask
   have:=Nat.mod_lt (p.i*5+1+p.perturb/32) (show 0<mask+1 by omega)
   omega
  .show p.perturb/32<2^64
   omega
theorem itn_stand{mask:Nat}:∀(n:Nat) {p:Probe},Stand mask p->Stand mask (itn (adv mask) n p)
 | 0,_,h=>h
 | n+1,_,h=>itn_stand n (adv_stand h)
theorem st0_stand(mask:Nat)(h:Int):Stand mask (st0 mask h):=at0_stand mask _ _ (by
 have:=Nat.mod_lt (bits h) (show 0<mask+1 by omega)
 show bits h % (mask+1)<=mask
 omega) (bits_lt h)
theorem road_le(mask:Nat)(h:Int)(n:Nat):road mask h n<=mask:=by
 have:=(itn_stand n (st0_stand mask h)).2.2
 unfold road
 omega
structure TOk(t:SetTable)(es:Array (Int×Value)):Prop where
 two:∃k,t.mask+1=2^k/\3<=k/\k<=13/\k % 2=1
 dm:t.dummies=#[]
 rise:t.place.toList.Pairwise (· < ·)
 bd:∀j∈t.place.toList,j<=t.mask
 sz:t.place.size=es.size
 fit:t.place.size<=t.mask
 onroad:∀j e,Side t.place.toList es.toList j e->∃n,road t.mask e.1 n=j/\∀n',n'<n->road t.mask e.1 n'∈t.place.toList
theorem pigeon{ps:List Nat}{m:Nat}(h:ps.length<=m):∃j,j<=m/\j∉ps:=by
 apply Classical.byContradiction
 intro hn
 have hall:∀j,j<=m->j∈ps:=fun j hj=>Classical.byContradiction fun q=>hn ⟨j,hj,q⟩
 have:=List.Nodup.length_le_of_subset (l₁:=List.range (m+1)) (l₂:=ps) List.nodup_range (fun j hj=>hall j (by have:=List.mem_range.mp hj;omega))
 rw[List.length_range]at this
 omega
theorem go_spec{t:SetTable}{es:Array (Int×Value)}(ok:TOk t es)(hashAt:Nat->Int)(h:Int):∀(fuel:Nat) (p:Probe),(∃n,n<fuel/\(itn (adv t.mask) n p).j∉t.place.toList)->
  (∃n,probe.go t hashAt h fuel p=some (.empty (itn (adv t.mask) n p).j p.dummy)/\(itn (adv t.mask) n p).j∉t.place.toList/\∀n',n'<n->∃i:Nat,t.place[i]?=some (itn (adv t.mask) n' p).j/\hashAt i≠h)\/
  (∃n i,probe.go t hashAt h fuel p=some (.candidate (itn (adv t.mask) n p).j i (itn (adv t.mask) (n+1) p))/\t.place[i]?=some (itn (adv t.mask) n p).j/\hashAt i=h/\∀n',n'<n->∃i':Nat,t.place[i']?=some (itn (adv t.mask) n' p).j/\hashAt i'≠h)
 | 0,p,⟨n,hn,_⟩=>by omega
 | fuel+1,p,⟨n,hn,hfree⟩=>by
  by_cases hp:p.j∈t.place.toList
  .obtain⟨i,hi⟩:=place_at hp
   have hs:=slot_live ok.rise hi
   by_cases hh:hashAt i=h
   .refine .inr (x_EE 0 i ⟨?_,hi,hh,fun n' hn'=>by omega⟩)
    unfold probe.go
    rw[hs]
    dsimp only
    rw[if_pos (by simp[hh])]
    rfl
   .have hrest:∃n,n<fuel/\(itn (adv t.mask) n (adv t.mask p)).j∉t.place.toList:=by
     cases n with
     | zero=>exact absurd hp hfree
     | succ n=>exact⟨n,by omega,hfree⟩
    have hgo:probe.go t hashAt h (fuel+1) p=probe.go t hashAt h fuel (adv t.mask p):=by
     rw[probe.go,hs]
     dsimp only
     rw[if_neg (by simp[hh])]
     rfl
    have hd:(adv t.mask p).dummy=p.dummy:=by unfold adv;split<;>rfl
    have lift:∀{n:Nat},(∀n',n'<n->∃i':Nat,t.place[i']?=some (itn (adv t.mask) n' (adv t.mask p)).j/\hashAt i'≠h)->∀n',n'<n+1->∃i':Nat,t.place[i']?=some (itn (adv t.mask) n' p).j/\hashAt i'≠h:=fun H n' hn'=>by
     cases n' with
     | zero=>exact⟨i,hi,hh⟩
     | succ n'=>exact H n' (by omega)
    rcases go_spec ok hashAt h fuel (adv t.mask p) hrest with ⟨m,e,f,g⟩|⟨m,i',e,f,g,g'⟩
    .exact .inl ⟨m+1,by rw[hgo,e,hd];rfl,f,lift g⟩
    .exact .inr (x_EE (m+1) i' ⟨by rw[hgo,e];rfl,f,g,lift g'⟩)
  .refine .inl ⟨0,?_,hp,fun n' hn'=>by omega⟩
   unfold probe.go
   rw[slot_empty ok.rise ok.dm hp]
   rfl
theorem probe_spec{t:SetTable}{es:Array (Int×Value)}(ok:TOk t es)(hashAt:Nat->Int)(h:Int){p:Probe}(st:Stand t.mask p) :
  (∃n,t.probe hashAt h p=some (.empty (itn (adv t.mask) n p).j p.dummy)/\(itn (adv t.mask) n p).j∉t.place.toList/\∀n',n'<n->∃i:Nat,t.place[i]?=some (itn (adv t.mask) n' p).j/\hashAt i≠h)\/
  (∃n i,t.probe hashAt h p=some (.candidate (itn (adv t.mask) n p).j i (itn (adv t.mask) (n+1) p))/\t.place[i]?=some (itn (adv t.mask) n p).j/\hashAt i=h/\∀n',n'<n->∃i':Nat,t.place[i']?=some (itn (adv t.mask) n' p).j/\hashAt i'≠h):=by
 obtain⟨k,hk,_,_⟩:=ok.two
 obtain⟨j,hj,hn⟩:=pigeon (ps:=t.place.toList) (m:=t.mask) (by rw[Array.length_toList];exact ok.fit)
 obtain⟨n,hl,e⟩:=reach hk p st.1 st.2.1 j hj
 exact go_spec ok hashAt h _ p ⟨n,hl,by rw[e];exact hn⟩
theorem TOk.ahead{t:SetTable}{es:Array (Int×Value)}(ok:TOk t es){j:Nat}{e:Int×Value}(hs:Side t.place.toList es.toList j e){n:Nat}(hf:road t.mask e.1 n∉t.place.toList):∃m,m<n/\road t.mask e.1 m=j:=by
 obtain⟨m,h1,h2⟩:=ok.onroad j e hs
 refine⟨m,?_,h1⟩
 apply Classical.byContradiction
 intro hm
 by_cases q:n<m
 .exact hf (h2 n q)
 .have:m=n:=by omega
  subst this
  rw[h1]at hf
  obtain⟨i,hi,_⟩:=hs
  exact hf (List.mem_of_getElem? hi)
theorem TOk.put{t:SetTable}{es:Array (Int×Value)}(ok:TOk t es){h:Int}{x:Value}{n:Nat}(hf:road t.mask h n∉t.place.toList)(hr:∀n',n'<n->road t.mask h n'∈t.place.toList)(hroom:t.place.size+1<=t.mask) :
  TOk (t.put (road t.mask h n)).1 (insertAt es (t.put (road t.mask h n)).2 (h,x))/\(t.put (road t.mask h n)).1.mask=t.mask/\(t.put (road t.mask h n)).2<=es.size/\(t.put (road t.mask h n)).1.place.size=t.place.size+1:=by
 have hlow:=below_low ok.rise (road t.mask h n)
 have hnod:has t.dummies (road t.mask h n)=false:=by rw[ok.dm];unfold has;simp
 have hput:t.put (road t.mask h n)=({t with place:=insertAt t.place (below t.place (road t.mask h n)) (road t.mask h n),dummies:=#[]},below t.place (road t.mask h n)):=by
  unfold SetTable.put
  rw[hnod,ok.dm]
  rfl
 rw[hput]
 have hsize:(insertAt t.place (below t.place (road t.mask h n)) (road t.mask h n)).size=t.place.size+1:=by
  rw[<-Array.length_toList,insertAt_list,List.length_append,List.length_cons,List.length_take,List.length_drop,Array.length_toList]
  have:=hlow.1
  omega
 have hsz:=ok.sz
 have hmem:∀j,j∈(insertAt t.place (below t.place (road t.mask h n)) (road t.mask h n)).toList↔j=road t.mask h n\/j∈t.place.toList:=fun j=>by
  rw[insertAt_list]
  constructor
  .intro hj
   rcases List.mem_append.mp hj with q|q
   .exact .inr (List.mem_of_mem_take q)
   .rcases List.mem_cons.mp q with q|q
    .exact .inl q
    .exact .inr (List.mem_of_mem_drop q)
  .rintro(rfl|hj)
   .exact List.mem_append_right _ List.mem_cons_self
   .rw[<-List.take_append_drop (below t.place (road t.mask h n)) t.place.toList]at hj
    rcases List.mem_append.mp hj with q|q
    .exact List.mem_append_left _ q
    .exact List.mem_append_right _ (List.mem_cons_of_mem _ q)
 refine⟨⟨ok.two,rfl,insert_rise ok.rise hf,?_,?_,?_,?_⟩,rfl,?_,hsize⟩
 .intro j hj
  rcases(hmem j).mp hj with rfl|q
  .exact road_le _ _ _
  .exact ok.bd j q
 .show(insertAt t.place _ _).size=(insertAt es (below t.place (road t.mask h n)) (h,x)).size
  rw[hsize,<-Array.length_toList (xs:=insertAt es _ _),insertAt_list,List.length_append,List.length_cons,List.length_take,List.length_drop,Array.length_toList]
  have:=hlow.1
  omega
 .show(insertAt t.place _ _).size<=t.mask
  rw[hsize];exact hroom
 .intro j e hs
  have hs':Side (t.place.toList.take (below t.place (road t.mask h n))++road t.mask h n::t.place.toList.drop (below t.place (road t.mask h n))) (es.toList.take (below t.place (road t.mask h n))++(h,x)::es.toList.drop (below t.place (road t.mask h n))) j e:=by
   have hs2:Side (insertAt t.place (below t.place (road t.mask h n)) (road t.mask h n)).toList (insertAt es (below t.place (road t.mask h n)) (h,x)).toList j e:=hs
   rw[insertAt_list,insertAt_list]at hs2
   exact hs2
  rcases(side_insert (by rw[Array.length_toList,Array.length_toList];exact hsz) _ _ (by rw[Array.length_toList];exact hlow.1) _).mp hs' with ⟨rfl,rfl⟩|q
  .exact⟨n,rfl,fun n' hn'=>(hmem _).mpr (.inr (hr n' hn'))⟩
  .obtain⟨m,h1,h2⟩:=ok.onroad j e q
   exact⟨m,h1,fun n' hn'=>(hmem _).mpr (.inr (h2 n' hn'))⟩
 .show below t.place _<=es.size
  have:=hlow.1
  omega
theorem TOk.fits{t:SetTable}{es:Array (Int×Value)}(ok:TOk t es):t.fits es.size=true:=by
 unfold SetTable.fits SetTable.fill
 rw[ok.dm]
 simp[ok.sz]
 have:=ok.fit
 have:=ok.sz
 omega
theorem TOk.noway{t:SetTable}{es:Array (Int×Value)}(ok:TOk t es):t.gaveWay=false:=by
 obtain⟨k,hk,h3,_⟩:=ok.two
 unfold SetTable.gaveWay
 have:2^k % 2=0:=by
  rw[show k=(k-1)+1 by omega,Nat.pow_succ]
  omega
 simp
 omega
theorem TOk.fresh(finger moves:Nat)(led:Bool):TOk (.fresh finger moves led) #[]:=
 ⟨⟨3,rfl,by decide,by decide,rfl⟩,rfl,List.Pairwise.nil,(fun j hj=>by cases hj),rfl,(by show 0<=7;decide),(fun j e ⟨i,h,_⟩=>by simp[SetTable.fresh]at h)⟩
theorem reachL{mask k:Nat}(hk:mask+1=2^k)(x:Nat×Nat)(hp:x.2<2^64)(j:Nat)(hj:j<=mask):∃m,m<turns mask/\(itn (lp mask) m x).1=j:=by
 have hz:(itn (lp mask) 13 x).2<32^(13-13):=per_small mask 13 x 13 (Nat.lt_of_lt_of_le hp (by decide))
 have hz0:(itn (lp mask) 13 x).2=0:=by simpa using hz
 have hi:(itn (lp mask) 13 x).1<2^k:=by
  rw[itn_succ]
  exact lp_lt hk _
 have e0:∀m,itn (lp mask) (13+m) x=itn (lp mask) m (itn (lp mask) 13 x):=fun m=>itn_add _ _ _ _
 generalize itn (lp mask) 13 x=y at *
 obtain⟨y1,y2⟩:=y
 simp only at hz0 hi
 subst hz0
 obtain⟨m,hm2,e3⟩:=g5_all k y1 j
 refine⟨13+m,?_,?_⟩
 .unfold turns
  omega
 .rw[e0,plain_leaps hk m y1 hi]
  show g5 m y1 % 2^k=j
  rw[e3,Nat.mod_eq_of_lt (by omega)]
theorem in_run(mask:Nat):∀(q:Nat) (p:Probe),q<=p.more->(itn (adv mask) q p).j=p.j+q
 | 0,p,_=>rfl
 | q+1,p,h=>by
  show(itn (adv mask) q (adv mask p)).j=_
  have e:adv mask p={p with j:=p.j+1,more:=p.more-1}:=by unfold adv;rw[if_pos (by omega)]
  rw[e,in_run mask q _ (by show q<=p.more-1;omega)]
  show p.j+1+q=p.j+(q+1)
  omega
noncomputable def Taken(owner:Array (Option Nat))(j:Nat):Prop:=∃q,owner[j]?=some (some q)
theorem free_spec{mask k:Nat}(hk:mask+1=2^k){owner:Array (Option Nat)}(hs:owner.size=mask+1){f:Nat}(hf:owner[f]?=some none):∀(fuel:Nat) (x:Nat×Nat),x.1<=mask->x.2<2^64->(∃m,m<fuel/\(itn (lp mask) m x).1=f)->
  ∃j n,layClean.free mask owner fuel x.1 x.2=some j/\(itn (adv mask) n (at0 mask x none)).j=j/\owner[j]?=some none/\∀n',n'<n->Taken owner (itn (adv mask) n' (at0 mask x none)).j
 | 0,x,_,_,⟨m,hm,_⟩=>by omega
 | fuel+1,x,h1,h2,⟨m,hm,em⟩=>by
  have hrun:(at0 mask x none).more=runEnd mask x.1-x.1:=rfl
  have hend:runEnd mask x.1<=mask/\x.1<=runEnd mask x.1:=by
   unfold runEnd
   split<;>omega
  have get:∀q,(hq:q<runEnd mask x.1+1-x.1)->owner.getD (x.1+q) (some 0)=owner[x.1+q]'(by omega):=fun q hq=>by
   simp only[Array.getD]
   rw[dif_pos (show x.1+q<owner.size by omega)]
   rfl
  have pos:∀q,q<runEnd mask x.1+1-x.1->(itn (adv mask) q (at0 mask x none)).j=x.1+q:=fun q hq=>in_run mask q _ (by rw[hrun];omega)
  have occ:∀q (hq:q<runEnd mask x.1+1-x.1),(owner.getD (x.1+q) (some 0)).isNone=false->Taken owner (x.1+q):=fun q hq hn=>by
   rw[get q hq]at hn
   cases hv:owner[x.1+q]'(by omega)with
   | none=>rw[hv]at hn;cases hn
   | some v=>exact⟨v,by rw[Array.getElem?_eq_getElem (by omega),hv]⟩
  unfold layClean.free
  cases hfd:(List.range (runEnd mask x.1+1-x.1)).find? fun k=>(owner.getD (x.1+k) (some 0)).isNone with
  | some q=>
   rw[List.find?_range_eq_some]at hfd
   obtain⟨a,b,c⟩:=hfd
   have hq:q<runEnd mask x.1+1-x.1:=List.mem_range.mp b
   refine(x_EE (x.1+q) q ⟨rfl,pos q hq,?_,fun n' hn'=>?_⟩)
   .rw[get q hq]at a
    rw[Array.getElem?_eq_getElem (by omega)]
    cases hv:owner[x.1+q]'(by omega)with
    | none=>rfl
    | some v=>rw[hv]at a;cases a
   .rw[pos n' (by omega)]
    exact occ n' (by omega) (by simpa using c n' hn')
  | none=>
   rw[List.find?_range_eq_none]at hfd
   dsimp only
   cases m with
   | zero=>
    have e0:x.1=f:=em
    have:=hfd 0 (by omega)
    rw[Nat.add_zero]at this
    have g:=get 0 (by omega)
    simp only[Nat.add_zero]at g
    rw[g]at this
    subst e0
    rw[Array.getElem?_eq_getElem (by omega)]at hf
    injection hf with hf
    rw[hf]at this
    cases this
   | succ m=>
    have hl1:(lp mask x).1<=mask:=by have:=lp_lt hk x;omega
    have hl2:(lp mask x).2<2^64:=by show x.2/32<2^64;omega
    obtain⟨j,n,e1,e2,e3,e4⟩:=free_spec hk hs hf fuel (lp mask x) hl1 hl2 ⟨m,by omega,em⟩
    have tl:=to_leap mask _ (at0 mask x none) rfl
    refine(x_EE j ((at0 mask x none).more+1+n) ⟨e1,?_,e3,fun n' hn'=>?_⟩)
    .rw[itn_add,tl];exact e2
    .by_cases hq:n'<(at0 mask x none).more+1
     .have hq':n'<runEnd mask x.1+1-x.1:=by rw[hrun]at hq;omega
      rw[pos n' hq']
      exact occ n' hq' (by simpa using hfd n' hq')
     .have:=e4 (n'-((at0 mask x none).more+1)) (by omega)
      rw[show n'=(at0 mask x none).more+1+(n'-((at0 mask x none).more+1)) by omega,itn_add,tl]
      exact this
structure Own(mask:Nat)(hs:List Int)(owner:Array (Option Nat))(k:Nat):Prop where
 size:owner.size=mask+1
 o1:∀j q:Nat,owner[j]?=some (some q)->q<k/\∃h,hs[q]?=some h/\∃n,road mask h n=j/\∀n',n'<n->Taken owner (road mask h n')
 o2:∀q:Nat,q<k->∃j:Nat,owner[j]?=some (some q)
 o3:∀j j' q:Nat,owner[j]?=some (some q)->owner[j']?=some (some q)->j=j'
theorem Own.free{mask:Nat}{hs:List Int}{owner:Array (Option Nat)}{k:Nat}(o:Own mask hs owner k)(hk:k<=mask):∃f,f<=mask/\owner[f]?=some none:=by
 apply Classical.byContradiction
 intro hn
 have hall:∀j,j<=mask->∃q,owner[j]?=some (some q):=fun j hj=>by
  have hj':j<owner.size:=by rw[o.size];omega
  cases hv:owner[j]with
  | none=>exact absurd ⟨j,hj,by rw[Array.getElem?_eq_getElem hj',hv]⟩ hn
  | some q=>exact⟨q,by rw[Array.getElem?_eq_getElem hj',hv]⟩
 have val:∀(j q:Nat),owner[j]?=some (some q)->((owner[j]?).getD none).getD 0=q:=fun j q h=>by rw[h];rfl
 have nd:((List.range (mask+1)).map fun j=>((owner[j]?).getD none).getD 0).Nodup:=by
  show List.Pairwise _ _
  rw[List.pairwise_map]
  refine List.Pairwise.imp_of_mem ?_ (List.nodup_range (n:=mask+1))
  intro a b ha hb hab e
  obtain⟨q,hq⟩:=hall a (by have:=List.mem_range.mp ha;omega)
  obtain⟨q',hq'⟩:=hall b (by have:=List.mem_range.mp hb;omega)
  rw[val a q hq,val b q' hq']at e
  subst e
  exact hab (o.o3 a b q hq hq')
 have:=List.Nodup.length_le_of_subset (l₂:=List.range k) nd (fun v hv=>by
  obtain⟨j,hj,rfl⟩:=List.mem_map.mp hv
  obtain⟨q,hq⟩:=hall j (by have:=List.mem_range.mp hj;omega)
  rw[val j q hq]
  exact List.mem_range.mpr (o.o1 j q hq).1)
 rw[List.length_map,List.length_range,List.length_range]at this
 omega
noncomputable def layStep(mask:Nat)(acc:Option (Array (Option Nat)×Nat))(h:Int):Option (Array (Option Nat)×Nat):=do
 let (owner,k) <-acc
 let j <-layClean.free mask owner (turns mask) (bits h % (mask+1)) (bits h)
 pure (owner.setIfInBounds j (some k),k+1)
theorem layClean_eq(mask:Nat)(hs:Array Int):layClean mask hs=(hs.toList.foldl (layStep mask) (some (Array.replicate (mask+1) none,0))).map (·.1):=by
 unfold layClean
 rw[<-Array.foldl_toList]
 rfl
theorem set_get{owner:Array (Option Nat)}{j:Nat}{v:Option Nat}(hj:j<owner.size)(i:Nat):(owner.setIfInBounds j v)[i]?=if i=j then some v else owner[i]?:=by
 rw[Array.getElem?_setIfInBounds]
 by_cases e:j=i
 .subst e;rw[if_pos rfl,if_pos hj,if_pos rfl]
 .rw[if_neg e,if_neg (Ne.symm e)]
theorem lay_fold{mask k0:Nat}(hk0:mask+1=2^k0)(hs:List Int)(hle:hs.length<=mask):∀(rest:List Int) (k:Nat) (owner:Array (Option Nat)),hs.drop k=rest->k<=hs.length->Own mask hs owner k->
  ∃owner',rest.foldl (layStep mask) (some (owner,k))=some (owner',hs.length)/\Own mask hs owner' hs.length
 | [],k,owner,hd,hk,o=>by
  have:hs.length<=k:=by
   have:=congrArg List.length hd
   rw[List.length_drop]at this
   simp at this
   omega
  have e:k=hs.length:=by omega
  subst e
  exact⟨owner,rfl,o⟩
 | h::rest,k,owner,hd,hk,o=>by
  have hkl:k<hs.length:=by
   have:=congrArg List.length hd
   rw[List.length_drop]at this
   simp at this
   omega
  have hat:hs[k]?=some h:=by
   have:(hs.drop k)[0]?=some h:=by rw[hd];rfl
   rw[List.getElem?_drop]at this
   simpa using this
  obtain⟨f,hfm,hf⟩:=o.free (by omega)
  obtain⟨m,hm,em⟩:=reachL hk0 (bits h % (mask+1),bits h) (bits_lt h) f hfm
  have hb:bits h % (mask+1)<=mask:=by have:=Nat.mod_lt (bits h) (show 0<mask+1 by omega);omega
  obtain⟨j,n,e1,e2,e3,e4⟩:=free_spec hk0 o.size hf (turns mask) (bits h % (mask+1),bits h) hb (bits_lt h) ⟨m,hm,em⟩
  have ej:road mask h n=j:=e2
  have hjs:j<owner.size:=by
   have:=(Array.getElem?_eq_some_iff.mp e3).1
   exact this
  have hstep:layStep mask (some (owner,k)) h=some (owner.setIfInBounds j (some k),k+1):=by
   show(layClean.free mask owner (turns mask) (bits h % (mask+1)) (bits h)).bind _=_
   rw[e1]
   rfl
  have tk:∀i,Taken owner i->Taken (owner.setIfInBounds j (some k)) i:=fun i ⟨q,hq⟩=>by
   by_cases e:i=j
   .exact⟨k,by rw[set_get hjs,if_pos e]⟩
   .exact⟨q,by rw[set_get hjs,if_neg e];exact hq⟩
  have o':Own mask hs (owner.setIfInBounds j (some k)) (k+1):=by
   refine⟨by rw[Array.size_setIfInBounds];exact o.size,fun i q hq=>?_,fun q hq=>?_,fun i i' q hq hq'=>?_⟩
   .rw[set_get hjs]at hq
    by_cases e:i=j
    .rw[if_pos e]at hq
     cases hq
     exact⟨by omega,(x_EAE h hat n ⟨by rw[ej,e],fun n' hn'=>tk _ (e4 n' hn')⟩)⟩
    .rw[if_neg e]at hq
     obtain⟨a,h',b,n',c,d⟩:=o.o1 i q hq
     exact⟨by omega,(x_EAE h' b n' ⟨c,fun n'' hn''=>tk _ (d n'' hn'')⟩)⟩
   .by_cases e:q=k
    .exact⟨j,by rw[set_get hjs,if_pos rfl,e]⟩
    .obtain⟨i,hi⟩:=o.o2 q (by omega)
     have:i≠j:=fun e'=>by rw[e',e3]at hi;cases hi
     exact⟨i,by rw[set_get hjs,if_neg this];exact hi⟩
   .rw[set_get hjs]at hq hq'
    by_cases e:i=j<;>by_cases e':i'=j
    .rw[e,e']
    .rw[if_pos e]at hq;rw[if_neg e']at hq'
     cases hq
     have:=(o.o1 i' k hq').1
     omega
    .rw[if_neg e]at hq;rw[if_pos e']at hq'
     cases hq'
     have:=(o.o1 i k hq).1
     omega
    .rw[if_neg e]at hq;rw[if_neg e']at hq'
     exact o.o3 i i' q hq hq'
  rw[List.foldl_cons,hstep]
  refine lay_fold hk0 hs hle rest (k+1) _ ?_ (by omega) o'
  rw[<-List.drop_drop,hd]
  rfl
theorem layClean_spec{mask k0:Nat}(hk0:mask+1=2^k0)(hs:Array Int)(hle:hs.size<=mask):∃owner,layClean mask hs=some owner/\Own mask hs.toList owner hs.size:=by
 rw[layClean_eq]
 obtain⟨o,e,ok⟩:=lay_fold hk0 hs.toList (by rw[Array.length_toList];exact hle) hs.toList 0 (Array.replicate (mask+1) none) rfl (Nat.zero_le _) (by
  refine⟨by simp,fun j q hq=>?_,fun q hq=>by omega,fun j j' q hq hq'=>?_⟩
  .rw[Array.getElem?_replicate]at hq
   split at hq<;>cases hq
  .rw[Array.getElem?_replicate]at hq
   split at hq<;>cases hq)
 rw[e]
 exact⟨o,rfl,by rw[Array.length_toList]at ok;exact ok⟩
theorem sizeAbove_go:∀(fuel k n:Nat),∃k',sizeAbove.go n fuel (2^k)=2^k'/\k<=k'/\k'<=k+fuel/\(n<2^(k+fuel)->n<2^k')/\(k'=k\/2^k'<=2*n)
 | 0,k,n=>⟨k,rfl,Nat.le_refl _,Nat.le_refl _,id,.inl rfl⟩
 | fuel+1,k,n=>by
  unfold sizeAbove.go
  by_cases h:2^k<=n
  .rw[if_pos h,show 2^k*2=2^(k+1)from (Nat.pow_succ ..).symm]
   obtain⟨k',a,b,c,d,e⟩:=sizeAbove_go fuel (k+1) n
   refine⟨k',a,by omega,by omega,fun q=>d (by rw[show k+1+fuel=k+(fuel+1) by omega];exact q),?_⟩
   rcases e with e|e
   .rw[e,Nat.pow_succ];omega
   .exact .inr e
  .rw[if_neg h]
   exact⟨k,rfl,Nat.le_refl _,by omega,fun _=>by omega,.inl rfl⟩
theorem sizeAbove_spec(n:Nat)(hn:n<2^13):∃k,sizeAbove n=2^k/\3<=k/\k<=13/\n<2^k:=by
 obtain⟨k,a,b,c,d,e⟩:=sizeAbove_go 64 3 n
 refine⟨k,a,b,?_,d (Nat.lt_trans hn (Nat.pow_lt_pow_right (by decide) (by decide)))⟩
 rcases e with e|e
 .omega
 .apply Classical.byContradiction
  intro h
  have:2^14<=2^k:=Nat.pow_le_pow_right (by decide) (by omega)
  have e14:2^14=2*2^13:=by decide
  omega
theorem sizeAbove_two(n:Nat)(h8:8<=n)(hn:n<2^13){k:Nat}(e:sizeAbove n=2^k):k<=13/\n<2^k/\2^k<=2*n:=by
 obtain⟨k',a,b,c,d,e'⟩:=sizeAbove_go 64 3 n
 obtain⟨k2,a2,_,b2,c2⟩:=sizeAbove_spec n hn
 have e1:k=k2:=(Nat.pow_right_inj (by decide)).mp (e.symm.trans a2)
 have e2:k2=k':=(Nat.pow_right_inj (by decide)).mp (a2.symm.trans a)
 subst e1
 refine⟨b2,c2,?_⟩
 rcases e' with e'|e'
 .rw[e2,e'];omega
 .rw[e2];exact e'
theorem grow_odd{m n k k':Nat}(hk:m+1=2^k)(k3:3<=k)(k13:k<=13)(ko:k % 2=1)(h1:m*3<=n*5)(h2:(n-1)*5<m*3)(h4:n<=4000)(h13:k'<=13)(l1:n*4<2^k')(l2:2^k'<=2*(n*4)):k' % 2=1:=by
 rcases(show k=3\/k=5\/k=7\/k=9\/k=11\/k=13 by omega)with rfl|rfl|rfl|rfl|rfl|rfl <;>
 rcases(show k'=0\/k'=1\/k'=2\/k'=3\/k'=4\/k'=5\/k'=6\/k'=7\/k'=8\/k'=9\/k'=10\/k'=11\/k'=12\/k'=13 by omega)with rfl|rfl|rfl|rfl|rfl|rfl|rfl|rfl|rfl|rfl|rfl|rfl|rfl|rfl<;>omega
theorem grow_small{m n k:Nat}(hk:m+1=2^k)(k3:3<=k)(k13:k<=13)(ko:k % 2=1)(h1:m*3<=n*5)(h2:(n-1)*5<m*3)(h4:n<=4000):n*4<2^13/\2<=n:=by
 rcases(show k=3\/k=5\/k=7\/k=9\/k=11\/k=13 by omega)with rfl|rfl|rfl|rfl|rfl|rfl<;>omega
theorem filterMap_all{α β:Type}{f:α->Option β}{g:α->β}:∀(l:List α),(∀x∈l,f x=some (g x))->l.filterMap f=l.map g
 | [],_=>rfl
 | a::l,h=>by
  rw[List.filterMap_cons,h a List.mem_cons_self,List.map_cons,filterMap_all l fun x hx=>h x (List.mem_cons_of_mem _ hx)]
theorem relaid_spec{t:SetTable}{es:Array (Int×Value)}{wanted:Nat}(hw:es.size*4<=wanted)(hw2:wanted<2^13)(hodd:∀k,sizeAbove wanted=2^k->k % 2=1)(hpos:0<es.size) :
  ∃t' order,t.relaid (es.map (·.1)) wanted=some (t',order)/\TOk t' (order.filterMap (es[·]?))/\(order.filterMap (es[·]?)).toList.Perm es.toList/\t'.place.size*5<t'.mask*3/\t'.led=t.led:=by
 obtain⟨k,ek,k3,k13,hn⟩:=sizeAbove_spec wanted hw2
 have ko:=hodd k ek
 have hmask:sizeAbove wanted-1+1=2^k:=by rw[ek];have:=Nat.two_pow_pos k;omega
 have hle:(es.map (·.1)).size<=sizeAbove wanted-1:=by rw[Array.size_map,ek];omega
 obtain⟨owner,eo,ok⟩:=layClean_spec hmask (es.map (·.1)) hle
 rw[Array.size_map]at ok
 generalize hm:sizeAbove wanted-1=mask at *
 let live:=(List.range (mask+1)).filterMap fun j=>(owner.getD j none).map fun q=>(j,q)
 have hlive:∀j q,(j,q)∈live↔owner[j]?=some (some q):=fun j q=>by
  show(j,q)∈(List.range (mask+1)).filterMap _↔_
  rw[List.mem_filterMap]
  constructor
  .rintro⟨a,ha,e⟩
   have hs:a<owner.size:=by rw[ok.size];exact List.mem_range.mp ha
   simp only[Array.getD,dif_pos hs]at e
   cases hv:owner[a]with
   | none=>
    have e':(owner[a]).map (fun q=>(a,q))=some (j,q):=e
    rw[hv]at e';cases e'
   | some v=>
    have e':(owner[a]).map (fun q=>(a,q))=some (j,q):=e
    rw[hv]at e';cases e'
    rw[Array.getElem?_eq_getElem hs,hv]
  .intro h
   obtain⟨hs,hv⟩:=Array.getElem?_eq_some_iff.mp h
   refine⟨j,List.mem_range.mpr (by rw[<-ok.size];exact hs),?_⟩
   simp only[Array.getD,dif_pos hs]
   show(owner[j]).map (fun q=>(j,q))=some (j,q)
   rw[hv];rfl
 have hrise:(live.map (·.1)).Pairwise (· < ·):=by
  rw[List.pairwise_map]
  show((List.range (mask+1)).filterMap _).Pairwise _
  rw[List.pairwise_filterMap]
  refine List.Pairwise.imp ?_ (List.pairwise_lt_range (n:=mask+1))
  intro a b hab x hx y hy
  obtain⟨q,_,rfl⟩:=Option.map_eq_some_iff.mp hx
  obtain⟨q',_,rfl⟩:=Option.map_eq_some_iff.mp hy
  exact hab
 have hnd:(live.map (·.2)).Nodup:=by
  show List.Pairwise _ _
  rw[List.pairwise_map]
  have h1:live.Pairwise fun a b=>a.1<b.1:=by rw[List.pairwise_map]at hrise;exact hrise
  refine List.Pairwise.imp_of_mem ?_ h1
  intro a b ha hb hab e
  have:=ok.o3 a.1 b.1 a.2 ((hlive _ _).mp ha) (by rw[e];exact(hlive _ _).mp hb)
  omega
 have hperm:(live.map (·.2)).Perm (List.range es.size):=by
  rw[List.perm_ext_iff_of_nodup hnd List.nodup_range]
  intro q
  rw[List.mem_map,List.mem_range]
  constructor
  .rintro⟨⟨j,q'⟩,h,rfl⟩
   exact(ok.o1 j q' ((hlive _ _).mp h)).1
  .intro h
   obtain⟨j,hj⟩:=ok.o2 q h
   exact⟨(j,q),(hlive _ _).mpr hj,rfl⟩
 have hlen:live.length=es.size:=by have:=hperm.length_eq;rw[List.length_map,List.length_range]at this;exact this
 have hfm:((live.map (·.2)).toArray.filterMap (es[·]?)).toList=live.map fun x=>es[x.2]?.getD (0,.none):=by
  rw[Array.toList_filterMap]
  show List.filterMap _ (live.map (·.2))=_
  rw[List.filterMap_map]
  have:∀x∈live,es[x.2]?=some (es[x.2]?.getD (0,.none)):=fun x hx=>by
   have hlt:=(ok.o1 x.1 x.2 ((hlive x.1 x.2).mp hx)).1
   rw[Array.getElem?_eq_getElem hlt];rfl
  exact filterMap_all live this
 have hesl:(live.map fun x=>es[x.2]?.getD (0,.none)).Perm es.toList:=by
  have h1:=hperm.map fun q=>es[q]?.getD (0,.none)
  rw[List.map_map]at h1
  have h2:(List.range es.size).map (fun q=>es[q]?.getD (0,.none))=es.toList:=by
   apply List.ext_getElem
   .simp
   .intro i a b
    simp
    rw[Array.getElem?_eq_getElem (by simpa using b)]
    rfl
  rw[h2]at h1
  exact h1
 refine(x_EE ⟨mask,(live.map (·.1)).toArray,#[],t.finger,t.led,t.movedTo mask,t.plain⟩ ((live.map (·.2)).toArray) ⟨?_,?_,?_,?_,rfl⟩)
 .unfold SetTable.relaid SetTable.laid
  rw[hm,eo]
  rfl
 .refine⟨⟨k,hmask,k3,k13,ko⟩,rfl,by simpa using hrise,?_,?_,?_,?_⟩
  .intro j hj
   have hj':j∈live.map (·.1):=by simpa using hj
   obtain⟨⟨j',q⟩,h,rfl⟩:=List.mem_map.mp hj'
   have:=(Array.getElem?_eq_some_iff.mp ((hlive _ _).mp h)).1
   rw[ok.size]at this
   show j'<=mask
   omega
  .rw[<-Array.length_toList (xs:=Array.filterMap _ _),hfm]
   simp
  .show(live.map (·.1)).toArray.size<=mask
   simp
   rw[Array.size_map]at hle
   omega
  .intro j e hs
   rw[hfm]at hs
   obtain⟨i,h1,h2⟩:=hs
   have h1':(live.map (·.1))[i]?=some j:=by simpa using h1
   rw[List.getElem?_map]at h1' h2
   cases hl:live[i]? with
   | none=>rw[hl]at h1';cases h1'
   | some x=>
    rw[hl]at h1' h2
    obtain⟨j',q⟩:=x
    cases h1'
    obtain⟨hq,h,a,n,b,c⟩:=ok.o1 j' q ((hlive _ _).mp (List.mem_of_getElem? hl))
    have e2:es[q]?.getD (0,.none)=e:=by cases h2;rfl
    have e3:e.1=h:=by
     rw[<-e2,Array.getElem?_eq_getElem hq]
     have a':(es.map (·.1))[q]?=some h:=by rw[<-Array.getElem?_toList];exact a
     rw[Array.getElem?_map,Array.getElem?_eq_getElem hq]at a'
     simpa using a'
    rw[e3]
    refine⟨n,b,fun n' hn'=>?_⟩
    obtain⟨q',hq'⟩:=c n' hn'
    have:road mask h n'∈live.map (·.1):=List.mem_map.mpr ⟨(road mask h n',q'),(hlive _ _).mpr hq',rfl⟩
    simpa using this
 .rw[hfm];exact hesl
 .show(live.map (·.1)).toArray.size*5<mask*3
  simp
  rw[hlen]
  omega
end L3
namespace L3
open PySem
variable{Pv:Value->PyData->Prop}
mutual
noncomputable def kd:PyData->Bool
 | .int _=>true
 | .str _=>true
 | .tuple ds=>kdAll ds
 | .none=>false
 | .bool _=>false
 | .list _=>false
 | .dict _=>false
noncomputable def kdAll:List PyData->Bool
 | []=>true
 | d::ds=>kd d&&kdAll ds
end
mutual
noncomputable def hashD(w:World):PyData->Int
 | .int i=>hashInt i
 | .str x=>hashStr w x
 | .tuple ds=>reduceHash (Builtin.Tuple.tupleHashOf (hashAll w ds))
 | .none=>0
 | .bool _=>0
 | .list _=>0
 | .dict _=>0
noncomputable def hashAll(w:World):List PyData->List Int
 | []=>[]
 | d::ds=>hashD w d::hashAll w ds
end
noncomputable def Hashes(d:PyData):Prop:=∀(prog:Program) (w:World) (A:Around) (E:Value->Shared->Prop) (s:Shared) (v:Value) (as:List Addr) (Q:Int->Shared->Prop),Reads s.heap v d as->A.units+d.depth<cLine->(∀tk,s.toks<=tk->Q (hashD w d) {s with toks:=tk})->wpAny (model prog w) A (pyHash v) Q E s
theorem hash_tuple{ds:List PyData}(H:∀d∈ds,Hashes d):Hashes (.tuple ds):=fun prog w A E s v as Q r hu h=>by
 cases r with
 | @tuple a o vs n _ _ ho hc hd hi=>
 have hT:s.TypeIs (.ref a) "tuple":=⟨o,ho,hc⟩
 have hu':A.units+(PyData.depthAll ds+1)<cLine:=hu
 unfold pyHash
 first|unfold pyHashByItsType|skip
 first|refine wpAny_bind (wpAny_cRoomFor_or (.inr (show A.units<cLine by omega)) ?_)|skip
 refine wpAny_bind (wpAny_specialOf (name:="__hash__") hT F.slot_tuple_hash.lookup ?_)
 show wpAny _ _ (if (some (Value.builtin "tuple.__hash__")==some Value.none)=true then _ else _) _ _ _
 rw[if_neg (show ¬_ by rw[beq_builtin_none];exact Bool.false_ne_true)]
 refine wpAny_bind (wpAny_specialOf (name:="__hash__") hT F.slot_tuple_hash.lookup ?_)
 show wpAny _ _ (callSpecialIfBoundUnlessNone? (.ref a) "__hash__" _ >>= _) _ _ _
 refine wpAny_bind (wpAny_callSpecialIfBoundUnlessNone?_slot (name:="__hash__") hT F.slot_tuple_hash (wpAny_call_entry (name:="__hash__") F.slot_tuple_hash hT F.entry_tuple_hash ?_ (F.args_tuple_hash_1 _)))
 show wpAny _ _ (Builtin.Tuple.tupleItemsOf (.ref a) >>= _) _ _ _
 refine wpAny_bind (wpAny_tupleItemsOf (n:=n) ho hd ?_)
 refine wpAny_bind ?_
 rw[<-Array.forIn_toList]
 refine wpAny_forIn_list _
  (fun rest (b:Array Int) s'=>∃done left bs tk,ds=done++left/\ReadsAll s.heap rest left bs/\b.toList=hashAll w done/\s'={s with toks:=tk}/\s.toks<=tk)
  _ (fun x rest b s' hI=>?_) (fun b s' hI=>?_) _ _ (x_EEEE ([]) ds as s.toks ⟨rfl,hi,rfl,rfl,Nat.le_refl _⟩)
 .obtain⟨done,left,bs,tk,e,hl,hb,rfl,hk⟩:=hI
  cases hl with
  | @cons _ _ d ds' _ _ h1 hl'=>
   have hmem:d∈ds:=by rw[e];simp
   have hdep:∀(l:List PyData),d∈l->d.depth<=PyData.depthAll l:=fun l=>by
    induction l with
    | nil=>intro q;cases q
    | cons y l ih=>
     intro q
     show _<=max y.depth (PyData.depthAll l)
     rcases List.mem_cons.mp q with rfl|q
     .exact Nat.le_max_left _ _
     .exact Nat.le_trans (ih q) (Nat.le_max_right _ _)
   have hd1:=hdep ds hmem
   refine wpAny_bind (H d hmem prog w _ E {s with toks:=tk} x _ _ h1 (by show A.units+1+d.depth<cLine;omega) fun tk' hk'=>?_)
   have hap:∀(l:List PyData),hashAll w (l++[d])=hashAll w l++[hashD w d]:=fun l=>by
    induction l with
    | nil=>rfl
    | cons y l ih=>show hashD w y::hashAll w (l++[d])=_;rw[ih];rfl
   first
    | exact wpAny_pure (x_EEEE (done++[d]) ds' _ tk' ⟨by simp[e],hl',by simp[hb,hap],rfl,Nat.le_trans hk hk'⟩)
    | exact wpAny_bind (wpAny_pure (wpAny_pure ⟨done++[d],ds',_,tk',by simp[e],hl',by simp[hb,hap],rfl,Nat.le_trans hk hk'⟩))
 .obtain⟨done,left,bs,tk,e,hl,hb,rfl,hk⟩:=hI
  cases hl
  rw[List.append_nil]at e
  subst e
  show wpAny _ _ (retInt (Builtin.Tuple.tupleHashOf b.toList)) _ _ _
  rw[hb]
  refine wpAny_ret_mkInt ?_
  show wpAny _ _ (if (decide (-(2:Int)^63<=Builtin.Tuple.tupleHashOf (hashAll w ds))&&decide (Builtin.Tuple.tupleHashOf (hashAll w ds)<2^63))=true then _ else _) _ _ _
  have h':∀tk,s.toks<=tk->Q (reduceHash (Builtin.Tuple.tupleHashOf (hashAll w ds))) {s with toks:=tk}:=h
  unfold reduceHash at h'
  split
  .rename_i hr
   rw[if_pos hr]at h'
   exact wpAny_pure (h' _ (by simp only;omega))
  .rename_i hr
   rw[if_neg hr]at h'
   exact wpAny_bind (wpAny_rule (wpAny_pure (h' _ (by simp only;omega))))
mutual
theorem hash_reads:∀(d:PyData),kd d=true->Hashes d
 | .int i,_=>fun prog w A E s v as Q r hu h=>by
  cases r with
  | int=>exact wpAny_pyHash_int (h _ (by omega))
 | .str x,_=>fun prog w A E s v as Q r hu h=>by
  cases r with
  | str=>exact wpAny_pyHash_str (h _ (by omega))
 | .tuple ds,hk=>hash_tuple (hash_readsAll ds hk)
 | .none,hk=>absurd hk Bool.false_ne_true
 | .bool _,hk=>absurd hk Bool.false_ne_true
 | .list _,hk=>absurd hk Bool.false_ne_true
 | .dict _,hk=>absurd hk Bool.false_ne_true
theorem hash_readsAll:∀(ds:List PyData),kdAll ds=true->∀d∈ds,Hashes d
 | [],_,d,hd=>by cases hd
 | e::ds,hk,d,hd=>by
  have hk':(kd e&&kdAll ds)=true:=hk
  rw[Bool.and_eq_true]at hk'
  rcases List.mem_cons.mp hd with h|hd
  .rw[h];exact hash_reads e hk'.1
  .exact hash_readsAll ds hk'.2 d hd
end
mutual
theorem eqv_kd:∀(d e:PyData),kd d=true->kd e=true->PyData.eqv d e=true->d=e
 | .int i,e,_,he,h=>by
  cases e<;>simp[PyData.eqv,kd]at h he⊢
  exact h
 | .str x,e,_,he,h=>by
  cases e<;>simp[PyData.eqv,kd]at h he⊢
  exact h
 | .tuple ds,e,hd,he,h=>by
  cases e with
  | tuple es=>
   have:=eqv_kdAll ds es hd he (by simpa [PyData.eqv]using h)
   rw[this]
  | _=>simp[PyData.eqv,kd]at h he
 | .none,_,hd,_,_=>absurd hd Bool.false_ne_true
 | .bool _,_,hd,_,_=>absurd hd Bool.false_ne_true
 | .list _,_,hd,_,_=>absurd hd Bool.false_ne_true
 | .dict _,_,hd,_,_=>absurd hd Bool.false_ne_true
theorem eqv_kdAll:∀(ds es:List PyData),kdAll ds=true->kdAll es=true->PyData.eqvAll ds es=true->ds=es
 | [],[],_,_,_=>rfl
 | [],_::_,_,_,h=>by simp[PyData.eqvAll]at h
 | _::_,[],_,_,h=>by simp[PyData.eqvAll]at h
 | d::ds,e::es,hd,he,h=>by
  have hd':(kd d&&kdAll ds)=true:=hd
  have he':(kd e&&kdAll es)=true:=he
  rw[Bool.and_eq_true]at hd' he'
  have h':PyData.eqv d e=true/\PyData.eqvAll ds es=true:=by simpa [PyData.eqvAll]using h
  rw[eqv_kd d e hd'.1 he'.1 h'.1,eqv_kdAll ds es hd'.2 he'.2 h'.2]
end
theorem reads_all_mem{h:Heap}:∀{vs:List Value} {ds:List PyData} {as:List Addr},ReadsAll h vs ds as->∀v∈vs,∃d bs,d∈ds/\Reads h v d bs
 | _,_,_,.nil,v,hv=>by cases hv
 | _,_,_,.cons h1 h2,v,hv=>by
  rcases List.mem_cons.mp hv with e|hv
  .rw[e];exact(x_EE _ _ ⟨List.mem_cons_self,h1⟩)
  .obtain⟨d,bs,q1,q2⟩:=reads_all_mem h2 v hv
   exact(x_EE d bs ⟨List.mem_cons_of_mem _ q1,q2⟩)
theorem kd_mem:∀{ds:List PyData},kdAll ds=true->∀d∈ds,kd d=true
 | [],_,d,hd=>by cases hd
 | e::ds,hk,d,hd=>by
  have hk':(kd e&&kdAll ds)=true:=hk
  rw[Bool.and_eq_true]at hk'
  rcases List.mem_cons.mp hd with h|hd
  .rw[h];exact hk'.1
  .exact kd_mem hk'.2 d hd
theorem dep_mem:∀{ds:List PyData},∀d∈ds,d.depth<=PyData.depthAll ds
 | [],d,hd=>by cases hd
 | e::ds,d,hd=>by
  show _<=max e.depth (PyData.depthAll ds)
  rcases List.mem_cons.mp hd with h|hd
  .rw[h];exact Nat.le_max_left _ _
  .exact Nat.le_trans (dep_mem d hd) (Nat.le_max_right _ _)
section
variable{prog:Program}{w:World}{A:Around}{E:Value->Shared->Prop}{s:Shared}
theorem quiet_reads(n:Nat):∀{v:Value} {d:PyData} {as:List Addr} {Q:Bool->Shared->Prop},kd d=true->Reads s.heap v d as->d.depth<n->Q true s->wpAny (model prog w) A (eqIsQuiet n v) Q E s:=by
 induction n with
 | zero=>intro v d as Q hk r hn q;exact absurd hn (Nat.not_lt_zero _)
 | succ n ih=>
  intro v d as Q hk r hn q
  cases d with
  | int i=>cases r with|int=>rw[eqIsQuiet_byValue _ rfl];exact wpAny_pure q
  | str x=>cases r with|str=>rw[eqIsQuiet_byValue _ rfl];exact wpAny_pure q
  | tuple ds=>
    cases r with
    | @tuple a o vs m _ _ ho hc hd hi=>
    have hT:s.TypeIs (.ref a) "tuple":=⟨o,ho,hc⟩
    have hn':PyData.depthAll ds+1<n+1:=hn
    unfold eqIsQuiet
    refine wpAny_bind (wpAny_specialOf (name:="__eq__") hT F.slot_tuple_eq.lookup ?_)
    show wpAny _ _ (isInstance (.ref a) (.type "tuple") >>= _) _ _ _
    refine wpAny_bind (wpAny_isInstance (T:="tuple") hT isSubtype_tuple_tuple ?_)
    simp only[Bool.not_true,Bool.false_eq_true,if_false]
    refine wpAny_bind (wpAny_seqItems (n:=m) ho hd ?_)
    refine wpAny_bind ?_
    show wpAny _ _ (forIn vs _ _) _ _ _
    rw[<-Array.forIn_toList]
    refine wpAny_forIn_list _ (fun rest r s'=>r.1=none/\s'=s/\∀v∈rest,v∈vs.toList) _ (fun v rest r s' hI=>?_) (fun r s' hI=>?_) _ _ ⟨rfl,rfl,fun v hv=>hv⟩
    .obtain⟨hr,es,hall⟩:=hI
     rw[es]
     obtain⟨d,bs,hd1,hd2⟩:=reads_all_mem hi v (hall v List.mem_cons_self)
     refine wpAny_bind (ih (kd_mem hk d hd1) hd2 (by have:=dep_mem d hd1;omega) ?_)
     simp only[Bool.not_true,Bool.false_eq_true,if_false]
     exact wpAny_pure ⟨rfl,rfl,fun u hu=>hall u (List.mem_cons_of_mem _ hu)⟩
    .obtain⟨r1,r2⟩:=r
     obtain⟨hr,rfl,_⟩:=hI
     simp only at hr
     subst hr
     exact wpAny_pure q
  | none=>exact absurd hk Bool.false_ne_true
  | bool _=>exact absurd hk Bool.false_ne_true
  | list _=>exact absurd hk Bool.false_ne_true
  | dict _=>exact absurd hk Bool.false_ne_true
theorem plain_reads(n:Nat):∀{v:Value} {d:PyData} {as:List Addr} {Q:Bool->Shared->Prop},kd d=true->Reads s.heap v d as->d.depth<n->Q false s->wpAny (model prog w) A (ofAClassStatement n v) Q E s:=by
 induction n with
 | zero=>intro v d as Q hk r hn q;exact absurd hn (Nat.not_lt_zero _)
 | succ n ih=>
  intro v d as Q hk r hn q
  cases d with
  | int i=>cases r with|int=>unfold ofAClassStatement;exact wpAny_pure q
  | str x=>cases r with|str=>unfold ofAClassStatement;exact wpAny_pure q
  | tuple ds=>
    cases r with
    | @tuple a o vs m _ _ ho hc hd hi=>
    have hT:s.TypeIs (.ref a) "tuple":=⟨o,ho,hc⟩
    have hn':PyData.depthAll ds+1<n+1:=hn
    unfold ofAClassStatement
    refine wpAny_bind (wpAny_typeOf (T:="tuple") hT ?_)
    dsimp only
    rw[if_pos (by decide)]
    refine wpAny_bind (wpAny_pure ?_)
    simp only[Bool.not_true,Bool.false_eq_true,if_false]
    refine wpAny_bind (wpAny_seqItems (n:=m) ho hd ?_)
    dsimp only
    refine wpAny_bind ?_
    rw[<-Array.forIn_toList]
    refine wpAny_forIn_list _ (fun rest r s'=>r.1=none/\s'=s/\∀v∈rest,v∈vs.toList) _ (fun v rest r s' hI=>?_) (fun r s' hI=>?_) _ _ ⟨rfl,rfl,fun v hv=>hv⟩
    .obtain⟨hr,es,hall⟩:=hI
     rw[es]
     obtain⟨d,bs,hd1,hd2⟩:=reads_all_mem hi v (hall v List.mem_cons_self)
     refine wpAny_bind (ih (kd_mem hk d hd1) hd2 (by have:=dep_mem d hd1;omega) ?_)
     simp only[Bool.false_eq_true,if_false]
     exact wpAny_pure ⟨rfl,rfl,fun u hu=>hall u (List.mem_cons_of_mem _ hu)⟩
    .obtain⟨r1,r2⟩:=r
     obtain⟨hr,rfl,_⟩:=hI
     simp only at hr
     subst hr
     exact wpAny_pure q
  | none=>exact absurd hk Bool.false_ne_true
  | bool _=>exact absurd hk Bool.false_ne_true
  | list _=>exact absurd hk Bool.false_ne_true
  | dict _=>exact absurd hk Bool.false_ne_true
theorem byval_reads:∀(n:Nat) {v:Value} {d:PyData} {as:List Addr} {Q:Bool->Shared->Prop},kd d=true->Reads s.heap v d as->(∀b,Q b s)->wpAny (model prog w) A (hashByValue n v) Q E s
 | n,v,.int i,as,Q,hk,r,q=>by
  cases r with|int=>unfold hashByValue;exact wpAny_pure (q _)
 | n,v,.str x,as,Q,hk,r,q=>by
  cases r with|str=>unfold hashByValue;exact wpAny_pure (q _)
 | 0,v,.tuple ds,as,Q,hk,r,q=>by
  cases r with|tuple=>unfold hashByValue;exact wpAny_pure (q _)
 | n+1,v,.tuple ds,as,Q,hk,r,q=>by
  cases r with
  | @tuple a o vs m _ _ ho hc hd hi=>
  have hT:s.TypeIs (.ref a) "tuple":=⟨o,ho,hc⟩
  unfold hashByValue
  refine wpAny_bind (wpAny_specialOf (name:="__hash__") hT F.slot_tuple_hash.lookup ?_)
  dsimp only
  refine wpAny_bind (wpAny_seqItems (n:=m) ho hd ?_)
  refine wpAny_bind ?_
  show wpAny _ _ (forIn vs _ _) _ _ _
  rw[<-Array.forIn_toList]
  refine wpAny_forIn_list _ (fun rest r s'=>r.1=none/\s'=s/\∀v∈rest,v∈vs.toList) _ (fun v rest r s' hI=>?_) (fun r s' hI=>?_) _ _ ⟨rfl,rfl,fun v hv=>hv⟩
  .obtain⟨hr,es,hall⟩:=hI
   rw[es]
   obtain⟨d,bs,hd1,hd2⟩:=reads_all_mem hi v (hall v List.mem_cons_self)
   refine wpAny_bind (byval_reads n (kd_mem hk d hd1) hd2 fun b=>?_)
   cases b with
   | true=>
    simp only[Bool.not_true,Bool.false_eq_true,if_false]
    exact wpAny_pure ⟨rfl,rfl,fun u hu=>hall u (List.mem_cons_of_mem _ hu)⟩
   | false=>
    simp only[Bool.not_false,if_true]
    exact wpAny_pure (wpAny_pure (q _))
  .obtain⟨r1,r2⟩:=r
   obtain⟨hr,rfl,_⟩:=hI
   simp only at hr
   subst hr
   exact wpAny_pure (q _)
 | _,_,.none,_,_,hk,_,_=>absurd hk Bool.false_ne_true
 | _,_,.bool _,_,_,hk,_,_=>absurd hk Bool.false_ne_true
 | _,_,.list _,_,_,hk,_,_=>absurd hk Bool.false_ne_true
 | _,_,.dict _,_,_,hk,_,_=>absurd hk Bool.false_ne_true
structure El(Pv:Value->PyData->Prop)(w:World)(h:Heap)(e:Int×Value)(d:PyData):Prop where
 own:Pv e.2 d
 hash:e.1=hashD w d
 key:kd d=true
 tup:∃ds,d=.tuple ds
 lay:d.canLay0=true
 deep:d.depth<8
 reads:∃as,Reads h e.2 d as
theorem El.ref{w:World}{h:Heap}{e:Int×Value}{d:PyData}(x:El Pv w h e d):∃a,e.2=.ref a:=by
 obtain⟨ds,rfl⟩:=x.tup
 obtain⟨as,r⟩:=x.reads
 generalize e.2=v at r
 cases r with
 | tuple=>exact⟨_,rfl⟩
theorem El.eq{h:Heap}{A:Around}{e e':Int×Value}{d d':PyData}(hs:s.heap=h)(x:El Pv w h e d)(y:El Pv w h e' d')(hu:A.units+8<cLine){Q:Bool->Shared->Prop}(q:∀b:Bool,(b=true↔d=d')->Q b s):wpAny (model prog w) A (eqBool e.2 e'.2) Q E s:=by
 subst hs
 obtain⟨as,r⟩:=x.reads
 obtain⟨bs,r'⟩:=y.reads
 refine SeqAt.eqBoolOverData prog w A E s _ _ d d' as bs Q r r' x.lay y.lay (by have:=x.deep;have:=Nat.min_le_left d.depth d'.depth;omega) ?_
 refine q _ ⟨fun z=>eqv_kd d d' x.key y.key z,fun z=>?_⟩
 rw[<-z]
 exact SeqAt.eqv_refl _ x.lay
theorem seen_no{x:Int×Value}{d:PyData}(hx:El Pv w s.heap x d):∀(ys:List Value) {Q:Bool->Shared->Prop},(∀y∈ys,∃h e,El Pv w s.heap (h,y) e)->Q false s->wpAny (model prog w) A (searchCouldBeSeen x.2 ys) Q E s:=by
 intro ys Q hy q
 unfold searchCouldBeSeen
 refine wpAny_bind ?_
 refine wpAny_forIn_list _ (fun rest r s'=>r.1=none/\s'=s/\∀v∈rest,v∈ys) _ (fun v rest r s' hI=>?_) (fun r s' hI=>?_) _ _ ⟨rfl,rfl,fun v hv=>hv⟩
 .obtain⟨hr,rfl,hall⟩:=hI
  obtain⟨h,e,hE⟩:=hy v (hall v List.mem_cons_self)
  obtain⟨a,ea⟩:=hx.ref
  obtain⟨b,eb⟩:=hE.ref
  obtain⟨as,r1⟩:=hx.reads
  obtain⟨bs,r2⟩:=hE.reads
  have nxt:∀u∈rest,u∈ys:=fun u hu=>hall u (List.mem_cons_of_mem _ hu)
  simp only at eb r2
  have stay:wpAny (model prog w) A (pure (ForInStep.yield ((none:Option Bool),())):Sem (ForInStep (Option Bool×Unit))) (fun r s'_1=>match r with
   | ForInStep.yield b'=>b'.fst=none/\s'_1=s'/\∀(v:Value),v∈rest->v∈ys
   | ForInStep.done b'=>wpAny (model prog w) A (match b'.fst with|some r=>pure r|none=>pure false) Q E s'_1) E s':=wpAny_pure ⟨rfl,rfl,nxt⟩
  subst eb
  rw[ea]at r1⊢
  dsimp only
  split
  .exact stay
  .refine wpAny_bind (quiet_reads 8 hx.key r1 hx.deep ?_)
   simp only[Bool.not_true,Bool.false_eq_true,if_false]
   refine wpAny_bind (quiet_reads 8 hE.key r2 hE.deep ?_)
   simp only[Bool.not_true,Bool.false_eq_true,if_false]
   refine wpAny_bind (plain_reads 8 hx.key r1 hx.deep ?_)
   simp only[Bool.false_eq_true,if_false]
   refine wpAny_bind (plain_reads 8 hE.key r2 hE.deep ?_)
   simp only[Bool.false_eq_true,if_false]
   exact stay
 .obtain⟨r1,r2⟩:=r
  obtain⟨hr,rfl,_⟩:=hI
  simp only at hr
  subst hr
  exact wpAny_pure q
noncomputable def Els(Pv:Value->PyData->Prop)(w:World)(h:Heap)(es:List (Int×Value))(ds:List PyData):Prop:=es.length=ds.length/\∀(i:Nat) e d,es[i]?=some e->ds[i]?=some d->El Pv w h e d
theorem Els.at{h:Heap}{es:List (Int×Value)}{ds:List PyData}(x:Els Pv w h es ds){i:Nat}{e:Int×Value}(he:es[i]?=some e):∃d,ds[i]?=some d/\El Pv w h e d:=by
 have hl:=(List.getElem?_eq_some_iff.mp he).1
 have hd:ds[i]?=some (ds[i]'(by rw[<-x.1];exact hl)):=List.getElem?_eq_getElem _
 exact⟨_,hd,x.2 i e _ he hd⟩
theorem probe_met{t:SetTable}{es:Array (Int×Value)}(ok:TOk t es){f:Nat->Int}{h:Int}{p:SetTable.Probe}(st:Stand t.mask p) :
  ∃met,t.probe f h p=some met/\((∃n,met=.empty (itn (adv t.mask) n p).j p.dummy/\(itn (adv t.mask) n p).j∉t.place.toList/\∀n',n'<n->∃i:Nat,t.place[i]?=some (itn (adv t.mask) n' p).j/\f i≠h)\/
  (∃n i,met=.candidate (itn (adv t.mask) n p).j i (itn (adv t.mask) (n+1) p)/\t.place[i]?=some (itn (adv t.mask) n p).j/\f i=h/\∀n',n'<n->∃i':Nat,t.place[i']?=some (itn (adv t.mask) n' p).j/\f i'≠h)):=by
 rcases probe_spec ok f h st with ⟨n,e,r⟩|⟨n,i,e,r⟩
 .exact⟨_,e,.inl ⟨n,rfl,r⟩⟩
 .exact⟨_,e,.inr (x_EE n i ⟨rfl,r⟩)⟩
theorem dummy_itn(mask:Nat):∀(n:Nat) (p:SetTable.Probe),(itn (adv mask) n p).dummy=p.dummy
 | 0,_=>rfl
 | n+1,p=>by
  show(itn (adv mask) n (adv mask p)).dummy=_
  rw[dummy_itn mask n]
  unfold adv
  split<;>rfl
theorem search_add{a:Addr}{o:Obj}{es:Array (Int×Value)}{ep:Nat}{t:SetTable}{ds:List PyData}{x:Int×Value}{d:PyData}{Q:SetFound->Shared->Prop}
  (ho:s.heap.get? a=some o) (hd:o.data=.set es ep t) (ok:TOk t es) (els:Els Pv w s.heap es.toList ds) (hx:El Pv w s.heap x d) (hu:A.units+8<cLine)
  (q1:d∈ds->Q (.there none) s) (q2:∀n,d∉ds->road t.mask x.1 n∉t.place.toList->(∀n',n'<n->road t.mask x.1 n'∈t.place.toList)->Q (.free (road t.mask x.1 n) false) s) :
  ∀(fuel m N:Nat) (stand:Option SetTable.Probe),stand.getD (st0 t.mask x.1)=itn (adv t.mask) m (st0 t.mask x.1)->road t.mask x.1 N∉t.place.toList->N<m+fuel->
   (∀n',n'<m->∃i:Nat,t.place[i]?=some (road t.mask x.1 n')/\ds[i]?≠some d)->wpAny (model prog w) A (setSearchFrom a x.2 x.1 true fuel stand) Q E s
 | 0,m,N,stand,hst,hN,hf,hm=>by
  exfalso
  obtain⟨i,h1,h2⟩:=hm N (by omega)
  exact hN (by rw[<-Array.getElem?_toList]at h1;exact List.mem_of_getElem? h1)
 | fuel+1,m,N,stand,hst,hN,hf,hm=>by
  unfold setSearchFrom
  refine wpAny_bind (wpAny_setState_of ho hd ok.fits ?_)
  dsimp only
  rw[ok.noway]
  simp only[Bool.false_eq_true,if_false]
  rw[start_eq,hst]
  have hstand:Stand t.mask (itn (adv t.mask) m (st0 t.mask x.1)):=itn_stand m (st0_stand _ _)
  have roadm:∀n,(itn (adv t.mask) n (itn (adv t.mask) m (st0 t.mask x.1))).j=road t.mask x.1 (m+n):=fun n=>by unfold road;rw[itn_add]
  have inj:∀{i i' j:Nat},t.place[i]?=some j->t.place[i']?=some j->i=i':=fun{i i' j} h1 h2=>by rw[<-below_at ok.rise h1,below_at ok.rise h2]
  have entry:∀{i j:Nat},t.place[i]?=some j->∃e di,es[i]?=some e/\ds[i]?=some di/\El Pv w s.heap e di:=fun{i j} h1=>by
   have hl:=(Array.getElem?_eq_some_iff.mp h1).1
   have he:es[i]?=some (es[i]'(by rw[<-ok.sz];exact hl)):=Array.getElem?_eq_getElem _
   obtain⟨di,h2,h3⟩:=els.at (by rw[Array.getElem?_toList];exact he)
   exact(x_EE _ di ⟨he,h2,h3⟩)
  obtain⟨met,hp,hmet⟩:=probe_met ok (f:=_) (h:=x.1) hstand
  rw[hp]
  have away:∀{n i:Nat},t.place[i]?=some (itn (adv t.mask) n (itn (adv t.mask) m (st0 t.mask x.1))).j->(es[i]?.map (·.1)).getD 0≠x.1->ds[i]?≠some d:=fun{n i} h1 h2 h3=>by
   obtain⟨e,di,g1,g2,g3⟩:=entry h1
   rw[g2]at h3
   cases h3
   apply h2
   rw[g1]
   show e.1=x.1
   rw[g3.hash,hx.hash]
  rcases hmet with ⟨n,rfl,hfree,hbef⟩|⟨n,i,rfl,hpl,hfi,hbef⟩
  .have hbef':∀n',n'<n->∃i:Nat,t.place[i]?=some (itn (adv t.mask) n' (itn (adv t.mask) m (st0 t.mask x.1))).j/\ds[i]?≠some d:=fun n' hn'=>by
    obtain⟨i',h1,h2⟩:=hbef n' hn'
    exact⟨i',h1,away h1 h2⟩
   dsimp only
   rw[dummy_itn]
   show wpAny _ _ (pure _) _ _ _
   rw[roadm]at hfree⊢
   have before:∀n',n'<m+n->∃i:Nat,t.place[i]?=some (road t.mask x.1 n')/\ds[i]?≠some d:=fun n' hn'=>by
    by_cases hq:n'<m
    .exact hm n' hq
    .obtain⟨i',h1,h2⟩:=hbef' (n'-m) (by omega)
     rw[roadm,show m+(n'-m)=n' by omega]at h1
     exact⟨i',h1,h2⟩
   refine wpAny_pure (q2 (m+n) (fun hin=>?_) hfree fun n' hn'=>?_)
   .obtain⟨k,hk⟩:=List.getElem?_of_mem hin
    have hkl:=(List.getElem?_eq_some_iff.mp hk).1
    have hke:es.toList[k]?=some (es.toList[k]'(by rw[els.1];exact hkl)):=List.getElem?_eq_getElem _
    have hel:=els.2 k _ d hke hk
    have hkp:t.place[k]?=some (t.place[k]'(by rw[ok.sz,<-Array.length_toList,els.1];exact hkl)):=Array.getElem?_eq_getElem _
    obtain⟨n',hn',hr⟩:=ok.ahead (j:=t.place[k]'(by rw[ok.sz,<-Array.length_toList,els.1];exact hkl)) (e:=es.toList[k]'(by rw[els.1];exact hkl)) ⟨k,by rw[Array.getElem?_toList];exact hkp,hke⟩ (n:=m+n) (by rw[hel.hash,<-hx.hash];exact hfree)
    rw[hel.hash,<-hx.hash]at hr
    obtain⟨i',g1,g2⟩:=before n' hn'
    rw[hr]at g1
    have e:=inj hkp g1
    rw[<-e]at g2
    exact g2 hk
   .obtain⟨i',g1,_⟩:=before n' hn'
    rw[<-Array.getElem?_toList]at g1
    exact List.mem_of_getElem? g1
  .obtain⟨e,di,g1,g2,g3⟩:=entry hpl
   obtain⟨eh,y⟩:=e
   obtain⟨ya,ey⟩:=g3.ref
   have ey':y=.ref ya:=ey
   subst ey'
   dsimp only
   have fin:wpAny (model prog w) A (setSearchFrom a x.2 x.1 true fuel (some (itn (adv t.mask) (n+1) (itn (adv t.mask) m (st0 t.mask x.1))))) Q E s\/di=d:=by
    by_cases hq:di=d
    .exact .inr hq
    .refine .inl (search_add ho hd ok els hx hu q1 q2 fuel (m+n+1) N _ ?_ hN (by omega) fun n' hn'=>?_)
     .show itn (adv t.mask) (n+1) (itn (adv t.mask) m (st0 t.mask x.1))=_
      rw[<-itn_add];rfl
     .by_cases hq1:n'<m
      .exact hm n' hq1
      .by_cases hq2:n'-m<n
       .obtain⟨i',h1,h2⟩:=hbef (n'-m) hq2
        have h3:=away h1 h2
        rw[roadm,show m+(n'-m)=n' by omega]at h1
        exact⟨i',h1,h3⟩
       .rw[roadm,show m+n=n' by omega]at hpl
        exact⟨i,hpl,by rw[g2];intro z;cases z;exact hq rfl⟩
   have cand:∀(b:Bool),(b=true↔di=d)->(b=true->wpAny (model prog w) A (pure (SetFound.there none)) Q E s):=fun b hb hbt=>wpAny_pure (q1 (by
    rw[<-hb.mp hbt]
    exact List.mem_of_getElem? g2))
   rw[g1]
   dsimp only
   have sm:t.sameMemory t.moves t.mask=some true:=by unfold SetTable.sameMemory;simp
   cases hled:t.led with
   | true=>
    simp only[Bool.not_true,Bool.false_eq_true,if_false]
    refine wpAny_bind (wpAny_holding (El.eq rfl g3 hx hu fun b hb=>?_))
    refine wpAny_bind (wpAny_setState_of ho hd ok.fits ?_)
    cases b with
    | true=>
     simp only[Bool.and_self,if_true]
     exact cand true hb rfl
    | false=>
     simp only[Bool.and_false,Bool.false_eq_true,if_false]
     rw[sm]
     dsimp only
     rw[if_pos rfl,slot_live ok.rise hpl]
     dsimp only
     rw[g1]
     dsimp only
     refine wpAny_bind (wpAny_isSame_ref_self ?_)
     refine wpAny_bind (wpAny_pure ?_)
     simp only[if_true,Bool.false_eq_true,if_false]
     rcases fin with f|f
     .exact f
     .exact absurd (hb.mpr f) (by simp)
   | false=>
    simp only[Bool.not_false,if_true]
    refine wpAny_bind (seen_no hx _ (fun y hy=>?_) ?_)
    .obtain⟨e,he,rfl⟩:=List.mem_map.mp hy
     have he':e∈es.toList:=by
      rw[Array.toList_filter]at he
      exact(List.mem_filter.mp he).1
     obtain⟨k,hk⟩:=List.getElem?_of_mem he'
     obtain⟨dk,_,hE⟩:=els.at hk
     exact(x_EE e.1 dk hE)
    simp only[Bool.false_eq_true,if_false]
    refine wpAny_bind (wpAny_holding (El.eq rfl g3 hx hu fun b hb=>?_))
    refine wpAny_bind (wpAny_setState_of ho hd ok.fits ?_)
    cases b with
    | true=>
     simp only[Bool.and_self,if_true]
     exact cand true hb rfl
    | false=>
     simp only[Bool.and_false,Bool.false_eq_true,if_false]
     rw[sm]
     dsimp only
     rw[if_pos rfl,slot_live ok.rise hpl]
     dsimp only
     rw[g1]
     dsimp only
     refine wpAny_bind (wpAny_isSame_ref_self ?_)
     refine wpAny_bind (wpAny_pure ?_)
     simp only[if_true,Bool.false_eq_true,if_false]
     rcases fin with f|f
     .exact f
     .exact absurd (hb.mpr f) (by simp)
end
end L3
namespace L3
open PySem
variable{Pv:Value->PyData->Prop}
theorem els_nil{w:World}{h:Heap}{ds:List PyData}(x:Els Pv w h [] ds):ds=[]:=List.length_eq_zero_iff.mp x.1.symm
theorem els_cons{w:World}{h:Heap}{e:Int×Value}{es:List (Int×Value)}{ds:List PyData}(x:Els Pv w h (e::es) ds):∃d ds',ds=d::ds'/\El Pv w h e d/\Els Pv w h es ds':=by
 match ds,x with
 | [],x=>exact absurd x.1 (by simp)
 | d::ds',x=>exact(x_EE d ds' ⟨rfl,x.2 0 e d rfl rfl,by have:=x.1;simpa using this,fun i e' d' h1 h2=>x.2 (i+1) e' d' h1 h2⟩)
theorem Els.cons{w:World}{h:Heap}{e:Int×Value}{d:PyData}{es:List (Int×Value)}{ds:List PyData}(hd:El Pv w h e d)(x:Els Pv w h es ds):Els Pv w h (e::es) (d::ds):=by
 refine⟨by rw[List.length_cons,List.length_cons,x.1],fun i e' d' h1 h2=>?_⟩
 cases i with
 | zero=>cases h1;cases h2;exact hd
 | succ i=>exact x.2 i e' d' h1 h2
theorem Els.nil{w:World}{h:Heap}:Els Pv w h [] []:=⟨rfl,fun i e d h1 _=>by simp at h1⟩
theorem Els.append{w:World}{h:Heap}:∀{es fs:List (Int×Value)} {ds gs:List PyData},Els Pv w h es ds->Els Pv w h fs gs->Els Pv w h (es++fs) (ds++gs)
 | [],fs,ds,gs,x,y=>by rw[els_nil x];exact y
 | e::es,fs,ds,gs,x,y=>by
  obtain⟨d,ds',rfl,h1,h2⟩:=els_cons x
  exact Els.cons h1 (h2.append y)
theorem Els.take{w:World}{h:Heap}{es:List (Int×Value)}{ds:List PyData}(x:Els Pv w h es ds)(n:Nat):Els Pv w h (es.take n) (ds.take n):=by
 refine⟨by rw[List.length_take,List.length_take,x.1],fun i e d h1 h2=>?_⟩
 have hi:i<n:=by
  have:=(List.getElem?_eq_some_iff.mp h1).1
  rw[List.length_take]at this
  omega
 rw[List.getElem?_take_of_lt hi]at h1 h2
 exact x.2 i e d h1 h2
theorem Els.drop{w:World}{h:Heap}{es:List (Int×Value)}{ds:List PyData}(x:Els Pv w h es ds)(n:Nat):Els Pv w h (es.drop n) (ds.drop n):=by
 refine⟨by rw[List.length_drop,List.length_drop,x.1],fun i e d h1 h2=>?_⟩
 rw[List.getElem?_drop]at h1 h2
 exact x.2 _ e d h1 h2
theorem Els.perm{w:World}{h:Heap}{es fs:List (Int×Value)}(p:es.Perm fs):∀{ds:List PyData},Els Pv w h fs ds->∃ds',ds'.Perm ds/\Els Pv w h es ds':=by
 induction p with
 | nil=>intro ds x;exact⟨ds,List.Perm.refl _,x⟩
 | cons e p ih=>
  intro ds x
  obtain⟨d,ds1,rfl,h1,h2⟩:=els_cons x
  obtain⟨ds2,p2,x2⟩:=ih h2
  exact⟨d::ds2,p2.cons d,x2.cons h1⟩
 | swap a b l=>
  intro ds x
  obtain⟨d,ds1,rfl,h1,h2⟩:=els_cons x
  obtain⟨d',ds2,rfl,h3,h4⟩:=els_cons h2
  exact⟨d'::d::ds2,List.Perm.swap _ _ _,(h4.cons h1).cons h3⟩
 | trans p1 p2 ih1 ih2=>
  intro ds x
  obtain⟨ds1,q1,x1⟩:=ih2 x
  obtain⟨ds2,q2,x2⟩:=ih1 x1
  exact⟨ds2,q2.trans q1,x2⟩
noncomputable def TupsStay(h h':Heap):Prop:=∀b ob,h.get? b=some ob->ob.cls=.type "tuple"->h'.get? b=some ob
mutual
theorem reads_stay{h h':Heap}(t:TupsStay h h'):∀(d:PyData) {v:Value} {as:List Addr},kd d=true->Reads h v d as->Reads h' v d as
 | .int i,v,as,_,r=>by cases r with|int=>exact .int _ _
 | .str x,v,as,_,r=>by cases r with|str=>exact .str _ _
 | .tuple ds,v,as,hk,r=>by
  cases r with
  | tuple ho hc hd hi=>exact .tuple (t _ _ ho hc) hc hd (reads_stayAll t ds hk hi)
 | .none,_,_,hk,_=>absurd hk Bool.false_ne_true
 | .bool _,_,_,hk,_=>absurd hk Bool.false_ne_true
 | .list _,_,_,hk,_=>absurd hk Bool.false_ne_true
 | .dict _,_,_,hk,_=>absurd hk Bool.false_ne_true
theorem reads_stayAll{h h':Heap}(t:TupsStay h h'):∀(ds:List PyData) {vs:List Value} {as:List Addr},kdAll ds=true->ReadsAll h vs ds as->ReadsAll h' vs ds as
 | [],vs,as,_,r=>by cases r;exact .nil
 | d::ds,vs,as,hk,r=>by
  have hk':(kd d&&kdAll ds)=true:=hk
  rw[Bool.and_eq_true]at hk'
  cases r with
  | cons h1 h2=>exact .cons (reads_stay t d hk'.1 h1) (reads_stayAll t ds hk'.2 h2)
end
theorem El.stay{w:World}{h h':Heap}(t:TupsStay h h'){e:Int×Value}{d:PyData}(x:El Pv w h e d):El Pv w h' e d:=
 ⟨x.own,x.hash,x.key,x.tup,x.lay,x.deep,let ⟨as,r⟩:=x.reads;⟨as,reads_stay t d x.key r⟩⟩
theorem Els.stay{w:World}{h h':Heap}(t:TupsStay h h'){es:List (Int×Value)}{ds:List PyData}(x:Els Pv w h es ds):Els Pv w h' es ds:=⟨x.1,fun i e d h1 h2=>(x.2 i e d h1 h2).stay t⟩
theorem stay_but{h h':Heap}{a:Addr}{o:Obj}(ho:h.get? a=some o)(hc:o.cls=.type "set")(hs:Heap.SameBut a h h'):TupsStay h h':=fun b ob hb ht=>by
 have:b≠a:=fun e=>by
  subst e
  rw[ho]at hb
  cases hb
  rw[hc]at ht
  exact absurd ht (by decide)
 rw[hs.2 b this]
 exact hb
noncomputable def byT(w:World):Bool:=w.params.followText "set-order"
noncomputable def SetD(Pv:Value->PyData->Prop)(w:World)(h:Heap)(a:Addr)(ds:List PyData):Prop:=
 ∃o es ep t,h.get? a=some o/\o.ExactSet/\o.data=.set es ep t/\TOk t es/\t.place.size*5<t.mask*3/\Els Pv w h es.toList ds/\ds.Nodup/\t.led = !byT w
theorem SetD.fresh{w:World}{h:Heap}{led:Bool}(hled:led = !byT w):SetD Pv w (h.push {cls:=.type "set",dict:=none,data:=.set #[] 0 (.fresh 0 0 led)}) h.objs.size []:=
 (x_EEEE _ (#[]) 0 _ ⟨Heap.get?_push_size _ rfl,⟨rfl,rfl,rfl⟩,rfl,TOk.fresh 0 0 led,(by show 0*5<7*3;decide),Els.nil,List.nodup_nil,hled⟩)
theorem TOk.withPlain{t:SetTable}{es:Array (Int×Value)}(ok:TOk t es)(b:Bool):TOk {t with plain:=b} es:=⟨ok.two,ok.dm,ok.rise,ok.bd,ok.sz,ok.fit,ok.onroad⟩
section
variable{prog:Program}{w:World}{A:Around}{E:Value->Shared->Prop}{s:Shared}
theorem relay_ok{a:Addr}{o:Obj}{es:Array (Int×Value)}{ep:Nat}{t:SetTable}{ds:List PyData}{wanted:Nat}{Q:Unit->Shared->Prop}
  (ho:s.heap.get? a=some o) (hex:o.ExactSet) (hd:o.data=.set es ep t) (ok:TOk t es) (els:Els Pv w s.heap es.toList ds) (hnd:ds.Nodup) (hled:t.led = !byT w) (hw:es.size*4<=wanted) (hw2:wanted<2^13) (hodd:∀k,SetTable.sizeAbove wanted=2^k->k % 2=1) (hpos:0<es.size)
  (q:∀h' ds',Heap.SameBut a s.heap h'->SetD Pv w h' a ds'->ds'.Perm ds->Q () {s with heap:=h'}):wpAny (model prog w) A (setRelay a wanted) Q E s:=by
 obtain⟨t',order,e,ok',pm,few,eled⟩:=relaid_spec (t:=t) hw hw2 hodd hpos
 obtain⟨k,ek,k3,k13,hn⟩:=sizeAbove_spec wanted hw2
 have hline:¬SetTable.sizeAbove wanted>sizeLine:=by
  rw[ek,sizeLine_eq]
  have:2^k<=2^13:=Nat.pow_le_pow_right (by decide) k13
  omega
 have hsz:(order.filterMap (es[·]?)).size=es.size:=by have:=pm.length_eq;rw[Array.length_toList,Array.length_toList]at this;exact this
 obtain⟨ds',pd,els'⟩:=els.perm pm
 unfold setRelay
 refine wpAny_bind (wpAny_setState_of ho hd ok.fits ?_)
 dsimp only
 rw[if_neg hline,e]
 refine wpAny_bind ?_
 show wpAny _ _ (ite _ _ _) _ _ _
 rw[if_neg (by simp[hsz])]
 refine wpAny_pure ?_
 have hs13:es.size<=sizeLine:=by rw[sizeLine_eq];omega
 refine wpAny_storeSet_of ho hd ?_ (by rw[hsz];exact hs13)
 have hg:(s.heap.update a (Obj.putSet (order.filterMap (es[·]?)) t')).get? a=some {o with data:=.set (order.filterMap (es[·]?)) (ep+1) t'}:=by
  have:=Heap.get?_update_self (Obj.putSet (order.filterMap (es[·]?)) t') ho (by rw[putSet_of _ t' hd];rfl)
  rw[putSet_of _ t' hd]at this;exact this
 have hsb:=Heap.SameBut.update s.heap a (Obj.putSet (order.filterMap (es[·]?)) t')
 exact q _ ds' hsb (x_EEEE _ _ _ _ ⟨hg,hex,rfl,ok',few,els'.stay (stay_but ho hex.1 hsb),(pd.nodup_iff).mpr hnd,eled.trans hled⟩) pd
theorem add_hashed{a:Addr}{ds:List PyData}{x:Int×Value}{d:PyData}{Q:Bool->Shared->Prop}(hS:SetD Pv w s.heap a ds)(hx:El Pv w s.heap x d)(hu:A.units+8<cLine)(hroom:ds.length<4000)
  (q:∀h' ds' b,Heap.SameBut a s.heap h'->SetD Pv w h' a ds'->(d∈ds->ds'=ds)->(d∉ds->ds'.Perm (d::ds))->Q b {s with heap:=h'}) :
  wpAny (model prog w) A (setAddHashed a x.2 x.1) Q E s:=by
 obtain⟨o,es,ep,t,ho,hex,hd,ok,few,els,hnd,hled⟩:=hS
 obtain⟨xa,ex⟩:=hx.ref
 obtain⟨k,hk,k3,k13,ko⟩:=ok.two
 have hel:=els.1
 rw[Array.length_toList]at hel
 have hsz:=ok.sz
 obtain⟨j,hj,hfree⟩:=pigeon (ps:=t.place.toList) (m:=t.mask) (by rw[Array.length_toList];exact ok.fit)
 unfold setAddHashed setAddHashedIn
 refine wpAny_holding (wpAny_bind (wpAny_setState_of ho hd ok.fits ?_))
 dsimp only
 have hns:byScan x.2 es=false:=by rw[ex];rfl
 rw[hns]
 simp only[Bool.false_eq_true,if_false]
 unfold setSearch
 obtain⟨N,hN,eN⟩:=reach hk (st0 t.mask x.1) (st0_stand _ _).1 (st0_stand _ _).2.1 j hj
 have hmask:10*SetTable.turns t.mask<=100000:=by
  unfold SetTable.turns
  have:2^k<=2^13:=Nat.pow_le_pow_right (by decide) k13
  omega
 refine wpAny_bind (search_add ho hd ok els hx hu (fun hin=>?_) (fun n hnin hf hr=>?_) 100000 0 N none rfl (by unfold road;rw[eN];exact hfree) (by omega) (fun n' hn'=>by omega))
 .dsimp only
  refine wpAny_pure ?_
  have e:s={s with heap:=s.heap}:=by cases s;rfl
  rw[e]
  exact q s.heap ds false (Heap.SameBut.refl a s.heap) (x_EEEE o es ep t ⟨ho,hex,hd,ok,few,els,hnd,hled⟩) (fun _=>rfl) (fun z=>absurd hin z)
 .dsimp only
  have hm7:7<=t.mask:=by
   have:2^3<=2^k:=Nat.pow_le_pow_right (by decide) k3
   omega
  obtain⟨ok1,em,hp1,hs1⟩:=ok.put (x:=x.2) hf hr (by omega)
  have els1:Els Pv w s.heap (SetTable.insertAt es (t.put (road t.mask x.1 n)).2 (x.1,x.2)).toList (ds.take (t.put (road t.mask x.1 n)).2++d::ds.drop (t.put (road t.mask x.1 n)).2):=by
   rw[insertAt_list]
   exact(els.take _).append ((els.drop _).cons hx)
  have pm1:(ds.take (t.put (road t.mask x.1 n)).2++d::ds.drop (t.put (road t.mask x.1 n)).2).Perm (d::ds):=by
   have:=List.perm_middle (a:=d) (l₁:=ds.take (t.put (road t.mask x.1 n)).2) (l₂:=ds.drop (t.put (road t.mask x.1 n)).2)
   rw[List.take_append_drop]at this
   exact this
  have nd1:(ds.take (t.put (road t.mask x.1 n)).2++d::ds.drop (t.put (road t.mask x.1 n)).2).Nodup:=by
   rw[pm1.nodup_iff,List.nodup_cons]
   exact⟨hnin,hnd⟩
  have es1:(SetTable.insertAt es (t.put (road t.mask x.1 n)).2 (x.1,x.2)).size=es.size+1:=by rw[<-ok1.sz,hs1,hsz]
  refine wpAny_bind (wpAny_setState_of ho hd ok.fits ?_)
  dsimp only
  have hled1:(t.put (road t.mask x.1 n)).1.led=t.led:=rfl
  generalize hpt:t.put (road t.mask x.1 n)=pt at *
  obtain⟨t1,p⟩:=pt
  simp only at ok1 em hp1 hs1 els1 pm1 nd1 es1 hled1⊢
  have fin:∀t2:SetTable,TOk t2 (SetTable.insertAt es p (x.1,x.2))->t2.mask=t1.mask->t2.place=t1.place->t2.led=t1.led->wpAny (model prog w) A (storeSet a (SetTable.insertAt es p (x.1,x.2)) t2 >>= fun _=>if (!false&&t2.tooFull)=true then setRelay a (SetTable.grown (es.size+1)) >>= fun _=>pure true else pure true) Q E s:=fun t2 ok2 e1 e2 e3=>by
   have hled2:t2.led = !byT w:=e3.trans (hled1.trans hled)
   have hline:(SetTable.insertAt es p (x.1,x.2)).size<=sizeLine:=by rw[es1,sizeLine_eq];omega
   refine wpAny_bind (wpAny_storeSet_of ho hd ?_ hline)
   have hg:(s.heap.update a (Obj.putSet (SetTable.insertAt es p (x.1,x.2)) t2)).get? a=some {o with data:=.set (SetTable.insertAt es p (x.1,x.2)) (ep+1) t2}:=by
    have:=Heap.get?_update_self (Obj.putSet (SetTable.insertAt es p (x.1,x.2)) t2) ho (by rw[putSet_of _ t2 hd];rfl)
    rw[putSet_of _ t2 hd]at this;exact this
   have hsb:=Heap.SameBut.update s.heap a (Obj.putSet (SetTable.insertAt es p (x.1,x.2)) t2)
   have els2:=els1.stay (stay_but ho hex.1 hsb)
   by_cases hfull:t2.tooFull=true
   .rw[if_pos (by rw[hfull];rfl)]
    have hes:es.size<4000:=by rw[hel];exact hroom
    have htf:t2.mask*3<=(es.size+1)*5:=by
     unfold SetTable.tooFull SetTable.fill at hfull
     rw[ok2.dm]at hfull
     have:=ok2.sz
     have:=es1
     simp at hfull
     omega
    have hmk:t2.mask+1=2^k:=by rw[e1,em];exact hk
    have hfw:(es.size+1-1)*5<t2.mask*3:=by rw[e1,em];have:=ok.sz;omega
    have hgs:=grow_small hmk k3 k13 ko htf hfw (by omega)
    have hgr:SetTable.grown (es.size+1)=(es.size+1)*4:=by unfold SetTable.grown;rw[if_neg (by omega)]
    refine wpAny_bind (relay_ok (s:={s with heap:=s.heap.update a (Obj.putSet (SetTable.insertAt es p (x.1,x.2)) t2)}) hg hex rfl ok2 els2 nd1 hled2 (by rw[es1,hgr];exact Nat.le_refl _) (by rw[hgr];exact hgs.1) (fun k' ek'=>?_) (by rw[es1];omega) fun h' ds' hsb' hS' pd'=>?_)
    .rw[hgr]at ek'
     obtain⟨a1,a2,a3⟩:=sizeAbove_two _ (by omega) hgs.1 ek'
     exact grow_odd hmk k3 k13 ko htf hfw (by omega) a1 a2 a3
    .exact wpAny_pure (q h' ds' true (hsb.trans hsb') hS' (fun z=>absurd z hnin) (fun _=>pd'.trans pm1))
   .rw[if_neg (by simpa using hfull)]
    have few2:t2.place.size*5<t2.mask*3:=by
     unfold SetTable.tooFull SetTable.fill at hfull
     rw[ok2.dm]at hfull
     simpa using hfull
    exact wpAny_pure (q _ _ true hsb (x_EEEE _ _ _ _ ⟨hg,hex,rfl,ok2,few2,els2,nd1,hled2⟩) (fun z=>absurd z hnin) (fun _=>pm1))
  obtain⟨as,rx⟩:=hx.reads
  split
  .refine wpAny_bind (byval_reads 8 hx.key rx fun b=>?_)
   cases b with
   | true=>
    simp only[if_true]
    exact fin t1 ok1 rfl rfl rfl
   | false=>
    simp only[Bool.false_eq_true,if_false]
    exact fin _ (ok1.withPlain false) rfl rfl rfl
  .refine wpAny_bind (wpAny_pure ?_)
   simp only[if_true]
   exact fin t1 ok1 rfl rfl rfl
end
end L3
namespace L3
open PySem PyProof.Rows
variable{Pv:Value->PyData->Prop}
noncomputable def Keep(h0 h:Heap):Prop:=∀b o,h0.get? b=some o->h.get? b=some o
theorem Keep.tups{h0 h:Heap}(k:Keep h0 h):TupsStay h0 h:=fun b o e _=>k b o e
theorem SetD.moved{w:World}{h h':Heap}{S:Addr}{ds:List PyData}(x:SetD Pv w h S ds)(hS:∀o,h.get? S=some o->h'.get? S=some o)(t:TupsStay h h'):SetD Pv w h' S ds:=by
 obtain⟨o,es,ep,tb,ho,hex,hd,ok,few,els,nd,hled⟩:=x
 exact(x_EEEE o es ep tb ⟨hS o ho,hex,hd,ok,few,els.stay t,nd,hled⟩)
section
variable{prog:Program}{w:World}{A:Around}{R:Result->Shared->Prop}{I:Addr}{fp wr:List Addr}{G:Array GenState->Array GenState->Prop}{n:Nat}{P:Nat->Value->Prop}{St:Nat->Shared->Prop}
theorem update_loopD(W:WalksS prog w A.in1 I fp wr G n P St)(S:Addr)(hSf:S∉fp)(h0:Heap)(hwr:∀b∈wr,h0.get? b=none)(hS0:h0.get? S=none)(hwt:∀i s,St i s->∀b∈wr,∀ob,s.heap.get? b=some ob->ob.cls≠.type "tuple")
  (val:Nat->PyData) (hval:∀i v,P i v->El Pv w h0 (hashD w (val i),v) (val i)) (hu:A.units+9<cLine) (hb:n<4000) :
  ∀(k i:Nat) (s:Shared) (ds:List PyData),n-i=k->i<=n->St i s->Keep h0 s.heap->SetD Pv w s.heap S ds->(∀d,d∈ds↔∃j,j<i/\val j=d)->ds.length<=i->
   (∀s' ds',Moved (S::wr) G s s'->Keep h0 s'.heap->SetD Pv w s'.heap S ds'->(∀d,d∈ds'↔∃j,j<n/\val j=d)->ds'.length<=n->R (.ok (.ret .none)) s')->
   codeAny (model prog w) A (.builtin "set.update.loop" ⟨[.ref S,.ref I],[]⟩) R s:=by
 have hSw:S∉wr:=fun h=>hSf (W.sub _ h)
 have mono:∀b∈wr,b∈S::wr:=fun b hb=>List.mem_cons_of_mem _ hb
 have mv:∀{i:Nat} {s s':Shared} {ds:List PyData},St i s->Moved wr G s s'->Keep h0 s.heap->SetD Pv w s.heap S ds->Keep h0 s'.heap/\SetD Pv w s'.heap S ds:=fun{i s s' ds} hst hm hk hS=>by
  refine⟨fun b o e=>hm.heap b o (fun z=>by rw[hwr b z]at e;cases e) (hk b o e),hS.moved (fun o e=>hm.heap S o hSw e) fun b o e ht=>hm.heap b o (fun z=>hwt i s hst b z o e ht) e⟩
 intro k
 induction k with
 | zero=>
  intro i s ds hk hi hst hkp hS hmem hlen hR
  have hin:i=n:=by omega
  subst hin
  refine codeAny_builtin F.entry_set_update_loop (show _ from ?_)
  rw[Around.under_plainId F.plain_set_update_loop (_:Args)]
  show wpAny _ A.in1 (pyNext (.ref I) >>= _) _ _ _
  refine wpAny_bind (W.done s _ _ hst fun s' hm=>?_)
  obtain⟨k1,S1⟩:=mv hst hm hkp hS
  exact wpAny_pure (hR s' ds (hm.mono mono) k1 S1 hmem hlen)
 | succ k ih=>
  intro i s ds hk hi hst hkp hS hmem hlen hR
  have hlt:i<n:=by omega
  refine codeAny_builtin F.entry_set_update_loop (show _ from ?_)
  rw[Around.under_plainId F.plain_set_update_loop (_:Args)]
  show wpAny _ A.in1 (pyNext (.ref I) >>= _) _ _ _
  refine wpAny_bind (W.item i s _ _ hlt hst fun v s' hP hst' hm=>?_)
  obtain⟨k1,S1⟩:=mv hst hm hkp hS
  have hE:=(hval i v hP).stay k1.tups
  obtain⟨as,rv⟩:=hE.reads
  show wpAny _ A.in1 (holding [v] (setAdd S v) >>= _) _ _ _
  refine wpAny_bind (wpAny_holding ?_)
  unfold setAdd
  refine wpAny_holding ?_
  refine wpAny_bind (hash_reads (val i) hE.key prog w A.in1 _ s' v as _ rv (by show A.units+1+_<cLine;have:=hE.deep;omega) fun tk htk=>?_)
  refine add_hashed (s:={s' with toks:=tk}) (x:=(hashD w (val i),v)) S1 hE (by show A.units+1+8<cLine;omega) (by omega) fun h' ds' b hsb hS' e1 e2=>?_
  have k2:Keep h0 h':=fun b o e=>by
   rw[hsb.2 b (fun z=>by rw[z,hS0]at e;cases e)]
   exact k1 b o e
  have hmem':∀d,d∈ds'↔∃j,j<i+1/\val j=d:=fun d=>by
   have base:(∃j,j<i+1/\val j=d)↔(d∈ds\/val i=d):=by
    rw[hmem d]
    constructor
    .rintro⟨j,hj,e⟩
     by_cases q:j=i
     .subst q;exact .inr e
     .exact .inl ⟨j,by omega,e⟩
    .rintro(⟨j,hj,e⟩|e)
     .exact⟨j,by omega,e⟩
     .exact⟨i,by omega,e⟩
   rw[base]
   by_cases q:val i∈ds
   .rw[e1 q]
    exact⟨.inl,fun z=>z.elim id fun e=>e▸q⟩
   .rw[(e2 q).mem_iff,List.mem_cons]
    exact⟨fun z=>z.elim (fun e=>.inr e.symm) .inl,fun z=>z.elim .inr fun e=>.inl e.symm⟩
  have hlen':ds'.length<=i+1:=by
   by_cases q:val i∈ds
   .rw[e1 q];omega
   .rw[(e2 q).length_eq,List.length_cons];omega
  refine wpAny_pure ⟨plainId_quiet F.plain_set_update_loop _,ih (i+1) _ ds' (by omega) hlt (W.frame _ s' _ _ hst' htk fun b hb o e=>?_) k2 hS' hmem' hlen' fun s'' ds'' hm'' k'' S'' m'' l''=>?_⟩
  .rw[hsb.2 b (fun h:b=S=>hSf (by rw[<-h];exact hb))];exact e
  .refine hR s'' ds'' (Moved.trans W.gtrans ((hm.mono mono).then_heap htk fun b o hb e=>?_) hm'') k'' S'' m'' l''
   rw[hsb.2 b (fun h:b=S=>hb (by rw[h];exact List.mem_cons_self))];exact e
end
section
variable{prog:Program}{w:World}{A:Around}{E:Value->Shared->Prop}{s:Shared}
theorem code_set_newD(a:Value){Q₁:Value->Shared->Prop}
  (h:Q₁ (.ref s.heap.objs.size) {s with heap:=s.heap.push {cls:=.type "set",dict:=none,data:=.set #[] 0 (.fresh 0 0 (!byT w))}}) :
  codeAny (model prog w) A (.call (.builtin "set.__new__") ⟨[.type "set",a],[]⟩) (wants Q₁ E) s:=by
 refine codeAny_of_tree (show _ from ?_)
 show wpAny _ A.in1 (do checkBuiltinCall "set.__new__" ⟨[.type "set",a],[]⟩;again (.builtin "set.__new__" ⟨[.type "set",a],[]⟩)) _ _ _
 refine wpAny_bind (wpAny_of_eq (PySem.F.newCall_set_1 a) (wpAny_pure ⟨plainId_quiet PySem.F.plain_set_new _,codeAny_builtin PySem.F.entry_set_new (show _ from ?_)⟩))
 rw[Around.under_plainId PySem.F.plain_set_new (_:Args)]
 unfold Builtin.«set.__new__» Builtin.Frozenset.newClass
 have hsub:=sub_set_self
 obtain⟨hp,g,d,tk,os⟩:=s
 dsimp only
 wp_walk
 refine wpAny_askSetting (wpAny_pure ?_)
 dsimp only
 simp only[newObj]
 refine wpAny_bind (wpAny_alloc (wpAny_pure ?_))
 exact wpAny_pure h
theorem call_setD{l:Addr}{items:Array Value}{ds:List PyData}{Q:Value->Shared->Prop}
  (hh:A.handled=none) (hl:s.heap.IsList l items) (hi:items.size=ds.length) (hE:∀(i:Nat) v d,items[i]?=some v->ds[i]?=some d->El Pv w s.heap (hashD w d,v) d) (hb:ds.length<4000) (hu:A.units+20<cLine)
  (h:∀(h':Heap) (tk:Nat) (ds':List PyData),SetD Pv w h' s.heap.objs.size ds'->(∀d,d∈ds'↔d∈ds)->ds'.length<=ds.length->Keep s.heap h'->s.toks<=tk->Q (.ref s.heap.objs.size) {s with heap:=h',toks:=tk}) :
  wpAny (model prog w) A (call (.type "set") [.ref l]) Q E s:=by
 obtain⟨c,tl,hmro⟩:=PySem.F.called_set.mro
 have hmade:=PySem.F.called_set.made
 have hsub:=PySem.F.called_set.sub
 refine wpAny_call (codeAny_of_tree (show _ from ?_))
 show wpAny _ _ (callAny (.type "set") _) _ _ s
 refine wpAny_pure ⟨Code.quiet_builtin _ (by decide +kernel),codeAny_builtin F.entry_type_call (show _ from ?_)⟩
 rw[Around.under_plain (weight_type_call_type "set" [.ref l] []) (rfl:_=_)]
 have h1:=PySem.F.called_set.notType
 have h2:=PySem.F.called_set.canCreate
 have hct:=PySem.F.typeCall_set_1 (.ref l)
 repeat (any_goals (first|assumption|(wp_step)))
 refine codeAny_mono (code_set_newD (.ref l) (E:=E) (Q₁:=fun obj s₁=>∃led:Bool,led=(!byT w)/\obj=.ref s.heap.objs.size/\s₁={s with heap:=s.heap.push {cls:=.type "set",dict:=none,data:=.set #[] 0 (.fresh 0 0 led)}}) ⟨_,rfl,rfl,rfl⟩) fun r s₁ hr=>?_
 match r,hr with
 | .error e,hr=>exact hr
 | .ok (.ret obj),hr=>
   obtain⟨led,hled,rfl,rfl⟩:=hr
   obtain⟨emp,hemp⟩:∃ob:Obj,ob={cls:=.type "set",dict:=none,data:=.set #[] 0 (.fresh 0 0 led)}:=⟨_,rfl⟩
   have hS:(s.heap.push emp).get? s.heap.objs.size=some emp:=Heap.get?_push_size _ (by rw[hemp];rfl)
   have hT:Shared.TypeIs {s with heap:=s.heap.push emp} (.ref s.heap.objs.size) "set":=⟨_,hS,by rw[hemp]⟩
   have hSD:SetD Pv w (s.heap.push emp) s.heap.objs.size []:=by rw[hemp];exact SetD.fresh hled
   rw[<-hemp]
   have hli:=PySem.F.called_set.init.lookup
   have hbi:=PySem.F.called_set.init.bind (.ref s.heap.objs.size)
   repeat (any_goals (first|assumption|(wp_step)))
   refine codeAny_mono (codeAny_call_builtin (R:=wants (fun r s₂=>r=.none/\∃h' tk ds',s₂={s with heap:=h',toks:=tk}/\SetD Pv w h' s.heap.objs.size ds'/\(∀d,d∈ds'↔d∈ds)/\ds'.length<=ds.length/\Keep s.heap h'/\s.toks<=tk) E) PySem.F.called_set.init.plain F.entry_set_init (check_set_init_1 hT ?_)) fun r₂ s₂ hr₂=>?_
   .obtain⟨ol,hol,hcl,nl,hdl⟩:=hl
    obtain⟨ocls,odict,odata,oslots⟩:=ol
    simp only at hcl hdl
    subst hcl;subst hdl
    have hol':(s.heap.push emp).get? l=some {cls:=.type "list",dict:=odict,data:=.seq items nl,slots:=oslots}:=Heap.get?_push_of_some _ hol
    have hsls:=PySem.F.sub_list_set
    have hslf:=PySem.F.sub_list_frozenset
    have hne:(Value.type "list" == Value.type "dict")=false:=by decide
    have hl1:(s.heap.push emp).IsList l items:=(x_EAAE _ hol' rfl nl rfl)
    unfold Builtin.«set.__init__» noKeywords Builtin.Frozenset.updateFrom
    generalize hPI:pyIter=PI
    subst hemp
    wp_walk
    subst hPI
    refine wpAny_pyIter_list hl1 ?_
    refine wpAny_bind (wpAny_runValue ?_)
    have none_at:∀b,s.heap.objs.size<=b->s.heap.get? b=none:=fun b hb'=>by
     cases hq:s.heap.get? b with
     | none=>rfl
     | some ob=>exact absurd (Heap.lt_size hq) (Nat.not_lt.mpr hb')
    have hlS:l<s.heap.objs.size:=Heap.lt_size hol
    have hh3:A.in1.in1.in1.handled=none:=by simp[hh]
    have hIs:(s.heap.push {cls:=.type "set",dict:=none,data:=.set #[] 0 (.fresh 0 0 led)}).objs.size=s.heap.objs.size+1:=Heap.size_push _ _
    have hneI:l≠(s.heap.push {cls:=.type "set",dict:=none,data:=.set #[] 0 (.fresh 0 0 led)}).objs.size:=by rw[hIs];exact Nat.ne_of_lt (Nat.lt_succ_of_lt hlS)
    have hSf:s.heap.objs.size∉[(s.heap.push {cls:=.type "set",dict:=none,data:=.set #[] 0 (.fresh 0 0 led)}).objs.size,l]:=by
     rw[hIs];simp only[List.mem_cons,List.not_mem_nil,or_false,not_or]
     exact⟨Nat.ne_of_lt (Nat.lt_succ_self _),Nat.ne_of_gt hlS⟩
    have hval:∀(i:Nat) (v:Value),items[i]?=some v->El Pv w s.heap (hashD w (ds.getD i .none),v) (ds.getD i .none):=fun i v hv=>by
     have hlt:=(Array.getElem?_eq_some_iff.mp hv).1
     have hd:ds[i]?=some (ds.getD i .none):=by
      rw[List.getD_eq_getElem?_getD,List.getElem?_eq_getElem (by omega)];rfl
     exact hE i v _ hv hd
    refine update_loopD (A:=A.in1.in1) ((Walks.list hh3 _ l hneI items).toS) s.heap.objs.size hSf s.heap (fun b hb'=>none_at b (by rw[List.mem_singleton.mp hb',hIs];exact Nat.le_succ _)) (none_at _ (Nat.le_refl _)) (fun i s' hst b hb' ob e=>?hwt)
     (fun i=>ds.getD i .none) hval (by show A.units+1+1+9<cLine;omega) (by omega) (items.size-0) 0 _ [] (by omega) (Nat.zero_le _)
     ⟨⟨_,Heap.get?_push_size _ rfl,rfl,rfl⟩,(hl1.push _)⟩ ?hK0 ?hS0 (fun d=>by simp) (by simp) ?hR
    case hwt=>
     obtain⟨⟨oi,ho,hc,_⟩,_⟩:=hst
     rw[List.mem_singleton.mp hb',ho]at e
     cases e
     rw[hc]
     decide
    case hK0=>exact fun b o e=>Heap.get?_push_of_some _ (Heap.get?_push_of_some _ e)
    case hS0=>exact hSD.moved (fun o e=>Heap.get?_push_of_some _ e) fun b o e _=>Heap.get?_push_of_some _ e
    case hR=>
     intro s' ds' hm k' S' m' l'
     obtain⟨h',g',d',tk',os'⟩:=s'
     have eg:g'=s.gens:=hm.gens
     have ed:d'=s.drawn:=hm.drawn
     have eo:os'=s.os:=hm.os
     subst eg;subst ed;subst eo
     show wpAny _ _ _ _ _ _
     refine wpAny_pure ?_
     show wpAny _ _ (ret Value.none) _ _ _
     refine wpAny_pure ⟨rfl,(x_EEE h' tk' ds' ⟨rfl,S',fun d=>?_,by omega,k',hm.toks⟩)⟩
     rw[m' d]
     constructor
     .rintro⟨j,hj,rfl⟩
      rw[List.getD_eq_getElem?_getD,List.getElem?_eq_getElem (by omega)]
      exact List.getElem_mem _
     .intro hd
      obtain⟨j,hj⟩:=List.getElem?_of_mem hd
      have hjl:=(List.getElem?_eq_some_iff.mp hj).1
      exact⟨j,by omega,by rw[List.getD_eq_getElem?_getD,hj];rfl⟩
   .match r₂,hr₂ with
    | .error e,hr₂=>exact hr₂
    | .ok (.ret r),hr₂=>
      obtain⟨rfl,h',tk,ds',rfl,hS',hm',hl',hk',ht'⟩:=hr₂
      repeat (any_goals (first|assumption|(wp_step)))
      exact h _ _ ds' hS' hm' hl' hk' ht'
    | .ok .next,hr₂=>exact hr₂.elim
    | .ok .brk,hr₂=>exact hr₂.elim
    | .ok .cont,hr₂=>exact hr₂.elim
 | .ok .next,hr=>exact hr.elim
 | .ok .brk,hr=>exact hr.elim
 | .ok .cont,hr=>exact hr.elim
end
end L3
namespace L3
open PySem PySem.Spec PyProof.Rows L2
variable{Pv:Value->PyData->Prop}
noncomputable def KeyD(d:PyData):Prop:=kd d=true/\(∃ds,d=.tuple ds)/\d.depth<8
theorem reads_at{h:Heap}:∀{us:List Value} {ds:List PyData} {as:List Addr} {i:Nat} {u:Value} {d:PyData},ReadsAll h us ds as->us[i]?=some u->ds[i]?=some d->∃bs,Reads h u d bs
 | _,_,_,i,u,d,.nil,h1,_=>by simp at h1
 | _,_,_,0,u,d,.cons a b,h1,h2=>by
  cases h1;cases h2
  exact⟨_,a⟩
 | _,_,_,i+1,u,d,.cons a b,h1,h2=>reads_at b (by simpa using h1) (by simpa using h2)
theorem lay_mem:∀{ds:List PyData},PyData.canLayAll0 ds=true->∀d∈ds,d.canLay0=true
 | [],_,d,hd=>by cases hd
 | e::ds,hk,d,hd=>by
  have hk':(e.canLay0&&PyData.canLayAll0 ds)=true:=hk
  rw[Bool.and_eq_true]at hk'
  rcases List.mem_cons.mp hd with h|hd
  .rw[h];exact hk'.1
  .exact lay_mem hk'.2 d hd
end L3
namespace L3
open PySem
theorem slot_setit_next:Slot "set_iterator" "__next__" "set_iterator.__next__":=
 .of (owner:="set_iterator") (n:="__next__") (by rw[typeLookup_type,builtinLookup_eq_fast];kernel_rfl) (by decide +kernel) (by decide +kernel) (by decide +kernel) (by first|exact .inl (by decide +kernel)|exact .inr (by decide +kernel)) (by rw[isSubtype_type];kernel_rfl)
theorem entry_setit_next:entryFor table "set_iterator.__next__" = some Builtin.«set_iterator.__next__»:=entryFor_of_tree (by kernel_rfl)
theorem args_setit_next(a:Value):argsOk "set_iterator.__next__" ⟨[a],[]⟩:=by unfold argsOk;kernel_rfl
theorem entry_set_iterD:entryFor table "set.__iter__" = some Builtin.«frozenset.__iter__»:=entryFor_alias (id':="frozenset.__iter__") (by kernel_rfl) rfl (by decide +kernel) (by kernel_rfl)
theorem erase_perm{α:Type}:∀(l:List α) (i:Nat) (h:i<l.length),(l[i]::l.eraseIdx i).Perm l
 | a::l,0,h=>List.Perm.refl _
 | a::l,i+1,h=>by
  have h':i<l.length:=by simpa using h
  show(l[i]::a::l.eraseIdx i).Perm (a::l)
  exact(List.Perm.swap _ _ _).trans ((erase_perm l i h').cons a)
theorem pick_go{α:Type}(next:Nat->Nat):∀(fuel k:Nat) (left:List α) (out:Array α),left.length=fuel->((pickOrder.go next fuel k left out).toList).Perm (out.toList++left)
 | 0,k,left,out,h=>by
  have:left=[]:=List.length_eq_zero_iff.mp h
  subst this
  rw[List.append_nil]
  exact List.Perm.refl _
 | fuel+1,k,left,out,h=>by
  unfold pickOrder.go
  have hl:next k % left.length<left.length:=Nat.mod_lt _ (by omega)
  rw[List.getElem?_eq_getElem hl]
  dsimp only
  refine(pick_go next fuel (k+1) _ _ (by rw[List.length_eraseIdx_of_lt hl];omega)).trans ?_
  rw[Array.toList_push,List.append_assoc]
  refine List.Perm.append_left _ ?_
  exact(erase_perm _ _ hl)
theorem pick_perm{α:Type}(next:Nat->Nat)(xs:Array α):(pickOrder next xs).toList.Perm xs.toList:=by
 unfold pickOrder
 have:=pick_go next xs.size 0 xs.toList #[] (by simp)
 simpa using this
section
variable{prog:Program}{w:World}{A:Around}{E:Value->Shared->Prop}{s:Shared}
theorem wpAny_chooseD{src:Source}{n:Nat}{Q:Nat->Shared->Prop}(hn:0<n)(h:∀i dr,i<n->Q i {s with drawn:=dr}):wpAny (model prog w) A (choose src n) Q E s:=fun Γ p hΓ=>by
 show n≠0/\_
 exact⟨by omega,h _ _ (Nat.mod_lt _ hn)⟩
theorem draw_perm{α:Type}:∀(n:Nat) (xs:List α) (s:Shared) {Q:List α->Shared->Prop},xs.length=n->(∀ys dr,ys.Perm xs->Q ys {s with drawn:=dr})->wpAny (model prog w) A (drawOrder n xs) Q E s
 | 0,xs,s,Q,h,q=>by
  have:xs=[]:=List.length_eq_zero_iff.mp h
  subst this
  unfold drawOrder
  exact wpAny_pure (q [] s.drawn (List.Perm.refl _))
 | n+1,[],s,Q,h,q=>by simp at h
 | n+1,x::xs,s,Q,h,q=>by
  unfold drawOrder
  refine wpAny_bind (wpAny_chooseD (by simp) fun i dr hi=>?_)
  rw[List.getElem?_eq_getElem hi]
  dsimp only
  refine wpAny_bind (draw_perm n _ {s with drawn:=dr} (by rw[List.length_eraseIdx_of_lt hi];omega) fun ys dr' p=>?_)
  exact wpAny_pure (q _ dr' ((List.Perm.cons _ p).trans (erase_perm _ _ hi)))
noncomputable def itObj(first:Value)(i:Nat)(a:Addr)(n ep:Nat):Obj:={cls:=.type "set_iterator",data:=.fields #[first,.int i 0,.ref a,.int n 0,.int ep 0]}
theorem next_int{I a:Addr}{slot slot' i ep:Nat}{o:Obj}{es:Array (Int×Value)}{t:SetTable}{x:Value}{Q:Option Value->Shared->Prop}(hit:s.heap.get? I=some (itObj (.int slot 0) i a es.size ep))(ho:s.heap.get? a=some o)(hd:o.data=.set es ep t)(hf:t.fits es.size=true)
  (hnx:∀{A:Around} {E:Value->Shared->Prop} {Q:Option (Value×Nat)->Shared->Prop},Q (some (x,slot')) s->wpAny (model prog w) A (setNext a slot i ep) Q E s)
  (hQ:∀h',h'.get? I=some (itObj (.int slot' 0) (i+1) a es.size ep)->Heap.SameBut I s.heap h'->Q (some x) {s with heap:=h'}):wpAny (model prog w) A (pyNext (.ref I)) Q E s:=by
 have hT:s.TypeIs (.ref I) "set_iterator":=⟨_,hit,rfl⟩
 unfold pyNext
 refine wpAny_bind (wpAny_attempt (wpAny_callSpecial?_slot (name:=Str.ofString "__next__") hT slot_setit_next (wpAny_call_entry slot_setit_next hT entry_setit_next ?_ (args_setit_next _))))
 unfold Builtin.«set_iterator.__next__» slotArgs
 simp only[List.isEmpty_nil,Bool.not_true,Bool.false_eq_true,↓reduceIte,bind_assoc,List.length_nil,bne_self_eq_false]
 refine wpAny_bind (wpAny_pure ?_)
 dsimp only
 refine wpAny_bind (wpAny_fieldsOf hit rfl ?_)
 show wpAny _ _ (setEntries a >>= _) _ _ _
 refine wpAny_bind (wpAny_setEntries_of ho hd hf ?_)
 rw[if_neg (by simp)]
 show wpAny _ _ (setNext a (slot:Int).toNat (i:Int).toNat (ep:Int).toNat >>= _) _ _ _
 simp only[Int.toNat_natCast]
 refine wpAny_bind (hnx ?_)
 dsimp only
 refine wpAny_bind (wpAny_setField hit rfl (by show 0<5;decide) ?_)
 have g1:=Heap.get?_update_self (Obj.mapFields (·.setIfInBounds 0 (rawInt slot'))) hit rfl
 refine wpAny_bind (wpAny_setField g1 rfl (by show 1<5;decide) ?_)
 have g2:=Heap.get?_update_self (Obj.mapFields (·.setIfInBounds 1 (rawInt (i+1)))) g1 rfl
 exact wpAny_pure ⟨x,rfl,wpAny_pure (hQ _ g2 ((Heap.SameBut.update ..).trans (Heap.SameBut.update ..)))⟩
theorem end_int{I a:Addr}{slot i ep:Nat}{o:Obj}{es:Array (Int×Value)}{t:SetTable}{Q:Option Value->Shared->Prop}(hh:A.handled=none)(hit:s.heap.get? I=some (itObj (.int slot 0) i a es.size ep))(ho:s.heap.get? a=some o)(hd:o.data=.set es ep t)(hf:t.fits es.size=true)
  (hnx:∀{A:Around} {E:Value->Shared->Prop} {Q:Option (Value×Nat)->Shared->Prop},Q none s->wpAny (model prog w) A (setNext a slot i ep) Q E s)
  (hQ:∀h',Heap.ExtBut I s.heap h'->Q none {s with heap:=h'}):wpAny (model prog w) A (pyNext (.ref I)) Q E s:=by
 have hT:s.TypeIs (.ref I) "set_iterator":=⟨_,hit,rfl⟩
 unfold pyNext
 refine wpAny_bind (wpAny_attempt (wpAny_callSpecial?_slot (name:=Str.ofString "__next__") hT slot_setit_next (wpAny_call_entry slot_setit_next hT entry_setit_next ?_ (args_setit_next _))))
 unfold Builtin.«set_iterator.__next__» slotArgs
 simp only[List.isEmpty_nil,Bool.not_true,Bool.false_eq_true,↓reduceIte,bind_assoc,List.length_nil,bne_self_eq_false]
 refine wpAny_bind (wpAny_pure ?_)
 dsimp only
 refine wpAny_bind (wpAny_fieldsOf hit rfl ?_)
 show wpAny _ _ (setEntries a >>= _) _ _ _
 refine wpAny_bind (wpAny_setEntries_of ho hd hf ?_)
 rw[if_neg (by simp)]
 show wpAny _ _ (setNext a (slot:Int).toNat (i:Int).toNat (ep:Int).toNat >>= _) _ _ _
 simp only[Int.toNat_natCast]
 refine wpAny_bind (hnx ?_)
 dsimp only
 refine wpAny_bind (wpAny_setField hit rfl (by show 2<5;decide) ?_)
 show wpAny _ _ (newExc (.type "StopIteration") [] >>= _) _ _ _
 refine wpAny_bind ?_
 simp only[newExc,newTuple]
 refine wpAny_bind (wpAny_newObj_type ?_ (by size_fits))
 refine wpAny_bind (m:=firstArgMember _ _) (wpAny_of_eq (a:=Value.none) (by first|rfl|(simp only[firstArgMember];rfl)) ?_)
 refine wpAny_newObj_type ?_ (by size_fits)
 simp only[raiseNew]
 refine wpAny_bind (wpAny_handled ?_)
 rw[show A.in1.handled=none from hh]
 refine wpAny_bind (wpAny_pure (wpAny_throw ?_))
 refine wpAny_bind (wpAny_isInstance (T:="StopIteration") (b:=true) ⟨_,Heap.get?_push_size _ rfl,rfl⟩ isSubtype_stop ?_)
 exact wpAny_pure (hQ _ (((Heap.SameBut.update ..).extBut.push _).push _))
theorem next_draw{I a tp:Addr}{i ep p:Nat}{o op:Obj}{es:Array (Int×Value)}{t:SetTable}{ps:Array Value}{c:Nat}{e:Int×Value}{Q:Option Value->Shared->Prop}(hit:s.heap.get? I=some (itObj (.ref tp) i a es.size ep))(ho:s.heap.get? a=some o)(hd:o.data=.set es ep t)(hf:t.fits es.size=true)
  (hp:s.heap.get? tp=some op) (hpd:op.data=.seq ps c) (hps:ps[i]?=some (.int p 0)) (hes:es[p]?=some e)
  (hQ:∀h',h'.get? I=some (itObj (.ref tp) (i+1) a es.size ep)->Heap.SameBut I s.heap h'->Q (some e.2) {s with heap:=h'}):wpAny (model prog w) A (pyNext (.ref I)) Q E s:=by
 have hT:s.TypeIs (.ref I) "set_iterator":=⟨_,hit,rfl⟩
 unfold pyNext
 refine wpAny_bind (wpAny_attempt (wpAny_callSpecial?_slot (name:=Str.ofString "__next__") hT slot_setit_next (wpAny_call_entry slot_setit_next hT entry_setit_next ?_ (args_setit_next _))))
 unfold Builtin.«set_iterator.__next__» slotArgs
 simp only[List.isEmpty_nil,Bool.not_true,Bool.false_eq_true,↓reduceIte,bind_assoc,List.length_nil,bne_self_eq_false]
 refine wpAny_bind (wpAny_pure ?_)
 dsimp only
 refine wpAny_bind (wpAny_fieldsOf hit rfl ?_)
 show wpAny _ _ (setEntries a >>= _) _ _ _
 refine wpAny_bind (wpAny_setEntries_of ho hd hf ?_)
 rw[if_neg (by simp)]
 show wpAny _ _ (seqItems? (.ref tp) >>= _) _ _ _
 refine wpAny_bind (wpAny_seqItems hp hpd ?_)
 dsimp only
 simp only[Int.toNat_natCast,hps]
 refine wpAny_bind ?_
 unfold setNextDrawn
 refine wpAny_bind (wpAny_setState_of ho hd hf ?_)
 dsimp only
 rw[if_neg (by simp)]
 simp only[Int.toNat_natCast,hes]
 refine wpAny_pure ?_
 refine wpAny_bind (wpAny_setField hit rfl (by show 1<5;decide) ?_)
 have g2:=Heap.get?_update_self (Obj.mapFields (·.setIfInBounds 1 (rawInt (i+1)))) hit rfl
 exact wpAny_pure ⟨e.2,rfl,wpAny_pure (hQ _ g2 (Heap.SameBut.update ..))⟩
theorem end_draw{I a tp:Addr}{i ep:Nat}{o op:Obj}{es:Array (Int×Value)}{t:SetTable}{ps:Array Value}{c:Nat}{Q:Option Value->Shared->Prop}(hh:A.handled=none)(hit:s.heap.get? I=some (itObj (.ref tp) i a es.size ep))(ho:s.heap.get? a=some o)(hd:o.data=.set es ep t)(hf:t.fits es.size=true)
  (hp:s.heap.get? tp=some op) (hpd:op.data=.seq ps c) (hps:ps[i]?=none)
  (hQ:∀h',Heap.ExtBut I s.heap h'->Q none {s with heap:=h'}):wpAny (model prog w) A (pyNext (.ref I)) Q E s:=by
 have hT:s.TypeIs (.ref I) "set_iterator":=⟨_,hit,rfl⟩
 unfold pyNext
 refine wpAny_bind (wpAny_attempt (wpAny_callSpecial?_slot (name:=Str.ofString "__next__") hT slot_setit_next (wpAny_call_entry slot_setit_next hT entry_setit_next ?_ (args_setit_next _))))
 unfold Builtin.«set_iterator.__next__» slotArgs
 simp only[List.isEmpty_nil,Bool.not_true,Bool.false_eq_true,↓reduceIte,bind_assoc,List.length_nil,bne_self_eq_false]
 refine wpAny_bind (wpAny_pure ?_)
 dsimp only
 refine wpAny_bind (wpAny_fieldsOf hit rfl ?_)
 show wpAny _ _ (setEntries a >>= _) _ _ _
 refine wpAny_bind (wpAny_setEntries_of ho hd hf ?_)
 rw[if_neg (by simp)]
 show wpAny _ _ (seqItems? (.ref tp) >>= _) _ _ _
 refine wpAny_bind (wpAny_seqItems hp hpd ?_)
 dsimp only
 simp only[Int.toNat_natCast,hps]
 refine wpAny_bind (wpAny_setField hit rfl (by show 0<5;decide) ?_)
 have g1:=Heap.get?_update_self (Obj.mapFields (·.setIfInBounds 0 (rawInt 0))) hit rfl
 refine wpAny_bind (wpAny_setField g1 rfl (by show 2<5;decide) ?_)
 show wpAny _ _ (newExc (.type "StopIteration") [] >>= _) _ _ _
 refine wpAny_bind ?_
 simp only[newExc,newTuple]
 refine wpAny_bind (wpAny_newObj_type ?_ (by size_fits))
 refine wpAny_bind (m:=firstArgMember _ _) (wpAny_of_eq (a:=Value.none) (by first|rfl|(simp only[firstArgMember];rfl)) ?_)
 refine wpAny_newObj_type ?_ (by size_fits)
 simp only[raiseNew]
 refine wpAny_bind (wpAny_handled ?_)
 rw[show A.in1.handled=none from hh]
 refine wpAny_bind (wpAny_pure (wpAny_throw ?_))
 refine wpAny_bind (wpAny_isInstance (T:="StopIteration") (b:=true) ⟨_,Heap.get?_push_size _ rfl,rfl⟩ isSubtype_stop ?_)
 exact wpAny_pure (hQ _ ((((Heap.SameBut.update ..).trans (Heap.SameBut.update ..)).extBut.push _).push _))
theorem setNext_text{a:Addr}{slot given ep:Nat}{o:Obj}{es:Array (Int×Value)}{t:SetTable}{Q:Option (Value×Nat)->Shared->Prop}(hb:byT w=true)(ho:s.heap.get? a=some o)(hd:o.data=.set es ep t)(hf:t.fits es.size=true)
  (h:Q (((pickOrder (w.params.setOrder a ep) es)[given]?).map fun e=>(e.2,slot)) s):wpAny (model prog w) A (setNext a slot given ep) Q E s:=by
 have hb':w.params.followText "set-order" = true:=hb
 unfold setNext
 refine wpAny_bind (wpAny_setState_of ho hd hf ?_)
 dsimp only
 unfold setsByText
 refine wpAny_bind (wpAny_bind (wpAny_askSetting (wpAny_pure ?_)))
 show wpAny _ _ (if w.params.followText "set-order" = true then _ else _) _ _ _
 rw[if_pos hb']
 rw[if_neg (by simp)]
 refine wpAny_bind ?_
 unfold setWalk
 refine wpAny_bind (wpAny_setState_of ho hd hf ?_)
 dsimp only
 unfold setsByText
 refine wpAny_bind (wpAny_bind (wpAny_askSetting (wpAny_pure ?_)))
 show wpAny _ _ (if w.params.followText "set-order" = true then _ else _) _ _ _
 rw[if_pos hb']
 refine wpAny_bind (wpAny_askSetting (wpAny_pure ?_))
 exact wpAny_pure h
theorem setNext_plain{a:Addr}{slot given ep:Nat}{o:Obj}{es:Array (Int×Value)}{t:SetTable}{Q:Option (Value×Nat)->Shared->Prop}(hb:byT w=false)(hled:t.led=true)(hdr:(!t.plain&&decide (es.size>1))=false)(ho:s.heap.get? a=some o)(hd:o.data=.set es ep t)(hf:t.fits es.size=true)
  (h:Q (match es[SetTable.below t.place slot]?,t.place[SetTable.below t.place slot]? with|some (_,x),some j=>some (x,j+1)|_,_=>none) s):wpAny (model prog w) A (setNext a slot given ep) Q E s:=by
 have hb':w.params.followText "set-order" = false:=hb
 unfold setNext
 refine wpAny_bind (wpAny_setState_of ho hd hf ?_)
 dsimp only
 unfold setsByText
 refine wpAny_bind (wpAny_bind (wpAny_askSetting (wpAny_pure ?_)))
 show wpAny _ _ (if w.params.followText "set-order" = true then _ else _) _ _ _
 rw[if_neg (by rw[hb'];exact Bool.false_ne_true)]
 show wpAny _ _ (if (!t.plain&&decide (es.size>1))=true then _ else _) _ _ _
 rw[hdr,if_neg Bool.false_ne_true]
 refine wpAny_bind ?_
 show wpAny _ _ (if (!t.led && !es.isEmpty)=true then _ else _) _ _ _
 rw[hled,if_neg (by simp)]
 refine wpAny_pure ?_
 exact wpAny_pure h
end
theorem below_zero{xs:Array Nat}(h:xs.toList.Pairwise (· < ·)):SetTable.below xs 0=0:=by
 obtain⟨a,b,c⟩:=below_low h 0
 apply Classical.byContradiction
 intro hn
 have h0:0<xs.size:=by omega
 have:=b 0 xs[0] (by omega) (by simp[h0])
 omega
theorem below_next{xs:Array Nat}(h:xs.toList.Pairwise (· < ·)){i j:Nat}(hi:xs[i]?=some j):SetTable.below xs (j+1)=i+1:=by
 obtain⟨a,b,c⟩:=below_low h (j+1)
 have hl:=(Array.getElem?_eq_some_iff.mp hi).1
 by_cases q:SetTable.below xs (j+1)<=i
 .have:=c i j q hi
  omega
 by_cases q2:i+1<SetTable.below xs (j+1)
 .have hl2:i+1<xs.size:=by omega
  have e:xs[i+1]?=some xs[i+1]:=by simp[hl2]
  have h1:=b (i+1) _ q2 e
  have h2:=rise_at h hi e (by omega)
  omega
 .omega
noncomputable def WalkAt(w:World)(a I:Addr)(es:Array (Int×Value))(ep:Nat)(t:SetTable)(os:List Value)(i:Nat)(h:Heap):Prop:=
 (∃o,h.get? a=some o/\o.cls=.type "set"/\o.data=.set es ep t)/\
 ((byT w=true/\os=(pickOrder (w.params.setOrder a ep) es).toList.map (·.2)/\∃slot,h.get? I=some (itObj (.int (slot:Nat) 0) i a es.size ep))\/
  (byT w=false/\(!t.plain&&decide (es.size>1))=false/\os=es.toList.map (·.2)/\∃slot,h.get? I=some (itObj (.int (slot:Nat) 0) i a es.size ep)/\SetTable.below t.place slot=i)\/
  (∃tp op c,∃ord:List Nat,h.get? I=some (itObj (.ref tp) i a es.size ep)/\h.get? tp=some op/\op.cls=.type "tuple"/\op.data=.seq (ord.map fun(p:Nat)=>Value.int (p:Int) 0).toArray c/\os.length=ord.length/\∀(k:Nat) p,ord[k]?=some p->∃e,es[p]?=some e/\os[k]?=some e.2))
section
variable{prog:Program}{w:World}{A:Around}{E:Value->Shared->Prop}{s:Shared}{a I:Addr}{es:Array (Int×Value)}{ep:Nat}{t:SetTable}{os:List Value}{i:Nat}
theorem WalkAt.keep{h h':Heap}(x:WalkAt w a I es ep t os i h)(k:∀b o,h.get? b=some o->(o.cls=.type "set"\/o.cls=.type "set_iterator"\/o.cls=.type "tuple")->h'.get? b=some o):WalkAt w a I es ep t os i h':=by
 obtain⟨⟨o,h1,h2,h3⟩,hm⟩:=x
 refine⟨⟨o,k _ _ h1 (.inl h2),h2,h3⟩,?_⟩
 rcases hm with ⟨b1,b2,slot,b3⟩|⟨b1,b2,b3,slot,b4,b5⟩|⟨tp,op,c,ord,b1,b2,b3,b4,b5,b6⟩
 .exact .inl ⟨b1,b2,slot,k _ _ b3 (.inr (.inl rfl))⟩
 .exact .inr (.inl ⟨b1,b2,b3,slot,k _ _ b4 (.inr (.inl rfl)),b5⟩)
 .exact .inr (.inr (x_EEEE tp op c ord ⟨k _ _ b1 (.inr (.inl rfl)),k _ _ b2 (.inr (.inr b3)),b3,b4,b5,b6⟩))
theorem walk_item{x:Value}{Q:Option Value->Shared->Prop}(ok:TOk t es)(hled:t.led = !byT w)(hw:WalkAt w a I es ep t os i s.heap)(hx:os[i]?=some x)
  (hQ:∀h',WalkAt w a I es ep t os (i+1) h'->Heap.SameBut I s.heap h'->Q (some x) {s with heap:=h'}):wpAny (model prog w) A (pyNext (.ref I)) Q E s:=by
 obtain⟨⟨o,h1,h2,h3⟩,hm⟩:=hw
 have keepA:∀{h':Heap} {fo:Obj},s.heap.get? I=some fo->fo.cls=.type "set_iterator"->Heap.SameBut I s.heap h'->h'.get? a=some o:=fun{h' fo} hi hc sb=>by
  rw[sb.2 a (fun e=>by subst e;rw[h1]at hi;cases hi;rw[h2]at hc;exact absurd hc (by decide))]
  exact h1
 rcases hm with ⟨b1,b2,slot,b3⟩|⟨b1,b2,b3,slot,b4,b5⟩|⟨tp,op,c,ord,b1,b2,b3,b4,b5,b6⟩
 .subst b2
  rw[List.getElem?_map,Array.getElem?_toList]at hx
  obtain⟨e,he,rfl⟩:=Option.map_eq_some_iff.mp hx
  refine next_int (slot':=slot) b3 h1 h3 ok.fits (fun q=>setNext_text b1 h1 h3 ok.fits (by rw[he];exact q)) fun h' g sb=>?_
  exact hQ h' ⟨⟨o,keepA b3 rfl sb,h2,h3⟩,.inl ⟨b1,rfl,slot,g⟩⟩ sb
 .subst b3
  rw[List.getElem?_map,Array.getElem?_toList]at hx
  obtain⟨e,he,rfl⟩:=Option.map_eq_some_iff.mp hx
  have hil:=(Array.getElem?_eq_some_iff.mp he).1
  have hpl:t.place[i]?=some (t.place[i]'(by rw[ok.sz];exact hil)):=Array.getElem?_eq_getElem _
  have hl:t.led=true:=by rw[hled,b1];rfl
  obtain⟨eh,ev⟩:=e
  refine next_int (slot':=t.place[i]'(by rw[ok.sz];exact hil)+1) b4 h1 h3 ok.fits (fun q=>setNext_plain b1 hl b2 h1 h3 ok.fits (by rw[b5,he,hpl];exact q)) fun h' g sb=>?_
  exact hQ h' ⟨⟨o,keepA b4 rfl sb,h2,h3⟩,.inr (.inl ⟨b1,b2,rfl,_,g,below_next ok.rise hpl⟩)⟩ sb
 .have hil:=(List.getElem?_eq_some_iff.mp hx).1
  have hio:ord[i]?=some (ord[i]'(by omega)):=List.getElem?_eq_getElem _
  obtain⟨e,e1,e2⟩:=b6 i _ hio
  rw[hx]at e2
  cases e2
  refine next_draw b1 h1 h3 ok.fits b2 b4 (by rw[List.getElem?_toArray,List.getElem?_map,hio];rfl) e1 fun h' g sb=>?_
  have nt:tp≠I:=fun e=>by subst e;rw[b2]at b1;cases b1;exact absurd b3 (by show ¬(Value.type "set_iterator" = Value.type "tuple");decide)
  exact hQ h' ⟨⟨o,keepA b1 rfl sb,h2,h3⟩,.inr (.inr (x_EEEE tp op c ord ⟨g,by rw[sb.2 tp nt];exact b2,b3,b4,b5,b6⟩))⟩ sb
theorem walk_end{Q:Option Value->Shared->Prop}(hh:A.handled=none)(ok:TOk t es)(hled:t.led = !byT w)(hw:WalkAt w a I es ep t os i s.heap)(hx:os.length<=i)
  (hQ:∀h',Heap.ExtBut I s.heap h'->Q none {s with heap:=h'}):wpAny (model prog w) A (pyNext (.ref I)) Q E s:=by
 obtain⟨⟨o,h1,h2,h3⟩,hm⟩:=hw
 rcases hm with ⟨b1,b2,slot,b3⟩|⟨b1,b2,b3,slot,b4,b5⟩|⟨tp,op,c,ord,b1,b2,b3,b4,b5,b6⟩
 .subst b2
  rw[List.length_map,Array.length_toList]at hx
  refine end_int hh b3 h1 h3 ok.fits (fun q=>setNext_text b1 h1 h3 ok.fits (by rw[Array.getElem?_eq_none hx];exact q)) hQ
 .subst b3
  rw[List.length_map,Array.length_toList]at hx
  have hl:t.led=true:=by rw[hled,b1];rfl
  refine end_int hh b4 h1 h3 ok.fits (fun q=>setNext_plain b1 hl b2 h1 h3 ok.fits (by rw[b5,Array.getElem?_eq_none hx];exact q)) hQ
 .exact end_draw hh b1 h1 h3 ok.fits b2 b4 (by rw[List.getElem?_toArray,List.getElem?_map,List.getElem?_eq_none (by omega)];rfl) hQ
theorem walk_start{o:Obj}{Q:Value->Shared->Prop}(ho:s.heap.get? a=some o)(hex:o.ExactSet)(hd:o.data=.set es ep t)(ok:TOk t es)(hled:t.led = !byT w)(hsz:es.size<=4000)
  (hQ:∀h' I os dr,os.Perm (es.toList.map (·.2))->WalkAt w a I es ep t os 0 h'->(∀b o,s.heap.get? b=some o->h'.get? b=some o)->s.heap.objs.size<=I->Q (.ref I) {s with heap:=h',drawn:=dr}):wpAny (model prog w) A (pyIter (.ref a)) Q E s:=by
 have hT:s.TypeIs (.ref a) "set":=⟨o,ho,hex.1⟩
 refine wpAny_pyIter_slot hT PySem.F.slot_set_iter (wpAny_call_entry PySem.F.slot_set_iter hT entry_set_iterD ?_ (PySem.F.args_set_iter_1 _))
 unfold Builtin.«frozenset.__iter__» Builtin.Frozenset.slot0 slotArgs
 simp only[List.isEmpty_nil,Bool.not_true,Bool.false_eq_true,↓reduceIte,bind_assoc,List.length_nil,bne_self_eq_false]
 unfold Builtin.Frozenset.addrOf Builtin.Frozenset.sizeOf
 refine wpAny_bind (wpAny_pure ?_)
 dsimp only
 refine wpAny_bind (wpAny_pure ?_)
 refine wpAny_bind (wpAny_bind (wpAny_setEntries_of ho hd ok.fits (wpAny_pure ?_)))
 have hdrn:∀{Q:Bool->Shared->Prop},Q (!byT w&&(!t.plain&&decide (es.size>1))) s->wpAny (model prog w) A.in1 (setDrawn a) Q E s:=fun{Q} q=>by
  unfold setDrawn
  refine wpAny_bind (wpAny_setState_of ho hd ok.fits ?_)
  dsimp only
  unfold setsByText
  refine wpAny_bind (wpAny_bind (wpAny_askSetting (wpAny_pure ?_)))
  exact wpAny_pure q
 refine wpAny_bind (hdrn ?_)
 cases hc:(!byT w&&(!t.plain&&decide (es.size>1)))with
 | true=>
  rw[if_pos rfl]
  refine wpAny_bind (draw_perm es.size (List.range es.size) s (by rw[List.length_range]) fun ord dr hp=>?_)
  simp only[newTuple]
  have hol:ord.length=es.size:=by rw[hp.length_eq,List.length_range]
  obtain⟨tob,htob⟩:∃ob:Obj,ob={cls:=.type "tuple",data:=.seq (ord.map fun(p:Nat)=>Value.int (p:Int) 0).toArray}:=⟨_,rfl⟩
  have hline:((ord.map fun(p:Nat)=>Value.int (p:Int) 0).toArray).size<=sizeLine:=by rw[List.size_toArray,List.length_map,hol,sizeLine_eq];omega
  refine wpAny_bind (wpAny_newObj_type ?_ hline)
  show wpAny _ _ _ _ _ {s with heap:=s.heap.push {cls:=.type "tuple",data:=.seq (ord.map fun(p:Nat)=>Value.int (p:Int) 0).toArray},drawn:=dr}
  rw[<-htob]
  have kp1:∀b ob,s.heap.get? b=some ob->(s.heap.push tob).get? b=some ob:=fun b ob e=>Heap.get?_push_of_some _ e
  have ht1:(s.heap.push tob).get? s.heap.objs.size=some tob:=Heap.get?_push_size _ (by rw[htob];rfl)
  refine wpAny_bind (wpAny_setEpoch_of (kp1 _ _ ho) hd ok.fits ?_)
  have hg:((s.heap.push tob).push (itObj (.ref s.heap.objs.size) 0 a es.size ep)).get? (s.heap.push tob).objs.size=some (itObj (.ref s.heap.objs.size) 0 a es.size ep):=Heap.get?_push_size _ rfl
  have kp2:∀b ob,(s.heap.push tob).get? b=some ob->((s.heap.push tob).push (itObj (.ref s.heap.objs.size) 0 a es.size ep)).get? b=some ob:=fun b ob e=>Heap.get?_push_of_some _ e
  refine wpAny_bind (wpAny_newObj_type (wpAny_pure (x_EAEE _ rfl ("set_iterator") _ ⟨⟨_,hg,rfl⟩,slot_setit_next.lookup,?_⟩)))
  have hperm:(ord.map fun p=>(es[p]?.map (·.2)).getD Value.none).Perm (es.toList.map (·.2)):=by
   have h1:=hp.map fun p=>(es[p]?.map (·.2)).getD Value.none
   have h2:(List.range es.size).map (fun p=>(es[p]?.map (·.2)).getD Value.none)=es.toList.map (·.2):=by
    apply List.ext_getElem
    .simp
    .intro k a1 b1
     have hk:k<es.size:=by simpa using b1
     simp[hk]
   rw[h2]at h1
   exact h1
  refine hQ _ _ _ dr hperm ⟨⟨o,kp2 _ _ (kp1 _ _ ho),hex.1,hd⟩,.inr (.inr (x_EEEE s.heap.objs.size tob 0 ord ⟨hg,kp2 _ _ ht1,by rw[htob],by rw[htob],by rw[List.length_map],fun k p hk=>?_⟩))⟩ (fun b ob e=>kp2 _ _ (kp1 _ _ e)) (by rw[Heap.size_push];exact Nat.le_succ _)
  have hpl:p<es.size:=List.mem_range.mp (hp.mem_iff.mp (List.mem_of_getElem? hk))
  refine⟨es[p],Array.getElem?_eq_getElem hpl,?_⟩
  rw[List.getElem?_map,hk]
  show some ((es[p]?.map (·.2)).getD Value.none)=_
  rw[Array.getElem?_eq_getElem hpl]
  rfl
 | false=>
  rw[if_neg Bool.false_ne_true]
  refine wpAny_bind (wpAny_pure ?_)
  refine wpAny_bind (wpAny_setEpoch_of ho hd ok.fits ?_)
  have hg:(s.heap.push (itObj (.int ((0:Nat):Int) 0) 0 a es.size ep)).get? s.heap.objs.size=some (itObj (.int ((0:Nat):Int) 0) 0 a es.size ep):=Heap.get?_push_size _ rfl
  have kp:∀b ob,s.heap.get? b=some ob->(s.heap.push (itObj (.int ((0:Nat):Int) 0) 0 a es.size ep)).get? b=some ob:=fun b ob e=>Heap.get?_push_of_some _ e
  refine wpAny_bind (wpAny_newObj_type (wpAny_pure (x_EAEE _ rfl ("set_iterator") _ ⟨⟨_,hg,rfl⟩,slot_setit_next.lookup,?_⟩)))
  cases hb:byT w with
  | true=>exact hQ _ _ _ s.drawn ((pick_perm _ es).map _) ⟨⟨o,kp _ _ ho,hex.1,hd⟩,.inl ⟨hb,rfl,0,hg⟩⟩ kp (Nat.le_refl _)
  | false=>
   rw[hb]at hc
   exact hQ _ _ _ s.drawn (List.Perm.refl _) ⟨⟨o,kp _ _ ho,hex.1,hd⟩,.inr (.inl ⟨hb,by simpa using hc,rfl,0,hg,below_zero ok.rise⟩)⟩ kp (Nat.le_refl _)
end
theorem set_lenD:typeLookup (.type "set") "__len__" = pure (some (.builtin "set.__len__")):=by rw[typeLookup_type,builtinLookup_eq_fast];kernel_rfl
section
variable{prog:Program}{w:World}{A:Around}{a I S:Addr}{es:Array (Int×Value)}{ep:Nat}{t:SetTable}{os:List Value}{R:Result->Shared->Prop}
theorem extend_loopD(hh:A.in1.handled=none)(ok:TOk t es)(hled:t.led = !byT w)(hos:os.length<=4000)(res:Value)(h0:Heap)(hI0:h0.get? I=none)(hS0:h0.get? S=none) :
  ∀(k i:Nat) (s:Shared) (c:Nat),os.length-i=k->i<=os.length->WalkAt w a I es ep t os i s.heap->s.heap.get? S=some {cls:=.type "list",dict:=none,data:=.seq (os.take i).toArray c,slots:=#[]}->(∀b o,h0.get? b=some o->s.heap.get? b=some o)->
  (∀h' c',h'.get? S=some {cls:=.type "list",dict:=none,data:=.seq os.toArray c',slots:=#[]}->(∀b o,h0.get? b=some o->h'.get? b=some o)->R (.ok (.ret res)) {s with heap:=h'})->
  codeAny (model prog w) A (.builtin "list.extend.loop" ⟨[.ref S,.ref I,res],[]⟩) R s:=by
 intro k
 induction k with
 | zero=>
  intro i s c hk hi hw hS hkp hR
  have hin:i=os.length:=by omega
  subst hin
  rw[List.take_length]at hS
  refine codeAny_builtin PySem.F.entry_extend_loop (show _ from ?_)
  rw[Around.under_plainId PySem.F.plain_extend_loop (_:Args)]
  show wpAny _ A.in1 (pyNext (.ref I) >>= _) _ _ s
  have nSI:S≠I:=fun e=>by
   subst e
   rcases hw.2 with ⟨_,_,slot,b3⟩|⟨_,_,_,slot,b4,_⟩|⟨tp,op,c,ord,b1,_⟩
   .rw[hS]at b3;injection b3 with b3;injection b3 with b3;exact absurd b3 (by decide)
   .rw[hS]at b4;injection b4 with b4;injection b4 with b4;exact absurd b4 (by decide)
   .rw[hS]at b1;injection b1 with b1;injection b1 with b1;exact absurd b1 (by decide)
  refine wpAny_bind (walk_end hh ok hled hw (Nat.le_refl _) fun h' hx=>?_)
  exact wpAny_pure (hR h' c (hx S _ nSI hS) fun b o e=>hx b o (fun z=>by rw[z,hI0]at e;cases e) (hkp b o e))
 | succ k ih=>
  intro i s c hk hi hw hS hkp hR
  have hlt:i<os.length:=by omega
  refine codeAny_builtin PySem.F.entry_extend_loop (show _ from ?_)
  rw[Around.under_plainId PySem.F.plain_extend_loop (_:Args)]
  show wpAny _ A.in1 (pyNext (.ref I) >>= _) _ _ s
  have nSI:S≠I:=fun e=>by
   subst e
   rcases hw.2 with ⟨_,_,slot,b3⟩|⟨_,_,_,slot,b4,_⟩|⟨tp,op,c,ord,b1,_⟩
   .rw[hS]at b3;injection b3 with b3;injection b3 with b3;exact absurd b3 (by decide)
   .rw[hS]at b4;injection b4 with b4;injection b4 with b4;exact absurd b4 (by decide)
   .rw[hS]at b1;injection b1 with b1;injection b1 with b1;exact absurd b1 (by decide)
  refine wpAny_bind (walk_item ok hled hw (List.getElem?_eq_getElem hlt) fun h' hw' sb=>?_)
  have hS':h'.get? S=some {cls:=.type "list",dict:=none,data:=.seq (os.take i).toArray c,slots:=#[]}:=by rw[sb.2 S nSI];exact hS
  show wpAny _ A.in1 (updateSeq S (·.push os[i]) >>= _) _ _ _
  refine wpAny_bind ?_
  have hz1:(os.take i).toArray.size<=sizeLine:=by rw[List.size_toArray,List.length_take,sizeLine_eq];omega
  have hz2:((os.take i).toArray.push os[i]).size<=sizeLine+1:=by rw[Array.size_push];omega
  refine wpAny_updateSeq hS' rfl (wpAny_pure ⟨plainId_quiet PySem.F.plain_extend_loop _,ih (i+1) _ (c+1) (by omega) hlt (hw'.keep fun b o e hc=>?_) ?_ (fun b o e=>?_) fun h'' c' g kp=>?_⟩) hz1 hz2
  .have:b≠S:=fun z=>by
    subst z
    rw[hS']at e
    cases e
    have hc':Value.type "list" = .type "set"\/Value.type "list" = .type "set_iterator"\/Value.type "list" = .type "tuple":=hc
    revert hc'
    decide
   exact(Heap.get?_update_other _ _ (Ne.symm this)).trans e
  .have g:=Heap.get?_update_self (Obj.mapSeq (·.push os[i])) hS' rfl
   have e1:(os.take i).toArray.push os[i]=(os.take (i+1)).toArray:=by rw[List.push_toArray,List.take_append_getElem hlt]
   rw[<-e1]
   exact g.trans (congrArg some (Obj.mapSeq_push_plain _ _ _))
  .have nb:b≠S:=fun z=>by rw[z,hS0]at e;cases e
   refine(Heap.get?_update_other _ _ (Ne.symm nb)).trans ?_
   rw[sb.2 b (fun z=>by rw[z,hI0]at e;cases e)]
   exact hkp b o e
  .exact hR h'' c' g kp
theorem collect_setD{o:Obj}{E:Value->Shared->Prop}{Q:List Value->Shared->Prop}{s:Shared}(hh:A.handled=none)(ho:s.heap.get? a=some o)(hex:o.ExactSet)(hd:o.data=.set es ep t)(ok:TOk t es)(hled:t.led = !byT w)(hsz:es.size<=4000)
  (hQ:∀h' os dr,os.Perm (es.toList.map (·.2))->(∀b o,s.heap.get? b=some o->h'.get? b=some o)->Q os {s with heap:=h',drawn:=dr}):wpAny (model prog w) A (collect (.ref a)) Q E s:=by
 unfold collect
 refine wpAny_bind (wpAny_runValue (codeAny_builtin PySem.F.entry_proto_collect ?_))
 rw[Around.under_plainId PySem.F.plain_proto_collect _]
 show wpAny _ A.in1 (newList [] >>= fun l=>again (.builtin "list.__iadd__" ⟨[l,.ref a],[]⟩)) _ _ s
 refine wpAny_bind (wpAny_newObj_type ?_)
 refine wpAny_pure ⟨plainId_quiet PySem.F.plain_list_iadd _,codeAny_builtin PySem.F.entry_list_iadd ?_⟩
 rw[Around.under_plainId PySem.F.plain_list_iadd _]
 show wpAny _ A.in1 (Builtin.List.listExtendWith (.ref s.heap.objs.size) (.ref a) (.ref s.heap.objs.size)) _ _ _
 have hla:=Heap.lt_size ho
 unfold Builtin.List.listExtendWith
 generalize hH:s.heap.push {cls:=.type "list",data:=.seq ([]:List Value).toArray}=H
 have hHs:H.objs.size=s.heap.objs.size+1:=by rw[<-hH,Heap.size_push]
 have kp:∀b ob,s.heap.get? b=some ob->H.get? b=some ob:=fun b ob e=>hH▸Heap.get?_push_of_some _ e
 have hHS:H.get? s.heap.objs.size=some {cls:=.type "list",data:=.seq ([]:List Value).toArray}:=hH▸Heap.get?_push_size _ rfl
 have hT:∀(s':Shared),s'.heap.get? a=some o->s'.TypeIs (.ref a) "set":=fun s' e=>⟨o,e,hex.1⟩
 refine wpAny_bind (wpAny_typeOf (T:="set") (hT _ (kp _ _ ho)) ?_)
 have h1:Builtin.List.listSameRef (.ref s.heap.objs.size) (.ref a)=false:=by show(s.heap.objs.size==a)=false;exact beq_false_of_ne (Nat.ne_of_gt hla)
 have h2:(Value.type "set" == Value.type "list")=false:=by decide
 have h3:(Value.type "set" == Value.type "tuple")=false:=by decide
 simp only[h1,h2,h3,Bool.or_false,Bool.false_eq_true,if_false]
 refine wpAny_bind (walk_start (kp _ _ ho) hex hd ok hled hsz fun h1 I os dr hp hw k1 hI=>?_)
 refine wpAny_bind (wpAny_holding ?_)
 unfold Builtin.List.listLengthHint
 have ho1:h1.get? a=some o:=k1 _ _ (kp _ _ ho)
 refine wpAny_bind (wpAny_specialOf (T:="set") (v:=.ref a) (hT _ ho1) set_lenD ?_)
 wp_delta
 refine wpAny_bind (wpAny_isInstance (T:="set") (v:=.ref a) (b:=true) (hT _ ho1) (by rw[isSubtype_type];kernel_rfl) ?_)
 show wpAny _ A.in1 (typeOf (Value.ref a) >>= _) _ _ _
 refine wpAny_bind (wpAny_typeOf (T:="set") (v:=.ref a) (hT _ ho1) ?_)
 refine wpAny_pure ?_
 rw[if_pos (by decide)]
 show wpAny _ A.in1 (rule "list.extend.makes-room" >>= fun _=>Builtin.List.listTouch (.ref s.heap.objs.size) >>= fun _=>
  again (.builtin "list.extend.loop" ⟨[.ref s.heap.objs.size,.ref I,.ref s.heap.objs.size],[]⟩)) _ _ _
 refine wpAny_bind (wpAny_rule ?_)
 refine wpAny_bind ?_
 show wpAny _ A.in1 (updateSeq s.heap.objs.size (·.push .none) >>= fun _=>updateSeq s.heap.objs.size (·.pop)) _ _ _
 have hS:h1.get? s.heap.objs.size=some {cls:=.type "list",data:=.seq ([]:List Value).toArray}:=k1 _ _ hHS
 refine wpAny_bind (wpAny_updateSeq hS rfl ?_)
 have hS₂:=Heap.get?_update_self (Obj.mapSeq (·.push Value.none)) hS rfl
 refine wpAny_updateSeq (hz:=by seq_fits) hS₂ rfl ?_
 have hS₃:=Heap.get?_update_self (Obj.mapSeq (·.pop)) hS₂ rfl
 have oth:∀b ob,b≠s.heap.objs.size->h1.get? b=some ob->((h1.update s.heap.objs.size (Obj.mapSeq (·.push Value.none))).update s.heap.objs.size (Obj.mapSeq (·.pop))).get? b=some ob:=
  fun b ob hb e=>(Heap.get?_update_other _ _ (Ne.symm hb)).trans ((Heap.get?_update_other _ _ (Ne.symm hb)).trans e)
 have hI0:s.heap.get? I=none:=by
  cases q:s.heap.get? I with
  | none=>rfl
  | some ob=>
   have hI':H.objs.size<=I:=hI
   exact absurd (Heap.lt_size q) (Nat.not_lt.mpr (Nat.le_trans (by rw[hHs];exact Nat.le_succ _) hI'))
 have hS0:s.heap.get? s.heap.objs.size=none:=by
  cases q:s.heap.get? s.heap.objs.size with
  | none=>rfl
  | some ob=>exact absurd (Heap.lt_size q) (Nat.lt_irrefl _)
 refine wpAny_pure ⟨plainId_quiet PySem.F.plain_extend_loop _,extend_loopD hh ok hled (by rw[hp.length_eq,List.length_map,Array.length_toList];exact hsz) _ s.heap hI0 hS0 os.length 0 _ _ rfl (Nat.zero_le _) (hw.keep fun b ob e hc=>oth b ob (fun z=>?_) e) hS₃ (fun b ob e=>oth b ob (fun z=>?_) (k1 _ _ (kp _ _ e))) fun h2 c2 g2 k2=>?_⟩
 .subst z
  rw[hS]at e
  cases e
  have hc':Value.type "list" = .type "set"\/Value.type "list" = .type "set_iterator"\/Value.type "list" = .type "tuple":=hc
  revert hc'
  decide
 .subst z
  rw[hS0]at e
  cases e
 .show wpAny _ A (load s.heap.objs.size >>= _) _ _ _
  refine wpAny_bind (wpAny_load g2 ?_)
  refine wpAny_pure ?_
  exact hQ h2 os dr hp k2
end
end L3
namespace L3
open PySem PySem.Spec PyProof.Rows L2
mutual
noncomputable def Cmp:PyData->PyData->Prop
 | .int _,.int _=>True
 | .str _,.str _=>True
 | .tuple xs,.tuple ys=>CmpL xs ys
 | _,_=>False
noncomputable def CmpL:List PyData->List PyData->Prop
 | [],_=>True
 | _::_,[]=>True
 | x::xs,y::ys=>Cmp x y/\CmpL xs ys
end
mutual
noncomputable def ltD:PyData->PyData->Bool
 | .int a,.int b=>decide (a<b)
 | .str a,.str b=>sLt a b
 | .tuple xs,.tuple ys=>ltL xs ys
 | _,_=>false
noncomputable def ltL:List PyData->List PyData->Bool
 | [],[]=>false
 | [],_::_=>true
 | _::_,[]=>false
 | x::xs,y::ys=>if PyData.eqv x y=true then ltL xs ys else ltD x y
end
noncomputable def encS(xs:List Nat):List Int:=xs.map fun(c:Nat)=>(c:Int)+1
mutual
noncomputable def enc:PyData->List Int
 | .int a=>[1,a]
 | .str x=>2::(encS x.cps.toList++[0])
 | .tuple ds=>3::(encL ds++[0])
 | .none=>[9]
 | .bool _=>[9]
 | .list _=>[9]
 | .dict _=>[9]
noncomputable def encL:List PyData->List Int
 | []=>[]
 | d::ds=>enc d++encL ds
end
theorem encS_lt:∀(xs ys:List Nat) (r r':List Int),(encS xs++0::r<encS ys++0::r')↔(xs<ys\/xs=ys/\r<r')
 | [],[],r,r'=>by simp[encS,List.cons_lt_cons_iff]
 | [],y::ys,r,r'=>by
  have:(0:Int)<(y:Int)+1:=by omega
  simp[encS,List.cons_lt_cons_iff,this]
 | x::xs,[],r,r'=>by
  have h1:¬((x:Int)+1<0):=by omega
  have h2:¬((x:Int)+1=0):=by omega
  simp[encS,List.cons_lt_cons_iff,h1,h2]
 | x::xs,y::ys,r,r'=>by
  have ih:=encS_lt xs ys r r'
  unfold encS at ih⊢
  simp only[List.map_cons,List.cons_append,List.cons_lt_cons_iff,ih,List.cons.injEq]
  have h1:((x:Int)+1<(y:Int)+1)↔x<y:=by omega
  have h2:((x:Int)+1=(y:Int)+1)↔x=y:=by omega
  rw[h1,h2]
  constructor
  .rintro(h|⟨h,h'|⟨h',h''⟩⟩)
   .exact .inl (.inl h)
   .exact .inl (.inr ⟨h,h'⟩)
   .exact .inr ⟨⟨h,h'⟩,h''⟩
  .rintro((h|⟨h,h'⟩)|⟨⟨h,h'⟩,h''⟩)
   .exact .inl h
   .exact .inr ⟨h,.inl h'⟩
   .exact .inr ⟨h,.inr ⟨h',h''⟩⟩
theorem enc_pos:∀(d:PyData) (r:List Int),∃a t,enc d++r=a::t/\(0:Int)<a
 | .int a,r=>(x_EE 1 _ ⟨rfl,by decide⟩)
 | .str x,r=>(x_EE 2 _ ⟨rfl,by decide⟩)
 | .tuple ds,r=>(x_EE 3 _ ⟨rfl,by decide⟩)
 | .none,r=>(x_EE 9 _ ⟨rfl,by decide⟩)
 | .bool _,r=>(x_EE 9 _ ⟨rfl,by decide⟩)
 | .list _,r=>(x_EE 9 _ ⟨rfl,by decide⟩)
 | .dict _,r=>(x_EE 9 _ ⟨rfl,by decide⟩)
mutual
theorem enc_lt:∀(x y:PyData) (r r':List Int),Cmp x y->((enc x++r<enc y++r')↔(if PyData.eqv x y=true then r<r' else ltD x y=true))
 | .int a,.int b,r,r',_=>by
  have e:PyData.eqv (.int a) (.int b)=(a==b):=rfl
  rw[e]
  show(1::a::r<1::b::r')↔_
  simp only[List.cons_lt_cons_iff,ltD]
  by_cases h:a=b
  .subst h;simp
  .simp[h]
 | .str a,.str b,r,r',_=>by
  have e:PyData.eqv (.str a) (.str b)=(a==b):=rfl
  rw[e]
  show(2::((encS a.cps.toList++[0])++r)<2::((encS b.cps.toList++[0])++r'))↔_
  rw[List.cons_lt_cons_iff,List.append_assoc,List.append_assoc]
  show(_\/_/\(encS a.cps.toList++0::r<encS b.cps.toList++0::r'))↔_
  rw[encS_lt]
  have hx:a=b↔a.cps.toList=b.cps.toList:=⟨fun h=>by rw[h],fun h=>by cases a;cases b;simp only at h;congr;exact Array.ext' h⟩
  by_cases h:a=b
  .subst h;simp[List.lt_irrefl]
  .have h':¬a.cps.toList=b.cps.toList:=fun z=>h (hx.mpr z)
   simp[h,h',ltD,sLt]
 | .tuple xs,.tuple ys,r,r',hc=>by
  have e:PyData.eqv (.tuple xs) (.tuple ys)=PyData.eqvAll xs ys:=by simp[PyData.eqv]
  rw[e]
  show(3::((encL xs++[0])++r)<3::((encL ys++[0])++r'))↔_
  rw[List.cons_lt_cons_iff,List.append_assoc,List.append_assoc]
  show(_\/_/\(encL xs++0::r<encL ys++0::r'))↔(if PyData.eqvAll xs ys=true then r<r' else ltL xs ys=true)
  rw[encL_lt xs ys r r' hc]
  simp
theorem encL_lt:∀(xs ys:List PyData) (r r':List Int),CmpL xs ys->((encL xs++0::r<encL ys++0::r')↔(if PyData.eqvAll xs ys=true then r<r' else ltL xs ys=true))
 | [],[],r,r',_=>by simp[encL,PyData.eqvAll,List.cons_lt_cons_iff]
 | [],y::ys,r,r',_=>by
  obtain⟨a,t,e,h⟩:=enc_pos y (encL ys++0::r')
  show(0::r<(enc y++encL ys)++0::r')↔_
  rw[List.append_assoc,e,List.cons_lt_cons_iff]
  simp[h,PyData.eqvAll,ltL]
 | x::xs,[],r,r',_=>by
  obtain⟨a,t,e,h⟩:=enc_pos x (encL xs++0::r)
  show((enc x++encL xs)++0::r<0::r')↔_
  rw[List.append_assoc,e,List.cons_lt_cons_iff]
  have h1:¬a<0:=by omega
  have h2:¬a=0:=by omega
  simp[h1,h2,PyData.eqvAll,ltL]
 | x::xs,y::ys,r,r',hc=>by
  have hc':Cmp x y/\CmpL xs ys:=hc
  show((enc x++encL xs)++0::r<(enc y++encL ys)++0::r')↔(if (PyData.eqv x y&&PyData.eqvAll xs ys)=true then r<r' else(if PyData.eqv x y=true then ltL xs ys else ltD x y)=true)
  rw[List.append_assoc,List.append_assoc,enc_lt x y _ _ hc'.1]
  cases h:PyData.eqv x y with
  | true=>
   simp only[if_true,Bool.true_and]
   exact encL_lt xs ys r r' hc'.2
  | false=>simp
end
mutual
theorem ltD_same:∀(x y:PyData),Cmp x y->PyData.eqv x y=true->ltD x y=false
 | .int a,.int b,_,h=>by
  have e:PyData.eqv (.int a) (.int b)=(a==b):=rfl
  rw[e]at h
  have:a=b:=by simpa using h
  subst this
  simp[ltD]
 | .str a,.str b,_,h=>by
  have e:PyData.eqv (.str a) (.str b)=(a==b):=rfl
  rw[e]at h
  have:a=b:=by simpa using h
  subst this
  exact sLt_irr a
 | .tuple xs,.tuple ys,hc,h=>ltL_same xs ys hc (by simpa [PyData.eqv]using h)
theorem ltL_same:∀(xs ys:List PyData),CmpL xs ys->PyData.eqvAll xs ys=true->ltL xs ys=false
 | [],[],_,_=>rfl
 | [],_::_,_,h=>by simp[PyData.eqvAll]at h
 | _::_,[],_,h=>by simp[PyData.eqvAll]at h
 | x::xs,y::ys,hc,h=>by
  have h':PyData.eqv x y=true/\PyData.eqvAll xs ys=true:=by simpa [PyData.eqvAll]using h
  show(if PyData.eqv x y=true then ltL xs ys else ltD x y)=false
  rw[if_pos h'.1]
  exact ltL_same xs ys (show Cmp x y/\CmpL xs ys from hc).2 h'.2
end
mutual
theorem eqv_sym:∀(x y:PyData),Cmp x y->PyData.eqv y x=PyData.eqv x y
 | .int a,.int b,_=>by
  show(b==a)=(a==b)
  exact Bool.beq_comm
 | .str a,.str b,_=>by
  show(b==a)=(a==b)
  exact Bool.beq_comm
 | .tuple xs,.tuple ys,hc=>by
  have:=eqvL_sym xs ys hc
  simpa [PyData.eqv]using this
theorem eqvL_sym:∀(xs ys:List PyData),CmpL xs ys->PyData.eqvAll ys xs=PyData.eqvAll xs ys
 | [],[],_=>rfl
 | [],_::_,_=>rfl
 | _::_,[],_=>rfl
 | x::xs,y::ys,hc=>by
  have hc':Cmp x y/\CmpL xs ys:=hc
  show(PyData.eqv y x&&PyData.eqvAll ys xs)=(PyData.eqv x y&&PyData.eqvAll xs ys)
  rw[eqv_sym x y hc'.1,eqvL_sym xs ys hc'.2]
end
mutual
theorem ltD_one:∀(x y:PyData),Cmp x y->PyData.eqv x y=false->ltD x y=true\/ltD y x=true
 | .int a,.int b,_,h=>by
  have e:PyData.eqv (.int a) (.int b)=(a==b):=rfl
  rw[e]at h
  have:a≠b:=by simpa using h
  simp only[ltD,decide_eq_true_eq]
  omega
 | .str a,.str b,_,h=>by
  have e:PyData.eqv (.str a) (.str b)=(a==b):=rfl
  rw[e]at h
  have:a≠b:=by simpa using h
  show sLt a b=true\/sLt b a=true
  cases h1:sLt a b with
  | true=>exact .inl rfl
  | false=>
   cases h2:sLt b a with
   | true=>exact .inr rfl
   | false=>exact absurd (sLt_eq h1 h2) this
 | .tuple xs,.tuple ys,hc,h=>ltL_one xs ys hc (by simpa [PyData.eqv]using h)
theorem ltL_one:∀(xs ys:List PyData),CmpL xs ys->PyData.eqvAll xs ys=false->ltL xs ys=true\/ltL ys xs=true
 | [],[],_,h=>by simp[PyData.eqvAll]at h
 | [],_::_,_,h=>.inl rfl
 | _::_,[],_,h=>.inr rfl
 | x::xs,y::ys,hc,h=>by
  have hc':Cmp x y/\CmpL xs ys:=hc
  show(if PyData.eqv x y=true then ltL xs ys else ltD x y)=true\/(if PyData.eqv y x=true then ltL ys xs else ltD y x)=true
  have hs:PyData.eqv y x=PyData.eqv x y:=eqv_sym x y hc'.1
  rw[hs]
  cases h1:PyData.eqv x y with
  | true=>
   have h2:PyData.eqvAll xs ys=false:=by simpa [PyData.eqvAll,h1]using h
   simpa using ltL_one xs ys hc'.2 h2
  | false=>simpa using ltD_one x y hc'.1 h1
end
theorem ltD_enc{x y:PyData}(h:Cmp x y):ltD x y=decide (enc x<enc y):=by
 have k:=enc_lt x y [] [] h
 rw[List.append_nil,List.append_nil]at k
 cases he:PyData.eqv x y with
 | true=>
  rw[he,if_pos rfl]at k
  rw[ltD_same x y h he]
  exact(decide_eq_false fun z=>List.lt_irrefl _ (k.mp z)).symm
 | false=>
  rw[he,if_neg Bool.false_ne_true]at k
  cases hl:ltD x y with
  | true=>exact(decide_eq_true (k.mpr hl)).symm
  | false=>exact(decide_eq_false fun z=>by have:=k.mp z;rw[hl]at this;cases this).symm
theorem enc_inj{x y:PyData}(h:Cmp x y)(h':Cmp y x)(hx:kd x=true)(hy:kd y=true)(h1:¬enc x<enc y)(h2:¬enc y<enc x):x=y:=by
 cases he:PyData.eqv x y with
 | true=>exact eqv_kd x y hx hy he
 | false=>
  rcases ltD_one x y h he with z|z
  .rw[ltD_enc h]at z;exact absurd (of_decide_eq_true z) h1
  .rw[ltD_enc h']at z;exact absurd (of_decide_eq_true z) h2
noncomputable def ltE(ds:List PyData)(i j:Nat):Bool:=decide (enc (ds.getD i .none)<enc (ds.getD j .none))
noncomputable def sortE(ds:List PyData):List PyData:=(srt (ltE ds) ds.length).map fun i=>ds.getD i .none
theorem ltE_ord(ds:List PyData):Ord (ltE ds)where
 asy:=fun a b h=>decide_eq_false (List.lt_asymm (of_decide_eq_true h))
 tr:=fun a b c h1 h2=>by
  have h1':enc (ds.getD a .none)<=enc (ds.getD b .none):=of_decide_eq_false h1
  have h2':enc (ds.getD b .none)<=enc (ds.getD c .none):=of_decide_eq_false h2
  exact decide_eq_false (List.le_trans h1' h2')
theorem sortE_perm(ds:List PyData):(sortE ds).Perm ds:=by
 have h:=(srt_perm (ltE ds) ds.length).map fun i=>ds.getD i .none
 rw[map_range_getD]at h
 exact h
theorem sortE_length(ds:List PyData):(sortE ds).length=ds.length:=(sortE_perm ds).length_eq
theorem sortE_up(ds:List PyData):(sortE ds).Pairwise fun x y=>¬enc y<enc x:=by
 rw[List.pairwise_iff_getElem]
 intro i j hi hj hij
 have hj':j<ds.length:=by rw[sortE_length]at hj;exact hj
 have u:=srt_up (ltE_ord ds) ds.length (Nat.le_of_lt hij) hj'
 have hjs:j<(srt (ltE ds) ds.length).length:=by rw[srt_length];exact hj'
 have his:i<(srt (ltE ds) ds.length).length:=by omega
 rw[List.getD_eq_getElem?_getD,List.getD_eq_getElem?_getD,List.getElem?_eq_getElem hjs,List.getElem?_eq_getElem his]at u
 have u':=of_decide_eq_false u
 have e:∀k (h:k<(sortE ds).length) (h':k<(srt (ltE ds) ds.length).length),(sortE ds)[k]=ds.getD (srt (ltE ds) ds.length)[k] .none:=fun k h h'=>by simp[sortE]
 rw[e j hj hjs,e i hi his]
 exact u'
noncomputable def CmpA(ds:List PyData):Prop:=(∀x∈ds,∀y∈ds,Cmp x y)/\∀x∈ds,kd x=true
theorem CmpA.sub{ds es:List PyData}(h:CmpA ds)(hs:∀x∈es,x∈ds):CmpA es:=⟨fun x hx y hy=>h.1 x (hs x hx) y (hs y hy),fun x hx=>h.2 x (hs x hx)⟩
theorem up_uniq:∀{xs ys:List PyData},xs.Perm ys->CmpA xs->xs.Pairwise (fun x y=>¬enc y<enc x)->ys.Pairwise (fun x y=>¬enc y<enc x)->xs=ys
 | [],ys,p,_,_,_=>(List.Perm.nil_eq p).symm▸rfl
 | x::xs,[],p,_,_,_=>absurd p.length_eq (by simp)
 | x::xs,y::ys,p,hc,hx,hy=>by
  have hx':=List.pairwise_cons.mp hx
  have hy':=List.pairwise_cons.mp hy
  have m1:y∈x::xs:=p.mem_iff.mpr List.mem_cons_self
  have m2:x∈y::ys:=p.mem_iff.mp List.mem_cons_self
  have a1:¬enc y<enc x:=by
   rcases List.mem_cons.mp m1 with e|m
   .rw[e];exact List.lt_irrefl _
   .exact hx'.1 y m
  have a2:¬enc x<enc y:=by
   rcases List.mem_cons.mp m2 with e|m
   .rw[e];exact List.lt_irrefl _
   .exact hy'.1 x m
  have e:x=y:=enc_inj (hc.1 x List.mem_cons_self y m1) (hc.1 y m1 x List.mem_cons_self) (hc.2 x List.mem_cons_self) (hc.2 y m1) a2 a1
  subst e
  rw[up_uniq (List.Perm.cons_inv p) (hc.sub fun z hz=>List.mem_cons_of_mem _ hz) hx'.2 hy'.2]
theorem sortE_uniq{xs ys:List PyData}(p:xs.Perm ys)(hc:CmpA xs):sortE xs=sortE ys:=
 up_uniq ((sortE_perm xs).trans (p.trans (sortE_perm ys).symm)) (hc.sub fun x hx=>(sortE_perm xs).mem_iff.mp hx) (sortE_up xs) (sortE_up ys)
noncomputable def LtAt(A:Around)(s:Shared)(u v:Value)(b:Bool):Prop:=∀(prog:Program) (w:World) (E:Value->Shared->Prop) (Q:Value->Shared->Prop),Q (.bool b) s->wpAny (model prog w) A (richCompare .Lt u v) Q E s
theorem LtAt.int{A:Around}{s:Shared}(a:Int)(t:Tok)(c:Int)(u:Tok):LtAt A s (.int a t) (.int c u) (decide (a<c)):=fun prog w E Q h=>
 (PyProof.Rows.lt_int h:wpAny (model prog w) A (compareOp .Lt (.int a t) (.int c u)) Q E s)
theorem LtAt.str{A:Around}{s:Shared}(a:Str)(t:Tok)(c:Str)(u:Tok):LtAt A s (.str a t) (.str c u) (sLt a c):=fun prog w E Q h=>
 (PyProof.Rows.lt_str h:wpAny (model prog w) A (compareOp .Lt (.str a t) (.str c u)) Q E s)
noncomputable def PairAt(A:Around)(s:Shared):List Value->List Value->List PyData->List PyData->Prop
 | v::vs,w::ws,x::xs,y::ys=>SeqAt.EqAt A s v w (PyData.eqv x y)/\LtAt A s v w (ltD x y)/\PairAt A s vs ws xs ys
 | [],_,[],_=>True
 | _::_,[],_::_,[]=>True
 | _,_,_,_=>False
section
open PySem.SeqAt
open PySem.AutoSeq1 (wpAny_loadPart')
open PySem.MeetsSeq PySem.MeetsSeq2 PySem.MeetsSeq3
theorem tuple_lt_data(l b:Addr)(items items2:Array Value)(n n2:Nat)(dd dd2:Option Addr)(sl sl2:Array (Option Value))(xs ys:List PyData)(hi:items.toList.length=xs.length)(hj:items2.toList.length=ys.length) :
  Meets (Builtin.«tuple.__lt__» ⟨[.ref l,.ref b],[]⟩)
   (fun A R s=>s.heap.get? l=some {cls:=.type "tuple",dict:=dd,data:=.seq items n,slots:=sl}/\s.heap.get? b=some {cls:=.type "tuple",dict:=dd2,data:=.seq items2 n2,slots:=sl2}/\
    PairAt A.in1 s items.toList items2.toList xs ys/\R (.ok (.ret (.bool (ltL xs ys)))) s):=
 .of_wp fun prog w A R s h=>by
  obtain⟨hp,g,d,tk,os⟩:=s;obtain⟨hl,hb,hP,h⟩:=h
  have f2:=AutoSeq1.sub_tuple_tuple
  have z1:items.size=xs.length:=by rw[<-hi];simp
  have z2:items2.size=ys.length:=by rw[<-hj];simp
  wp_walk using wpAny_loadPart' hl,wpAny_loadPart' hb,wpAny_forIn_list _ (fun rest b s'=>b.1=none/\s'=⟨hp,g,d,tk,os⟩/\∃(vs ws:List Value) (ns' ms':List PyData),rest=vs.zip ws/\
   vs.length=ns'.length/\ws.length=ms'.length/\PairAt A.in1 ⟨hp,g,d,tk,os⟩ vs ws ns' ms'/\ns'.length+items2.size=ms'.length+items.size/\R (.ok (.ret (.bool (ltL ns' ms')))) ⟨hp,g,d,tk,os⟩) _
  case turn=>
   rintro⟨y,x⟩ rest b s' ⟨hb',rfl,vs,ws,ns',ms',hz,hvi,hwi,hpa,hlen,hR⟩
   cases vs with
   | nil=>rw[List.zip_nil_left]at hz;cases hz
   | cons v vs=>
    cases ws with
    | nil=>rw[List.zip_nil_right]at hz;cases hz
    | cons w' ws=>
     cases ns' with
     | nil=>cases hvi
     | cons n' ns'=>
      cases ms' with
      | nil=>cases hwi
      | cons m' ms'=>
       rw[List.zip_cons_cons]at hz
       injection hz with hyx hrest
       injection hyx with hy hx
       subst hy hx
       obtain⟨he,hlt,hpa'⟩:=hpa
       have hR':R (.ok (.ret (.bool (if PyData.eqv n' m'=true then ltL ns' ms' else ltD n' m')))) ⟨hp,g,d,tk,os⟩:=hR
       simp only[List.length_cons]at hlen hvi hwi
       refine wpAny_bind (he prog w _ _ ?_)
       cases hq:PyData.eqv n' m' with
       | true=>
        rw[hq,if_pos rfl]at hR'
        wp_walk
        exact⟨rfl,rfl,(x_EEEE _ _ _ _ ⟨hrest,by omega,by omega,hpa',by omega,hR'⟩)⟩
       | false=>
        rw[hq,if_neg Bool.false_ne_true]at hR'
        have hri:=hlt prog w
        wp_walk using hri
        exact⟨_,rfl,by simpa using hR'⟩
  case fin=>
   rintro⟨b1,b2⟩ s' ⟨hb',rfl,vs,ws,ns',ms',hz,hvi,hwi,hpa,hlen,hR⟩
   simp only at hb'
   subst hb'
   have hv:ltL ns' ms'=decide (items.size<items2.size):=by
    cases ns' with
    | nil=>
     cases ms' with
     | nil=>
      simp only[List.length_nil]at hlen
      show false=_
      exact(decide_eq_false (by omega)).symm
     | cons c u=>
      simp only[List.length_nil,List.length_cons]at hlen
      show true=_
      exact(decide_eq_true (by omega)).symm
    | cons a t=>
     cases ms' with
     | nil=>
      simp only[List.length_nil,List.length_cons]at hlen
      show false=_
      exact(decide_eq_false (by omega)).symm
     | cons c u=>
      cases vs with
      | nil=>cases hvi
      | cons v vs=>
       cases ws with
       | nil=>cases hwi
       | cons w' ws=>
        rw[List.zip_cons_cons]at hz
        cases hz
   rw[hv]at hR
   wp_walk
   exact⟨_,rfl,by simpa [Builtin.Tuple.tupleCompareSizes]using hR⟩
  case h=>
   exact⟨rfl,rfl,(x_EEEE items.toList items2.toList xs ys ⟨rfl,hi,hj,hP,by omega,h⟩)⟩
end
mutual
theorem ltAt_reads:∀(x y:PyData),Cmp x y->∀(A:Around) (s:Shared) (u v:Value) (as bs:List Addr),Reads s.heap u x as->Reads s.heap v y bs->x.canLay0=true->y.canLay0=true->
  A.units+min x.depth y.depth<cLine->LtAt A s u v (ltD x y)
 | .int a,.int b,_=>by
  intro A s u v as bs r1 r2 _ _ _
  cases r1;cases r2
  exact LtAt.int _ _ _ _
 | .str a,.str b,_=>by
  intro A s u v as bs r1 r2 _ _ _
  cases r1;cases r2
  exact LtAt.str _ _ _ _
 | .tuple xs,.tuple ys,hc=>by
  intro A s u v as bs r1 r2 h1 h2 hu
  cases r1 with
  | @tuple a o vs n _ _ e1 e2 e3 z=>
   cases r2 with
   | @tuple a' o' vs' n' _ _ f1 f2 f3 z'=>
    obtain⟨cls,dd,data,sl⟩:=o
    obtain⟨cls2,dd2,data2,sl2⟩:=o'
    simp only at e2 e3 f2 f3
    subst e2 e3 f2 f3
    intro prog w E Q hq
    have hp:=pairAt_reads xs ys hc A.in1 s _ _ _ _ z z' h1 h2 (SeqAt.room_in hu)
    exact richCompare_meets_room (op:=.Lt) ⟨_,e1,rfl⟩ ⟨_,f1,rfl⟩ PySem.F.slot_tuple_lt PySem.F.entry_tuple_lt (PySem.F.args_tuple_lt_2 _ _) (tuple_lt_data a a' vs vs' n n' dd dd2 sl sl2 xs ys (SeqAt.ReadsAll.length _ _ _ z) (SeqAt.ReadsAll.length _ _ _ z'))
     ⟨e1,f1,hp,show Value.bool (ltL xs ys)≠Value.notImplemented/\Q (.bool (ltL xs ys)) s from ⟨(fun x=>nomatch x),hq⟩⟩ (SeqAt.room_here hu)
theorem pairAt_reads:∀(xs ys:List PyData),CmpL xs ys->∀(A:Around) (s:Shared) (vs ws:List Value) (as bs:List Addr),ReadsAll s.heap vs xs as->ReadsAll s.heap ws ys bs->PyData.canLayAll0 xs=true->PyData.canLayAll0 ys=true->
  A.units+min (PyData.depthAll xs) (PyData.depthAll ys)<cLine->PairAt A s vs ws xs ys
 | [],_,_=>by
  intro A s vs ws as bs r1 r2 _ _ _
  cases r1
  cases r2 with
  | nil=>exact True.intro
  | cons _ _=>exact True.intro
 | x::xs,[],_=>by
  intro A s vs ws as bs r1 r2 _ _ _
  cases r1;cases r2
  exact True.intro
 | x::xs,y::ys,hc=>by
  intro A s vs ws as bs r1 r2 h1 h2 hu
  have h1':x.canLay0=true/\PyData.canLayAll0 xs=true:=by simpa [PyData.canLayAll0]using h1
  have h2':y.canLay0=true/\PyData.canLayAll0 ys=true:=by simpa [PyData.canLayAll0]using h2
  cases r1 with
  | cons ra rb=>
   cases r2 with
   | cons rc rd=>
    exact⟨SeqAt.eqAt_reads x y A s _ _ _ _ ra rc h1'.1 h2'.1 (SeqAt.room_head hu),ltAt_reads x y (show Cmp x y/\CmpL xs ys from hc).1 A s _ _ _ _ ra rc h1'.1 h2'.1 (SeqAt.room_head hu),
     pairAt_reads xs ys (show Cmp x y/\CmpL xs ys from hc).2 A s _ _ _ _ rb rd h1'.2 h2'.2 (SeqAt.room_tail hu)⟩
end
section
variable{prog:Program}{w:World}{A:Around}{E:Value->Shared->Prop}{s:Shared}{Q:Bool->Shared->Prop}
theorem lex_data{b fin:Bool}:∀(xs ys:List PyData) (vs ws:List Value) (i:Nat),(b=false\/0<i)->vs.length=xs.length->ws.length=ys.length->PairAt A s vs ws xs ys->fin=decide (xs.length<ys.length)->Q (ltL xs ys) s->
  PySem.W.KatLex prog w A b fin Q (vs.zip ws) i s
 | [],ys,vs,ws,i,hb,l1,l2,hp,hf,q=>by
  cases vs with
  | cons v vs=>cases l1
  | nil=>
   rw[List.zip_nil_left]
   refine PySem.W.kat_nil ?_
   rw[hf]
   cases ys with
   | nil=>exact q
   | cons y ys=>exact q
 | x::xs,[],vs,ws,i,hb,l1,l2,hp,hf,q=>by
  cases ws with
  | cons v vs=>cases l2
  | nil=>
   rw[List.zip_nil_right]
   refine PySem.W.kat_nil ?_
   rw[hf]
   exact q
 | x::xs,y::ys,vs,ws,i,hb,l1,l2,hp,hf,q=>by
  cases vs with
  | nil=>cases l1
  | cons v vs=>
   cases ws with
   | nil=>cases l2
   | cons w' ws=>
    rw[List.zip_cons_cons]
    obtain⟨he,hlt,hp'⟩:=hp
    have q':Q (if PyData.eqv x y=true then ltL xs ys else ltD x y) s:=q
    refine PySem.W.kat_cons (he prog w _ _ ?_)
    cases hq:PyData.eqv x y with
    | true=>
     rw[hq,if_pos rfl]at q'
     refine PySem.W.kat_yes (lex_data xs ys vs ws (i+1) (.inr (Nat.succ_pos _)) (by simpa using l1) (by simpa using l2) hp' ?_ q')
     rw[hf]
     simp
    | false=>
     rw[hq,if_neg Bool.false_ne_true]at q'
     refine PySem.W.kat_no ?_
     have hb':(b&&i==0)=false:=by
      rcases hb with h|h
      .rw[h];rfl
      .have:(i==0)=false:=by simp;omega
       rw[this];simp
     rw[hb']
     exact PySem.W.kat_one _ _ (hlt prog w _ _ q')
theorem key_lt{u v:Value}{x y:PyData}{as bs:List Addr}(r1:Reads s.heap u x as)(r2:Reads s.heap v y bs)(hx:∃xs,x=.tuple xs)(hy:∃ys,y=.tuple ys)(l1:x.canLay0=true)(l2:y.canLay0=true)(hc:Cmp x y)
  (hu:A.units+min x.depth y.depth<cLine) (q:Q (ltD x y) s):wpAny (model prog w) A (keyLt' (tuples' false) u v) Q E s:=by
 obtain⟨xs,rfl⟩:=hx
 obtain⟨ys,rfl⟩:=hy
 cases r1 with
 | @tuple a o vs n _ _ e1 e2 e3 z=>
  cases r2 with
  | @tuple a' o' vs' n' _ _ f1 f2 f3 z'=>
   have k1:=SeqAt.ReadsAll.length _ _ _ z
   have k2:=SeqAt.ReadsAll.length _ _ _ z'
   refine PySem.W.kat_lt e1 e3 f1 f3 (lex_data xs ys _ _ 0 (.inl rfl) k1 k2 (pairAt_reads xs ys hc A s _ _ _ _ z z' l1 l2 ?_) ?_ q)
   .have h1:(PyData.tuple xs).depth=PyData.depthAll xs+1:=rfl
    have h2:(PyData.tuple ys).depth=PyData.depthAll ys+1:=rfl
    rw[h1,h2]at hu
    omega
   .rw[Array.length_toList]at k1 k2
    rw[k1,k2]
end
noncomputable def TT(d:PyData):Prop:=∃r rest,d=.tuple (.tuple r::rest)
theorem kinds_tt{h:Heap}:∀(os:List Value) (ds:List PyData),os.length=ds.length->(∀(i:Nat) v d,os[i]?=some v->ds[i]?=some d->TT d/\∃as,Reads h v d as)->
  ∃fs:List Value,PySem.W.KatTups h os fs/\fs.length=os.length/\∀v∈fs,∃a o,v=.ref a/\h.get? a=some o/\o.cls=.type "tuple"
 | [],_,_,_=>⟨[],trivial,rfl,fun v hv=>by cases hv⟩
 | v::os,[],hl,_=>by cases hl
 | v::os,d::ds,hl,hr=>by
  obtain⟨⟨r,rest,rfl⟩,as,rd⟩:=hr 0 v d rfl rfl
  obtain⟨fs,k1,k2,k3⟩:=kinds_tt os ds (by simpa using hl) fun i v d h1 h2=>hr (i+1) v d (by simpa using h1) (by simpa using h2)
  cases rd with
  | @tuple a o vs n _ _ e1 e2 e3 z=>
   generalize hv:vs.toList=vl at z
   cases z with
   | cons ra rb=>
    cases ra with
    | @tuple a' o' vs' n' _ _ f1 f2 f3 z'=>
     refine⟨.ref a'::fs,PySem.W.KatTups.cons e1 e2 e3 (by rw[<-Array.getElem?_toList,hv];rfl) k1,by rw[List.length_cons,List.length_cons,k2],fun v hv=>?_⟩
     rcases List.mem_cons.mp hv with rfl|hv
     .exact(x_EE a' o' ⟨rfl,f1,f2⟩)
     .exact k3 v hv
noncomputable def RL(R:Value->PyData->Prop):List Value->List PyData->Prop
 | [],[]=>True
 | v::vs,d::ds=>R v d/\RL R vs ds
 | _,_=>False
theorem RL.perm{R:Value->PyData->Prop}{os vs:List Value}(p:os.Perm vs):∀{ds:List PyData},RL R vs ds->∃dos,dos.Perm ds/\RL R os dos:=by
 induction p with
 | nil=>intro ds h;exact⟨ds,.refl _,h⟩
 | cons x p ih=>
  intro ds h
  cases ds with
  | nil=>exact h.elim
  | cons d ds=>
   obtain⟨dos,p',h'⟩:=ih h.2
   exact⟨d::dos,p'.cons d,h.1,h'⟩
 | swap x y l=>
  intro ds h
  match ds,h with
  | d1::d2::ds,h=>exact⟨d2::d1::ds,.swap _ _ _,h.2.1,h.1,h.2.2⟩
 | trans p1 p2 ih1 ih2=>
  intro ds h
  obtain⟨d1,q1,h1⟩:=ih2 h
  obtain⟨d2,q2,h2⟩:=ih1 h1
  exact⟨d2,q2.trans q1,h2⟩
theorem RL.length{R:Value->PyData->Prop}:∀{vs:List Value} {ds:List PyData},RL R vs ds->vs.length=ds.length
 | [],[],_=>rfl
 | v::vs,d::ds,h=>by rw[List.length_cons,List.length_cons,RL.length h.2]
 | [],_::_,h=>h.elim
 | _::_,[],h=>h.elim
theorem RL.at{R:Value->PyData->Prop}:∀{vs:List Value} {ds:List PyData} {i:Nat} {v:Value} {d:PyData},RL R vs ds->vs[i]?=some v->ds[i]?=some d->R v d
 | v::vs,d::ds,0,_,_,h,h1,h2=>by cases h1;cases h2;exact h.1
 | v::vs,d::ds,i+1,_,_,h,h1,h2=>RL.at h.2 (by simpa using h1) (by simpa using h2)
 | [],_,_,_,_,_,h1,_=>by simp at h1
 | _::_,[],_,_,_,h,_,_=>h.elim
theorem RL.els{Pv:Value->PyData->Prop}{w:World}{h:Heap}:∀{es:List (Int×Value)} {ds:List PyData},Els Pv w h es ds->RL (fun v d=>∃k,El Pv w h (k,v) d) (es.map (·.2)) ds
 | [],ds,x=>by rw[els_nil x];exact True.intro
 | e::es,ds,x=>by
  obtain⟨d,ds',rfl,h1,h2⟩:=els_cons x
  exact⟨⟨e.1,h1⟩,RL.els h2⟩
theorem Inv.drawn{X:Cx}{pins:List (Addr×Obj)}{σ:L2.St}{H:Hp}{s:Shared}(I:Inv X pins σ H s)(dr:Drawn):Inv X pins σ H {s with drawn:=dr}:=⟨I.ok,I.os,I.bare,I.base,I.loc,I.cell,I.free,I.freeC,I.pin,I.hok,I.len⟩
noncomputable def rIxD(prog:Program)(w:World)(K:PySem.W.Frag):R2:=fun x y H Q=>∃(p:Addr) (k:Str) (o:Obj) (kvs:List (Str×Value)) (v:Int) (t:Tok),x=.ref p/\y=.str k/\K.lookup p=some o/\o.IsDictOf (strKind prog w) kvs/\valueAt kvs k=some (.int v t)/\Q (.int v) H
section
variable{X:Cx}{x:Str}{pos:Pos}
theorem ix_dict:IxR X (rIxD X.prog X.w X.K):=by
 intro value slice pins s σ H x y v u Q I rx ry h hs
 obtain⟨p,k,o,kvs,n,t,rfl,rfl,hk,hd,hv,q⟩:=h
 cases rx
 obtain⟨t',rfl⟩:=ry
 have hm:s.heap.DictOf (strKind X.prog X.w) p kvs:=Heap.dictOf_iff.mpr ⟨o,I.kIn p o hk,hd⟩
 exact tail_any hm.typeIs slot_dict_getitem.lookup (wpAny_getItem_of (strKind_is _ _ k t') hm.mapOf hv (x_EE (.int n) H ⟨I.tok _,⟨t,rfl⟩,q⟩)) hs
theorem pe_globR{a:Addr}(h:X.mg x=some (.ref a))(hg:Gl X x)(hd:(x==("__debug__" : Str))=false:=by decide):PE X (.Name x pos) (tC (.ref a)):=pe_glob hg h rfl hd
end
open Classical in
theorem sort_vals{h:Heap}{lt:PyData->PyData->Bool}{os:List Value}{dos:List PyData}(hl:os.length=dos.length)(rd:∀(i:Nat) (v:Value) (d:PyData),os[i]?=some v->dos[i]?=some d->d.canLay0=true/\∃as,Reads h v d as)(o:OrdD lt dos) :
  ∃g:Value->Int,(∀(i j:Nat) (u v:Value) (d e:PyData),os[i]?=some u->dos[i]?=some d->os[j]?=some v->dos[j]?=some e->decide (g u<g v)=lt d e)/\
   ∀us:List Value,us.Perm os->us.Pairwise (fun x y=>g x<=g y)->∃T:List (PyData×Value),T.map (·.2)=us/\(T.map (·.1)).Perm dos/\(T.map (·.1)).Pairwise (fun x y=>lt y x=false)/\∀t∈T,∃i:Nat,dos[i]?=some t.1/\os[i]?=some t.2:=by
 obtain⟨g,hg⟩:∃g:Value->Int,∀(i:Nat) (d:PyData) (u:Value),dos[i]?=some d->os[i]?=some u->g u=rankD lt dos d:=by
  refine⟨fun u=>if h:∃d,∃as,Reads h u d as/\d∈dos then rankD lt dos h.choose else 0,fun i d u h1 h2=>?_⟩
  obtain⟨lay,as,r⟩:=rd i u d h2 h1
  have hx:∃d,∃as,Reads h u d as/\d∈dos:=(x_EE d as ⟨r,List.mem_of_getElem? h1⟩)
  show(if h:∃d,∃as,Reads h u d as/\d∈dos then rankD lt dos h.choose else 0)=_
  rw[dif_pos hx]
  obtain⟨bs,rb,_⟩:=hx.choose_spec
  rw[SeqAt.Reads.unique d hx.choose u as bs lay r rb]
 refine⟨g,fun i j u v d e u1 d1 v1 e1=>?_,fun us p up=>?_⟩
 .rw[hg i d u d1 u1,hg j e v e1 v1]
  exact rank_lt o (List.mem_of_getElem? d1) (List.mem_of_getElem? e1)
 .have second:(dos.zip os).map (fun t=>t.2)=os:=List.map_snd_zip (by omega)
  have first:(dos.zip os).map (fun t=>t.1)=dos:=List.map_fst_zip (by omega)
  obtain⟨T,tp,te⟩:=perm_lift (fun t:PyData×Value=>t.2) p second
  have tm:∀t∈T,∃i:Nat,dos[i]?=some t.1/\os[i]?=some t.2:=fun t ht=>by
   obtain⟨i,hi⟩:=List.mem_iff_getElem?.mp (tp.mem_iff.mp ht)
   obtain⟨a1,a2⟩:=List.getElem?_zip_eq_some.mp hi
   exact⟨i,a1,a2⟩
  refine⟨T,te,?_,?_,tm⟩
  .have:=tp.map (fun t=>t.1)
   rw[first]at this
   exact this
  .rw[List.pairwise_map]
   rw[<-te,List.pairwise_map]at up
   refine List.Pairwise.imp_of_mem (fun{a b} ha hb hab=>?_) up
   obtain⟨i,a1,a3⟩:=tm a ha
   obtain⟨j,b1,b3⟩:=tm b hb
   rw[hg i _ _ a1 a3,hg j _ _ b1 b3]at hab
   rw[<-rank_lt o (List.mem_of_getElem? b1) (List.mem_of_getElem? a1)]
   exact decide_eq_false (by omega)
section
variable{prog:Program}{w:World}{A:Around}{E:Value->Shared->Prop}{s:Shared}
theorem sorted_setN{a:Addr}{o:Obj}{es:Array (Int×Value)}{ep:Nat}{t:SetTable}{κ:SortKind}{Q:Value->Shared->Prop}(hh:A.handled=none)(ho:s.heap.get? a=some o)(hex:o.ExactSet)(hd:o.data=.set es ep t)(ok:TOk t es)(hled:t.led = !byT w)(hsz:es.size<=4000)
  (h:∀os:List Value,os.Perm (es.toList.map (·.2))->∃g:Value->Int,(2<=os.length->∀s':Shared,Keep s.heap s'.heap->
   (∀(Q:SortKind->Shared->Prop) (E:Value->Shared->Prop),Q κ s'->wpAny (model prog w) A.in1.in1 (keyKind' os.toArray) Q E s')/\
   ∀x y,x∈os->y∈os->∀(Q:Bool->Shared->Prop),Q (decide (g x<g y)) s'->wpAny (model prog w) A.in1.in1 (keyLt' κ x y) Q (fun _ _=>False) s')/\
   ∀(us:List Value) (h1 h2:Heap) dr e,us.Perm os->us.Pairwise (fun x y=>g x<=g y)->Keep s.heap h1->Keep h1 h2->h2.get? h1.objs.size=some (seqObj "list" us.toArray e)->Q (.ref h1.objs.size) {s with heap:=h2,drawn:=dr}) :
  wpAny (model prog w) A (call (.builtin "sorted") [.ref a]) Q E s:=by
 refine Calls.call_function_entry kind_sorted plain_sorted entry_sorted (args_sorted1 _) ?_
 unfold Builtin.«sorted»
 refine wpAny_bind (m:=checkCount "sorted" 1 1 _) (wpAny_pure ?_)
 refine wpAny_bind (collect_setD (A:=A.in1) hh ho hex hd ok hled hsz fun h1 os dr hp k1=>?_)
 obtain⟨g,hk,h⟩:=h os hp
 have hol:os.length<=sizeLine:=by rw[hp.length_eq,List.length_map,Array.length_toList,sizeLine_eq];omega
 refine wpAny_bind (wpAny_newList ?_ hol)
 have hoL:(h1.push (seqObj "list" os.toArray 0)).get? h1.objs.size=some (seqObj "list" os.toArray 0):=Heap.get?_push_size _ rfl
 have keep:Keep h1 (h1.push (seqObj "list" os.toArray 0)):=fun b o q=>Heap.get?_push_of_some _ q
 show wpAny _ _ _ _ _ {s with heap:=h1.push (seqObj "list" os.toArray 0),drawn:=dr}
 refine wpAny_bind (wpAny_holding (wpAny_call_entry slot_list_sort ⟨_,hoL,rfl⟩ entry_list_sort ?body (args_list_sort _)))
 case body=>
  refine list_sort_any (κ:=κ) (g:=g) hoL hol (fun h2 s' k=>hk h2 s' fun b o e=>k b o (Nat.ne_of_lt (Heap.lt_size (k1 b o e))) (keep b o (k1 b o e))) fun us u1 u2=>?_
  obtain⟨e,he⟩:=sortedHeap_at (out:=us.toArray) hoL
  refine⟨_,rfl,wpAny_pure ⟨_,rfl,h us h1 _ dr e u1 u2 k1 (fun b ob q=>?_) he⟩⟩
  exact(sortedHeap_old (Nat.ne_of_lt (Heap.lt_size q)) (by rw[size_push'];exact Nat.lt_succ_of_lt (Heap.lt_size q))).trans (keep b ob q)
end
structure SortsAs(prog:Program)(w:World)(A:Around)(κ:SortKind)(lt:PyData->PyData->Bool)(ds:List PyData):Prop where
 ord:OrdD lt ds
 kind:∀(s:Shared) (os:List Value) (dos:List PyData),(∀d∈dos,d∈ds)->os.length=dos.length->2<=os.length->(∀(i:Nat) (v:Value) (d:PyData),os[i]?=some v->dos[i]?=some d->∃as,Reads s.heap v d as)->
  ∀(Q:SortKind->Shared->Prop) (E:Value->Shared->Prop),Q κ s->wpAny (model prog w) A (keyKind' os.toArray) Q E s
 key:∀(s:Shared) (u v:Value) (d e:PyData) (as bs:List Addr),d∈ds->e∈ds->Reads s.heap u d as->Reads s.heap v e bs->d.canLay0=true->e.canLay0=true->∀(Q:Bool->Shared->Prop),Q (lt d e) s->wpAny (model prog w) A (keyLt' κ u v) Q (fun _ _=>False) s
section
variable{X:Cx}{pins:List (Addr×Obj)}{σ:L2.St}{H:Hp}{s:Shared}
theorem sorted_set_data(I:Inv X pins σ H s){Pv:Value->PyData->Prop}(hPv:∀v d,Pv v d->∃x,RelV x v/\Rep H d x){a:Addr}{ds:List PyData}(hc:X.calm=true)(hS:SetD Pv X.w s.heap a ds)(hlen:ds.length<=4000){κ:SortKind}{lt:PyData->PyData->Bool}(sa:SortsAs X.prog X.w X.A.in1.in1 κ lt ds){Q:VK}
  (q:∀(es:List PyData) (l:Addr) (ys:List V),es.Perm ds->es.Pairwise (fun x y=>lt y x=false)->H l=none->RepAll (upd H l (.lst ys)) es ys->Q (.ref l) (upd H l (.lst ys))) :
  wpAny (model X.prog X.w) X.A (call (.builtin "sorted") [.ref a]) (EP X pins σ Q) X.xe s:=by
 obtain⟨o,es,ep,tb,ho,hex,hdat,ok,few,els,nd,hled⟩:=hS
 have hsz:es.size=ds.length:=by have:=els.1;rw[Array.length_toList]at this;exact this
 refine sorted_setN (κ:=κ) (I.ok.hd hc) ho hex hdat ok hled (by omega) fun os hperm=>?_
 obtain⟨dos,pd,rl⟩:=RL.perm hperm (RL.els els)
 have hol:os.length=dos.length:=rl.length
 have elt:∀(i:Nat) v d,os[i]?=some v->dos[i]?=some d->∃k,El Pv X.w s.heap (k,v) d:=fun i v d h1 h2=>rl.at h1 h2
 have sub:∀d∈dos,d∈ds:=fun d hd=>pd.mem_iff.mp hd
 have odos:OrdD lt dos:=⟨fun x hx y hy=>sa.ord.asy x (sub x hx) y (sub y hy),fun x hx y hy z hz=>sa.ord.tr x (sub x hx) y (sub y hy) z (sub z hz)⟩
 obtain⟨g,g1,g2⟩:=sort_vals (h:=s.heap) hol (fun i v d h1 h2=>by
  obtain⟨k,el⟩:=elt i v d h1 h2
  exact⟨el.lay,el.reads⟩) odos
 refine⟨g,fun h2 s' kp=>⟨fun Q' E' hq=>?_,fun x y hx hy Q' hq=>?_⟩,fun us h1 h2 dr e u1 u2 kp1 kp2 hg3=>?_⟩
 .refine sa.kind s' os dos sub hol h2 (fun i v d h1 h2=>?_) Q' E' hq
  obtain⟨k,el⟩:=elt i v d h1 h2
  obtain⟨bs,rd⟩:=el.reads
  exact⟨bs,Reads.keeps kp rd⟩
 .obtain⟨i,hi⟩:=List.mem_iff_getElem?.mp hx
  obtain⟨j,hj⟩:=List.mem_iff_getElem?.mp hy
  have hi':i<dos.length:=by have:=(List.getElem?_eq_some_iff.mp hi).1;omega
  have hj':j<dos.length:=by have:=(List.getElem?_eq_some_iff.mp hj).1;omega
  have di:=List.getElem?_eq_getElem hi'
  have dj:=List.getElem?_eq_getElem hj'
  obtain⟨k,el⟩:=elt i _ _ hi di
  obtain⟨k',el'⟩:=elt j _ _ hj dj
  obtain⟨bs,rd⟩:=el.reads
  obtain⟨bs',rd'⟩:=el'.reads
  rw[g1 i j x y _ _ hi di hj dj]at hq
  exact sa.key s' x y _ _ bs bs' (sub _ (List.getElem_mem hi')) (sub _ (List.getElem_mem hj')) (Reads.keeps kp rd) (Reads.keeps kp rd') el.lay el'.lay Q' hq
 .obtain⟨T,te,tp,tu,tm⟩:=g2 us u1 u2
  have tr:∀t∈T,∃x,RelV x t.2/\Rep H t.1 x:=fun t ht=>by
   obtain⟨i,a1,a2⟩:=tm t ht
   obtain⟨k,el⟩:=elt i _ _ a2 a1
   exact hPv _ _ el.own
  obtain⟨ys,v1,v2⟩:∃ys,Vals ys us/\RepAll H (T.map (·.1)) ys:=by
   rw[<-te]
   clear te tp tu tm
   induction T with
   | nil=>exact⟨[],.nil,rfl⟩
   | cons t T ih=>
    obtain⟨x,x1,x2⟩:=tr t List.mem_cons_self
    obtain⟨ys,y1,y2⟩:=ih fun t ht=>tr t (List.mem_cons_of_mem _ ht)
    exact(x_EAEE (x::ys) (.cons x1 y1) x ys ⟨rfl,x2,y2⟩)
  have I3:Inv X pins σ H {s with heap:=h1,drawn:=dr}:=(L3.Inv.drawn I dr).kept (t':=s.toks) kp1
  have hn:H h1.objs.size=none:=I3.hok.fresh (Nat.le_refl _)
  have hyl:=v2.length
  have htl:=tp.length_eq
  have hpl:=pd.length_eq
  have hz':ys.length<=sizeLine:=by rw[sizeLine_eq];omega
  have hsame:Same H (upd H h1.objs.size (.lst ys)):=fun b o q=>by rw[upd_ne (ne_of_none q hn)];exact q
  exact(x_EE (.ref h1.objs.size) _ ⟨I3.laid (t':=s.toks) (o:=.lst ys) kp2 (Nat.le_refl _) ⟨hz',(x_EE _ e ⟨v1,hg3⟩)⟩,rfl,q (T.map (·.1)) _ ys (tp.trans pd) tu hn (v2.same hsame)⟩)
end
theorem cmp_ord{ds:List PyData}(h:CmpA ds):OrdD ltD ds:=⟨fun x hx y hy q=>by
  rw[ltD_enc (h.1 x hx y hy)]at q
  rw[ltD_enc (h.1 y hy x hx)]
  exact decide_eq_false (List.lt_asymm (of_decide_eq_true q)),fun x hx y hy z hz q1 q2=>by
  rw[ltD_enc (h.1 y hy x hx)]at q1
  rw[ltD_enc (h.1 z hz y hy)]at q2
  rw[ltD_enc (h.1 z hz x hx)]
  have h1:enc x<=enc y:=of_decide_eq_false q1
  have h2:enc y<=enc z:=of_decide_eq_false q2
  exact decide_eq_false (List.le_trans h1 h2)⟩
section
variable{X:Cx}
theorem call_sortedF(hu:X.A.units+64<cLine):CallR X (.builtin "sorted") (fun vs H Q=>∃p xs ds,vs=[.ref p]/\H p=some (.lst xs)/\RepAll H ds xs/\(∀d∈ds,KeyD d/\TT d)/\CmpA ds/\
  ∀l ys,H l=none->RepAll (upd H l (.lst ys)) (sortE ds) ys->Q (.ref l) (upd H l (.lst ys))):=by
 intro pins s σ H xs us Q I r h
 obtain⟨p,xs,ds,rfl,hp,hds,hkey,hcmp,q⟩:=h
 obtain⟨u,rfl,r1⟩:=vals1 r
 cases (show u=Value.ref p from r1)
 obtain⟨its,rv,pl,hz⟩:=I.list (SqL.of (K:=X.K) hp)
 have l1:xs.length=ds.length:=hds.length
 have l2:xs.length=its.length:=rv.length
 obtain⟨as,rds⟩:=RepAll.reads I hds rv
 have hlay:=hds.lay
 refine sorted_data (κ:=tuples' false) (lt:=ltD) I hp hds rv pl.isList (by omega) (cmp_ord hcmp) (fun h2 s' k Q' E' hq=>?_) (fun s' k i j d e u v di ui dj vj Q' hq=>?_) (fun l ys es hl pe ue re=>?_)
 .obtain⟨fs,k1,k2,k3⟩:=kinds_tt (h:=s'.heap) its ds (by omega) fun i v d h1 h2=>by
   obtain⟨bs,rd⟩:=reads_at rds h1 h2
   exact⟨(hkey d (List.mem_of_getElem? h2)).2,bs,Reads.keeps k rd⟩
  refine PySem.W.kat_kind (T:=Value.type "tuple") k1 (by omega) (fun v hv=>?_) rfl hq
  obtain⟨a,o,rfl,g1,g2⟩:=k3 v hv
  rw[<-g2]
  exact(PySem.W.Looks.ld g1).andThen .now
 .obtain⟨bs,rd⟩:=reads_at rds ui di
  obtain⟨bs',rd'⟩:=reads_at rds vj dj
  have m1:=List.mem_of_getElem? di
  have m2:=List.mem_of_getElem? dj
  refine key_lt (Reads.keeps k rd) (Reads.keeps k rd') (hkey _ m1).1.2.1 (hkey _ m2).1.2.1 (lay_mem hlay _ m1) (lay_mem hlay _ m2) (hcmp.1 _ m1 _ m2) ?_ hq
  have:=(hkey _ m1).1.2.2
  have:=Nat.min_le_left d.depth e.depth
  show X.A.units+1+1+_<_
  omega
 .have ee:es=sortE ds:=by
   refine up_uniq (pe.trans (sortE_perm ds).symm) (hcmp.sub fun x hx=>pe.mem_iff.mp hx) (List.Pairwise.imp_of_mem (fun{a b} ha hb hab=>?_) ue) (sortE_up ds)
   rw[ltD_enc (hcmp.1 _ (pe.mem_iff.mp hb) _ (pe.mem_iff.mp ha))]at hab
   exact of_decide_eq_false hab
  rw[ee]at re
  exact q l ys hl re
end
theorem sortsAs_E{prog:Program}{w:World}{A B:Around}{ds:List PyData}(hu:B.units+64<cLine)(hB:A=B.in1.in1)(hkey:∀d∈ds,KeyD d/\TT d)(hcmp:CmpA ds):SortsAs prog w A (tuples' false) ltD ds where
 ord:=cmp_ord hcmp
 kind:=fun s os dos hs hl h2 r Q E q=>by
  obtain⟨fs,k1,k2,k3⟩:=kinds_tt (h:=s.heap) os dos hl fun i v d h1 h2=>by
   obtain⟨bs,rd⟩:=r i v d h1 h2
   exact⟨(hkey d (hs d (List.mem_of_getElem? h2))).2,bs,rd⟩
  refine PySem.W.kat_kind (T:=Value.type "tuple") k1 (by omega) (fun v hv=>?_) rfl q
  obtain⟨a,o,rfl,g1,g2⟩:=k3 v hv
  rw[<-g2]
  exact(PySem.W.Looks.ld g1).andThen .now
 key:=fun s u v d e as bs hd he r1 r2 l1 l2 Q q=>by
  refine key_lt r1 r2 (hkey _ hd).1.2.1 (hkey _ he).1.2.1 l1 l2 (hcmp.1 _ hd _ he) ?_ q
  have:=(hkey _ hd).1.2.2
  have:=Nat.min_le_left d.depth e.depth
  subst hB
  show B.units+1+1+_<_
  omega
noncomputable def rSortSet:List V->Hp->VK->Prop:=fun vs H Q=>∃(p:Addr) (xs:List V) (ds:List PyData),vs=[.ref p]/\H p=some (.lst xs)/\RepAll H ds xs/\(∀d∈ds,KeyD d/\TT d)/\CmpA ds/\ds.length<4000/\
 ∀(ds':List PyData) (l:Addr) (ys:List V),ds'.Nodup->(∀d,d∈ds'↔d∈ds)->H l=none->RepAll (upd H l (.lst ys)) (sortE ds') ys->Q (.ref l) (upd H l (.lst ys))
section
variable{X:Cx}{p p2 pos pos2:Pos}{e:Expr}{t:TA}
theorem pe_sortset(hc:X.calm=true)(hu:X.A.units+64<cLine)(hg:Gl X "sorted")(hm:X.mg "sorted" = none)(hg2:Gl X "set")(hm2:X.mg "set" = none)(ha:PA X [e] t)(h1:notStar e=true:=by rfl) :
  PE X (.Call (.Name "sorted" p) [.Call (.Name "set" p2) [e] [] pos2] [] pos) (tCB rSortSet t):=by
 intro pins s σ H Q I h
 refine wpAny_Call_Name_kw (ld_blt I hg hm boot_sorted ?_ (by decide) (by decide))
 refine PyProof.Rows.callWith_builtin1 ?_ (star_cons rfl) rfl
 rw[star_cons rfl]
 show wpAny _ _ (spliced ((false,eval (.Call (.Name "set" p2) [e] [] pos2) X.env)::backTo pos (starEach [] X.env))) _ _ s
 refine Calls.spliced_cons ?_
 refine wpAny_Call_Name_kw (ld_blt I hg2 hm2 boot_set ?_ (by decide) (by decide))
 refine PyProof.Rows.callWith_type1 (thn (ha pos2 pins s σ H _ I h) fun us s1 ⟨vs,H1,I1,r1,q1⟩=>?_) (star_cons h1) rfl
 obtain⟨pl,xs,ds,rfl,hp,hds,hkey,hcmp,hb,q⟩:=q1
 obtain⟨u,rfl,ru⟩:=vals1 r1
 cases (show u=Value.ref pl from ru)
 obtain⟨its,rv,il,hz⟩:=I1.list (SqL.of (K:=X.K) hp)
 obtain⟨as,rds⟩:=RepAll.reads I1 hds rv
 have hlay:=hds.lay
 have hl1:xs.length=ds.length:=hds.length
 have hl2:xs.length=its.length:=rv.length
 refine call_setD (Pv:=fun v d=>∃i:Nat,its[i]?=some v/\ds[i]?=some d) (ds:=ds) (I1.ok.hd hc) il.isList (by rw[List.size_toArray];omega) (fun i v d hv hd=>?_) (by omega) (by omega) fun h' tk ds' hS hmem hlen hk ht=>?_
 .rw[List.getElem?_toArray]at hv
  obtain⟨bs,rd⟩:=reads_at rds hv hd
  have hm':=List.mem_of_getElem? hd
  exact⟨⟨i,hv,hd⟩,rfl,(hkey d hm').1.1,(hkey d hm').1.2.1,lay_mem hlay d hm',(hkey d hm').1.2.2,bs,rd⟩
 .refine Calls.spliced_nil ?_
  have I2:Inv X pins σ H1 {s1 with heap:=h',toks:=tk}:=I1.kept hk
  obtain⟨_,_,_,_,_,_,_,_,_,_,nd,_⟩:=id hS
  have sub:∀d∈ds',d∈ds:=fun d hd=>(hmem d).mp hd
  refine sorted_set_data I2 (fun v d hg=>by
   obtain⟨i,g1,g2⟩:=hg
   obtain⟨x,x1,x2⟩:=hds.get g2
   obtain⟨u,u1,u2⟩:=rv.get x1
   have:u=v:=by rw[u1]at g1;cases g1;rfl
   subst this
   exact⟨x,u2,x2⟩) hc hS (by omega) (sortsAs_E (B:=X.A) hu rfl (fun d hd=>hkey d (sub d hd)) (hcmp.sub sub)) fun es l ys pe ue hl re=>?_
  have ee:es=sortE ds':=by
   refine up_uniq (pe.trans (sortE_perm ds').symm) ((hcmp.sub sub).sub fun x hx=>pe.mem_iff.mp hx) (List.Pairwise.imp_of_mem (fun{a b} ha hb hab=>?_) ue) (sortE_up ds')
   rw[ltD_enc (hcmp.1 _ (sub _ (pe.mem_iff.mp hb)) _ (sub _ (pe.mem_iff.mp ha)))]at hab
   exact of_decide_eq_false hab
  rw[ee]at re
  exact q ds' l ys nd hmem hl re
end
end L3
namespace HT
open PySem PyProof.Rows
end HT
namespace L3
open PySem PySem.Spec PyProof.Rows L2
end L3
namespace L3
open PySem PySem.Spec PyProof.Rows L2
end L3
namespace L3
open PySem PyProof.Rows L2
theorem len_z{P:List Value->Prop}(h:P []):∀us:List Value,us.length=0->P us:=fun us e=>by cases us with|nil=>exact h|cons a t=>cases e
theorem len_s{P:List Value->Prop}{n:Nat}(h:∀a (t:List Value),t.length=n->P (a::t)):∀us:List Value,us.length=n+1->P us:=fun us e=>by cases us with|nil=>cases e|cons a t=>exact h a t (Nat.succ.inj e)
theorem len_1{P:List Value->Prop}(h:∀a,P [a]):∀us:List Value,us.length=1->P us:=len_s (n:=0) fun a=>len_z (P:=fun t=>P (a::t)) (h a)
theorem len_2{P:List Value->Prop}(h:∀a b,P [a,b]):∀us:List Value,us.length=2->P us:=len_s (n:=1) fun a=>len_1 (P:=fun t=>P (a::t)) (h a)
theorem len_3{P:List Value->Prop}(h:∀a b c,P [a,b,c]):∀us:List Value,us.length=3->P us:=len_s (n:=2) fun a=>len_2 (P:=fun t=>P (a::t)) (h a)
theorem len_4{P:List Value->Prop}(h:∀a b c d,P [a,b,c,d]):∀us:List Value,us.length=4->P us:=len_s (n:=3) fun a=>len_3 (P:=fun t=>P (a::t)) (h a)
noncomputable def Df(K:PySem.W.Frag)(n:Str)(st:Stmt):Prop:=∃f fd,PySem.W.nsIn K mainGlobals n=some (some (.ref f))/\Fun K n n st f fd
theorem df_mk{K:PySem.W.Frag}{n:Str}{st:Stmt}{f:Addr}{oc:Value}{od an:Option Addr}{sl:Array (Option Value)}{kV dc pm cd ct:Value}(a:PySem.W.nsIn K mainGlobals n=some (some (.ref f)))
  (l:K.lookup f=some ⟨oc,od,.func (PySem.W.fnOf n n (defArgs st) (defBody st) (defScope st) .none kV dc pm an cd ct),sl⟩) (c:PySem.W.codeIn K cd n=true) (k:PySem.W.keepIn K (.ref f)=true):Df K n st:=(x_EE f _ ⟨a,fun_mk l c k⟩)
theorem Df.fn{P:Program}{w:World}{K:PySem.W.Frag}{h base:Heap}{mg:Str->Option Value}{n:Str}{st:Stmt}{d:Nat}{ps:List Str}{sp:Sp}(D:Df K n st)(X:K.In h)(G:h.Ns mainGlobals mg)(ok:∀{f fd},Fun K n n st f fd->FnOk P w K mg base CX0 d f fd ps sp)
  (b:∀(kV doc pm:Value) (an:Option Addr) (cdv ct:Value) (us:List Value),us.length=ps.length->bindArgs (PySem.W.fnOf n n (defArgs st) (defBody st) (defScope st) .none kV doc pm an cdv ct) ⟨us,[]⟩=pure (ps.zip us):=by
   intro _ _ _ _ _ _
   first
   | exact len_1 (fun _=>rfl)
   | exact len_2 (fun _ _=>rfl)
   | exact len_3 (fun _ _ _=>rfl)
   | exact len_4 (fun _ _ _ _=>rfl)):Fn P w K mg base n d ps sp:=by
 obtain⟨f,fd,a,F⟩:=D
 exact(x_EE f fd ⟨ok F,PySem.W.mg_of X G a,F.kp,F.binds b⟩)
end L3
namespace K54
open PySem PyProof.Rows L2 L3
noncomputable def top(i:Nat):Stmt:=PySem.Challenge.pw_coverpieces_k54_refused_primes.main.body.getD i (.Pass ⟨0,0,0,0⟩)
noncomputable abbrev sWh:Stmt:=top 1
noncomputable abbrev sBig:Stmt:=top 2
noncomputable abbrev sSmall:Stmt:=top 3
noncomputable abbrev sTd:Stmt:=top 12
noncomputable abbrev sMir:Stmt:=top 13
noncomputable abbrev sTr:Stmt:=top 14
noncomputable abbrev sForms:Stmt:=top 15
noncomputable abbrev sAt:Stmt:=top 19
noncomputable abbrev sOpen:Stmt:=top 20
noncomputable abbrev sMust:Stmt:=top 21
noncomputable abbrev sWant:Stmt:=top 22
noncomputable abbrev sOc:Stmt:=top 23
noncomputable abbrev sSpots:Stmt:=top 24
noncomputable abbrev sPlc:Stmt:=top 26
noncomputable abbrev sPla:Stmt:=top 27
noncomputable abbrev sShf:Stmt:=top 28
noncomputable abbrev sMay:Stmt:=top 29
noncomputable abbrev sMcv:Stmt:=top 30
noncomputable abbrev sSrv:Stmt:=top 31
noncomputable abbrev sAsk:Stmt:=top 34
noncomputable abbrev sWgh:Stmt:=top 36
noncomputable abbrev sWsm:Stmt:=top 37
noncomputable abbrev sLes:Stmt:=top 38
noncomputable abbrev sSum:Stmt:=top 39
noncomputable abbrev sPrm:Stmt:=top 40
noncomputable abbrev sScl:Stmt:=top 41
noncomputable abbrev sInv:Stmt:=top 42
noncomputable abbrev sLsn:Stmt:=top 43
noncomputable abbrev sMxb:Stmt:=top 45
noncomputable abbrev sRef:Stmt:=top 47
noncomputable abbrev sLaw:Stmt:=top 48
noncomputable def blts:List Str:=["len","min","max","sorted","tuple","list","isinstance","bool","range","str","int","enumerate","all","set","zip","sum","dict","reversed","ValueError"]
section
variable{P:Program}{w:World}{K:PySem.W.Frag}{mg:Str->Option Value}{base:Heap}{f:Addr}{fd:FuncData}
noncomputable def spMap(g:List PyData->List PyData):Sp:=fun vs H Q _=>∃(a:Addr) (xs:List V) (ds:List PyData),vs=[.ref a]/\H a=some (.lst xs)/\RepAll H ds xs/\Spots ds/\0<ds.length/\ds.length<=64/\
 ∀(D:Addr) (ys:List V) (H':Hp),Same H H'->H' D=some (.lst ys)->RepAll H' (g ds) ys->Q (.ref D) H'
theorem scMir:FnScope ["spots","last"] ["spots"] (defScope sMir):=⟨rfl,rfl,rfl,by decide +kernel,rfl,by decide +kernel,by decide +kernel⟩
theorem scTr:FnScope ["spots","last"] ["spots"] (defScope sTr):=⟨rfl,rfl,rfl,by decide +kernel,rfl,by decide +kernel,by decide +kernel⟩
theorem hmir(m:Int)(r c:Int)(z:Str)(H':Hp)(Q':VK)(h:∃u v:Int,mir1 m (.tuple [.int r,.int c,.str z])=.tuple [.int u,.int v,.str z]/\∀n,H' n=none->Q' (.ref n) (upd H' n (.tup [.int u,.int v,.str z]))) :
  tTup (tCons (tVar 0) (tCons (tOp (rI0 fun i j=>.int (i-j)) (tVar 3) (tVar 1)) (tCons (tVar 2) tNil))) [some (.int r),some (.int c),some (.str z),some (.int m)] H' Q':=by
 obtain⟨u,v,e,q⟩:=h
 cases (show PyData.tuple [.int r,.int (m-c),.str z]=.tuple [.int u,.int v,.str z]from e)
 exact⟨_,rfl,_,rfl,_,rfl,_,_,rfl,rfl,_,rfl,(by show 3<=sizeLine;decide),q⟩
theorem htur(m:Int)(r c:Int)(z:Str)(H':Hp)(Q':VK)(h:∃u v:Int,tur1 m (.tuple [.int r,.int c,.str z])=.tuple [.int u,.int v,.str z]/\∀n,H' n=none->Q' (.ref n) (upd H' n (.tup [.int u,.int v,.str z]))) :
  tTup (tCons (tVar 1) (tCons (tOp (rI0 fun i j=>.int (i-j)) (tVar 3) (tVar 0)) (tCons (tVar 2) tNil))) [some (.int r),some (.int c),some (.str z),some (.int m)] H' Q':=by
 obtain⟨u,v,e,q⟩:=h
 cases (show PyData.tuple [.int c,.int (m-r),.str z]=.tuple [.int u,.int v,.str z]from e)
 exact⟨_,rfl,_,rfl,_,rfl,_,_,rfl,rfl,_,rfl,(by show 3<=sizeLine;decide),q⟩
theorem ok_mir(B:∀x∈blts,mg x=none)(F:Fun K "mirrored" "mirrored" sMir f fd):FnOk P w K mg base CX0 1 f fd ["spots"] (spMap mirD):=by
 refine F.ok (k:=0) scMir (fun vs H Q E h=>?_) (fun cdv A outer s H vs Q E hr h=>?_)
 .obtain⟨a,xs,ds,rfl,_⟩:=h
  rfl
 obtain⟨a,xs,ds,rfl,ha,hrep,hs,hpos,h64,q⟩:=h
 refine⟨_,(pss_cons (ps_set (i:=1) scMir.nd rfl (Or.inr rfl) (pe_maxD rfl rfl (B "max" (by decide)) (pa_c (pe_comp ["spot"] [none] rfl rfl (by decide +kernel) (by decide +kernel) rfl rfl (pi_list (pv 0)) (fun _=>(pg_name (i:=0) (show(["spot"]:List PySem.Str).Nodup by decide +kernel) rfl (Or.inl rfl))) (fun _=>pts_nil) (fun _=>(pe_ix ix_tupC (pv 0) pe_int (fun _ _=>rfl)))) pa_nil) (pk_cons pe_int pk_nil)))
  (pss_one (ps_ret (pe_comp ["row","column","sign","last"] [none,none,none,some 1] rfl rfl (by decide +kernel) (by decide +kernel) rfl rfl (pi_list (pv 0)) (fun _=>(pg_tupC (n:=3) rfl (pgs_cons (pg_name (i:=0) (show(["row","column","sign","last"]:List PySem.Str).Nodup by decide +kernel) rfl (Or.inl rfl)) (pgs_cons (pg_name (i:=1) (show(["row","column","sign","last"]:List PySem.Str).Nodup by decide +kernel) rfl (Or.inl rfl)) (pgs_cons (pg_name (i:=2) (show(["row","column","sign","last"]:List PySem.Str).Nodup by decide +kernel) rfl (Or.inl rfl)) pgs_nil))))) (fun _=>pts_nil) (fun _=>(pe_tup (pa_c (pv 0) (pa_c (pe_op op_sub (pv 3) (pv 1)) (pa_c (pv 2) pa_nil))))))))),?_⟩
 refine read_projI 1 col1 col_at rfl ha hrep hs h64 fun D1 H1 s1 hD1=>?_
 refine⟨rfl,D1,_,rfl,hD1,by rw[List.length_map];exact hpos,fun M1 m1 m1'=>?_⟩
 have em:=maxI_eq m1 m1'
 refine read_each mir1 rfl rfl (s1 _ _ ha) (hrep.same s1) hs h64 (hmir M1) (fun D ys H' hD s2 hDy rep=>q D ys H' (s1.trans s2) hDy (by unfold mirD;rw[<-em];exact rep)) (fun r c z=>⟨_,_,rfl⟩)
theorem ok_tr(B:∀x∈blts,mg x=none)(F:Fun K "turned_right" "turned_right" sTr f fd):FnOk P w K mg base CX0 1 f fd ["spots"] (spMap turD):=by
 refine F.ok (k:=0) scTr (fun vs H Q E h=>?_) (fun cdv A outer s H vs Q E hr h=>?_)
 .obtain⟨a,xs,ds,rfl,_⟩:=h
  rfl
 obtain⟨a,xs,ds,rfl,ha,hrep,hs,hpos,h64,q⟩:=h
 refine⟨_,(pss_cons (ps_set (i:=1) scTr.nd rfl (Or.inr rfl) (pe_maxD rfl rfl (B "max" (by decide)) (pa_c (pe_comp ["spot"] [none] rfl rfl (by decide +kernel) (by decide +kernel) rfl rfl (pi_list (pv 0)) (fun _=>(pg_name (i:=0) (show(["spot"]:List PySem.Str).Nodup by decide +kernel) rfl (Or.inl rfl))) (fun _=>pts_nil) (fun _=>(pe_ix ix_tupC (pv 0) pe_int (fun _ _=>rfl)))) pa_nil) (pk_cons pe_int pk_nil)))
  (pss_one (ps_ret (pe_comp ["row","column","sign","last"] [none,none,none,some 1] rfl rfl (by decide +kernel) (by decide +kernel) rfl rfl (pi_list (pv 0)) (fun _=>(pg_tupC (n:=3) rfl (pgs_cons (pg_name (i:=0) (show(["row","column","sign","last"]:List PySem.Str).Nodup by decide +kernel) rfl (Or.inl rfl)) (pgs_cons (pg_name (i:=1) (show(["row","column","sign","last"]:List PySem.Str).Nodup by decide +kernel) rfl (Or.inl rfl)) (pgs_cons (pg_name (i:=2) (show(["row","column","sign","last"]:List PySem.Str).Nodup by decide +kernel) rfl (Or.inl rfl)) pgs_nil))))) (fun _=>pts_nil) (fun _=>(pe_tup (pa_c (pv 1) (pa_c (pe_op op_sub (pv 3) (pv 0)) (pa_c (pv 2) pa_nil))))))))),?_⟩
 refine read_projI 0 row1 row_at rfl ha hrep hs h64 fun D1 H1 s1 hD1=>?_
 refine⟨rfl,D1,_,rfl,hD1,by rw[List.length_map];exact hpos,fun M1 m1 m1'=>?_⟩
 have em:=maxI_eq m1 m1'
 refine read_each tur1 rfl rfl (s1 _ _ ha) (hrep.same s1) hs h64 (htur M1) (fun D ys H' hD s2 hDy rep=>q D ys H' (s1.trans s2) hDy (by unfold turD;rw[<-em];exact rep)) (fun r c z=>⟨_,_,rfl⟩)
end
noncomputable def iter(i:Nat)(ds:List PyData):List PyData:=(List.range i).foldl (fun a _=>turD a) ds
theorem iter_succ(i:Nat)(ds:List PyData):iter (i+1) ds=turD (iter i ds):=by
 unfold iter
 rw[List.range_succ,List.foldl_append]
 rfl
section
variable{P:Program}{w:World}{K:PySem.W.Frag}{mg:Str->Option Value}{base:Heap}{f:Addr}{fd:FuncData}
noncomputable def spTd:Sp:=fun vs H Q _=>∃(a:Addr) (t:Nat) (xs:List V) (ds:List PyData),vs=[.ref a,.int (t:Nat)]/\(H a=some (.lst xs)\/H a=some (.tup xs))/\RepAll H ds xs/\Spots ds/\0<ds.length/\ds.length<=64/\t<8/\
 ∀(r:Addr) (H':Hp) (es:List PyData),Same H H'->es.Perm (spotsD t ds)->es.Pairwise (fun x y=>ltR y x=false)->Rep H' (.tuple es) (.ref r)->Q (.ref r) H'
theorem scTd:FnScope ["form","t","spots","step"] ["form","t"] (defScope sTd):=⟨rfl,rfl,rfl,by decide +kernel,rfl,by decide +kernel,by decide +kernel⟩
theorem ok_td(B:∀x∈blts,mg x=none)(Fmir:Fn P w K mg base "mirrored" 1 ["spots"] (spMap mirD))(Ftr:Fn P w K mg base "turned_right" 1 ["spots"] (spMap turD))(F:Fun K "turned" "turned" sTd f fd):FnOk P w K mg base CX0 2 f fd ["form","t"] spTd:=by
 refine F.ok (k:=1) scTd (fun vs H Q E h=>?_) (fun cdv A outer s H vs Q E hr h=>?_)
 .obtain⟨a,t,xs,ds,rfl,_⟩:=h
  rfl
 obtain⟨a,t,ys,ds,rfl,ha,rep0,hs0,hpos,h64,ht,q⟩:=h
 refine⟨_,(pss_cons (ps_set (i:=2) scTd.nd rfl (Or.inl rfl) (pe_cT call_list_of rfl (B "list" (by decide)) boot_list (pa_c (pv 0) pa_nil)))
  (pss_cons (ps_if (pt_cmpR op_ge (pv 1) pe_int (nomark _)) (pss_one (ps_set (i:=2) scTd.nd rfl (Or.inl rfl) (pe_fn Fmir hr (by decide) rfl (pa_c (pv 2) pa_nil)))) pss_nil)
  (pss_cons (ps_for PassesOwn.never rfl (pi_r1 rfl (B "range" (by decide)) (pa_c (pe_op op_mod (pv 1) pe_int) pa_nil)) (pg_name (i:=3) scTd.nd rfl (Or.inl rfl)) (pss_one (ps_set (i:=2) scTd.nd rfl (Or.inl rfl) (pe_fn Ftr hr (by decide) rfl (pa_c (pv 2) pa_nil)))))
  (pss_one (ps_ret (pe_cT call_tuple_of rfl (B "tuple" (by decide)) boot_tuple (pa_c (pe_cB call_sortedN rfl (B "sorted" (by decide)) boot_sorted (pa_c (pv 2) pa_nil)) pa_nil))))))),?_⟩
 refine⟨_,rfl,a,ys,rfl,ha.imp SqL.of SqT.of,fun D hD0=>?_⟩
 have sm:Same H (upd H D (.lst ys)):=Same.fresh _ hD0
 have hDy:upd H D (.lst ys) D=some (.lst ys):=upd_same
 have rep:=rep0.same sm
 generalize upd H D (.lst ys)=H2 at *
 refine⟨_,rfl,_,_,rfl,rfl,_,rfl,?_⟩
 refine ite2 (fun h4=>?ga) (fun h4=>?gb)
 case' ga=>
  have h4':4<=t:=by have:(t:Int)>=4:=of_decide_eq_true h4
                    omega
  refine⟨_,rfl,D,ys,ds,rfl,hDy,rep,hs0,hpos,h64,fun D ys H3 s3 hDy rep=>?_⟩
  replace sm:=sm.trans s3
  obtain⟨ds1,e1⟩:∃d,d=(if 4<=t then mirD ds else ds):=⟨_,rfl⟩
  have e2:ds1=mirD ds:=by rw[e1,if_pos h4']
  rw[<-e2]at rep
  have sp1:Spots ds1:=by rw[e2];exact mir_spots hs0 _
  have l1:ds1.length=ds.length:=by rw[e2];simp[mirD]
  generalize H3=H2 at *
 case' gb=>
  have h4':¬4<=t:=by have:¬(t:Int)>=4:=by simpa using h4
                     omega
  obtain⟨ds1,e1⟩:∃d,d=(if 4<=t then mirD ds else ds):=⟨_,rfl⟩
  have e2:ds1=ds:=by rw[e1,if_neg h4']
  rw[<-e2]at rep
  have sp1:Spots ds1:=by rw[e2];exact hs0
  have l1:ds1.length=ds.length:=by rw[e2]
 all_goals
  refine⟨_,rfl,_,_,rfl,rfl,(by show(0:Int)<4;decide),_,rfl,by omega,by omega,?_⟩
  refine for_range (lo:=0) (fun i σ' H'=>∃(y3:Option V) (D:Addr) (ys:List V),σ'=[some (.ref a),some (.int (t:Nat)),some (.ref D),y3]/\Same H H'/\H' D=some (.lst ys)/\RepAll H' (iter i ds1) ys/\Spots (iter i ds1)/\(iter i ds1).length=ds.length) ?_ (fun i σ' H' hi h=>?_) (fun σ' H' h=>?_)
  .exact⟨_,D,ys,rfl,sm,hDy,rep,sp1,l1⟩
  .obtain⟨y3,D,ys,rfl,sm,hDy,rep,sp,hl⟩:=h
   refine⟨_,rfl,D,ys,_,rfl,hDy,rep,sp,by omega,by omega,fun D2 ys2 H3 s3 hD3 rep3=>?_⟩
   refine⟨_,D2,ys2,rfl,sm.trans s3,hD3,by rw[iter_succ];exact rep3,by rw[iter_succ];exact tur_spots sp _,by rw[iter_succ];simp[turD,hl]⟩
  .obtain⟨y3,D,ys,rfl,sm,hDy,rep,sp,hl⟩:=h
   have et:(((t:Nat):Int) % 4).toNat=t % 4:=by omega
   rw[et]at rep sp hl
   refine⟨_,rfl,D,ys,_,[true,false],rfl,hDy,rep,spots_rows sp,fun l zs es hl1 pe ue hz=>?_⟩
   refine⟨l,zs,rfl,.inl ⟨SqL.of upd_same,fun l2 hl2=>?_⟩⟩
   have s1:Same H' (upd H' l (.lst zs)):=Same.fresh _ hl1
   have s2:Same (upd H' l (.lst zs)) (upd (upd H' l (.lst zs)) l2 (.tup zs)):=Same.fresh _ hl2
   refine q l2 _ es ((sm.trans s1).trans s2) ?_ ue ⟨l2,zs,rfl,upd_same,hz.same s2⟩
   rw[show spotsD t ds=iter (t % 4) ds1 by rw[e1];rfl]
   exact pe
end
end K54
namespace L3
open PySem PySem.Spec PyProof.Rows L2
noncomputable def cl(d:PyData):Int×Int:=(row1 d,col1 d)
noncomputable def SgD(d:PyData):Prop:=∃(r c:Int) (k:Nat),d=.tuple [.int r,.int c,.str ⟨#[k]⟩]/\65<=k/\k<=90
structure Pre(ds:List PyData):Prop where
 sg:∀d∈ds,SgD d
 pos:0<ds.length
 six:ds.length<=6
 nd:(ds.map cl).Nodup
structure Zr(ds:List PyData):Prop where
 pre:Pre ds
 r0:minI (ds.map row1)=0
 c0:minI (ds.map col1)=0
theorem Pre.spots{ds:List PyData}(h:Pre ds):Spots ds:=fun d hd=>by
 obtain⟨r,c,k,e,_⟩:=h.sg d hd
 exact(x_EEE r c _ e)
theorem Pre.map{ds:List PyData}(h:Pre ds){f:PyData->PyData}{g:Int×Int->Int×Int}(hf:∀d,SgD d->SgD (f d)/\cl (f d)=g (cl d))(hi:∀a b,g a=g b->a=b):Pre (ds.map f):=by
 have e:(ds.map f).map cl=(ds.map cl).map g:=by
  rw[List.map_map,List.map_map]
  exact List.map_congr_left fun d hd=>(hf d (h.sg d hd)).2
 refine⟨fun d hd=>?_,by rw[List.length_map];exact h.pos,by rw[List.length_map];exact h.six,?_⟩
 .obtain⟨x,hx,rfl⟩:=List.mem_map.mp hd
  exact(hf x (h.sg x hx)).1
 .rw[e]
  exact List.Pairwise.map g (fun a b hab z=>hab (hi a b z)) h.nd
theorem Pre.perm{ds es:List PyData}(h:Pre ds)(p:es.Perm ds):Pre es:=
 ⟨fun d hd=>h.sg d (p.mem_iff.mp hd),by rw[p.length_eq];exact h.pos,by rw[p.length_eq];exact h.six,(p.map cl).nodup_iff.mpr h.nd⟩
theorem min_perm{ns ms:List Int}(p:ns.Perm ms)(h:0<ns.length):minI ns=minI ms:=
 minI_eq (p.mem_iff.mp (minI_mem h)) fun a ha=>minI_le a (p.mem_iff.mpr ha)
theorem Zr.perm{ds es:List PyData}(h:Zr ds)(p:es.Perm ds):Zr es:=by
 have hp:=h.pre.perm p
 exact⟨hp,(min_perm (p.map row1) (by rw[List.length_map];exact hp.pos)).trans h.r0,(min_perm (p.map col1) (by rw[List.length_map];exact hp.pos)).trans h.c0⟩
theorem sgd_mir{d:PyData}(m:Int)(h:SgD d):SgD (mir1 m d)/\cl (mir1 m d)=((cl d).1,m-(cl d).2):=by
 obtain⟨r,c,k,rfl,h1,h2⟩:=h
 exact⟨(x_EEE r (m-c) k ⟨rfl,h1,h2⟩),rfl⟩
theorem sgd_tur{d:PyData}(m:Int)(h:SgD d):SgD (tur1 m d)/\cl (tur1 m d)=((cl d).2,m-(cl d).1):=by
 obtain⟨r,c,k,rfl,h1,h2⟩:=h
 exact⟨(x_EEE c (m-r) k ⟨rfl,h1,h2⟩),rfl⟩
theorem row_cl(d:PyData):row1 d=(cl d).1:=rfl
theorem col_cl(d:PyData):col1 d=(cl d).2:=rfl
theorem min_flip{ns:List Int}(h:0<ns.length):minI (ns.map fun x=>maxI ns-x)=0:=by
 refine(minI_eq ?_ fun a ha=>?_).symm
 .exact List.mem_map.mpr ⟨maxI ns,maxI_mem h,by omega⟩
 .obtain⟨x,hx,rfl⟩:=List.mem_map.mp ha
  have:=le_maxI x hx
  omega
theorem Zr.mir{ds:List PyData}(h:Zr ds):Zr (mirD ds):=by
 have hp:Pre (mirD ds):=h.pre.map (g:=fun a=>(a.1,maxI (ds.map col1)-a.2)) (fun d hd=>sgd_mir _ hd) (fun a b e=>by
  injection e with e1 e2
  exact Prod.ext e1 (by omega))
 refine⟨hp,?_,?_⟩
 .rw[show(mirD ds).map row1=ds.map row1 by
   unfold mirD
   rw[List.map_map]
   exact List.map_congr_left fun d hd=>by rw[Function.comp,row_cl,(sgd_mir _ (h.pre.sg d hd)).2];rfl]
  exact h.r0
 .rw[show(mirD ds).map col1=(ds.map col1).map fun x=>maxI (ds.map col1)-x by
   unfold mirD
   rw[List.map_map,List.map_map]
   exact List.map_congr_left fun d hd=>by rw[Function.comp,col_cl,(sgd_mir _ (h.pre.sg d hd)).2];rfl]
  exact min_flip (by rw[List.length_map];exact h.pre.pos)
theorem Zr.tur{ds:List PyData}(h:Zr ds):Zr (turD ds):=by
 have hp:Pre (turD ds):=h.pre.map (g:=fun a=>(a.2,maxI (ds.map row1)-a.1)) (fun d hd=>sgd_tur _ hd) (fun a b e=>by
  injection e with e1 e2
  exact Prod.ext (by omega) e1)
 refine⟨hp,?_,?_⟩
 .rw[show(turD ds).map row1=ds.map col1 by
   unfold turD
   rw[List.map_map]
   exact List.map_congr_left fun d hd=>by rw[Function.comp,row_cl,(sgd_tur _ (h.pre.sg d hd)).2];rfl]
  exact h.c0
 .rw[show(turD ds).map col1=(ds.map row1).map fun x=>maxI (ds.map row1)-x by
   unfold turD
   rw[List.map_map,List.map_map]
   exact List.map_congr_left fun d hd=>by rw[Function.comp,col_cl,(sgd_tur _ (h.pre.sg d hd)).2];rfl]
  exact min_flip (by rw[List.length_map];exact h.pre.pos)
noncomputable def iterT(i:Nat)(ds:List PyData):List PyData:=(List.range i).foldl (fun a _=>turD a) ds
theorem iterT_succ(i:Nat)(ds:List PyData):iterT (i+1) ds=turD (iterT i ds):=by
 unfold iterT
 rw[List.range_succ,List.foldl_append]
 rfl
theorem Zr.iter{ds:List PyData}(h:Zr ds):∀i,Zr (iterT i ds)
 | 0=>h
 | i+1=>by rw[iterT_succ];exact(h.iter i).tur
theorem Zr.turned{ds:List PyData}(h:Zr ds)(t:Nat):Zr (spotsD t ds):=by
 show Zr (iterT (t % 4) (if 4<=t then mirD ds else ds))
 refine Zr.iter ?_ _
 split
 .exact h.mir
 .exact h
noncomputable def formD(es:List PyData)(t:Nat):PyData:=.tuple (sortD (spotsD t es))
noncomputable def formsD(es:List PyData)(n:Nat):List PyData:=(List.range n).map (formD es)
theorem mem_forms{es:List PyData}{n:Nat}{d:PyData}:d∈formsD es n↔∃t,t<n/\formD es t=d:=by simp[formsD]
theorem sg_kd{d:PyData}(h:SgD d):kd d=true:=by
 obtain⟨r,c,k,rfl,_⟩:=h
 rfl
theorem sgs_kd:∀{ds:List PyData},(∀d∈ds,SgD d)->kdAll ds=true
 | [],_=>rfl
 | d::ds,h=>by
  show(kd d&&kdAll ds)=true
  rw[sg_kd (h d List.mem_cons_self),sgs_kd fun e he=>h e (List.mem_cons_of_mem _ he)]
  rfl
theorem sg_cmp{d e:PyData}(h:SgD d)(h':SgD e):Cmp d e:=by
 obtain⟨r,c,k,rfl,_⟩:=h
 obtain⟨r',c',k',rfl,_⟩:=h'
 exact⟨True.intro,True.intro,True.intro,True.intro⟩
theorem sgs_cmp:∀{ds es:List PyData},(∀d∈ds,SgD d)->(∀d∈es,SgD d)->CmpL ds es
 | [],_,_,_=>by unfold CmpL;exact True.intro
 | d::ds,[],_,_=>by unfold CmpL;exact True.intro
 | d::ds,e::es,h,h'=>⟨sg_cmp (h d List.mem_cons_self) (h' e List.mem_cons_self),sgs_cmp (fun x hx=>h x (List.mem_cons_of_mem _ hx)) fun x hx=>h' x (List.mem_cons_of_mem _ hx)⟩
theorem depth_spot{ds:List PyData}(h:Spots ds):PyData.depthAll ds<=2:=by
 induction ds with
 | nil=>simp[PyData.depthAll]
 | cons d t ih=>
  obtain⟨r,c,x,rfl⟩:=h d (by simp)
  have:=ih fun e he=>h e (by simp[he])
  simp[PyData.depthAll,PyData.depth]
  omega
theorem form_zr{es:List PyData}(h:Zr es)(t:Nat):Zr (sortD (spotsD t es)):=(h.turned t).perm (sortD_perm _)
theorem form_depth{es:List PyData}(h:Zr es)(t:Nat):(formD es t).depth<=3:=by
 have:=depth_spot (form_zr h t).pre.spots
 unfold formD
 simp[PyData.depth]
 omega
theorem form_key{es:List PyData}(h:Zr es)(t:Nat):KeyD (formD es t)/\TT (formD es t):=by
 have hd:=form_depth h t
 refine⟨⟨sgs_kd (form_zr h t).pre.sg,⟨_,rfl⟩,by omega⟩,?_⟩
 have hp:=(form_zr h t).pre.pos
 have hs:=(form_zr h t).pre.sg
 unfold formD
 cases e:sortD (spotsD t es)with
 | nil=>rw[e]at hp;exact absurd hp (by simp)
 | cons d ds=>
  rw[e]at hs
  obtain⟨r,c,k,rfl,_⟩:=hs d List.mem_cons_self
  exact(x_EE _ _ rfl)
theorem forms_key{es ds:List PyData}(h:Zr es)(hm:∀d∈ds,∃t,formD es t=d):∀d∈ds,KeyD d/\TT d:=fun d hd=>by
 obtain⟨t,rfl⟩:=hm d hd
 exact form_key h t
theorem forms_cmp{es ds:List PyData}(h:Zr es)(hm:∀d∈ds,∃t,formD es t=d):CmpA ds:=
 ⟨fun x hx y hy=>by
  obtain⟨t,rfl⟩:=hm x hx
  obtain⟨t',rfl⟩:=hm y hy
  exact sgs_cmp (form_zr h t).pre.sg (form_zr h t').pre.sg,fun x hx=>by
  obtain⟨t,rfl⟩:=hm x hx
  exact(form_key h t).1.1⟩
theorem form_imm{es:List PyData}(h:Zr es)(t:Nat):imm (formD es t)=true:=Spots.imm (form_zr h t).pre.spots
theorem forms_imm{es:List PyData}(h:Zr es):∀{ds:List PyData},(∀d∈ds,∃t,formD es t=d)->immAll ds=true
 | [],_=>rfl
 | d::ds,hm=>by
  obtain⟨t,rfl⟩:=hm d List.mem_cons_self
  show(imm (formD es t)&&immAll ds)=true
  rw[form_imm h t,forms_imm h fun e he=>hm e (List.mem_cons_of_mem _ he)]
  rfl
theorem forms_succ(es:List PyData)(n:Nat):formsD es (n+1)=formsD es n++[formD es n]:=by
 unfold formsD
 rw[List.range_succ,List.map_append]
 rfl
theorem forms_of_mem{es:List PyData}{n:Nat}:∀d∈formsD es n,∃t,formD es t=d:=fun d hd=>by
 obtain⟨t,_,e⟩:=mem_forms.mp hd
 exact⟨t,e⟩
theorem Pre.strict{ds es:List PyData}(h:Pre ds)(p:es.Perm ds)(u:es.Pairwise fun x y=>ltR y x=false):es.Pairwise lt2:=by
 have hp:=h.perm p
 have nd:es.Pairwise fun x y=>cl x≠cl y:=List.pairwise_map.mp hp.nd
 refine List.Pairwise.imp_of_mem (fun{a b} ha hb hab=>?_) (u.and nd)
 obtain⟨r,c,k,rfl,_⟩:=hp.sg a ha
 obtain⟨r',c',k',rfl,_⟩:=hp.sg b hb
 obtain⟨h1,h2⟩:=hab
 have h1':rowLt [.int r',.int c',.str ⟨#[k']⟩] [.int r,.int c,.str ⟨#[k]⟩]=false:=h1
 rw[rl_int,rl_int]at h1'
 show r<r'\/r=r'/\c<c'
 by_cases er:r'=r
 .rw[if_pos er]at h1'
  right
  refine⟨er.symm,?_⟩
  by_cases ec:c'=c
  .exfalso
   subst er;subst ec
   exact h2 rfl
  .rw[if_neg ec]at h1'
   have:=of_decide_eq_false h1'
   omega
 .rw[if_neg er]at h1'
  have:=of_decide_eq_false h1'
  left
  omega
theorem sortD_pair{ds:List PyData}(h:Spots ds):(sortD ds).Pairwise fun x y=>ltR y x=false:=by
 rw[List.pairwise_iff_getElem]
 intro i j hi hj hij
 exact sortD_up (spots_rows h) (List.getElem?_eq_getElem hi) (List.getElem?_eq_getElem hj) (Nat.le_of_lt hij)
theorem Pre.sorted{ds es:List PyData}(h:Pre ds)(p:es.Perm ds)(u:es.Pairwise fun x y=>ltR y x=false):es=sortD ds:=
 strict_uniq lt2_asy (h.strict p u) (h.strict (sortD_perm ds) (sortD_pair h.spots)) fun z=>by rw[p.mem_iff,(sortD_perm ds).mem_iff]
theorem map_spots{α:Type}{ds:List PyData}(h:Spots ds){f g:PyData->α}(e:∀(r c:Int) (z:Str),f (.tuple [.int r,.int c,.str z])=g (.tuple [.int r,.int c,.str z])):ds.map f=ds.map g:=
 List.map_congr_left fun d hd=>by
  obtain⟨r,c,z,rfl⟩:=h d hd
  exact e r c z
end L3
namespace K54
open PySem PyProof.Rows L2 L3
noncomputable def ModeN(m:Str)(n:Nat):Prop:=(m="still"/\n=1)\/(m="turn"/\n=4)\/(m="flip"/\n=8)
noncomputable def DictM(P:Program)(w:World)(K:PySem.W.Frag)(mg:Str->Option Value):Prop:=∃aD oD kvs,mg "TURNINGS_BY_MODE" = some (.ref aD)/\K.lookup aD=some oD/\oD.IsDictOf (strKind P w) kvs/\∀m n,ModeN m n->∃t,valueAt kvs m=some (.int (n:Nat) t)
noncomputable def spForms:Sp:=fun vs H Q _=>∃(r:Addr) (m:Str) (n:Nat) (xs:List V) (es:List PyData),vs=[.ref r,.str m]/\H r=some (.tup xs)/\RepAll H es xs/\Zr es/\ModeN m n/\
 ∀(l:Addr) (ys:List V) (ds:List PyData) (H':Hp),Same H H'->H l=none->H' l=some (.lst ys)->ds.Nodup->(∀d,d∈ds↔d∈formsD es n)->RepAll H' (sortE ds) ys->Q (.ref l) H'
section
variable{P:Program}{w:World}{K:PySem.W.Frag}{mg:Str->Option Value}{base:Heap}{f:Addr}{fd:FuncData}
theorem scForms:FnScope ["form","mode"] ["form","mode"] (defScope sForms):=⟨rfl,rfl,rfl,by decide +kernel,rfl,by decide +kernel,by decide +kernel⟩
theorem ok_forms(B:∀x∈blts,mg x=none)(hM:DictM P w K mg)(Ftd:Fn P w K mg base "turned" 2 ["form","t"] spTd)
  (F:Fun K "forms_of" "forms_of" sForms f fd):FnOk P w K mg base CX0 3 f fd ["form","mode"] spForms:=by
 obtain⟨aD,oD,kvs,hD,hL,hI,hV⟩:=hM
 refine F.ok (k:=2) scForms (fun vs H Q E h=>?_) (fun cdv A outer s H vs Q E hr h=>?_)
 .obtain⟨r,m,n,xs,es,rfl,_⟩:=h
  rfl
 obtain⟨r,m,n,xs,es,rfl,hr0,rep,hz,hm,q⟩:=h
 have hu:=hr.units
 obtain⟨tk,hv⟩:=hV m n hm
 refine⟨_,(pss_one (ps_ret (pe_sortset rfl hu rfl (B "sorted" (by decide)) rfl (B "set" (by decide)) (pa_c (pe_comp ["t","form"] [none,some 0] rfl rfl (by decide +kernel) (by decide +kernel) rfl rfl (pi_r1 rfl (B "range" (by decide)) (pa_c (pe_ix ix_dict (pe_globR hD rfl) (pv 1) (fun _ _=>rfl)) pa_nil)) (fun _=>(pg_name (i:=0) (show(["t","form"]:List PySem.Str).Nodup by decide +kernel) rfl (Or.inl rfl))) (fun _=>pts_nil) (fun _=>(pe_fn Ftd hr (by decide) rfl (pa_c (pv 1) (pa_c (pv 0) pa_nil))))) pa_nil)))),?_⟩
 refine⟨_,rfl,aD,m,oD,kvs,n,tk,rfl,rfl,hL,hI,hv,?_⟩
 have hn:n<=8:=by rcases hm with h|h|h<;>omega
 refine⟨(n:Nat),rfl,by omega,by omega,fun D hD0=>?_⟩
 rw[Int.toNat_natCast]
 refine comp_range (lo:=0) (n:=n) (fun i ys G=>Same H G/\RepAll G (formsD es i) ys) ⟨Same.fresh _ hD0,rfl⟩ (fun i ys G hi hDy hyl p=>?_) (fun ys G hDy hyl p=>?_)
 .obtain⟨p1,p2⟩:=p
  refine⟨Agree.set (Agree.refl _) rfl,?_⟩
  dsimp only[tYes]
  refine iteT ?_
  refine⟨_,rfl,_,rfl,r,i,xs,es,by rw[Int.zero_add];rfl,.inr (p1 _ _ hr0),rep.same p1,hz.pre.spots,hz.pre.pos,by have:=hz.pre.six;omega,by omega,fun r2 H2 e2 s2 pe ue rep2=>?_⟩
  rw[(hz.turned i).pre.sorted pe ue]at rep2
  have hD2:=s2 _ _ hDy
  refine nx_put (by omega) hD2 hyl ⟨(p1.trans s2).new hD0,?_⟩
  rw[forms_succ]
  refine((p2.same s2).snoc rep2).tk (Tk.lst hD2) (forms_imm hz fun d hd=>?_)
  rcases List.mem_append.mp hd with h|h
  .exact forms_of_mem d h
  .exact⟨i,(List.mem_singleton.mp h).symm⟩
 .obtain⟨p1,p2⟩:=p
  refine⟨D,ys,formsD es n,rfl,hDy,p2,forms_key hz forms_of_mem,forms_cmp hz forms_of_mem,by simp[formsD];omega,fun ds l zs hnd hmem hl rz=>?_⟩
  have hlH:H l=none:=by
   cases e:H l with
   | none=>rfl
   | some o=>rw[p1 _ _ e]at hl;cases hl
  exact q l zs ds _ (p1.trans (Same.fresh _ hl)) hlH upd_same hnd hmem rz
end
theorem lenL(z:Str):z.cps.toList.length=z.length:=by simp[Str.length]
theorem ok1{c:Nat}(h:c<128):PyData.strOk (⟨#[c]⟩:Str)=true:=Tx.ok ⟨by show 1<=80;omega,fun x hx=>by
 have:x=c:=by simpa using hx
 omega⟩
noncomputable def Rw(zs:List Str):Prop:=0<zs.length/\zs.length<=8/\∃wd,0<wd/\wd<=8/\∀z∈zs,(Tx z/\∀c∈z.cps.toList,sgB c=true)/\z.length=wd
noncomputable def Fl(H:Hp)(a:Addr)(zs:List Str):Prop:=H a=some (.tup (zs.map V.str))/\Rw zs
theorem Fl.tx{H:Hp}{a:Addr}{zs:List Str}(h:Fl H a zs):∀z∈zs,Tx z:=fun z hz=>by
 obtain⟨_,_,_,wd,_,_,hw⟩:=h
 exact(hw z hz).1.1
noncomputable def rowSp(r:Nat)(cs:List Nat):Nat->List PyData
 | 0=>[]
 | k+1=>rowSp r cs k++(match cs[k]? with|some c=>[.tuple [.int r,.int k,.str ⟨#[c]⟩]]|none=>[])
noncomputable def allSp(zs:List Str):Nat->List PyData
 | 0=>[]
 | k+1=>allSp zs k++(match zs[k]? with|some z=>rowSp k z.cps.toList z.cps.toList.length|none=>[])
theorem rowSp_spots(r:Nat)(cs:List Nat):∀k,Spots (rowSp r cs k)
 | 0,d,h=>by cases h
 | k+1,d,h=>by
  unfold rowSp at h
  rcases List.mem_append.mp h with h|h
  .exact rowSp_spots r cs k d h
  .cases e:cs[k]? with
   | none=>rw[e]at h;cases h
   | some c=>rw[e]at h;rw[List.mem_singleton.mp h];exact⟨_,_,_,rfl⟩
theorem allSp_spots(zs:List Str):∀k,Spots (allSp zs k)
 | 0,d,h=>by cases h
 | k+1,d,h=>by
  unfold allSp at h
  rcases List.mem_append.mp h with h|h
  .exact allSp_spots zs k d h
  .cases e:zs[k]? with
   | none=>rw[e]at h;cases h
   | some z=>rw[e]at h;exact rowSp_spots _ _ _ d h
theorem Spots.app{a b:List PyData}(h:Spots a)(k:Spots b):Spots (a++b):=fun d hd=>(List.mem_append.mp hd).elim (h d) (k d)
theorem rowSp_succ{r:Nat}{cs:List Nat}{k c:Nat}(h:cs[k]?=some c):rowSp r cs (k+1)=rowSp r cs k++[.tuple [.int r,.int k,.str ⟨#[c]⟩]]:=by
 show rowSp r cs k++_=_
 rw[h]
theorem allSp_succ{zs:List Str}{k:Nat}{z:Str}(h:zs[k]?=some z):allSp zs (k+1)=allSp zs k++rowSp k z.cps.toList z.cps.toList.length:=by
 show allSp zs k++_=_
 rw[h]
section
variable{P:Program}{w:World}{K:PySem.W.Frag}{mg:Str->Option Value}{base:Heap}{f:Addr}{fd:FuncData}
noncomputable def spSpots:Sp:=fun vs H Q _=>∃(a:Addr) (zs:List Str),vs=[.ref a]/\Fl H a zs/\∀(D:Addr) (ys:List V) (H':Hp),Same H H'->H' D=some (.lst ys)->ys.length<=64->RepAll H' (allSp zs zs.length) ys->Q (.ref D) H'
theorem scSpots:FnScope ["floor","spots","row","signs","column","sign"] ["floor"] (defScope sSpots):=⟨rfl,rfl,rfl,by decide +kernel,rfl,by decide +kernel,by decide +kernel⟩
theorem ok_spots(B:∀x∈blts,mg x=none)(F:Fun K "floor_spots" "floor_spots" sSpots f fd):FnOk P w K mg base CX0 1 f fd ["floor"] spSpots:=by
 refine F.ok (k:=0) scSpots (fun vs H Q E h=>?_) (fun cdv A outer s H vs Q E hr h=>?_)
 .obtain⟨a,zs,rfl,_⟩:=h
  rfl
 obtain⟨a,zs,rfl,hf,q⟩:=h
 have htx:=hf.tx
 obtain⟨ha,hz0,hz8,wd,hw0,hw8,hw⟩:=hf
 refine⟨_,(pss_cons (ps_set (i:=1) scSpots.nd rfl (Or.inl rfl) (pe_lst pa_nil))
  (pss_cons (ps_for PassesOwn.never rfl (pi_enT rfl (B "enumerate" (by decide)) (pa_c (pv 0) pa_nil)) (pg_tup (n:=2) rfl (pgs_cons (pg_name (i:=2) scSpots.nd rfl (Or.inl rfl)) (pgs_cons (pg_name (i:=3) scSpots.nd rfl (Or.inl rfl)) pgs_nil))) (pss_one (ps_for PassesOwn.never rfl (pi_enS rfl (B "enumerate" (by decide)) (pa_c (pv 3) pa_nil)) (pg_tup (n:=2) rfl (pgs_cons (pg_name (i:=4) scSpots.nd rfl (Or.inl rfl)) (pgs_cons (pg_name (i:=5) scSpots.nd rfl (Or.inl rfl)) pgs_nil))) (pss_one (ps_expr (pe_bm PySem.F.plainAttrs_list PySem.F.slot_list_append PySem.F.type_list_append mt_append (pv 1) (pa_c (pe_tup (pa_c (pv 2) (pa_c (pv 4) (pa_c (pv 5) pa_nil)))) pa_nil)))))))
  (pss_one (ps_ret (pv 1))))),?_⟩
 refine⟨(by show 0<=sizeLine;decide),fun D hD=>?_⟩
 refine⟨_,rfl,a,rfl,⟨_,SqT.of (by rw[upd_ne (ne_of_none ha hD)];exact ha)⟩,?_⟩
 refine for_enT (xs:=zs.map V.str) (fun i σ' H'=>∃(y2 y3 y4 y5:Option V) (ys:List V),σ'=[some (.ref a),some (.ref D),y2,y3,y4,y5]/\Same H H'/\H' D=some (.lst ys)/\RepAll H' (allSp zs i) ys/\ys.length<=8*i) ?_ (fun i σ' H' h=>?_) (fun i x p σ' H' hx hp h=>?_) (fun σ' H' h=>?_)
 .exact⟨_,_,_,_,[],rfl,Same.fresh _ hD,upd_same,rfl,Nat.zero_le _⟩
 .obtain⟨_,_,_,_,_,_,s1,_⟩:=h
  exact SqT.of (s1 _ _ ha)
 .obtain⟨y2,y3,y4,y5,ys,rfl,s1,hDy,rep,hyl⟩:=h
  rw[List.getElem?_map]at hx
  cases hz:zs[i]? with
  | none=>rw[hz]at hx;cases hx
  | some z=>
   rw[hz]at hx
   cases hx
   have hzm:=List.mem_of_getElem? hz
   have hil:i<zs.length:=(List.getElem?_eq_some_iff.mp hz).1
   have hzl:=(hw z hzm).2
   have hL:=lenL z
   refine⟨p,_,rfl,SqT.of upd_same,rfl,_,_,rfl,_,_,rfl,rfl,?_⟩
   have s2:Same H' (upd H' p (.tup [.int (i:Nat),.str z])):=Same.fresh _ hp
   generalize upd H' p (.tup [.int (i:Nat),.str z])=H2 at *
   refine⟨_,rfl,z,rfl,(htx z hzm).2,?_⟩
   refine for_enS (z:=z) (fun j σ' H3=>∃(y4 y5:Option V) (ys:List V),σ'=[some (.ref a),some (.ref D),some (.int (i:Nat)),some (.str z),y4,y5]/\Same H H3/\H3 D=some (.lst ys)/\RepAll H3 (allSp zs i++rowSp i z.cps.toList j) ys/\ys.length<=8*i+j) ?_ (fun j c p3 σ' H3 hc hp3 h=>?_) (fun σ' H3 h=>?_)
   .refine⟨_,_,ys,rfl,s1.trans s2,s2 _ _ hDy,?_,by omega⟩
    show RepAll H2 (allSp zs i++[]) ys
    rw[List.append_nil]
    exact rep.same s2
   .obtain⟨y4,y5,ys3,rfl,s3,hD3,rep3,hl3⟩:=h
    have hjl:j<z.cps.toList.length:=(List.getElem?_eq_some_iff.mp hc).1
    have hc128:c<128:=(htx z hzm).2 c (List.mem_of_getElem? hc)
    refine⟨p3,_,rfl,SqT.of upd_same,rfl,_,_,rfl,_,_,rfl,rfl,?_⟩
    have s4:Same H3 (upd H3 p3 (.tup [.int (j:Nat),.str ⟨#[c]⟩])):=Same.fresh _ hp3
    generalize upd H3 p3 (.tup [.int (j:Nat),.str ⟨#[c]⟩])=H4 at *
    have hD4:=s4 _ _ hD3
    refine⟨_,rfl,.inl ⟨rfl,_,SqL.of hD4⟩,_,rfl,_,rfl,_,rfl,(by show 3<=sizeLine;decide),fun t ht=>?_⟩
    have s5:Same H4 (upd H4 t (.tup [.int (i:Nat),.int (j:Nat),.str ⟨#[c]⟩])):=Same.fresh _ ht
    have t5:upd H4 t (.tup [.int (i:Nat),.int (j:Nat),.str ⟨#[c]⟩]) t=some (.tup [.int (i:Nat),.int (j:Nat),.str ⟨#[c]⟩]):=upd_same
    generalize upd H4 t (.tup [.int (i:Nat),.int (j:Nat),.str ⟨#[c]⟩])=H5 at *
    have hD5:=s5 _ _ hD4
    refine⟨D,ys3,.ref t,rfl,rfl,hD5,small1000 (by omega),?_⟩
    have rep5:RepAll H5 ((allSp zs i++rowSp i z.cps.toList j)++[.tuple [.int (i:Nat),.int (j:Nat),.str ⟨#[c]⟩]]) (ys3++[.ref t]):=((rep3.same s4).same s5).snoc (spot_rep t5 (ok1 hc128))
    rw[List.append_assoc,<-rowSp_succ hc]at rep5
    refine⟨_,_,ys3++[.ref t],rfl,((s3.trans s4).trans s5).new hD,upd_same,rep5.tk (Tk.lst hD5) (Spots.imm (Spots.app (allSp_spots _ _) (rowSp_spots _ _ _))),?_⟩
    rw[List.length_append,List.length_singleton]
    omega
   .obtain⟨y4,y5,ys3,rfl,s3,hD3,rep3,hl3⟩:=h
    rw[<-allSp_succ hz]at rep3
    exact⟨_,_,_,_,ys3,rfl,s3,hD3,rep3,by omega⟩
 .obtain⟨y2,y3,y4,y5,ys,rfl,s1,hDy,rep,hyl⟩:=h
  rw[List.length_map]at rep hyl
  exact⟨_,rfl,q D ys H' s1 hDy (by omega) rep⟩
end
theorem rowSp_line(M:Mat)(r:Nat):∀c,c<=M.w->rowSp r (lineM M r) c=(List.range c).map fun k=>spotM M r k
 | 0,_=>rfl
 | c+1,h=>by
  rw[rowSp_succ (line_at (M:=M) (r:=r) (c:=c) (by omega)),rowSp_line M r c (by omega),List.range_succ,List.map_append]
  rfl
theorem allSp_read(M:Mat):∀k,k<=M.h->allSp (strsM M) k=(List.range (k*M.w)).map fun i=>spotM M (i/M.w) (i % M.w)
 | 0,_=>by simp[allSp]
 | k+1,h=>by
  rw[allSp_succ (strs_at (M:=M) (r:=k) (by omega)),allSp_read M k (by omega)]
  have e:((⟨(lineM M k).toArray⟩:Str).cps.toList)=lineM M k:=by simp
  rw[e,line_len,rowSp_line M k M.w (Nat.le_refl _),Nat.add_mul,Nat.one_mul,List.range_add,List.map_append,List.map_map]
  congr 1
  refine List.map_congr_left fun c hc=>?_
  have hc':c<M.w:=by simpa using hc
  show spotM M k c=spotM M ((k*M.w+c)/M.w) ((k*M.w+c) % M.w)
  rw[div_at hc',mod_at hc']
theorem strs_tx{M:Mat}(o:OkM SgP M){z:Str}(h:z∈strsM M):(Tx z/\∀c∈z.cps.toList,sgB c=true)/\z.length=M.w:=by
 obtain⟨r,hr,rfl⟩:=strs_mem h
 have hs:=line_sg o hr
 have hl:(⟨(lineM M r).toArray⟩:Str).length=M.w:=by show(lineM M r).toArray.size=_;rw[List.size_toArray,line_len]
 have hw:=o.w8
 have e:((⟨(lineM M r).toArray⟩:Str).cps.toList)=lineM M r:=by simp
 refine⟨⟨⟨by omega,fun c hc=>?_⟩,fun c hc=>?_⟩,hl⟩
 .rw[e]at hc;exact sg128 (hs c hc)
 .rw[e]at hc;exact hs c hc
theorem FlM.fl{H:Hp}{a:Addr}{M:Mat}(h:FlM H a M):Fl H a (strsM M):=
 ⟨h.1,by rw[strs_len];exact h.2.h1,by rw[strs_len];exact h.2.h8,M.w,h.2.w1,h.2.w8,fun z hz=>strs_tx h.2 hz⟩
open Classical in
noncomputable def ddp:List PyData->List PyData
 | []=>[]
 | x::xs=>if x∈ddp xs then ddp xs else x::ddp xs
theorem ddp_mem:∀{xs:List PyData} {d:PyData},d∈ddp xs↔d∈xs
 | [],d=>Iff.rfl
 | x::xs,d=>by
  have ih:=@ddp_mem xs
  unfold ddp
  split
  .rename_i h
   rw[List.mem_cons,ih]
   exact⟨.inr,fun z=>z.elim (fun e=>by rw[e];exact ih.mp h) id⟩
  .rw[List.mem_cons,List.mem_cons,ih]
theorem ddp_nd:∀(xs:List PyData),(ddp xs).Nodup
 | []=>List.nodup_nil
 | x::xs=>by
  unfold ddp
  split
  .exact ddp_nd xs
  .rename_i h
   exact List.nodup_cons.mpr ⟨h,ddp_nd xs⟩
theorem ddp_len:∀(xs:List PyData),(ddp xs).length<=xs.length
 | []=>Nat.le_refl _
 | x::xs=>by
  have:=ddp_len xs
  unfold ddp
  split
  .rw[List.length_cons];omega
  .rw[List.length_cons,List.length_cons];omega
noncomputable def FS(es:List PyData)(n:Nat):List PyData:=sortE (ddp (formsD es n))
theorem FS_of{es ds:List PyData}{n:Nat}(h:Zr es)(nd:ds.Nodup)(hm:∀d,d∈ds↔d∈formsD es n):sortE ds=FS es n:=
 sortE_uniq ((List.perm_ext_iff_of_nodup nd (ddp_nd _)).mpr fun d=>(hm d).trans ddp_mem.symm) (forms_cmp h fun d hd=>forms_of_mem d ((hm d).mp hd))
theorem FS_mem{es:List PyData}{n:Nat}:∀d∈FS es n,∃t,formD es t=d:=fun d hd=>forms_of_mem d (ddp_mem.mp ((sortE_perm _).mem_iff.mp hd))
theorem FS_len{es:List PyData}{n:Nat}:(FS es n).length<=n:=by
 have:=ddp_len (formsD es n)
 unfold FS
 rw[sortE_length]
 have e:(formsD es n).length=n:=by simp[formsD]
 omega
noncomputable def FrmD(d:PyData):Prop:=∃es,d=.tuple es/\Zr es
theorem FS_frm{es:List PyData}{n:Nat}(h:Zr es):∀d∈FS es n,FrmD d:=fun d hd=>by
 obtain⟨t,rfl⟩:=FS_mem d hd
 exact⟨_,rfl,form_zr h t⟩
noncomputable def KindK(H:Hp)(v:V)(k:List PyData×Nat):Prop:=∃b nm u1 u2 m fr xs,v=.ref b/\H b=some (.tup [.str nm,u1,u2,.str m,.ref fr])/\H fr=some (.tup xs)/\RepAll H k.1 xs/\Zr k.1/\ModeN m k.2
theorem KindK.same{H H':Hp}{v:V}{k:List PyData×Nat}(h:KindK H v k)(s:Same H H'):KindK H' v k:=by
 obtain⟨b,nm,u1,u2,m,fr,xs,rfl,h1,h2,h3,h4,h5⟩:=h
 exact⟨b,nm,u1,u2,m,fr,xs,rfl,s _ _ h1,s _ _ h2,h3.same s,h4,h5⟩
noncomputable def KindsK(H:Hp)(kvs:List V)(ks:List (List PyData×Nat)):Prop:=kvs.length=ks.length/\∀(i:Nat) v k,kvs[i]?=some v->ks[i]?=some k->KindK H v k
noncomputable def PzK(H:Hp)(p:Addr)(M:Mat)(ks:List (List PyData×Nat)):Prop:=∃fl kr e kvs,H p=some (.tup [.ref fl,.ref kr,.ref e])/\FlM H fl M/\H kr=some (.tup kvs)/\KindsK H kvs ks/\ks.length<=6
section
variable{P:Program}{w:World}{K:PySem.W.Frag}{mg:Str->Option Value}{base:Heap}{f:Addr}{fd:FuncData}
noncomputable def spBig:Sp:=fun vs H Q _=>∃c:Nat,vs=[.str ⟨#[c]⟩]/\Q (.bl (decide (65<=c)&&decide (c<=90))) H
noncomputable def spSmall:Sp:=fun vs H Q _=>∃c:Nat,vs=[.str ⟨#[c]⟩]/\Q (.bl (decide (97<=c)&&decide (c<=122))) H
theorem scBig:FnScope ["found"] ["found"] (defScope sBig):=⟨rfl,rfl,rfl,by decide +kernel,rfl,by decide +kernel,by decide +kernel⟩
theorem scSmall:FnScope ["found"] ["found"] (defScope sSmall):=⟨rfl,rfl,rfl,by decide +kernel,rfl,by decide +kernel,by decide +kernel⟩
theorem le1(a b:Nat):(!decide ([b]<[a]))=decide (a<=b):=by
 have h:([b]<[a])↔b<a:=by simp[List.cons_lt_cons_iff]
 rw[decide_eq_decide.mpr h]
 by_cases c:b<a
 .rw[decide_eq_true c,decide_eq_false (by omega)];rfl
 .rw[decide_eq_false c,decide_eq_true (by omega)];rfl
theorem between{c lo hi:Nat}{a z:Str}{R:V->Prop}{A B:Prop}(ha:a.cps.toList=[lo])(hz:z.cps.toList=[hi])(q:R (.bl (decide (lo<=c)&&decide (c<=hi))))
  (hA:R (.bl (!decide (z.cps.toList<[c])))->A) (hB:R (.bl false)->B):if (!decide ((⟨#[c]⟩:Str).cps.toList<a.cps.toList))=true then A else B:=by
 have e:(⟨#[c]⟩:Str).cps.toList=[c]:=rfl
 rw[e,ha,le1]
 rw[hz,le1]at hA
 by_cases h:lo<=c
 .rw[decide_eq_true h]at *
  rw[if_pos rfl]
  exact hA q
 .rw[decide_eq_false h]at *
  rw[if_neg Bool.false_ne_true]
  exact hB q
theorem len1(c:Nat):(⟨#[c]⟩:Str).length<=sizeLine:=by show 1<=sizeLine;decide
theorem ok_big(B:∀x∈blts,mg x=none)(F:Fun K "is_sign" "is_sign" sBig f fd):FnOk P w K mg base CX0 1 f fd ["found"] spBig:=by
 refine F.ok (k:=0) scBig (fun vs H Q E h=>?_) (fun cdv A outer s H vs Q E hr h=>?_)
 .obtain⟨c,rfl,_⟩:=h
  rfl
 obtain⟨c,rfl,q⟩:=h
 refine⟨_,(pss_one (ps_ret (pe_and (pe_cB call_isinst rfl (B "isinstance" (by decide)) boot_isinstance (pa_c (pv 0) (pa_c (pe_bltn (v:=.ty "str") rfl (B "str" (by decide)) boot_str rfl) pa_nil))) (pe_and (pe_cmpR op_eq (pe_cB call_len_str rfl (B "len" (by decide)) PySem.boot_len (pa_c (pv 0) pa_nil)) pe_int (nomark _)) (pe_one (pe_chain op_le_str op_le_str pe_str (pv 0) pe_str)))))),?_⟩
 refine⟨_,rfl,_,_,_,true,rfl,.str _,rfl,true,rfl,?_⟩
 refine iteT ?_
 refine⟨_,rfl,_,rfl,len1 c,rfl,true,rfl,?_⟩
 refine iteT ?_
 exact⟨_,rfl,_,_,rfl,rfl,_,rfl,between (a:=Str.ofString "A") (z:=Str.ofString "Z") (R:=fun v=>Q v H) (by decide +kernel) (by decide +kernel) q (fun h=>⟨_,_,rfl,rfl,h⟩) (fun h=>h)⟩
theorem ok_small(B:∀x∈blts,mg x=none)(F:Fun K "is_small" "is_small" sSmall f fd):FnOk P w K mg base CX0 1 f fd ["found"] spSmall:=by
 refine F.ok (k:=0) scSmall (fun vs H Q E h=>?_) (fun cdv A outer s H vs Q E hr h=>?_)
 .obtain⟨c,rfl,_⟩:=h
  rfl
 obtain⟨c,rfl,q⟩:=h
 refine⟨_,(pss_one (ps_ret (pe_and (pe_cB call_isinst rfl (B "isinstance" (by decide)) boot_isinstance (pa_c (pv 0) (pa_c (pe_bltn (v:=.ty "str") rfl (B "str" (by decide)) boot_str rfl) pa_nil))) (pe_and (pe_cmpR op_eq (pe_cB call_len_str rfl (B "len" (by decide)) PySem.boot_len (pa_c (pv 0) pa_nil)) pe_int (nomark _)) (pe_one (pe_chain op_le_str op_le_str pe_str (pv 0) pe_str)))))),?_⟩
 refine⟨_,rfl,_,_,_,true,rfl,.str _,rfl,true,rfl,?_⟩
 refine iteT ?_
 refine⟨_,rfl,_,rfl,len1 c,rfl,true,rfl,?_⟩
 refine iteT ?_
 exact⟨_,rfl,_,_,rfl,rfl,_,rfl,between (a:=Str.ofString "a") (z:=Str.ofString "z") (R:=fun v=>Q v H) (by decide +kernel) (by decide +kernel) q (fun h=>⟨_,_,rfl,rfl,h⟩) (fun h=>h)⟩
end
noncomputable def GS(mg:Str->Option Value)(x z:Str):Prop:=∃t,mg x=some (.str z t)
theorem eH:Str.ofString "#" = ⟨#[35]⟩:=by decide +kernel
theorem dec_str(c d:Nat){z:Str}(hz:z=⟨#[d]⟩):decide (V.str ⟨#[c]⟩=V.str z)=(c==d):=by
 subst hz
 rw[Bool.eq_iff_iff,decide_eq_true_eq,beq_iff_eq]
 constructor
 .intro h
  injection h with h
  injection h with h
  injection h with h
  injection h with h
 .intro h
  rw[h]
theorem strs_ati{M:Mat}{r:Nat}(h:r<M.h):((strsM M).map V.str)[r]?=some (V.str ⟨(lineM M r).toArray⟩):=by rw[List.getElem?_map,strs_at h];rfl
theorem line_str_len(N:Mat)(r:Nat):(⟨(lineM N r).toArray⟩:Str).length=N.w:=by show(lineM N r).toArray.size=_;rw[List.size_toArray,line_len]
theorem w_line{N:Mat}(o:OkM SgP N):N.w<=sizeLine:=Nat.le_of_lt (small1000 (by have:=o.w8;omega))
noncomputable def gA(M:Mat)(r c:Nat):Nat:=if r<M.h/\c<M.w then M.g r c else 35
theorem gA_sg{M:Mat}(o:OkM SgP M)(r c:Nat):sgB (gA M r c)=true:=by
 unfold gA
 split
 .rename_i h;exact o.sg r c h.1 h.2
 .decide
noncomputable def big(c:Nat):Bool:=decide (65<=c)&&decide (c<=90)
noncomputable def small(c:Nat):Bool:=decide (97<=c)&&decide (c<=122)
noncomputable def okS(g k:Nat):Bool:=g==46||g==44||g==k||g==lo1 k
theorem ok_may{g k:Nat}(h:sgB g=true)(h1:65<=k)(h2:k<=90):(!(g==35)&&(!(big g||small g)||up1 g==k))=okS g k:=by
 have:∀g<128,sgB g=true->∀k<91,65<=k->(!(g==35)&&(!(big g||small g)||up1 g==k))=okS g k:=by decide +kernel
 exact this g (sg128 h) h k (by omega) h1
seal L2.PE L2.PT L2.PW L2.PA L2.PS L2.PSs L2.PG L2.PGs L2.PI L2.PO
section
variable{P:Program}{w:World}{K:PySem.W.Frag}{mg:Str->Option Value}{base:Heap}{f:Addr}{fd:FuncData}
noncomputable def spCl(R:Nat->V):Sp:=fun vs H Q _=>∃(a b:Addr) (M:Mat) (r c:Nat),vs=[.ref a,.ref b]/\FlM H a M/\H b=some (.tup [.int (r:Nat),.int (c:Nat)])/\Q (R (gA M r c)) H
theorem scAt:FnScope ["floor","cell","row","column"] ["floor","cell"] (defScope sAt):=⟨rfl,rfl,rfl,by decide +kernel,rfl,by decide +kernel,by decide +kernel⟩
theorem ok_at(B:∀x∈blts,mg x=none)(gC:GS mg "CLOSED" "#")(F:Fun K "sign_at" "sign_at" sAt f fd):FnOk P w K mg base CX0 1 f fd ["floor","cell"] (spCl fun k=>.str ⟨#[k]⟩):=by
 refine F.ok (k:=0) scAt (fun vs H Q E h=>?_) (fun cdv A outer s H vs Q E hr h=>?_)
 .obtain⟨a,b,M,r,c,rfl,_⟩:=h
  rfl
 obtain⟨a,b,M,r,c,rfl,hf,hb,q⟩:=h
 dsimp only at q
 obtain⟨ha,okM⟩:=hf
 have out:¬(r<M.h/\c<M.w)->Q (.str (Str.ofString "#")) H:=fun h=>by
  unfold gA at q
  rw[if_neg h]at q
  rw[eH]
  exact q
 refine⟨_,(pss_cons (ps_set (i:=2) scAt.nd rfl (Or.inl rfl) (pe_ix ix_tup (pv 1) pe_int (fun _ _=>rfl)))
  (pss_cons (ps_set (i:=3) scAt.nd rfl (Or.inl rfl) (pe_ix ix_tup (pv 1) pe_int (fun _ _=>rfl)))
  (pss_cons (ps_if (PW.pt (pw_and (pt_chain op_le op_lt pe_int (pv 2) (pe_cB call_len_seq rfl (B "len" (by decide)) PySem.boot_len (pa_c (pv 0) pa_nil))) (pw_and1 (pt_chain op_le op_lt pe_int (pv 3) (pe_cB call_len_str rfl (B "len" (by decide)) PySem.boot_len (pa_c (pe_ix ix_tup (pv 0) (pv 2) (fun _ _=>rfl)) pa_nil)))))) (pss_one (ps_ret (pe_ix ix_str (pe_ix ix_tup (pv 0) (pv 2) (fun _ _=>rfl)) (pv 3) (fun _ _=>rfl)))) pss_nil)
  (pss_one (ps_ret (pe_globS gC rfl)))))),?_⟩
 refine⟨_,rfl,b,_,_,_,rfl,rfl,SqT.of hb,atI_nat (j:=0) rfl,?_⟩
 refine⟨_,rfl,b,_,_,_,rfl,rfl,SqT.of hb,atI_nat (j:=1) rfl,?_⟩
 refine⟨_,rfl,_,_,rfl,rfl,_,rfl,?_⟩
 refine ite2 (fun c1=>?_) (fun c1=>absurd (decide_eq_true (by show(0:Int)<=(r:Nat);omega)) c1)
 refine⟨_,rfl,a,_,rfl,.inr (SqT.of ha),_,_,rfl,rfl,_,rfl,?_⟩
 refine ite2 (fun c2=>?_) (fun c2=>?_)
 .have hrM:r<M.h:=by
   have:((r:Nat):Int)<(((strsM M).map V.str).length:Nat):=of_decide_eq_true c2
   rw[List.length_map,strs_len]at this
   omega
  have hat:atI ((strsM M).map V.str) (r:Int)=some (.str ⟨(lineM M r).toArray⟩):=atI_nat (strs_ati hrM)
  have zl:(⟨(lineM M r).toArray⟩:Str).length<=sizeLine:=by rw[line_str_len];exact w_line okM
  refine⟨_,rfl,_,_,rfl,rfl,_,rfl,?_⟩
  refine ite2 (fun c3=>?_) (fun c3=>absurd (decide_eq_true (by show(0:Int)<=(c:Nat);omega)) c3)
  refine⟨_,rfl,_,rfl,a,_,_,_,rfl,rfl,SqT.of ha,hat,_,rfl,zl,_,_,rfl,rfl,_,rfl,?_⟩
  refine ite2 (fun c4=>?_) (fun c4=>?_)
  .have hcM:c<M.w:=by
    have:((c:Nat):Int)<((⟨(lineM M r).toArray⟩:Str).length:Nat):=of_decide_eq_true c4
    rw[line_str_len]at this
    omega
   unfold gA at q
   rw[if_pos ⟨hrM,hcM⟩]at q
   refine⟨_,rfl,_,rfl,a,_,_,_,rfl,rfl,SqT.of ha,hat,_,rfl,_,_,M.g r c,rfl,rfl,zl,?_,q⟩
   refine atI_nat ?_
   show(lineM M r).toArray.toList[c]?=_
   rw[List.toList_toArray]
   exact line_at hcM
  .have c4':¬(((c:Nat):Int)<((⟨(lineM M r).toArray⟩:Str).length:Nat)):=by simpa using c4
   rw[line_str_len]at c4'
   exact out (by omega)
 .have c2':¬(((r:Nat):Int)<(((strsM M).map V.str).length:Nat)):=by simpa using c2
  rw[List.length_map,strs_len]at c2'
  refine iteF ?_
  exact out (by omega)
theorem scOpen:FnScope ["floor","cell"] ["floor","cell"] (defScope sOpen):=⟨rfl,rfl,rfl,by decide +kernel,rfl,by decide +kernel,by decide +kernel⟩
theorem scWant:FnScope ["floor","cell","sign"] ["floor","cell"] (defScope sWant):=⟨rfl,rfl,rfl,by decide +kernel,rfl,by decide +kernel,by decide +kernel⟩
noncomputable abbrev FnAt(P:Program)(w:World)(K:PySem.W.Frag)(mg:Str->Option Value)(base:Heap):Prop:=Fn P w K mg base "sign_at" 1 ["floor","cell"] (spCl fun k=>.str ⟨#[k]⟩)
theorem ok_open(gC:GS mg "CLOSED" "#")(Fat:FnAt P w K mg base)(F:Fun K "is_open" "is_open" sOpen f fd):FnOk P w K mg base CX0 2 f fd ["floor","cell"] (spCl fun k=>.bl (!(k==35))):=by
 refine F.ok (k:=1) scOpen (fun vs H Q E h=>?_) (fun cdv A outer s H vs Q E hr h=>?_)
 .obtain⟨a,b,M,r,c,rfl,_⟩:=h
  rfl
 obtain⟨a,b,M,r,c,rfl,hf,hb,q⟩:=h
 dsimp only at q
 refine⟨_,(pss_one (ps_ret (pe_cmpR op_ne (pe_fn Fat hr (by decide) rfl (pa_c (pv 0) (pa_c (pv 1) pa_nil))) (pe_globS gC rfl) (nomark _)))),?_⟩
 refine⟨_,rfl,_,rfl,a,b,M,r,c,rfl,hf,hb,rfl,?_⟩
 rw[dec_str _ 35 eH]
 exact q
noncomputable def wantV(k:Nat):V:=if (big k||small k)=true then .str ⟨#[up1 k]⟩else .non
theorem ok_want(Fat:FnAt P w K mg base)(Fbig:Fn P w K mg base "is_sign" 1 ["found"] spBig)(Fsmall:Fn P w K mg base "is_small" 1 ["found"] spSmall)(F:Fun K "wanted" "wanted" sWant f fd) :
  FnOk P w K mg base CX0 2 f fd ["floor","cell"] (spCl wantV):=by
 refine F.ok (k:=1) scWant (fun vs H Q E h=>?_) (fun cdv A outer s H vs Q E hr h=>?_)
 .obtain⟨a,b,M,r,c,rfl,_⟩:=h
  rfl
 obtain⟨a,b,M,r,c,rfl,hf,hb,q⟩:=h
 have h128:=sg128 (gA_sg hf.2 r c)
 refine⟨_,(pss_cons (ps_set (i:=2) scWant.nd rfl (Or.inl rfl) (pe_fn Fat hr (by decide) rfl (pa_c (pv 0) (pa_c (pv 1) pa_nil))))
  (pss_one (ps_ret (pe_ifExp (PW.pt (pw_or (pt_val (pe_fn Fbig hr (by decide) rfl (pa_c (pv 2) pa_nil))) (pw_or1 (pt_val (pe_fn Fsmall hr (by decide) rfl (pa_c (pv 2) pa_nil)))))) (pe_bm0 PySem.F.plainAttrs_str PySem.F.slot_str_upper PySem.F.type_str_upper mt_upper (pv 2)) pe_non)))),?_⟩
 refine⟨_,rfl,_,rfl,a,b,M,r,c,rfl,hf,hb,?_⟩
 generalize gA M r c=g at *
 refine⟨_,rfl,_,rfl,_,rfl,?_⟩
 have q':∀t:Bool,(big g||small g)=t->Q (if t=true then .str ⟨#[up1 g]⟩else .non) H:=fun t ht=>by rw[<-ht];exact q
 refine ite2 (fun h1=>?_) (fun h1=>?_)
 .refine iteT ?_
  refine⟨_,rfl,rfl,_,rfl,rfl,h128,q' true ?_⟩
  have h1':big g=true:=h1
  rw[h1'];rfl
 .have h1':big g=false:=Bool.eq_false_iff.mpr h1
  refine⟨_,rfl,_,rfl,_,rfl,?_⟩
  refine ite2 (fun h2=>?_) (fun h2=>?_)
  .refine⟨_,rfl,rfl,_,rfl,rfl,h128,q' true ?_⟩
   have h2':small g=true:=h2
   rw[h2',Bool.or_true]
  .refine q' false ?_
   have h2':small g=false:=Bool.eq_false_iff.mpr h2
   rw[h1',h2'];rfl
end
noncomputable def SgN(d:PyData):Prop:=∃r c k:Nat,d=.tuple [.int (r:Nat),.int (c:Nat),.str ⟨#[k]⟩]/\65<=k/\k<=90
theorem SgN.spots{ds:List PyData}(h:∀d∈ds,SgN d):Spots ds:=fun d hd=>by
 obtain⟨r,c,k,e,_⟩:=h d hd
 exact⟨r,c,_,e⟩
noncomputable def fitD(M:Mat):PyData->Bool
 | .tuple [.int r,.int c,.str z]=>okS (gA M r.toNat c.toNat) (z.cps.toList.headD 0)
 | _=>false
theorem fit_at(M:Mat)(r c k:Nat):fitD M (.tuple [.int (r:Nat),.int (c:Nat),.str ⟨#[k]⟩])=okS (gA M r c) k:=by
 show okS (gA M (Int.toNat (r:Nat)) (Int.toNat (c:Nat))) k=_
 rw[Int.toNat_natCast,Int.toNat_natCast]
noncomputable def sh1(dn rt:Int):PyData->PyData
 | .tuple [.int r,.int c,.str z]=>.tuple [.int (r+dn),.int (c+rt),.str z]
 | d=>d
theorem SgN.sh{dn rt:Nat}{d:PyData}(h:SgN d):SgN (sh1 (dn:Nat) (rt:Nat) d):=by
 obtain⟨r,c,k,rfl,hk⟩:=h
 refine⟨r+dn,c+rt,k,?_,hk⟩
 show PyData.tuple [.int ((r:Nat)+(dn:Nat)),.int ((c:Nat)+(rt:Nat)),.str ⟨#[k]⟩]=_
 rw[Int.natCast_add,Int.natCast_add]
theorem SgN.shs{dn rt:Nat}{ds:List PyData}(h:∀d∈ds,SgN d):∀d∈ds.map (sh1 (dn:Nat) (rt:Nat)),SgN d:=fun d hd=>by
 obtain⟨e,he,rfl⟩:=List.mem_map.mp hd
 exact(h e he).sh
theorem up128{g:Nat}(h:g<128):up1 g<128:=by
 have:∀g<128,up1 g<128:=by decide +kernel
 exact this g h
theorem want_any{g k:Nat}:([PyData.none,PyData.str ⟨#[k]⟩].any fun e=>PyData.eqv e (if (big g||small g)=true then .str ⟨#[up1 g]⟩else .none))=(!(big g||small g)||up1 g==k):=by
 by_cases h:(big g||small g)=true
 .rw[if_pos h,h]
  show(false||(((⟨#[k]⟩:Str)==⟨#[up1 g]⟩)||false))=(false||up1 g==k)
  rw[Bool.false_or,Bool.or_false,Bool.false_or,Bool.eq_iff_iff,beq_iff_eq,beq_iff_eq]
  constructor
  .intro e
   injection e with e
   injection e with e
   injection e with e
   exact e.symm
  .intro e
   rw[e]
 .rw[if_neg h,Bool.eq_false_iff.mpr h]
  rfl
section
variable{P:Program}{w:World}{K:PySem.W.Frag}{mg:Str->Option Value}{base:Heap}{f:Addr}{fd:FuncData}
noncomputable def spMcv:Sp:=fun vs H Q _=>∃(a b:Addr) (M:Mat) (r c k:Nat),vs=[.ref a,.ref b,.str ⟨#[k]⟩]/\FlM H a M/\H b=some (.tup [.int (r:Nat),.int (c:Nat)])/\65<=k/\k<=90/\∀H',Same H H'->Q (.bl (okS (gA M r c) k)) H'
theorem scMcv:FnScope ["floor","cell","sign"] ["floor","cell","sign"] (defScope sMcv):=⟨rfl,rfl,rfl,by decide +kernel,rfl,by decide +kernel,by decide +kernel⟩
theorem ok_mcv(Fopen:Fn P w K mg base "is_open" 2 ["floor","cell"] (spCl fun k=>.bl (!(k==35))))(Fwant:Fn P w K mg base "wanted" 2 ["floor","cell"] (spCl wantV))(F:Fun K "may_cover" "may_cover" sMcv f fd):FnOk P w K mg base CX0 3 f fd ["floor","cell","sign"] spMcv:=by
 refine F.ok (k:=2) scMcv (fun vs H Q E h=>?_) (fun cdv A outer s H vs Q E hr h=>?_)
 .obtain⟨a,b,M,r,c,k,rfl,_⟩:=h
  rfl
 obtain⟨a,b,M,r,c,k,rfl,hf,hb,hk1,hk2,q⟩:=h
 have hu:=hr.units
 have hm:=ok_may (gA_sg hf.2 r c) hk1 hk2
 have h128:=sg128 (gA_sg hf.2 r c)
 rw[<-hm]at q
 refine⟨_,(pss_one (ps_ret (pe_and (pe_fn Fopen hr (by decide) rfl (pa_c (pv 0) (pa_c (pv 1) pa_nil))) (pe_one (pe_cmpR (op_inD hu) (pe_fn Fwant hr (by decide) rfl (pa_c (pv 0) (pa_c (pv 1) pa_nil))) (pe_tup (pa_c pe_non (pa_c (pv 2) pa_nil))) rfl))))),?_⟩
 refine⟨_,rfl,_,rfl,a,b,M,r,c,rfl,hf,hb,_,rfl,?_⟩
 refine ite2 (fun h1=>?_) (fun h1=>?_)
 .rw[h1,Bool.true_and]at q
  refine⟨_,rfl,_,rfl,a,b,M,r,c,rfl,hf,hb,_,rfl,(by show 2<=sizeLine;decide),fun p hp=>?_⟩
  have s1:Same H (upd H p (.tup [.non,.str ⟨#[k]⟩])):=Same.fresh _ hp
  have c1:upd H p (.tup [.non,.str ⟨#[k]⟩]) p=some (.tup [.non,.str ⟨#[k]⟩]):=upd_same
  generalize upd H p (.tup [.non,.str ⟨#[k]⟩])=H1 at *
  generalize gA M r c=g at *
  refine⟨if (big g||small g)=true then .str ⟨#[up1 g]⟩else .none,p,_,[.none,.str ⟨#[k]⟩],?_,rfl,.inr c1,?_,?_,?_⟩
  .unfold wantV
   split
   .exact⟨rfl,ok1 (up128 h128)⟩
   .rfl
  .exact⟨_,_,rfl,rfl,_,_,rfl,⟨rfl,ok1 (by omega)⟩,rfl⟩
  .split<;>simp[PyData.depth]
  .rw[if_neg Bool.false_ne_true,want_any]
   exact q H1 s1
 .rw[Bool.eq_false_iff.mpr h1,Bool.false_and]at q
  exact q H (Same.refl _)
end
noncomputable def fitT(M:Mat):PyData->Bool
 | .tuple es=>es.all (fitD M)
 | _=>false
noncomputable def shT(M:Mat)(es:List PyData)(i:Nat):PyData:=.tuple (es.map (sh1 ((i/M.w:Nat):Int) ((i % M.w:Nat):Int)))
noncomputable def plS(M:Mat)(es:List PyData)(k:Nat):List PyData:=((List.range k).map (shT M es)).filter (fitT M)
theorem plS_succ(M:Mat)(es:List PyData)(k:Nat):plS M es (k+1)=plS M es k++if fitT M (shT M es k)=true then[shT M es k]else[]:=by
 unfold plS
 rw[List.range_succ,List.map_append,List.filter_append]
 congr 1
 cases h:fitT M (shT M es k)<;>simp[h]
theorem plS_len(M:Mat)(es:List PyData)(k:Nat):(plS M es k).length<=k:=by
 have:=List.length_filter_le (fitT M) ((List.range k).map (shT M es))
 rw[List.length_map,List.length_range]at this
 exact this
theorem plS_mem{M:Mat}{es:List PyData}{k:Nat}{d:PyData}:d∈plS M es k↔∃i,i<k/\d=shT M es i/\fitT M d=true:=by
 unfold plS
 rw[List.mem_filter,List.mem_map]
 constructor
 .rintro⟨⟨i,hi,rfl⟩,h⟩
  exact⟨i,List.mem_range.mp hi,rfl,h⟩
 .rintro⟨i,hi,rfl,h⟩
  exact⟨⟨i,List.mem_range.mpr hi,rfl⟩,h⟩
theorem shT_imm{M:Mat}{es:List PyData}(h:∀d∈es,SgN d){ds:List PyData}(hd:∀d∈ds,∃i,d=shT M es i):immAll ds=true:=immAll_of fun d hx=>by
 obtain⟨i,rfl⟩:=hd d hx
 exact Spots.imm (SgN.spots (SgN.shs h))
theorem bl_take{M:Mat}{es:List PyData}{i:Nat}{d:PyData}(h:es[i]?=some d):((es.take (i+1)).map (fitD M)).map V.bl=((es.take i).map (fitD M)).map V.bl++[V.bl (fitD M d)]:=by
 rw[map_take_succ (fitD M) h,List.map_append]
 rfl
section
variable{P:Program}{w:World}{K:PySem.W.Frag}{mg:Str->Option Value}{base:Heap}{f:Addr}{fd:FuncData}
noncomputable def spMay:Sp:=fun vs H Q _=>∃(a b:Addr) (M:Mat) (xs:List V) (es:List PyData),vs=[.ref a,.ref b]/\FlM H a M/\H b=some (.tup xs)/\RepAll H es xs/\(∀d∈es,SgN d)/\es.length<=6/\∀H',Same H H'->Q (.bl (fitT M (.tuple es))) H'
theorem scMay:FnScope ["floor","spots"] ["floor","spots"] (defScope sMay):=⟨rfl,rfl,rfl,by decide +kernel,rfl,by decide +kernel,by decide +kernel⟩
theorem ok_mayl(B:∀x∈blts,mg x=none)(Fmcv:Fn P w K mg base "may_cover" 3 ["floor","cell","sign"] spMcv)(F:Fun K "may_lie" "may_lie" sMay f fd):FnOk P w K mg base CX0 4 f fd ["floor","spots"] spMay:=by
 refine F.ok (k:=3) scMay (fun vs H Q E h=>?_) (fun cdv A outer s H vs Q E hr h=>?_)
 .obtain⟨a,b,M,xs,es,rfl,_⟩:=h
  rfl
 obtain⟨a,b,M,xs,es,rfl,hf,hb,rep,hs,h6,q⟩:=h
 have hl:=rep.length
 refine⟨_,(pss_one (ps_ret (pe_cB (call_all rfl) rfl (B "all" (by decide)) boot_all (pa_c (pe_comp ["row","column","sign","floor"] [none,none,none,some 0] rfl rfl (by decide +kernel) (by decide +kernel) rfl rfl (pi_tup (pv 1)) (fun _=>(pg_tupC (n:=3) rfl (pgs_cons (pg_name (i:=0) (show(["row","column","sign","floor"]:List PySem.Str).Nodup by decide +kernel) rfl (Or.inl rfl)) (pgs_cons (pg_name (i:=1) (show(["row","column","sign","floor"]:List PySem.Str).Nodup by decide +kernel) rfl (Or.inl rfl)) (pgs_cons (pg_name (i:=2) (show(["row","column","sign","floor"]:List PySem.Str).Nodup by decide +kernel) rfl (Or.inl rfl)) pgs_nil))))) (fun _=>pts_nil) (fun _=>(pe_fn Fmcv hr (by decide) rfl (pa_c (pv 3) (pa_c (pe_tup (pa_c (pv 0) (pa_c (pv 1) pa_nil))) (pa_c (pv 2) pa_nil)))))) pa_nil)))),?_⟩
 refine⟨_,rfl,b,rfl,⟨_,SqT.of hb⟩,fun D hD=>?_⟩
 refine comp_tup (xs:=xs) (fun i zs G=>Same H G/\zs=((es.take i).map (fitD M)).map V.bl) ⟨Same.fresh _ hD,rfl⟩ (fun i zs G p=>SqT.of (p.1 _ _ hb)) (fun i x zs G hx hi hDy hzl p=>?_) (fun zs G hDy hzl p=>?_)
 .obtain⟨p1,rfl⟩:=p
  obtain⟨d,hd,rd⟩:=rep.at hx
  obtain⟨r,c,k,rfl,hk1,hk2⟩:=hs d (List.mem_of_getElem? hd)
  obtain⟨b',rfl,hb',_⟩:=rep_spot rd
  refine⟨b',_,rfl,SqT.of (p1 _ _ hb'),rfl,_,_,rfl,_,_,rfl,_,_,rfl,rfl,?_⟩
  refine⟨Agree.set (Agree.set (Agree.set (Agree.refl _) rfl) rfl) rfl,?_⟩
  dsimp only[tYes]
  refine iteT ?_
  refine⟨_,rfl,_,rfl,_,rfl,(by show 2<=sizeLine;decide),fun p hp=>?_⟩
  have s2:Same G (upd G p (.tup [.int (r:Nat),.int (c:Nat)])):=Same.fresh _ hp
  have c2:upd G p (.tup [.int (r:Nat),.int (c:Nat)]) p=some (.tup [.int (r:Nat),.int (c:Nat)]):=upd_same
  generalize upd G p (.tup [.int (r:Nat),.int (c:Nat)])=G2 at *
  refine⟨_,rfl,a,p,M,r,c,k,rfl,hf.same (p1.trans s2),c2,hk1,hk2,fun G3 s3=>?_⟩
  refine nx_put (by omega) (s3 _ _ (s2 _ _ hDy)) hzl ⟨((p1.trans s2).trans s3).new hD,?_⟩
  rw[bl_take hd,fit_at]
 .obtain⟨p1,rfl⟩:=p
  rw[List.take_of_length_le (by omega)]at hDy
  refine⟨D,_,rfl,hDy,?_⟩
  rw[List.all_map]
  exact q G p1
noncomputable def spShf:Sp:=fun vs H Q _=>∃(b:Addr) (dn rt:Int) (xs:List V) (es:List PyData),vs=[.ref b,.int dn,.int rt]/\H b=some (.tup xs)/\RepAll H es xs/\Spots es/\es.length<=64/\∀r ys H',Same H H'->H r=none->H' r=some (.tup ys)->RepAll H' (es.map (sh1 dn rt)) ys->Q (.ref r) H'
theorem scShf:FnScope ["spots","down","right"] ["spots","down","right"] (defScope sShf):=⟨rfl,rfl,rfl,by decide +kernel,rfl,by decide +kernel,by decide +kernel⟩
theorem ok_shf(B:∀x∈blts,mg x=none)(F:Fun K "shifted" "shifted" sShf f fd):FnOk P w K mg base CX0 1 f fd ["spots","down","right"] spShf:=by
 refine F.ok (k:=0) scShf (fun vs H Q E h=>?_) (fun cdv A outer s H vs Q E hr h=>?_)
 .obtain⟨b,dn,rt,xs,es,rfl,_⟩:=h
  rfl
 obtain⟨b,dn,rt,xs,es,rfl,hb,rep,hs,h64,q⟩:=h
 refine⟨_,(pss_one (ps_ret (pe_cT call_tuple_of rfl (B "tuple" (by decide)) boot_tuple (pa_c (pe_comp ["row","column","sign","down","right"] [none,none,none,some 1,some 2] rfl rfl (by decide +kernel) (by decide +kernel) rfl rfl (pi_seq (pv 0)) (fun _=>(pg_tupC (n:=3) rfl (pgs_cons (pg_name (i:=0) (show(["row","column","sign","down","right"]:List PySem.Str).Nodup by decide +kernel) rfl (Or.inl rfl)) (pgs_cons (pg_name (i:=1) (show(["row","column","sign","down","right"]:List PySem.Str).Nodup by decide +kernel) rfl (Or.inl rfl)) (pgs_cons (pg_name (i:=2) (show(["row","column","sign","down","right"]:List PySem.Str).Nodup by decide +kernel) rfl (Or.inl rfl)) pgs_nil))))) (fun _=>pts_nil) (fun _=>(pe_tup (pa_c (pe_op op_add (pv 0) (pv 3)) (pa_c (pe_op op_add (pv 1) (pv 4)) (pa_c (pv 2) pa_nil)))))) pa_nil)))),?_⟩
 refine read_spotT (sh1 dn rt) rfl rfl (.inr hb) rep hs h64 (fun r c z H' Q' h=>?_) (fun r c z=>⟨_,_,rfl⟩) fun D ys H2 hD sm hDy rep2=>?_
 .obtain⟨u,v,e,q⟩:=h
  cases (show PyData.tuple [.int (r+dn),.int (c+rt),.str z]=.tuple [.int u,.int v,.str z]from e)
  exact⟨_,rfl,_,rfl,_,_,rfl,rfl,_,rfl,_,rfl,_,_,rfl,rfl,_,rfl,(by show 3<=sizeLine;decide),q⟩
 .refine⟨D,ys,rfl,.inl ⟨SqL.of hDy,fun l hl=>?_⟩⟩
  have s2:Same H2 (upd H2 l (.tup ys)):=Same.fresh _ hl
  exact q l ys _ (sm.trans s2) (sm.free hl) upd_same (rep2.same s2)
end
section
variable{P:Program}{w:World}{K:PySem.W.Frag}{mg:Str->Option Value}{base:Heap}{f:Addr}{fd:FuncData}
noncomputable def spPla:Sp:=fun vs H Q _=>∃(a b:Addr) (M:Mat) (xs:List V) (es:List PyData),vs=[.ref a,.ref b]/\FlM H a M/\H b=some (.tup xs)/\RepAll H es xs/\(∀d∈es,SgN d)/\es.length<=6/\
 ∀(D:Addr) (ys:List V) (H':Hp),Same H H'->H' D=some (.lst ys)->RepAll H' (plS M es (M.h*M.w)) ys->Q (.ref D) H'
theorem scPla:FnScope ["floor","form","shifts"] ["floor","form"] (defScope sPla):=⟨rfl,rfl,rfl,by decide +kernel,rfl,by decide +kernel,by decide +kernel⟩
theorem ok_pla(B:∀x∈blts,mg x=none)(Fspots:Fn P w K mg base "floor_spots" 1 ["floor"] spSpots)(Fshf:Fn P w K mg base "shifted" 1 ["spots","down","right"] spShf)(Fmay:Fn P w K mg base "may_lie" 4 ["floor","spots"] spMay)(F:Fun K "places" "places" sPla f fd):FnOk P w K mg base CX0 5 f fd ["floor","form"] spPla:=by
 refine F.ok (k:=4) scPla (fun vs H Q E h=>?_) (fun cdv A outer s H vs Q E hr h=>?_)
 .obtain⟨a,b,M,xs,es,rfl,_⟩:=h
  rfl
 obtain⟨a,b,M,xs,es,rfl,hf,hb,rep,hs,h6,q⟩:=h
 have okM:=hf.2
 have hw1:=okM.w1
 have hhw:M.h*M.w<=64:=Nat.mul_le_mul okM.h8 okM.w8
 refine⟨_,(pss_cons (ps_setC (i:=2) ["row","column","sign","form"] [none,none,none,some 1] scPla.nd rfl (Or.inl rfl) rfl rfl rfl (by decide +kernel) (by decide +kernel) rfl rfl (pi_list (pe_fn Fspots hr (by decide) rfl (pa_c (pv 0) pa_nil))) (fun _=>(pg_tupC (n:=3) rfl (pgs_cons (pg_name (i:=0) (show(["row","column","sign","form"]:List PySem.Str).Nodup by decide +kernel) rfl (Or.inl rfl)) (pgs_cons (pg_name (i:=1) (show(["row","column","sign","form"]:List PySem.Str).Nodup by decide +kernel) rfl (Or.inl rfl)) (pgs_cons (pg_name (i:=2) (show(["row","column","sign","form"]:List PySem.Str).Nodup by decide +kernel) rfl (Or.inl rfl)) pgs_nil))))) (fun _=>pts_nil) (fun _=>(pe_fn Fshf hr (by decide) rfl (pa_c (pv 3) (pa_c (pv 0) (pa_c (pv 1) pa_nil))))))
  (pss_one (ps_ret (pe_comp ["spots","floor"] [none,some 0] rfl rfl (by decide +kernel) (by decide +kernel) rfl rfl (pi_list (pv 2)) (fun _=>(pg_name (i:=0) (show(["spots","floor"]:List PySem.Str).Nodup by decide +kernel) rfl (Or.inl rfl))) (fun _=>pts_one (pt_val (pe_fn Fmay hr (by decide) rfl (pa_c (pv 1) (pa_c (pv 0) pa_nil))))) (fun _=>(pv 0)))))),?_⟩
 refine⟨_,rfl,a,strsM M,rfl,FlM.fl hf,fun D1 ys1 H1 s1 hD1 hl1 rep1=>?_⟩
 rw[strs_len,allSp_read M M.h (Nat.le_refl _)]at rep1
 have ly1:=rep1.length
 rw[List.length_map,List.length_range]at ly1
 refine⟨D1,rfl,⟨_,SqL.of hD1⟩,fun D hD=>?_⟩
 refine comp_list (xs:=ys1) (fun i zs G=>Same H1 G/\RepAll G ((List.range i).map (shT M es)) zs) ⟨Same.fresh _ hD,rfl⟩ (fun i zs G p=>SqL.of (p.1 _ _ hD1)) (fun i x zs G hx hi hDy hzl p=>?_) (fun zs G hDy hzl p=>?_)
 .obtain⟨p1,p2⟩:=p
  obtain⟨d,hd,rd⟩:=rep1.at hx
  rw[List.getElem?_map,List.getElem?_range (by omega)]at hd
  cases hd
  obtain⟨b',rfl,hb',_⟩:=rep_spot rd
  refine⟨b',_,rfl,SqT.of (p1 _ _ hb'),rfl,_,_,rfl,_,_,rfl,_,_,rfl,rfl,?_⟩
  refine⟨Agree.set (Agree.set (Agree.set (Agree.refl _) rfl) rfl) rfl,?_⟩
  dsimp only[tYes]
  refine iteT ?_
  have sG:=s1.trans p1
  refine⟨_,rfl,_,rfl,_,rfl,b,((i/M.w:Nat):Int),((i % M.w:Nat):Int),xs,es,rfl,sG _ _ hb,rep.same sG,SgN.spots hs,by omega,fun r ys G2 s2 _ hr2 rep2=>?_⟩
  have hD2:=s2 _ _ hDy
  refine nx_put (by omega) hD2 hzl ⟨(p1.trans s2).new hD,?_⟩
  rw[List.range_succ,List.map_append]
  refine((p2.same s2).snoc (show Rep G2 (shT M es i) (.ref r)from ⟨r,ys,rfl,hr2,rep2⟩)).tk (Tk.lst hD2) (shT_imm (M:=M) hs fun d hd=>?_)
  rcases List.mem_append.mp hd with h|h
  .obtain⟨j,_,rfl⟩:=List.mem_map.mp h
   exact⟨j,rfl⟩
  .exact⟨i,List.mem_singleton.mp h⟩
 .obtain⟨p1,p2⟩:=p
  have lz:=p2.length
  rw[List.length_map,List.length_range]at lz
  have sG:=s1.trans p1
  refine⟨_,rfl,D,rfl,⟨_,SqL.of hDy⟩,fun D3 hD3=>?_⟩
  refine comp_list (xs:=zs) (fun i us G3=>Same G G3/\RepAll G3 (plS M es i) us) ⟨Same.fresh _ hD3,rfl⟩ (fun i us G3 p=>SqL.of (p.1 _ _ hDy)) (fun i x us G3 hx hi hDy3 hul p=>?_) (fun us G3 hDy3 hul p=>?_)
  .obtain⟨p3,p4⟩:=p
   obtain⟨d,hd,rd⟩:=p2.at hx
   rw[List.getElem?_map,List.getElem?_range (by omega)]at hd
   cases hd
   have rd0:=id rd
   obtain⟨c',ys',rfl,hc',rep'⟩:=rd
   refine⟨Agree.set (Agree.refl _) rfl,?_⟩
   refine⟨_,rfl,_,rfl,a,c',M,ys',_,rfl,hf.same (sG.trans p3),p3 _ _ hc',rep'.same p3,SgN.shs hs,by rw[List.length_map];exact h6,fun G4 s4=>?_⟩
   refine⟨_,rfl,?_⟩
   have hD4:=s4 _ _ hDy3
   have im:immAll (plS M es (i+1))=true:=shT_imm (M:=M) hs fun d hd=>by
    obtain⟨j,_,e,_⟩:=plS_mem.mp hd
    exact⟨j,e⟩
   refine ite2 (fun h1=>?_) (fun h1=>?_)
   .refine⟨_,rfl,?_⟩
    refine nx_put (by omega) hD4 hul ⟨(p3.trans s4).new hD3,?_⟩
    have e1:plS M es (i+1)=plS M es i++[shT M es i]:=by rw[plS_succ,if_pos (show fitT M (shT M es i)=true from h1)]
    rw[e1]at im
    rw[e1]
    exact((p4.same s4).snoc (Rep.same (p3.trans s4) rd0)).tk (Tk.lst hD4) im
   .refine⟨_,hD4,by omega,p3.trans s4,?_⟩
    rw[plS_succ,if_neg (show ¬fitT M (shT M es i)=true from h1),List.append_nil]
    exact p4.same s4
  .obtain⟨p3,p4⟩:=p
   rw[lz,ly1]at p4
   exact q D3 us G3 (sG.trans p3) hDy3 p4
end
theorem zr_n{es:List PyData}(h:Zr es):∀d∈es,SgN d:=fun d hd=>by
 obtain⟨r,c,k,rfl,hk⟩:=h.pre.sg d hd
 have h1:minI (es.map row1)<=r:=minI_le _ (List.mem_map_of_mem (f:=row1) hd)
 have h2:minI (es.map col1)<=c:=minI_le _ (List.mem_map_of_mem (f:=col1) hd)
 rw[h.r0]at h1
 rw[h.c0]at h2
 refine⟨r.toNat,c.toNat,k,?_,hk⟩
 rw[Int.toNat_of_nonneg h1,Int.toNat_of_nonneg h2]
noncomputable def unT:PyData->List PyData
 | .tuple es=>es
 | _=>[]
noncomputable def plN(M:Mat)(n:Nat)(d:PyData):List PyData:=(plS M (unT d) (M.h*M.w)).map fun s=>.tuple [s,.int (n:Nat)]
noncomputable def plK(M:Mat)(n:Nat)(k:List PyData×Nat):List PyData:=(FS k.1 k.2).flatMap (plN M n)
noncomputable def raw(M:Mat)(ks:List (List PyData×Nat)):Nat->List PyData
 | 0=>[]
 | i+1=>raw M ks i++(match ks[i]? with|some k=>plK M i k|none=>[])
theorem raw_succ{M:Mat}{ks:List (List PyData×Nat)}{i:Nat}{k:List PyData×Nat}(h:ks[i]?=some k):raw M ks (i+1)=raw M ks i++plK M i k:=by
 show raw M ks i++_=_
 rw[h]
noncomputable def PlD(d:PyData):Prop:=∃es n,d=.tuple [.tuple es,.int n]/\(∀e∈es,SgN e)/\0<es.length/\es.length<=6
theorem mem_plN{M:Mat}{n:Nat}{es:List PyData}{d:PyData}:d∈plN M n (.tuple es)↔∃i,i<M.h*M.w/\d=.tuple [shT M es i,.int (n:Nat)]/\fitT M (shT M es i)=true:=by
 unfold plN
 rw[List.mem_map]
 constructor
 .rintro⟨s,hs,rfl⟩
  obtain⟨i,hi,rfl,h⟩:=plS_mem.mp hs
  exact⟨i,hi,rfl,h⟩
 .rintro⟨i,hi,rfl,h⟩
  exact⟨_,plS_mem.mpr ⟨i,hi,rfl,h⟩,rfl⟩
theorem mem_raw{M:Mat}{ks:List (List PyData×Nat)}{d:PyData}:∀{j:Nat},d∈raw M ks j↔∃(n:Nat) (k:List PyData×Nat),n<j/\ks[n]?=some k/\d∈plK M n k
 | 0=>⟨fun h=>(by cases h),fun⟨n,_,h,_⟩=>absurd h (Nat.not_lt_zero _)⟩
 | j+1=>by
  show d∈raw M ks j++_↔_
  rw[List.mem_append,mem_raw]
  constructor
  .rintro(⟨n,k,h1,h2,h3⟩|h)
   .exact⟨n,k,by omega,h2,h3⟩
   .cases e:ks[j]? with
    | none=>rw[e]at h;cases h
    | some k=>rw[e]at h;exact⟨j,k,by omega,e,h⟩
  .rintro⟨n,k,h1,h2,h3⟩
   by_cases hn:n<j
   .exact .inl ⟨n,k,hn,h2,h3⟩
   .have:n=j:=by omega
    subst this
    rw[h2]
    exact .inr h3
theorem mem_plK{M:Mat}{n:Nat}{k:List PyData×Nat}(hz:Zr k.1){d:PyData}:d∈plK M n k↔∃es i,.tuple es∈FS k.1 k.2/\i<M.h*M.w/\d=.tuple [shT M es i,.int (n:Nat)]/\fitT M (shT M es i)=true:=by
 unfold plK
 rw[List.mem_flatMap]
 constructor
 .rintro⟨x,hx,h⟩
  obtain⟨es,rfl,_⟩:=FS_frm hz x hx
  obtain⟨i,h1,h2,h3⟩:=mem_plN.mp h
  exact⟨es,i,hx,h1,h2,h3⟩
 .rintro⟨es,i,h1,h2,h3,h4⟩
  exact⟨_,h1,mem_plN.mpr ⟨i,h2,h3,h4⟩⟩
noncomputable def KsZ(ks:List (List PyData×Nat)):Prop:=∀k∈ks,Zr k.1/\k.2<=8
theorem sh_len(es:List PyData)(a b:Int):(es.map (sh1 a b)).length=es.length:=List.length_map _
theorem plK_pl{M:Mat}{n:Nat}{k:List PyData×Nat}(hz:Zr k.1){d:PyData}(h:d∈plK M n k):PlD d:=by
 obtain⟨es,i,h1,h2,rfl,h4⟩:=(mem_plK hz).mp h
 obtain⟨es',e,hz'⟩:=FS_frm hz _ h1
 cases e
 exact⟨_,_,rfl,SgN.shs (zr_n hz'),by rw[sh_len];exact hz'.pre.pos,by rw[sh_len];exact hz'.pre.six⟩
theorem raw_pl{M:Mat}{ks:List (List PyData×Nat)}(h:KsZ ks){j:Nat}:∀d∈raw M ks j,PlD d:=fun d hd=>by
 obtain⟨n,k,_,h2,h3⟩:=mem_raw.mp hd
 exact plK_pl (h k (List.mem_of_getElem? h2)).1 h3
theorem min_add{ns:List Int}(h:0<ns.length)(m:Int):minI (ns.map fun x=>x+m)=minI ns+m:=by
 refine(minI_eq ?_ fun a ha=>?_).symm
 .exact List.mem_map.mpr ⟨minI ns,minI_mem h,rfl⟩
 .obtain⟨x,hx,rfl⟩:=List.mem_map.mp ha
  have:=minI_le x hx
  omega
theorem row_sh{es:List PyData}(h:Spots es)(a b:Int):(es.map (sh1 a b)).map row1=(es.map row1).map fun x=>x+a:=by
 rw[List.map_map,List.map_map]
 exact map_spots h fun r c z=>rfl
theorem col_sh{es:List PyData}(h:Spots es)(a b:Int):(es.map (sh1 a b)).map col1=(es.map col1).map fun x=>x+b:=by
 rw[List.map_map,List.map_map]
 exact map_spots h fun r c z=>rfl
theorem sh_back{es:List PyData}(h:Spots es)(a b:Int):(es.map (sh1 a b)).map (sh1 (-a) (-b))=es:=by
 rw[List.map_map]
 conv=>rhs;rw[<-List.map_id es]
 exact map_spots h fun r c z=>by
  show PyData.tuple [.int (r+a + -a),.int (c+b + -b),.str z]=.tuple [.int r,.int c,.str z]
  rw[Int.add_neg_cancel_right,Int.add_neg_cancel_right]
theorem sh_inj{es fs:List PyData}(h:Zr es)(h':Zr fs){a b a' b':Int}(e:es.map (sh1 a b)=fs.map (sh1 a' b')):es=fs/\a=a'/\b=b':=by
 have e1:=congrArg (fun l=>minI (l.map row1)) e
 have e2:=congrArg (fun l=>minI (l.map col1)) e
 rw[row_sh h.pre.spots,row_sh h'.pre.spots,min_add (by rw[List.length_map];exact h.pre.pos),min_add (by rw[List.length_map];exact h'.pre.pos),h.r0,h'.r0,Int.zero_add,Int.zero_add]at e1
 rw[col_sh h.pre.spots,col_sh h'.pre.spots,min_add (by rw[List.length_map];exact h.pre.pos),min_add (by rw[List.length_map];exact h'.pre.pos),h.c0,h'.c0,Int.zero_add,Int.zero_add]at e2
 subst e1;subst e2
 have e3:=congrArg (List.map (sh1 (-a) (-b))) e
 rw[sh_back h.pre.spots,sh_back h'.pre.spots]at e3
 exact⟨e3,rfl,rfl⟩
theorem shT_inj{M:Mat}(hw:0<M.w){es fs:List PyData}(h:Zr es)(h':Zr fs){i j:Nat}(e:shT M es i=shT M fs j):es=fs/\i=j:=by
 unfold shT at e
 injection e with e
 obtain⟨e1,e2,e3⟩:=sh_inj h h' e
 refine⟨e1,?_⟩
 have d1:i/M.w=j/M.w:=by omega
 have d2:i % M.w=j % M.w:=by omega
 rw[<-Nat.div_add_mod i M.w,<-Nat.div_add_mod j M.w,d1,d2]
theorem FS_nd(es:List PyData)(n:Nat):(FS es n).Nodup:=(sortE_perm _).nodup_iff.mpr (ddp_nd _)
theorem plS_nd{M:Mat}(hw:0<M.w){es:List PyData}(h:Zr es)(k:Nat):(plS M es k).Nodup:=by
 unfold plS
 refine List.Pairwise.filter _ (List.pairwise_map.mpr ?_)
 refine List.Pairwise.imp ?_ (List.nodup_range (n:=k))
 intro a b hab e
 exact hab (shT_inj hw h h e).2
theorem plN_nd{M:Mat}(hw:0<M.w){es:List PyData}(h:Zr es)(n:Nat):(plN M n (.tuple es)).Nodup:=by
 unfold plN
 refine List.pairwise_map.mpr (List.Pairwise.imp ?_ (plS_nd hw h _))
 intro a b hab e
 injection e with e
 injection e with e _
 exact hab e
theorem plK_nd{M:Mat}(hw:0<M.w){k:List PyData×Nat}(h:Zr k.1)(n:Nat):(plK M n k).Nodup:=by
 unfold plK
 refine List.pairwise_flatMap.mpr ⟨fun a ha=>?_,List.Pairwise.imp_of_mem (fun{a b} ha hb hab=>?_) (FS_nd k.1 k.2)⟩
 .obtain⟨es,rfl,hz⟩:=FS_frm h a ha
  exact plN_nd hw hz n
 .obtain⟨es,rfl,hz⟩:=FS_frm h a ha
  obtain⟨fs,rfl,hz'⟩:=FS_frm h b hb
  intro x hx y hy e
  obtain⟨i,_,rfl,_⟩:=mem_plN.mp hx
  obtain⟨j,_,rfl,_⟩:=mem_plN.mp hy
  injection e with e
  injection e with e _
  exact hab (by rw[(shT_inj hw hz hz' e).1])
theorem raw_nd{M:Mat}(hw:0<M.w){ks:List (List PyData×Nat)}(h:KsZ ks):∀j,(raw M ks j).Nodup
 | 0=>List.nodup_nil
 | j+1=>by
  show(raw M ks j++_).Nodup
  cases e:ks[j]? with
  | none=>rw[List.append_nil];exact raw_nd hw h j
  | some k=>
   refine List.nodup_append.mpr ⟨raw_nd hw h j,plK_nd hw (h k (List.mem_of_getElem? e)).1 j,fun a ha b hb e2=>?_⟩
   obtain⟨n,k',hn,hk',hm⟩:=mem_raw.mp ha
   obtain⟨es,i,_,_,rfl,_⟩:=(mem_plK (h k' (List.mem_of_getElem? hk')).1).mp hm
   obtain⟨fs,i',_,_,rfl,_⟩:=(mem_plK (h k (List.mem_of_getElem? e)).1).mp hb
   injection e2 with e2
   injection e2 with _ e2
   injection e2 with e2 _
   injection e2 with e2
   omega
theorem flat_len{α β:Type}{f:α->List β}{m:Nat}:∀{l:List α},(∀x∈l,(f x).length<=m)->(l.flatMap f).length<=l.length*m
 | [],_=>by simp
 | x::l,h=>by
  have h1:=h x List.mem_cons_self
  have h2:=flat_len fun y hy=>h y (List.mem_cons_of_mem _ hy)
  rw[List.flatMap_cons,List.length_append,List.length_cons,Nat.add_mul,Nat.one_mul]
  omega
theorem plN_len{M:Mat}(o:OkM SgP M)(n:Nat)(d:PyData):(plN M n d).length<=64:=by
 have:=plS_len M (unT d) (M.h*M.w)
 have h64:M.h*M.w<=64:=Nat.mul_le_mul o.h8 o.w8
 unfold plN
 rw[List.length_map]
 omega
theorem plK_len{M:Mat}(o:OkM SgP M)(n:Nat){k:List PyData×Nat}(h8:k.2<=8):(plK M n k).length<=512:=by
 have h1:=flat_len (f:=plN M n) (m:=64) (l:=FS k.1 k.2) fun x _=>plN_len o n x
 have h2:=FS_len (es:=k.1) (n:=k.2)
 have:(plK M n k).length<=(FS k.1 k.2).length*64:=h1
 omega
theorem raw_len{M:Mat}(o:OkM SgP M){ks:List (List PyData×Nat)}(h:KsZ ks):∀j,(raw M ks j).length<=j*512
 | 0=>by simp[raw]
 | j+1=>by
  have h1:=raw_len o h j
  show(raw M ks j++_).length<=_
  rw[List.length_append]
  cases e:ks[j]? with
  | none=>simp only[List.length_nil];omega
  | some k=>have:=plK_len o j (h k (List.mem_of_getElem? e)).2;simp only;omega
theorem SgN.sg{d:PyData}(h:SgN d):SgD d:=by
 obtain⟨r,c,k,e,hk⟩:=h
 exact⟨r,c,k,e,hk⟩
theorem PlD.key{d:PyData}(h:PlD d):KeyD d/\L3.TT d:=by
 obtain⟨es,n,rfl,hs,_⟩:=h
 have hd:=depth_spot (SgN.spots hs)
 refine⟨⟨?_,⟨_,rfl⟩,by simp[PyData.depth,PyData.depthAll];omega⟩,⟨_,_,rfl⟩⟩
 show(kdAll es&&(true&&true))=true
 rw[sgs_kd fun d hd=>(hs d hd).sg]
 rfl
theorem PlD.cmp{ds:List PyData}(h:∀d∈ds,PlD d):CmpA ds:=
 ⟨fun x hx y hy=>by
  obtain⟨es,n,rfl,hs,_⟩:=h x hx
  obtain⟨fs,m,rfl,hs',_⟩:=h y hy
  exact⟨sgs_cmp (fun d hd=>(hs d hd).sg) (fun d hd=>(hs' d hd).sg),trivial,trivial⟩,fun x hx=>(h x hx).key.1.1⟩
theorem PlD.imm:∀{ds:List PyData},(∀d∈ds,PlD d)->immAll ds=true
 | [],_=>rfl
 | d::ds,a=>by
  obtain⟨es,n,rfl,hs,_⟩:=a d List.mem_cons_self
  have h1:=Spots.imm (SgN.spots hs)
  have h2:=PlD.imm fun x hx=>a x (List.mem_cons_of_mem _ hx)
  show(_root_.L3.imm (.tuple [.tuple es,.int n])&&immAll ds)=true
  rw[h2,Bool.and_true]
  show(immAll es&&true)=true
  rw[h1]
  rfl
noncomputable def PL(M:Mat)(ks:List (List PyData×Nat)):List PyData:=sortE (raw M ks ks.length)
theorem KindsK.z{H:Hp}{kvs:List V}{ks:List (List PyData×Nat)}(h:KindsK H kvs ks):KsZ ks:=fun k hk=>by
 obtain⟨i,hi,rfl⟩:=List.getElem_of_mem hk
 have hi':i<kvs.length:=by rw[h.1];exact hi
 obtain⟨b,nm,u1,u2,m,fr,xs,_,_,_,_,hz,hm⟩:=h.2 i _ _ (List.getElem?_eq_getElem hi') (List.getElem?_eq_getElem hi)
 exact⟨hz,by rcases hm with h|h|h<;>omega⟩
theorem flat_take{α β:Type}{f:α->List β}{l:List α}{i:Nat}{x:α}(h:l[i]?=some x):(l.take (i+1)).flatMap f=(l.take i).flatMap f++f x:=by
 rw[List.take_add_one,h,List.flatMap_append]
 simp
theorem pl_take{s:List PyData}{n:Nat}{i:Nat}{x:PyData}(h:s[i]?=some x):(s.take (i+1)).map (fun s=>PyData.tuple [s,.int (n:Nat)])=(s.take i).map (fun s=>PyData.tuple [s,.int (n:Nat)])++[.tuple [x,.int (n:Nat)]]:=map_take_succ _ h
section
variable{P:Program}{w:World}{K:PySem.W.Frag}{mg:Str->Option Value}{base:Heap}{f:Addr}{fd:FuncData}
noncomputable def spPlc:Sp:=fun vs H Q _=>∃(p:Addr) (M:Mat) (ks:List (List PyData×Nat)),vs=[.ref p]/\PzK H p M ks/\∀(l:Addr) (ys:List V) (H':Hp),Same H H'->H l=none->H' l=some (.lst ys)->RepAll H' (PL M ks) ys->Q (.ref l) H'
theorem scPlc:FnScope ["puzzle","found","number","kind","form"] ["puzzle"] (defScope sPlc):=⟨rfl,rfl,rfl,by decide +kernel,rfl,by decide +kernel,by decide +kernel⟩
theorem ok_plc(B:∀x∈blts,mg x=none)(Fforms:Fn P w K mg base "forms_of" 3 ["form","mode"] spForms)(Fpla:Fn P w K mg base "places" 5 ["floor","form"] spPla)(F:Fun K "placements" "placements" sPlc f fd):FnOk P w K mg base CX0 6 f fd ["puzzle"] spPlc:=by
 refine F.ok (k:=5) scPlc (fun vs H Q E h=>?_) (fun cdv A outer s H vs Q E hr h=>?_)
 .obtain⟨p,M,ks,rfl,_⟩:=h
  rfl
 obtain⟨p,M,ks,rfl,⟨fl,kr,e,kvs,hp,hfl,hkr,hks,h6⟩,q⟩:=h
 have hu:=hr.units
 have okM:=hfl.2
 have hKZ:=hks.z
 refine⟨_,(pss_cons (ps_set (i:=1) scPlc.nd rfl (Or.inl rfl) (pe_lst pa_nil))
  (pss_cons (ps_for PassesOwn.never rfl (pi_enT rfl (B "enumerate" (by decide)) (pa_c (pe_ix ix_tup (pv 0) pe_int (fun _ _=>rfl)) pa_nil)) (pg_tup (n:=2) rfl (pgs_cons (pg_name (i:=2) scPlc.nd rfl (Or.inr rfl)) (pgs_cons (pg_name (i:=3) scPlc.nd rfl (Or.inl rfl)) pgs_nil))) (pss_one (ps_for PassesOwn.never rfl (pi_list (pe_fn Fforms hr (by decide) rfl (pa_c (pe_ix ix_tup (pv 3) pe_int (fun _ _=>rfl)) (pa_c (pe_ix ix_tup (pv 3) pe_int (fun _ _=>rfl)) pa_nil)))) (pg_name (i:=4) scPlc.nd rfl (Or.inl rfl)) (pss_one (ps_expr (pe_bm PySem.F.plainAttrs_list PySem.F.slot_list_extend PySem.F.type_list_extend mt_extend (pv 1) (pa_c (pe_comp ["spots","number"] [none,some 2] rfl rfl (by decide +kernel) (by decide +kernel) rfl rfl (pi_list (pe_fn Fpla hr (by decide) rfl (pa_c (pe_ix ix_tup (pv 0) pe_int (fun _ _=>rfl)) (pa_c (pv 4) pa_nil)))) (fun _=>(pg_name (i:=0) (show(["spots","number"]:List PySem.Str).Nodup by decide +kernel) rfl (Or.inl rfl))) (fun _=>pts_nil) (fun _=>(pe_tup (pa_c (pv 0) (pa_c (pv 1) pa_nil))))) pa_nil)))))))
  (pss_one (ps_ret (pe_sortset rfl hu rfl (B "sorted" (by decide)) rfl (B "set" (by decide)) (pa_c (pv 1) pa_nil)))))),?_⟩
 refine⟨(by show 0<=sizeLine;decide),fun D hD=>?_⟩
 have s1:Same H (upd H D (.lst [])):=Same.fresh _ hD
 have d1:upd H D (.lst []) D=some (.lst ([]:List V)):=upd_same
 generalize upd H D (.lst [])=H1 at *
 refine⟨_,rfl,p,_,_,_,rfl,rfl,SqT.of (s1 _ _ hp),atI_nat (j:=1) rfl,kr,rfl,⟨_,SqT.of (s1 _ _ hkr)⟩,?_⟩
 refine for_enT (xs:=kvs) (fun i σ' G=>∃(y2 y3 y4:Option V) (ys:List V),σ'=[some (.ref p),some (.ref D),y2,y3,y4]/\Same H G/\G D=some (.lst ys)/\RepAll G (raw M ks i) ys) ?_ (fun i σ' G h=>?_) (fun i x pr σ' G hx hpr h=>?_) (fun σ' G h=>?_)
 .exact⟨_,_,_,[],rfl,s1,d1,rfl⟩
 .obtain⟨_,_,_,_,_,sg,_⟩:=h
  exact SqT.of (sg _ _ hkr)
 .obtain⟨y2,y3,y4,ys,rfl,sg,hG,rep⟩:=h
  have hi:i<kvs.length:=(List.getElem?_eq_some_iff.mp hx).1
  have hik:i<ks.length:=by rw[<-hks.1];exact hi
  have hkj:=List.getElem?_eq_getElem hik
  have hk:=(hks.2 i x _ hx hkj).same sg
  rw[raw_succ hkj]
  generalize ks[i]=kk at *
  obtain⟨es,n⟩:=kk
  obtain⟨b,nm,u1,u2,m,fr,xs,rfl,hb,hfr,repE,hz,hm⟩:=hk
  have repE:RepAll G es xs:=repE
  have hz:Zr es:=hz
  have hm:ModeN m n:=hm
  have hn:n<=8:=by rcases hm with h|h|h<;>omega
  refine⟨pr,_,rfl,SqT.of upd_same,rfl,_,_,rfl,_,_,rfl,rfl,?_⟩
  have s2:Same G (upd G pr (.tup [.int (i:Nat),.ref b])):=Same.fresh _ hpr
  generalize upd G pr (.tup [.int (i:Nat),.ref b])=G2 at *
  refine⟨_,rfl,b,_,_,_,rfl,rfl,SqT.of (s2 _ _ hb),atI_nat (j:=4) rfl,_,rfl,b,_,_,_,rfl,rfl,SqT.of (s2 _ _ hb),atI_nat (j:=3) rfl,?_⟩
  refine⟨fr,m,n,xs,es,rfl,s2 _ _ hfr,repE.same s2,hz,hm,fun l fs ds G3 s3 hl0 hl nd mem repF=>?_⟩
  rw[FS_of hz nd mem]at repF
  have hF:=FS_frm (n:=n) hz
  have hFl:=FS_len (es:=es) (n:=n)
  have lf:=repF.length
  have sg3:=(sg.trans s2).trans s3
  refine⟨l,rfl,⟨_,SqL.of hl⟩,?_⟩
  have rlen:∀j,(raw M ks i++((FS es n).take j).flatMap (plN M i)).length<=4000:=fun j=>by
   have h1:=raw_len okM hKZ i
   have h2:=flat_len (f:=plN M i) (m:=64) (l:=(FS es n).take j) fun x _=>plN_len okM i x
   have h3:((FS es n).take j).length<=8:=by rw[List.length_take];omega
   rw[List.length_append]
   omega
  have rpl:∀j,∀d∈raw M ks i++((FS es n).take j).flatMap (plN M i),PlD d:=fun j d hd=>by
   rcases List.mem_append.mp hd with h|h
   .exact raw_pl hKZ d h
   .obtain⟨x,hx,h⟩:=List.mem_flatMap.mp h
    exact plK_pl (k:=(es,n)) (M:=M) (n:=i) hz (List.mem_flatMap.mpr ⟨x,List.mem_of_mem_take hx,h⟩)
  refine for_list (xs:=fs) (fun j σ' G4=>∃(y4:Option V) (zs:List V),σ'=[some (.ref p),some (.ref D),some (.int (i:Nat)),some (.ref b),y4]/\Ex [D] G3 G4/\Same H G4/\G4 D=some (.lst zs)/\RepAll G4 (raw M ks i++((FS es n).take j).flatMap (plN M i)) zs) ?_ (fun j σ' G4 hj h=>?_) (fun j x σ' G4 hx h=>?_) (fun σ' G4 h=>?_)
  .refine⟨_,ys,rfl,Ex.refl _ _,sg3,s3 _ _ (s2 _ _ hG),?_⟩
   rw[List.take_zero,List.flatMap_nil,List.append_nil]
   exact rep.same (s2.trans s3)
  .obtain⟨_,_,_,ex,_⟩:=h
   exact SqL.of (ex.at (fun z=>by rw[z,s2 _ _ hG]at hl0;cases hl0) hl)
  .obtain⟨y4,zs,rfl,ex,sg4,hG4,rep4⟩:=h
   have hj:j<fs.length:=(List.getElem?_eq_some_iff.mp hx).1
   obtain⟨d,hd,rd⟩:=repF.at hx
   obtain⟨es2,rfl,hz2⟩:=hF d (List.mem_of_getElem? hd)
   obtain⟨fb,xs2,rfl,hfb,rep2⟩:=rd
   have nfb:fb≠D:=fun z=>by rw[z,s3 _ _ (s2 _ _ hG)]at hfb;cases hfb
   have tk4:Tk G3 G4:=ex.one (s3 _ _ (s2 _ _ hG))
   refine⟨_,rfl,.inl ⟨rfl,_,SqL.of hG4⟩,?_⟩
   refine⟨_,rfl,p,_,_,_,rfl,rfl,SqT.of (sg4 _ _ hp),atI_nat (j:=0) rfl,_,rfl,fl,fb,M,xs2,es2,rfl,hfl.same sg4,ex.at nfb hfb,rep2.tk tk4 (Spots.imm hz2.pre.spots),zr_n hz2,hz2.pre.six,fun D5 ys5 G5 s5 hD5 rep5=>?_⟩
   have l5:=rep5.length
   have hp64:=plN_len okM i (.tuple es2)
   have lpn:(plN M i (.tuple es2)).length=(plS M es2 (M.h*M.w)).length:=List.length_map _
   refine⟨D5,rfl,⟨_,SqL.of hD5⟩,fun D6 hD6=>?_⟩
   refine comp_list (xs:=ys5) (fun t us G6=>Same G5 G6/\RepAll G6 (((plS M es2 (M.h*M.w)).take t).map fun s=>PyData.tuple [s,.int (i:Nat)]) us) ⟨Same.fresh _ hD6,rfl⟩ (fun t us G6 p=>SqL.of (p.1 _ _ hD5)) (fun t x us G6 hx6 hi6 hDy6 hul6 p=>?_) (fun us G6 hDy6 hul6 p=>?_)
   .obtain⟨p1,p2⟩:=p
    obtain⟨d6,hd6,rd6⟩:=rep5.at hx6
    refine⟨Agree.set (Agree.refl _) rfl,?_⟩
    dsimp only[tYes]
    refine iteT ?_
    refine⟨_,rfl,_,rfl,(by show 2<=sizeLine;decide),fun t7 ht7=>?_⟩
    have s7:Same G6 (upd G6 t7 (.tup [x,.int (i:Nat)])):=Same.fresh _ ht7
    have c7:upd G6 t7 (.tup [x,.int (i:Nat)]) t7=some (.tup [x,.int (i:Nat)]):=upd_same
    generalize upd G6 t7 (.tup [x,.int (i:Nat)])=G7 at *
    have hD7:=s7 _ _ hDy6
    refine nx_put (by omega) hD7 hul6 ⟨(p1.trans s7).new hD6,?_⟩
    rw[pl_take hd6]
    have rx:Rep G7 (.tuple [d6,.int (i:Nat)]) (.ref t7):=⟨t7,_,rfl,c7,_,_,rfl,Rep.same (p1.trans s7) rd6,_,_,rfl,rfl,rfl⟩
    refine((p2.same s7).snoc rx).tk (Tk.lst hD7) (PlD.imm fun dx hdx=>?_)
    have hm6:dx∈plN M i (.tuple es2):=by
     rcases List.mem_append.mp hdx with h|h
     .obtain⟨y,hy,rfl⟩:=List.mem_map.mp h
      exact List.mem_map_of_mem (List.mem_of_mem_take hy)
     .rw[List.mem_singleton.mp h]
      exact List.mem_map_of_mem (List.mem_of_getElem? hd6)
    exact plK_pl (k:=(es,n)) (M:=M) (n:=i) hz (List.mem_flatMap.mpr ⟨_,List.mem_of_getElem? hd,hm6⟩)
   .obtain⟨p1,p2⟩:=p
    rw[List.take_of_length_le (by omega)]at p2
    have p2:RepAll G6 (plN M i (.tuple es2)) us:=p2
    have sB:=s5.trans p1
    have hG6:=sB _ _ hG4
    have lz:=rep4.length
    have lu:=p2.length
    have:=rlen j
    refine⟨D,D6,zs,us,rfl,rfl,hG6,hDy6,Nat.le_of_lt (by rw[sizeLine_eq];omega),?_⟩
    refine⟨_,zs++us,rfl,(ex.trans (Ex.of_same (W:=[D]) sB)).trans (Ex.upd (by simp)),(sg4.trans sB).new hD,upd_same,?_⟩
    rw[flat_take hd,<-List.append_assoc]
    have ap:=(rep4.same sB).append p2
    refine ap.tk (Tk.lst hG6) (PlD.imm ?_)
    have:=rpl (j+1)
    rw[flat_take hd,<-List.append_assoc]at this
    exact this
  .obtain⟨y4,zs,rfl,ex,sg4,hG4,rep4⟩:=h
   rw[List.take_of_length_le (by omega)]at rep4
   exact⟨_,_,_,zs,rfl,sg4,hG4,rep4⟩
 .obtain⟨y2,y3,y4,ys,rfl,sg,hG,rep⟩:=h
  have hr0:=raw_len okM hKZ ks.length
  have hl:=hks.1
  rw[hl]at rep
  refine⟨_,rfl,D,ys,raw M ks ks.length,rfl,hG,rep,fun d hd=>(raw_pl hKZ d hd).key,PlD.cmp (raw_pl hKZ),by omega,fun ds l zs nd mem hl2 rz=>?_⟩
  have e:sortE ds=PL M ks:=sortE_uniq ((List.perm_ext_iff_of_nodup nd (raw_nd okM.w1 hKZ _)).mpr mem) ((PlD.cmp (raw_pl (M:=M) hKZ (j:=ks.length))).sub fun d hd=>(mem d).mp hd)
  rw[e]at rz
  exact q l zs _ (sg.trans (Same.fresh _ hl2)) (sg.free hl2) upd_same rz
end
end K54
namespace L3
open PySem
mutual
noncomputable def drw:PyData->Nat
 | .tuple ds=>drwAll ds+1
 | .int _=>1
 | .str _=>1
 | .none=>1
 | .bool _=>1
 | .list _=>1
 | .dict _=>1
noncomputable def drwAll:List PyData->Nat
 | []=>0
 | d::ds=>drw d+drwAll ds
end
theorem drwAll_snoc(d:PyData):∀l:List PyData,drwAll (l++[d])=drwAll l+drw d
 | []=>by show drw d+0=0+drw d;omega
 | e::l=>by show drw e+drwAll (l++[d])=drw e+drwAll l+drw d;rw[drwAll_snoc d l];omega
theorem hashAll_snoc(w:World)(d:PyData):∀l:List PyData,hashAll w (l++[d])=hashAll w l++[hashD w d]
 | []=>rfl
 | y::l=>by show hashD w y::hashAll w (l++[d])=_;rw[hashAll_snoc w d l];rfl
noncomputable def HashX(d:PyData):Prop:=∀(prog:Program) (w:World) (A:Around) (E:Value->Shared->Prop) (s:Shared) (v:Value) (as:List Addr) (Q:Int->Shared->Prop),Reads s.heap v d as->A.units+d.depth<cLine->Q (hashD w d) {s with toks:=s.toks+drw d}->wpAny (model prog w) A (pyHash v) Q E s
theorem hashX_tuple{ds:List PyData}(H:∀d∈ds,HashX d):HashX (.tuple ds):=fun prog w A E s v as Q r hu h=>by
 cases r with
 | @tuple a o vs n _ _ ho hc hd hi=>
 have hT:s.TypeIs (.ref a) "tuple":=⟨o,ho,hc⟩
 have hu':A.units+(PyData.depthAll ds+1)<cLine:=hu
 unfold pyHash
 first|unfold pyHashByItsType|skip
 first|refine wpAny_bind (wpAny_cRoomFor_or (.inr (show A.units<cLine by omega)) ?_)|skip
 refine wpAny_bind (wpAny_specialOf (name:="__hash__") hT F.slot_tuple_hash.lookup ?_)
 show wpAny _ _ (if (some (Value.builtin "tuple.__hash__")==some Value.none)=true then _ else _) _ _ _
 rw[if_neg (show ¬_ by rw[beq_builtin_none];exact Bool.false_ne_true)]
 refine wpAny_bind (wpAny_specialOf (name:="__hash__") hT F.slot_tuple_hash.lookup ?_)
 show wpAny _ _ (callSpecialIfBoundUnlessNone? (.ref a) "__hash__" _ >>= _) _ _ _
 refine wpAny_bind (wpAny_callSpecialIfBoundUnlessNone?_slot (name:="__hash__") hT F.slot_tuple_hash (wpAny_call_entry (name:="__hash__") F.slot_tuple_hash hT F.entry_tuple_hash ?_ (F.args_tuple_hash_1 _)))
 show wpAny _ _ (Builtin.Tuple.tupleItemsOf (.ref a) >>= _) _ _ _
 refine wpAny_bind (wpAny_tupleItemsOf (n:=n) ho hd ?_)
 refine wpAny_bind ?_
 rw[<-Array.forIn_toList]
 refine wpAny_forIn_list _
  (fun rest (b:Array Int) s'=>∃done left bs,ds=done++left/\ReadsAll s.heap rest left bs/\b.toList=hashAll w done/\s'={s with toks:=s.toks+drwAll done})
  _ (fun x rest b s' hI=>?_) (fun b s' hI=>?_) _ _ ⟨[],ds,as,rfl,hi,rfl,rfl⟩
 .obtain⟨done,left,bs,e,hl,hb,rfl⟩:=hI
  cases hl with
  | @cons _ _ d ds' _ _ h1 hl'=>
   have hmem:d∈ds:=by rw[e];simp
   have hd1:=dep_mem d hmem
   refine wpAny_bind (H d hmem prog w _ E {s with toks:=s.toks+drwAll done} x _ _ h1 (by show A.units+1+d.depth<cLine;omega) ?_)
   have ht:s.toks+drwAll done+drw d=s.toks+drwAll (done++[d]):=by rw[drwAll_snoc];omega
   first
    | exact wpAny_pure ⟨done++[d],ds',_,by simp[e],hl',by simp[hb,hashAll_snoc],by simp[drwAll_snoc,Nat.add_assoc]⟩
    | exact wpAny_bind (wpAny_pure (wpAny_pure ⟨done++[d],ds',_,by simp[e],hl',by simp[hb,hashAll_snoc],by simp[drwAll_snoc,Nat.add_assoc]⟩))
 .obtain⟨done,left,bs,e,hl,hb,rfl⟩:=hI
  cases hl
  rw[List.append_nil]at e
  subst e
  show wpAny _ _ (retInt (Builtin.Tuple.tupleHashOf b.toList)) _ _ _
  rw[hb]
  refine wpAny_ret_mkInt ?_
  show wpAny _ _ (if (decide (-(2:Int)^63<=Builtin.Tuple.tupleHashOf (hashAll w ds))&&decide (Builtin.Tuple.tupleHashOf (hashAll w ds)<2^63))=true then _ else _) _ _ _
  have h':Q (reduceHash (Builtin.Tuple.tupleHashOf (hashAll w ds))) {s with toks:=s.toks+(drwAll ds+1)}:=h
  unfold reduceHash at h'
  split
  .rename_i hr
   rw[if_pos hr]at h'
   exact wpAny_pure (by simpa [Nat.add_assoc]using h')
  .rename_i hr
   rw[if_neg hr]at h'
   exact wpAny_bind (wpAny_rule (wpAny_pure (by simpa [Nat.add_assoc]using h')))
mutual
theorem hashX_reads:∀(d:PyData),kd d=true->HashX d
 | .int i,_=>fun prog w A E s v as Q r hu h=>by
  cases r with
  | int=>exact wpAny_pyHash_int h
 | .str x,_=>fun prog w A E s v as Q r hu h=>by
  cases r with
  | str=>exact wpAny_pyHash_str h
 | .tuple ds,hk=>hashX_tuple (hashX_readsAll ds hk)
 | .none,hk=>absurd hk Bool.false_ne_true
 | .bool _,hk=>absurd hk Bool.false_ne_true
 | .list _,hk=>absurd hk Bool.false_ne_true
 | .dict _,hk=>absurd hk Bool.false_ne_true
theorem hashX_readsAll:∀(ds:List PyData),kdAll ds=true->∀d∈ds,HashX d
 | [],_,d,hd=>by cases hd
 | e::ds,hk,d,hd=>by
  have hk':(kd e&&kdAll ds)=true:=hk
  rw[Bool.and_eq_true]at hk'
  rcases List.mem_cons.mp hd with h|hd
  .rw[h];exact hashX_reads e hk'.1
  .exact hashX_readsAll ds hk'.2 d hd
end
structure KeyN(h:Heap)(d:PyData)(a:Addr):Prop where
 key:kd d=true
 lay:d.canLay0=true
 deep:d.depth<8
 reads:∃as,Reads h (.ref a) d as
theorem KeyN.tup{h:Heap}{d:PyData}{a:Addr}(x:KeyN h d a):∃ds,d=.tuple ds:=by
 obtain⟨as,r⟩:=x.reads
 have hk:=x.key
 cases r with
 | tuple=>exact⟨_,rfl⟩
 | list=>exact absurd hk Bool.false_ne_true
 | dict=>exact absurd hk Bool.false_ne_true
mutual
theorem reads_same{h h':Heap}{d:Addr}{o:Obj}{es:Array DictEntry}{ep:Nat}(ho:h.get? d=some o)(hd:o.data=.dict es ep)(hs:Heap.SameBut d h h'):∀{v:Value} {x:PyData} {as:List Addr},kd x=true->Reads h v x as->Reads h' v x as
 | _,_,_,_,.none=>.none
 | _,_,_,_,.bool b=>.bool b
 | _,_,_,_,.int i t=>.int i t
 | _,_,_,_,.str x t=>.str x t
 | _,_,_,hk,.list _ _ _ _=>absurd hk Bool.false_ne_true
 | _,_,_,hk,.tuple (a:=a) h1 h2 h3 h4=>by
  have hne:a≠d:=by
   intro e;subst e
   rw[ho]at h1;cases h1
   rw[hd]at h3;exact nomatch h3
  exact .tuple ((hs.2 a hne).trans h1) h2 h3 (reads_sameAll ho hd hs hk h4)
 | _,_,_,hk,.dict _ _ _ _ _=>absurd hk Bool.false_ne_true
theorem reads_sameAll{h h':Heap}{d:Addr}{o:Obj}{es:Array DictEntry}{ep:Nat}(ho:h.get? d=some o)(hd:o.data=.dict es ep)(hs:Heap.SameBut d h h'):∀{vs:List Value} {xs:List PyData} {as:List Addr},kdAll xs=true->ReadsAll h vs xs as->ReadsAll h' vs xs as
 | _,_,_,_,.nil=>.nil
 | _::_,y::ys,_,hk,.cons h1 h2=>by
  have hk':(kd y&&kdAll ys)=true:=hk
  rw[Bool.and_eq_true]at hk'
  exact .cons (reads_same ho hd hs hk'.1 h1) (reads_sameAll ho hd hs hk'.2 h2)
end
noncomputable instance decD:DecidableEq PyData:=fun a b=>Classical.propDecidable (a=b)
noncomputable def dataKind(prog:Program)(w:World):HeapKind prog w PyData where
 is:=KeyN
 hash:=hashD w
 draws:=drw
 room:=fun A=>A.units+8<cLine
 inj:=fun{h a x y} hx hy=>by
  obtain⟨as,r⟩:=hx.reads
  obtain⟨bs,r'⟩:=hy.reads
  exact SeqAt.Reads.unique _ _ _ _ _ hx.lay r r'
 keeps:=fun{h h' k a d o es ep} hx ho hd hs=>by
  obtain⟨as,r⟩:=hx.reads
  exact⟨hx.key,hx.lay,hx.deep,as,reads_same ho hd hs hx.key r⟩
 pyHash:=fun{A E s k a Q} hu hx h=>by
  obtain⟨as,r⟩:=hx.reads
  exact hashX_reads k hx.key prog w A E s _ as Q r (by have:=hx.deep;omega) h
 eqBool:=fun{A E s x y a b Q} hu hx hy h=>by
  obtain⟨as,r⟩:=hx.reads
  obtain⟨bs,r'⟩:=hy.reads
  refine SeqAt.eqBoolOverData prog w A E s _ _ x y as bs Q r r' hx.lay hy.lay (by have:=hx.deep;have:=Nat.min_le_left x.depth y.depth;omega) ?_
  have e:PyData.eqv x y=decide (x=y):=by
   by_cases z:x=y
   .rw[decide_eq_true z,<-z];exact SeqAt.eqv_refl _ hx.lay
   .rw[decide_eq_false z]
    cases q:PyData.eqv x y with
    | false=>rfl
    | true=>exact absurd (eqv_kd x y hx.key hy.key q) z
  rw[e];exact h
 quiet:=fun{A E s k a Q} hx h=>by
  obtain⟨as,r⟩:=hx.reads
  exact quiet_reads 8 hx.key r hx.deep h
end L3
namespace L3
open PySem PySem.Spec PyProof.Rows L2
noncomputable def DE(h:Heap)(d:Addr)(es:Array DictEntry)(ep:Nat):Prop:=∃o,h.get? d=some o/\o.ExactDict/\o.data=.dict es ep
theorem DE.ty{s:Shared}{d:Addr}{es:Array DictEntry}{ep:Nat}(x:DE s.heap d es ep):s.TypeIs (.ref d) "dict":=by
 obtain⟨o,h1,h2,_⟩:=x
 exact⟨o,h1,h2.1⟩
theorem DE.on{h h':Heap}{d:Addr}{es:Array DictEntry}{ep:Nat}(x:DE h d es ep)(k:∀o,h.get? d=some o->h'.get? d=some o):DE h' d es ep:=by
 obtain⟨o,h1,h2⟩:=x
 exact⟨o,k o h1,h2⟩
section
variable{prog:Program}{w:World}{A:Around}{E:Value->Shared->Prop}{s:Shared}{d it:Addr}{es:Array DictEntry}{ep i:Nat}
theorem iterE{Q:Value->Shared->Prop}(lo:(d==sysModules)=false)(hm:DE s.heap d es ep)(q:Q (.ref s.heap.objs.size) {s with heap:=s.heap.push {cls:=.type "dict_keyiterator",data:=.fields #[.ref d,.int 0 0,.int es.size 0,.int ep 0]}}):wpAny (model prog w) A (pyIter (.ref d)) Q E s:=by
 have T:=hm.ty
 obtain⟨o,ho,_,hdat⟩:=id hm
 refine wpAny_pyIter_slot T F.slot_dict_iter (wpAny_call_entry F.slot_dict_iter T F.entry_dict_iter (wpAny_bind (wpAny_bind (wpAny_notOrdered_dict T ?_))) (F.args_dict_iter_1 _))
 refine(wpAny_pure ?_:wpAny _ _ (pure (Value.ref d)) _ _ s)
 have sh:Builtin.Dict.showsAll d=pure ():=by unfold Builtin.Dict.showsAll;rw[if_neg (by rw[lo];simp)]
 refine(?_:wpAny _ _ (Builtin.Dict.showsAll d >>= _) _ _ s)
 rw[sh]
 refine wpAny_bind (wpAny_pure (wpAny_bind (wpAny_dictEntries ho hdat (wpAny_bind (wpAny_dictEpoch ho hdat (wpAny_bind (wpAny_newObj_type (wpAny_pure (x_EAEE _ rfl "dict_keyiterator" _ ⟨⟨_,Heap.get?_push_size _ rfl,rfl⟩,F.slot_dict_keyiterator_next.lookup,?_⟩)))))))))
 simpa [rawInt]using q
theorem ownsNot:Builtin.Dict_items.ownsTuple "dict_keyiterator" = false:=by decide
theorem itemE{Q:Option Value->Shared->Prop}(hit:s.heap.IsKeyIter it d i es.size ep)(hm:DE s.heap d es ep){e:DictEntry}(hx:es[i]?=some e)
  (q:∀h',h'.IsKeyIter it d (i+1) es.size ep->Heap.SameBut it s.heap h'->Q (some e.key) {s with heap:=h'}):wpAny (model prog w) A (pyNext (.ref it)) Q E s:=by
 have T:=hit.typeIs
 obtain⟨o,ho,hc,hd⟩:=id hit
 obtain⟨od,hod,_,hdd⟩:=id hm
 unfold pyNext
 refine wpAny_bind (wpAny_attempt (wpAny_callSpecial?_slot (name:="__next__") T F.slot_dict_keyiterator_next (wpAny_call_entry F.slot_dict_keyiterator_next T F.entry_dict_keyiterator_next (wpAny_bind (wpAny_pure (wpAny_bind (wpAny_bind (?_))))) (F.args_dict_keyiterator_next_1 _))))
 refine wpAny_bind (wpAny_typeNameOfWhole_keyiter T (wpAny_pure (wpAny_bind (wpAny_fieldsOf ho hd ?_))))
 rw[if_neg (by rw[ownsNot];simp)]
 refine(?_:wpAny _ _ (if (Value.ref d==Value.none)=true then _ else _) _ _ s)
 rw[if_neg (by intro z;cases z)]
 refine wpAny_bind (wpAny_pure (wpAny_bind (wpAny_dictEntries hod hdd ?_)))
 rw[if_neg (by simp)]
 refine wpAny_bind (wpAny_pure (wpAny_bind (wpAny_dictEpoch hod hdd ?_)))
 rw[if_neg (by simp)]
 refine wpAny_pure ?_
 have nn:¬((i:Int)<0):=by omega
 simp only[nn,if_false,Int.toNat_natCast,hx]
 refine wpAny_bind (wpAny_bind (wpAny_typeNameOfWhole_keyiter T (wpAny_pure (wpAny_bind (wpAny_isOneOf_keyiter T ?_)))))
 refine(wpAny_bind (wpAny_setField ho hd (by simp) ?_):wpAny _ _ (setField (.ref it) 1 (rawInt ((i:Int)+1)) >>= _) _ _ s)
 have hit':(s.heap.update it (Obj.mapFields (·.setIfInBounds 1 (rawInt ((i:Int)+1))))).IsKeyIter it d (i+1) es.size ep:=
  ⟨_,Heap.get?_update_self _ ho (Obj.isFreed_of_fields (Obj.data_mapFields hd _)),by rw[Obj.cls_mapFields];exact hc,by rw[Obj.data_mapFields hd];simp[rawInt]⟩
 refine wpAny_bind (wpAny_holding (wpAny_bind (wpAny_isOneOf_keyiter (s:={s with heap:=_}) hit'.typeIs ?_)))
 refine(?_:wpAny _ _ (pure e.key) _ _ _)
 refine wpAny_pure (wpAny_pure ⟨_,rfl,?_⟩)
 exact wpAny_pure (q _ hit' (Heap.SameBut.update ..))
theorem endE{Q:Option Value->Shared->Prop}(hh:A.handled=none)(hit:s.heap.IsKeyIter it d es.size es.size ep)(hm:DE s.heap d es ep)
  (q:∀h',Heap.ExtBut it s.heap h'->Q none {s with heap:=h'}):wpAny (model prog w) A (pyNext (.ref it)) Q E s:=by
 have T:=hit.typeIs
 obtain⟨o,ho,hc,hd⟩:=id hit
 obtain⟨od,hod,_,hdd⟩:=id hm
 unfold pyNext
 refine wpAny_bind (wpAny_attempt (wpAny_callSpecial?_slot (name:="__next__") T F.slot_dict_keyiterator_next (wpAny_call_entry F.slot_dict_keyiterator_next T F.entry_dict_keyiterator_next (wpAny_bind (wpAny_pure (wpAny_bind (wpAny_bind (?_))))) (F.args_dict_keyiterator_next_1 _))))
 refine wpAny_bind (wpAny_typeNameOfWhole_keyiter T (wpAny_pure (wpAny_bind (wpAny_fieldsOf ho hd ?_))))
 rw[if_neg (by rw[ownsNot];simp)]
 refine(?_:wpAny _ _ (if (Value.ref d==Value.none)=true then _ else _) _ _ s)
 rw[if_neg (by intro z;cases z)]
 refine wpAny_bind (wpAny_pure (wpAny_bind (wpAny_dictEntries hod hdd ?_)))
 rw[if_neg (by simp)]
 refine wpAny_bind (wpAny_pure (wpAny_bind (wpAny_dictEpoch hod hdd ?_)))
 rw[if_neg (by simp)]
 refine wpAny_pure ?_
 have nn:¬((es.size:Int)<0):=by omega
 have no:es[es.size]?=none:=Array.getElem?_eq_none (Nat.le_refl _)
 simp only[nn,if_false,Int.toNat_natCast,no]
 refine wpAny_bind (wpAny_bind (wpAny_typeNameOfWhole_keyiter T (wpAny_pure ?_)))
 refine(wpAny_bind (wpAny_setField ho hd (by simp) ?_):wpAny _ _ (setField (.ref it) 0 .none >>= _) _ _ s)
 refine(wpAny_bind ?_:wpAny _ _ (newExc (.type "StopIteration") [] >>= _) _ _ _)
 unfold newExc newTuple
 refine wpAny_bind (wpAny_newObj_type (wpAny_bind (wpAny_of_eq (a:=Value.none) rfl (wpAny_newObj_type ?_ (by size_fits)))) (by size_fits))
 unfold raiseNew
 refine wpAny_bind (wpAny_handled ?_)
 rw[show A.in1.handled=none from hh]
 refine wpAny_bind (wpAny_pure (wpAny_throw (wpAny_bind ?_)))
 refine wpAny_isInstance (T:="StopIteration") (b:=true) (⟨_,Heap.get?_push_size _ rfl,rfl⟩) isSubtype_stop ?_
 exact wpAny_pure (q _ (((Heap.SameBut.update ..).extBut.push _).push _))
end
noncomputable abbrev KA:=PyData×Addr×V
noncomputable abbrev KAR:List KA->List (PyData×Addr×Value)->Prop:=Paired fun p q=>p.1=q.1/\p.2.1=q.2.1/\RelV p.2.2 q.2.2
noncomputable def DNo(w:World)(a:Addr)(xs:List KA)(ep:Nat):HO:=.ext fun h=>∃ys,KAR xs ys/\∃o es,h.get? a=some o/\o.ExactDict/\o.data=.dict es ep/\
 es.toList=ys.map (fun y:PyData×Addr×Value=>(⟨hashD w y.1,.ref y.2.1,y.2.2⟩:DictEntry))/\(ys.map (·.1)).Nodup
structure KRep(H:Hp)(d:PyData)(b:Addr):Prop where
 key:kd d=true
 deep:d.depth<8
 rep:Rep H d (.ref b)
structure DN(w:World)(H:Hp)(a:Addr)(xs:List KA)(ep:Nat):Prop where
 obj:H a=some (DNo w a xs ep)
 keys:∀x∈xs,KRep H x.1 x.2.1
 len:xs.length<=sizeLine
 sys:(a==sysModules)=false
mutual
theorem kd_imm:∀{d:PyData},kd d=true->imm d=true
 | .int _,_=>rfl
 | .str _,_=>rfl
 | .tuple ds,h=>kd_immAll (ds:=ds) h
 | .none,_=>rfl
 | .bool _,_=>rfl
 | .list _,h=>absurd h Bool.false_ne_true
 | .dict _,h=>absurd h Bool.false_ne_true
theorem kd_immAll:∀{ds:List PyData},kdAll ds=true->immAll ds=true
 | [],_=>rfl
 | d::ds,h=>by
  have h':(kd d&&kdAll ds)=true:=h
  rw[Bool.and_eq_true]at h'
  show(imm d&&immAll ds)=true
  rw[kd_imm h'.1,kd_immAll h'.2];rfl
end
theorem KRep.tk{H H':Hp}{d:PyData}{b:Addr}(x:KRep H d b)(t:Tk H H'):KRep H' d b:=⟨x.key,x.deep,x.rep.tk t (kd_imm x.key)⟩
section
variable{X:Cx}{pins:List (Addr×Obj)}{σ:L2.St}{H:Hp}{s:Shared}{a b:Addr}{xs:List KA}{d:PyData}{v:V}{u r:Value}{ep:Nat}{A:Around}{E:Value->Shared->Prop}
theorem KRep.at(x:KRep H d b)(I:Inv X pins σ H s):(dataKind X.prog X.w).is s.heap d b:=by
 obtain⟨as,q⟩:=Rep.reads I (u:=.ref b) x.rep rfl
 exact⟨x.key,x.rep.lay,x.deep,as,q⟩
noncomputable def valN(xs:List KA)(d:PyData):Option V:=(xs.find? fun x=>decide (x.1=d)).map (·.2.2)
noncomputable def putN(xs:List KA)(d:PyData)(b:Addr)(v:V):List KA:=
 if (valN xs d).isSome then xs.map fun x=>if x.1=d then(x.1,x.2.1,v)else x else xs++[(d,b,v)]
theorem KAR.val{xs:List KA}{ys:List (PyData×Addr×Value)}(r:KAR xs ys)(d:PyData):RelO (valN xs d) ((atKey ys d).map (·.2)):=by
 induction r with
 | nil=>exact True.intro
 | @cons p q ps qs h t ih=>
  obtain⟨h1,_,h2⟩:=h
  by_cases e:p.1=d
  .have e':q.1=d:=h1.symm.trans e
   have c:atKey (q::qs) d=some q.2:=by simp[atKey,List.find?_cons,e']
   have c':valN (p::ps) d=some p.2.2:=by simp[valN,List.find?_cons,e]
   rw[c',c];exact h2
  .have e':¬q.1=d:=fun z=>e (h1.trans z)
   have c:atKey (q::qs) d=atKey qs d:=by simp[atKey,List.find?_cons,e']
   have c':valN (p::ps) d=valN ps d:=by simp[valN,List.find?_cons,e]
   rw[c',c];exact ih
theorem KAR.repl{xs:List KA}{ys:List (PyData×Addr×Value)}(r:KAR xs ys)(d:PyData){y:V}{u:Value}(ry:RelV y u) :
  KAR (xs.map fun x=>if x.1=d then(x.1,x.2.1,y)else x) (ys.map (putAt d u)):=by
 induction r with
 | nil=>exact .nil
 | @cons p q ps qs h t ih=>
  rw[List.map_cons,List.map_cons]
  refine .cons ?_ ih
  obtain⟨h1,h2,h3⟩:=h
  unfold putAt
  by_cases e:p.1=d
  .rw[if_pos e,if_pos (h1.symm.trans e)];exact⟨h1,h2,ry⟩
  .rw[if_neg e,if_neg (fun z=>e (h1.trans z))];exact⟨h1,h2,h3⟩
theorem KAR.put{xs:List KA}{ys:List (PyData×Addr×Value)}(r:KAR xs ys)(d:PyData){b:Addr}{y:V}{u:Value}(ry:RelV y u) :
  KAR (putN xs d b y) (storedH ys d b u):=by
 have e:(valN xs d).isSome=(atKey ys d).isSome:=by
  rw[(r.val d).isSome_eq,Option.isSome_map]
 unfold putN storedH
 rw[e]
 by_cases q:(atKey ys d).isSome=true
 .rw[if_pos q,if_pos q];exact r.repl d ry
 .rw[if_neg q,if_neg q];exact Paired.snoc r ⟨rfl,rfl,ry⟩
theorem KAR.get{xs:List KA}{ys:List (PyData×Addr×Value)}(r:KAR xs ys):∀{i:Nat} {x:KA},xs[i]?=some x->∃y,ys[i]?=some y/\x.1=y.1/\x.2.1=y.2.1/\RelV x.2.2 y.2.2:=by
 induction r with
 | nil=>intro i x h;cases h
 | @cons p q ps qs h t ih=>
  intro i x hx
  cases i with
  | zero=>cases hx;exact⟨q,rfl,h⟩
  | succ i=>exact ih (i:=i) hx
theorem DN.at(D:DN X.w H a xs ep)(I:Inv X pins σ H s):∃ys,KAR xs ys/\s.heap.DictOfH (dataKind X.prog X.w) a ys:=by
 obtain⟨⟨ys,r,o,es,h1,h2,h3,h4,h5⟩,_⟩:=(show ObjOk X.prog X.w H s.heap a (DNo X.w a xs ep)from I.hok a _ D.obj)
 refine⟨ys,r,o,es,ep,h1,h2,h3,h4,?_,h5⟩
 have all:∀{l:List KA} {m:List (PyData×Addr×Value)},KAR l m->(∀x∈l,KRep H x.1 x.2.1)->∀y∈m,(dataKind X.prog X.w).is s.heap y.1 y.2.1:=by
  intro l m q
  induction q with
  | nil=>intro _ y hy;exact nomatch hy
  | @cons p q ps qs hq t ih=>
   intro hk y hy
   rcases List.mem_cons.mp hy with e|hy
   .subst e
    have:=(hk p List.mem_cons_self).at I
    rw[hq.1,hq.2.1]at this
    exact this
   .exact ih (fun x hx=>hk x (List.mem_cons_of_mem _ hx)) y hy
 exact all r D.keys
theorem DN.de(D:DN X.w H a xs ep)(I:Inv X pins σ H s):∃es,DE s.heap a es ep/\es.size=xs.length/\∀(i:Nat) (x:KA),xs[i]?=some x->∃e:DictEntry,es[i]?=some e/\e.key=.ref x.2.1/\RelV x.2.2 e.val:=by
 obtain⟨⟨ys,r,o,es,h1,h2,h3,h4,h5⟩,_⟩:=(show ObjOk X.prog X.w H s.heap a (DNo X.w a xs ep)from I.hok a _ D.obj)
 have hl:=Paired.length r
 refine⟨es,⟨o,h1,h2,h3⟩,by rw[<-Array.length_toList,h4,List.length_map,hl],fun i x hx=>?_⟩
 obtain⟨y,hy,q1,q2,q3⟩:=r.get hx
 refine⟨⟨hashD X.w y.1,.ref y.2.1,y.2.2⟩,?_,?_,q3⟩
 .rw[<-Array.getElem?_toList,h4,List.getElem?_map,hy];rfl
 .show Value.ref _=_;rw[q2]
theorem DN.ext{w:World}{P:Program}{H':Hp}{h':Heap}{ys:List (PyData×Addr×Value)}(r:KAR xs ys)(dd:h'.DictOfH (dataKind P w) a ys):∃ep,ObjOk P w H' h' a (DNo w a xs ep):=by
 obtain⟨o,es,ep,h1,h2,h3,h4,_,h5⟩:=dd
 refine⟨ep,⟨ys,r,o,es,h1,h2,h3,h4,h5⟩,⟨o,h1⟩,fun g1 g2 q k=>?_⟩
 obtain⟨zs,r',o',es',k1,k2⟩:=q
 exact⟨zs,r',o',es',k o' k1,k2⟩
theorem DN.tk{w:World}{H':Hp}(D:DN w H a xs ep)(t:Tk H H')(e:H' a=some (DNo w a xs ep)):DN w H' a xs ep:=⟨e,fun x hx=>(D.keys x hx).tk t,D.len,D.sys⟩
theorem DN.same{w:World}{H':Hp}(D:DN w H a xs ep)(t:Same H H'):DN w H' a xs ep:=D.tk (Tk.of_same t) (t _ _ D.obj)
theorem n_getItem{Q:Value->Shared->Prop}(hu:A.units+9<cLine)(I:Inv X pins σ H s)(D:DN X.w H a xs ep)(k:KRep H d b)(l:valN xs d=some v)(h:∀w' s',Inv X pins σ H s'->RelV v w'->Q w' s') :
  wpAny (model X.prog X.w) A (getItem (.ref a) (.ref b)) Q E s:=by
 obtain⟨ys,rel,dd⟩:=D.at I
 obtain⟨w',hw,rw'⟩:=RelO.some_of (v:=v) (o:=(atKey ys d).map (·.2)) (by rw[<-l];exact rel.val d)
 obtain⟨p,hp,hp2⟩:=Option.map_eq_some_iff.mp hw
 refine wpAny_getItem_heap (knd:=dataKind X.prog X.w) (show A.units+1+8<cLine by omega) (k.at I) dd hp ?_
 rw[hp2]
 exact h w' _ (I.tok _) rw'
theorem n_in{Q:Value->Shared->Prop}(hu:A.units+9<cLine)(I:Inv X pins σ H s)(D:DN X.w H a xs ep)(k:KRep H d b)(h:∀s',Inv X pins σ H s'->Q (.bool (valN xs d).isSome) s') :
  wpAny (model X.prog X.w) A (compareOp .In (.ref b) (.ref a)) Q E s:=by
 obtain⟨ys,rel,dd⟩:=D.at I
 refine wpAny_in_heap (knd:=dataKind X.prog X.w) (show A.units+1+8<cLine by omega) (k.at I) D.sys dd ?_
 have q:=(rel.val d).isSome_eq
 rw[Option.isSome_map]at q
 rw[<-q]
 exact h _ (I.tok _)
theorem n_get2{Q:Value->Shared->Prop}(hu:A.units+9<cLine)(I:Inv X pins σ H s)(D:DN X.w H a xs ep)(k:KRep H d b)(rd:RelV v r)(h:∀w' s',Inv X pins σ H s'->RelV ((valN xs d).getD v) w'->Q w' s') :
  wpAny (model X.prog X.w) A (call (.builtin "dict.get") [.ref a,.ref b,r]) Q E s:=by
 obtain⟨ys,rel,dd⟩:=D.at I
 refine call_meetsIn PySem.F.slot_dict_get dd.typeIs PySem.F.entry_dict_get (PySem.F.args_dict_get_3 _ _ _) (meetsH_dict_get_default (dataKind X.prog X.w) a b D.sys r) ⟨(show A.units+1+8<cLine by omega),d,ys,k.at I,dd,h _ _ (I.tok _) ?_⟩
 exact(rel.val d).getD rd
theorem length_putN(xs:List KA)(d:PyData)(b:Addr)(v:V):(putN xs d b v).length<=xs.length+1:=by
 unfold putN
 split
 .rw[List.length_map];omega
 .rw[List.length_append];exact Nat.le_refl _
theorem mem_putN{xs:List KA}{d:PyData}{b:Addr}{v:V}{x:KA}(h:x∈putN xs d b v):(∃y∈xs,y.1=x.1/\y.2.1=x.2.1)\/(x.1=d/\x.2.1=b):=by
 unfold putN at h
 split at h
 .obtain⟨y,hy,e⟩:=List.mem_map.mp h
  refine .inl ⟨y,hy,?_⟩
  subst e
  split<;>exact⟨rfl,rfl⟩
 .rcases List.mem_append.mp h with h|h
  .exact .inl ⟨x,h,rfl,rfl⟩
  .rw[List.mem_singleton.mp h];exact .inr ⟨rfl,rfl⟩
theorem n_setItem{Q:Unit->Shared->Prop}(hu:A.units+9<cLine)(I:Inv X pins σ H s)(D:DN X.w H a xs ep)(k:KRep H d b)(l:xs.length<sizeLine)(rv:RelV v r)
  (h:∀ep' s',Inv X pins σ (upd H a (DNo X.w a (putN xs d b v) ep')) s'->Q () s'):wpAny (model X.prog X.w) A (setItem (.ref a) (.ref b) r) Q E s:=by
 obtain⟨ys,rel,dd⟩:=D.at I
 have hz:ys.length<=sizeLine:=by rw[<-Paired.length rel];exact D.len
 refine wpAny_setItem_heap (knd:=dataKind X.prog X.w) (hsz:=hz) (show A.units+1+8<cLine by omega) (k.at I) dd fun h' dd' hs=>?_
 have he:∃q,h'.get? a=some q:=let ⟨q,_,_,hq,_⟩:=dd';⟨q,hq⟩
 obtain⟨ep',ok⟩:=DN.ext (H':=upd H a (DNo X.w a (putN xs d b v) 0)) (rel.put d rv) dd'
 refine h ep' _ ?_
 exact d_write I (by rw[D.obj];exact True.intro) hs he ok
theorem DN.put{w:World}(D:DN w H a xs ep)(k:KRep H d b)(l:xs.length<sizeLine)(v:V)(ep':Nat):DN w (upd H a (DNo w a (putN xs d b v) ep')) a (putN xs d b v) ep':=by
 have t:Tk H (upd H a (DNo w a (putN xs d b v) ep')):=fun c ys q=>by rw[upd_ne (ne_of q D.obj (by intro z;cases z))];exact q
 refine⟨upd_same,fun x hx=>?_,by have:=length_putN xs d b v;omega,D.sys⟩
 rcases mem_putN hx with ⟨y,hy,e1,e2⟩|⟨e1,e2⟩
 .rw[<-e1,<-e2];exact(D.keys y hy).tk t
 .rw[e1,e2];exact k.tk t
end
end L3
namespace L3
open PySem PySem.Spec PyProof.Rows L2
theorem DN.ty{X:Cx}{pins:List (Addr×Obj)}{σ:L2.St}{H:Hp}{s:Shared}{a:Addr}{xs:List KA}{ep:Nat}(D:DN X.w H a xs ep)(I:Inv X pins σ H s) :
  s.TypeIs (.ref a) "dict"/\(∀b,Value.ref a=.ref b->∃ob,s.heap.get? b=some ob/\ob.dict=none):=by
 obtain⟨ys,_,dd⟩:=D.at I
 refine⟨dd.typeIs,fun b q=>?_⟩
 cases q
 obtain⟨ob,_,_,h1,h2,_⟩:=dd
 exact⟨ob,h1,h2.2.1⟩
noncomputable def tNGet(w:World)(td ty:TE):TE:=fun σ H Q=>td σ H fun x H1=>ty σ H1 fun y H2=>∃a xs ep d b v,x=.ref a/\y=.ref b/\DN w H2 a xs ep/\KRep H2 d b/\valN xs d=some v/\Q v H2
noncomputable def tNIn(w:World)(ty td:TE):TE:=fun σ H Q=>ty σ H fun y H1=>td σ H1 fun x H2=>∃a xs ep d b,x=.ref a/\y=.ref b/\DN w H2 a xs ep/\KRep H2 d b/\Q (.bl (valN xs d).isSome) H2
noncomputable def sNPut(w:World)(td ty tv:TE):TS:=fun D σ H=>tv σ H fun v H1=>td σ H1 fun x H2=>ty σ H2 fun y H3=>∃a xs ep d b,x=.ref a/\y=.ref b/\DN w H3 a xs ep/\KRep H3 d b/\xs.length<sizeLine/\∀ep',D.nx σ (upd H3 a (DNo w a (putN xs d b v) ep'))
noncomputable def tNGet2(w:World)(td ty tx:TE):TE:=fun σ H Q=>td σ H fun x H1=>∃a,x=.ref a/\(∃xs ep,DN w H1 a xs ep)/\ty σ H1 fun y H2=>tx σ H2 fun z H3=>∃xs ep d b,y=.ref b/\DN w H3 a xs ep/\KRep H3 d b/\Q ((valN xs d).getD z) H3
noncomputable def tNNew(w:World):TE:=fun _ H Q=>∀p,H p=none->(p==sysModules)=false->Q (.ref p) (upd H p (DNo w p [] 0))
section
variable{X:Cx}{o i e f value:Expr}{pos pos' tpos apos cpos:Pos}{td ty tv tx:TE}
theorem pe_nget(hu:X.A.units+9<cLine)(ho:PE X o td)(hi:PE X i ty)(hs:NoSl i):PE X (.Subscript o i pos) (tNGet X.w td ty):=by
 intro pins s σ H Q I h
 refine subD_of PySem.F.slot_dict_getitem.lookup hs (thn (ho pins s σ H _ I h) fun u s1 ⟨x,H1,I1,rx,q1⟩=>thn (hi pins s1 σ H1 _ I1 q1) fun iv s2 ⟨y,H2,I2,ry,a,xs,ep,d,b,v,ex,ey,D,k,l,q2⟩=>?_)
 subst ex ey
 obtain rfl:u=Value.ref a:=rx
 obtain rfl:iv=Value.ref b:=ry
 exact⟨(D.ty I2).1,n_getItem hu I2 D k l fun w' s3 I3 rw'=>⟨v,H2,I3,rw',q2⟩⟩
theorem pc_nin(hu:X.A.units+9<cLine)(hi:PE X i ty)(ho:PE X o td):PC X .In i o (tNIn X.w ty td):=by
 intro pins s σ H Q I h
 refine thn (hi pins s σ H _ I h) fun iv s1 ⟨y,H1,I1,ry,q1⟩=>thn (ho pins s1 σ H1 _ I1 q1) fun u s2 ⟨x,H2,I2,rx,a,xs,ep,d,b,ex,ey,D,k,q2⟩=>?_
 subst ex ey
 obtain rfl:u=Value.ref a:=rx
 obtain rfl:iv=Value.ref b:=ry
 exact n_in hu I2 D k fun s3 I3=>⟨.bl (valN xs d).isSome,H2,I3,rfl,q2⟩
theorem ps_nput(hu:X.A.units+9<cLine)(ho:PE X o td)(hi:PE X i ty)(hv:PE X value tv)(hs:swapsWith value (some (.Subscript o i pos')) pos.line X.env=pure false) :
  PS X (.Assign [.Subscript o i pos'] value pos) (sNPut X.w td ty tv):=by
 intro pins s σ H D I h
 refine wpAny_Assign_Subscript (thn (hv pins s σ H _ I h) fun r s1 ⟨v,H1,I1,rv,q1⟩=>thn (ho pins s1 σ H1 _ I1 q1) fun u s2 ⟨x,H2,I2,rx,q2⟩=>thn (hi pins s2 σ H2 _ I2 q2) fun iv s3 ⟨y,H3,I3,ry,a,xs,ep,d,b,ex,ey,dn,k,l,q3⟩=>?_) hs
 subst ex ey
 obtain rfl:u=Value.ref a:=rx
 obtain rfl:iv=Value.ref b:=ry
 exact n_setItem hu I3 dn k l rv fun ep' s4 I4=>⟨σ,_,I4,q3 ep'⟩
theorem pe_nget2(hu:X.A.units+9<cLine)(ho:PE X o td)(he:PE X e ty)(hf:PE X f tx)(m:M2 X o "get" apos e f cpos):PE X (.Call (.Attribute o "get" apos) [e,f] [] cpos) (tNGet2 X.w td ty tx):=by
 intro pins s σ H Q I h
 refine wpAny_Call_method m.base m.few m.line PySem.F.plainAttrs_dict PySem.F.slot_dict_get PySem.F.type_dict_get (thn (ho pins s σ H _ I h) fun u s1 ⟨x,H1,I1,rx,a,ex,⟨xs0,ep0,D0⟩,q1⟩=>?_)
 subst ex
 obtain rfl:u=Value.ref a:=rx
 obtain⟨t1,t2⟩:=D0.ty I1
 refine⟨t1,t2,?_⟩
 rw[m.trees]
 refine Calls.callWith_builtin rfl (Calls.evalArgs_plain (Calls.spliced_cons (thn (he pins s1 σ H1 _ I1 q1) fun iv s2 ⟨y,H2,I2,ry,q2⟩=>
  Calls.spliced_cons (thn (hf pins s2 σ H2 _ I2 q2) fun fv s3 ⟨z,H3,I3,rz,xs,ep,d,b,ey,D,k,q3⟩=>Calls.spliced_nil ?_))))
 subst ey
 obtain rfl:iv=Value.ref b:=ry
 exact n_get2 hu I3 D k rz fun w' s4 I4 rw'=>⟨_,H3,I4,rw',q3⟩
theorem dn_empty{P:Program}{w:World}{H:Hp}(h:Heap):ObjOk P w H (h.push {cls:=.type "dict",data:=.dict #[]}) h.objs.size (DNo w h.objs.size [] 0):=
 ⟨⟨[],.nil,_,#[],Heap.get?_push_size _ rfl,⟨rfl,rfl,rfl⟩,rfl,rfl,List.nodup_nil⟩,⟨_,Heap.get?_push_size _ rfl⟩,fun _ _ ⟨zs,r',o',es',k1,k2⟩ k=>⟨zs,r',o',es',k o' k1,k2⟩⟩
theorem pe_nnew:PE X (.Dict [] [] pos) (tNNew X.w):=fun pins s σ H Q I h=>
 wpAny_Dict_empty ⟨.ref s.heap.objs.size,_,I.laid (a:=s.heap.objs.size) (o:=DNo X.w s.heap.objs.size [] 0) (t':=s.toks) (fun _ _ q=>Heap.get?_push_of_some _ q) (Nat.le_refl _) (dn_empty s.heap),rfl,
  h _ (I.hok.fresh (Nat.le_refl _)) (beq_eq_false_iff_ne.mpr (Ne.symm (Nat.ne_of_lt I.big)))⟩
theorem DN.new{w:World}{H:Hp}{p:Addr}(h:(p==sysModules)=false):DN w (upd H p (DNo w p [] 0)) p [] 0:=⟨upd_same,(fun x hx=>nomatch hx),Nat.zero_le _,h⟩
end
noncomputable def tNDisp(w:World)(tk tv:TE):TE:=fun σ H Q=>∀p,H p=none->(p==sysModules)=false->tk σ (upd H p (DNo w p [] 0)) fun y H1=>tv σ H1 fun v H2=>∃d b,y=.ref b/\DN w H2 p [] 0/\KRep H2 d b/\∀ep,Q (.ref p) (upd H2 p (DNo w p [(d,b,v)] ep))
theorem pe_ndisp{X:Cx}{pos:Pos}{k v:Expr}{tk tv:TE}(hu:X.A.units+8<cLine)(hk:PE X k tk)(hv:PE X v tv):PE X (.Dict [some k] [v] pos) (tNDisp X.w tk tv):=by
 intro pins s σ H Q I q
 have hn:=I.hok.fresh (Nat.le_refl s.heap.objs.size)
 have I1:=I.laid (a:=s.heap.objs.size) (o:=DNo X.w s.heap.objs.size [] 0) (h':=s.heap.push {cls:=.type "dict",data:=.dict #[]}) (t':=s.toks) (fun _ _ q=>Heap.get?_push_of_some _ q) (Nat.le_refl _) (dn_empty s.heap)
 refine wpAny_Dict_any rfl rfl (by intro z;cases z) (by show 1<=15;decide) ?_
 refine pairTrees_cons_walk (thn (hk pins _ σ _ _ I1 (q _ hn (beq_eq_false_iff_ne.mpr (Ne.symm (Nat.ne_of_lt I.big))))) fun u s1 ⟨y,H1,I1,ry,q1⟩=>thn (hv pins s1 σ H1 _ I1 q1) fun r s2 ⟨x,H2,I2,rv,d,b,ey,D,kr,q2⟩=>pairTrees_nil_walk ?_)
 subst ey
 obtain rfl:u=Value.ref b:=ry
 obtain⟨ys,rel,dd⟩:=D.at I2
 cases rel
 unfold storeAll
 rw[List.forIn_cons]
 refine wpAny_bind (wpAny_bind (wpAny_dictSet_heap (knd:=dataKind X.prog X.w) (hsz:=Nat.zero_le _) hu (kr.at I2) dd fun h' dd' hs=>wpAny_pure ?_))
 show wpAny _ _ (forIn ([]:List (Value×Value)) PUnit.unit _) _ _ _
 rw[List.forIn_nil]
 obtain⟨ep,ok⟩:=DN.ext (H':=upd H2 s.heap.objs.size (DNo X.w s.heap.objs.size [(d,b,x)] 0)) (xs:=[(d,b,x)]) (.cons ⟨rfl,rfl,rv⟩ .nil) dd'
 refine wpAny_pure ⟨.ref s.heap.objs.size,_,?_,rfl,q2 ep⟩
 have he:∃q,h'.get? s.heap.objs.size=some q:=let ⟨q,_,_,hq,_⟩:=dd';⟨q,hq⟩
 exact d_write I2 (by rw[D.obj];exact True.intro) hs he ok
theorem DN.one{w:World}{H:Hp}{p b:Addr}{d:PyData}{ep:Nat}(v:V)(D:DN w H p [] ep)(k:KRep H d b)(ep':Nat):DN w (upd H p (DNo w p [(d,b,v)] ep')) p [(d,b,v)] ep':=by
 have t:Tk H (upd H p (DNo w p [(d,b,v)] ep')):=fun c ys q=>by rw[upd_ne (ne_of q D.obj (by intro z;cases z))];exact q
 refine⟨upd_same,fun x hx=>?_,by show 1<=sizeLine;decide,D.sys⟩
 rw[List.mem_singleton.mp hx];exact k.tk t
section
variable{prog:Program}{w:World}{A:Around}{E:Value->Shared->Prop}{s:Shared}
theorem quietEq_tup{a:Addr}{Q:Bool->Shared->Prop}(hT:s.TypeIs (.ref a) "tuple")(q:Q false s):wpAny (model prog w) A (Builtin.Dict.quietEq (.ref a)) Q E s:=by
 unfold Builtin.Dict.quietEq
 refine wpAny_bind (wpAny_specialOf (name:="__eq__") hT F.slot_tuple_eq.lookup ?_)
 refine wpAny_pure ?_
 have e:((some (Value.builtin "tuple.__eq__"):Option Value)==some (Value.builtin "object.__eq__"))=false:=by decide
 rw[e];exact q
theorem copy_one{o b:Addr}{d:PyData}{u:Value}{Q:Value->Shared->Prop}(hoS:(o==sysModules)=false)(ho:s.heap.DictOfH (dataKind prog w) o [(d,b,u)])
  (h:∀h',h'.DictOfH (dataKind prog w) s.heap.objs.size [(d,b,u)]->Heap.SameBut s.heap.objs.size (s.heap.push {cls:=.type "dict",data:=.dict #[]}) h'->Q (.ref s.heap.objs.size) {s with heap:=h'}) :
  wpAny (model prog w) A (call (.type "dict") [.ref o]) Q E s:=by
 refine callType_codes (Q₁:=fun obj s₁=>obj=.ref s.heap.objs.size/\s₁={s with heap:=s.heap.push {cls:=.type "dict",data:=.dict #[]}}) F.kt_called_dict (F.kt_typeCall_dict_1 _) F.entry_dict_init (kt_code_dict_new _ ⟨rfl,rfl⟩) ?_
 rintro obj s₁ ⟨rfl,rfl⟩
 have kp:∀c x,s.heap.get? c=some x->(s.heap.push {cls:=.type "dict",data:=.dict #[]}).get? c=some x:=fun c x z=>Heap.get?_push_of_some _ z
 obtain⟨oo,es,ep,hoo,hc,hdo,he,his,hn⟩:=ho
 have hes:es=#[⟨hashD w d,.ref b,u⟩]:=by
  have e2:es.toList=[⟨hashD w d,.ref b,u⟩]:=he
  rw[<-Array.toArray_toList (xs:=es),e2]
 subst hes
 have hk:=his _ (List.mem_singleton.mpr rfl)
 have hk':KeyN (s.heap.push {cls:=.type "dict",data:=.dict #[]}) d b:=by
  obtain⟨as,r⟩:=hk.reads
  exact⟨hk.key,hk.lay,hk.deep,as,PyProof.Rows.Reads.keeps kp r⟩
 have hT:(s.heap.push {cls:=.type "dict",data:=.dict #[]}).get? b=s.heap.get? b:=by
  obtain⟨as,r⟩:=hk.reads
  obtain⟨ds,rfl⟩:=hk.tup
  cases r with
  | tuple h1 _ _ _=>rw[kp _ _ h1,h1]
 have hTb:∃x,(s.heap.push {cls:=.type "dict",data:=.dict #[]}).get? b=some x/\x.cls=.type "tuple":=by
  obtain⟨as,r⟩:=hk.reads
  obtain⟨ds,rfl⟩:=hk.tup
  cases r with
  | tuple h1 h2 _ _=>exact⟨_,kp _ _ h1,h2⟩
 have hnew:(s.heap.push {cls:=.type "dict",data:=.dict #[]}).get? s.heap.objs.size=some {cls:=.type "dict",data:=.dict #[]}:=Heap.get?_push_size _ rfl
 have hoo':=kp _ _ hoo
 have hdo':s.heap.objs.size≠o:=fun e=>absurd (Heap.lt_size hoo) (by rw[e];exact Nat.lt_irrefl _)
 have tyN:({s with heap:=s.heap.push {cls:=.type "dict",data:=.dict #[]}}:Shared).TypeIs (.ref s.heap.objs.size) "dict":=⟨_,hnew,rfl⟩
 have tyO:({s with heap:=s.heap.push {cls:=.type "dict",data:=.dict #[]}}:Shared).TypeIs (.ref o) "dict":=⟨_,hoo',hc.1⟩
 refine⟨tyN,F.args_dict_init_2 _ _,?_⟩
 unfold Builtin.«dict.__init__»
 refine wpAny_bind ?_
 unfold Builtin.Dict.selfAndRest
 refine wpAny_bind (wpAny_notOrdered_dict tyN ?_)
 show wpAny _ _ (pure (s.heap.objs.size,[Value.ref o])) _ _ _
 refine wpAny_pure ?_
 show wpAny _ _ (Builtin.Dict.updateFrom "dict.__init__" s.heap.objs.size (.ref o) [] .none) _ _ _
 unfold Builtin.Dict.updateFrom
 refine wpAny_bind (wpAny_typeOf tyO ?_)
 rw[if_neg (by decide)]
 refine wpAny_bind ?_
 unfold Builtin.Dict.merge
 refine wpAny_bind ?_
 unfold Builtin.Dict.readDirectly
 refine wpAny_bind (wpAny_isInstance tyO isSubtype_dict_dict ?_)
 simp only[Bool.not_true,Bool.false_eq_true,if_false]
 refine wpAny_bind (wpAny_specialOf tyO F.slot_dict_iter.lookup (wpAny_pure ?_))
 simp only[beq_self_eq_true,if_true]
 refine wpAny_bind (wpAny_pure ?_)
 unfold Builtin.Dict.mergeDict
 rw[if_neg (by simpa using hdo')]
 unfold Builtin.Dict.showsAll
 rw[if_neg (by rw[hoS];exact Bool.false_ne_true)]
 refine wpAny_bind (wpAny_pure ?_)
 refine wpAny_bind (wpAny_dictEntries hoo' hdo ?_)
 have few:(decide ((#[⟨hashD w d,.ref b,u⟩]:Array DictEntry).size<=8)&&(#[⟨hashD w d,.ref b,u⟩]:Array DictEntry).all fun e=>(keyPart e.key).isSome)=false:=by simp[keyPart]
 dsimp only
 rw[few]
 simp only[Bool.not_false,if_true]
 refine wpAny_bind (wpAny_dictEntries hnew rfl ?_)
 simp only[Array.isEmpty_empty,if_true]
 refine wpAny_bind ?_
 unfold Builtin.Dict.entriesForEmpty
 refine wpAny_bind (wpAny_dictEntries hoo' hdo ?_)
 refine wpAny_bind ?_
 rw[<-Array.forIn_toList]
 show wpAny _ _ (forIn [(⟨hashD w d,.ref b,u⟩:DictEntry)] PUnit.unit _) _ _ _
 rw[List.forIn_cons]
 refine wpAny_bind (wpAny_bind (quietEq_tup (s:={s with heap:=_}) hTb ?_))
 rw[if_pos (show(!false)=true from rfl),if_neg (Nat.not_lt.mpr (show _<=1 from Array.size_filter_le))]
 refine wpAny_pure ?_
 dsimp only
 rw[List.forIn_nil]
 refine wpAny_pure (wpAny_pure ?_)
 rw[if_pos (show(!(#[⟨hashD w d,.ref b,u⟩]:Array DictEntry).isEmpty)=true from rfl)]
 refine wpAny_bind (wpAny_updateDictKeysTo hnew rfl (wpAny_pure ?_) (by show 1<=sizeLine+1;decide))
 refine wpAny_bind (wpAny_pure (wpAny_pure ⟨rfl,h _ ⟨_,_,1,Heap.get?_update_self _ hnew (Obj.isFreed_of_dict (Obj.data_mapDictKeys rfl _)),Obj.ExactDict.mapDictKeys ⟨rfl,rfl,rfl⟩ _,Obj.data_mapDictKeys rfl _,rfl,fun x hx=>?_,hn⟩ (Heap.SameBut.update ..)⟩))
 rw[List.mem_singleton.mp hx]
 obtain⟨as,r⟩:=hk'.reads
 exact⟨hk'.key,hk'.lay,hk'.deep,as,reads_same hnew rfl (Heap.SameBut.update ..) hk'.key r⟩
end
noncomputable def rCopy1(w:World):List V->Hp->VK->Prop:=fun vs H Q=>∃a d b v ep,vs=[.ref a]/\DN w H a [(d,b,v)] ep/\∀p ep,H p=none->(p==sysModules)=false->Q (.ref p) (upd H p (DNo w p [(d,b,v)] ep))
theorem call_copy1{X:Cx}:CallR X (.type "dict") (rCopy1 X.w):=by
 intro pins s σ H xs us Q I r ⟨a,d,b,v,ep,e,D,q⟩
 subst e
 cases r with
 | @cons _ u _ us h t=>
 cases t
 obtain rfl:u=Value.ref a:=h
 obtain⟨ys,rel,dd⟩:=D.at I
 cases rel with
 | @cons _ y _ ys h t=>
 cases t
 obtain⟨d',b',u⟩:=y
 obtain⟨h1,h2,h3⟩:=h
 cases (show d=d' from h1)
 cases (show b=b' from h2)
 have hp:=I.hok.fresh (Nat.le_refl s.heap.objs.size)
 refine copy_one D.sys dd fun h' dd' hs=>?_
 obtain⟨ep',ok⟩:=DN.ext (H':=upd H s.heap.objs.size (DNo X.w s.heap.objs.size [(d,b,v)] 0)) (xs:=[(d,b,v)]) (.cons ⟨rfl,rfl,h3⟩ .nil) dd'
 refine⟨.ref s.heap.objs.size,_,?_,rfl,q _ ep' hp (beq_eq_false_iff_ne.mpr (Ne.symm (Nat.ne_of_lt I.big)))⟩
 refine I.laid (a:=s.heap.objs.size) (t':=s.toks) (fun c x z=>?_) (Nat.le_refl _) ok
 have hne:c≠s.heap.objs.size:=Nat.ne_of_lt (Heap.lt_size z)
 rw[hs.2 c hne]
 exact Heap.get?_push_of_some _ z
theorem DN.copy{w:World}{H:Hp}{a p:Addr}{xs:List KA}{ep:Nat}(D:DN w H a xs ep)(hp:H p=none)(hs:(p==sysModules)=false)(ep':Nat):DN w (upd H p (DNo w p xs ep')) p xs ep':=
 ⟨upd_same,fun x hx=>(D.keys x hx).tk (Tk.fresh hp),D.len,hs⟩
section
variable{prog:Program}{w:World}{A:Around}{E:Value->Shared->Prop}{s:Shared}{v d it:Addr}{es:Array DictEntry}{ep i:Nat}{p q:Value}
theorem itemsV{Q:Value->Shared->Prop}(lo:(d==sysModules)=false)(hm:DE s.heap d es ep)(z:Q (.ref s.heap.objs.size) {s with heap:=s.heap.push {cls:=.type "dict_items",data:=.fields #[.ref d]}}) :
  wpAny (model prog w) A (call (.builtin "dict.items") [.ref d]) Q E s:=by
 have T:=hm.ty
 refine wpAny_call_entry F.slot_dict_items T F.entry_dict_items (wpAny_bind (wpAny_bind (wpAny_notOrdered_dict T ?_))) (F.args_dict_items_1 _)
 refine(wpAny_pure ?_:wpAny _ _ (pure d) _ _ s)
 have sh:Builtin.Dict.showsAll d=pure ():=by unfold Builtin.Dict.showsAll;rw[if_neg (by rw[lo];simp)]
 refine(?_:wpAny _ _ (Builtin.Dict.showsAll d >>= _) _ _ s)
 rw[sh]
 exact wpAny_bind (wpAny_pure (wpAny_bind (wpAny_newObj_type (wpAny_pure ⟨_,rfl,z⟩))))
theorem ownsYes:Builtin.Dict_items.ownsTuple "dict_itemiterator" = true:=by decide
theorem iterI{Q:Value->Shared->Prop}(hv:s.heap.IsItemsView v d)(hm:DE s.heap d es ep)
  (z:Q (.ref s.heap.objs.size) {s with heap:=s.heap.push {cls:=.type "dict_itemiterator",data:=.fields #[.none,.bool false,.ref d,.int 0 0,.int es.size 0,.int ep 0,.none,.none]}}):wpAny (model prog w) A (pyIter (.ref v)) Q E s:=by
 obtain⟨ov,hov,_,hdv⟩:=id hv
 obtain⟨o,ho,_,hdat⟩:=id hm
 refine wpAny_pyIter_slot hv.typeIs F.slot_dict_items_iter (wpAny_call_entry F.slot_dict_items_iter hv.typeIs F.entry_dict_items_iter (wpAny_bind (wpAny_pure (wpAny_bind (wpAny_bind (wpAny_field hov hdv (x:=.ref d) rfl (wpAny_pure (wpAny_bind ?_))))))) (F.args_dict_items_iter_1 _))
 refine(wpAny_bind (wpAny_dictEntries ho hdat (wpAny_bind (wpAny_dictEpoch ho hdat ?_))))
 simp only[ownsYes,if_true]
 refine wpAny_newObj_type (wpAny_pure (x_EAEE _ rfl "dict_itemiterator" _ ⟨⟨_,Heap.get?_push_size _ rfl,rfl⟩,F.slot_dict_itemiterator_next.lookup,?_⟩)) (by simp only[sizeOk,Builtin.Dict_items.ownedTupleFields,List.size_toArray,List.length_append,List.length_cons,List.length_nil,sizeLine_eq];omega)
 simpa [rawInt,Builtin.Dict_items.ownedTupleFields]using z
theorem itemI{Q:Option Value->Shared->Prop}{e:DictEntry}(hit:IsItemIter s.heap it d i es.size ep p q)(hm:DE s.heap d es ep)(hx:es[i]?=some e)
  (z:∀h',IsItemIterOut h' it d (i+1) es.size ep e.key e.val s.heap.objs.size->h'.get? s.heap.objs.size=some {cls:=.type "tuple",data:=.seq #[e.key,e.val]}->
   (∀b o,b≠it->s.heap.get? b=some o->h'.get? b=some o)->Q (some (.ref s.heap.objs.size)) {s with heap:=h'}):wpAny (model prog w) A (pyNext (.ref it)) Q E s:=by
 obtain⟨h0,ga,dr,tk,os⟩:=s
 have T:Shared.TypeIs ⟨h0,ga,dr,tk,os⟩ (.ref it) "dict_itemiterator":=⟨_,hit,rfl⟩
 obtain⟨od,hod,_,hdd⟩:=id hm
 unfold pyNext
 refine wpAny_bind (wpAny_attempt (wpAny_callSpecial?_slot (name:="__next__") T F.slot_dict_itemiterator_next (wpAny_call_entry F.slot_dict_itemiterator_next T F.entry_dict_itemiterator_next (wpAny_bind (wpAny_pure (wpAny_bind (wpAny_bind ?_)))) (F.args_dict_itemiterator_next_1 _))))
 refine wpAny_bind (wpAny_typeNameOfWhole_itemiter T (wpAny_pure (wpAny_bind (wpAny_fieldsOf hit rfl ?_))))
 simp only[ownsYes,if_true]
 refine(?_:wpAny _ _ (if (Value.ref d==Value.none)=true then _ else _) _ _ _)
 rw[if_neg (by intro z;cases z)]
 refine wpAny_bind (wpAny_pure (wpAny_bind (wpAny_dictEntries hod hdd ?_)))
 rw[if_neg (by simp)]
 refine wpAny_bind (wpAny_pure (wpAny_bind (wpAny_dictEpoch hod hdd ?_)))
 rw[if_neg (by simp)]
 refine wpAny_pure ?_
 have nn:¬((i:Int)<0):=by omega
 simp only[nn,if_false,Int.toNat_natCast,hx]
 refine wpAny_bind (wpAny_bind (wpAny_typeNameOfWhole_itemiter T (wpAny_pure (wpAny_bind (wpAny_isOneOf_itemiter T ?_)))))
 refine(wpAny_bind (wpAny_setField_rec hit (by simp) fun h1 e1 s1=>?_):wpAny _ _ (setField (.ref it) 3 (rawInt ((i:Int)+1)) >>= _) _ _ ⟨h0,ga,dr,tk,os⟩)
 replace s1:Heap.SameBut it h0 h1:=s1
 replace e1:IsItemIter h1 it d (i+1) es.size ep p q:=by
  have ee:((i+1:Nat):Int)=(i:Int)+1:=by omega
  unfold IsItemIter;rw[ee];simpa [rawInt]using e1
 have T1:Shared.TypeIs ⟨h1,ga,dr,tk,os⟩ (.ref it) "dict_itemiterator":=⟨_,e1,rfl⟩
 refine wpAny_bind (wpAny_holding (wpAny_bind (wpAny_isOneOf_itemiter T1 (wpAny_bind (wpAny_isOneOf_itemiter T1 ?_)))))
 refine(wpAny_bind (wpAny_newTuple ?_):wpAny _ _ (Builtin.Dict_items.pairFromOwner (.ref it) 6 e.key e.val) _ _ ⟨h1,ga,dr,tk,os⟩)
 have z1:h1.objs.size=h0.objs.size:=s1.1
 have hil:it<h0.objs.size:=Heap.lt_size hit
 have e2:IsItemIter (h1.push {cls:=.type "tuple",data:=.seq #[e.key,e.val]}) it d (i+1) es.size ep p q:=Heap.get?_push_of_some _ e1
 have t2:(h1.push {cls:=.type "tuple",data:=.seq #[e.key,e.val]}).get? h0.objs.size=some {cls:=.type "tuple",data:=.seq #[e.key,e.val]}:=by rw[<-z1];exact Heap.get?_push_size _ rfl
 have k2:∀b o,b≠it->h0.get? b=some o->(h1.push {cls:=.type "tuple",data:=.seq #[e.key,e.val]}).get? b=some o:=fun b o hb x=>Heap.get?_push_of_some _ (s1.extBut b o hb x)
 generalize h1.push {cls:=.type "tuple",data:=.seq #[e.key,e.val]}=h2 at e2 t2 k2
 rw[z1]
 refine(?_:wpAny _ _ (Builtin.Dict_items.ownedTupleIsFree (.ref it) >>= _) _ _ ⟨h2,ga,dr,tk,os⟩)
 clear e1 s1 T1 z1 h1
 refine wpAny_bind (wpAny_bind (wpAny_field e2 rfl (x:=.none) rfl (wpAny_pure ?_)))
 simp only[if_true]
 refine wpAny_bind (wpAny_field e2 rfl (x:=p) rfl (wpAny_bind (wpAny_field e2 rfl (x:=q) rfl (wpAny_bind (wpAny_setField_rec e2 (by simp) fun h3 e3 s3=>?_)))))
 replace e3:IsItemIter h3 it d (i+1) es.size ep e.key q:=e3
 refine wpAny_bind (wpAny_setField_rec e3 (by simp) fun h4 e4 s4=>?_)
 replace e4:IsItemIter h4 it d (i+1) es.size ep e.key e.val:=e4
 refine wpAny_bind (wpAny_setField_rec e4 (by simp) fun h5 e5 s5=>?_)
 replace e5:IsItemIterOut h5 it d (i+1) es.size ep e.key e.val h0.objs.size:=e5
 refine wpAny_bind (wpAny_setField_rec e5 (by simp) fun h6 e6 s6=>?_)
 replace e6:IsItemIterOut h6 it d (i+1) es.size ep e.key e.val h0.objs.size:=e6
 have all:∀b o,b≠it->h2.get? b=some o->h6.get? b=some o:=fun b o hb x=>s6.extBut b o hb (s5.extBut b o hb (s4.extBut b o hb (s3.extBut b o hb x)))
 exact wpAny_bind (wpAny_letGo (wpAny_pure (wpAny_pure ⟨_,rfl,wpAny_pure (z h6 e6 (all _ _ (Nat.ne_of_gt hil) t2) fun b o hb x=>all b o hb (k2 b o hb x))⟩)))
theorem endI{Q:Option Value->Shared->Prop}(hh:A.handled=none)(hit:IsItemIter s.heap it d i es.size ep p q)(hm:DE s.heap d es ep)(hx:es.size<=i)
  (z:∀h',Heap.ExtBut it s.heap h'->Q none {s with heap:=h'}):wpAny (model prog w) A (pyNext (.ref it)) Q E s:=by
 have T:s.TypeIs (.ref it) "dict_itemiterator":=⟨_,hit,rfl⟩
 obtain⟨od,hod,_,hdd⟩:=id hm
 unfold pyNext
 refine wpAny_bind (wpAny_attempt (wpAny_callSpecial?_slot (name:="__next__") T F.slot_dict_itemiterator_next (wpAny_call_entry F.slot_dict_itemiterator_next T F.entry_dict_itemiterator_next (wpAny_bind (wpAny_pure (wpAny_bind (wpAny_bind ?_)))) (F.args_dict_itemiterator_next_1 _))))
 refine wpAny_bind (wpAny_typeNameOfWhole_itemiter T (wpAny_pure (wpAny_bind (wpAny_fieldsOf hit rfl ?_))))
 simp only[ownsYes,if_true]
 refine(?_:wpAny _ _ (if (Value.ref d==Value.none)=true then _ else _) _ _ _)
 rw[if_neg (by intro z;cases z)]
 refine wpAny_bind (wpAny_pure (wpAny_bind (wpAny_dictEntries hod hdd ?_)))
 rw[if_neg (by simp)]
 refine wpAny_bind (wpAny_pure (wpAny_bind (wpAny_dictEpoch hod hdd ?_)))
 rw[if_neg (by simp)]
 refine wpAny_pure ?_
 have nn:¬((i:Int)<0):=by omega
 simp only[nn,if_false,Int.toNat_natCast,Array.getElem?_eq_none hx]
 refine wpAny_bind (wpAny_bind (wpAny_typeNameOfWhole_itemiter T (wpAny_pure ?_)))
 refine(wpAny_bind (wpAny_setField hit rfl (by simp) ?_):wpAny _ _ (setField (.ref it) 2 .none >>= _) _ _ s)
 refine(wpAny_bind ?_:wpAny _ _ (newExc (.type "StopIteration") [] >>= _) _ _ _)
 unfold newExc newTuple
 refine wpAny_bind (wpAny_newObj_type (wpAny_bind (wpAny_of_eq (a:=Value.none) rfl (wpAny_newObj_type ?_ (by size_fits)))) (by size_fits))
 unfold raiseNew
 refine wpAny_bind (wpAny_handled ?_)
 rw[show A.in1.handled=none from hh]
 refine wpAny_bind (wpAny_pure (wpAny_throw (wpAny_bind ?_)))
 refine wpAny_isInstance (T:="StopIteration") (b:=true) (⟨_,Heap.get?_push_size _ rfl,rfl⟩) isSubtype_stop ?_
 exact wpAny_pure (z _ (((Heap.SameBut.update ..).extBut.push _).push _))
end
noncomputable def Jit(w:World)(a:Addr)(xs:List KA)(ep:Nat):It:=
 ⟨fun i H=>DN w H a xs ep/\i<xs.length,fun i H v H'=>∃p x,xs[i]?=some x/\H p=none/\v=.ref p/\H'=upd H p (.tup [.ref x.2.1,x.2.2]),fun i H=>DN w H a xs ep/\xs.length<=i⟩
theorem ent_itemiter:entryFor table "dict_itemiterator.__iter__" = some Builtin.«dict_keyiterator.__iter__»:=by
 exact entryFor_alias (id':="dict_keyiterator.__iter__") (by kernel_rfl) rfl (by decide +kernel) (by kernel_rfl)
theorem turn_items{P:Program}{w:World}{K:PySem.W.Frag}{elts:List Expr}{x1}{pos:Pos}(a it:Addr)(xs:List KA)(ep:Nat) :
  Turn P w K (.Tuple elts x1 pos) (Jit w a xs ep) [it] it (fun i h=>∃p q,IsItemIter h it a i xs.length ep p q)where
 mem:=by simp
 obj:=fun i h st b hb=>by
  obtain⟨p,q,he⟩:=st
  rw[List.mem_singleton.mp hb]
  exact⟨_,he,fun v z=>by cases z⟩
 keep:=fun i h h' st k=>by
  obtain⟨p,q,he⟩:=st
  exact⟨p,q,k it (by simp) _ he⟩
 item:=by
  intro X hP hw hK hc i pins s σ H E Iv hf st hg
  obtain⟨p,q,he⟩:=st
  obtain⟨D,hi⟩:=hg
  subst hP hw hK
  have fe:=hf it (by simp)
  obtain⟨es,de,hz,hx⟩:=D.de Iv
  obtain⟨e,h1,h2,h3⟩:=hx i xs[i] (List.getElem?_eq_getElem hi)
  have hel:it<s.heap.objs.size:=Heap.lt_size he
  rw[<-hz]at he
  refine itemI he de h1 fun g eo t4 k=>⟨_,rfl,?_⟩
  refine wpAny_letOwnedTupleGo_items (s:={s with heap:=g}) eo fun g' e' sb=>?_
  have I1:Inv X pins σ (upd H s.heap.objs.size (.tup [.ref xs[i].2.1,xs[i].2.2])) {s with heap:=s.heap.push {cls:=.type "tuple",data:=.seq #[e.key,e.val]},toks:=s.toks}:=
   Iv.laid (t':=s.toks) (fun b o q=>Heap.get?_push_of_some _ q) (Nat.le_refl _) ⟨by show 2<=sizeLine;decide,[e.key,e.val],.cons h2 (.cons h3 .nil),(x_EAAE _ (Heap.get?_push_size _ rfl) rfl _ rfl)⟩
  have up:FpOk X pins (upd H s.heap.objs.size (.tup [.ref xs[i].2.1,xs[i].2.2])) it:=⟨by rw[upd_ne (Nat.ne_of_lt hel)];exact fe.1,fe.2⟩
  have I2:=Inv.turned (s:={s with heap:=s.heap.push {cls:=.type "tuple",data:=.seq #[e.key,e.val]},toks:=s.toks}) (h':=g') (t':=s.toks) I1 (fun b o hb z=>by
   refine(sb.2 b hb).trans ?_
   rcases Heap.get?_push_cases z with ⟨z1,z2⟩|z
   .rw[z1,z2];exact t4
   .exact k b o hb z) up.1 up.2.1 up.2.2.2.1 up.2.2.2.2.1 up.2.2.2.2.2
  rw[hz]at e'
  exact⟨.ref s.heap.objs.size,_,I2,rfl,⟨_,_,List.getElem?_eq_getElem hi,Iv.hok.fresh (Nat.le_refl _),rfl,rfl⟩,⟨_,_,e'⟩,fun b hb=>by rw[List.mem_singleton.mp hb];exact up.1⟩
 done:=by
  intro X hP hw hK hc i pins s σ H E Iv hf st hg
  obtain⟨p,q,he⟩:=st
  obtain⟨D,hi⟩:=hg
  subst hP hw hK
  have fi:=hf it (by simp)
  obtain⟨es,de,hz,hx⟩:=D.de Iv
  rw[<-hz]at he hi
  exact endI (Iv.ok.hd hc) he de hi fun g kp=>⟨rfl,Iv.turned (t':=s.toks) (fun b o hb q=>kp b o hb q) fi.1 fi.2.1 fi.2.2.2.1 fi.2.2.2.2.1 fi.2.2.2.2.2⟩
 self:=fun A i s Q E st h=>by
  obtain⟨p,q,he⟩:=st
  have T:s.TypeIs (.ref it) "dict_itemiterator":=⟨_,he,rfl⟩
  refine wpAny_pyIter_slot T F.slot_dict_itemiterator_iter (wpAny_call_entry F.slot_dict_itemiterator_iter T ent_itemiter ?_ (F.args_dict_itemiterator_iter_1 _))
  refine(wpAny_pure ?_:wpAny _ _ (ret (.ref it)) _ _ s)
  exact x_EAEE _ rfl "dict_itemiterator" _ ⟨T,F.slot_dict_itemiterator_next.lookup,h⟩
section
variable{X:Cx}{o:Expr}{elts:List Expr}{x1:Nat}{tpos apos cpos:Pos}{to:TE}
noncomputable def iItems(w:World)(to:TE):TI:=fun σ H R=>to σ H fun v H1=>∃a xs ep,v=.ref a/\DN w H1 a xs ep/\R (Jit w a xs ep) H1
theorem pi_items(ho:PE X o to)(hbase:attributeBase o "items" X.env (eval o X.env)=eval o X.env:=by rfl)(hline:(apos.endLine==cpos.line)=true:=by rfl) :
  PI X (.Tuple elts x1 tpos) (.Call (.Attribute o "items" apos) [] [] cpos) (iItems X.w to):=by
 intro pins s σ H R I h
 refine wpAny_Call_method0_late hbase hline (thn (ho pins s σ H _ I h) fun v s1 ⟨x,H1,I1,r1,a,xs,ep,e,D,q⟩=>?_)
 subst e
 cases (show v=Value.ref a from r1)
 obtain⟨h1,h2⟩:=D.ty I1
 obtain⟨es,de,hz,_⟩:=D.de I1
 refine⟨"dict","dict.items",PySem.F.plainAttrs_dict,PySem.F.slot_dict_items,PySem.F.type_dict_items,h1,h2,Calls.callWith_builtin rfl (PySem.evalArgs_none (itemsV D.sys de ?_))⟩
 have de':DE (s1.heap.push {cls:=.type "dict_items",data:=.fields #[.ref a]}) a es ep:=de.on fun o e=>Heap.get?_push_of_some _ e
 refine iterI (s:={s1 with heap:=_}) ⟨_,Heap.get?_push_size _ rfl,rfl,rfl⟩ de' ?_
 have k1:∀b o,s1.heap.get? b=some o->((s1.heap.push {cls:=.type "dict_items",data:=.fields #[.ref a]}).push {cls:=.type "dict_itemiterator",data:=.fields #[.none,.bool false,.ref a,.int 0 0,.int es.size 0,.int ep 0,.none,.none]}).get? b=some o:=fun b o e=>Heap.get?_push_of_some _ (Heap.get?_push_of_some _ e)
 have sz:(s1.heap.push {cls:=.type "dict_items",data:=.fields #[.ref a]}).objs.size=s1.heap.objs.size+1:=Heap.size_push ..
 refine⟨_,[_],_,_,H1,rfl,I1.kept (t':=s1.toks) k1,turn_items a _ xs ep,⟨.none,.none,?_⟩,fun c hc=>?_,q⟩
 .rw[<-hz];exact Heap.get?_push_size _ rfl
 .rw[List.mem_singleton.mp hc]
  exact I1.fpOk (by show s1.heap.objs.size<=_;rw[sz];omega) (I1.hok.fresh (by show s1.heap.objs.size<=_;rw[sz];omega))
end
theorem for_items{w:World}{a:Addr}{xs:List KA}{ep:Nat}{g:TG}{tb:TS}{D:Ends}{σ:L2.St}{H:Hp}(Pv:Nat->L2.St->Hp->Prop)(h0:Pv 0 σ H)(hl:∀i σ H,Pv i σ H->DN w H a xs ep)
  (hs:∀i x p σ H,xs[i]?=some x->H p=none->Pv i σ H->g (.ref p) σ (upd H p (.tup [.ref x.2.1,x.2.2])) fun σ2 H2=>tb {D with nx:=Pv (i+1),ct:=Pv (i+1),bk:=D.nx} σ2 H2) (hd:∀σ H,Pv xs.length σ H->D.nx σ H) :
  ∃W:Nat->Nat->L2.St->Hp->Prop,(∃m,W 0 m σ H)/\∀i m σ H,W i m σ H->
   ((Jit w a xs ep).stop i H/\D.nx σ H)\/((Jit w a xs ep).go i H/\∃N:L2.St->Hp->Prop,(∀σ' H',N σ' H'->∃m',m'<m/\W (i+1) m' σ' H')/\∀v H',(Jit w a xs ep).yld i H v H'->g v σ H' fun σ2 H2=>tb {D with nx:=N,ct:=N,bk:=D.nx} σ2 H2):=by
 refine for_any (Jit w a xs ep) xs.length Pv h0 (fun i σ H hi p=>⟨hl i σ H p,hi⟩) (fun σ H p=>⟨hl _ σ H p,Nat.le_refl _⟩) (fun i v σ H H' hi p y=>?_) hd
 obtain⟨b,x,hx,hb,rfl,rfl⟩:=y
 exact hs i x b σ H hx hb p
theorem comp_items{w:World}{a:Addr}{xs:List KA}{ep:Nat}{sl:List (Option Nat)}{g:TG}{tt:L2.TT}{te:TE}{σ:L2.St}{H1:Hp}{D:Addr}{Q:VK}(Pv:Nat->List V->Hp->Prop)(h0:Pv 0 [] (upd H1 D (.lst [])))(hl:∀i ys H,Pv i ys H->DN w H a xs ep)
  (hs:∀i x p zs G,xs[i]?=some x->G p=none->G D=some (.lst zs)->zs.length<=i->Pv i zs G->g (.ref p) (picks sl σ) (upd G p (.tup [.ref x.2.1,x.2.2])) fun σ2 H2=>Agree (picks sl σ) σ2/\tt σ2 H2 fun b H3=>
   if b=true then te σ2 H3 fun y H4=>∃xs,H4 D=some (.lst xs)/\xs.length<sizeLine/\Nx D i Pv (upd H4 D (.lst (xs++[y])))else Nx D i Pv H3)
  (hd:∀zs G,G D=some (.lst zs)->zs.length<=xs.length->Pv xs.length zs G->Q (.ref D) G):CompR (Jit w a xs ep) sl g tt te σ H1 D Q:=by
 refine comp_by (Jit w a xs ep) xs.length Pv h0 (fun i zs G hi p=>⟨hl i zs G p,hi⟩) (fun zs G p=>⟨hl _ zs G p,Nat.le_refl _⟩) (fun i v zs G G' hi y hD hzl p=>?_) hd
 obtain⟨b,x,hx,hb,rfl,rfl⟩:=y
 exact hs i x b zs G hx hb hD hzl p
noncomputable def Jkn(w:World)(a:Addr)(xs:List KA)(ep:Nat):It:=
 ⟨fun i H=>DN w H a xs ep/\i<xs.length,fun i H v H'=>∃x,xs[i]?=some x/\v=.ref x.2.1/\H'=H,fun i H=>DN w H a xs ep/\xs.length<=i⟩
theorem turn_keysN{P:Program}{w:World}{K:PySem.W.Frag}{tg:Expr}(a it:Addr)(xs:List KA)(ep:Nat) :
  Turn P w K tg (Jkn w a xs ep) [it] it (fun i h=>h.IsKeyIter it a i xs.length ep/\i<=xs.length)where
 mem:=by simp
 obj:=fun i h st b hb=>by
  obtain⟨⟨o,he,_,hd⟩,_⟩:=st
  rw[List.mem_singleton.mp hb]
  exact⟨_,he,fun v z=>by rw[hd]at z;cases z⟩
 keep:=fun i h h' st k=>⟨st.1.at fun o e=>k it (by simp) o e,st.2⟩
 item:=by
  intro X hP hw hK hc i pins s σ H E Iv hf st hg
  obtain⟨D,hi⟩:=hg
  obtain⟨st,_⟩:=st
  subst hP hw hK
  have fe:=hf it (by simp)
  obtain⟨es,de,hz,hx⟩:=D.de Iv
  obtain⟨e,h1,h2,h3⟩:=hx i xs[i] (List.getElem?_eq_getElem hi)
  rw[<-hz]at st
  refine itemE st de h1 fun g st' sb=>⟨_,rfl,?_⟩
  obtain⟨o',ho',hc',hd'⟩:=id st'
  refine go_of (s:={s with heap:=g}) ho' hc' hd' (by decide) ?_
  have I2:=Iv.turned (h':=g) (t':=s.toks) (fun b o hb z=>(sb.2 b hb).trans z) fe.1 fe.2.1 fe.2.2.2.1 fe.2.2.2.2.1 fe.2.2.2.2.2
  rw[hz]at st'
  exact⟨.ref xs[i].2.1,H,I2,h2,⟨_,List.getElem?_eq_getElem hi,rfl,rfl⟩,⟨st',hi⟩,fun b hb=>by rw[List.mem_singleton.mp hb];exact fe.1⟩
 done:=by
  intro X hP hw hK hc i pins s σ H E Iv hf st hg
  obtain⟨D,hi⟩:=hg
  obtain⟨st,hi'⟩:=st
  subst hP hw hK
  have fi:=hf it (by simp)
  obtain⟨es,de,hz,hx⟩:=D.de Iv
  have e:i=es.size:=by omega
  rw[e,<-hz]at st
  exact endE (Iv.ok.hd hc) st de fun g kp=>⟨rfl,Iv.turned (t':=s.toks) (fun b o hb q=>kp b o hb q) fi.1 fi.2.1 fi.2.2.2.1 fi.2.2.2.2.1 fi.2.2.2.2.2⟩
 self:=fun A i s Q E st h=>wpAny_pyIter_keyiter st.1 h
noncomputable def iKeysN(w:World)(to:TE):TI:=fun σ H R=>to σ H fun v H1=>∃a xs ep,v=.ref a/\DN w H1 a xs ep/\R (Jkn w a xs ep) H1
theorem pi_keysN{X:Cx}{o tg:Expr}{to:TE}(ho:PE X o to):PI X tg o (iKeysN X.w to):=by
 intro pins s σ H R I h
 refine thn (ho pins s σ H _ I h) fun v s1 ⟨x,H1,I1,r1,a,xs,ep,e,D,q⟩=>?_
 subst e
 cases (show v=Value.ref a from r1)
 obtain⟨es,de,hz,_⟩:=D.de I1
 refine iterE D.sys de ?_
 refine⟨_,[_],_,_,H1,rfl,I1.kept (t':=s1.toks) (fun b o e=>Heap.get?_push_of_some _ e),turn_keysN a _ xs ep,⟨?_,Nat.zero_le _⟩,fun c hc=>?_,q⟩
 .rw[<-hz];exact⟨_,Heap.get?_push_size _ rfl,rfl,rfl⟩
 .rw[List.mem_singleton.mp hc]
  exact I1.fpOk (Nat.le_refl _) (I1.hok.fresh (Nat.le_refl _))
theorem comp_keysN{w:World}{a:Addr}{xs:List KA}{ep:Nat}{sl:List (Option Nat)}{g:TG}{tt:L2.TT}{te:TE}{σ:L2.St}{H1:Hp}{D:Addr}{Q:VK}(Pv:Nat->List V->Hp->Prop)(h0:Pv 0 [] (upd H1 D (.lst [])))(hl:∀i ys H,Pv i ys H->DN w H a xs ep)
  (hs:∀i x zs G,xs[i]?=some x->G D=some (.lst zs)->zs.length<=i->Pv i zs G->g (.ref x.2.1) (picks sl σ) G fun σ2 H2=>Agree (picks sl σ) σ2/\tt σ2 H2 fun b H3=>
   if b=true then te σ2 H3 fun y H4=>∃xs,H4 D=some (.lst xs)/\xs.length<sizeLine/\Nx D i Pv (upd H4 D (.lst (xs++[y])))else Nx D i Pv H3)
  (hd:∀zs G,G D=some (.lst zs)->zs.length<=xs.length->Pv xs.length zs G->Q (.ref D) G):CompR (Jkn w a xs ep) sl g tt te σ H1 D Q:=by
 refine comp_by (Jkn w a xs ep) xs.length Pv h0 (fun i zs G hi p=>⟨hl i zs G p,hi⟩) (fun zs G p=>⟨hl _ zs G p,Nat.le_refl _⟩) (fun i v zs G G' hi y hD hzl p=>?_) hd
 obtain⟨x,hx,rfl,rfl⟩:=y
 exact hs i x zs _ hx hD hzl p
theorem boot_sumL:bootBuiltins "sum" = some (.builtin "sum"):=by decide +kernel
noncomputable def rSumL(K:PySem.W.Frag):List V->Hp->VK->Prop:=fun vs H Q=>∃(p:Addr) (ns:List Int),vs=[.ref p]/\SqL K H p (ns.map V.int)/\Q (.int ns.sum) H
theorem pre_sum(ns:List Int):∀n:Nat,preSum (fun i=>(ns[i]?).getD 0) n=(ns.take n).sum
 | 0=>by simp[preSum]
 | n+1=>by
  have ih:=pre_sum ns n
  by_cases h:n<ns.length
  .have e:preSum (fun i=>(ns[i]?).getD 0) (n+1)=preSum (fun i=>(ns[i]?).getD 0) n+(ns[n]?).getD 0:=rfl
   rw[e,ih,List.take_add_one,List.getElem?_eq_getElem h,List.sum_append]
   simp
  .rw[List.take_of_length_le (by omega)]
   rw[List.take_of_length_le (by omega)]at ih
   simp[preSum,ih,List.getElem?_eq_none (Nat.le_of_not_lt h)]
theorem call_sumL{X:Cx}(hc:X.calm=true):CallR X (.builtin "sum") (rSumL X.K):=by
 intro pins s σ H xs us Q I r h
 obtain⟨p,ns,rfl,hp,q⟩:=h
 obtain⟨u,rfl,r1⟩:=vals1 r
 cases (show u=Value.ref p from r1)
 obtain⟨its,rv,pl,hz⟩:=I.list hp
 have hlt:p<s.heap.objs.size:=by obtain⟨_,_,e,_⟩:=pl;exact Heap.lt_size e
 have hlen:its.length=ns.length:=by rw[<-rv.length,List.length_map]
 refine call_sum_walkG (wpAny_pyIter_list pl.isList ?_)
 refine⟨s.heap.objs.size,[s.heap.objs.size,p],[s.heap.objs.size],its.toArray.size,_,_,fun i=>(ns[i]?).getD 0,rfl,Walks.list (A:=X.A.in1) (I.ok.hd hc) _ p (Nat.ne_of_lt hlt) its.toArray,
  ⟨⟨_,Heap.get?_push_size _ rfl,rfl,rfl⟩,pl.isList.push _⟩,fun b hb=>?_,fun i v hP=>?_,fun h' tk t' hk=>?_⟩
 .have e:(s.heap.push {cls:=.type "list_iterator",data:=.fields #[.ref p,.int 0 0]}).objs.size=s.heap.objs.size+1:=Heap.size_push ..
  refine(?_:b<(s.heap.push _).objs.size)
  rw[Heap.size_push]
  rcases List.mem_cons.mp hb with z|z
  .rw[z];exact Nat.lt_succ_self _
  .rw[List.mem_singleton.mp z];exact Nat.lt_succ_of_lt hlt
 .have hi:its[i]?=some v:=by simpa using hP
  have hi2:i<ns.length:=by rw[<-hlen];exact(List.getElem?_eq_some_iff.mp hi).1
  obtain⟨u',e1,t,e2⟩:=rv.get (i:=i) (x:=.int ns[i]) (by rw[List.getElem?_map,List.getElem?_eq_getElem hi2];rfl)
  rw[hi]at e1;cases e1
  refine⟨t,?_⟩
  rw[e2]
  show Value.int ns[i] t=Value.int ((ns[i]?).getD 0) t
  rw[List.getElem?_eq_getElem hi2];rfl
 .refine⟨.int ns.sum,H,I.kept (fun b o e=>hk b o (fun hm=>?_) (Heap.get?_push_of_some _ e)),⟨t',?_⟩,q⟩
  .rw[List.mem_singleton.mp hm]at e
   exact Nat.lt_irrefl _ (Heap.lt_size e)
  .rw[List.size_toArray,hlen,pre_sum,List.take_length]
structure Flew(P:Program)(w:World)(outer:List Env)(H:Hp)(h:Heap)(a:Addr)(cls:Value)(H':Hp)(h':Heap):Prop where
 fly:∃B a0,Heap.FlyingW B outer a cls a0 h'/\(∀b o,H' b=some o->∃ob,B.get? b=some ob)/\∀b ob,h.get? b=some ob->b∉frs outer->∃ob',B.get? b=some ob'
 un:Un (frs outer) [] H H' h h'
 hok:HOk P w H' h'
 new:h.get? a=none
 free:H' a=none
noncomputable def CXe(P:Program)(w:World):CXT:=fun outer H s E e s'=>∃a cls H',e=.ref a/\s'.os=s.os/\AllBare s'.gens/\Flew P w outer H s.heap a cls H' s'.heap/\E cls none H'
theorem obj_there{P:Program}{w:World}{H:Hp}{h:Heap}{a:Addr}{o:HO}(x:ObjOk P w H h a o):∃ob,h.get? a=some ob:=by
 cases o with
 | lst xs=>obtain⟨_,_,_,_,e⟩:=x;exact⟨_,e⟩
 | tup xs=>obtain⟨_,_,_,ob,e,_⟩:=x;exact⟨_,e⟩
 | dK kvs=>obtain⟨_,_,_,_,o,_,_,e,_⟩:=x;exact⟨_,e⟩
 | dT kvs=>obtain⟨_,_,_,_,o,_,_,e,_⟩:=x;exact⟨_,e⟩
 | set S n=>obtain⟨o,_,_,_,e,_⟩:=x;exact⟨_,e⟩
 | ins C dx fs=>obtain⟨_,_,_,e,_⟩:=x;exact⟨_,e⟩
 | own y=>exact x
 | xd fs=>obtain⟨_,⟨_,_,_,e,_⟩,_⟩:=x;exact⟨_,e⟩
 | rng lo hi=>obtain⟨_,_,_,e⟩:=x;exact⟨_,e⟩
 | frz o u=>exact⟨_,x.1⟩
 | tbl ps=>exact⟨_,x⟩
 | met f y=>exact⟨_,x⟩
 | ext φ=>exact x.2.1
theorem mem_frs{l:List Env}{env:Env}{a:Addr}(h:env∈l)(e:env.frame=some a):a∈frs l:=List.mem_filterMap.mpr ⟨env,h,e⟩
theorem raise_leaves{P:Program}{w:World}{K:PySem.W.Frag}{mg:Str->Option Value}{base:Heap}{N:List Str}{qual:Str}{scope:Scope}{f:Addr}{cd:Value}{A:Around}{outer:List Env}{s:Shared}{H:Hp}{E:XK}
  {pins:List (Addr×Obj)} {σ:L2.St} {H1:Hp} {s1:Shared} {h':Heap} {e:Addr} {cls:Value} {vs:List Value}
  (I:Inv (cxOf (CXe P w) P w K mg base N qual scope f cd A outer s H E) pins σ H1 s1) (hx:Heap.MadeExcOf s1.heap h' e cls vs) (q:E cls none H1) :
  (cxOf (CXe P w) P w K mg base N qual scope f cd A outer s H E).xe (.ref e) {s1 with heap:=h'}:=by
 obtain⟨t,he,ht,htt⟩:=hx.there
 have hl0:s1.heap.FunFrames base (envOfC qual scope s.heap.objs.size f cd::outer):=I.stack
 have sf:∀b∈frs (envOfC qual scope s.heap.objs.size f cd::outer),H1 b=none:=I.stkFree
 have fL:(envOfC qual scope s.heap.objs.size f cd).frame=some s.heap.objs.size:=rfl
 have sub:∀b,b∈frs (envOfC qual scope s.heap.objs.size f cd::outer)->b=s.heap.objs.size\/b∈frs outer:=fun b hb=>by
  unfold frs at hb
  rw[List.filterMap_cons,fL]at hb
  exact List.mem_cons.mp hb
 have sup:∀b,b∈frs outer->b∈frs (envOfC qual scope s.heap.objs.size f cd::outer):=fun b hb=>by
  unfold frs
  rw[List.filterMap_cons,fL]
  exact List.mem_cons_of_mem _ hb
 have hl1:s1.heap.FunFrames (PySem.W.hideAll s1.heap (frs (envOfC qual scope s.heap.objs.size f cd::outer))) (envOfC qual scope s.heap.objs.size f cd::outer):=PySem.W.funFrames_hide hl0 fun env hm a ha=>mem_frs hm ha
 have hl2:=hl1.of_keeps (h':=h') fun b o hb _=>⟨o,hx.keeps b o hb,rfl⟩
 have en:(PySem.W.hideAll s1.heap (frs (envOfC qual scope s.heap.objs.size f cd::outer))).get? e=none:=by
  cases z:(PySem.W.hideAll s1.heap (frs (envOfC qual scope s.heap.objs.size f cd::outer))).get? e with
  | none=>rfl
  | some o=>have:=PySem.W.of_hideAll _ z;rw[hx.new]at this;cases this
 refine wpAny_leaving_firstW (s:={s1 with heap:=h'}) I.ok.frames hl2 fL he (fun b o hb=>hx.keeps b o (PySem.W.of_hideAll _ hb)) en rfl rfl rfl fun h2 L=>?_
 obtain⟨k1,k2,k3,k4⟩:=L
 have old:∀b o,s1.heap.get? b=some o->b∉frs (envOfC qual scope s.heap.objs.size f cd::outer)->h2.get? b=some o:=fun b o hb hn=>k1 b o (PySem.W.hideAll_get _ hb hn)
 have lt:∀b o,s.heap.get? b=some o->b∉frs outer->b∉frs (envOfC qual scope s.heap.objs.size f cd::outer):=fun b o hb hn hm=>by
  rcases sub b hm with z|z
  .exact absurd (Heap.lt_size hb) (by rw[z];exact Nat.lt_irrefl _)
  .exact hn z
 have frame:∀b o,b∈frs outer->s1.heap.get? b=some o->∃sl,h2.get? b=some {o with slots:=sl}:=fun b o hb ho=>by
  obtain⟨_,o',ho',hd⟩:=hl0.mem (sup b hb)
  rw[ho]at ho';cases ho'
  exact k4 b o (hx.keeps b o ho) hd
 have B1:Un (frs outer) [] H H1 s.heap s1.heap:=I.base
 refine⟨e,cls,H1,rfl,I.os,I.bare,⟨⟨_,_,⟨k1,en,k2.2.2,k3⟩,fun b o hb=>?_,fun b ob hb hn=>?_⟩,⟨fun b o hb hn hf hx=>old b o (B1.keep b o hb hn hf hx) (lt b o hb hf),fun b o hb hn hf hx=>?_,B1.free,fun b o hb hx=>?_,B1.tups,B1.frzs,B1.tbls⟩,fun b o hb=>?_,?_,?_⟩,q⟩
 .obtain⟨ob,hob⟩:=obj_there (I.hok b o hb)
  exact⟨ob,PySem.W.hideAll_get _ hob fun z=>by rw[sf b z]at hb;cases hb⟩
 .obtain⟨ob',hob'⟩:=B1.there b ob hb (by simp)
  exact⟨ob',PySem.W.hideAll_get _ hob' (lt b ob hb hn)⟩
 .obtain⟨sl,h1⟩:=B1.slot b o hb hn hf hx
  obtain⟨sl',h2⟩:=frame b _ hf h1
  exact⟨sl',h2⟩
 .obtain⟨o',ho'⟩:=B1.there b o hb hx
  by_cases hf:b∈frs outer
  .obtain⟨sl',h2⟩:=frame b _ hf ho'
   exact⟨_,h2⟩
  .exact⟨o',old b o' ho' (lt b o hb hf)⟩
 .refine(I.hok b o hb).stay (fun c v hc r=>old c v r fun z=>?_) (fun _ r=>r) fun _ _ r=>r
  rcases hc with y|y
  .rw[y]at z;rw[sf b z]at hb;cases hb
  .rw[sf c z]at y;cases y
 .cases z:s.heap.get? e with
  | none=>rfl
  | some o=>
   obtain⟨o',ho'⟩:=B1.there e o z (by simp)
   rw[hx.new]at ho';cases ho'
 .cases z:H1 e with
  | none=>rfl
  | some o=>
   obtain⟨ob,hob⟩:=obj_there (I.hok e o z)
   rw[hx.new]at hob;cases hob
structure ExC(K:PySem.W.Frag)(C:Addr):Prop where
 obj:∃nm q N bs bm hdct sn sub ab col dd k0 k1 k2 k3 k5 newId mN Bn inN bmN B nid initId bmB,K.lookup C=some (excClassObj nm q C N bs bm hdct sn sub ab col dd k0 k1 k2 k3 k5 newId)/\(∀h:Heap,K.In h->h.Ns N mN)/\mN "__init__" = none/\
  (∀h:Heap,K.In h->OwnTail h bmB bm)/\ExcBaseFacts Bn newId inN bmN/\bmB.contains (.type Bn)=true/\ExcBaseFacts B nid initId bmB
noncomputable def Raises(X:Cx)(E:XK):Prop:=∀(pins:List (Addr×Obj)) (σ:L2.St) (H:Hp) (s:Shared) (h':Heap) (e:Addr) (cls:Value) (vs:List Value),Inv X pins σ H s->Heap.MadeExcOf s.heap h' e cls vs->E cls none H->X.xe (.ref e) {s with heap:=h'}
noncomputable def tRaise(C:Addr)(E:XK)(ta:TA):TS:=fun _ σ H=>ta σ H fun vs H1=>vs.length<=sizeLine/\E (.ref C) none H1
theorem ps_raise{X:Cx}{C:Addr}{E:XK}{x:Str}{np cpos pos:Pos}{e₀:Expr}{es:List Expr}{ta:TA}(hc:X.calm=true)(hx:Raises X E)(hg:Gl X x)(hm:X.mg x=some (.ref C))(c:ExC X.K C)(ha:PA X (e₀::es) ta)
  (hd:(x==("__debug__" : Str))=false:=by decide) (he:starEach (e₀::es) X.env=(false,eval e₀ X.env)::starEach es X.env:=by rfl) (hpl:(backTo cpos (starEach es X.env)).any (·.1)=false:=by rfl) :
  PS X (.Raise (some (.Call (.Name x np) (e₀::es) [] cpos)) none pos) (tRaise C E ta):=by
 intro pins s σ H D I h
 obtain⟨nm,q,N,bs,bm,hdct,sn,sub,ab,col,dd,k0,k1,k2,k3,k5,newId,mN,Bn,inN,bmN,B,nid,initId,bmB,lk,hN,hni,T,Fn,hBn,FB⟩:=c.obj
 have hbase:bm.contains (.type "BaseException")=true:=(T s.heap I.kIn).hasType FB.hasBase
 refine wpAny_Raise_call_subU (C:=C) (nm:=nm) (q:=q) (N:=N) (bs:=bs) (bm:=bm) (hdct:=hdct) (sn:=sn) (sub:=sub) (ab:=ab) (col:=col) (dd:=dd) (k0:=k0) (k1:=k1) (k2:=k2) (k3:=k3) (k5:=k5) Fn hBn FB (mN:=mN) hbase (I.ok.hd hc) (by rw[he];exact hpl) hni (ld_glob I hg hm ⟨rfl,?_⟩ hd)
 have hp:=ha cpos pins s σ H _ I h
 rw[he]at hp⊢
 refine Calls.evalArgs_plain (wpAny_mono hp (fun us s2 h2=>?_) fun _ _ y=>y)
 obtain⟨vs,H1,I1,rv,hl,hE⟩:=h2
 exact⟨rfl,by rw[<-rv.length];exact hl,I1.kIn _ _ lk,hN _ I1.kIn,T _ I1.kIn,fun h' e hm=>hx pins σ H1 s2 h' e _ us I1 hm hE⟩
theorem raises_here{P:Program}{w:World}{K:PySem.W.Frag}{mg:Str->Option Value}{base:Heap}{N:List Str}{qual:Str}{scope:Scope}{f:Addr}{cd:Value}{A:Around}{outer:List Env}{s:Shared}{H:Hp}{E:XK} :
  Raises (cxOf (CXe P w) P w K mg base N qual scope f cd A outer s H E) E:=fun _ _ _ _ _ _ _ _ I hx q=>raise_leaves I hx q
theorem goes_ok{M:Model}{A:Around}{E:Value->Shared->Prop}{X:Cx}{pins:List (Addr×Obj)}{σ:L2.St}{H:Hp}{s:Shared}{i:Nat}{n:Str}{pos:Pos}{Q:Unit->Shared->Prop}(I:Inv X pins σ H s)(hN:X.N.Nodup)(hi:X.N[i]?=some n)
  (hk:X.env.scope.names.lookup n=some .local) (h:∀s',Inv X pins (σ.set i none) H s'->Q () s'):wpAny M A (do bindName X.env n .none;unbindBehindTheSuite X.env n pos) Q E s:=by
 obtain⟨m,hn,hl⟩:=id I.loc
 have hcls:(X.env.scope.kind==.class||(X.env.scope.kind==.module&&X.env.locals != X.env.globals))=false:=by rw[I.ok.kind];rfl
 refine wpAny_nameGoes_keeps hk hn hcls fun h' v hn' hs=>h _ ?_
 obtain⟨oL,es,ep,hoL,hdL,_⟩:=id hn
 have up:∀b o,X.s₀.heap.get? b=some o->b≠X.env.locals:=fun b o e=>Nat.ne_of_lt (Nat.lt_of_lt_of_le (Heap.lt_size e) I.ok.above)
 have cne:∀c x,s.heap.IsCell c x->c≠X.env.locals:=fun c x q z=>by
  obtain⟨oc,hoc,hdc⟩:=q
  rw[z,hoL]at hoc;cases hoc
  rw[hdL]at hdc;cases hdc
 refine⟨I.ok,I.os,I.bare,⟨fun b o e f hb hx=>(hs.2 b (up b o e)).trans (I.base.keep b o e f hb hx),fun b o e f hb hx=>?_,I.base.free,fun b o e hx=>?_,I.base.tups,I.base.frzs,I.base.tbls⟩,⟨_,hn',fun j y v' e1 e2 e3=>?_⟩,fun y c e=>?_,I.free,I.freeC,fun p hp=>?_,fun b ob e=>?_,by simpa using I.len⟩
 .obtain⟨sl,e1⟩:=I.base.slot b o e f hb hx
  exact⟨sl,(hs.2 b (up b o e)).trans e1⟩
 .obtain⟨o',e1⟩:=I.base.there b o e hx
  exact⟨o',(hs.2 b (up b o e)).trans e1⟩
 .have hj:j≠i:=fun z=>by
   subst z
   rw[List.getElem?_set_self (by rw[I.len];exact(List.getElem?_eq_some_iff.mp hi).1)]at e2
   cases e2
  rw[List.getElem?_set_ne (Ne.symm hj)]at e2
  obtain⟨u',r',q⟩:=hl j y v' e1 e2 e3
  refine⟨u',r',?_⟩
  have hy:y≠n:=fun z=>by
   subst z
   exact hj ((List.getElem?_inj (List.getElem?_eq_some_iff.mp e1).1 hN).mp (e1.trans hi.symm))
  rcases q with ⟨k,e⟩|⟨k,c,e,z⟩
  .exact .inl ⟨k,by simp only[hy,if_false];exact e⟩
  .refine .inr ⟨k,c,e,?_⟩
   obtain⟨oc,hoc,hdc⟩:=id z
   exact⟨oc,(hs.2 c (cne c _ z)).trans hoc,hdc⟩
 .obtain⟨x,z⟩:=I.cell y c e
  obtain⟨oc,hoc,hdc⟩:=id z
  exact⟨x,oc,(hs.2 c (cne c _ z)).trans hoc,hdc⟩
 .obtain⟨p1,p2,p3,p4⟩:=I.pin p hp
  exact⟨(hs.2 _ p3).trans p1,p2,p3,p4⟩
 .refine(I.hok b ob e).stay (fun c w' hc q=>(hs.2 c ?_).trans q) (fun _ q=>q) fun _ _ q=>q
  intro z
  rcases hc with y|y
  .rw[<-y,z,I.free]at e;cases e
  .rw[z,I.free]at y;cases y
noncomputable abbrev markC(X:Cx)(e:Value):Cx:={X with A:=X.A.mark (some e),calm:=false}
theorem mark_ok{X:Cx}(ok:X.Ok)(e:Value):(markC X e).Ok:=
 ⟨ok.mod,ok.kind,ok.glob,ok.blt,ok.above,ok.inj,ok.has,ok.cab,(fun z=>nomatch z),ok.frames,ok.stk,ok.exf,ok.bs,ok.bsz,ok.noex,ok.exfs,ok.funs,ok.frf⟩
theorem mark_inv{X:Cx}{pins:List (Addr×Obj)}{σ:L2.St}{H:Hp}{s:Shared}(I:Inv X pins σ H s)(e:Value):Inv (markC X e) pins σ H s:=⟨mark_ok I.ok e,I.os,I.bare,I.base,I.loc,I.cell,I.free,I.freeC,I.pin,I.hok,I.len⟩
theorem unmark_inv{X:Cx}{pins:List (Addr×Obj)}{σ:L2.St}{H:Hp}{s:Shared}{e:Value}(ok:X.Ok)(I:Inv (markC X e) pins σ H s):Inv X pins σ H s:=⟨ok,I.os,I.bare,I.base,I.loc,I.cell,I.free,I.freeC,I.pin,I.hok,I.len⟩
noncomputable def Exn(a:Addr)(cls:Value):HO:=.ext fun h=>∃o vs,h.get? a=some o/\o.cls=cls/\o.data=.fields vs
theorem Flew.parts{X:Cx}{H H':Hp}{s s':Shared}{a:Addr}{cls a0:Value}{B h5:Heap}(un:Un (frs X.stack) [] H H' s.heap s'.heap)(hok:HOk X.prog X.w H' s'.heap)(fly:Heap.FlyingW B X.stack a cls a0 s'.heap)(c1:∀b o,H' b=some o->∃ob,B.get? b=some ob)(c2:∀b ob,s.heap.get? b=some ob->b∉frs X.stack->∃ob',B.get? b=some ob')
  (k5:B.StaysIn h5) (sm:s'.heap.UpToSlots h5):Un (frs X.stack) [] H H' s.heap h5/\HOk X.prog X.w H' h5:=by
 have keep:∀b o ob,s'.heap.get? b=some o->B.get? b=some ob->h5.get? b=some o:=fun b o ob ho hob=>by
  have:=fly.1 b ob hob
  rw[ho]at this;cases this
  exact k5 b _ hob
 have fr:∀b o,b∈frs X.stack->s'.heap.get? b=some o->∃sl,h5.get? b=some {o with slots:=sl}:=fun b o hm ho=>by
  obtain⟨_,o',ho',hd⟩:=fly.2.2.1.mem hm
  rw[ho]at ho';cases ho'
  exact sm b o ho hd
 refine⟨⟨fun b o e f hf hx=>?_,fun b o e f hf hx=>?_,un.free,fun b o e hx=>?_,un.tups,un.frzs,un.tbls⟩,fun b o e=>?_⟩
 .obtain⟨ob,hob⟩:=c2 b o e hf
  exact keep b o ob (un.keep b o e f hf hx) hob
 .obtain⟨sl,e1⟩:=un.slot b o e f hf hx
  obtain⟨sl',e2⟩:=fr b _ hf e1
  exact⟨sl',e2⟩
 .obtain⟨o',e1⟩:=un.there b o e hx
  by_cases hf:b∈frs X.stack
  .obtain⟨sl',e2⟩:=fr b _ hf e1
   exact⟨_,e2⟩
  .obtain⟨ob,hob⟩:=c2 b o e hf
   exact⟨o',keep b o' ob e1 hob⟩
 .refine(hok b o e).stay (fun c v hc r=>?_) (fun _ q=>q) fun _ _ q=>q
  have:∃u,H' c=some u:=by
   rcases hc with y|y
   .rw[y];exact⟨_,e⟩
   .exact⟨_,y⟩
  obtain⟨u,hu⟩:=this
  obtain⟨ob,hob⟩:=c1 c u hu
  exact keep c v ob r hob
theorem track_exn{P:Program}{w:World}{fs:List Addr}{H H':Hp}{h g:Heap}{a:Addr}{cls:Value}{ob:Obj}{vs:Array Value}(un:Un fs [] H H' h g)(hok:HOk P w H' g)(new:h.get? a=none)(free:H' a=none)(ho:g.get? a=some ob)(hc:ob.cls=cls)(hd:ob.data=.fields vs) :
  Un fs [] H (upd H' a (Exn a cls)) h g/\HOk P w (upd H' a (Exn a cls)) g:=by
 have sm:Same H' (upd H' a (Exn a cls)):=Same.fresh _ free
 refine⟨⟨un.keep,un.slot,fun b o e f hx=>?_,un.there,fun b xs e=>sm _ _ (un.tups b xs e),fun b o u e=>sm _ _ (un.frzs b o u e),fun b ps e=>?_⟩,fun b o e=>?_⟩
 .rw[upd_ne (fun z=>by rw[z,new]at e;cases e)]
  exact un.free b o e f hx
 .obtain⟨more,q⟩:=un.tbls b ps e
  exact⟨more,sm _ _ q⟩
 .by_cases hb:b=a
  .subst hb
   rw[upd_same]at e;cases e
   exact⟨⟨ob,vs,ho,hc,hd⟩,⟨ob,ho⟩,fun g1 g2 ⟨o,us,k1,k2⟩ k=>⟨o,us,k o k1,k2⟩⟩
  .rw[upd_ne hb]at e
   exact(hok b o e).stay (fun _ _ _ q=>q) (fun c q=>sm _ _ q) fun c xs q=>sm _ _ q
section
variable{X:Cx}{pins:List (Addr×Obj)}{σ:L2.St}{H:Hp}{s s':Shared}{n y:Str}{i:Nat}{c e:Value}{b₀:Stmt}{suite:List Stmt}{ts:TS}{D:Ends}{rest:List ExceptHandler}{yp hpos:Pos}
noncomputable def exSuite(K:PySem.W.Frag)(c:Value)(i:Nat)(ts:TS)(D:Ends)(σ:L2.St):XK:=fun cls _ H'=>PySem.W.exmOne K cls c=some true/\∀a,H' a=none->ts {nx:=fun σ2 H2=>D.nx (σ2.set i none) H2,rt:=fun _ _=>False} (σ.set i (some (.ref a))) (upd H' a (Exn a cls))
theorem caught(hst:X.stack=X.env::X.outer)(hfr:X.env.frame=some X.env.locals)(hN:X.N.Nodup)(hi:X.N[i]?=some n)(hk:X.env.scope.names.lookup n=some .local)(hg:Gl X y)(hm:X.mg y=some c)(hsu:∀e,PSs (markC X e).nox (b₀::suite) ts)
  (I:Inv X pins σ H s) (h:CXe X.prog X.w X.stack H s (exSuite X.K c i ts D σ) e s') (hd:(y==("__debug__" : Str))=false:=by decide) :
  wpAny (model X.prog X.w) X.A (noteFrame e X.env) (fun _ s₂=>wpAny (model X.prog X.w) X.A (setFlight e none) (fun _ s₃=>
   wpAny (model X.prog X.w) X.A (handleBy e X.env (.ExceptHandler (some (.Name y yp)) (some n) (b₀::suite) hpos::rest)) (SP X pins D) X.xe s₃) X.xe s₂) X.xe s':=by
 obtain⟨a,cls,H',rfl,hos,hb,F,hc,hq⟩:=h
 obtain⟨B,a0,fly,c1,c2⟩:=F.fly
 have fly':Heap.FlyingW B (X.env::X.outer) a cls a0 s'.heap:=by rw[<-hst];exact fly
 refine wpAny_looks_onW (by rw[<-hst];exact I.ok.frames) hfr fly' fun h4 held sm4=>?_
 refine wpAny_landsW (s:={s' with heap:=h4}) held fun h5 fly5 sm5=>?_
 have P5:=Flew.parts F.un F.hok fly c1 c2 fly5.1 (sm4.trans sm5)
 have I5:Inv X pins σ H' {s' with heap:=h5}:=I.call' (s':={s' with heap:=h5}) hos P5.1 P5.2 hb (fun b z=>absurd z (by simp))
 obtain⟨ob,hob,hobc⟩:=fly5.there
 have LT:PySem.W.Looks (model X.prog X.w) h5 (typeOf (.ref a)) cls:=by rw[<-hobc];exact(PySem.W.Looks.ld hob).andThen .now
 refine wpAny_handleBy_cons (codeAny_handlers_test (ld_glob (mark_inv I5 (.ref a)) hg hm ?_ hd)) (by intro q;cases q)
 refine(PySem.W.exm_one (h:=h5) I5.kIn LT hc).here (s:={s' with heap:=h5}) ?_
 refine codeAny_handlers_suite_as ?_
 refine lands_againW (s:={s' with heap:=h5}) fly5 fun h6 fly6 sm6=>?_
 have P6:=Flew.parts F.un F.hok fly c1 c2 fly6.1 ((sm4.trans sm5).trans sm6)
 obtain⟨oe,vs,_,_,_,he,hcl,hda,_⟩:=id fly6.2.2.2
 have P7:=track_exn P6.1 P6.2 F.new F.free he hcl.1 hda
 have I7:Inv X pins σ (upd H' a (Exn a cls)) {s' with heap:=h6}:=I.call' (s':={s' with heap:=h6}) hos P7.1 P7.2 hb (fun b z=>absurd z (by simp))
 refine store_ok (v:=.ref a) I7 hN hi (.inl hk) rfl (fun s8 I8=>?_) (.inr hk)
 refine wpAny_mono (hsu (.ref a) pins s8 _ _ _ ((mark_inv I8 (.ref a)).wish _) (hq a F.free)) (fun f s9 hs=>?_) fun _ _ z=>False.elim z
 have hs':=hs.unwish
 cases f with
 | next=>
  obtain⟨σ2,H2,J,q⟩:=hs'
  exact goes_ok (unmark_inv I.ok J) hN hi hk fun s10 J2=>⟨_,H2,J2,q⟩
 | brk=>obtain⟨_,_,_,q⟩:=hs';exact False.elim q
 | cont=>obtain⟨_,_,_,q⟩:=hs';exact False.elim q
 | ret u=>obtain⟨_,_,_,_,_,q⟩:=hs';exact False.elim q
end
section
variable{X:Cx}{n y x:Str}{i k:Nat}{c:Value}{b₀:Stmt}{suite:List Stmt}{ts:TS}{yp hpos p cpos epos pos:Pos}{f:Addr}{fd:FuncData}{ps:List Str}{sp:Sp}{e:Expr}{es:List Expr}{t:TA}
noncomputable def tTryCall(K:PySem.W.Frag)(c:Value)(i:Nat)(sp:Sp)(t:TA)(ts:TS):TS:=fun D σ H=>t σ H fun vs H1=>sp vs H1 (fun _ H2=>D.nx σ H2) (exSuite K c i ts D σ)
theorem ps_tryCall(hst:X.stack=X.env::X.outer)(hfr:X.env.frame=some X.env.locals)(hN:X.N.Nodup)(hi:X.N[i]?=some n)(hkn:X.env.scope.names.lookup n=some .local)(hgy:Gl X y)(hmy:X.mg y=some c)(hsu:∀e,PSs (markC X e).nox (b₀::suite) ts)
  (F:FnOk X.prog X.w X.K X.mg X.base (CXe X.prog X.w) k f fd ps sp) (hr:Room k X.A) (hg:Gl X x) (hm:X.mg x=some (.ref f)) (hk:PySem.W.keepIn X.K (.ref f)=true) (hb:Binds X.K fd ps []) (ha:PA X.nox (e::es) t)
  (hdy:(y==("__debug__" : Str))=false:=by decide) (hdb:(x==("__debug__" : Str))=false:=by decide) (he:starEach (e::es) X.env=(false,eval e X.env)::starEach es X.env:=by rfl) (hpl:(backTo cpos (starEach es X.env)).any (·.1)=false:=by rfl)
  (hs:swapsWith (.Call (.Name x p) (e::es) [] cpos) none epos.line X.env=pure false:=by rfl) :
  PS X (.Try [.Expr (.Call (.Name x p) (e::es) [] cpos) epos] [.ExceptHandler (some (.Name y yp)) (some n) (b₀::suite) hpos] [] [] pos) (tTryCall X.K c i sp t ts):=by
 intro pins s σ H D I h
 refine wpAny_Try_except (wpAny_execs_cons (wpAny_Expr_any ?_ I.quiet hs))
 refine wpAny_Call_Name_kw (ld_glob I hg hm ?_ hdb)
 refine PySem.W.callWith_K (h₀:=X.base) I.ok.mod.kin hk (wpAny_mono (ha cpos pins s σ H _ (I.wish _) h) (fun us s1 h1=>?_) fun _ _ z=>False.elim z) he hpl
 obtain⟨vs,H1,I1,r,q⟩:=h1
 have I1:=I1.unwish
 refine⟨I1.kIn,?_⟩
 have hl:us.length=ps.length:=by rw[<-r.length];exact F.len _ _ _ _ q
 have bd:=hb s1 us I1.kIn (by rw[List.append_nil];exact hl)
 rw[List.append_nil]at bd
 refine wpAny_call (codeAny_mono (F.run X.A X.stack s1 H1 ⟨us,[]⟩ us vs _ _ hr I1.env0 bd r q) fun rr s' hq=>?_)
 cases rr with
 | error z=>exact caught hst hfr hN hi hkn hgy hmy hsu I1 hq hdy
 | ok fl=>
  cases fl with
  | ret u=>
   obtain⟨v,H2,I2,_,q2⟩:=I1.after hq
   refine wpAny_execs_nil (wpAny_execs_nil ?_)
   exact⟨σ,H2,I2,q2⟩
  | next=>exact False.elim hq
  | brk=>exact False.elim hq
  | cont=>exact False.elim hq
end
structure ClsAt(K:PySem.W.Frag)(D:Addr):Prop where
 get:PySem.W.findIn K (.ref D) "__getattribute__" = some (some (.builtin "BaseException.__getattribute__"))
 no:PySem.W.findIn K (.ref D) "__getattr__" = some none
 cls:PySem.W.findIn K (.ref D) "__class__" = some (some (.builtin "object.__class__"))
 dsc:PySem.W.specialIn K (.builtin "object.__class__") "__get__" = some (some (.builtin "getset_descriptor.__get__"))
 tk:PySem.W.takesIn K (.builtin "object.__class__")=some true
 mro:PySem.W.mroIn K D (.type "object")=some true
 exc:PySem.W.mroIn K D (.type "BaseException")=some true
 has:(PySem.W.clsIn K D).isSome=true
section
open PySem.W PySem.Calls PySem.Builtin.ObjectAttr PySem.Builtin.Getset_descriptor
variable{prog:Program}{w:World}{A:Around}{E:Value->Shared->Prop}{s:Shared}{K:PySem.W.Frag}{x D:Addr}
theorem exn_class{Q:Option Value->Shared->Prop}(C:ClsAt K D)(X:K.In s.heap)(T:∀M,Looks M s.heap (typeOf (.ref x)) (.ref D))(q:Q (some (.ref D)) {s with toks:=s.toks+1}):wpAny (model prog w) A (getAttr? (.ref x) "__class__") Q E s:=by
 obtain⟨hh,ga,dr,t,os⟩:=s
 have t0:Looks (model prog w) hh (typeOf (.ref x)) (.ref D):=T (model prog w)
 have t1:=looks_findIn (M:=model prog w) X C.get
 have t2:=looks_findIn (M:=model prog w) X C.no
 have t3:Looks (model prog w) hh (find (.ref x) (.ref D) "__class__") (.bind (.builtin "getset_descriptor.__get__") (.builtin "object.__class__")):=
  (looks_findIn X C.cls).andThen ((show Looks _ hh (getOf (some (.builtin "object.__class__"))) _ from looks_specialIn X C.dsc).andThen ((show Looks _ hh (dataDescriptor? (some (.builtin "object.__class__")) (some (.builtin "getset_descriptor.__get__"))) _ from (looks_takesIn X C.tk).andThen .now).andThen (Looks.tag .now)))
 have t4:Looks (model prog w) hh (isSubtype (.ref D) (.type "object")) true:=looks_mroIn (M:=model prog w) X C.mro
 have t5:Looks (model prog w) hh (isSubtype (.ref D) (.type "BaseException")) true:=looks_mroIn (M:=model prog w) X C.exc
 have f3:=F.attr_ValueError.ga.bind (.ref x)
 have hx1:(onTheHeap (Value.ref D)&&Value.builtin "BaseException.__getattribute__" == Value.builtin "object.__getattribute__")=false:=by
  rw[show(Value.builtin "BaseException.__getattribute__" == Value.builtin "object.__getattribute__")=false by decide +kernel];rfl
 unfold getAttr? getAttrBy? getAttrBy
 refine wpAny_bind (wpAny_mkText (wpAny_bind (wpAny_attempt (wpAny_holding (wpAny_bind (t0.at (wpAny_bind (t1.at ?_))))))))
 dsimp only
 rw[hx1,if_neg Bool.false_ne_true]
 unfold getAttrByItsOwn
 refine wpAny_bind ((show Looks (model prog w) hh (hookBefore (.ref D)) none from t2).at (wpAny_bind (wpAny_attempt (wpAny_holding ?_))))
 refine(?_:wpAny _ _ (boundAndCalled _ _ _) _ _ _)
 unfold boundAndCalled
 refine wpAny_bind (wpAny_of_eq f3 ?_)
 refine wpAny_call (codeAny_call_builtin F.attr_ValueError.ga.plain F.entry_bexc_ga ?_)
 have hk:builtinKind "BaseException.__getattribute__" = some .slot:=by decide +kernel
 have hsplit:splitId "BaseException.__getattribute__" = some ("BaseException","__getattribute__"):=by decide +kernel
 have ha:=F.args_bexc_ga (.ref x) (.str "__class__" t)
 clear t1 t2
 simp only[checkBuiltinCall,hk,hsplit]
 refine(?_:wpAny _ _ (isInstance (.ref x) (.type "BaseException") >>= _) _ _ _)
 refine wpAny_bind ?_
 unfold isInstance
 refine wpAny_bind (t0.at (t5.at ?_))
 refine(?_:wpAny _ _ (match Manifest.signature? "BaseException.__getattribute__" with
        | some sig=>Bind.checkArgs "BaseException.__getattribute__" sig ⟨[Value.ref x,Value.str (Str.ofString "__class__") t],[]⟩
        | x=>pure ()) _ _ _)
 refine wpAny_of_eq ha ?_
 refine(?_:wpAny _ _ (Builtin.«object.__getattribute__» ⟨[Value.ref x,Value.str (Str.ofString "__class__") t],[]⟩) _ _ _)
 unfold Builtin.«object.__getattribute__»
 refine wpAny_bind (wpAny_pure (wpAny_bind (wpAny_pure (wpAny_bind (t0.at (wpAny_bind (t3.at ?_)))))))
 refine(wpAny_bind (wpAny_holding ?_):wpAny _ _ (holding [Value.builtin "object.__class__"] (call (.builtin "getset_descriptor.__get__") [.builtin "object.__class__",.ref x,.ref D]) >>= ret) _ _ _)
 refine wpAny_call (codeAny_call_builtin KF.slot_gs.plain KF.entry_gs (KF.slot_gs.check _ _ _ _ _ _ _ _ KF.type_class (KF.args_gs _ _ _) ?_))
 clear t3
 unfold Builtin.«getset_descriptor.__get__» descrGet
 rw[dga_obj]
 refine wpAny_bind (wpAny_pure ?_)
 unfold descrGetter descrCheckInstance descrNameAndClass isInstance
 simp only[KF.owner_class]
 repeat lk
 refine⟨Code.quiet_builtin _ (by decide +kernel),codeAny_builtin KF.entry_class ?_⟩
 unfold Builtin.«object.__class__» shownTypeOf
 repeat lk
 exact q
theorem exn_kit(C:ClsAt K D):KitX K (.ref x) (.ref D) (fun h=>∃o,h.get? x=some o/\o.cls=.ref D)where
 ty:=fun M h _ ⟨o,ho,hc⟩=>by rw[<-hc];exact(Looks.ld ho).andThen .now
 it:=fun M h X _=>by
  have hs:=C.has
  unfold clsIn at hs
  split at hs
  .rename_i c' d' cd' sl' ho
   intro A' Q' E' s' k q
   unfold isType loadHead
   exact wpAny_bind (wpAny_loadPart (k _ _ (X _ _ ho)) (wpAny_pure q))
  .cases hs
 ne:=fun h tp dd its n sl X htp=>by
  have hs:=C.has
  refine Bool.eq_false_iff.mpr fun q=>?_
  cases (beq_iff_eq.mp q:Value.ref D=Value.ref tp)
  unfold clsIn at hs
  split at hs
  .rename_i c' d' cd' sl' ho
   cases (X _ _ ho).symm.trans htp
  .cases hs
 ca:=fun X ⟨o,ho,hc⟩ k=>exn_class C X (fun M=>by rw[<-hc];exact(Looks.ld ho).andThen .now) k
end
section
variable{X:Cx}
theorem call_isExn{D:Addr}(C:ClsAt X.K D):CallR X (.builtin "isinstance") (fun xs H Q=>∃a c v b,xs=[.ref a,v]/\H a=some (Exn a (.ref D))/\RelV v c/\(∀u,RelV v u->u=c)/\PySem.W.kitOne X.K (.ref D) c=some b/\Q (.bl b) H):=by
 intro pins s σ H xs us Q I r h
 obtain⟨a,c,v,b,rfl,ha,rc,hu,e,q⟩:=h
 obtain⟨u,w',rfl,r1,r2⟩:=vals2 r
 cases (show u=Value.ref a from r1)
 cases hu w' r2
 obtain⟨⟨o,vs,ho,hc,_⟩,_⟩:=(show ObjOk X.prog X.w H s.heap a (Exn a (.ref D))from I.hok a _ ha)
 exact PySem.W.kia_one (exn_kit C) I.kIn ⟨o,ho,hc⟩ e (by intro z;cases z) fun tk=>⟨.bl b,H,I.tok _,rfl,q⟩
theorem call_isExnT{D:Addr}(C:ClsAt X.K D):CallR X (.builtin "isinstance") (fun xs H Q=>∃(a p:Addr) (ts:List Addr) (b:Bool),xs=[.ref a,.ref p]/\H a=some (Exn a (.ref D))/\H p=some (.tup (ts.map V.ref))/\PySem.W.kitAny X.K (.ref D) (ts.map Value.ref)=some b/\Q (.bl b) H):=by
 intro pins s σ H xs us Q I r h
 obtain⟨a,p,ts,b,rfl,ha,hp,e,q⟩:=h
 obtain⟨u,w',rfl,r1,r2⟩:=vals2 r
 cases (show u=Value.ref a from r1)
 cases (show w'=Value.ref p from r2)
 obtain⟨⟨o,vs,ho,hc,_⟩,_⟩:=(show ObjOk X.prog X.w H s.heap a (Exn a (.ref D))from I.hok a _ ha)
 obtain⟨hz0,its,rv,ob,h1,h2,n,h3⟩:=(show ObjOk X.prog X.w H s.heap p (.tup (ts.map V.ref))from I.hok p _ hp)
 have eq:its=ts.map Value.ref:=by
  clear h3 e hp hz0
  induction ts generalizing its with
  | nil=>cases rv;rfl
  | cons z ts ih=>
   rw[List.map_cons]at rv
   cases rv with
   | cons hz ht=>rw[List.map_cons,<-ih _ ht];cases (show _=Value.ref z from hz);rfl
 rw[<-eq]at e
 obtain⟨oc,od,odt,osl⟩:=ob
 simp only at h2 h3
 subst h2 h3
 exact PySem.W.kia_tup (exn_kit C) I.kIn ⟨o,ho,hc⟩ h1 e (by intro z;cases z) fun tk=>⟨.bl b,H,I.tok _,rfl,q⟩
theorem fun_okE{P:Program}{w:World}{K:PySem.W.Frag}{mg:Str->Option Value}{base:Heap}{x qual:Str}{st:Stmt}{f:Addr}{fd:FuncData}{N ps:List Str}{k:Nat}{sp:Sp}(F:L2.Fun K x qual st f fd)(S:FnScope N ps (defScope st))(len:∀vs H Q E,sp vs H Q E->vs.length=ps.length)
  (hbody:∀(cdv:Value) (A:Around) (outer:List Env) (s:Shared) (H:Hp) (vs:List V) (Q:VK) (E:XK),Room k (A.deeper (envOfC qual (defScope st) s.heap.objs.size f cdv))->sp vs H Q E->
   ∃t,PSs (cxOf (CXe P w) P w K mg base N qual (defScope st) f cdv A outer s H E) (defBody st) t/\t {nx:=fun _ H'=>Q .non H',rt:=Q} (start N vs) H):FnOk P w K mg base (CXe P w) (k+1) f fd ps sp:=by
 obtain⟨oc,od,kV,doc,pm,an,cdv,ct,osl,rfl,lk,hcd⟩:=F.ex
 exact fn_of lk hcd S len fun A outer s H vs Q E hr hsp=>hbody cdv A outer s H vs Q E hr hsp
end
end L3
namespace K54
open PySem PyProof.Rows L2 L3
noncomputable def Kd(H:Hp)(v:V):Prop:=v=.non\/(∃b,v=.bl b)\/(∃i,v=.int i)\/(∃z,v=.str z)\/∃a,v=.ref a/\((∃xs,H a=some (.lst xs))\/∃xs,H a=some (.tup xs))
noncomputable def isI:V->Bool
 | .int _=>true
 | _=>false
noncomputable def dvs(n:Int)(k:Nat):List Bool:=(List.range k).map fun i=>!decide (n % (2+(i:Nat))=0)
noncomputable def prI(n:Int):Bool:=decide (2<=n)&&decide (n<=97)&&(dvs n (n-2).toNat).all id
noncomputable def prV:V->Bool
 | .int n=>prI n
 | _=>false
seal L2.PE L2.PT L2.PW L2.PA L2.PS L2.PSs L2.PG L2.PGs L2.PI L2.PO
set_option pp.maxSteps 3000
section
variable{P:Program}{w:World}{K:PySem.W.Frag}{mg:Str->Option Value}{base:Heap}{f:Addr}{fd:FuncData}
noncomputable def spWh:Sp:=fun vs H Q _=>∃v,vs=[v]/\Kd H v/\Q (.bl (isI v)) H
theorem scWh:FnScope ["found"] ["found"] (defScope sWh):=⟨rfl,rfl,rfl,by decide +kernel,rfl,by decide +kernel,by decide +kernel⟩
theorem ok_wh(B:∀x∈blts,mg x=none)(F:Fun K "is_whole" "is_whole" sWh f fd):FnOk P w K mg base CX0 1 f fd ["found"] spWh:=by
 refine F.ok (k:=0) scWh (fun vs H Q E h=>?_) (fun cdv A outer s H vs Q E hr h=>?_)
 .obtain⟨n,rfl,_⟩:=h
  rfl
 obtain⟨v,rfl,hv,q⟩:=h
 refine⟨_,(pss_one (ps_ret (pe_and (pe_cB call_isinst rfl (B "isinstance" (by decide)) boot_isinstance (pa_c (pv 0) (pa_c (pe_bltn (v:=.ty "int") rfl (B "int" (by decide)) PyProof.Rows.boot_int rfl) pa_nil))) (pe_one (pe_not (pe_cB call_isinst rfl (B "isinstance" (by decide)) boot_isinstance (pa_c (pv 0) (pa_c (pe_bltn (v:=.ty "bool") rfl (B "bool" (by decide)) boot_bool rfl) pa_nil)))))))),?_⟩
 rcases hv with rfl|⟨b,rfl⟩|⟨i,rfl⟩|⟨z,rfl⟩|⟨a,rfl,⟨ys,h⟩|⟨ys,h⟩⟩
 .exact⟨_,rfl,_,_,_,false,rfl,.non,rfl,false,rfl,iteF q⟩
 .exact⟨_,rfl,_,_,_,true,rfl,.bl b,rfl,true,rfl,iteT ⟨_,rfl,_,_,_,true,rfl,.bl b,rfl,true,rfl,q⟩⟩
 .exact⟨_,rfl,_,_,_,true,rfl,.int i,rfl,true,rfl,iteT ⟨_,rfl,_,_,_,false,rfl,.int i,rfl,false,rfl,q⟩⟩
 .exact⟨_,rfl,_,_,_,false,rfl,.str z,rfl,false,rfl,iteF q⟩
 .exact⟨_,rfl,_,_,_,false,rfl,.lst h,rfl,false,rfl,iteF q⟩
 .exact⟨_,rfl,_,_,_,false,rfl,.tup h,rfl,false,rfl,iteF q⟩
noncomputable def spPrm:Sp:=fun vs H Q _=>∃v,vs=[v]/\Kd H v/\∀H',Same H H'->Q (.bl (prV v)) H'
theorem scPrm:FnScope ["found"] ["found"] (defScope sPrm):=⟨rfl,rfl,rfl,by decide +kernel,rfl,by decide +kernel,by decide +kernel⟩
theorem ok_prm(B:∀x∈blts,mg x=none)(gG:∃t,mg "GREATEST_PRIME" = some (.int 97 t))(Fwh:Fn P w K mg base "is_whole" 1 ["found"] spWh)(F:Fun K "is_prime" "is_prime" sPrm f fd):FnOk P w K mg base CX0 2 f fd ["found"] spPrm:=by
 refine F.ok (k:=1) scPrm (fun vs H Q E h=>?_) (fun cdv A outer s H vs Q E hr h=>?_)
 .obtain⟨n,rfl,_⟩:=h
  rfl
 obtain⟨v,rfl,hv,q⟩:=h
 refine⟨_,(pss_cons (ps_if (PW.pt (pw_or (pt_not (pt_val (pe_fn Fwh hr (by decide) rfl (pa_c (pv 0) pa_nil)))) (pw_or1 (pt_not (pt_chain op_le op_le pe_int (pv 0) (pe_globI gG rfl)))))) (pss_one (ps_ret pe_bl)) pss_nil)
  (pss_one (ps_ret (pe_cB (call_all rfl) rfl (B "all" (by decide)) boot_all (pa_c (pe_comp ["k","found"] [none,some 0] rfl rfl (by decide +kernel) (by decide +kernel) rfl rfl (pi_r2 rfl (B "range" (by decide)) (pa_c pe_int (pa_c (pv 0) pa_nil))) (fun _=>(pg_name (i:=0) (show(["k","found"]:List PySem.Str).Nodup by decide +kernel) rfl (Or.inl rfl))) (fun _=>pts_nil) (fun _=>(pe_cmpR op_ne (pe_op op_mod (pv 1) (pv 0)) pe_int (nomark _)))) pa_nil))))),?_⟩
 refine⟨_,rfl,v,rfl,hv,_,rfl,?_⟩
 cases hw:isI v with
 | false=>
  refine iteT ?_
  have e:prV v=false:=by cases v<;>first|rfl|cases hw
  rw[e]at q
  exact q H (Same.refl H)
 | true=>
  obtain⟨n,rfl⟩:∃n,v=.int n:=by cases v<;>first|exact⟨_,rfl⟩|cases hw
  refine iteF ?_
  have no:prI n=false->Q (.bl false) H:=fun e=>by
   have:=q H (Same.refl H)
   rw[show prV (.int n)=prI n from rfl,e]at this
   exact this
  refine⟨_,rfl,_,_,rfl,rfl,_,rfl,?_⟩
  refine ite2 (fun c1=>?_) (fun c1=>⟨false,rfl,iteT (no ?_)⟩)
  .have h2:(2:Int)<=n:=of_decide_eq_true c1
   refine⟨_,_,rfl,rfl,_,rfl,?_⟩
   by_cases h97:n<=97
   .rw[decide_eq_true h97]
    refine iteF ?_
    refine⟨_,rfl,2,n,rfl,⟨by decide,by decide,by omega,by omega⟩,fun D hD=>?_⟩
    refine comp_range (lo:=2) (n:=(n-2).toNat) (fun i ys G=>Same H G/\ys=(dvs n i).map V.bl) ⟨Same.fresh _ hD,rfl⟩ (fun i ys G hi hDy hyl p=>?_) (fun ys G hDy hyl p=>?_)
    .obtain⟨p1,rfl⟩:=p
     refine⟨Agree.set (Agree.refl _) rfl,?_⟩
     dsimp only[tYes]
     refine iteT ?_
     refine⟨_,rfl,_,rfl,_,_,rfl,rfl,(by show(0:Int)<2+(i:Nat);omega),rfl,?_⟩
     refine nx_put (by omega) hDy hyl ⟨p1.new hD,?_⟩
     unfold dvs
     rw[List.range_succ,List.map_append,List.map_append]
     simp
    .obtain⟨p1,rfl⟩:=p
     refine⟨D,_,rfl,hDy,?_⟩
     have e:prV (.int n)=(dvs n (n-2).toNat).all id:=by
      show prI n=_
      unfold prI
      rw[decide_eq_true h2,decide_eq_true h97];rfl
     rw[<-e]
     exact q _ p1
   .rw[decide_eq_false h97]
    refine iteT (no ?_)
    unfold prI
    rw[decide_eq_false h97,Bool.and_false,Bool.false_and]
  .unfold prI
   rw[decide_eq_false (fun z=>c1 (decide_eq_true z)),Bool.false_and,Bool.false_and]
end
noncomputable abbrev spQ:PyData:=.tuple [.int 0,.int 0,.str "Q"]
noncomputable abbrev plQ:PyData:=.tuple [.tuple [spQ],.int 0]
noncomputable abbrev nCell:PyData:=.tuple [.str "cell",.tuple [.int 0,.int 0]]
noncomputable abbrev nKind:PyData:=.tuple [.str "kind",.int 0]
theorem plQ_at{H:Hp}{v:V}(h:Rep H plQ v):∃a b c,v=.ref a/\H a=some (.tup [.ref b,.int 0])/\H b=some (.tup [.ref c])/\H c=some (.tup [.int 0,.int 0,.str "Q"]):=by
 obtain⟨a,xs,rfl,ha,x1,r1,rfl,⟨b,ys,rfl,hb,y1,s1,rfl,⟨c,zs,rfl,hc,z1,t1,rfl,h1,z2,t2,rfl,h2,z3,t3,rfl,h3,rfl⟩,rfl⟩,x2,r2,rfl,h4,rfl⟩:=h
 cases (show z1=_ from h1)
 cases (show z2=_ from h2)
 cases (show z3=_ from h3.1)
 cases (show x2=_ from h4)
 exact⟨a,b,c,rfl,ha,hb,hc⟩
set_option pp.maxSteps 3000
section
variable{P:Program}{w:World}{K:PySem.W.Frag}{mg:Str->Option Value}{base:Heap}{f:Addr}{fd:FuncData}
noncomputable def spSrv:Sp:=fun vs H Q _=>∃v,vs=[v]/\Rep H plQ v/\∀(D:Addr) (ys:List V) (H':Hp),Same H H'->H D=none->H' D=some (.lst ys)->RepAll H' [nCell,nKind] ys->Q (.ref D) H'
theorem scSrv:FnScope ["placement"] ["placement"] (defScope sSrv):=⟨rfl,rfl,rfl,by decide +kernel,rfl,by decide +kernel,by decide +kernel⟩
theorem ok_srv(F:Fun K "served_by" "served_by" sSrv f fd):FnOk P w K mg base CX0 1 f fd ["placement"] spSrv:=by
 refine F.ok (k:=0) scSrv (fun vs H Q E h=>?_) (fun cdv A outer s H vs Q E hr h=>?_)
 .obtain⟨n,rfl,_⟩:=h
  rfl
 obtain⟨v,rfl,hv,q⟩:=h
 obtain⟨a,b,c,rfl,ha,hb,hc⟩:=plQ_at hv
 refine⟨_,(pss_one (ps_ret (pe_op op_cat (pe_comp ["row","column","sign"] [none,none,none] rfl rfl (by decide +kernel) (by decide +kernel) rfl rfl (pi_tup (pe_ix ix_tup (pv 0) pe_int (fun _ _=>rfl))) (fun _=>(pg_tupC (n:=3) rfl (pgs_cons (pg_name (i:=0) (show(["row","column","sign"]:List PySem.Str).Nodup by decide +kernel) rfl (Or.inl rfl)) (pgs_cons (pg_name (i:=1) (show(["row","column","sign"]:List PySem.Str).Nodup by decide +kernel) rfl (Or.inl rfl)) (pgs_cons (pg_name (i:=2) (show(["row","column","sign"]:List PySem.Str).Nodup by decide +kernel) rfl (Or.inl rfl)) pgs_nil))))) (fun _=>pts_nil) (fun _=>(pe_tup (pa_c pe_str (pa_c (pe_tup (pa_c (pv 0) (pa_c (pv 1) pa_nil))) pa_nil))))) (pe_lst (pa_c (pe_tup (pa_c pe_str (pa_c (pe_ix ix_tup (pv 0) pe_int (fun _ _=>rfl)) pa_nil))) pa_nil))))),?_⟩
 refine⟨_,rfl,a,_,_,_,rfl,rfl,SqT.of ha,atI_nat (j:=0) rfl,b,rfl,⟨_,SqT.of hb⟩,fun D hD=>?_⟩
 refine comp_tup (xs:=[.ref c]) (fun i ys G=>Same H G/\RepAll G (List.replicate i nCell) ys) ⟨Same.fresh _ hD,rfl⟩ (fun i ys G p=>SqT.of (p.1 _ _ hb)) (fun i x ys G hx hi hDy hyl p=>?_) (fun ys G hDy hyl p=>?_)
 .obtain⟨p1,rp⟩:=p
  have hi0:i=0:=by have:i<1:=hi;omega
  subst hi0
  cases (show x=V.ref c from (Option.some.inj hx).symm)
  cases (show ys=[]from rp)
  refine⟨c,_,rfl,SqT.of (p1 _ _ hc),rfl,_,_,rfl,_,_,rfl,_,_,rfl,rfl,?_⟩
  refine⟨Agree.set (Agree.set (Agree.set (Agree.refl _) rfl) rfl) rfl,?_⟩
  dsimp only[tYes]
  refine iteT ?_
  refine⟨_,rfl,_,rfl,(by show 2<=sizeLine;decide),fun t1 h1=>⟨(by show 2<=sizeLine;decide),fun t2 h2=>?_⟩⟩
  have s1:Same G (upd G t1 (.tup [.int 0,.int 0])):=Same.fresh _ h1
  have d1:upd G t1 (.tup [.int 0,.int 0]) t1=some (.tup [.int 0,.int 0]):=upd_same
  generalize upd G t1 (.tup [.int 0,.int 0])=G1 at *
  have s2:Same G1 (upd G1 t2 (.tup [.str "cell",.ref t1])):=Same.fresh _ h2
  have d2:upd G1 t2 (.tup [.str "cell",.ref t1]) t2=some (.tup [.str "cell",.ref t1]):=upd_same
  generalize upd G1 t2 (.tup [.str "cell",.ref t1])=G2 at *
  have s12:=s1.trans s2
  have hD2:=s12 _ _ hDy
  have rp2:Rep G2 nCell (.ref t2):=⟨t2,_,rfl,d2,_,_,rfl,⟨rfl,by decide +kernel⟩,_,_,rfl,⟨t1,_,rfl,s2 _ _ d1,_,_,rfl,rfl,_,_,rfl,rfl,rfl⟩,rfl⟩
  refine nx_put (by decide) hD2 hyl ⟨(p1.trans s12).new hD,?_⟩
  exact⟨_,[],rfl,rp2.tk (fun b xs e=>by rw[upd_ne (ne_of e hD2 (by intro z;cases z))];exact e) rfl,rfl⟩
 .obtain⟨p1,rp⟩:=p
  obtain⟨y,r,rfl,rp1,rfl⟩:=rp
  refine⟨_,rfl,a,_,_,_,rfl,rfl,SqT.of (p1 _ _ ha),atI_nat (j:=1) rfl,(by show 2<=sizeLine;decide),fun t1 h1=>⟨(by show 1<=sizeLine;decide),fun t2 h2=>?_⟩⟩
  have s1:Same G (upd G t1 (.tup [.str "kind",.int 0])):=Same.fresh _ h1
  have d1:upd G t1 (.tup [.str "kind",.int 0]) t1=some (.tup [.str "kind",.int 0]):=upd_same
  generalize upd G t1 (.tup [.str "kind",.int 0])=G1 at *
  have s2:Same G1 (upd G1 t2 (.lst [.ref t1])):=Same.fresh _ h2
  have d2:upd G1 t2 (.lst [.ref t1]) t2=some (.lst [.ref t1]):=upd_same
  generalize upd G1 t2 (.lst [.ref t1])=G2 at *
  have s12:=s1.trans s2
  refine⟨D,t2,[y],[.ref t1],rfl,rfl,s12 _ _ hDy,d2,(by show 2<=sizeLine;decide),fun p hp=>?_⟩
  have s3:Same G2 (upd G2 p (.lst [y,.ref t1])):=Same.fresh _ hp
  have sa:=(p1.trans s12)
  refine q p _ _ (sa.trans s3) (sa.free hp) upd_same ?_
  exact⟨_,_,rfl,(rp1.same s12).same s3,_,_,rfl,⟨t1,_,rfl,s3 _ _ (s2 _ _ d1),_,_,rfl,⟨rfl,by decide +kernel⟩,_,_,rfl,rfl,rfl⟩,rfl⟩
end
end K54
namespace L3
open PySem PySem.Spec PyProof.Rows L2
section
variable{X:Cx}{N:List Str}{scope:Scope}{z:CZ}{o e f k v:Expr}{apos cpos pos:Pos}{td ty tx tk tv:TE}
theorem pe_nget2C(hu:X.A.units+9<cLine)(ho:PE (cxComp X N scope z) o td)(he:PE (cxComp X N scope z) e ty)(hf:PE (cxComp X N scope z) f tx)(m:M2 (cxComp X N scope z) o "get" apos e f cpos):PE (cxComp X N scope z) (.Call (.Attribute o "get" apos) [e,f] [] cpos) (tNGet2 X.w td ty tx):=pe_nget2 (X:=cxComp X N scope z) hu ho he hf m
theorem pe_ndispC(hu:X.A.units+8<cLine)(hk:PE (cxComp X N scope z) k tk)(hv:PE (cxComp X N scope z) v tv):PE (cxComp X N scope z) (.Dict [some k] [v] pos) (tNDisp X.w tk tv):=pe_ndisp (X:=cxComp X N scope z) hu hk hv
end
end L3
namespace K54
open PySem PyProof.Rows L2 L3
noncomputable def D1(w:World)(H:Hp)(a:Addr)(x:Int):Prop:=∃b ep,DN w H a [(nCell,b,.int x)] ep
theorem D1.same{w:World}{H H':Hp}{a:Addr}{x:Int}(h:D1 w H a x)(s:Same H H'):D1 w H' a x:=by
 obtain⟨b,ep,D⟩:=h
 exact⟨b,ep,D.same s⟩
theorem val_cell(b:Addr)(v:V):valN [(nCell,b,v)] nCell=some v:=by
 unfold valN
 rw[List.find?_cons,decide_eq_true rfl];rfl
theorem kind_ne:nCell≠nKind:=by
 intro h
 injection h with h
 injection h with h _
 injection h with h
 exact absurd h (by decide +kernel)
theorem val_kind(b:Addr)(v:V):valN [(nCell,b,v)] nKind=none:=by
 unfold valN
 rw[List.find?_cons,decide_eq_false kind_ne];rfl
theorem kr_cell{H:Hp}{b:Addr}(h:Rep H nCell (.ref b)):KRep H nCell b:=⟨rfl,by decide,h⟩
theorem kr_kind{H:Hp}{b:Addr}(h:Rep H nKind (.ref b)):KRep H nKind b:=⟨rfl,by decide,h⟩
theorem two_needs{H:Hp}{ys:List V}(h:RepAll H [nCell,nKind] ys):∃b c,ys=[.ref b,.ref c]/\KRep H nCell b/\KRep H nKind c:=by
 obtain⟨x,r,rfl,h1,y,r2,rfl,h2,rfl⟩:=h
 obtain⟨b,_,rfl,_⟩:=id h1
 obtain⟨c,_,rfl,_⟩:=id h2
 exact⟨b,c,rfl,kr_cell h1,kr_kind h2⟩
seal L2.PE L2.PT L2.PW L2.PA L2.PS L2.PSs L2.PG L2.PGs L2.PI L2.PO
set_option pp.maxSteps 3000
section
variable{P:Program}{w:World}{K:PySem.W.Frag}{mg:Str->Option Value}{base:Heap}{f:Addr}{fd:FuncData}
noncomputable def spWgh(w:World):Sp:=fun vs H Q _=>∃(a:Addr) (v:V) (x p:Int),vs=[.ref a,v,.int p]/\D1 w H a x/\Rep H plQ v/\0<p/\∀H',Same H H'->Q (.int (x % p)) H'
theorem scWgh:FnScope ["by_need","placement","p"] ["by_need","placement","p"] (defScope sWgh):=⟨rfl,rfl,rfl,by decide +kernel,rfl,by decide +kernel,by decide +kernel⟩
theorem ok_wgh(B:∀x∈blts,mg x=none)(Fsrv:Fn P w K mg base "served_by" 1 ["placement"] spSrv)(F:Fun K "weighed" "weighed" sWgh f fd):FnOk P w K mg base CX0 2 f fd ["by_need","placement","p"] (spWgh w):=by
 refine F.ok (k:=1) scWgh (fun vs H Q E h=>?_) (fun cdv A outer s H vs Q E hr h=>?_)
 .obtain⟨_,_,_,_,rfl,_⟩:=h
  rfl
 obtain⟨a,v,x,p,rfl,hd,hv,hp,q⟩:=h
 have hu:=hr.units
 refine⟨_,(pss_one (ps_ret (pe_op op_mod (pe_cB (call_sumL rfl) rfl (B "sum" (by decide)) boot_sumL (pa_c (pe_comp ["need","by_need"] [none,some 0] rfl rfl (by decide +kernel) (by decide +kernel) rfl rfl (pi_list (pe_fn Fsrv hr (by decide) rfl (pa_c (pv 1) pa_nil))) (fun _=>(pg_name (i:=0) (show(["need","by_need"]:List PySem.Str).Nodup by decide +kernel) rfl (Or.inl rfl))) (fun _=>pts_nil) (fun _=>(pe_nget2C (Nat.lt_of_le_of_lt (Nat.add_le_add_left (by decide) _) hu) (pv 1) (pv 0) pe_int ⟨rfl,rfl,rfl,rfl⟩))) pa_nil)) (pv 2)))),?_⟩
 refine⟨_,rfl,v,rfl,hv,fun D ys H1 s1 hD hD1 rep=>⟨D,rfl,⟨_,SqL.of hD1⟩,fun D2 hD2=>?_⟩⟩
 obtain⟨b,c,rfl,kb,kc⟩:=two_needs rep
 obtain⟨b0,ep,d1⟩:=hd.same s1
 refine comp_list (xs:=[.ref b,.ref c]) (fun i zs G=>Same H1 G/\zs=([V.int x,V.int 0].take i)) ⟨Same.fresh _ hD2,rfl⟩ (fun i zs G p=>SqL.of (p.1 _ _ hD1)) (fun i y zs G hy hi hDy hyl p=>?_) (fun zs G hDy hyl p=>?_)
 .obtain⟨p1,rfl⟩:=p
  refine⟨Agree.set (Agree.refl _) rfl,?_⟩
  dsimp only[tYes]
  refine iteT ?_
  refine⟨_,rfl,a,rfl,⟨_,ep,d1.same p1⟩,_,rfl,?_⟩
  have hi2:i=0\/i=1:=by have:i<2:=hi;omega
  rcases hi2 with rfl|rfl
  .cases (show y=V.ref b from (Option.some.inj hy).symm)
   refine⟨_,ep,nCell,b,rfl,d1.same p1,kb.tk (Tk.of_same p1),?_⟩
   rw[val_cell]
   exact nx_put (by decide) hDy hyl ⟨p1.new hD2,rfl⟩
  .cases (show y=V.ref c from (Option.some.inj hy).symm)
   refine⟨_,ep,nKind,c,rfl,d1.same p1,kc.tk (Tk.of_same p1),?_⟩
   rw[val_kind]
   exact nx_put (by decide) hDy hyl ⟨p1.new hD2,rfl⟩
 .obtain⟨p1,rfl⟩:=p
  refine⟨D2,[x,0],rfl,SqL.of hDy,_,rfl,_,_,rfl,rfl,hp,?_⟩
  have e:([x,0]:List Int).sum=x:=by simp
  rw[e]
  exact q _ (s1.trans p1)
end
theorem D1.key{w:World}{H:Hp}{a b:Addr}{x:Int}{ep:Nat}(D:DN w H a [(nCell,b,.int x)] ep):KRep H nCell b:=D.keys _ (List.mem_singleton.mpr rfl)
theorem put_cell{b c:Addr}{v u:V}:putN [(nCell,b,v)] nCell c u=[(nCell,b,u)]:=by
 unfold putN
 rw[val_cell,if_pos (show(some v).isSome=true from rfl),List.map_cons,if_pos (show(nCell,b,v).1=nCell from rfl)];rfl
set_option pp.maxSteps 3000
section
variable{P:Program}{w:World}{K:PySem.W.Frag}{mg:Str->Option Value}{base:Heap}{f:Addr}{fd:FuncData}
noncomputable def spWsm(w:World):Sp:=fun vs H Q _=>∃(a c:Addr) (x y p:Int),vs=[.ref a,.ref c,.int p]/\D1 w H a x/\D1 w H c y/\0<=x/\x<=100/\0<p/\∀H',Same H H'->Q (.int (x*y % p)) H'
theorem scWsm:FnScope ["by_need","asked","p"] ["by_need","asked","p"] (defScope sWsm):=⟨rfl,rfl,rfl,by decide +kernel,rfl,by decide +kernel,by decide +kernel⟩
theorem ok_wsm(B:∀x∈blts,mg x=none)(F:Fun K "weighed_sum" "weighed_sum" sWsm f fd):FnOk P w K mg base CX0 1 f fd ["by_need","asked","p"] (spWsm w):=by
 refine F.ok (k:=0) scWsm (fun vs H Q E h=>?_) (fun cdv A outer s H vs Q E hr h=>?_)
 .obtain⟨_,_,_,_,_,rfl,_⟩:=h
  rfl
 obtain⟨a,c,x,y,p,rfl,⟨b,ep,d1⟩,⟨b',ep',d2⟩,x0,x1,hp,q⟩:=h
 have hu:=hr.units
 refine⟨_,(pss_one (ps_ret (pe_op op_mod (pe_cB (call_sumL rfl) rfl (B "sum" (by decide)) boot_sumL (pa_c (pe_comp ["need","weight","asked"] [none,none,some 1] rfl rfl (by decide +kernel) (by decide +kernel) rfl rfl (pi_items (pv 0)) (fun _=>(pg_tupC (n:=2) rfl (pgs_cons (pg_name (i:=0) (show(["need","weight","asked"]:List PySem.Str).Nodup by decide +kernel) rfl (Or.inl rfl)) (pgs_cons (pg_name (i:=1) (show(["need","weight","asked"]:List PySem.Str).Nodup by decide +kernel) rfl (Or.inl rfl)) pgs_nil)))) (fun _=>pts_nil) (fun _=>(pe_op op_mul (pv 1) (pe_nget2C (Nat.lt_of_le_of_lt (Nat.add_le_add_left (by decide) _) hu) (pv 2) (pv 0) pe_int ⟨rfl,rfl,rfl,rfl⟩)))) pa_nil)) (pv 2)))),?_⟩
 refine⟨_,rfl,a,_,ep,rfl,d1,fun D hD=>?_⟩
 refine comp_items (fun i zs G=>Same H G/\zs=([V.int (x*y)].take i)) ⟨Same.fresh _ hD,rfl⟩ (fun i zs G p=>d1.same p.1) (fun i z t zs G hz ht hDy hyl p=>?_) (fun zs G hDy hyl p=>?_)
 .obtain⟨p1,rfl⟩:=p
  have hi0:i=0:=by have:=(List.getElem?_eq_some_iff.mp hz).1;have:i<1:=this;omega
  subst hi0
  cases (show z=(nCell,b,V.int x)from (Option.some.inj hz).symm)
  have s1:Same G (upd G t (.tup [.ref b,.int x])):=Same.fresh _ ht
  have e1:upd G t (.tup [.ref b,.int x]) t=some (.tup [.ref b,.int x]):=upd_same
  refine⟨t,_,rfl,SqT.of e1,rfl,_,_,rfl,_,_,rfl,rfl,?_⟩
  generalize upd G t (.tup [.ref b,.int x])=G1 at *
  have p2:=p1.trans s1
  refine⟨Agree.set (Agree.set (Agree.refl _) rfl) rfl,?_⟩
  dsimp only[tYes]
  refine iteT ?_
  refine⟨_,rfl,_,rfl,c,rfl,⟨_,ep',d2.same p2⟩,_,rfl,_,ep',nCell,b,rfl,d2.same p2,(D1.key d1).tk (Tk.of_same p2),?_⟩
  rw[val_cell]
  refine⟨_,_,rfl,rfl,.inl ⟨by omega,by omega⟩,?_⟩
  exact nx_put (by decide) (s1 _ _ hDy) hyl ⟨p2.new hD,rfl⟩
 .obtain⟨p1,rfl⟩:=p
  refine⟨D,[x*y],rfl,SqL.of hDy,_,rfl,_,_,rfl,rfl,hp,?_⟩
  have e:([x*y]:List Int).sum=x*y:=by simp
  rw[e]
  exact q _ p1
end
set_option pp.maxSteps 3000
section
variable{P:Program}{w:World}{K:PySem.W.Frag}{mg:Str->Option Value}{base:Heap}{f:Addr}{fd:FuncData}
noncomputable def spScl(w:World):Sp:=fun vs H Q _=>∃(a:Addr) (x t p:Int),vs=[.ref a,.int t,.int p]/\D1 w H a x/\0<=x/\x<=100/\0<p/\∀(D:Addr) (H':Hp),Same H H'->H D=none->D1 w H' D (x*t % p)->Q (.ref D) H'
theorem scScl:FnScope ["by_need","times","p","found","need","weight"] ["by_need","times","p"] (defScope sScl):=⟨rfl,rfl,rfl,by decide +kernel,rfl,by decide +kernel,by decide +kernel⟩
theorem ok_scl(F:Fun K "scaled" "scaled" sScl f fd):FnOk P w K mg base CX0 1 f fd ["by_need","times","p"] (spScl w):=by
 refine F.ok (k:=0) scScl (fun vs H Q E h=>?_) (fun cdv A outer s H vs Q E hr h=>?_)
 .obtain⟨_,_,_,_,rfl,_⟩:=h
  rfl
 obtain⟨a,x,t,p,rfl,⟨b,ep,d1⟩,x0,x1,hp,q⟩:=h
 have hu:=hr.units
 refine⟨_,(pss_cons (ps_set (i:=3) scScl.nd rfl (Or.inl rfl) pe_nnew)
  (pss_cons (ps_for PassesOwn.never rfl (pi_items (pv 0)) (pg_tup (n:=2) rfl (pgs_cons (pg_name (i:=4) scScl.nd rfl (Or.inl rfl)) (pgs_cons (pg_name (i:=5) scScl.nd rfl (Or.inl rfl)) pgs_nil))) (pss_one (ps_nput (Nat.lt_of_le_of_lt (Nat.add_le_add_left (by decide) _) hu) (pv 3) (pv 4) (pe_op op_mod (pe_op op_mul (pv 5) (pv 1)) (pv 2)) rfl)))
  (pss_one (ps_ret (pv 3))))),?_⟩
 refine fun D hD hs=>?_
 refine⟨_,rfl,a,_,ep,rfl,d1.same (Same.fresh _ hD),?_⟩
 refine for_items (fun i σ' G=>Same H G/\∃y4 y5,σ'=[some (.ref a),some (.int t),some (.int p),some (.ref D),y4,y5]/\if i=0 then DN w G D [] 0 else D1 w G D (x*t % p)) ⟨Same.fresh _ hD,_,_,rfl,DN.new hs⟩ (fun i σ' G h=>d1.same h.1) (fun i z tp σ' G hz ht h=>?_) (fun σ' G h=>?_)
 .obtain⟨s1,y4,y5,rfl,hd⟩:=h
  have hi0:i=0:=by have:=(List.getElem?_eq_some_iff.mp hz).1;have:i<1:=this;omega
  subst hi0
  cases (show z=(nCell,b,V.int x)from (Option.some.inj hz).symm)
  have hd0:DN w G D [] 0:=hd
  have s2:Same G (upd G tp (.tup [.ref b,.int x])):=Same.fresh _ ht
  have e2:upd G tp (.tup [.ref b,.int x]) tp=some (.tup [.ref b,.int x]):=upd_same
  refine⟨tp,_,rfl,SqT.of e2,rfl,_,_,rfl,_,_,rfl,rfl,?_⟩
  generalize upd G tp (.tup [.ref b,.int x])=G1 at *
  have hd1:=hd0.same s2
  have kb:=(D1.key d1).tk (Tk.of_same (s1.trans s2))
  refine⟨_,rfl,_,rfl,_,_,rfl,rfl,.inl ⟨by omega,by omega⟩,_,rfl,_,_,rfl,rfl,hp,_,rfl,_,rfl,D,[],0,nCell,b,rfl,rfl,hd1,kb,(by show 0<sizeLine;decide),fun ep'=>?_⟩
  refine⟨(s1.trans s2).new hD,_,_,rfl,?_⟩
  rw[if_neg (by decide)]
  exact⟨b,ep',hd1.put kb (by show 0<sizeLine;decide) _ ep'⟩
 .obtain⟨s1,y4,y5,rfl,hd⟩:=h
  have hd':D1 w G D (x*t % p):=hd
  exact⟨_,rfl,q D G s1 hD hd'⟩
noncomputable def spLsn(w:World):Sp:=fun vs H Q _=>∃(a u:Addr) (x y t p:Int),vs=[.ref a,.ref u,.int t,.int p]/\D1 w H a x/\D1 w H u y/\0<=y/\y<=100/\0<p/\∀(D:Addr) (H':Hp),Same H H'->H D=none->D1 w H' D ((x-y*t) % p)->Q (.ref D) H'
theorem scLsn:FnScope ["by_need","unit","times","p","found","need","weight"] ["by_need","unit","times","p"] (defScope sLsn):=⟨rfl,rfl,rfl,by decide +kernel,rfl,by decide +kernel,by decide +kernel⟩
theorem ok_lsn(B:∀x∈blts,mg x=none)(F:Fun K "lessened" "lessened" sLsn f fd):FnOk P w K mg base CX0 1 f fd ["by_need","unit","times","p"] (spLsn w):=by
 refine F.ok (k:=0) scLsn (fun vs H Q E h=>?_) (fun cdv A outer s H vs Q E hr h=>?_)
 .obtain⟨_,_,_,_,_,_,rfl,_⟩:=h
  rfl
 obtain⟨a,u,x,y,t,p,rfl,⟨b,ep,d1⟩,⟨c,ep2,d2⟩,y0,y1,hp,q⟩:=h
 have hu:=hr.units
 refine⟨_,(pss_cons (ps_set (i:=4) scLsn.nd rfl (Or.inl rfl) (pe_cT call_copy1 rfl (B "dict" (by decide)) boot_dict (pa_c (pv 0) pa_nil)))
  (pss_cons (ps_for PassesOwn.never rfl (pi_items (pv 1)) (pg_tup (n:=2) rfl (pgs_cons (pg_name (i:=5) scLsn.nd rfl (Or.inl rfl)) (pgs_cons (pg_name (i:=6) scLsn.nd rfl (Or.inl rfl)) pgs_nil))) (pss_one (ps_nput (Nat.lt_of_le_of_lt (Nat.add_le_add_left (by decide) _) hu) (pv 4) (pv 5) (pe_op op_mod (pe_op op_sub (pe_nget2 (Nat.lt_of_le_of_lt (Nat.add_le_add_left (by decide) _) hu) (pv 4) (pv 5) pe_int ⟨rfl,rfl,rfl,rfl⟩) (pe_op op_mul (pv 6) (pv 2))) (pv 3)) rfl)))
  (pss_one (ps_ret (pv 4))))),?_⟩
 refine⟨_,rfl,a,nCell,b,.int x,ep,rfl,d1,fun D epD hD hs=>?_⟩
 have cp:=d1.copy hD hs epD
 refine⟨_,rfl,u,_,ep2,rfl,d2.same (Same.fresh _ hD),?_⟩
 refine for_items (fun i σ' G=>Same H G/\∃y5 y6,σ'=[some (.ref a),some (.ref u),some (.int t),some (.int p),some (.ref D),y5,y6]/\if i=0 then D1 w G D x else D1 w G D ((x-y*t) % p)) ⟨Same.fresh _ hD,_,_,rfl,b,epD,cp⟩ (fun i σ' G h=>d2.same h.1) (fun i z tp σ' G hz ht h=>?_) (fun σ' G h=>?_)
 .obtain⟨s1,y5,y6,rfl,hd⟩:=h
  have hi0:i=0:=by have:=(List.getElem?_eq_some_iff.mp hz).1;have:i<1:=this;omega
  subst hi0
  cases (show z=(nCell,c,V.int y)from (Option.some.inj hz).symm)
  obtain⟨b1,e1,hd0⟩:=(show D1 w G D x from hd)
  have s2:Same G (upd G tp (.tup [.ref c,.int y])):=Same.fresh _ ht
  have e2:upd G tp (.tup [.ref c,.int y]) tp=some (.tup [.ref c,.int y]):=upd_same
  refine⟨tp,_,rfl,SqT.of e2,rfl,_,_,rfl,_,_,rfl,rfl,?_⟩
  generalize upd G tp (.tup [.ref c,.int y])=G1 at *
  have hd1:=hd0.same s2
  have kc:=(D1.key d2).tk (Tk.of_same (s1.trans s2))
  refine⟨_,rfl,D,rfl,⟨_,e1,hd1⟩,_,rfl,_,e1,nCell,c,rfl,hd1,kc,?_⟩
  rw[val_cell]
  refine⟨_,rfl,_,rfl,_,_,rfl,rfl,.inl ⟨by omega,by omega⟩,_,_,rfl,rfl,_,rfl,_,_,rfl,rfl,hp,_,rfl,_,rfl,D,_,e1,nCell,c,rfl,rfl,hd1,kc,(by show 1<sizeLine;decide),fun ep'=>?_⟩
  refine⟨(s1.trans s2).new hD,_,_,rfl,?_⟩
  rw[if_neg (by decide)]
  have pt:=hd1.put kc (by show 1<sizeLine;decide) (.int ((x-y*t) % p)) ep'
  rw[put_cell]at pt
  refine⟨b1,ep',?_⟩
  rw[put_cell]
  exact pt
 .obtain⟨s1,y5,y6,rfl,hd⟩:=h
  have hd':D1 w G D ((x-y*t) % p):=hd
  exact⟨_,rfl,q D G s1 hD hd'⟩
end
noncomputable def oneL(i:Nat):List V:=if i<=1 then[]else[.int 1]
set_option pp.maxSteps 3000
section
variable{P:Program}{w:World}{K:PySem.W.Frag}{mg:Str->Option Value}{base:Heap}{f:Addr}{fd:FuncData}
noncomputable def spInv:Sp:=fun vs H Q _=>∃p:Int,vs=[.int 1,.int p]/\2<=p/\p<=97/\∀H',Same H H'->Q (.int 1) H'
theorem scInv:FnScope ["number","p"] ["number","p"] (defScope sInv):=⟨rfl,rfl,rfl,by decide +kernel,rfl,by decide +kernel,by decide +kernel⟩
theorem ok_inv(B:∀x∈blts,mg x=none)(F:Fun K "inverse" "inverse" sInv f fd):FnOk P w K mg base CX0 1 f fd ["number","p"] spInv:=by
 refine F.ok (k:=0) scInv (fun vs H Q E h=>?_) (fun cdv A outer s H vs Q E hr h=>?_)
 .obtain⟨_,rfl,_⟩:=h
  rfl
 obtain⟨p,rfl,p2,p97,q⟩:=h
 obtain⟨m,rfl⟩:=Int.eq_ofNat_of_zero_le (show 0<=p by omega)
 refine⟨_,(pss_one (ps_ret (pe_ix ix_list (pe_comp ["times","number","p"] [none,some 0,some 1] rfl rfl (by decide +kernel) (by decide +kernel) rfl rfl (pi_r1 rfl (B "range" (by decide)) (pa_c (pv 1) pa_nil)) (fun _=>(pg_name (i:=0) (show(["times","number","p"]:List PySem.Str).Nodup by decide +kernel) rfl (Or.inl rfl))) (fun _=>pts_one (pt_cmpR op_eq (pe_op op_mod (pe_op op_mul (pv 1) (pv 0)) (pv 2)) pe_int (nomark _))) (fun _=>(pv 0))) pe_int (fun _ _=>rfl)))),?_⟩
 refine⟨_,rfl,(m:Int),rfl,by omega,by omega,fun D hD=>?_⟩
 refine comp_range (lo:=0) (fun i ys G=>Same H G/\ys=oneL i) ⟨Same.fresh _ hD,rfl⟩ (fun i ys G hi hDy hyl p=>?_) (fun ys G hDy hyl p=>?_)
 .obtain⟨s1,rfl⟩:=p
  have him:i<m:=by simpa using hi
  refine⟨Agree.set (Agree.refl _) rfl,?_⟩
  rw[Int.zero_add]
  refine⟨_,rfl,_,rfl,_,_,rfl,rfl,.inl ⟨by decide,by decide⟩,_,rfl,_,_,rfl,rfl,(by show(0:Int)<(m:Nat);omega),rfl,_,rfl,?_⟩
  dsimp only
  by_cases h1:i=1
  .subst h1
   rw[decide_eq_true (show V.int ((1*((1:Nat):Int)) % (m:Int))=V.int 1 by rw[Int.emod_eq_of_lt (by omega) (by omega)];rfl)]
   refine iteT ⟨_,rfl,?_⟩
   exact nx_put (by decide) hDy hyl ⟨s1.new hD,rfl⟩
  .rw[decide_eq_false (fun z:V.int ((1*(i:Int)) % (m:Int))=V.int 1=>h1 (by injection z with z;rw[Int.emod_eq_of_lt (by omega) (by omega)]at z;omega))]
   refine iteF ⟨oneL i,hDy,by omega,s1,?_⟩
   unfold oneL
   by_cases h0:i=0
   .rw[if_pos (by omega),if_pos (by omega)]
   .rw[if_neg (by omega),if_neg (by omega)]
 .obtain⟨s1,rfl⟩:=p
  have e:oneL ((m:Int)).toNat=[.int 1]:=by
   unfold oneL
   rw[if_neg (by omega)]
  rw[e]at hDy
  exact⟨D,_,_,_,rfl,rfl,SqL.of hDy,atI_nat (j:=0) rfl,q _ s1⟩
noncomputable def spLes(w:World):Sp:=fun vs H Q _=>∃(a:Addr) (v:V) (x t:Int),vs=[.ref a,v,.int t]/\D1 w H a x/\Rep H plQ v/\∀(D:Addr) (H':Hp),Same H H'->H D=none->D1 w H' D (x-t)->Q (.ref D) H'
theorem scLes:FnScope ["left","placement","times","rest","need"] ["left","placement","times"] (defScope sLes):=⟨rfl,rfl,rfl,by decide +kernel,rfl,by decide +kernel,by decide +kernel⟩
theorem ok_les(B:∀x∈blts,mg x=none)(Fsrv:Fn P w K mg base "served_by" 1 ["placement"] spSrv)(F:Fun K "less_served" "less_served" sLes f fd):FnOk P w K mg base CX0 2 f fd ["left","placement","times"] (spLes w):=by
 refine F.ok (k:=1) scLes (fun vs H Q E h=>?_) (fun cdv A outer s H vs Q E hr h=>?_)
 .obtain⟨_,_,_,_,rfl,_⟩:=h
  rfl
 obtain⟨a,v,x,t,rfl,⟨b,ep,d1⟩,hv,q⟩:=h
 have hu:=hr.units
 refine⟨_,(pss_cons (ps_set (i:=3) scLes.nd rfl (Or.inl rfl) (pe_cT call_copy1 rfl (B "dict" (by decide)) boot_dict (pa_c (pv 0) pa_nil)))
  (pss_cons (ps_for PassesOwn.never rfl (pi_list (pe_fn Fsrv hr (by decide) rfl (pa_c (pv 1) pa_nil))) (pg_name (i:=4) scLes.nd rfl (Or.inl rfl)) (pss_one (ps_if (pt_cmp (pc_nin (Nat.lt_of_le_of_lt (Nat.add_le_add_left (by decide) _) hu) (pv 4) (pv 3))) (pss_one (ps_nput (Nat.lt_of_le_of_lt (Nat.add_le_add_left (by decide) _) hu) (pv 3) (pv 4) (pe_op op_sub (pe_nget (Nat.lt_of_le_of_lt (Nat.add_le_add_left (by decide) _) hu) (pv 3) (pv 4) (fun _ _=>rfl)) (pv 2)) rfl)) pss_nil)))
  (pss_one (ps_ret (pv 3))))),?_⟩
 refine⟨_,rfl,a,nCell,b,.int x,ep,rfl,d1,fun D epD hD hs=>?_⟩
 have s0:Same H (upd H D (DNo w D [(nCell,b,.int x)] epD)):=Same.fresh _ hD
 have cp:=d1.copy hD hs epD
 refine⟨_,rfl,v,rfl,hv.same s0,fun L ys H1 s1 hL hL1 rep=>⟨L,rfl,⟨_,SqL.of hL1⟩,?_⟩⟩
 obtain⟨b1,c1,rfl,kb,kc⟩:=two_needs rep
 refine for_list (xs:=[.ref b1,.ref c1]) (fun i σ' G=>Same H G/\Tk H1 G/\G L=some (.lst [.ref b1,.ref c1])/\∃y4,σ'=[some (.ref a),some v,some (.int t),some (.ref D),y4]/\D1 w G D (if i=0 then x else x-t)) ⟨s0.trans s1,Tk.refl _,hL1,_,rfl,_,_,cp.same s1⟩ (fun i σ' G hi h=>SqL.of h.2.2.1) (fun i y σ' G hy h=>?_) (fun σ' G h=>?_)
 .obtain⟨p1,pt,pL,y4,rfl,b2,e2,hd⟩:=h
  have hi2:i=0\/i=1:=by have:=(List.getElem?_eq_some_iff.mp hy).1;have:i<2:=this;omega
  rcases hi2 with rfl|rfl
  .cases (show y=V.ref b1 from (Option.some.inj hy).symm)
   have hd0:DN w G D [(nCell,b2,.int x)] e2:=hd
   have kb2:=kb.tk pt
   refine⟨_,rfl,_,rfl,D,_,e2,nCell,b1,rfl,rfl,hd0,kb2,?_⟩
   rw[val_cell]
   refine⟨true,rfl,iteT ?_⟩
   refine⟨_,rfl,_,rfl,D,_,e2,nCell,b1,_,rfl,rfl,hd0,kb2,val_cell _ _,_,rfl,_,_,rfl,rfl,_,rfl,_,rfl,D,_,e2,nCell,b1,rfl,rfl,hd0,kb2,(by show 1<sizeLine;decide),fun ep'=>?_⟩
   have pt2:=hd0.put kb2 (by show 1<sizeLine;decide) (.int (x-t)) ep'
   rw[put_cell]at pt2
   refine⟨p1.new hD,pt.trans (fun b xs e=>?_),?_,_,rfl,b2,ep',?_⟩
   .rw[upd_ne (ne_of e hd0.obj (by intro z;cases z))];exact e
   .rw[upd_ne (ne_of pL hd0.obj (by intro z;cases z))];exact pL
   .rw[put_cell]
    exact pt2
  .cases (show y=V.ref c1 from (Option.some.inj hy).symm)
   have hd0:DN w G D [(nCell,b2,.int (x-t))] e2:=hd
   refine⟨_,rfl,_,rfl,D,_,e2,nKind,c1,rfl,rfl,hd0,kc.tk pt,?_⟩
   rw[val_kind]
   exact⟨false,rfl,iteF ⟨p1,pt,pL,_,rfl,b2,e2,hd0⟩⟩
 .obtain⟨p1,pt,pL,y4,rfl,hd⟩:=h
  exact⟨_,rfl,q D G p1 hD hd⟩
end
noncomputable abbrev dot:Str:="."
theorem eD:(Str.ofString ".")=⟨#[46]⟩:=by decide +kernel
set_option pp.maxSteps 3000
section
variable{P:Program}{w:World}{K:PySem.W.Frag}{mg:Str->Option Value}{base:Heap}{f:Addr}{fd:FuncData}
noncomputable def spMust:Sp:=fun vs H Q _=>∃(a b:Addr) (M:Mat) (r c:Nat),vs=[.ref a,.ref b]/\FlM H a M/\H b=some (.tup [.int (r:Nat),.int (c:Nat)])/\gA M r c=46/\Q (.bl true) H
theorem scMust:FnScope ["floor","cell","sign"] ["floor","cell"] (defScope sMust):=⟨rfl,rfl,rfl,by decide +kernel,rfl,by decide +kernel,by decide +kernel⟩
theorem ok_must(gV:GS mg "COVERED" ".")(Fat:FnAt P w K mg base)(Fbig:Fn P w K mg base "is_sign" 1 ["found"] spBig)(F:Fun K "must_be" "must_be" sMust f fd):FnOk P w K mg base CX0 2 f fd ["floor","cell"] spMust:=by
 refine F.ok (k:=1) scMust (fun vs H Q E h=>?_) (fun cdv A outer s H vs Q E hr h=>?_)
 .obtain⟨a,b,M,r,c,rfl,_⟩:=h
  rfl
 obtain⟨a,b,M,r,c,rfl,hf,hb,hg,q⟩:=h
 refine⟨_,(pss_cons (ps_set (i:=2) scMust.nd rfl (Or.inl rfl) (pe_fn Fat hr (by decide) rfl (pa_c (pv 0) (pa_c (pv 1) pa_nil))))
  (pss_one (ps_ret (pe_or (pe_cmpR op_eq (pv 2) (pe_globS gV rfl) (nomark _)) (pe_one (pe_fn Fbig hr (by decide) rfl (pa_c (pv 2) pa_nil))))))),?_⟩
 refine⟨_,rfl,_,rfl,a,b,M,r,c,rfl,hf,hb,?_⟩
 rw[hg]
 refine⟨_,rfl,rfl,true,?_,iteT q⟩
 exact congrArg V.bl (decide_eq_true (congrArg V.str eD.symm))
noncomputable def spOc:Sp:=fun vs H Q _=>∃a:Addr,vs=[.ref a]/\Fl H a [dot]/\∀(D t:Addr) (H':Hp),Same H H'->H D=none->H' D=some (.lst [.ref t])->H' t=some (.tup [.int 0,.int 0])->Q (.ref D) H'
theorem scOc:FnScope ["floor"] ["floor"] (defScope sOc):=⟨rfl,rfl,rfl,by decide +kernel,rfl,by decide +kernel,by decide +kernel⟩
theorem ok_oc(gC:GS mg "CLOSED" "#")(Fspots:Fn P w K mg base "floor_spots" 1 ["floor"] spSpots)(F:Fun K "open_cells" "open_cells" sOc f fd):FnOk P w K mg base CX0 2 f fd ["floor"] spOc:=by
 refine F.ok (k:=1) scOc (fun vs H Q E h=>?_) (fun cdv A outer s H vs Q E hr h=>?_)
 .obtain⟨a,rfl,_⟩:=h
  rfl
 obtain⟨a,rfl,hf,q⟩:=h
 refine⟨_,(pss_one (ps_ret (pe_comp ["row","column","sign"] [none,none,none] rfl rfl (by decide +kernel) (by decide +kernel) rfl rfl (pi_list (pe_fn Fspots hr (by decide) rfl (pa_c (pv 0) pa_nil))) (fun _=>(pg_tupC (n:=3) rfl (pgs_cons (pg_name (i:=0) (show(["row","column","sign"]:List PySem.Str).Nodup by decide +kernel) rfl (Or.inl rfl)) (pgs_cons (pg_name (i:=1) (show(["row","column","sign"]:List PySem.Str).Nodup by decide +kernel) rfl (Or.inl rfl)) (pgs_cons (pg_name (i:=2) (show(["row","column","sign"]:List PySem.Str).Nodup by decide +kernel) rfl (Or.inl rfl)) pgs_nil))))) (fun _=>pts_one (pt_cmpR op_ne (pv 2) (pe_globS gC rfl) (nomark _))) (fun _=>(pe_tup (pa_c (pv 0) (pa_c (pv 1) pa_nil))))))),?_⟩
 refine⟨_,rfl,a,_,rfl,hf,fun D ys H1 s1 hD1 hl rep=>⟨D,rfl,⟨_,SqL.of hD1⟩,fun D2 hD2=>?_⟩⟩
 have rep':RepAll H1 [.tuple [.int 0,.int 0,.str dot]] ys:=rep
 obtain⟨y,r,rfl,⟨t,xs,rfl,ht,z1,t1,rfl,e1,z2,t2,rfl,e2,z3,t3,rfl,e3,rfl⟩,rfl⟩:=rep'
 cases (show z1=_ from e1)
 cases (show z2=_ from e2)
 cases (show z3=_ from e3.1)
 refine comp_list (xs:=[.ref t]) (fun i zs G=>Same H1 G/\if i=0 then zs=[]else ∃t',zs=[.ref t']/\G t'=some (.tup [.int 0,.int 0])) ⟨Same.fresh _ hD2,rfl⟩ (fun i zs G p=>SqL.of (p.1 _ _ hD1)) (fun i y zs G hy hi hDy hyl p=>?_) (fun zs G hDy hyl p=>?_)
 .obtain⟨p1,pz⟩:=p
  have hi0:i=0:=by have:i<1:=hi;omega
  subst hi0
  cases (show y=V.ref t from (Option.some.inj hy).symm)
  cases (show zs=[]from pz)
  refine⟨t,_,rfl,SqT.of (p1 _ _ ht),rfl,_,_,rfl,_,_,rfl,_,_,rfl,rfl,?_⟩
  refine⟨Agree.set (Agree.set (Agree.set (Agree.refl _) rfl) rfl) rfl,?_⟩
  refine⟨_,rfl,rfl,true,(by decide +kernel),iteT ?_⟩
  refine⟨_,rfl,_,rfl,(by show 2<=sizeLine;decide),fun t1 h1=>?_⟩
  have s2:Same G (upd G t1 (.tup [.int 0,.int 0])):=Same.fresh _ h1
  have d2:upd G t1 (.tup [.int 0,.int 0]) t1=some (.tup [.int 0,.int 0]):=upd_same
  generalize upd G t1 (.tup [.int 0,.int 0])=G2 at *
  have hD3:=s2 _ _ hDy
  refine nx_put (by decide) hD3 hyl ⟨(p1.trans s2).new hD2,?_⟩
  refine(?_:∃t',[V.ref t1]=[V.ref t']/\upd G2 D2 (.lst [.ref t1]) t'=some (.tup [.int 0,.int 0]))
  exact⟨t1,rfl,by rw[upd_ne (ne_of d2 hD3 (by intro z;cases z))];exact d2⟩
 .obtain⟨p1,pz⟩:=p
  obtain⟨t',rfl,h'⟩:=(show ∃t',zs=[V.ref t']/\G t'=some (.tup [.int 0,.int 0])from pz)
  exact q D2 t' G (s1.trans p1) (s1.free hD2) hDy h'
end
noncomputable abbrev M0:Mat:=⟨1,1,fun _ _=>46⟩
noncomputable def PzC(H:Hp)(p:Addr):Prop:=∃fl kr e k fr sp:Addr,H p=some (.tup [.ref fl,.ref kr,.ref e])/\H fl=some (.tup [.str dot])/\H kr=some (.tup [.ref k])/\H k=some (.tup [.str "a",.int 0,.non,.str "still",.ref fr])/\H fr=some (.tup [.ref sp])/\H sp=some (.tup [.int 0,.int 0,.str "Q"])
theorem PzC.same{H H':Hp}{p:Addr}(h:PzC H p)(s:Same H H'):PzC H' p:=by
 obtain⟨fl,kr,e,k,fr,sp,h1,h2,h3,h4,h5,h6⟩:=h
 exact⟨fl,kr,e,k,fr,sp,s _ _ h1,s _ _ h2,s _ _ h3,s _ _ h4,s _ _ h5,s _ _ h6⟩
theorem rw_dot:Rw [dot]:=by
 refine⟨by decide,by decide,1,by decide,by decide,fun z hz=>?_⟩
 rw[List.mem_singleton.mp hz]
 refine⟨⟨⟨by decide +kernel,fun c hc=>?_⟩,fun c hc=>?_⟩,by decide +kernel⟩
 .rw[show dot.cps.toList=[46] by decide +kernel]at hc
  rw[List.mem_singleton.mp hc];decide
 .rw[show dot.cps.toList=[46] by decide +kernel]at hc
  rw[List.mem_singleton.mp hc];decide +kernel
theorem strs_dot:strsM M0=[dot]:=by decide +kernel
set_option pp.maxSteps 3000
section
variable{P:Program}{w:World}{K:PySem.W.Frag}{mg:Str->Option Value}{base:Heap}{f:Addr}{fd:FuncData}
noncomputable def spAsk(w:World):Sp:=fun vs H Q _=>∃p:Addr,vs=[.ref p]/\PzC H p/\∀(D:Addr) (H':Hp),Same H H'->H D=none->D1 w H' D 1->Q (.ref D) H'
theorem scAsk:FnScope ["puzzle","asked","cell","k","kind"] ["puzzle"] (defScope sAsk):=⟨rfl,rfl,rfl,by decide +kernel,rfl,by decide +kernel,by decide +kernel⟩
theorem ok_ask(B:∀x∈blts,mg x=none)(hM0:OkM SgP M0)(Foc:Fn P w K mg base "open_cells" 2 ["floor"] spOc)(Fmust:Fn P w K mg base "must_be" 2 ["floor","cell"] spMust)(F:Fun K "asked_sums" "asked_sums" sAsk f fd):FnOk P w K mg base CX0 3 f fd ["puzzle"] (spAsk w):=by
 refine F.ok (k:=2) scAsk (fun vs H Q E h=>?_) (fun cdv A outer s H vs Q E hr h=>?_)
 .obtain⟨p,rfl,_⟩:=h
  rfl
 obtain⟨p,rfl,⟨fl,kr,e,k,fr,sp,h1,h2,h3,h4,h5,h6⟩,q⟩:=h
 have hu:=hr.units
 refine⟨_,(pss_cons (ps_set (i:=1) scAsk.nd rfl (Or.inl rfl) pe_nnew)
  (pss_cons (ps_for PassesOwn.never rfl (pi_list (pe_fn Foc hr (by decide) rfl (pa_c (pe_ix ix_tup (pv 0) pe_int (fun _ _=>rfl)) pa_nil))) (pg_name (i:=2) scAsk.nd rfl (Or.inl rfl)) (pss_one (ps_if (pt_val (pe_fn Fmust hr (by decide) rfl (pa_c (pe_ix ix_tup (pv 0) pe_int (fun _ _=>rfl)) (pa_c (pv 2) pa_nil)))) (pss_one (ps_nput (Nat.lt_of_le_of_lt (Nat.add_le_add_left (by decide) _) hu) (pv 1) (pe_tup (pa_c pe_str (pa_c (pv 2) pa_nil))) pe_int rfl)) pss_nil)))
  (pss_cons (ps_for PassesOwn.never rfl (pi_enT rfl (B "enumerate" (by decide)) (pa_c (pe_ix ix_tup (pv 0) pe_int (fun _ _=>rfl)) pa_nil)) (pg_tup (n:=2) rfl (pgs_cons (pg_name (i:=3) scAsk.nd rfl (Or.inl rfl)) (pgs_cons (pg_name (i:=4) scAsk.nd rfl (Or.inl rfl)) pgs_nil))) (pss_one (ps_if (pt_cmpR op_eq (pe_ix ix_tup (pv 4) pe_int (fun _ _=>rfl)) (pe_ix ix_tup (pv 4) pe_int (fun _ _=>rfl)) (nomark _)) (pss_one (ps_nput (Nat.lt_of_le_of_lt (Nat.add_le_add_left (by decide) _) hu) (pv 1) (pe_tup (pa_c pe_str (pa_c (pv 3) pa_nil))) (pe_ix ix_tup (pv 4) pe_int (fun _ _=>rfl)) rfl)) pss_nil)))
  (pss_one (ps_ret (pv 1)))))),?_⟩
 refine fun D hD hs=>?_
 have s0:Same H (upd H D (DNo w D [] 0)):=Same.fresh _ hD
 refine⟨_,rfl,p,_,_,_,rfl,rfl,SqT.of (s0 _ _ h1),atI_nat (j:=0) rfl,fl,rfl,⟨s0 _ _ h2,rw_dot⟩,fun L t H1 s1 hL hL1 ht=>⟨L,rfl,⟨_,SqL.of hL1⟩,?_⟩⟩
 refine for_list (xs:=[.ref t]) (fun i σ' G=>Same H G/\Tk H1 G/\G L=some (.lst [.ref t])/\∃y2,σ'=[some (.ref p),some (.ref D),y2,none,none]/\if i=0 then DN w G D [] 0 else D1 w G D 1) ⟨s0.trans s1,Tk.refl _,hL1,_,rfl,(DN.new hs).same s1⟩ (fun i σ' G hi h=>SqL.of h.2.2.1) (fun i y σ' G hy h=>?_) (fun σ' G h=>?_)
 .obtain⟨p1,pt,pL,y2,rfl,hd⟩:=h
  have hi0:i=0:=by have:=(List.getElem?_eq_some_iff.mp hy).1;have:i<1:=this;omega
  subst hi0
  cases (show y=V.ref t from (Option.some.inj hy).symm)
  have hd0:DN w G D [] 0:=hd
  refine⟨_,rfl,p,_,_,_,rfl,rfl,SqT.of (p1 _ _ h1),atI_nat (j:=0) rfl,_,rfl,fl,t,M0,0,0,rfl,⟨?_,hM0⟩,pt _ _ ht,rfl,true,rfl,iteT ?_⟩
  .rw[strs_dot];exact p1 _ _ h2
  refine⟨_,rfl,_,rfl,(by show 2<=sizeLine;decide),fun t2 g2=>?_⟩
  have s2:Same G (upd G t2 (.tup [.str "cell",.ref t])):=Same.fresh _ g2
  have d2:upd G t2 (.tup [.str "cell",.ref t]) t2=some (.tup [.str "cell",.ref t]):=upd_same
  generalize upd G t2 (.tup [.str "cell",.ref t])=G2 at *
  have kt:KRep G2 nCell t2:=kr_cell ⟨t2,_,rfl,d2,_,_,rfl,⟨rfl,by decide +kernel⟩,_,_,rfl,⟨t,_,rfl,s2 _ _ (pt _ _ ht),_,_,rfl,rfl,_,_,rfl,rfl,rfl⟩,rfl⟩
  have hd2:=hd0.same s2
  refine⟨D,[],0,nCell,t2,rfl,rfl,hd2,kt,(by show 0<sizeLine;decide),fun ep'=>?_⟩
  have tkD:Tk G2 (upd G2 D (DNo w D (putN [] nCell t2 (.int 1)) ep')):=fun b xs z=>by rw[upd_ne (ne_of z hd2.obj (by intro z;cases z))];exact z
  refine⟨(p1.trans s2).new hD,(pt.trans (Tk.of_same s2)).trans tkD,?_,_,rfl,?_⟩
  .rw[upd_ne (ne_of (s2 _ _ pL) hd2.obj (by intro z;cases z))];exact s2 _ _ pL
  .exact(⟨t2,ep',hd2.put kt (by show 0<sizeLine;decide) _ ep'⟩:D1 w _ D 1)
 .obtain⟨p1,pt,pL,y2,rfl,hd⟩:=h
  have hd1:D1 w G D 1:=hd
  refine⟨_,rfl,p,_,_,_,rfl,rfl,SqT.of (p1 _ _ h1),atI_nat (j:=1) rfl,kr,rfl,⟨_,SqT.of (p1 _ _ h3)⟩,?_⟩
  refine for_enT (xs:=[.ref k]) (fun i σ' G=>∃(y2 y3 y4:Option V),σ'=[some (.ref p),some (.ref D),y2,y3,y4]/\Same H G/\D1 w G D 1) ⟨_,_,_,rfl,p1,hd1⟩ (fun i σ' G h=>?_) (fun i x pr σ' G hx hpr h=>?_) (fun σ' G h=>?_)
  .obtain⟨_,_,_,_,sg,_⟩:=h
   exact SqT.of (sg _ _ h3)
  .obtain⟨y2,y3,y4,rfl,sg,hdG⟩:=h
   have hi0:i=0:=by have:=(List.getElem?_eq_some_iff.mp hx).1;have:i<1:=this;omega
   subst hi0
   cases (show x=V.ref k from (Option.some.inj hx).symm)
   have s2:Same G (upd G pr (.tup [.int ((0:Nat):Int),.ref k])):=Same.fresh _ hpr
   have d2:upd G pr (.tup [.int ((0:Nat):Int),.ref k]) pr=some (.tup [.int ((0:Nat):Int),.ref k]):=upd_same
   refine⟨pr,_,rfl,SqT.of d2,rfl,_,_,rfl,_,_,rfl,rfl,?_⟩
   generalize upd G pr (.tup [.int ((0:Nat):Int),.ref k])=G2 at *
   have sg2:=sg.trans s2
   refine⟨_,rfl,k,_,_,_,rfl,rfl,SqT.of (sg2 _ _ h4),atI_nat (j:=1) rfl,_,rfl,k,_,_,_,rfl,rfl,SqT.of (sg2 _ _ h4),atI_nat (j:=2) rfl,rfl,false,rfl,iteF ?_⟩
   exact⟨_,_,_,rfl,sg2,hdG.same s2⟩
  .obtain⟨y2,y3,y4,rfl,sg,hdG⟩:=h
   exact⟨_,rfl,q D G sg hD hdG⟩
end
end K54
set_option pp.maxSteps 3000
namespace L3
open PySem
open AutoSeq1 (wpAny_loadPart')
theorem mro_rev:mroOf (.type "reversed")=pure [.type "reversed",.type "object"]:=by rw[mroOf_type];kernel_rfl
theorem lookup_rev_new:typeLookup (.type "reversed") "__new__" = pure (some (.builtin "reversed.__new__")):=by rw[typeLookup_type,builtinLookup_eq_fast];kernel_rfl
theorem made_rev:Bind.madeBy (.type "reversed")=pure (some "reversed.__new__"):=madeBy_type mro_rev lookup_rev_new (by decide +kernel)
theorem typeCall_rev(a:Value):checkTypeCall "reversed" ⟨[a],[]⟩=pure ():=by kernel_rfl
theorem newCall_rev(a:Value):checkBuiltinCall "reversed.__new__" ⟨[.type "reversed",a],[]⟩=pure ():=by kernel_rfl
theorem entry_rev_new:entryFor table "reversed.__new__" = some Builtin.«reversed.__new__»:=entryFor_of_tree (by kernel_rfl)
theorem sub_rev:isSubtype (.type "reversed") (.type "reversed")=pure true:=by rw[isSubtype_type];kernel_rfl
theorem sub_rev2:isSubtype (.type "list_reverseiterator") (.type "reversed")=pure false:=by rw[isSubtype_type];kernel_rfl
theorem slot_revit_next:Slot "list_reverseiterator" "__next__" "list_reverseiterator.__next__":=
 .of (owner:="list_reverseiterator") (n:="__next__") (by rw[typeLookup_type,builtinLookup_eq_fast];kernel_rfl) (by decide +kernel) (by decide +kernel) (by decide +kernel)
  (by first|exact .inl (by decide +kernel)|exact .inr (by decide +kernel)) (by rw[isSubtype_type];kernel_rfl)
theorem slot_revit_iter:Slot "list_reverseiterator" "__iter__" "list_reverseiterator.__iter__":=
 .of (owner:="list_reverseiterator") (n:="__iter__") (by rw[typeLookup_type,builtinLookup_eq_fast];kernel_rfl) (by decide +kernel) (by decide +kernel) (by decide +kernel)
  (by first|exact .inl (by decide +kernel)|exact .inr (by decide +kernel)) (by rw[isSubtype_type];kernel_rfl)
theorem entry_revit_next:entryFor table "list_reverseiterator.__next__" = some Builtin.«list_reverseiterator.__next__»:=entryFor_of_tree (by kernel_rfl)
theorem entry_revit_iter:entryFor table "list_reverseiterator.__iter__" = some Builtin.«dict_keyiterator.__iter__»:=
 entryFor_alias (id':="dict_keyiterator.__iter__") (by kernel_rfl) (by first|rfl|decide +kernel|(unfold String.splitOn;simp +decide [String.splitOnAux])) (by decide +kernel) (by kernel_rfl)
theorem args_revit_next(a:Value):argsOk "list_reverseiterator.__next__" ⟨[a],[]⟩:=by unfold argsOk;kernel_rfl
theorem args_revit_iter(a:Value):argsOk "list_reverseiterator.__iter__" ⟨[a],[]⟩:=by unfold argsOk;kernel_rfl
theorem meets_rev(l:Addr)(items:Array Value)(n:Nat) :
  Meets (Builtin.«reversed.__new__» ⟨[.type "reversed",.ref l],[]⟩) (fun _ R s=>s.heap.get? l=some {cls:=.type "list",dict:=none,data:=.seq items n,slots:=#[]}/\
   R (.ok (.ret (.ref s.heap.objs.size))) {s with heap:=s.heap.push {cls:=.type "list_reverseiterator",data:=.fields #[.ref l,rawInt (((items.size:Nat):Int)-1)]}}):=
 .of_wp fun prog w A R s h=>by
  obtain⟨hp,g,d,tk,os⟩:=s;obtain⟨hl,h⟩:=h
  have hsub:=sub_rev
  have hT:Shared.TypeIs ⟨hp,g,d,tk,os⟩ (.ref l) "list":=⟨_,hl,rfl⟩
  have hlk:=F.slot_list_reversed.lookup
  have hbi:=F.slot_list_reversed.bind (.ref l)
  wp_walk
  refine codeAny_mono (codeAny_call_builtin F.slot_list_reversed.plain F.entry_list_reversed (F.slot_list_reversed.check _ _ _ _ _ _ _ _ hT (F.args_list_reversed_1 _) (AutoListH.list___reversed___list_0 l items n prog w A.in1 (wants (fun v s'=>v=.ref hp.objs.size/\s'=⟨hp.push {cls:=.type "list_reverseiterator",data:=.fields #[.ref l,rawInt (((items.size:Nat):Int)-1)]},g,d,tk,os⟩) (fun _ _=>False)) _ ⟨hl,⟨rfl,rfl⟩⟩))) fun r s₁ hr=>?_
  cases r with
  | error e=>exact hr.elim
  | ok fl=>
   cases fl with
   | ret obj=>
    obtain⟨rfl,rfl⟩:=hr
    exact wpAny_pure ⟨_,rfl,h⟩
   | _=>exact hr.elim
section
variable{prog:Program}{w:World}{A:Around}{E:Value->Shared->Prop}{s:Shared}
theorem call_rev{l:Addr}{items:Array Value}{n:Nat}{Q:Value->Shared->Prop}(hl:s.heap.get? l=some {cls:=.type "list",dict:=none,data:=.seq items n,slots:=#[]})
  (h:Q (.ref s.heap.objs.size) {s with heap:=s.heap.push {cls:=.type "list_reverseiterator",data:=.fields #[.ref l,rawInt (((items.size:Nat):Int)-1)]}}) :
  wpAny (model prog w) A (call (.type "reversed") [.ref l]) Q E s:=by
 have hmro:=mro_rev
 have hmade:=made_rev
 have hct:=typeCall_rev (.ref l)
 have hsub:=sub_rev2
 refine wpAny_call (codeAny_of_tree ?_)
 show wpAny _ _ (callAny (.type "reversed") _) _ _ _
 refine wpAny_pure ⟨Code.quiet_builtin _ (by decide +kernel),codeAny_builtin F.entry_type_call ?_⟩
 rw[Around.under_plain (weight_type_call_type "reversed" _ []) (units_type_call_type "reversed" _ [])]
 have h1:(Value.type "reversed" == Value.type "type")=false:=by decide +kernel
 have h2:((Manifest.find? "reversed").bind (·.mro.findSome? fun t=>(Manifest.find? t).bind fun b=>if b.noNew then some true else if b.attrs.any (·.1 == "__new__")then some false else none)).getD false=false:=by decide +kernel
 repeat (any_goals (first|assumption|wp_step))
 refine codeAny_mono (codeAny_call_builtin (by decide +kernel) entry_rev_new (wpAny_of_eq (newCall_rev _) (meets_rev l items n prog w A.in1 (wants (fun v s'=>v=.ref s.heap.objs.size/\s'={s with heap:=s.heap.push {cls:=.type "list_reverseiterator",data:=.fields #[.ref l,rawInt (((items.size:Nat):Int)-1)]}}) (fun _ _=>False)) s ⟨hl,⟨rfl,rfl⟩⟩))) fun r s₁ hr=>?_
 cases r with
 | error e=>exact hr.elim
 | ok fl=>
  cases fl with
  | ret obj=>
   obtain⟨rfl,rfl⟩:=hr
   have hT:Shared.TypeIs {s with heap:=s.heap.push {cls:=.type "list_reverseiterator",data:=.fields #[.ref l,rawInt (((items.size:Nat):Int)-1)]}} (.ref s.heap.objs.size) "list_reverseiterator":=⟨_,Heap.get?_push_size _ rfl,rfl⟩
   repeat (any_goals (first|assumption|wp_step))
  | _=>exact hr.elim
end
noncomputable def IsRevIter(h:Heap)(I l:Addr)(i:Int):Prop:=∃o,h.get? I=some o/\o.cls=.type "list_reverseiterator"/\o.data=.fields #[.ref l,.int i 0]
theorem IsRevIter.at{h h':Heap}{I l:Addr}{i:Int}(a:IsRevIter h I l i)(k:∀o,h.get? I=some o->h'.get? I=some o):IsRevIter h' I l i:=by
 obtain⟨o,ho,r⟩:=a
 exact⟨o,k o ho,r⟩
section
variable{prog:Program}{w:World}{A:Around}{E:Value->Shared->Prop}{s:Shared}
theorem next_rev{I l:Addr}{i:Nat}{items:Array Value}{x:Value}{Q:Option Value->Shared->Prop}(hit:IsRevIter s.heap I l i)(hl:s.heap.IsList l items)(hx:items[i]?=some x)
  (hQ:∀h',IsRevIter h' I l ((i:Int)-1)->Heap.SameBut I s.heap h'->Q (some x) {s with heap:=h'}):wpAny (model prog w) A (pyNext (.ref I)) Q E s:=by
 obtain⟨o,ho,hc,hd⟩:=id hit
 obtain⟨ol,hol,_,nl,hdl⟩:=hl
 have hT:s.TypeIs (.ref I) "list_reverseiterator":=⟨o,ho,hc⟩
 unfold pyNext
 refine wpAny_bind (wpAny_attempt (wpAny_callSpecial?_slot (name:=Str.ofString "__next__") hT slot_revit_next (wpAny_call_entry slot_revit_next hT entry_revit_next ?_ (args_revit_next _))))
 show wpAny _ _ (field (.ref I) 1 >>= _) _ _ s
 refine wpAny_bind (wpAny_field ho hd (x:=.int i 0) rfl ?_)
 show wpAny _ _ (if ((i:Int)<0)then _ else _) _ _ s
 rw[if_neg (by omega)]
 show wpAny _ _ (field (.ref I) 0 >>= _) _ _ s
 refine wpAny_bind (wpAny_field ho hd (x:=.ref l) rfl ?_)
 refine wpAny_bind (wpAny_seqItems hol hdl ?_)
 simp only[Int.toNat_natCast,hx]
 refine wpAny_bind (wpAny_setField ho hd (by simp) (wpAny_pure ⟨x,rfl,wpAny_pure (hQ _ ?_ (Heap.SameBut.update ..))⟩))
 exact⟨_,Heap.get?_update_self _ ho (Obj.isFreed_of_fields (Obj.data_mapFields hd _)),(Obj.cls_mapFields ..).trans hc,by
  rw[Obj.data_mapFields hd];simp[rawInt]⟩
theorem next_rev_end{I l:Addr}{i:Int}{Q:Option Value->Shared->Prop}(hh:A.handled=none)(hit:IsRevIter s.heap I l i)(hi:i<0)
  (hQ:∀h',Heap.ExtBut I s.heap h'->Q none {s with heap:=h'}):wpAny (model prog w) A (pyNext (.ref I)) Q E s:=by
 obtain⟨o,ho,hc,hd⟩:=id hit
 have hT:s.TypeIs (.ref I) "list_reverseiterator":=⟨o,ho,hc⟩
 unfold pyNext
 refine wpAny_bind (wpAny_attempt (wpAny_callSpecial?_slot (name:=Str.ofString "__next__") hT slot_revit_next (wpAny_call_entry slot_revit_next hT entry_revit_next ?_ (args_revit_next _))))
 show wpAny _ _ (field (.ref I) 1 >>= _) _ _ s
 refine wpAny_bind (wpAny_field ho hd (x:=.int i 0) rfl ?_)
 show wpAny _ _ (if (i<0)then _ else _) _ _ s
 rw[if_pos hi]
 refine wpAny_bind (wpAny_rule ?_)
 refine wpAny_bind ?_
 show wpAny _ _ (newExc (.type "StopIteration") [] >>= _) _ _ _
 refine wpAny_bind ?_
 simp only[newExc,newTuple]
 refine wpAny_bind (wpAny_newObj_type ?_ (by size_fits))
 refine wpAny_bind (m:=firstArgMember _ _) (wpAny_of_eq (a:=Value.none) (by first|rfl|(simp only[firstArgMember];rfl)) ?_)
 refine wpAny_newObj_type ?_ (by size_fits)
 simp only[raiseNew]
 refine wpAny_bind (wpAny_handled ?_)
 rw[show A.in1.handled=none from hh]
 refine wpAny_bind (wpAny_pure (wpAny_throw ?_))
 refine wpAny_bind (wpAny_isInstance (T:="StopIteration") (b:=true) ⟨_,Heap.get?_push_size _ rfl,rfl⟩ isSubtype_stop ?_)
 have r0:Heap.ExtBut I s.heap s.heap:=fun b o _ e=>e
 exact wpAny_pure (hQ _ ((r0.push _).push _))
theorem iter_rev{I l:Addr}{i:Int}{Q:Value->Shared->Prop}(hit:IsRevIter s.heap I l i)(h:Q (.ref I) s):wpAny (model prog w) A (pyIter (.ref I)) Q E s:=by
 obtain⟨o,ho,hc,hd⟩:=id hit
 have hT:s.TypeIs (.ref I) "list_reverseiterator":=⟨o,ho,hc⟩
 refine wpAny_pyIter_slot hT slot_revit_iter (wpAny_call_entry slot_revit_iter hT entry_revit_iter ?_ (args_revit_iter _))
 show wpAny _ _ (ret (.ref I)) _ _ s
 exact wpAny_pure ⟨_,rfl,"list_reverseiterator",_,hT,slot_revit_next.lookup,h⟩
end
end L3
namespace L3
open PySem PySem.Spec PyProof.Rows L2
noncomputable def Jrv(a:Addr)(xs:List V):It:=
 ⟨fun i H=>H a=some (.lst xs)/\i<xs.length,fun i H v H'=>xs[xs.length-1-i]?=some v/\H'=H,fun i H=>H a=some (.lst xs)/\xs.length<=i⟩
theorem turn_rev{P:Program}{w:World}{K:PySem.W.Frag}{tg:Expr}(a it:Addr)(xs:List V) :
  Turn P w K tg (Jrv a xs) [it] it (fun i h=>IsRevIter h it a ((xs.length:Int)-1-i))where
 mem:=by simp
 obj:=fun i h st b hb=>by
  obtain⟨o,he,_,hd⟩:=st
  rw[List.mem_singleton.mp hb]
  exact⟨_,he,fun v z=>by rw[hd]at z;cases z⟩
 keep:=fun i h h' st k=>st.at fun o e=>k it (by simp) o e
 item:=by
  intro X hP hw hK hc i pins s σ H E Iv hf st hg
  obtain⟨ha,hi⟩:=hg
  subst hP hw hK
  obtain⟨f0,f1,f2,f3,f4,f5⟩:=hf it (by simp)
  obtain⟨its,rv,pl,hz⟩:=Iv.list (SqL.of (K:=X.K) ha)
  have hj:xs.length-1-i<xs.length:=by omega
  obtain⟨u,hu,ru⟩:=rv.get (List.getElem?_eq_getElem hj)
  have e:((xs.length:Int)-1-i)=((xs.length-1-i:Nat):Int):=by omega
  have st1:IsRevIter s.heap it a ((xs.length-1-i:Nat):Int):=by rw[<-e];exact st
  refine next_rev st1 pl.isList (x:=u) (by simpa using hu) fun g st' sb=>⟨u,rfl,?_⟩
  obtain⟨o',ho',hc',hd'⟩:=id st'
  refine go_of (s:={s with heap:=g}) ho' hc' hd' (by decide) ?_
  have I2:=Iv.turned (h':=g) (t':=s.toks) (fun b o hb z=>(sb.2 b hb).trans z) f0 f1 f3 f4 f5
  have e2:(((xs.length-1-i:Nat):Int)-1)=((xs.length:Int)-1-((i+1:Nat):Int)):=by omega
  rw[e2]at st'
  exact⟨_,H,I2,ru,⟨List.getElem?_eq_getElem hj,rfl⟩,st',fun b hb=>by rw[List.mem_singleton.mp hb];exact f0⟩
 done:=by
  intro X hP hw hK hc i pins s σ H E Iv hf st hg
  obtain⟨ha,hi⟩:=hg
  subst hP hw hK
  obtain⟨f0,f1,f2,f3,f4,f5⟩:=hf it (by simp)
  exact next_rev_end (Iv.ok.hd hc) st (by omega) fun g kp=>⟨rfl,Iv.turned (t':=s.toks) (fun b o hb q=>kp b o hb q) f0 f1 f3 f4 f5⟩
 self:=fun A i s Q E st h=>iter_rev st h
section
variable{X:Cx}{e tg:Expr}{p pos:Pos}{t:TA}
noncomputable def iRev(t:TA):TI:=fun σ H R=>t σ H fun vs H1=>∃a xs,vs=[.ref a]/\H1 a=some (.lst xs)/\R (Jrv a xs) H1
theorem pi_rev(hg:Gl X "reversed")(hm:X.mg "reversed" = none)(ha:PA X [e] t)(h1:notStar e=true:=by rfl):PI X tg (.Call (.Name "reversed" p) [e] [] pos) (iRev t):=by
 intro pins s σ H R I h
 refine Call_ (ld_blt I hg hm boot_reversed (PyProof.Rows.callWith_type1 (thn (ha pos pins s σ H _ I h) fun us s1 ⟨vs,H1,I1,r1,q1⟩=>?_) (star_cons h1) rfl))
 obtain⟨a,xs,rfl,hp,q⟩:=q1
 obtain⟨u,rfl,ru⟩:=vals1 r1
 cases (show u=Value.ref a from ru)
 obtain⟨z,its,n,rv,hl,e1⟩:=I1.lstM hp
 have l2:xs.length=its.length:=rv.length
 refine call_rev e1 ?_
 have hit:IsRevIter (s1.heap.push {cls:=.type "list_reverseiterator",data:=.fields #[.ref a,rawInt (((its.toArray.size:Nat):Int)-1)]}) s1.heap.objs.size a ((xs.length:Int)-1-((0:Nat):Int)):=by
  refine⟨_,Heap.get?_push_size _ rfl,rfl,?_⟩
  rw[List.size_toArray,<-l2]
  simp[rawInt]
 refine iter_rev (s:={s1 with heap:=_}) hit ?_
 refine⟨_,[_],_,_,H1,rfl,I1.kept (t':=s1.toks) (fun b o e=>Heap.get?_push_of_some _ e),turn_rev a _ xs,hit,fun c hc=>?_,q⟩
 rw[List.mem_singleton.mp hc]
 exact I1.fpOk (Nat.le_refl _) (I1.hok.fresh (Nat.le_refl _))
end
theorem for_rev{a:Addr}{xs:List V}{g:TG}{tb:TS}{D:Ends}{σ:L2.St}{H:Hp}(Pv:Nat->L2.St->Hp->Prop)(h0:Pv 0 σ H)(hl:∀i σ H,Pv i σ H->H a=some (.lst xs))
  (hs:∀i x σ H,xs[xs.length-1-i]?=some x->i<xs.length->Pv i σ H->g x σ H fun σ2 H2=>tb {D with nx:=Pv (i+1),ct:=Pv (i+1),bk:=D.nx} σ2 H2) (hd:∀σ H,Pv xs.length σ H->D.nx σ H) :
  ∃W:Nat->Nat->L2.St->Hp->Prop,(∃m,W 0 m σ H)/\∀i m σ H,W i m σ H->
   ((Jrv a xs).stop i H/\D.nx σ H)\/((Jrv a xs).go i H/\∃N:L2.St->Hp->Prop,(∀σ' H',N σ' H'->∃m',m'<m/\W (i+1) m' σ' H')/\∀v H',(Jrv a xs).yld i H v H'->g v σ H' fun σ2 H2=>tb {D with nx:=N,ct:=N,bk:=D.nx} σ2 H2):=by
 refine for_any (Jrv a xs) xs.length Pv h0 (fun i σ H hi p=>⟨hl i σ H p,hi⟩) (fun σ H p=>⟨hl _ σ H p,Nat.le_refl _⟩) (fun i v σ H H' hi p y=>?_) hd
 obtain⟨hx,rfl⟩:=y
 exact hs i v σ _ hx hi p
end L3
namespace K54
open PySem PyProof.Rows L2 L3
noncomputable abbrev mxQ:PyData:=.tuple [plQ,.int 1]
seal L2.PE L2.PT L2.PW L2.PA L2.PS L2.PSs L2.PG L2.PGs L2.PI L2.PO
set_option pp.maxSteps 3000
section
variable{P:Program}{w:World}{K:PySem.W.Frag}{mg:Str->Option Value}{base:Heap}{f:Addr}{fd:FuncData}
noncomputable def spMxb(w:World):Sp:=fun vs H Q _=>∃(st q1 u as:Addr) (v:V) (p:Int),vs=[.ref st,.ref as,.int p]/\H st=some (.lst [.ref q1])/\H q1=some (.tup [v,.ref u])/\Rep H plQ v/\D1 w H u 1/\D1 w H as 1/\2<=p/\
 ∀(l:Addr) (ys:List V) (H':Hp),Same H H'->H l=none->H' l=some (.lst ys)->RepAll H' [mxQ] ys->Q (.ref l) H'
theorem scMxb:FnScope ["steps","asked","p","mixture","left","placement","unit","times"] ["steps","asked","p"] (defScope sMxb):=⟨rfl,rfl,rfl,by decide +kernel,rfl,by decide +kernel,by decide +kernel⟩
theorem ok_mxb(B:∀x∈blts,mg x=none)(Fwsm:Fn P w K mg base "weighed_sum" 1 ["by_need","asked","p"] (spWsm w))(Fles:Fn P w K mg base "less_served" 2 ["left","placement","times"] (spLes w))(F:Fun K "mixed_by" "mixed_by" sMxb f fd):FnOk P w K mg base CX0 3 f fd ["steps","asked","p"] (spMxb w):=by
 refine F.ok (k:=2) scMxb (fun vs H Q E h=>?_) (fun cdv A outer s H vs Q E hr h=>?_)
 .obtain⟨_,_,_,_,_,_,rfl,_⟩:=h
  rfl
 obtain⟨st,q1,u,as,v,p,rfl,hst,hq1,hv,hdu,hda,hp,q⟩:=h
 have hu:=hr.units
 refine⟨_,(pss_cons (ps_set (i:=3) scMxb.nd rfl (Or.inl rfl) (pe_lst pa_nil))
  (pss_cons (ps_set (i:=4) scMxb.nd rfl (Or.inl rfl) (pv 1))
  (pss_cons (ps_for PassesOwn.never rfl (pi_rev rfl (B "reversed" (by decide)) (pa_c (pv 0) pa_nil)) (pg_tup (n:=2) rfl (pgs_cons (pg_name (i:=5) scMxb.nd rfl (Or.inl rfl)) (pgs_cons (pg_name (i:=6) scMxb.nd rfl (Or.inl rfl)) pgs_nil))) (pss_cons (ps_set (i:=7) scMxb.nd rfl (Or.inl rfl) (pe_fn Fwsm hr (by decide) rfl (pa_c (pv 6) (pa_c (pv 4) (pa_c (pv 2) pa_nil)))))
  (pss_one (ps_if (pt_cmpR op_ne (pv 7) pe_int (nomark _)) (pss_cons (ps_expr (pe_bm PySem.F.plainAttrs_list PySem.F.slot_list_append PySem.F.type_list_append mt_append (pv 3) (pa_c (pe_tup (pa_c (pv 5) (pa_c (pv 7) pa_nil))) pa_nil)))
  (pss_one (ps_set (i:=4) scMxb.nd rfl (Or.inl rfl) (pe_fn Fles hr (by decide) rfl (pa_c (pv 4) (pa_c (pv 5) (pa_c (pv 7) pa_nil))))))) pss_nil))))
  (pss_one (ps_ret (pe_cB (call_sortedF hu) rfl (B "sorted" (by decide)) boot_sorted (pa_c (pv 3) pa_nil))))))),?_⟩
 refine⟨(by show 0<=sizeLine;decide),fun M hM=>?_⟩
 have s0:Same H (upd H M (.lst [])):=Same.fresh _ hM
 have d0:upd H M (.lst []) M=some (.lst ([]:List V)):=upd_same
 generalize upd H M (.lst [])=H0 at *
 refine⟨_,rfl,_,rfl,st,_,rfl,s0 _ _ hst,?_⟩
 refine for_rev (xs:=[.ref q1]) (fun i σ' G=>Same H G/\∃y4 y5 y6 y7,σ'=[some (.ref st),some (.ref as),some (.int p),some (.ref M),y4,y5,y6,y7]/\if i=0 then y4=some (.ref as)/\G M=some (.lst [])else ∃ys,G M=some (.lst ys)/\RepAll G [mxQ] ys) ⟨s0,_,_,_,_,rfl,rfl,d0⟩ (fun i σ' G h=>h.1 _ _ hst) (fun i x σ' G hx hi h=>?_) (fun σ' G h=>?_)
 .obtain⟨s1,y4,y5,y6,y7,rfl,hm⟩:=h
  have hi0:i=0:=by have:i<1:=hi;omega
  subst hi0
  cases (show x=V.ref q1 from (Option.some.inj hx).symm)
  obtain⟨rfl,hM1⟩:=(show y4=some (.ref as)/\G M=some (.lst [])from hm)
  refine⟨q1,_,rfl,SqT.of (s1 _ _ hq1),rfl,_,_,rfl,_,_,rfl,rfl,?_⟩
  refine⟨_,rfl,_,rfl,_,rfl,u,as,1,1,p,rfl,hdu.same s1,hda.same s1,by decide,by decide,by omega,fun G1 g1=>?_⟩
  have e1:(1:Int)*1 % p=1:=Int.emod_eq_of_lt (by decide) (by omega)
  rw[e1]
  have s2:=s1.trans g1
  refine⟨_,rfl,rfl,true,(by decide +kernel),iteT ?_⟩
  have hM2:=g1 _ _ hM1
  refine⟨_,rfl,.inl ⟨rfl,_,SqL.of hM2⟩,_,rfl,_,rfl,(by show 2<=sizeLine;decide),fun t ht=>?_⟩
  have s3:Same G1 (upd G1 t (.tup [v,.int 1])):=Same.fresh _ ht
  have d3:upd G1 t (.tup [v,.int 1]) t=some (.tup [v,.int 1]):=upd_same
  generalize upd G1 t (.tup [v,.int 1])=G2 at *
  have hM3:=s3 _ _ hM2
  refine⟨M,_,_,rfl,rfl,hM3,(by show 0<sizeLine;decide),?_⟩
  have s4:Same H (upd G2 M (.lst ([]++[.ref t]))):=(s2.trans s3).new hM
  have tk4:Tk G2 (upd G2 M (.lst ([]++[.ref t]))):=Tk.lst hM3
  have d4:upd G2 M (.lst ([]++[.ref t])) M=some (.lst [.ref t]):=upd_same
  generalize upd G2 M (.lst ([]++[.ref t]))=G3 at *
  have rp:Rep G3 mxQ (.ref t):=⟨t,_,rfl,tk4 _ _ d3,_,_,rfl,hv.same s4,_,_,rfl,rfl,rfl⟩
  refine⟨_,rfl,_,rfl,_,rfl,as,v,1,1,rfl,hda.same s4,hv.same s4,fun D G4 g4 hD _=>?_⟩
  refine⟨s4.trans g4,_,_,_,_,rfl,?_⟩
  exact(⟨_,g4 _ _ d4,_,_,rfl,rp.same g4,rfl⟩:∃ys,G4 M=some (.lst ys)/\RepAll G4 [mxQ] ys)
 .obtain⟨s1,y4,y5,y6,y7,rfl,hm⟩:=h
  obtain⟨ys,hM1,rep⟩:=(show ∃ys,G M=some (.lst ys)/\RepAll G [mxQ] ys from hm)
  refine⟨_,rfl,M,ys,[mxQ],rfl,hM1,rep,?_,?_,fun l zs hl rep2=>?_⟩
  .intro d hd
   rw[List.mem_singleton.mp hd]
   exact⟨⟨rfl,⟨_,rfl⟩,by decide⟩,⟨_,_,rfl⟩⟩
  .refine⟨fun x hx y hy=>?_,fun x hx=>by rw[List.mem_singleton.mp hx];rfl⟩
   rw[List.mem_singleton.mp hx,List.mem_singleton.mp hy]
   simp[Cmp,CmpL]
  .exact q l zs _ (s1.trans (Same.fresh _ hl)) (s1.free hl) upd_same rep2
end
noncomputable abbrev ansQ:PyData:=.tuple [.str "mixture",.list [mxQ]]
theorem D1.lst{w:World}{G:Hp}{a S:Addr}{x:Int}{xs ys:List V}(h:D1 w G a x)(hS:G S=some (.lst xs)):D1 w (upd G S (.lst ys)) a x:=by
 obtain⟨b,ep,D⟩:=h
 exact⟨b,ep,D.tk (Tk.lst hS) (by rw[upd_ne (ne_of D.obj hS (by intro z;cases z))];exact D.obj)⟩
theorem pl0:PL M0 [([spQ],1)]=[plQ]:=by rfl
theorem pzk{H:Hp}{p:Addr}(hM0:OkM SgP M0)(zr:Zr [spQ])(h:PzC H p):PzK H p M0 [([spQ],1)]:=by
 obtain⟨fl,kr,e,k,fr,sp,h1,h2,h3,h4,h5,h6⟩:=h
 refine⟨fl,kr,e,[.ref k],h1,⟨by rw[strs_dot];exact h2,hM0⟩,h3,⟨rfl,fun i v kk hv hk=>?_⟩,by decide⟩
 have hi0:i=0:=by have:=(List.getElem?_eq_some_iff.mp hv).1;have:i<1:=this;omega
 subst hi0
 cases (show v=V.ref k from (Option.some.inj hv).symm)
 cases (show kk=([spQ],1)from (Option.some.inj hk).symm)
 exact⟨k,_,_,_,_,fr,_,rfl,h4,h5,⟨_,_,rfl,⟨sp,_,rfl,h6,_,_,rfl,rfl,_,_,rfl,rfl,_,_,rfl,⟨rfl,by decide +kernel⟩,rfl⟩,rfl⟩,zr,.inl ⟨rfl,rfl⟩⟩
set_option pp.maxSteps 3000
section
variable{P:Program}{w:World}{K:PySem.W.Frag}{mg:Str->Option Value}{base:Heap}{f:Addr}{fd:FuncData}{C:Addr}
noncomputable def spSum(C:Addr):Sp:=fun vs H Q E=>∃(p:Addr) (v:V),vs=[.ref p,v]/\PzC H p/\Kd H v/\
 ((∃n,v=.int n/\prI n=true/\∀(l:Addr) (H':Hp),Same H H'->Rep H' ansQ (.ref l)->Q (.ref l) H')\/(prV v=false/\∀H',Same H H'->E (.ref C) none H'))
theorem scSum:FnScope ["puzzle","p","asked","steps","left","placement","found","unit","by_need"] ["puzzle","p"] (defScope sSum):=⟨rfl,rfl,rfl,by decide +kernel,rfl,by decide +kernel,by decide +kernel⟩
theorem ok_sum(B:∀x∈blts,mg x=none)(hM0:OkM SgP M0)(zr:Zr [spQ])(hC:mg "NoNumber" = some (.ref C))(cC:ExC K C)(Fprm:Fn P w K mg base "is_prime" 2 ["found"] spPrm)(Fask:Fn P w K mg base "asked_sums" 3 ["puzzle"] (spAsk w))(Fplc:Fn P w K mg base "placements" 6 ["puzzle"] spPlc)
  (Fwgh:Fn P w K mg base "weighed" 2 ["by_need","placement","p"] (spWgh w)) (Fscl:Fn P w K mg base "scaled" 1 ["by_need","times","p"] (spScl w)) (Finv:Fn P w K mg base "inverse" 1 ["number","p"] spInv) (Flsn:Fn P w K mg base "lessened" 1 ["by_need","unit","times","p"] (spLsn w)) (Fwsm:Fn P w K mg base "weighed_sum" 1 ["by_need","asked","p"] (spWsm w)) (Fmxb:Fn P w K mg base "mixed_by" 3 ["steps","asked","p"] (spMxb w))
  (F:L2.Fun K "sums" "sums" sSum f fd):FnOk P w K mg base (CXe P w) 7 f fd ["puzzle","p"] (spSum C):=by
 refine fun_okE (k:=6) F scSum (fun vs H Q E h=>?_) (fun cdv A outer s H vs Q E hr h=>?_)
 .obtain⟨_,_,rfl,_⟩:=h
  rfl
 obtain⟨p,v,rfl,hz,hv,q⟩:=h
 have hu:=hr.units
 refine⟨_,(pss_cons (ps_if (pt_not (pt_val (pe_fn Fprm hr (by decide) rfl (pa_c (pv 1) pa_nil)))) (pss_one (ps_raise rfl raises_here rfl hC cC (pa_c pe_str pa_nil))) pss_nil)
  (PSs.nox (pss_cons (ps_set (i:=2) scSum.nd rfl (Or.inl rfl) (pe_fn Fask hr (by decide) rfl (pa_c (pv 0) pa_nil)))
  (pss_cons (ps_set (i:=3) scSum.nd rfl (Or.inl rfl) (pe_lst pa_nil))
  (pss_cons (ps_setC (i:=4) ["need"] [none] scSum.nd rfl (Or.inl rfl) rfl rfl rfl (by decide +kernel) (by decide +kernel) rfl rfl (pi_keysN (pv 2)) (fun _=>(pg_name (i:=0) (show(["need"]:List PySem.Str).Nodup by decide +kernel) rfl (Or.inl rfl))) (fun _=>pts_nil) (fun _=>(pe_ndispC (Nat.lt_of_le_of_lt (Nat.add_le_add_left (by decide) _) hu) (pv 0) pe_int)))
  (pss_cons (ps_for PassesOwn.never rfl (pi_list (pe_fn Fplc hr (by decide) rfl (pa_c (pv 0) pa_nil))) (pg_name (i:=5) scSum.nd rfl (Or.inr rfl)) (pss_cons (ps_setC (i:=6) ["by_need","placement","p"] [none,some 5,some 1] scSum.nd rfl (Or.inl rfl) rfl rfl rfl (by decide +kernel) (by decide +kernel) rfl rfl (pi_list (pv 4)) (fun _=>(pg_name (i:=0) (show(["by_need","placement","p"]:List PySem.Str).Nodup by decide +kernel) rfl (Or.inl rfl))) (fun _=>pts_one (pt_cmpR op_ne (pe_fn Fwgh hr (by decide) rfl (pa_c (pv 0) (pa_c (pv 1) (pa_c (pv 2) pa_nil)))) pe_int (nomark _))) (fun _=>(pv 0)))
  (pss_one (ps_if (pt_truth (pv 6) (by intro _;rfl)) (pss_cons (ps_set (i:=7) scSum.nd rfl (Or.inr rfl) (pe_fn Fscl hr (by decide) rfl (pa_c (pe_ix ix_list (pv 6) pe_int (fun _ _=>rfl)) (pa_c (pe_fn Finv hr (by decide) rfl (pa_c (pe_fn Fwgh hr (by decide) rfl (pa_c (pe_ix ix_list (pv 6) pe_int (fun _ _=>rfl)) (pa_c (pv 5) (pa_c (pv 1) pa_nil)))) (pa_c (pv 1) pa_nil))) (pa_c (pv 1) pa_nil)))))
  (pss_cons (ps_expr (pe_bm PySem.F.plainAttrs_list PySem.F.slot_list_append PySem.F.type_list_append mt_append (pv 3) (pa_c (pe_tup (pa_c (pv 5) (pa_c (pv 7) pa_nil))) pa_nil)))
  (pss_one (ps_setC (i:=4) ["by_need","unit","placement","p"] [none,some 7,some 5,some 1] scSum.nd rfl (Or.inl rfl) rfl rfl rfl (by decide +kernel) (by decide +kernel) rfl rfl (pi_list (pv 4)) (fun _=>(pg_name (i:=0) (show(["by_need","unit","placement","p"]:List PySem.Str).Nodup by decide +kernel) rfl (Or.inl rfl))) (fun _=>pts_nil) (fun _=>(pe_fn Flsn hr (by decide) rfl (pa_c (pv 0) (pa_c (pv 1) (pa_c (pe_fn Fwgh hr (by decide) rfl (pa_c (pv 0) (pa_c (pv 2) (pa_c (pv 3) pa_nil)))) (pa_c (pv 3) pa_nil)))))))))) pss_nil))))
  (pss_cons (ps_for PassesOwn.never rfl (pi_list (pv 4)) (pg_name (i:=8) scSum.nd rfl (Or.inl rfl)) (pss_one (ps_if (pt_cmpR op_ne (pe_fn Fwsm hr (by decide) rfl (pa_c (pv 8) (pa_c (pv 2) (pa_c (pv 1) pa_nil)))) pe_int (nomark _)) (pss_one ps_never) pss_nil)))
  (pss_one (ps_ret (pe_tup (pa_c pe_str (pa_c (pe_fn Fmxb hr (by decide) rfl (pa_c (pv 3) (pa_c (pv 2) (pa_c (pv 1) pa_nil)))) pa_nil)))))))))))),?_⟩
 refine⟨_,rfl,v,rfl,hv,fun H0 s0=>⟨_,rfl,?_⟩⟩
 rcases q with ⟨n,rfl,hn,q⟩|⟨hn,q⟩
 .have e:prV (.int n)=true:=hn
  rw[e]
  refine iteF ?_
  refine⟨_,rfl,p,rfl,hz.same s0,fun Da H1 s1 hDa da=>?_⟩
  obtain⟨ba,epa,dA⟩:=da
  refine⟨(by show 0<=sizeLine;decide),fun S hS=>?_⟩
  have sS:Same H1 (upd H1 S (.lst [])):=Same.fresh _ hS
  have dS:upd H1 S (.lst []) S=some (.lst ([]:List V)):=upd_same
  generalize upd H1 S (.lst [])=H2 at *
  have dA2:=dA.same sS
  refine⟨_,rfl,Da,_,epa,rfl,dA2,fun L hL=>?_⟩
  refine comp_keysN (fun i zs G=>Same H2 G/\if i=0 then zs=[]else ∃d1,zs=[.ref d1]/\D1 w G d1 1) ⟨Same.fresh _ hL,rfl⟩ (fun i zs G p=>dA2.same p.1) (fun i x zs G hx hDy hyl p=>?_) (fun zs G hDy hyl p=>?_)
  .obtain⟨p1,pz⟩:=p
   have hi0:i=0:=by have:=(List.getElem?_eq_some_iff.mp hx).1;have:i<1:=this;omega
   subst hi0
   cases (show x=(nCell,ba,V.int 1)from (Option.some.inj hx).symm)
   cases (show zs=[]from pz)
   refine⟨Agree.set (Agree.refl _) rfl,?_⟩
   dsimp only[tYes]
   refine iteT ?_
   refine fun pD hpD hsys=>⟨_,rfl,nCell,ba,rfl,DN.new hsys,(D1.key dA2).tk (Tk.trans (Tk.of_same p1) (Tk.fresh hpD)),fun ep=>?_⟩
   have kb:KRep (upd G pD (DNo w pD [] 0)) nCell ba:=(D1.key dA2).tk (Tk.trans (Tk.of_same p1) (Tk.fresh hpD))
   have on:=DN.one (.int 1) (DN.new (w:=w) (H:=G) hsys) kb ep
   have sm:Same H2 (upd (upd G pD (DNo w pD [] 0)) pD (DNo w pD [(nCell,ba,.int 1)] ep)):=(p1.new (p1.free hpD)).new (p1.free hpD)
   have nL:L≠pD:=ne_of_none hDy hpD
   have hL3:upd (upd G pD (DNo w pD [] 0)) pD (DNo w pD [(nCell,ba,.int 1)] ep) L=some (.lst []):=by rw[upd_ne nL,upd_ne nL];exact hDy
   refine nx_put (by decide) hL3 hyl ⟨sm.new hL,?_⟩
   exact(⟨pD,rfl,ba,ep,on.tk (Tk.lst hL3) (by rw[upd_ne (Ne.symm nL)];exact on.obj)⟩:∃d1,[V.ref pD]=[V.ref d1]/\D1 w (upd (upd (upd G pD (DNo w pD [] 0)) pD (DNo w pD [(nCell,ba,.int 1)] ep)) L (.lst [.ref pD])) d1 1)
  .obtain⟨p1,pz⟩:=p
   obtain⟨d1,rfl,hd1⟩:=(show ∃d1,zs=[V.ref d1]/\D1 w G d1 1 from pz)
   have sH2:Same H H2:=(s0.trans s1).trans sS
   have sG:=sH2.trans p1
   refine⟨_,rfl,p,M0,_,rfl,pzk hM0 zr (hz.same sG),fun l ys H4 s4 hl hl4 rep=>⟨l,rfl,⟨_,SqL.of hl4⟩,?_⟩⟩
   rw[pl0]at rep
   obtain⟨v,r,rfl,rv,rfl⟩:=rep
   have hn2:2<=n/\n<=97:=by
    unfold prI at hn
    rw[Bool.and_eq_true,Bool.and_eq_true]at hn
    exact⟨of_decide_eq_true hn.1.1,of_decide_eq_true hn.1.2⟩
   have n1:(1:Int) % n=1:=Int.emod_eq_of_lt (by decide) (by omega)
   have hLG:G L=some (.lst [.ref d1]):=hDy
   refine for_list (xs:=[v]) (fun i σ' G=>Same H G/\G l=some (.lst [v])/\D1 w G Da 1/\Rep G plQ v/\∃(L':Addr) (y5 y6 y7 y8:Option V),σ'=[some (.ref p),some (.int n),some (.ref Da),some (.ref S),some (.ref L'),y5,y6,y7,y8]/\
     if i=0 then G S=some (.lst [])/\∃d1,G L'=some (.lst [.ref d1])/\D1 w G d1 1 else ∃q1 u d2,G S=some (.lst [.ref q1])/\G q1=some (.tup [v,.ref u])/\D1 w G u 1/\G L'=some (.lst [.ref d2])/\D1 w G d2 0)
    ⟨sG.trans s4,hl4,⟨ba,epa,(dA2.same p1).same s4⟩,rv,L,_,_,_,_,rfl,(p1.trans s4) _ _ dS,d1,s4 _ _ hLG,hd1.same s4⟩ (fun i σ' G hi h=>SqL.of h.2.1) (fun i y σ' G hy h=>?_) (fun σ' G h=>?_)
   .obtain⟨t1,tl,tA,tv,L',y5,y6,y7,y8,rfl,hm⟩:=h
    have hi0:i=0:=by have:=(List.getElem?_eq_some_iff.mp hy).1;have:i<1:=this;omega
    subst hi0
    cases (show y=v from (Option.some.inj hy).symm)
    obtain⟨tS,d1,tL,td⟩:=(show G S=some (.lst [])/\∃d1,G L'=some (.lst [.ref d1])/\D1 w G d1 1 from hm)
    refine⟨_,rfl,L',rfl,⟨_,SqL.of tL⟩,fun Fd hFd=>?_⟩
    refine comp_list (xs:=[.ref d1]) (fun i zs G1=>Same G G1/\zs=([V.ref d1].take i)) ⟨Same.fresh _ hFd,rfl⟩ (fun i zs G1 p=>SqL.of (p.1 _ _ tL)) (fun i y zs G1 hy hi hDy hyl p=>?_) (fun zs G1 hDy hyl p=>?_)
    .obtain⟨p1,rfl⟩:=p
     have hi0:i=0:=by have:i<1:=hi;omega
     subst hi0
     cases (show y=V.ref d1 from (Option.some.inj hy).symm)
     refine⟨Agree.set (Agree.refl _) rfl,?_⟩
     refine⟨_,rfl,_,rfl,_,rfl,d1,v,1,n,rfl,td.same p1,tv.same p1,by omega,fun G2 g2=>?_⟩
     rw[n1]
     refine⟨rfl,true,(by decide +kernel),iteT ⟨_,rfl,?_⟩⟩
     exact nx_put (by decide) (g2 _ _ hDy) hyl ⟨(p1.trans g2).new hFd,rfl⟩
    .obtain⟨p1,rfl⟩:=p
     have hF:G1 Fd=some (.lst [.ref d1]):=hDy
     refine⟨_,rfl,true,.inl ⟨_,SqL.of hF,rfl⟩,iteT ?_⟩
     refine⟨_,rfl,Fd,_,_,_,rfl,rfl,SqL.of hF,atI_nat (j:=0) rfl,_,rfl,Fd,_,_,_,rfl,rfl,SqL.of hF,atI_nat (j:=0) rfl,_,rfl,_,rfl,d1,v,1,n,rfl,td.same p1,tv.same p1,by omega,fun G2 g2=>?_⟩
     rw[n1]
     refine⟨_,rfl,n,rfl,hn2.1,hn2.2,fun G3 g3=>⟨_,rfl,d1,1,1,n,rfl,td.same ((p1.trans g2).trans g3),by decide,by decide,by omega,fun U G4 g4 hU dU=>?_⟩⟩
     have e11:(1:Int)*1 % n=1:=n1
     rw[e11]at dU
     have sG4:=((p1.trans g2).trans g3).trans g4
     have tS4:=sG4 _ _ tS
     refine⟨_,rfl,.inl ⟨rfl,_,SqL.of tS4⟩,_,rfl,_,rfl,(by show 2<=sizeLine;decide),fun q1 hq1=>?_⟩
     have s5:Same G4 (upd G4 q1 (.tup [v,.ref U])):=Same.fresh _ hq1
     have e5:upd G4 q1 (.tup [v,.ref U]) q1=some (.tup [v,.ref U]):=upd_same
     generalize upd G4 q1 (.tup [v,.ref U])=G5 at *
     have sG5:=sG4.trans s5
     have tS5:=s5 _ _ tS4
     refine⟨S,_,_,rfl,rfl,tS5,(by show 0<sizeLine;decide),?_⟩
     have hSH:H S=none:=(s0.trans s1).free hS
     have a6:Same H (upd G5 S (.lst ([]++[.ref q1]))):=(t1.trans sG5).new hSH
     have k6:=Tk.lst (o:=.lst ([]++[V.ref q1])) tS5
     have l6:upd G5 S (.lst ([]++[.ref q1])) l=some (.lst [v]):=by rw[upd_ne (ne_of (sG5 _ _ tl) tS5 (by intro z;cases z))];exact sG5 _ _ tl
     have L6:upd G5 S (.lst ([]++[.ref q1])) L'=some (.lst [.ref d1]):=by rw[upd_ne (ne_of (sG5 _ _ tL) tS5 (by intro z;cases z))];exact sG5 _ _ tL
     have S6:upd G5 S (.lst ([]++[.ref q1])) S=some (.lst [.ref q1]):=upd_same
     have A6:=(tA.same sG5).lst (ys:=[]++[.ref q1]) tS5
     have D6:=(td.same sG5).lst (ys:=[]++[.ref q1]) tS5
     have U6:=(dU.same s5).lst (ys:=[]++[.ref q1]) tS5
     have v6:Rep (upd G5 S (.lst ([]++[.ref q1]))) plQ v:=(tv.same sG5).tk k6 rfl
     have q6:=k6 _ _ e5
     generalize upd G5 S (.lst ([]++[.ref q1]))=G6 at *
     refine⟨_,rfl,L',rfl,⟨_,SqL.of L6⟩,fun L2 hL2=>?_⟩
     refine comp_list (xs:=[.ref d1]) (fun i zs G7=>Same G6 G7/\if i=0 then zs=[]else ∃d2,zs=[.ref d2]/\D1 w G7 d2 0) ⟨Same.fresh _ hL2,rfl⟩ (fun i zs G7 p=>SqL.of (p.1 _ _ L6)) (fun i y zs G7 hy hi hDy hyl p=>?_) (fun zs G7 hDy hyl p=>?_)
     .obtain⟨p7,pz⟩:=p
      have hi0:i=0:=by have:i<1:=hi;omega
      subst hi0
      cases (show y=V.ref d1 from (Option.some.inj hy).symm)
      cases (show zs=[]from pz)
      refine⟨Agree.set (Agree.refl _) rfl,?_⟩
      dsimp only[tYes]
      refine iteT ?_
      refine⟨_,rfl,_,rfl,_,rfl,_,rfl,_,rfl,d1,v,1,n,rfl,D6.same p7,v6.same p7,by omega,fun G8 g8=>?_⟩
      rw[n1]
      refine⟨_,rfl,d1,U,1,1,1,n,rfl,D6.same (p7.trans g8),U6.same (p7.trans g8),by decide,by decide,by omega,fun D2 G9 g9 hD2 dd=>?_⟩
      have e0:((1:Int)-1*1) % n=0:=Int.zero_emod n
      rw[e0]at dd
      have hL9:=(g8.trans g9) _ _ hDy
      refine nx_put (by decide) hL9 hyl ⟨((p7.trans g8).trans g9).new hL2,?_⟩
      exact(⟨D2,rfl,dd.lst hL9⟩:∃d2,[V.ref D2]=[V.ref d2]/\D1 w (upd G9 L2 (.lst [.ref D2])) d2 0)
     .obtain⟨p7,pz⟩:=p
      obtain⟨d2,rfl,hd2⟩:=(show ∃d2,zs=[V.ref d2]/\D1 w G7 d2 0 from pz)
      refine⟨a6.trans p7,p7 _ _ l6,A6.same p7,v6.same p7,L2,_,_,_,_,rfl,?_⟩
      exact(⟨q1,U,d2,p7 _ _ S6,p7 _ _ q6,U6.same p7,hDy,hd2⟩:∃q1 u d2,G7 S=some (.lst [.ref q1])/\G7 q1=some (.tup [v,.ref u])/\D1 w G7 u 1/\G7 L2=some (.lst [.ref d2])/\D1 w G7 d2 0)
   .obtain⟨t1,tl,tA,tv,L',y5,y6,y7,y8,rfl,hm⟩:=h
    obtain⟨q1,u,d2,tS,tq,tu,tL,td⟩:=(show ∃q1 u d2,G S=some (.lst [.ref q1])/\G q1=some (.tup [v,.ref u])/\D1 w G u 1/\G L'=some (.lst [.ref d2])/\D1 w G d2 0 from hm)
    refine⟨_,rfl,L',rfl,⟨_,SqL.of tL⟩,?_⟩
    refine for_list (xs:=[.ref d2]) (fun i σ' G1=>Same G G1/\∃y8,σ'=[some (.ref p),some (.int n),some (.ref Da),some (.ref S),some (.ref L'),y5,y6,y7,y8]) ⟨Same.refl _,_,rfl⟩ (fun i σ' G1 hi h=>SqL.of (h.1 _ _ tL)) (fun i y σ' G1 hy h=>?_) (fun σ' G1 h=>?_)
    .obtain⟨g1,y8,rfl⟩:=h
     have hi0:i=0:=by have:=(List.getElem?_eq_some_iff.mp hy).1;have:i<1:=this;omega
     subst hi0
     cases (show y=V.ref d2 from (Option.some.inj hy).symm)
     refine⟨_,rfl,_,rfl,_,rfl,d2,Da,0,1,n,rfl,td.same g1,tA.same g1,by decide,by decide,by omega,fun G2 g2=>?_⟩
     have e0:(0:Int)*1 % n=0:=Int.zero_emod n
     rw[e0]
     refine⟨rfl,false,(by decide +kernel),iteF ?_⟩
     exact⟨g1.trans g2,_,rfl⟩
    .obtain⟨g1,y8,rfl⟩:=h
     refine⟨_,rfl,_,rfl,_,rfl,S,q1,u,Da,v,n,rfl,g1 _ _ tS,g1 _ _ tq,tv.same g1,tu.same g1,tA.same g1,hn2.1,fun lm zs G2 g2 hlm hlm2 rep2=>⟨(by show 2<=sizeLine;decide),fun tt htt=>?_⟩⟩
     have s9:Same G2 (upd G2 tt (.tup [.str "mixture",.ref lm])):=Same.fresh _ htt
     exact q tt _ (((t1.trans g1).trans g2).trans s9) ⟨tt,_,rfl,upd_same,_,_,rfl,⟨rfl,by decide +kernel⟩,_,_,rfl,⟨lm,zs,rfl,s9 _ _ hlm2,rep2.same s9⟩,rfl⟩
 .rw[hn]
  refine iteT ?_
  exact⟨(by show 1<=sizeLine;decide),q H0 s0⟩
end
noncomputable def FnE(P:Program)(w:World)(K:PySem.W.Frag)(mg:Str->Option Value)(base:Heap)(x:Str)(k:Nat)(ps:List Str)(sp:Sp):Prop:=
 ∃f fd,FnOk P w K mg base (CXe P w) k f fd ps sp/\mg x=some (.ref f)/\PySem.W.keepIn K (.ref f)=true/\Binds K fd ps []
section
variable{X:Cx}{n y x:Str}{i k j:Nat}{c:Value}{b₀:Stmt}{suite:List Stmt}{ts:TS}{yp hpos p cpos epos pos:Pos}{ps:List Str}{sp:Sp}{e:Expr}{es:List Expr}{t:TA}
theorem ps_tryFn(F:FnE X.prog X.w X.K X.mg X.base x k ps sp)(hr:Room j X.A)(hj:k<=j)(hst:X.stack=X.env::X.outer)(hfr:X.env.frame=some X.env.locals)(hN:X.N.Nodup)(hi:X.N[i]?=some n)(hkn:X.env.scope.names.lookup n=some .local)(hgy:Gl X y)(hmy:X.mg y=some c)(hsu:∀e,PSs (markC X e).nox (b₀::suite) ts)
  (hg:Gl X x) (ha:PA X.nox (e::es) t)
  (hdy:(y==("__debug__" : Str))=false:=by decide) (hdb:(x==("__debug__" : Str))=false:=by decide) (h1:notStar e=true:=by rfl) (hpl:(backTo cpos (starEach es X.env)).any (·.1)=false:=by rfl)
  (hs:swapsWith (.Call (.Name x p) (e::es) [] cpos) none epos.line X.env=pure false:=by rfl) :
  PS X (.Try [.Expr (.Call (.Name x p) (e::es) [] cpos) epos] [.ExceptHandler (some (.Name y yp)) (some n) (b₀::suite) hpos] [] [] pos) (tTryCall X.K c i sp t ts):=by
 obtain⟨f,fd,F,hm,hk,hb⟩:=F
 exact ps_tryCall hst hfr hN hi hkn hgy hmy hsu (F.mono hj) hr hg hm hk hb ha hdy hdb (star_cons h1) hpl hs
end
set_option pp.maxSteps 3000
section
variable{P:Program}{w:World}{K:PySem.W.Frag}{mg:Str->Option Value}{base:Heap}{f:Addr}{fd:FuncData}{C:Addr}{c:Value}
noncomputable def spRef:Sp:=fun vs H Q _=>∃(p:Addr) (v:V),vs=[.ref p,v]/\PzC H p/\Kd H v/\prV v=false/\∀H',Same H H'->Q (.bl true) H'
theorem scRef:FnScope ["_law_puzzle","_law_p","_law_caught","e"] ["_law_puzzle","_law_p"] (defScope sRef):=⟨rfl,rfl,rfl,by decide +kernel,rfl,by decide +kernel,by decide +kernel⟩
theorem ok_ref(B:∀x∈blts,mg x=none)(hC:mg "NoNumber" = some (.ref C))(hE:mg "CoverError" = some c)(hex:PySem.W.exmOne K (.ref C) c=some true){C1 C2 C3:Addr}(h1:mg "NoText" = some (.ref C1))(h2:mg "NoPuzzle" = some (.ref C2))(h3:mg "NoLaying" = some (.ref C3))(cls:ClsAt K C)(k1:PySem.W.kitOne K (.ref C) (.ref C)=some true)(k2:PySem.W.kitOne K (.ref C) (.type "ValueError")=some true)(k3:PySem.W.kitAny K (.ref C) [.ref C1,.ref C2,.ref C3]=some false)(Fsum:FnE P w K mg base "sums" 7 ["puzzle","p"] (spSum C))(F:Fun K "_law_refused" "_law_refused" sRef f fd):FnOk P w K mg base CX0 8 f fd ["_law_puzzle","_law_p"] spRef:=by
 refine F.ok (k:=7) scRef (fun vs H Q E h=>?_) (fun cdv A outer s H vs Q E hr h=>?_)
 .obtain⟨_,_,rfl,_⟩:=h
  rfl
 obtain⟨p,v,rfl,hz,hv,hn,q⟩:=h
 have hu:=hr.units
 refine⟨_,(pss_cons (ps_set (i:=2) scRef.nd rfl (Or.inl rfl) pe_non) (pss_cons (ps_tryFn (i:=3) Fsum hr (by decide) rfl rfl scRef.nd rfl rfl rfl hE (fun _=>(pss_one (ps_set (i:=2) scRef.nd rfl (Or.inl rfl) (pv 3)))) rfl (pa_c (pv 0) (pa_c (pv 1) pa_nil)))
  (pss_cons (ps_if (PW.pt (pw_or (pt_cmpR op_isN (pv 2) pe_non (nomark _)) (pw_or (pt_not (pt_val (pe_cB (call_isExn cls) rfl (B "isinstance" (by decide)) boot_isinstance (pa_c (pv 2) (pa_c (pe_glob (v:=.ref C) rfl hC rfl) pa_nil))))) (pw_or1 (pt_not (pt_val (pe_cB (call_isExn cls) rfl (B "isinstance" (by decide)) boot_isinstance (pa_c (pv 2) (pa_c (pe_bltn (v:=.ty "ValueError") rfl (B "ValueError" (by decide)) (show bootBuiltins "ValueError" = some (.type "ValueError") by decide +kernel) rfl) pa_nil))))))))) (pss_one (ps_ret pe_bl)) pss_nil)
  (pss_one (ps_ret (pe_not (pe_cB (call_isExnT cls) rfl (B "isinstance" (by decide)) boot_isinstance (pa_c (pv 2) (pa_c (pe_tup (pa_c (pe_glob (v:=.ref C1) rfl h1 rfl) (pa_c (pe_glob (v:=.ref C2) rfl h2 rfl) (pa_c (pe_glob (v:=.ref C3) rfl h3 rfl) pa_nil)))) pa_nil))))))))),?_⟩
 refine⟨_,rfl,_,rfl,p,v,rfl,hz,hv,.inr ⟨hn,fun H1 s1=>⟨hex,fun a ha=>?_⟩⟩⟩
 have s2:Same H1 (upd H1 a (Exn a (.ref C))):=Same.fresh _ ha
 have e2:upd H1 a (Exn a (.ref C)) a=some (Exn a (.ref C)):=upd_same
 generalize upd H1 a (Exn a (.ref C))=H2 at *
 refine⟨_,rfl,?_⟩
 refine⟨_,rfl,rfl,false,rfl,iteF ?_⟩
 refine⟨_,rfl,a,.ref C,.ref C,true,rfl,e2,rfl,(fun u h=>h),k1,_,rfl,iteF ?_⟩
 refine⟨_,rfl,a,.type "ValueError",.ty "ValueError",true,rfl,e2,rfl,(fun u h=>h),k2,_,rfl,iteF ?_⟩
 refine⟨_,rfl,(by show 3<=sizeLine;decide),fun t ht=>?_⟩
 have s3:Same H2 (upd H2 t (.tup [.ref C1,.ref C2,.ref C3])):=Same.fresh _ ht
 refine⟨a,t,[C1,C2,C3],false,rfl,s3 _ _ e2,upd_same,k3,?_⟩
 exact⟨_,rfl,q _ ((s1.trans s2).trans s3)⟩
end
section
variable{X:Cx}{x:Str}{k j:Nat}{ps:List Str}{sp:Sp}{p pos:Pos}{e:Expr}{es:List Expr}{t:TA}
theorem passE:Passes (CXe X.prog X.w) X E0:=fun _ _ _ _ _ _ _ ⟨_,_,_,_,_,_,_,h⟩=>h.elim
theorem pe_fnE(F:FnE X.prog X.w X.K X.mg X.base x k ps sp)(hr:Room j X.A)(hk:k<=j)(hg:Gl X x)
  (ha:PA X (e::es) t) (hdb:(x==("__debug__" : Str))=false:=by decide) (h1:notStar e=true:=by rfl) (h2:es.all notStar=true:=by rfl):PE X (.Call (.Name x p) (e::es) [] pos) (tCall sp [] E0 t):=by
 obtain⟨f,fd,F,m,kp,b⟩:=F
 exact pe_call F (hr.mono hk) hg m kp b .nil passE ha hdb (star_cons h1) (star_none h2)
end
seal PySem.wpAny
set_option pp.maxSteps 3000
section
variable{P:Program}{w:World}{K:PySem.W.Frag}{mg:Str->Option Value}{base:Heap}{f:Addr}{fd:FuncData}{C:Addr}{c:Value}
theorem al{H H':Hp}{a:Addr}{o:HO}(h:H a=none)(g:upd H a o=H'):Same H H'/\H' a=some o:=by
 subst g
 exact⟨Same.fresh _ h,upd_same⟩
theorem seq_keep{K:PySem.W.Frag}{H H':Hp}{a:Addr}{xs:List V}(h:SqL K H a xs)(k:∀o,H a=some o->H' a=some o):SqL K H' a xs:=by
 rcases h with (h|⟨o,h⟩)|h
 .exact .inl (.inl (k _ h))
 .exact .inl (.inr ⟨o,k _ h⟩)
 .exact .inr h
theorem pw30:(0:Int)<10^(Int.toNat 30):=by decide
noncomputable def prs:List Int:=[2,3,5,7,11,13,17,19,23,29,31,37,41,43,47,53,59,61,67,71,73,79,83,89,97]
theorem ints_rep{H:Hp}:∀xs:List Int,RepAll H (xs.map PyData.int) (xs.map V.int)
 | []=>rfl
 | x::xs=>⟨_,_,rfl,rfl,ints_rep xs⟩
theorem prs_lo:∀x∈prs,2<=x/\x<=97:=by decide
theorem prs_in:∀m:Nat,m<98->(prs.any fun x=>x==(m:Int))=prI (m:Int):=by decide +kernel
theorem prs_pr(n:Int):((prs.map PyData.int).any fun e=>PyData.eqv e (.int n))=prI n:=by
 rw[List.any_map]
 have e0:(prs.any ((fun e=>PyData.eqv e (.int n))∘PyData.int))=prs.any fun x=>x==n:=by
  congr 1
 rw[e0]
 by_cases h:0<=n/\n<98
 .obtain⟨m,rfl⟩:=Int.eq_ofNat_of_zero_le h.1
  exact prs_in m (by omega)
 .have h1:(prs.any fun x=>x==n)=false:=List.any_eq_false.mpr fun x hx e=>by
   have:=prs_lo x hx
   have e':x=n:=by simpa using e
   omega
  rw[h1]
  unfold prI
  by_cases h2:2<=n
  .rw[decide_eq_false (show ¬n<=97 by omega),Bool.and_false,Bool.false_and]
  .rw[decide_eq_false h2,Bool.false_and,Bool.false_and]
noncomputable def spLaw(K:PySem.W.Frag):Sp:=fun vs H Q _=>∃(a:Addr) (ns:List Int),vs=[.ref a]/\SqL K H a (ns.map V.int)/\ns.length<=63/\∀H',Q (.bl true) H'
theorem scLaw:FnScope ["_law_script","_law_primes","_law_form","_law_puzzle","_law_cell","_law_far","_law_number","_law_thing"] ["_law_script"] (defScope sLaw):=⟨rfl,rfl,rfl,by decide +kernel,rfl,by decide +kernel,by decide +kernel⟩
theorem ok_law(B:∀x∈blts,mg x=none)(Fsum:FnE P w K mg base "sums" 7 ["puzzle","p"] (spSum C))(Fref:Fn P w K mg base "_law_refused" 8 ["_law_puzzle","_law_p"] spRef)(F:Fun K "law" "law" sLaw f fd):FnOk P w K mg base CX0 9 f fd ["_law_script"] (spLaw K):=by
 refine F.ok (k:=8) scLaw (fun vs H Q E h=>?_) (fun cdv A outer s H vs Q E hr h=>?_)
 .obtain⟨_,_,rfl,_⟩:=h
  rfl
 obtain⟨a,ns,rfl,ha,h63,q⟩:=h
 have hu:=hr.units
 refine⟨_,(pss_cons (ps_set (i:=1) scLaw.nd rfl (Or.inl rfl) (pe_lst (pa_c pe_int (pa_c pe_int (pa_c pe_int (pa_c pe_int (pa_c pe_int (pa_c pe_int (pa_c pe_int (pa_c pe_int (pa_c pe_int (pa_c pe_int (pa_c pe_int (pa_c pe_int (pa_c pe_int (pa_c pe_int (pa_c pe_int (pa_c pe_int (pa_c pe_int (pa_c pe_int (pa_c pe_int (pa_c pe_int (pa_c pe_int (pa_c pe_int (pa_c pe_int (pa_c pe_int (pa_c pe_int pa_nil)))))))))))))))))))))))))))
  (pss_cons (ps_set (i:=2) scLaw.nd rfl (Or.inl rfl) (pe_tup (pa_c (pe_tup (pa_c pe_int (pa_c pe_int (pa_c pe_str pa_nil)))) pa_nil)))
  (pss_cons (ps_set (i:=3) scLaw.nd rfl (Or.inl rfl) (pe_tup (pa_c (pe_tup (pa_c pe_str pa_nil)) (pa_c (pe_tup (pa_c (pe_tup (pa_c pe_str (pa_c pe_int (pa_c pe_non (pa_c pe_str (pa_c (pv 2) pa_nil)))))) pa_nil)) (pa_c (pe_tup pa_nil) pa_nil)))))
  (pss_cons (ps_for PassesOwn.never rfl (pi_list (pe_slice sl_list (pv 0) po_none (po_some pe_int))) (pg_name (i:=4) scLaw.nd rfl (Or.inl rfl)) (pss_cons (ps_set (i:=5) scLaw.nd rfl (Or.inl rfl) (pe_op op_mod (pv 4) (pe_op op_pow pe_int pe_int)))
  (pss_cons (ps_set (i:=6) scLaw.nd rfl (Or.inl rfl) (pe_ix ix_list (pe_lst (pa_c (pe_op op_mod (pe_op op_fdiv (pv 5) pe_int) pe_int) (pa_c (pe_op op_mod (pe_op op_fdiv (pv 5) pe_int) pe_int) (pa_c (pe_un un_neg (pe_op op_mod (pe_op op_fdiv (pv 5) pe_int) pe_int)) (pa_c (pv 5) (pa_c (pe_ix ix_list (pv 1) (pe_op op_mod (pe_op op_fdiv (pv 5) pe_int) pe_int) (fun _ _=>rfl)) pa_nil)))))) (pe_op op_mod (pv 5) pe_int) (fun _ _=>rfl)))
  (pss_one (ps_if (pt_cmpR (op_inD hu) (pv 6) (pv 1) rfl) (pss_one (ps_if (pt_cmpR (op_neD hu) (pe_fnE Fsum hr (by decide) rfl (pa_c (pv 3) (pa_c (pv 6) pa_nil))) (pe_tup (pa_c pe_str (pa_c (pe_lst (pa_c (pe_tup (pa_c (pe_tup (pa_c (pv 2) (pa_c pe_int pa_nil))) (pa_c pe_int pa_nil))) pa_nil)) pa_nil))) (nomark _)) (pss_one (ps_ret pe_bl)) pss_nil)) (pss_one (ps_if (pt_not (pt_val (pe_fn Fref hr (by decide) rfl (pa_c (pv 3) (pa_c (pv 6) pa_nil))))) (pss_one (ps_ret pe_bl)) pss_nil)))))))
  (pss_cons (ps_for PassesOwn.never rfl (pi_list (pe_lst (pa_c pe_non (pa_c pe_str (pa_c pe_bl (pa_c pe_bl (pa_c (pe_tup (pa_c pe_int pa_nil)) (pa_c (pe_lst (pa_c pe_int pa_nil)) pa_nil)))))))) (pg_name (i:=7) scLaw.nd rfl (Or.inl rfl)) (pss_one (ps_if (pt_not (pt_val (pe_fn Fref hr (by decide) rfl (pa_c (pv 3) (pa_c (pv 7) pa_nil))))) (pss_one (ps_ret pe_bl)) pss_nil)))
  (pss_one (ps_ret pe_bl))))))),?_⟩
 refine⟨(by show 25<=sizeLine;decide),fun R hR=>?_⟩
 generalize g1:upd H R _=H1 at *
 obtain⟨s1,e1⟩:=al hR g1
 refine⟨(by show 3<=sizeLine;decide),fun sp hsp=>?_⟩
 generalize g2:upd H1 sp _=H2 at *
 obtain⟨s2,e2⟩:=al hsp g2
 refine⟨(by show 1<=sizeLine;decide),fun fr hfr=>?_⟩
 generalize g3:upd H2 fr _=H3 at *
 obtain⟨s3,e3⟩:=al hfr g3
 refine⟨(by show 1<=sizeLine;decide),fun fl hfl=>?_⟩
 generalize g4:upd H3 fl _=H4 at *
 obtain⟨s4,e4⟩:=al hfl g4
 refine⟨_,rfl,(by show 5<=sizeLine;decide),fun k hk=>?_⟩
 generalize g5:upd H4 k _=H5 at *
 obtain⟨s5,e5⟩:=al hk g5
 refine⟨(by show 1<=sizeLine;decide),fun kr hkr=>?_⟩
 generalize g6:upd H5 kr _=H6 at *
 obtain⟨s6,e6⟩:=al hkr g6
 refine⟨(by show 0<=sizeLine;decide),fun e he=>?_⟩
 generalize g7:upd H6 e _=H7 at *
 obtain⟨s7,e7⟩:=al he g7
 refine⟨(by show 3<=sizeLine;decide),fun p hp=>?_⟩
 generalize g8:upd H7 p _=H8 at *
 obtain⟨s8,e8⟩:=al hp g8
 have s78:=s7.trans s8
 have s68:=s6.trans s78
 have s58:=s5.trans s68
 have s48:=s4.trans s58
 have s38:=s3.trans s48
 have hz:PzC H8 p:=⟨fl,kr,e,k,fr,sp,e8,s58 _ _ e4,s78 _ _ e6,s68 _ _ e5,s48 _ _ e3,s38 _ _ e2⟩
 have s18:Same H H8:=(s1.trans s2).trans s38
 have eR:H8 R=some (.lst (prs.map V.int)):=(s2.trans s38) _ _ e1
 have efr:H8 fr=some (.tup [.ref sp]):=s48 _ _ e3
 have esp:H8 sp=some (.tup [.int 0,.int 0,.str "Q"]):=s38 _ _ e2
 clear g1 g2 g3 g4 g5 g6 g7 g8
 refine⟨_,rfl,_,rfl,a,_,rfl,seq_keep ha (fun o ho=>s18 _ _ ho),fun S hS=>?_⟩
 obtain⟨ms,hcc⟩:∃ms:List Int,cutV (ns.map V.int) none (some 40)=ms.map V.int:=⟨_,by unfold cutV;rw[<-List.map_drop,<-List.map_take]⟩
 rw[hcc]
 have s9:Same H8 (upd H8 S (.lst (ms.map V.int))):=Same.fresh _ hS
 have e9:upd H8 S (.lst (ms.map V.int)) S=some (.lst (ms.map V.int)):=upd_same
 generalize upd H8 S (.lst (ms.map V.int))=H9 at *
 replace hz:=hz.same s9
 replace eR:=s9 _ _ eR
 replace efr:=s9 _ _ efr
 replace esp:=s9 _ _ esp
 clear s18 s78 s68 s58 s48 s38 s1 s2 s3 s4 s5 s6 s7 s8 e1 e2 e3 e4 e5 e6 e7 e8 hR hsp hfr hfl hk hkr he hp hS s9 hcc
 refine⟨S,rfl,⟨_,SqL.of e9⟩,?_⟩
 refine for_list (xs:=ms.map V.int) (fun i σ' G=>∃y4 y5 y6 y7:Option V,σ'=[some (.ref a),some (.ref R),some (.ref fr),some (.ref p),y4,y5,y6,y7]/\Same H9 G) ⟨_,_,_,_,rfl,Same.refl _⟩ (fun i σ' G hi h=>?_) (fun i x σ' G hx h=>?_) (fun σ' G h=>?_)
 .obtain⟨_,_,_,_,_,sg⟩:=h
  exact SqL.of (sg _ _ e9)
 .obtain⟨y4,y5,y6,y7,rfl,sg⟩:=h
  rw[List.getElem?_map]at hx
  obtain⟨n,_,rfl⟩:=Option.map_eq_some_iff.mp hx
  refine⟨_,rfl,_,_,rfl,rfl,⟨by decide,by decide,by decide⟩,_,_,rfl,rfl,pw30,?_⟩
  obtain⟨far,efar⟩:∃far:Int,n % 10^(Int.toNat 30)=far:=⟨_,rfl⟩
  obtain⟨m,hm,em⟩:∃m:Nat,m<25/\far/8 % 25=(m:Nat):=⟨(far/8 % 25).toNat,by omega,by omega⟩
  obtain⟨j,hj,ej⟩:∃j:Nat,j<5/\far % 5=(j:Nat):=⟨(far % 5).toNat,by omega,by omega⟩
  have hprm:atI (prs.map V.int) (m:Int)=some (.int (prs[m]'hm)):=atI_nat (by rw[List.getElem?_map,List.getElem?_eq_getElem hm];rfl)
  refine⟨_,rfl,_,_,rfl,rfl,⟨by decide,by decide⟩,_,_,rfl,rfl,(by show(0:Int)<128;decide),_,rfl,_,_,rfl,rfl,⟨by decide,by decide⟩,_,_,rfl,rfl,(by show(0:Int)<128;decide),_,rfl,_,_,rfl,rfl,⟨by decide,by decide⟩,_,_,rfl,rfl,(by show(0:Int)<128;decide),_,rfl,_,rfl,_,rfl,_,rfl,_,_,rfl,rfl,⟨by decide,by decide⟩,_,_,rfl,rfl,(by show(0:Int)<25;decide),R,_,_,_,rfl,rfl,SqL.of (sg _ _ eR),(by rw[efar,em];exact hprm),?_⟩
  refine⟨(by show 5<=sizeLine;decide),fun L5 hL5=>?_⟩
  generalize g5:upd G L5 _=G1 at *
  obtain⟨t1,u1⟩:=al hL5 g5
  clear g5
  obtain⟨nb,hnb⟩:∃nb:Int,[V.int (far/8 % 128),V.int (far/8 % 128),V.int (-(far/8 % 128)),V.int far,V.int (prs[m]'hm)][j]?=some (.int nb):=by
   match j,hj with
   | 0,_=>exact⟨_,rfl⟩
   | 1,_=>exact⟨_,rfl⟩
   | 2,_=>exact⟨_,rfl⟩
   | 3,_=>exact⟨_,rfl⟩
   | 4,_=>exact⟨_,rfl⟩
  subst efar
  refine⟨_,rfl,_,_,rfl,rfl,(by show(0:Int)<5;decide),L5,_,_,_,rfl,rfl,SqL.of u1,(by rw[ej];exact atI_nat hnb),?_⟩
  clear hnb u1 hprm em ej
  have sg1:=sg.trans t1
  refine⟨_,rfl,_,rfl,.int nb,R,_,prs.map PyData.int,rfl,rfl,.inl (sg1 _ _ eR),ints_rep prs,(by simp[PyData.depth]),?_⟩
  refine⟨_,rfl,?_⟩
  rw[if_neg Bool.false_ne_true,prs_pr]
  refine ite2 (fun hpr=>?_) (fun hpr=>?_)
  .refine⟨_,rfl,_,rfl,p,.int nb,rfl,hz.same sg1,.inr (.inr (.inl ⟨nb,rfl⟩)),.inl ⟨nb,rfl,hpr,fun l G2 s2 rep=>?_⟩⟩
   refine⟨_,rfl,(by show 2<=sizeLine;decide),fun b1 h1=>?_⟩
   generalize g1:upd G2 b1 _=G3 at *
   obtain⟨t3,u3⟩:=al h1 g1
   clear g1
   refine⟨(by show 2<=sizeLine;decide),fun b2 h2=>?_⟩
   generalize g1:upd G3 b2 _=G4 at *
   obtain⟨t4,u4⟩:=al h2 g1
   clear g1
   refine⟨(by show 1<=sizeLine;decide),fun b3 h3=>?_⟩
   generalize g1:upd G4 b3 _=G5 at *
   obtain⟨t5,u5⟩:=al h3 g1
   clear g1
   refine⟨(by show 2<=sizeLine;decide),fun b4 h4=>?_⟩
   generalize g1:upd G5 b4 _=G6 at *
   obtain⟨t6,u6⟩:=al h4 g1
   clear g1
   have sG6:=((((sg1.trans s2).trans t3).trans t4).trans t5).trans t6
   have rQ:Rep G6 spQ (.ref sp):=⟨sp,_,rfl,sG6 _ _ esp,_,_,rfl,rfl,_,_,rfl,rfl,_,_,rfl,⟨rfl,by decide +kernel⟩,rfl⟩
   have rF:Rep G6 (.tuple [spQ]) (.ref fr):=⟨fr,_,rfl,sG6 _ _ efr,_,_,rfl,rQ,rfl⟩
   have r1:Rep G6 plQ (.ref b1):=⟨b1,_,rfl,((t4.trans t5).trans t6) _ _ u3,_,_,rfl,rF,_,_,rfl,rfl,rfl⟩
   have r2:Rep G6 mxQ (.ref b2):=⟨b2,_,rfl,(t5.trans t6) _ _ u4,_,_,rfl,r1,_,_,rfl,rfl,rfl⟩
   have r3:Rep G6 ansQ (.ref b4):=⟨b4,_,rfl,u6,_,_,rfl,⟨rfl,by decide +kernel⟩,_,_,rfl,⟨b3,_,rfl,t6 _ _ u5,_,_,rfl,r2,rfl⟩,rfl⟩
   refine⟨ansQ,ansQ,Rep.same (((t3.trans t4).trans t5).trans t6) rep,r3,by decide,_,rfl,?_⟩
   rw[if_pos rfl,SeqAt.eqv_refl _ r3.lay]
   exact iteF ⟨_,_,_,_,rfl,sG6⟩
  .refine⟨_,rfl,_,rfl,p,.int nb,rfl,hz.same sg1,.inr (.inr (.inl ⟨nb,rfl⟩)),(show prI nb=false by simpa using hpr),fun G2 s2=>?_⟩
   exact⟨_,rfl,iteF ⟨_,_,_,_,rfl,sg1.trans s2⟩⟩
 .obtain⟨y4,y5,y6,y7,rfl,sg⟩:=h
  refine⟨(by show 1<=sizeLine;decide),fun b1 h1=>?_⟩
  generalize g1:upd G b1 _=G3 at *
  obtain⟨t3,u3⟩:=al h1 g1
  clear g1
  refine⟨(by show 1<=sizeLine;decide),fun b2 h2=>?_⟩
  generalize g1:upd G3 b2 _=G4 at *
  obtain⟨t4,u4⟩:=al h2 g1
  clear g1
  refine⟨(by show 6<=sizeLine;decide),fun b3 h3=>?_⟩
  generalize g1:upd G4 b3 _=G5 at *
  obtain⟨t5,u5⟩:=al h3 g1
  clear g1
  have s5:=((sg.trans t3).trans t4).trans t5
  have z5:=hz.same s5
  have u35:=(t4.trans t5) _ _ u3
  have u45:=t5 _ _ u4
  refine⟨b3,rfl,⟨_,SqL.of u5⟩,?_⟩
  refine for_list (xs:=[.non,.str "7",.bl true,.bl false,.ref b1,.ref b2]) (fun i σ' J=>∃y4 y5 y6 y7:Option V,σ'=[some (.ref a),some (.ref R),some (.ref fr),some (.ref p),y4,y5,y6,y7]/\Same G5 J) ⟨_,_,_,_,rfl,Same.refl _⟩ (fun i σ' J hi h=>?_) (fun i x σ' J hx h=>?_) (fun σ' J h=>?_)
  .obtain⟨_,_,_,_,_,sj⟩:=h
   exact SqL.of (sj _ _ u5)
  .obtain⟨y4,y5,y6,y7,rfl,sj⟩:=h
   have hv:Kd J x/\prV x=false:=by
    have hm:=List.mem_of_getElem? hx
    simp only[List.mem_cons,List.not_mem_nil,or_false]at hm
    rcases hm with rfl|rfl|rfl|rfl|rfl|rfl
    .exact⟨.inl rfl,rfl⟩
    .exact⟨.inr (.inr (.inr (.inl ⟨_,rfl⟩))),rfl⟩
    .exact⟨.inr (.inl ⟨_,rfl⟩),rfl⟩
    .exact⟨.inr (.inl ⟨_,rfl⟩),rfl⟩
    .exact⟨.inr (.inr (.inr (.inr ⟨b1,rfl,.inr ⟨_,sj _ _ u35⟩⟩))),rfl⟩
    .exact⟨.inr (.inr (.inr (.inr ⟨b2,rfl,.inl ⟨_,sj _ _ u45⟩⟩))),rfl⟩
   refine⟨_,rfl,_,rfl,p,x,rfl,z5.same sj,hv.1,hv.2,fun J2 s2=>?_⟩
   exact⟨_,rfl,iteF ⟨_,_,_,_,rfl,sj.trans s2⟩⟩
  .exact q J
end
end K54
namespace L3
open PySem PySem.Spec PyProof.Rows L2
noncomputable def keyStr:Value->Bool
 | .str _ _=>true
 | _=>false
noncomputable def nsOk(K:PySem.W.Frag)(a:Addr):Bool:=match K.lookup a with
 | some ⟨_,_,.dict es _,_⟩=>es.toList.all (fun e=>keyStr e.key && !e.key.isStr "__init__")
 | _=>false
theorem ns_ok{K:PySem.W.Frag}{a:Addr}(e:nsOk K a=true):∃m:Str->Option Value,(∀h:Heap,K.In h->h.Ns a m)/\m "__init__" = none:=by
 unfold nsOk at e
 split at e
 .rename_i c d es ep sl q
  have e':=List.all_eq_true.mp e
  refine⟨nsFind es,fun h X=>⟨_,es,ep,X _ _ q,rfl,fun x hx=>?_,fun _=>rfl⟩,?_⟩
  .have:=(Bool.and_eq_true_iff.mp (e' x (Array.mem_toList_iff.mpr hx))).1
   cases hk:x.key<;>rw[hk]at this<;>first|exact⟨_,_,rfl⟩|cases this
  .unfold nsFind findBy
   rw[<-Array.find?_toList,List.find?_eq_none.mpr]
   .rfl
   intro x hx h
   have:=(Bool.and_eq_true_iff.mp (e' x hx)).2
   rw[show x.key.isStr "__init__" = true from h]at this
   cases this
 .cases e
theorem exc_mk{K:PySem.W.Frag}{C D:Addr}{nm q:Str}{N:Addr}{bs:List Value}{hdct:Bool}{sn:List Str}{sub:List Value}{ab:Bool}{col:Option Bool}{dd:Option Addr}{k0 k1 k2 k3 k5:Option Value}{c0:Value}{d2:Option Addr}{cd:ClassData}{sl:Array (Option Value)}
  (l:K.lookup C=some (excClassObj nm q C N bs [.ref D,.type "ValueError",.type "Exception",.type "BaseException",.type "object"] hdct sn sub ab col dd k0 k1 k2 k3 k5 "ValueError.__new__")) (n:nsOk K N=true)
  (l2:K.lookup D=some ⟨c0,d2,.cls cd,sl⟩) (n2:nsOk K cd.ns=true):ExC K C:=by
 obtain⟨m,h1,h2⟩:=ns_ok n
 obtain⟨m2,g1,g2⟩:=ns_ok n2
 exact⟨_,_,_,_,_,_,_,_,_,_,_,_,_,_,_,_,_,m,_,_,_,_,_,_,_,l,h1,h2,fun h X=>.own (X _ _ l2) (g1 h X) g2 .base,PySem.F.excBase_ValueError,by decide,PySem.F.excBase_ValueError⟩
end L3
namespace K54
open PySem PyProof.Rows L2 L3
theorem m0_ok:OkM SgP M0:=⟨by decide,by decide,by decide,by decide,fun _ _ _ _=>(by decide:sgB 46=true)⟩
theorem zr0:Zr [spQ]:=⟨⟨fun d hd=>by rw[List.mem_singleton.mp hd];exact⟨0,0,81,rfl,by decide,by decide⟩,by decide,by decide,by decide⟩,by decide,by decide⟩
theorem Df.fnE{P:Program}{w:World}{K:PySem.W.Frag}{h base:Heap}{mg:Str->Option Value}{n:Str}{st:Stmt}{d:Nat}{ps:List Str}{sp:Sp}(D:Df K n st)(X:K.In h)(G:h.Ns mainGlobals mg)(ok:∀{f fd},Fun K n n st f fd->FnOk P w K mg base (CXe P w) d f fd ps sp)
  (b:∀(kV doc pm:Value) (an:Option Addr) (cdv ct:Value) (us:List Value),us.length=ps.length->bindArgs (PySem.W.fnOf n n (defArgs st) (defBody st) (defScope st) .none kV doc pm an cdv ct) ⟨us,[]⟩=pure (ps.zip us):=by
   intro _ _ _ _ _ _
   exact len_2 (fun _ _=>rfl)):FnE P w K mg base n d ps sp:=by
 obtain⟨f,fd,a,F⟩:=D
 exact(x_EE f fd ⟨ok F,PySem.W.mg_of X G a,F.kp,F.binds b⟩)
theorem dict_m{P:Program}{w:World}{K:PySem.W.Frag}{mg:Str->Option Value}{aD:Addr}{u1 v1 u2 v2 u3 v3:Tok}{ep:Nat}(h:mg "TURNINGS_BY_MODE" = some (.ref aD))(ld:K.lookup aD=some ⟨.type "dict",none,.dict #[⟨hashStr w "still",.str "still" u1,.int 1 v1⟩,⟨hashStr w "turn",.str "turn" u2,.int 4 v2⟩,⟨hashStr w "flip",.str "flip" u3,.int 8 v3⟩] ep,#[]⟩):DictM P w K mg:=by
 refine⟨aD,_,[("still",.int 1 v1),("turn",.int 4 v2),("flip",.int 8 v3)],h,ld,⟨_,ep,⟨rfl,rfl,rfl⟩,rfl,fun e he=>?_,?_,(show((["still","turn","flip"]:List Str).Nodup) by decide)⟩,fun m n hm=>?_⟩
 .have he':e=⟨hashStr w "still",.str "still" u1,.int 1 v1⟩\/e=⟨hashStr w "turn",.str "turn" u2,.int 4 v2⟩\/e=⟨hashStr w "flip",.str "flip" u3,.int 8 v3⟩:=by simpa using he
  rcases he' with rfl|rfl|rfl
  .exact⟨"still",strKind_is P w _ u1,rfl⟩
  .exact⟨"turn",strKind_is P w _ u2,rfl⟩
  .exact⟨"flip",strKind_is P w _ u3,rfl⟩
 .exact .cons (strKind_is P w _ u1) rfl (.cons (strKind_is P w _ u2) rfl (.cons (strKind_is P w _ u3) rfl .nil))
 .rcases hm with ⟨rfl,rfl⟩|⟨rfl,rfl⟩|⟨rfl,rfl⟩
  .exact⟨v1,rfl⟩
  .exact⟨v2,rfl⟩
  .exact⟨v3,rfl⟩
theorem all_mk{l:PySem.W.OpenLaw}{w:World}{K:PySem.W.Frag}{h:Heap}{mg:Str->Option Value}{fa:Addr}(X:K.In h)(G:h.Ns mainGlobals mg)(hfa:mg "law" = some (.ref fa))
  (d1:Df K "is_whole" sWh)
  (d2:Df K "is_sign" sBig)
  (d3:Df K "is_small" sSmall)
  (d4:Df K "turned" sTd)
  (d5:Df K "mirrored" sMir)
  (d6:Df K "turned_right" sTr)
  (d7:Df K "forms_of" sForms)
  (d8:Df K "sign_at" sAt)
  (d9:Df K "is_open" sOpen)
  (d10:Df K "must_be" sMust)
  (d11:Df K "wanted" sWant)
  (d12:Df K "open_cells" sOc)
  (d13:Df K "floor_spots" sSpots)
  (d14:Df K "placements" sPlc)
  (d15:Df K "places" sPla)
  (d16:Df K "shifted" sShf)
  (d17:Df K "may_lie" sMay)
  (d18:Df K "may_cover" sMcv)
  (d19:Df K "served_by" sSrv)
  (d20:Df K "asked_sums" sAsk)
  (d21:Df K "weighed" sWgh)
  (d22:Df K "weighed_sum" sWsm)
  (d23:Df K "less_served" sLes)
  (d24:Df K "sums" sSum)
  (d25:Df K "is_prime" sPrm)
  (d26:Df K "scaled" sScl)
  (d27:Df K "inverse" sInv)
  (d28:Df K "lessened" sLsn)
  (d29:Df K "mixed_by" sMxb)
  (d30:Df K "_law_refused" sRef)
  (d31:Df K "law" sLaw)
  {aD C C0 C1 C2 C3:Addr} {u1 v1 u2 v2 u3 v3 tC tV tG:Tok} {ep:Nat} (yd:PySem.W.nsIn K mainGlobals "TURNINGS_BY_MODE" = some (some (.ref aD))) (ld:K.lookup aD=some ⟨.type "dict",none,.dict #[⟨hashStr w "still",.str "still" u1,.int 1 v1⟩,⟨hashStr w "turn",.str "turn" u2,.int 4 v2⟩,⟨hashStr w "flip",.str "flip" u3,.int 8 v3⟩] ep,#[]⟩) (yc:PySem.W.nsIn K mainGlobals "CLOSED" = some (some (.str "#" tC))) (yv:PySem.W.nsIn K mainGlobals "COVERED" = some (some (.str "." tV))) (yg:PySem.W.nsIn K mainGlobals "GREATEST_PRIME" = some (some (.int 97 tG))) (yn:PySem.W.nsIn K mainGlobals "NoNumber" = some (some (.ref C))) (ye:PySem.W.nsIn K mainGlobals "CoverError" = some (some (.ref C0))) (y1:PySem.W.nsIn K mainGlobals "NoText" = some (some (.ref C1))) (y2:PySem.W.nsIn K mainGlobals "NoPuzzle" = some (some (.ref C2))) (y3:PySem.W.nsIn K mainGlobals "NoLaying" = some (some (.ref C3))) (xc:ExC K C) (cl:ClsAt K C) (hx:PySem.W.exmOne K (.ref C) (.ref C0)=some true) (k1:PySem.W.kitOne K (.ref C) (.ref C)=some true) (k2:PySem.W.kitOne K (.ref C) (.type "ValueError")=some true) (k3:PySem.W.kitAny K (.ref C) [.ref C1,.ref C2,.ref C3]=some false)
  (z1:PySem.W.nsIn K mainGlobals "len" = some none) (z2:PySem.W.nsIn K mainGlobals "min" = some none) (z3:PySem.W.nsIn K mainGlobals "max" = some none) (z4:PySem.W.nsIn K mainGlobals "sorted" = some none) (z5:PySem.W.nsIn K mainGlobals "tuple" = some none) (z6:PySem.W.nsIn K mainGlobals "list" = some none) (z7:PySem.W.nsIn K mainGlobals "isinstance" = some none) (z8:PySem.W.nsIn K mainGlobals "bool" = some none) (z9:PySem.W.nsIn K mainGlobals "range" = some none) (z10:PySem.W.nsIn K mainGlobals "str" = some none) (z11:PySem.W.nsIn K mainGlobals "int" = some none) (z12:PySem.W.nsIn K mainGlobals "enumerate" = some none) (z13:PySem.W.nsIn K mainGlobals "all" = some none) (z14:PySem.W.nsIn K mainGlobals "set" = some none) (z15:PySem.W.nsIn K mainGlobals "zip" = some none) (z16:PySem.W.nsIn K mainGlobals "sum" = some none) (z17:PySem.W.nsIn K mainGlobals "dict" = some none) (z18:PySem.W.nsIn K mainGlobals "reversed" = some none) (z19:PySem.W.nsIn K mainGlobals "ValueError" = some none) :
  ∃fd:FuncData,(∀(s:Shared) (v:Value),BindsTo s fd ⟨[v],[]⟩ [("_law_script",v)])/\∀base:Heap,K.In base->base.Ns mainGlobals mg->FnOk l.prog w K mg base CX0 9 fa fd ["_law_script"] (spLaw K):=by
 obtain⟨f,fd,a,F⟩:=d31
 cases hfa.symm.trans (PySem.W.mg_of X G a)
 have B:∀x∈blts,mg x=none:=by
  intro x hx
  simp only[blts,List.mem_cons,List.not_mem_nil,or_false]at hx
  rcases hx with rfl|rfl|rfl|rfl|rfl|rfl|rfl|rfl|rfl|rfl|rfl|rfl|rfl|rfl|rfl|rfl|rfl|rfl|rfl
  .exact PySem.W.mg_none_of X G z1
  .exact PySem.W.mg_none_of X G z2
  .exact PySem.W.mg_none_of X G z3
  .exact PySem.W.mg_none_of X G z4
  .exact PySem.W.mg_none_of X G z5
  .exact PySem.W.mg_none_of X G z6
  .exact PySem.W.mg_none_of X G z7
  .exact PySem.W.mg_none_of X G z8
  .exact PySem.W.mg_none_of X G z9
  .exact PySem.W.mg_none_of X G z10
  .exact PySem.W.mg_none_of X G z11
  .exact PySem.W.mg_none_of X G z12
  .exact PySem.W.mg_none_of X G z13
  .exact PySem.W.mg_none_of X G z14
  .exact PySem.W.mg_none_of X G z15
  .exact PySem.W.mg_none_of X G z16
  .exact PySem.W.mg_none_of X G z17
  .exact PySem.W.mg_none_of X G z18
  .exact PySem.W.mg_none_of X G z19
 obtain⟨oc,od,kV,doc,pm,an,cdv,ct,osl,rfl,lk,hcd⟩:=id F.ex
 refine⟨PySem.W.fnOf "law" "law" (defArgs sLaw) (defBody sLaw) (defScope sLaw) .none kV doc pm an cdv ct,fun s v=>.of_eq rfl,fun base _ _=>?_⟩
 have dm:DictM l.prog w K mg:=dict_m (PySem.W.mg_of X G yd) ld
 have gC:GS mg "CLOSED" "#":=⟨_,PySem.W.mg_of X G yc⟩
 have gV:GS mg "COVERED" ".":=⟨_,PySem.W.mg_of X G yv⟩
 have gG:∃t,mg "GREATEST_PRIME" = some (.int 97 t):=⟨_,PySem.W.mg_of X G yg⟩
 have cC:=PySem.W.mg_of X G yn
 have wh:=d1.fn (P:=l.prog) (w:=w) (base:=base) X G (ok_wh B)
 have bg:=d2.fn (P:=l.prog) (w:=w) (base:=base) X G (ok_big B)
 have sm:=d3.fn (P:=l.prog) (w:=w) (base:=base) X G (ok_small B)
 have mi:=d5.fn (P:=l.prog) (w:=w) (base:=base) X G (ok_mir B)
 have tr:=d6.fn (P:=l.prog) (w:=w) (base:=base) X G (ok_tr B)
 have td:=d4.fn (P:=l.prog) (w:=w) (base:=base) X G (ok_td B mi tr)
 have fo:=d7.fn (P:=l.prog) (w:=w) (base:=base) X G (ok_forms B dm td)
 have ta:=d8.fn (P:=l.prog) (w:=w) (base:=base) X G (ok_at B gC)
 have op:=d9.fn (P:=l.prog) (w:=w) (base:=base) X G (ok_open gC ta)
 have wa:=d11.fn (P:=l.prog) (w:=w) (base:=base) X G (ok_want ta bg sm)
 have mu:=d10.fn (P:=l.prog) (w:=w) (base:=base) X G (ok_must gV ta bg)
 have sp:=d13.fn (P:=l.prog) (w:=w) (base:=base) X G (ok_spots B)
 have oc:=d12.fn (P:=l.prog) (w:=w) (base:=base) X G (ok_oc gC sp)
 have mc:=d18.fn (P:=l.prog) (w:=w) (base:=base) X G (ok_mcv op wa)
 have ml:=d17.fn (P:=l.prog) (w:=w) (base:=base) X G (ok_mayl B mc)
 have sh:=d16.fn (P:=l.prog) (w:=w) (base:=base) X G (ok_shf B)
 have pl:=d15.fn (P:=l.prog) (w:=w) (base:=base) X G (ok_pla B sp sh ml)
 have pc:=d14.fn (P:=l.prog) (w:=w) (base:=base) X G (ok_plc B fo pl)
 have sv:=d19.fn (P:=l.prog) (w:=w) (base:=base) X G (ok_srv)
 have wg:=d21.fn (P:=l.prog) (w:=w) (base:=base) X G (ok_wgh B sv)
 have ws:=d22.fn (P:=l.prog) (w:=w) (base:=base) X G (ok_wsm B)
 have sc:=d26.fn (P:=l.prog) (w:=w) (base:=base) X G (ok_scl)
 have ls:=d28.fn (P:=l.prog) (w:=w) (base:=base) X G (ok_lsn B)
 have iv:=d27.fn (P:=l.prog) (w:=w) (base:=base) X G (ok_inv B)
 have le:=d23.fn (P:=l.prog) (w:=w) (base:=base) X G (ok_les B sv)
 have ak:=d20.fn (P:=l.prog) (w:=w) (base:=base) X G (ok_ask B m0_ok oc mu)
 have mx:=d29.fn (P:=l.prog) (w:=w) (base:=base) X G (ok_mxb B ws le)
 have pr:=d25.fn (P:=l.prog) (w:=w) (base:=base) X G (ok_prm B gG wh)
 have su:=Df.fnE d24 (P:=l.prog) (w:=w) (base:=base) X G (ok_sum B m0_ok zr0 cC xc pr ak pc wg sc iv ls ws mx)
 have rf:=d30.fn (P:=l.prog) (w:=w) (base:=base) X G (ok_ref B cC (PySem.W.mg_of X G ye) hx (PySem.W.mg_of X G y1) (PySem.W.mg_of X G y2) (PySem.W.mg_of X G y3) cl k1 k2 k3 su)
 exact ok_law B su rf F
theorem walk{l:PySem.W.OpenLaw}{q:Program}{loose:List Str}{XP:(Str->Option Value)->Heap->Prop}{YP:World->Heap->Prop}{d:DefRec}{K:Params->PySem.W.Frag}(hn:l.most=some 63)(hdf:d.params.defaults=[])
  (hY:∀(w:World) (h:Heap),YP w h->(K w.params).In h)
  (F:∀(w:World) (mg:Str->Option Value) (fa:Addr) (h:Heap),(K w.params).In h->h.Ns mainGlobals mg->mg d.name=some (.ref fa)->
   ∃fd:FuncData,(∀(s:Shared) (u:Value),BindsTo s fd ⟨[u],[]⟩ [("_law_script",u)])/\∀base:Heap,(K w.params).In base->base.Ns mainGlobals mg->FnOk l.prog w (K w.params) mg base CX0 9 fa fd ["_law_script"] (spLaw (K w.params))) :
  PySem.W.WalkO q loose XP YP l.row.toRowW d [] (fun f vs=>PySem.call f vs):=
 L2.walk_of (n:=63) (k:=9) (x:="_law_script") (CX:=fun _=>CX0) (sp:=fun w=>spLaw (K w.params)) hn (by decide) hdf ⟨rfl,by decide,by decide⟩ hY F (fun _ _ a ns hl _ hS=>⟨a,ns,rfl,hS,hl,fun _=>rfl⟩) fun _ _ _ _ _ z=>z
end K54
open PySem PySem.W PyProof.Rows
set_option maxRecDepth 100000 in
set_option maxHeartbeats 0 in
theorem PySem.Challenge.cw_coverpieces_k54_refused_primes_holds : PySem.Challenge.rw_coverpieces_k54_refused_primes.Holds := by
 refine K54.hd ⟨K54.left,?_⟩
 k_fill
 refine K54.walk (l:=PySem.Challenge.rw_coverpieces_k54_refused_primes) rfl rfl (fun w h Y=>PySem.W.kIn_of Y) ?F
 case F=>
  intro w mg fa h KX G hmg
  refine' K54.all_mk KX G hmg ?d1 ?d2 ?d3 ?d4 ?d5 ?d6 ?d7 ?d8 ?d9 ?d10 ?d11 ?d12 ?d13 ?d14 ?d15 ?d16 ?d17 ?d18 ?d19 ?d20 ?d21 ?d22 ?d23 ?d24 ?d25 ?d26 ?d27 ?d28 ?d29 ?d30 ?d31 ?yd ?ld ?yc ?yv ?yg ?yn ?ye ?y1 ?y2 ?y3 ?xc ?cl ?hx ?k1 ?k2 ?k3 ?z1 ?z2 ?z3 ?z4 ?z5 ?z6 ?z7 ?z8 ?z9 ?z10 ?z11 ?z12 ?z13 ?z14 ?z15 ?z16 ?z17 ?z18 ?z19
  case d1|d2|d3|d4|d5|d6|d7|d8|d9|d10|d11|d12|d13|d14|d15|d16|d17|d18|d19|d20|d21|d22|d23|d24|d25|d26|d27|d28|d29|d30|d31=>refine' L3.df_mk ?a ?l ?c ?k;(case a=>k_is);(case l=>k_is);(case c=>k_is);(case k=>k_is)
  case yd=>k_is
  case ld=>k_is
  case yc=>k_is
  case yv=>k_is
  case yg=>k_is
  case yn=>k_is
  case ye=>k_is
  case y1=>k_is
  case y2=>k_is
  case y3=>k_is
  case xc=>refine' L3.exc_mk ?a ?b ?c ?d;(case a=>k_is);(case b=>kernel_rfl);(case c=>k_is);(case d=>kernel_rfl)
  case cl=>refine⟨?_,?_,?_,?_,?_,?_,?_,?_⟩<;>first|k_is|kernel_rfl
  case hx=>kernel_rfl
  case k1=>kernel_rfl
  case k2=>kernel_rfl
  case k3=>kernel_rfl
  case z1|z2|z3|z4|z5|z6|z7|z8|z9|z10|z11|z12|z13|z14|z15|z16|z17|z18|z19=>k_is
