import PyProof.Rows.All
import Wide.All
import OpenK.AllK
import Wide.FinOn
import Lean
import PyProof.EqAt
import PyProof.EqKinds
import PyProof.TupleCall
import PyProof.Rows.SortRuns
import PyProof.CompFree
import KE.KSortTup
import PyProof.P3Eq
import PyProof.P3In
import PyProof.NeData
import PyProof.WalkInts
import PyProof.Rows.MinMaxN
import PyProof.StrWalks
import PyProof.StrBlockH
import PyProof.StrLawsIn
import PyProof.FString5
import PyProof.StrOps2
import PyProof.ListStr
import PyProof.ConsumeWalk
import PyProof.Rows.StrJoin2
import PyProof.EnumMake
import PyProof.EnumFor
import PyProof.LayNew
import PyProof.Rows.EnumRows
import PyProof.StrCalls
import PyProof.Rows.StrCase
import PyProof.Rows.StrAscii2
import PyProof.Rows.StrFit
import PyProof.IsRules
import PySem.SetTable
import PySem.SetOps
import PyProof.SetKind
import PyProof.TupleKey
import PyProof.DictKinds
import PyProof.Rows.SetFrom
import PyProof.CollectWalk
import PyProof.Seq
import PyProof.SetRoads
import PyProof.Walk
import PyProof.WalkLemmas
import PyProof.AutoListH
import PyProof.FactsAll.list_3
import PyProof.NeKinds
import PyProof.EnumIter
import PyProof.ListRange
import PyProof.Walks
import PyProof.CallType
import PyProof.FactsAll.list_2
import PyProof.EnumStmt
import PyProof.Rows.FactsT2
import PySem.Challenge.RW_coverpieces_k71_pictures
set_option Elab.async false
set_option linter.all false
set_option maxRecDepth 100000
set_option maxHeartbeats 8000000
namespace L2
open PySem PySem.Spec PyProof.Rows
abbrev Key:=Sum Int Str
def keyIs:Key->Value->Bool
 | .inl k,v=>Value.isInt k v
 | .inr x,v=>Value.isStrOf x v
def keyH(w:World):Key->Int
 | .inl k=>hashInt k
 | .inr x=>hashStr w x
theorem keyIs_shape:∀{k:Key} {v:Value},keyIs k v=true->(∃i t,k=Sum.inl i/\v=Value.int i t)\/(∃x t,k=Sum.inr x/\v=Value.str x t)
 | .inl i,v,h=>by
  obtain⟨t,e⟩:=Value.isInt_shape (k:=i) (v:=v) h
  exact .inl ⟨i,t,rfl,e⟩
 | .inr x,v,h=>by
  obtain⟨t,e⟩:=Value.isStrOf_shape (x:=x) (v:=v) h
  exact .inr ⟨x,t,rfl,e⟩
theorem keyIs_int(i:Int)(t:Tok):keyIs (.inl i) (.int i t)=true:=by simp[keyIs,Value.isInt]
theorem keyIs_str(x:Str)(t:Tok):keyIs (.inr x) (.str x t)=true:=by simp[keyIs,Value.isStrOf]
theorem key_ll(a b:Int):decide ((Sum.inl a:Key)=Sum.inl b)=(a==b):=by
 by_cases e:a=b
 .subst e;simp
 .have h:¬(Sum.inl a:Key)=Sum.inl b:=fun q=>e (Sum.inl.inj q)
  rw[decide_eq_false h]
  exact(beq_eq_false_iff_ne.mpr e).symm
theorem key_rr(a b:Str):decide ((Sum.inr a:Key)=Sum.inr b)=decide (a=b):=by
 by_cases e:a=b
 .subst e;simp
 .have h:¬(Sum.inr a:Key)=Sum.inr b:=fun q=>e (Sum.inr.inj q)
  rw[decide_eq_false h,decide_eq_false e]
theorem key_lr(a:Int)(b:Str):decide ((Sum.inl a:Key)=Sum.inr b)=false:=decide_eq_false (fun q=>nomatch q)
theorem key_rl(a:Str)(b:Int):decide ((Sum.inr a:Key)=Sum.inl b)=false:=decide_eq_false (fun q=>nomatch q)
def mixKind(prog:Program)(w:World):PySem.KeyKind prog w Key where
 is:=keyIs
 hash:=keyH w
 inj:=fun v a b ha hb=>by
  rcases keyIs_shape ha with ⟨i,t,rfl,rfl⟩|⟨x,t,rfl,rfl⟩
  .rcases keyIs_shape hb with ⟨j,u,rfl,e⟩|⟨y,u,rfl,e⟩
   .injection e with e1 _;rw[e1]
   .exact nomatch e
  .rcases keyIs_shape hb with ⟨j,u,rfl,e⟩|⟨y,u,rfl,e⟩
   .exact nomatch e
   .injection e with e1 _;rw[e1]
 byValue:=fun k v h=>by
  rcases keyIs_shape h with ⟨i,t,rfl,rfl⟩|⟨x,t,rfl,rfl⟩<;>rfl
 pyHash:=fun hv h=>by
  rcases keyIs_shape hv with ⟨i,t,rfl,rfl⟩|⟨x,t,rfl,rfl⟩
  .exact wpAny_pyHash_int h
  .exact wpAny_pyHash_str h
 eqBool:=fun hu hv h=>by
  rcases keyIs_shape hu with ⟨i,t,rfl,rfl⟩|⟨x,t,rfl,rfl⟩
  .rcases keyIs_shape hv with ⟨j,u,rfl,rfl⟩|⟨y,u,rfl,rfl⟩
   .rw[key_ll]at h;exact wpAny_eqBool_int h
   .rw[key_lr]at h;exact SeqAt.EqAt.int_str i t y u _ _ _ _ h
  .rcases keyIs_shape hv with ⟨j,u,rfl,rfl⟩|⟨y,u,rfl,rfl⟩
   .rw[key_rl]at h;exact SeqAt.EqAt.str_int x t j u _ _ _ _ h
   .rw[key_rr]at h;exact wpAny_eqBool_str h
 «strs»:=fun k x t v h=>by
  rcases keyIs_shape h with ⟨i,u,rfl,e⟩|⟨y,u,rfl,e⟩
  .exact nomatch e
  .injection e with e1 _
   subst e1
   cases v<;>rfl
theorem mixKind_int(prog:Program)(w:World)(i:Int)(t:Tok):(mixKind prog w).is (.inl i) (.int i t)=true:=keyIs_int i t
theorem mixKind_str(prog:Program)(w:World)(x:Str)(t:Tok):(mixKind prog w).is (.inr x) (.str x t)=true:=keyIs_str x t
end L2
namespace L2
open PySem PySem.Spec PyProof.Rows
inductive V where
 | non|bl (b:Bool)|int (i:Int)|str (x:Str)|byt (b:Array UInt8)|flt (b:UInt64)|ref (a:Addr)|ty (n:String)
 deriving DecidableEq
def RelV:V->Value->Prop
 | .non,u=>u=Value.none
 | .bl b,u=>u=Value.bool b
 | .int i,u=>∃t,u=Value.int i t
 | .str x,u=>∃t,u=Value.str x t
 | .byt b,u=>∃t,u=Value.bytes b t
 | .flt b,u=>∃t,u=Value.float b t
 | .ref a,u=>u=Value.ref a
 | .ty n,u=>u=Value.type n
abbrev Vals:List V->List Value->Prop:=Paired RelV
theorem Vals.length{xs:List V}{us:List Value}(r:Vals xs us):xs.length=us.length:=Paired.length r
theorem Vals.get:∀{xs:List V} {us:List Value} {i:Nat} {x:V},Vals xs us->xs[i]?=some x->∃u,us[i]?=some u/\RelV x u
 | _,_,_,_,.nil,e=>by simp at e
 | _,_,0,_,.cons r _,e=>by simp at e;subst e;exact⟨_,rfl,r⟩
 | _,_,i+1,x,.cons _ t,e=>by
  obtain⟨u,h1,h2⟩:=Vals.get (i:=i) (x:=x) t (by simpa using e)
  exact⟨u,by simpa using h1,h2⟩
theorem Vals.set{x:V}{u:Value}(r:RelV x u):∀{xs:List V} {us:List Value} (i:Nat),Vals xs us->Vals (xs.set i x) (us.set i u)
 | _,_,_,.nil=>.nil
 | _,_,0,.cons _ t=>.cons r t
 | _,_,i+1,.cons q t=>.cons q (Vals.set r i t)
theorem Vals.append:∀{xs ys:List V} {us ws:List Value},Vals xs us->Vals ys ws->Vals (xs++ys) (us++ws)
 | _,_,_,_,.nil,s=>s
 | _,_,_,_,.cons r t,s=>.cons r (Vals.append t s)
theorem Vals.take:∀{xs:List V} {us:List Value} (n:Nat),Vals xs us->Vals (xs.take n) (us.take n)
 | _,_,0,_=>.nil
 | _,_,_+1,.nil=>.nil
 | _,_,n+1,.cons r t=>.cons r (Vals.take n t)
theorem Vals.drop:∀{xs:List V} {us:List Value} (n:Nat),Vals xs us->Vals (xs.drop n) (us.drop n)
 | _,_,0,r=>r
 | _,_,_+1,.nil=>.nil
 | _,_,n+1,.cons _ t=>Vals.drop n t
def RelO:Option V->Option Value->Prop
 | some v,some u=>RelV v u
 | none,none=>True
 | _,_=>False
def KV{κ:Type}:List (κ×V)->List (κ×Value)->Prop:=Paired fun(p:κ×V) (q:κ×Value)=>p.1=q.1/\RelV p.2 q.2
def kV:Key->V
 | .inl i=>.int i
 | .inr x=>.str x
inductive HO where
 | lst (xs:List V)
 | tup (xs:List V)
 | dK (kvs:List (Key×V))|dT (kvs:List (List Key×V))
 | set (S:Int->Bool) (n:Nat)
 | ins (C dx:Addr) (fs:List (Str×V))
 | own (x:Addr)
 | xd (fs:List (Str×V))
 | met (f x:Addr)
 | rng (lo hi:Int)
 | frz (o:Obj) (u:HO)
 | tbl (ps:Array Value)
 | ext (φ:Heap->Prop)
abbrev Hp:=Addr->Option HO
def upd(H:Hp)(a:Addr)(o:HO):Hp:=fun b=>if b=a then some o else H b
theorem upd_same{H:Hp}{a:Addr}{o:HO}:upd H a o a=some o:=by unfold upd;rw[if_pos rfl]
theorem upd_ne{H:Hp}{a b:Addr}{o:HO}(h:b≠a):upd H a o b=H b:=by unfold upd;rw[if_neg h]
theorem ne_of{H:Hp}{a b:Addr}{o u:HO}(h:H a=some o)(h':H b=some u)(d:o≠u):a≠b:=by
 intro e;subst e;rw[h]at h';exact d (Option.some.inj h')
theorem ne_of_none{H:Hp}{a b:Addr}{o:HO}(h:H a=some o)(h':H b=none):a≠b:=by
 intro e;subst e;rw[h]at h';cases h'
section
variable(P:Program)(w:World)
def ObjOk(H:Hp)(h:Heap)(a:Addr):HO->Prop
 | .lst xs=>xs.length<=sizeLine/\∃(its:List Value) (n:Nat),Vals xs its/\h.get? a=some {cls:=.type "list",data:=.seq its.toArray n}
 | .tup xs=>xs.length<=sizeLine/\∃its:List Value,Vals xs its/\IsTup h a its.toArray
 | .dK kvs=>kvs.length<=sizeLine/\(a==sysModules)=false/\∃vs,KV kvs vs/\h.DictOf (mixKind P w) a vs
 | .dT kvs=>kvs.length<=sizeLine/\(a==sysModules)=false/\∃xs:List (List Key×Addr×Value),
   Paired (fun(p:List Key×V) (q:List Key×Addr×Value)=>p.1=q.1/\H q.2.1=some (.tup (p.1.map kV))/\RelV p.2 q.2.2) kvs xs/\
   ∃o es ep,h.get? a=some o/\o.ExactDict/\o.data=.dict es ep/\es.toList=xs.map (entryOfKey (tupleKind (mixKind P w)))/\(xs.map (·.1)).Nodup
 | .set S n=>h.SetOf (intKind P w) a S n
 | .ins C dx fs=>H dx=some (.own a)/\fs.length<=1000/\dx≠a/\h.get? a=some (PySem.W.instObj C dx)/\
   ∃mA,h.Ns1 dx mA/\(∀f,RelO (fs.lookup f) (mA f))/\PySem.Within mA (fs.map (·.1))
 | .own _=>∃o,h.get? a=some o
 | .xd fs=>∃mA,h.Ns1 a mA/\∀f,RelO (fs.lookup f) (mA f)
 | .rng lo hi=>∃t u v,h.get? a=some {cls:=.type "range",data:=.fields #[.int lo t,.int hi u,.int 1 v]}
 | .frz o u=>h.get? a=some o/\ObjOk H h a u
 | .tbl ps=>h.get? a=some {cls:=.none,data:=.fields ps}
 | .met f x=>h.get? a=some (PySem.W.methodObj (.ref f) (.ref x))
 | .ext φ=>φ h/\(∃o,h.get? a=some o)/\∀h1 h2:Heap,φ h1->(∀o,h1.get? a=some o->h2.get? a=some o)->φ h2
def HOk(H:Hp)(h:Heap):Prop:=∀a o,H a=some o->ObjOk P w H h a o
end
section
variable{P:Program}{w:World}{H H':Hp}{h h':Heap}{a:Addr}{o:HO}
theorem ObjOk.lt(x:ObjOk P w H h a o):a<h.objs.size:=by
 cases o with
 | lst xs=>obtain⟨_,_,_,_,e⟩:=x;exact Heap.lt_size e
 | tup xs=>obtain⟨_,_,_,p⟩:=x;exact p.lt
 | dK kvs=>obtain⟨_,_,_,_,o,_,_,e,_⟩:=x;exact Heap.lt_size e
 | dT kvs=>obtain⟨_,_,_,_,o,_,_,e,_⟩:=x;exact Heap.lt_size e
 | set S n=>obtain⟨o,_,_,_,e,_⟩:=x;exact Heap.lt_size e
 | ins C dx fs=>obtain⟨_,_,_,e,_⟩:=x;exact Heap.lt_size e
 | own y=>obtain⟨_,e⟩:=x;exact Heap.lt_size e
 | xd fs=>obtain⟨_,⟨_,_,_,e,_⟩,_⟩:=x;exact Heap.lt_size e
 | rng lo hi=>obtain⟨_,_,_,e⟩:=x;exact Heap.lt_size e
 | frz ob u=>obtain⟨e,_⟩:=x;exact Heap.lt_size e
 | tbl ps=>exact Heap.lt_size (show h.get? a=some _ from x)
 | met f y=>exact Heap.lt_size (show h.get? a=some _ from x)
 | ext φ=>obtain⟨_,⟨_,e⟩,_⟩:=x;exact Heap.lt_size e
theorem Paired.mapP{α β:Type}{F G:α->β->Prop}:∀{l₁:List α} {l₂:List β},Paired F l₁ l₂->(∀a b,F a b->G a b)->Paired G l₁ l₂
 | _,_,.nil,_=>.nil
 | _,_,.cons r t,f=>.cons (f _ _ r) (Paired.mapP t f)
theorem ObjOk.stay(x:ObjOk P w H h a o)(k:∀b u,(b=a\/H b=some (.own a))->h.get? b=some u->h'.get? b=some u)
  (ho:∀b,H b=some (.own a)->H' b=some (.own a)) (ht:∀b xs,H b=some (.tup xs)->H' b=some (.tup xs)):ObjOk P w H' h' a o:=by
 induction o with
 | lst xs=>obtain⟨z,its,n,r,e⟩:=x;exact⟨z,its,n,r,k _ _ (.inl rfl) e⟩
 | tup xs=>obtain⟨z,its,r,ob,e,c⟩:=x;exact⟨z,its,r,ob,k _ _ (.inl rfl) e,c⟩
 | dK kvs=>obtain⟨z,y,vs,r,ob,es,ep,e,c⟩:=x;exact⟨z,y,vs,r,ob,es,ep,k _ _ (.inl rfl) e,c⟩
 | dT kvs=>
  obtain⟨z,y,xs,r,ob,es,ep,e,c⟩:=x
  exact⟨z,y,xs,Paired.mapP r fun p q z=>⟨z.1,ht _ _ z.2.1,z.2.2⟩,ob,es,ep,k _ _ (.inl rfl) e,c⟩
 | set S n=>obtain⟨ob,es,ep,t,e,c⟩:=x;exact⟨ob,es,ep,t,k _ _ (.inl rfl) e,c⟩
 | ins C dx fs=>
  obtain⟨d,z,ne,e,mA,⟨od,es,ep,e2,c⟩,r⟩:=x
  exact⟨ho _ d,z,ne,k _ _ (.inl rfl) e,mA,⟨od,es,ep,k _ _ (.inr d) e2,c⟩,r⟩
 | own y=>obtain⟨ob,e⟩:=x;exact⟨ob,k _ _ (.inl rfl) e⟩
 | xd fs=>obtain⟨mA,⟨od,es,ep,e,c⟩,r⟩:=x;exact⟨mA,⟨od,es,ep,k _ _ (.inl rfl) e,c⟩,r⟩
 | rng lo hi=>obtain⟨t,u,v,e⟩:=x;exact⟨t,u,v,k _ _ (.inl rfl) e⟩
 | frz ob u ih=>obtain⟨e,q⟩:=x;exact⟨k _ _ (.inl rfl) e,ih q⟩
 | tbl ps=>
  have e:h.get? a=some {cls:=.none,data:=.fields ps}:=x
  show h'.get? a=some {cls:=.none,data:=.fields ps}
  exact k a _ (.inl rfl) e
 | met f y=>
  have e:h.get? a=some (PySem.W.methodObj (.ref f) (.ref y)):=x
  show h'.get? a=some (PySem.W.methodObj (.ref f) (.ref y))
  exact k a _ (.inl rfl) e
 | ext φ=>obtain⟨p,⟨o,e⟩,st⟩:=x;exact⟨st _ _ p fun o q=>k _ _ (.inl rfl) q,⟨o,k _ _ (.inl rfl) e⟩,st⟩
theorem HOk.lt(x:HOk P w H h)(e:H a=some o):a<h.objs.size:=(x a o e).lt
theorem HOk.fresh(x:HOk P w H h)(e:h.objs.size<=a):H a=none:=by
 cases q:H a with
 | none=>rfl
 | some u=>exact absurd (Nat.lt_of_lt_of_le (x.lt q) e) (Nat.lt_irrefl _)
theorem HOk.kept(x:HOk P w H h)(k:∀b u,h.get? b=some u->h'.get? b=some u):HOk P w H h':=fun a o e=>
 (x a o e).stay (fun b u _ q=>k b u q) (fun _ q=>q) fun _ _ q=>q
theorem HOk.laid(x:HOk P w H h)(k:∀b u,h.get? b=some u->h'.get? b=some u)(hp:h.objs.size<=a)(new:ObjOk P w (upd H a o) h' a o):HOk P w (upd H a o) h':=fun b u e=>by
 have hn:=x.fresh hp
 by_cases hb:b=a
 .subst hb;rw[upd_same]at e;cases e;exact new
 .rw[upd_ne hb]at e
  exact(x b u e).stay (fun c v _ q=>k c v q) (fun c q=>by rw[upd_ne (ne_of_none q hn)];exact q) fun c xs q=>by rw[upd_ne (ne_of_none q hn)];exact q
end
def Rd(H:Hp)(a:Addr)(u:HO):Prop:=H a=some u\/∃o,H a=some (.frz o u)
theorem Rd.ok{P:Program}{w:World}{H:Hp}{h:Heap}{a:Addr}{u:HO}(r:Rd H a u)(x:HOk P w H h):ObjOk P w H h a u:=by
 rcases r with r|⟨o,r⟩
 .exact x a u r
 .obtain⟨_,q⟩:=x a _ r
  exact q
def Mut:Option HO->Prop
 | some (.lst _)=>True
 | some (.dK _)=>True
 | some (.dT _)=>True
 | some (.set _ _)=>True
 | some (.ins _ _ _)=>True
 | some (.ext _)=>True
 | _=>False
section
variable{P:Program}{w:World}{H:Hp}{h h':Heap}{x e:Addr}{o':HO}
theorem HOk.write(ok:HOk P w H h)(mu:Mut (H x))(he:e=x\/H e=some (.own x))(k:∀b u,b≠e->h.get? b=some u->h'.get? b=some u)(heo:∃u,h'.get? e=some u)
  (new:ObjOk P w (upd H x o') h' x o'):HOk P w (upd H x o') h':=fun b u q=>by
 have nown:∀c y,H c=some (.own y)->c≠x:=fun c y r z=>by subst z;rw[r]at mu;exact mu
 have ntup:∀c xs,H c=some (.tup xs)->c≠x:=fun c xs r z=>by subst z;rw[r]at mu;exact mu
 by_cases hb:b=x
 .subst hb;rw[upd_same]at q;cases q;exact new
 .rw[upd_ne hb]at q
  by_cases hbe:b=e
  .have q':H b=some (.own x):=by
    rcases he with z|z
    .exact absurd (hbe.trans z) hb
    .rw[hbe];exact z
   rw[q]at q';cases q'
   obtain⟨v,hv⟩:=heo
   exact⟨v,by rw[hbe];exact hv⟩
  .refine(ok b u q).stay (fun c v hc r=>k c v ?_ r) (fun c r=>by rw[upd_ne (nown c b r)];exact r) fun c xs r=>by rw[upd_ne (ntup c xs r)];exact r
   rcases hc with rfl|hc
   .exact hbe
   .rintro rfl
    rcases he with z|z
    .exact nown c b hc z
    .rw[hc]at z;cases z;exact hb rfl
end
structure Un(fs ex:List Addr)(H H':Hp)(h h':Heap):Prop where
 keep:∀b o,h.get? b=some o->H b=none->b∉fs->b∉ex->h'.get? b=some o
 slot:∀b o,h.get? b=some o->H b=none->b∈fs->b∉ex->∃sl,h'.get? b=some {o with slots:=sl}
 free:∀b o,h.get? b=some o->H b=none->b∉ex->H' b=none
 there:∀b o,h.get? b=some o->b∉ex->∃o',h'.get? b=some o'
 tups:∀b xs,H b=some (.tup xs)->H' b=some (.tup xs)
 frzs:∀b o u,H b=some (.frz o u)->H' b=some (.frz o u)
 tbls:∀b ps,H b=some (.tbl ps)->∃more,H' b=some (.tbl (ps++more))
section
variable{fs fs' ex ex':List Addr}{H H1 H2:Hp}{h h1 h2 h':Heap}{a x e:Addr}{o:HO}
theorem Un.any(u:Un fs ex H H1 h h1){b:Addr}{ob:Obj}(q:h.get? b=some ob)(n:H b=none)(hx:b∉ex):∃sl,h1.get? b=some {ob with slots:=sl}:=by
 by_cases hb:b∈fs
 .exact u.slot b ob q n hb hx
 .exact⟨ob.slots,u.keep b ob q n hb hx⟩
theorem Un.kept(k:∀b u,h.get? b=some u->h'.get? b=some u):Un fs ex H H h h':=
 ⟨fun b ob q _ _ _=>k b ob q,fun b ob q _ _ _=>⟨ob.slots,k b ob q⟩,fun _ _ _ n _=>n,fun b ob q _=>⟨ob,k b ob q⟩,fun _ _ q=>q,fun _ _ _ q=>q,fun _ ps q=>⟨#[],by rw[q];simp⟩⟩
theorem Un.refl:Un fs ex H H h h:=Un.kept fun _ _ q=>q
theorem Un.laid(k:∀b u,h.get? b=some u->h'.get? b=some u)(hp:h.objs.size<=a)(hn:H a=none):Un fs ex H (upd H a o) h h' where
 keep:=fun b u q _ _ _=>k b u q
 slot:=fun b u q _ _ _=>⟨u.slots,k b u q⟩
 free:=fun b u q n _=>by rw[upd_ne (Nat.ne_of_lt (Nat.lt_of_lt_of_le (Heap.lt_size q) hp))];exact n
 there:=fun b u q _=>⟨u,k b u q⟩
 tups:=fun b xs q=>by rw[upd_ne (ne_of_none q hn)];exact q
 frzs:=fun b u xs q=>by rw[upd_ne (ne_of_none q hn)];exact q
 tbls:=fun b ps q=>⟨#[],by rw[upd_ne (ne_of_none q hn),q];simp⟩
theorem Un.write(mu:Mut (H x))(he:e=x\/H e=some (.own x))(k:∀b u,b≠e->h.get? b=some u->h'.get? b=some u)(heo:∃u,h'.get? e=some u):Un fs ex H (upd H x o) h h':=by
 have hx:∀b,H b=none->b≠x:=fun b n z=>by subst z;rw[n]at mu;exact mu
 have hb:∀b,H b=none->b≠e:=fun b n z=>by
  subst z
  rcases he with r|r
  .exact hx b n r
  .rw[n]at r;cases r
 have hm:∀b u,H b=some u->¬Mut (some u)->b≠x:=fun b u q nm z=>by subst z;rw[q]at mu;exact nm mu
 refine⟨fun b u q n _ _=>k b u (hb b n) q,fun b u q n _ _=>⟨u.slots,k b u (hb b n) q⟩,fun b u q n _=>by rw[upd_ne (hx b n)];exact n,fun b u q _=>?_,
  fun b xs q=>by rw[upd_ne (hm b _ q fun z=>z)];exact q,fun b u xs q=>by rw[upd_ne (hm b _ q fun z=>z)];exact q,fun b ps q=>⟨#[],by rw[upd_ne (hm b _ q fun z=>z),q];simp⟩⟩
 by_cases hbe:b=e
 .subst hbe;exact heo
 .exact⟨u,k b u hbe q⟩
end
def trk(h:Heap)(H:Hp):List Addr:=(List.range h.objs.size).filter fun a=>(H a).isSome
def hidT(h:Heap)(H:Hp):Heap:=PySem.W.hideAll h (trk h H)
theorem hidT_size(h:Heap)(H:Hp):(hidT h H).objs.size=h.objs.size:=PySem.W.hideAll_size _ _
theorem hidT_get{h:Heap}{H:Hp}{b:Addr}{o:Obj}(e:h.get? b=some o)(n:H b=none):(hidT h H).get? b=some o:=
 PySem.W.hideAll_get _ e fun hm=>by
  have q:(H b).isSome=true:=(List.mem_filter.mp hm).2
  rw[n]at q;simp at q
theorem of_hidT{h:Heap}{H:Hp}{b:Addr}{o:Obj}(e:(hidT h H).get? b=some o):h.get? b=some o/\H b=none:=by
 have e':h.get? b=some o:=PySem.W.of_hideAll (trk h H) e
 refine⟨e',?_⟩
 cases q:H b with
 | none=>rfl
 | some x=>
  have hm:b∈trk h H:=List.mem_filter.mpr ⟨List.mem_range.mpr (Heap.lt_size e'),by simp[q]⟩
  have z:(hidT h H).get? b=none:=PySem.W.hideAll_none (trk h H) hm
  rw[z]at e;cases e
end L2
namespace L2
open PySem PySem.Spec PyProof.Rows
structure Mod(K:PySem.W.Frag)(mg:Str->Option Value)(base:Heap):Prop where
 kin:K.In base
 glob:base.Ns mainGlobals mg
 blt:∃mb,base.Ns builtinsNs mb/\∀x:Str,x≠"__name__"->mb x=bootBuiltins x
 nolimit:base.NoLimit
structure Cx where
 prog:Program
 w:World
 K:PySem.W.Frag
 mg:Str->Option Value
 base:Heap
 A:Around
 N:List Str
 s₀:Shared
 H₀:Hp
 env:Env
 outer:List Env
 stack:List Env
 ex:List Addr
 fn:Str->Bool
 calm:Bool
 pn:List (Addr×Obj)
 xe:Value->Shared->Prop
def frs(l:List Env):List Addr:=l.filterMap (·.frame)
abbrev Cx.fs(X:Cx):List Addr:=frs X.outer
def Vis(sc:Scope)(x:Str):Prop:=sc.names.lookup x=some .local\/sc.names.lookup x=some .cell\/sc.names.lookup x=some .free
def Loc(sc:Scope)(x:Str):Prop:=sc.names.lookup x=some .local\/sc.names.lookup x=some .cell
def Look(env:Env)(h:Heap)(m:Str->Option Value)(x:Str)(u:Value):Prop:=
 (env.kindOf x=some .local/\m x=some u)\/((env.kindOf x=some .cell\/env.kindOf x=some .free)/\∃c,env.cells.lookup x=some c/\h.IsCell c (some u))
structure Cx.Ok(X:Cx):Prop where
 mod:Mod X.K X.mg X.base
 kind:X.env.scope.kind=.function
 glob:X.env.globals=mainGlobals
 blt:X.env.builtins=builtinsNs
 above:X.s₀.heap.objs.size<=X.env.locals
 inj:∀x y c,X.env.cells.lookup x=some c->X.env.cells.lookup y=some c->x=y
 has:∀x,(X.env.kindOf x=some .cell\/X.env.kindOf x=some .free)->∃c,X.env.cells.lookup x=some c
 cab:∀x c,X.fn x=true->X.env.cells.lookup x=some c->X.s₀.heap.objs.size<=c
 hd:X.calm=true->X.A.handled=none
 frames:X.A.frames=some X.stack
 stk:X.stack=X.outer\/(X.stack=X.env::X.outer/\X.env.frame=some X.env.locals)
 exf:∀b∈X.ex,b≠X.env.locals/\∀x c,X.env.cells.lookup x=some c->c≠b
 bs:∀b o,X.base.get? b=some o->X.s₀.heap.get? b=some o/\X.H₀ b=none
 bsz:X.base.objs.size<=X.s₀.heap.objs.size
 noex:∀b o,X.base.get? b=some o->b∉X.ex
 exfs:∀b∈X.ex,b∉X.fs
 funs:X.s₀.heap.FunFrames X.base X.outer
 frf:∀b∈X.fs,X.H₀ b=none
structure Inv(X:Cx)(pins:List (Addr×Obj))(σ:List (Option V))(H:Hp)(s:Shared):Prop where
 ok:X.Ok
 os:s.os=X.s₀.os
 bare:AllBare s.gens
 base:Un X.fs X.ex X.H₀ H X.s₀.heap s.heap
 loc:∃m,s.heap.Ns X.env.locals m/\∀(i:Nat) (x:Str) (v:V),X.N[i]?=some x->σ[i]?=some (some v)->Vis X.env.scope x->∃u,RelV v u/\Look X.env s.heap m x u
 cell:∀x c,X.env.cells.lookup x=some c->∃v,s.heap.IsCell c v
 free:H X.env.locals=none
 freeC:∀x c,X.env.cells.lookup x=some c->H c=none
 pin:∀p∈X.pn++pins,s.heap.get? p.1=some p.2/\H p.1=none/\p.1≠X.env.locals/\p.1∉X.fs/\∀v,p.2.data≠.cell v
 hok:HOk X.prog X.w H s.heap
 len:σ.length=X.N.length
section
variable{X:Cx}{pins:List (Addr×Obj)}{σ:List (Option V)}{H H':Hp}{s:Shared}{h':Heap}
theorem Cx.Ok.nofr(ok:X.Ok){b:Addr}{o:Obj}(e:X.base.get? b=some o):b∉X.fs:=fun hb=>by
 have:=(ok.funs.mem hb).1
 rw[e]at this;cases this
theorem Inv.bs(I:Inv X pins σ H s):∀b o,X.base.get? b=some o->s.heap.get? b=some o/\H b=none:=fun b o e=>
 ⟨I.base.keep b o (I.ok.bs b o e).1 (I.ok.bs b o e).2 (I.ok.nofr e) (I.ok.noex b o e),I.base.free b o (I.ok.bs b o e).1 (I.ok.bs b o e).2 (I.ok.noex b o e)⟩
theorem Inv.bk(I:Inv X pins σ H s):∀b o,X.base.get? b=some o->s.heap.get? b=some o:=fun b o e=>(I.bs b o e).1
theorem Inv.mod(I:Inv X pins σ H s):Mod X.K X.mg X.base:=I.ok.mod
theorem Inv.kIn(I:Inv X pins σ H s):X.K.In s.heap:=I.ok.mod.kin.keeps I.bk
theorem Inv.lt(I:Inv X pins σ H s):X.env.locals<s.heap.objs.size:=let ⟨_,hn,_⟩:=I.loc;hn.lt
theorem Inv.sz(I:Inv X pins σ H s):X.s₀.heap.objs.size<=s.heap.objs.size:=Nat.le_trans I.ok.above (Nat.le_of_lt I.lt)
theorem Inv.nofs(I:Inv X pins σ H s){a:Addr}(h:s.heap.objs.size<=a):a∉X.fs:=fun hb=>by
 obtain⟨_,o,ho,_⟩:=I.ok.funs.mem hb
 exact absurd (Nat.lt_of_lt_of_le (Heap.lt_size ho) (Nat.le_trans I.sz h)) (Nat.lt_irrefl _)
theorem Inv.cne(I:Inv X pins σ H s):∀x c,X.env.cells.lookup x=some c->c≠X.env.locals:=fun x c e z=>by
 obtain⟨v,o,ho,hd⟩:=I.cell x c e
 obtain⟨m,⟨o',es,ep,ho',hd',_⟩,_⟩:=I.loc
 rw[z,ho']at ho;cases ho;rw[hd']at hd;cases hd
theorem Inv.funs(I:Inv X pins σ H s):s.heap.FunFrames X.base X.outer:=by
 have all:∀(l:List Env),(∀b∈frs l,b∈X.fs)->X.s₀.heap.FunFrames X.base l->s.heap.FunFrames X.base l:=by
  intro l
  induction l with
  | nil=>intro _ _;trivial
  | cons env r ih=>
   intro hs hl
   obtain⟨hk,⟨L,o,hf,hn,ho,hd⟩,hr⟩:=hl
   have hL:L∈X.fs:=hs L (by unfold frs;rw[List.filterMap_cons,hf];exact List.mem_cons_self)
   obtain⟨sl,e⟩:=I.base.slot L o ho (I.ok.frf L hL) hL fun z=>I.ok.exfs L z hL
   exact⟨hk,⟨L,_,hf,hn,e,hd⟩,ih (fun b hb=>hs b (by unfold frs;rw[List.filterMap_cons,hf];exact List.mem_cons_of_mem _ hb)) hr⟩
 exact all X.outer (fun _ hb=>hb) I.ok.funs
theorem Inv.stack(I:Inv X pins σ H s):s.heap.FunFrames X.base X.stack:=by
 rcases I.ok.stk with e|⟨e,hf⟩
 .rw[e];exact I.funs
 .rw[e]
  obtain⟨m,hn,_⟩:=I.loc
  refine .cons (by rw[I.ok.kind];decide) hf hn ?_ I.funs
  exact Heap.get?_none_of_le (Nat.le_trans I.ok.bsz I.ok.above)
theorem Inv.stkSub(I:Inv X pins σ H s):∀b∈frs X.stack,b∈X.env.locals::X.fs:=fun b hb=>by
 rcases I.ok.stk with e|⟨e,hf⟩
 .rw[e]at hb;exact List.mem_cons_of_mem _ hb
 .rw[e]at hb
  unfold frs at hb
  rw[List.filterMap_cons,hf]at hb
  exact hb
theorem Inv.stkFree(I:Inv X pins σ H s):∀b∈frs X.stack,H b=none:=fun b hb=>by
 rcases List.mem_cons.mp (I.stkSub b hb)with e|hb
 .rw[e];exact I.free
 .obtain⟨_,o,ho,_⟩:=I.ok.funs.mem hb
  exact I.base.free b o ho (I.ok.frf b hb) fun z=>I.ok.exfs b z hb
theorem Inv.step{g':Array GenState}{t':Nat}{d':Drawn}{ch:List Addr}(I:Inv X pins σ H s)
  (hch:∀b∈ch,(b∈X.ex\/X.s₀.heap.objs.size<=b)/\b≠X.env.locals/\(∀x c,X.env.cells.lookup x=some c->c≠b)/\∀p∈X.pn++pins,p.1≠b)
  (keep:∀b o,b≠X.env.locals->b∉X.fs->b∉ch->s.heap.get? b=some o->H b=none->h'.get? b=some o)
  (slot:∀b o,b≠X.env.locals->b∈X.fs->b∉ch->s.heap.get? b=some o->H b=none->∃sl,h'.get? b=some {o with slots:=sl}) (free:∀b o,b∉ch->s.heap.get? b=some o->H b=none->H' b=none)
  (there:∀b o,b∉ch->s.heap.get? b=some o->∃o',h'.get? b=some o')
  (tups:∀b xs,H b=some (.tup xs)->H' b=some (.tup xs)) (frzs:∀b o u,H b=some (.frz o u)->H' b=some (.frz o u)) (tbls:∀b ps,H b=some (.tbl ps)->∃more,H' b=some (.tbl (ps++more)))
  (ns:∀m,s.heap.Ns X.env.locals m->h'.Ns X.env.locals m) (hok:HOk X.prog X.w H' h') (hg:AllBare g') :
  Inv X pins σ H' {s with heap:=h',gens:=g',drawn:=d',toks:=t'}:=by
 have neL:∀b o,X.s₀.heap.get? b=some o->b≠X.env.locals:=fun b o e=>Nat.ne_of_lt (Nat.lt_of_lt_of_le (Heap.lt_size e) I.ok.above)
 have neC:∀b o,X.s₀.heap.get? b=some o->b∉X.ex->b∉ch:=fun b o e hx hb=>by
  rcases(hch b hb).1 with z|z
  .exact hx z
  .exact absurd (Nat.lt_of_lt_of_le (Heap.lt_size e) z) (Nat.lt_irrefl _)
 have cellK:∀x c,X.env.cells.lookup x=some c->∀v,s.heap.IsCell c v->h'.IsCell c v:=fun x c e v ⟨o,ho,hd⟩=>by
  have nch:c∉ch:=fun z=>(hch c z).2.2.1 x c e rfl
  by_cases hc:c∈X.fs
  .obtain⟨sl,q⟩:=slot c o (I.cne x c e) hc nch ho (I.freeC x c e)
   exact⟨_,q,hd⟩
  .exact⟨o,keep c o (I.cne x c e) hc nch ho (I.freeC x c e),hd⟩
 refine⟨I.ok,I.os,hg,⟨fun b o e n hb hx=>?_,fun b o e n hb hx=>?_,fun b o e n hx=>?_,fun b o e hx=>?_,fun b xs e=>tups b xs (I.base.tups b xs e),fun b o xs e=>frzs b o xs (I.base.frzs b o xs e),fun b ps e=>?_⟩,?_,fun x c e=>?_,?_,fun x c e=>?_,fun p hp=>?_,hok,I.len⟩
 .exact keep b o (neL b o e) hb (neC b o e hx) (I.base.keep b o e n hb hx) (I.base.free b o e n hx)
 .obtain⟨sl,e1⟩:=I.base.slot b o e n hb hx
  obtain⟨sl',e2⟩:=slot b _ (neL b o e) hb (neC b o e hx) e1 (I.base.free b o e n hx)
  exact⟨sl',e2⟩
 .obtain⟨o',e1⟩:=I.base.there b o e hx
  exact free b o' (neC b o e hx) e1 (I.base.free b o e n hx)
 .obtain⟨o',e1⟩:=I.base.there b o e hx
  exact there b o' (neC b o e hx) e1
 .obtain⟨m1,e1⟩:=I.base.tbls b ps e
  obtain⟨m2,e2⟩:=tbls b _ e1
  exact⟨m1++m2,by rw[e2,Array.append_assoc]⟩
 .obtain⟨m,hn,hl⟩:=I.loc
  refine⟨m,ns m hn,fun i x v e1 e2 e3=>?_⟩
  obtain⟨u,r,l⟩:=hl i x v e1 e2 e3
  refine⟨u,r,?_⟩
  rcases l with l|⟨k,c,e,z⟩
  .exact .inl l
  .exact .inr ⟨k,c,e,cellK x c e _ z⟩
 .obtain⟨v,z⟩:=I.cell x c e
  exact⟨v,cellK x c e v z⟩
 .obtain⟨m,⟨o,_,_,ho,_⟩,_⟩:=I.loc
  exact free _ o (fun z=>(hch _ z).2.1 rfl) ho I.free
 .obtain⟨v,o,ho,hd⟩:=I.cell x c e
  exact free c o (fun z=>(hch c z).2.2.1 x c e rfl) ho (I.freeC x c e)
 .obtain⟨e,n,ne,nf,d⟩:=I.pin p hp
  have nch:p.1∉ch:=fun z=>(hch p.1 z).2.2.2 p hp rfl
  exact⟨keep p.1 p.2 ne nf nch e n,free p.1 p.2 nch e n,ne,nf,d⟩
theorem Inv.un{t':Nat}(I:Inv X pins σ H s)(u:Un X.fs [] H H' s.heap h')(hok:HOk X.prog X.w H' h'):Inv X pins σ H' {s with heap:=h',toks:=t'}:=by
 obtain⟨m,⟨o,es,ep,ho,r⟩,_⟩:=id I.loc
 obtain⟨sl,hL⟩:=u.any ho I.free (by simp)
 exact I.step (g':=s.gens) (d':=s.drawn) (ch:=[]) (fun _ z=>nomatch z) (fun b o _ hb _ e n=>u.keep b o e n hb (by simp)) (fun b o _ hb _ e n=>u.slot b o e n hb (by simp)) (fun b o _ e n=>u.free b o e n (by simp)) (fun b o _ e=>u.there b o e (by simp)) u.tups u.frzs u.tbls (fun m' hm=>by
  obtain⟨o',es',ep',ho',r'⟩:=hm
  rw[ho]at ho';cases ho'
  exact⟨_,es',ep',hL,r'⟩) hok I.bare
theorem Inv.call{g':Array GenState}{t':Nat}{d':Drawn}{ch:List Addr}(I:Inv X pins σ H s)(u:Un (frs X.stack) ch H H' s.heap h')(hok:HOk X.prog X.w H' h')(hg:AllBare g')
  (hch:∀b∈ch,(b∈X.ex\/X.s₀.heap.objs.size<=b)/\b≠X.env.locals/\(∀x c,X.env.cells.lookup x=some c->c≠b)/\∀p∈X.pn++pins,p.1≠b) :
  Inv X pins σ H' {s with heap:=h',gens:=g',drawn:=d',toks:=t'}:=by
 obtain⟨m,⟨o,es,ep,ho,r⟩,_⟩:=id I.loc
 obtain⟨sl,hL⟩:=u.any ho I.free fun z=>(hch _ z).2.1 rfl
 exact I.step (ch:=ch) hch (fun b o hL hb hc e n=>u.keep b o e n (fun z=>(List.mem_cons.mp (I.stkSub b z)).elim hL hb) hc) (fun b o _ _ hc e n=>u.any e n hc) (fun b o hc e n=>u.free b o e n hc) (fun b o hc e=>u.there b o e hc) u.tups u.frzs u.tbls (fun m' hm=>by
  obtain⟨o',es',ep',ho',r'⟩:=hm
  rw[ho]at ho';cases ho'
  exact⟨_,es',ep',hL,r'⟩) hok hg
theorem Inv.turned{t':Nat}{it:Addr}(I:Inv X pins σ H s)(k:∀b o,b≠it->s.heap.get? b=some o->h'.get? b=some o)(hn:H it=none)(hL:it≠X.env.locals)
  (h1:it∈X.ex\/X.s₀.heap.objs.size<=it) (h2:∀x c,X.env.cells.lookup x=some c->c≠it) (h3:∀p∈X.pn++pins,p.1≠it):Inv X pins σ H {s with heap:=h',toks:=t'}:=by
 have nit:∀b u,H b=some u->b≠it:=fun b u e z=>by rw[z,hn]at e;cases e
 refine I.step (g':=s.gens) (d':=s.drawn) (ch:=[it]) (fun b hb=>?_) (fun b o _ _ hc e _=>k b o (fun z=>hc (by simp[z])) e) (fun b o _ _ hc e _=>⟨o.slots,k b o (fun z=>hc (by simp[z])) e⟩) (fun _ _ _ _ n=>n)
  (fun b o hc e=>⟨o,k b o (fun z=>hc (by simp[z])) e⟩) (fun _ _ e=>e) (fun _ _ _ e=>e) (fun b ps e=>⟨#[],by rw[e];simp⟩) (fun m hm=>?_) (fun b u e=>?_) I.bare
 .have e:b=it:=by simpa using hb
  subst e
  exact⟨h1,hL,h2,h3⟩
 .obtain⟨o,es,ep,ho,r⟩:=hm
  exact⟨o,es,ep,k _ o (Ne.symm hL) ho,r⟩
 .refine(I.hok b u e).stay (fun c v hc q=>k c v ?_ q) (fun _ q=>q) fun _ _ q=>q
  rcases hc with z|z
  .rw[z];exact nit b u e
  .exact nit c _ z
theorem Inv.tok(I:Inv X pins σ H s)(t:Nat):Inv X pins σ H {s with toks:=t}:=I.un (h':=s.heap) (t':=t) Un.refl I.hok
theorem Inv.kept{t':Nat}(I:Inv X pins σ H s)(k:∀b u,s.heap.get? b=some u->h'.get? b=some u):Inv X pins σ H {s with heap:=h',toks:=t'}:=I.un (Un.kept k) (I.hok.kept k)
theorem Inv.laid{a:Addr}{o:HO}{t':Nat}(I:Inv X pins σ H s)(k:∀b u,s.heap.get? b=some u->h'.get? b=some u)(hp:s.heap.objs.size<=a)(new:ObjOk X.prog X.w (upd H a o) h' a o) :
  Inv X pins σ (upd H a o) {s with heap:=h',toks:=t'}:=I.un (Un.laid k hp (I.hok.fresh hp)) (I.hok.laid k hp new)
theorem Inv.write{x e:Addr}{o:HO}{t':Nat}(I:Inv X pins σ H s)(mu:Mut (H x))(he:e=x\/H e=some (.own x))(k:∀b u,b≠e->s.heap.get? b=some u->h'.get? b=some u)(heo:∃u,h'.get? e=some u)
  (new:ObjOk X.prog X.w (upd H x o) h' x o):Inv X pins σ (upd H x o) {s with heap:=h',toks:=t'}:=I.un (Un.write mu he k heo) (I.hok.write mu he k heo new)
theorem Inv.weak{σ':List (Option V)}(I:Inv X pins σ H s)(hl:σ'.length=σ.length)(w:∀(i:Nat) v,σ'[i]?=some (some v)->σ[i]?=some (some v)):Inv X pins σ' H s:=
 ⟨I.ok,I.os,I.bare,I.base,let ⟨m,hn,hl'⟩:=I.loc;⟨m,hn,fun i x v e1 e2 e3=>hl' i x v e1 (w i v e2) e3⟩,I.cell,I.free,I.freeC,I.pin,I.hok,hl.trans I.len⟩
theorem Inv.pins_of{pins':List (Addr×Obj)}(I:Inv X pins σ H s)(h:∀p∈pins',s.heap.get? p.1=some p.2/\H p.1=none/\p.1≠X.env.locals/\p.1∉X.fs/\∀v,p.2.data≠.cell v):Inv X pins' σ H s:=
 ⟨I.ok,I.os,I.bare,I.base,I.loc,I.cell,I.free,I.freeC,fun p hp=>(List.mem_append.mp hp).elim (fun z=>I.pin p (List.mem_append_left _ z)) (h p),I.hok,I.len⟩
theorem nodup_ix{N:List Str}(hN:N.Nodup){i j:Nat}{x:Str}(a:N[i]?=some x)(b:N[j]?=some x):i=j:=by
 obtain⟨h1,e1⟩:=List.getElem?_eq_some_iff.mp a
 obtain⟨h2,e2⟩:=List.getElem?_eq_some_iff.mp b
 exact(List.getElem_inj hN).mp (e1.trans e2.symm)
theorem store_ok2{M:Model}{A:Around}{E:Value->Shared->Prop}{i:Nat}{x:Str}{v:V}{u:Value}{Q:Unit->Shared->Prop}(I:Inv X pins σ H s)(hN:X.N.Nodup)(hi:X.N[i]?=some x)(hx:Loc X.env.scope x)(r:RelV v u)
  (h:∀s',Inv X pins (σ.set i (some v)) H s'->(∃a,Heap.SameBut a s.heap s'.heap/\(a=X.env.locals\/X.env.cells.lookup x=some a))->Q () s') (hf:X.fn x=true\/X.env.scope.names.lookup x=some .local:=by first|exact .inl rfl|exact .inr rfl|assumption):wpAny M A (storeName X.env x u) Q E s:=by
 obtain⟨m,hn,hl⟩:=id I.loc
 have hcls:(X.env.scope.kind==.class||(X.env.scope.kind==.module&&X.env.locals != X.env.globals))=false:=by rw[I.ok.kind];rfl
 have hiσ:i<σ.length:=by rw[I.len];exact(List.getElem?_eq_some_iff.mp hi).1
 have cne:=I.cne
 have tracked:∀{a:Addr} {h':Heap},(∃o,s.heap.get? a=some o/\H a=none)->Heap.SameBut a s.heap h'->HOk X.prog X.w H h':=fun{a h'} ha hs b ob e=>by
  obtain⟨_,_,hfree⟩:=ha
  refine(I.hok b ob e).stay (fun c w' hc q=>(hs.2 c ?_).trans q) (fun _ q=>q) fun _ _ q=>q
  rintro rfl
  rcases hc with rfl|hc
  .rw[hfree]at e;cases e
  .rw[hfree]at hc;cases hc
 rcases hx with hk|hk
 .refine wpAny_storeName_local hk hn (fun h' hn' hs=>?_) hcls
  obtain⟨oL,_,_,hoL,_⟩:=id hn
  refine h _ ⟨I.ok,I.os,I.bare,⟨fun b o e n hb hx=>?_,fun b o e n hb hx=>?_,I.base.free,fun b o e hx=>?_,I.base.tups,I.base.frzs,I.base.tbls⟩,⟨_,hn',fun j y v' e1 e2 e3=>?_⟩,fun y c e=>?_,I.free,I.freeC,fun p hp=>?_,tracked ⟨oL,hoL,I.free⟩ hs,by simpa using I.len⟩ ⟨_,hs,.inl rfl⟩
  .exact(hs.2 b (Nat.ne_of_lt (Nat.lt_of_lt_of_le (Heap.lt_size e) I.ok.above))).trans (I.base.keep b o e n hb hx)
  .obtain⟨sl,e1⟩:=I.base.slot b o e n hb hx
   exact⟨sl,(hs.2 b (Nat.ne_of_lt (Nat.lt_of_lt_of_le (Heap.lt_size e) I.ok.above))).trans e1⟩
  .obtain⟨o',e1⟩:=I.base.there b o e hx
   exact⟨o',(hs.2 b (Nat.ne_of_lt (Nat.lt_of_lt_of_le (Heap.lt_size e) I.ok.above))).trans e1⟩
  .by_cases hj:j=i
   .subst hj
    rw[hi]at e1;cases e1
    rw[List.getElem?_set_self hiσ]at e2
    cases e2
    exact⟨u,r,.inl ⟨hk,by simp⟩⟩
   .rw[List.getElem?_set_ne (Ne.symm hj)]at e2
    obtain⟨u',r',q⟩:=hl j y v' e1 e2 e3
    refine⟨u',r',?_⟩
    rcases q with ⟨k,e⟩|⟨k,c,e,z⟩
    .refine .inl ⟨k,?_⟩
     have:y≠x:=fun e=>hj (nodup_ix hN e1 (e▸hi))
     simp[this,e]
    .exact .inr ⟨k,c,e,z.sameBut hs (cne y c e)⟩
  .obtain⟨w',z⟩:=I.cell y c e
   exact⟨w',z.sameBut hs (cne y c e)⟩
  .obtain⟨e,n,ne,nf,d⟩:=I.pin p hp
   exact⟨(hs.2 p.1 ne).trans e,n,ne,nf,d⟩
 .have hfn:X.fn x=true:=by
   rcases hf with z|z
   .exact z
   .rw[z]at hk;cases hk
  obtain⟨c,hc⟩:=I.ok.has x (.inl hk)
  obtain⟨w',z⟩:=I.cell x c hc
  refine wpAny_storeName_cell I.ok.kind hk hc z (fun h' hc' hs=>?_)
  obtain⟨oc,hoc,hocd⟩:=id z
  refine h {s with heap:=h'} ⟨I.ok,I.os,I.bare,⟨fun b o e n hb hx=>?_,fun b o e n hb hx=>?_,I.base.free,fun b o e hx=>?_,I.base.tups,I.base.frzs,I.base.tbls⟩,⟨m,hn.sameBut hs (Ne.symm (cne x c hc)),fun j y v' e1 e2 e3=>?_⟩,fun y c' e=>?_,I.free,I.freeC,fun p hp=>?_,tracked ⟨oc,hoc,I.freeC x c hc⟩ hs,by simpa using I.len⟩ ⟨c,hs,.inr hc⟩
  .exact(hs.2 b (Nat.ne_of_lt (Nat.lt_of_lt_of_le (Heap.lt_size e) (I.ok.cab x c hfn hc)))).trans (I.base.keep b o e n hb hx)
  .obtain⟨sl,e1⟩:=I.base.slot b o e n hb hx
   exact⟨sl,(hs.2 b (Nat.ne_of_lt (Nat.lt_of_lt_of_le (Heap.lt_size e) (I.ok.cab x c hfn hc)))).trans e1⟩
  .obtain⟨o',e1⟩:=I.base.there b o e hx
   exact⟨o',(hs.2 b (Nat.ne_of_lt (Nat.lt_of_lt_of_le (Heap.lt_size e) (I.ok.cab x c hfn hc)))).trans e1⟩
  .by_cases hj:j=i
   .subst hj
    rw[hi]at e1;cases e1
    rw[List.getElem?_set_self hiσ]at e2
    cases e2
    exact⟨u,r,.inr ⟨.inl hk,c,hc,hc'⟩⟩
   .rw[List.getElem?_set_ne (Ne.symm hj)]at e2
    obtain⟨u',r',q⟩:=hl j y v' e1 e2 e3
    refine⟨u',r',?_⟩
    rcases q with q|⟨k,c',e,z'⟩
    .exact .inl q
    .refine .inr ⟨k,c',e,z'.sameBut hs ?_⟩
     rintro rfl
     exact hj (nodup_ix hN e1 (I.ok.inj _ _ _ e hc▸hi))
  .by_cases hcc:c'=c
   .subst hcc;exact⟨_,hc'⟩
   .obtain⟨w2,z2⟩:=I.cell y c' e
    exact⟨w2,z2.sameBut hs hcc⟩
  .obtain⟨e,n,ne,nf,d⟩:=I.pin p hp
   refine⟨(hs.2 p.1 ?_).trans e,n,ne,nf,d⟩
   intro q
   rw[q,hoc]at e
   have q':oc=p.2:=Option.some.inj e
   exact d w' (by rw[<-q'];exact hocd)
theorem store_ok{M:Model}{A:Around}{E:Value->Shared->Prop}{i:Nat}{x:Str}{v:V}{u:Value}{Q:Unit->Shared->Prop}(I:Inv X pins σ H s)(hN:X.N.Nodup)(hi:X.N[i]?=some x)(hx:Loc X.env.scope x)(r:RelV v u)
  (h:∀s',Inv X pins (σ.set i (some v)) H s'->Q () s') (hf:X.fn x=true\/X.env.scope.names.lookup x=some .local:=by first|exact .inl rfl|exact .inr rfl|assumption):wpAny M A (storeName X.env x u) Q E s:=
 store_ok2 I hN hi hx r (fun s' I' _=>h s' I') hf
theorem Inv.call'{s':Shared}{ch:List Addr}(I:Inv X pins σ H s)(ho:s'.os=s.os)(u:Un (frs X.stack) ch H H' s.heap s'.heap)(hok:HOk X.prog X.w H' s'.heap)(hg:AllBare s'.gens)
  (hch:∀b∈ch,(b∈X.ex\/X.s₀.heap.objs.size<=b)/\b≠X.env.locals/\(∀x c,X.env.cells.lookup x=some c->c≠b)/\∀p∈X.pn++pins,p.1≠b):Inv X pins σ H' s':=by
 obtain⟨h',g',d',t',o'⟩:=s'
 have e:o'=s.os:=ho
 subst e
 exact I.call (g':=g') (t':=t') (d':=d') u hok hg hch
end
abbrev XK:=Value->Option Addr->Hp->Prop
abbrev St:=List (Option V)
abbrev VK:=V->Hp->Prop
abbrev TE:=St->Hp->VK->Prop
abbrev TT:=St->Hp->(Bool->Hp->Prop)->Prop
abbrev TA:=St->Hp->(List V->Hp->Prop)->Prop
structure Ends where
 nx:St->Hp->Prop
 rt:VK
 bk:St->Hp->Prop:=fun _ _=>False
 ct:St->Hp->Prop:=fun _ _=>False
abbrev TS:=Ends->St->Hp->Prop
def EP(X:Cx)(pins:List (Addr×Obj))(σ:St)(Q:VK)(u:Value)(s':Shared):Prop:=∃v H',Inv X pins σ H' s'/\RelV v u/\Q v H'
def TP(X:Cx)(pins:List (Addr×Obj))(σ:St)(Q:Bool->Hp->Prop)(b:Bool)(s':Shared):Prop:=∃H',Inv X pins σ H' s'/\Q b H'
def AP(X:Cx)(pins:List (Addr×Obj))(σ:St)(Q:List V->Hp->Prop)(us:List Value)(s':Shared):Prop:=∃vs H',Inv X pins σ H' s'/\Vals vs us/\Q vs H'
def SP(X:Cx)(pins:List (Addr×Obj))(D:Ends)(f:Flow)(s':Shared):Prop:=
 match f with
 | .next=>∃σ' H',Inv X pins σ' H' s'/\D.nx σ' H'
 | .brk=>∃σ' H',Inv X pins σ' H' s'/\D.bk σ' H'
 | .cont=>∃σ' H',Inv X pins σ' H' s'/\D.ct σ' H'
 | .ret u=>∃v σ' H',Inv X pins σ' H' s'/\RelV v u/\D.rt v H'
def PE(X:Cx)(e:Expr)(t:TE):Prop:=
 ∀(pins:List (Addr×Obj)) (s:Shared) (σ:St) (H:Hp) (Q:VK),Inv X pins σ H s->t σ H Q->wpAny (model X.prog X.w) X.A (eval e X.env) (EP X pins σ Q) X.xe s
def PT(X:Cx)(e:Expr)(t:TT):Prop:=
 ∀(pins:List (Addr×Obj)) (s:Shared) (σ:St) (H:Hp) (Q:Bool->Hp->Prop),Inv X pins σ H s->t σ H Q->wpAny (model X.prog X.w) X.A (isTrue e X.env (eval e X.env)) (TP X pins σ Q) X.xe s
def PW(X:Cx)(e:Expr)(t:TT):Prop:=
 ∀(whole:Sem Value) (pins:List (Addr×Obj)) (s:Shared) (σ:St) (H:Hp) (Q:Bool->Hp->Prop),Inv X pins σ H s->t σ H Q->wpAny (model X.prog X.w) X.A (isTrue e X.env whole) (TP X pins σ Q) X.xe s
theorem PW.pt{X:Cx}{e:Expr}{t:TT}(h:PW X e t):PT X e t:=h _
def PA(X:Cx)(es:List Expr)(t:TA):Prop:=
 ∀(pos:Pos) (pins:List (Addr×Obj)) (s:Shared) (σ:St) (H:Hp) (Q:List V->Hp->Prop),Inv X pins σ H s->t σ H Q->wpAny (model X.prog X.w) X.A (spliced (backTo pos (starEach es X.env))) (AP X pins σ Q) X.xe s
def PS(X:Cx)(st:Stmt)(t:TS):Prop:=
 ∀(pins:List (Addr×Obj)) (s:Shared) (σ:St) (H:Hp) (D:Ends),Inv X pins σ H s->t D σ H->wpAny (model X.prog X.w) X.A (exec st X.env) (SP X pins D) X.xe s
def PSs(X:Cx)(st:List Stmt)(t:TS):Prop:=
 ∀(pins:List (Addr×Obj)) (s:Shared) (σ:St) (H:Hp) (D:Ends),Inv X pins σ H s->t D σ H->wpAny (model X.prog X.w) X.A (execs st X.env) (SP X pins D) X.xe s
theorem thn{α:Type}{t:Sem α}{Q Q':α->Shared->Prop}{M:Model}{A:Around}{E:Value->Shared->Prop}{s:Shared}(h:wpAny M A t Q E s)(hQ:∀a s,Q a s->Q' a s):wpAny M A t Q' E s:=wpAny_mono h hQ fun _ _ x=>x
end L2
namespace L2
open PySem PySem.Spec PyProof.Rows
section
variable{X:Cx}
def tVar(i:Nat):TE:=fun σ H Q=>∃v,σ[i]?=some (some v)/\Q v H
def tC(v:V):TE:=fun _ H Q=>Q v H
theorem pe_var{i:Nat}{x:Str}{pos:Pos}(hN:X.N[i]?=some x)(hv:Vis X.env.scope x)(hd:(x==("__debug__" : Str))=false:=by decide)(hcd:(x==("__classdict__" : Str))=false:=by decide):PE X (.Name x pos) (tVar i):=by
 intro pins s σ H Q I h
 obtain⟨v,e,h⟩:=h
 obtain⟨m,hn,hl⟩:=I.loc
 obtain⟨u,r,l⟩:=hl i x v hN e hv
 have fin:EP X pins σ Q u s:=⟨v,H,I,r,h⟩
 rcases l with ⟨hk,hm⟩|⟨hk,c,hc,hcell⟩
 .exact wpAny_Name (wpAny_loadName_local I.ok.kind hk hn hm fin) hd
 .rcases hk with hk|hk
  .exact wpAny_Name (wpAny_loadName_cell I.ok.kind hk hc hcell fin) hd
  .exact wpAny_Name (wpAny_loadName_free I.ok.kind hk hc hcell fin hcd) hd
theorem pe_int{i j pos}:PE X (.Constant (.int i) j pos) (tC (.int i)):=fun _ _ _ H _ I h=>wpAny_Constant_int ⟨.int i,H,I.tok _,⟨_,rfl⟩,h⟩
theorem pe_bl{b j pos}:PE X (.Constant (.bool b) j pos) (tC (.bl b)):=fun _ _ _ H _ I h=>Constant_bool ⟨.bl b,H,I,rfl,h⟩
theorem pe_non{j pos}:PE X (.Constant .none j pos) (tC .non):=fun _ _ _ H _ I h=>Constant_none ⟨.non,H,I,rfl,h⟩
theorem pe_str{x j pos}:PE X (.Constant (.str x) j pos) (tC (.str x)):=fun _ _ _ H _ I h=>Calls.Constant_str ⟨.str x,H,I.tok _,⟨_,rfl⟩,h⟩
def Gl(X:Cx)(x:Str):Prop:=X.env.kindOf x=some .globalImplicit
theorem ld_glob{E:Value->Shared->Prop}{pins:List (Addr×Obj)}{s:Shared}{σ:St}{H:Hp}{x:Str}{u:Value}{pos:Pos}{Q:Value->Shared->Prop}(I:Inv X pins σ H s)(hg:Gl X x)(hm:X.mg x=some u)(h:Q u s)
  (hd:(x==("__debug__" : Str))=false:=by decide):wpAny (model X.prog X.w) X.A (eval (.Name x pos) X.env) Q E s:=
 Calls.Name_function_global I.ok.kind hg (Calls.loadGlobal_global (by rw[I.ok.glob];exact I.mod.glob.keeps I.bk) hm h) hd
theorem ld_blt{E:Value->Shared->Prop}{pins:List (Addr×Obj)}{s:Shared}{σ:St}{H:Hp}{x:Str}{u:Value}{pos:Pos}{Q:Value->Shared->Prop}(I:Inv X pins σ H s)(hg:Gl X x)(hm:X.mg x=none)(hv:bootBuiltins x=some u)(h:Q u s)
  (hn:x≠"__name__":=by decide) (hd:(x==("__debug__" : Str))=false:=by decide):wpAny (model X.prog X.w) X.A (eval (.Name x pos) X.env) Q E s:=by
 obtain⟨mb,h1,h2⟩:=I.mod.blt
 exact Calls.Name_function_global I.ok.kind hg (Calls.loadGlobal_builtin (by rw[I.ok.glob];exact I.mod.glob.keeps I.bk) hm (by rw[I.ok.blt];exact h1.keeps I.bk) ((h2 x hn).trans hv) h) hd
theorem pe_glob{x:Str}{v:V}{u:Value}{pos:Pos}(hg:Gl X x)(hm:X.mg x=some u)(r:RelV v u)(hd:(x==("__debug__" : Str))=false:=by decide):PE X (.Name x pos) (tC v):=
 fun _ _ _ H _ I h=>ld_glob I hg hm ⟨v,H,I,r,h⟩ hd
theorem pe_bltn{x:Str}{v:V}{u:Value}{pos:Pos}(hg:Gl X x)(hm:X.mg x=none)(hv:bootBuiltins x=some u)(r:RelV v u)(hn:x≠"__name__":=by decide)(hd:(x==("__debug__" : Str))=false:=by decide):PE X (.Name x pos) (tC v):=
 fun _ _ _ H _ I h=>ld_blt I hg hm hv ⟨v,H,I,r,h⟩ hn hd
variable{a b:Expr}{ta tb:TE}{pos:Pos}
def PC(X:Cx)(op:CmpOp)(a b:Expr)(t:TE):Prop:=
 ∀(pins:List (Addr×Obj)) (s:Shared) (σ:St) (H:Hp) (Q:VK),Inv X pins σ H s->t σ H Q->
  wpAny (model X.prog X.w) X.A (eval a X.env) (fun v s₁=>wpAny (model X.prog X.w) X.A (eval b X.env) (fun u s₂=>wpAny (model X.prog X.w) X.A (compareOp op v u) (EP X pins σ Q) X.xe s₂) X.xe s₁) X.xe s
def tB(t:TE):TT:=fun σ H Q=>t σ H fun x H1=>∃c,x=.bl c/\Q c H1
theorem pt_cmp{op:CmpOp}{t:TE}(h:PC X op a b t)(h1:behindInMarks op b=false:=by first|exact nobehind _ (by decide) (by decide)|rfl):PT X (.Compare a [op] [b] pos) (tB t):=by
 intro pins s σ H Q I hw
 refine wpAny_isTrue_Compare1 (thn (h pins s σ H _ I hw) fun v s1 h1=>thn h1 fun u s2 h2=>thn h2 fun c s3 ⟨x,H1,I1,r1,q1⟩=>?_) h1
 obtain⟨d,rfl,q⟩:=q1
 cases r1
 exact wpAny_truthy_bool ⟨H1,I1,q⟩
theorem pt_val{e:Expr}{t:TE}(h:PE X e t)(he:∀whole,isTrue e X.env whole=(do let v <-whole;standAt e.pos;holding [v] (truthy v)):=by intro _;rfl):PT X e (tB t):=by
 intro pins s σ H Q I hw
 refine isTrue_plain (thn (h pins s σ H _ I hw) fun v s1 ⟨x,H1,I1,r1,q1⟩=>?_) (he _)
 obtain⟨d,rfl,q⟩:=q1
 cases r1
 exact wpAny_truthy_bool ⟨H1,I1,q⟩
variable{tA tB':TT}{rest:List Expr}
def tAnd(t u:TT):TT:=fun σ H Q=>t σ H fun c H1=>if c=true then u σ H1 Q else Q false H1
def tNot(t:TT):TT:=fun σ H Q=>t σ H fun c H1=>Q (!c) H1
theorem pw_and1(ha:PT X a tA):PW X (.BoolOp .And [a] pos) tA:=by
 intro wh pins s σ H Q I h
 refine isTrue_and (thn (ha pins s σ H Q I h) fun c s1 e=>?_)
 cases c with
 | true=>exact isTrue_and_nil e
 | false=>exact e
theorem pw_and(ha:PT X a tA)(hb:PW X (.BoolOp .And (b::rest) pos) tB'):PW X (.BoolOp .And (a::b::rest) pos) (tAnd tA tB'):=by
 intro wh pins s σ H Q I h
 refine isTrue_and (thn (ha pins s σ H _ I h) fun c s1 ⟨H1,I1,q1⟩=>?_)
 cases c with
 | true=>exact hb wh pins s1 σ H1 Q I1 q1
 | false=>exact⟨H1,I1,q1⟩
theorem pt_not(ha:PT X a tA):PT X (.UnaryOp .Not a pos) (tNot tA):=by
 intro pins s σ H Q I h
 exact isTrue_not (ha pins s σ H (fun c H1=>Q (!c) H1) I h)
def tAndV(ta tb:TE):TE:=fun σ H Q=>ta σ H fun x H1=>∃c,x=.bl c/\if c=true then tb σ H1 Q else Q (.bl false) H1
theorem pe_one{op}{t:TE}(h:PE X a t):PE X (.BoolOp op [a] pos) t:=fun pins s σ H Q I hw=>BoolOp_one (h pins s σ H Q I hw)
theorem pe_and(ha:PE X a ta)(hb:PE X (.BoolOp .And (b::rest) pos) tb):PE X (.BoolOp .And (a::b::rest) pos) (tAndV ta tb):=by
 intro pins s σ H Q I h
 refine BoolOp_and (thn (ha pins s σ H _ I h) fun v s1 ⟨x,H1,I1,r1,q1⟩=>?_)
 obtain⟨c,rfl,q1⟩:=q1
 cases r1
 refine wpAny_truthy_bool ?_
 cases c with
 | true=>exact hb pins s1 σ H1 Q I1 q1
 | false=>exact⟨.bl false,H1,I1,rfl,q1⟩
def tIf(t:TT)(ta tb:TE):TE:=fun σ H Q=>t σ H fun c H1=>if c=true then ta σ H1 Q else tb σ H1 Q
theorem pe_ifExp{c:Expr}(hc:PT X c tA)(ha:PE X a ta)(hb:PE X b tb):PE X (.IfExp c a b pos) (tIf tA ta tb):=by
 intro pins s σ H Q I h
 refine wpAny_IfExp (thn (hc pins s σ H _ I h) fun d s1 ⟨H1,I1,q1⟩=>?_)
 cases d with
 | true=>exact ha pins s1 σ H1 Q I1 q1
 | false=>exact hb pins s1 σ H1 Q I1 q1
end
end L2
namespace L2
open PySem PySem.Spec PyProof.Rows
def SqL(K:PySem.W.Frag)(H:Hp)(a:Addr)(xs:List V):Prop:=
 Rd H a (.lst xs)\/
  ∃(o:Obj) (its:Array Value) (n:Nat),K.lookup a=some o/\o.cls=.type "list"/\o.dict=none/\o.data=.seq its n/\its.size<=sizeLine/\Vals xs its.toList
def SqT(K:PySem.W.Frag)(H:Hp)(a:Addr)(xs:List V):Prop:=
 Rd H a (.tup xs)\/
  ∃(o:Obj) (its:Array Value) (n:Nat),K.lookup a=some o/\o.cls=.type "tuple"/\o.data=.seq its n/\its.size<=sizeLine/\Vals xs its.toList
def absV:Value->Option V
 | .none=>some .non
 | .bool b=>some (.bl b)
 | .int i _=>some (.int i)
 | .str x _=>some (.str x)
 | .bytes b _=>some (.byt b)
 | .float b _=>some (.flt b)
 | .ref a=>some (.ref a)
 | .type n=>some (.ty n)
 | _=>none
theorem RelV.abs{x:V}{u:Value}(r:RelV x u):absV u=some x:=by
 cases x with
 | non=>cases r;rfl
 | bl _=>cases r;rfl
 | int _=>obtain⟨t,rfl⟩:=r;rfl
 | str _=>obtain⟨t,rfl⟩:=r;rfl
 | byt _=>obtain⟨t,rfl⟩:=r;rfl
 | flt _=>obtain⟨t,rfl⟩:=r;rfl
 | ref _=>cases r;rfl
 | ty _=>cases r;rfl
theorem RelV.inj{x y:V}{u:Value}(r:RelV x u)(q:RelV y u):x=y:=Option.some.inj (r.abs.symm.trans q.abs)
theorem Vals.inj:∀{xs ys:List V} {us:List Value},Vals xs us->Vals ys us->xs=ys
 | _,_,_,.nil,.nil=>rfl
 | _,_,_,.cons r t,.cons r' t'=>by rw[r.inj r',Vals.inj t t']
section
variable{X:Cx}{pins:List (Addr×Obj)}{σ:St}{H:Hp}{s:Shared}{a:Addr}{xs ys:List V}
theorem SqL.of{K:PySem.W.Frag}(h:H a=some (.lst xs)):SqL K H a xs:=.inl (.inl h)
theorem SqT.of{K:PySem.W.Frag}(h:H a=some (.tup xs)):SqT K H a xs:=.inl (.inl h)
theorem Inv.list(I:Inv X pins σ H s)(h:SqL X.K H a xs):∃its:List Value,Vals xs its/\PlainL s.heap a its.toArray/\xs.length<=sizeLine:=by
 rcases h with h|⟨o,its,n,hk,hc,hd,hs,hz,r⟩
 .obtain⟨z,its,n,r,e⟩:=h.ok I.hok
  exact⟨its,r,⟨_,n,e,rfl,rfl,rfl⟩,z⟩
 .refine⟨its.toList,r,⟨o,n,I.kIn a o hk,hc,hd,by simpa using hs⟩,?_⟩
  have e:=r.length
  simp only[Array.length_toList]at e
  omega
theorem Inv.tuple(I:Inv X pins σ H s)(h:SqT X.K H a xs):∃its:List Value,Vals xs its/\IsTup s.heap a its.toArray/\xs.length<=sizeLine:=by
 rcases h with h|⟨o,its,n,hk,hc,hs,hz,r⟩
 .obtain⟨z,its,r,p⟩:=h.ok I.hok
  exact⟨its,r,p,z⟩
 .refine⟨its.toList,r,⟨o,I.kIn a o hk,hc,n,by simpa using hs⟩,?_⟩
  have e:=r.length
  simp only[Array.length_toList]at e
  omega
theorem Inv.list_inj(I:Inv X pins σ H s)(h:SqL X.K H a xs)(h':SqL X.K H a ys):xs=ys:=by
 obtain⟨its,r,⟨o,n,e,_,_,d⟩,_⟩:=I.list h
 obtain⟨its',r',⟨o',n',e',_,_,d'⟩,_⟩:=I.list h'
 rw[e]at e';cases e'
 rw[d]at d'
 injection d' with d1 _
 have:its=its':=by simpa using congrArg Array.toList d1
 subst this
 exact r.inj r'
theorem Inv.tuple_inj(I:Inv X pins σ H s)(h:SqT X.K H a xs)(h':SqT X.K H a ys):xs=ys:=by
 obtain⟨its,r,⟨o,e,_,n,d⟩,_⟩:=I.tuple h
 obtain⟨its',r',⟨o',e',_,n',d'⟩,_⟩:=I.tuple h'
 rw[e]at e';cases e'
 rw[d]at d'
 injection d' with d1 _
 have:its=its':=by simpa using congrArg Array.toList d1
 subst this
 exact r.inj r'
end
abbrev Cx.wish(X:Cx)(E:Value->Shared->Prop):Cx:={X with xe:=E}
abbrev Cx.nox(X:Cx):Cx:=X.wish fun _ _=>False
theorem Cx.Ok.wish{X:Cx}(ok:X.Ok)(E:Value->Shared->Prop):(X.wish E).Ok:=
 ⟨ok.mod,ok.kind,ok.glob,ok.blt,ok.above,ok.inj,ok.has,ok.cab,ok.hd,ok.frames,ok.stk,ok.exf,ok.bs,ok.bsz,ok.noex,ok.exfs,ok.funs,ok.frf⟩
theorem Cx.Ok.unwish{X:Cx}{E:Value->Shared->Prop}(ok:(X.wish E).Ok):X.Ok:=
 ⟨ok.mod,ok.kind,ok.glob,ok.blt,ok.above,ok.inj,ok.has,ok.cab,ok.hd,ok.frames,ok.stk,ok.exf,ok.bs,ok.bsz,ok.noex,ok.exfs,ok.funs,ok.frf⟩
section
variable{X:Cx}{pins:List (Addr×Obj)}{σ:St}{H:Hp}{s:Shared}{E:Value->Shared->Prop}
theorem Inv.wish(I:Inv X pins σ H s)(E:Value->Shared->Prop):Inv (X.wish E) pins σ H s:=⟨I.ok.wish E,I.os,I.bare,I.base,I.loc,I.cell,I.free,I.freeC,I.pin,I.hok,I.len⟩
theorem Inv.unwish(I:Inv (X.wish E) pins σ H s):Inv X pins σ H s:=⟨I.ok.unwish,I.os,I.bare,I.base,I.loc,I.cell,I.free,I.freeC,I.pin,I.hok,I.len⟩
theorem SP.unwish{D:Ends}{f:Flow}{s':Shared}(h:SP (X.wish E) pins D f s'):SP X pins D f s':=by
 cases f with
 | next=>obtain⟨σ',H',I,q⟩:=h;exact⟨σ',H',I.unwish,q⟩
 | brk=>obtain⟨σ',H',I,q⟩:=h;exact⟨σ',H',I.unwish,q⟩
 | cont=>obtain⟨σ',H',I,q⟩:=h;exact⟨σ',H',I.unwish,q⟩
 | ret u=>obtain⟨v,σ',H',I,r,q⟩:=h;exact⟨v,σ',H',I.unwish,r,q⟩
theorem PSs.nox{st:List Stmt}{t:TS}(h:PSs X.nox st t):PSs X st t:=fun pins s σ H D I hw=>
 wpAny_mono (h pins s σ H D (I.wish _) hw) (fun _ _ q=>q.unwish) fun _ _ z=>False.elim z
end
section
variable{X:Cx}{st:Stmt}{rest:List Stmt}{t u:TS}{e:Expr}{te:TE}{pos:Pos}
def tNext:TS:=fun D σ H=>D.nx σ H
def tSeq(t u:TS):TS:=fun D σ H=>t {D with nx:=u D} σ H
theorem pss_nil:PSs X [] tNext:=fun _ _ σ H _ I h=>wpAny_execs_nil ⟨σ,H,I,h⟩
theorem pss_cons(h1:PS X st t)(h2:PSs X rest u):PSs X (st::rest) (tSeq t u):=by
 intro pins s σ H D I h
 refine wpAny_execs_cons (thn (h1 pins s σ H {D with nx:=u D} I h) fun f s1 q=>?_)
 cases f with
 | next=>
  obtain⟨σ',H',I',q⟩:=q
  exact h2 pins s1 σ' H' D I' q
 | ret v=>exact q
 | brk=>exact q
 | cont=>exact q
theorem pss_one(h1:PS X st t):PSs X [st] t:=by
 intro pins s σ H D I h
 refine wpAny_execs_cons (thn (h1 pins s σ H D I h) fun f s1 q=>?_)
 cases f with
 | next=>exact wpAny_execs_nil q
 | ret v=>exact q
 | brk=>exact q
 | cont=>exact q
theorem Inv.quiet{pins:List (Addr×Obj)}{σ:St}{H:Hp}{s:Shared}(I:Inv X pins σ H s):interactive X.env=false:=by simp[interactive,I.ok.kind]
def tDrop(te:TE):TS:=fun D σ H=>te σ H fun _ H1=>D.nx σ H1
theorem ps_expr(he:PE X e te)(hs:swapsWith e none pos.line X.env=pure false:=by rfl):PS X (.Expr e pos) (tDrop te):=by
 intro pins s σ H D I h
 exact wpAny_Expr_any (thn (he pins s σ H _ I h) fun v s1 ⟨x,H1,I1,r1,q1⟩=>⟨σ,H1,I1,q1⟩) I.quiet hs
def tRet(te:TE):TS:=fun D σ H=>te σ H D.rt
theorem ps_ret(he:PE X e te):PS X (.Return (some e) pos) (tRet te):=by
 intro pins s σ H D I h
 exact wpAny_Return_some (thn (he pins s σ H _ I h) fun v s1 ⟨x,H1,I1,r1,q1⟩=>⟨x,σ,H1,I1,r1,q1⟩)
def tIfS(c:TT)(t u:TS):TS:=fun D σ H=>c σ H fun b H1=>if b=true then t D σ H1 else u D σ H1
theorem ps_if{c:Expr}{a b:List Stmt}{tc:TT}(hc:PT X c tc)(ha:PSs X a t)(hb:PSs X b u):PS X (.If c a b pos) (tIfS tc t u):=by
 intro pins s σ H D I h
 refine wpAny_If (thn (hc pins s σ H _ I h) fun d s1 ⟨H1,I1,q1⟩=>?_)
 cases d with
 | true=>exact ha pins s1 σ H1 D I1 q1
 | false=>exact hb pins s1 σ H1 D I1 q1
end
abbrev TG:=V->St->Hp->(St->Hp->Prop)->Prop
abbrev TGs:=List V->St->Hp->(St->Hp->Prop)->Prop
def PG(X:Cx)(target:Expr)(t:TG):Prop:=
 ∀(pins:List (Addr×Obj)) (s:Shared) (σ:St) (H:Hp) (v:V) (u:Value) (Q:St->Hp->Prop),Inv X pins σ H s->RelV v u->t v σ H Q->
  wpAny (model X.prog X.w) X.A (assign target X.env u) (fun _ s'=>∃σ' H',Inv X pins σ' H' s'/\Q σ' H') X.xe s
def PGs(X:Cx)(ts:List Expr)(t:TGs):Prop:=
 ∀(pins:List (Addr×Obj)) (s:Shared) (σ:St) (H:Hp) (vs:List V) (us:List Value) (Q:St->Hp->Prop),Inv X pins σ H s->Vals vs us->t vs σ H Q->
  wpAny (model X.prog X.w) X.A (assignInOrder ((assignEach ts X.env).map (·.2)) us) (fun _ s'=>∃σ' H',Inv X pins σ' H' s'/\Q σ' H') X.xe s
abbrev TSet:=V->V->V->Hp->(Hp->Prop)->Prop
def PSet(X:Cx)(t:TSet):Prop:=
 ∀(pins:List (Addr×Obj)) (s:Shared) (σ:St) (H:Hp) (o i v:V) (ov iv u:Value) (Q:Hp->Prop),Inv X pins σ H s->RelV o ov->RelV i iv->RelV v u->t o i v H Q->
  wpAny (model X.prog X.w) X.A (setItem ov iv u) (fun _ s'=>∃H',Inv X pins σ H' s'/\Q H') X.xe s
abbrev TIp:=V->V->Hp->VK->Prop
def PIp(X:Cx)(op:Operator)(t:TIp):Prop:=
 ∀(pins:List (Addr×Obj)) (s:Shared) (σ:St) (H:Hp) (x y:V) (v u:Value) (Q:VK),Inv X pins σ H s->RelV x v->RelV y u->t x y H Q->
  wpAny (model X.prog X.w) X.A (inplaceOp op v u) (EP X pins σ Q) X.xe s
section
variable{X:Cx}{pos:Pos}
def gName(i:Nat):TG:=fun v σ H Q=>Q (σ.set i (some v)) H
theorem pg_name{i:Nat}{x:Str}(hN:X.N.Nodup)(hi:X.N[i]?=some x)(hx:Loc X.env.scope x)(hf:X.fn x=true\/X.env.scope.names.lookup x=some .local:=by first|exact .inl rfl|exact .inr rfl|assumption):PG X (.Name x pos) (gName i):=by
 intro pins s σ H v u Q I r h
 exact wpAny_assign_Name (store_ok I hN hi hx r (fun s' I'=>⟨_,H,I',h⟩) hf)
def gNil:TGs:=fun vs σ H Q=>vs=[]/\Q σ H
def gCons(t:TG)(u:TGs):TGs:=fun vs σ H Q=>∃v r,vs=v::r/\t v σ H fun σ' H'=>u r σ' H' Q
theorem pgs_nil:PGs X [] gNil:=by
 intro pins s σ H vs us Q I r h
 obtain⟨e,h⟩:=h
 subst e
 cases r
 exact assignInOrder_nil ⟨σ,H,I,h⟩
theorem pgs_cons{e:Expr}{es:List Expr}{t:TG}{u:TGs}(h1:PG X e t)(h2:PGs X es u)
  (hs:(assignEach (e::es) X.env).map (·.2)=assign e X.env::(assignEach es X.env).map (·.2):=by rfl):PGs X (e::es) (gCons t u):=by
 intro pins s σ H vs us Q I r h
 obtain⟨v,vr,e1,h⟩:=h
 subst e1
 cases r with
 | cons r rr=>
  rw[hs]
  refine assignInOrder_cons (thn (h1 pins s σ H _ _ _ I r h) fun _ s1 ⟨σ1,H1,I1,q1⟩=>?_)
  exact h2 pins s1 σ1 H1 _ _ Q I1 rr q1
def gTup(K:PySem.W.Frag)(n:Nat)(t:TGs):TG:=fun v σ H Q=>∃a xs,v=.ref a/\SqT K H a xs/\xs.length=n/\t xs σ H Q
theorem pg_tup{es:List Expr}{k:Nat}{t:TGs}{n:Nat}(hc:X.calm=true)(h:PGs X es t)
  (hn:(assignEach es X.env).length=n:=by rfl) (hst:(assignEach es X.env).findIdx? (·.1)=none:=by rfl):PG X (.Tuple es k pos) (gTup X.K n t):=by
 intro pins s σ H v u Q I r hw
 obtain⟨a,xs,e1,hq,hl,hw⟩:=hw
 subst e1
 cases r
 obtain⟨its,rv,ht,hz⟩:=I.tuple hq
 refine assign_Tuple_tuple (I.ok.hd hc) ht (by simp[hn,<-hl,rv.length]) hst fun h' hx=>?_
 have I1:Inv X pins σ H {s with heap:=h'}:=I.kept (t':=s.toks) fun b o e=>hx b o (Nat.ne_of_lt (Heap.lt_size e)) e
 exact h pins _ σ H xs _ Q I1 (by simpa using rv) hw
def gSub(to ti:TE)(t:TSet):TG:=fun v σ H Q=>to σ H fun o H1=>ti σ H1 fun i H2=>t o i v H2 fun H3=>Q σ H3
theorem pg_sub{o i:Expr}{to ti:TE}{t:TSet}(ho:PE X o to)(hi:PE X i ti)(hs:PSet X t)
  (ha:∀v,assign (.Subscript o i pos) X.env v=(do
   let ov <-holding [v] (eval o X.env)
   let iv <-holding [v,ov] (eval i X.env)
   standAt pos
   holding [v,ov,iv] (setItem ov iv v)
   release [v,ov,iv] []):=by intro _;rfl):PG X (.Subscript o i pos) (gSub to ti t):=by
 intro pins s σ H v u Q I r h
 rw[ha]
 refine wpAny_bind (wpAny_holding (thn (ho pins s σ H _ I h) fun ov s1 ⟨x,H1,I1,r1,q1⟩=>?_))
 refine wpAny_bind (wpAny_holding (thn (hi pins s1 σ H1 _ I1 q1) fun iv s2 ⟨y,H2,I2,r2,q2⟩=>?_))
 refine wpAny_bind (wpAny_standAt (wpAny_bind (wpAny_holding (thn (hs pins s2 σ H2 x y v ov iv u _ I2 r1 r2 r q2) fun _ s3 ⟨H3,I3,q3⟩=>?_))))
 exact wpAny_release ⟨σ,H3,I3,q3⟩
def tAsg(te:TE)(g:TG):TS:=fun D σ H=>te σ H fun x H1=>g x σ H1 D.nx
theorem ps_asg{tg e:Expr}{te:TE}{g:TG}(he:PE X e te)(hg:PG X tg g)(hs:swapsWithSole [tg] e pos.line X.env=pure false:=by rfl)(hw:swappedStores [tg] e X.env=pure none:=by rfl)
  (h1:(assignEach [tg] X.env).map (·.2)=[assign tg X.env]:=by rfl):PS X (.Assign [tg] e pos) (tAsg te g):=by
 intro pins s σ H D I h
 refine wpAny_Assign_stores (thn (he pins s σ H _ I h) fun v s1 ⟨x,H1,I1,r1,q1⟩=>?_) hs hw
 rw[h1]
 exact thn (hg pins s1 σ H1 x v _ I1 r1 q1) fun _ s2 q=>q
theorem ps_set{i:Nat}{x:Str}{e:Expr}{te:TE}{pos':Pos}(hN:X.N.Nodup)(hi:X.N[i]?=some x)(hx:Loc X.env.scope x)(he:PE X e te)(hs:swapsWith e (some (.Name x pos')) pos.line X.env=pure false:=by rfl)(hf:X.fn x=true\/X.env.scope.names.lookup x=some .local:=by first|exact .inl rfl|exact .inr rfl|assumption) :
  PS X (.Assign [.Name x pos'] e pos) (tAsg te (gName i)):=by
 intro pins s σ H D I h
 refine wpAny_Assign_Name (thn (he pins s σ H _ I h) fun v s1 ⟨y,H1,I1,r1,q1⟩=>?_) hs
 exact store_ok I1 hN hi hx r1 (fun s2 I2=>⟨_,H1,I2,q1⟩) hf
def tAug(i:Nat)(te:TE)(ti:TIp):TS:=fun D σ H=>∃x,σ[i]?=some (some x)/\te σ H fun y H1=>ti x y H1 fun z H2=>D.nx (σ.set i (some z)) H2
theorem ps_aug{i:Nat}{x:Str}{e:Expr}{te:TE}{op:Operator}{ti:TIp}{pos':Pos}(hN:X.N.Nodup)(hi:X.N[i]?=some x)(hx:Loc X.env.scope x)(he:PE X e te)(ho:PIp X op ti)(hf:X.fn x=true\/X.env.scope.names.lookup x=some .local:=by first|exact .inl rfl|exact .inr rfl|assumption) :
  PS X (.AugAssign (.Name x pos') op e pos) (tAug i te ti):=by
 intro pins s σ H D I h
 obtain⟨v,e1,h⟩:=h
 obtain⟨m,hn,hl⟩:=I.loc
 have vis:Vis X.env.scope x:=by rcases hx with k|k;exact .inl k;exact .inr (.inl k)
 obtain⟨u,r,l⟩:=hl i x v hi e1 vis
 refine wpAny_AugAssign_Name ?_
 have go:wpAny (model X.prog X.w) X.A (eval e X.env) (fun w s₂=>wpAny (model X.prog X.w) X.A (inplaceOp op u w) (fun r s₃=>wpAny (model X.prog X.w) X.A (storeName X.env x r) (fun _=>SP X pins D .next) X.xe s₃) X.xe s₂) X.xe s:=by
  refine thn (he pins s σ H _ I h) fun w s1 ⟨y,H1,I1,r1,q1⟩=>?_
  refine thn (ho pins s1 σ H1 v y u w _ I1 r r1 q1) fun z s2 ⟨zv,H2,I2,r2,q2⟩=>?_
  exact store_ok I2 hN hi hx r2 (fun s3 I3=>⟨_,H2,I3,q2⟩) hf
 rcases l with ⟨hk,hm⟩|⟨hk,c,hc,hcell⟩
 .exact wpAny_loadName_local I.ok.kind hk hn hm go
 .rcases hk with hk|hk
  .exact wpAny_loadName_cell I.ok.kind hk hc hcell go
  .rcases hx with k|k
   .have:X.env.scope.names.lookup x=some .free:=hk
    rw[k]at this;cases this
   .have:X.env.scope.names.lookup x=some .free:=hk
    rw[k]at this;cases this
end
structure It where
 go:Nat->Hp->Prop
 yld:Nat->Hp->V->Hp->Prop
 stop:Nat->Hp->Prop
def FpOk(X:Cx)(pins:List (Addr×Obj))(H:Hp)(b:Addr):Prop:=
 H b=none/\b≠X.env.locals/\b∉X.fs/\(b∈X.ex\/X.s₀.heap.objs.size<=b)/\(∀x c,X.env.cells.lookup x=some c->c≠b)/\∀p∈X.pn++pins,p.1≠b
theorem Inv.fpOk{X:Cx}{pins:List (Addr×Obj)}{σ:St}{H H':Hp}{s:Shared}{b:Addr}(I:Inv X pins σ H s)(hb:s.heap.objs.size<=b)(hn:H' b=none):FpOk X pins H' b:=by
 refine⟨hn,Nat.ne_of_gt (Nat.lt_of_lt_of_le I.lt hb),I.nofs hb,.inr (Nat.le_trans I.sz hb),fun x c e z=>?_,fun p hp z=>?_⟩
 .obtain⟨v,q⟩:=I.cell x c e
  exact absurd (Nat.lt_of_lt_of_le q.lt (by rw[z];exact hb)) (Nat.lt_irrefl _)
 .exact absurd (Nat.lt_of_lt_of_le (Heap.lt_size (I.pin p hp).1) (by rw[z];exact hb)) (Nat.lt_irrefl _)
structure Turn(P:Program)(w:World)(K:PySem.W.Frag)(tg:Expr)(J:It)(fp:List Addr)(it:Addr)(tn:Nat->Heap->Prop):Prop where
 mem:it∈fp
 obj:∀i h,tn i h->∀b∈fp,∃o,h.get? b=some o/\∀v,o.data≠.cell v
 keep:∀i h h',tn i h->(∀b∈fp,∀o,h.get? b=some o->h'.get? b=some o)->tn i h'
 item:∀(X:Cx),X.prog=P->X.w=w->X.K=K->X.calm=true->∀(i:Nat) (pins:List (Addr×Obj)) (s:Shared) (σ:St) (H:Hp) (E:Value->Shared->Prop),Inv X pins σ H s->(∀b∈fp,FpOk X pins H b)->tn i s.heap->J.go i H->
  wpAny (model P w) X.A (pyNext (.ref it)) (fun r s1=>∃u,r=some u/\
   wpAny (model P w) X.A (letOwnedTupleGo tg (.ref it) u) (fun _ s2=>∃x H',Inv X pins σ H' s2/\RelV x u/\J.yld i H x H'/\tn (i+1) s2.heap/\∀b∈fp,H' b=none) E s1) E s
 done:∀(X:Cx),X.prog=P->X.w=w->X.K=K->X.calm=true->∀(i:Nat) (pins:List (Addr×Obj)) (s:Shared) (σ:St) (H:Hp) (E:Value->Shared->Prop),Inv X pins σ H s->(∀b∈fp,FpOk X pins H b)->tn i s.heap->J.stop i H->
  wpAny (model P w) X.A (pyNext (.ref it)) (fun r s1=>r=none/\Inv X pins σ H s1) E s
 self:∀(A:Around) (i:Nat) (s:Shared) (Q:Value->Shared->Prop) (E:Value->Shared->Prop),tn i s.heap->Q (.ref it) s->wpAny (model P w) A (pyIter (.ref it)) Q E s
abbrev TI:=St->Hp->(It->Hp->Prop)->Prop
def PIE(X:Cx)(pins:List (Addr×Obj))(σ:St)(tg:Expr)(R:It->Hp->Prop)(itv:Value)(s2:Shared):Prop:=
 ∃(it:Addr) (fp:List Addr) (tn:Nat->Heap->Prop) (J:It) (H':Hp),itv=.ref it/\Inv X pins σ H' s2/\Turn X.prog X.w X.K tg J fp it tn/\tn 0 s2.heap/\(∀b∈fp,FpOk X pins H' b)/\R J H'
def PI(X:Cx)(tg iter:Expr)(wi:TI):Prop:=
 ∀(pins:List (Addr×Obj)) (s:Shared) (σ:St) (H:Hp) (R:It->Hp->Prop),Inv X pins σ H s->wi σ H R->
  wpAny (model X.prog X.w) X.A (eval iter X.env) (fun v s1=>wpAny (model X.prog X.w) X.A (pyIter v) (PIE X pins σ tg R) X.xe s1) X.xe s
theorem go_of{M:Model}{A:Around}{E:Value->Shared->Prop}{s:Shared}{tg:Expr}{it:Addr}{u:Value}{o:Obj}{n:String}{vs:Array Value}{Q:Unit->Shared->Prop}(ho:s.heap.get? it=some o)(hc:o.cls=.type n)(hd:o.data=.fields vs)
  (hn:["enumerate","zip","dict_itemiterator","dict_reverseitemiterator","odict_iterator","itertools.zip_longest","itertools.pairwise"].contains n=false) (hQ:Q () s):wpAny M A (letOwnedTupleGo tg (.ref it) u) Q E s:=by
 unfold letOwnedTupleGo
 cases tg<;>first
  | exact wpAny_pure hQ
  | (cases u<;>first
    | exact wpAny_pure hQ
    | (refine wpAny_bind (wpAny_load ho ?_)
       rw[hc,hd]
       show wpAny M A (if (["enumerate","zip","dict_itemiterator","dict_reverseitemiterator","odict_iterator","itertools.zip_longest","itertools.pairwise"].contains n&&vs[0]?==some (rawInt _))=true then _ else _) Q E s
       rw[if_neg (by intro h;rw[hn,Bool.false_and]at h;cases h)]
       exact wpAny_pure hQ))
def Itl(K:PySem.W.Frag)(a:Addr):It:=
 ⟨fun i H=>∃xs x,SqL K H a xs/\xs[i]?=some x,fun i H x H'=>H'=H/\∀xs,SqL K H a xs->xs[i]?=some x,fun i H=>∃xs,SqL K H a xs/\xs.length<=i⟩
def Itt(K:PySem.W.Frag)(a:Addr):It:=
 ⟨fun i H=>∃xs x,SqT K H a xs/\xs[i]?=some x,fun i H x H'=>H'=H/\∀xs,SqT K H a xs->xs[i]?=some x,fun i H=>∃xs,SqT K H a xs/\xs.length<=i⟩
def Itr(lo:Int)(n:Nat):It:=⟨fun i _=>i<n,fun i H x H'=>H'=H/\x=.int (lo+i),fun i _=>n<=i⟩
theorem turn_list{P:Program}{w:World}{K:PySem.W.Frag}{tg:Expr}(a it:Addr):Turn P w K tg (Itl K a) [it] it (fun i h=>h.IsListIter it a i)where
 mem:=by simp
 obj:=fun i h st b hb=>by
  have e:b=it:=by simpa using hb
  subst e
  obtain⟨o,e,c,d⟩:=st
  exact⟨o,e,fun v z=>by rw[d]at z;cases z⟩
 keep:=fun i h h' st k=>st.at fun o e=>k it (by simp) o e
 item:=by
  intro X hP hw hK hc i pins s σ H E I hf st hg
  subst hP hw hK
  obtain⟨xs,x,hq,hx⟩:=hg
  obtain⟨its,rv,p,hz⟩:=I.list hq
  obtain⟨u,hu,ru⟩:=rv.get hx
  obtain⟨f0,f1,f2,f3,f4,f5⟩:=hf it (by simp)
  refine wpAny_pyNext_list_item st p.isList (x:=u) (by simpa using hu) fun h' st' sb=>?_
  have I1:Inv X pins σ H {s with heap:=h'}:=I.turned (t':=s.toks) (fun b o hb e=>(sb.2 b hb).trans e) f0 f1 f3 f4 f5
  obtain⟨o,e,c,d⟩:=id st'
  exact⟨u,rfl,go_of (s:={s with heap:=h'}) e c d (by decide) ⟨x,H,I1,ru,⟨rfl,fun ys hy=>by rw[I.list_inj hy hq];exact hx⟩,st',fun b hb=>(hf b hb).1⟩⟩
 done:=by
  intro X hP hw hK hc i pins s σ H E I hf st hg
  subst hP hw hK
  obtain⟨xs,hq,hx⟩:=hg
  obtain⟨its,rv,p,hz⟩:=I.list hq
  obtain⟨f0,f1,f2,f3,f4,f5⟩:=hf it (by simp)
  have hl:=rv.length
  exact wpAny_pyNext_list_end (I.ok.hd hc) st p.isList (by simp;omega) fun h' eb=>⟨rfl,I.turned (t':=s.toks) (fun b o hb e=>eb b o hb e) f0 f1 f3 f4 f5⟩
 self:=fun _ _ _ _ _ st h=>wpAny_pyIter_listiter st h
theorem turn_tuple{P:Program}{w:World}{K:PySem.W.Frag}{tg:Expr}(a it:Addr):Turn P w K tg (Itt K a) [it] it (fun i h=>h.IsTupleIter it a i)where
 mem:=by simp
 obj:=fun i h st b hb=>by
  have e:b=it:=by simpa using hb
  subst e
  obtain⟨o,e,c,d⟩:=st
  exact⟨o,e,fun v z=>by rw[d]at z;cases z⟩
 keep:=fun i h h' st k=>st.at fun o e=>k it (by simp) o e
 item:=by
  intro X hP hw hK hc i pins s σ H E I hf st hg
  subst hP hw hK
  obtain⟨xs,x,hq,hx⟩:=hg
  obtain⟨its,rv,p,hz⟩:=I.tuple hq
  obtain⟨u,hu,ru⟩:=rv.get hx
  obtain⟨f0,f1,f2,f3,f4,f5⟩:=hf it (by simp)
  refine wpAny_pyNext_tuple_item st (show s.heap.IsTuple a its.toArray from p) (x:=u) (by simpa using hu) fun h' st' sb=>?_
  have I1:Inv X pins σ H {s with heap:=h'}:=I.turned (t':=s.toks) (fun b o hb e=>(sb.2 b hb).trans e) f0 f1 f3 f4 f5
  obtain⟨o,e,c,d⟩:=id st'
  exact⟨u,rfl,go_of (s:={s with heap:=h'}) e c d (by decide) ⟨x,H,I1,ru,⟨rfl,fun ys hy=>by rw[I.tuple_inj hy hq];exact hx⟩,st',fun b hb=>(hf b hb).1⟩⟩
 done:=by
  intro X hP hw hK hc i pins s σ H E I hf st hg
  subst hP hw hK
  obtain⟨xs,hq,hx⟩:=hg
  obtain⟨its,rv,p,hz⟩:=I.tuple hq
  obtain⟨f0,f1,f2,f3,f4,f5⟩:=hf it (by simp)
  have hl:=rv.length
  exact wpAny_pyNext_tuple_end (I.ok.hd hc) st (show s.heap.IsTuple a its.toArray from p) (by simp;omega) fun h' eb=>⟨rfl,I.turned (t':=s.toks) (fun b o hb e=>eb b o hb e) f0 f1 f3 f4 f5⟩
 self:=fun _ _ _ _ _ st h=>wpAny_pyIter_tupleiter st h
theorem turn_range{P:Program}{w:World}{K:PySem.W.Frag}{tg:Expr}(it:Addr)(lo:Int)(n:Nat):Turn P w K tg (Itr lo n) [it] it (fun i h=>IsRangeIter h it (lo+(i:Nat)*1) ((n:Int)-(i:Nat)) 1)where
 mem:=by simp
 obj:=fun i h st b hb=>by
  have e:b=it:=by simpa using hb
  subst e
  exact⟨_,st,fun v z=>by
   have z':Data.fields _=Data.cell v:=z
   cases z'⟩
 keep:=fun i h h' st k=>k it (by simp) _ st
 item:=by
  intro X hP hw hK hc i pins s σ H E I hf st hg
  subst hP hw hK
  obtain⟨f0,f1,f2,f3,f4,f5⟩:=hf it (by simp)
  have W:=Walks.range (prog:=X.prog) (w:=X.w) (I.ok.hd hc) it lo 1 n
  refine W.item i s _ _ hg st fun v h' tk hv st' kk=>?_
  obtain⟨t,rfl⟩:=hv
  have I1:Inv X pins σ H {s with heap:=h',toks:=tk}:=I.turned (fun b o hb e=>kk b o (by simpa using hb) e) f0 f1 f3 f4 f5
  refine⟨_,rfl,go_of (s:={s with heap:=h',toks:=tk}) (n:="range_iterator") st' rfl rfl (by decide) ⟨.int (lo+i),H,I1,⟨t,?_⟩,⟨rfl,rfl⟩,st',fun b hb=>(hf b hb).1⟩⟩
  rw[Int.mul_one]
 done:=by
  intro X hP hw hK hc i pins s σ H E I hf st hg
  subst hP hw hK
  obtain⟨f0,f1,f2,f3,f4,f5⟩:=hf it (by simp)
  exact wpAny_pyNext_range_end (I.ok.hd hc) st (by have:n<=i:=hg;omega) fun h' eb=>⟨rfl,I.turned (t':=s.toks) (fun b o hb e=>eb b o hb e) f0 f1 f3 f4 f5⟩
 self:=fun _ _ _ _ _ st h=>wpAny_pyIter_rangeiter st h
end L2
namespace L2
open PySem PySem.Spec PyProof.Rows
section
variable{X:Cx}{tg:Expr}
def iList(K:PySem.W.Frag)(tl:TE):TI:=fun σ H R=>tl σ H fun x H1=>∃a,x=.ref a/\(∃xs,SqL K H1 a xs)/\R (Itl K a) H1
def iTup(K:PySem.W.Frag)(tl:TE):TI:=fun σ H R=>tl σ H fun x H1=>∃a,x=.ref a/\(∃xs,SqT K H1 a xs)/\R (Itt K a) H1
theorem pi_list{l:Expr}{tl:TE}(hl:PE X l tl):PI X tg l (iList X.K tl):=by
 intro pins s σ H R I h
 refine thn (hl pins s σ H _ I h) fun v s1 ⟨x,H1,I1,r1,q1⟩=>?_
 obtain⟨a,e,⟨xs,hq⟩,q⟩:=q1
 subst e
 cases r1
 obtain⟨its,rv,p,hz⟩:=I1.list hq
 refine wpAny_pyIter_list p.isList ?_
 refine⟨s1.heap.objs.size,[s1.heap.objs.size],_,_,H1,rfl,I1.kept (t':=s1.toks) fun b o e=>Heap.get?_push_of_some _ e,turn_list a _,⟨_,Heap.get?_push_size _ rfl,rfl,rfl⟩,fun b hb=>?_,q⟩
 have e:b=s1.heap.objs.size:=by simpa using hb
 subst e
 exact I1.fpOk (Nat.le_refl _) (I1.hok.fresh (Nat.le_refl _))
theorem pi_tup{l:Expr}{tl:TE}(hl:PE X l tl):PI X tg l (iTup X.K tl):=by
 intro pins s σ H R I h
 refine thn (hl pins s σ H _ I h) fun v s1 ⟨x,H1,I1,r1,q1⟩=>?_
 obtain⟨a,e,⟨xs,hq⟩,q⟩:=q1
 subst e
 cases r1
 obtain⟨its,rv,p,hz⟩:=I1.tuple hq
 refine wpAny_pyIter_tuple (show s1.heap.IsTuple a its.toArray from p) ?_
 refine⟨s1.heap.objs.size,[s1.heap.objs.size],_,_,H1,rfl,I1.kept (t':=s1.toks) fun b o e=>Heap.get?_push_of_some _ e,turn_tuple a _,⟨_,Heap.get?_push_size _ rfl,rfl,rfl⟩,fun b hb=>?_,q⟩
 have e:b=s1.heap.objs.size:=by simpa using hb
 subst e
 exact I1.fpOk (Nat.le_refl _) (I1.hok.fresh (Nat.le_refl _))
theorem range_it{pins:List (Addr×Obj)}{σ:St}{H:Hp}{s:Shared}{R:It->Hp->Prop}{E:Value->Shared->Prop}{lo hi:Int}{t u v:Tok}{tk:Nat}(I:Inv X pins σ H s)(h1:-(2^62)<=lo)(h2:lo<2^62)(h3:-(2^62)<=hi)(h4:hi<2^62)
  (q:R (Itr lo (hi-lo).toNat) H):wpAny (model X.prog X.w) X.A (pyIter (.ref s.heap.objs.size)) (PIE X pins σ tg R) E {s with heap:=s.heap.push {cls:=.type "range",data:=.fields #[.int lo t,.int hi u,.int 1 v]},toks:=tk}:=by
 refine wpAny_pyIter_range (IsRange.new ..) (small_one h1 h2 h3 h4) ?_
 have I1:Inv X pins σ H {s with heap:=s.heap.push {cls:=.type "range",data:=.fields #[.int lo t,.int hi u,.int 1 v]},toks:=tk}:=I.kept fun b o e=>Heap.get?_push_of_some _ e
 refine⟨(s.heap.push {cls:=.type "range",data:=.fields #[.int lo t,.int hi u,.int 1 v]}).objs.size,[(s.heap.push {cls:=.type "range",data:=.fields #[.int lo t,.int hi u,.int 1 v]}).objs.size],_,_,H,rfl,
  I1.kept (t':=tk) fun b o e=>Heap.get?_push_of_some _ e,turn_range _ lo (hi-lo).toNat,?_,fun b hb=>?_,q⟩
 .have e1:lo+((0:Nat):Int)*1=lo:=by simp
  have e2:(((hi-lo).toNat:Nat):Int)-((0:Nat):Int)=Builtin.Range.rangeSize lo hi 1:=by rw[rangeSize_one];split<;>omega
  show IsRangeIter _ _ (lo+((0:Nat):Int)*1) ((((hi-lo).toNat:Nat):Int)-((0:Nat):Int)) 1
  rw[e1,e2]
  exact Heap.get?_push_size _ rfl
 .have e:b=(s.heap.push {cls:=.type "range",data:=.fields #[.int lo t,.int hi u,.int 1 v]}).objs.size:=by simpa using hb
  subst e
  exact I1.fpOk (Nat.le_refl _) (I1.hok.fresh (Nat.le_refl _))
def iRng1(ta:TA):TI:=fun σ H R=>ta σ H fun vs H1=>∃j:Int,vs=[.int j]/\-(2^62)<=j/\j<2^62/\R (Itr 0 j.toNat) H1
theorem pi_range1{a:Expr}{ta:TA}{p pos:Pos}(hg:Gl X "range")(hm:X.mg "range" = none)(ha:PA X [a] ta)(hs:starEach [a] X.env=[(false,eval a X.env)]:=by rfl):PI X tg (.Call (.Name "range" p) [a] [] pos) (iRng1 ta):=by
 intro pins s σ H R I h
 refine Call_ (ld_blt I hg hm boot_range (PyProof.Rows.callWith_type1 (thn (ha pos pins s σ H _ I h) fun us s1 ⟨vs,H1,I1,r1,q1⟩=>?_) hs rfl))
 obtain⟨j,e,q1,q2,q⟩:=q1
 subst e
 cases r1 with
 | cons r rr=>
  cases rr
  obtain⟨t,rfl⟩:=r
  exact call_range_1 (range_it I1 (by omega) (by omega) q1 q2 (by simpa using q))
def tFor(wi:TI)(g:TG)(tb:TS):TS:=fun D σ H=>wi σ H fun J H1=>∃W:Nat->Nat->St->Hp->Prop,(∃m,W 0 m σ H1)/\∀i m σ H,W i m σ H->
 (J.stop i H/\D.nx σ H)\/(J.go i H/\∃N:St->Hp->Prop,(∀σ' H',N σ' H'->∃m',m'<m/\W (i+1) m' σ' H')/\∀x H',J.yld i H x H'->g x σ H' fun σ2 H2=>tb {D with nx:=N,ct:=N,bk:=D.nx} σ2 H2)
def pinsAt(fp:List Addr)(h:Heap):List (Addr×Obj):=fp.filterMap fun b=>(h.get? b).map fun o=>(b,o)
theorem mem_pinsAt{fp:List Addr}{h:Heap}{b:Addr}{o:Obj}(hb:b∈fp)(e:h.get? b=some o):(b,o)∈pinsAt fp h:=List.mem_filterMap.mpr ⟨b,hb,by rw[e];rfl⟩
theorem of_pinsAt{fp:List Addr}{h:Heap}{p:Addr×Obj}(hp:p∈pinsAt fp h):p.1∈fp/\h.get? p.1=some p.2:=by
 obtain⟨b,hb,e⟩:=List.mem_filterMap.mp hp
 cases q:h.get? b with
 | none=>rw[q]at e;cases e
 | some o=>
  rw[q]at e
  have e':(b,o)=p:=Option.some.inj e
  subst e'
  exact⟨hb,q⟩
theorem Inv.pinned{pins:List (Addr×Obj)}{σ:St}{H:Hp}{s:Shared}{fp:List Addr}(I:Inv X pins σ H s)(hf:∀b∈fp,FpOk X pins H b)(ho:∀b∈fp,∃o,s.heap.get? b=some o/\∀v,o.data≠.cell v):Inv X (pins++pinsAt fp s.heap) σ H s:=
 I.pins_of fun p hp=>(List.mem_append.mp hp).elim (fun z=>I.pin p (List.mem_append_right _ z)) fun z=>by
  obtain⟨hb,e⟩:=of_pinsAt z
  obtain⟨f0,f1,f2,_⟩:=hf p.1 hb
  obtain⟨o,e',d⟩:=ho p.1 hb
  rw[e]at e';cases e'
  exact⟨e,f0,f1,f2,d⟩
theorem Inv.unpinned{pins pl:List (Addr×Obj)}{σ:St}{H:Hp}{s:Shared}(I:Inv X (pins++pl) σ H s):Inv X pins σ H s:=I.pins_of fun p hp=>I.pin p (List.mem_append_right _ (List.mem_append_left _ hp))
theorem ps_for{iter:Expr}{body:List Stmt}{wi:TI}{g:TG}{tb:TS}{pos:Pos}(hp:PassesOwn (model X.prog X.w) X.A X.env X.xe)(hc:X.calm=true)(hi:PI X tg iter wi)(hg:PG X tg g)(hb:PSs X body tb)
  (hs:∀x,foldedSetIterable iter X.env x=pure x:=by intro _;rfl):PS X (.For tg iter body [] pos) (tFor wi g tb):=by
 intro pins s σ H D I h
 refine wpAny_For (thn (hi pins s σ H _ I h) fun v s1 h1=>thn h1 fun itv s2 h2=>?_) hs
 obtain⟨it,fp,tn,J,H2,e,I2,T,st2,f2,W,⟨m0,w0⟩,turn⟩:=h2
 subst e
 have stat:∀{H':Hp},(∀b∈fp,H' b=none)->∀b∈fp,FpOk X pins H' b:=fun hn b hb=>⟨hn b hb,(f2 b hb).2⟩
 refine codeAny_forLoop_any (fun n s'=>∃i σ' H',Inv X pins σ' H' s'/\tn i s'.heap/\(∀b∈fp,H' b=none)/\W i n σ' H') ?_ m0 ⟨0,σ,H2,I2,st2,fun b hb=>(f2 b hb).1,w0⟩
 rintro n s3 ⟨i,σ3,H3,I3,st3,fr3,w3⟩
 rcases turn i n σ3 H3 w3 with ⟨stop,qn⟩|⟨go,N,hN,step⟩
 .refine wpAny_passesOwn hp (thn (T.done X rfl rfl rfl hc i pins s3 σ3 H3 X.xe I3 (stat fr3) st3 stop) fun r s4 ⟨hr,I4⟩=>?_)
  subst hr
  exact wpAny_execs_nil ⟨σ3,H3,I4,qn⟩
 .refine wpAny_passesOwn hp (thn (T.item X rfl rfl rfl hc i pins s3 σ3 H3 X.xe I3 (stat fr3) st3 go) fun r s4 ⟨u,hr,h4⟩=>?_)
  subst hr
  refine wpAny_passesOwn hp (thn h4 fun _ s5 ⟨x,H5,I5,r5,y5,st5,fr5⟩=>?_)
  have I5':=I5.pinned (stat fr5) (T.obj _ _ st5)
  refine wpAny_passesOwn hp (thn (hg _ s5 σ3 H5 x u _ I5' r5 (step x H5 y5)) fun _ s6 ⟨σ6,H6,I6,q6⟩=>?_)
  refine wpAny_passesOwn hp (thn (hb _ s6 σ6 H6 _ I6 q6) fun f s7 q7=>?_)
  have again:∀{σ7:St} {H7:Hp},Inv X (pins++pinsAt fp s5.heap) σ7 H7 s7->N σ7 H7->∃m,m<n/\∃i σ' H',Inv X pins σ' H' s7/\tn i s7.heap/\(∀b∈fp,H' b=none)/\W i m σ' H':=fun{σ7 H7} I7 n7=>by
   obtain⟨m',hm,w7⟩:=hN σ7 H7 n7
   refine⟨m',hm,i+1,σ7,H7,I7.unpinned,T.keep _ _ _ st5 fun b hb o e=>(I7.pin (b,o) (List.mem_append_right _ (List.mem_append_right _ (mem_pinsAt hb e)))).1,fun b hb=>?_,w7⟩
   obtain⟨o,e,d⟩:=T.obj _ _ st5 b hb
   exact(I7.pin (b,o) (List.mem_append_right _ (List.mem_append_right _ (mem_pinsAt hb e)))).2.1
  cases f with
  | next=>obtain⟨σ7,H7,I7,n7⟩:=q7;exact again I7 n7
  | cont=>obtain⟨σ7,H7,I7,n7⟩:=q7;exact again I7 n7
  | brk=>obtain⟨σ7,H7,I7,q7⟩:=q7;exact⟨σ7,H7,I7.unpinned,q7⟩
  | ret v=>obtain⟨x7,σ7,H7,I7,r7,q7⟩:=q7;exact⟨x7,σ7,H7,I7.unpinned,r7,q7⟩
end
theorem for_list{K:PySem.W.Frag}{a:Addr}{xs:List V}{g:TG}{tb:TS}{D:Ends}{σ:St}{H:Hp}(Pv:Nat->St->Hp->Prop)(h0:Pv 0 σ H)(hl:∀i σ H,i<=xs.length->Pv i σ H->SqL K H a xs)
  (hs:∀i x σ H,xs[i]?=some x->Pv i σ H->g x σ H fun σ2 H2=>tb {D with nx:=Pv (i+1),ct:=Pv (i+1),bk:=D.nx} σ2 H2) (hd:∀σ H,Pv xs.length σ H->D.nx σ H) :
  ∃W:Nat->Nat->St->Hp->Prop,(∃m,W 0 m σ H)/\∀i m σ H,W i m σ H->
   ((Itl K a).stop i H/\D.nx σ H)\/((Itl K a).go i H/\∃N:St->Hp->Prop,(∀σ' H',N σ' H'->∃m',m'<m/\W (i+1) m' σ' H')/\∀x H',(Itl K a).yld i H x H'->g x σ H' fun σ2 H2=>tb {D with nx:=N,ct:=N,bk:=D.nx} σ2 H2):=by
 refine⟨fun i m σ H=>m=xs.length-i/\i<=xs.length/\Pv i σ H,⟨xs.length,by simp,Nat.zero_le _,h0⟩,?_⟩
 rintro i m σ H ⟨rfl,hi,p⟩
 have q:=hl i σ H hi p
 by_cases hlt:i<xs.length
 .refine .inr ⟨⟨xs,xs[i],q,by simp[hlt]⟩,Pv (i+1),fun σ' H' p'=>⟨xs.length-(i+1),by omega,rfl,hlt,p'⟩,fun x H' y=>?_⟩
  obtain⟨e,y⟩:=y
  subst e
  exact hs i x σ _ (y xs q) p
 .have e:i=xs.length:=by omega
  subst e
  exact .inl ⟨⟨xs,q,Nat.le_refl _⟩,hd σ H p⟩
theorem for_tup{K:PySem.W.Frag}{a:Addr}{xs:List V}{g:TG}{tb:TS}{D:Ends}{σ:St}{H:Hp}(Pv:Nat->St->Hp->Prop)(h0:Pv 0 σ H)(hl:∀i σ H,i<=xs.length->Pv i σ H->SqT K H a xs)
  (hs:∀i x σ H,xs[i]?=some x->Pv i σ H->g x σ H fun σ2 H2=>tb {D with nx:=Pv (i+1),ct:=Pv (i+1),bk:=D.nx} σ2 H2) (hd:∀σ H,Pv xs.length σ H->D.nx σ H) :
  ∃W:Nat->Nat->St->Hp->Prop,(∃m,W 0 m σ H)/\∀i m σ H,W i m σ H->
   ((Itt K a).stop i H/\D.nx σ H)\/((Itt K a).go i H/\∃N:St->Hp->Prop,(∀σ' H',N σ' H'->∃m',m'<m/\W (i+1) m' σ' H')/\∀x H',(Itt K a).yld i H x H'->g x σ H' fun σ2 H2=>tb {D with nx:=N,ct:=N,bk:=D.nx} σ2 H2):=by
 refine⟨fun i m σ H=>m=xs.length-i/\i<=xs.length/\Pv i σ H,⟨xs.length,by simp,Nat.zero_le _,h0⟩,?_⟩
 rintro i m σ H ⟨rfl,hi,p⟩
 have q:=hl i σ H hi p
 by_cases hlt:i<xs.length
 .refine .inr ⟨⟨xs,xs[i],q,by simp[hlt]⟩,Pv (i+1),fun σ' H' p'=>⟨xs.length-(i+1),by omega,rfl,hlt,p'⟩,fun x H' y=>?_⟩
  obtain⟨e,y⟩:=y
  subst e
  exact hs i x σ _ (y xs q) p
 .have e:i=xs.length:=by omega
  subst e
  exact .inl ⟨⟨xs,q,Nat.le_refl _⟩,hd σ H p⟩
theorem for_range{lo:Int}{n:Nat}{g:TG}{tb:TS}{D:Ends}{σ:St}{H:Hp}(Pv:Nat->St->Hp->Prop)(h0:Pv 0 σ H)
  (hs:∀i σ H,i<n->Pv i σ H->g (.int (lo+i)) σ H fun σ2 H2=>tb {D with nx:=Pv (i+1),ct:=Pv (i+1),bk:=D.nx} σ2 H2) (hd:∀σ H,Pv n σ H->D.nx σ H) :
  ∃W:Nat->Nat->St->Hp->Prop,(∃m,W 0 m σ H)/\∀i m σ H,W i m σ H->
   ((Itr lo n).stop i H/\D.nx σ H)\/((Itr lo n).go i H/\∃N:St->Hp->Prop,(∀σ' H',N σ' H'->∃m',m'<m/\W (i+1) m' σ' H')/\∀x H',(Itr lo n).yld i H x H'->g x σ H' fun σ2 H2=>tb {D with nx:=N,ct:=N,bk:=D.nx} σ2 H2):=by
 refine⟨fun i m σ H=>m=n-i/\i<=n/\Pv i σ H,⟨n,by simp,Nat.zero_le _,h0⟩,?_⟩
 rintro i m σ H ⟨rfl,hi,p⟩
 by_cases hlt:i<n
 .refine .inr ⟨hlt,Pv (i+1),fun σ' H' p'=>⟨n-(i+1),by omega,rfl,hlt,p'⟩,fun x H' y=>?_⟩
  obtain⟨e,y⟩:=y
  subst e y
  exact hs i σ _ hlt p
 .have e:i=n:=by omega
  subst e
  exact .inl ⟨Nat.le_refl _,hd σ H p⟩
end L2
namespace L2
open PySem PySem.Spec PyProof.Rows
abbrev R2:=V->V->Hp->VK->Prop
def OpR(X:Cx)(f:Value->Value->Sem Value)(r:R2):Prop:=
 ∀(pins:List (Addr×Obj)) (s:Shared) (σ:St) (H:Hp) (x y:V) (v u:Value) (Q:VK),Inv X pins σ H s->RelV x v->RelV y u->r x y H Q->
  wpAny (model X.prog X.w) X.A (f v u) (EP X pins σ Q) X.xe s
def UnR(X:Cx)(f:Value->Sem Value)(r:V->Hp->VK->Prop):Prop:=
 ∀(pins:List (Addr×Obj)) (s:Shared) (σ:St) (H:Hp) (x:V) (v:Value) (Q:VK),Inv X pins σ H s->RelV x v->r x H Q->
  wpAny (model X.prog X.w) X.A (f v) (EP X pins σ Q) X.xe s
def CallR(X:Cx)(f:Value)(r:List V->Hp->VK->Prop):Prop:=
 ∀(pins:List (Addr×Obj)) (s:Shared) (σ:St) (H:Hp) (xs:List V) (us:List Value) (Q:VK),Inv X pins σ H s->Vals xs us->r xs H Q->
  wpAny (model X.prog X.w) X.A (call f us) (EP X pins σ Q) X.xe s
def tOp(r:R2)(ta tb:TE):TE:=fun σ H Q=>ta σ H fun x H1=>tb σ H1 fun y H2=>r x y H2 Q
def tUn(r:V->Hp->VK->Prop)(ta:TE):TE:=fun σ H Q=>ta σ H fun x H1=>r x H1 Q
def rI(C:Int->Int->Prop)(g:Int->Int->V):R2:=fun x y H Q=>∃i j,x=.int i/\y=.int j/\C i j/\Q (g i j) H
def rI0(g:Int->Int->V):R2:=fun x y H Q=>∃i j,x=.int i/\y=.int j/\Q (g i j) H
def rU(g:Int->V):V->Hp->VK->Prop:=fun x H Q=>∃i,x=.int i/\Q (g i) H
section
variable{X:Cx}{a b c:Expr}{ta tb tc:TE}{pos:Pos}
theorem binT(ha:PE X a ta)(hb:PE X b tb){pins:List (Addr×Obj)}{s:Shared}{σ:St}{H:Hp}{R:V->V->Hp->Prop}(I:Inv X pins σ H s)
  (h:ta σ H fun x H1=>tb σ H1 fun y H2=>R x y H2) {Q:Value->Shared->Prop} {f:Value->Value->Sem Value}
  (hf:∀v u s2 x y H2,Inv X pins σ H2 s2->RelV x v->RelV y u->R x y H2->wpAny (model X.prog X.w) X.A (f v u) Q X.xe s2) :
  wpAny (model X.prog X.w) X.A (eval a X.env) (fun v s₁=>wpAny (model X.prog X.w) X.A (eval b X.env) (fun u s₂=>wpAny (model X.prog X.w) X.A (f v u) Q X.xe s₂) X.xe s₁) X.xe s:=by
 refine thn (ha pins s σ H _ I h) fun v s1 ⟨x,H1,I1,r1,q1⟩=>?_
 refine thn (hb pins s1 σ H1 _ I1 q1) fun u s2 ⟨y,H2,I2,r2,q2⟩=>?_
 exact hf v u s2 x y H2 I2 r1 r2 q2
theorem pe_op{op:Operator}{r:R2}(ho:OpR X (binaryOp op) r)(ha:PE X a ta)(hb:PE X b tb):PE X (.BinOp a op b pos) (tOp r ta tb):=by
 intro pins s σ H Q I h
 exact wpAny_BinOp (binT ha hb I h fun v u s2 x y H2 I2 rx ry q=>ho pins s2 σ H2 x y v u Q I2 rx ry q)
theorem pe_un{op:UnaryOp}{r:V->Hp->VK->Prop}(ho:UnR X (unaryOp op) r)(ha:PE X a ta):PE X (.UnaryOp op a pos) (tUn r ta):=by
 intro pins s σ H Q I h
 exact UnaryOp_ (thn (ha pins s σ H _ I h) fun v s1 ⟨x,H1,I1,r1,q1⟩=>ho pins s1 σ H1 x v Q I1 r1 q1)
theorem opI{f:Value->Value->Sem Value}{C:Int->Int->Prop}{g:Int->Int->Int}
  (rule:∀(i j:Int) (t u:Tok) (s:Shared) (Q:Value->Shared->Prop) (E:Value->Shared->Prop),C i j->Q (.int (g i j) s.toks) {s with toks:=s.toks+1}->wpAny (model X.prog X.w) X.A (f (.int i t) (.int j u)) Q E s) :
  OpR X f (rI C fun i j=>.int (g i j)):=by
 intro pins s σ H x y v u Q I rx ry h
 obtain⟨i,j,rfl,rfl,hc,q⟩:=h
 obtain⟨t,rfl⟩:=rx
 obtain⟨t',rfl⟩:=ry
 exact rule i j t t' s _ _ hc ⟨.int (g i j),H,I.tok _,⟨_,rfl⟩,q⟩
theorem opI0{f:Value->Value->Sem Value}{g:Int->Int->Int}
  (rule:∀(i j:Int) (t u:Tok) (s:Shared) (Q:Value->Shared->Prop) (E:Value->Shared->Prop),Q (.int (g i j) s.toks) {s with toks:=s.toks+1}->wpAny (model X.prog X.w) X.A (f (.int i t) (.int j u)) Q E s) :
  OpR X f (rI0 fun i j=>.int (g i j)):=by
 intro pins s σ H x y v u Q I rx ry h
 obtain⟨i,j,rfl,rfl,q⟩:=h
 obtain⟨t,rfl⟩:=rx
 obtain⟨t',rfl⟩:=ry
 exact rule i j t t' s _ _ ⟨.int (g i j),H,I.tok _,⟨_,rfl⟩,q⟩
theorem opB0{f:Value->Value->Sem Value}{g:Int->Int->Bool}
  (rule:∀(i j:Int) (t u:Tok) (s:Shared) (Q:Value->Shared->Prop) (E:Value->Shared->Prop),Q (.bool (g i j)) s->wpAny (model X.prog X.w) X.A (f (.int i t) (.int j u)) Q E s) :
  OpR X f (rI0 fun i j=>.bl (g i j)):=by
 intro pins s σ H x y v u Q I rx ry h
 obtain⟨i,j,rfl,rfl,q⟩:=h
 obtain⟨t,rfl⟩:=rx
 obtain⟨t',rfl⟩:=ry
 exact rule i j t t' s _ _ ⟨.bl (g i j),H,I,rfl,q⟩
def CDiv(i j:Int):Prop:=0<j/\j<1073741824
def CPow(i j:Int):Prop:=0<=j/\j<=1000000/\i.natAbs<2^64
def CMul(i j:Int):Prop:=(-(2^64)<i/\i<2^64)\/(-(2^64)<j/\j<2^64)
theorem CMul.ok{i j:Int}(h:CMul i j):IntMulOk i j:=by
 rcases h with ⟨h1,h2⟩|⟨h1,h2⟩
 .exact .of_left (intBits_le_64 h1 h2)
 .exact .of_right (intBits_le_64 h1 h2)
theorem op_add:OpR X (binaryOp .Add) (rI0 fun i j=>.int (i+j)):=opI0 fun _ _ _ _ _ _ _ q=>add_int q
theorem op_sub:OpR X (binaryOp .Sub) (rI0 fun i j=>.int (i-j)):=opI0 fun _ _ _ _ _ _ _ q=>sub_int q
theorem op_mul:OpR X (binaryOp .Mult) (rI CMul fun i j=>.int (i*j)):=opI fun _ _ _ _ _ _ _ hc q=>mul_int q hc.ok
theorem op_fdiv:OpR X (binaryOp .FloorDiv) (rI CDiv fun i j=>.int (i/j)):=opI fun i j _ _ _ _ _ hc q=>by
 have h1:(0:Int)<j:=hc.1
 have h2:j<1073741824:=hc.2
 exact floordiv_int (by omega) (by rw[Int.fdiv_eq_ediv_of_nonneg i (by omega)];exact q) (.inl (PyProof.noPylong_small (by omega)))
theorem op_mod:OpR X (binaryOp .Mod) (rI (fun _ j=>0<j) fun i j=>.int (i % j)):=opI fun i j _ _ _ _ _ hc q=>by
 have h1:(0:Int)<j:=hc
 exact mod_int' (by omega) (by rw[Int.fmod_eq_emod_of_nonneg i (by omega)];exact q)
theorem op_pow:OpR X (binaryOp .Pow) (rI CPow fun i j=>.int (i^j.toNat)):=opI fun _ _ _ _ _ _ _ hc q=>pow_int_small hc.1 hc.2.1 hc.2.2 q
theorem unI{f:Value->Sem Value}{g:Int->Int}
  (rule:∀(i:Int) (t:Tok) (s:Shared) (Q:Value->Shared->Prop) (E:Value->Shared->Prop),Q (.int (g i) s.toks) {s with toks:=s.toks+1}->wpAny (model X.prog X.w) X.A (f (.int i t)) Q E s) :
  UnR X f (rU fun i=>.int (g i)):=by
 intro pins s σ H x v Q I rx h
 obtain⟨i,rfl,q⟩:=h
 obtain⟨t,rfl⟩:=rx
 exact rule i t s _ _ ⟨.int (g i),H,I.tok _,⟨_,rfl⟩,q⟩
theorem un_neg:UnR X (unaryOp .USub) (rU fun i=>.int (-i)):=unI fun _ _ _ _ _ q=>neg_int q
end
def scal:V->V->Bool
 | .non,.non=>true|.non,.int _=>true|.int _,.non=>true|.non,.bl _=>true|.bl _,.non=>true|.non,.str _=>true|.str _,.non=>true
 | .int _,.int _=>true|.bl _,.bl _=>true|.str _,.str _=>true|.byt _,.byt _=>true
 | .int _,.str _=>true|.str _,.int _=>true|.bl _,.str _=>true|.str _,.bl _=>true
 | _,_=>false
def rEq:R2:=fun x y H Q=>scal x y=true/\Q (.bl (decide (x=y))) H
def rNe:R2:=fun x y H Q=>scal x y=true/\Q (.bl (!decide (x=y))) H
theorem dec_int{i j:Int}:decide (V.int i=V.int j)=(i==j):=by
 rw[Bool.eq_iff_iff]
 simp
theorem dec_bl{i j:Bool}:decide (V.bl i=V.bl j)=(i==j):=by
 rw[Bool.eq_iff_iff]
 simp
theorem dec_str{i j:Str}:decide (V.str i=V.str j)=(i==j):=by
 rw[Bool.eq_iff_iff]
 simp
theorem dec_byt{i j:Array UInt8}:decide (V.byt i=V.byt j)=(i.toList==j.toList):=by
 rw[Bool.eq_iff_iff]
 cases i
 cases j
 simp
section
variable{X:Cx}{a b c:Expr}{ta tb tc:TE}{pos:Pos}
theorem fin_bl{pins:List (Addr×Obj)}{σ:St}{H:Hp}{s:Shared}{Q:VK}{k k':Bool}(I:Inv X pins σ H s)(q:Q (.bl k) H)(e:k=k'):EP X pins σ Q (.bool k') s:=by
 subst e
 exact⟨.bl k,H,I,rfl,q⟩
theorem op_eq:OpR X (compareOp .Eq) rEq:=by
 intro pins s σ H x y v u Q I rx ry h
 obtain⟨hs,q⟩:=h
 cases x with
 | non=>
  cases rx
  cases y with
  | non=>cases ry;exact PySem.EqNone.eq_none_none (fin_bl I q (by simp))
  | bl j=>cases ry;exact PySem.EqNone.eq_none_bool (fin_bl I q (by simp))
  | int j=>obtain⟨t',rfl⟩:=ry;exact PySem.EqNone.eq_none_int (fin_bl I q (by simp))
  | str j=>obtain⟨t',rfl⟩:=ry;exact PySem.EqNone.eq_none_str (fin_bl I q (by simp))
  | _=>exact absurd (show false=true from hs) Bool.false_ne_true
 | bl i=>
  cases rx
  cases y with
  | non=>cases ry;exact PySem.EqNone.eq_bool_none (fin_bl I q (by simp))
  | bl j=>cases ry;exact eq_bool (fin_bl I q dec_bl)
  | str j=>obtain⟨t',rfl⟩:=ry;exact PySem.EqMixed.eq_bool_str (fin_bl I q (by simp))
  | _=>exact absurd (show false=true from hs) Bool.false_ne_true
 | int i=>
  obtain⟨t,rfl⟩:=rx
  cases y with
  | non=>cases ry;exact PySem.EqNone.eq_int_none (fin_bl I q (by simp))
  | int j=>obtain⟨t',rfl⟩:=ry;exact eq_int (fin_bl I q dec_int)
  | str j=>obtain⟨t',rfl⟩:=ry;exact PySem.EqMixed.eq_int_str (fin_bl I q (by simp))
  | _=>exact absurd (show false=true from hs) Bool.false_ne_true
 | str i=>
  obtain⟨t,rfl⟩:=rx
  cases y with
  | non=>cases ry;exact PySem.EqNone.eq_str_none (fin_bl I q (by simp))
  | bl j=>cases ry;exact PySem.EqMixed.eq_str_bool (fin_bl I q (by simp))
  | int j=>obtain⟨t',rfl⟩:=ry;exact PySem.EqMixed.eq_str_int (fin_bl I q (by simp))
  | str j=>obtain⟨t',rfl⟩:=ry;exact eq_str (fin_bl I q dec_str)
  | _=>exact absurd (show false=true from hs) Bool.false_ne_true
 | byt i=>
  obtain⟨t,rfl⟩:=rx
  cases y with
  | byt j=>obtain⟨t',rfl⟩:=ry;exact PySem.W.eq_bytes (fin_bl I q dec_byt)
  | _=>exact absurd (show false=true from hs) Bool.false_ne_true
 | _=>cases y<;>exact absurd (show false=true from hs) Bool.false_ne_true
theorem op_ne:OpR X (compareOp .NotEq) rNe:=by
 intro pins s σ H x y v u Q I rx ry h
 obtain⟨hs,q⟩:=h
 cases x with
 | non=>
  cases rx
  cases y with
  | non=>cases ry;exact PySem.EqNone.ne_none_none (fin_bl I q (by simp))
  | bl j=>cases ry;exact PySem.EqNone.ne_none_bool (fin_bl I q (by simp))
  | int j=>obtain⟨t',rfl⟩:=ry;exact PySem.EqNone.ne_none_int (fin_bl I q (by simp))
  | str j=>obtain⟨t',rfl⟩:=ry;exact PySem.EqNone.ne_none_str (fin_bl I q (by simp))
  | _=>exact absurd (show false=true from hs) Bool.false_ne_true
 | bl i=>
  cases rx
  cases y with
  | non=>cases ry;exact PySem.EqNone.ne_bool_none (fin_bl I q (by simp))
  | bl j=>cases ry;exact ne_bool (fin_bl I q (congrArg not dec_bl))
  | str j=>obtain⟨t',rfl⟩:=ry;exact PySem.EqMixed.ne_bool_str (fin_bl I q (by simp))
  | _=>exact absurd (show false=true from hs) Bool.false_ne_true
 | int i=>
  obtain⟨t,rfl⟩:=rx
  cases y with
  | non=>cases ry;exact PySem.EqNone.ne_int_none (fin_bl I q (by simp))
  | int j=>obtain⟨t',rfl⟩:=ry;exact ne_int (fin_bl I q (congrArg not dec_int))
  | str j=>obtain⟨t',rfl⟩:=ry;exact PySem.EqMixed.ne_int_str (fin_bl I q (by simp))
  | _=>exact absurd (show false=true from hs) Bool.false_ne_true
 | str i=>
  obtain⟨t,rfl⟩:=rx
  cases y with
  | non=>cases ry;exact PySem.EqNone.ne_str_none (fin_bl I q (by simp))
  | bl j=>cases ry;exact PySem.EqMixed.ne_str_bool (fin_bl I q (by simp))
  | int j=>obtain⟨t',rfl⟩:=ry;exact PySem.EqMixed.ne_str_int (fin_bl I q (by simp))
  | str j=>obtain⟨t',rfl⟩:=ry;exact ne_str (fin_bl I q (congrArg not dec_str))
  | _=>exact absurd (show false=true from hs) Bool.false_ne_true
 | byt i=>
  obtain⟨t,rfl⟩:=rx
  cases y with
  | byt j=>obtain⟨t',rfl⟩:=ry;exact PySem.W.ne_bytes (fin_bl I q (congrArg not dec_byt))
  | _=>exact absurd (show false=true from hs) Bool.false_ne_true
 | _=>cases y<;>exact absurd (show false=true from hs) Bool.false_ne_true
theorem op_lt:OpR X (compareOp .Lt) (rI0 fun i j=>.bl (decide (i<j))):=opB0 fun _ _ _ _ _ _ _ q=>lt_int q
theorem op_le:OpR X (compareOp .LtE) (rI0 fun i j=>.bl (decide (i<=j))):=opB0 fun _ _ _ _ _ _ _ q=>le_int q
theorem op_ge:OpR X (compareOp .GtE) (rI0 fun i j=>.bl (decide (j<=i))):=opB0 fun _ _ _ _ _ _ _ q=>ge_int q
theorem nomark(b:Expr){op:CmpOp}(h:op≠.In:=by decide)(h2:op≠.NotIn:=by decide):behindInMarks op b=false:=by
 have e1:(op==CmpOp.In)=false:=by cases op<;>first|rfl|exact absurd rfl h
 have e2:(op==CmpOp.NotIn)=false:=by cases op<;>first|rfl|exact absurd rfl h2
 cases b<;>simp[behindInMarks,e1,e2]
theorem pe_cmpR{op:CmpOp}{r:R2}(ho:OpR X (compareOp op) r)(ha:PE X a ta)(hb:PE X b tb)(hm:behindInMarks op b=false):PE X (.Compare a [op] [b] pos) (tOp r ta tb):=by
 intro pins s σ H Q I h
 exact wpAny_Compare1 (binT ha hb I h fun v u s2 x y H2 I2 rx ry q=>ho pins s2 σ H2 x y v u Q I2 rx ry q) hm
def tTest(t:TE):TT:=fun σ H Q=>t σ H fun x H'=>∃k,x=.bl k/\Q k H'
theorem pt_cmpR{op:CmpOp}{r:R2}(ho:OpR X (compareOp op) r)(ha:PE X a ta)(hb:PE X b tb)(hm:behindInMarks op b=false):PT X (.Compare a [op] [b] pos) (tTest (tOp r ta tb)):=by
 intro pins s σ H Q I h
 refine wpAny_isTrue_Compare1 (thn (ha pins s σ H _ I h) fun v s1 ⟨x,H1,I1,r1,q1⟩=>thn (hb pins s1 σ H1 _ I1 q1) fun u s2 ⟨y,H2,I2,r2,q2⟩=>
  thn (ho pins s2 σ H2 x y v u _ I2 r1 r2 q2) fun c s3 ⟨z,H3,I3,r3,k,e,q3⟩=>?_) hm
 subst e
 cases r3
 exact wpAny_truthy_bool ⟨H3,I3,q3⟩
def tChain(r r':R2)(ta tb tc:TE):TE:=fun σ H Q=>ta σ H fun x H1=>tb σ H1 fun y H2=>r x y H2 fun z H3=>∃k,z=.bl k/\
 (if k=true then tc σ H3 fun w' H4=>r' y w' H4 Q else Q (.bl false) H3)
theorem pt_chain{op op':CmpOp}{r r':R2}(ho:OpR X (compareOp op) r)(ho':OpR X (compareOp op') r')(ha:PE X a ta)(hb:PE X b tb)(hc:PE X c tc)
  (hm:lastMarks [op,op'] [b,c]=false:=by with_unfolding_all rfl):PT X (.Compare a [op,op'] [b,c] pos) (tTest (tChain r r' ta tb tc)):=by
 intro pins s σ H Q I h
 refine isTrue_chain (thn (ha pins s σ H _ I h) fun v s1 ⟨x,H1,I1,r1,q1⟩=>test_link (thn (hb pins s1 σ H1 _ I1 q1) fun u s2 ⟨y,H2,I2,r2,q2⟩=>
  thn (ho pins s2 σ H2 x y v u _ I2 r1 r2 q2) fun d s3 ⟨z,H3,I3,r3,k,e,q3⟩=>?_)) hm
 subst e
 cases r3
 refine wpAny_truthy_bool ?_
 cases k with
 | false=>
  obtain⟨k',e',q'⟩:=q3
  cases e'
  exact ite_ff ⟨H3,I3,q'⟩
 | true=>
  refine ite_tt (test_last (thn (hc pins s3 σ H3 _ I3 q3) fun w' s4 ⟨z',H4,I4,r4,q4⟩=>thn (ho' pins s4 σ H4 y z' u w' _ I4 r2 r4 q4) fun d' s5 ⟨z2,H5,I5,r5,k2,e2,q5⟩=>?_))
  subst e2
  cases r5
  exact wpAny_truthy_bool ⟨H5,I5,q5⟩
theorem line63:(sizeLine:Nat)<2^63:=by rw[sizeLine_eq];decide
theorem vals1{x:V}{us:List Value}(r:Vals [x] us):∃u,us=[u]/\RelV x u:=by
 cases r with
 | cons r1 r2=>cases r2;exact⟨_,rfl,r1⟩
theorem vals2{x y:V}{us:List Value}(r:Vals [x,y] us):∃u w',us=[u,w']/\RelV x u/\RelV y w':=by
 cases r with
 | cons r1 r2=>
  cases r2 with
  | cons r3 r4=>cases r4;exact⟨_,_,rfl,r1,r3⟩
theorem call_max2(hc:X.calm=true):CallR X (.builtin "max") (fun xs H Q=>∃i j,xs=[.int i,.int j]/\Q (.int (if j>i then j else i)) H):=by
 intro pins s σ H xs us Q I r h
 obtain⟨i,j,rfl,q⟩:=h
 obtain⟨u,w',rfl,⟨t,rfl⟩,⟨t',rfl⟩⟩:=vals2 r
 refine max_two_ints (I.ok.hd hc) fun h' tk k=>⟨_,H,I.kept k,?_,q⟩
 by_cases hj:j>i
 .rw[if_pos hj,if_pos hj];exact⟨_,rfl⟩
 .rw[if_neg hj,if_neg hj];exact⟨_,rfl⟩
theorem call_min2(hc:X.calm=true):CallR X (.builtin "min") (fun xs H Q=>∃i j,xs=[.int i,.int j]/\Q (.int (if j<i then j else i)) H):=by
 intro pins s σ H xs us Q I r h
 obtain⟨i,j,rfl,q⟩:=h
 obtain⟨u,w',rfl,⟨t,rfl⟩,⟨t',rfl⟩⟩:=vals2 r
 refine min_two_ints (I.ok.hd hc) fun h' tk k=>⟨_,H,I.kept k,?_,q⟩
 by_cases hj:j<i
 .rw[if_pos hj,if_pos hj];exact⟨_,rfl⟩
 .rw[if_neg hj,if_neg hj];exact⟨_,rfl⟩
end
end L2
namespace L2
open PySem PySem.Spec PyProof.Rows
structure ObjM(h:Heap)(x dx C:Addr)(mA:Str->Option Value):Prop where
 obj:h.get? x=some (PySem.W.instObj C dx)
 ns:h.Ns1 dx mA
 ne:dx≠x
theorem lookIn_ns{h:Heap}{dx:Addr}{mA:Str->Option Value}(n:h.Ns1 dx mA):∃od,h.get? dx=some od/\∀name,PySem.W.lookIn name od=some (mA name):=by
 obtain⟨o,es,ep,ho,hd,hk,_,hm⟩:=n
 refine⟨o,ho,fun name=>?_⟩
 have e:=hm name
 unfold nsFind findBy at e
 rw[<-Array.find?_toList]at e
 unfold PySem.W.lookIn
 rw[hd]
 dsimp only
 split
 .rename_i y q
  rw[q]at e
  exact congrArg some e
 .rename_i q
  rw[q]at e
  have a:es.toList.any (·.refKey)=false:=by
   rw[List.any_eq_false]
   intro y hy
   obtain⟨z,t,hkey⟩:=hk y (Array.mem_toList_iff.mp hy)
   simp[DictEntry.refKey,hkey]
  have a':¬es.toList.any (·.refKey)=true:=by rw[a];exact Bool.false_ne_true
  rw[if_neg a']
  exact congrArg some e
theorem ObjM.look{h:Heap}{x dx C:Addr}{mA:Str->Option Value}(I:ObjM h x dx C mA):∃od,PySem.W.InstAt h x (PySem.W.instObj C dx) C (some od)/\∀name,PySem.W.lookIn name od=some (mA name):=
 let ⟨od,ho,hl⟩:=lookIn_ns I.ns
 ⟨od,⟨I.obj,rfl,rfl,ho⟩,hl⟩
theorem RelO.some_of{v:V}{o:Option Value}(r:RelO (some v) o):∃u,o=some u/\RelV v u:=by
 cases o with
 | none=>exact(show False from r).elim
 | some u=>exact⟨u,rfl,r⟩
section
variable{P:Program}{w:World}{H H':Hp}{h h':Heap}{a C dx:Addr}{fs fs':List (Str×V)}
theorem ins_get(hok:HOk P w H h)(e:H a=some (.ins C dx fs)):∃mA,ObjM h a dx C mA/\(∀f,RelO (fs.lookup f) (mA f))/\PySem.Within mA (fs.map (·.1))/\fs.length<=1000/\H dx=some (.own a):=by
 obtain⟨d,z,ne,ob,mA,n,r,q⟩:=(show ObjOk P w H h a (.ins C dx fs)from hok a _ e)
 exact⟨mA,⟨ob,n,ne⟩,r,q,z,d⟩
end
structure Cls(K:PySem.W.Frag)(C:Addr):Prop where
 pg:PySem.W.plainGet K C Str.empty=true
 hd:PySem.W.hasDictIn K C=true
 po:PySem.W.plainOver K C=true
 sa:PySem.W.findIn K (.ref C) "__setattr__" = some (some (.builtin "object.__setattr__"))
theorem Cls.get{K:PySem.W.Frag}{C:Addr}(c:Cls K C)(f:Str):PySem.W.plainGet K C f=true:=c.pg
section
variable{X:Cx}{pins:List (Addr×Obj)}{σ:St}{H:Hp}{s:Shared}{A:Around}{E:Value->Shared->Prop}{Q:Value->Shared->Prop}{c:Value}{b:Bool}
inductive TyOf(K:PySem.W.Frag)(H:Hp):V->Value->Prop where
 | non:TyOf K H .non (.type "NoneType")
 | bl (x:Bool):TyOf K H (.bl x) (.type "bool")
 | int (i:Int):TyOf K H (.int i) (.type "int")
 | str (x:Str):TyOf K H (.str x) (.type "str")
 | flt (x:UInt64):TyOf K H (.flt x) (.type "float")
 | lst {a:Addr} {xs:List V} (e:H a=some (.lst xs)):TyOf K H (.ref a) (.type "list")
 | frz {a:Addr} {o:Obj} {xs:List V} (e:H a=some (.frz o (.lst xs))):TyOf K H (.ref a) (.type "list")
 | tup {a:Addr} {xs:List V} (e:H a=some (.tup xs)):TyOf K H (.ref a) (.type "tuple")
 | dK {a:Addr} {kvs:List (Key×V)} (e:H a=some (.dK kvs)):TyOf K H (.ref a) (.type "dict")
 | dT {a:Addr} {kvs:List (List Key×V)} (e:H a=some (.dT kvs)):TyOf K H (.ref a) (.type "dict")
 | ins {a C dx:Addr} {fs:List (Str×V)} (e:H a=some (.ins C dx fs)) (cl:Cls K C) (ha:PySem.W.findIn K (.ref C) "__class__" = some (some (.builtin "object.__class__")))
   (hn:PySem.W.specialIn K (.builtin "object.__class__") "__get__" = some (some (.builtin "getset_descriptor.__get__"))) (htk:PySem.W.takesIn K (.builtin "object.__class__")=some true)
   (hm:PySem.W.mroIn K C (.type "object")=some true):TyOf K H (.ref a) (.ref C)
theorem isinst_ok{x:V}{u t:Value}(I:Inv X pins σ H s)(rx:RelV x u)(ty:TyOf X.K H x t)(e:PySem.W.kitOne X.K t c=some b)(h:∀tk,Q (.bool b) {s with toks:=tk}) :
  wpAny (model X.prog X.w) A (call (.builtin "isinstance") [u,c]) Q E s:=by
 cases ty with
 | non=>cases (show u=Value.none from rx);exact PySem.W.kia_one PySem.W.kitx_none I.kIn True.intro e (fun z=>nomatch z) h
 | bl y=>cases (show u=Value.bool y from rx);exact PySem.W.kia_one PySem.W.kitx_bool I.kIn True.intro e (fun z=>nomatch z) h
 | int i=>obtain⟨t,q⟩:=(show ∃t,u=Value.int i t from rx);cases q;exact PySem.W.kia_one PySem.W.kitx_int I.kIn True.intro e (fun z=>nomatch z) h
 | str y=>obtain⟨t,q⟩:=(show ∃t,u=Value.str y t from rx);cases q;exact PySem.W.kia_one PySem.W.kitx_str I.kIn True.intro e (fun z=>nomatch z) h
 | flt y=>obtain⟨t,q⟩:=(show ∃t,u=Value.float y t from rx);cases q;exact PySem.W.kia_one PySem.W.kitx_float I.kIn True.intro e (fun z=>nomatch z) h
 | @lst a xs ea=>
  cases (show u=Value.ref a from rx)
  obtain⟨_,_,n,_,h1⟩:=(show ObjOk X.prog X.w H s.heap a (.lst xs)from I.hok a _ ea)
  exact PySem.W.kia_one PySem.W.kitx_list I.kIn ⟨_,h1,rfl⟩ e (fun z=>nomatch z) h
 | @frz a ob xs ea=>
  cases (show u=Value.ref a from rx)
  obtain⟨_,_,_,n,_,h1⟩:=(show ObjOk X.prog X.w H s.heap a (.frz ob (.lst xs))from I.hok a _ ea)
  exact PySem.W.kia_one PySem.W.kitx_list I.kIn ⟨_,h1,rfl⟩ e (fun z=>nomatch z) h
 | @tup a xs ea=>
  cases (show u=Value.ref a from rx)
  obtain⟨_,_,_,p⟩:=(show ObjOk X.prog X.w H s.heap a (.tup xs)from I.hok a _ ea)
  obtain⟨o,h1,h2,_⟩:=p
  exact PySem.W.kia_one PySem.W.kitx_tuple I.kIn ⟨o,h1,h2⟩ e (fun z=>nomatch z) h
 | @dK a kvs ea=>
  cases (show u=Value.ref a from rx)
  obtain⟨_,_,vs,_,p⟩:=(show ObjOk X.prog X.w H s.heap a (.dK kvs)from I.hok a _ ea)
  obtain⟨o,es,ep,h1,h2,_⟩:=p
  exact PySem.W.kia_one PySem.W.kitx_dict I.kIn ⟨o,h1,h2.1⟩ e (fun z=>nomatch z) h
 | @dT a kvs ea=>
  cases (show u=Value.ref a from rx)
  obtain⟨_,_,xs,_,o,es,ep,h1,h2,_⟩:=(show ObjOk X.prog X.w H s.heap a (.dT kvs)from I.hok a _ ea)
  exact PySem.W.kia_one PySem.W.kitx_dict I.kIn ⟨o,h1,h2.1⟩ e (fun z=>nomatch z) h
 | @ins a C dx fs ea cl ha hn htk hm=>
  cases (show u=Value.ref a from rx)
  obtain⟨mA,O,_⟩:=ins_get I.hok ea
  obtain⟨od,J,_⟩:=O.look
  exact PySem.W.kia_one (PySem.W.kitx_own (cl.get _) cl.hd ha hn htk hm) I.kIn J e (fun z=>nomatch z) h
end
end L2
namespace L2
open PySem PySem.Spec PyProof.Rows
structure Room(k:Nat)(A:Around):Prop where
 hd:A.handled=none
 dp:A.depth+3*k+5<recursionLimit
 un:A.units+16*k+200<cLine
theorem Room.mono{j k:Nat}{A:Around}(r:Room k A)(h:j<=k):Room j A:=⟨r.hd,by have:=r.dp;omega,by have:=r.un;omega⟩
theorem Room.deeper{k:Nat}{A:Around}(r:Room (k+1) A)(env:Env):Room k (A.deeper env):=
 ⟨r.hd,by have:=r.dp;show A.depth+1+3*k+5<_;omega,by have:=r.un;show A.units+3+16*k+200<_;omega⟩
theorem Room.depth{k:Nat}{A:Around}(r:Room k A):A.depth<recursionLimit:=by have:=r.dp;omega
theorem Room.units{k:Nat}{A:Around}(r:Room k A):A.units+64<cLine:=by have:=r.un;omega
def tNil:TA:=fun _ H Q=>Q [] H
def tCons(ta:TE)(tr:TA):TA:=fun σ H Q=>ta σ H fun x H1=>tr σ H1 fun xs H2=>Q (x::xs) H2
section
variable{X:Cx}{e:Expr}{es:List Expr}{te:TE}{t:TA}{pos:Pos}
theorem pa_nil:PA X [] tNil:=fun _ _ _ _ H Q I h=>Calls.spliced_nil ⟨[],H,I,.nil,h⟩
theorem pa_cons(ha:PE X e te)(hr:PA X es t)(hs:starEach (e::es) X.env=(false,eval e X.env)::starEach es X.env:=by rfl):PA X (e::es) (tCons te t):=by
 intro pos pins s σ H Q I h
 rw[hs]
 show wpAny _ _ (spliced ((false,eval e X.env)::backTo pos (starEach es X.env))) _ _ s
 refine Calls.spliced_cons (thn (ha pins s σ H _ I h) fun u s1 ⟨x,H1,I1,r1,q1⟩=>?_)
 exact thn (hr pos pins s1 σ H1 _ I1 q1) fun us s2 ⟨xs,H2,I2,r2,q2⟩=>⟨x::xs,H2,I2,.cons r1 r2,q2⟩
def tTup(t:TA):TE:=fun σ H Q=>t σ H fun xs H1=>xs.length<=sizeLine/\∀p,H1 p=none->Q (.ref p) (upd H1 p (.tup xs))
def tLst(t:TA):TE:=fun σ H Q=>t σ H fun xs H1=>xs.length<=sizeLine/\∀p,H1 p=none->Q (.ref p) (upd H1 p (.lst xs))
theorem pe_tup{x1}(h:PA X es t):PE X (.Tuple es x1 pos) (tTup t):=by
 intro pins s σ H Q I hq
 refine wpAny_Tuple_spliced (thn (h pos pins s σ H _ I hq) fun us s1 ⟨xs,H1,I1,r,z,q⟩=>⟨by rw[<-r.length];exact z,?_⟩)
 have hf:H1 s1.heap.objs.size=none:=I1.hok.fresh (Nat.le_refl _)
 refine⟨.ref s1.heap.objs.size,upd H1 s1.heap.objs.size (.tup xs),I1.laid (t':=s1.toks) (fun b u e=>Heap.get?_push_of_some _ e) (Nat.le_refl _) ?_,rfl,q _ hf⟩
 exact⟨z,us,r,⟨_,Heap.get?_push_size _ rfl,rfl,_,rfl⟩⟩
theorem pe_lst(h:PA X es t):PE X (.List es pos) (tLst t):=by
 intro pins s σ H Q I hq
 refine wpAny_List_spliced (thn (h pos pins s σ H _ I hq) fun us s1 ⟨xs,H1,I1,r,z,q⟩=>⟨by rw[<-r.length];exact z,?_⟩)
 have hf:H1 s1.heap.objs.size=none:=I1.hok.fresh (Nat.le_refl _)
 refine⟨.ref s1.heap.objs.size,upd H1 s1.heap.objs.size (.lst xs),I1.laid (t':=s1.toks) (fun b u e=>Heap.get?_push_of_some _ e) (Nat.le_refl _) ?_,rfl,q _ hf⟩
 exact⟨z,us,0,r,Heap.get?_push_size _ rfl⟩
end
abbrev Sp:=List V->Hp->VK->XK->Prop
abbrev CXT:=List Env->Hp->Shared->XK->Value->Shared->Prop
structure Env0(P:Program)(w:World)(K:PySem.W.Frag)(mg:Str->Option Value)(base:Heap)(A:Around)(outer:List Env)(s:Shared)(H:Hp):Prop where
 frames:A.frames=some outer
 mod:Mod K mg base
 bs:∀b o,base.get? b=some o->s.heap.get? b=some o/\H b=none
 bsz:base.objs.size<=s.heap.objs.size
 funs:s.heap.FunFrames base outer
 frf:∀b∈frs outer,H b=none
 hok:HOk P w H s.heap
 bare:AllBare s.gens
def CE(outer:List Env)(P:Program)(w:World)(H:Hp)(s:Shared)(Q:VK)(u:Value)(s':Shared):Prop:=
 ∃v H',s'.os=s.os/\AllBare s'.gens/\Un (frs outer) [] H H' s.heap s'.heap/\HOk P w H' s'.heap/\RelV v u/\Q v H'
def CR(CX:CXT)(outer:List Env)(P:Program)(w:World)(H:Hp)(s:Shared)(Q:VK)(E:XK)(r:Result)(s':Shared):Prop:=
 match r with
 | .ok (.ret u)=>CE outer P w H s Q u s'
 | .ok _=>False
 | .error e=>CX outer H s E e s'
structure FnOk(P:Program)(w:World)(K:PySem.W.Frag)(mg:Str->Option Value)(base:Heap)(CX:CXT)(k:Nat)(f:Addr)(fd:FuncData)(ps:List Str)(sp:Sp):Prop where
 len:∀vs H Q E,sp vs H Q E->vs.length=ps.length
 run:∀(A:Around) (outer:List Env) (s:Shared) (H:Hp) (args:Args) (us:List Value) (vs:List V) (Q:VK) (E:XK),Room k A->Env0 P w K mg base A outer s H->BindsTo s fd args (ps.zip us)->Vals vs us->sp vs H Q E->
  codeAny (model P w) A (.call (.ref f) args) (CR CX outer P w H s Q E) s
section
variable{X:Cx}{pins:List (Addr×Obj)}{σ:St}{H:Hp}{s s':Shared}
theorem Inv.env0(I:Inv X pins σ H s):Env0 X.prog X.w X.K X.mg X.base X.A X.stack s H:=
 ⟨I.ok.frames,I.ok.mod,I.bs,Nat.le_trans I.ok.bsz I.sz,I.stack,I.stkFree,I.hok,I.bare⟩
theorem Inv.after{Q:VK}{u:Value}(I:Inv X pins σ H s)(h:CE X.stack X.prog X.w H s Q u s'):EP X pins σ Q u s':=by
 obtain⟨v,H',os,bare,un,hok,r,q⟩:=h
 obtain⟨hh,g,d,t,os'⟩:=s'
 obtain rfl:os'=s.os:=os
 exact⟨v,H',I.call (h':=hh) (g':=g) (d':=d) (t':=t) (ch:=[]) un hok bare (fun b z=>absurd z (by simp)),r,q⟩
end
def tCall(sp:Sp)(dvs:List V)(E:XK)(t:TA):TE:=fun σ H Q=>t σ H fun vs H1=>sp (vs++dvs) H1 Q E
def Binds(K:PySem.W.Frag)(fd:FuncData)(ps:List Str)(ds:List Value):Prop:=
 ∀(s:Shared) (us:List Value),K.In s.heap->(us++ds).length=ps.length->BindsTo s fd ⟨us,[]⟩ (ps.zip (us++ds))
theorem Binds.all{K:PySem.W.Frag}{fd:FuncData}{ps:List Str}(h:∀us:List Value,us.length=ps.length->bindArgs fd ⟨us,[]⟩=pure (ps.zip us)):Binds K fd ps []:=fun s us _ hl=>by
 rw[List.append_nil]at hl⊢
 exact .of_eq (h us hl)
def Passes(CX:CXT)(X:Cx)(E:XK):Prop:=∀(pins:List (Addr×Obj)) (σ:St) (H:Hp) (s:Shared) (e:Value) (s':Shared),Inv X pins σ H s->CX X.stack H s E e s'->X.xe e s'
section
variable{X:Cx}{CX:CXT}{k:Nat}{f C:Addr}{fd:FuncData}{ps:List Str}{sp:Sp}{dvs:List V}{ds:List Value}{E:XK}{x m:Str}{p pos apos:Pos}{e o:Expr}{es:List Expr}{ta:TE}{t:TA}
theorem run_fn{pins:List (Addr×Obj)}{σ:St}{H:Hp}{s:Shared}{Q:VK}{us:List Value}{vs:List V}(F:FnOk X.prog X.w X.K X.mg X.base CX k f fd ps sp)(hr:Room k X.A)(hb:Binds X.K fd ps ds)(hd:Vals dvs ds)(hx:Passes CX X E)
  (I:Inv X pins σ H s) (r:Vals vs us) (h:sp (vs++dvs) H Q E):wpAny (model X.prog X.w) X.A (call (.ref f) us) (EP X pins σ Q) X.xe s:=by
 have r2:Vals (vs++dvs) (us++ds):=r.append hd
 have hl:(us++ds).length=ps.length:=by rw[<-r2.length];exact F.len _ _ _ _ h
 refine wpAny_call (codeAny_mono (F.run X.A X.stack s H ⟨us,[]⟩ (us++ds) (vs++dvs) Q E hr I.env0 (hb s us I.kIn hl) r2 h) fun r s' hq=>?_)
 cases r with
 | error e=>exact hx pins σ H s e s' I hq
 | ok fl=>
  cases fl with
  | ret u=>exact I.after hq
  | next=>exact False.elim hq
  | brk=>exact False.elim hq
  | cont=>exact False.elim hq
theorem pe_call(F:FnOk X.prog X.w X.K X.mg X.base CX k f fd ps sp)(hr:Room k X.A)(hg:Gl X x)(hm:X.mg x=some (.ref f))(hk:PySem.W.keepIn X.K (.ref f)=true)(hb:Binds X.K fd ps ds)(hd:Vals dvs ds)(hx:Passes CX X E)
  (ha:PA X (e::es) t) (hdb:(x==("__debug__" : Str))=false:=by decide) (he:starEach (e::es) X.env=(false,eval e X.env)::starEach es X.env:=by rfl) (hpl:(backTo pos (starEach es X.env)).any (·.1)=false:=by rfl) :
  PE X (.Call (.Name x p) (e::es) [] pos) (tCall sp dvs E t):=by
 intro pins s σ H Q I h
 refine wpAny_Call_Name_kw (ld_glob I hg hm ?_ hdb)
 refine PySem.W.callWith_K (h₀:=X.base) I.ok.mod.kin hk (thn (ha pos pins s σ H _ I h) fun us s1 ⟨vs,H1,I1,r,q⟩=>⟨I1.kIn,?_⟩) he hpl
 exact run_fn F hr hb hd hx I1 r q
end
structure FnScope(N P:List Str)(sc:Scope):Prop where
 kind:sc.kind=.function
 co:sc.isCoroutine=false
 gen:sc.isGenerator=false
 nd:N.Nodup
 pre:N.take P.length=P
 par:∀x∈P,sc.names.lookup x=some .local\/sc.names.lookup x=some .cell
 nofree:∀y∈sc.names,y.2≠.free
theorem bindL_out{kindOf:Str->Option NameKind}{x:Str}:∀{binds:List (Str×Value)} {m:Str->Option Value},(∀v,(x,v)∉binds)->bindL kindOf binds m x=m x
 | [],_,_=>rfl
 | (n,v)::r,m,h=>by
  unfold bindL
  rw[bindL_out fun w hw=>h w (List.mem_cons_of_mem _ hw)]
  split
  .have:x≠n:=by rintro rfl;exact h v List.mem_cons_self
   simp[this]
  .rfl
theorem bindC_out{kindOf:Str->Option NameKind}{x:Str}:∀{binds:List (Str×Value)} {m:Str->Option Value},(∀v,(x,v)∉binds)->bindC kindOf binds m x=m x
 | [],_,_=>rfl
 | (n,v)::r,m,h=>by
  unfold bindC
  rw[bindC_out fun w hw=>h w (List.mem_cons_of_mem _ hw)]
  split
  .rfl
  .have:x≠n:=by rintro rfl;exact h v List.mem_cons_self
   simp[this]
theorem bindL_get{kindOf:Str->Option NameKind}{x:Str}{v:Value}:∀{P:List Str} {vs:List Value} {i:Nat} {m:Str->Option Value},P.Nodup->P[i]?=some x->vs[i]?=some v->kindOf x=some .local->
  bindL kindOf (P.zip vs) m x=some v
 | [],_,_,_,_,h,_,_=>by simp at h
 | _::_,[],_,_,_,_,h,_=>by simp at h
 | p::P,w::vs,0,m,nd,h1,h2,hk=>by
  simp at h1 h2;subst h1;subst h2
  show bindL kindOf ((p,w)::P.zip vs) m p=_
  unfold bindL
  rw[bindL_out fun v hv=>(List.nodup_cons.mp nd).1 (List.of_mem_zip hv).1,if_pos hk]
  simp
 | p::P,w::vs,i+1,m,nd,h1,h2,hk=>by
  show bindL kindOf ((p,w)::P.zip vs) m x=_
  unfold bindL
  exact bindL_get (i:=i) (List.nodup_cons.mp nd).2 (by simpa using h1) (by simpa using h2) hk
theorem bindC_get{kindOf:Str->Option NameKind}{x:Str}{v:Value}:∀{P:List Str} {vs:List Value} {i:Nat} {m:Str->Option Value},P.Nodup->P[i]?=some x->vs[i]?=some v->kindOf x≠some .local->
  bindC kindOf (P.zip vs) m x=some v
 | [],_,_,_,_,h,_,_=>by simp at h
 | _::_,[],_,_,_,_,h,_=>by simp at h
 | p::P,w::vs,0,m,nd,h1,h2,hk=>by
  simp at h1 h2;subst h1;subst h2
  show bindC kindOf ((p,w)::P.zip vs) m p=_
  unfold bindC
  rw[bindC_out fun v hv=>(List.nodup_cons.mp nd).1 (List.of_mem_zip hv).1,if_neg hk]
  simp
 | p::P,w::vs,i+1,m,nd,h1,h2,hk=>by
  show bindC kindOf ((p,w)::P.zip vs) m x=_
  unfold bindC
  exact bindC_get (i:=i) (List.nodup_cons.mp nd).2 (by simpa using h1) (by simpa using h2) hk
def start(N:List Str)(vs:List V):St:=vs.map some++List.replicate (N.length-vs.length) none
def cxOf(CX:CXT)(P:Program)(w:World)(K:PySem.W.Frag)(mg:Str->Option Value)(base:Heap)(N:List Str)(qual:Str)(scope:Scope)(f:Addr)(cd:Value)(A:Around)(outer:List Env)(s:Shared)(H:Hp)(E:XK):Cx where
 prog:=P
 w:=w
 K:=K
 mg:=mg
 base:=base
 A:=A.deeper (envOfC qual scope s.heap.objs.size f cd)
 N:=N
 s₀:=s
 H₀:=H
 env:=envOfC qual scope s.heap.objs.size f cd
 outer:=outer
 stack:=envOfC qual scope s.heap.objs.size f cd::outer
 ex:=[]
 calm:=true
 fn:=fun _=>true
 pn:=[]
 xe:=fun e s'=>wpAny (model P w) (A.deeper (envOfC qual scope s.heap.objs.size f cd)) (leaving (envOfC qual scope s.heap.objs.size f cd) e) (fun _ s''=>CX outer H s E e s'') (fun e' s''=>CX outer H s E e' s'') s'
theorem cell_has{sc:Scope}{n:Nat}{x:Str}(h:sc.names.lookup x=some .cell):∃c,(cellsFrom n sc.names []).lookup x=some c:=by
 have q:=PySem.W.cellsFrom_some sc.names n [] (.inl h)
 exact Option.isSome_iff_exists.mp q
theorem inv_start{CX:CXT}{P:Program}{w:World}{K:PySem.W.Frag}{mg:Str->Option Value}{base:Heap}{N ps:List Str}{qual:Str}{scope:Scope}{f:Addr}{cd:Value}{A:Around}{outer:List Env}{s s1:Shared}{H:Hp}{E:XK}{us:List Value}{vs:List V}
  (S:FnScope N ps scope) (hd:A.handled=none) (e0:Env0 P w K mg base A outer s H) (hl:vs.length=ps.length) (r:Vals vs us)
  (x:InCallC s s.heap.objs.size (bindL (envOfC qual scope s.heap.objs.size f cd).kindOf (ps.zip us) fun _=>none) (cellsFrom (s.heap.objs.size+1) scope.names []) (bindC (envOfC qual scope s.heap.objs.size f cd).kindOf (ps.zip us) fun _=>none) s1) :
  Inv (cxOf CX P w K mg base N qual scope f cd A outer s H E) [] (start N vs) H s1:=by
 have hpl:ps.length<=N.length:=by have:=congrArg List.length S.pre;rw[List.length_take]at this;omega
 obtain⟨h1,tk,rfl,hk⟩:=x.done
 have noA:∀b:Addr,b∉(cxOf CX P w K mg base N qual scope f cd A outer s H E).ex:=fun b z=>absurd (show b∈([]:List Addr)from z) (by simp)
 refine⟨⟨e0.mod,S.kind,rfl,rfl,Nat.le_refl _,fun y z c h1 h2=>?_,fun y hy=>?_,fun y c _ h=>?_,fun _=>hd,Around.frames_deeper e0.frames,.inr ⟨rfl,rfl⟩,fun b z=>absurd z (noA b),e0.bs,e0.bsz,fun b _ _=>noA b,fun b z=>absurd z (noA b),e0.funs,e0.frf⟩,
  rfl,e0.bare,Un.kept hk,⟨_,x.toInCall.ns,fun i y v h1 h2 h3=>?_⟩,fun y c h=>⟨_,x.cell y c h⟩,e0.hok.fresh (Nat.le_refl _),fun y c h=>?_,fun p hp=>absurd (show p∈([]:List (Addr×Obj))from hp) (by simp),e0.hok.kept hk,?_⟩
 .exact name_of_addr x.apart (PySem.mem_of_lookup h1) (PySem.mem_of_lookup h2)
 .have hy:scope.names.lookup y=some .cell\/scope.names.lookup y=some .free:=hy
  rcases hy with hy|hy
  .exact cell_has hy
  .exact absurd rfl (S.nofree _ (PySem.mem_of_lookup hy))
 .exact Nat.le_of_lt (x.above y c (PySem.mem_of_lookup h))
 .have hi:i<vs.length:=by
   unfold start at h2
   by_cases hi:i<vs.length
   .exact hi
   .rw[List.getElem?_append_right (by simpa using hi)]at h2
    rw[List.getElem?_replicate]at h2
    split at h2<;>cases h2
  have ha:vs[i]?=some v:=by
   unfold start at h2
   rw[List.getElem?_append_left (by simpa using hi),List.getElem?_map]at h2
   cases e:vs[i]? with
   | none=>rw[e]at h2;cases h2
   | some a=>rw[e]at h2;cases h2;rfl
  obtain⟨u,hu,rv⟩:=r.get ha
  have hp:ps[i]?=some y:=by
   rw[<-S.pre,List.getElem?_take_of_lt (by omega)];exact h1
  have ndP:ps.Nodup:=by rw[<-S.pre];exact S.nd.sublist (List.take_sublist _ _)
  refine⟨u,rv,?_⟩
  rcases S.par y (List.mem_of_getElem? hp)with k|k
  .exact .inl ⟨k,bindL_get ndP hp hu k⟩
  .obtain⟨c,e⟩:=cell_has (n:=s.heap.objs.size+1) k
   refine .inr ⟨.inl k,c,e,?_⟩
   have q:=x.cell y c e
   rw[bindC_get ndP hp hu (by show scope.names.lookup y≠_;rw[k];decide)]at q
   exact q
 .exact e0.hok.fresh (Nat.le_of_lt (x.above y c (PySem.mem_of_lookup h)))
 .unfold start
  show _=N.length
  rw[List.length_append,List.length_map,List.length_replicate]
  omega
theorem fn_of{CX:CXT}{P:Program}{w:World}{K:PySem.W.Frag}{mg:Str->Option Value}{base:Heap}{k:Nat}{f:Addr}{name qual:Str}{params:Arguments}{body:List Stmt}{scope:Scope}{dV kV doc pm cdv ct oc:Value}{an od:Option Addr}
  {osl:Array (Option Value)} {N ps:List Str} {sp:Sp} (lk:K.lookup f=some ⟨oc,od,.func (PySem.W.fnOf name qual params body scope dV kV doc pm an cdv ct),osl⟩) (hcd:PySem.W.codeIn K cdv qual=true) (S:FnScope N ps scope)
  (len:∀vs H Q E,sp vs H Q E->vs.length=ps.length)
  (hbody:∀(A:Around) (outer:List Env) (s:Shared) (H:Hp) (vs:List V) (Q:VK) (E:XK),Room k (A.deeper (envOfC qual scope s.heap.objs.size f cdv))->sp vs H Q E->
   ∃t,PSs (cxOf CX P w K mg base N qual scope f cdv A outer s H E) body t/\t {nx:=fun _ H'=>Q .non H',rt:=Q} (start N vs) H) :
  FnOk P w K mg base CX (k+1) f (PySem.W.fnOf name qual params body scope dV kV doc pm an cdv ct) ps sp:=by
 refine⟨len,fun A outer s H args us vs Q E hr e0 hb r hsp=>?_⟩
 have hl:=len _ _ _ _ hsp
 have KX:K.In s.heap:=e0.mod.kin.keeps fun b o e=>(e0.bs b o e).1
 have lim:s.heap.NoLimit:=e0.mod.nolimit.keeps fun b o e=>(e0.bs b o e).1
 have hkind:∀y∈ps.zip us,scope.names.lookup y.1=some .local\/(scope.names.lookup y.1=some .cell/\((cellsFrom (s.heap.objs.size+1) scope.names []).lookup y.1).isSome=true):=fun⟨n,v⟩ hy=>by
  rcases S.par n (List.of_mem_zip hy).1 with q|q
  .exact .inl q
  .exact .inr ⟨q,PySem.W.cellsFrom_some _ _ _ (.inl q)⟩
 refine codeAny_call_function hr.depth (KX _ _ lk) rfl S.co S.gen rfl (PySem.W.codeRec_of KX hcd) (hb _ _ _ _ ?_)
 refine wpAny_newFunctionEnv_cells S.kind hkind fun env he s1 x=>?_
 subst he
 refine⟨lim.keeps x.toInCall.keep,codeAny_func ?_⟩
 obtain⟨t,ht,hq⟩:=hbody A outer s H vs Q E (hr.deeper _) hsp
 have I:Inv (cxOf CX P w K mg base N qual scope f cdv A outer s H E) [] (start N vs) H s1:=inv_start S hr.hd e0 hl r x
 refine wpAny_mono (ht [] s1 (start N vs) H _ I hq) (fun fl s' hs=>?_) fun e s' hs=>hs
 have fin:∀{σ':St} {H':Hp} {v:V} {u:Value},Inv (cxOf CX P w K mg base N qual scope f cdv A outer s H E) [] σ' H' s'->RelV v u->Q v H'->CE outer P w H s Q u s':=
  fun{σ' H' v u} J rv q=>⟨v,H',J.os,J.bare,J.base,J.hok,rv,q⟩
 cases fl with
 | ret u=>
  obtain⟨v,σ',H',J,rv,q⟩:=hs
  exact fin J rv q
 | next=>
  obtain⟨σ',H',J,q⟩:=hs
  exact fin (v:=V.non) (u:=Value.none) J rfl q
 | brk=>
  obtain⟨_,_,_,q⟩:=hs
  exact False.elim q
 | cont=>
  obtain⟨_,_,_,q⟩:=hs
  exact False.elim q
end L2
namespace L2
open PySem PySem.Spec PyProof.Rows
section
variable{X:Cx}{x:Str}{p pos:Pos}{e:Expr}{es:List Expr}{t:TA}{id T:String}{r:List V->Hp->VK->Prop}
def tCB(r:List V->Hp->VK->Prop)(t:TA):TE:=fun σ H Q=>t σ H fun vs H1=>r vs H1 Q
theorem pe_callB(hc:CallR X (.builtin id) r)(hg:Gl X x)(hm:X.mg x=none)(hv:bootBuiltins x=some (.builtin id))(ha:PA X (e::es) t)(hn:x≠"__name__":=by decide)(hdb:(x==("__debug__" : Str))=false:=by decide)
  (he:starEach (e::es) X.env=(false,eval e X.env)::starEach es X.env:=by rfl) (hpl:(backTo pos (starEach es X.env)).any (·.1)=false:=by rfl):PE X (.Call (.Name x p) (e::es) [] pos) (tCB r t):=by
 intro pins s σ H Q I h
 refine wpAny_Call_Name_kw (ld_blt I hg hm hv ?_ hn hdb)
 exact PyProof.Rows.callWith_builtin1 (thn (ha pos pins s σ H _ I h) fun us s1 ⟨vs,H1,I1,r1,q1⟩=>hc pins s1 σ H1 vs us Q I1 r1 q1) he hpl
theorem pe_callTy(hc:CallR X (.type T) r)(hg:Gl X x)(hm:X.mg x=none)(hv:bootBuiltins x=some (.type T))(ha:PA X (e::es) t)(hn:x≠"__name__":=by decide)(hdb:(x==("__debug__" : Str))=false:=by decide)
  (he:starEach (e::es) X.env=(false,eval e X.env)::starEach es X.env:=by rfl) (hpl:(backTo pos (starEach es X.env)).any (·.1)=false:=by rfl):PE X (.Call (.Name x p) (e::es) [] pos) (tCB r t):=by
 intro pins s σ H Q I h
 refine wpAny_Call_Name_kw (ld_blt I hg hm hv ?_ hn hdb)
 exact PyProof.Rows.callWith_type1 (thn (ha pos pins s σ H _ I h) fun us s1 ⟨vs,H1,I1,r1,q1⟩=>hc pins s1 σ H1 vs us Q I1 r1 q1) he hpl
end
end L2
namespace HT
open PySem PyProof.Rows
section
variable{prog:Program}{w:World}{A:Around}{E:Value->Shared->Prop}{s:Shared}
def sIx(n d:Nat):Option Int->Nat
 | none=>d
 | some v=>if v<0 then(v+(n:Int)).toNat else min v.toNat n
theorem sIx_none(n d:Nat):sIx n d none=d:=rfl
theorem sIx_nat(n d k:Nat):sIx n d (some (k:Int))=min k n:=by
 show(if (k:Int)<0 then((k:Int)+(n:Int)).toNat else min (k:Int).toNat n)=min k n
 rw[if_neg (by omega),Int.toNat_natCast]
theorem sIx_le(n d:Nat)(hd:d<=n)(o:Option Int):sIx n d o<=n:=by
 cases o with
 | none=>exact hd
 | some v=>
  show(if v<0 then(v+(n:Int)).toNat else min v.toNat n)<=n
  by_cases hv:v<0
  .rw[if_pos hv];omega
  .rw[if_neg hv];exact Nat.min_le_right _ _
theorem clip_eq(v:Int)(n d:Nat):(if v<0 then max (v+(n:Int)) 0 else min v (n:Int))=((sIx n d (some v):Nat):Int):=by
 show(if v<0 then max (v+(n:Int)) 0 else min v (n:Int))=(((if v<0 then(v+(n:Int)).toNat else min v.toNat n):Nat):Int)
 by_cases hv:v<0
 .simp only[if_pos hv];omega
 .simp only[if_neg hv];omega
theorem adjust_gen(lo hi:Option Int)(n:Nat):Builtin.Slice.sliceAdjust lo hi 1 (n:Int)=(((sIx n 0 lo:Nat):Int),((sIx n n hi:Nat):Int)):=by
 have h1:¬((1:Int)<0):=by omega
 unfold Builtin.Slice.sliceAdjust
 simp only[h1,if_false]
 refine Prod.ext ?_ ?_
 .cases lo with
  | none=>rfl
  | some v=>exact clip_eq v n 0
 .cases hi with
  | none=>rfl
  | some v=>exact clip_eq v n n
theorem places_gen(i j:Nat):Builtin.Slice.slicePlaces (i:Int) (j:Int) 1=j-i:=by
 unfold Builtin.Slice.slicePlaces
 have h1:(1:Int)>0:=by omega
 simp only[h1,if_true,Int.ediv_one]
 split<;>omega
theorem slicePart_{v:Value}{o:Option Int}{Q:Option Int->Shared->Prop}(p:IsPart v o)(h:Q o s):wpAny (model prog w) A (Builtin.Slice.slicePartIndex v) Q E s:=by
 cases p with
 | none=>exact slicePart_none h
 | int i t=>exact slicePart_int h
theorem sliceApplied_gen{sl:Addr}{vl vu:Value}{lo hi:Option Int}{n:Nat}{Q:Int×Int×Nat->Shared->Prop}(hs:s.heap.IsSliceOf sl vl vu .none)(pl:IsPart vl lo)(pu:IsPart vu hi)
  (h:Q (((sIx n 0 lo:Nat):Int),1,sIx n n hi-sIx n 0 lo) s):wpAny (model prog w) A (Builtin.Slice.sliceApplied (.ref sl) (pure (n:Int))) Q E s:=by
 obtain⟨os,hos,hcs,hds⟩:=id hs
 unfold Builtin.Slice.sliceApplied Builtin.Slice.sliceFields
 refine wpAny_bind (wpAny_bind (wpAny_field hos hds (x:=vl) rfl (wpAny_bind (wpAny_field hos hds (x:=vu) rfl (wpAny_bind (wpAny_field hos hds (x:=.none) rfl (wpAny_pure ?_)))))))
 refine wpAny_bind (slicePart_none ?_)
 show wpAny _ _ (if ((1:Int)==0)=true then _ else _) _ _ s
 rw[if_neg (by decide)]
 refine wpAny_bind (slicePart_ pl (wpAny_bind (slicePart_ pu (wpAny_bind (wpAny_pure ?_)))))
 show wpAny _ _ (match Builtin.Slice.sliceAdjust lo hi 1 (n:Int)with|(lo,hi)=>pure (lo,(1:Int),Builtin.Slice.slicePlaces lo hi 1)) _ _ s
 rw[adjust_gen lo hi n]
 show wpAny _ _ (pure (((sIx n 0 lo:Nat):Int),(1:Int),Builtin.Slice.slicePlaces ((sIx n 0 lo:Nat):Int) ((sIx n n hi:Nat):Int) 1)) _ _ s
 rw[places_gen]
 exact wpAny_pure h
theorem pick_gen(xs:Array Value)(i k:Nat):((List.range k).filterMap fun(m:Nat)=>xs[((i:Int)+(m:Int)*1).toNat]?).toArray=((xs.toList.drop i).take k).toArray:=by
 have e:(fun(m:Nat)=>xs[((i:Int)+(m:Int)*1).toNat]?)=fun m=>xs[i+m]?:=by
  funext m
  have:((i:Int)+(m:Int)*1).toNat=i+m:=by omega
  rw[this]
 rw[e]
 have:=pick_run xs i k
 rw[List.filterMap_map]at this
 have e2:((fun x=>xs[x]?)∘fun x=>i+x)=fun m=>xs[i+m]?:=rfl
 rw[e2]at this
 rw[this]
theorem getItem_tuple_cut{t sl:Addr}{items:Array Value}{vl vu:Value}{lo hi:Option Int}{Q:Value->Shared->Prop}(ht:IsTup s.heap t items)(hs:s.heap.IsSliceOf sl vl vu .none)(pl:IsPart vl lo)(pu:IsPart vu hi)
  (hw:¬(sIx items.size 0 lo=0/\sIx items.size items.size hi=items.size))
  (h:Q (.ref s.heap.objs.size) {s with heap:=s.heap.push {cls:=.type "tuple",data:=.seq ((items.toList.drop (sIx items.size 0 lo)).take (sIx items.size items.size hi-sIx items.size 0 lo)).toArray}})
  (hsz:items.size<=sizeLine):wpAny (model prog w) A (getItem (.ref t) (.ref sl)) Q E s:=by
 have htake:sizeOk (.seq ((items.toList.drop (sIx items.size 0 lo)).take (sIx items.size items.size hi-sIx items.size 0 lo)).toArray):=by
  show((items.toList.drop (sIx items.size 0 lo)).take (sIx items.size items.size hi-sIx items.size 0 lo)).toArray.size<=sizeLine
  rw[List.size_toArray,List.length_take,List.length_drop,Array.length_toList]
  omega
 have hj:sIx items.size items.size hi<=items.size:=sIx_le _ _ (Nat.le_refl _) hi
 obtain⟨os,hos,hcs,hds⟩:=id hs
 have hTs:s.TypeIs (.ref sl) "slice":=⟨os,hos,hcs⟩
 unfold getItem
 try with_reducible refine wpAny_holding ?_
 first|refine wpAny_bind (wpAny_pure ?_)|skip
 refine wpAny_bind (wpAny_sequenceKey ht.typeIs (by decide) ?_)
 refine wpAny_bind (wpAny_callSpecial?_slot (name:=Str.ofString "__getitem__") ht.typeIs PyProof.Rows.slot_tuple_getitem
  (wpAny_call_entry PyProof.Rows.slot_tuple_getitem ht.typeIs entry_tuple_getitem ?_ (args_tuple_getitem _ _)))
 show wpAny _ _ (Builtin.Tuple.tupleItemsOf (.ref t) >>= _) _ _ s
 refine wpAny_bind (tupleItemsOf_ ht ?_)
 refine wpAny_bind (wpAny_typeOf hTs ?_)
 rw[if_pos (by decide)]
 refine wpAny_bind (sliceApplied_gen hs pl pu ?_)
 have hno:¬((((sIx items.size 0 lo:Nat):Int)==0&&(1:Int)==1&&(sIx items.size items.size hi-sIx items.size 0 lo)==items.size)=true):=by
  intro q
  rw[Bool.and_eq_true,Bool.and_eq_true]at q
  have q1:((sIx items.size 0 lo:Nat):Int)=0:=eq_of_beq q.1.1
  have q2:sIx items.size items.size hi-sIx items.size 0 lo=items.size:=eq_of_beq q.2
  exact hw ⟨by omega,by omega⟩
 show wpAny _ _ (if (((sIx items.size 0 lo:Nat):Int)==0&&(1:Int)==1&&(sIx items.size items.size hi-sIx items.size 0 lo)==items.size)=true then _ else _) _ _ s
 rw[if_neg hno,pick_gen]
 first
  | exact wpAny_bind (m:=Builtin.Tuple.tupleExact _) (wpAny_newObj_type (wpAny_pure ⟨_,rfl,wpAny_pure h⟩) htake)
  | exact wpAny_bind (m:=Builtin.Tuple.tupleExact _) (wpAny_newObj_type (wpAny_bind (wpAny_pure (wpAny_pure ⟨_,rfl,wpAny_pure h⟩))) htake)
  | exact wpAny_bind (wpAny_bind (m:=Builtin.Tuple.tupleExact _) (wpAny_newObj_type (wpAny_pure (wpAny_pure ⟨_,rfl,wpAny_pure h⟩)) htake))
  | exact wpAny_bind (wpAny_bind (m:=Builtin.Tuple.tupleExact _) (wpAny_newObj_type (wpAny_pure ⟨_,rfl,wpAny_pure h⟩) htake))
end
end HT
namespace L2
open PySem PySem.Spec PyProof.Rows
abbrev TO:=St->Hp->(Option Int->Hp->Prop)->Prop
def PO(X:Cx)(e:Option Expr)(t:TO):Prop:=
 ∀(pins:List (Addr×Obj)) (s:Shared) (σ:St) (H:Hp) (Q:Option Int->Hp->Prop),Inv X pins σ H s->t σ H Q->
  wpAny (model X.prog X.w) X.A (evalPart e X.env) (fun u s'=>∃o H',Inv X pins σ H' s'/\IsPart u o/\Q o H') X.xe s
def tNoPart:TO:=fun _ H Q=>Q none H
def tPart(t:TE):TO:=fun σ H Q=>t σ H fun x H1=>∃i,x=.int i/\Q (some i) H1
theorem intsAre_of{ns:List Int}:∀{us:List Value},Vals (ns.map V.int) us->IntsAre us ns:=by
 induction ns with
 | nil=>intro us r;rw[List.map_nil]at r;cases r;exact .nil
 | cons n ns ih=>
  intro us r
  rw[List.map_cons]at r
  cases r with
  | cons r1 r2=>
   obtain⟨t,e⟩:=r1
   subst e
   exact .cons n t (ih r2)
section
variable{X:Cx}{e:Expr}{te:TE}{lo hi:Option Expr}{tl th:TO}{pos p2:Pos}
theorem po_none:PO X none tNoPart:=by
 intro pins s σ H Q I h
 rw[evalPart_none]
 exact wpAny_pure ⟨none,H,I,.none,h⟩
theorem po_some(h:PE X e te):PO X (some e) (tPart te):=by
 intro pins s σ H Q I hw
 rw[evalPart_some]
 refine thn (h pins s σ H _ I hw) fun u s1 ⟨x,H1,I1,r1,q1⟩=>?_
 obtain⟨i,rfl,q⟩:=q1
 obtain⟨t,rfl⟩:=r1
 exact⟨some i,H1,I1,.int i t,q⟩
def SlR(X:Cx)(r:V->Option Int->Option Int->Hp->VK->Prop):Prop:=
 ∀(pins:List (Addr×Obj)) (s:Shared) (σ:St) (H:Hp) (x:V) (v vl vu:Value) (lo hi:Option Int) (sl:Addr) (Q:VK),Inv X pins σ H s->RelV x v->s.heap.IsSliceOf sl vl vu .none->IsPart vl lo->IsPart vu hi->r x lo hi H Q->
  ∃T id,typeLookup (.type T) "__getitem__" = pure (some (.builtin id))/\s.TypeIs v T/\wpAny (model X.prog X.w) X.A (getItem v (.ref sl)) (EP X pins σ Q) X.xe s
def tSl(r:V->Option Int->Option Int->Hp->VK->Prop)(te:TE)(tl th:TO):TE:=fun σ H Q=>te σ H fun x H1=>tl σ H1 fun l H2=>th σ H2 fun u H3=>r x l u H3 Q
theorem pe_slice{r:V->Option Int->Option Int->Hp->VK->Prop}(hr:SlR X r)(he:PE X e te)(hl:PO X lo tl)(hu:PO X hi th):PE X (.Subscript e (.Slice lo hi none p2) pos) (tSl r te tl th):=by
 intro pins s σ H Q I h
 refine Subscript_ (thn (he pins s σ H _ I h) fun v s1 ⟨x,H1,I1,r1,q1⟩=>?_)
 refine wpAny_Slice (thn (hl pins s1 σ H1 _ I1 q1) fun vl s2 ⟨l,H2,I2,pl,q2⟩=>thn (hu pins s2 σ H2 _ I2 q2) fun vu s3 ⟨u,H3,I3,pu,q3⟩=>?_)
 rw[evalPart_none]
 refine wpAny_pure ?_
 have I4:Inv X pins σ H3 {s3 with heap:=s3.heap.push {cls:=.type "slice",data:=.fields #[vl,vu,.none]}}:=I3.kept (t':=s3.toks) fun b ob q=>Heap.get?_push_of_some _ q
 obtain⟨T,id,hT,ht,hg⟩:=hr pins {s3 with heap:=s3.heap.push {cls:=.type "slice",data:=.fields #[vl,vu,.none]}} σ H3 x v vl vu l u s3.heap.objs.size Q I4 r1 (Heap.IsSliceOf.new ..) pl pu q3
 show wpAny (model X.prog X.w) X.A (subscriptTail e (.Slice lo hi none p2) v (.ref s3.heap.objs.size)) (EP X pins σ Q) X.xe {s3 with heap:=s3.heap.push {cls:=.type "slice",data:=.fields #[vl,vu,.none]}}
 exact tail_any (ops:=[.ref s3.heap.objs.size,v]) ht hT hg (by with_unfolding_all rfl)
def cutV(xs:List V)(lo hi:Option Int):List V:=(xs.drop (HT.sIx xs.length 0 lo)).take (HT.sIx xs.length xs.length hi-HT.sIx xs.length 0 lo)
theorem cutV_length(xs:List V)(lo hi:Option Int):(cutV xs lo hi).length<=xs.length:=by
 unfold cutV
 rw[List.length_take,List.length_drop]
 omega
def rSlT(K:PySem.W.Frag):V->Option Int->Option Int->Hp->VK->Prop:=fun x lo hi H Q=>∃a xs,x=.ref a/\SqT K H a xs/\
 ¬(HT.sIx xs.length 0 lo=0/\HT.sIx xs.length xs.length hi=xs.length)/\∀p,H p=none->Q (.ref p) (upd H p (.tup (cutV xs lo hi)))
theorem sl_tup:SlR X (rSlT X.K):=by
 intro pins s σ H x v vl vu lo hi sl Q I rx hs pl pu h
 obtain⟨a,xs,rfl,hx,hw,q⟩:=h
 cases rx
 obtain⟨its,r,ht,hz⟩:=I.tuple hx
 have hlen:its.toArray.size=xs.length:=by rw[List.size_toArray];exact r.length.symm
 refine⟨"tuple",_,PyProof.Rows.slot_tuple_getitem.lookup,ht.typeIs,?_⟩
 refine HT.getItem_tuple_cut ht hs pl pu (by rw[hlen];exact hw) ?_ (by rw[hlen];exact hz)
 rw[hlen]
 refine⟨.ref s.heap.objs.size,_,I.laid (t':=s.toks) (o:=.tup (cutV xs lo hi)) (fun b ob q=>Heap.get?_push_of_some _ q) (Nat.le_refl _) ?_,rfl,q _ (I.hok.fresh (Nat.le_refl _))⟩
 exact⟨Nat.le_trans (cutV_length xs lo hi) hz,_,(r.drop (HT.sIx xs.length 0 lo)).take (HT.sIx xs.length xs.length hi-HT.sIx xs.length 0 lo),IsTup.new _ _⟩
end
end L2
namespace L2
open PySem PySem.Spec PyProof.Rows
def ixN(n:Nat)(i:Int):Option Nat:=if 0<=i then(if i<n then some i.toNat else none)else if -(n:Int)<=i then some (i+n).toNat else none
def atI{α:Type}(xs:List α)(i:Int):Option α:=(ixN xs.length i).bind fun j=>xs[j]?
theorem ixN_seq{n:Nat}{i:Int}{j:Nat}(h:ixN n i=some j):seqIndex? i n=some j/\j<n/\-(n:Int)<=i/\i<n:=by
 unfold ixN at h
 by_cases h0:0<=i
 .rw[if_pos h0]at h
  by_cases h1:i<n
  .rw[if_pos h1]at h
   have e:i.toNat=j:=Option.some.inj h
   exact⟨by rw[seqIndex_of h0 h1,e],by omega,by omega,h1⟩
  .rw[if_neg h1]at h;cases h
 .rw[if_neg h0]at h
  by_cases h1:-(n:Int)<=i
  .rw[if_pos h1]at h
   have e:(i+n).toNat=j:=Option.some.inj h
   exact⟨by rw[seqIndex_neg (by omega) h1,e],by omega,h1,by omega⟩
  .rw[if_neg h1]at h;cases h
theorem atI_get{α:Type}{xs:List α}{i:Int}{v:α}(h:atI xs i=some v):∃j,seqIndex? i xs.length=some j/\xs[j]?=some v/\j<xs.length/\-(xs.length:Int)<=i/\i<xs.length:=by
 unfold atI at h
 cases e:ixN xs.length i with
 | none=>rw[e]at h;cases h
 | some j=>
  rw[e]at h
  obtain⟨h1,h2,h3,h4⟩:=ixN_seq e
  exact⟨j,h1,h,h2,h3,h4⟩
theorem atI_nat{α:Type}{xs:List α}{j:Nat}{v:α}(h:xs[j]?=some v):atI xs (j:Int)=some v:=by
 have hj:j<xs.length:=(List.getElem?_eq_some_iff.mp h).1
 have e:ixN xs.length (j:Int)=some j:=by
  unfold ixN
  rw[if_pos (by omega),if_pos (by omega)];simp
 unfold atI;rw[e];exact h
def PlainIx(b:Expr):Prop:=∀o i,subscripted b false o i=operate [o,i] (getItem o i)
def IxR(X:Cx)(r:R2):Prop:=
 ∀(value slice:Expr) (pins:List (Addr×Obj)) (s:Shared) (σ:St) (H:Hp) (x y:V) (v u:Value) (Q:VK),Inv X pins σ H s->RelV x v->RelV y u->r x y H Q->
  subscripted slice false v u=operate [v,u] (getItem v u)->wpAny (model X.prog X.w) X.A (subscriptTail value slice v u) (EP X pins σ Q) X.xe s
def MtR(X:Cx)(id:String)(r:V->List V->Hp->VK->Prop):Prop:=
 ∀(pins:List (Addr×Obj)) (s:Shared) (σ:St) (H:Hp) (x:V) (xs:List V) (v:Value) (us:List Value) (Q:VK),Inv X pins σ H s->RelV x v->Vals xs us->r x xs H Q->
  wpAny (model X.prog X.w) X.A (call (.builtin id) (v::us)) (EP X pins σ Q) X.xe s
section
variable{X:Cx}{a b:Expr}{ta tb:TE}{pos:Pos}
theorem pe_ix{r:R2}(hr:IxR X r)(ha:PE X a ta)(hb:PE X b tb)(hs:PlainIx b):PE X (.Subscript a b pos) (tOp r ta tb):=by
 intro pins s σ H Q I h
 exact Subscript_ (binT ha hb I h fun v u s2 x y H2 I2 rx ry q=>hr a b pins s2 σ H2 x y v u Q I2 rx ry q (hs _ _))
def rIxL(K:PySem.W.Frag):R2:=fun x y H Q=>∃p xs i v,x=.ref p/\y=.int i/\SqL K H p xs/\atI xs i=some v/\Q v H
def rIxT(K:PySem.W.Frag):R2:=fun x y H Q=>∃p xs i v,x=.ref p/\y=.int i/\SqT K H p xs/\atI xs i=some v/\Q v H
def rIxS:R2:=fun x y H Q=>∃z i c,x=.str z/\y=.int i/\z.length<=sizeLine/\atI z.cps.toList i=some c/\Q (.str ⟨#[c]⟩) H
theorem ix_list:IxR X (rIxL X.K):=by
 intro value slice pins s σ H x y v u Q I rx ry h hs
 obtain⟨p,xs,i,z,rfl,rfl,hq,he,q⟩:=h
 cases rx
 obtain⟨t,rfl⟩:=ry
 obtain⟨its,r,pl,hz⟩:=I.list hq
 obtain⟨j,h1,h2,h3,h4,h5⟩:=atI_get he
 obtain⟨w,ew,rw'⟩:=r.get h2
 have hl:=r.length
 have hn:=line63
 have fin:EP X pins σ Q w s:=⟨z,H,I,rw',q⟩
 by_cases h0:0<=i
 .have hj:i.toNat=j:=by
   rw[seqIndex_of h0 h5]at h1
   exact Option.some.inj h1
  exact item_listR pl.isList h0 (by omega) (by rw[hj];simpa using ew) fin hs
 .have hj:(i+(its.toArray.size:Int)).toNat=j:=by
   rw[seqIndex_neg (by omega) h4]at h1
   rw[List.size_toArray,<-hl]
   exact Option.some.inj h1
  exact subscriptTail_builtinR (x:=w) pl.isList.typeIs slot_list_getitem.lookup
   (wpAny_getItem_list_neg (Q:=fun r s'=>r=w/\EP X pins σ Q r s') pl.isList (by omega) (by rw[List.size_toArray]<;>omega) (by omega) (by rw[hj];simpa using ew) ⟨rfl,fin⟩) hs
theorem ix_tup:IxR X (rIxT X.K):=by
 intro value slice pins s σ H x y v u Q I rx ry h hs
 obtain⟨p,xs,i,z,rfl,rfl,hq,he,q⟩:=h
 cases rx
 obtain⟨t,rfl⟩:=ry
 obtain⟨its,r,pl,hz⟩:=I.tuple hq
 obtain⟨j,h1,h2,h3,h4,h5⟩:=atI_get he
 obtain⟨w,ew,rw'⟩:=r.get h2
 have hl:=r.length
 have hn:=line63
 have fin:EP X pins σ Q w s:=⟨z,H,I,rw',q⟩
 exact subscriptTail_builtinR (x:=w) pl.typeIs slot_tuple_getitem.lookup
  (getItem_tuple (j:=j) (Q:=fun r s'=>r=w/\EP X pins σ Q r s') pl (by omega) (by omega) (by rw[List.size_toArray,<-hl];exact h1) (by simpa using ew) ⟨rfl,fin⟩) hs
theorem ix_str:IxR X rIxS:=by
 intro value slice pins s σ H x y v u Q I rx ry h hs
 obtain⟨z,i,c,rfl,rfl,hz,he,q⟩:=h
 obtain⟨t,rfl⟩:=rx
 obtain⟨t',rfl⟩:=ry
 obtain⟨j,h1,h2,h3,h4,h5⟩:=atI_get he
 have hl:z.cps.toList.length=z.length:=by simp[Str.length]
 rw[hl]at h1 h4 h5
 have hn:=line63
 exact tail_any (typeIs_str s z t) slot_str_getitem.lookup (getItem_str (c:=c) (by
  have e1:decide (i < -(2^63:Int))=false:=decide_eq_false (by omega)
  have e2:decide (i>=2^63)=false:=decide_eq_false (by omega)
  rw[e1,e2,Bool.or_false]) (by rw[h1];simpa using h2) ⟨.str ⟨#[c]⟩,H,I.tok _,⟨_,rfl⟩,q⟩) hs
theorem mapSeq_set(its:List Value)(n j:Nat)(u:Value):Obj.mapSeq (·.setIfInBounds j u) {cls:=.type "list",data:=.seq its.toArray n}={cls:=.type "list",data:=.seq (its.set j u).toArray n}:=by
 simp[Obj.mapSeq]
theorem Inv.lst{pins:List (Addr×Obj)}{σ:St}{H:Hp}{s:Shared}{p:Addr}{xs:List V}(I:Inv X pins σ H s)(h:H p=some (.lst xs)) :
  ∃(its:List Value) (n:Nat),Vals xs its/\s.heap.get? p=some {cls:=.type "list",data:=.seq its.toArray n}/\xs.length<=sizeLine:=by
 obtain⟨z,its,n,r,e⟩:=I.hok p _ h
 exact⟨its,n,r,e,z⟩
theorem Inv.lstUpd{pins:List (Addr×Obj)}{σ:St}{H:Hp}{s:Shared}{p:Addr}{xs ys:List V}{its its':List Value}{n n':Nat}{f:Obj->Obj}(I:Inv X pins σ H s)(h:H p=some (.lst xs))
  (ho:s.heap.get? p=some {cls:=.type "list",data:=.seq its.toArray n}) (hf:f {cls:=.type "list",data:=.seq its.toArray n}={cls:=.type "list",data:=.seq its'.toArray n'}) (r:Vals ys its') (hz:ys.length<=sizeLine) (t:Nat) :
  Inv X pins σ (upd H p (.lst ys)) {s with heap:=s.heap.update p f,toks:=t}:=by
 have e:(s.heap.update p f).get? p=some {cls:=.type "list",data:=.seq its'.toArray n'}:=by
  rw[Heap.get?_update_self f ho (by rw[hf]<;>rfl),hf]
 refine I.write (x:=p) (e:=p) (by rw[h];trivial) (.inl rfl) (fun b u hb q=>(Heap.get?_update_other _ _ (Ne.symm hb)).trans q) ⟨_,e⟩ ?_
 exact⟨hz,its',n',r,e⟩
def rSetL:V->V->V->Hp->(Hp->Prop)->Prop:=fun o i v H Q=>∃p xs k j,o=.ref p/\i=.int k/\H p=some (.lst xs)/\ixN xs.length k=some j/\Q (upd H p (.lst (xs.set j v)))
theorem set_list:PSet X rSetL:=by
 intro pins s σ H o i v ov iv u Q I ro ri rv h
 obtain⟨p,xs,k,j,rfl,rfl,hp,hj,q⟩:=h
 cases ro
 obtain⟨t,rfl⟩:=ri
 obtain⟨its,n,r,ho,hz⟩:=I.lst hp
 obtain⟨h1,h2,h3,h4⟩:=ixN_seq hj
 have hl:=r.length
 have hn:=line63
 have I':Inv X pins σ (upd H p (.lst (xs.set j v))) {s with heap:=s.heap.update p (Obj.mapSeq (·.setIfInBounds j u))}:=
  I.lstUpd hp ho (mapSeq_set its n j u) (r.set rv j) (by rw[List.length_set];exact hz) s.toks
 by_cases h0:0<=k
 .have hk:k.toNat=j:=by
   rw[seqIndex_of h0 h4]at h1
   exact Option.some.inj h1
  exact PySem.W.ki_setAt ho h0 (by omega) (by rw[List.size_toArray,<-hl];exact h4) (by rw[hk];exact⟨_,I',q⟩)
 .have hk:(k+(its.toArray.size:Int)).toNat=j:=by
   rw[seqIndex_neg (by omega) h3]at h1
   rw[List.size_toArray,<-hl]
   exact Option.some.inj h1
  exact PySem.W.ki_setBack ho (by omega) (by rw[List.size_toArray,<-hl];exact h3) (by omega) (by rw[hk];exact⟨_,I',q⟩)
theorem slice_bounds(lo hi:Option Int)(n:Nat):(sliceBounds lo hi none n).1=((HT.sIx n 0 lo:Nat):Int)/\(sliceBounds lo hi none n).2.1=((HT.sIx n n hi:Nat):Int)/\(sliceBounds lo hi none n).2.2=1:=by
 refine⟨?_,?_,rfl⟩
 .cases lo with
  | none=>simp[sliceBounds,HT.sIx]
  | some i=>
   simp only[sliceBounds,HT.sIx,Option.getD_none,show(1:Int)>0 by decide,if_true]
   by_cases h:i<0
   .simp only[h,if_true]<;>omega
   .simp only[h,if_false]<;>omega
 .cases hi with
  | none=>simp[sliceBounds,HT.sIx]
  | some i=>
   simp only[sliceBounds,HT.sIx,Option.getD_none,show(1:Int)>0 by decide,if_true]
   by_cases h:i<0
   .simp only[h,if_true]<;>omega
   .simp only[h,if_false]<;>omega
theorem slicePick_cut(its:List Value)(lo hi:Option Int):slicePick its.toArray lo hi none=((its.drop (HT.sIx its.length 0 lo)).take (HT.sIx its.length its.length hi-HT.sIx its.length 0 lo)).toArray:=by
 obtain⟨h1,h2,h3⟩:=slice_bounds lo hi its.toArray.size
 unfold slicePick
 rw[h1,h2,h3]
 simp only[sliceRange_one,pick_run,List.size_toArray]<;>rfl
def rSlL(K:PySem.W.Frag):V->Option Int->Option Int->Hp->VK->Prop:=fun x lo hi H Q=>∃a xs,x=.ref a/\SqL K H a xs/\∀p,H p=none->Q (.ref p) (upd H p (.lst (cutV xs lo hi)))
theorem sl_list:SlR X (rSlL X.K):=by
 intro pins s σ H x v vl vu lo hi sl Q I rx hs pl pu h
 obtain⟨a,xs,rfl,hx,q⟩:=h
 cases rx
 obtain⟨its,r,ht,hz⟩:=I.list hx
 have hlen:=r.length
 refine⟨"list",_,slot_list_getitem.lookup,ht.isList.typeIs,?_⟩
 refine wpAny_getItem_list_slice ht.isList hs pl pu .none (by simp) ?_ (by rw[List.size_toArray]<;>omega)
 rw[slicePick_cut,<-hlen]
 refine⟨.ref s.heap.objs.size,_,I.laid (t':=s.toks) (o:=.lst (cutV xs lo hi)) (fun b ob q=>Heap.get?_push_of_some _ q) (Nat.le_refl _) ?_,rfl,q _ (I.hok.fresh (Nat.le_refl _))⟩
 exact⟨Nat.le_trans (cutV_length xs lo hi) hz,_,0,(r.drop (HT.sIx xs.length 0 lo)).take (HT.sIx xs.length xs.length hi-HT.sIx xs.length 0 lo),Heap.get?_push_size _ rfl⟩
theorem call_len_seq:CallR X (.builtin "len") (fun xs H Q=>∃p ys,xs=[.ref p]/\(SqL X.K H p ys\/SqT X.K H p ys)/\Q (.int ys.length) H):=by
 intro pins s σ H xs us Q I r h
 obtain⟨p,ys,rfl,hq,q⟩:=h
 obtain⟨u,rfl,rx⟩:=vals1 r
 cases rx
 have hn:=line63
 rcases hq with hq|hq
 .obtain⟨its,r',pl,hz⟩:=I.list hq
  have hlen:=r'.length
  exact Calls.call_len_list pl.isList (by simp only[List.size_toArray]<;>omega) ⟨.int ys.length,H,I.tok _,⟨s.toks+1,by rw[List.size_toArray,hlen]⟩,q⟩
 .obtain⟨its,r',pl,hz⟩:=I.tuple hq
  have hlen:=r'.length
  exact len_tuple pl (by simp only[List.size_toArray]<;>omega) ⟨.int ys.length,H,I.tok _,⟨s.toks+1,by rw[List.size_toArray,hlen]⟩,q⟩
theorem call_len_str:CallR X (.builtin "len") (fun xs H Q=>∃z,xs=[.str z]/\z.length<=sizeLine/\Q (.int z.length) H):=by
 intro pins s σ H xs us Q I r h
 obtain⟨z,rfl,hz,q⟩:=h
 obtain⟨u,rfl,t,rfl⟩:=vals1 r
 have hn:=line63
 exact len_str (by omega) ⟨.int z.length,H,I.tok _,⟨_,rfl⟩,q⟩
theorem call_list_of:CallR X (.type "list") (fun xs H Q=>∃p ys,xs=[.ref p]/\(SqL X.K H p ys\/SqT X.K H p ys)/\∀l,H l=none->Q (.ref l) (upd H l (.lst ys))):=by
 intro pins s σ H xs us Q I r h
 obtain⟨p,ys,rfl,hq,q⟩:=h
 obtain⟨u,rfl,rx⟩:=vals1 r
 cases rx
 have fin:∀(its:List Value),Vals ys its->ys.length<=sizeLine->∀(h':Heap) (c':Nat),(∀b o',s.heap.get? b=some o'->h'.get? b=some o')->
   h'.get? s.heap.objs.size=some {cls:=.type "list",dict:=none,data:=.seq its.toArray c',slots:=#[]}->EP X pins σ Q (.ref s.heap.objs.size) {s with heap:=h'}:=fun its r' hz h' c' kp e=>
  ⟨.ref s.heap.objs.size,_,I.laid (t':=s.toks) kp (Nat.le_refl _) (show ObjOk X.prog X.w _ h' _ (.lst ys)from ⟨hz,its,c',r',e⟩),rfl,q _ (I.hok.fresh (Nat.le_refl _))⟩
 rcases hq with hq|hq
 .obtain⟨its,r',pl,hz⟩:=I.list hq
  have hlen:=r'.length
  obtain⟨o,ho,hc,n,hd⟩:=pl.isList
  exact call_list_seq p (.inl rfl) ho hc hd (fun h' c' kp e=>fin its r' hz h' c' kp e) (by simp only[List.size_toArray]<;>omega)
 .obtain⟨its,r',pl,hz⟩:=I.tuple hq
  have hlen:=r'.length
  obtain⟨o,ho,hc,n,hd⟩:=pl
  exact call_list_seq p (.inr rfl) ho hc hd (fun h' c' kp e=>fin its r' hz h' c' kp e) (by simp only[List.size_toArray]<;>omega)
theorem call_tuple_of:CallR X (.type "tuple") (fun xs H Q=>∃p ys,xs=[.ref p]/\((SqL X.K H p ys/\∀l,H l=none->Q (.ref l) (upd H l (.tup ys)))\/(SqT X.K H p ys/\Q (.ref p) H))):=by
 intro pins s σ H xs us Q I r h
 obtain⟨p,ys,rfl,h⟩:=h
 obtain⟨u,rfl,rx⟩:=vals1 r
 cases rx
 rcases h with ⟨hq,q⟩|⟨hq,q⟩
 .obtain⟨its,r',pl,hz⟩:=I.list hq
  have hlen:=r'.length
  refine call_tuple_list pl.isList (fun h' kp=>?_) (by simp only[List.size_toArray]<;>omega)
  have I1:Inv X pins σ H {s with heap:=h'}:=I.kept (t':=s.toks) kp
  have I2:Inv X pins σ (upd H h'.objs.size (.tup ys)) {s with heap:=h'.push {cls:=.type "tuple",data:=.seq its.toArray}}:=
   I1.laid (t':=s.toks) (fun b o e=>Heap.get?_push_of_some _ e) (Nat.le_refl _) (show ObjOk X.prog X.w _ _ _ (.tup ys)from ⟨hz,its,r',IsTup.new _ _⟩)
  exact⟨.ref h'.objs.size,_,I2,rfl,q _ (I1.hok.fresh (Nat.le_refl _))⟩
 .obtain⟨its,r',pl,hz⟩:=I.tuple hq
  exact call_tuple_same pl ⟨.ref p,H,I,rfl,q⟩
def tyV(K:PySem.W.Frag)(T:String)(x:V)(H:Hp):Prop:=match x with
 | .str _=>T="str"
 | .int _=>T="int"
 | .ref p=>(T="list"/\∃xs,SqL K H p xs)\/(T="tuple"/\∃o,K.lookup p=some o/\o.cls=.type "tuple"/\o.dict=none)\/
   (T="dict"/\((∃kvs,H p=some (.dK kvs))\/∃kvs,H p=some (.dT kvs)))\/(T="set"/\∃S n,H p=some (.set S n))
 | _=>False
theorem tyV_is{pins:List (Addr×Obj)}{σ:St}{H:Hp}{s:Shared}{T:String}{x:V}{v:Value}(I:Inv X pins σ H s)(r:RelV x v)(ty:tyV X.K T x H) :
  s.TypeIs v T/\∀a,v=.ref a->∃ob,s.heap.get? a=some ob/\ob.dict=none:=by
 cases x with
 | str z=>
  obtain⟨t,rfl⟩:=r
  cases (show T="str" from ty)
  exact⟨typeIs_str s z t,fun _ e=>nomatch e⟩
 | int i=>
  obtain⟨t,rfl⟩:=r
  cases (show T="int" from ty)
  exact⟨typeIs_int s i t,fun _ e=>nomatch e⟩
 | ref p=>
  cases r
  rcases ty with ⟨rfl,xs,hq⟩|⟨rfl,o,hk,hc,hd⟩|⟨rfl,hk⟩|⟨rfl,S,n,hk⟩
  .obtain⟨its,_,pl,_⟩:=I.list hq
   refine⟨pl.isList.typeIs,fun a e=>?_⟩
   cases e
   obtain⟨o,n,e,c,hd,_⟩:=pl
   exact⟨o,e,hd⟩
  .refine⟨⟨o,I.kIn p o hk,hc⟩,fun a e=>?_⟩
   cases e
   exact⟨o,I.kIn _ o hk,hd⟩
  .have z:∃o,s.heap.get? p=some o/\o.ExactDict:=by
    rcases hk with ⟨kvs,hk⟩|⟨kvs,hk⟩
    .obtain⟨_,_,_,_,o,_,_,e,ex,_⟩:=I.hok p _ hk
     exact⟨o,e,ex⟩
    .obtain⟨_,_,_,_,o,_,_,e,ex,_⟩:=I.hok p _ hk
     exact⟨o,e,ex⟩
   obtain⟨o,e,ex⟩:=z
   refine⟨⟨o,e,ex.1⟩,fun a e2=>?_⟩
   cases e2
   exact⟨o,e,ex.2.1⟩
  .obtain⟨o,_,_,_,e,ex,_⟩:=I.hok p _ hk
   refine⟨⟨o,e,ex.1⟩,fun a e2=>?_⟩
   cases e2
   exact⟨o,e,ex.2.1⟩
 | _=>exact False.elim ty
def tBM0(K:PySem.W.Frag)(T:String)(r:V->List V->Hp->VK->Prop)(to:TE):TE:=fun σ H Q=>to σ H fun x H1=>tyV K T x H1/\r x [] H1 Q
def tBM(K:PySem.W.Frag)(T:String)(r:V->List V->Hp->VK->Prop)(to:TE)(t:TA):TE:=fun σ H Q=>to σ H fun x H1=>tyV K T x H1/\t σ H1 fun xs H2=>r x xs H2 Q
variable{o e:Expr}{es:List Expr}{to:TE}{t:TA}{name:Str}{apos cpos:Pos}{T id:String}{r:V->List V->Hp->VK->Prop}
theorem pe_bm0(pa:PlainAttrs T)(slot:Slot T name id)(hty:typeOf (.builtin id)=pure (.type "method_descriptor"))(hm:MtR X id r)(ho:PE X o to)
  (hbase:attributeBase o name X.env (eval o X.env)=eval o X.env:=by rfl) (hline:(apos.endLine==cpos.line)=true:=by rfl):PE X (.Call (.Attribute o name apos) [] [] cpos) (tBM0 X.K T r to):=by
 intro pins s σ H Q I h
 refine wpAny_Call_method0_late hbase hline (thn (ho pins s σ H _ I h) fun v s1 ⟨x,H1,I1,r1,ty,q1⟩=>?_)
 obtain⟨h1,h2⟩:=tyV_is I1 r1 ty
 exact⟨T,id,pa,slot,hty,h1,h2,Calls.callWith_builtin rfl (PySem.evalArgs_none (hm pins s1 σ H1 x [] v [] Q I1 r1 .nil q1))⟩
theorem pe_bm(pa:PlainAttrs T)(slot:Slot T name id)(hty:typeOf (.builtin id)=pure (.type "method_descriptor"))(hm:MtR X id r)(ho:PE X o to)(ha:PA X (e::es) t)
  (hbase:attributeBase o name X.env (eval o X.env)=eval o X.env:=by rfl)
  (hfew:((backTo cpos (starEach (e::es) X.env)).all (fun x=>!x.1)&&(backToKw cpos (keywordEach [] X.env)).all (fun x=>x.1.isSome)
   && decide ((e::es).length+([]:List Keyword).length+(if ([]:List Keyword).isEmpty then 0 else 1)<30))=true:=by rfl)
  (hline:(apos.endLine==cpos.line)=true:=by rfl) (hs:starEach (e::es) X.env=(false,eval e X.env)::starEach es X.env:=by rfl) (hplain:(backTo cpos (starEach es X.env)).any (·.1)=false:=by rfl) :
  PE X (.Call (.Attribute o name apos) (e::es) [] cpos) (tBM X.K T r to t):=by
 intro pins s σ H Q I h
 refine wpAny_Call_method_late hbase hfew hline rfl (thn (ho pins s σ H _ I h) fun v s1 ⟨x,H1,I1,r1,ty,q1⟩=>?_)
 obtain⟨h1,h2⟩:=tyV_is I1 r1 ty
 refine⟨T,id,pa,slot,hty,h1,h2,?_⟩
 have hA:=ha cpos pins s1 σ H1 _ I1 q1
 rw[hs]at hA⊢
 refine Calls.callWith_builtin (by show(false||(backTo cpos (starEach es X.env)).any (·.1))=false;rw[hplain]<;>rfl) (Calls.evalArgs_plain ?_)
 exact thn hA fun us s2 ⟨vs,H2,I2,r2,q2⟩=>hm pins s2 σ H2 x vs v us Q I2 r1 r2 q2
end
end L2
namespace L2
open PySem PySem.Spec PyProof.Rows
def MtM(X:Cx)(id:String)(r:V->List V->Hp->VK->Prop):Prop:=
 ∀(pins:List (Addr×Obj)) (s:Shared) (σ:St) (H:Hp) (x:V) (xs:List V) (v:Value) (us:List Value) (Q:VK),Inv X pins σ H s->RelV x v->Vals xs us->r x xs H Q->
  wpAny (model X.prog X.w) X.A (call (.builtin id) (v::us)) (EP X pins σ Q) X.xe s
theorem Vals.one:∀{x:V} {us:List Value},Vals [x] us->∃u,us=[u]/\RelV x u
 | _,_,.cons r .nil=>⟨_,rfl,r⟩
theorem Vals.zero:∀{us:List Value},Vals [] us->us=[]
 | _,.nil=>rfl
section
variable{X:Cx}{pins:List (Addr×Obj)}{σ:St}{H:Hp}{s:Shared}{l b:Addr}{xs ys zs:List V}
theorem Inv.lset{its its':List Value}{n:Nat}{f:Array Value->Array Value}{t':Nat}(I:Inv X pins σ H s)(hH:H l=some (.lst xs))
  (e:s.heap.get? l=some {cls:=.type "list",data:=.seq its.toArray n}) (hf:f its.toArray=its'.toArray) (hv:Vals ys its') (hz:ys.length<=sizeLine) :
  Inv X pins σ (upd H l (.lst ys)) {s with heap:=s.heap.update l (Obj.mapSeq f),toks:=t'}:=by
 have q:=PySem.IsL.update e f
 rw[hf]at q
 refine I.write (x:=l) (e:=l) (by rw[hH];exact trivial) (.inl rfl) (fun b' u hb hu=>(Heap.get?_update_other s.heap (Obj.mapSeq f) (Ne.symm hb)).trans hu) ⟨_,q⟩ ?_
 exact⟨hz,its',_,hv,q⟩
theorem Inv.lnew{its:List Value}{t':Nat}(I:Inv X pins σ H s)(hv:Vals ys its)(hz:ys.length<=sizeLine) :
  Inv X pins σ (upd H s.heap.objs.size (.lst ys)) {s with heap:=s.heap.push {cls:=.type "list",data:=.seq its.toArray},toks:=t'}:=
 I.laid (fun _ _ q=>Heap.get?_push_of_some _ q) (Nat.le_refl _) ⟨hz,its,0,hv,Heap.get?_push_size _ rfl⟩
theorem Inv.fresh(I:Inv X pins σ H s):H s.heap.objs.size=none:=I.hok.fresh (Nat.le_refl _)
theorem Inv.lstM(I:Inv X pins σ H s)(hH:H l=some (.lst xs)):xs.length<=sizeLine/\∃(its:List Value) (n:Nat),Vals xs its/\xs.length=its.length/\s.heap.get? l=some {cls:=.type "list",data:=.seq its.toArray n}:=by
 obtain⟨z,its,n,r,e⟩:=I.hok l _ hH
 exact⟨z,its,n,r,r.length,e⟩
end
section
variable{X:Cx}
def rAppend:V->List V->Hp->VK->Prop:=fun x vs H Q=>∃l xs y,x=.ref l/\vs=[y]/\H l=some (.lst xs)/\xs.length<sizeLine/\Q .non (upd H l (.lst (xs++[y])))
theorem mt_append:MtM X "list.append" rAppend:=by
 intro pins s σ H x vs v us Q I rx rv h
 obtain⟨l,xs,y,rfl,rfl,hH,hz,q⟩:=h
 cases rx
 obtain⟨u,rfl,ru⟩:=rv.one
 obtain⟨z,its,n,r,hl,e⟩:=I.lstM hH
 refine call_meets F.slot_list_append ⟨_,e,rfl⟩ F.entry_list_append (F.args_list_append_2 _ _) (PySem.list_append l its.toArray n u (by rw[List.size_toArray];omega)) ⟨e,?_⟩
 refine⟨.non,_,I.lset (its':=its++[u]) hH e (by simp) (r.append (.cons ru .nil)) ?_,rfl,q⟩
 rw[List.length_append,List.length_singleton]
 omega
def rCat:R2:=fun x y H Q=>∃l b xs zs,x=.ref l/\y=.ref b/\H l=some (.lst xs)/\H b=some (.lst zs)/\xs.length+zs.length<=sizeLine/\∀p,H p=none->Q (.ref p) (upd H p (.lst (xs++zs)))
theorem op_cat:OpR X (binaryOp .Add) rCat:=by
 intro pins s σ H x y v u Q I rx ry h
 obtain⟨l,b,xs,zs,rfl,rfl,hH,hB,hz,q⟩:=h
 cases rx
 cases ry
 obtain⟨z,its,n,r,hl,e⟩:=I.lstM hH
 obtain⟨z2,its2,n2,r2,hl2,e2⟩:=I.lstM hB
 refine PySem.P.add_list e e2 ?_ (by rw[List.size_toArray,List.size_toArray];omega)
 have ea:its.toArray++its2.toArray=(its++its2).toArray:=by simp
 rw[ea]
 exact⟨.ref _,_,I.lnew (t':=s.toks) (r.append r2) (by rw[List.length_append];omega),rfl,q _ I.fresh⟩
end
end L2
namespace Att
open PySem PySem.W PySem.Calls PyProof.Rows
theorem ints_of_wellAll{P:Params}{h:Heap}:∀(ns:List Int) (vs:List Value),WellAll P h vs (ns.map WData.int)->IntsAre vs ns:=by
 intro ns
 induction ns with
 | nil=>
  intro vs w
  rw[List.map_nil]at w
  cases w
  exact .nil
 | cons n ns ih=>
  intro vs w
  rw[List.map_cons]at w
  cases w with
  | cons a b=>
   cases a
   exact .cons _ _ (ih _ b)
theorem script_of{l:OpenLaw}{n:Nat}(hn:l.most=some n){P:Params}{h:Heap}{args:List WData}{vals:List Value}
  (hpre:l.row.toRowW.claim.pre args=true) (hwl:WellAll P h vals args) :
  ∃a vs ns,vals=[Value.ref a]/\args=[WData.list (ns.map WData.int)]/\h.get? a=some {cls:=.type "list",data:=.seq vs.toArray}/\IntsAre vs ns/\ns.length<=n:=by
 have hsh:WShape.hasAll [] args [.list .int]=true:=(pre_splitW hpre).1
 have hc:l.pre.holds [] {args:=args}=true:=(pre_splitW hpre).2
 obtain⟨d,r,rfl,h1,h2⟩:=hasAllW_cons hsh
 obtain rfl:=hasAllW_nil h2
 obtain⟨xs,rfl,h3⟩:=hasW_list h1
 obtain⟨ns,rfl⟩:=items_int h3
 have hlen:ns.length<=n:=by
  unfold OpenLaw.pre at hc
  have h4:(WTm.not (.lt (.lit (.int (n:Int))) (.len (.arg 0)))).holds [] {args:=[.list (ns.map .int)]}=true:=by
   have h4:=(holds_andW hc).1
   rw[hn]at h4
   exact h4
  have h5:=condW_of h4 (w_not (w_lt w_lit (w_len_list (w_arg rfl))))
  rw[List.length_map]at h5
  refine Nat.le_of_not_lt fun q=>?_
  have q':(n:Int)<((ns.length:Nat):Int):=by omega
  first
   | (rw[decide_eq_true q']at h5;exact absurd h5 (by decide))
   | (simp at h5;omega)
 cases hwl with
 | cons w1 w2=>
  cases w2
  cases w1 with
  | list ho hall=>exact⟨_,_,ns,rfl,rfl,ho,ints_of_wellAll ns _ hall,hlen⟩
theorem post_true(l:OpenLaw)(args:List WData):l.row.toRowW.claim.post args (.bool true) args=true:=
 postW_of (r:=l.row.toRowW) (X:=(true==true))
  (show WShape.has [] (.bool true) .bool=true by first|rfl|decide|simp[WShape.has,WShape.arms,WShape.armsAll])
  (show(WTm.eq .res (.lit (.bool true))).value [] {args:=args,res:=some (.bool true),after:=args}=some (.bool (true==true))from w_eq_bool (w_res rfl) w_lit) rfl
theorem attach_call{l:OpenLaw}{n:Nat}{q:Program}{loose:List Str}{XP:(Str->Option Value)->Heap->Prop}{YP:World->Heap->Prop}{d:DefRec}
  (hn:l.most=some n) (hdf:d.params.defaults=[])
  (call:∀(w:World) (s₀ s₁:Shared) (mg mb:Str->Option Value) (fa:Addr) (o:Obj) (pm cd doc:Value) (a:Addr) (vs:List Value) (ns:List Int),
   Ground q loose [] XP w s₀ mg mb s₁.heap->YP w s₁.heap->
   s₁.heap.get? fa=some o->o.data=.func (docDef d.name d.params d.body d.scope pm cd doc)->s₁.heap.CodeRec cd d.name->mg d.name=some (.ref fa)->
   s₁.heap.get? a=some {cls:=.type "list",data:=.seq vs.toArray}->IntsAre vs ns->ns.length<=n->s₁.gens=#[]->
   codeAny (model l.prog w) callerA (.call (.ref fa) ⟨[.ref a],[]⟩) (fun r s'=>r=.ok (.ret (.bool true))/\OldK s₁.heap s'.heap/\s'.os=s₁.os/\AllBare s'.gens) s₁) :
  WalkO q loose XP YP l.row.toRowW d [] (fun f vs=>PySem.call f vs):=by
 intro w s₀ s₁ mg mb G Y fa o pm cd doc dV kV ho hd hcd hD hmg hg args vals as hpre hlay hrd hwl hlo
 obtain rfl:dV=.none:=Dflts.none hD hdf
 obtain rfl:kV=.none:=Dflts.noKw hD
 obtain⟨a,vs,ns,rfl,rfl,hobj,hints,hlen⟩:=script_of hn hpre hwl
 refine enter_call (codeAny_mono (call w s₀ s₁ mg mb fa o pm cd doc a vs ns G Y ho (fd_plain hd) hcd hmg hobj hints hlen hg) fun r s' hq=>?_)
 obtain⟨rfl,h2,h3,h4⟩:=hq
 exact⟨.inl ⟨.bool true,.bool true,[],rfl,fun _=>rfl,.bool true,post_true l _,fun _=>⟨List.Pairwise.nil,fun _ hm=>(nomatch hm)⟩⟩,h2,h3,h4⟩
end Att
namespace L2
open PySem PySem.Spec PyProof.Rows
theorem vals_ints:∀{vs:List Value} {ns:List Int},IntsAre vs ns->Vals (ns.map V.int) vs
 | _,_,.nil=>.nil
 | _,_,.cons n t h=>.cons ⟨t,rfl⟩ (vals_ints h)
def Only(H:Hp):Prop:=∀b,H b=none\/∃o xs,H b=some (.frz o (.lst xs))
theorem law_call{P:Program}{w:World}{K:PySem.W.Frag}{mg mb:Str->Option Value}{CX:CXT}{k:Nat}{fa a:Addr}{fd:FuncData}{x:Str}{sp:Sp}{s₁:Shared}{vs:List Value}{ns:List Int}
  (KX:K.In s₁.heap) (hns:s₁.heap.Ns mainGlobals mg) (hb:s₁.heap.Ns builtinsNs mb) (hbb:∀x:Str,x≠"__name__"->mb x=bootBuiltins x) (hlim:s₁.heap.NoLimit) (hg:s₁.gens=#[])
  (ha:s₁.heap.get? a=some {cls:=.type "list",data:=.seq vs.toArray}) (hi:IntsAre vs ns) (hl:ns.length<=sizeLine) (hr:Room k callerA)
  (F:∀base:Heap,K.In base->base.Ns mainGlobals mg->FnOk P w K mg base CX k fa fd [x] sp) (hbind:∀(s:Shared) (u:Value),BindsTo s fd ⟨[u],[]⟩ [(x,u)])
  (hsp:∀H:Hp,Only H->SqL K H a (ns.map V.int)->sp [.ref a] H (fun v _=>v=.bl true) fun _ _ _=>False)
  (hCX:∀H e s',CX [] H s₁ (fun _ _ _=>False) e s'->False) :
  codeAny (model P w) callerA (.call (.ref fa) ⟨[.ref a],[]⟩) (fun r s'=>r=.ok (.ret (.bool true))/\OldK s₁.heap s'.heap/\s'.os=s₁.os/\AllBare s'.gens) s₁:=by
 have rv:=vals_ints hi
 have lenV:=hi.length
 have core:∀H:Hp,Only H->SqL K H a (ns.map V.int)->HOk P w H s₁.heap->(∀b,H b≠none->b=a)->(H a≠none->K.lookup a=none)->
   codeAny (model P w) callerA (.call (.ref fa) ⟨[.ref a],[]⟩) (fun r s'=>r=.ok (.ret (.bool true))/\OldK s₁.heap s'.heap/\s'.os=s₁.os/\AllBare s'.gens) s₁:=by
  intro H hO hS hok hA hK
  have base_of:∀{b:Addr} {o:Obj},s₁.heap.get? b=some o->H b=none->(hidT s₁.heap H).get? b=some o:=fun e n=>hidT_get e n
  have noA:∀{b:Addr} {o:Obj} {es:Array DictEntry} {ep:Nat},s₁.heap.get? b=some o->o.data=.dict es ep->H b=none:=fun{b o es ep} e d=>by
   cases q:H b with
   | none=>rfl
   | some u=>
    have e':b=a:=hA b (by rw[q];simp)
    subst e'
    rw[ha]at e;cases e
    have d':Data.seq vs.toArray _=Data.dict es ep:=d
    cases d'
  have nsK:∀{b:Addr} {m:Str->Option Value},s₁.heap.Ns b m->(hidT s₁.heap H).Ns b m:=fun{b m} ⟨o,es,ep,e,d,r⟩=>⟨o,es,ep,base_of e (noA e d),d,r⟩
  have hKb:K.In (hidT s₁.heap H):=fun b o e=>base_of (KX b o e) (by
   cases q:H b with
   | none=>rfl
   | some u=>
    have e':b=a:=hA b (by rw[q];simp)
    subst e'
    rw[hK (by rw[q];simp)]at e;cases e)
  have hM:Mod K mg (hidT s₁.heap H):=⟨hKb,nsK hns,⟨mb,nsK hb,hbb⟩,let ⟨mc,h1,h2⟩:=hlim;⟨mc,nsK h1,h2⟩⟩
  have e0:Env0 P w K mg (hidT s₁.heap H) callerA [] s₁ H:=⟨rfl,hM,fun b o e=>of_hidT e,Nat.le_of_eq (hidT_size _ _),trivial,fun b hb=>absurd (show b∈([]:List Addr)from hb) (by simp),hok,.of_eq hg⟩
  refine codeAny_mono ((F _ hKb (nsK hns)).run callerA [] s₁ H ⟨[.ref a],[]⟩ [.ref a] [.ref a] _ _ hr e0 (hbind s₁ (.ref a)) (.cons rfl .nil) (hsp H hO hS)) fun r s' h=>?_
  cases r with
  | error e=>exact(hCX H e s' h).elim
  | ok fl=>
   cases fl with
   | next=>exact False.elim h
   | brk=>exact False.elim h
   | cont=>exact False.elim h
   | ret u=>
    obtain⟨v,H',os,bare,un,hok',r',q⟩:=h
    have q':v=.bl true:=q
    subst q'
    obtain rfl:u=Value.bool true:=r'
    refine⟨rfl,OldK.of_keep fun b o e=>?_,os,bare⟩
    cases q:H b with
    | none=>exact un.keep b o e q (by intro z;exact absurd (show b∈([]:List Addr)from z) (by simp)) (by simp)
    | some u=>
     rcases hO b with z|⟨ob,xs,z⟩
     .rw[q]at z;cases z
     .have z2:=un.frzs b ob _ z
      obtain⟨e1,_⟩:=hok b _ z
      obtain⟨e2,_⟩:=hok' b _ z2
      rw[e]at e1;cases e1
      exact e2
 cases hk:K.lookup a with
 | some o=>
  have e:=KX a o hk
  rw[ha]at e
  cases e
  refine core (fun _=>none) (fun _=>.inl rfl) (.inr ⟨_,vs.toArray,_,hk,rfl,rfl,rfl,by rw[List.size_toArray,lenV];exact hl,by simpa using rv⟩) (fun b u z=>by have z':(none:Option HO)=some u:=z;cases z') (fun b z=>absurd rfl z) fun z=>absurd rfl z
 | none=>
  refine core (fun b=>if b=a then some (.frz {cls:=.type "list",data:=.seq vs.toArray} (.lst (ns.map V.int)))else none) (fun b=>?_) (.inl (.inr ⟨{cls:=.type "list",data:=.seq vs.toArray},if_pos rfl⟩)) (fun b u z=>?_) (fun b z=>?_) fun _=>hk
  .by_cases hb:b=a
   .exact .inr ⟨_,_,if_pos hb⟩
   .exact .inl (if_neg hb)
  .by_cases hb:b=a
   .have z':=(if_pos hb).symm.trans z
    cases z'
    subst hb
    exact⟨ha,by rw[List.length_map];exact hl,vs,_,rv,ha⟩
   .have z':=(if_neg hb).symm.trans z
    cases z'
  .by_cases hb:b=a
   .exact hb
   .exact absurd (if_neg hb) z
end L2
namespace L2
open PySem PySem.Spec PyProof.Rows
theorem walk_of{l:PySem.W.OpenLaw}{n k:Nat}{q:Program}{loose:List Str}{XP:(Str->Option Value)->Heap->Prop}{YP:World->Heap->Prop}{d:DefRec}{K:Params->PySem.W.Frag}{CX:World->CXT}{sp:World->Sp}{x:Str}
  (hn:l.most=some n) (hn2:n<=sizeLine) (hdf:d.params.defaults=[]) (hr:Room k callerA)
  (hY:∀(w:World) (h:Heap),YP w h->(K w.params).In h)
  (F:∀(w:World) (mg:Str->Option Value) (fa:Addr) (h:Heap),(K w.params).In h->h.Ns mainGlobals mg->mg d.name=some (.ref fa)->
   ∃fd:FuncData,(∀(s:Shared) (u:Value),BindsTo s fd ⟨[u],[]⟩ [(x,u)])/\
    ∀base:Heap,(K w.params).In base->base.Ns mainGlobals mg->FnOk l.prog w (K w.params) mg base (CX w) k fa fd [x] (sp w))
  (hsp:∀(w:World) (H:Hp) (a:Addr) (ns:List Int),ns.length<=n->Only H->SqL (K w.params) H a (ns.map V.int)->sp w [.ref a] H (fun v _=>v=.bl true) fun _ _ _=>False)
  (hCX:∀(w:World) (H:Hp) (s:Shared) (e:Value) (s':Shared),CX w [] H s (fun _ _ _=>False) e s'->False) :
  PySem.W.WalkO q loose XP YP l.row.toRowW d [] (fun f vs=>PySem.call f vs):=by
 refine Att.attach_call hn hdf fun w s₀ s₁ mg mb fa o pm cd doc a vs ns G Y ho hd hcd hmg hobj hints hlen hg=>?_
 have KX:=hY w _ Y
 obtain⟨fd,hb,hF⟩:=F w mg fa _ KX G.T.g hmg
 exact law_call KX G.T.g G.T.b G.T.builtins G.T.nolimit hg hobj hints (Nat.le_trans hlen hn2) hr hF hb (fun H hO hS=>hsp w H a ns hlen hO hS) fun H e s'=>hCX w H s₁ e s'
end L2
namespace L2
open PySem PySem.Spec PyProof.Rows
def defArgs(s:Stmt):Arguments:=match s with
 | .FunctionDef _ a _ _ _ _ _ _ _ _=>a
 | _=>{posonlyargs:=[],args:=[],vararg:=none,kwonlyargs:=[],kw_defaults:=[],kwarg:=none,defaults:=[]}
def defBody(s:Stmt):List Stmt:=match s with
 | .FunctionDef _ _ b _ _ _ _ _ _ _=>b
 | _=>[]
def defScope(s:Stmt):Scope:=match s with
 | .FunctionDef _ _ _ _ _ _ sc _ _ _=>sc
 | _=>{kind:=.function,names:=[],isGenerator:=false,isCoroutine:=false}
abbrev CX0:CXT:=fun _ _ _ _ _ _=>False
abbrev E0:XK:=fun _ _ _=>False
theorem pass0{X:Cx}:Passes CX0 X E0:=fun _ _ _ _ _ _ _ h=>h.elim
structure Fun(K:PySem.W.Frag)(x qual:Str)(st:Stmt)(f:Addr)(fd:FuncData):Prop where
 ex:∃(oc:Value) (od:Option Addr) (kV doc pm:Value) (an:Option Addr) (cdv ct:Value) (osl:Array (Option Value)),
  fd=PySem.W.fnOf x qual (defArgs st) (defBody st) (defScope st) .none kV doc pm an cdv ct/\K.lookup f=some ⟨oc,od,.func fd,osl⟩/\PySem.W.codeIn K cdv qual=true
 kp:PySem.W.keepIn K (.ref f)=true
section
variable{P:Program}{w:World}{K:PySem.W.Frag}{mg:Str->Option Value}{base:Heap}
theorem Fun.ok{x qual:Str}{st:Stmt}{f:Addr}{fd:FuncData}{N ps:List Str}{k:Nat}{sp:Sp}(F:Fun K x qual st f fd)(S:FnScope N ps (defScope st))(len:∀vs H Q E,sp vs H Q E->vs.length=ps.length)
  (hbody:∀(cdv:Value) (A:Around) (outer:List Env) (s:Shared) (H:Hp) (vs:List V) (Q:VK) (E:XK),Room k (A.deeper (envOfC qual (defScope st) s.heap.objs.size f cdv))->sp vs H Q E->
   ∃t,PSs (cxOf CX0 P w K mg base N qual (defScope st) f cdv A outer s H E).nox (defBody st) t/\t {nx:=fun _ H'=>Q .non H',rt:=Q} (start N vs) H):FnOk P w K mg base CX0 (k+1) f fd ps sp:=by
 obtain⟨oc,od,kV,doc,pm,an,cdv,ct,osl,rfl,lk,hcd⟩:=F.ex
 refine fn_of lk hcd S len fun A outer s H vs Q E hr hsp=>?_
 obtain⟨t,h,q⟩:=hbody cdv A outer s H vs Q E hr hsp
 exact⟨t,h.nox,q⟩
theorem Fun.binds{x qual:Str}{st:Stmt}{f:Addr}{fd:FuncData}{ps:List Str}(F:Fun K x qual st f fd)
  (h:∀(kV doc pm:Value) (an:Option Addr) (cdv ct:Value) (us:List Value),us.length=ps.length->bindArgs (PySem.W.fnOf x qual (defArgs st) (defBody st) (defScope st) .none kV doc pm an cdv ct) ⟨us,[]⟩=pure (ps.zip us)):Binds K fd ps []:=by
 obtain⟨oc,od,kV,doc,pm,an,cdv,ct,osl,rfl,lk,hcd⟩:=F.ex
 exact .all (h kV doc pm an cdv ct)
theorem fun_mk{x qual:Str}{st:Stmt}{f:Addr}{oc:Value}{od an:Option Addr}{osl:Array (Option Value)}{kV doc pm cdv ct:Value}(l:K.lookup f=some ⟨oc,od,.func (PySem.W.fnOf x qual (defArgs st) (defBody st) (defScope st) .none kV doc pm an cdv ct),osl⟩)
  (c:PySem.W.codeIn K cdv qual=true) (k:PySem.W.keepIn K (.ref f)=true):Fun K x qual st f (PySem.W.fnOf x qual (defArgs st) (defBody st) (defScope st) .none kV doc pm an cdv ct):=⟨⟨oc,od,kV,doc,pm,an,cdv,ct,osl,rfl,l,c⟩,k⟩
end
theorem small1000{n:Nat}(h:n<=1000):n<sizeLine:=Nat.lt_of_le_of_lt h (by decide)
section
variable{X:Cx}
theorem pv(i:Nat){x:Str}{pos:Pos}(hN:X.N[i]?=some x:=by rfl)(hv:Vis X.env.scope x:=by first|exact Or.inl rfl|exact Or.inr (Or.inl rfl)|exact Or.inr (Or.inr rfl))(hd:(x==("__debug__" : Str))=false:=by decide)
  (hcd:(x==("__classdict__" : Str))=false:=by decide):PE X (.Name x pos) (tVar i):=pe_var hN hv hd hcd
end
theorem iteF{A B:Prop}(h:B):if false=true then A else B:=by
 rw[if_neg Bool.false_ne_true]
 exact h
theorem iteT{A B:Prop}(h:A):if true=true then A else B:=by
 rw[if_pos rfl]
 exact h
theorem ite2{c A B:Prop}[Decidable c](h1:c->A)(h2:¬c->B):if c then A else B:=by
 by_cases h:c
 .rw[if_pos h]
  exact h1 h
 .rw[if_neg h]
  exact h2 h
def Same(H H':Hp):Prop:=∀b o,H b=some o->H' b=some o
theorem Same.refl(H:Hp):Same H H:=fun _ _ h=>h
theorem Same.trans{H H1 H2:Hp}(a:Same H H1)(b:Same H1 H2):Same H H2:=fun c o h=>b c o (a c o h)
theorem Same.free{H H':Hp}(e:Same H H'){l:Addr}(h:H' l=Option.none):H l=Option.none:=by
 cases q:H l with
 | none=>rfl
 | some o=>
  rw[e l o q]at h
  cases h
end L2
namespace L3
open PySem PyProof.Rows
def gallop':Bool->Keyed->Array Keyed->Nat->Nat->Nat->StateT SortSt Sem (Option Nat):=sortPriv% PySem.Builtin.gallop
def beyond'(left:Bool)(key:Keyed)(arr:Array Keyed)(base i:Nat):StateT SortSt Sem (Option Bool):=do
 let x <-elem' arr (base+i)
 if left then lt' x key else return (<-lt' key x).map (!·)
section
variable{prog:Program}{w:World}{A:Around}{E:Value->Shared->Prop}{s:Shared}
def CmpS(prog:Program)(w:World)(A:Around)(s:Shared)(κ:SortKind)(mem:Keyed->Prop)(lt:Keyed->Keyed->Bool):Prop:=
 ∀x y,mem x->mem y->∀(Q:Bool->Shared->Prop),Q (lt x y) s->wpAny (model prog w) A (keyLt' κ x.1 y.1) Q (fun _ _=>False) s
variable{κ:SortKind}{mem:Keyed->Prop}{lt:Keyed->Keyed->Bool}
theorem wpS_lt(C:CmpS prog w A s κ mem lt){st:SortSt}(hk:kindOf st=κ){x y:Keyed}(hx:mem x)(hy:mem y){Q:Option Bool->SortSt->Prop}(h:Q (some (lt x y)) st):wpS (model prog w) A E s (lt' x y) Q st:=by
 rw[lt'_eq]
 refine wpS_bind (wpS_get ?_)
 rw[hk]
 refine wpS_bind (wpS_lift (wpAny_attempt (wpAny_mono (C x y hx hy (fun b s'=>s'=s/\b=lt x y) ⟨rfl,rfl⟩) (fun b s' hb=>⟨hb.1,?_⟩) fun _ _ z=>z.elim)))
 rw[hb.2]
 exact wpS_pure h
theorem wpS_beyond(C:CmpS prog w A s κ mem lt){st:SortSt}(hk:kindOf st=κ){left:Bool}{key:Keyed}{arr:Array Keyed}{base i:Nat}{x:Keyed}(hx:arr[base+i]?=some x)(hm:mem x)(hy:mem key){Q:Option Bool->SortSt->Prop}(h:Q (some (if left=true then lt x key else !lt key x)) st) :
  wpS (model prog w) A E s (beyond' left key arr base i) Q st:=by
 unfold beyond'
 rw[elem'_eq,hx]
 refine wpS_bind (wpS_pure ?_)
 cases left with
 | true=>exact wpS_lt C hk hm hy h
 | false=>exact wpS_bind (wpS_lt C hk hy hm (wpS_pure h))
theorem wpS_gallop(C:CmpS prog w A s κ mem lt){st:SortSt}(hk:kindOf st=κ){left:Bool}{key:Keyed}{arr:Array Keyed}{base n hint:Nat}(hkey:mem key)
  (harr:∀i,i<n->∃x,arr[base+i]?=some x/\mem x) (hh:hint<n) (B:Nat->Bool) (hB:∀i x,i<n->arr[base+i]?=some x->B i=(if left=true then lt x key else !lt key x))
  (mono:∀i j,i<=j->j<n->B j=true->B i=true) {Q:Option Nat->SortSt->Prop} (h:∀k,k<=n->(∀i,i<k->B i=true)->(∀i,k<=i->i<n->B i=false)->Q (some k) st) :
  wpS (model prog w) A E s (gallop' left key arr base n hint) Q st:=by
 have ask:∀(i:Nat) (Q:Option Bool->SortSt->Prop),i<n->Q (some (B i)) st->wpS (model prog w) A E s (beyond' left key arr base i) Q st:=fun i Q hi q=>by
  obtain⟨x,hx,hm⟩:=harr i hi
  rw[hB i x hi hx]at q
  exact wpS_beyond C hk hx hm hkey q
 have fin:∀(lo hi:Nat) ,lo<=hi->hi<=n->(∀i,i<lo->B i=true)->(∀i,hi<=i->i<n->B i=false)->
   wpS (model prog w) A E s (do
    let mut l:=lo
    let mut r:=hi
    for _ in [0:n] do
     if l>=r then break
     let mid:=l+(r-l)/2
     let some up <-beyond' left key arr base mid|return none
     if up then l:=mid+1 else r:=mid
    return some r) Q st:=by
  intro lo hi h1 h2 h3 h4
  refine wpS_bind (wpS_mono (wpS_forRange (I:=fun x c st'=>st'=st/\∃l r,c=(none,l,r)/\l<=r/\r<=n/\r-l<=n-x/\(∀i,i<l->B i=true)/\(∀i,r<=i->i<n->B i=false))
   (Q:=fun c st'=>st'=st/\∃l r,c=(none,l,r)/\l=r/\r<=n/\(∀i,i<l->B i=true)/\(∀i,r<=i->i<n->B i=false)) ?step ?fin ?init) ?post)
  case init=>exact⟨rfl,lo,hi,rfl,h1,h2,by omega,h3,h4⟩
  case fin=>
   rintro c st' ⟨rfl,l,r,rfl,a1,a2,a3,a4,a5⟩
   exact⟨rfl,l,r,rfl,by omega,a2,a4,a5⟩
  case post=>
   rintro c st' ⟨rfl,l,r,rfl,rfl,a2,a4,a5⟩
   exact wpS_pure (h l a2 a4 a5)
  case step=>
   rintro x c st' _ hx ⟨rfl,l,r,rfl,a1,a2,a3,a4,a5⟩
   dsimp only
   by_cases hge:l>=r
   .rw[if_pos hge]
    exact wpS_pure ⟨rfl,l,r,rfl,by omega,a2,a4,a5⟩
   .rw[if_neg hge]
    refine wpS_bind (ask _ _ (by omega) ?_)
    cases hb:B (l+(r-l)/2)with
    | true=>exact wpS_pure ⟨rfl,l+(r-l)/2+1,r,rfl,by omega,a2,by omega,fun i hi=>mono _ _ (show i<=l+(r-l)/2 by omega) (by omega) hb,a5⟩
    | false=>
     refine wpS_pure ⟨rfl,l,l+(r-l)/2,rfl,by omega,by omega,by omega,a4,fun i hi hn=>?_⟩
     cases hbi:B i with
     | false=>rfl
     | true=>rw[mono _ _ hi hn hbi]at hb;cases hb
 refine wpS_bind (ask hint _ hh ?_)
 cases hb0:B hint with
 | true=>
  dsimp only
  simp only[if_true]
  refine wpS_bind (wpS_mono (wpS_forRange (I:=fun x c st'=>st'=st/\∃lo ofs,c=(none,lo,ofs)/\x+1<=ofs/\lo<ofs/\hint+lo<n/\B (hint+lo)=true)
   (Q:=fun c st'=>st'=st/\∃lo ofs,c=(none,lo,ofs)/\lo<ofs/\hint+lo<n/\B (hint+lo)=true/\(n-hint<=ofs\/(ofs<n-hint/\B (hint+ofs)=false))) ?step ?fin ?init) ?post)
  case init=>exact⟨rfl,0,1,rfl,by omega,by omega,by omega,hb0⟩
  case fin=>
   rintro c st' ⟨rfl,lo,ofs,rfl,a1,a2,a3,a4⟩
   exact⟨rfl,lo,ofs,rfl,a2,a3,a4,.inl (by omega)⟩
  case step=>
   rintro x c st' _ hx ⟨rfl,lo,ofs,rfl,a1,a2,a3,a4⟩
   dsimp only
   by_cases hge:ofs>=n-hint
   .rw[if_pos hge]
    exact wpS_pure ⟨rfl,lo,ofs,rfl,a2,a3,a4,.inl hge⟩
   .rw[if_neg hge]
    refine wpS_bind (ask _ _ (by omega) ?_)
    cases hb:B (hint+ofs)with
    | false=>exact wpS_pure ⟨rfl,lo,ofs,rfl,a2,a3,a4,.inr ⟨by omega,hb⟩⟩
    | true=>exact wpS_pure ⟨rfl,ofs,2*ofs+1,rfl,by omega,by omega,by omega,hb⟩
  case post=>
   rintro c st' ⟨rfl,lo,ofs,rfl,a2,a3,a4,a5⟩
   dsimp only
   refine fin _ _ ?_ ?_ (fun i hi=>mono _ _ (show i<=hint+lo by omega) a3 a4) fun i hi hn=>?_
   .omega
   .omega
   .rcases a5 with h5|⟨h5,h6⟩
    .omega
    .cases hbi:B i with
     | false=>rfl
     | true=>rw[mono _ _ (show hint+ofs<=i by omega) hn hbi]at h6;cases h6
 | false=>
  dsimp only
  simp only[Bool.false_eq_true,if_false]
  refine wpS_bind (wpS_mono (wpS_forRange (I:=fun x c st'=>st'=st/\∃lo ofs,c=(none,lo,ofs)/\x+1<=ofs/\lo<ofs/\lo<=hint/\B (hint-lo)=false)
   (Q:=fun c st'=>st'=st/\∃lo ofs,c=(none,lo,ofs)/\lo<ofs/\lo<=hint/\B (hint-lo)=false/\(hint+1<=ofs\/(ofs<hint+1/\B (hint-ofs)=true))) ?step ?fin ?init) ?post)
  case init=>exact⟨rfl,0,1,rfl,by omega,by omega,by omega,hb0⟩
  case fin=>
   rintro c st' ⟨rfl,lo,ofs,rfl,a1,a2,a3,a4⟩
   exact⟨rfl,lo,ofs,rfl,a2,a3,a4,.inl (by omega)⟩
  case step=>
   rintro x c st' _ hx ⟨rfl,lo,ofs,rfl,a1,a2,a3,a4⟩
   dsimp only
   by_cases hge:ofs>=hint+1
   .rw[if_pos hge]
    exact wpS_pure ⟨rfl,lo,ofs,rfl,a2,a3,a4,.inl hge⟩
   .rw[if_neg hge]
    refine wpS_bind (ask _ _ (by omega) ?_)
    cases hb:B (hint-ofs)with
    | true=>exact wpS_pure ⟨rfl,lo,ofs,rfl,a2,a3,a4,.inr ⟨by omega,hb⟩⟩
    | false=>exact wpS_pure ⟨rfl,ofs,2*ofs+1,rfl,by omega,by omega,by omega,hb⟩
  case post=>
   rintro c st' ⟨rfl,lo,ofs,rfl,a2,a3,a4,a5⟩
   dsimp only
   refine fin _ _ ?_ ?_ (fun i hi=>?_) fun i hi hn=>?_
   .omega
   .omega
   .rcases a5 with h5|⟨h5,h6⟩
    .omega
    .exact mono _ _ (show i<=hint-ofs by omega) (by omega) h6
   .cases hbi:B i with
    | false=>rfl
    | true=>rw[mono _ _ (show hint-lo<=i by omega) hn hbi]at a4;cases a4
end
structure KOrd(lt:Keyed->Keyed->Bool):Prop where
 asy:∀x y,lt x y=true->lt y x=false
 tr:∀x y z,lt y x=false->lt z y=false->lt z x=false
def Srt(lt:Keyed->Keyed->Bool)(l:List Keyed):Prop:=l.Pairwise fun x y=>lt y x=false
structure Mid(lt:Keyed->Keyed->Bool)(la lb out:List Keyed)(ia ib:Nat):Prop where
 perm:out.Perm (la.take ia++lb.take ib)
 srt:Srt lt out
 leA:∀x∈out,∀y∈la.drop ia,lt y x=false
 leB:∀x∈out,∀y∈lb.drop ib,lt y x=false
section
variable{lt:Keyed->Keyed->Bool}{la lb out:List Keyed}{ia ib:Nat}
theorem take_more{l:List Keyed}{i k:Nat}:l.take (i+k)=l.take i++(l.drop i).take k:=by
 rw[List.take_add]
theorem Mid.pushA(m:Mid lt la lb out ia ib)(hA:Srt lt la)(k:Nat)(h:∀x∈(la.drop ia).take k,∀y∈lb.drop ib,lt y x=false):Mid lt la lb (out++(la.drop ia).take k) (ia+k) ib:=by
 have hd:Srt lt (la.drop ia):=List.Pairwise.sublist (List.drop_sublist _ _) hA
 have hs:(la.drop ia).take k++la.drop (ia+k)=la.drop ia:=by
  rw[<-List.drop_drop];exact List.take_append_drop k _
 have hd2:=hd
 unfold Srt at hd2
 rw[<-hs,List.pairwise_append]at hd2
 refine⟨?_,?_,fun x hx y hy=>?_,fun x hx y hy=>?_⟩
 .rw[take_more]
  refine((m.perm.append_right _).trans ?_)
  rw[List.append_assoc,List.append_assoc]
  exact List.Perm.append_left _ List.perm_append_comm
 .exact List.pairwise_append.mpr ⟨m.srt,hd2.1,fun x hx y hy=>m.leA x hx y (List.mem_of_mem_take hy)⟩
 .rcases List.mem_append.mp hx with h1|h1
  .exact m.leA x h1 y (by rw[<-hs];exact List.mem_append_right _ hy)
  .exact hd2.2.2 x h1 y hy
 .rcases List.mem_append.mp hx with h1|h1
  .exact m.leB x h1 y hy
  .exact h x h1 y hy
theorem Mid.pushB(m:Mid lt la lb out ia ib)(hB:Srt lt lb)(k:Nat)(h:∀x∈(lb.drop ib).take k,∀y∈la.drop ia,lt y x=false):Mid lt la lb (out++(lb.drop ib).take k) ia (ib+k):=by
 have hd:Srt lt (lb.drop ib):=List.Pairwise.sublist (List.drop_sublist _ _) hB
 have hs:(lb.drop ib).take k++lb.drop (ib+k)=lb.drop ib:=by
  rw[<-List.drop_drop];exact List.take_append_drop k _
 have hd2:=hd
 unfold Srt at hd2
 rw[<-hs,List.pairwise_append]at hd2
 refine⟨?_,?_,fun x hx y hy=>?_,fun x hx y hy=>?_⟩
 .rw[take_more,<-List.append_assoc]
  exact m.perm.append_right _
 .exact List.pairwise_append.mpr ⟨m.srt,hd2.1,fun x hx y hy=>m.leB x hx y (List.mem_of_mem_take hy)⟩
 .rcases List.mem_append.mp hx with h1|h1
  .exact m.leA x h1 y hy
  .exact h x h1 y hy
 .rcases List.mem_append.mp hx with h1|h1
  .exact m.leB x h1 y (by rw[<-hs];exact List.mem_append_right _ hy)
  .exact hd2.2.2 x h1 y hy
def Merged(lt:Keyed->Keyed->Bool)(la lb out:List Keyed):Prop:=out.Perm (la++lb)/\Srt lt out
theorem Mid.endB(m:Mid lt la lb out ia ib)(hA:Srt lt la)(h:lb.length<=ib):Merged lt la lb (out++la.drop ia):=by
 have hd:Srt lt (la.drop ia):=List.Pairwise.sublist (List.drop_sublist _ _) hA
 refine⟨?_,List.pairwise_append.mpr ⟨m.srt,hd,m.leA⟩⟩
 have e:lb.take ib=lb:=List.take_of_length_le h
 have p:=m.perm.append_right (la.drop ia)
 rw[e,List.append_assoc]at p
 refine p.trans ((List.Perm.append_left _ List.perm_append_comm).trans ?_)
 rw[<-List.append_assoc,List.take_append_drop]
theorem Mid.endA(m:Mid lt la lb out ia ib)(hB:Srt lt lb)(h:la.length<=ia):Merged lt la lb (out++lb.drop ib):=by
 have hd:Srt lt (lb.drop ib):=List.Pairwise.sublist (List.drop_sublist _ _) hB
 refine⟨?_,List.pairwise_append.mpr ⟨m.srt,hd,m.leB⟩⟩
 have e:la.take ia=la:=List.take_of_length_le h
 have p:=m.perm.append_right (lb.drop ib)
 rw[e,List.append_assoc,List.take_append_drop]at p
 exact p
theorem Mid.lastA(m:Mid lt la lb out ia ib)(o:KOrd lt)(hA:Srt lt la)(hB:Srt lt lb)(h:ia+1=la.length)(hl:∀y∈lb,∀x∈la.drop ia,lt y x=true):Merged lt la lb (out++lb.drop ib++la.drop ia):=by
 have m2:=m.pushB hB (lb.length-ib) fun x hx y hy=>o.asy _ _ (hl x (List.mem_of_mem_drop (List.mem_of_mem_take hx)) y hy)
 have e:(lb.drop ib).take (lb.length-ib)=lb.drop ib:=List.take_of_length_le (by rw[List.length_drop];exact Nat.le_refl _)
 rw[e]at m2
 exact m2.endB hA (by omega)
end
def setMinGallop':Nat->StateT SortSt Sem Unit:=sortPriv% PySem.Builtin.setMinGallop
abbrev setGal(st:SortSt)(g:Nat):SortSt:=SortSt.mk' (kindOf st) (arrOf st) (pendingOf st) g (failedOf st)
def mergeLo':Array Keyed->Array Keyed->StateT SortSt Sem (Array Keyed):=sortPriv% PySem.Builtin.mergeLo
def SameG(st st':SortSt):Prop:=kindOf st'=kindOf st/\arrOf st'=arrOf st/\pendingOf st'=pendingOf st/\failedOf st'=failedOf st
theorem SameG.refl(st:SortSt):SameG st st:=⟨rfl,rfl,rfl,rfl⟩
theorem SameG.gal{st st':SortSt}(h:SameG st st')(g:Nat):SameG st (setGal st' g):=h
section
variable{prog:Program}{w:World}{A:Around}{E:Value->Shared->Prop}{s:Shared}
variable{κ:SortKind}{mem:Keyed->Prop}{lt:Keyed->Keyed->Bool}
structure Two(mem:Keyed->Prop)(lt:Keyed->Keyed->Bool)(a b:Array Keyed):Prop where
 mA:∀x∈a.toList,mem x
 mB:∀x∈b.toList,mem x
 sA:Srt lt a.toList
 sB:Srt lt b.toList
 pA:0<a.size
 pB:0<b.size
 first:∀x y,b[0]?=some x->a[0]?=some y->lt x y=true
 last:∀y∈b.toList,∀x,a[a.size-1]?=some x->lt y x=true
theorem gal_at{st:SortSt}{g:Nat}{Q:Unit->SortSt->Prop}(q:Q () (setGal st g)):wpS (model prog w) A E s (setMinGallop' g) Q st:=
 show wpS (model prog w) A E s (modify fun z=>setGal z g) Q st from wpS_modify q
theorem elem_at{arr:Array Keyed}{i:Nat}{x:Keyed}(h:arr[i]?=some x){st:SortSt}{Q:Keyed->SortSt->Prop}(q:Q x st):wpS (model prog w) A E s (elem' arr i) Q st:=by
 rw[elem'_eq,h]
 exact wpS_pure q
theorem drop_at{arr:Array Keyed}{i:Nat}{x:Keyed}(h:arr[i]?=some x):arr.toList.drop i=x::arr.toList.drop (i+1):=by
 obtain⟨hi,e⟩:=Array.getElem?_eq_some_iff.mp h
 have:=List.drop_eq_getElem_cons (l:=arr.toList) (i:=i) (by simpa using hi)
 rw[this]
 simp[e]
theorem srt_head{l:List Keyed}{x:Keyed}{r:List Keyed}(o:KOrd lt)(hs:Srt lt l)(e:l=x::r):∀z∈l,lt z x=false:=by
 subst e
 intro z hz
 rcases List.mem_cons.mp hz with h|h
 .rw[h]
  cases q:lt x x with
  | false=>rfl
  | true=>have:=o.asy _ _ q;rw[q]at this;cases this
 .exact(List.pairwise_cons.mp hs).1 z h
theorem srt_drop{l:List Keyed}(hs:Srt lt l)(i:Nat):Srt lt (l.drop i):=List.Pairwise.sublist (List.drop_sublist _ _) hs
theorem srt_two{arr:Array Keyed}(o:KOrd lt)(hs:Srt lt arr.toList){i j:Nat}{x y:Keyed}(hij:i<=j)(hx:arr[i]?=some x)(hy:arr[j]?=some y):lt y x=false:=by
 have e:=drop_at hx
 have hm:y∈arr.toList.drop i:=by
  rw[List.mem_iff_getElem?]
  exact⟨j-i,by rw[List.getElem?_drop,show i+(j-i)=j by omega];simpa using hy⟩
 exact srt_head o (srt_drop hs i) e y hm
def Live(lt:Keyed->Keyed->Bool)(a b out:Array Keyed)(ia ib:Nat):Prop:=Mid lt a.toList b.toList out.toList ia ib/\ia+1<a.size/\ib<b.size
theorem stepB{a b out:Array Keyed}{ia ib:Nat}{x:Keyed}(o:KOrd lt)(T:Two mem lt a b)(m:Mid lt a.toList b.toList out.toList ia ib)(hx:b[ib]?=some x)(h:∀z∈a.toList.drop ia,lt z x=false) :
  Mid lt a.toList b.toList (out.push x).toList ia (ib+1):=by
 have m2:=m.pushB T.sB 1 fun u hu y hy=>by
  rw[drop_at hx]at hu
  have:u=x:=by simpa using hu
  rw[this]
  exact h y hy
 rw[drop_at hx]at m2
 simpa using m2
theorem stepA{a b out:Array Keyed}{ia ib:Nat}{y:Keyed}(o:KOrd lt)(T:Two mem lt a b)(m:Mid lt a.toList b.toList out.toList ia ib)(hy:a[ia]?=some y)(h:∀z∈b.toList.drop ib,lt z y=false) :
  Mid lt a.toList b.toList (out.push y).toList (ia+1) ib:=by
 have m2:=m.pushA T.sA 1 fun u hu z hz=>by
  rw[drop_at hy]at hu
  have:u=y:=by simpa using hu
  rw[this]
  exact h z hz
 rw[drop_at hy]at m2
 simpa using m2
theorem le_rest{arr:Array Keyed}(o:KOrd lt)(hs:Srt lt arr.toList){i:Nat}{x y:Keyed}(hx:arr[i]?=some x)(h:lt x y=false):∀z∈arr.toList.drop i,lt z y=false:=fun z hz=>
 o.tr y x z h (srt_head o (srt_drop hs i) (drop_at hx) z hz)
theorem doneB{a b out:Array Keyed}{ia ib:Nat}(T:Two mem lt a b)(m:Mid lt a.toList b.toList out.toList ia ib)(h:ib=b.size):Merged lt a.toList b.toList (out++a.extract ia a.size++b.extract ib b.size).toList:=by
 have:=m.endB T.sA (by simp[h])
 have e:List.take (a.size-ia) (a.toList.drop ia)=a.toList.drop ia:=List.take_of_length_le (by simp)
 simpa [h,e]using this
theorem doneA{a b out:Array Keyed}{ia ib:Nat}(T:Two mem lt a b)(m:Mid lt a.toList b.toList out.toList ia ib)(h:ia=a.size):Merged lt a.toList b.toList (out++a.extract ia a.size++b.extract ib b.size).toList:=by
 have:=m.endA T.sB (by simp[h])
 have e:List.take (b.size-ib) (b.toList.drop ib)=b.toList.drop ib:=List.take_of_length_le (by simp)
 simpa [h,e]using this
theorem doneL{a b out:Array Keyed}{ia ib:Nat}(o:KOrd lt)(T:Two mem lt a b)(m:Mid lt a.toList b.toList out.toList ia ib)(h:ia+1=a.size):Merged lt a.toList b.toList (out++b.extract ib b.size++a.extract ia a.size).toList:=by
 have:=m.lastA o T.sA T.sB (by simpa using h) fun y hy x hx=>by
  have hl:a[ia]?=some (a[ia]'(by omega)):=by simp
  rw[drop_at hl,List.drop_eq_nil_of_le (by simp;omega)]at hx
  have e:x=a[ia]'(by omega):=by simpa using hx
  refine T.last y hy x ?_
  rw[e,show a.size-1=ia by omega]
  exact hl
 have e:List.take (a.size-ia) (a.toList.drop ia)=a.toList.drop ia:=List.take_of_length_le (by simp)
 have e2:List.take (b.size-ib) (b.toList.drop ib)=b.toList.drop ib:=List.take_of_length_le (by simp)
 simpa [e,e2]using this
theorem low_take{arr:Array Keyed}{P:Keyed->Prop}{base k:Nat}(h:∀i z,i<k->arr[base+i]?=some z->P z):∀z∈(arr.toList.drop base).take k,P z:=fun z hz=>by
 obtain⟨i,hi⟩:=List.mem_iff_getElem?.mp hz
 have hik:i<k:=by
  have:=(List.getElem?_eq_some_iff.mp hi).1
  rw[List.length_take]at this
  omega
 rw[List.getElem?_take_of_lt hik,List.getElem?_drop]at hi
 exact h i z hik (by simpa using hi)
theorem high_drop{arr:Array Keyed}{P:Keyed->Prop}{base k:Nat}(h:∀i z,k<=i->arr[base+i]?=some z->P z):∀z∈arr.toList.drop (base+k),P z:=fun z hz=>by
 obtain⟨i,hi⟩:=List.mem_iff_getElem?.mp hz
 rw[List.getElem?_drop]at hi
 exact h (k+i) z (by omega) (by rw[<-Nat.add_assoc];simpa using hi)
theorem wpS_galR(C:CmpS prog w A s κ mem lt)(o:KOrd lt){st:SortSt}(hk:kindOf st=κ){key:Keyed}{arr:Array Keyed}{base n hint:Nat}(hkey:mem key)(hn:base+n<=arr.size)(hm:∀i z,i<n->arr[base+i]?=some z->mem z)(hh:hint<n)
  (hs:∀i j y z,i<=j->j<n->arr[base+i]?=some y->arr[base+j]?=some z->lt z y=false) {Q:Option Nat->SortSt->Prop}
  (h:∀k,k<=n->(∀i z,i<k->arr[base+i]?=some z->lt key z=false)->(∀i z,k<=i->i<n->arr[base+i]?=some z->lt key z=true)->Q (some k) st):wpS (model prog w) A E s (gallop' false key arr base n hint) Q st:=by
 have ex:∀i,i<n->∃z,arr[base+i]?=some z:=fun i hi=>⟨arr[base+i]'(by omega),by simp⟩
 refine wpS_gallop C hk hkey (fun i hi=>?_) hh (fun i=>match arr[base+i]? with|some z=>!lt key z|none=>false) (fun i z hi hz=>by simp[hz]) (fun i j hij hj hb=>?_) fun k hkn h1 h2=>h k hkn (fun i z hi hz=>?_) fun i z hi hn' hz=>?_
 .obtain⟨z,hz⟩:=ex i hi
  exact⟨z,hz,hm i z hi hz⟩
 .obtain⟨y,hy⟩:=ex i (by omega)
  obtain⟨z,hz⟩:=ex j hj
  simp only[hz,hy,Bool.not_eq_true']at hb⊢
  exact o.tr _ _ _ (hs i j y z hij hj hy hz) hb
 .have:=h1 i hi
  simpa [hz]using this
 .have:=h2 i hi hn'
  simpa [hz]using this
theorem wpS_galL(C:CmpS prog w A s κ mem lt)(o:KOrd lt){st:SortSt}(hk:kindOf st=κ){key:Keyed}{arr:Array Keyed}{base n hint:Nat}(hkey:mem key)(hn:base+n<=arr.size)(hm:∀i z,i<n->arr[base+i]?=some z->mem z)(hh:hint<n)
  (hs:∀i j y z,i<=j->j<n->arr[base+i]?=some y->arr[base+j]?=some z->lt z y=false) {Q:Option Nat->SortSt->Prop}
  (h:∀k,k<=n->(∀i z,i<k->arr[base+i]?=some z->lt z key=true)->(∀i z,k<=i->i<n->arr[base+i]?=some z->lt z key=false)->Q (some k) st):wpS (model prog w) A E s (gallop' true key arr base n hint) Q st:=by
 have ex:∀i,i<n->∃z,arr[base+i]?=some z:=fun i hi=>⟨arr[base+i]'(by omega),by simp⟩
 refine wpS_gallop C hk hkey (fun i hi=>?_) hh (fun i=>match arr[base+i]? with|some z=>lt z key|none=>false) (fun i z hi hz=>by simp[hz]) (fun i j hij hj hb=>?_) fun k hkn h1 h2=>h k hkn (fun i z hi hz=>?_) fun i z hi hn' hz=>?_
 .obtain⟨z,hz⟩:=ex i hi
  exact⟨z,hz,hm i z hi hz⟩
 .obtain⟨y,hy⟩:=ex i (by omega)
  obtain⟨z,hz⟩:=ex j hj
  simp only[hz,hy]at hb⊢
  cases q:lt y key with
  | true=>rfl
  | false=>rw[o.tr _ _ _ q (hs i j y z hij hj hy hz)]at hb;cases hb
 .have:=h1 i hi
  simpa [hz]using this
 .have:=h2 i hi hn'
  simpa [hz]using this
theorem wpS_mergeLo(C:CmpS prog w A s κ mem lt)(o:KOrd lt){st:SortSt}(hk:kindOf st=κ){a b:Array Keyed}(T:Two mem lt a b){Q:Array Keyed->SortSt->Prop}
  (h:∀out st',SameG st st'->Merged lt a.toList b.toList out.toList->Q out st'):wpS (model prog w) A E s (mergeLo' a b) Q st:=by
 refine wpS_bind (wpS_lift (wpAny_rule ⟨rfl,?_⟩))
 have hb0:b[0]?=some (b[0]'T.pB):=by simp[T.pB]
 have ha0:a[0]?=some (a[0]'T.pA):=by simp[T.pA]
 refine wpS_bind (elem_at hb0 ?_)
 have m0:Mid lt a.toList b.toList (#[]:Array Keyed).toList 0 0:=⟨by simp,List.Pairwise.nil,by simp,by simp⟩
 have m1:=stepB o T m0 hb0 fun z hz=>o.tr _ _ _ (o.asy _ _ (T.first _ _ hb0 ha0)) (srt_head o (srt_drop T.sA 0) (drop_at ha0) z hz)
 dsimp only
 by_cases hb1:(1==b.size)=true
 .rw[if_pos hb1]
  exact wpS_pure (h _ _ (SameG.refl _) (doneB T m1 (by simpa using hb1)))
 rw[if_neg hb1]
 by_cases ha1:(0+1==a.size)=true
 .rw[if_pos ha1]
  exact wpS_pure (h _ _ (SameG.refl _) (doneL o T m1 (by simpa using ha1)))
 rw[if_neg ha1]
 have hb2:1<b.size:=by have:¬1=b.size:=by simpa using hb1
                       have:=T.pB
                       omega
 have ha2:0+1<a.size:=by have:¬0+1=a.size:=by simpa using ha1
                         have:=T.pA
                         omega
 refine wpS_bind (wpS_get ?_)
 refine wpS_bind (wpS_mono (wpS_forRange (I:=fun x c st'=>SameG st st'/\∃out ia ib mg,c=(none,out,ia,ib,mg)/\Live lt a b out ia ib/\x+1<=ia+ib)
  (Q:=fun c st'=>SameG st st'/\∃res r,c=(some res,r)/\Merged lt a.toList b.toList res.toList) ?step ?fin ?init) ?post)
 case init=>exact⟨SameG.refl _,_,_,_,_,rfl,⟨m1,ha2,hb2⟩,Nat.le_refl _⟩
 case fin=>
  rintro c st' ⟨_,out,ia,ib,mg,rfl,⟨_,h1,h2⟩,h3⟩
  omega
 case post=>
  rintro c st' ⟨sg,res,r,rfl,hm⟩
  exact wpS_pure (h _ _ sg hm)
 case step=>
  rintro x c st' _ hx ⟨sg,out,ia,ib,mg,rfl,L,hp⟩
  dsimp only
  refine wpS_bind (wpS_mono (wpS_forRange (I:=fun y c st'=>SameG st st'/\∃out' ia' ib' ac bc,c=(none,out',ia',ib',ac,bc)/\Live lt a b out' ia' ib'/\ia+ib<=ia'+ib')
   (Q:=fun c st'=>SameG st st'/\((∃res r,c=(some res,r)/\Merged lt a.toList b.toList res.toList)\/∃out' ia' ib' ac bc,c=(none,out',ia',ib',ac,bc)/\Live lt a b out' ia' ib'/\ia+ib<=ia'+ib')) ?istep ?ifin ?iinit) ?ipost)
  case iinit=>exact⟨sg,_,_,_,_,_,rfl,L,Nat.le_refl _⟩
  case ifin=>
   rintro c st2 ⟨sg2,rest⟩
   exact⟨sg2,.inr rest⟩
  case istep=>
   rintro y c st2 _ hy ⟨sg2,out',ia',ib',ac,bc,rfl,⟨m,l1,l2⟩,hp'⟩
   dsimp only
   have hxb:b[ib']?=some (b[ib']'l2):=by simp[l2]
   have hxa:a[ia']?=some (a[ia']'(by omega)):=by simp
   refine wpS_bind (elem_at hxb (wpS_bind (elem_at hxa (wpS_bind (wpS_lt C (sg2.1.trans hk) (T.mB _ (by simp)) (T.mA _ (by simp)) ?_)))))
   cases hl:lt b[ib'] a[ia']with
   | true=>
    dsimp only
    simp only[if_true]
    refine wpS_bind (elem_at hxb ?_)
    have m2:=stepB o T m hxb (le_rest o T.sA hxa (o.asy _ _ hl))
    try dsimp only
    by_cases he:(ib'+1==b.size)=true
    .rw[if_pos he]
     exact wpS_pure ⟨sg2,.inl ⟨_,_,rfl,doneB T m2 (by simpa using he)⟩⟩
    .rw[if_neg he]
     have he':¬ib'+1=b.size:=by simpa using he
     have L2:Live lt a b (out'.push b[ib']) ia' (ib'+1):=⟨m2,l1,by omega⟩
     split
     .exact wpS_pure ⟨sg2,.inr ⟨_,_,_,_,_,rfl,L2,by omega⟩⟩
     .exact wpS_pure ⟨sg2,_,_,_,_,_,rfl,L2,by omega⟩
   | false=>
    dsimp only
    simp only[Bool.false_eq_true,if_false]
    refine wpS_bind (elem_at hxa ?_)
    have m2:=stepA o T m hxa (le_rest o T.sB hxb hl)
    try dsimp only
    by_cases he:(ia'+1+1==a.size)=true
    .rw[if_pos he]
     exact wpS_pure ⟨sg2,.inl ⟨_,_,rfl,doneL o T m2 (by simpa using he)⟩⟩
    .rw[if_neg he]
     have he':¬ia'+1+1=a.size:=by simpa using he
     have L2:Live lt a b (out'.push a[ia']) (ia'+1) ib':=⟨m2,by omega,l2⟩
     split
     .exact wpS_pure ⟨sg2,.inr ⟨_,_,_,_,_,rfl,L2,by omega⟩⟩
     .exact wpS_pure ⟨sg2,_,_,_,_,_,rfl,L2,by omega⟩
  case ipost=>
   rintro c st2 ⟨sg2,(⟨res,r,rfl,hm⟩|⟨out',ia',ib',ac,bc,rfl,L2,hp2⟩)⟩
   .dsimp only
    exact wpS_pure ⟨sg2,_,_,rfl,hm⟩
   .dsimp only
    refine wpS_bind (wpS_lift (wpAny_rule ⟨rfl,?_⟩))
    refine wpS_bind (wpS_mono (wpS_forRange (I:=fun y c st'=>SameG st st'/\∃out2 ia2 ib2 mg2 ac bc,c=(none,out2,ia2,ib2,mg2,ac,bc)/\Live lt a b out2 ia2 ib2/\ia'+ib'+y<=ia2+ib2)
     (Q:=fun c st'=>SameG st st'/\((∃res r,c=(some res,r)/\Merged lt a.toList b.toList res.toList)\/∃out2 ia2 ib2 mg2 ac bc,c=(none,out2,ia2,ib2,mg2,ac,bc)/\Live lt a b out2 ia2 ib2/\ia'+ib'+1<=ia2+ib2)) ?jstep ?jfin ?jinit) ?jpost)
    case jinit=>exact⟨sg2,_,_,_,_,_,_,rfl,L2,Nat.le_refl _⟩
    case jfin=>
     rintro c st3 ⟨sg3,out2,ia2,ib2,mg2,ac2,bc2,rfl,L3,hp3⟩
     exact⟨sg3,.inr ⟨_,_,_,_,_,_,rfl,L3,by have:=T.pA;omega⟩⟩
    case jpost=>
     rintro c st3 ⟨sg3,(⟨res,r,rfl,hm⟩|⟨out2,ia2,ib2,mg2,ac2,bc2,rfl,L3,hp3⟩)⟩
     .dsimp only
      exact wpS_pure ⟨sg3,_,_,rfl,hm⟩
     .dsimp only
      refine wpS_bind (gal_at ?_)
      exact wpS_pure ⟨sg3.gal _,_,_,_,_,rfl,L3,by omega⟩
    case jstep=>
     rintro y c st3 _ hy ⟨sg3,out2,ia2,ib2,mg2,ac2,bc2,rfl,⟨m3,l3,l4⟩,hp3⟩
     dsimp only
     have hxb:b[ib2]?=some (b[ib2]'l4):=by simp[l4]
     have memA:∀i z,a[i]?=some z->mem z:=fun i z hz=>T.mA z (by obtain⟨h1,h2⟩:=Array.getElem?_eq_some_iff.mp hz;rw[<-h2];simp)
     have memB:∀i z,b[i]?=some z->mem z:=fun i z hz=>T.mB z (by obtain⟨h1,h2⟩:=Array.getElem?_eq_some_iff.mp hz;rw[<-h2];simp)
     have body:∀(mg3:Nat) (st4:SortSt),SameG st st4->∀(k:Nat),k<=a.size-ia2->(∀i z,i<k->a[ia2+i]?=some z->lt b[ib2] z=false)->(∀i z,k<=i->i<a.size-ia2->a[ia2+i]?=some z->lt b[ib2] z=true)->
       ∃out3:Array Keyed,out3=out2++a.extract ia2 (ia2+k)/\Mid lt a.toList b.toList out3.toList (ia2+k) ib2/\∀z∈a.toList.drop (ia2+k),lt z b[ib2]=false:=by
      intro mg3 st4 sg4 k hkn h1 h2
      refine⟨_,rfl,?_,?_⟩
      .have m4:=m3.pushA T.sA k fun z hz y hy=>le_rest o T.sB hxb (low_take (P:=fun z=>lt b[ib2] z=false) h1 z hz) y hy
       have e:(out2++a.extract ia2 (ia2+k)).toList=out2.toList++(a.toList.drop ia2).take k:=by
        simp
       rw[e]
       exact m4
      .exact high_drop (P:=fun z=>lt z b[ib2]=false) fun i z hi hz=>o.asy _ _ (h2 i z hi (by have:=(Array.getElem?_eq_some_iff.mp hz).1;omega) hz)
     have rest2:∀(out4:Array Keyed) (ia3 ib3 mg3 k k1:Nat) (st4:SortSt),SameG st st4->Mid lt a.toList b.toList out4.toList ia3 ib3->ia3+1<a.size->ib3<b.size->(∀z,a[ia3]?=some z->∀u∈b.toList.drop ib3,lt u z=false)->ia'+ib'+y+1<=ia3+ib3->
       wpS (model prog w) A E s (do
        let z2 <-elem' a ia3
        if (ia3+1+1==a.size)=true then
         pure (ForInStep.done (some (out4.push z2++b.extract ib3 b.size++a.extract (ia3+1) a.size),out4.push z2,ia3+1,ib3,mg3,k,k1))
        else if (decide (k<7)&&decide (k1<7))=true then pure (ForInStep.done (none,out4.push z2,ia3+1,ib3,mg3,k,k1))
        else pure (ForInStep.yield (none,out4.push z2,ia3+1,ib3,mg3,k,k1)))
       (fun r st'=>match r with
        | .done c'=>SameG st st'/\((∃res r,c'=(some res,r)/\Merged lt a.toList b.toList res.toList)\/∃out2 ia2 ib2 mg2 ac bc,c'=(none,out2,ia2,ib2,mg2,ac,bc)/\Live lt a b out2 ia2 ib2/\ia'+ib'+1<=ia2+ib2)
        | .yield c'=>SameG st st'/\∃out2 ia2 ib2 mg2 ac bc,c'=(none,out2,ia2,ib2,mg2,ac,bc)/\Live lt a b out2 ia2 ib2/\ia'+ib'+(y+1)<=ia2+ib2) st4:=by
      intro out4 ia3 ib3 mg3 k k1 st4 sg4 m5 l5 l6 hu hp5
      have hxa:a[ia3]?=some (a[ia3]'(by omega)):=by simp
      refine wpS_bind (elem_at hxa ?_)
      have m6:=stepA o T m5 hxa (hu _ hxa)
      by_cases he:(ia3+1+1==a.size)=true
      .rw[if_pos he]
       exact wpS_pure ⟨sg4,.inl ⟨_,_,rfl,doneL o T m6 (by simpa using he)⟩⟩
      .rw[if_neg he]
       have he':¬ia3+1+1=a.size:=by simpa using he
       have L6:Live lt a b (out4.push a[ia3]) (ia3+1) ib3:=⟨m6,by omega,l6⟩
       split
       .exact wpS_pure ⟨sg4,.inr ⟨_,_,_,_,_,_,rfl,L6,by omega⟩⟩
       .exact wpS_pure ⟨sg4,_,_,_,_,_,_,rfl,L6,by omega⟩
     have rest:∀(out3:Array Keyed) (ia3 mg3 k:Nat) (st4:SortSt),SameG st st4->Mid lt a.toList b.toList out3.toList ia3 ib2->ia3+1<a.size->(∀z∈a.toList.drop ia3,lt z b[ib2]=false)->ia'+ib'+y<=ia3+ib2->
       wpS (model prog w) A E s (do
        let z <-elem' b ib2
        if (ib2+1==b.size)=true then
         pure (ForInStep.done (some (out3.push z++a.extract ia3 a.size++b.extract (ib2+1) b.size),out3.push z,ia3,ib2+1,mg3,k,bc2))
        else do
         let z1 <-elem' a ia3
         let x <-gallop' true z1 b (ib2+1) (b.size-(ib2+1)) 0
         match x with
         | some k1=>
          if k1>0 then
           if (ib2+1+k1==b.size)=true then
            pure (ForInStep.done (some (out3.push z++b.extract (ib2+1) (ib2+1+k1)++a.extract ia3 a.size++b.extract (ib2+1+k1) b.size),out3.push z++b.extract (ib2+1) (ib2+1+k1),ia3,ib2+1+k1,mg3,k,k1))
           else do
            let z2 <-elem' a ia3
            if (ia3+1+1==a.size)=true then
             pure (ForInStep.done (some ((out3.push z++b.extract (ib2+1) (ib2+1+k1)).push z2++b.extract (ib2+1+k1) b.size++a.extract (ia3+1) a.size),(out3.push z++b.extract (ib2+1) (ib2+1+k1)).push z2,ia3+1,ib2+1+k1,mg3,k,k1))
            else if (decide (k<7)&&decide (k1<7))=true then pure (ForInStep.done (none,(out3.push z++b.extract (ib2+1) (ib2+1+k1)).push z2,ia3+1,ib2+1+k1,mg3,k,k1))
            else pure (ForInStep.yield (none,(out3.push z++b.extract (ib2+1) (ib2+1+k1)).push z2,ia3+1,ib2+1+k1,mg3,k,k1))
          else do
           let z2 <-elem' a ia3
           if (ia3+1+1==a.size)=true then
            pure (ForInStep.done (some ((out3.push z).push z2++b.extract (ib2+1) b.size++a.extract (ia3+1) a.size),(out3.push z).push z2,ia3+1,ib2+1,mg3,k,k1))
           else if (decide (k<7)&&decide (k1<7))=true then pure (ForInStep.done (none,(out3.push z).push z2,ia3+1,ib2+1,mg3,k,k1))
           else pure (ForInStep.yield (none,(out3.push z).push z2,ia3+1,ib2+1,mg3,k,k1))
         | _=>pure (ForInStep.done (some (out3.push z++a.extract ia3 a.size++b.extract (ib2+1) b.size),out3.push z,ia3,ib2+1,mg3,k,bc2)))
       (fun r st'=>match r with
        | .done c'=>SameG st st'/\((∃res r,c'=(some res,r)/\Merged lt a.toList b.toList res.toList)\/∃out2 ia2 ib2 mg2 ac bc,c'=(none,out2,ia2,ib2,mg2,ac,bc)/\Live lt a b out2 ia2 ib2/\ia'+ib'+1<=ia2+ib2)
        | .yield c'=>SameG st st'/\∃out2 ia2 ib2 mg2 ac bc,c'=(none,out2,ia2,ib2,mg2,ac,bc)/\Live lt a b out2 ia2 ib2/\ia'+ib'+(y+1)<=ia2+ib2) st4:=by
      intro out3 ia3 mg3 k st4 sg4 m4 l5 hz4 hp4
      refine wpS_bind (elem_at hxb ?_)
      have m5:=stepB o T m4 hxb hz4
      by_cases he:(ib2+1==b.size)=true
      .rw[if_pos he]
       exact wpS_pure ⟨sg4,.inl ⟨_,_,rfl,doneB T m5 (by simpa using he)⟩⟩
      rw[if_neg he]
      have he':¬ib2+1=b.size:=by simpa using he
      have hxa:a[ia3]?=some (a[ia3]'(by omega)):=by simp
      refine wpS_bind (elem_at hxa ?_)
      refine wpS_bind (wpS_galL (st:=st4) (base:=ib2+1) (n:=b.size-(ib2+1)) (hint:=0) C o (sg4.1.trans hk) (memA _ _ hxa) (by omega) (fun i z hi hz=>memB _ z hz) (by omega) (fun i j y z hij hj hy hz=>srt_two o T.sB (show ib2+1+i<=ib2+1+j by omega) hy hz) fun k1 hkn h1 h2=>?_)
      dsimp only
      have m6:=m5.pushB T.sB k1 fun z hz u hu=>le_rest o T.sA hxa (o.asy _ _ (low_take (P:=fun z=>lt z a[ia3]=true) h1 z hz)) u hu
      have e6:(out3.push b[ib2]++b.extract (ib2+1) (ib2+1+k1)).toList=(out3.push b[ib2]).toList++(b.toList.drop (ib2+1)).take k1:=by simp
      rw[<-e6]at m6
      have hu6:∀z,a[ia3]?=some z->∀u∈b.toList.drop (ib2+1+k1),lt u z=false:=fun z hz=>by
       rw[hxa]at hz
       cases hz
       exact high_drop (P:=fun u=>lt u a[ia3]=false) fun i z hi hz=>h2 i z hi (by have:=(Array.getElem?_eq_some_iff.mp hz).1;omega) hz
      by_cases hk0:k1>0
      .rw[if_pos hk0]
       by_cases he2:(ib2+1+k1==b.size)=true
       .rw[if_pos he2]
        exact wpS_pure ⟨sg4,.inl ⟨_,_,rfl,doneB T m6 (by simpa using he2)⟩⟩
       .rw[if_neg he2]
        have he3:¬ib2+1+k1=b.size:=by simpa using he2
        exact rest2 _ ia3 (ib2+1+k1) mg3 k k1 st4 sg4 m6 l5 (by omega) hu6 (by omega)
      .rw[if_neg hk0]
       have e0:k1=0:=by omega
       subst e0
       exact rest2 _ ia3 (ib2+1) mg3 k 0 st4 sg4 m5 l5 (by omega) hu6 (by omega)
     by_cases hmg:mg2>1
     .rw[if_pos hmg]
      refine wpS_bind (gal_at ?_)
      have sg4:SameG st (setGal st3 (mg2-1)):=sg3.gal _
      refine wpS_bind (elem_at hxb ?_)
      refine wpS_bind (wpS_galR (st:=setGal st3 (mg2-1)) (base:=ia2) (n:=a.size-ia2) (hint:=0) C o (sg4.1.trans hk) (memB _ _ hxb) (by omega) (fun i z hi hz=>memA _ z hz) (by omega) (fun i j y z hij hj hy hz=>srt_two o T.sA (show ia2+i<=ia2+j by omega) hy hz) fun k hkn h1 h2=>?_)
      obtain⟨out3,e3,m4,hz4⟩:=body 0 st3 sg3 k hkn h1 h2
      dsimp only
      by_cases hk0:k>0
      .rw[if_pos hk0,<-e3]
       by_cases he:(ia2+k+1==a.size)=true
       .rw[if_pos he]
        exact wpS_pure ⟨sg4,.inl ⟨_,_,rfl,doneL o T m4 (by simpa using he)⟩⟩
       rw[if_neg he]
       have he':¬ia2+k+1=a.size:=by simpa using he
       by_cases he2:(ia2+k==a.size)=true
       .rw[if_pos he2]
        exact wpS_pure ⟨sg4,.inl ⟨_,_,rfl,doneA T m4 (by simpa using he2)⟩⟩
       rw[if_neg he2]
       have he3:¬ia2+k=a.size:=by simpa using he2
       refine wpS_mono (rest out3 (ia2+k) (mg2-1) k _ sg4 m4 (by omega) hz4 (by omega)) fun r st' hr=>?_
       cases r<;>exact hr
      .rw[if_neg hk0]
       have e0:k=0:=by omega
       subst e0
       have e5:out3=out2:=Array.ext' (by rw[e3];simp)
       rw[e5]at m4
       refine wpS_mono (rest out2 ia2 (mg2-1) 0 _ sg4 m4 l3 hz4 hp3) fun r st' hr=>?_
       cases r<;>exact hr
     .rw[if_neg hmg]
      refine wpS_bind (gal_at ?_)
      have sg4:SameG st (setGal st3 (mg2)):=sg3.gal _
      refine wpS_bind (elem_at hxb ?_)
      refine wpS_bind (wpS_galR (st:=setGal st3 (mg2)) (base:=ia2) (n:=a.size-ia2) (hint:=0) C o (sg4.1.trans hk) (memB _ _ hxb) (by omega) (fun i z hi hz=>memA _ z hz) (by omega) (fun i j y z hij hj hy hz=>srt_two o T.sA (show ia2+i<=ia2+j by omega) hy hz) fun k hkn h1 h2=>?_)
      obtain⟨out3,e3,m4,hz4⟩:=body 0 st3 sg3 k hkn h1 h2
      dsimp only
      by_cases hk0:k>0
      .rw[if_pos hk0,<-e3]
       by_cases he:(ia2+k+1==a.size)=true
       .rw[if_pos he]
        exact wpS_pure ⟨sg4,.inl ⟨_,_,rfl,doneL o T m4 (by simpa using he)⟩⟩
       rw[if_neg he]
       have he':¬ia2+k+1=a.size:=by simpa using he
       by_cases he2:(ia2+k==a.size)=true
       .rw[if_pos he2]
        exact wpS_pure ⟨sg4,.inl ⟨_,_,rfl,doneA T m4 (by simpa using he2)⟩⟩
       rw[if_neg he2]
       have he3:¬ia2+k=a.size:=by simpa using he2
       refine wpS_mono (rest out3 (ia2+k) (mg2) k _ sg4 m4 (by omega) hz4 (by omega)) fun r st' hr=>?_
       cases r<;>exact hr
      .rw[if_neg hk0]
       have e0:k=0:=by omega
       subst e0
       have e5:out3=out2:=Array.ext' (by rw[e3];simp)
       rw[e5]at m4
       refine wpS_mono (rest out2 ia2 (mg2) 0 _ sg4 m4 l3 hz4 hp3) fun r st' hr=>?_
       cases r<;>exact hr
end
structure MidH(lt:Keyed->Keyed->Bool)(la lb R:List Keyed)(na nb:Nat):Prop where
 perm:R.Perm (la.drop na++lb.drop nb)
 srt:Srt lt R
 geA:∀x∈la.take na,∀y∈R,lt y x=false
 geB:∀x∈lb.take nb,∀y∈R,lt y x=false
section
variable{lt:Keyed->Keyed->Bool}{la lb R:List Keyed}{na nb:Nat}
theorem take_cut{l:List Keyed}{i n:Nat}(h:i<=n):l.take i++(l.take n).drop i=l.take n:=by
 have:=List.take_append_drop i (l.take n)
 rw[List.take_take,Nat.min_eq_left h]at this
 exact this
theorem cut_drop{l:List Keyed}{i n:Nat}(h:i<=n):(l.take n).drop i++l.drop n=l.drop i:=by
 have e:=List.take_append_drop n l
 have:=congrArg (List.drop i) e
 rw[List.drop_append]at this
 by_cases hl:n<=l.length
 .rw[List.length_take,Nat.min_eq_left hl,show i-n=0 by omega,List.drop_zero]at this
  exact this
 .rw[List.drop_eq_nil_of_le (show l.length<=n by omega),List.append_nil,List.take_of_length_le (by omega)]
theorem MidH.pushA(m:MidH lt la lb R na nb)(hA:Srt lt la){i:Nat}(hi:i<=na)(h:∀x∈lb.take nb,∀y∈(la.take na).drop i,lt y x=false):MidH lt la lb ((la.take na).drop i++R) i nb:=by
 have ht:Srt lt (la.take na):=List.Pairwise.sublist (List.take_sublist _ _) hA
 have hs:=take_cut (l:=la) hi
 have ht2:=ht
 unfold Srt at ht2
 rw[<-hs,List.pairwise_append]at ht2
 refine⟨?_,?_,fun x hx y hy=>?_,fun x hx y hy=>?_⟩
 .rw[<-cut_drop (l:=la) hi,List.append_assoc]
  exact List.Perm.append_left _ m.perm
 .exact List.pairwise_append.mpr ⟨ht2.2.1,m.srt,fun x hx y hy=>m.geA x (List.mem_of_mem_drop hx) y hy⟩
 .rcases List.mem_append.mp hy with h1|h1
  .exact ht2.2.2 x hx y h1
  .exact m.geA x (by rw[<-hs];exact List.mem_append_left _ hx) y h1
 .rcases List.mem_append.mp hy with h1|h1
  .exact h x hx y h1
  .exact m.geB x hx y h1
theorem MidH.pushB(m:MidH lt la lb R na nb)(hB:Srt lt lb){i:Nat}(hi:i<=nb)(h:∀x∈la.take na,∀y∈(lb.take nb).drop i,lt y x=false):MidH lt la lb ((lb.take nb).drop i++R) na i:=by
 have ht:Srt lt (lb.take nb):=List.Pairwise.sublist (List.take_sublist _ _) hB
 have hs:=take_cut (l:=lb) hi
 have ht2:=ht
 unfold Srt at ht2
 rw[<-hs,List.pairwise_append]at ht2
 refine⟨?_,?_,fun x hx y hy=>?_,fun x hx y hy=>?_⟩
 .rw[<-cut_drop (l:=lb) hi]
  refine(List.Perm.append_left _ m.perm).trans ?_
  rw[<-List.append_assoc,<-List.append_assoc]
  exact List.Perm.append_right _ List.perm_append_comm
 .exact List.pairwise_append.mpr ⟨ht2.2.1,m.srt,fun x hx y hy=>m.geB x (List.mem_of_mem_drop hx) y hy⟩
 .rcases List.mem_append.mp hy with h1|h1
  .exact h x hx y h1
  .exact m.geA x hx y h1
 .rcases List.mem_append.mp hy with h1|h1
  .exact ht2.2.2 x hx y h1
  .exact m.geB x (by rw[<-hs];exact List.mem_append_left _ hx) y h1
theorem MidH.endA(m:MidH lt la lb R 0 nb)(hB:Srt lt lb):Merged lt la lb (lb.take nb++R):=by
 have ht:Srt lt (lb.take nb):=List.Pairwise.sublist (List.take_sublist _ _) hB
 refine⟨?_,List.pairwise_append.mpr ⟨ht,m.srt,m.geB⟩⟩
 have p:=List.Perm.append_left (lb.take nb) m.perm
 rw[List.drop_zero]at p
 refine p.trans ?_
 rw[<-List.append_assoc]
 refine(List.Perm.append_right _ List.perm_append_comm).trans ?_
 rw[List.append_assoc,List.take_append_drop]
theorem MidH.endB(m:MidH lt la lb R na 0)(hA:Srt lt la):Merged lt la lb (la.take na++R):=by
 have ht:Srt lt (la.take na):=List.Pairwise.sublist (List.take_sublist _ _) hA
 refine⟨?_,List.pairwise_append.mpr ⟨ht,m.srt,m.geA⟩⟩
 have p:=List.Perm.append_left (la.take na) m.perm
 rw[List.drop_zero,<-List.append_assoc,List.take_append_drop]at p
 exact p
theorem MidH.firstB(m:MidH lt la lb R na 1)(o:KOrd lt)(hA:Srt lt la)(hB:Srt lt lb)(hl:∀y∈la,∀x∈lb.take 1,lt x y=true):Merged lt la lb (lb.take 1++la.take na++R):=by
 have m2:=m.pushA hA (Nat.zero_le na) fun x hx y hy=>o.asy _ _ (hl y (List.mem_of_mem_take (List.mem_of_mem_drop hy)) x hx)
 rw[List.drop_zero]at m2
 have:=m2.endA hB
 rw[List.append_assoc]
 exact this
end
def mergeHi':Array Keyed->Array Keyed->StateT SortSt Sem (Array Keyed):=sortPriv% PySem.Builtin.mergeHi
section
variable{prog:Program}{w:World}{A:Around}{E:Value->Shared->Prop}{s:Shared}
variable{κ:SortKind}{mem:Keyed->Prop}{lt:Keyed->Keyed->Bool}
def LiveH(lt:Keyed->Keyed->Bool)(a b out:Array Keyed)(na nb:Nat):Prop:=MidH lt a.toList b.toList out.reverse.toList na nb/\0<na/\1<nb/\na<=a.size/\nb<=b.size
theorem top_cut{arr:Array Keyed}{n:Nat}{x:Keyed}(h:arr[n]?=some x):(arr.toList.take (n+1)).drop n=[x]:=by
 obtain⟨hi,e⟩:=Array.getElem?_eq_some_iff.mp h
 have hl:n<arr.toList.length:=by simpa using hi
 rw[List.take_succ,List.drop_append,List.drop_eq_nil_of_le (by rw[List.length_take];omega)]
 have e2:n-min n arr.size=0:=by omega
 simp[h,e2]
theorem le_all{arr:Array Keyed}(o:KOrd lt)(hs:Srt lt arr.toList){n:Nat}{x y:Keyed}(hx:arr[n]?=some x)(h:lt y x=false):∀z∈arr.toList.take (n+1),lt y z=false:=fun z hz=>by
 obtain⟨i,hi⟩:=List.mem_iff_getElem?.mp hz
 have hlt:i<n+1:=by
  have:=(List.getElem?_eq_some_iff.mp hi).1
  rw[List.length_take]at this
  omega
 rw[List.getElem?_take_of_lt hlt]at hi
 exact o.tr z x y (srt_two o hs (show i<=n by omega) (by simpa using hi) hx) h
theorem ext_rev(out arr:Array Keyed){i n:Nat}(h:i<=n):(out++(arr.extract i n).reverse).reverse.toList=(arr.toList.take n).drop i++out.reverse.toList:=by
 simp[List.take_drop,show i+(n-i)=n by omega]
theorem cut_mem{arr:Array Keyed}{P:Keyed->Prop}{i n:Nat}(h:∀j z,i<=j->j<n->arr[j]?=some z->P z):∀z∈(arr.toList.take n).drop i,P z:=fun z hz=>by
 obtain⟨k,hk⟩:=List.mem_iff_getElem?.mp hz
 rw[List.getElem?_drop]at hk
 have hlt:i+k<n:=by
  have:=(List.getElem?_eq_some_iff.mp hk).1
  rw[List.length_take]at this
  omega
 rw[List.getElem?_take_of_lt hlt]at hk
 exact h (i+k) z (by omega) hlt (by simpa using hk)
theorem stepHA{a b out:Array Keyed}{na nb:Nat}{y:Keyed}(T:Two mem lt a b)(m:MidH lt a.toList b.toList out.reverse.toList (na+1) nb)(hy:a[na]?=some y)(h:∀x∈b.toList.take nb,lt y x=false):MidH lt a.toList b.toList (out.push y).reverse.toList na nb:=by
 have m2:=m.pushA T.sA (Nat.le_succ na) fun x hx u hu=>by
  rw[top_cut hy]at hu
  rw[List.mem_singleton.mp hu]
  exact h x hx
 rw[top_cut hy]at m2
 simpa using m2
theorem stepHB{a b out:Array Keyed}{na nb:Nat}{y:Keyed}(T:Two mem lt a b)(m:MidH lt a.toList b.toList out.reverse.toList na (nb+1))(hy:b[nb]?=some y)(h:∀x∈a.toList.take na,lt y x=false):MidH lt a.toList b.toList (out.push y).reverse.toList na nb:=by
 have m2:=m.pushB T.sB (Nat.le_succ nb) fun x hx u hu=>by
  rw[top_cut hy]at hu
  rw[List.mem_singleton.mp hu]
  exact h x hx
 rw[top_cut hy]at m2
 simpa using m2
theorem doneHA{a b out:Array Keyed}{na nb:Nat}(T:Two mem lt a b)(m:MidH lt a.toList b.toList out.reverse.toList na nb)(h:na=0):Merged lt a.toList b.toList (a.extract 0 na++b.extract 0 nb++out.reverse).toList:=by
 subst h
 have:=m.endA T.sB
 simpa using this
theorem doneHB{a b out:Array Keyed}{na nb:Nat}(T:Two mem lt a b)(m:MidH lt a.toList b.toList out.reverse.toList na nb)(h:nb=0):Merged lt a.toList b.toList (a.extract 0 na++b.extract 0 nb++out.reverse).toList:=by
 subst h
 have:=m.endB T.sA
 simpa using this
theorem doneHF{a b out:Array Keyed}{na nb:Nat}(o:KOrd lt)(T:Two mem lt a b)(m:MidH lt a.toList b.toList out.reverse.toList na nb)(h:nb=1):Merged lt a.toList b.toList (b.extract 0 nb++a.extract 0 na++out.reverse).toList:=by
 subst h
 have pB:=T.pB
 have pA:=T.pA
 have hb0:b[0]?=some (b[0]'T.pB):=by simp[T.pB]
 have ha0:a[0]?=some (a[0]'T.pA):=by simp[T.pA]
 have:=m.firstB o T.sA T.sB fun y hy x hx=>by
  have e1:=top_cut hb0
  rw[List.drop_zero]at e1
  rw[e1]at hx
  rw[List.mem_singleton.mp hx]
  have hya:lt y a[0]=false:=srt_head o (srt_drop T.sA 0) (drop_at ha0) y (by rw[List.drop_zero];exact hy)
  cases q:lt b[0] y with
  | true=>rfl
  | false=>have:=o.tr _ _ _ hya q;rw[T.first _ _ hb0 ha0]at this;cases this
 simpa using this
theorem wpS_mergeHi(C:CmpS prog w A s κ mem lt)(o:KOrd lt){st:SortSt}(hk:kindOf st=κ){a b:Array Keyed}(T:Two mem lt a b){Q:Array Keyed->SortSt->Prop}
  (h:∀out st',SameG st st'->Merged lt a.toList b.toList out.toList->Q out st'):wpS (model prog w) A E s (mergeHi' a b) Q st:=by
 refine wpS_bind (wpS_lift (wpAny_rule ⟨rfl,?_⟩))
 have memA:∀i z,a[i]?=some z->mem z:=fun i z hz=>T.mA z (by obtain⟨h1,h2⟩:=Array.getElem?_eq_some_iff.mp hz;rw[<-h2];simp)
 have memB:∀i z,b[i]?=some z->mem z:=fun i z hz=>T.mB z (by obtain⟨h1,h2⟩:=Array.getElem?_eq_some_iff.mp hz;rw[<-h2];simp)
 have hpA:=T.pA
 have hpB:=T.pB
 have hal:a[a.size-1]?=some (a[a.size-1]'(by omega)):=by simp
 refine wpS_bind (elem_at hal ?_)
 have m0:MidH lt a.toList b.toList (#[]:Array Keyed).reverse.toList (a.size-1+1) b.size:=by
  rw[show a.size-1+1=a.size by omega]
  exact⟨by simp,List.Pairwise.nil,by simp,by simp⟩
 have m1:=stepHA T m0 hal fun x hx=>o.asy _ _ (T.last x (List.mem_of_mem_take hx) _ hal)
 dsimp only
 by_cases ha1:(a.size-1==0)=true
 .rw[if_pos ha1]
  exact wpS_pure (h _ _ (SameG.refl _) (doneHA T m1 (by simpa using ha1)))
 rw[if_neg ha1]
 by_cases hb1:(b.size==1)=true
 .rw[if_pos hb1]
  exact wpS_pure (h _ _ (SameG.refl _) (doneHF o T m1 (by simpa using hb1)))
 rw[if_neg hb1]
 have ha2:¬a.size-1=0:=by simpa using ha1
 have hb2:¬b.size=1:=by simpa using hb1
 refine wpS_bind (wpS_get ?_)
 refine wpS_bind (wpS_mono (wpS_forRange (I:=fun x c st'=>SameG st st'/\∃na nb out mg,c=(none,na,nb,out,mg)/\LiveH lt a b out na nb/\na+nb+x+1<=a.size+b.size)
  (Q:=fun c st'=>SameG st st'/\∃res r,c=(some res,r)/\Merged lt a.toList b.toList res.toList) ?step ?fin ?init) ?post)
 case init=>exact⟨SameG.refl _,_,_,_,_,rfl,⟨m1,by omega,by omega,by omega,by omega⟩,by omega⟩
 case fin=>
  rintro c st' ⟨_,na,nb,out,mg,rfl,⟨_,h1,h2,h3,h4⟩,h5⟩
  omega
 case post=>
  rintro c st' ⟨sg,res,r,rfl,hm⟩
  exact wpS_pure (h _ _ sg hm)
 case step=>
  rintro x c st' _ hx ⟨sg,na,nb,out,mg,rfl,L,hp⟩
  dsimp only
  refine wpS_bind (wpS_mono (wpS_forRange (I:=fun y c st'=>SameG st st'/\∃na' nb' out' ac bc,c=(none,na',nb',out',ac,bc)/\LiveH lt a b out' na' nb'/\na'+nb'<=na+nb)
   (Q:=fun c st'=>SameG st st'/\((∃res r,c=(some res,r)/\Merged lt a.toList b.toList res.toList)\/∃na' nb' out' ac bc,c=(none,na',nb',out',ac,bc)/\LiveH lt a b out' na' nb'/\na'+nb'<=na+nb)) ?istep ?ifin ?iinit) ?ipost)
  case iinit=>exact⟨sg,_,_,_,_,_,rfl,L,Nat.le_refl _⟩
  case ifin=>
   rintro c st2 ⟨sg2,rest⟩
   exact⟨sg2,.inr rest⟩
  case istep=>
   rintro y c st2 _ hy ⟨sg2,na',nb',out',ac,bc,rfl,⟨m,l1,l2,l3,l4⟩,hp'⟩
   obtain⟨n1,rfl⟩:∃n1,na'=n1+1:=⟨na'-1,by omega⟩
   obtain⟨n2,rfl⟩:∃n2,nb'=n2+1:=⟨nb'-1,by omega⟩
   dsimp only[Nat.add_sub_cancel]
   have hxb:b[n2]?=some (b[n2]'(by omega)):=by simp
   have hxa:a[n1]?=some (a[n1]'(by omega)):=by simp
   refine wpS_bind (elem_at hxb (wpS_bind (elem_at hxa (wpS_bind (wpS_lt C (sg2.1.trans hk) (memB _ _ hxb) (memA _ _ hxa) ?_)))))
   cases hl:lt b[n2] a[n1]with
   | true=>
    dsimp only
    simp only[if_true]
    refine wpS_bind (elem_at hxa ?_)
    have m2:=stepHA T m hxa (le_all o T.sB hxb (o.asy _ _ hl))
    try simp only[Nat.add_sub_cancel]
    by_cases he:(n1==0)=true
    .rw[if_pos he]
     exact wpS_pure ⟨sg2,.inl ⟨_,_,rfl,doneHA T m2 (by simpa using he)⟩⟩
    .rw[if_neg he]
     have he':¬n1=0:=by simpa using he
     have L2:LiveH lt a b (out'.push a[n1]) n1 (n2+1):=⟨m2,by omega,by omega,by omega,by omega⟩
     split
     .exact wpS_pure ⟨sg2,.inr ⟨_,_,_,_,_,rfl,L2,by omega⟩⟩
     .exact wpS_pure ⟨sg2,_,_,_,_,_,rfl,L2,by omega⟩
   | false=>
    dsimp only
    simp only[Bool.false_eq_true,if_false]
    refine wpS_bind (elem_at hxb ?_)
    have m2:=stepHB T m hxb (le_all o T.sA hxa hl)
    try simp only[Nat.add_sub_cancel]
    by_cases he:(n2==1)=true
    .rw[if_pos he]
     exact wpS_pure ⟨sg2,.inl ⟨_,_,rfl,doneHF o T m2 (by simpa using he)⟩⟩
    .rw[if_neg he]
     have he':¬n2=1:=by simpa using he
     have L2:LiveH lt a b (out'.push b[n2]) (n1+1) n2:=⟨m2,by omega,by omega,by omega,by omega⟩
     split
     .exact wpS_pure ⟨sg2,.inr ⟨_,_,_,_,_,rfl,L2,by omega⟩⟩
     .exact wpS_pure ⟨sg2,_,_,_,_,_,rfl,L2,by omega⟩
  case ipost=>
   rintro c st2 ⟨sg2,(⟨res,r,rfl,hm⟩|⟨na',nb',out',ac,bc,rfl,L2,hp2⟩)⟩
   .dsimp only
    exact wpS_pure ⟨sg2,_,_,rfl,hm⟩
   .dsimp only
    refine wpS_bind (wpS_lift (wpAny_rule ⟨rfl,?_⟩))
    refine wpS_bind (wpS_mono (wpS_forRange (I:=fun y c st'=>SameG st st'/\∃na2 nb2 out2 mg2 ac bc,c=(none,na2,nb2,out2,mg2,ac,bc)/\LiveH lt a b out2 na2 nb2/\na2+nb2+y<=na'+nb')
     (Q:=fun c st'=>SameG st st'/\((∃res r,c=(some res,r)/\Merged lt a.toList b.toList res.toList)\/∃na2 nb2 out2 mg2 ac bc,c=(none,na2,nb2,out2,mg2,ac,bc)/\LiveH lt a b out2 na2 nb2/\na2+nb2+1<=na'+nb')) ?jstep ?jfin ?jinit) ?jpost)
    case jinit=>exact⟨sg2,_,_,_,_,_,_,rfl,L2,Nat.le_refl _⟩
    case jfin=>
     rintro c st3 ⟨sg3,na2,nb2,out2,mg2,ac2,bc2,rfl,L3,hp3⟩
     exact⟨sg3,.inr ⟨_,_,_,_,_,_,rfl,L3,by omega⟩⟩
    case jpost=>
     rintro c st3 ⟨sg3,(⟨res,r,rfl,hm⟩|⟨na2,nb2,out2,mg2,ac2,bc2,rfl,L3,hp3⟩)⟩
     .dsimp only
      exact wpS_pure ⟨sg3,_,_,rfl,hm⟩
     .dsimp only
      refine wpS_bind (gal_at ?_)
      exact wpS_pure ⟨sg3.gal _,_,_,_,_,rfl,L3,by omega⟩
    case jstep=>
     rintro y c st3 _ hy ⟨sg3,na2,nb2,out2,mg2,ac2,bc2,rfl,⟨m3,l1,l2,l3,l4⟩,hp3⟩
     dsimp only
     have hxb:b[nb2-1]?=some (b[nb2-1]'(by omega)):=by simp
     have rest2:∀(out4:Array Keyed) (na3 nb3 mg3 k k1:Nat) (st4:SortSt),SameG st st4->MidH lt a.toList b.toList out4.reverse.toList na3 nb3->0<na3->1<nb3->na3<=a.size->nb3<=b.size->(∀z,a[na3-1]?=some z->∀u∈b.toList.take nb3,lt z u=false)->na3+nb3+y+1<=na'+nb'->
       wpS (model prog w) A E s (do
        let z2 <-elem' a (na3-1)
        if (na3-1==0)=true then
         pure (ForInStep.done (some (a.extract 0 (na3-1)++b.extract 0 nb3++(out4.push z2).reverse),na3-1,nb3,out4.push z2,mg3,k,k1))
        else if (decide (k<7)&&decide (k1<7))=true then pure (ForInStep.done (none,na3-1,nb3,out4.push z2,mg3,k,k1))
        else pure (ForInStep.yield (none,na3-1,nb3,out4.push z2,mg3,k,k1)))
       (fun r st'=>match r with
        | .done c'=>SameG st st'/\((∃res r,c'=(some res,r)/\Merged lt a.toList b.toList res.toList)\/∃na2 nb2 out2 mg2 ac bc,c'=(none,na2,nb2,out2,mg2,ac,bc)/\LiveH lt a b out2 na2 nb2/\na2+nb2+1<=na'+nb')
        | .yield c'=>SameG st st'/\∃na2 nb2 out2 mg2 ac bc,c'=(none,na2,nb2,out2,mg2,ac,bc)/\LiveH lt a b out2 na2 nb2/\na2+nb2+(y+1)<=na'+nb') st4:=by
      intro out4 na3 nb3 mg3 k k1 st4 sg4 m5 q1 q2 q3 q4 hu hp5
      have hxa:a[na3-1]?=some (a[na3-1]'(by omega)):=by simp
      refine wpS_bind (elem_at hxa ?_)
      have m6:=stepHA (na:=na3-1) T (by rw[show na3-1+1=na3 by omega];exact m5) hxa (hu _ hxa)
      by_cases he:(na3-1==0)=true
      .rw[if_pos he]
       exact wpS_pure ⟨sg4,.inl ⟨_,_,rfl,doneHA T m6 (by simpa using he)⟩⟩
      .rw[if_neg he]
       have he':¬na3-1=0:=by simpa using he
       have L6:LiveH lt a b (out4.push a[na3-1]) (na3-1) nb3:=⟨m6,by omega,by omega,by omega,by omega⟩
       split
       .exact wpS_pure ⟨sg4,.inr ⟨_,_,_,_,_,_,rfl,L6,by omega⟩⟩
       .exact wpS_pure ⟨sg4,_,_,_,_,_,_,rfl,L6,by omega⟩
     have rest:∀(out3:Array Keyed) (na3 mg3 k:Nat) (st4:SortSt),SameG st st4->MidH lt a.toList b.toList out3.reverse.toList na3 nb2->0<na3->na3<=a.size->(∀z∈a.toList.take na3,lt b[nb2-1] z=false)->na3+nb2+y<=na'+nb'->
       wpS (model prog w) A E s (do
        let z <-elem' b (nb2-1)
        if (nb2-1==1)=true then
         pure (ForInStep.done (some (b.extract 0 (nb2-1)++a.extract 0 na3++(out3.push z).reverse),na3,nb2-1,out3.push z,mg3,k,bc2))
        else do
         let z1 <-elem' a (na3-1)
         let x <-gallop' true z1 b 0 (nb2-1) (nb2-1-1)
         match x with
         | some at1=>
          if nb2-1-at1>0 then
           if (at1==1)=true then
            pure (ForInStep.done (some (b.extract 0 at1++a.extract 0 na3++(out3.push z++(b.extract at1 (nb2-1)).reverse).reverse),na3,at1,(out3.push z++(b.extract at1 (nb2-1)).reverse),mg3,k,nb2-1-at1))
           else if (at1==0)=true then
            pure (ForInStep.done (some (a.extract 0 na3++b.extract 0 at1++(out3.push z++(b.extract at1 (nb2-1)).reverse).reverse),na3,at1,(out3.push z++(b.extract at1 (nb2-1)).reverse),mg3,k,nb2-1-at1))
           else do
            let z2 <-elem' a (na3-1)
            if (na3-1==0)=true then
             pure (ForInStep.done (some (a.extract 0 (na3-1)++b.extract 0 at1++((out3.push z++(b.extract at1 (nb2-1)).reverse).push z2).reverse),na3-1,at1,(out3.push z++(b.extract at1 (nb2-1)).reverse).push z2,mg3,k,nb2-1-at1))
            else if (decide (k<7)&&decide (nb2-1-at1<7))=true then pure (ForInStep.done (none,na3-1,at1,(out3.push z++(b.extract at1 (nb2-1)).reverse).push z2,mg3,k,nb2-1-at1))
            else pure (ForInStep.yield (none,na3-1,at1,(out3.push z++(b.extract at1 (nb2-1)).reverse).push z2,mg3,k,nb2-1-at1))
          else do
           let z2 <-elem' a (na3-1)
           if (na3-1==0)=true then
            pure (ForInStep.done (some (a.extract 0 (na3-1)++b.extract 0 (nb2-1)++((out3.push z).push z2).reverse),na3-1,(nb2-1),(out3.push z).push z2,mg3,k,nb2-1-at1))
           else if (decide (k<7)&&decide (nb2-1-at1<7))=true then pure (ForInStep.done (none,na3-1,(nb2-1),(out3.push z).push z2,mg3,k,nb2-1-at1))
           else pure (ForInStep.yield (none,na3-1,(nb2-1),(out3.push z).push z2,mg3,k,nb2-1-at1))
         | _=>pure (ForInStep.done (some (a.extract 0 na3++b.extract 0 (nb2-1)++(out3.push z).reverse),na3,nb2-1,out3.push z,mg3,k,bc2)))
       (fun r st'=>match r with
        | .done c'=>SameG st st'/\((∃res r,c'=(some res,r)/\Merged lt a.toList b.toList res.toList)\/∃na2 nb2 out2 mg2 ac bc,c'=(none,na2,nb2,out2,mg2,ac,bc)/\LiveH lt a b out2 na2 nb2/\na2+nb2+1<=na'+nb')
        | .yield c'=>SameG st st'/\∃na2 nb2 out2 mg2 ac bc,c'=(none,na2,nb2,out2,mg2,ac,bc)/\LiveH lt a b out2 na2 nb2/\na2+nb2+(y+1)<=na'+nb') st4:=by
      intro out3 na3 mg3 k st4 sg4 m4 q1 q3 hz4 hp4
      refine wpS_bind (elem_at hxb ?_)
      have m5:=stepHB (nb:=nb2-1) T (by rw[show nb2-1+1=nb2 by omega];exact m4) hxb hz4
      by_cases he:(nb2-1==1)=true
      .rw[if_pos he]
       exact wpS_pure ⟨sg4,.inl ⟨_,_,rfl,doneHF o T m5 (by simpa using he)⟩⟩
      rw[if_neg he]
      have he':¬nb2-1=1:=by simpa using he
      have hxa:a[na3-1]?=some (a[na3-1]'(by omega)):=by simp
      refine wpS_bind (elem_at hxa ?_)
      refine wpS_bind (wpS_galL (st:=st4) (base:=0) (n:=nb2-1) (hint:=nb2-1-1) C o (sg4.1.trans hk) (memA _ _ hxa) (by omega) (fun i z hi hz=>memB _ z hz) (by omega) (fun i j y z hij hj hy hz=>srt_two o T.sB (show 0+i<=0+j by omega) hy hz) fun at1 hkn h1 h2=>?_)
      dsimp only
      have m6:=m5.pushB T.sB (i:=at1) hkn fun x hx u hu=>by
       have hu2:lt u a[na3-1]=false:=cut_mem (P:=fun u=>lt u a[na3-1]=false) (fun i z hi hn hz=>h2 i z hi hn (by rw[Nat.zero_add];exact hz)) u hu
       exact le_all o T.sA hxa hu2 x (by rw[show na3-1+1=na3 by omega];exact hx)
      have e6:(out3.push b[nb2-1]++(b.extract at1 (nb2-1)).reverse).reverse.toList=(b.toList.take (nb2-1)).drop at1++(out3.push b[nb2-1]).reverse.toList:=ext_rev _ _ hkn
      rw[<-e6]at m6
      have hu6:∀z,a[na3-1]?=some z->∀u∈b.toList.take at1,lt z u=false:=fun z hz=>by
       rw[hxa]at hz
       cases hz
       intro u hu
       refine o.asy _ _ (low_take (base:=0) (P:=fun u=>lt u a[na3-1]=true) h1 u ?_)
       rw[List.drop_zero]
       exact hu
      by_cases hk0:nb2-1-at1>0
      .rw[if_pos hk0]
       by_cases he2:(at1==1)=true
       .rw[if_pos he2]
        exact wpS_pure ⟨sg4,.inl ⟨_,_,rfl,doneHF o T m6 (by simpa using he2)⟩⟩
       rw[if_neg he2]
       have he3:¬at1=1:=by simpa using he2
       by_cases he4:(at1==0)=true
       .rw[if_pos he4]
        exact wpS_pure ⟨sg4,.inl ⟨_,_,rfl,doneHB T m6 (by simpa using he4)⟩⟩
       rw[if_neg he4]
       have he5:¬at1=0:=by simpa using he4
       exact rest2 _ na3 at1 mg3 k _ st4 sg4 m6 q1 (by omega) q3 (by omega) hu6 (by omega)
      .rw[if_neg hk0]
       have e0:at1=nb2-1:=by omega
       rw[e0]at hu6
       exact rest2 _ na3 (nb2-1) mg3 k _ st4 sg4 m5 q1 (by omega) q3 (by omega) hu6 (by omega)
     by_cases hmg:mg2>1
     .rw[if_pos hmg]
      refine wpS_bind (gal_at ?_)
      have sg4:SameG st (setGal st3 (mg2-1)):=sg3.gal _
      refine wpS_bind (elem_at hxb ?_)
      refine wpS_bind (wpS_galR (st:=setGal st3 (mg2-1)) (base:=0) (n:=na2) (hint:=na2-1) C o (sg4.1.trans hk) (memB _ _ hxb) (by omega) (fun i z hi hz=>memA _ z hz) (by omega) (fun i j y z hij hj hy hz=>srt_two o T.sA (show 0+i<=0+j by omega) hy hz) fun at1 hkn h1 h2=>?_)
      have m4:=m3.pushA T.sA (i:=at1) hkn fun x hx u hu=>by
       have hu2:lt b[nb2-1] u=true:=cut_mem (P:=fun u=>lt b[nb2-1] u=true) (fun i z hi hn hz=>h2 i z hi hn (by rw[Nat.zero_add];exact hz)) u hu
       exact le_all o T.sB hxb (o.asy _ _ hu2) x (by rw[show nb2-1+1=nb2 by omega];exact hx)
      have e4:(out2++(a.extract at1 na2).reverse).reverse.toList=(a.toList.take na2).drop at1++out2.reverse.toList:=ext_rev _ _ hkn
      rw[<-e4]at m4
      have hz4:∀z∈a.toList.take at1,lt b[nb2-1] z=false:=fun z hz=>low_take (base:=0) (P:=fun z=>lt b[nb2-1] z=false) h1 z (by rw[List.drop_zero];exact hz)
      dsimp only
      by_cases hk0:na2-at1>0
      .rw[if_pos hk0]
       by_cases he:(at1==0)=true
       .rw[if_pos he]
        exact wpS_pure ⟨sg4,.inl ⟨_,_,rfl,doneHA T m4 (by simpa using he)⟩⟩
       rw[if_neg he]
       have he':¬at1=0:=by simpa using he
       refine wpS_mono (rest _ at1 (mg2-1) _ _ sg4 m4 (by omega) (by omega) hz4 (by omega)) fun r st' hr=>?_
       cases r<;>exact hr
      .rw[if_neg hk0]
       have e0:at1=na2:=by omega
       rw[e0]at hz4
       refine wpS_mono (rest out2 na2 (mg2-1) _ _ sg4 m3 (by omega) (by omega) hz4 hp3) fun r st' hr=>?_
       cases r<;>exact hr
     .rw[if_neg hmg]
      refine wpS_bind (gal_at ?_)
      have sg4:SameG st (setGal st3 (mg2)):=sg3.gal _
      refine wpS_bind (elem_at hxb ?_)
      refine wpS_bind (wpS_galR (st:=setGal st3 (mg2)) (base:=0) (n:=na2) (hint:=na2-1) C o (sg4.1.trans hk) (memB _ _ hxb) (by omega) (fun i z hi hz=>memA _ z hz) (by omega) (fun i j y z hij hj hy hz=>srt_two o T.sA (show 0+i<=0+j by omega) hy hz) fun at1 hkn h1 h2=>?_)
      have m4:=m3.pushA T.sA (i:=at1) hkn fun x hx u hu=>by
       have hu2:lt b[nb2-1] u=true:=cut_mem (P:=fun u=>lt b[nb2-1] u=true) (fun i z hi hn hz=>h2 i z hi hn (by rw[Nat.zero_add];exact hz)) u hu
       exact le_all o T.sB hxb (o.asy _ _ hu2) x (by rw[show nb2-1+1=nb2 by omega];exact hx)
      have e4:(out2++(a.extract at1 na2).reverse).reverse.toList=(a.toList.take na2).drop at1++out2.reverse.toList:=ext_rev _ _ hkn
      rw[<-e4]at m4
      have hz4:∀z∈a.toList.take at1,lt b[nb2-1] z=false:=fun z hz=>low_take (base:=0) (P:=fun z=>lt b[nb2-1] z=false) h1 z (by rw[List.drop_zero];exact hz)
      dsimp only
      by_cases hk0:na2-at1>0
      .rw[if_pos hk0]
       by_cases he:(at1==0)=true
       .rw[if_pos he]
        exact wpS_pure ⟨sg4,.inl ⟨_,_,rfl,doneHA T m4 (by simpa using he)⟩⟩
       rw[if_neg he]
       have he':¬at1=0:=by simpa using he
       refine wpS_mono (rest _ at1 (mg2) _ _ sg4 m4 (by omega) (by omega) hz4 (by omega)) fun r st' hr=>?_
       cases r<;>exact hr
      .rw[if_neg hk0]
       have e0:at1=na2:=by omega
       rw[e0]at hz4
       refine wpS_mono (rest out2 na2 (mg2) _ _ sg4 m3 (by omega) (by omega) hz4 hp3) fun r st' hr=>?_
       cases r<;>exact hr
end
def Fk(f:Keyed->Int)(xs:Array Keyed)(i:Nat):Int:=(xs[i]?.map f).getD 0
abbrev fl(f:Keyed->Int)(x y:Keyed):Bool:=decide (f x<f y)
theorem fl_ord(f:Keyed->Int):KOrd (fl f):=⟨fun x y h=>by simp at h⊢;omega,fun x y z h1 h2=>by simp at h1 h2⊢;omega⟩
def Seg(f:Keyed->Int)(xs:Array Keyed)(lo n:Nat):Prop:=∀i j,lo<=i->i<=j->j<lo+n->Fk f xs i<=Fk f xs j
def Dsc(f:Keyed->Int)(xs:Array Keyed)(lo n:Nat):Prop:=∀i j,lo<=i->i<=j->j<lo+n->Fk f xs j<=Fk f xs i
structure TB(κ:SortKind)(a₀:Array Keyed)(st:SortSt):Prop where
 perm:(arrOf st).Perm a₀
 kind:kindOf st=κ
 failed:failedOf st=none
structure Fr(lo:Nat)(st st':SortSt):Prop where
 pend:pendingOf st'=pendingOf st
 low:∀i,i<lo->(arrOf st')[i]?=(arrOf st)[i]?
theorem Fr.refl(lo:Nat)(st:SortSt):Fr lo st st:=⟨rfl,fun _ _=>rfl⟩
theorem Fr.trans{lo:Nat}{a b c:SortSt}(h:Fr lo a b)(k:Fr lo b c):Fr lo a c:=⟨k.pend.trans h.pend,fun i hi=>(k.low i hi).trans (h.low i hi)⟩
theorem TB.size{κ:SortKind}{a₀:Array Keyed}{st:SortSt}(h:TB κ a₀ st):(arrOf st).size=a₀.size:=h.perm.size_eq
theorem TB.set{κ:SortKind}{a₀:Array Keyed}{st:SortSt}(h:TB κ a₀ st){xs:Array Keyed}(hp:xs.Perm (arrOf st)):TB κ a₀ (setArr st xs):=⟨hp.trans h.perm,h.kind,h.failed⟩
theorem Fk_of{f:Keyed->Int}{xs ys:Array Keyed}{i j:Nat}(h:xs[i]?=ys[j]?):Fk f xs i=Fk f ys j:=by unfold Fk;rw[h]
theorem Fk_mir{f:Keyed->Int}{xs:Array Keyed}{i j:Nat}(hj:j<=xs.size)(k:Nat):Fk f (mirror xs i j ((j-i)/2)) k=if i<=k/\k<j then Fk f xs (i+j-1-k)else Fk f xs k:=by
 have e:=getElem?_mirror_all (i:=i) hj k
 split
 .rename_i h;rw[if_pos h]at e;exact Fk_of e
 .rename_i h;rw[if_neg h]at e;exact Fk_of e
theorem Fk_mir_eq{f:Keyed->Int}{xs:Array Keyed}{i j:Nat}(hj:j<=xs.size)(he:∀k,i<=k->k<j->Fk f xs k=Fk f xs (j-1))(k:Nat):Fk f (mirror xs i j ((j-i)/2)) k=Fk f xs k:=by
 rw[Fk_mir hj]
 split
 .rw[he _ (by omega) (by omega),he k (by omega) (by omega)]
 .rfl
theorem Fk_bub{f:Keyed->Int}{xs:Array Keyed}{c d:Nat}(hs:c<xs.size)(hd:d<=c)(k:Nat) :
  Fk f (bubble xs c d) k=if k=c-d then Fk f xs c else if c-d<k/\k<=c then Fk f xs (k-1)else Fk f xs k:=by
 have e:=getElem?_bubble hs d hd k
 split
 .rename_i h;rw[if_pos h]at e;exact Fk_of e
 .rename_i h
  rw[if_neg h]at e
  split
  .rename_i h2;rw[if_pos h2]at e;exact Fk_of e
  .rename_i h2;rw[if_neg h2]at e;exact Fk_of e
theorem Fr.mir{lo:Nat}{st:SortSt}{i j:Nat}(hi:lo<=i)(hj:j<=(arrOf st).size):Fr lo st (setArr st (mirror (arrOf st) i j ((j-i)/2))):=
 ⟨rfl,fun k hk=>by show(mirror (arrOf st) i j ((j-i)/2))[k]?=_;rw[getElem?_mirror_all hj,if_neg (by omega)]⟩
theorem Fr.bub{lo:Nat}{st:SortSt}{c d:Nat}(hs:c<(arrOf st).size)(hd:lo<=c-d)(hd2:d<=c):Fr lo st (setArr st (bubble (arrOf st) c d)):=
 ⟨rfl,fun k hk=>by show(bubble (arrOf st) c d)[k]?=_;rw[getElem?_bubble hs d hd2,if_neg (by omega),if_neg (by omega)]⟩
section
variable{prog:Program}{w:World}{A:Around}{E:Value->Shared->Prop}{s:Shared}
variable{κ:SortKind}{mem:Keyed->Prop}{f:Keyed->Int}{a₀:Array Keyed}
theorem TB.at{st:SortSt}(h:TB κ a₀ st)(hm:∀x∈a₀.toList,mem x){i:Nat}(hi:i<a₀.size):∃x,(arrOf st)[i]?=some x/\mem x/\f x=Fk f (arrOf st) i:=by
 have hi':i<(arrOf st).size:=by rw[h.size];exact hi
 have e:(arrOf st)[i]?=some (arrOf st)[i]:=getElem?_pos _ i hi'
 refine⟨_,e,hm _ ((Array.perm_iff_toList_perm.mp h.perm).mem_iff.mp (by simp)),?_⟩
 unfold Fk
 rw[e]
 rfl
theorem wpS_ltF(C:CmpS prog w A s κ mem (fl f))(hm:∀x∈a₀.toList,mem x){st:SortSt}(B:TB κ a₀ st){i j:Nat}(hi:i<a₀.size)(hj:j<a₀.size){Q:Option Bool->SortSt->Prop}
  (h:Q (some (decide (Fk f (arrOf st) i<Fk f (arrOf st) j))) st):wpS (model prog w) A E s (ltAt' i j) Q st:=by
 obtain⟨x,e1,m1,k1⟩:=B.at (f:=f) hm hi
 obtain⟨y,e2,m2,k2⟩:=B.at (f:=f) hm hj
 rw[ltAt'_eq]
 refine wpS_bind (wpS_get (wpS_bind (elem_at e1 (wpS_bind (elem_at e2 (wpS_lt C B.kind m1 m2 ?_))))))
 rw[<-k1,<-k2]at h
 exact h
theorem revS_at{st:SortSt}{i j:Nat}{Q:Unit->SortSt->Prop}(h:Q () (setArr st (mirror (arrOf st) i j ((j-i)/2)))):wpS (model prog w) A E s (reverseSlice' i j) Q st:=by
 rw[reverseSlice'_eq];exact wpS_modify h
abbrev UpS:=Option (Option Nat)×Nat
abbrev DnS:=Option (Option Nat)×Nat×Nat
def upLoop(lo a nrem:Nat):StateT SortSt Sem UpS:=forIn [a:nrem] ((none,a):UpS) fun _ c=>do
 let q <-ltAt' (lo+c.snd) (lo+c.snd-1)
 match q with
 | some b=>if b=true then pure (.done (none,c.snd))else pure (.yield (none,c.snd+1))
 | _=>pure (.done (some none,c.snd))
def dnTail(lo n nrem:Nat):StateT SortSt Sem (Option Nat):=do
 reverseSlice' lo (lo+n)
 let c <-upLoop lo n nrem
 match c.fst with
 | some r=>pure r
 | none=>pure (some c.snd)
def dnLoop(lo n nrem:Nat):StateT SortSt Sem DnS:=forIn [n:nrem] ((none,n,0):DnS) fun _ c=>do
 let q <-ltAt' (lo+c.snd.fst) (lo+c.snd.fst-1)
 match q with
 | some b=>
  if b=true then
   if c.snd.snd>0 then do
    reverseSlice' (lo+c.snd.fst-(c.snd.snd+1)) (lo+c.snd.fst)
    pure (.yield (none,c.snd.fst+1,0))
   else pure (.yield (none,c.snd.fst+1,0))
  else do
   let q2 <-ltAt' (lo+c.snd.fst-1) (lo+c.snd.fst)
   match q2 with
   | some b2=>if b2=true then pure (.done (none,c.snd.fst,c.snd.snd))else pure (.yield (none,c.snd.fst+1,c.snd.snd+1))
   | _=>pure (.done (some none,c.snd.fst,c.snd.snd))
 | _=>pure (.done (some none,c.snd.fst,c.snd.snd))
def dnPart(lo n nrem:Nat):StateT SortSt Sem (Option Nat):=do
 liftM (rule "list.sort.descending-run")
 let c <-dnLoop lo (n+1) nrem
 match c.fst with
 | some r=>pure r
 | none=>
  if c.snd.snd>0 then do
   reverseSlice' (lo+c.snd.fst-(c.snd.snd+1)) (lo+c.snd.fst)
   dnTail lo c.snd.fst nrem
  else dnTail lo c.snd.fst nrem
theorem count_lo(lo nrem:Nat):countRun' lo nrem=(do
  let c <-upLoop lo 1 nrem
  match c.fst with
  | some r=>pure r
  | none=>
   if (c.snd==nrem)=true then pure (some c.snd)
   else if c.snd>1 then do
    let q <-ltAt' lo (lo+c.snd-1)
    match q with
    | some b=>if b=true then pure (some c.snd)else do
      reverseSlice' lo (lo+c.snd)
      dnPart lo c.snd nrem
    | _=>pure none
   else dnPart lo c.snd nrem):=by
 rw[countRun'_eq]
 dsimp only
 unfold dnPart dnTail dnLoop upLoop
 congr 1
 funext c
 obtain⟨r,n⟩:=c
 cases r with
 | some r=>rfl
 | none=>
  dsimp only
  split
  .rfl
  .split
   .congr 1
    funext x
    cases x with
    | none=>rfl
    | some b=>
     dsimp only
     split
     .rfl
     .congr 1
      funext _r
      (congr 1;funext _u;congr 1;congr 1;funext c2;obtain⟨r2,n2,q2⟩:=c2;cases r2 with
       | some r2=>rfl
       | none=>(dsimp only;split;(congr 1;funext _v;(congr 1;funext _w;congr 1;(funext c3;obtain⟨r3,n3⟩:=c3;cases r3<;>rfl)));(congr 1;funext _w;congr 1;(funext c3;obtain⟨r3,n3⟩:=c3;cases r3<;>rfl))))
   ·(congr 1;funext _u;congr 1;congr 1;funext c2;obtain⟨r2,n2,q2⟩:=c2;cases r2 with
     | some r2=>rfl
     | none=>(dsimp only;split;(congr 1;funext _v;(congr 1;funext _w;congr 1;(funext c3;obtain⟨r3,n3⟩:=c3;cases r3<;>rfl)));(congr 1;funext _w;congr 1;(funext c3;obtain⟨r3,n3⟩:=c3;cases r3<;>rfl))))
theorem wpS_up(C:CmpS prog w A s κ mem (fl f))(hm:∀x∈a₀.toList,mem x){st:SortSt}{lo a nrem:Nat}{Q:UpS->SortSt->Prop}(hn:lo+nrem<=a₀.size)(ha:1<=a)(han:a<=nrem)(B:TB κ a₀ st)(hs:Seg f (arrOf st) lo a)
  (h:∀n,a<=n->n<=nrem->Seg f (arrOf st) lo n->(n=nrem\/Fk f (arrOf st) (lo+n)<Fk f (arrOf st) (lo+n-1))->Q (none,n) st):wpS (model prog w) A E s (upLoop lo a nrem) Q st:=by
 unfold upLoop
 refine wpS_forRange (I:=fun x c st'=>st'=st/\c=(none,x)/\Seg f (arrOf st) lo x) ?step ?fin ⟨rfl,rfl,hs⟩
 case fin=>
  rintro c st' ⟨rfl,rfl,hs'⟩
  rw[show max a nrem=nrem by omega]at hs'⊢
  exact h nrem han (Nat.le_refl _) hs' (.inl rfl)
 case step=>
  rintro x c st' hax hxn ⟨rfl,rfl,hs'⟩
  dsimp only
  refine wpS_bind (wpS_ltF C hm B (by omega) (by omega) ?_)
  by_cases hl:Fk f (arrOf st') (lo+x)<Fk f (arrOf st') (lo+x-1)
  .simp only[hl,decide_true,if_true]
   exact wpS_pure (h x hax (by omega) hs' (.inr hl))
  .simp only[hl,decide_false,Bool.false_eq_true,if_false]
   refine wpS_pure ⟨rfl,rfl,fun i j hi hij hj=>?_⟩
   by_cases hjx:j<lo+x
   .exact hs' i j hi hij hjx
   .obtain rfl:j=lo+x:=by omega
    by_cases hi':i=lo+x
    .rw[hi'];exact Int.le_refl _
    .have:=hs' i (lo+x-1) hi (by omega) (by omega);omega
abbrev RunPost(f:Keyed->Int)(κ:SortKind)(a₀:Array Keyed)(lo nrem:Nat)(st:SortSt)(Q:Option Nat->SortSt->Prop):Prop:=
 ∀m st',TB κ a₀ st'->Fr lo st st'->1<=m->m<=nrem->Seg f (arrOf st') lo m->Q (some m) st'
theorem wpS_dnTail(C:CmpS prog w A s κ mem (fl f))(hm:∀x∈a₀.toList,mem x){st0 st:SortSt}{lo n nrem:Nat}{Q:Option Nat->SortSt->Prop}(hn:lo+nrem<=a₀.size)(h1:1<=n)(hnn:n<=nrem)(B:TB κ a₀ st)(F:Fr lo st0 st)(hs:Dsc f (arrOf st) lo n)
  (h:RunPost f κ a₀ lo nrem st0 Q):wpS (model prog w) A E s (dnTail lo n nrem) Q st:=by
 unfold dnTail
 have hsz:lo+n<=(arrOf st).size:=by rw[B.size];omega
 refine wpS_bind (revS_at ?_)
 have B':TB κ a₀ (setArr st (mirror (arrOf st) lo (lo+n) ((lo+n-lo)/2))):=B.set (mirror_perm _ _ _ _)
 have F':=F.trans (Fr.mir (Nat.le_refl lo) hsz)
 refine wpS_bind (wpS_up C hm hn h1 hnn B' ?_ fun m hm1 hm2 hsm _=>wpS_pure (h m _ B' F' (by omega) hm2 hsm))
 intro i j hi hij hj
 show Fk f (mirror (arrOf st) lo (lo+n) ((lo+n-lo)/2)) i<=Fk f (mirror (arrOf st) lo (lo+n) ((lo+n-lo)/2)) j
 rw[Fk_mir hsz,Fk_mir hsz,if_pos (by omega),if_pos (by omega)]
 exact hs _ _ (by omega) (by omega) (by omega)
theorem dsc_more{xs ys:Array Keyed}{lo x:Nat}(h1:1<=x)(hs:Dsc f xs lo x)(hk:∀k,Fk f ys k=Fk f xs k)(hl:Fk f xs (lo+x)<=Fk f xs (lo+x-1)):Dsc f ys lo (x+1):=by
 intro i j hi hij hj
 rw[hk,hk]
 by_cases hjx:j<lo+x
 .exact hs i j hi hij hjx
 .obtain rfl:j=lo+x:=by omega
  by_cases hi':i=lo+x
  .rw[hi'];exact Int.le_refl _
  .have:=hs i (lo+x-1) hi (by omega) (by omega);omega
theorem wpS_dnLoop(C:CmpS prog w A s κ mem (fl f))(hm:∀x∈a₀.toList,mem x){st0 st:SortSt}{lo n nrem:Nat}{Q:DnS->SortSt->Prop}(hn:lo+nrem<=a₀.size)(h1:1<=n)(hnn:n<=nrem)(B:TB κ a₀ st)(F:Fr lo st0 st)(hs:Dsc f (arrOf st) lo n)
  (h:∀m q st',TB κ a₀ st'->Fr lo st0 st'->n<=m->m<=nrem->Dsc f (arrOf st') lo m->q+1<=m->(∀i,lo+m-(q+1)<=i->i<lo+m->Fk f (arrOf st') i=Fk f (arrOf st') (lo+m-1))->Q (none,m,q) st') :
  wpS (model prog w) A E s (dnLoop lo n nrem) Q st:=by
 unfold dnLoop
 refine wpS_forRange (I:=fun x c st'=>∃q,c=(none,x,q)/\TB κ a₀ st'/\Fr lo st0 st'/\Dsc f (arrOf st') lo x/\q+1<=x/\∀i,lo+x-(q+1)<=i->i<lo+x->Fk f (arrOf st') i=Fk f (arrOf st') (lo+x-1)) ?step ?fin ⟨0,rfl,B,F,hs,by omega,fun i h1 h2=>by congr 1;omega⟩
 case fin=>
  rintro c st' ⟨q,rfl,B',F',hs',hq,he⟩
  rw[show max n nrem=nrem by omega]at hs' hq he⊢
  exact h nrem q st' B' F' hnn (Nat.le_refl _) hs' hq he
 case step=>
  rintro x c st' hax hxn ⟨q,rfl,B',F',hs',hq,he⟩
  dsimp only
  have hsz:lo+x<=(arrOf st').size:=by rw[B'.size];omega
  refine wpS_bind (wpS_ltF C hm B' (by omega) (by omega) ?_)
  by_cases hl:Fk f (arrOf st') (lo+x)<Fk f (arrOf st') (lo+x-1)
  .simp only[hl,decide_true,if_true]
   by_cases hq0:q>0
   .rw[if_pos hq0]
    exact wpS_bind (revS_at (wpS_pure ⟨0,rfl,B'.set (mirror_perm _ _ _ _),F'.trans (Fr.mir (by omega) hsz),dsc_more (by omega) hs' (Fk_mir_eq hsz he) (Int.le_of_lt hl),by omega,fun i h1 h2=>by congr 1;omega⟩))
   .rw[if_neg hq0]
    exact wpS_pure ⟨0,rfl,B',F',dsc_more (by omega) hs' (fun _=>rfl) (Int.le_of_lt hl),by omega,fun i h1 h2=>by congr 1;omega⟩
  .simp only[hl,decide_false,Bool.false_eq_true,if_false]
   refine wpS_bind (wpS_ltF C hm B' (by omega) (by omega) ?_)
   by_cases hg:Fk f (arrOf st') (lo+x-1)<Fk f (arrOf st') (lo+x)
   .simp only[hg,decide_true,if_true]
    exact wpS_pure (h x q st' B' F' hax (by omega) hs' hq he)
   .simp only[hg,decide_false,Bool.false_eq_true,if_false]
    have hx:Fk f (arrOf st') (lo+x)=Fk f (arrOf st') (lo+x-1):=by omega
    refine wpS_pure ⟨q+1,rfl,B',F',dsc_more (by omega) hs' (fun _=>rfl) (by omega),by omega,fun i h1 h2=>?_⟩
    rw[show lo+(x+1)-1=lo+x by omega]
    by_cases hix:i=lo+x
    .rw[hix]
    .rw[hx];exact he i (by omega) (by omega)
theorem wpS_dnPart(C:CmpS prog w A s κ mem (fl f))(hm:∀x∈a₀.toList,mem x){st0 st:SortSt}{lo n nrem:Nat}{Q:Option Nat->SortSt->Prop}(hn:lo+nrem<=a₀.size)(hnn:n+1<=nrem)(B:TB κ a₀ st)(F:Fr lo st0 st)(hs:Dsc f (arrOf st) lo (n+1))
  (h:RunPost f κ a₀ lo nrem st0 Q):wpS (model prog w) A E s (dnPart lo n nrem) Q st:=by
 unfold dnPart
 refine wpS_bind (wpS_lift (wpAny_rule ⟨rfl,?_⟩))
 refine wpS_bind (wpS_dnLoop C hm hn (by omega) hnn B F hs fun m q st' B' F' hm1 hm2 hs' hq he=>?_)
 dsimp only
 have hsz:lo+m<=(arrOf st').size:=by rw[B'.size];omega
 by_cases hq0:q>0
 .rw[if_pos hq0]
  refine wpS_bind (revS_at (wpS_dnTail C hm hn (by omega) hm2 (B'.set (mirror_perm _ _ _ _)) (F'.trans (Fr.mir (by omega) hsz)) ?_ h))
  intro i j hi hij hj
  show Fk f (mirror (arrOf st') _ _ _) j<=Fk f (mirror (arrOf st') _ _ _) i
  rw[Fk_mir_eq hsz he,Fk_mir_eq hsz he]
  exact hs' i j hi hij hj
 .rw[if_neg hq0]
  exact wpS_dnTail C hm hn (by omega) hm2 B' F' hs' h
theorem wpS_run(C:CmpS prog w A s κ mem (fl f))(hm:∀x∈a₀.toList,mem x){st:SortSt}{lo nrem:Nat}{Q:Option Nat->SortSt->Prop}(hn:lo+nrem<=a₀.size)(h1:1<=nrem)(B:TB κ a₀ st)(h:RunPost f κ a₀ lo nrem st Q) :
  wpS (model prog w) A E s (countRun' lo nrem) Q st:=by
 rw[count_lo]
 refine wpS_bind (wpS_up C hm hn (Nat.le_refl 1) h1 B (fun i j hi hij hj=>by obtain rfl:i=j:=by omega
                                                                             exact Int.le_refl _) fun n hn1 hn2 hsn hor=>?_)
 dsimp only
 by_cases hnn:n=nrem
 .rw[if_pos (by simpa using hnn)]
  exact wpS_pure (h n st B (Fr.refl _ _) hn1 hn2 hsn)
 .rw[if_neg (by simpa using hnn)]
  have hlt:Fk f (arrOf st) (lo+n)<Fk f (arrOf st) (lo+n-1):=hor.resolve_left hnn
  by_cases hgt:n>1
  .rw[if_pos hgt]
   refine wpS_bind (wpS_ltF C hm B (by omega) (by omega) ?_)
   by_cases hr:Fk f (arrOf st) lo<Fk f (arrOf st) (lo+n-1)
   .simp only[hr,decide_true,if_true]
    exact wpS_pure (h n st B (Fr.refl _ _) hn1 hn2 hsn)
   .simp only[hr,decide_false,Bool.false_eq_true,if_false]
    have hsz:lo+n<=(arrOf st).size:=by rw[B.size];omega
    have hall:∀k,lo<=k->k<lo+n->Fk f (arrOf st) k=Fk f (arrOf st) (lo+n-1):=by
     intro k hlk hk
     have a1:=hsn lo k (by omega) hlk hk
     have a2:=hsn k (lo+n-1) (by omega) (by omega) (by omega)
     omega
    refine wpS_bind (revS_at (wpS_dnPart C hm hn (by omega) (B.set (mirror_perm _ _ _ _)) (Fr.mir (Nat.le_refl lo) hsz) (dsc_more (xs:=arrOf st) hn1 ?_ (Fk_mir_eq hsz hall) (Int.le_of_lt hlt)) h))
    intro i j hi hij hj
    rw[hall i (by omega) (by omega),hall j (by omega) hj]
    exact Int.le_refl _
  .rw[if_neg hgt]
   obtain rfl:n=1:=by omega
   refine wpS_dnPart C hm hn (by omega) B (Fr.refl _ _) (dsc_more (xs:=arrOf st) hn1 ?_ (fun _=>rfl) (Int.le_of_lt hlt)) h
   intro i j hi hij hj
   obtain rfl:i=j:=by omega
   exact Int.le_refl _
theorem wpS_ins(C:CmpS prog w A s κ mem (fl f))(hm:∀x∈a₀.toList,mem x){st:SortSt}{lo n ok:Nat}{Q:Bool->SortSt->Prop}(hn:lo+n<=a₀.size)(hok:ok<=n)(B:TB κ a₀ st)(hs:Seg f (arrOf st) lo ok)
  (h:∀st',TB κ a₀ st'->Fr lo st st'->Seg f (arrOf st') lo n->Q true st'):wpS (model prog w) A E s (binarySort' lo n ok) Q st:=by
 rw[binarySort'_eq]
 refine wpS_bind (wpS_mono (wpS_forRange (I:=fun k c st'=>c=(none,())/\TB κ a₀ st'/\Fr lo st st'/\Seg f (arrOf st') lo (min k n)) (Q:=fun c st'=>c=(none,())/\TB κ a₀ st'/\Fr lo st st'/\Seg f (arrOf st') lo n) ?step ?fin ?init) ?post)
 case post=>
  rintro c st' ⟨rfl,B',F',hs'⟩
  exact wpS_pure (h st' B' F' hs')
 case init=>
  refine⟨rfl,B,Fr.refl _ _,fun i j hi hij hj=>?_⟩
  by_cases h1:ok=0
  .obtain rfl:i=j:=by omega
   exact Int.le_refl _
  .exact hs i j hi hij (by omega)
 case fin=>
  rintro c st' ⟨hc,B',F',hs'⟩
  refine⟨hc,B',F',?_⟩
  rwa [show min (max (max ok 1) n) n=n by omega]at hs'
 case step=>
  rintro k c st' hak hkn ⟨rfl,B',F',hs'⟩
  rw[show min k n=k by omega]at hs'
  have hk:lo+k<a₀.size:=by omega
  refine wpS_bind (wpS_mono (wpS_forRange (I:=fun x c st''=>st''=st'/\∃l r,c=(none,l,r)/\l<=r/\r<=k/\r-l<=k-x/\(∀i,i<l->Fk f (arrOf st') (lo+i)<=Fk f (arrOf st') (lo+k))/\∀i,r<=i->i<k->Fk f (arrOf st') (lo+k)<Fk f (arrOf st') (lo+i))
   (Q:=fun c st''=>st''=st'/\∃l r,c=(none,l,r)/\l<=k/\(∀i,i<l->Fk f (arrOf st') (lo+i)<=Fk f (arrOf st') (lo+k))/\∀i,l<=i->i<k->Fk f (arrOf st') (lo+k)<Fk f (arrOf st') (lo+i)) ?istep ?ifin ?iinit) ?ipost)
  case iinit=>exact⟨rfl,0,k,rfl,by omega,by omega,by omega,fun i hi=>by omega,fun i h1 h2=>by omega⟩
  case ifin=>
   rintro c st'' ⟨rfl,l,r,rfl,hlr,hrk,hmm,hlo,hhi⟩
   obtain rfl:l=r:=by omega
   exact⟨rfl,l,l,rfl,hrk,hlo,hhi⟩
  case istep=>
   rintro x c st'' _ hxk ⟨rfl,l,r,rfl,hlr,hrk,hmm,hlo,hhi⟩
   dsimp only
   by_cases hge:l>=r
   .rw[if_pos hge]
    obtain rfl:l=r:=by omega
    exact wpS_pure ⟨rfl,l,l,rfl,hrk,hlo,hhi⟩
   .rw[if_neg hge]
    refine wpS_bind (wpS_ltF C hm B' hk (by omega) ?_)
    by_cases hl:Fk f (arrOf st'') (lo+k)<Fk f (arrOf st'') (lo+(l+r)/2)
    .simp only[hl,decide_true,if_true]
     refine wpS_pure ⟨rfl,l,(l+r)/2,rfl,by omega,by omega,by omega,hlo,fun i h1 h2=>?_⟩
     have:=hs' (lo+(l+r)/2) (lo+i) (by omega) (by omega) (by omega)
     omega
    .simp only[hl,decide_false,Bool.false_eq_true,if_false]
     refine wpS_pure ⟨rfl,(l+r)/2+1,r,rfl,by omega,by omega,by omega,fun i h1=>?_,hhi⟩
     have:=hs' (lo+i) (lo+(l+r)/2) (by omega) (by omega) (by omega)
     omega
  case ipost=>
   rintro c st'' ⟨rfl,l,r,rfl,hlk,hlo,hhi⟩
   show wpS _ _ _ _ (do moveDown' (lo+k) (lo+l);pure (ForInStep.yield (none,()))) _ _
   rw[moveDown'_eq]
   have hks:lo+k<(arrOf st'').size:=by rw[B'.size];exact hk
   refine wpS_bind (wpS_modify (wpS_pure ⟨rfl,B'.set (bubble_perm _ _ _),F'.trans (Fr.bub hks (by omega) (by omega)),?_⟩))
   rw[show min (k+1) n=k+1 by omega]
   intro i j hi hij hj
   show Fk f (bubble (arrOf st'') (lo+k) (lo+k-(lo+l))) i<=Fk f (bubble (arrOf st'') (lo+k) (lo+k-(lo+l))) j
   rw[Fk_bub hks (by omega),Fk_bub hks (by omega),show lo+k-(lo+k-(lo+l))=lo+l by omega]
   have hlo':∀i,lo<=i->i<lo+l->Fk f (arrOf st'') i<=Fk f (arrOf st'') (lo+k):=fun i a1 a2=>by
    have:=hlo (i-lo) (by omega)
    rwa [show lo+(i-lo)=i by omega]at this
   have hhi':∀i,lo+l<=i->i<lo+k->Fk f (arrOf st'') (lo+k)<Fk f (arrOf st'') i:=fun i a1 a2=>by
    have:=hhi (i-lo) (by omega) (by omega)
    rwa [show lo+(i-lo)=i by omega]at this
   repeat' split
   all_goals first
    | (exfalso;omega)
    | exact Int.le_refl _
    | exact hlo' _ (by omega) (by omega)
    | exact Int.le_of_lt (hhi' _ (by omega) (by omega))
    | exact hs' _ _ (by omega) (by omega) (by omega)
end
def splice(arr:Array Keyed)(l:List (Keyed×Nat))(sa:Nat):Array Keyed:=l.foldl (fun a q=>a.setIfInBounds (sa+q.2) q.1) arr
theorem splice_get(sa:Nat):∀(l:List Keyed) (o:Nat) (arr:Array Keyed),sa+o+l.length<=arr.size->∀k,(splice arr (l.zipIdx o) sa)[k]?=if sa+o<=k/\k<sa+o+l.length then l[k-(sa+o)]? else arr[k]?
 | [],o,arr,h,k=>by
  show arr[k]?=_
  rw[if_neg (by show ¬(sa+o<=k/\k<sa+o+0);omega)]
 | x::l,o,arr,h,k=>by
  have h':sa+o+(l.length+1)<=arr.size:=by simpa using h
  show(splice (arr.setIfInBounds (sa+o) x) (l.zipIdx (o+1)) sa)[k]?=_
  rw[splice_get sa l (o+1) _ (by simp;omega) k]
  by_cases hk:k=sa+o
  .rw[if_neg (by omega),if_pos (by simp;omega),hk]
   simp[Array.getElem?_setIfInBounds]
   omega
  .by_cases h2:sa+(o+1)<=k/\k<sa+(o+1)+l.length
   .rw[if_pos h2,if_pos (by simp;omega)]
    obtain⟨d,hd⟩:∃d,k-(sa+o)=d+1:=⟨k-(sa+o)-1,by omega⟩
    rw[hd,List.getElem?_cons_succ]
    congr 1
    omega
   .rw[if_neg h2,if_neg (by simp;omega),Array.getElem?_setIfInBounds_ne (by omega)]
theorem splice_list{arr:Array Keyed}{l:List Keyed}{sa:Nat}(h:sa+l.length<=arr.size):(splice arr l.zipIdx sa).toList=arr.toList.take sa++l++arr.toList.drop (sa+l.length):=by
 apply List.ext_getElem?
 intro k
 have e:=splice_get sa l 0 arr (by omega) k
 rw[Array.getElem?_toList,e]
 have hs:arr.toList.length=arr.size:=by simp
 by_cases h1:k<sa
 .rw[if_neg (by omega),List.append_assoc,List.getElem?_append_left (by simp;omega),List.getElem?_take_of_lt h1,Array.getElem?_toList]
 .by_cases h2:k<sa+l.length
  .rw[if_pos (by omega),List.append_assoc,List.getElem?_append_right (by simp;omega),List.getElem?_append_left (by simp;omega)]
   congr 1
   simp
   omega
  .rw[if_neg (by omega),List.getElem?_append_right (by simp;omega),List.getElem?_drop,Array.getElem?_toList]
   congr 1
   simp
   omega
theorem splice_perm{arr:Array Keyed}{l:List Keyed}{sa e:Nat}(he:sa<=e)(h:e<=arr.size)(hp:l.Perm (arr.extract sa e).toList):(splice arr l.zipIdx sa).Perm arr:=by
 have hl:l.length=e-sa:=by rw[hp.length_eq];simp;omega
 rw[Array.perm_iff_toList_perm,splice_list (by omega)]
 have e2:arr.toList=arr.toList.take sa++(arr.extract sa e).toList++arr.toList.drop (sa+l.length):=by
  rw[hl,show sa+(e-sa)=e by omega]
  have:(arr.extract sa e).toList=(arr.toList.drop sa).take (e-sa):=by simp
  rw[this]
  conv=>lhs;rw[<-List.take_append_drop sa arr.toList,<-List.take_append_drop (e-sa) (arr.toList.drop sa),List.drop_drop,show sa+(e-sa)=e by omega]
  rw[List.append_assoc]
 refine List.Perm.trans ?_ (List.Perm.of_eq e2.symm)
 exact(List.Perm.append_left _ hp).append_right _
theorem splice_from{f:Keyed->Int}{arr:Array Keyed}{l:List Keyed}{sa e:Nat}(he:sa<=e)(h:e<=arr.size)(hp:l.Perm (arr.extract sa e).toList){k:Nat}(h1:sa<=k)(h2:k<e):∃q,sa<=q/\q<e/\Fk f (splice arr l.zipIdx sa) k=Fk f arr q:=by
 have hl:l.length=e-sa:=by rw[hp.length_eq];simp;omega
 have e1:=splice_get sa l 0 arr (by omega) k
 rw[if_pos (by omega)]at e1
 have hk:k-(sa+0)<l.length:=by omega
 have hx:l[k-(sa+0)]∈(arr.extract sa e).toList:=hp.mem_iff.mp (List.getElem_mem hk)
 obtain⟨q,hq⟩:=List.mem_iff_getElem?.mp hx
 rw[Array.getElem?_toList]at hq
 have hq2:q<(arr.extract sa e).size:=(Array.getElem?_eq_some_iff.mp hq).1
 have hq3:q<e-sa:=by have:=hq2;simp at this;omega
 rw[Array.getElem?_extract,if_pos (by omega)]at hq
 refine⟨sa+q,by omega,by omega,Fk_of ?_⟩
 rw[e1,hq,getElem?_pos l _ hk]
theorem splice_out{f:Keyed->Int}{arr:Array Keyed}{l:List Keyed}{sa e:Nat}(he:sa<=e)(h:e<=arr.size)(hl:l.length=e-sa){k:Nat}(h1:k<sa\/e<=k):(splice arr l.zipIdx sa)[k]?=arr[k]?:=by
 rw[splice_get sa l 0 arr (by omega) k,if_neg (by omega)]
theorem splice_srt{f:Keyed->Int}{arr:Array Keyed}{l:List Keyed}{sa e:Nat}(he:sa<=e)(h:e<=arr.size)(hl:l.length=e-sa)(hs:Srt (fl f) l):Seg f (splice arr l.zipIdx sa) sa (e-sa):=by
 intro i j hi hij hj
 have e1:=splice_get sa l 0 arr (by omega) i
 have e2:=splice_get sa l 0 arr (by omega) j
 rw[if_pos (by omega)]at e1 e2
 have hi2:i-(sa+0)<l.length:=by omega
 have hj2:j-(sa+0)<l.length:=by omega
 rw[getElem?_pos l _ hi2]at e1
 rw[getElem?_pos l _ hj2]at e2
 unfold Fk
 rw[e1,e2]
 show f _<=f _
 by_cases hq:i=j
 .subst hq;exact Int.le_refl _
 .have:=List.pairwise_iff_getElem.mp hs (i-(sa+0)) (j-(sa+0)) hi2 hj2 (by omega)
  simpa using this
section
variable{prog:Program}{w:World}{A:Around}{E:Value->Shared->Prop}{s:Shared}
variable{κ:SortKind}{mem:Keyed->Prop}{f:Keyed->Int}{a₀:Array Keyed}
theorem set_at{st st':SortSt}{Q:PUnit->SortSt->Prop}(h:Q ⟨⟩ st'):wpS (model prog w) A E s (set st':StateT SortSt Sem PUnit) Q st:=by
 unfold wpS;rw[StateT.run_set];exact wpAny_pure ⟨rfl,h⟩
theorem Fk_some{xs:Array Keyed}{i:Nat}{x:Keyed}(h:xs[i]?=some x):Fk f xs i=f x:=by unfold Fk;rw[h];rfl
theorem wpS_mergeAt(C:CmpS prog w A s κ mem (fl f))(hm:∀x∈a₀.toList,mem x){st:SortSt}{i sa na pa sb nb pb:Nat}(B:TB κ a₀ st)(hi:(pendingOf st)[i]?=some (sa,na,pa))(hi1:(pendingOf st)[i+1]?=some (sb,nb,pb))(hsb:sb=sa+na)(hna:1<=na)(hnb:1<=nb)(hsz:sb+nb<=a₀.size)
  (sA:Seg f (arrOf st) sa na) (sB:Seg f (arrOf st) sb nb) {Q:Bool->SortSt->Prop}
  (h:∀st',TB κ a₀ st'->pendingOf st'=((pendingOf st).setIfInBounds i (sa,na+nb,pa)).eraseIdxIfInBounds (i+1)->(∀k,k<sa\/sb+nb<=k->(arrOf st')[k]?=(arrOf st)[k]?)->Seg f (arrOf st') sa (na+nb)->Q true st') :
  wpS (model prog w) A E s (mergeAt' i) Q st:=by
 refine wpS_bind (wpS_get ?_)
 rw[hi,hi1]
 dsimp only
 refine wpS_bind (set_at ?_)
 have B1:TB κ a₀ (SortSt.mk' (kindOf st) (arrOf st) (((pendingOf st).setIfInBounds i (sa,na+nb,pa)).eraseIdxIfInBounds (i+1)) (gallopOf st) (failedOf st)):=⟨B.perm,B.kind,B.failed⟩
 have h1:=h _ B1 rfl
 have h2:∀(g:Nat) (arr':Array Keyed),arr'.Perm (arrOf st)->(∀k,k<sa\/sb+nb<=k->arr'[k]?=(arrOf st)[k]?)->Seg f arr' sa (na+nb)->Q true (SortSt.mk' (kindOf st) arr' (((pendingOf st).setIfInBounds i (sa,na+nb,pa)).eraseIdxIfInBounds (i+1)) g (failedOf st)):=
  fun g arr' hp ho hs=>h (SortSt.mk' (kindOf st) arr' (((pendingOf st).setIfInBounds i (sa,na+nb,pa)).eraseIdxIfInBounds (i+1)) g (failedOf st)) ⟨hp.trans B.perm,B.kind,B.failed⟩ rfl ho hs
 have hsize:=B.size
 show wpS (model prog w) A E s _ Q (SortSt.mk' (kindOf st) (arrOf st) (((pendingOf st).setIfInBounds i (sa,na+nb,pa)).eraseIdxIfInBounds (i+1)) (gallopOf st) (failedOf st))
 generalize hst1:SortSt.mk' (kindOf st) (arrOf st) (((pendingOf st).setIfInBounds i (sa,na+nb,pa)).eraseIdxIfInBounds (i+1)) (gallopOf st) (failedOf st)=st1 at B1 h1⊢
 obtain⟨xb,exb,mxb,fxb⟩:=B.at (f:=f) hm (show sb<a₀.size by omega)
 have memA:∀i z,(arrOf st)[i]?=some z->mem z:=fun i z hz=>hm z ((Array.perm_iff_toList_perm.mp B.perm).mem_iff.mp (by obtain⟨h1,h2⟩:=Array.getElem?_eq_some_iff.mp hz;rw[<-h2];simp))
 have isA:arrOf st1=arrOf st:=by rw[<-hst1]
 refine wpS_bind (elem_at exb (wpS_bind (wpS_galR (st:=st1) (base:=sa) (n:=na) (hint:=0) C (fl_ord f) B1.kind mxb (by omega) (fun i z hi hz=>memA _ z hz) (by omega) (fun i j y z hij hj hy hz=>?_) fun k hkn g1 g2=>?_)))
 .have:=sA (sa+i) (sa+j) (by omega) (by omega) (by omega)
  rw[Fk_some hy,Fk_some hz]at this
  simpa using this
 have g1':∀q,sa<=q->q<sa+k->Fk f (arrOf st) q<=Fk f (arrOf st) sb:=fun q q1 q2=>by
  obtain⟨z,ez,_,fz⟩:=B.at (f:=f) hm (show q<a₀.size by omega)
  have:=g1 (q-sa) z (by omega) (by rw[show sa+(q-sa)=q by omega];exact ez)
  rw[<-fxb,<-fz]
  simpa using this
 dsimp only
 by_cases hk0:(na-k==0)=true
 .rw[if_pos hk0]
  have hk1:na-k=0:=by simpa using hk0
  refine wpS_pure (h1 (fun q _=>by rw[isA]) ?_)
  rw[isA]
  intro i j hi hij hj
  by_cases hj2:j<sb
  .exact sA i j hi hij (by omega)
  .by_cases hi2:i<sb
   .have a1:=g1' i hi (by omega)
    have a2:=sB sb j (Nat.le_refl _) (by omega) (by omega)
    omega
   .exact sB i j (by omega) hij (by omega)
 rw[if_neg hk0]
 have hk1:k<na:=by have:¬na-k=0:=by simpa using hk0
                   omega
 obtain⟨xl,exl,mxl,fxl⟩:=B.at (f:=f) hm (show sb-1<a₀.size by omega)
 have exl':(arrOf st)[sa+k+(na-k)-1]?=some xl:=by rw[show sa+k+(na-k)-1=sb-1 by omega];exact exl
 refine wpS_bind (elem_at exl' (wpS_bind (wpS_galL (st:=st1) (base:=sb) (n:=nb) (hint:=nb-1) C (fl_ord f) B1.kind mxl (by omega) (fun i z hi hz=>memA _ z hz) (by omega) (fun i j y z hij hj hy hz=>?_) fun n2 hn2 g3 g4=>?_)))
 .have:=sB (sb+i) (sb+j) (by omega) (by omega) (by omega)
  rw[Fk_some hy,Fk_some hz]at this
  simpa using this
 have g4':∀q,sb+n2<=q->q<sb+nb->Fk f (arrOf st) (sb-1)<=Fk f (arrOf st) q:=fun q q1 q2=>by
  obtain⟨z,ez,_,fz⟩:=B.at (f:=f) hm (show q<a₀.size by omega)
  have:=g4 (q-sb) z (by omega) (by omega) (by rw[show sb+(q-sb)=q by omega];exact ez)
  rw[<-fxl,<-fz]
  simpa using this
 dsimp only
 by_cases hn0:(n2==0)=true
 .rw[if_pos hn0]
  have hn1:n2=0:=by simpa using hn0
  refine wpS_pure (h1 (fun q _=>by rw[isA]) ?_)
  rw[isA]
  intro i j hi hij hj
  by_cases hj2:j<sb
  .exact sA i j hi hij (by omega)
  .by_cases hi2:i<sb
   .have a1:=sA i (sb-1) hi (by omega) (by omega)
    have a2:=g4' j (by omega) (by omega)
    omega
   .exact sB i j (by omega) hij (by omega)
 rw[if_neg hn0]
 have hn1:1<=n2:=by have:¬n2=0:=by simpa using hn0
                    omega
 have ga:∀q,((arrOf st).extract (sa+k) sb)[q]?=if q<sb-(sa+k)then(arrOf st)[sa+k+q]? else none:=fun q=>by
  rw[Array.getElem?_extract]
  have:min sb (arrOf st).size=sb:=by omega
  rw[this]
 have gb:∀q,((arrOf st).extract sb (sb+n2))[q]?=if q<n2 then(arrOf st)[sb+q]? else none:=fun q=>by
  rw[Array.getElem?_extract]
  have:min (sb+n2) (arrOf st).size-sb=n2:=by omega
  rw[this]
 have za:((arrOf st).extract (sa+k) sb).size=sb-(sa+k):=by simp;omega
 have zb:((arrOf st).extract sb (sb+n2)).size=n2:=by simp;omega
 have inA:∀z∈((arrOf st).extract (sa+k) sb).toList,∃q,sa+k<=q/\q<sb/\(arrOf st)[q]?=some z:=fun z hz=>by
  obtain⟨q,hq⟩:=List.mem_iff_getElem?.mp hz
  rw[Array.getElem?_toList,ga]at hq
  by_cases hq2:q<sb-(sa+k)
  .rw[if_pos hq2]at hq;exact⟨_,by omega,by omega,hq⟩
  .rw[if_neg hq2]at hq;cases hq
 have inB:∀z∈((arrOf st).extract sb (sb+n2)).toList,∃q,q<n2/\(arrOf st)[sb+q]?=some z:=fun z hz=>by
  obtain⟨q,hq⟩:=List.mem_iff_getElem?.mp hz
  rw[Array.getElem?_toList,gb]at hq
  by_cases hq2:q<n2
  .rw[if_pos hq2]at hq;exact⟨_,hq2,hq⟩
  .rw[if_neg hq2]at hq;cases hq
 have srtOf:∀(lo m:Nat),lo+m<=(arrOf st).size->Seg f (arrOf st) lo m->Srt (fl f) ((arrOf st).extract lo (lo+m)).toList:=fun lo m hlm hs=>by
  refine List.pairwise_iff_getElem.mpr fun i j hi hj hij=>?_
  have zi:((arrOf st).extract lo (lo+m)).toList.length=m:=by simp;omega
  have:=hs (lo+i) (lo+j) (by omega) (by omega) (by omega)
  rw[Fk_some (getElem?_pos (arrOf st) (lo+i) (by omega)),Fk_some (getElem?_pos (arrOf st) (lo+j) (by omega))]at this
  simpa using this
 have T:Two mem (fl f) ((arrOf st).extract (sa+k) sb) ((arrOf st).extract sb (sb+n2)):=by
  refine⟨fun z hz=>?_,fun z hz=>?_,?_,srtOf sb n2 (by omega) fun i j hi hij hj=>sB i j hi hij (by omega),by omega,by omega,fun x y hx hy=>?_,fun y hy x hx=>?_⟩
  .obtain⟨q,_,_,hq⟩:=inA z hz
   exact memA q z hq
  .obtain⟨q,_,hq⟩:=inB z hz
   exact memA _ z hq
  .have:=srtOf (sa+k) (na-k) (by omega) fun i j hi hij hj=>sA i j (by omega) hij (by omega)
   rwa [show sa+k+(na-k)=sb by omega]at this
  .rw[gb,if_pos (by omega)]at hx
   rw[ga,if_pos (by omega)]at hy
   have e0:x=xb:=by rw[Nat.add_zero,exb]at hx;exact(Option.some.inj hx).symm
   rw[e0]
   exact g2 k y (Nat.le_refl _) hk1 (by simpa using hy)
  .obtain⟨q,hq1,hq⟩:=inB y hy
   rw[za,ga,if_pos (by omega),show sa+k+(sb-(sa+k)-1)=sb-1 by omega,exl]at hx
   rw[<-Option.some.inj hx]
   exact g3 q y hq1 hq
 have whole:((arrOf st).extract (sa+k) sb).toList++((arrOf st).extract sb (sb+n2)).toList=((arrOf st).extract (sa+k) (sb+n2)).toList:=by
  rw[<-Array.toList_append,Array.extract_append_extract]
  congr 2<;>omega
 have fin:∀(out:Array Keyed) (st':SortSt),SameG st1 st'->Merged (fl f) ((arrOf st).extract (sa+k) sb).toList ((arrOf st).extract sb (sb+n2)).toList out.toList->Q true (setArr st' (splice (arrOf st') out.toList.zipIdx (sa+k))):=by
  intro out st' G M
  have hp:out.toList.Perm ((arrOf st).extract (sa+k) (sb+n2)).toList:=by rw[<-whole];exact M.1
  have hl:out.toList.length=sb+n2-(sa+k):=by rw[hp.length_eq];simp;omega
  have e1:setArr st' (splice (arrOf st') out.toList.zipIdx (sa+k))=SortSt.mk' (kindOf st) (splice (arrOf st) out.toList.zipIdx (sa+k)) (((pendingOf st).setIfInBounds i (sa,na+nb,pa)).eraseIdxIfInBounds (i+1)) (gallopOf st') (failedOf st):=by
   show SortSt.mk' (kindOf st') (splice (arrOf st') _ _) (pendingOf st') (gallopOf st') (failedOf st')=_
   rw[G.1,G.2.1,G.2.2.1,G.2.2.2,<-hst1]
  rw[e1]
  have sM:=splice_srt (f:=f) (arr:=arrOf st) (show sa+k<=sb+n2 by omega) (by omega) hl M.2
  have from':∀q,sa+k<=q->q<sb+n2->∃p,sa+k<=p/\p<sb+n2/\Fk f (splice (arrOf st) out.toList.zipIdx (sa+k)) q=Fk f (arrOf st) p:=fun q q1 q2=>splice_from (f:=f) (show sa+k<=sb+n2 by omega) (by omega) hp q1 q2
  have out':∀q,q<sa+k\/sb+n2<=q->(splice (arrOf st) out.toList.zipIdx (sa+k))[q]?=(arrOf st)[q]?:=fun q hq=>splice_out (f:=f) (show sa+k<=sb+n2 by omega) (by omega) hl hq
  refine h2 _ _ (splice_perm (show sa+k<=sb+n2 by omega) (by omega) hp) (fun q hq=>out' q (by omega)) ?_
  have lowAll:∀i p,sa<=i->i<sa+k->sa+k<=p->p<sb+nb->Fk f (arrOf st) i<=Fk f (arrOf st) p:=fun i p i1 i2 p1 p2=>by
   by_cases hp2:p<sb
   .exact sA i p i1 (by omega) (by omega)
   .have a1:=g1' i i1 i2
    have a2:=sB sb p (Nat.le_refl _) (by omega) (by omega)
    omega
  have hiAll:∀p j,sa<=p->p<sb+n2->sb+n2<=j->j<sb+nb->Fk f (arrOf st) p<=Fk f (arrOf st) j:=fun p j p1 p2 j1 j2=>by
   by_cases hp2:p<sb
   .have a1:=sA p (sb-1) p1 (by omega) (by omega)
    have a2:=g4' j j1 j2
    omega
   .exact sB p j (by omega) (by omega) (by omega)
  intro i j hi hij hj
  by_cases hi2:i<sa+k
  .rw[Fk_of (f:=f) (out' i (.inl hi2))]
   by_cases hj2:j<sa+k
   .rw[Fk_of (f:=f) (out' j (.inl hj2))]
    exact sA i j hi hij (by omega)
   .by_cases hj3:j<sb+n2
    .obtain⟨p,p1,p2,ep⟩:=from' j (by omega) hj3
     rw[ep]
     exact lowAll i p hi hi2 p1 (by omega)
    .rw[Fk_of (f:=f) (out' j (.inr (by omega)))]
     exact lowAll i j hi hi2 (by omega) (by omega)
  .by_cases hi3:i<sb+n2
   .by_cases hj3:j<sb+n2
    .exact sM i j (by omega) hij (by omega)
    .obtain⟨p,p1,p2,ep⟩:=from' i (by omega) hi3
     rw[ep,Fk_of (f:=f) (out' j (.inr (by omega)))]
     exact hiAll p j (by omega) p2 (by omega) (by omega)
   .rw[Fk_of (f:=f) (out' i (.inr (by omega))),Fk_of (f:=f) (out' j (.inr (by omega)))]
    exact sB i j (by omega) hij (by omega)
 have done:∀(out:Array Keyed) (st':SortSt),SameG st1 st'->Merged (fl f) ((arrOf st).extract (sa+k) sb).toList ((arrOf st).extract sb (sb+n2)).toList out.toList->
   wpS (model prog w) A E s (do
    modify fun z=>setArr z (splice (arrOf z) out.toList.zipIdx (sa+k))
    let z <-get
    pure (failedOf z).isNone) Q st':=by
  intro out st' G M
  refine wpS_bind (wpS_modify (wpS_bind (wpS_get (wpS_pure ?_))))
  have e:(failedOf (setArr st' (splice (arrOf st') out.toList.zipIdx (sa+k)))).isNone=true:=by
   show(failedOf st').isNone=true
   rw[G.2.2.2,B1.failed]
   rfl
  rw[e]
  exact fin out st' G M
 by_cases hle:na-k<=n2
 .rw[if_pos hle]
  exact wpS_bind (wpS_mergeLo C (fl_ord f) B1.kind T done)
 .rw[if_neg hle]
  exact wpS_bind (wpS_mergeHi C (fl_ord f) B1.kind T done)
end
def Tile:Nat->List (Nat×Nat×Nat)->Nat->Prop
 | a,[],b=>a=b
 | a,e::r,b=>e.1=a/\1<=e.2.1/\Tile (a+e.2.1) r b
theorem tile_app:∀{l1 l2:List (Nat×Nat×Nat)} {a b:Nat},Tile a (l1++l2) b↔∃c,Tile a l1 c/\Tile c l2 b
 | [],l2,a,b=>⟨fun h=>⟨a,rfl,h⟩,fun⟨c,h1,h2⟩=>by cases h1;exact h2⟩
 | e::r,l2,a,b=>⟨fun h=>by
   obtain⟨c,h1,h2⟩:=tile_app.mp h.2.2
   exact⟨c,⟨h.1,h.2.1,h1⟩,h2⟩,fun⟨c,h1,h2⟩=>⟨h1.1,h1.2.1,tile_app.mpr ⟨c,h1.2.2,h2⟩⟩⟩
theorem tile_len:∀{l:List (Nat×Nat×Nat)} {a b:Nat},Tile a l b->a+l.length<=b
 | [],a,b,h=>by cases h;exact Nat.le_refl _
 | e::r,a,b,h=>by
  have:=tile_len h.2.2
  have:=h.2.1
  simp only[List.length_cons]
  omega
theorem tile_mem:∀{l:List (Nat×Nat×Nat)} {a b:Nat},Tile a l b->∀e∈l,a<=e.1/\e.1+e.2.1<=b
 | [],a,b,h,e,he=>by simp at he
 | d::r,a,b,h,e,he=>by
  have l:=tile_len h.2.2
  have:=h.1
  have:=h.2.1
  rcases List.mem_cons.mp he with rfl|he
  .omega
  .have:=tile_mem h.2.2 e he
   omega
abbrev prT(e:Nat×Nat×Nat):Nat×Nat:=(e.1,e.2.1)
theorem tile_like:∀{l l':List (Nat×Nat×Nat)} {a b:Nat},l'.map prT=l.map prT->Tile a l b->Tile a l' b
 | [],[],a,b,_,h=>h
 | [],e::r,a,b,q,h=>by simp at q
 | d::r,[],a,b,q,h=>by simp at q
 | d::r,e::r',a,b,q,h=>by
  rw[List.map_cons,List.map_cons]at q
  obtain⟨q1,q2⟩:=List.cons.inj q
  obtain⟨e1,e2⟩:e.1=d.1/\e.2.1=d.2.1:=Prod.mk.inj q1
  refine⟨e1.trans h.1,by rw[e2];exact h.2.1,?_⟩
  rw[e2]
  exact tile_like q2 h.2.2
theorem modify_pr(p:Array (Nat×Nat×Nat))(k w:Nat):(p.modify k fun x=>(x.fst,x.2.fst,w)).toList.map prT=p.toList.map prT:=by
 apply List.ext_getElem?
 intro i
 rw[List.getElem?_map,List.getElem?_map,Array.getElem?_toList,Array.getElem?_toList,Array.getElem?_modify]
 split
 .cases p[i]?<;>rfl
 .rfl
structure PInv(f:Keyed->Int)(κ:SortKind)(a₀:Array Keyed)(lo:Nat)(st:SortSt):Prop where
 base:TB κ a₀ st
 tile:Tile 0 (pendingOf st).toList lo
 segs:∀e∈(pendingOf st).toList,Seg f (arrOf st) e.1 e.2.1
 top:lo<=a₀.size
theorem seg_like{f:Keyed->Int}{xs ys:Array Keyed}{lo n:Nat}(h:Seg f xs lo n)(e:∀k,lo<=k->k<lo+n->ys[k]?=xs[k]?):Seg f ys lo n:=fun i j hi hij hj=>by
 rw[Fk_of (f:=f) (e i hi (by omega)),Fk_of (f:=f) (e j (by omega) hj)]
 exact h i j hi hij hj
section
variable{κ:SortKind}{f:Keyed->Int}{a₀:Array Keyed}{lo:Nat}{st st':SortSt}
theorem PInv.frame(P:PInv f κ a₀ lo st)(B:TB κ a₀ st')(F:Fr lo st st'):PInv f κ a₀ lo st':=by
 refine⟨B,by rw[F.pend];exact P.tile,fun e he=>?_,P.top⟩
 rw[F.pend]at he
 have:=tile_mem P.tile e he
 exact seg_like (P.segs e he) fun k h1 h2=>F.low k (by omega)
theorem PInv.like(P:PInv f κ a₀ lo st){p:Array (Nat×Nat×Nat)}(h:p.toList.map prT=(pendingOf st).toList.map prT):PInv f κ a₀ lo (setPending st p):=by
 refine⟨⟨P.base.perm,P.base.kind,P.base.failed⟩,tile_like h P.tile,fun e he=>?_,P.top⟩
 have h1:prT e∈(pendingOf st).toList.map prT:=by rw[<-h];exact List.mem_map.mpr ⟨e,he,rfl⟩
 obtain⟨d,hd,ed⟩:=List.mem_map.mp h1
 obtain⟨e1,e2⟩:d.1=e.1/\d.2.1=e.2.1:=Prod.mk.inj ed
 have:=P.segs d hd
 rw[e1,e2]at this
 exact this
theorem PInv.push(P:PInv f κ a₀ lo st){n w:Nat}(h1:1<=n)(ht:lo+n<=a₀.size)(hs:Seg f (arrOf st) lo n):PInv f κ a₀ (lo+n) (setPending st ((pendingOf st).push (lo,n,w))):=by
 refine⟨⟨P.base.perm,P.base.kind,P.base.failed⟩,?_,fun e he=>?_,ht⟩
 .show Tile 0 ((pendingOf st).push (lo,n,w)).toList (lo+n)
  rw[Array.toList_push]
  exact tile_app.mpr ⟨lo,P.tile,rfl,h1,rfl⟩
 .have he':e∈((pendingOf st).push (lo,n,w)).toList:=he
  rw[Array.toList_push]at he'
  rcases List.mem_append.mp he' with h|h
  .exact P.segs e h
  .rw[List.mem_singleton.mp h]
   exact hs
end
section
variable{prog:Program}{w:World}{A:Around}{E:Value->Shared->Prop}{s:Shared}
variable{κ:SortKind}{mem:Keyed->Prop}{f:Keyed->Int}{a₀:Array Keyed}
theorem wpS_mergeP(C:CmpS prog w A s κ mem (fl f))(hm:∀x∈a₀.toList,mem x){st:SortSt}{i lo:Nat}(P:PInv f κ a₀ lo st)(hi:i+1<(pendingOf st).size){Q:Bool->SortSt->Prop}
  (h:∀st',PInv f κ a₀ lo st'->(pendingOf st').size+1=(pendingOf st).size->(∀k,lo<=k->(arrOf st')[k]?=(arrOf st)[k]?)->Q true st'):wpS (model prog w) A E s (mergeAt' i) Q st:=by
 obtain⟨⟨sa,na,pa⟩,e1⟩:∃e,(pendingOf st)[i]?=some e:=⟨_,getElem?_pos _ i (by omega)⟩
 obtain⟨⟨sb,nb,pb⟩,e2⟩:∃e,(pendingOf st)[i+1]?=some e:=⟨_,getElem?_pos _ (i+1) hi⟩
 obtain⟨l1,l2,hl,hlen⟩:∃l1 l2,(pendingOf st).toList=l1++(sa,na,pa)::(sb,nb,pb)::l2/\l1.length=i:=by
  refine⟨(pendingOf st).toList.take i,(pendingOf st).toList.drop (i+2),?_,by simp;omega⟩
  have hi0:i<(pendingOf st).toList.length:=by simp;omega
  have hi1:i+1<(pendingOf st).toList.length:=by simp;omega
  conv=>lhs;rw[<-List.take_append_drop i (pendingOf st).toList,List.drop_eq_getElem_cons hi0,List.drop_eq_getElem_cons hi1]
  have a1:(pendingOf st).toList[i]=(sa,na,pa):=by
   have:=e1;rw[<-Array.getElem?_toList,getElem?_pos _ i hi0]at this;exact Option.some.inj this
  have a2:(pendingOf st).toList[i+1]=(sb,nb,pb):=by
   have:=e2;rw[<-Array.getElem?_toList,getElem?_pos _ (i+1) hi1]at this;exact Option.some.inj this
  rw[a1,a2]
 have ht:=P.tile
 rw[hl]at ht
 obtain⟨c,t1,t2⟩:=tile_app.mp ht
 obtain⟨h1,h2,h3,h4,t3⟩:=t2
 dsimp only at h1 h2 h3 h4 t3
 have hlast:=tile_len t3
 have sA:=P.segs (sa,na,pa) (by rw[hl];simp)
 have sB:=P.segs (sb,nb,pb) (by rw[hl];simp)
 have top:=P.top
 refine wpS_mergeAt C hm P.base e1 e2 (by omega) h2 h4 (by omega) sA sB fun st' B' hp ho hs=>h st' ?_ ?_ fun k hk=>ho k (.inr (by omega))
 .have hp2:(pendingOf st').toList=l1++(sa,na+nb,pa)::l2:=by
   rw[hp,Array.toList_eraseIdxIfInBounds,Array.toList_setIfInBounds,hl]
   rw[List.set_append_right _ _ (by omega),hlen,Nat.sub_self,List.set_cons_zero,List.eraseIdx_append_of_length_le (by omega),hlen,show i+1-i=1 by omega]
   rfl
  refine⟨B',?_,fun e he=>?_,top⟩
  .rw[hp2]
   refine tile_app.mpr ⟨c,t1,h1,by show 1<=na+nb;omega,?_⟩
   show Tile (c+(na+nb)) l2 lo
   rw[show c+(na+nb)=c+na+nb by omega]
   exact t3
  .rw[hp2]at he
   rcases List.mem_append.mp he with q|q
   .have a1:=tile_mem t1 e q
    exact seg_like (P.segs e (by rw[hl];exact List.mem_append_left _ q)) fun k k1 k2=>ho k (.inl (by omega))
   .rcases List.mem_cons.mp q with q|q
    .rw[q];exact hs
    .have a1:=tile_mem t3 e q
     exact seg_like (P.segs e (by rw[hl];simp[q])) fun k k1 k2=>ho k (.inr (by omega))
 .have:=congrArg List.length (show(pendingOf st').toList=l1++(sa,na+nb,pa)::l2 by
   rw[hp,Array.toList_eraseIdxIfInBounds,Array.toList_setIfInBounds,hl]
   rw[List.set_append_right _ _ (by omega),hlen,Nat.sub_self,List.set_cons_zero,List.eraseIdx_append_of_length_le (by omega),hlen,show i+1-i=1 by omega]
   rfl)
  have q:=congrArg List.length hl
  simp at this q
  omega
theorem wpS_sortAll(C:CmpS prog w A s κ mem (fl f))(hm:∀x∈a₀.toList,mem x){st:SortSt}(B:TB κ a₀ st)(h0:pendingOf st=#[]){Q:Unit->SortSt->Prop}
  (h:∀st',TB κ a₀ st'->Seg f (arrOf st') 0 a₀.size->Q () st'):wpS (model prog w) A E s sortRuns' Q st:=by
 rw[sortRuns'_eq]
 refine wpS_bind (wpS_get ?_)
 dsimp only
 simp only[B.size]
 refine wpS_bind (wpS_mono (wpS_forRange (I:=fun x c st'=>∃lo,c=(none,lo)/\x<=lo/\PInv f κ a₀ lo st') (Q:=fun c st'=>c=(none,a₀.size)/\PInv f κ a₀ a₀.size st') ?step ?fin ?init) ?post)
 case init=>exact⟨0,rfl,Nat.le_refl _,B,by rw[h0];rfl,fun e he=>by rw[h0]at he;simp at he,Nat.zero_le _⟩
 case fin=>
  rintro c st' ⟨lo,rfl,hx,P⟩
  have:=P.top
  obtain rfl:lo=a₀.size:=by omega
  exact⟨rfl,P⟩
 case step=>
  rintro x c st' _ hx ⟨lo,rfl,hlo,P⟩
  dsimp only
  have top:=P.top
  by_cases hge:lo>=a₀.size
  .rw[if_pos hge]
   obtain rfl:lo=a₀.size:=by omega
   exact wpS_pure ⟨rfl,P⟩
  rw[if_neg hge]
  refine wpS_bind (wpS_run C hm (by omega) (by omega) P.base fun n st2 B2 F2 n1 n2 s2=>?_)
  dsimp only
  by_cases hmin:n<minRun' a₀.size a₀.size 0
  .rw[if_pos hmin]
   refine wpS_bind (wpS_lift (wpAny_rule ⟨rfl,?_⟩))
   refine wpS_bind (wpS_ins C hm (by omega) (by omega) B2 s2 fun st3 B3 F3 s3=>?_)
   rw[if_neg (by simp)]
   have f1:1<=(min (a₀.size-lo) (minRun' a₀.size a₀.size 0)):=by omega
   have P3:PInv f κ a₀ lo st3:=P.frame B3 (F2.trans F3)
   refine wpS_bind (wpS_get ?_)
   cases hb:(pendingOf st3).back? with
   | none=>
    dsimp only
    exact wpS_bind (wpS_modify (wpS_pure ⟨_,rfl,by omega,P3.push f1 (by omega) s3⟩))
   | some e=>
    obtain⟨s1,m1,w1⟩:=e
    dsimp only
    refine wpS_bind (wpS_mono (wpS_forRange (I:=fun _ c st4=>c=(none,())/\PInv f κ a₀ lo st4/\Seg f (arrOf st4) lo (min (a₀.size-lo) (minRun' a₀.size a₀.size 0))) (Q:=fun c st4=>c=(none,())/\PInv f κ a₀ lo st4/\Seg f (arrOf st4) lo (min (a₀.size-lo) (minRun' a₀.size a₀.size 0))) ?_ (fun _ _ hh=>hh) ⟨rfl,P3,s3⟩) ?_)
    .rintro y c st4 _ hy ⟨rfl,P4,s4⟩
     refine wpS_bind (wpS_get ?_)
     by_cases h2:(pendingOf st4).size>1
     .rw[if_pos h2,getElem?_pos (pendingOf st4) ((pendingOf st4).size-2) (by omega)]
      dsimp only
      split
      .exact wpS_pure ⟨rfl,P4,s4⟩
      .refine wpS_bind (wpS_mergeP C hm P4 (by omega) fun st5 P5 _ ho=>?_)
       rw[if_neg (by simp)]
       exact wpS_pure ⟨rfl,P5,seg_like s4 fun k k1 _=>ho k k1⟩
     .rw[if_neg h2]
      exact wpS_pure ⟨rfl,P4,s4⟩
    .rintro c st4 ⟨rfl,P4,s4⟩
     dsimp only
     refine wpS_bind (wpS_modify ?_)
     have P5:=P4.like (p:=(pendingOf st4).modify ((pendingOf st4).size-1) fun x=>(x.fst,x.2.fst,power' a₀.size (2*s1+m1) (2*s1+m1+m1+(min (a₀.size-lo) (minRun' a₀.size a₀.size 0))) a₀.size)) (modify_pr _ _ _)
     exact wpS_bind (wpS_modify (wpS_pure ⟨_,rfl,by omega,P5.push f1 (by omega) s4⟩))
  .rw[if_neg hmin]
   have P3:PInv f κ a₀ lo st2:=P.frame B2 F2
   refine wpS_bind (wpS_get ?_)
   cases hb:(pendingOf st2).back? with
   | none=>
    dsimp only
    exact wpS_bind (wpS_modify (wpS_pure ⟨_,rfl,by omega,P3.push n1 (by omega) s2⟩))
   | some e=>
    obtain⟨s1,m1,w1⟩:=e
    dsimp only
    refine wpS_bind (wpS_mono (wpS_forRange (I:=fun _ c st4=>c=(none,())/\PInv f κ a₀ lo st4/\Seg f (arrOf st4) lo n) (Q:=fun c st4=>c=(none,())/\PInv f κ a₀ lo st4/\Seg f (arrOf st4) lo n) ?_ (fun _ _ hh=>hh) ⟨rfl,P3,s2⟩) ?_)
    .rintro y c st4 _ hy ⟨rfl,P4,s4⟩
     refine wpS_bind (wpS_get ?_)
     by_cases h2:(pendingOf st4).size>1
     .rw[if_pos h2,getElem?_pos (pendingOf st4) ((pendingOf st4).size-2) (by omega)]
      dsimp only
      split
      .exact wpS_pure ⟨rfl,P4,s4⟩
      .refine wpS_bind (wpS_mergeP C hm P4 (by omega) fun st5 P5 _ ho=>?_)
       rw[if_neg (by simp)]
       exact wpS_pure ⟨rfl,P5,seg_like s4 fun k k1 _=>ho k k1⟩
     .rw[if_neg h2]
      exact wpS_pure ⟨rfl,P4,s4⟩
    .rintro c st4 ⟨rfl,P4,s4⟩
     dsimp only
     refine wpS_bind (wpS_modify ?_)
     have P5:=P4.like (p:=(pendingOf st4).modify ((pendingOf st4).size-1) fun x=>(x.fst,x.2.fst,power' a₀.size (2*s1+m1) (2*s1+m1+m1+n) a₀.size)) (modify_pr _ _ _)
     exact wpS_bind (wpS_modify (wpS_pure ⟨_,rfl,by omega,P5.push n1 (by omega) s4⟩))
 case post=>
  rintro c st' ⟨rfl,P⟩
  dsimp only
  refine wpS_bind (wpS_mono (wpS_forRange (I:=fun x c st''=>c=(none,())/\PInv f κ a₀ a₀.size st''/\(pendingOf st'').size<=max 1 (a₀.size-x)) (Q:=fun c st''=>c=(none,())/\PInv f κ a₀ a₀.size st''/\(pendingOf st'').size<=1) ?_ ?_ ?_) ?_)
  .rintro x c st'' _ hx ⟨rfl,P2,hsz⟩
   refine wpS_bind (wpS_get ?_)
   by_cases h1:(pendingOf st'').size<=1
   .rw[if_pos h1]
    exact wpS_pure ⟨rfl,P2,h1⟩
   .rw[if_neg h1]
    refine wpS_bind (wpS_mergeP C hm P2 (by(repeat' split)<;>omega) fun st5 P5 hz _=>?_)
    rw[if_neg (by simp)]
    exact wpS_pure ⟨rfl,P5,by omega⟩
  .rintro c st'' ⟨rfl,P2,hsz⟩
   exact⟨rfl,P2,by omega⟩
  .refine⟨rfl,P,?_⟩
   have:=tile_len P.tile
   simp at this
   omega
  .rintro c st'' ⟨rfl,P2,hsz⟩
   refine wpS_pure (h st'' P2.base ?_)
   have t:=P2.tile
   have sg:=P2.segs
   have hl:(pendingOf st'').toList.length<=1:=by simpa using hsz
   match hq:(pendingOf st'').toList,hl with
   | [],_=>
    rw[hq]at t
    intro i j hi hij hj
    have:0=a₀.size:=t
    omega
   | [e],_=>
    rw[hq]at t sg
    have a1:=t.1
    have a2:0+e.2.1=a₀.size:=t.2.2
    have a3:=sg e (by simp)
    rw[a1,show e.2.1=a₀.size by omega]at a3
    exact a3
end
end L3
namespace L3
open PySem PySem.Spec PyProof.Rows L2
structure CZ where
 cl:List (Str×Addr)
 C:Addr
 s:Shared
 H:Hp
 ex:List Addr
def cxComp(X:Cx)(N:List Str)(scope:Scope)(z:CZ):Cx where
 prog:=X.prog
 w:=X.w
 K:=X.K
 mg:=X.mg
 base:=X.base
 A:=X.A
 N:=N
 s₀:=z.s
 H₀:=z.H
 env:=compEnvC scope z.cl z.C X.env
 outer:=X.stack
 stack:=X.stack
 ex:=z.ex
 calm:=X.calm
 fn:=fun _=>false
 pn:=[]
 xe:=fun _ _=>False
def clFrom(cells:List (Str×Addr)):List (Str×NameKind)->List (Str×Addr)->List (Str×Addr)
 | [],cs=>cs
 | (n,k)::r,cs=>if (k==NameKind.free)=true then(match cells.lookup n with|some c=>clFrom cells r ((n,c)::cs)|none=>clFrom cells r cs)else clFrom cells r cs
theorem closureFor_eq{scope:Scope}{env:Env}(h:∀x∈scope.names,x.2=.free->∃c,env.cells.lookup x.1=some c):closureFor scope env=pure (clFrom env.cells scope.names []):=by
 have go:∀(l:List (Str×NameKind)) (cs:List (Str×Addr)),(∀x∈l,x.2=.free->∃c,env.cells.lookup x.1=some c)->
   (forIn l cs fun(x:Str×NameKind) (cs:List (Str×Addr))=>if (x.2==NameKind.free)=true then do let a <-cellOf env x.1;pure (ForInStep.yield ((x.1,a)::cs))else pure (ForInStep.yield cs):Sem (List (Str×Addr)))=pure (clFrom env.cells l cs):=by
  intro l
  induction l with
  | nil=>intro cs _;rfl
  | cons x r ih=>
   intro cs hx
   obtain⟨n,k⟩:=x
   rw[List.forIn_cons]
   have ih':=fun cs=>ih cs fun y hy=>hx y (List.mem_cons_of_mem _ hy)
   unfold clFrom
   dsimp only
   by_cases hk:(k==NameKind.free)=true
   .obtain⟨c,hc⟩:=hx (n,k) List.mem_cons_self (by simpa using hk)
    rw[if_pos hk,if_pos hk]
    simp only at hc
    simp only[cellOf,hc,pure_bind]
    exact ih' _
   .rw[if_neg hk,if_neg hk]
    simp only[pure_bind]
    exact ih' _
 unfold closureFor
 have e:=go scope.names [] h
 simp only[bind_pure]at e⊢
 exact e
theorem clFrom_of{cells:List (Str×Addr)}{x:Str}{c:Addr}:∀{l:List (Str×NameKind)} {cs:List (Str×Addr)},(clFrom cells l cs).lookup x=some c->cells.lookup x=some c\/cs.lookup x=some c
 | [],cs,h=>.inr h
 | (n,k)::r,cs,h=>by
  unfold clFrom at h
  split at h
  .split at h
   .rename_i c0 e
    rcases clFrom_of h with q|q
    .exact .inl q
    .rw[List.lookup_cons]at q
     split at q
     .rename_i hx
      have hx':x=n:=by simpa using hx
      cases q
      rw[hx']
      exact .inl e
     .exact .inr q
   .exact clFrom_of h
  .exact clFrom_of h
theorem clFrom_keeps{cells:List (Str×Addr)}{x:Str}:∀{l:List (Str×NameKind)} {cs:List (Str×Addr)},(∃c,cs.lookup x=some c)->∃c,(clFrom cells l cs).lookup x=some c
 | [],cs,h=>h
 | (n,k)::r,cs,h=>by
  unfold clFrom
  split
  .split
   .refine clFrom_keeps ?_
    rw[List.lookup_cons]
    split
    .exact⟨_,rfl⟩
    .exact h
   .exact clFrom_keeps h
  .exact clFrom_keeps h
theorem clFrom_has{cells:List (Str×Addr)}{x:Str}:∀{l:List (Str×NameKind)} {cs:List (Str×Addr)},(x,NameKind.free)∈l->(∃c,cells.lookup x=some c)->∃c,(clFrom cells l cs).lookup x=some c
 | (n,k)::r,cs,hm,h=>by
  unfold clFrom
  rcases List.mem_cons.mp hm with e|hm
  .cases e
   obtain⟨c,hc⟩:=h
   rw[if_pos (show(NameKind.free==NameKind.free)=true from rfl),hc]
   refine clFrom_keeps ?_
   rw[List.lookup_cons]
   simp
  .split
   .split
    .exact clFrom_has hm h
    .exact clFrom_has hm h
   .exact clFrom_has hm h
theorem relabel_vis{scope:Scope}{env:Env}{x:Str}(hnc:∀y∈scope.names,y.2≠.cell)(h:(relabel scope env).names.lookup x=some .cell\/(relabel scope env).names.lookup x=some .free):(x,NameKind.free)∈scope.names:=by
 rcases h with h|h
 .have hm:=PySem.mem_of_lookup h
  obtain⟨⟨n,k⟩,hy,e⟩:=List.mem_map.mp hm
  dsimp only at e
  split at e
  .rename_i hc
   simp only[Bool.and_eq_true,beq_iff_eq]at hc
   cases e
   rw[hc.1.1]at hy
   exact hy
  .cases e
   exact absurd rfl (hnc _ hy)
 .have hm:=PySem.mem_of_lookup h
  obtain⟨⟨n,k⟩,hy,e⟩:=List.mem_map.mp hm
  dsimp only at e
  split at e
  .cases e
  .cases e
   exact hy
theorem relabel_free{env:Env}:∀{names:List (Str×NameKind)} {x:Str},names.lookup x=some .free->
  ((names.map fun(n,k)=>if (k==NameKind.free&&env.scope.kind==.function&&env.kindOf n==some .cell)then(n,NameKind.cell)else(n,k)).lookup x=some .cell\/
   (names.map fun(n,k)=>if (k==NameKind.free&&env.scope.kind==.function&&env.kindOf n==some .cell)then(n,NameKind.cell)else(n,k)).lookup x=some .free)
 | [],_,h=>by simp at h
 | (n,k)::r,x,h=>by
  have ih:=@relabel_free env r x
  show(List.lookup x ((if (k==NameKind.free&&env.scope.kind==.function&&env.kindOf n==some .cell)=true then(n,NameKind.cell)else(n,k))::_)=_)\/(List.lookup x ((if (k==NameKind.free&&env.scope.kind==.function&&env.kindOf n==some .cell)=true then(n,NameKind.cell)else(n,k))::_)=_)
  cases hx:x==n with
  | true=>
   simp only[List.lookup_cons,hx]at h
   cases h
   by_cases hc:((NameKind.free:NameKind)==NameKind.free&&env.scope.kind==.function&&env.kindOf n==some .cell)=true
   .rw[if_pos hc];left;simp only[List.lookup_cons,hx]
   .rw[if_neg hc];right;simp only[List.lookup_cons,hx]
  | false=>
   simp only[List.lookup_cons,hx]at h
   by_cases hc:(k==NameKind.free&&env.scope.kind==.function&&env.kindOf n==some .cell)=true
   .rw[if_pos hc];simp only[List.lookup_cons,hx];exact ih h
   .rw[if_neg hc];simp only[List.lookup_cons,hx];exact ih h
def picks(sl:List (Option Nat))(σ:L2.St):L2.St:=sl.map fun o=>o.bind fun j=>(σ[j]?).getD none
def slOk(N N':List Str)(sl:List (Option Nat))(sc osc:Scope):Bool:=
 sl.length==N'.length&&(List.zip N' sl).all fun p=>match p.2 with
  | none=>true
  | some j=>N[j]?==some p.1&&sc.names.lookup p.1==some .free&&(osc.names.lookup p.1==some .cell||osc.names.lookup p.1==some .free)
theorem slOk.len{N N':List Str}{sl:List (Option Nat)}{sc osc:Scope}(h:slOk N N' sl sc osc=true):sl.length=N'.length:=by
 unfold slOk at h
 rw[Bool.and_eq_true]at h
 simpa using h.1
theorem slOk.at{N N':List Str}{sl:List (Option Nat)}{sc osc:Scope}(h:slOk N N' sl sc osc=true){k j:Nat}{x:Str}(h1:N'[k]?=some x)(h2:sl[k]?=some (some j)) :
  N[j]?=some x/\sc.names.lookup x=some .free/\(osc.names.lookup x=some .cell\/osc.names.lookup x=some .free):=by
 unfold slOk at h
 rw[Bool.and_eq_true,List.all_eq_true]at h
 have hm:(x,some j)∈List.zip N' sl:=by
  refine List.mem_of_getElem? (i:=k) ?_
  rw[List.getElem?_zip_eq_some]
  exact⟨h1,h2⟩
 have q:=h.2 _ hm
 simp only[Bool.and_eq_true,Bool.or_eq_true,beq_iff_eq]at q
 exact⟨q.1.1,q.1.2,q.2⟩
def frOk(sc osc:Scope):Bool:=sc.names.all fun x=>!(x.2==.free)||(osc.names.lookup x.1==some .cell||osc.names.lookup x.1==some .free)
theorem frOk.of{sc osc:Scope}(h:frOk sc osc=true):∀x∈sc.names,x.2=.free->osc.names.lookup x.1=some .cell\/osc.names.lookup x.1=some .free:=fun x hx e=>by
 have q:=List.all_eq_true.mp h x hx
 rw[e]at q
 simp only[beq_self_eq_true,Bool.not_true,Bool.false_or,Bool.or_eq_true,beq_iff_eq]at q
 exact q
def Agree(σ σ':L2.St):Prop:=σ'.length=σ.length/\∀(i:Nat) v,σ[i]?=some (some v)->σ'[i]?=some (some v)
theorem Agree.refl(σ:L2.St):Agree σ σ:=⟨rfl,fun _ _ h=>h⟩
theorem Agree.set{σ σ':L2.St}(a:Agree σ σ'){i:Nat}{v:Option V}(h:σ[i]?=some none):Agree σ (σ'.set i v):=by
 refine⟨by rw[List.length_set];exact a.1,fun j w e=>?_⟩
 by_cases hij:i=j
 .subst hij;rw[h]at e;cases e
 .rw[List.getElem?_set_ne hij];exact a.2 j w e
section
variable{fs ex:List Addr}{H H':Hp}{h h1 h2:Heap}{C:Addr}
theorem Un.but(u:Un fs ex H H' h h1)(hC:h.get? C=none)(sb:∀b o,b≠C->h1.get? b=some o->h2.get? b=some o):Un fs ex H H' h h2 where
 keep:=fun b o e n hb hx=>sb b o (by rintro rfl;rw[hC]at e;cases e) (u.keep b o e n hb hx)
 slot:=fun b o e n hb hx=>by
  obtain⟨sl,q⟩:=u.slot b o e n hb hx
  exact⟨sl,sb b _ (by rintro rfl;rw[hC]at e;cases e) q⟩
 free:=u.free
 there:=fun b o e hx=>by
  obtain⟨o',q⟩:=u.there b o e hx
  exact⟨o',sb b o' (by rintro rfl;rw[hC]at e;cases e) q⟩
 tups:=u.tups
 frzs:=u.frzs
 tbls:=u.tbls
theorem HOk.but{P:Program}{w:World}(x:HOk P w H h1)(hC:H C=none)(sb:∀b o,b≠C->h1.get? b=some o->h2.get? b=some o):HOk P w H h2:=fun a o e=>
 (x a o e).stay (fun b u hc q=>sb b u (by
  rintro rfl
  rcases hc with hc|hc
  .rw[<-hc,hC]at e;cases e
  .rw[hC]at hc;cases hc) q) (fun _ q=>q) fun _ _ q=>q
end
theorem comp_start{X:Cx}{pins:List (Addr×Obj)}{σ:L2.St}{H:Hp}{s:Shared}(I:Inv X pins σ H s){scope:Scope}{N':List Str}{sl:List (Option Nat)}{fp:List Addr}{h₁:Heap}{m:Str->Option Value}{tk:Nat}
  (hk:scope.kind=.function) (hnc:∀y∈scope.names,y.2≠.cell) (hfree:∀x∈scope.names,x.2=.free->X.env.scope.names.lookup x.1=some .cell\/X.env.scope.names.lookup x.1=some .free)
  (hsl:slOk X.N N' sl scope X.env.scope=true) (hfp:∀b∈fp,FpOk X pins H b) (hlt:∀b∈fp,b<s.heap.objs.size)
  (hns:h₁.Ns s.heap.objs.size m) (hkeep:∀b o,s.heap.get? b=some o->h₁.get? b=some o) :
  Inv (cxComp X N' scope ⟨clFrom X.env.cells scope.names [],s.heap.objs.size,s,H,fp⟩) [] (picks sl σ) H {s with heap:=h₁,toks:=tk}:=by
 have cof:∀x c,(clFrom X.env.cells scope.names []).lookup x=some c->X.env.cells.lookup x=some c:=fun x c e=>by
  rcases clFrom_of e with q|q
  .exact q
  .cases q
 have has:∀x,(x,NameKind.free)∈scope.names->∃c,(clFrom X.env.cells scope.names []).lookup x=some c:=fun x hx=>
  clFrom_has hx (I.ok.has x (hfree _ hx rfl))
 refine⟨⟨I.ok.mod,hk,I.ok.glob,I.ok.blt,Nat.le_refl _,fun x y c h1 h2=>I.ok.inj x y c (cof x c h1) (cof y c h2),fun x hx=>has x (relabel_vis hnc hx),fun x c hf _=>absurd hf Bool.false_ne_true,I.ok.hd,I.ok.frames,.inl rfl,
   fun b hb=>⟨Nat.ne_of_lt (hlt b hb),fun x c e=>(hfp b hb).2.2.2.2.1 x c (cof x c e)⟩,I.bs,Nat.le_trans I.ok.bsz I.sz,fun b o e hb=>?_,fun b hb hz=>?_,I.stack,I.stkFree⟩,
  rfl,I.bare,Un.kept hkeep,⟨m,hns,fun i x v h1 h2 _=>?_⟩,fun x c e=>?_,I.hok.fresh (Nat.le_refl _),fun x c e=>I.freeC x c (cof x c e),fun p hp=>absurd (show p∈([]:List (Addr×Obj))from hp) (by simp),I.hok.kept hkeep,?_⟩
 .rcases(hfp b hb).2.2.2.1 with z|z
  .exact I.ok.noex b o e z
  .exact absurd (Nat.lt_of_lt_of_le (Heap.lt_size (I.ok.bs b o e).1) z) (Nat.lt_irrefl _)
 .rcases List.mem_cons.mp (I.stkSub b hz)with z|z
  .exact(hfp b hb).2.1 z
  .exact(hfp b hb).2.2.1 z
 .have h2':(picks sl σ)[i]?=some (some v):=h2
  unfold picks at h2'
  rw[List.getElem?_map]at h2'
  cases q:sl[i]? with
  | none=>rw[q]at h2';cases h2'
  | some o=>
   rw[q]at h2'
   cases o with
   | none=>cases h2'
   | some j=>
    have e:(σ[j]?).getD none=some v:=by simpa using h2'
    have e2:σ[j]?=some (some v):=by
     cases r:σ[j]? with
     | none=>rw[r]at e;cases e
     | some w=>rw[r]at e;simp at e;rw[e]
    obtain⟨a1,a2,a3⟩:=slOk.at hsl h1 q
    obtain⟨mo,_,hl⟩:=I.loc
    obtain⟨u,r,l⟩:=hl j x v a1 e2 (.inr a3)
    refine⟨u,r,.inr ⟨relabel_free a2,?_⟩⟩
    have a4:X.env.kindOf x=some .cell\/X.env.kindOf x=some .free:=a3
    rcases l with ⟨l,_⟩|⟨_,c,e3,z⟩
    .rcases a4 with a4|a4 <;> · rw[l]at a4;cases a4
    .obtain⟨c',e4⟩:=has x (PySem.mem_of_lookup a2)
     have e5:=cof x c' e4
     rw[e3]at e5;cases e5
     obtain⟨o,ho,hd⟩:=z
     exact⟨c,e4,o,hkeep _ _ ho,hd⟩
 .obtain⟨v,o,ho,hd⟩:=I.cell x c (cof x c e)
  exact⟨v,o,hkeep _ _ ho,hd⟩
 .show(picks sl σ).length=N'.length
  unfold picks
  rw[List.length_map]
  exact slOk.len hsl
def PTs(X:Cx)(ifs:List Expr)(t:TT):Prop:=
 ∀(pins:List (Addr×Obj)) (s:Shared) (σ:L2.St) (H:Hp) (Q:Bool->Hp->Prop),Inv X pins σ H s->t σ H Q->
  wpAny (model X.prog X.w) X.A (forIn ifs true fun c r=>if r=true then do let ok <-isTrue c X.env (eval c X.env);pure (ForInStep.yield ok)else pure (ForInStep.yield r)) (TP X pins σ Q) X.xe s
def tYes:TT:=fun _ H Q=>Q true H
theorem pts_nil{X:Cx}:PTs X [] tYes:=fun _ _ _ H _ I h=>wpAny_tests_nil ⟨H,I,h⟩
theorem pts_one{X:Cx}{c:Expr}{t:TT}(h:PT X c t):PTs X [c] t:=fun pins s σ H Q I q=>wpAny_tests_one (h pins s σ H Q I q)
theorem compLoop_gen{prog:Program}{w:World}{A:Around}{R:Result->Shared->Prop}{s:Shared}{elt target iter:Expr}{ifs:List Expr}{scope:Scope}{pos:Pos}{it acc:Value}{env:Env}(I:Nat->Shared->Prop)
  (turn:∀n s,I n s->wpAny (model prog w) A (pyNext it) (fun r s₁=>match r with
   | none=>R (.ok .next) s₁
   | some v=>wpAny (model prog w) A (letOwnedTupleGo target it v) (fun _ s₂=>wpAny (model prog w) A (assign target env v) (fun _ s₃=>
     wpAny (model prog w) A (forIn ifs true fun c r=>if r=true then do let ok <-isTrue c env (eval c env);pure (ForInStep.yield ok)else pure (ForInStep.yield r)) (fun ok s₄=>
      if ok=true then wpAny (model prog w) A (eval elt env) (fun x s₅=>
       wpAny (model prog w) A (call (.builtin "list.append") [acc,x]) (fun _ s₆=>∃m,m<n/\I m s₆) (fun _ _=>False) s₅) (fun _ _=>False) s₄
      else ∃m,m<n/\I m s₄) (fun _ _=>False) s₃) (fun _ _=>False) s₂) (fun _ _=>False) s₁) (fun _ _=>False) s)
  (n:Nat) (h:I n s) :
  codeAny (model prog w) A (.compLoop (.ListComp elt [⟨target,iter,ifs,0⟩] scope pos) 0 it acc env) R s:=by
 refine codeAny_loop rfl I (fun n s hI=>?_) n h
 show wpAny _ A ((compTurn (.ListComp elt [⟨target,iter,ifs,0⟩] scope pos) 0 it acc env).onRaise (fun x=>do noteFrame x env;theTreesLotGoes x)) _ _ s
 refine wpAny_noted ?_
 rw[compTurn_list]
 refine wpAny_bind (wpAny_standAt (wpAny_bind (wpAny_mono (turn n s hI) (fun r s₁ h₁=>?_) fun _ _ h'=>h'.elim)))
 cases r with
 | none=>exact wpAny_pure h₁
 | some v=>
  refine wpAny_bind (wpAny_mono h₁ (fun _ s₂ h₂=>?_) fun _ _ h'=>h'.elim)
  refine wpAny_bind (wpAny_mono h₂ (fun _ s₃ h₃=>wpAny_bind (wpAny_mono h₃ (fun ok s₄ h₄=>?_) fun _ _ h'=>h'.elim)) fun _ _ h'=>h'.elim)
  cases ok with
  | false=>exact wpAny_pure ⟨rfl,h₄⟩
  | true=>
   exact wpAny_bind (wpAny_bind (wpAny_mono h₄ (fun x s₅ h₅=>wpAny_bind (wpAny_mono h₅ (fun _ s₆ h₆=>wpAny_pure (wpAny_pure ⟨rfl,h₆⟩)) fun _ _ h'=>h'.elim)) fun _ _ h'=>h'.elim))
def CompR(J:It)(sl:List (Option Nat))(g:TG)(tt:TT)(te:TE)(σ:L2.St)(H1:Hp)(D:Addr)(Q:VK):Prop:=
 ∃W:Nat->Nat->Hp->Prop,(∃m,W 0 m (upd H1 D (.lst [])))/\∀i m H,W i m H->(J.stop i H/\Q (.ref D) H)\/
  (J.go i H/\∃N:Hp->Prop,(∀H',N H'->∃m',m'<m/\W (i+1) m' H')/\∀x H',J.yld i H x H'->g x (picks sl σ) H' fun σ2 H2=>Agree (picks sl σ) σ2/\tt σ2 H2 fun b H3=>
   if b=true then te σ2 H3 fun y H4=>∃xs,H4 D=some (.lst xs)/\xs.length<sizeLine/\N (upd H4 D (.lst (xs++[y])))else N H3)
def tComp(wi:TI)(sl:List (Option Nat))(g:TG)(tt:TT)(te:TE):TE:=fun σ H Q=>wi σ H fun J H1=>∀D,H1 D=none->CompR J sl g tt te σ H1 D Q
section
variable{X:Cx}{elt target iter:Expr}{ifs:List Expr}{scope:Scope}{pos:Pos}
theorem comp_block{N':List Str}{sl:List (Option Nat)}{g:TG}{tt:TT}{te:TE}{pins:List (Addr×Obj)}{s₂:Shared}{σ:L2.St}{H2:Hp}{Q:VK}{RR:Value->Addr->Result->Shared->Prop}{E:Value->Shared->Prop}
  {it:Addr} {fp:List Addr} {tn:Nat->Heap->Prop} {J:It} (hc:X.calm=true) (hkind:scope.kind=.function)
  (hnc:∀y∈scope.names,y.2≠.cell) (hfree:∀x∈scope.names,x.2=.free->X.env.scope.names.lookup x.1=some .cell\/X.env.scope.names.lookup x.1=some .free)
  (hsl:slOk X.N N' sl scope X.env.scope=true)
  (hg:∀z,PG (cxComp X N' scope z) target g) (ht:∀z,PTs (cxComp X N' scope z) ifs tt) (he:∀z,PE (cxComp X N' scope z) elt te)
  (I2:Inv X pins σ H2 s₂) (T:Turn X.prog X.w X.K target J fp it tn) (st2:tn 0 s₂.heap) (f2:∀b∈fp,FpOk X pins H2 b) (hw:∀D,H2 D=none->CompR J sl g tt te σ H2 D Q)
  (hR:∀D C H' s',H' C=none->(∃m,s'.heap.Ns C m)->FpOk X pins H' C->(∀h',Heap.SameBut C s'.heap h'->Inv X pins σ H' {s' with heap:=h'})->Inv X pins σ H' s'->Q (.ref D) H'->RR (.ref D) C (.ok .next) s') :
  wpAny (model X.prog X.w) X.A (newList []) (fun acc s₃=>wpAny (model X.prog X.w) X.A (newFunctionEnv scope X.env.globals (clFrom X.env.cells scope.names []) [] X.env.qual none .none (some X.env)) (fun cenv s₄=>
   codeAny (model X.prog X.w) X.A (.compStart (.ListComp elt [⟨target,iter,ifs,0⟩] scope pos) 0 (.ref it) acc {cenv with scope:=relabel scope X.env}) (RR acc cenv.locals) s₄) E s₃) E s₂:=by
 have hlt2:∀b∈fp,b<s₂.heap.objs.size:=fun b hb=>by
  obtain⟨o,e,_⟩:=T.obj _ _ st2 b hb
  exact Heap.lt_size e
 have hD:H2 s₂.heap.objs.size=none:=I2.hok.fresh (Nat.le_refl _)
 obtain⟨W,⟨m0,w0⟩,turn⟩:=hw _ hD
 refine wpAny_newList ?_ (Nat.zero_le _)
 have I3:=I2.lnew (ys:=[]) (its:=[]) (t':=s₂.toks) .nil (Nat.zero_le _)
 refine wpAny_newFunctionEnv hnc (by intro y hy;simp at hy) (fun h₁ hns₁ hsb₁=>?_) hkind
 generalize hs3:({s₂ with heap:=s₂.heap.push {cls:=.type "list",data:=.seq ([]:List Value).toArray}}:Shared)=s₃ at *
 have hs3':s₃.heap=s₂.heap.push {cls:=.type "list",data:=.seq ([]:List Value).toArray}:=by rw[<-hs3]
 have hC3:s₃.heap.objs.size=s₂.heap.objs.size+1:=by rw[hs3',Heap.size_push]
 have keep23:∀b o,s₂.heap.get? b=some o->s₃.heap.get? b=some o:=fun b o e=>by rw[hs3'];exact Heap.get?_push_of_some _ e
 have keep3:∀b o,s₃.heap.get? b=some o->h₁.get? b=some o:=fun b o e=>hsb₁.extBut b o (Nat.ne_of_lt (Heap.lt_size e)) (Heap.get?_push_of_some _ e)
 have hne:∀b∈fp,b≠s₂.heap.objs.size:=fun b hb=>Nat.ne_of_lt (hlt2 b hb)
 have f3:∀b∈fp,FpOk X pins (upd H2 s₂.heap.objs.size (.lst [])) b:=fun b hb=>⟨by rw[upd_ne (hne b hb)];exact(f2 b hb).1,(f2 b hb).2⟩
 have hlt3:∀b∈fp,b<s₃.heap.objs.size:=fun b hb=>by rw[hC3];exact Nat.lt_succ_of_lt (hlt2 b hb)
 have I4:=comp_start (tk:=s₃.toks+([]:List (Str×Value)).length) I3 hkind hnc hfree hsl f3 hlt3 hns₁ keep3
 have st4:tn 0 h₁:=T.keep _ _ _ st2 fun b _ o e=>keep3 b o (keep23 b o e)
 generalize hz:(⟨clFrom X.env.cells scope.names [],s₃.heap.objs.size,s₃,upd H2 s₂.heap.objs.size (.lst []),fp⟩:CZ)=z at I4
 have ezC:z.C=s₃.heap.objs.size:=by rw[<-hz]
 have ezx:z.ex=fp:=by rw[<-hz]
 have stat:∀{H':Hp},(∀b∈fp,H' b=none)->∀b∈fp,FpOk (cxComp X _ scope z) [] H' b:=fun hn b hb=>by
  subst hz
  have q:=I4.ok.exf b hb
  exact⟨hn b hb,q.1,I4.ok.exfs b hb,.inl hb,q.2,fun p hp=>absurd (show p∈([]:List (Addr×Obj))from hp) (by simp)⟩
 have loop:∀s₄:Shared,s₄={s₃ with heap:=h₁,toks:=s₃.toks+([]:List (Str×Value)).length}->
   codeAny (model X.prog X.w) X.A (.compLoop (.ListComp elt [⟨target,iter,ifs,0⟩] scope pos) 0 (.ref it) (.ref s₂.heap.objs.size) (cxComp X N' scope z).env) (RR (.ref s₂.heap.objs.size) s₃.heap.objs.size) s₄:=by
  rintro s₄ rfl
  refine compLoop_gen (fun n s'=>∃i H',Inv (cxComp X N' scope z) [] (picks sl σ) H' s'/\tn i s'.heap/\(∀b∈fp,H' b=none)/\W i n H') ?_ m0 ⟨0,_,I4,st4,fun b hb=>(f3 b hb).1,w0⟩
  rintro n s5 ⟨i,H5,I5,st5,fr5,w5⟩
  rcases turn i n H5 w5 with ⟨stop,qn⟩|⟨go,N,hN,step⟩
  .refine thn (T.done (cxComp X N' scope z) rfl rfl rfl hc i [] s5 _ H5 _ I5 (stat fr5) st5 stop) fun r s6 ⟨hr,I6⟩=>?_
   subst hr
   have un:Un (frs X.stack) fp (upd H2 s₂.heap.objs.size (.lst [])) H5 s₃.heap s6.heap:=by subst hz;exact I6.base
   have os6:s6.os=s₃.os:=by subst hz;exact I6.os
   have fC:H5 s₃.heap.objs.size=none:=by subst hz;exact I6.free
   have hch:∀b∈fp,(b∈X.ex\/X.s₀.heap.objs.size<=b)/\b≠X.env.locals/\(∀x c,X.env.cells.lookup x=some c->c≠b)/\∀p∈X.pn++pins,p.1≠b:=fun b hb=>⟨(f2 b hb).2.2.2.1,(f2 b hb).2.1,(f2 b hb).2.2.2.2.1,(f2 b hb).2.2.2.2.2⟩
   have nC:s₃.heap.get? s₃.heap.objs.size=none:=Heap.get?_none_of_le (Nat.le_refl _)
   have ns:∃m,s6.heap.Ns s₃.heap.objs.size m:=by
    subst hz
    obtain⟨m,hn,_⟩:=I6.loc
    exact⟨m,hn⟩
   refine hR _ _ H5 s6 fC ns (I3.fpOk (Nat.le_refl _) fC) (fun h' sb=>?_) (I3.call' (ch:=fp) os6 un I6.hok I6.bare hch) qn
   exact I3.call' (s':={s6 with heap:=h'}) (ch:=fp) os6 (Un.but un nC sb.extBut) (HOk.but I6.hok fC sb.extBut) I6.bare hch
  .refine thn (T.item (cxComp X N' scope z) rfl rfl rfl hc i [] s5 _ H5 _ I5 (stat fr5) st5 go) fun r s6 ⟨u,hr,h6⟩=>?_
   subst hr
   refine thn h6 fun _ s7 ⟨x,H7,I7,r7,y7,st7,fr7⟩=>?_
   have I7':=I7.pinned (stat fr7) (T.obj _ _ st7)
   refine thn (hg z _ s7 _ H7 x u _ I7' r7 (step x H7 y7)) fun _ s8 ⟨σ8,H8,I8,ag,q8⟩=>?_
   have again:∀{s9:Shared} {H9:Hp},Inv (cxComp X N' scope z) ([]++pinsAt fp s7.heap) σ8 H9 s9->N H9->∃m,m<n/\∃i H',Inv (cxComp X N' scope z) [] (picks sl σ) H' s9/\tn i s9.heap/\(∀b∈fp,H' b=none)/\W i m H':=fun{s9 H9} I9 n9=>by
    obtain⟨m',hm,w9⟩:=hN H9 n9
    refine⟨m',hm,i+1,H9,(I9.weak ag.1.symm ag.2).unpinned,T.keep _ _ _ st7 fun b hb o e=>(I9.pin (b,o) (List.mem_append_right _ (List.mem_append_right _ (mem_pinsAt hb e)))).1,fun b hb=>?_,w9⟩
    obtain⟨o,e,d⟩:=T.obj _ _ st7 b hb
    exact(I9.pin (b,o) (List.mem_append_right _ (List.mem_append_right _ (mem_pinsAt hb e)))).2.1
   refine thn (ht z _ s8 σ8 H8 _ I8 q8) fun ok s9 ⟨H9,I9,q9⟩=>?_
   cases ok with
   | false=>exact again I9 q9
   | true=>
    refine thn (he z _ s9 σ8 H9 _ I9 q9) fun u10 s10 ⟨y,H10,I10,r10,xs,hx,hz10,n10⟩=>?_
    exact thn (mt_append _ s10 σ8 H10 (.ref s₂.heap.objs.size) [y] (.ref s₂.heap.objs.size) [u10] (fun _ H'=>N H') I10 rfl (.cons r10 .nil) ⟨_,xs,y,rfl,rfl,hx,hz10,n10⟩) fun _ s11 ⟨_,H11,I11,_,n11⟩=>again I11 n11
 have eenv:(cxComp X N' scope z).env=compEnvC scope (clFrom X.env.cells scope.names []) s₃.heap.objs.size X.env:=by rw[<-hz];rfl
 rw[eenv]at loop
 exact codeAny_compStart_list (loop _ rfl) (T.self _ 0 _ _ _ st4 (loop _ rfl))
theorem pe_comp(N':List Str)(sl:List (Option Nat)){wi:TI}{g:TG}{tt:TT}{te:TE}(hc:X.calm=true)(hkind:scope.kind=.function)
  (hnames:∀x∈scope.names,x.2=.local->scope.names.lookup x.1=some .local)
  (hnc:∀y∈scope.names,y.2≠.cell) (hfr:frOk scope X.env.scope=true)
  (hsl:slOk X.N N' sl scope X.env.scope=true) (hi:PI X target iter wi)
  (hg:∀z,PG (cxComp X N' scope z) target g) (ht:∀z,PTs (cxComp X N' scope z) ifs tt) (he:∀z,PE (cxComp X N' scope z) elt te)
  (hs:∀x,foldedSetIterable iter X.env x=pure x:=by intro _;rfl) :
  PE X (.ListComp elt [⟨target,iter,ifs,0⟩] scope pos) (tComp wi sl g tt te):=by
 have hfree:=frOk.of hfr
 intro pins s σ H Q I h
 rw[eval_ListComp]
 have hcl:closureFor scope X.env=pure (clFrom X.env.cells scope.names []):=closureFor_eq fun x hx hk=>I.ok.has x.1 (hfree x hx hk)
 refine wpAny_comprehension_free (use:=none) rfl hs hcl hkind hnames (thn (hi pins s σ H _ I h) fun xv s₁ h₁=>thn h₁ fun itv s₂ h₂=>?_)
 obtain⟨it,fp,tn,J,H2,e,I2,T,st2,f2,hw⟩:=h₂
 subst e
 refine comp_block (RR:=fun acc C=>compPost (model X.prog X.w) X.A X.xe none (EP X pins σ Q) acc C) hc hkind hnc hfree hsl hg ht he I2 T st2 f2 hw ?_
 intro D C H' s' fC ns _ hI _ q
 obtain⟨m,hn⟩:=ns
 exact⟨m,hn,fun h' sb=>⟨.ref D,H',hI h' sb,rfl,q⟩⟩
theorem ps_setC(N':List Str)(sl:List (Option Nat)){wi:TI}{g:TG}{tt:TT}{te:TE}{i:Nat}{y:Str}{py spos:Pos}(hN:X.N.Nodup)(hyi:X.N[i]?=some y)(hx:Loc X.env.scope y)
  (hsw:swapsWith (.ListComp elt [⟨target,iter,ifs,0⟩] scope pos) (some (.Name y py)) spos.line X.env=pure true) (hc:X.calm=true) (hkind:scope.kind=.function)
  (hnames:∀x∈scope.names,x.2=.local->scope.names.lookup x.1=some .local)
  (hnc:∀y∈scope.names,y.2≠.cell) (hfr:frOk scope X.env.scope=true)
  (hsl:slOk X.N N' sl scope X.env.scope=true) (hi:PI X target iter wi)
  (hg:∀z,PG (cxComp X N' scope z) target g) (ht:∀z,PTs (cxComp X N' scope z) ifs tt) (he:∀z,PE (cxComp X N' scope z) elt te)
  (hs:∀x,foldedSetIterable iter X.env x=pure x:=by intro _;rfl) (hf:X.fn y=true\/X.env.scope.names.lookup y=some .local:=by first|exact .inl rfl|exact .inr rfl|assumption) :
  PS X (.Assign [.Name y py] (.ListComp elt [⟨target,iter,ifs,0⟩] scope pos) spos) (tAsg (tComp wi sl g tt te) (gName i)):=by
 have hfree:=frOk.of hfr
 intro pins s σ H D I h
 rw[exec_Assign_Name_used _ _ _ _ hsw]
 refine wpAny_bind (wpAny_standAt (wpAny_bind ?_))
 show wpAny _ _ (do let _ <-comprehension (.ListComp elt [⟨target,iter,ifs,0⟩] scope pos) scope X.env _ (newList []) false (eval iter X.env) (some (assign (.Name y py) X.env))) _ _ s
 have hcl:closureFor scope X.env=pure (clFrom X.env.cells scope.names []):=closureFor_eq fun x hx hk=>I.ok.has x.1 (hfree x hx hk)
 refine wpAny_bind (wpAny_mono (wpAny_comprehension_free (use:=some (assign (.Name y py) X.env)) (Q:=fun _ s'=>SP X pins D .next s') rfl hs hcl hkind hnames
  (thn (hi pins s σ H _ I h) fun xv s₁ h₁=>thn h₁ fun itv s₂ h₂=>?_)) (fun _ s' hq=>wpAny_pure (wpAny_pure hq)) fun _ _ e=>e)
 obtain⟨it,fp,tn,J,H2,e,I2,T,st2,f2,hw⟩:=h₂
 subst e
 refine comp_block (RR:=fun acc C=>compPost (model X.prog X.w) X.A X.xe (some (assign (.Name y py) X.env)) (fun _ s'=>SP X pins D .next s') acc C) hc hkind hnc hfree hsl hg ht he I2 T st2 f2 hw ?_
 intro E C H' s' fC ns fp hI I' q
 obtain⟨m,hn⟩:=ns
 show wpAny _ _ (assign (.Name y py) X.env (.ref E)) _ _ _
 refine wpAny_assign_Name (store_ok2 I' hN hyi hx (v:=.ref E) rfl (fun s2 I2 ⟨a,sb,ha⟩=>?_) hf)
 have hCa:C≠a:=by
  rcases ha with ha|ha
  .rw[ha];exact fp.2.1
  .exact fun z=>fp.2.2.2.2.1 _ _ ha z.symm
 exact⟨m,hn.sameBut sb hCa,fun h3 sb3=>⟨_,H',I2.turned (t':=s2.toks) (fun b o hb e=>(sb3.2 b hb).trans e) fp.1 fp.2.1 fp.2.2.2.1 fp.2.2.2.2.1 fp.2.2.2.2.2,q⟩⟩
end
end L3
namespace L3
open PySem PySem.W PySem.Calls PyProof.Rows
def runT{α:Type}(lt:Nat->Nat->Bool):KasT α->α
 | .ret a=>a
 | .ask i j k=>runT lt (k (lt i j))
def PostT{α:Type}(n:Nat)(P:α->Prop):KasT α->Prop
 | .ret a=>P a
 | .ask i j k=>i<n/\j<n/\∀b,PostT n P (k b)
theorem PostT.bind{α β:Type}{n:Nat}{P:α->Prop}{P':β->Prop}{f:α->KasT β}:∀{t:KasT α},PostT n P t->(∀a,P a->PostT n P' (f a))->PostT n P' (t.bind f)
 | .ret a,h,hf=>hf a h
 | .ask i j k,h,hf=>⟨h.1,h.2.1,fun b=>PostT.bind (h.2.2 b) hf⟩
theorem PostT.run{α:Type}{n:Nat}{P:α->Prop}(lt:Nat->Nat->Bool):∀{t:KasT α},PostT n P t->P (runT lt t)
 | .ret a,h=>h
 | .ask i j k,h=>PostT.run (n:=n) (P:=P) (t:=k (lt i j)) lt (h.2.2 (lt i j))
theorem PostT.wp{α:Type}{n:Nat}{P:α->Prop}{lt:Nat->Nat->Bool}{cmp:Nat->Nat->(Bool->Shared->Prop)->Shared->Prop}{s:Shared}(hc:∀i j (C:Bool->Shared->Prop),i<n->j<n->C (lt i j) s->cmp i j C s){Q:α->Shared->Prop} :
  ∀{t:KasT α},PostT n P t->Q (runT lt t) s->t.kasWp cmp Q s
 | .ret a,_,q=>q
 | .ask i j k,h,q=>hc i j _ h.1 h.2.1 (PostT.wp hc (h.2.2 _) q)
def OkP(n:Nat)(p:Array Nat):Prop:=p.size=n/\∀x∈p,x<n
theorem OkP.get{n:Nat}{p:Array Nat}(h:OkP n p)(hn:0<n)(i:Nat):p.getD i 0<n:=by
 by_cases hi:i<p.size
 .have e:p.getD i 0=p[i]:=by simp[Array.getD,hi]
  rw[e];exact h.2 _ (Array.getElem_mem hi)
 .have e:p.getD i 0=0:=by simp[Array.getD,hi]
  rw[e];exact hn
theorem OkP.perm{n:Nat}{p q:Array Nat}(h:OkP n p)(e:q.Perm p):OkP n q:=⟨e.size_eq.trans h.1,fun x hx=>h.2 x (e.mem_iff.mp hx)⟩
theorem OkP.rev{n:Nat}{p:Array Nat}(h:OkP n p)(i j:Nat):OkP n (kas_rev p i j):=h.perm (mirror_perm _ _ _ _)
theorem OkP.bub{n:Nat}{p:Array Nat}(h:OkP n p)(i j:Nat):OkP n (bubble p i j):=h.perm (bubble_perm _ _ _)
section
variable{n:Nat}
theorem post_asc(hn:0<n){p:Array Nat}(hp:OkP n p):∀(f m:Nat),PostT n (fun _=>True) (kas_asc p f m)
 | 0,m=>trivial
 | f+1,m=>⟨hp.get hn _,hp.get hn _,fun b=>by
   cases b with
   | true=>exact trivial
   | false=>exact post_asc hn hp f (m+1)⟩
theorem post_desc(hn:0<n):∀(f:Nat) (p:Array Nat) (m q:Nat),OkP n p->PostT n (fun r:Array Nat×Nat×Nat=>OkP n r.1) (kas_desc f p m q)
 | 0,p,m,q,hp=>hp
 | f+1,p,m,q,hp=>⟨hp.get hn _,hp.get hn _,fun b=>by
   cases b with
   | true=>
    show PostT n _ (if q>0 then _ else _)
    split
    .exact post_desc hn f _ _ _ (hp.rev _ _)
    .exact post_desc hn f _ _ _ hp
   | false=>
    refine⟨hp.get hn _,hp.get hn _,fun b=>?_⟩
    cases b with
    | true=>exact hp
    | false=>exact post_desc hn f _ _ _ hp⟩
theorem post_tail3(hn:0<n){m r:Nat}{p:Array Nat}(hp:OkP n p):PostT n (fun r:Nat×Array Nat=>OkP n r.2) (kas_tail3 m r p):=
 PostT.bind (post_asc hn (hp.rev _ _) _ _) fun _ _=>hp.rev _ _
theorem post_descPart(hn:0<n){m r:Nat}{p:Array Nat}(hp:OkP n p):PostT n (fun r:Nat×Array Nat=>OkP n r.2) (kas_descPart m r p):=
 PostT.bind (post_desc hn _ _ _ _ hp) fun a ha=>by
  split
  .exact post_tail3 hn (ha.rev _ _)
  .exact post_tail3 hn ha
theorem post_count(hn:0<n){r:Nat}{p:Array Nat}(hp:OkP n p):PostT n (fun r:Nat×Array Nat=>OkP n r.2) (kas_count r p):=
 PostT.bind (post_asc hn hp _ _) fun a _=>by
  split
  .exact hp
  .split
   .refine⟨hp.get hn _,hp.get hn _,fun b=>?_⟩
    cases b with
    | true=>exact hp
    | false=>exact post_descPart hn (hp.rev _ _)
   .exact post_descPart hn hp
theorem post_place(hn:0<n){p:Array Nat}(hp:OkP n p)(k:Nat):∀(f l r:Nat),PostT n (fun _=>True) (kas_place p k f l r)
 | 0,l,r=>trivial
 | f+1,l,r=>by
  unfold kas_place
  split
  .exact trivial
  .refine⟨hp.get hn _,hp.get hn _,fun b=>?_⟩
   cases b with
   | true=>exact post_place hn hp k f _ _
   | false=>exact post_place hn hp k f _ _
theorem post_bin(hn:0<n):∀(f:Nat) (p:Array Nat) (k:Nat),OkP n p->PostT n (OkP n) (kas_bin f p k)
 | 0,p,k,hp=>hp
 | f+1,p,k,hp=>PostT.bind (post_place hn hp k _ _ _) fun l _=>post_bin hn f _ _ (hp.bub _ _)
theorem post_sort(hn:0<n):PostT n (OkP n) (kas_sort n):=by
 have h0:OkP n (List.toArray (List.range n)):=⟨by simp,fun x hx=>by simpa using hx⟩
 refine PostT.bind (post_count hn h0) fun a ha=>?_
 split
 .exact post_bin hn _ _ _ ha
 .exact ha
end
def srt(lt:Nat->Nat->Bool)(n:Nat):List Nat:=if n<2 then List.range n else(runT lt (kas_sort n)).toList
theorem srt_length(lt:Nat->Nat->Bool)(n:Nat):(srt lt n).length=n:=by
 unfold srt
 split
 .simp
 .have h:=PostT.run lt (post_sort (n:=n) (by omega))
  simpa using h.1
theorem srt_lt(lt:Nat->Nat->Bool)(n:Nat):∀i∈srt lt n,i<n:=by
 unfold srt
 split
 .intro i hi;simpa using hi
 .have h:=PostT.run lt (post_sort (n:=n) (by omega))
  intro i hi
  exact h.2 i (by simpa using hi)
theorem two_short(vs:List Value):(vs.toArray.zip vs.toArray).map (·.2)=List.toArray ((List.range vs.length).map fun i=>vs.getD i Value.none):=by
 apply Array.ext
 .simp
 .intro i h1 h2
  have hi:i<vs.length:=by simpa using h1
  simp[hi]
section
variable{prog:Program}{w:World}{A:Around}{E:Value->Shared->Prop}{s:Shared}
theorem list_sort_by{a:Addr}{vs:List Value}{n:Nat}{κ:SortKind}{lt:Nat->Nat->Bool}{P:PySem.Fin->Shared->Prop}(ho:s.heap.get? a=some (seqObj "list" vs.toArray n))(h64:vs.length<64)
  (hk:2<=vs.length->∀s':Shared,(∀b o,b≠a->s.heap.get? b=some o->s'.heap.get? b=some o)->
   (∀(Q:SortKind->Shared->Prop) (E:Value->Shared->Prop),Q κ s'->wpAny (model prog w) A (keyKind' vs.toArray) Q E s')/\
   ∀i j,i<vs.length->j<vs.length->∀(Q:Bool->Shared->Prop),Q (lt i j) s'->wpAny (model prog w) A (keyLt' κ (vs.getD i Value.none) (vs.getD j Value.none)) Q (fun _ _=>False) s')
  (h:P (.done (.ret .none)) {s with heap:=sortedHeap s.heap a vs (List.toArray ((srt lt vs.length).map fun i=>vs.getD i Value.none))}) :
  wpAny (model prog w) A (Builtin.«list.sort» ⟨[.ref a],[]⟩) P E s:=by
 have ha:a<s.heap.objs.size:=Heap.lt_size ho
 obtain⟨e1,ho1⟩:∃e1,(s.heap.update a (Obj.mapSeq fun _=>(#[]:Array Value))).get? a=some (seqObj "list" #[] e1):=⟨_,get?_update_seq ho fun _=>#[]⟩
 have ho6:(((s.heap.update a (Obj.mapSeq fun _=>(#[]:Array Value))).push (seqObj "tuple" vs.toArray 0)).push (seqObj "list" #[] 0)).get? a=some (seqObj "list" #[] e1):=
  Heap.get?_push_of_some _ (Heap.get?_push_of_some _ ho1)
 have kept:∀b o,b≠a->s.heap.get? b=some o->(((s.heap.update a (Obj.mapSeq fun _=>(#[]:Array Value))).push (seqObj "tuple" vs.toArray 0)).push (seqObj "list" #[] 0)).get? b=some o:=fun b o hb e=>
  Heap.get?_push_of_some _ (Heap.get?_push_of_some _ ((Heap.get?_update_other s.heap _ (Ne.symm hb)).trans e))
 have hsl:(srt lt vs.length).length=vs.length:=srt_length _ _
 rw[list_sort_plain]
 refine wpAny_bind (listItems_at ho rfl ?_)
 refine wpAny_bind (listUpdate_at ho rfl ?_ (by rw[List.size_toArray,sizeLine_eq];omega) (Nat.zero_le _))
 refine wpAny_bind (seqEpoch_at ho1 rfl ?_)
 refine wpAny_bind (wpAny_newTuple ?_ (by show vs.length<=_;rw[sizeLine_eq];omega))
 refine wpAny_bind (wpAny_newList ?_ (Nat.zero_le _))
 refine wpAny_holding ?_
 show wpAny (model prog w) A _ P E {s with heap:=((s.heap.update a (Obj.mapSeq fun _=>(#[]:Array Value))).push (seqObj "tuple" vs.toArray 0)).push (seqObj "list" #[] 0)}
 dsimp only
 by_cases h2:vs.toArray.size<2
 .have h2':vs.length<2:=by simpa using h2
  rw[if_pos h2,if_pos h2]
  refine wpAny_bind (wpAny_pure ?_)
  rw[StateT.run_pure]
  refine wpAny_bind (wpAny_pure ?_)
  dsimp only
  have e0:(arrOf (SortSt.mk' general' (vs.toArray.zip vs.toArray) #[] 7 none)).map (·.2)=List.toArray ((srt lt vs.length).map fun i=>vs.getD i Value.none):=by
   show(vs.toArray.zip vs.toArray).map (·.2)=_
   unfold srt
   rw[if_pos h2']
   exact two_short vs
  rw[e0]
  refine wpAny_bind (seqEpoch_at ho6 rfl ?_)
  refine wpAny_bind (listUpdate_at ho6 rfl ?_ (Nat.zero_le _) (by rw[List.size_toArray,List.length_map,hsl,sizeLine_eq];omega))
  simp only[bne_self_eq_false,Bool.false_eq_true,if_false]
  exact wpAny_pure h
 .have h2':2<=vs.length:=by have:¬vs.length<2:=by simpa using h2
                            omega
  rw[if_neg h2,if_neg h2]
  obtain⟨k1,k2⟩:=hk h2' {s with heap:=((s.heap.update a (Obj.mapSeq fun _=>(#[]:Array Value))).push (seqObj "tuple" vs.toArray 0)).push (seqObj "list" #[] 0)} kept
  refine wpAny_bind (k1 _ _ ?_)
  have tree:=(post_sort (n:=vs.length) (by omega)).wp (lt:=lt) (cmp:=kas_ask prog w A κ vs) (s:={s with heap:=((s.heap.update a (Obj.mapSeq fun _=>(#[]:Array Value))).push (seqObj "tuple" vs.toArray 0)).push (seqObj "list" #[] 0)})
   (Q:=fun p s'=>p=runT lt (kas_sort vs.length)/\s'={s with heap:=((s.heap.update a (Obj.mapSeq fun _=>(#[]:Array Value))).push (seqObj "tuple" vs.toArray 0)).push (seqObj "list" #[] 0)})
   (fun i j C hi hj hC=>k2 i j hi hj C hC) ⟨rfl,rfl⟩
  refine wpAny_bind (wpAny_mono (kat_run (E:=E) (Q:=fun st' s'=>(arrOf st').map (·.2)=List.toArray ((srt lt vs.length).map fun i=>vs.getD i Value.none)/\failedOf st'=none/\s'={s with heap:=((s.heap.update a (Obj.mapSeq fun _=>(#[]:Array Value))).push (seqObj "tuple" vs.toArray 0)).push (seqObj "list" #[] 0)})
   rfl h2' h64 (fun p st' s' _ b2 b3 b4=>?_) tree) ?_ fun _ _ e=>e)
  .refine⟨?_,b3,b4.2⟩
   rw[kat_snds rfl b2,b4.1]
   unfold srt
   rw[if_neg (by omega)]
  .rintro⟨⟨⟩,st'⟩ s' ⟨hout,hf,rfl⟩
   dsimp only at hout hf⊢
   rw[hout]
   refine wpAny_bind (seqEpoch_at ho6 rfl ?_)
   refine wpAny_bind (listUpdate_at ho6 rfl ?_ (Nat.zero_le _) (by rw[List.size_toArray,List.length_map,hsl,sizeLine_eq];omega))
   rw[hf]
   simp only[bne_self_eq_false,Bool.false_eq_true,if_false]
   exact wpAny_pure h
theorem sorted_by{l:Addr}{vs:List Value}{κ:SortKind}{lt:Nat->Nat->Bool}{Q:Value->Shared->Prop}(hl:s.heap.IsList l vs.toArray)(h64:vs.length<64)
  (hk:2<=vs.length->∀s':Shared,(∀b o,s.heap.get? b=some o->s'.heap.get? b=some o)->
   (∀(Q:SortKind->Shared->Prop) (E:Value->Shared->Prop),Q κ s'->wpAny (model prog w) A.in1.in1 (keyKind' vs.toArray) Q E s')/\
   ∀i j,i<vs.length->j<vs.length->∀(Q:Bool->Shared->Prop),Q (lt i j) s'->wpAny (model prog w) A.in1.in1 (keyLt' κ (vs.getD i Value.none) (vs.getD j Value.none)) Q (fun _ _=>False) s')
  (h:Q (.ref (s.heap.objs.size+1)) {s with heap:=sortedAll s.heap vs (List.toArray ((srt lt vs.length).map fun i=>vs.getD i Value.none))}) :
  wpAny (model prog w) A (call (.builtin "sorted") [.ref l]) Q E s:=by
 refine Calls.call_function_entry kind_sorted plain_sorted entry_sorted (args_sorted1 _) ?_
 unfold Builtin.«sorted»
 refine wpAny_bind (m:=checkCount "sorted" 1 1 _) (wpAny_pure ?_)
 refine wpAny_bind (collect_list hl ?_ (by rw[sizeLine_eq];omega))
 refine wpAny_bind (wpAny_newList ?_ (by rw[sizeLine_eq];omega))
 have hsz:((s.heap.push (seqObj "list" #[] 0)).update s.heap.objs.size (Obj.mapSeq (· ++ vs.toArray))).objs.size=s.heap.objs.size+1:=by
  rw[Heap.size_update,size_push']
 have hoL:(((s.heap.push (seqObj "list" #[] 0)).update s.heap.objs.size (Obj.mapSeq (· ++ vs.toArray))).push (seqObj "list" vs.toArray 0)).get? (s.heap.objs.size+1)=some (seqObj "list" vs.toArray 0):=by
  rw[<-hsz];exact Heap.get?_push_size _ rfl
 have keep:∀b o,s.heap.get? b=some o->(((s.heap.push (seqObj "list" #[] 0)).update s.heap.objs.size (Obj.mapSeq (· ++ vs.toArray))).push (seqObj "list" vs.toArray 0)).get? b=some o:=fun b o q=>by
  have hlt:b<s.heap.objs.size:=Heap.lt_size q
  exact Heap.get?_push_of_some _ ((Heap.get?_update_other _ _ (Ne.symm (Nat.ne_of_lt hlt))).trans (Heap.get?_push_of_some _ q))
 show wpAny _ _ _ _ _ {s with heap:=((s.heap.push (seqObj "list" #[] 0)).update s.heap.objs.size (Obj.mapSeq (· ++ vs.toArray))).push (seqObj "list" vs.toArray 0)}
 rw[hsz]
 refine wpAny_bind (wpAny_holding (wpAny_call_entry slot_list_sort ⟨_,hoL,rfl⟩ entry_list_sort ?body (args_list_sort _)))
 case body=>
  refine list_sort_by (κ:=κ) (lt:=lt) hoL h64 (fun h2 s' k=>hk h2 s' fun b o e=>k b o (Nat.ne_of_lt (Nat.lt_succ_of_lt (Heap.lt_size e))) (keep b o e)) ?_
  exact⟨_,rfl,wpAny_pure ⟨_,rfl,h⟩⟩
end
end L3
namespace L3
open PySem PySem.Spec PyProof.Rows L2
mutual
def Rep(H:Hp):PyData->V->Prop
 | .none,v=>v=.non
 | .bool b,v=>v=.bl b
 | .int i,v=>v=.int i
 | .str x,v=>v=.str x/\PyData.strOk x=true
 | .tuple ds,v=>∃a xs,v=.ref a/\H a=some (.tup xs)/\RepAll H ds xs
 | .list ds,v=>∃a xs,v=.ref a/\H a=some (.lst xs)/\RepAll H ds xs
 | .dict _,_=>False
def RepAll(H:Hp):List PyData->List V->Prop
 | [],xs=>xs=[]
 | d::ds,xs=>∃x r,xs=x::r/\Rep H d x/\RepAll H ds r
end
mutual
def imm:PyData->Bool
 | .none=>true
 | .bool _=>true
 | .int _=>true
 | .str _=>true
 | .tuple ds=>immAll ds
 | .list _=>false
 | .dict _=>false
def immAll:List PyData->Bool
 | []=>true
 | d::ds=>imm d&&immAll ds
end
def Tk(H H':Hp):Prop:=∀b xs,H b=some (.tup xs)->H' b=some (.tup xs)
theorem Tk.lst{H:Hp}{p:Addr}{xs:List V}{o:HO}(h:H p=some (.lst xs)):Tk H (upd H p o):=fun b ys q=>by rw[upd_ne (ne_of q h (by intro z;cases z))];exact q
mutual
theorem Rep.tk{H H':Hp}(t:Tk H H'):∀{d:PyData} {v:V},imm d=true->Rep H d v->Rep H' d v
 | .none,_,_,h=>h
 | .bool _,_,_,h=>h
 | .int _,_,_,h=>h
 | .str _,_,_,h=>h
 | .tuple ds,v,hi,h=>by
  obtain⟨a,xs,e,ha,r⟩:=h
  exact⟨a,xs,e,t _ _ ha,RepAll.tk t hi r⟩
 | .list _,_,hi,_=>absurd hi Bool.false_ne_true
 | .dict _,_,hi,_=>absurd hi Bool.false_ne_true
theorem RepAll.tk{H H':Hp}(t:Tk H H'):∀{ds:List PyData} {xs:List V},immAll ds=true->RepAll H ds xs->RepAll H' ds xs
 | [],_,_,h=>h
 | d::ds,xs,hi,h=>by
  obtain⟨x,r,e,h1,h2⟩:=h
  have hi':(imm d&&immAll ds)=true:=hi
  rw[Bool.and_eq_true]at hi'
  exact⟨x,r,e,Rep.tk t hi'.1 h1,RepAll.tk t hi'.2 h2⟩
end
mutual
theorem Rep.same{H H':Hp}(t:Same H H'):∀{d:PyData} {v:V},Rep H d v->Rep H' d v
 | .none,_,h=>h
 | .bool _,_,h=>h
 | .int _,_,h=>h
 | .str _,_,h=>h
 | .tuple ds,v,h=>by
  obtain⟨a,xs,e,ha,r⟩:=h
  exact⟨a,xs,e,t _ _ ha,RepAll.same t r⟩
 | .list ds,v,h=>by
  obtain⟨a,xs,e,ha,r⟩:=h
  exact⟨a,xs,e,t _ _ ha,RepAll.same t r⟩
 | .dict _,_,h=>h
theorem RepAll.same{H H':Hp}(t:Same H H'):∀{ds:List PyData} {xs:List V},RepAll H ds xs->RepAll H' ds xs
 | [],_,h=>h
 | d::ds,xs,h=>by
  obtain⟨x,r,e,h1,h2⟩:=h
  exact⟨x,r,e,Rep.same t h1,RepAll.same t h2⟩
end
theorem RepAll.length{H:Hp}:∀{ds:List PyData} {xs:List V},RepAll H ds xs->xs.length=ds.length
 | [],xs,h=>by have e:xs=[]:=h;rw[e];rfl
 | d::ds,xs,h=>by
  obtain⟨x,r,e,_,h2⟩:=h
  rw[e,List.length_cons,List.length_cons,RepAll.length h2]
theorem RepAll.get{H:Hp}:∀{ds:List PyData} {xs:List V} {i:Nat} {d:PyData},RepAll H ds xs->ds[i]?=some d->∃x,xs[i]?=some x/\Rep H d x
 | [],_,_,_,_,e=>by simp at e
 | d::ds,xs,0,d',h,e=>by
  obtain⟨x,r,e1,h1,_⟩:=h
  subst e1
  simp at e;subst e
  exact⟨x,rfl,h1⟩
 | d::ds,xs,i+1,d',h,e=>by
  obtain⟨x,r,e1,_,h2⟩:=h
  subst e1
  obtain⟨y,h3,h4⟩:=RepAll.get (i:=i) h2 (by simpa using e)
  exact⟨y,by simpa using h3,h4⟩
theorem RepAll.at{H:Hp}{ds:List PyData}{xs:List V}{i:Nat}{x:V}(h:RepAll H ds xs)(e:xs[i]?=some x):∃d,ds[i]?=some d/\Rep H d x:=by
 have hi:i<xs.length:=(List.getElem?_eq_some_iff.mp e).1
 have hi':i<ds.length:=by rw[<-h.length];exact hi
 obtain⟨y,h1,h2⟩:=h.get (List.getElem?_eq_getElem hi')
 rw[e]at h1;cases h1
 exact⟨_,List.getElem?_eq_getElem hi',h2⟩
theorem RepAll.append{H:Hp}:∀{ds es:List PyData} {xs ys:List V},RepAll H ds xs->RepAll H es ys->RepAll H (ds++es) (xs++ys)
 | [],es,xs,ys,h,h'=>by have e:xs=[]:=h;rw[e];exact h'
 | d::ds,es,xs,ys,h,h'=>by
  obtain⟨x,r,e,h1,h2⟩:=h
  subst e
  exact⟨x,r++ys,rfl,h1,RepAll.append h2 h'⟩
theorem RepAll.snoc{H:Hp}{ds:List PyData}{d:PyData}{xs:List V}{x:V}(h:RepAll H ds xs)(h':Rep H d x):RepAll H (ds++[d]) (xs++[x]):=h.append ⟨x,[],rfl,h',rfl⟩
mutual
theorem Rep.lay{H:Hp}:∀{d:PyData} {v:V},Rep H d v->d.canLay0=true
 | .none,_,_=>rfl
 | .bool _,_,_=>rfl
 | .int _,_,_=>rfl
 | .str _,_,h=>h.2
 | .tuple ds,_,h=>by
  obtain⟨_,_,_,_,r⟩:=h
  exact RepAll.lay r
 | .list ds,_,h=>by
  obtain⟨_,_,_,_,r⟩:=h
  exact RepAll.lay r
 | .dict _,_,h=>h.elim
theorem RepAll.lay{H:Hp}:∀{ds:List PyData} {xs:List V},RepAll H ds xs->PyData.canLayAll0 ds=true
 | [],_,_=>rfl
 | d::ds,_,h=>by
  obtain⟨x,r,e,h1,h2⟩:=h
  show(d.canLay0&&PyData.canLayAll0 ds)=true
  rw[Rep.lay h1,RepAll.lay h2]
  rfl
end
section
variable{X:Cx}{pins:List (Addr×Obj)}{σ:L2.St}{H:Hp}{s:Shared}
mutual
theorem Rep.reads(I:Inv X pins σ H s):∀{d:PyData} {v:V} {u:Value},Rep H d v->RelV v u->∃as,Reads s.heap u d as
 | .none,v,u,h,r=>by cases (show v=.non from h);cases (show u=Value.none from r);exact⟨_,.none⟩
 | .bool b,v,u,h,r=>by cases (show v=.bl b from h);cases (show u=Value.bool b from r);exact⟨_,.bool b⟩
 | .int i,v,u,h,r=>by
  cases (show v=.int i from h)
  obtain⟨t,e⟩:=(show ∃t,u=Value.int i t from r)
  cases e;exact⟨_,.int i t⟩
 | .str x,v,u,h,r=>by
  cases (show v=.str x from h.1)
  obtain⟨t,e⟩:=(show ∃t,u=Value.str x t from r)
  cases e;exact⟨_,.str x t⟩
 | .tuple ds,v,u,h,r=>by
  obtain⟨a,xs,e,ha,q⟩:=h
  subst e
  cases (show u=Value.ref a from r)
  obtain⟨its,rv,⟨o,e1,e2,n,e3⟩,_⟩:=I.tuple (SqT.of (K:=X.K) ha)
  obtain⟨as,z⟩:=RepAll.reads I q rv
  exact⟨as,.tuple e1 e2 e3 z⟩
 | .list ds,v,u,h,r=>by
  obtain⟨a,xs,e,ha,q⟩:=h
  subst e
  cases (show u=Value.ref a from r)
  obtain⟨its,rv,⟨o,n,e1,e2,_,e3⟩,_⟩:=I.list (SqL.of (K:=X.K) ha)
  obtain⟨as,z⟩:=RepAll.reads I q rv
  exact⟨_,.list e1 e2 e3 z⟩
 | .dict _,_,_,h,_=>h.elim
theorem RepAll.reads(I:Inv X pins σ H s):∀{ds:List PyData} {xs:List V} {us:List Value},RepAll H ds xs->Vals xs us->∃as,ReadsAll s.heap us ds as
 | [],xs,us,h,r=>by
  cases (show xs=[]from h)
  cases r
  exact⟨_,.nil⟩
 | d::ds,xs,us,h,r=>by
  obtain⟨x,t,e,h1,h2⟩:=h
  subst e
  cases r with
  | cons r1 r2=>
   obtain⟨as,z1⟩:=Rep.reads I h1 r1
   obtain⟨bs,z2⟩:=RepAll.reads I h2 r2
   exact⟨_,.cons z1 z2⟩
end
end
def rEqD(neg:Bool):R2:=fun x y H Q=>∃dx dy,Rep H dx x/\Rep H dy y/\dx.depth<=60/\Q (.bl (if neg then !PyData.eqv dx dy else PyData.eqv dx dy)) H
section
variable{X:Cx}
theorem op_eqD(hu:X.A.units+64<cLine):OpR X (compareOp .Eq) (rEqD false):=by
 intro pins s σ H x y v u Q I rx ry h
 obtain⟨dx,dy,hx,hy,hd,q⟩:=h
 obtain⟨as,r1⟩:=hx.reads I rx
 obtain⟨bs,r2⟩:=hy.reads I ry
 exact SeqAt.compareEq_reads r1 r2 hx.lay hy.lay (by have:=Nat.min_le_left dx.depth dy.depth;omega) ⟨.bl _,H,I,rfl,q⟩
def rInD(neg:Bool):R2:=fun x y H Q=>∃d p xs ds,Rep H d x/\y=.ref p/\(H p=some (.lst xs)\/H p=some (.tup xs))/\RepAll H ds xs/\d.depth<=60/\
 Q (.bl (if neg then !(ds.any fun e=>PyData.eqv e d)else ds.any fun e=>PyData.eqv e d)) H
theorem op_notInD(hu:X.A.units+64<cLine):OpR X (compareOp .NotIn) (rInD true):=by
 intro pins s σ H x y v u Q I rx ry h
 obtain⟨d,p,xs,ds,hx,rfl,hp,hds,hd,q⟩:=h
 cases ry
 obtain⟨bs,r2⟩:=hx.reads I rx
 have room:X.A.units+1+min (PyData.depthAll ds) d.depth<cLine:=by have:=Nat.min_le_right (PyData.depthAll ds) d.depth;omega
 rcases hp with hp|hp
 .obtain⟨as,r1⟩:=Rep.reads I (d:=.list ds) (v:=.ref p) (u:=.ref p) ⟨p,xs,rfl,hp,hds⟩ rfl
  exact SeqAt.notIn_list_reads r1 r2 hds.lay hx.lay room ⟨.bl _,H,I,rfl,q⟩
 .obtain⟨as,r1⟩:=Rep.reads I (d:=.tuple ds) (v:=.ref p) (u:=.ref p) ⟨p,xs,rfl,hp,hds⟩ rfl
  exact SeqAt.notIn_tuple_reads r1 r2 hds.lay hx.lay room ⟨.bl _,H,I,rfl,q⟩
theorem call_isinst:CallR X (.builtin "isinstance") (fun xs H Q=>∃x T t b,xs=[x,.ty T]/\TyOf X.K H x t/\PySem.W.kitOne X.K t (.type T)=some b/\Q (.bl b) H):=by
 intro pins s σ H xs us Q I r h
 obtain⟨x,T,t,b,rfl,ty,e,q⟩:=h
 obtain⟨u,w',rfl,r1,r2⟩:=vals2 r
 cases (show w'=Value.type T from r2)
 exact isinst_ok I r1 ty e fun tk=>⟨.bl b,H,I.tok _,rfl,q⟩
end
def fltLt:PyData->PyData->Bool
 | .int a,.int b=>decide (a<b)
 | .str a,.str b=>decide (a.cps.toList<b.cps.toList)
 | _,_=>false
def rowLt:List PyData->List PyData->Bool
 | [],[]=>false
 | [],_::_=>true
 | _::_,[]=>false
 | x::xs,y::ys=>if PyData.eqv x y=true then rowLt xs ys else fltLt x y
def Row:List Bool->List PyData->Prop
 | [],ds=>ds=[]
 | true::ks,ds=>∃i r,ds=.int i::r/\Row ks r
 | false::ks,ds=>∃x r,ds=.str x::r/\Row ks r
def rowOf:PyData->List PyData
 | .tuple ds=>ds
 | _=>[]
def ltAtD(ds:List PyData)(i j:Nat):Bool:=rowLt (rowOf (ds.getD i .none)) (rowOf (ds.getD j .none))
def sortD(ds:List PyData):List PyData:=(srt (ltAtD ds) ds.length).map fun i=>ds.getD i .none
section
variable{prog:Program}{w:World}{A:Around}{E:Value->Shared->Prop}{s:Shared}{Q:Bool->Shared->Prop}
theorem lex_rows:∀{ks:List Bool} {xs ys:List PyData} {us vs:List Value} {as bs:List Addr} {i:Nat},Row ks xs->Row ks ys->ReadsAll s.heap us xs as->ReadsAll s.heap vs ys bs->Q (rowLt xs ys) s->
  PySem.W.KatLex prog w A true false Q (us.zip vs) i s
 | [],xs,ys,us,vs,as,bs,i,h1,h2,r1,r2,q=>by
  cases (show xs=[]from h1);cases (show ys=[]from h2)
  cases r1;cases r2
  exact q
 | true::ks,xs,ys,us,vs,as,bs,i,h1,h2,r1,r2,q=>by
  obtain⟨a,xr,rfl,h1⟩:=h1
  obtain⟨b,yr,rfl,h2⟩:=h2
  cases r1 with
  | cons ra r1=>
   cases r2 with
   | cons rb r2=>
    cases ra with
    | int _ t=>
     cases rb with
     | int _ u=>
      rw[List.zip_cons_cons]
      refine PySem.W.kat_cons (SeqAt.EqAt.int_int a t b u prog w _ _ ?_)
      have q':Q (if PyData.eqv (.int a) (.int b)=true then rowLt xr yr else fltLt (.int a) (.int b)) s:=q
      have e:PyData.eqv (.int a) (.int b)=(a==b):=rfl
      rw[e]at q'
      cases hb:(a==b)with
      | true=>rw[hb,if_pos rfl]at q';exact PySem.W.kat_yes (lex_rows h1 h2 r1 r2 q')
      | false=>
       rw[hb,if_neg Bool.false_ne_true]at q'
       refine PySem.W.kat_no ?_
       cases hi:(i==0)with
       | true=>exact oneLt_int q'
       | false=>exact PySem.W.kat_one _ _ (lt_int q')
 | false::ks,xs,ys,us,vs,as,bs,i,h1,h2,r1,r2,q=>by
  obtain⟨a,xr,rfl,h1⟩:=h1
  obtain⟨b,yr,rfl,h2⟩:=h2
  cases r1 with
  | cons ra r1=>
   cases r2 with
   | cons rb r2=>
    cases ra with
    | str _ t=>
     cases rb with
     | str _ u=>
      rw[List.zip_cons_cons]
      refine PySem.W.kat_cons (SeqAt.EqAt.str_str a t b u prog w _ _ ?_)
      have q':Q (if PyData.eqv (.str a) (.str b)=true then rowLt xr yr else fltLt (.str a) (.str b)) s:=q
      have e:PyData.eqv (.str a) (.str b)=(a==b):=rfl
      rw[e]at q'
      cases hb:(a==b)with
      | true=>rw[hb,if_pos rfl]at q';exact PySem.W.kat_yes (lex_rows h1 h2 r1 r2 q')
      | false=>
       rw[hb,if_neg Bool.false_ne_true]at q'
       refine PySem.W.kat_no ?_
       cases hi:(i==0)with
       | true=>exact oneLt_str q'
       | false=>exact PySem.W.kat_one _ _ (PyProof.Rows.lt_str q')
end
theorem Row.len{ks:List Bool}:∀{ds:List PyData},Row ks ds->ds.length=ks.length:=by
 induction ks with
 | nil=>intro ds h;cases (show ds=[]from h);rfl
 | cons k ks ih=>
  intro ds h
  cases k with
  | true=>obtain⟨i,r,rfl,h⟩:=h;rw[List.length_cons,List.length_cons,ih h]
  | false=>obtain⟨i,r,rfl,h⟩:=h;rw[List.length_cons,List.length_cons,ih h]
def Rows(ks:List Bool)(ds:List PyData):Prop:=∀d∈ds,∃r,d=.tuple r/\Row (true::ks) r
section
variable{X:Cx}
theorem tup_of(I:Inv X pins σ H s){ks:List Bool}{d:PyData}{v:V}{u:Value}(h:Rep H d v)(r:RelV v u){row:List PyData}(e:d=.tuple row)(hr:Row (true::ks) row) :
  ∃a o vs n as i t,u=.ref a/\s.heap.get? a=some o/\o.cls=.type "tuple"/\o.data=.seq vs n/\ReadsAll s.heap vs.toList row as/\vs[0]?=some (.int i t):=by
 subst e
 obtain⟨as,z⟩:=h.reads I r
 cases z with
 | @tuple a o vs n _ _ e1 e2 e3 z=>
  obtain⟨i,rr,rfl,_⟩:=hr
  have z':=z
  generalize hv:vs.toList=vl at z
  cases z with
  | cons ra rb=>
   cases ra with
   | int _ t=>
    refine⟨a,o,vs,n,_,i,t,rfl,e1,e2,e3,z',?_⟩
    rw[<-Array.getElem?_toList,hv]
    rfl
theorem kat_tups(I:Inv X pins σ H s){ks:List Bool}:∀{ds:List PyData} {xs:List V} {us:List Value},RepAll H ds xs->Vals xs us->Rows ks ds->∃fs:List Value,PySem.W.KatTups s.heap us fs/\fs.length=ds.length/\∀v∈fs,∃i t,v=Value.int i t
 | [],xs,us,h,r,_=>by
  cases (show xs=[]from h);cases r
  exact⟨[],trivial,rfl,fun v hv=>by cases hv⟩
 | d::ds,xs,us,h,r,hr=>by
  obtain⟨x,t,e,h1,h2⟩:=h
  subst e
  cases r with
  | cons r1 r2=>
   obtain⟨row,e,hrow⟩:=hr d List.mem_cons_self
   obtain⟨a,o,vs,n,as,i,tk,rfl,e1,e2,e3,_,e4⟩:=tup_of I h1 r1 e hrow
   obtain⟨fs,k1,k2,k3⟩:=kat_tups I h2 r2 fun d hd=>hr d (List.mem_cons_of_mem _ hd)
   refine⟨.int i tk::fs,PySem.W.KatTups.cons e1 e2 e3 e4 k1,by rw[List.length_cons,List.length_cons,k2],fun v hv=>?_⟩
   rcases List.mem_cons.mp hv with rfl|hv
   .exact⟨i,tk,rfl⟩
   .exact k3 v hv
theorem KatTups.keeps{h h':Heap}(k:∀b o,h.get? b=some o->h'.get? b=some o):∀{vs fs:List Value},PySem.W.KatTups h vs fs->PySem.W.KatTups h' vs fs
 | [],[],_=>trivial
 | v::vs,f::fs,x=>by
  obtain⟨⟨a,o,xs,n,e,e1,e2⟩,r⟩:=x
  exact⟨⟨a,o,xs,n,e,k _ _ e1,e2⟩,KatTups.keeps k r⟩
 | [],_::_,x=>x.elim
 | _::_,[],x=>x.elim
theorem RepAll.pick{H:Hp}{ds:List PyData}{xs:List V}(h:RepAll H ds xs):∀{is:List Nat},(∀i∈is,i<ds.length)->RepAll H (is.map fun i=>ds.getD i .none) (is.map fun i=>xs.getD i .non)
 | [],_=>rfl
 | i::is,hi=>by
  have h1:i<ds.length:=hi i List.mem_cons_self
  obtain⟨x,e1,e2⟩:=h.get (List.getElem?_eq_getElem h1)
  refine⟨xs.getD i .non,_,rfl,?_,RepAll.pick h fun j hj=>hi j (List.mem_cons_of_mem _ hj)⟩
  show Rep H (ds.getD i .none) (xs.getD i .non)
  rw[List.getD_eq_getElem?_getD,List.getD_eq_getElem?_getD,e1,List.getElem?_eq_getElem h1]
  exact e2
theorem Vals.pick{xs:List V}{us:List Value}(h:Vals xs us):∀{is:List Nat},(∀i∈is,i<xs.length)->Vals (is.map fun i=>xs.getD i .non) (is.map fun i=>us.getD i Value.none)
 | [],_=>.nil
 | i::is,hi=>by
  have h1:i<xs.length:=hi i List.mem_cons_self
  obtain⟨u,e1,e2⟩:=h.get (List.getElem?_eq_getElem h1)
  refine .cons ?_ (Vals.pick h fun j hj=>hi j (List.mem_cons_of_mem _ hj))
  show L2.RelV (xs.getD i .non) (us.getD i Value.none)
  rw[List.getD_eq_getElem?_getD,List.getD_eq_getElem?_getD,e1,List.getElem?_eq_getElem h1]
  exact e2
theorem call_sortedD:CallR X (.builtin "sorted") (fun vs H Q=>∃p xs ds ks,vs=[.ref p]/\H p=some (.lst xs)/\RepAll H ds xs/\Rows ks ds/\ds.length<64/\
  ∀l ys,H l=none->RepAll (upd H l (.lst ys)) (sortD ds) ys->Q (.ref l) (upd H l (.lst ys))):=by
 intro pins s σ H xs us Q I r h
 obtain⟨p,xs,ds,ks,rfl,hp,hds,hrows,h64,q⟩:=h
 obtain⟨u,rfl,r1⟩:=vals1 r
 cases (show u=Value.ref p from r1)
 obtain⟨its,rv,pl,hz⟩:=I.list (SqL.of (K:=X.K) hp)
 have l1:xs.length=ds.length:=hds.length
 have l2:xs.length=its.length:=rv.length
 obtain⟨fs,kt,kf,ki⟩:=kat_tups I hds rv hrows
 obtain⟨as,rds⟩:=RepAll.reads I hds rv
 refine sorted_by (κ:=tuples' true) (lt:=ltAtD ds) pl.isList (by omega) (fun h2 s' k=>⟨fun Q' E' hq=>?_,fun i j hi hj Q' hq=>?_⟩) ?_
 .refine PySem.W.kat_kind (T:=Value.type "int") (KatTups.keeps k kt) (by omega) (fun v hv=>?_) rfl hq
  obtain⟨i,t,rfl⟩:=ki v hv
  exact PySem.W.Looks.of_pure rfl
 .have tup:∀i,i<its.length->∃a o vs n bs row,its.getD i Value.none=.ref a/\ds.getD i .none=.tuple row/\Row (true::ks) row/\s'.heap.get? a=some o/\o.data=.seq vs n/\ReadsAll s'.heap vs.toList row bs:=fun i hi=>by
   have hi':i<ds.length:=by omega
   obtain⟨x,e1,e2⟩:=hds.get (List.getElem?_eq_getElem hi')
   obtain⟨u,e3,e4⟩:=rv.get e1
   obtain⟨row,e5,hrow⟩:=hrows _ (List.getElem_mem hi')
   obtain⟨a,o,vs,n,bs,_,_,rfl,g1,_,g3,g4,_⟩:=tup_of I e2 e4 e5 hrow
   refine⟨a,o,vs,n,bs,row,?_,?_,hrow,k _ _ g1,g3,ReadsAll.keeps k g4⟩
   .rw[List.getD_eq_getElem?_getD,e3];rfl
   .rw[List.getD_eq_getElem?_getD,List.getElem?_eq_getElem hi',e5];rfl
  obtain⟨a,o,vs,n,as1,row,e1,e2,e3,e4,e5,e6⟩:=tup i hi
  obtain⟨a',o',vs',n',as2,row',f1,f2,f3,f4,f5,f6⟩:=tup j hj
  rw[e1,f1]
  have hq':Q' (rowLt row row') s':=by
   have:ltAtD ds i j=rowLt row row':=by unfold ltAtD;rw[e2,f2];rfl
   rw[<-this];exact hq
  have z1:vs.size=ks.length+1:=by have q1:=SeqAt.ReadsAll.length _ _ _ e6;have q2:=e3.len;simp at q1 q2;omega
  have z2:vs'.size=ks.length+1:=by have q1:=SeqAt.ReadsAll.length _ _ _ f6;have q2:=f3.len;simp at q1 q2;omega
  refine PySem.W.kat_lt e4 e5 f4 f5 ?_
  rw[decide_eq_false (by omega)]
  exact lex_rows e3 f3 e6 f6 hq'
 .have hl:∀i∈srt (ltAtD ds) its.length,i<xs.length:=fun i hi=>by have:=srt_lt _ _ i hi;omega
  obtain⟨e,he⟩:=sortedAll_at s.heap its (List.toArray ((srt (ltAtD ds) its.length).map fun i=>its.getD i Value.none))
  have hn:H (s.heap.objs.size+1)=none:=I.hok.fresh (Nat.le_succ _)
  have hv:=Vals.pick rv hl
  have hz':((srt (ltAtD ds) its.length).map fun i=>xs.getD i .non).length<=sizeLine:=by rw[List.length_map,srt_length];omega
  have hsame:Same H (upd H (s.heap.objs.size+1) (.lst ((srt (ltAtD ds) its.length).map fun i=>xs.getD i .non))):=fun b o q=>by rw[upd_ne (ne_of_none q hn)];exact q
  refine⟨.ref (s.heap.objs.size+1),_,I.laid (t':=s.toks) (o:=.lst ((srt (ltAtD ds) its.length).map fun i=>xs.getD i .non)) (fun b u e=>sortedAll_old e) (Nat.le_succ _) ⟨hz',_,e,hv,he⟩,rfl,q _ _ hn ?_⟩
  unfold sortD
  rw[<-l1,l2]
  refine(RepAll.pick hds (is:=srt (ltAtD ds) its.length) fun i hi=>by have:=hl i hi;omega).same hsame
end
end L3
namespace L3
open PySem PySem.Spec PyProof.Rows
section
variable{prog:Program}{w:World}{A:Around}{E:Value->Shared->Prop}{s:Shared}
theorem min_list0{l:Addr}{vs:List Value}{ns:List Int}{Q:Value->Shared->Prop}(hh:A.handled=none)(hl:s.heap.IsList l vs.toArray)(hi:IntsAre vs ns)(hne:0<ns.length)
  (h:∀h' M (t:Tok) tk,(∀b o,s.heap.get? b=some o->h'.get? b=some o)->M∈ns->(∀a,a∈ns->M<=a)->Q (.int M t) {s with heap:=h',toks:=tk}) :
  wpAny (model prog w) A (call (.builtin "min") [.ref l]) Q E s:=by
 obtain⟨xs,e⟩:=hi.allInts.items
 have hns:ns=xs.toList.map (·.1):=by rw[<-hi.numsOf,<-nums_intItems,<-e]
 have hsz:0<xs.size:=by
  have h3:=hne;rw[hns,List.length_map,Array.length_toList]at h3;exact h3
 rw[e]at hl
 refine min_intList hh hl hsz fun v h' tk hv hk=>?_
 obtain⟨t,rfl⟩:=intItems_at hv
 obtain⟨h1,h2⟩:=argBest_lt (numAt xs) (xs.size-1)
 refine h _ _ t tk hk ?_ fun a ha=>?_
 .rw[hns,numAt_eq];exact getD_mem (by rw[List.length_map,Array.length_toList];omega)
 .rw[hns]at ha
  obtain⟨j,hj,rfl⟩:=mem_getD ha
  rw[List.length_map,Array.length_toList]at hj
  rw[<-numAt_eq];exact h2 j (by omega)
end
end L3
namespace L3
open PySem PySem.Spec PyProof.Rows L2
def notStar:Expr->Bool
 | .Starred _ _=>false
 | _=>true
theorem star_cons{e:Expr}{es:List Expr}{env:Env}(h:notStar e=true):starEach (e::es) env=(false,eval e env)::starEach es env:=by
 cases e<;>first|rfl|exact absurd h Bool.false_ne_true
theorem star_none{pos:Pos}{env:Env}:∀{es:List Expr},es.all notStar=true->(backTo pos (starEach es env)).any (·.1)=false
 | [],_=>rfl
 | e::es,h=>by
  rw[List.all_cons,Bool.and_eq_true]at h
  rw[star_cons h.1]
  show(false||(backTo pos (starEach es env)).any (·.1))=false
  rw[star_none h.2]
  rfl
theorem pa_c{X:Cx}{e:Expr}{es:List Expr}{te:TE}{t:TA}(ha:PE X e te)(hr:PA X es t)(h:notStar e=true:=by rfl):PA X (e::es) (tCons te t):=pa_cons ha hr (star_cons h)
theorem pe_cB{X:Cx}{x:Str}{p pos:Pos}{e:Expr}{es:List Expr}{t:TA}{id:String}{r:List V->Hp->VK->Prop}(hc:CallR X (.builtin id) r)(hg:Gl X x)(hm:X.mg x=none)(hv:bootBuiltins x=some (.builtin id))(ha:PA X (e::es) t)
  (hn:x≠"__name__":=by decide) (hdb:(x==("__debug__" : Str))=false:=by decide) (h1:notStar e=true:=by rfl) (h2:es.all notStar=true:=by rfl):PE X (.Call (.Name x p) (e::es) [] pos) (tCB r t):=
 pe_callB hc hg hm hv ha hn hdb (star_cons h1) (star_none h2)
theorem pe_cT{X:Cx}{x:Str}{p pos:Pos}{e:Expr}{es:List Expr}{t:TA}{T:String}{r:List V->Hp->VK->Prop}(hc:CallR X (.type T) r)(hg:Gl X x)(hm:X.mg x=none)(hv:bootBuiltins x=some (.type T))(ha:PA X (e::es) t)
  (hn:x≠"__name__":=by decide) (hdb:(x==("__debug__" : Str))=false:=by decide) (h1:notStar e=true:=by rfl) (h2:es.all notStar=true:=by rfl):PE X (.Call (.Name x p) (e::es) [] pos) (tCB r t):=
 pe_callTy hc hg hm hv ha hn hdb (star_cons h1) (star_none h2)
theorem pi_r1{X:Cx}{tg a:Expr}{ta:TA}{p pos:Pos}(hg:Gl X "range")(hm:X.mg "range" = none)(ha:PA X [a] ta)(h:notStar a=true:=by rfl):PI X tg (.Call (.Name "range" p) [a] [] pos) (iRng1 ta):=
 pi_range1 hg hm ha (star_cons h)
def Fn(P:Program)(w:World)(K:PySem.W.Frag)(mg:Str->Option Value)(base:Heap)(x:Str)(k:Nat)(ps:List Str)(sp:Sp):Prop:=
 ∃f fd,FnOk P w K mg base CX0 k f fd ps sp/\mg x=some (.ref f)/\PySem.W.keepIn K (.ref f)=true/\Binds K fd ps []
section
variable{X:Cx}{k j:Nat}{ps:List Str}{sp:Sp}{x:Str}{p pos kpos:Pos}{e e2:Expr}{es:List Expr}{t tk:TA}{te:TE}
theorem pe_fn(F:Fn X.prog X.w X.K X.mg X.base x k ps sp)(hr:Room j X.A)(hk:k<=j)(hg:Gl X x)
  (ha:PA X (e::es) t) (hdb:(x==("__debug__" : Str))=false:=by decide) (h1:notStar e=true:=by rfl) (h2:es.all notStar=true:=by rfl) :
  PE X (.Call (.Name x p) (e::es) [] pos) (tCall sp [] E0 t):=by
 obtain⟨f,fd,F,m,kp,b⟩:=F
 exact pe_call F (hr.mono hk) hg m kp b .nil pass0 ha hdb (star_cons h1) (star_none h2)
def rMin:List V->Hp->VK->Prop:=fun xs H Q=>∃q,∃ns:List Int,xs=[.ref q]/\H q=some (.lst (ns.map V.int))/\0<ns.length/\∀M,M∈ns->(∀a∈ns,M<=a)->Q (.int M) H
theorem call_minL(hc:X.calm=true):CallR X (.builtin "min") rMin:=by
 intro pins s σ H xs us Q I r h
 obtain⟨q,ns,rfl,hq,hn,h⟩:=h
 obtain⟨u,rfl,r1⟩:=vals1 r
 cases (show u=Value.ref q from r1)
 obtain⟨its,rv,pl,hz⟩:=I.list (SqL.of (K:=X.K) hq)
 exact min_list0 (I.ok.hd hc) pl.isList (intsAre_of rv) hn fun h' M t tk k h1 h2=>⟨.int M,H,I.kept k,⟨_,rfl⟩,h M h1 h2⟩
end
theorem pg_tupC{X:Cx}{N:List Str}{scope:Scope}{z:CZ}{es:List Expr}{k:Nat}{pos:Pos}{t:TGs}{n:Nat}(hc:X.calm=true)(h:PGs (cxComp X N scope z) es t)
  (hn:(assignEach es (cxComp X N scope z).env).length=n:=by rfl) (hst:(assignEach es (cxComp X N scope z).env).findIdx? (·.1)=none:=by rfl):PG (cxComp X N scope z) (.Tuple es k pos) (gTup X.K n t):=
 pg_tup (X:=cxComp X N scope z) hc h hn hst
section
variable{X:Cx}{N:List Str}{scope:Scope}{z:CZ}
theorem ix_tupC:IxR (cxComp X N scope z) (rIxT X.K):=ix_tup (X:=cxComp X N scope z)
theorem ix_listC:IxR (cxComp X N scope z) (rIxL X.K):=ix_list (X:=cxComp X N scope z)
theorem sl_tupC:SlR (cxComp X N scope z) (rSlT X.K):=sl_tup (X:=cxComp X N scope z)
end
section
variable{K:PySem.W.Frag}{a D:Addr}{xs:List V}{sl:List (Option Nat)}{g:TG}{tt:TT}{te:TE}{σ:L2.St}{H1:Hp}{Q:VK}
def Nx(D:Addr)(i:Nat)(Pv:Nat->List V->Hp->Prop):Hp->Prop:=fun H'=>∃ys,H' D=some (.lst ys)/\ys.length<=i+1/\Pv (i+1) ys H'
theorem nx_put{i:Nat}{Pv:Nat->List V->Hp->Prop}{H:Hp}{ys:List V}{y:V}(hi:i<1000)(hD:H D=some (.lst ys))(hl:ys.length<=i)(h:Pv (i+1) (ys++[y]) (upd H D (.lst (ys++[y])))) :
  ∃xs,H D=some (.lst xs)/\xs.length<sizeLine/\Nx D i Pv (upd H D (.lst (xs++[y]))):=
 ⟨ys,hD,small1000 (by omega),ys++[y],upd_same,by rw[List.length_append,List.length_singleton];omega,h⟩
theorem comp_by(J:It)(n:Nat)(Pv:Nat->List V->Hp->Prop)(h0:Pv 0 [] (upd H1 D (.lst [])))
  (hgo:∀i ys H,i<n->Pv i ys H->J.go i H) (hst:∀ys H,Pv n ys H->J.stop n H)
  (hs:∀i x ys H H',i<n->J.yld i H x H'->H D=some (.lst ys)->ys.length<=i->Pv i ys H->g x (picks sl σ) H' fun σ2 H2=>Agree (picks sl σ) σ2/\tt σ2 H2 fun b H3=>
   if b=true then te σ2 H3 fun y H4=>∃xs,H4 D=some (.lst xs)/\xs.length<sizeLine/\Nx D i Pv (upd H4 D (.lst (xs++[y])))else Nx D i Pv H3)
  (hd:∀ys H,H D=some (.lst ys)->ys.length<=n->Pv n ys H->Q (.ref D) H):CompR J sl g tt te σ H1 D Q:=by
 refine⟨fun i m H=>m=n-i/\i<=n/\∃ys,H D=some (.lst ys)/\ys.length<=i/\Pv i ys H,⟨n,by simp,Nat.zero_le _,[],upd_same,Nat.le_refl _,h0⟩,?_⟩
 rintro i m H ⟨rfl,hi,ys,hy,hl,p⟩
 by_cases hlt:i<n
 .refine .inr ⟨hgo i ys H hlt p,Nx D i Pv,fun H' ⟨ys',e1,e2,e3⟩=>⟨n-(i+1),by omega,rfl,hlt,ys',e1,e2,e3⟩,fun x H' y=>hs i x ys H H' hlt y hy hl p⟩
 .have e:i=n:=by omega
  subst e
  exact .inl ⟨hst ys H p,hd ys H hy hl p⟩
theorem comp_list(Pv:Nat->List V->Hp->Prop)(h0:Pv 0 [] (upd H1 D (.lst [])))(hl:∀i ys H,Pv i ys H->SqL K H a xs)
  (hs:∀i x ys H,xs[i]?=some x->i<xs.length->H D=some (.lst ys)->ys.length<=i->Pv i ys H->g x (picks sl σ) H fun σ2 H2=>Agree (picks sl σ) σ2/\tt σ2 H2 fun b H3=>
   if b=true then te σ2 H3 fun y H4=>∃xs,H4 D=some (.lst xs)/\xs.length<sizeLine/\Nx D i Pv (upd H4 D (.lst (xs++[y])))else Nx D i Pv H3)
  (hd:∀ys H,H D=some (.lst ys)->ys.length<=xs.length->Pv xs.length ys H->Q (.ref D) H):CompR (Itl K a) sl g tt te σ H1 D Q:=by
 refine comp_by (Itl K a) xs.length Pv h0 (fun i ys H hi p=>⟨xs,xs[i],hl i ys H p,by simp[hi]⟩) (fun ys H p=>⟨xs,hl _ ys H p,Nat.le_refl _⟩) (fun i x ys H H' hi y hD hyl p=>?_) hd
 obtain⟨e,y⟩:=y
 subst e
 exact hs i x ys _ (y xs (hl i ys _ p)) hi hD hyl p
theorem comp_tup(Pv:Nat->List V->Hp->Prop)(h0:Pv 0 [] (upd H1 D (.lst [])))(hl:∀i ys H,Pv i ys H->SqT K H a xs)
  (hs:∀i x ys H,xs[i]?=some x->i<xs.length->H D=some (.lst ys)->ys.length<=i->Pv i ys H->g x (picks sl σ) H fun σ2 H2=>Agree (picks sl σ) σ2/\tt σ2 H2 fun b H3=>
   if b=true then te σ2 H3 fun y H4=>∃xs,H4 D=some (.lst xs)/\xs.length<sizeLine/\Nx D i Pv (upd H4 D (.lst (xs++[y])))else Nx D i Pv H3)
  (hd:∀ys H,H D=some (.lst ys)->ys.length<=xs.length->Pv xs.length ys H->Q (.ref D) H):CompR (Itt K a) sl g tt te σ H1 D Q:=by
 refine comp_by (Itt K a) xs.length Pv h0 (fun i ys H hi p=>⟨xs,xs[i],hl i ys H p,by simp[hi]⟩) (fun ys H p=>⟨xs,hl _ ys H p,Nat.le_refl _⟩) (fun i x ys H H' hi y hD hyl p=>?_) hd
 obtain⟨e,y⟩:=y
 subst e
 exact hs i x ys _ (y xs (hl i ys _ p)) hi hD hyl p
theorem comp_range{lo:Int}{n:Nat}(Pv:Nat->List V->Hp->Prop)(h0:Pv 0 [] (upd H1 D (.lst [])))
  (hs:∀i ys H,i<n->H D=some (.lst ys)->ys.length<=i->Pv i ys H->g (.int (lo+i)) (picks sl σ) H fun σ2 H2=>Agree (picks sl σ) σ2/\tt σ2 H2 fun b H3=>
   if b=true then te σ2 H3 fun y H4=>∃xs,H4 D=some (.lst xs)/\xs.length<sizeLine/\Nx D i Pv (upd H4 D (.lst (xs++[y])))else Nx D i Pv H3)
  (hd:∀ys H,H D=some (.lst ys)->ys.length<=n->Pv n ys H->Q (.ref D) H):CompR (Itr lo n) sl g tt te σ H1 D Q:=by
 refine comp_by (Itr lo n) n Pv h0 (fun i ys H hi p=>hi) (fun ys H p=>Nat.le_refl _) (fun i x ys H H' hi y hD hyl p=>?_) hd
 obtain⟨e,e2⟩:=y
 subst e e2
 exact hs i ys _ hi hD hyl p
end
def Ex(W:List Addr)(H H':Hp):Prop:=∀b o,b∉W->H b=some o->H' b=some o
theorem Ex.refl(W:List Addr)(H:Hp):Ex W H H:=fun _ _ _ h=>h
theorem Ex.trans{W:List Addr}{H H1 H2:Hp}(a:Ex W H H1)(b:Ex W H1 H2):Ex W H H2:=fun c o hc h=>b c o hc (a c o hc h)
theorem Ex.of_same{W:List Addr}{H H':Hp}(a:Same H H'):Ex W H H':=fun c o _ h=>a c o h
theorem Ex.fresh{W:List Addr}{H:Hp}{p:Addr}{o:HO}(h:H p=none):Ex W H (upd H p o):=fun b u _ q=>by rw[upd_ne (ne_of_none q h)];exact q
theorem Ex.upd{W:List Addr}{H:Hp}{p:Addr}{o:HO}(h:p∈W):Ex W H (upd H p o):=fun b u hb q=>by rw[upd_ne (show b≠p from fun e=>hb (by rw[e];exact h))];exact q
theorem Ex.new{W:List Addr}{H H':Hp}{p:Addr}{o:HO}(a:Ex W H H')(h:H p=none):Ex W H (L2.upd H' p o):=fun b u hb q=>by rw[upd_ne (ne_of_none q h)];exact a b u hb q
theorem Ex.tk{W:List Addr}{H H':Hp}(a:Ex W H H')(h:∀b∈W,∃xs,H b=some (.lst xs)):Tk H H':=fun b xs q=>a b _ (fun hb=>by
 obtain⟨ys,e⟩:=h b hb
 rw[q]at e;cases e) q
theorem Ex.one{st:Addr}{H H':Hp}{xs:List V}(a:Ex [st] H H')(h:H st=some (.lst xs)):Tk H H':=a.tk fun b hb=>⟨xs,by rw[List.mem_singleton.mp hb];exact h⟩
theorem Ex.at{st:Addr}{H H':Hp}{b:Addr}{o:HO}(a:Ex [st] H H')(hb:b≠st)(h:H b=some o):H' b=some o:=a b o (by simpa using hb) h
theorem upd_none{H:Hp}{p b:Addr}{o:HO}(h:upd H p o b=none):b≠p/\H b=none:=by
 by_cases e:b=p
 .subst e;rw[upd_same]at h;cases h
 .rw[upd_ne e]at h;exact⟨e,h⟩
theorem _root_.L2.Same.new{H H':Hp}{p:Addr}{o:HO}(a:Same H H')(h:H p=none):Same H (upd H' p o):=fun b u q=>by rw[upd_ne (ne_of_none q h)];exact a b u q
theorem _root_.L2.Same.fresh{H:Hp}{p:Addr}(o:HO)(h:H p=none):Same H (upd H p o):=(Same.refl H).new h
def Cells(cs:List PyData):Prop:=∀d∈cs,∃r c:Int,d=.tuple [.int r,.int c]
def Spots(ds:List PyData):Prop:=∀d∈ds,∃(r c:Int) (x:Str),d=.tuple [.int r,.int c,.str x]
theorem immAll_of:∀{ds:List PyData},(∀d∈ds,imm d=true)->immAll ds=true
 | [],_=>rfl
 | d::ds,h=>by
  show(imm d&&immAll ds)=true
  rw[h d List.mem_cons_self,immAll_of fun e he=>h e (List.mem_cons_of_mem _ he)]
  rfl
theorem Cells.imm{cs:List PyData}(h:Cells cs):immAll cs=true:=immAll_of fun d hd=>by obtain⟨r,c,rfl⟩:=h d hd;rfl
theorem Spots.imm{ds:List PyData}(h:Spots ds):immAll ds=true:=immAll_of fun d hd=>by obtain⟨r,c,x,rfl⟩:=h d hd;rfl
theorem rep_cell{H:Hp}{r c:Int}{v:V}(h:Rep H (.tuple [.int r,.int c]) v):∃a,v=.ref a/\H a=some (.tup [.int r,.int c]):=by
 obtain⟨a,xs,e,ha,x1,r1,e1,h1,x2,r2,e2,h2,e3⟩:=h
 cases (show x1=.int r from h1);cases (show x2=.int c from h2);cases (show r2=[]from e3)
 subst e1 e2
 exact⟨a,e,ha⟩
theorem rep_spot{H:Hp}{r c:Int}{x:Str}{v:V}(h:Rep H (.tuple [.int r,.int c,.str x]) v):∃a,v=.ref a/\H a=some (.tup [.int r,.int c,.str x])/\PyData.strOk x=true:=by
 obtain⟨a,xs,e,ha,x1,r1,e1,h1,x2,r2,e2,h2,x3,r3,e3,h3,e4⟩:=h
 cases (show x1=.int r from h1);cases (show x2=.int c from h2);cases (show x3=.str x from h3.1);cases (show r3=[]from e4)
 subst e1 e2 e3
 exact⟨a,e,ha,h3.2⟩
theorem cell_rep{H:Hp}{a:Addr}{r c:Int}(h:H a=some (.tup [.int r,.int c])):Rep H (.tuple [.int r,.int c]) (.ref a):=⟨a,_,rfl,h,_,_,rfl,rfl,_,_,rfl,rfl,rfl⟩
theorem spot_rep{H:Hp}{a:Addr}{r c:Int}{x:Str}(h:H a=some (.tup [.int r,.int c,.str x]))(hx:PyData.strOk x=true):Rep H (.tuple [.int r,.int c,.str x]) (.ref a):=
 ⟨a,_,rfl,h,_,_,rfl,rfl,_,_,rfl,rfl,_,_,rfl,⟨rfl,hx⟩,rfl⟩
theorem Spots.at{H:Hp}{ds:List PyData}{xs:List V}{i:Nat}{v:V}(h:Spots ds)(r:RepAll H ds xs)(e:xs[i]?=some v) :
  ∃(a:Addr) (p q:Int) (x:Str),v=.ref a/\H a=some (.tup [.int p,.int q,.str x])/\PyData.strOk x=true/\ds[i]?=some (.tuple [.int p,.int q,.str x]):=by
 obtain⟨d,e1,e2⟩:=r.at e
 obtain⟨p,q,x,rfl⟩:=h d (List.mem_of_getElem? e1)
 obtain⟨a,e3,e4,e5⟩:=rep_spot e2
 exact⟨a,p,q,x,e3,e4,e5,e1⟩
def row1:PyData->Int
 | .tuple (.int r::_)=>r
 | _=>0
def col1:PyData->Int
 | .tuple (_::.int c::_)=>c
 | _=>0
def minI:List Int->Int
 | []=>0
 | [a]=>a
 | a::b::r=>if a<=minI (b::r)then a else minI (b::r)
theorem minI_mem:∀{ns:List Int},0<ns.length->minI ns∈ns
 | [],h=>by simp at h
 | [a],_=>by simp[minI]
 | a::b::r,_=>by
  unfold minI
  split
  .exact List.mem_cons_self
  .exact List.mem_cons_of_mem _ (minI_mem (by simp))
theorem minI_le:∀{ns:List Int},∀a∈ns,minI ns<=a
 | [],a,h=>by cases h
 | [a],b,h=>by
  have e:b=a:=by simpa using h
  rw[e];exact Int.le_refl _
 | a::b::r,x,h=>by
  unfold minI
  rcases List.mem_cons.mp h with e|h
  .rw[e]
   split
   .exact Int.le_refl _
   .omega
  .have:=minI_le (ns:=b::r) x h
   split
   .omega
   .exact this
theorem minI_eq{ns:List Int}{M:Int}(h1:M∈ns)(h2:∀a∈ns,M<=a):M=minI ns:=by
 have hp:0<ns.length:=List.length_pos_of_mem h1
 have a1:=h2 _ (minI_mem hp)
 have a2:=minI_le M h1
 omega
def shift1(t l:Int):PyData->PyData
 | .tuple [.int r,.int c,.str x]=>.tuple [.int (r-t),.int (c-l),.str x]
 | d=>d
def shiftD(ds:List PyData):List PyData:=ds.map (shift1 (minI (ds.map row1)) (minI (ds.map col1)))
section
variable{K:PySem.W.Frag}{a:Addr}{xs:List V}{ds:List PyData}{σ:L2.St}{H:Hp}{Q:VK}
theorem map_take_succ{α β:Type}(f:α->β){l:List α}{i:Nat}{x:α}(h:l[i]?=some x):(l.take (i+1)).map f=(l.take i).map f++[f x]:=by
 rw[List.take_add_one,h]
 simp
theorem read_proj(j:Int)(pr:PyData->Int)(hj:∀(r c:Int) (x:Str),atI [V.int r,.int c,.str x] j=some (.int (pr (.tuple [.int r,.int c,.str x]))))
  (hσ:σ[0]?=some (some (.ref a))) (ha:H a=some (.lst xs)) (hr:RepAll H ds xs) (hs:Spots ds) (hl:ds.length<64)
  (q:∀D H',Same H H'->H' D=some (.lst ((ds.map pr).map V.int))->Q (.ref D) H') :
  tComp (iList K (tVar 0)) [none] (gName 0) tYes (tOp (rIxT K) (tVar 0) (tC (.int j))) σ H Q:=by
 have hlen:=hr.length
 refine⟨_,hσ,a,rfl,⟨_,SqL.of ha⟩,fun D hD=>?_⟩
 refine comp_list (xs:=xs) (fun i ys H'=>Same H H'/\ys=((ds.take i).map pr).map V.int) ⟨Same.fresh _ hD,rfl⟩ (fun i ys H' p=>SqL.of (p.1 _ _ ha)) (fun i x ys H' hx hi hDy hyl p=>?_) (fun ys H' hDy hyl p=>?_)
 .obtain⟨p1,rfl⟩:=p
  obtain⟨b,r,c,z,rfl,hb,hz,hd⟩:=hs.at hr hx
  refine⟨Agree.set (Agree.refl _) rfl,?_⟩
  dsimp only[tYes]
  refine iteT ?_
  refine⟨_,rfl,b,_,_,_,rfl,rfl,SqT.of (p1 _ _ hb),hj r c z,nx_put (by omega) hDy hyl ⟨p1.new hD,?_⟩⟩
  rw[map_take_succ pr hd,List.map_append]
  rfl
 .obtain⟨p1,rfl⟩:=p
  refine q D H' p1 ?_
  rw[hDy,List.take_of_length_le (by omega)]
theorem read_shift{t l:Int}(hσ:σ[0]?=some (some (.ref a)))(h1:σ[1]?=some (some (.int t)))(h2:σ[2]?=some (some (.int l)))(ha:H a=some (.lst xs))(hr:RepAll H ds xs)(hs:Spots ds)(hl:ds.length<64)
  (q:∀D ys H',Same H H'->H' D=some (.lst ys)->RepAll H' (ds.map (shift1 t l)) ys->Q (.ref D) H') :
  tComp (iList K (tVar 0)) [none,none,none,some 1,some 2] (gTup K 3 (gCons (gName 0) (gCons (gName 1) (gCons (gName 2) gNil)))) tYes
   (tTup (tCons (tOp (rI0 fun i j=>.int (i-j)) (tVar 0) (tVar 3)) (tCons (tOp (rI0 fun i j=>.int (i-j)) (tVar 1) (tVar 4)) (tCons (tVar 2) tNil)))) σ H Q:=by
 have hlen:=hr.length
 refine⟨_,hσ,a,rfl,⟨_,SqL.of ha⟩,fun D hD=>?_⟩
 have hp:picks [none,none,none,some 1,some 2] σ=[none,none,none,some (.int t),some (.int l)]:=by
  unfold picks
  simp[h1,h2]
 refine comp_list (xs:=xs) (fun i ys H'=>Same H H'/\RepAll H' ((ds.take i).map (shift1 t l)) ys) ⟨Same.fresh _ hD,rfl⟩ (fun i ys H' p=>SqL.of (p.1 _ _ ha)) (fun i x ys H' hx hi hDy hyl p=>?_) (fun ys H' hDy hyl p=>?_)
 .obtain⟨p1,p2⟩:=p
  obtain⟨b,r,c,z,rfl,hb,hz,hd⟩:=hs.at hr hx
  rw[hp]
  refine⟨b,_,rfl,SqT.of (p1 _ _ hb),rfl,_,_,rfl,_,_,rfl,_,_,rfl,rfl,?_⟩
  refine⟨Agree.set (Agree.set (Agree.set (Agree.refl _) rfl) rfl) rfl,?_⟩
  dsimp only[tYes]
  refine iteT ?_
  refine⟨_,rfl,_,rfl,_,_,rfl,rfl,_,rfl,_,rfl,_,_,rfl,rfl,_,rfl,(by show 3<=sizeLine;decide),fun n hn=>?_⟩
  have hnD:D≠n:=fun e=>by rw[<-e,hDy]at hn;cases hn
  have hnH:H n=none:=p1.free hn
  have im:immAll (((ds.take i).map (shift1 t l))++[.tuple [.int (r-t),.int (c-l),.str z]])=true:=immAll_of fun d hd'=>by
   rcases List.mem_append.mp hd' with h|h
   .obtain⟨d0,h0,rfl⟩:=List.mem_map.mp h
    obtain⟨r0,c0,x0,rfl⟩:=hs d0 (List.mem_of_mem_take h0)
    rfl
   .rw[List.mem_singleton.mp h];rfl
  have hDn:upd H' n (.tup [.int (r-t),.int (c-l),.str z]) D=some (.lst ys):=by rw[upd_ne hnD];exact hDy
  have hs1:Same H' (upd H' n (.tup [.int (r-t),.int (c-l),.str z])):=Same.fresh _ hn
  have hs2:RepAll (upd H' n (.tup [.int (r-t),.int (c-l),.str z])) (((ds.take i).map (shift1 t l))++[.tuple [.int (r-t),.int (c-l),.str z]]) (ys++[.ref n]):=(p2.same hs1).snoc (spot_rep upd_same hz)
  refine nx_put (by omega) hDn hyl ⟨(p1.trans hs1).new hD,?_⟩
  rw[map_take_succ (shift1 t l) hd]
  exact hs2.tk (Tk.lst hDn) im
 .obtain⟨p1,p2⟩:=p
  rw[List.take_of_length_le (by omega)]at p2
  exact q D ys H' p1 hDy p2
end
theorem shift_rows{ds:List PyData}(hs:Spots ds)(t l:Int):Rows [true,false] (ds.map (shift1 t l)):=fun d hd=>by
 obtain⟨e,he,rfl⟩:=List.mem_map.mp hd
 obtain⟨r,c,x,rfl⟩:=hs e he
 exact⟨_,rfl,_,_,rfl,_,_,rfl,_,_,rfl,rfl⟩
section
variable{X:Cx}{x:Str}{pos:Pos}
theorem pe_globS{z:Str}(h:∃t,X.mg x=some (.str z t))(hg:Gl X x)(hd:(x==("__debug__" : Str))=false:=by decide):PE X (.Name x pos) (tC (.str z)):=by
 obtain⟨t,h⟩:=h
 exact pe_glob hg h ⟨t,rfl⟩ hd
end
section
variable{X:Cx}
theorem strs_of:∀{ys:List Str} {us:List Value},Vals (ys.map V.str) us->StrsAre us ys
 | [],us,h=>by cases h;exact .nil
 | y::ys,us,h=>by
  cases h with
  | cons r t=>
   obtain⟨k,e⟩:=(show ∃t,_=Value.str y t from r)
   subst e
   exact .cons y k (strs_of t)
def rJoin:V->List V->Hp->VK->Prop:=fun x vs H Q=>∃(z:Str) (l:Addr) (ys:List Str),x=.str z/\vs=[.ref l]/\H l=some (.lst (ys.map V.str))/\(ys.map (·.length)).sum+ys.length*z.length<=1000000/\Q (.str (Txt.join z ys)) H
theorem mt_join:MtR X "str.join" rJoin:=by
 intro pins s σ H x vs v us Q I rx rv h
 obtain⟨z,l,ys,rfl,rfl,hl,hz,q⟩:=h
 obtain⟨t,rfl⟩:=rx
 obtain⟨u,rfl,r1⟩:=vals1 rv
 cases (show u=Value.ref l from r1)
 obtain⟨its,r,pl,_⟩:=I.list (SqL.of (K:=X.K) hl)
 exact join_list pl.isList (by simpa using strs_of r) (by omega) fun t' k=>⟨.str _,H,I.tok _,⟨_,rfl⟩,q⟩
end
def Its(x:Str):It:=⟨fun i _=>i<x.cps.toList.length,fun i H v H'=>H'=H/\∃c,x.cps.toList[i]?=some c/\v=.str ⟨#[c]⟩,fun i _=>x.cps.toList.length<=i⟩
theorem turn_ascii{P:Program}{w:World}{K:PySem.W.Frag}{tg:Expr}(x:Str)(t:Tok)(it:Addr):Turn P w K tg (Its x) [it] it (fun i h=>h.IsStrIter it "str_ascii_iterator" x t i)where
 mem:=by simp
 obj:=fun i h st b hb=>by
  have e:b=it:=by simpa using hb
  subst e
  obtain⟨o,e,c,d⟩:=st
  exact⟨o,e,fun v z=>by rw[d]at z;cases z⟩
 keep:=fun i h h' st k=>by
  obtain⟨o,e,r⟩:=st
  exact⟨o,k it (by simp) o e,r⟩
 item:=by
  intro X hP hw hK hc i pins s σ H E I hf st hg
  subst hP hw hK
  obtain⟨f0,f1,f2,f3,f4,f5⟩:=hf it (by simp)
  have hi:i<x.cps.size:=by simpa [Its]using hg
  refine wpAny_pyNext_ascii_item st (c:=x.cps[i]) (by simp[hi]) fun h' st' sb=>?_
  have I1:Inv X pins σ H {s with heap:=h',toks:=s.toks+1}:=I.turned (t':=s.toks+1) (fun b o hb e=>(sb.2 b hb).trans e) f0 f1 f3 f4 f5
  obtain⟨o,e,c,d⟩:=id st'
  exact⟨_,rfl,go_of (s:={s with heap:=h',toks:=s.toks+1}) e c d (by decide) ⟨.str ⟨#[x.cps[i]]⟩,H,I1,⟨_,rfl⟩,⟨rfl,x.cps[i],by simp[hi],rfl⟩,st',fun b hb=>(hf b hb).1⟩⟩
 done:=by
  intro X hP hw hK hc i pins s σ H E I hf st hg
  subst hP hw hK
  obtain⟨f0,f1,f2,f3,f4,f5⟩:=hf it (by simp)
  have hi:x.cps.size<=i:=by simpa [Its]using hg
  exact wpAny_pyNext_ascii_end (I.ok.hd hc) st (by simp;omega) fun h' eb=>⟨rfl,I.turned (t':=s.toks) (fun b o hb e=>eb b o hb e) f0 f1 f3 f4 f5⟩
 self:=fun _ _ _ _ _ st h=>wpAny_pyIter_striter_ascii st h
theorem turn_wide{P:Program}{w:World}{K:PySem.W.Frag}{tg:Expr}(x:Str)(t:Tok)(it:Addr):Turn P w K tg (Its x) [it] it (fun i h=>h.IsStrIter it "str_iterator" x t i)where
 mem:=by simp
 obj:=fun i h st b hb=>by
  have e:b=it:=by simpa using hb
  subst e
  obtain⟨o,e,c,d⟩:=st
  exact⟨o,e,fun v z=>by rw[d]at z;cases z⟩
 keep:=fun i h h' st k=>by
  obtain⟨o,e,r⟩:=st
  exact⟨o,k it (by simp) o e,r⟩
 item:=by
  intro X hP hw hK hc i pins s σ H E I hf st hg
  subst hP hw hK
  obtain⟨f0,f1,f2,f3,f4,f5⟩:=hf it (by simp)
  have hi:i<x.cps.size:=by simpa [Its]using hg
  refine wpAny_pyNext_wide_item st (c:=x.cps[i]) (by simp[hi]) fun h' st' sb=>?_
  have I1:Inv X pins σ H {s with heap:=h',toks:=s.toks+1}:=I.turned (t':=s.toks+1) (fun b o hb e=>(sb.2 b hb).trans e) f0 f1 f3 f4 f5
  obtain⟨o,e,c,d⟩:=id st'
  exact⟨_,rfl,go_of (s:={s with heap:=h',toks:=s.toks+1}) e c d (by decide) ⟨.str ⟨#[x.cps[i]]⟩,H,I1,⟨_,rfl⟩,⟨rfl,x.cps[i],by simp[hi],rfl⟩,st',fun b hb=>(hf b hb).1⟩⟩
 done:=by
  intro X hP hw hK hc i pins s σ H E I hf st hg
  subst hP hw hK
  obtain⟨f0,f1,f2,f3,f4,f5⟩:=hf it (by simp)
  have hi:x.cps.size<=i:=by simpa [Its]using hg
  exact wpAny_pyNext_wide_end (I.ok.hd hc) st (by simp;omega) fun h' eb=>⟨rfl,I.turned (t':=s.toks) (fun b o hb e=>eb b o hb e) f0 f1 f3 f4 f5⟩
 self:=fun _ _ _ _ _ st h=>wpAny_pyIter_striter_wide st h
def iStr(tl:TE):TI:=fun σ H R=>tl σ H fun x H1=>∃z,x=.str z/\R (Its z) H1
theorem pi_str{X:Cx}{tg l:Expr}{tl:TE}(hl:PE X l tl):PI X tg l (iStr tl):=by
 intro pins s σ H R I h
 refine thn (hl pins s σ H _ I h) fun v s1 ⟨x,H1,I1,r1,z,e,q⟩=>?_
 subst e
 obtain⟨t,rfl⟩:=r1
 cases ha:z.cps.all (· < 128)with
 | true=>
  refine wpAny_pyIter_ascii ha ?_
  have I2:Inv X pins σ H1 {s1 with heap:=s1.heap.push {cls:=.type "str_ascii_iterator",data:=.fields #[.str z t,.int 0 0]}}:=I1.kept (t':=s1.toks) fun b o e=>Heap.get?_push_of_some _ e
  exact⟨_,_,_,Its z,H1,rfl,I2,turn_ascii z t s1.heap.objs.size,⟨_,Heap.get?_push_size _ rfl,rfl,rfl⟩,fun b hb=>by rw[List.mem_singleton.mp hb];exact I1.fpOk (Nat.le_refl _) (I1.hok.fresh (Nat.le_refl _)),q⟩
 | false=>
  refine wpAny_pyIter_wide ha ?_
  have I2:Inv X pins σ H1 {s1 with heap:=s1.heap.push {cls:=.type "str_iterator",data:=.fields #[.str z t,.int 0 0]}}:=I1.kept (t':=s1.toks) fun b o e=>Heap.get?_push_of_some _ e
  exact⟨_,_,_,Its z,H1,rfl,I2,turn_wide z t s1.heap.objs.size,⟨_,Heap.get?_push_size _ rfl,rfl,rfl⟩,fun b hb=>by rw[List.mem_singleton.mp hb];exact I1.fpOk (Nat.le_refl _) (I1.hok.fresh (Nat.le_refl _)),q⟩
theorem comp_str{x:Str}{D:Addr}{sl:List (Option Nat)}{g:TG}{tt:TT}{te:TE}{σ:L2.St}{H1:Hp}{Q:VK}(Pv:Nat->List V->Hp->Prop)(h0:Pv 0 [] (upd H1 D (.lst [])))
  (hs:∀i c ys H,x.cps.toList[i]?=some c->i<x.cps.toList.length->H D=some (.lst ys)->ys.length<=i->Pv i ys H->g (.str ⟨#[c]⟩) (picks sl σ) H fun σ2 H2=>Agree (picks sl σ) σ2/\tt σ2 H2 fun b H3=>
   if b=true then te σ2 H3 fun y H4=>∃xs,H4 D=some (.lst xs)/\xs.length<sizeLine/\Nx D i Pv (upd H4 D (.lst (xs++[y])))else Nx D i Pv H3)
  (hd:∀ys H,H D=some (.lst ys)->ys.length<=x.cps.toList.length->Pv x.cps.toList.length ys H->Q (.ref D) H):CompR (Its x) sl g tt te σ H1 D Q:=by
 refine comp_by (Its x) x.cps.toList.length Pv h0 (fun i ys H hi p=>hi) (fun ys H p=>Nat.le_refl _) (fun i v ys H H' hi y hD hyl p=>?_) hd
 obtain⟨e,c,hc,rfl⟩:=y
 subst e
 exact hs i c ys _ hc hi hD hyl p
theorem vals_at:∀{ys:List V} {us:List Value},ys.length=us.length->(∀(i:Nat) (y:V) (u:Value),ys[i]?=some y->us[i]?=some u->RelV y u)->Vals ys us
 | [],[],_,_=>.nil
 | [],_::_,h,_=>by cases h
 | _::_,[],h,_=>by cases h
 | y::ys,u::us,h,r=>.cons (r 0 y u rfl rfl) (vals_at (by simpa using h) fun i y' u' e e'=>r (i+1) y' u' (by simpa using e) (by simpa using e'))
def Tx(z:Str):Prop:=z.length<=80/\∀c∈z.cps.toList,c<128
theorem Tx.ok{z:Str}(h:Tx z):PyData.strOk z=true:=by
 unfold PyData.strOk
 rw[Array.all_eq_true']
 intro c hc
 have:=h.2 c (by simpa using hc)
 simp only[decide_eq_true_eq]
 omega
def sgB(c:Nat):Bool:=(c==35||c==46||c==44)||(decide (65<=c)&&decide (c<=90))||(decide (97<=c)&&decide (c<=122))
theorem foldJ{g:Array Nat}(hg:g=#[]):∀(l:List Str) (a:Array Nat),(l.foldl (fun acc p=>acc++g++p.cps) a).toList=a.toList++(l.map fun p=>p.cps.toList).flatten
 | [],a=>by simp
 | p::l,a=>by
  rw[List.foldl_cons,foldJ hg l,hg]
  simp
theorem join_list_eq{g:Str}(hg:g.cps=#[]):∀ys:List Str,(Txt.join g ys).cps.toList=(ys.map fun p=>p.cps.toList).flatten
 | []=>by simp[Txt.join,PySem.Builtin.Str.glued,Str.empty]
 | y::ys=>by
  show((ys.foldl (fun acc p=>acc++g.cps++p.cps) y.cps)).toList=_
  rw[foldJ hg]
  simp
section
variable{prog:Program}{w:World}{A:Around}{E:Value->Shared->Prop}{s:Shared}
theorem enum_item{e I:Addr}{i:Nat}{old:Value}{Y:Value->Prop}{N:Heap->Prop}{Q:Option Value->Shared->Prop}(he:IsEnum s.heap e I i old)(hne:e≠I)
  (hN:∀g g',N g->(∀o,g.get? I=some o->g'.get? I=some o)->N g')
  (hnx:∀(A':Around) (R:Value->Shared->Prop) (E':Value->Shared->Prop),(∀x g tk,Y x->N g->Heap.SameBut I s.heap g->R x {s with heap:=g,toks:=tk})->wpAny (model prog w) A' (Builtin.SmallTypes.nextOf (.ref I)) R E' s)
  (hQ:∀x g tk tk2,Y x->IsEnumOut g e I ((i:Int)+1) x s.heap.objs.size->N g->g.get? s.heap.objs.size=some {cls:=.type "tuple",data:=.seq #[.int i tk2,x]}->(∀b o,b≠e->b≠I->s.heap.get? b=some o->g.get? b=some o)->Q (some (.ref s.heap.objs.size)) {s with heap:=g,toks:=tk}) :
  wpAny (model prog w) A (pyNext (.ref e)) Q E s:=by
 obtain⟨h0,ga,dr,t0,os⟩:=s
 have ty:Shared.TypeIs ⟨h0,ga,dr,t0,os⟩ (.ref e) "enumerate":=⟨_,he,rfl⟩
 replace he:IsEnum h0 e I i old:=he
 have hel:e<h0.objs.size:=Heap.lt_size he
 unfold pyNext
 refine wpAny_bind (wpAny_attempt (wpAny_callSpecial?_slot (name:=Str.ofString "__next__") ty F.slot_enumerate_next (wpAny_call_entry F.slot_enumerate_next ty F.entry_enumerate_next ?_ (F.args_enumerate_next_1 _))))
 show wpAny _ _ (field (.ref e) 2 >>= _) _ _ ⟨h0,ga,dr,t0,os⟩
 refine wpAny_bind (wpAny_field he rfl (x:=.ref I) rfl (wpAny_bind (hnx _ _ _ fun x g1 tk yx n1 sb1=>?_)))
 replace sb1:Heap.SameBut I h0 g1:=sb1
 have e1:IsEnum g1 e I i old:=(sb1.2 e hne).trans he
 have z1:g1.objs.size=h0.objs.size:=sb1.1
 have k1:∀b o,b≠e->b≠I->h0.get? b=some o->g1.get? b=some o:=fun b o _ hb h=>(sb1.2 b hb).trans h
 clear sb1
 show wpAny _ _ (field (.ref e) 3 >>= _) _ _ ⟨g1,ga,dr,tk,os⟩
 refine wpAny_bind (wpAny_field e1 rfl (x:=rawInt i) rfl ?_)
 show wpAny _ _ (field (.ref e) 4 >>= _) _ _ ⟨g1,ga,dr,tk,os⟩
 refine wpAny_bind (wpAny_field e1 rfl (x:=.none) rfl ?_)
 show wpAny _ _ (mkInt i >>= _) _ _ ⟨g1,ga,dr,tk,os⟩
 refine wpAny_bind (wpAny_mkInt ?_)
 show wpAny _ _ (setField (.ref e) 3 (rawInt ((i:Int)+1)) >>= _) _ _ ⟨g1,ga,dr,tk+1,os⟩
 refine wpAny_bind (wpAny_setField_rec e1 (by simp) fun g2 e2 sb2=>?_)
 replace sb2:Heap.SameBut e g1 g2:=sb2
 replace e2:IsEnum g2 e I ((i:Int)+1) old:=e2
 have z2:g2.objs.size=h0.objs.size:=sb2.1.trans z1
 have n2:N g2:=hN _ _ n1 fun o h=>(sb2.2 I (Ne.symm hne)).trans h
 have k2:∀b o,b≠e->b≠I->h0.get? b=some o->g2.get? b=some o:=fun b o hb hI h=>(sb2.2 b hb).trans (k1 b o hb hI h)
 clear sb2 n1 k1 e1 z1
 show wpAny _ _ (setField (.ref e) 4 .none >>= _) _ _ ⟨g2,ga,dr,tk+1,os⟩
 refine wpAny_bind (wpAny_setField_rec e2 (by simp) fun g3 e3 sb3=>?_)
 replace sb3:Heap.SameBut e g2 g3:=sb3
 replace e3:IsEnum g3 e I ((i:Int)+1) old:=e3
 have z3:g3.objs.size=h0.objs.size:=sb3.1.trans z2
 have n3:N g3:=hN _ _ n2 fun o h=>(sb3.2 I (Ne.symm hne)).trans h
 have k3:∀b o,b≠e->b≠I->h0.get? b=some o->g3.get? b=some o:=fun b o hb hI h=>(sb3.2 b hb).trans (k2 b o hb hI h)
 clear sb3 n2 k2 e2 z2
 show wpAny _ _ (newTuple [.int i tk,x] >>= _) _ _ ⟨g3,ga,dr,tk+1,os⟩
 refine wpAny_bind (wpAny_newTuple ?_)
 have e4:IsEnum (g3.push {cls:=.type "tuple",data:=.seq #[.int i tk,x]}) e I ((i:Int)+1) old:=Heap.get?_push_of_some _ e3
 have n4:N (g3.push {cls:=.type "tuple",data:=.seq #[.int i tk,x]}):=hN _ _ n3 fun o h=>Heap.get?_push_of_some _ h
 have k4:∀b o,b≠e->b≠I->h0.get? b=some o->(g3.push {cls:=.type "tuple",data:=.seq #[.int i tk,x]}).get? b=some o:=fun b o hb hI h=>Heap.get?_push_of_some _ (k3 b o hb hI h)
 have t4:(g3.push {cls:=.type "tuple",data:=.seq #[.int i tk,x]}).get? h0.objs.size=some {cls:=.type "tuple",data:=.seq #[.int i tk,x]}:=by
  have h:=Heap.get?_push_size g3 (o:={cls:=.type "tuple",data:=.seq #[.int i tk,x]}) rfl
  rw[z3]at h;exact h
 generalize hg4:g3.push {cls:=.type "tuple",data:=.seq #[.int i tk,x]}=g4 at *
 show wpAny _ _ (Builtin.SmallTypes.ownedTupleIsFree (.ref e) >>= _) _ _ ⟨g4,ga,dr,tk+1,os⟩
 rw[z3]
 clear hg4 n3 k3 e3 z3 g3
 refine wpAny_bind ?_
 unfold Builtin.SmallTypes.ownedTupleIsFree
 refine wpAny_bind (wpAny_field e4 rfl (x:=.none) rfl (wpAny_pure ?_))
 simp only[if_true]
 refine wpAny_bind (wpAny_rule (wpAny_bind (wpAny_field e4 rfl (x:=old) rfl (wpAny_bind (wpAny_setField_rec e4 (by simp) fun g5 e5 sb5=>?_)))))
 replace sb5:Heap.SameBut e g4 g5:=sb5
 replace e5:IsEnum g5 e I ((i:Int)+1) x:=e5
 show wpAny _ _ (Builtin.SmallTypes.ownedTupleHandOut (.ref e) (.ref h0.objs.size) >>= _) _ _ ⟨g5,ga,dr,tk+1,os⟩
 refine wpAny_bind ?_
 unfold Builtin.SmallTypes.ownedTupleHandOut
 refine wpAny_bind (wpAny_setField_rec e5 (by simp) fun g6 e6 sb6=>?_)
 replace sb6:Heap.SameBut e g5 g6:=sb6
 replace e6:IsEnumOut g6 e I ((i:Int)+1) x h0.objs.size:=e6
 refine wpAny_setField_rec e6 (by simp) fun g7 e7 sb7=>?_
 replace sb7:Heap.SameBut e g6 g7:=sb7
 replace e7:IsEnumOut g7 e I ((i:Int)+1) x h0.objs.size:=e7
 have all:∀b o,b≠e->g4.get? b=some o->g7.get? b=some o:=fun b o hb h=>(sb7.2 b hb).trans ((sb6.2 b hb).trans ((sb5.2 b hb).trans h))
 exact wpAny_bind (wpAny_letGo (wpAny_pure ⟨_,rfl,wpAny_pure (hQ x g7 _ tk yx e7 (hN _ _ n4 fun o h=>all I o (Ne.symm hne) h) (all _ _ (Nat.ne_of_gt hel) t4) fun b o hb hI h=>all b o hb (k4 b o hb hI h))⟩))
theorem enum_end{e I:Addr}{i:Int}{old:Value}{Q:Option Value->Shared->Prop}(he:IsEnum s.heap e I i old)
  (hnx:∀(R:Value->Shared->Prop) (E':Value->Shared->Prop),(∀g x,Heap.ExtBut I s.heap g->(∃o,g.get? x=some o/\o.cls=.type "StopIteration")->E' (.ref x) {s with heap:=g})->wpAny (model prog w) A.in1 (Builtin.SmallTypes.nextOf (.ref I)) R E' s)
  (hQ:∀g,Heap.ExtBut I s.heap g->Q none {s with heap:=g}):wpAny (model prog w) A (pyNext (.ref e)) Q E s:=by
 have ty:s.TypeIs (.ref e) "enumerate":=⟨_,he,rfl⟩
 unfold pyNext
 refine wpAny_bind (wpAny_attempt (wpAny_callSpecial?_slot (name:=Str.ofString "__next__") ty F.slot_enumerate_next (wpAny_call_entry F.slot_enumerate_next ty F.entry_enumerate_next ?_ (F.args_enumerate_next_1 _))))
 show wpAny _ _ (field (.ref e) 2 >>= _) _ _ s
 refine wpAny_bind (wpAny_field he rfl (x:=.ref I) rfl (wpAny_bind (hnx _ _ fun g x kp ⟨o,ho,hc⟩=>?_)))
 exact wpAny_bind (wpAny_isInstance (T:="StopIteration") (b:=true) ⟨o,ho,hc⟩ isSubtype_stop (wpAny_pure (hQ _ kp)))
end
section
variable{X:Cx}{pins:List (Addr×Obj)}{σ:L2.St}{H:Hp}{s:Shared}{h':Heap}
theorem turned2{t':Nat}{e it:Addr}(I:Inv X pins σ H s)(k:∀b o,b≠e->b≠it->s.heap.get? b=some o->h'.get? b=some o)(fe:FpOk X pins H e)(fi:FpOk X pins H it):Inv X pins σ H {s with heap:=h',toks:=t'}:=by
 obtain⟨e0,e1,e2,e3,e4,e5⟩:=fe
 obtain⟨i0,i1,i2,i3,i4,i5⟩:=fi
 have nn:∀b u,H b=some u->b≠e/\b≠it:=fun b u q=>⟨fun z=>(by rw[z,e0]at q;cases q),fun z=>(by rw[z,i0]at q;cases q)⟩
 have sp:∀b,b∉[e,it]->b≠e/\b≠it:=fun b hb=>by simpa using hb
 refine I.step (g':=s.gens) (d':=s.drawn) (ch:=[e,it]) (fun b hb=>?_) (fun b o _ _ hc q _=>k b o (sp b hc).1 (sp b hc).2 q) (fun b o _ _ hc q _=>⟨o.slots,k b o (sp b hc).1 (sp b hc).2 q⟩) (fun _ _ _ _ n=>n)
  (fun b o hc q=>⟨o,k b o (sp b hc).1 (sp b hc).2 q⟩) (fun _ _ q=>q) (fun _ _ _ q=>q) (fun b ps q=>⟨#[],by rw[q];simp⟩) (fun m hm=>?_) (fun b u q=>?_) I.bare
 .rcases List.mem_cons.mp hb with z|z
  .subst z;exact⟨e3,e1,e4,e5⟩
  .rw[List.mem_singleton.mp z];exact⟨i3,i1,i4,i5⟩
 .obtain⟨o,es,ep,ho,r⟩:=hm
  exact⟨o,es,ep,k _ o (Ne.symm e1) (Ne.symm i1) ho,r⟩
 .refine(I.hok b u q).stay (fun c v hc r=>k c v ?_ ?_ r) (fun _ r=>r) fun _ _ r=>r
  .rcases hc with z|z
   .rw[z];exact(nn b u q).1
   .exact(nn c _ z).1
  .rcases hc with z|z
   .rw[z];exact(nn b u q).2
   .exact(nn c _ z).2
end
theorem turn_enum{P:Program}{w:World}{K:PySem.W.Frag}{elts:List Expr}{x1}{pos:Pos}(J:It)(e I:Addr)(hne:e≠I)(M:Nat->Heap->Prop)
  (hobj:∀i h,M i h->∃o,h.get? I=some o/\∀v,o.data≠.cell v) (hkeep:∀i h h',M i h->(∀o,h.get? I=some o->h'.get? I=some o)->M i h')
  (hitem:∀(X:Cx),X.prog=P->X.w=w->X.K=K->∀(i:Nat) pins (s:Shared) σ H,Inv X pins σ H s->M i s.heap->J.go i H->∃Y:Value->Prop,
   (∀u,Y u->∃x,RelV x u/\J.yld i H (.ref s.heap.objs.size) (upd H s.heap.objs.size (.tup [.int i,x])))/\
   ∀(A':Around) (R:Value->Shared->Prop) (E':Value->Shared->Prop),(∀u g tk,Y u->M (i+1) g->Heap.SameBut I s.heap g->R u {s with heap:=g,toks:=tk})->wpAny (model P w) A' (Builtin.SmallTypes.nextOf (.ref I)) R E' s)
  (hdone:∀(X:Cx),X.prog=P->X.w=w->X.K=K->∀(i:Nat) pins (s:Shared) σ H,Inv X pins σ H s->M i s.heap->J.stop i H->
   ∀(A':Around) (R:Value->Shared->Prop) (E':Value->Shared->Prop),A'.handled=none->(∀g u,Heap.ExtBut I s.heap g->(∃o,g.get? u=some o/\o.cls=.type "StopIteration")->E' (.ref u) {s with heap:=g})->wpAny (model P w) A' (Builtin.SmallTypes.nextOf (.ref I)) R E' s) :
  Turn P w K (.Tuple elts x1 pos) J [e,I] e (fun i h=>(∃old,IsEnum h e I i old)/\M i h)where
 mem:=by simp
 obj:=fun i h st b hb=>by
  obtain⟨⟨old,he⟩,m⟩:=st
  rcases List.mem_cons.mp hb with z|z
  .subst z
   exact⟨_,he,fun v z=>by cases z⟩
  .rw[List.mem_singleton.mp z]
   exact hobj i h m
 keep:=fun i h h' st k=>by
  obtain⟨⟨old,he⟩,m⟩:=st
  exact⟨⟨old,k e (by simp) _ he⟩,hkeep i h h' m fun o q=>k I (by simp) o q⟩
 item:=by
  intro X hP hw hK hc i pins s σ H E Iv hf st hg
  obtain⟨⟨old,he⟩,m⟩:=st
  obtain⟨Y,hY,hnx⟩:=hitem X hP hw hK i pins s σ H Iv m hg
  subst hP hw hK
  have fe:=hf e (by simp)
  have fi:=hf I (by simp)
  have hel:e<s.heap.objs.size:=Heap.lt_size he
  obtain⟨oi,hoi,_⟩:=hobj i _ m
  have hil:I<s.heap.objs.size:=Heap.lt_size hoi
  refine enum_item he hne (N:=M (i+1)) (fun g g' n k=>hkeep _ _ _ n k) hnx (fun u g tk tk2 yu eo n t4 k=>⟨_,rfl,?_⟩)
  refine wpAny_letOwnedTupleGo_enum (s:={s with heap:=g,toks:=tk}) eo fun g' e' sb=>?_
  obtain⟨v,rv,yl⟩:=hY u yu
  have I1:Inv X pins σ (upd H s.heap.objs.size (.tup [.int i,v])) {s with heap:=s.heap.push {cls:=.type "tuple",data:=.seq #[.int i tk2,u]},toks:=tk}:=
   Iv.laid (t':=tk) (fun b o q=>Heap.get?_push_of_some _ q) (Nat.le_refl _) ⟨by show 2<=sizeLine;decide,[.int i tk2,u],.cons ⟨tk2,rfl⟩ (.cons rv .nil),⟨_,Heap.get?_push_size _ rfl,rfl,_,rfl⟩⟩
  have up:∀b,b<s.heap.objs.size->FpOk X pins H b->FpOk X pins (upd H s.heap.objs.size (.tup [.int i,v])) b:=fun b hb q=>⟨by rw[upd_ne (Nat.ne_of_lt hb)];exact q.1,q.2⟩
  have I2:Inv X pins σ (upd H s.heap.objs.size (.tup [.int i,v])) {s with heap:=g,toks:=tk}:=turned2 (s:={s with heap:=s.heap.push {cls:=.type "tuple",data:=.seq #[.int i tk2,u]},toks:=tk}) (t':=tk) I1 (fun b o h1 h2 q=>by
   rcases Heap.get?_push_cases q with ⟨z1,z2⟩|z
   .rw[z1,z2];exact t4
   .exact k b o h1 h2 z) (up e hel fe) (up I hil fi)
  have fe2:=up e hel fe
  have I3:Inv X pins σ (upd H s.heap.objs.size (.tup [.int i,v])) {s with heap:=g',toks:=tk}:=Inv.turned (s:={s with heap:=g,toks:=tk}) (t':=tk) I2 (fun b o hb q=>(sb.2 b hb).trans q) fe2.1 fe2.2.1 fe2.2.2.2.1 fe2.2.2.2.2.1 fe2.2.2.2.2.2
  refine⟨.ref s.heap.objs.size,_,I3,rfl,yl,⟨⟨u,e'⟩,hkeep _ _ _ n fun o q=>(sb.2 I (Ne.symm hne)).trans q⟩,fun b hb=>?_⟩
  rcases List.mem_cons.mp hb with z|z
  .subst z;exact fe2.1
  .rw[List.mem_singleton.mp z];exact(up I hil fi).1
 done:=by
  intro X hP hw hK hc i pins s σ H E Iv hf st hg
  obtain⟨⟨old,he⟩,m⟩:=st
  have hd:=hdone X hP hw hK i pins s σ H Iv m hg
  subst hP hw hK
  have fi:=hf I (by simp)
  exact enum_end he (fun R E' q=>hd _ R E' (Iv.ok.hd hc) q) fun g kp=>⟨rfl,Iv.turned (t':=s.toks) (fun b o hb q=>kp b o hb q) fi.1 fi.2.1 fi.2.2.2.1 fi.2.2.2.2.1 fi.2.2.2.2.2⟩
 self:=fun _ _ _ _ _ st h=>by
  obtain⟨⟨old,he⟩,_⟩:=st
  exact wpAny_pyIter_enum he h
theorem for_any(J:It)(n:Nat){g:TG}{tb:TS}{D:Ends}{σ:L2.St}{H:Hp}(Pv:Nat->L2.St->Hp->Prop)(h0:Pv 0 σ H)(hgo:∀i σ H,i<n->Pv i σ H->J.go i H)(hst:∀σ H,Pv n σ H->J.stop n H)
  (hs:∀i v σ H H',i<n->Pv i σ H->J.yld i H v H'->g v σ H' fun σ2 H2=>tb {D with nx:=Pv (i+1),ct:=Pv (i+1),bk:=D.nx} σ2 H2) (hd:∀σ H,Pv n σ H->D.nx σ H) :
  ∃W:Nat->Nat->L2.St->Hp->Prop,(∃m,W 0 m σ H)/\∀i m σ H,W i m σ H->
   (J.stop i H/\D.nx σ H)\/(J.go i H/\∃N:L2.St->Hp->Prop,(∀σ' H',N σ' H'->∃m',m'<m/\W (i+1) m' σ' H')/\∀v H',J.yld i H v H'->g v σ H' fun σ2 H2=>tb {D with nx:=N,ct:=N,bk:=D.nx} σ2 H2):=by
 refine⟨fun i m σ H=>m=n-i/\i<=n/\Pv i σ H,⟨n,by simp,Nat.zero_le _,h0⟩,?_⟩
 rintro i m σ H ⟨rfl,hi,p⟩
 by_cases hlt:i<n
 .exact .inr ⟨hgo i σ H hlt p,Pv (i+1),fun σ' H' p'=>⟨n-(i+1),by omega,rfl,hlt,p'⟩,fun v H' y=>hs i v σ H H' hlt p y⟩
 .have e:i=n:=by omega
  subst e
  exact .inl ⟨hst σ H p,hd σ H p⟩
end L3
namespace L3
structure Mat where
 h:Nat
 w:Nat
 g:Nat->Nat->Nat
def lineM(M:Mat)(r:Nat):List Nat:=(List.range M.w).map (M.g r)
structure SameM(M N:Mat):Prop where
 h:M.h=N.h
 w:M.w=N.w
 g:∀r c,r<M.h->c<M.w->M.g r c=N.g r c
theorem SameM.line{M N:Mat}(a:SameM M N){r:Nat}(h:r<M.h):lineM M r=lineM N r:=by
 unfold lineM
 rw[<-a.w]
 exact List.map_congr_left fun c hc=>a.g r c h (by simpa using hc)
structure OkM(P:Nat->Prop)(M:Mat):Prop where
 h1:0<M.h
 h8:M.h<=8
 w1:0<M.w
 w8:M.w<=8
 sg:∀r c,r<M.h->c<M.w->P (M.g r c)
end L3
namespace L3
open PySem PySem.W PySem.Calls PyProof.Rows
structure Ord(lt:Nat->Nat->Bool):Prop where
 asy:∀a b,lt a b=true->lt b a=false
 tr:∀a b c,lt b a=false->lt c b=false->lt c a=false
theorem runT_bind{α β:Type}(lt:Nat->Nat->Bool)(f:α->KasT β):∀t:KasT α,runT lt (t.bind f)=runT lt (f (runT lt t))
 | .ret a=>rfl
 | .ask i j k=>runT_bind lt f (k (lt i j))
section
variable{lt:Nat->Nat->Bool}
def Up(lt:Nat->Nat->Bool)(p:Array Nat)(hi:Nat):Prop:=∀i j,i<=j->j<hi->lt (p.getD j 0) (p.getD i 0)=false
def Dn(lt:Nat->Nat->Bool)(p:Array Nat)(hi:Nat):Prop:=∀i j,i<=j->j<hi->lt (p.getD i 0) (p.getD j 0)=false
theorem Ord.irr(o:Ord lt)(a:Nat):lt a a=false:=by
 cases h:lt a a with
 | false=>rfl
 | true=>rw[<-h];exact o.asy a a h
theorem Up.one(o:Ord lt)(p:Array Nat):Up lt p 1:=fun i j h1 h2=>by
 have e1:i=0:=by omega
 have e2:j=0:=by omega
 rw[e1,e2];exact o.irr _
theorem Dn.one(o:Ord lt)(p:Array Nat):Dn lt p 1:=fun i j h1 h2=>by
 have e1:i=0:=by omega
 have e2:j=0:=by omega
 rw[e1,e2];exact o.irr _
theorem Up.more(o:Ord lt){p:Array Nat}{n:Nat}(h:Up lt p n)(hn:0<n)(h1:lt (p.getD n 0) (p.getD (n-1) 0)=false):Up lt p (n+1):=fun i j h2 h3=>by
 by_cases e:j=n
 .subst e
  by_cases e2:i=j
  .rw[e2];exact o.irr _
  .exact o.tr _ _ _ (h i (j-1) (by omega) (by omega)) h1
 .exact h i j h2 (by omega)
theorem Dn.more(o:Ord lt){p:Array Nat}{n:Nat}(h:Dn lt p n)(hn:0<n)(h1:lt (p.getD (n-1) 0) (p.getD n 0)=false):Dn lt p (n+1):=fun i j h2 h3=>by
 by_cases e:j=n
 .subst e
  by_cases e2:i=j
  .rw[e2];exact o.irr _
  .exact o.tr _ _ _ h1 (h i (j-1) (by omega) (by omega))
 .exact h i j h2 (by omega)
theorem run_asc(o:Ord lt){p:Array Nat}:∀(f n:Nat),0<n->Up lt p n->n<=runT lt (kas_asc p f n)/\runT lt (kas_asc p f n)<=n+f/\Up lt p (runT lt (kas_asc p f n))/\(runT lt (kas_asc p f n)<n+f->lt (p.getD (runT lt (kas_asc p f n)) 0) (p.getD (runT lt (kas_asc p f n)-1) 0)=true)
 | 0,n,hn,h=>⟨Nat.le_refl _,Nat.le_refl _,h,fun z=>absurd z (Nat.lt_irrefl _)⟩
 | f+1,n,hn,h=>by
  show n<=runT lt (if lt (p.getD n 0) (p.getD (n-1) 0)=true then _ else _)/\runT lt (if lt (p.getD n 0) (p.getD (n-1) 0)=true then _ else _)<=n+(f+1)/\Up lt p (runT lt (if lt (p.getD n 0) (p.getD (n-1) 0)=true then _ else _))/\_
  cases c:lt (p.getD n 0) (p.getD (n-1) 0)with
  | true=>
   rw[show kas_asc p (f+1) n=.ask (p.getD n 0) (p.getD (n-1) 0) fun c=>if c=true then .ret n else kas_asc p f (n+1)from rfl]
   simp only[runT,c,if_true]
   exact⟨Nat.le_refl _,by omega,h,fun _=>trivial⟩
  | false=>
   rw[show kas_asc p (f+1) n=.ask (p.getD n 0) (p.getD (n-1) 0) fun c=>if c=true then .ret n else kas_asc p f (n+1)from rfl]
   simp only[runT,c,Bool.false_eq_true,if_false]
   have ih:=run_asc o (p:=p) f (n+1) (by omega) (h.more o hn c)
   exact⟨by omega,by omega,ih.2.2.1,fun z=>ih.2.2.2 (by omega)⟩
theorem getD_eq{p q:Array Nat}{i j:Nat}(h:p[i]?=q[j]?):p.getD i 0=q.getD j 0:=by
 rw[Array.getD_eq_getD_getElem?,Array.getD_eq_getD_getElem?,h]
theorem rev_at{p:Array Nat}{i j:Nat}(hj:j<=p.size)(k:Nat):(kas_rev p i j).getD k 0=if i<=k/\k<j then p.getD (i+j-1-k) 0 else p.getD k 0:=by
 have e:=getElem?_mirror_all (xs:=p) (i:=i) hj k
 split
 .rename_i h
  rw[if_pos h]at e
  exact getD_eq e
 .rename_i h
  rw[if_neg h]at e
  exact getD_eq e
theorem rev_size(p:Array Nat)(i j:Nat):(kas_rev p i j).size=p.size:=mirror_size _ _ _ _
theorem Dn.rev{p:Array Nat}{n:Nat}(hn:n<=p.size)(h:Dn lt p n):Up lt (kas_rev p 0 n) n:=fun i j h1 h2=>by
 rw[rev_at hn,rev_at hn,if_pos ⟨Nat.zero_le _,h2⟩,if_pos ⟨Nat.zero_le _,by omega⟩]
 exact h _ _ (by omega) (by omega)
theorem Up.rev{p:Array Nat}{n:Nat}(hn:n<=p.size)(h:Up lt p n):Dn lt (kas_rev p 0 n) n:=fun i j h1 h2=>by
 rw[rev_at hn,rev_at hn,if_pos (show 0<=i/\i<n by omega),if_pos (show 0<=j/\j<n by omega)]
 exact h _ _ (by omega) (by omega)
def Eqs(lt:Nat->Nat->Bool)(p:Array Nat)(lo hi:Nat):Prop:=∀i j,lo<=i->i<hi->lo<=j->j<hi->lt (p.getD i 0) (p.getD j 0)=false
theorem Dn.revEq(o:Ord lt){p:Array Nat}{lo n:Nat}(hn:n<=p.size)(hl:lo<n)(h:Dn lt p n)(e:Eqs lt p lo n):Dn lt (kas_rev p lo n) n:=fun i j h1 h2=>by
 rw[rev_at hn,rev_at hn]
 split<;>split
 .exact e _ _ (by omega) (by omega) (by omega) (by omega)
 .omega
 .exact h _ _ (by omega) (by omega)
 .exact h _ _ h1 h2
theorem run_desc(o:Ord lt){N:Nat}:∀(f:Nat) (p:Array Nat) (n q:Nat),p.size=N->n+f<=N->q<n->Dn lt p n->Eqs lt p (n-(q+1)) n->
  (runT lt (kas_desc f p n q)).1.size=N/\n<=(runT lt (kas_desc f p n q)).2.1/\(runT lt (kas_desc f p n q)).2.1<=n+f/\(runT lt (kas_desc f p n q)).2.2<(runT lt (kas_desc f p n q)).2.1/\
   Dn lt (runT lt (kas_desc f p n q)).1 (runT lt (kas_desc f p n q)).2.1/\Eqs lt (runT lt (kas_desc f p n q)).1 ((runT lt (kas_desc f p n q)).2.1-((runT lt (kas_desc f p n q)).2.2+1)) (runT lt (kas_desc f p n q)).2.1
 | 0,p,n,q,hp,hf,hq,h,e=>⟨hp,Nat.le_refl _,Nat.le_refl _,hq,h,e⟩
 | f+1,p,n,q,hp,hf,hq,h,e=>by
  have one:∀(p':Array Nat) (m:Nat),Eqs lt p' (m-(0+1)) m:=fun p' m i j h1 h2 h3 h4=>by
   have:i=j:=by omega
   rw[this];exact o.irr _
  have un:kas_desc (f+1) p n q=.ask (p.getD n 0) (p.getD (n-1) 0) fun c=>if c=true then(if q>0 then kas_desc f (kas_rev p (n-(q+1)) n) (n+1) 0 else kas_desc f p (n+1) 0)
    else .ask (p.getD (n-1) 0) (p.getD n 0) fun d=>if d=true then .ret (p,n,q)else kas_desc f p (n+1) (q+1):=rfl
  cases c:lt (p.getD n 0) (p.getD (n-1) 0)with
  | true=>
   have c':=o.asy _ _ c
   by_cases hq0:q>0
   .have er:runT lt (kas_desc (f+1) p n q)=runT lt (kas_desc f (kas_rev p (n-(q+1)) n) (n+1) 0):=by
     rw[un];simp only[runT,c,if_true,if_pos hq0]
    rw[er]
    have h':Dn lt (kas_rev p (n-(q+1)) n) (n+1):=(h.revEq o (by omega) (by omega) e).more o (by omega) (by
     rw[rev_at (by omega),rev_at (by omega),if_pos (by omega),if_neg (by omega)]
     exact o.tr _ _ _ c' (e _ _ (by omega) (by omega) (by omega) (by omega)))
    have ih:=run_desc o (N:=N) f (kas_rev p (n-(q+1)) n) (n+1) 0 (by rw[rev_size];exact hp) (by omega) (by omega) h' (one _ _)
    exact⟨ih.1,by omega,by omega,ih.2.2.2.1,ih.2.2.2.2.1,ih.2.2.2.2.2⟩
   .have er:runT lt (kas_desc (f+1) p n q)=runT lt (kas_desc f p (n+1) 0):=by
     rw[un];simp only[runT,c,if_true,if_neg hq0]
    rw[er]
    have ih:=run_desc o (N:=N) f p (n+1) 0 hp (by omega) (by omega) (h.more o (by omega) c') (one _ _)
    exact⟨ih.1,by omega,by omega,ih.2.2.2.1,ih.2.2.2.2.1,ih.2.2.2.2.2⟩
  | false=>
   cases d:lt (p.getD (n-1) 0) (p.getD n 0)with
   | true=>
    have er:runT lt (kas_desc (f+1) p n q)=(p,n,q):=by
     rw[un];simp only[runT,c,d,if_true,Bool.false_eq_true,if_false]
    rw[er]
    exact⟨hp,Nat.le_refl _,by show n<=n+(f+1);omega,hq,h,e⟩
   | false=>
    have er:runT lt (kas_desc (f+1) p n q)=runT lt (kas_desc f p (n+1) (q+1)):=by
     rw[un];simp only[runT,c,d,Bool.false_eq_true,if_false]
    rw[er]
    have e':Eqs lt p (n+1-(q+1+1)) (n+1):=fun i j h1 h2 h3 h4=>by
     by_cases ei:i=n
     .by_cases ej:j=n
      .rw[ei,ej];exact o.irr _
      .rw[ei];exact o.tr _ _ _ (e _ _ (by omega) (by omega) (by omega) (by omega)) c
     .by_cases ej:j=n
      .rw[ej];exact o.tr _ _ _ d (e _ _ (by omega) (by omega) (by omega) (by omega))
      .exact e _ _ (by omega) (by omega) (by omega) (by omega)
    have ih:=run_desc o (N:=N) f p (n+1) (q+1) hp (by omega) (by omega) (h.more o (by omega) d) e'
    exact⟨ih.1,by omega,by omega,ih.2.2.2.1,ih.2.2.2.2.1,ih.2.2.2.2.2⟩
def Run(lt:Nat->Nat->Bool)(N:Nat)(r:Nat×Array Nat):Prop:=r.2.size=N/\0<r.1/\r.1<=N/\Up lt r.2 r.1
theorem run_tail3(o:Ord lt){N n:Nat}{p:Array Nat}(hp:p.size=N)(hn:0<n)(hN:n<=N)(h:Dn lt p n):Run lt N (runT lt (kas_tail3 n N p)):=by
 have e:runT lt (kas_tail3 n N p)=(runT lt (kas_asc (kas_rev p 0 n) (N-n) n),kas_rev p 0 n):=by
  unfold kas_tail3
  rw[runT_bind]
  rfl
 rw[e]
 have a:=run_asc o (p:=kas_rev p 0 n) (N-n) n hn (h.rev (by omega))
 exact⟨by rw[rev_size];exact hp,by have:=a.1;show 0<_;omega,by have:=a.2.1;show _<=N;omega,a.2.2.1⟩
theorem run_descPart(o:Ord lt){N n:Nat}{p:Array Nat}(hp:p.size=N)(hN:n+1<=N)(h:Dn lt p (n+1)):Run lt N (runT lt (kas_descPart n N p)):=by
 unfold kas_descPart
 rw[runT_bind]
 have d:=run_desc o (N:=N) (N-(n+1)) p (n+1) 0 hp (by omega) (by omega) h (fun i j h1 h2 h3 h4=>by
  have:i=j:=by omega
  rw[this];exact o.irr _)
 generalize runT lt (kas_desc (N-(n+1)) p (n+1) 0)=r at *
 obtain⟨d1,d2,d3,d4,d5,d6⟩:=d
 split
 .exact run_tail3 o (by rw[rev_size];exact d1) (by omega) (by omega) (d5.revEq o (by omega) (by omega) d6)
 .exact run_tail3 o d1 (by omega) (by omega) d5
theorem run_count(o:Ord lt){N:Nat}{p:Array Nat}(hp:p.size=N)(hN:0<N):Run lt N (runT lt (kas_count N p)):=by
 unfold kas_count
 rw[runT_bind]
 have a:=run_asc o (p:=p) (N-1) 1 (by omega) (Up.one o p)
 generalize runT lt (kas_asc p (N-1) 1)=n at *
 obtain⟨a1,a2,a3,a4⟩:=a
 split
 .exact⟨hp,a1,by show n<=N;omega,a3⟩
 .rename_i hne
  have hne':n≠N:=by simpa using hne
  have hlt:=a4 (by omega)
  split
  .rename_i h1
   show Run lt N (runT lt (if lt (p.getD 0 0) (p.getD (n-1) 0)=true then _ else _))
   split
   .exact⟨hp,a1,by show n<=N;omega,a3⟩
   .rename_i hc
    refine run_descPart o (by rw[rev_size];exact hp) (by omega) ((a3.rev (by omega)).more o (by omega) ?_)
    rw[rev_at (by omega),rev_at (by omega),if_pos (by omega),if_neg (by omega)]
    have e0:0+n-1-(n-1)=0:=by omega
    rw[e0]
    exact o.tr _ _ _ (o.asy _ _ hlt) (by simpa using hc)
  .have e1:n=1:=by omega
   subst e1
   exact run_descPart o hp (by omega) ((Dn.one o p).more o (by omega) (o.asy _ _ hlt))
theorem run_place(o:Ord lt){p:Array Nat}{k:Nat}(h:Up lt p k):∀(f l r:Nat),l<=r->r<=k->r-l<=f->(∀i,i<l->lt (p.getD k 0) (p.getD i 0)=false)->(∀i,r<=i->i<k->lt (p.getD k 0) (p.getD i 0)=true)->
  runT lt (kas_place p k f l r)<=k/\(∀i,i<runT lt (kas_place p k f l r)->lt (p.getD k 0) (p.getD i 0)=false)/\(∀i,runT lt (kas_place p k f l r)<=i->i<k->lt (p.getD k 0) (p.getD i 0)=true)
 | 0,l,r,h1,h2,h3,h4,h5=>⟨by show l<=k;omega,h4,fun i z=>h5 i (by have:l<=i:=z;omega)⟩
 | f+1,l,r,h1,h2,h3,h4,h5=>by
  unfold kas_place
  split
  .exact⟨by show l<=k;omega,h4,fun i z=>h5 i (by have:l<=i:=z;omega)⟩
  .rename_i hlr
   have hm1:l<=(l+r)/2:=by omega
   have hm2:(l+r)/2<r:=by omega
   generalize (l+r)/2=m at *
   cases c:lt (p.getD k 0) (p.getD m 0)with
   | true=>
    simp only[runT,c,if_true]
    refine run_place o h f l m hm1 (by omega) (by omega) h4 (fun i z1 z2=>?_)
    cases d:lt (p.getD k 0) (p.getD i 0)with
    | true=>rfl
    | false=>
     have:=o.tr _ _ _ (h m i z1 z2) d
     rw[c]at this;cases this
   | false=>
    simp only[runT,c,Bool.false_eq_true,if_false]
    exact run_place o h f (m+1) r (by omega) h2 (by omega) (fun i z=>o.tr _ _ _ (h i m (by omega) (by omega)) c) h5
theorem bub_at{p:Array Nat}{k l:Nat}(hk:k<p.size)(hl:l<=k)(i:Nat):(bubble p k (k-l)).getD i 0=if i=l then p.getD k 0 else if l<i/\i<=k then p.getD (i-1) 0 else p.getD i 0:=by
 have e:=getElem?_bubble hk (k-l) (by omega) i
 have e2:k-(k-l)=l:=by omega
 rw[e2]at e
 by_cases h:i=l
 .rw[if_pos h]at e⊢
  exact getD_eq e
 .rw[if_neg h]at e⊢
  by_cases h2:l<i/\i<=k
  .rw[if_pos h2]at e⊢
   exact getD_eq e
  .rw[if_neg h2]at e⊢
   exact getD_eq e
theorem run_bin(o:Ord lt){N:Nat}:∀(f:Nat) (p:Array Nat) (k:Nat),p.size=N->k+f<=N->Up lt p k->(runT lt (kas_bin f p k)).size=N/\Up lt (runT lt (kas_bin f p k)) (k+f)
 | 0,p,k,hp,hf,h=>⟨hp,h⟩
 | f+1,p,k,hp,hf,h=>by
  have e:runT lt (kas_bin (f+1) p k)=runT lt (kas_bin f (bubble p k (k-runT lt (kas_place p k k 0 k))) (k+1)):=by
   show runT lt ((kas_place p k k 0 k).bind _)=_
   rw[runT_bind]
  rw[e]
  obtain⟨l1,l2,l3⟩:=run_place o h k 0 k (by omega) (Nat.le_refl _) (by omega) (fun i z=>by omega) (fun i z1 z2=>by omega)
  generalize runT lt (kas_place p k k 0 k)=l at *
  have up:Up lt (bubble p k (k-l)) (k+1):=fun i j h1 h2=>by
   rw[bub_at (by omega) l1,bub_at (by omega) l1]
   by_cases ei:i=l
   .by_cases ej:j=l
    .rw[if_pos ej,if_pos ei];exact o.irr _
    .rw[if_neg ej,if_pos ei,if_pos (by omega)]
     exact o.asy _ _ (l3 _ (by omega) (by omega))
   .by_cases ej:j=l
    .rw[if_pos ej,if_neg ei,if_neg (by omega)]
     exact l2 _ (by omega)
    .rw[if_neg ej,if_neg ei]
     split<;>split
     .exact h _ _ (by omega) (by omega)
     .exact h _ _ (by omega) (by omega)
     .omega
     .exact h _ _ (by omega) (by omega)
  have ih:=run_bin o (N:=N) f (bubble p k (k-l)) (k+1) (by rw[bubble_size];exact hp) (by omega) up
  have e3:k+(f+1)=k+1+f:=by omega
  rw[e3]
  exact ih
theorem run_sort(o:Ord lt){N:Nat}(hN:0<N):(runT lt (kas_sort N)).size=N/\Up lt (runT lt (kas_sort N)) N:=by
 unfold kas_sort
 rw[runT_bind]
 have c:=run_count o (N:=N) (p:=List.toArray (List.range N)) (by simp) hN
 generalize runT lt (kas_count N (List.toArray (List.range N)))=r at *
 obtain⟨c1,c2,c3,c4⟩:=c
 split
 .have e:max r.1 1=r.1:=by omega
  rw[e]
  have b:=run_bin o (N:=N) (N-r.1) r.2 r.1 c1 (by omega) c4
  have e2:r.1+(N-r.1)=N:=by omega
  rw[e2]at b
  exact b
 .have e:r.1=N:=by omega
  rw[e]at c4
  exact⟨c1,c4⟩
end
end L3
namespace L3
open PySem PySem.Spec PyProof.Rows L2
def sLt(x y:Str):Bool:=decide (x.cps.toList<y.cps.toList)
theorem sLt_eq{a b:Str}(h1:sLt a b=false)(h2:sLt b a=false):a=b:=by
 have h1':b.cps.toList<=a.cps.toList:=of_decide_eq_false h1
 have h2':a.cps.toList<=b.cps.toList:=of_decide_eq_false h2
 have e:=List.le_antisymm h2' h1'
 cases a;cases b
 simp only at e
 congr
 exact Array.ext' e
theorem sLt_irr(a:Str):sLt a a=false:=decide_eq_false (List.lt_irrefl _)
section
open PySem.W PySem.Calls
def OkQ(n:Nat)(p:Array Nat):Prop:=OkP n p/\p.Perm (List.toArray (List.range n))
theorem OkQ.get{n:Nat}{p:Array Nat}(h:OkQ n p)(hn:0<n)(i:Nat):p.getD i 0<n:=h.1.get hn i
theorem OkQ.perm{n:Nat}{p q:Array Nat}(h:OkQ n p)(e:q.Perm p):OkQ n q:=⟨h.1.perm e,e.trans h.2⟩
theorem OkQ.rev{n:Nat}{p:Array Nat}(h:OkQ n p)(i j:Nat):OkQ n (kas_rev p i j):=h.perm (mirror_perm _ _ _ _)
theorem OkQ.bub{n:Nat}{p:Array Nat}(h:OkQ n p)(i j:Nat):OkQ n (bubble p i j):=h.perm (bubble_perm _ _ _)
section
variable{n:Nat}
theorem postQ_asc(hn:0<n){p:Array Nat}(hp:OkQ n p):∀(f m:Nat),PostT n (fun _=>True) (kas_asc p f m)
 | 0,m=>trivial
 | f+1,m=>⟨hp.get hn _,hp.get hn _,fun b=>by
   cases b with
   | true=>exact trivial
   | false=>exact postQ_asc hn hp f (m+1)⟩
theorem postQ_desc(hn:0<n):∀(f:Nat) (p:Array Nat) (m q:Nat),OkQ n p->PostT n (fun r:Array Nat×Nat×Nat=>OkQ n r.1) (kas_desc f p m q)
 | 0,p,m,q,hp=>hp
 | f+1,p,m,q,hp=>⟨hp.get hn _,hp.get hn _,fun b=>by
   cases b with
   | true=>
    show PostT n _ (if q>0 then _ else _)
    split
    .exact postQ_desc hn f _ _ _ (hp.rev _ _)
    .exact postQ_desc hn f _ _ _ hp
   | false=>
    refine⟨hp.get hn _,hp.get hn _,fun b=>?_⟩
    cases b with
    | true=>exact hp
    | false=>exact postQ_desc hn f _ _ _ hp⟩
theorem postQ_tail3(hn:0<n){m r:Nat}{p:Array Nat}(hp:OkQ n p):PostT n (fun r:Nat×Array Nat=>OkQ n r.2) (kas_tail3 m r p):=
 PostT.bind (postQ_asc hn (hp.rev _ _) _ _) fun _ _=>hp.rev _ _
theorem postQ_descPart(hn:0<n){m r:Nat}{p:Array Nat}(hp:OkQ n p):PostT n (fun r:Nat×Array Nat=>OkQ n r.2) (kas_descPart m r p):=
 PostT.bind (postQ_desc hn _ _ _ _ hp) fun a ha=>by
  split
  .exact postQ_tail3 hn (ha.rev _ _)
  .exact postQ_tail3 hn ha
theorem postQ_count(hn:0<n){r:Nat}{p:Array Nat}(hp:OkQ n p):PostT n (fun r:Nat×Array Nat=>OkQ n r.2) (kas_count r p):=
 PostT.bind (postQ_asc hn hp _ _) fun a _=>by
  split
  .exact hp
  .split
   .refine⟨hp.get hn _,hp.get hn _,fun b=>?_⟩
    cases b with
    | true=>exact hp
    | false=>exact postQ_descPart hn (hp.rev _ _)
   .exact postQ_descPart hn hp
theorem postQ_place(hn:0<n){p:Array Nat}(hp:OkQ n p)(k:Nat):∀(f l r:Nat),PostT n (fun _=>True) (kas_place p k f l r)
 | 0,l,r=>trivial
 | f+1,l,r=>by
  unfold kas_place
  split
  .exact trivial
  .refine⟨hp.get hn _,hp.get hn _,fun b=>?_⟩
   cases b with
   | true=>exact postQ_place hn hp k f _ _
   | false=>exact postQ_place hn hp k f _ _
theorem postQ_bin(hn:0<n):∀(f:Nat) (p:Array Nat) (k:Nat),OkQ n p->PostT n (OkQ n) (kas_bin f p k)
 | 0,p,k,hp=>hp
 | f+1,p,k,hp=>PostT.bind (postQ_place hn hp k _ _ _) fun l _=>postQ_bin hn f _ _ (hp.bub _ _)
theorem postQ_sort(hn:0<n):PostT n (OkQ n) (kas_sort n):=by
 have h0:OkQ n (List.toArray (List.range n)):=⟨⟨by simp,fun x hx=>by simpa using hx⟩,.refl _⟩
 refine PostT.bind (postQ_count hn h0) fun a ha=>?_
 split
 .exact postQ_bin hn _ _ _ ha
 .exact ha
end
theorem srt_perm(lt:Nat->Nat->Bool)(n:Nat):(srt lt n).Perm (List.range n):=by
 unfold srt
 split
 .exact .refl _
 .have h:=(PostT.run lt (postQ_sort (n:=n) (by omega))).2
  simpa using h.toList
theorem srt_up{lt:Nat->Nat->Bool}(o:Ord lt)(n:Nat){i j:Nat}(h1:i<=j)(h2:j<n):lt ((srt lt n).getD j 0) ((srt lt n).getD i 0)=false:=by
 unfold srt
 split
 .have e1:i=0:=by omega
  have e2:j=0:=by omega
  rw[e1,e2];exact o.irr _
 .have h:=(run_sort o (N:=n) (by omega)).2 i j h1 h2
  have e:∀k,(runT lt (kas_sort n)).toList.getD k 0=(runT lt (kas_sort n)).getD k 0:=fun k=>by
   rw[Array.getD_eq_getD_getElem?,List.getD_eq_getElem?_getD];simp
  rw[e,e]
  exact h
end
theorem map_range_getD(ds:List PyData):((List.range ds.length).map fun i=>ds.getD i .none)=ds:=by
 apply List.ext_getElem
 .simp
 .intro i h1 h2
  simp[List.getD,h2]
theorem sortD_perm(ds:List PyData):(sortD ds).Perm ds:=by
 have h:=(srt_perm (ltAtD ds) ds.length).map fun i=>ds.getD i .none
 rw[map_range_getD]at h
 exact h
end L3
namespace L3
open PySem PySem.Spec PyProof.Rows
section
variable{prog:Program}{w:World}{A:Around}{E:Value->Shared->Prop}{s:Shared}
theorem max_list0{l:Addr}{vs:List Value}{ns:List Int}{Q:Value->Shared->Prop}(hh:A.handled=none)(hl:s.heap.IsList l vs.toArray)(hi:IntsAre vs ns)(hne:0<ns.length)
  (h:∀h' M (t:Tok) tk,(∀b o,s.heap.get? b=some o->h'.get? b=some o)->M∈ns->(∀a,a∈ns->a<=M)->Q (.int M t) {s with heap:=h',toks:=tk}) :
  wpAny (model prog w) A (call (.builtin "max") [.ref l]) Q E s:=by
 obtain⟨xs,e⟩:=hi.allInts.items
 have hns:ns=xs.toList.map (·.1):=by rw[<-hi.numsOf,<-nums_intItems,<-e]
 have hsz:0<xs.size:=by
  have h3:=hne;rw[hns,List.length_map,Array.length_toList]at h3;exact h3
 rw[e]at hl
 refine max_intList hh hl hsz fun v h' tk hv hk=>?_
 obtain⟨t,rfl⟩:=intItems_at hv
 obtain⟨h1,h2⟩:=argBest_gt (numAt xs) (xs.size-1)
 refine h _ _ t tk hk ?_ fun a ha=>?_
 .rw[hns,numAt_eq];exact getD_mem (by rw[List.length_map,Array.length_toList];omega)
 .rw[hns]at ha
  obtain⟨j,hj,rfl⟩:=mem_getD ha
  rw[List.length_map,Array.length_toList]at hj
  rw[<-numAt_eq];exact h2 j (by omega)
end
end L3
namespace L3
end L3
namespace L3
open PySem PySem.Spec PyProof.Rows L2
section
variable{X:Cx}{x:Str}{p pos kpos:Pos}{e e2:Expr}{es:List Expr}{t tk:TA}{te:TE}
def rMax:List V->Hp->VK->Prop:=fun xs H Q=>∃q,∃ns:List Int,xs=[.ref q]/\H q=some (.lst (ns.map V.int))/\0<ns.length/\∀M,M∈ns->(∀a∈ns,a<=M)->Q (.int M) H
theorem call_maxL(hc:X.calm=true):CallR X (.builtin "max") rMax:=by
 intro pins s σ H xs us Q I r h
 obtain⟨q,ns,rfl,hq,hn,h⟩:=h
 obtain⟨u,rfl,r1⟩:=vals1 r
 cases (show u=Value.ref q from r1)
 obtain⟨its,rv,pl,hz⟩:=I.list (SqL.of (K:=X.K) hq)
 exact max_list0 (I.ok.hd hc) pl.isList (intsAre_of rv) hn fun h' M t tk k h1 h2=>⟨.int M,H,I.kept k,⟨_,rfl⟩,h M h1 h2⟩
end
def maxI:List Int->Int
 | []=>0
 | [a]=>a
 | a::b::r=>if maxI (b::r)<=a then a else maxI (b::r)
theorem maxI_mem:∀{ns:List Int},0<ns.length->maxI ns∈ns
 | [],h=>by simp at h
 | [a],_=>by simp[maxI]
 | a::b::r,_=>by
  unfold maxI
  split
  .exact List.mem_cons_self
  .exact List.mem_cons_of_mem _ (maxI_mem (by simp))
theorem le_maxI:∀{ns:List Int},∀a∈ns,a<=maxI ns
 | [],a,h=>by cases h
 | [a],b,h=>by
  have e:b=a:=by simpa using h
  rw[e];exact Int.le_refl _
 | a::b::r,x,h=>by
  unfold maxI
  rcases List.mem_cons.mp h with e|h
  .rw[e]
   split
   .exact Int.le_refl _
   .omega
  .have:=le_maxI (ns:=b::r) x h
   split
   .omega
   .exact this
theorem maxI_eq{ns:List Int}{M:Int}(h1:M∈ns)(h2:∀a∈ns,a<=M):M=maxI ns:=by
 have hp:0<ns.length:=List.length_pos_of_mem h1
 have a1:=h2 _ (maxI_mem hp)
 have a2:=le_maxI M h1
 omega
def mir1(m:Int):PyData->PyData
 | .tuple [.int r,.int c,.str x]=>.tuple [.int r,.int (m-c),.str x]
 | d=>d
def tur1(m:Int):PyData->PyData
 | .tuple [.int r,.int c,.str x]=>.tuple [.int c,.int (m-r),.str x]
 | d=>d
def mirD(ds:List PyData):List PyData:=ds.map (mir1 (maxI (ds.map col1)))
def turD(ds:List PyData):List PyData:=ds.map (tur1 (maxI (ds.map row1)))
def spotsD(t:Nat)(ds:List PyData):List PyData:=(List.range (t % 4)).foldl (fun a _=>turD a) (if 4<=t then mirD ds else ds)
theorem mir_spots{ds:List PyData}(h:Spots ds)(m:Int):Spots (ds.map (mir1 m)):=fun d hd=>by
 obtain⟨e,he,rfl⟩:=List.mem_map.mp hd
 obtain⟨r,c,x,rfl⟩:=h e he
 exact⟨_,_,_,rfl⟩
theorem tur_spots{ds:List PyData}(h:Spots ds)(m:Int):Spots (ds.map (tur1 m)):=fun d hd=>by
 obtain⟨e,he,rfl⟩:=List.mem_map.mp hd
 obtain⟨r,c,x,rfl⟩:=h e he
 exact⟨_,_,_,rfl⟩
theorem spots_rows{ds:List PyData}(h:Spots ds):Rows [true,false] ds:=fun d hd=>by
 obtain⟨r,c,x,rfl⟩:=h d hd
 exact⟨_,rfl,_,_,rfl,_,_,rfl,_,_,rfl,rfl⟩
section
variable{K:PySem.W.Frag}{a:Addr}{xs:List V}{ds:List PyData}{σ:L2.St}{H:Hp}{Q:VK}
theorem read_projI{i0:Nat}(j:Int)(pr:PyData->Int)(hj:∀(r c:Int) (x:Str),atI [V.int r,.int c,.str x] j=some (.int (pr (.tuple [.int r,.int c,.str x]))))
  (hσ:σ[i0]?=some (some (.ref a))) (ha:H a=some (.lst xs)) (hr:RepAll H ds xs) (hs:Spots ds) (hl:ds.length<=64)
  (q:∀D H',Same H H'->H' D=some (.lst ((ds.map pr).map V.int))->Q (.ref D) H') :
  tComp (iList K (tVar i0)) [none] (gName 0) tYes (tOp (rIxT K) (tVar 0) (tC (.int j))) σ H Q:=by
 have hlen:=hr.length
 refine⟨_,hσ,a,rfl,⟨_,SqL.of ha⟩,fun D hD=>?_⟩
 refine comp_list (xs:=xs) (fun i ys H'=>Same H H'/\ys=((ds.take i).map pr).map V.int) ⟨Same.fresh _ hD,rfl⟩ (fun i ys H' p=>SqL.of (p.1 _ _ ha)) (fun i x ys H' hx hi hDy hyl p=>?_) (fun ys H' hDy hyl p=>?_)
 .obtain⟨p1,rfl⟩:=p
  obtain⟨b,r,c,z,rfl,hb,hz,hd⟩:=hs.at hr hx
  refine⟨Agree.set (Agree.refl _) rfl,?_⟩
  dsimp only[tYes]
  refine iteT ?_
  refine⟨_,rfl,b,_,_,_,rfl,rfl,SqT.of (p1 _ _ hb),hj r c z,nx_put (by omega) hDy hyl ⟨p1.new hD,?_⟩⟩
  rw[map_take_succ pr hd,List.map_append]
  rfl
 .obtain⟨p1,rfl⟩:=p
  refine q D H' p1 ?_
  rw[hDy,List.take_of_length_le (by omega)]
theorem row_at(r c:Int)(x:Str):atI [V.int r,.int c,.str x] 0=some (.int (row1 (.tuple [.int r,.int c,.str x]))):=rfl
theorem col_at(r c:Int)(x:Str):atI [V.int r,.int c,.str x] 1=some (.int (col1 (.tuple [.int r,.int c,.str x]))):=rfl
theorem read_each{m:Int}{i0 j:Nat}{ta tb:TE}(f:Int->PyData->PyData)(hσ:σ[i0]?=some (some (.ref a)))(h1:σ[j]?=some (some (.int m)))(ha:H a=some (.lst xs))(hr:RepAll H ds xs)(hs:Spots ds)(hl:ds.length<=64)
  (hread:∀(r c:Int) (z:Str) (H':Hp) (Q':VK),(∃u v:Int,f m (.tuple [.int r,.int c,.str z])=.tuple [.int u,.int v,.str z]/\∀n,H' n=none->Q' (.ref n) (upd H' n (.tup [.int u,.int v,.str z])))->
   tTup (tCons ta (tCons tb (tCons (tVar 2) tNil))) [some (.int r),some (.int c),some (.str z),some (.int m)] H' Q')
  (q:∀D ys H',H D=none->Same H H'->H' D=some (.lst ys)->RepAll H' (ds.map (f m)) ys->Q (.ref D) H')
  (hsp:∀(r c:Int) (z:Str),∃u v:Int,f m (.tuple [.int r,.int c,.str z])=.tuple [.int u,.int v,.str z]) :
  tComp (iList K (tVar i0)) [none,none,none,some j] (gTup K 3 (gCons (gName 0) (gCons (gName 1) (gCons (gName 2) gNil)))) tYes (tTup (tCons ta (tCons tb (tCons (tVar 2) tNil)))) σ H Q:=by
 have hlen:=hr.length
 refine⟨_,hσ,a,rfl,⟨_,SqL.of ha⟩,fun D hD=>?_⟩
 have hp:picks [none,none,none,some j] σ=[none,none,none,some (.int m)]:=by
  unfold picks
  simp[h1]
 have im:∀es:List PyData,(∀d∈es,d∈ds)->Spots (es.map (f m)):=fun es he d hd=>by
  obtain⟨d0,h0,rfl⟩:=List.mem_map.mp hd
  obtain⟨r0,c0,x0,rfl⟩:=hs d0 (he d0 h0)
  obtain⟨u,v,e⟩:=hsp r0 c0 x0
  exact⟨u,v,x0,e⟩
 refine comp_list (xs:=xs) (fun i ys H'=>Same H H'/\RepAll H' ((ds.take i).map (f m)) ys) ⟨Same.fresh _ hD,rfl⟩ (fun i ys H' p=>SqL.of (p.1 _ _ ha)) (fun i x ys H' hx hi hDy hyl p=>?_) (fun ys H' hDy hyl p=>?_)
 .obtain⟨p1,p2⟩:=p
  obtain⟨b,r,c,z,rfl,hb,hz,hd⟩:=hs.at hr hx
  rw[hp]
  refine⟨b,_,rfl,SqT.of (p1 _ _ hb),rfl,_,_,rfl,_,_,rfl,_,_,rfl,rfl,?_⟩
  refine⟨Agree.set (Agree.set (Agree.set (Agree.refl _) rfl) rfl) rfl,?_⟩
  dsimp only[tYes]
  refine iteT ?_
  obtain⟨u,v,ef⟩:=hsp r c z
  refine hread r c z H' _ ⟨u,v,ef,fun n hn=>?_⟩
  have s2:Same H' (upd H' n (.tup [.int u,.int v,.str z])):=Same.fresh _ hn
  have n2:upd H' n (.tup [.int u,.int v,.str z]) n=some (.tup [.int u,.int v,.str z]):=upd_same
  generalize upd H' n (.tup [.int u,.int v,.str z])=H2 at *
  have hD2:=s2 _ _ hDy
  refine nx_put (by omega) hD2 hyl ⟨(p1.trans s2).new hD,?_⟩
  have rep:RepAll H2 ((ds.take i).map (f m)++[f m (.tuple [.int r,.int c,.str z])]) (ys++[.ref n]):=by
   rw[ef]
   exact(p2.same s2).snoc (spot_rep n2 hz)
  rw[<-map_take_succ (f m) hd]at rep
  exact rep.tk (Tk.lst hD2) (Spots.imm (im _ fun d hd'=>List.mem_of_mem_take hd'))
 .obtain⟨p1,p2⟩:=p
  rw[List.take_of_length_le (by omega)]at p2
  exact q D ys H' hD p1 hDy p2
end
end L3
namespace L3
open PySem PySem.W PySem.Calls PyProof.Rows
theorem zip_two{vs:List Value}{p:Keyed}(h:p∈(vs.toArray.zip vs.toArray).toList):p.1=p.2/\p.1∈vs:=mem_zip_self (by simpa using h)
theorem out_perm{vs:List Value}{arr:Array Keyed}(h:arr.Perm (vs.toArray.zip vs.toArray)):(arr.map (·.2)).toList.Perm vs:=by
 have h1:=(Array.perm_iff_toList_perm.mp h).map (·.2)
 have e:(vs.toArray.zip vs.toArray).toList.map (·.2)=vs:=by
  rw[show(vs.toArray.zip vs.toArray).toList=vs.zip vs by simp]
  exact List.map_snd_zip (Nat.le_refl _)
 rw[e]at h1
 rw[Array.toList_map]
 exact h1
theorem out_up{g:Value->Int}{vs:List Value}{arr:Array Keyed}(h:arr.Perm (vs.toArray.zip vs.toArray))(hs:Seg (fun p=>g p.1) arr 0 (vs.toArray.zip vs.toArray).size):(arr.map (·.2)).toList.Pairwise fun x y=>g x<=g y:=by
 have hsz:=h.size_eq
 rw[Array.toList_map,List.pairwise_map]
 refine List.pairwise_iff_getElem.mpr fun i j hi hj hij=>?_
 have hi':i<arr.size:=by simpa using hi
 have hj':j<arr.size:=by simpa using hj
 have q:=hs i j (Nat.zero_le _) (by omega) (by omega)
 rw[Fk_some (getElem?_pos arr i hi'),Fk_some (getElem?_pos arr j hj')]at q
 have two:∀k (hk:k<arr.size),arr[k].1=arr[k].2:=fun k hk=>(zip_two ((Array.perm_iff_toList_perm.mp h).mem_iff.mp (by simp))).1
 rw[two i hi',two j hj']at q
 simpa using q
section
variable{prog:Program}{w:World}{A:Around}{E:Value->Shared->Prop}{s:Shared}
theorem list_sort_any{a:Addr}{vs:List Value}{n:Nat}{κ:SortKind}{g:Value->Int}{P:PySem.Fin->Shared->Prop}(ho:s.heap.get? a=some (seqObj "list" vs.toArray n))(hz:vs.length<=sizeLine)
  (hk:2<=vs.length->∀s':Shared,(∀b o,b≠a->s.heap.get? b=some o->s'.heap.get? b=some o)->
   (∀(Q:SortKind->Shared->Prop) (E:Value->Shared->Prop),Q κ s'->wpAny (model prog w) A (keyKind' vs.toArray) Q E s')/\
   ∀x y,x∈vs->y∈vs->∀(Q:Bool->Shared->Prop),Q (decide (g x<g y)) s'->wpAny (model prog w) A (keyLt' κ x y) Q (fun _ _=>False) s')
  (h:∀us:List Value,us.Perm vs->us.Pairwise (fun x y=>g x<=g y)->P (.done (.ret .none)) {s with heap:=sortedHeap s.heap a vs us.toArray}) :
  wpAny (model prog w) A (Builtin.«list.sort» ⟨[.ref a],[]⟩) P E s:=by
 have ha:a<s.heap.objs.size:=Heap.lt_size ho
 obtain⟨e1,ho1⟩:∃e1,(s.heap.update a (Obj.mapSeq fun _=>(#[]:Array Value))).get? a=some (seqObj "list" #[] e1):=⟨_,get?_update_seq ho fun _=>#[]⟩
 have ho6:(((s.heap.update a (Obj.mapSeq fun _=>(#[]:Array Value))).push (seqObj "tuple" vs.toArray 0)).push (seqObj "list" #[] 0)).get? a=some (seqObj "list" #[] e1):=
  Heap.get?_push_of_some _ (Heap.get?_push_of_some _ ho1)
 have kept:∀b o,b≠a->s.heap.get? b=some o->(((s.heap.update a (Obj.mapSeq fun _=>(#[]:Array Value))).push (seqObj "tuple" vs.toArray 0)).push (seqObj "list" #[] 0)).get? b=some o:=fun b o hb e=>
  Heap.get?_push_of_some _ (Heap.get?_push_of_some _ ((Heap.get?_update_other s.heap _ (Ne.symm hb)).trans e))
 rw[list_sort_plain]
 refine wpAny_bind (listItems_at ho rfl ?_)
 refine wpAny_bind (listUpdate_at ho rfl ?_ (by rw[List.size_toArray];exact hz) (Nat.zero_le _))
 refine wpAny_bind (seqEpoch_at ho1 rfl ?_)
 refine wpAny_bind (wpAny_newTuple ?_ (by show vs.length<=_;exact hz))
 refine wpAny_bind (wpAny_newList ?_ (Nat.zero_le _))
 refine wpAny_holding ?_
 show wpAny (model prog w) A _ P E {s with heap:=((s.heap.update a (Obj.mapSeq fun _=>(#[]:Array Value))).push (seqObj "tuple" vs.toArray 0)).push (seqObj "list" #[] 0)}
 dsimp only
 have rest:∀(st':SortSt),(arrOf st').Perm (vs.toArray.zip vs.toArray)->failedOf st'=none->Seg (fun p=>g p.1) (arrOf st') 0 (vs.toArray.zip vs.toArray).size->∃us:List Value,us.Perm vs/\us.Pairwise (fun x y=>g x<=g y)/\(arrOf st').map (·.2)=us.toArray:=fun st' hp hf hs=>
  ⟨_,out_perm hp,out_up hp hs,Array.toArray_toList.symm⟩
 by_cases h2:vs.toArray.size<2
 .have h2':vs.length<2:=by simpa using h2
  rw[if_pos h2,if_pos h2]
  refine wpAny_bind (wpAny_pure ?_)
  rw[StateT.run_pure]
  refine wpAny_bind (wpAny_pure ?_)
  dsimp only
  obtain⟨us,u1,u2,e0⟩:=rest (SortSt.mk' general' (vs.toArray.zip vs.toArray) #[] 7 none) (Array.Perm.refl _) rfl (fun i j hi hij hj=>by
   have hz2:(vs.toArray.zip vs.toArray).size=vs.length:=by simp
   obtain rfl:i=j:=by omega
   exact Int.le_refl _)
  have hul:=u1.length_eq
  rw[e0]
  refine wpAny_bind (seqEpoch_at ho6 rfl ?_)
  refine wpAny_bind (listUpdate_at ho6 rfl ?_ (Nat.zero_le _) (by rw[List.size_toArray,hul];exact Nat.le_succ_of_le hz))
  simp only[bne_self_eq_false,Bool.false_eq_true,if_false]
  exact wpAny_pure (h us u1 u2)
 .have h2':2<=vs.length:=by have:¬vs.length<2:=by simpa using h2
                            omega
  rw[if_neg h2,if_neg h2]
  obtain⟨k1,k2⟩:=hk h2' {s with heap:=((s.heap.update a (Obj.mapSeq fun _=>(#[]:Array Value))).push (seqObj "tuple" vs.toArray 0)).push (seqObj "list" #[] 0)} kept
  refine wpAny_bind (k1 _ _ ?_)
  refine wpAny_bind (wpAny_mono (wpS_sortAll (E:=E) (κ:=κ) (a₀:=vs.toArray.zip vs.toArray) (f:=fun p=>g p.1) (mem:=fun p=>p.1∈vs) (Q:=fun _ st'=>∃us:List Value,us.Perm vs/\us.Pairwise (fun x y=>g x<=g y)/\(arrOf st').map (·.2)=us.toArray/\failedOf st'=none)
   (fun x y hx hy Q hq=>k2 x.1 y.1 hx hy Q hq) (fun x hx=>(zip_two hx).2) ⟨Array.Perm.refl _,rfl,rfl⟩ rfl (fun st' B hs=>?_)) ?_ fun _ _ e=>e)
  .obtain⟨us,u1,u2,e0⟩:=rest st' B.perm B.failed hs
   exact⟨us,u1,u2,e0,B.failed⟩
  .rintro⟨⟨⟩,st'⟩ s' ⟨rfl,us,u1,u2,hout,hf⟩
   have hul:=u1.length_eq
   dsimp only at hout hf⊢
   rw[hout]
   refine wpAny_bind (seqEpoch_at ho6 rfl ?_)
   refine wpAny_bind (listUpdate_at ho6 rfl ?_ (Nat.zero_le _) (by rw[List.size_toArray,hul];exact Nat.le_succ_of_le hz))
   rw[hf]
   simp only[bne_self_eq_false,Bool.false_eq_true,if_false]
   exact wpAny_pure (h us u1 u2)
theorem sorted_any{l:Addr}{vs:List Value}{κ:SortKind}{g:Value->Int}{Q:Value->Shared->Prop}(hl:s.heap.IsList l vs.toArray)(hz:vs.length<=sizeLine)
  (hk:2<=vs.length->∀s':Shared,(∀b o,s.heap.get? b=some o->s'.heap.get? b=some o)->
   (∀(Q:SortKind->Shared->Prop) (E:Value->Shared->Prop),Q κ s'->wpAny (model prog w) A.in1.in1 (keyKind' vs.toArray) Q E s')/\
   ∀x y,x∈vs->y∈vs->∀(Q:Bool->Shared->Prop),Q (decide (g x<g y)) s'->wpAny (model prog w) A.in1.in1 (keyLt' κ x y) Q (fun _ _=>False) s')
  (h:∀us:List Value,us.Perm vs->us.Pairwise (fun x y=>g x<=g y)->Q (.ref (s.heap.objs.size+1)) {s with heap:=sortedAll s.heap vs us.toArray}) :
  wpAny (model prog w) A (call (.builtin "sorted") [.ref l]) Q E s:=by
 refine Calls.call_function_entry kind_sorted plain_sorted entry_sorted (args_sorted1 _) ?_
 unfold Builtin.«sorted»
 refine wpAny_bind (m:=checkCount "sorted" 1 1 _) (wpAny_pure ?_)
 refine wpAny_bind (collect_list hl ?_ hz)
 refine wpAny_bind (wpAny_newList ?_ hz)
 have hsz:((s.heap.push (seqObj "list" #[] 0)).update s.heap.objs.size (Obj.mapSeq (· ++ vs.toArray))).objs.size=s.heap.objs.size+1:=by
  rw[Heap.size_update,size_push']
 have hoL:(((s.heap.push (seqObj "list" #[] 0)).update s.heap.objs.size (Obj.mapSeq (· ++ vs.toArray))).push (seqObj "list" vs.toArray 0)).get? (s.heap.objs.size+1)=some (seqObj "list" vs.toArray 0):=by
  rw[<-hsz];exact Heap.get?_push_size _ rfl
 have keep:∀b o,s.heap.get? b=some o->(((s.heap.push (seqObj "list" #[] 0)).update s.heap.objs.size (Obj.mapSeq (· ++ vs.toArray))).push (seqObj "list" vs.toArray 0)).get? b=some o:=fun b o q=>by
  have hlt:b<s.heap.objs.size:=Heap.lt_size q
  exact Heap.get?_push_of_some _ ((Heap.get?_update_other _ _ (Ne.symm (Nat.ne_of_lt hlt))).trans (Heap.get?_push_of_some _ q))
 show wpAny _ _ _ _ _ {s with heap:=((s.heap.push (seqObj "list" #[] 0)).update s.heap.objs.size (Obj.mapSeq (· ++ vs.toArray))).push (seqObj "list" vs.toArray 0)}
 rw[hsz]
 refine wpAny_bind (wpAny_holding (wpAny_call_entry slot_list_sort ⟨_,hoL,rfl⟩ entry_list_sort ?body (args_list_sort _)))
 case body=>
  refine list_sort_any (κ:=κ) (g:=g) hoL hz (fun h2 s' k=>hk h2 s' fun b o e=>k b o (Nat.ne_of_lt (Nat.lt_succ_of_lt (Heap.lt_size e))) (keep b o e)) fun us u1 u2=>?_
  exact⟨_,rfl,wpAny_pure ⟨_,rfl,h us u1 u2⟩⟩
end
end L3
namespace L3
open PySem PySem.Spec PyProof.Rows L2
theorem perm_lift{α β:Type}(g:α->β){us vs:List β}(p:us.Perm vs):∀{l:List α},l.map g=vs->∃l':List α,l'.Perm l/\l'.map g=us:=by
 induction p with
 | nil=>intro l e;exact⟨l,List.Perm.refl _,e⟩
 | cons x p ih=>
  intro l e
  match l,e with
  | a::l,e=>
   rw[List.map_cons]at e
   obtain⟨e1,e2⟩:=List.cons.inj e
   obtain⟨l',p1,e3⟩:=ih e2
   exact⟨a::l',p1.cons a,by rw[List.map_cons,e1,e3]⟩
 | swap x y r=>
  intro l e
  match l,e with
  | a::b::l,e=>
   rw[List.map_cons,List.map_cons]at e
   obtain⟨e1,e'⟩:=List.cons.inj e
   obtain⟨e2,e3⟩:=List.cons.inj e'
   exact⟨b::a::l,List.Perm.swap _ _ _,by rw[List.map_cons,List.map_cons,e1,e2,e3]⟩
 | trans p q ih1 ih2=>
  intro l e
  obtain⟨l1,p1,e1⟩:=ih2 e
  obtain⟨l2,p2,e2⟩:=ih1 e1
  exact⟨l2,p2.trans p1,e2⟩
theorem countP_less{α:Type}{p q:α->Bool}:∀{l:List α},(∀e∈l,p e=true->q e=true)->(∃e∈l,q e=true/\p e=false)->l.countP p<l.countP q
 | [],_,⟨e,he,_⟩=>by simp at he
 | a::l,h,⟨e,he,h1,h2⟩=>by
  have hl:∀e∈l,p e=true->q e=true:=fun e he=>h e (List.mem_cons_of_mem _ he)
  have mono:l.countP p<=l.countP q:=List.countP_mono_left hl
  rcases List.mem_cons.mp he with rfl|he
  .rw[List.countP_cons_of_neg (by simp[h2]),List.countP_cons_of_pos h1]
   omega
  .have ih:=countP_less hl ⟨e,he,h1,h2⟩
   cases hp:p a with
   | true=>rw[List.countP_cons_of_pos hp,List.countP_cons_of_pos (h a List.mem_cons_self hp)];omega
   | false=>
    rw[List.countP_cons_of_neg (by simp[hp])]
    have:=List.countP_le_length (p:=q) (l:=l)
    cases hq:q a with
    | true=>rw[List.countP_cons_of_pos hq];omega
    | false=>rw[List.countP_cons_of_neg (by simp[hq])];exact ih
structure OrdD(lt:PyData->PyData->Bool)(ds:List PyData):Prop where
 asy:∀x∈ds,∀y∈ds,lt x y=true->lt y x=false
 tr:∀x∈ds,∀y∈ds,∀z∈ds,lt y x=false->lt z y=false->lt z x=false
def rankD(lt:PyData->PyData->Bool)(ds:List PyData)(d:PyData):Int:=((ds.countP fun e=>lt e d:Nat):Int)
theorem rank_lt{lt:PyData->PyData->Bool}{ds:List PyData}(o:OrdD lt ds){d e:PyData}(hd:d∈ds)(he:e∈ds):decide (rankD lt ds d<rankD lt ds e)=lt d e:=by
 have irr:∀x∈ds,lt x x=false:=fun x hx=>by
  cases q:lt x x with
  | false=>rfl
  | true=>have:=o.asy x hx x hx q;rw[q]at this;exact this
 unfold rankD
 cases h:lt d e with
 | true=>
  refine decide_eq_true ?_
  have:=countP_less (p:=fun z=>lt z d) (q:=fun z=>lt z e) (l:=ds) (fun z hz h1=>?_) ⟨d,hd,h,irr d hd⟩
  .omega
  .show lt z e=true
   cases q:lt z e with
   | true=>rfl
   | false=>rw[o.tr d hd e he z hz (o.asy d hd e he h) q]at h1;exact h1
 | false=>
  refine decide_eq_false ?_
  have:=List.countP_mono_left (p:=fun z=>lt z e) (q:=fun z=>lt z d) (l:=ds) fun z hz h1=>?_
  .omega
  .show lt z d=true
   cases q:lt z d with
   | true=>rfl
   | false=>rw[o.tr e he d hd z hz h q]at h1;exact h1
theorem repAll_map{α:Type}{H:Hp}{f:α->PyData}{g:α->V}:∀{l:List α},(∀t∈l,Rep H (f t) (g t))->RepAll H (l.map f) (l.map g)
 | [],_=>rfl
 | t::l,h=>⟨_,_,rfl,h t List.mem_cons_self,repAll_map fun t ht=>h t (List.mem_cons_of_mem _ ht)⟩
theorem vals_map{α:Type}{f:α->V}{g:α->Value}:∀{l:List α},(∀t∈l,RelV (f t) (g t))->Vals (l.map f) (l.map g)
 | [],_=>.nil
 | t::l,h=>.cons (h t List.mem_cons_self) (vals_map fun t ht=>h t (List.mem_cons_of_mem _ ht))
section
variable{X:Cx}{pins:List (Addr×Obj)}{σ:L2.St}{H:Hp}{s:Shared}{A:Around}{E:Value->Shared->Prop}
open Classical in
theorem sorted_data(I:Inv X pins σ H s){p:Addr}{ds:List PyData}{xs:List V}{its:List Value}{κ:SortKind}{lt:PyData->PyData->Bool}{Q:V->Hp->Prop}(hp:H p=some (.lst xs))(hds:RepAll H ds xs)(rv:Vals xs its)(pl:s.heap.IsList p its.toArray)(hz:xs.length<=sizeLine)(o:OrdD lt ds)
  (hk:2<=its.length->∀s':Shared,(∀b o,s.heap.get? b=some o->s'.heap.get? b=some o)->∀(Q:SortKind->Shared->Prop) (E:Value->Shared->Prop),Q κ s'->wpAny (model X.prog X.w) A.in1.in1 (keyKind' its.toArray) Q E s')
  (hc:∀s':Shared,(∀b o,s.heap.get? b=some o->s'.heap.get? b=some o)->∀(i j:Nat) (d e:PyData) (u v:Value),ds[i]?=some d->its[i]?=some u->ds[j]?=some e->its[j]?=some v->∀(Q:Bool->Shared->Prop),Q (lt d e) s'->wpAny (model X.prog X.w) A.in1.in1 (keyLt' κ u v) Q (fun _ _=>False) s')
  (q:∀l ys es,H l=none->es.Perm ds->es.Pairwise (fun x y=>lt y x=false)->RepAll (upd H l (.lst ys)) es ys->Q (.ref l) (upd H l (.lst ys))) :
  wpAny (model X.prog X.w) A (call (.builtin "sorted") [.ref p]) (fun u s'=>∃v H',Inv X pins σ H' s'/\RelV v u/\Q v H') E s:=by
 have l1:xs.length=ds.length:=hds.length
 have l2:xs.length=its.length:=rv.length
 obtain⟨g,hg⟩:∃g:Value->Int,∀(i:Nat) (d:PyData) (u:Value),ds[i]?=some d->its[i]?=some u->g u=rankD lt ds d:=by
  refine⟨fun u=>if h:∃d,∃as,Reads s.heap u d as/\d∈ds then rankD lt ds h.choose else 0,fun i d u h1 h2=>?_⟩
  obtain⟨x,e1,r1⟩:=hds.get h1
  obtain⟨u',e2,r2⟩:=rv.get e1
  rw[h2]at e2;cases e2
  obtain⟨as,rd⟩:=r1.reads I r2
  have hx:∃d,∃as,Reads s.heap u d as/\d∈ds:=⟨d,as,rd,List.mem_of_getElem? h1⟩
  show(if h:∃d,∃as,Reads s.heap u d as/\d∈ds then rankD lt ds h.choose else 0)=_
  rw[dif_pos hx]
  obtain⟨bs,rb,_⟩:=hx.choose_spec
  rw[SeqAt.Reads.unique d hx.choose u as bs r1.lay rd rb]
 refine sorted_any (κ:=κ) (g:=g) pl (by omega) (fun h2 s' k=>⟨hk h2 s' k,fun x y hx hy Q' hq=>?_⟩) fun us u1 u2=>?_
 .obtain⟨i,hi⟩:=List.mem_iff_getElem?.mp hx
  obtain⟨j,hj⟩:=List.mem_iff_getElem?.mp hy
  have hi':i<ds.length:=by have:=(List.getElem?_eq_some_iff.mp hi).1;omega
  have hj':j<ds.length:=by have:=(List.getElem?_eq_some_iff.mp hj).1;omega
  have di:=List.getElem?_eq_getElem hi'
  have dj:=List.getElem?_eq_getElem hj'
  rw[hg i _ x di hi,hg j _ y dj hj,rank_lt o (List.getElem_mem hi') (List.getElem_mem hj')]at hq
  exact hc s' k i j _ _ x y di hi dj hj Q' hq
 .have third:(ds.zip (xs.zip its)).map (fun t=>t.2.2)=its:=by
   have:(ds.zip (xs.zip its)).map (fun t=>t.2.2)=((ds.zip (xs.zip its)).map Prod.snd).map Prod.snd:=by rw[List.map_map];rfl
   rw[this,List.map_snd_zip (by rw[List.length_zip];omega),List.map_snd_zip (by omega)]
  have first:(ds.zip (xs.zip its)).map (fun t=>t.1)=ds:=List.map_fst_zip (by rw[List.length_zip];omega)
  obtain⟨T,tp,te⟩:=perm_lift (fun t:PyData×V×Value=>t.2.2) u1 third
  have tm:∀t∈T,∃i:Nat,ds[i]?=some t.1/\xs[i]?=some t.2.1/\its[i]?=some t.2.2:=fun t ht=>by
   obtain⟨i,hi⟩:=List.mem_iff_getElem?.mp (tp.mem_iff.mp ht)
   obtain⟨a1,a2⟩:=List.getElem?_zip_eq_some.mp hi
   obtain⟨a3,a4⟩:=List.getElem?_zip_eq_some.mp a2
   exact⟨i,a1,a3,a4⟩
  have tl:T.length=its.length:=by rw[tp.length_eq];have:=congrArg List.length third;simpa using this
  obtain⟨e,he⟩:=sortedAll_at s.heap its us.toArray
  have hn:H (s.heap.objs.size+1)=none:=I.hok.fresh (Nat.le_succ _)
  have hv:Vals (T.map fun t=>t.2.1) us:=by
   rw[<-te]
   exact vals_map fun t ht=>by
    obtain⟨i,_,a2,a3⟩:=tm t ht
    obtain⟨u,b1,b2⟩:=rv.get a2
    rw[a3]at b1;cases b1
    exact b2
  have hz':(T.map fun t=>t.2.1).length<=sizeLine:=by rw[List.length_map];omega
  have hsame:Same H (upd H (s.heap.objs.size+1) (.lst (T.map fun t=>t.2.1))):=fun b o q=>by rw[upd_ne (ne_of_none q hn)];exact q
  refine⟨.ref (s.heap.objs.size+1),_,I.laid (t':=s.toks) (o:=.lst (T.map fun t=>t.2.1)) (fun b u e=>sortedAll_old e) (Nat.le_succ _) ⟨hz',_,e,hv,he⟩,rfl,q _ _ (T.map fun t=>t.1) hn ?_ ?_ ?_⟩
  .rw[<-first]
   exact tp.map _
  .rw[List.pairwise_map]
   have u3:=u2
   rw[<-te,List.pairwise_map]at u3
   refine List.Pairwise.imp_of_mem (fun{a b} ha hb hab=>?_) u3
   obtain⟨i,a1,_,a3⟩:=tm a ha
   obtain⟨j,b1,_,b3⟩:=tm b hb
   rw[hg i _ _ a1 a3,hg j _ _ b1 b3]at hab
   rw[<-rank_lt o (List.mem_of_getElem? b1) (List.mem_of_getElem? a1)]
   exact decide_eq_false (by omega)
  .refine RepAll.same hsame (repAll_map fun t ht=>?_)
   obtain⟨i,a1,a2,_⟩:=tm t ht
   obtain⟨x,b1,b2⟩:=hds.get a1
   rw[a2]at b1;cases b1
   exact b2
end
end L3
namespace L2
open PySem PySem.Spec PyProof.Rows
section
variable{κ:Type}[DecidableEq κ]
def valV(kvs:List (κ×V))(k:κ):Option V:=(kvs.find? fun kv=>decide (kv.1=k)).map (·.2)
def putK(kvs:List (κ×V))(k:κ)(v:V):List (κ×V):=
 if (kvs.any fun kv=>decide (kv.1=k))=true then kvs.map (fun kv=>if kv.1=k then(kv.1,v)else kv)else kvs++[(k,v)]
theorem valV_pos{p:κ×V}{r:List (κ×V)}{k:κ}(e:p.1=k):valV (p::r) k=some p.2:=by simp[valV,List.find?_cons,e]
theorem valV_neg{p:κ×V}{r:List (κ×V)}{k:κ}(e:¬p.1=k):valV (p::r) k=valV r k:=by simp[valV,List.find?_cons,e]
theorem valV_any(k:κ):∀kvs:List (κ×V),(kvs.any fun kv=>decide (kv.1=k))=(valV kvs k).isSome
 | []=>rfl
 | p::r=>by
  rw[List.any_cons]
  by_cases e:p.1=k
  .simp only[valV_pos e,decide_eq_true e,Bool.true_or,Option.isSome_some]
  .rw[valV_neg e,decide_eq_false e,Bool.false_or];exact valV_any k r
theorem valV_map(k j:κ)(y:V):∀kvs:List (κ×V),valV (kvs.map fun kv=>if kv.1=k then(kv.1,y)else kv) j=(valV kvs j).map fun x=>if j=k then y else x
 | []=>rfl
 | p::r=>by
  have ih:=valV_map k j y r
  rw[List.map_cons]
  by_cases h:p.1=k
  .rw[if_pos h]
   by_cases e:p.1=j
   .rw[valV_pos (p:=(p.1,y)) e,valV_pos e,Option.map_some,if_pos (e.symm.trans h)]
   .rw[valV_neg (p:=(p.1,y)) e,valV_neg e,ih]
  .rw[if_neg h]
   by_cases e:p.1=j
   .rw[valV_pos (p:=p) e,valV_pos e,Option.map_some,if_neg (fun z=>h (e.trans z))]
   .rw[valV_neg (p:=p) e,valV_neg e,ih]
theorem valV_snoc(k j:κ)(y:V):∀kvs:List (κ×V),valV kvs k=none->valV (kvs++[(k,y)]) j=if j=k then some y else valV kvs j
 | [],_=>by
  by_cases e:k=j
  .rw[if_pos e.symm];exact valV_pos (p:=(k,y)) e
  .rw[if_neg (fun z=>e z.symm)];exact valV_neg (p:=(k,y)) e
 | p::r,hn=>by
  rw[List.cons_append]
  have hk:¬p.1=k:=fun z=>by rw[valV_pos z]at hn;cases hn
  rw[valV_neg hk]at hn
  have ih:=valV_snoc k j y r hn
  by_cases e:p.1=j
  .rw[valV_pos e,valV_pos e,if_neg (fun z=>hk (e.trans z))]
  .rw[valV_neg e,valV_neg e,ih]
theorem valV_put(kvs:List (κ×V))(k j:κ)(y:V):valV (putK kvs k y) j=if j=k then some y else valV kvs j:=by
 unfold putK
 by_cases a:(kvs.any fun kv=>decide (kv.1=k))=true
 .rw[if_pos a,valV_map]
  rw[valV_any]at a
  by_cases e:j=k
  .obtain⟨x,hx⟩:=Option.isSome_iff_exists.mp a
   rw[if_pos e,e,hx,Option.map_some,if_pos rfl]
  .rw[if_neg e]
   cases valV kvs j with
   | none=>rfl
   | some x=>rw[Option.map_some,if_neg e]
 .rw[if_neg a]
  refine valV_snoc k j y kvs ?_
  rw[valV_any]at a
  cases q:valV kvs k with
  | none=>rfl
  | some x=>rw[q]at a;exact(a rfl).elim
theorem length_putK(kvs:List (κ×V))(k:κ)(v:V):(putK kvs k v).length<=kvs.length+1:=by
 unfold putK
 split
 .rw[List.length_map];omega
 .rw[List.length_append,List.length_cons,List.length_nil];omega
theorem RelO.isSome_eq{o:Option V}{u:Option Value}(r:RelO o u):o.isSome=u.isSome:=by
 cases o with
 | none=>cases u with
  | none=>rfl
  | some _=>exact(show False from r).elim
 | some _=>cases u with
  | none=>exact(show False from r).elim
  | some _=>rfl
theorem RelO.getD{o:Option V}{u:Option Value}{d:V}{d':Value}(r:RelO o u)(rd:RelV d d'):RelV (o.getD d) (u.getD d'):=by
 cases o with
 | none=>cases u with
  | none=>exact rd
  | some _=>exact(show False from r).elim
 | some _=>cases u with
  | none=>exact(show False from r).elim
  | some _=>exact r
theorem KV.val{kvs:List (κ×V)}{vs:List (κ×Value)}(r:KV kvs vs)(k:κ):RelO (valV kvs k) (valueAt vs k):=by
 unfold KV at r
 induction r with
 | nil=>exact True.intro
 | @cons p q ps qs h t ih=>
  obtain⟨h1,h2⟩:=h
  by_cases e:p.1=k
  .have e':q.1=k:=h1.symm.trans e
   have b:valueAt (q::qs) k=some q.2:=by simp[valueAt,List.find?_cons,e']
   rw[valV_pos e,b];exact h2
  .have e':¬q.1=k:=fun z=>e (h1.trans z)
   have b:valueAt (q::qs) k=valueAt qs k:=by simp[valueAt,List.find?_cons,e']
   rw[valV_neg e,b];exact ih
theorem KV.any{kvs:List (κ×V)}{vs:List (κ×Value)}(r:KV kvs vs)(k:κ):(kvs.any fun kv=>decide (kv.1=k))=vs.any fun kv=>decide (kv.1=k):=by
 unfold KV at r
 induction r with
 | nil=>rfl
 | cons h t ih=>rw[List.any_cons,List.any_cons,ih,h.1]
theorem KV.repl{kvs:List (κ×V)}{vs:List (κ×Value)}(r:KV kvs vs)(k:κ){y:V}{u:Value}(ry:RelV y u) :
  KV (kvs.map fun kv=>if kv.1=k then(kv.1,y)else kv) (vs.map fun kv=>if kv.1=k then(kv.1,u)else kv):=by
 unfold KV at r⊢
 induction r with
 | nil=>exact .nil
 | @cons p q ps qs h t ih=>
  rw[List.map_cons,List.map_cons]
  refine .cons ?_ ih
  obtain⟨h1,h2⟩:=h
  by_cases e:p.1=k
  .rw[if_pos e,if_pos (h1.symm.trans e)];exact⟨h1,ry⟩
  .rw[if_neg e,if_neg (fun z=>e (h1.trans z))];exact⟨h1,h2⟩
theorem KV.put{kvs:List (κ×V)}{vs:List (κ×Value)}(r:KV kvs vs)(k:κ){y:V}{u:Value}(ry:RelV y u):KV (putK kvs k y) (stored vs k u):=by
 unfold putK stored
 rw[r.any k]
 by_cases e:(vs.any fun kv=>decide (kv.1=k))=true
 .rw[if_pos e,if_pos e];exact r.repl k ry
 .rw[if_neg e,if_neg e];exact Paired.snoc r ⟨rfl,ry⟩
theorem KV.length{kvs:List (κ×V)}{vs:List (κ×Value)}(r:KV kvs vs):kvs.length=vs.length:=Paired.length r
end
theorem kV_is{P:Program}{w:World}{k:Key}{u:Value}(r:RelV (kV k) u):(mixKind P w).is k u=true:=by
 cases k with
 | inl i=>obtain⟨t,e⟩:=(show ∃t,u=Value.int i t from r);subst e;exact mixKind_int P w i t
 | inr x=>obtain⟨t,e⟩:=(show ∃t,u=Value.str x t from r);subst e;exact mixKind_str P w x t
theorem items_are{P:Program}{w:World}:∀{ks:List Key} {us:List Value},Vals (ks.map kV) us->ItemsAre (mixKind P w) ks us
 | [],_,r=>by rw[List.map_nil]at r;cases r;exact .nil
 | k::ks,_,r=>by
  rw[List.map_cons]at r
  cases r with
  | cons h t=>exact .cons (kV_is h) (items_are t)
abbrev KT(H:Hp):List (List Key×V)->List (List Key×Addr×Value)->Prop:=Paired fun p q=>p.1=q.1/\H q.2.1=some (.tup (p.1.map kV))/\RelV p.2 q.2.2
theorem KT.val{H:Hp}{kvs:List (List Key×V)}{xs:List (List Key×Addr×Value)}(r:KT H kvs xs)(k:List Key):RelO (valV kvs k) ((atKey xs k).map (·.2)):=by
 induction r with
 | nil=>exact True.intro
 | @cons p q ps qs h t ih=>
  obtain⟨h1,_,h2⟩:=h
  by_cases e:p.1=k
  .have e':q.1=k:=h1.symm.trans e
   have b:atKey (q::qs) k=some q.2:=by simp[atKey,List.find?_cons,e']
   rw[valV_pos e,b];exact h2
  .have e':¬q.1=k:=fun z=>e (h1.trans z)
   have b:atKey (q::qs) k=atKey qs k:=by simp[atKey,List.find?_cons,e']
   rw[valV_neg e,b];exact ih
theorem KT.repl{H:Hp}{kvs:List (List Key×V)}{xs:List (List Key×Addr×Value)}(r:KT H kvs xs)(k:List Key){y:V}{u:Value}(ry:RelV y u) :
  KT H (kvs.map fun kv=>if kv.1=k then(kv.1,y)else kv) (xs.map (putAt k u)):=by
 induction r with
 | nil=>exact .nil
 | @cons p q ps qs h t ih=>
  rw[List.map_cons,List.map_cons]
  refine .cons ?_ ih
  obtain⟨h1,h2,h3⟩:=h
  unfold putAt
  by_cases e:p.1=k
  .rw[if_pos e,if_pos (h1.symm.trans e)];exact⟨h1,h2,ry⟩
  .rw[if_neg e,if_neg (fun z=>e (h1.trans z))];exact⟨h1,h2,h3⟩
theorem KT.put{H:Hp}{kvs:List (List Key×V)}{xs:List (List Key×Addr×Value)}(r:KT H kvs xs)(k:List Key){b:Addr}{y:V}{u:Value}(hb:H b=some (.tup (k.map kV)))(ry:RelV y u) :
  KT H (putK kvs k y) (storedH xs k b u):=by
 have e:(kvs.any fun kv=>decide (kv.1=k))=(atKey xs k).isSome:=by
  rw[valV_any,(r.val k).isSome_eq,Option.isSome_map]
 unfold putK storedH
 rw[e]
 by_cases q:(atKey xs k).isSome=true
 .rw[if_pos q,if_pos q];exact r.repl k ry
 .rw[if_neg q,if_neg q];exact Paired.snoc r ⟨rfl,hb,ry⟩
theorem KT.keeps{H H':Hp}{kvs:List (List Key×V)}{xs:List (List Key×Addr×Value)}(r:KT H kvs xs)(ht:∀b ys,H b=some (.tup ys)->H' b=some (.tup ys)):KT H' kvs xs:=
 Paired.mapP r fun _ _ z=>⟨z.1,ht _ _ z.2.1,z.2.2⟩
section
variable{P:Program}{w:World}{H:Hp}{h:Heap}{a:Addr}
theorem rd_of{u:HO}(ok:HOk P w H h)(e:Rd H a u):ObjOk P w H h a u:=e.ok ok
theorem dk_rd{kvs:List (Key×V)}(ok:HOk P w H h)(e:Rd H a (.dK kvs)):kvs.length<=sizeLine/\(a==sysModules)=false/\∃vs,KV kvs vs/\h.DictOf (mixKind P w) a vs:=
 show ObjOk P w H h a (.dK kvs)from rd_of ok e
theorem dk_of{kvs:List (Key×V)}(ok:HOk P w H h)(e:H a=some (.dK kvs)):kvs.length<=sizeLine/\(a==sysModules)=false/\∃vs,KV kvs vs/\h.DictOf (mixKind P w) a vs:=dk_rd ok (.inl e)
theorem key_of{ks:List Key}(ok:HOk P w H h)(e:H a=some (.tup (ks.map kV))):(tupleKind (mixKind P w)).is h ks a:=by
 obtain⟨_,its,r,o,h1,h2,n,h3⟩:=(show ObjOk P w H h a (.tup (ks.map kV))from ok a _ e)
 exact⟨o,its.toArray,n,h1,h2,h3,by simpa using items_are r⟩
theorem dt_rd{kvs:List (List Key×V)}(ok:HOk P w H h)(e:Rd H a (.dT kvs)):kvs.length<=sizeLine/\(a==sysModules)=false/\
  ∃xs,KT H kvs xs/\h.DictOfH (tupleKind (mixKind P w)) a xs:=by
 obtain⟨z,y,xs,r,o,es,ep,h1,h2,h3,h4,h5⟩:=(show ObjOk P w H h a (.dT kvs)from rd_of ok e)
 refine⟨z,y,xs,r,o,es,ep,h1,h2,h3,h4,fun x hx=>?_,h5⟩
 have all:∀{l:List (List Key×V)} {m:List (List Key×Addr×Value)},KT H l m->∀x∈m,(tupleKind (mixKind P w)).is h x.1 x.2.1:=by
  intro l m q
  induction q with
  | nil=>intro x hx;exact nomatch hx
  | @cons p q ps qs hq t ih=>
   intro x hx
   rcases List.mem_cons.mp hx with e|hx
   .subst e
    exact key_of ok (by rw[<-hq.1];exact hq.2.1)
   .exact ih x hx
 exact all r x hx
theorem dt_of{kvs:List (List Key×V)}(ok:HOk P w H h)(e:H a=some (.dT kvs)):kvs.length<=sizeLine/\(a==sysModules)=false/\
  ∃xs,KT H kvs xs/\h.DictOfH (tupleKind (mixKind P w)) a xs:=dt_rd ok (.inl e)
end
def DGet(H:Hp)(a:Addr)(y:V)(r:Option V):Prop:=
 (∃kvs k,Rd H a (.dK kvs)/\y=kV k/\r=valV kvs k)\/∃kvs k b,Rd H a (.dT kvs)/\y=.ref b/\H b=some (.tup (k.map kV))/\r=valV kvs k
def DPut(H:Hp)(a:Addr)(y v:V)(H':Hp):Prop:=
 (∃kvs k,H a=some (.dK kvs)/\y=kV k/\kvs.length<sizeLine/\H'=upd H a (.dK (putK kvs k v)))\/
 ∃kvs k b,H a=some (.dT kvs)/\y=.ref b/\H b=some (.tup (k.map kV))/\kvs.length<sizeLine/\H'=upd H a (.dT (putK kvs k v))
theorem DGet.t{H:Hp}{a b:Addr}{kvs:List (List Key×V)}{k:List Key}(e:H a=some (.dT kvs))(eb:H b=some (.tup (k.map kV))):DGet H a (.ref b) (valV kvs k):=.inr ⟨kvs,k,b,.inl e,rfl,eb,rfl⟩
theorem DPut.t{H:Hp}{a b:Addr}{kvs:List (List Key×V)}{k:List Key}{v:V}(e:H a=some (.dT kvs))(eb:H b=some (.tup (k.map kV)))(hl:kvs.length<sizeLine) :
  DPut H a (.ref b) v (upd H a (.dT (putK kvs k v))):=.inr ⟨kvs,k,b,e,rfl,eb,hl,rfl⟩
section
variable{X:Cx}{pins:List (Addr×Obj)}{σ:St}{H:Hp}{s:Shared}{a:Addr}{y v:V}{u r:Value}{o:Option V}{A:Around}{E:Value->Shared->Prop}
theorem Inv.big(I:Inv X pins σ H s):sysModules<s.heap.objs.size:=by
 have h:mainGlobals<s.heap.objs.size:=(I.mod.glob.keeps I.bk).lt
 exact Nat.lt_trans (by decide) h
theorem d_getItem{Q:Value->Shared->Prop}(hu:A.units+1<cLine)(I:Inv X pins σ H s)(g:DGet H a y (some v))(ry:RelV y u)(h:∀w' s',Inv X pins σ H s'->RelV v w'->Q w' s') :
  wpAny (model X.prog X.w) A (getItem (.ref a) u) Q E s:=by
 rcases g with ⟨kvs,k,e,ey,l⟩|⟨kvs,k,b,e,ey,eb,l⟩
 .subst ey
  obtain⟨z,hd,vs,rel,dd⟩:=dk_rd I.hok e
  obtain⟨w',hw,rw'⟩:=RelO.some_of (v:=v) (o:=valueAt vs k) (by rw[l];exact rel.val k)
  exact wpAny_getItem_of (kV_is ry) dd.mapOf hw (h w' _ (I.tok _) rw')
 .subst ey
  cases (show u=Value.ref b from ry)
  obtain⟨z,hd,xs,rel,dd⟩:=dt_rd I.hok e
  obtain⟨w',hw,rw'⟩:=RelO.some_of (v:=v) (o:=(atKey xs k).map (·.2)) (by rw[l];exact rel.val k)
  obtain⟨p,hp,hp2⟩:=Option.map_eq_some_iff.mp hw
  refine wpAny_getItem_heap (tupleKind_room_in1 hu) (key_of I.hok eb) dd hp ?_
  rw[hp2]
  exact h w' _ (I.tok _) rw'
theorem d_in{Q:Value->Shared->Prop}(hu:A.units+1<cLine)(I:Inv X pins σ H s)(g:DGet H a y o)(ry:RelV y u)(h:∀s',Inv X pins σ H s'->Q (.bool o.isSome) s') :
  wpAny (model X.prog X.w) A (compareOp .In u (.ref a)) Q E s:=by
 rcases g with ⟨kvs,k,e,ey,l⟩|⟨kvs,k,b,e,ey,eb,l⟩
 .subst ey
  obtain⟨z,hd,vs,rel,dd⟩:=dk_rd I.hok e
  refine wpAny_in_of (kV_is ry) hd dd.mapOf ?_
  rw[<-(rel.val k).isSome_eq,<-l]
  exact h _ (I.tok _)
 .subst ey
  cases (show u=Value.ref b from ry)
  obtain⟨z,hd,xs,rel,dd⟩:=dt_rd I.hok e
  refine wpAny_in_heap (tupleKind_room_in1 hu) (key_of I.hok eb) hd dd ?_
  have q:=(rel.val k).isSome_eq
  rw[Option.isSome_map]at q
  rw[<-q,<-l]
  exact h _ (I.tok _)
theorem d_notIn{Q:Value->Shared->Prop}(hu:A.units+1<cLine)(I:Inv X pins σ H s)(g:DGet H a y o)(ry:RelV y u)(h:∀s',Inv X pins σ H s'->Q (.bool (!o.isSome)) s') :
  wpAny (model X.prog X.w) A (compareOp .NotIn u (.ref a)) Q E s:=by
 rcases g with ⟨kvs,k,e,ey,l⟩|⟨kvs,k,b,e,ey,eb,l⟩
 .subst ey
  obtain⟨z,hd,vs,rel,dd⟩:=dk_rd I.hok e
  refine wpAny_notIn_of (kV_is ry) hd dd.mapOf ?_
  rw[<-(rel.val k).isSome_eq,<-l]
  exact h _ (I.tok _)
 .subst ey
  cases (show u=Value.ref b from ry)
  obtain⟨z,hd,xs,rel,dd⟩:=dt_rd I.hok e
  refine wpAny_notIn_heap (tupleKind_room_in1 hu) (key_of I.hok eb) hd dd ?_
  have q:=(rel.val k).isSome_eq
  rw[Option.isSome_map]at q
  rw[<-q,<-l]
  exact h _ (I.tok _)
theorem d_write{h':Heap}{t':Nat}{ob:HO}(I:Inv X pins σ H s)(mu:Mut (H a))(hs:Heap.SameBut a s.heap h')(he:∃q,h'.get? a=some q)(new:ObjOk X.prog X.w (upd H a ob) h' a ob) :
  Inv X pins σ (upd H a ob) {s with heap:=h',toks:=t'}:=
 I.write (x:=a) (e:=a) mu (.inl rfl) (fun b q hb z=>(hs.2 b hb).trans z) he new
theorem dk_new{P:Program}{w:World}{H':Hp}{h':Heap}{kvs:List (Key×V)}{vs:List (Key×Value)}(z:kvs.length<=sizeLine)(hd:(a==sysModules)=false)(rel:KV kvs vs)(dd:h'.DictOf (mixKind P w) a vs) :
  ObjOk P w H' h' a (.dK kvs):=⟨z,hd,vs,rel,dd⟩
theorem d_setItem{H':Hp}{Q:Unit->Shared->Prop}(hu:A.units+1<cLine)(I:Inv X pins σ H s)(g:DPut H a y v H')(ry:RelV y u)(rv:RelV v r)(h:∀s',Inv X pins σ H' s'->Q () s') :
  wpAny (model X.prog X.w) A (setItem (.ref a) u r) Q E s:=by
 rcases g with ⟨kvs,k,e,ey,l,eH⟩|⟨kvs,k,b,e,ey,eb,l,eH⟩
 .subst ey eH
  obtain⟨z,hd,vs,rel,dd⟩:=dk_of I.hok e
  have hz:vs.length<=sizeLine:=by rw[<-rel.length];exact z
  have hl:(putK kvs k v).length<=sizeLine:=by have:=length_putK kvs k v;omega
  refine wpAny_setItem_pairs (hsz:=hz) (kV_is ry) dd fun h' dd' hs=>h _ ?_
  have he:∃q,h'.get? a=some q:=let ⟨q,_,_,hq,_⟩:=dd';⟨q,hq⟩
  exact d_write I (by rw[e];exact True.intro) hs he (dk_new hl hd (rel.put k rv) dd')
 .subst ey eH
  cases (show u=Value.ref b from ry)
  obtain⟨z,hd,xs,rel,dd⟩:=dt_of I.hok e
  have hz:xs.length<=sizeLine:=by rw[<-Paired.length rel];exact z
  have hl:(putK kvs k v).length<=sizeLine:=by have:=length_putK kvs k v;omega
  refine wpAny_setItem_heap (hsz:=hz) (tupleKind_room_in1 hu) (key_of I.hok eb) dd fun h' dd' hs=>h _ ?_
  obtain⟨q,es,ep,hq,h2,h3,h4,_,h5⟩:=dd'
  refine d_write I (by rw[e];exact True.intro) hs ⟨q,hq⟩ ⟨hl,hd,_,(rel.put k eb rv).keeps fun c ys ec=>?_,q,es,ep,hq,h2,h3,h4,h5⟩
  rw[upd_ne (ne_of ec e (fun z=>nomatch z))]
  exact ec
end
def NoSl(i:Expr):Prop:=∀ov iv,subscripted i false ov iv=operate [ov,iv] (getItem ov iv)
theorem subD_of{prog:Program}{w:World}{A:Around}{E:Value->Shared->Prop}{s:Shared}{env:Env}{value slice:Expr}{pos:Pos}{T id:String}{Q:Value->Shared->Prop}
  (hl:typeLookup (.type T) "__getitem__" = pure (some (.builtin id))) (hs:NoSl slice)
  (h:wpAny (model prog w) A (eval value env) (fun o s₁=>wpAny (model prog w) A (eval slice env) (fun i s₂=>s₂.TypeIs o T/\wpAny (model prog w) A (getItem o i) Q E s₂) E s₁) E s) :
  wpAny (model prog w) A (eval (.Subscript value slice pos) env) Q E s:=by
 refine Subscript_ (wpAny_mono h (fun o s₁ h₁=>wpAny_mono h₁ (fun i s₂ h₂=>?_) fun _ _ x=>x) fun _ _ x=>x)
 obtain⟨hT,h₂⟩:=h₂
 unfold subscriptTail
 refine wpAny_bind ?_
 rw[getitemInPython_of_ne hT.not_modules]
 refine wpAny_bind (wpAny_specialOf hT hl ?_)
 have fin:wpAny (model prog w) A (subscripted slice false o i) (fun r s₃=>wpAny (model prog w) A (letTemporaryGo value o r >>= fun _=>pure r) Q E s₃) E s₂:=by
  rw[hs o i]
  exact wpAny_operating (wpAny_mono h₂ (fun r s₃ h₃=>wpAny_bind (wpAny_letTemporaryGo (wpAny_pure h₃))) fun _ _ x=>x)
 first
  | exact wpAny_pure (wpAny_bind fin)
  | exact wpAny_bind (wpAny_pure (wpAny_bind fin))
  | exact wpAny_bind fin
theorem dict_typeIs{X:Cx}{pins:List (Addr×Obj)}{σ:St}{H:Hp}{s:Shared}{a:Addr}{y:V}{o:Option V}(I:Inv X pins σ H s)(g:DGet H a y o):s.TypeIs (.ref a) "dict":=by
 rcases g with ⟨kvs,k,e,_,_⟩|⟨kvs,k,b,e,_,_,_⟩
 .obtain⟨_,_,vs,_,dd⟩:=dk_rd I.hok e
  exact dd.typeIs
 .obtain⟨_,_,xs,_,dd⟩:=dt_rd I.hok e
  exact dd.typeIs
def tDGet(td ty:TE):TE:=fun σ H Q=>td σ H fun x H1=>ty σ H1 fun y H2=>∃a v,x=.ref a/\DGet H2 a y (some v)/\Q v H2
def tDIn(ty td:TE):TE:=fun σ H Q=>ty σ H fun y H1=>td σ H1 fun x H2=>∃a o,x=.ref a/\DGet H2 a y o/\Q (.bl o.isSome) H2
def tDNotIn(ty td:TE):TE:=fun σ H Q=>ty σ H fun y H1=>td σ H1 fun x H2=>∃a o,x=.ref a/\DGet H2 a y o/\Q (.bl (!o.isSome)) H2
def sDPut(td ty tv:TE):TS:=fun D σ H=>tv σ H fun v H1=>td σ H1 fun x H2=>ty σ H2 fun y H3=>∃a H4,x=.ref a/\DPut H3 a y v H4/\D.nx σ H4
section
variable{X:Cx}{o i e value:Expr}{pos pos' tpos:Pos}{td ty tv:TE}
theorem pe_dget(hu:X.A.units+1<cLine)(ho:PE X o td)(hi:PE X i ty)(hs:NoSl i):PE X (.Subscript o i pos) (tDGet td ty):=by
 intro pins s σ H Q I h
 refine subD_of PySem.F.slot_dict_getitem.lookup hs (thn (ho pins s σ H _ I h) fun u s1 ⟨x,H1,I1,rx,q1⟩=>thn (hi pins s1 σ H1 _ I1 q1) fun iv s2 ⟨y,H2,I2,ry,a,v,ex,g,q2⟩=>?_)
 subst ex
 obtain rfl:u=Value.ref a:=rx
 exact⟨dict_typeIs I2 g,d_getItem hu I2 g ry fun w' s3 I3 rw'=>⟨v,H2,I3,rw',q2⟩⟩
theorem pc_din(hu:X.A.units+1<cLine)(hi:PE X i ty)(ho:PE X o td):PC X .In i o (tDIn ty td):=by
 intro pins s σ H Q I h
 refine thn (hi pins s σ H _ I h) fun iv s1 ⟨y,H1,I1,ry,q1⟩=>thn (ho pins s1 σ H1 _ I1 q1) fun u s2 ⟨x,H2,I2,rx,a,ov,ex,g,q2⟩=>?_
 subst ex
 obtain rfl:u=Value.ref a:=rx
 exact d_in hu I2 g ry fun s3 I3=>⟨.bl ov.isSome,H2,I3,rfl,q2⟩
theorem pc_dnotin(hu:X.A.units+1<cLine)(hi:PE X i ty)(ho:PE X o td):PC X .NotIn i o (tDNotIn ty td):=by
 intro pins s σ H Q I h
 refine thn (hi pins s σ H _ I h) fun iv s1 ⟨y,H1,I1,ry,q1⟩=>thn (ho pins s1 σ H1 _ I1 q1) fun u s2 ⟨x,H2,I2,rx,a,ov,ex,g,q2⟩=>?_
 subst ex
 obtain rfl:u=Value.ref a:=rx
 exact d_notIn hu I2 g ry fun s3 I3=>⟨.bl (!ov.isSome),H2,I3,rfl,q2⟩
theorem ps_dput(hu:X.A.units+1<cLine)(ho:PE X o td)(hi:PE X i ty)(hv:PE X value tv)(hs:swapsWith value (some (.Subscript o i pos')) pos.line X.env=pure false) :
  PS X (.Assign [.Subscript o i pos'] value pos) (sDPut td ty tv):=by
 intro pins s σ H D I h
 refine wpAny_Assign_Subscript (thn (hv pins s σ H _ I h) fun r s1 ⟨v,H1,I1,rv,q1⟩=>thn (ho pins s1 σ H1 _ I1 q1) fun u s2 ⟨x,H2,I2,rx,q2⟩=>thn (hi pins s2 σ H2 _ I2 q2) fun iv s3 ⟨y,H3,I3,ry,a,H4,ex,g,q3⟩=>?_) hs
 subst ex
 obtain rfl:u=Value.ref a:=rx
 exact d_setItem hu I3 g ry rv fun s4 I4=>⟨σ,H4,I4,q3⟩
end
structure M2(X:Cx)(o:Expr)(m:Str)(apos:Pos)(e f:Expr)(cpos:Pos):Prop where
 base:attributeBase o m X.env (eval o X.env)=eval o X.env
 few:((backTo cpos (starEach [e,f] X.env)).all (fun x=>!x.1)&&(backToKw cpos (keywordEach [] X.env)).all (fun x=>x.1.isSome)
  && decide (([e,f]:List Expr).length+([]:List Keyword).length+(if ([]:List Keyword).isEmpty then 0 else 1)<30))=true
 line:(apos.endLine==cpos.line)=true
 trees:backTo cpos (starEach [e,f] X.env)=[(false,eval e X.env),(false,eval f X.env)]
def IsD(H:Hp)(a:Addr):Prop:=(∃kvs,Rd H a (.dK kvs))\/∃kvs,Rd H a (.dT kvs)
theorem isD_at{X:Cx}{pins:List (Addr×Obj)}{σ:St}{H:Hp}{s:Shared}{a:Addr}(I:Inv X pins σ H s)(d:IsD H a) :
  s.TypeIs (.ref a) "dict"/\(∀b,Value.ref a=.ref b->∃ob,s.heap.get? b=some ob/\ob.dict=none)/\(a==sysModules)=false:=by
 rcases d with ⟨kvs,e⟩|⟨kvs,e⟩
 .obtain⟨_,hd,vs,_,dd⟩:=dk_rd I.hok e
  refine⟨dd.typeIs,fun b q=>?_,hd⟩
  cases q
  obtain⟨ob,_,_,h1,h2,_⟩:=dd
  exact⟨ob,h1,h2.2.1⟩
 .obtain⟨_,hd,xs,_,dd⟩:=dt_rd I.hok e
  refine⟨dd.typeIs,fun b q=>?_,hd⟩
  cases q
  obtain⟨ob,_,_,h1,h2,_⟩:=dd
  exact⟨ob,h1,h2.2.1⟩
section
variable{X:Cx}{pins:List (Addr×Obj)}{σ:St}{H:Hp}{s:Shared}{a:Addr}{y d:V}{u r:Value}{o:Option V}{A:Around}{E:Value->Shared->Prop}
theorem d_get2{Q:Value->Shared->Prop}(hu:A.units+1<cLine)(I:Inv X pins σ H s)(g:DGet H a y o)(ry:RelV y u)(rd:RelV d r)(h:∀w' s',Inv X pins σ H s'->RelV (o.getD d) w'->Q w' s') :
  wpAny (model X.prog X.w) A (call (.builtin "dict.get") [.ref a,u,r]) Q E s:=by
 rcases g with ⟨kvs,k,e,ey,l⟩|⟨kvs,k,b,e,ey,eb,l⟩
 .subst ey
  obtain⟨z,hd,vs,rel,dd⟩:=dk_rd I.hok e
  refine call_meetsIn PySem.F.slot_dict_get dd.typeIs PySem.F.entry_dict_get (PySem.F.args_dict_get_3 _ _ _) (meets_dict_get_default (mixKind X.prog X.w) a (kV_is ry) hd r) ⟨_,dd.mapOf,h _ _ (I.tok _) ?_⟩
  rw[l]
  exact(rel.val k).getD rd
 .subst ey
  cases (show u=Value.ref b from ry)
  obtain⟨z,hd,xs,rel,dd⟩:=dt_rd I.hok e
  refine call_meetsIn PySem.F.slot_dict_get dd.typeIs PySem.F.entry_dict_get (PySem.F.args_dict_get_3 _ _ _) (meetsH_dict_get_default (tupleKind (mixKind X.prog X.w)) a b hd r) ⟨tupleKind_room_in1 hu,k,xs,key_of I.hok eb,dd,h _ _ (I.tok _) ?_⟩
  rw[l]
  exact(rel.val k).getD rd
end
def tDGet2(td ty tx:TE):TE:=fun σ H Q=>td σ H fun x H1=>∃a,x=.ref a/\IsD H1 a/\ty σ H1 fun y H2=>tx σ H2 fun z H3=>∃o,DGet H3 a y o/\Q (o.getD z) H3
section
variable{X:Cx}{o e f:Expr}{apos cpos:Pos}{td ty tx:TE}
theorem pe_dget2(hu:X.A.units+1<cLine)(ho:PE X o td)(he:PE X e ty)(hf:PE X f tx)(m:M2 X o "get" apos e f cpos):PE X (.Call (.Attribute o "get" apos) [e,f] [] cpos) (tDGet2 td ty tx):=by
 intro pins s σ H Q I h
 refine wpAny_Call_method m.base m.few m.line PySem.F.plainAttrs_dict PySem.F.slot_dict_get PySem.F.type_dict_get (thn (ho pins s σ H _ I h) fun u s1 ⟨x,H1,I1,rx,a,ex,d,q1⟩=>?_)
 subst ex
 obtain rfl:u=Value.ref a:=rx
 obtain⟨t1,t2,_⟩:=isD_at I1 d
 refine⟨t1,t2,?_⟩
 rw[m.trees]
 refine Calls.callWith_builtin rfl (Calls.evalArgs_plain (Calls.spliced_cons (thn (he pins s1 σ H1 _ I1 q1) fun iv s2 ⟨y,H2,I2,ry,q2⟩=>
  Calls.spliced_cons (thn (hf pins s2 σ H2 _ I2 q2) fun fv s3 ⟨z,H3,I3,rz,ov,g,q3⟩=>Calls.spliced_nil ?_))))
 exact d_get2 hu I3 g ry rz fun w' s4 I4 rw'=>⟨_,H3,I4,rw',q3⟩
end
end L2
namespace L3
open PySem PySem.Spec PyProof.Rows L2
def strsM(M:Mat):List Str:=(List.range M.h).map fun r=>⟨(lineM M r).toArray⟩
def SgP(c:Nat):Prop:=sgB c=true
theorem sg128{c:Nat}(h:SgP c):c<128:=by
 unfold SgP sgB at h
 simp at h
 omega
def FlM(H:Hp)(a:Addr)(M:Mat):Prop:=H a=some (.tup ((strsM M).map V.str))/\OkM SgP M
theorem FlM.same{H H':Hp}{a:Addr}{M:Mat}(h:FlM H a M)(s:Same H H'):FlM H' a M:=⟨s _ _ h.1,h.2⟩
theorem strs_len(M:Mat):(strsM M).length=M.h:=by unfold strsM;simp
theorem strs_at{M:Mat}{r:Nat}(h:r<M.h):(strsM M)[r]?=some ⟨(lineM M r).toArray⟩:=by
 unfold strsM
 rw[List.getElem?_map,List.getElem?_range h]
 rfl
theorem line_len(M:Mat)(r:Nat):(lineM M r).length=M.w:=by unfold lineM;simp
theorem line_at{M:Mat}{r c:Nat}(h:c<M.w):(lineM M r)[c]?=some (M.g r c):=by
 unfold lineM
 rw[List.getElem?_map,List.getElem?_range h]
 rfl
theorem line_sg{M:Mat}(o:OkM SgP M){r:Nat}(hr:r<M.h):∀c∈lineM M r,SgP c:=fun c hc=>by
 unfold lineM at hc
 obtain⟨k,hk,rfl⟩:=List.mem_map.mp hc
 exact o.sg r k hr (by simpa using hk)
theorem strs_mem{M:Mat}{z:Str}(h:z∈strsM M):∃r,r<M.h/\z=⟨(lineM M r).toArray⟩:=by
 unfold strsM at h
 obtain⟨r,hr,rfl⟩:=List.mem_map.mp h
 exact⟨r,by simpa using hr,rfl⟩
theorem SameM.strs{M N:Mat}(a:SameM M N):strsM M=strsM N:=by
 unfold strsM
 rw[<-a.h]
 exact List.map_congr_left fun r hr=>by rw[a.line (by simpa using hr)]
end L3
namespace L3
open PySem
open SetTable
end L3
namespace L3
open PySem SetTable
end L3
namespace L3
open PySem
variable{Pv:Value->PyData->Prop}
mutual
def kd:PyData->Bool
 | .int _=>true
 | .str _=>true
 | .tuple ds=>kdAll ds
 | .none=>false
 | .bool _=>false
 | .list _=>false
 | .dict _=>false
def kdAll:List PyData->Bool
 | []=>true
 | d::ds=>kd d&&kdAll ds
end
mutual
theorem eqv_kd:∀(d e:PyData),kd d=true->kd e=true->PyData.eqv d e=true->d=e
 | .int i,e,_,he,h=>by
  cases e<;>simp[PyData.eqv,kd]at h he⊢
  exact h
 | .str x,e,_,he,h=>by
  cases e<;>simp[PyData.eqv,kd]at h he⊢
  exact h
 | .tuple ds,e,hd,he,h=>by
  cases e with
  | tuple es=>
   have:=eqv_kdAll ds es hd he (by simpa [PyData.eqv]using h)
   rw[this]
  | _=>simp[PyData.eqv,kd]at h he
 | .none,_,hd,_,_=>absurd hd Bool.false_ne_true
 | .bool _,_,hd,_,_=>absurd hd Bool.false_ne_true
 | .list _,_,hd,_,_=>absurd hd Bool.false_ne_true
 | .dict _,_,hd,_,_=>absurd hd Bool.false_ne_true
theorem eqv_kdAll:∀(ds es:List PyData),kdAll ds=true->kdAll es=true->PyData.eqvAll ds es=true->ds=es
 | [],[],_,_,_=>rfl
 | [],_::_,_,_,h=>by simp[PyData.eqvAll]at h
 | _::_,[],_,_,h=>by simp[PyData.eqvAll]at h
 | d::ds,e::es,hd,he,h=>by
  have hd':(kd d&&kdAll ds)=true:=hd
  have he':(kd e&&kdAll es)=true:=he
  rw[Bool.and_eq_true]at hd' he'
  have h':PyData.eqv d e=true/\PyData.eqvAll ds es=true:=by simpa [PyData.eqvAll]using h
  rw[eqv_kd d e hd'.1 he'.1 h'.1,eqv_kdAll ds es hd'.2 he'.2 h'.2]
end
end L3
namespace L3
open PySem
variable{Pv:Value->PyData->Prop}
end L3
namespace L3
open PySem PyProof.Rows
variable{Pv:Value->PyData->Prop}
end L3
namespace L3
open PySem PySem.Spec PyProof.Rows L2
variable{Pv:Value->PyData->Prop}
def KeyD(d:PyData):Prop:=kd d=true/\(∃ds,d=.tuple ds)/\d.depth<8
theorem reads_at{h:Heap}:∀{us:List Value} {ds:List PyData} {as:List Addr} {i:Nat} {u:Value} {d:PyData},ReadsAll h us ds as->us[i]?=some u->ds[i]?=some d->∃bs,Reads h u d bs
 | _,_,_,i,u,d,.nil,h1,_=>by simp at h1
 | _,_,_,0,u,d,.cons a b,h1,h2=>by
  cases h1;cases h2
  exact⟨_,a⟩
 | _,_,_,i+1,u,d,.cons a b,h1,h2=>reads_at b (by simpa using h1) (by simpa using h2)
theorem lay_mem:∀{ds:List PyData},PyData.canLayAll0 ds=true->∀d∈ds,d.canLay0=true
 | [],_,d,hd=>by cases hd
 | e::ds,hk,d,hd=>by
  have hk':(e.canLay0&&PyData.canLayAll0 ds)=true:=hk
  rw[Bool.and_eq_true]at hk'
  rcases List.mem_cons.mp hd with h|hd
  .rw[h];exact hk'.1
  .exact lay_mem hk'.2 d hd
end L3
namespace L3
open PySem
end L3
namespace L3
open PySem PySem.Spec PyProof.Rows L2
mutual
def Cmp:PyData->PyData->Prop
 | .int _,.int _=>True
 | .str _,.str _=>True
 | .tuple xs,.tuple ys=>CmpL xs ys
 | _,_=>False
def CmpL:List PyData->List PyData->Prop
 | [],_=>True
 | _::_,[]=>True
 | x::xs,y::ys=>Cmp x y/\CmpL xs ys
end
mutual
def ltD:PyData->PyData->Bool
 | .int a,.int b=>decide (a<b)
 | .str a,.str b=>sLt a b
 | .tuple xs,.tuple ys=>ltL xs ys
 | _,_=>false
def ltL:List PyData->List PyData->Bool
 | [],[]=>false
 | [],_::_=>true
 | _::_,[]=>false
 | x::xs,y::ys=>if PyData.eqv x y=true then ltL xs ys else ltD x y
end
def encS(xs:List Nat):List Int:=xs.map fun(c:Nat)=>(c:Int)+1
mutual
def enc:PyData->List Int
 | .int a=>[1,a]
 | .str x=>2::(encS x.cps.toList++[0])
 | .tuple ds=>3::(encL ds++[0])
 | .none=>[9]
 | .bool _=>[9]
 | .list _=>[9]
 | .dict _=>[9]
def encL:List PyData->List Int
 | []=>[]
 | d::ds=>enc d++encL ds
end
theorem encS_lt:∀(xs ys:List Nat) (r r':List Int),(encS xs++0::r<encS ys++0::r')↔(xs<ys\/xs=ys/\r<r')
 | [],[],r,r'=>by simp[encS,List.cons_lt_cons_iff]
 | [],y::ys,r,r'=>by
  have:(0:Int)<(y:Int)+1:=by omega
  simp[encS,List.cons_lt_cons_iff,this]
 | x::xs,[],r,r'=>by
  have h1:¬((x:Int)+1<0):=by omega
  have h2:¬((x:Int)+1=0):=by omega
  simp[encS,List.cons_lt_cons_iff,h1,h2]
 | x::xs,y::ys,r,r'=>by
  have ih:=encS_lt xs ys r r'
  unfold encS at ih⊢
  simp only[List.map_cons,List.cons_append,List.cons_lt_cons_iff,ih,List.cons.injEq]
  have h1:((x:Int)+1<(y:Int)+1)↔x<y:=by omega
  have h2:((x:Int)+1=(y:Int)+1)↔x=y:=by omega
  rw[h1,h2]
  constructor
  .rintro(h|⟨h,h'|⟨h',h''⟩⟩)
   .exact .inl (.inl h)
   .exact .inl (.inr ⟨h,h'⟩)
   .exact .inr ⟨⟨h,h'⟩,h''⟩
  .rintro((h|⟨h,h'⟩)|⟨⟨h,h'⟩,h''⟩)
   .exact .inl h
   .exact .inr ⟨h,.inl h'⟩
   .exact .inr ⟨h,.inr ⟨h',h''⟩⟩
theorem enc_pos:∀(d:PyData) (r:List Int),∃a t,enc d++r=a::t/\(0:Int)<a
 | .int a,r=>⟨1,_,rfl,by decide⟩
 | .str x,r=>⟨2,_,rfl,by decide⟩
 | .tuple ds,r=>⟨3,_,rfl,by decide⟩
 | .none,r=>⟨9,_,rfl,by decide⟩
 | .bool _,r=>⟨9,_,rfl,by decide⟩
 | .list _,r=>⟨9,_,rfl,by decide⟩
 | .dict _,r=>⟨9,_,rfl,by decide⟩
mutual
theorem enc_lt:∀(x y:PyData) (r r':List Int),Cmp x y->((enc x++r<enc y++r')↔(if PyData.eqv x y=true then r<r' else ltD x y=true))
 | .int a,.int b,r,r',_=>by
  have e:PyData.eqv (.int a) (.int b)=(a==b):=rfl
  rw[e]
  show(1::a::r<1::b::r')↔_
  simp only[List.cons_lt_cons_iff,ltD]
  by_cases h:a=b
  .subst h;simp
  .simp[h]
 | .str a,.str b,r,r',_=>by
  have e:PyData.eqv (.str a) (.str b)=(a==b):=rfl
  rw[e]
  show(2::((encS a.cps.toList++[0])++r)<2::((encS b.cps.toList++[0])++r'))↔_
  rw[List.cons_lt_cons_iff,List.append_assoc,List.append_assoc]
  show(_\/_/\(encS a.cps.toList++0::r<encS b.cps.toList++0::r'))↔_
  rw[encS_lt]
  have hx:a=b↔a.cps.toList=b.cps.toList:=⟨fun h=>by rw[h],fun h=>by cases a;cases b;simp only at h;congr;exact Array.ext' h⟩
  by_cases h:a=b
  .subst h;simp[List.lt_irrefl]
  .have h':¬a.cps.toList=b.cps.toList:=fun z=>h (hx.mpr z)
   simp[h,h',ltD,sLt]
 | .tuple xs,.tuple ys,r,r',hc=>by
  have e:PyData.eqv (.tuple xs) (.tuple ys)=PyData.eqvAll xs ys:=by simp[PyData.eqv]
  rw[e]
  show(3::((encL xs++[0])++r)<3::((encL ys++[0])++r'))↔_
  rw[List.cons_lt_cons_iff,List.append_assoc,List.append_assoc]
  show(_\/_/\(encL xs++0::r<encL ys++0::r'))↔(if PyData.eqvAll xs ys=true then r<r' else ltL xs ys=true)
  rw[encL_lt xs ys r r' hc]
  simp
theorem encL_lt:∀(xs ys:List PyData) (r r':List Int),CmpL xs ys->((encL xs++0::r<encL ys++0::r')↔(if PyData.eqvAll xs ys=true then r<r' else ltL xs ys=true))
 | [],[],r,r',_=>by simp[encL,PyData.eqvAll,List.cons_lt_cons_iff]
 | [],y::ys,r,r',_=>by
  obtain⟨a,t,e,h⟩:=enc_pos y (encL ys++0::r')
  show(0::r<(enc y++encL ys)++0::r')↔_
  rw[List.append_assoc,e,List.cons_lt_cons_iff]
  simp[h,PyData.eqvAll,ltL]
 | x::xs,[],r,r',_=>by
  obtain⟨a,t,e,h⟩:=enc_pos x (encL xs++0::r)
  show((enc x++encL xs)++0::r<0::r')↔_
  rw[List.append_assoc,e,List.cons_lt_cons_iff]
  have h1:¬a<0:=by omega
  have h2:¬a=0:=by omega
  simp[h1,h2,PyData.eqvAll,ltL]
 | x::xs,y::ys,r,r',hc=>by
  have hc':Cmp x y/\CmpL xs ys:=hc
  show((enc x++encL xs)++0::r<(enc y++encL ys)++0::r')↔(if (PyData.eqv x y&&PyData.eqvAll xs ys)=true then r<r' else(if PyData.eqv x y=true then ltL xs ys else ltD x y)=true)
  rw[List.append_assoc,List.append_assoc,enc_lt x y _ _ hc'.1]
  cases h:PyData.eqv x y with
  | true=>
   simp only[if_true,Bool.true_and]
   exact encL_lt xs ys r r' hc'.2
  | false=>simp
end
mutual
theorem ltD_same:∀(x y:PyData),Cmp x y->PyData.eqv x y=true->ltD x y=false
 | .int a,.int b,_,h=>by
  have e:PyData.eqv (.int a) (.int b)=(a==b):=rfl
  rw[e]at h
  have:a=b:=by simpa using h
  subst this
  simp[ltD]
 | .str a,.str b,_,h=>by
  have e:PyData.eqv (.str a) (.str b)=(a==b):=rfl
  rw[e]at h
  have:a=b:=by simpa using h
  subst this
  exact sLt_irr a
 | .tuple xs,.tuple ys,hc,h=>ltL_same xs ys hc (by simpa [PyData.eqv]using h)
theorem ltL_same:∀(xs ys:List PyData),CmpL xs ys->PyData.eqvAll xs ys=true->ltL xs ys=false
 | [],[],_,_=>rfl
 | [],_::_,_,h=>by simp[PyData.eqvAll]at h
 | _::_,[],_,h=>by simp[PyData.eqvAll]at h
 | x::xs,y::ys,hc,h=>by
  have h':PyData.eqv x y=true/\PyData.eqvAll xs ys=true:=by simpa [PyData.eqvAll]using h
  show(if PyData.eqv x y=true then ltL xs ys else ltD x y)=false
  rw[if_pos h'.1]
  exact ltL_same xs ys (show Cmp x y/\CmpL xs ys from hc).2 h'.2
end
mutual
theorem eqv_sym:∀(x y:PyData),Cmp x y->PyData.eqv y x=PyData.eqv x y
 | .int a,.int b,_=>by
  show(b==a)=(a==b)
  exact Bool.beq_comm
 | .str a,.str b,_=>by
  show(b==a)=(a==b)
  exact Bool.beq_comm
 | .tuple xs,.tuple ys,hc=>by
  have:=eqvL_sym xs ys hc
  simpa [PyData.eqv]using this
theorem eqvL_sym:∀(xs ys:List PyData),CmpL xs ys->PyData.eqvAll ys xs=PyData.eqvAll xs ys
 | [],[],_=>rfl
 | [],_::_,_=>rfl
 | _::_,[],_=>rfl
 | x::xs,y::ys,hc=>by
  have hc':Cmp x y/\CmpL xs ys:=hc
  show(PyData.eqv y x&&PyData.eqvAll ys xs)=(PyData.eqv x y&&PyData.eqvAll xs ys)
  rw[eqv_sym x y hc'.1,eqvL_sym xs ys hc'.2]
end
mutual
theorem ltD_one:∀(x y:PyData),Cmp x y->PyData.eqv x y=false->ltD x y=true\/ltD y x=true
 | .int a,.int b,_,h=>by
  have e:PyData.eqv (.int a) (.int b)=(a==b):=rfl
  rw[e]at h
  have:a≠b:=by simpa using h
  simp only[ltD,decide_eq_true_eq]
  omega
 | .str a,.str b,_,h=>by
  have e:PyData.eqv (.str a) (.str b)=(a==b):=rfl
  rw[e]at h
  have:a≠b:=by simpa using h
  show sLt a b=true\/sLt b a=true
  cases h1:sLt a b with
  | true=>exact .inl rfl
  | false=>
   cases h2:sLt b a with
   | true=>exact .inr rfl
   | false=>exact absurd (sLt_eq h1 h2) this
 | .tuple xs,.tuple ys,hc,h=>ltL_one xs ys hc (by simpa [PyData.eqv]using h)
theorem ltL_one:∀(xs ys:List PyData),CmpL xs ys->PyData.eqvAll xs ys=false->ltL xs ys=true\/ltL ys xs=true
 | [],[],_,h=>by simp[PyData.eqvAll]at h
 | [],_::_,_,h=>.inl rfl
 | _::_,[],_,h=>.inr rfl
 | x::xs,y::ys,hc,h=>by
  have hc':Cmp x y/\CmpL xs ys:=hc
  show(if PyData.eqv x y=true then ltL xs ys else ltD x y)=true\/(if PyData.eqv y x=true then ltL ys xs else ltD y x)=true
  have hs:PyData.eqv y x=PyData.eqv x y:=eqv_sym x y hc'.1
  rw[hs]
  cases h1:PyData.eqv x y with
  | true=>
   have h2:PyData.eqvAll xs ys=false:=by simpa [PyData.eqvAll,h1]using h
   simpa using ltL_one xs ys hc'.2 h2
  | false=>simpa using ltD_one x y hc'.1 h1
end
theorem ltD_enc{x y:PyData}(h:Cmp x y):ltD x y=decide (enc x<enc y):=by
 have k:=enc_lt x y [] [] h
 rw[List.append_nil,List.append_nil]at k
 cases he:PyData.eqv x y with
 | true=>
  rw[he,if_pos rfl]at k
  rw[ltD_same x y h he]
  exact(decide_eq_false fun z=>List.lt_irrefl _ (k.mp z)).symm
 | false=>
  rw[he,if_neg Bool.false_ne_true]at k
  cases hl:ltD x y with
  | true=>exact(decide_eq_true (k.mpr hl)).symm
  | false=>exact(decide_eq_false fun z=>by have:=k.mp z;rw[hl]at this;cases this).symm
theorem enc_inj{x y:PyData}(h:Cmp x y)(h':Cmp y x)(hx:kd x=true)(hy:kd y=true)(h1:¬enc x<enc y)(h2:¬enc y<enc x):x=y:=by
 cases he:PyData.eqv x y with
 | true=>exact eqv_kd x y hx hy he
 | false=>
  rcases ltD_one x y h he with z|z
  .rw[ltD_enc h]at z;exact absurd (of_decide_eq_true z) h1
  .rw[ltD_enc h']at z;exact absurd (of_decide_eq_true z) h2
def ltE(ds:List PyData)(i j:Nat):Bool:=decide (enc (ds.getD i .none)<enc (ds.getD j .none))
def sortE(ds:List PyData):List PyData:=(srt (ltE ds) ds.length).map fun i=>ds.getD i .none
theorem ltE_ord(ds:List PyData):Ord (ltE ds)where
 asy:=fun a b h=>decide_eq_false (List.lt_asymm (of_decide_eq_true h))
 tr:=fun a b c h1 h2=>by
  have h1':enc (ds.getD a .none)<=enc (ds.getD b .none):=of_decide_eq_false h1
  have h2':enc (ds.getD b .none)<=enc (ds.getD c .none):=of_decide_eq_false h2
  exact decide_eq_false (List.le_trans h1' h2')
theorem sortE_perm(ds:List PyData):(sortE ds).Perm ds:=by
 have h:=(srt_perm (ltE ds) ds.length).map fun i=>ds.getD i .none
 rw[map_range_getD]at h
 exact h
theorem sortE_length(ds:List PyData):(sortE ds).length=ds.length:=(sortE_perm ds).length_eq
theorem sortE_up(ds:List PyData):(sortE ds).Pairwise fun x y=>¬enc y<enc x:=by
 rw[List.pairwise_iff_getElem]
 intro i j hi hj hij
 have hj':j<ds.length:=by rw[sortE_length]at hj;exact hj
 have u:=srt_up (ltE_ord ds) ds.length (Nat.le_of_lt hij) hj'
 have hjs:j<(srt (ltE ds) ds.length).length:=by rw[srt_length];exact hj'
 have his:i<(srt (ltE ds) ds.length).length:=by omega
 rw[List.getD_eq_getElem?_getD,List.getD_eq_getElem?_getD,List.getElem?_eq_getElem hjs,List.getElem?_eq_getElem his]at u
 have u':=of_decide_eq_false u
 have e:∀k (h:k<(sortE ds).length) (h':k<(srt (ltE ds) ds.length).length),(sortE ds)[k]=ds.getD (srt (ltE ds) ds.length)[k] .none:=fun k h h'=>by simp[sortE]
 rw[e j hj hjs,e i hi his]
 exact u'
def CmpA(ds:List PyData):Prop:=(∀x∈ds,∀y∈ds,Cmp x y)/\∀x∈ds,kd x=true
theorem CmpA.sub{ds es:List PyData}(h:CmpA ds)(hs:∀x∈es,x∈ds):CmpA es:=⟨fun x hx y hy=>h.1 x (hs x hx) y (hs y hy),fun x hx=>h.2 x (hs x hx)⟩
theorem up_uniq:∀{xs ys:List PyData},xs.Perm ys->CmpA xs->xs.Pairwise (fun x y=>¬enc y<enc x)->ys.Pairwise (fun x y=>¬enc y<enc x)->xs=ys
 | [],ys,p,_,_,_=>(List.Perm.nil_eq p).symm▸rfl
 | x::xs,[],p,_,_,_=>absurd p.length_eq (by simp)
 | x::xs,y::ys,p,hc,hx,hy=>by
  have hx':=List.pairwise_cons.mp hx
  have hy':=List.pairwise_cons.mp hy
  have m1:y∈x::xs:=p.mem_iff.mpr List.mem_cons_self
  have m2:x∈y::ys:=p.mem_iff.mp List.mem_cons_self
  have a1:¬enc y<enc x:=by
   rcases List.mem_cons.mp m1 with e|m
   .rw[e];exact List.lt_irrefl _
   .exact hx'.1 y m
  have a2:¬enc x<enc y:=by
   rcases List.mem_cons.mp m2 with e|m
   .rw[e];exact List.lt_irrefl _
   .exact hy'.1 x m
  have e:x=y:=enc_inj (hc.1 x List.mem_cons_self y m1) (hc.1 y m1 x List.mem_cons_self) (hc.2 x List.mem_cons_self) (hc.2 y m1) a2 a1
  subst e
  rw[up_uniq (List.Perm.cons_inv p) (hc.sub fun z hz=>List.mem_cons_of_mem _ hz) hx'.2 hy'.2]
theorem sortE_uniq{xs ys:List PyData}(p:xs.Perm ys)(hc:CmpA xs):sortE xs=sortE ys:=
 up_uniq ((sortE_perm xs).trans (p.trans (sortE_perm ys).symm)) (hc.sub fun x hx=>(sortE_perm xs).mem_iff.mp hx) (sortE_up xs) (sortE_up ys)
def LtAt(A:Around)(s:Shared)(u v:Value)(b:Bool):Prop:=∀(prog:Program) (w:World) (E:Value->Shared->Prop) (Q:Value->Shared->Prop),Q (.bool b) s->wpAny (model prog w) A (richCompare .Lt u v) Q E s
theorem LtAt.int{A:Around}{s:Shared}(a:Int)(t:Tok)(c:Int)(u:Tok):LtAt A s (.int a t) (.int c u) (decide (a<c)):=fun prog w E Q h=>
 (PyProof.Rows.lt_int h:wpAny (model prog w) A (compareOp .Lt (.int a t) (.int c u)) Q E s)
theorem LtAt.str{A:Around}{s:Shared}(a:Str)(t:Tok)(c:Str)(u:Tok):LtAt A s (.str a t) (.str c u) (sLt a c):=fun prog w E Q h=>
 (PyProof.Rows.lt_str h:wpAny (model prog w) A (compareOp .Lt (.str a t) (.str c u)) Q E s)
def PairAt(A:Around)(s:Shared):List Value->List Value->List PyData->List PyData->Prop
 | v::vs,w::ws,x::xs,y::ys=>SeqAt.EqAt A s v w (PyData.eqv x y)/\LtAt A s v w (ltD x y)/\PairAt A s vs ws xs ys
 | [],_,[],_=>True
 | _::_,[],_::_,[]=>True
 | _,_,_,_=>False
section
open PySem.SeqAt
open PySem.AutoSeq1 (wpAny_loadPart')
open PySem.MeetsSeq PySem.MeetsSeq2 PySem.MeetsSeq3
theorem tuple_lt_data(l b:Addr)(items items2:Array Value)(n n2:Nat)(dd dd2:Option Addr)(sl sl2:Array (Option Value))(xs ys:List PyData)(hi:items.toList.length=xs.length)(hj:items2.toList.length=ys.length) :
  Meets (Builtin.«tuple.__lt__» ⟨[.ref l,.ref b],[]⟩)
   (fun A R s=>s.heap.get? l=some {cls:=.type "tuple",dict:=dd,data:=.seq items n,slots:=sl}/\s.heap.get? b=some {cls:=.type "tuple",dict:=dd2,data:=.seq items2 n2,slots:=sl2}/\
    PairAt A.in1 s items.toList items2.toList xs ys/\R (.ok (.ret (.bool (ltL xs ys)))) s):=
 .of_wp fun prog w A R s h=>by
  obtain⟨hp,g,d,tk,os⟩:=s;obtain⟨hl,hb,hP,h⟩:=h
  have f2:=AutoSeq1.sub_tuple_tuple
  have z1:items.size=xs.length:=by rw[<-hi];simp
  have z2:items2.size=ys.length:=by rw[<-hj];simp
  wp_walk using wpAny_loadPart' hl,wpAny_loadPart' hb,wpAny_forIn_list _ (fun rest b s'=>b.1=none/\s'=⟨hp,g,d,tk,os⟩/\∃(vs ws:List Value) (ns' ms':List PyData),rest=vs.zip ws/\
   vs.length=ns'.length/\ws.length=ms'.length/\PairAt A.in1 ⟨hp,g,d,tk,os⟩ vs ws ns' ms'/\ns'.length+items2.size=ms'.length+items.size/\R (.ok (.ret (.bool (ltL ns' ms')))) ⟨hp,g,d,tk,os⟩) _
  case turn=>
   rintro⟨y,x⟩ rest b s' ⟨hb',rfl,vs,ws,ns',ms',hz,hvi,hwi,hpa,hlen,hR⟩
   cases vs with
   | nil=>rw[List.zip_nil_left]at hz;cases hz
   | cons v vs=>
    cases ws with
    | nil=>rw[List.zip_nil_right]at hz;cases hz
    | cons w' ws=>
     cases ns' with
     | nil=>cases hvi
     | cons n' ns'=>
      cases ms' with
      | nil=>cases hwi
      | cons m' ms'=>
       rw[List.zip_cons_cons]at hz
       injection hz with hyx hrest
       injection hyx with hy hx
       subst hy hx
       obtain⟨he,hlt,hpa'⟩:=hpa
       have hR':R (.ok (.ret (.bool (if PyData.eqv n' m'=true then ltL ns' ms' else ltD n' m')))) ⟨hp,g,d,tk,os⟩:=hR
       simp only[List.length_cons]at hlen hvi hwi
       refine wpAny_bind (he prog w _ _ ?_)
       cases hq:PyData.eqv n' m' with
       | true=>
        rw[hq,if_pos rfl]at hR'
        wp_walk
        exact⟨rfl,rfl,_,_,_,_,hrest,by omega,by omega,hpa',by omega,hR'⟩
       | false=>
        rw[hq,if_neg Bool.false_ne_true]at hR'
        have hri:=hlt prog w
        wp_walk using hri
        exact⟨_,rfl,by simpa using hR'⟩
  case fin=>
   rintro⟨b1,b2⟩ s' ⟨hb',rfl,vs,ws,ns',ms',hz,hvi,hwi,hpa,hlen,hR⟩
   simp only at hb'
   subst hb'
   have hv:ltL ns' ms'=decide (items.size<items2.size):=by
    cases ns' with
    | nil=>
     cases ms' with
     | nil=>
      simp only[List.length_nil]at hlen
      show false=_
      exact(decide_eq_false (by omega)).symm
     | cons c u=>
      simp only[List.length_nil,List.length_cons]at hlen
      show true=_
      exact(decide_eq_true (by omega)).symm
    | cons a t=>
     cases ms' with
     | nil=>
      simp only[List.length_nil,List.length_cons]at hlen
      show false=_
      exact(decide_eq_false (by omega)).symm
     | cons c u=>
      cases vs with
      | nil=>cases hvi
      | cons v vs=>
       cases ws with
       | nil=>cases hwi
       | cons w' ws=>
        rw[List.zip_cons_cons]at hz
        cases hz
   rw[hv]at hR
   wp_walk
   exact⟨_,rfl,by simpa [Builtin.Tuple.tupleCompareSizes]using hR⟩
  case h=>
   exact⟨rfl,rfl,items.toList,items2.toList,xs,ys,rfl,hi,hj,hP,by omega,h⟩
end
mutual
theorem ltAt_reads:∀(x y:PyData),Cmp x y->∀(A:Around) (s:Shared) (u v:Value) (as bs:List Addr),Reads s.heap u x as->Reads s.heap v y bs->x.canLay0=true->y.canLay0=true->
  A.units+min x.depth y.depth<cLine->LtAt A s u v (ltD x y)
 | .int a,.int b,_=>by
  intro A s u v as bs r1 r2 _ _ _
  cases r1;cases r2
  exact LtAt.int _ _ _ _
 | .str a,.str b,_=>by
  intro A s u v as bs r1 r2 _ _ _
  cases r1;cases r2
  exact LtAt.str _ _ _ _
 | .tuple xs,.tuple ys,hc=>by
  intro A s u v as bs r1 r2 h1 h2 hu
  cases r1 with
  | @tuple a o vs n _ _ e1 e2 e3 z=>
   cases r2 with
   | @tuple a' o' vs' n' _ _ f1 f2 f3 z'=>
    obtain⟨cls,dd,data,sl⟩:=o
    obtain⟨cls2,dd2,data2,sl2⟩:=o'
    simp only at e2 e3 f2 f3
    subst e2 e3 f2 f3
    intro prog w E Q hq
    have hp:=pairAt_reads xs ys hc A.in1 s _ _ _ _ z z' h1 h2 (SeqAt.room_in hu)
    exact richCompare_meets_room (op:=.Lt) ⟨_,e1,rfl⟩ ⟨_,f1,rfl⟩ PySem.F.slot_tuple_lt PySem.F.entry_tuple_lt (PySem.F.args_tuple_lt_2 _ _) (tuple_lt_data a a' vs vs' n n' dd dd2 sl sl2 xs ys (SeqAt.ReadsAll.length _ _ _ z) (SeqAt.ReadsAll.length _ _ _ z'))
     ⟨e1,f1,hp,show Value.bool (ltL xs ys)≠Value.notImplemented/\Q (.bool (ltL xs ys)) s from ⟨(fun x=>nomatch x),hq⟩⟩ (SeqAt.room_here hu)
theorem pairAt_reads:∀(xs ys:List PyData),CmpL xs ys->∀(A:Around) (s:Shared) (vs ws:List Value) (as bs:List Addr),ReadsAll s.heap vs xs as->ReadsAll s.heap ws ys bs->PyData.canLayAll0 xs=true->PyData.canLayAll0 ys=true->
  A.units+min (PyData.depthAll xs) (PyData.depthAll ys)<cLine->PairAt A s vs ws xs ys
 | [],_,_=>by
  intro A s vs ws as bs r1 r2 _ _ _
  cases r1
  cases r2 with
  | nil=>exact True.intro
  | cons _ _=>exact True.intro
 | x::xs,[],_=>by
  intro A s vs ws as bs r1 r2 _ _ _
  cases r1;cases r2
  exact True.intro
 | x::xs,y::ys,hc=>by
  intro A s vs ws as bs r1 r2 h1 h2 hu
  have h1':x.canLay0=true/\PyData.canLayAll0 xs=true:=by simpa [PyData.canLayAll0]using h1
  have h2':y.canLay0=true/\PyData.canLayAll0 ys=true:=by simpa [PyData.canLayAll0]using h2
  cases r1 with
  | cons ra rb=>
   cases r2 with
   | cons rc rd=>
    exact⟨SeqAt.eqAt_reads x y A s _ _ _ _ ra rc h1'.1 h2'.1 (SeqAt.room_head hu),ltAt_reads x y (show Cmp x y/\CmpL xs ys from hc).1 A s _ _ _ _ ra rc h1'.1 h2'.1 (SeqAt.room_head hu),
     pairAt_reads xs ys (show Cmp x y/\CmpL xs ys from hc).2 A s _ _ _ _ rb rd h1'.2 h2'.2 (SeqAt.room_tail hu)⟩
end
section
variable{prog:Program}{w:World}{A:Around}{E:Value->Shared->Prop}{s:Shared}{Q:Bool->Shared->Prop}
theorem lex_data{b fin:Bool}:∀(xs ys:List PyData) (vs ws:List Value) (i:Nat),(b=false\/0<i)->vs.length=xs.length->ws.length=ys.length->PairAt A s vs ws xs ys->fin=decide (xs.length<ys.length)->Q (ltL xs ys) s->
  PySem.W.KatLex prog w A b fin Q (vs.zip ws) i s
 | [],ys,vs,ws,i,hb,l1,l2,hp,hf,q=>by
  cases vs with
  | cons v vs=>cases l1
  | nil=>
   rw[List.zip_nil_left]
   refine PySem.W.kat_nil ?_
   rw[hf]
   cases ys with
   | nil=>exact q
   | cons y ys=>exact q
 | x::xs,[],vs,ws,i,hb,l1,l2,hp,hf,q=>by
  cases ws with
  | cons v vs=>cases l2
  | nil=>
   rw[List.zip_nil_right]
   refine PySem.W.kat_nil ?_
   rw[hf]
   exact q
 | x::xs,y::ys,vs,ws,i,hb,l1,l2,hp,hf,q=>by
  cases vs with
  | nil=>cases l1
  | cons v vs=>
   cases ws with
   | nil=>cases l2
   | cons w' ws=>
    rw[List.zip_cons_cons]
    obtain⟨he,hlt,hp'⟩:=hp
    have q':Q (if PyData.eqv x y=true then ltL xs ys else ltD x y) s:=q
    refine PySem.W.kat_cons (he prog w _ _ ?_)
    cases hq:PyData.eqv x y with
    | true=>
     rw[hq,if_pos rfl]at q'
     refine PySem.W.kat_yes (lex_data xs ys vs ws (i+1) (.inr (Nat.succ_pos _)) (by simpa using l1) (by simpa using l2) hp' ?_ q')
     rw[hf]
     simp
    | false=>
     rw[hq,if_neg Bool.false_ne_true]at q'
     refine PySem.W.kat_no ?_
     have hb':(b&&i==0)=false:=by
      rcases hb with h|h
      .rw[h];rfl
      .have:(i==0)=false:=by simp;omega
       rw[this];simp
     rw[hb']
     exact PySem.W.kat_one _ _ (hlt prog w _ _ q')
theorem key_lt{u v:Value}{x y:PyData}{as bs:List Addr}(r1:Reads s.heap u x as)(r2:Reads s.heap v y bs)(hx:∃xs,x=.tuple xs)(hy:∃ys,y=.tuple ys)(l1:x.canLay0=true)(l2:y.canLay0=true)(hc:Cmp x y)
  (hu:A.units+min x.depth y.depth<cLine) (q:Q (ltD x y) s):wpAny (model prog w) A (keyLt' (tuples' false) u v) Q E s:=by
 obtain⟨xs,rfl⟩:=hx
 obtain⟨ys,rfl⟩:=hy
 cases r1 with
 | @tuple a o vs n _ _ e1 e2 e3 z=>
  cases r2 with
  | @tuple a' o' vs' n' _ _ f1 f2 f3 z'=>
   have k1:=SeqAt.ReadsAll.length _ _ _ z
   have k2:=SeqAt.ReadsAll.length _ _ _ z'
   refine PySem.W.kat_lt e1 e3 f1 f3 (lex_data xs ys _ _ 0 (.inl rfl) k1 k2 (pairAt_reads xs ys hc A s _ _ _ _ z z' l1 l2 ?_) ?_ q)
   .have h1:(PyData.tuple xs).depth=PyData.depthAll xs+1:=rfl
    have h2:(PyData.tuple ys).depth=PyData.depthAll ys+1:=rfl
    rw[h1,h2]at hu
    omega
   .rw[Array.length_toList]at k1 k2
    rw[k1,k2]
end
def TT(d:PyData):Prop:=∃r rest,d=.tuple (.tuple r::rest)
theorem kinds_tt{h:Heap}:∀(os:List Value) (ds:List PyData),os.length=ds.length->(∀(i:Nat) v d,os[i]?=some v->ds[i]?=some d->TT d/\∃as,Reads h v d as)->
  ∃fs:List Value,PySem.W.KatTups h os fs/\fs.length=os.length/\∀v∈fs,∃a o,v=.ref a/\h.get? a=some o/\o.cls=.type "tuple"
 | [],_,_,_=>⟨[],trivial,rfl,fun v hv=>by cases hv⟩
 | v::os,[],hl,_=>by cases hl
 | v::os,d::ds,hl,hr=>by
  obtain⟨⟨r,rest,rfl⟩,as,rd⟩:=hr 0 v d rfl rfl
  obtain⟨fs,k1,k2,k3⟩:=kinds_tt os ds (by simpa using hl) fun i v d h1 h2=>hr (i+1) v d (by simpa using h1) (by simpa using h2)
  cases rd with
  | @tuple a o vs n _ _ e1 e2 e3 z=>
   generalize hv:vs.toList=vl at z
   cases z with
   | cons ra rb=>
    cases ra with
    | @tuple a' o' vs' n' _ _ f1 f2 f3 z'=>
     refine⟨.ref a'::fs,PySem.W.KatTups.cons e1 e2 e3 (by rw[<-Array.getElem?_toList,hv];rfl) k1,by rw[List.length_cons,List.length_cons,k2],fun v hv=>?_⟩
     rcases List.mem_cons.mp hv with rfl|hv
     .exact⟨a',o',rfl,f1,f2⟩
     .exact k3 v hv
section
variable{X:Cx}
theorem mt_lower:MtR X "str.lower" (fun x vs H Q=>∃c:Nat,x=.str ⟨#[c]⟩/\vs=[]/\c<128/\Q (.str ⟨#[lo1 c]⟩) H):=by
 intro pins s σ H x vs v us Q I rx rv h
 obtain⟨c,rfl,rfl,hc,q⟩:=h
 obtain⟨t,rfl⟩:=rx
 have hus:=rv.zero
 subst hus
 refine SC.lower (fit_lower (by show 1<=5592405;omega)) ⟨.str _,H,I.tok _,⟨_,rfl⟩,?_⟩
 rw[lower_ascii (fun d hd=>by have e:d=c:=by simpa using hd
                              omega)]
 simpa using q
end
end L3
namespace HT
open PySem PyProof.Rows
end HT
namespace L3
open PySem PySem.Spec PyProof.Rows L2
end L3
namespace L3
open PySem PyProof.Rows L2
def Df(K:PySem.W.Frag)(n:Str)(st:Stmt):Prop:=∃f fd,PySem.W.nsIn K mainGlobals n=some (some (.ref f))/\Fun K n n st f fd
theorem df_mk{K:PySem.W.Frag}{n:Str}{st:Stmt}{f:Addr}{oc:Value}{od an:Option Addr}{sl:Array (Option Value)}{kV dc pm cd ct:Value}(a:PySem.W.nsIn K mainGlobals n=some (some (.ref f)))
  (l:K.lookup f=some ⟨oc,od,.func (PySem.W.fnOf n n (defArgs st) (defBody st) (defScope st) .none kV dc pm an cd ct),sl⟩) (c:PySem.W.codeIn K cd n=true) (k:PySem.W.keepIn K (.ref f)=true):Df K n st:=⟨f,_,a,fun_mk l c k⟩
theorem Df.fn{P:Program}{w:World}{K:PySem.W.Frag}{h base:Heap}{mg:Str->Option Value}{n:Str}{st:Stmt}{d:Nat}{ps:List Str}{sp:Sp}(D:Df K n st)(X:K.In h)(G:h.Ns mainGlobals mg)(ok:∀{f fd},Fun K n n st f fd->FnOk P w K mg base CX0 d f fd ps sp)
  (b:∀(kV doc pm:Value) (an:Option Addr) (cdv ct:Value) (us:List Value),us.length=ps.length->bindArgs (PySem.W.fnOf n n (defArgs st) (defBody st) (defScope st) .none kV doc pm an cdv ct) ⟨us,[]⟩=pure (ps.zip us):=by
   intro _ _ _ _ _ _ us hl
   first
   | exact(match us,hl with|[_],_=>rfl)
   | exact(match us,hl with|[_,_],_=>rfl)
   | exact(match us,hl with|[_,_,_],_=>rfl)
   | exact(match us,hl with|[_,_,_,_],_=>rfl)):Fn P w K mg base n d ps sp:=by
 obtain⟨f,fd,a,F⟩:=D
 exact⟨f,fd,ok F,PySem.W.mg_of X G a,F.kp,F.binds b⟩
end L3
namespace L3
open PySem PySem.Spec PyProof.Rows L2
theorem cmp_ord{ds:List PyData}(h:CmpA ds):OrdD ltD ds:=⟨fun x hx y hy q=>by
  rw[ltD_enc (h.1 x hx y hy)]at q
  rw[ltD_enc (h.1 y hy x hx)]
  exact decide_eq_false (List.lt_asymm (of_decide_eq_true q)),fun x hx y hy z hz q1 q2=>by
  rw[ltD_enc (h.1 y hy x hx)]at q1
  rw[ltD_enc (h.1 z hz y hy)]at q2
  rw[ltD_enc (h.1 z hz x hx)]
  have h1:enc x<=enc y:=of_decide_eq_false q1
  have h2:enc y<=enc z:=of_decide_eq_false q2
  exact decide_eq_false (List.le_trans h1 h2)⟩
section
variable{X:Cx}
theorem call_sortedF(hu:X.A.units+64<cLine):CallR X (.builtin "sorted") (fun vs H Q=>∃p xs ds,vs=[.ref p]/\H p=some (.lst xs)/\RepAll H ds xs/\(∀d∈ds,KeyD d/\TT d)/\CmpA ds/\
  ∀l ys,H l=none->RepAll (upd H l (.lst ys)) (sortE ds) ys->Q (.ref l) (upd H l (.lst ys))):=by
 intro pins s σ H xs us Q I r h
 obtain⟨p,xs,ds,rfl,hp,hds,hkey,hcmp,q⟩:=h
 obtain⟨u,rfl,r1⟩:=vals1 r
 cases (show u=Value.ref p from r1)
 obtain⟨its,rv,pl,hz⟩:=I.list (SqL.of (K:=X.K) hp)
 have l1:xs.length=ds.length:=hds.length
 have l2:xs.length=its.length:=rv.length
 obtain⟨as,rds⟩:=RepAll.reads I hds rv
 have hlay:=hds.lay
 refine sorted_data (κ:=tuples' false) (lt:=ltD) I hp hds rv pl.isList (by omega) (cmp_ord hcmp) (fun h2 s' k Q' E' hq=>?_) (fun s' k i j d e u v di ui dj vj Q' hq=>?_) (fun l ys es hl pe ue re=>?_)
 .obtain⟨fs,k1,k2,k3⟩:=kinds_tt (h:=s'.heap) its ds (by omega) fun i v d h1 h2=>by
   obtain⟨bs,rd⟩:=reads_at rds h1 h2
   exact⟨(hkey d (List.mem_of_getElem? h2)).2,bs,Reads.keeps k rd⟩
  refine PySem.W.kat_kind (T:=Value.type "tuple") k1 (by omega) (fun v hv=>?_) rfl hq
  obtain⟨a,o,rfl,g1,g2⟩:=k3 v hv
  rw[<-g2]
  exact(PySem.W.Looks.ld g1).andThen .now
 .obtain⟨bs,rd⟩:=reads_at rds ui di
  obtain⟨bs',rd'⟩:=reads_at rds vj dj
  have m1:=List.mem_of_getElem? di
  have m2:=List.mem_of_getElem? dj
  refine key_lt (Reads.keeps k rd) (Reads.keeps k rd') (hkey _ m1).1.2.1 (hkey _ m2).1.2.1 (lay_mem hlay _ m1) (lay_mem hlay _ m2) (hcmp.1 _ m1 _ m2) ?_ hq
  have:=(hkey _ m1).1.2.2
  have:=Nat.min_le_left d.depth e.depth
  show X.A.units+1+1+_<_
  omega
 .have ee:es=sortE ds:=by
   refine up_uniq (pe.trans (sortE_perm ds).symm) (hcmp.sub fun x hx=>pe.mem_iff.mp hx) (List.Pairwise.imp_of_mem (fun{a b} ha hb hab=>?_) ue) (sortE_up ds)
   rw[ltD_enc (hcmp.1 _ (pe.mem_iff.mp hb) _ (pe.mem_iff.mp ha))]at hab
   exact of_decide_eq_false hab
  rw[ee]at re
  exact q l ys hl re
end
def Jel(K:PySem.W.Frag)(a:Addr):It:=
 ⟨fun i H=>∃xs x,SqL K H a xs/\xs[i]?=some x,fun i H v H'=>∃p x,H p=none/\v=.ref p/\H'=upd H p (.tup [.int i,x])/\∀xs,SqL K H a xs->xs[i]?=some x,fun i H=>∃xs,SqL K H a xs/\xs.length<=i⟩
theorem turn_enumL{P:Program}{w:World}{K:PySem.W.Frag}{elts:List Expr}{x1}{pos:Pos}(a e I:Addr)(hne:e≠I) :
  Turn P w K (.Tuple elts x1 pos) (Jel K a) [e,I] e (fun i h=>(∃old,IsEnum h e I i old)/\h.IsListIter I a i):=by
 refine turn_enum (Jel K a) e I hne (fun i h=>h.IsListIter I a i) (fun i h st=>?_) (fun i h h' st k=>?_) (fun X hP hw hK i pins s σ H Iv st hg=>?_) (fun X hP hw hK i pins s σ H Iv st hg A' R E' hh q=>?_)
 .obtain⟨o,ho,c,d⟩:=st
  exact⟨o,ho,fun v z=>by rw[d]at z;cases z⟩
 .obtain⟨o,ho,r⟩:=st
  exact⟨o,k o ho,r⟩
 .subst hP hw hK
  obtain⟨xs,x,hq,hx⟩:=hg
  obtain⟨its,rv,p,hz⟩:=Iv.list hq
  obtain⟨u,hu,ru⟩:=rv.get hx
  refine⟨fun u'=>u'=u,fun u' hu'=>?_,fun A' R E' q=>?_⟩
  .subst hu'
   exact⟨x,ru,s.heap.objs.size,x,Iv.hok.fresh (Nat.le_refl _),rfl,rfl,fun ys hy=>by rw[Iv.list_inj hy hq];exact hx⟩
  .exact wpAny_nextOf_list_item st p.isList (x:=u) (by simpa using hu) fun g st' sb=>q u g s.toks rfl st' sb
 .subst hP hw hK
  obtain⟨xs,hq,hx⟩:=hg
  obtain⟨its,rv,p,hz⟩:=Iv.list hq
  have hl:=rv.length
  exact wpAny_nextOf_list_end hh st p.isList (by simp;omega) q
section
variable{X:Cx}{elts:List Expr}{x1:Nat}{tpos p pos:Pos}{a:Expr}{ta:TA}
def iEnL(K:PySem.W.Frag)(ta:TA):TI:=fun σ H R=>ta σ H fun vs H1=>∃a,vs=[.ref a]/\(∃xs,SqL K H1 a xs)/\R (Jel K a) H1
theorem pi_enL(hg:Gl X "enumerate")(hm:X.mg "enumerate" = none)(ha:PA X [a] ta)(hs:notStar a=true:=by rfl):PI X (.Tuple elts x1 tpos) (.Call (.Name "enumerate" p) [a] [] pos) (iEnL X.K ta):=by
 intro pins s σ H R I h
 refine Call_ (ld_blt I hg hm boot_enumerate (PyProof.Rows.callWith_type1 (thn (ha pos pins s σ H _ I h) fun us s1 ⟨vs,H1,I1,r1,q1⟩=>?_) (star_cons hs) rfl))
 obtain⟨b,e,⟨xs,hq⟩,q⟩:=q1
 subst e
 obtain⟨u,rfl,ru⟩:=vals1 r1
 cases (show u=Value.ref b from ru)
 obtain⟨its,rv,pl,hz⟩:=I1.list hq
 refine call_enumerate_list (l:=b) pl.isList fun g he hi _ kp=>wpAny_pyIter_enum (s:={s1 with heap:=g}) he ?_
 refine⟨s1.heap.objs.size+1,[s1.heap.objs.size+1,s1.heap.objs.size],_,_,H1,rfl,I1.kept (t':=s1.toks) kp,turn_enumL b (s1.heap.objs.size+1) s1.heap.objs.size (Nat.succ_ne_self _),⟨⟨_,he⟩,hi⟩,fun c hc=>?_,q⟩
 rcases List.mem_cons.mp hc with z|z
 .subst z;exact I1.fpOk (by omega) (I1.hok.fresh (by omega))
 .rw[List.mem_singleton.mp z];exact I1.fpOk (Nat.le_refl _) (I1.hok.fresh (Nat.le_refl _))
end
theorem for_enL{K:PySem.W.Frag}{a:Addr}{xs:List V}{g:TG}{tb:TS}{D:Ends}{σ:L2.St}{H:Hp}(Pv:Nat->L2.St->Hp->Prop)(h0:Pv 0 σ H)(hl:∀i σ H,Pv i σ H->SqL K H a xs)
  (hs:∀i x p σ H,xs[i]?=some x->H p=none->Pv i σ H->g (.ref p) σ (upd H p (.tup [.int (i:Nat),x])) fun σ2 H2=>tb {D with nx:=Pv (i+1),ct:=Pv (i+1),bk:=D.nx} σ2 H2) (hd:∀σ H,Pv xs.length σ H->D.nx σ H) :
  ∃W:Nat->Nat->L2.St->Hp->Prop,(∃m,W 0 m σ H)/\∀i m σ H,W i m σ H->
   ((Jel K a).stop i H/\D.nx σ H)\/((Jel K a).go i H/\∃N:L2.St->Hp->Prop,(∀σ' H',N σ' H'->∃m',m'<m/\W (i+1) m' σ' H')/\∀v H',(Jel K a).yld i H v H'->g v σ H' fun σ2 H2=>tb {D with nx:=N,ct:=N,bk:=D.nx} σ2 H2):=by
 refine for_any (Jel K a) xs.length Pv h0 (fun i σ H hi p=>⟨xs,xs[i],hl i σ H p,by simp[hi]⟩) (fun σ H p=>⟨xs,hl _ σ H p,Nat.le_refl _⟩) (fun i v σ H H' hi p y=>?_) hd
 obtain⟨b,x,hb,rfl,rfl,hx⟩:=y
 exact hs i x b σ H (hx xs (hl i σ H p)) hb p
theorem comp_enL{K:PySem.W.Frag}{a:Addr}{xs:List V}{sl:List (Option Nat)}{g:TG}{tt:L2.TT}{te:TE}{σ:L2.St}{H1:Hp}{D:Addr}{Q:VK}(Pv:Nat->List V->Hp->Prop)(h0:Pv 0 [] (upd H1 D (.lst [])))(hl:∀i ys H,Pv i ys H->SqL K H a xs)
  (hs:∀i x p zs G,xs[i]?=some x->G p=none->G D=some (.lst zs)->zs.length<=i->Pv i zs G->g (.ref p) (picks sl σ) (upd G p (.tup [.int (i:Nat),x])) fun σ2 H2=>Agree (picks sl σ) σ2/\tt σ2 H2 fun b H3=>
   if b=true then te σ2 H3 fun y H4=>∃xs,H4 D=some (.lst xs)/\xs.length<sizeLine/\Nx D i Pv (upd H4 D (.lst (xs++[y])))else Nx D i Pv H3)
  (hd:∀zs G,G D=some (.lst zs)->zs.length<=xs.length->Pv xs.length zs G->Q (.ref D) G):CompR (Jel K a) sl g tt te σ H1 D Q:=by
 refine comp_by (Jel K a) xs.length Pv h0 (fun i zs G hi p=>⟨xs,xs[i],hl i zs G p,by simp[hi]⟩) (fun zs G p=>⟨xs,hl _ zs G p,Nat.le_refl _⟩) (fun i v zs G G' hi y hD hzl p=>?_) hd
 obtain⟨b,x,hb,rfl,rfl,hx⟩:=y
 exact hs i x b zs G (hx xs (hl i zs G p)) hb hD hzl p
end L3
namespace L2
open PySem PySem.Spec PyProof.Rows
theorem dt_empty{P:Program}{w:World}{H:Hp}(h:Heap)(hb:sysModules<h.objs.size):ObjOk P w H (h.push {cls:=.type "dict",data:=.dict #[]}) h.objs.size (.dT []):=
 ⟨Nat.zero_le _,beq_eq_false_iff_ne.mpr (Ne.symm (Nat.ne_of_lt hb)),[],.nil,_,#[],0,Heap.get?_push_size _ rfl,⟨rfl,rfl,rfl⟩,rfl,rfl,List.nodup_nil⟩
def tDNewT:TE:=fun _ H Q=>∀p,H p=none->Q (.ref p) (upd H p (.dT []))
section
variable{X:Cx}{pos:Pos}
theorem pe_dnewT:PE X (.Dict [] [] pos) tDNewT:=fun pins s σ H Q I h=>
 wpAny_Dict_empty ⟨.ref s.heap.objs.size,_,I.laid (a:=s.heap.objs.size) (o:=.dT []) (t':=s.toks) (fun _ _ q=>Heap.get?_push_of_some _ q) (Nat.le_refl _) (dt_empty s.heap I.big),rfl,h _ (I.hok.fresh (Nat.le_refl _))⟩
end
end L2
set_option pp.maxSteps 3000
namespace L3
open PySem
open AutoSeq1 (wpAny_loadPart')
theorem mro_rev:mroOf (.type "reversed")=pure [.type "reversed",.type "object"]:=by rw[mroOf_type];kernel_rfl
theorem lookup_rev_new:typeLookup (.type "reversed") "__new__" = pure (some (.builtin "reversed.__new__")):=by rw[typeLookup_type,builtinLookup_eq_fast];kernel_rfl
theorem made_rev:Bind.madeBy (.type "reversed")=pure (some "reversed.__new__"):=madeBy_type mro_rev lookup_rev_new (by decide +kernel)
theorem typeCall_rev(a:Value):checkTypeCall "reversed" ⟨[a],[]⟩=pure ():=by kernel_rfl
theorem newCall_rev(a:Value):checkBuiltinCall "reversed.__new__" ⟨[.type "reversed",a],[]⟩=pure ():=by kernel_rfl
theorem entry_rev_new:entryFor table "reversed.__new__" = some Builtin.«reversed.__new__»:=entryFor_of_tree (by kernel_rfl)
theorem sub_rev:isSubtype (.type "reversed") (.type "reversed")=pure true:=by rw[isSubtype_type];kernel_rfl
theorem sub_rev2:isSubtype (.type "list_reverseiterator") (.type "reversed")=pure false:=by rw[isSubtype_type];kernel_rfl
theorem slot_revit_next:Slot "list_reverseiterator" "__next__" "list_reverseiterator.__next__":=
 .of (owner:="list_reverseiterator") (n:="__next__") (by rw[typeLookup_type,builtinLookup_eq_fast];kernel_rfl) (by decide +kernel) (by decide +kernel) (by decide +kernel)
  (by first|exact .inl (by decide +kernel)|exact .inr (by decide +kernel)) (by rw[isSubtype_type];kernel_rfl)
theorem slot_revit_iter:Slot "list_reverseiterator" "__iter__" "list_reverseiterator.__iter__":=
 .of (owner:="list_reverseiterator") (n:="__iter__") (by rw[typeLookup_type,builtinLookup_eq_fast];kernel_rfl) (by decide +kernel) (by decide +kernel) (by decide +kernel)
  (by first|exact .inl (by decide +kernel)|exact .inr (by decide +kernel)) (by rw[isSubtype_type];kernel_rfl)
theorem entry_revit_next:entryFor table "list_reverseiterator.__next__" = some Builtin.«list_reverseiterator.__next__»:=entryFor_of_tree (by kernel_rfl)
theorem entry_revit_iter:entryFor table "list_reverseiterator.__iter__" = some Builtin.«dict_keyiterator.__iter__»:=
 entryFor_alias (id':="dict_keyiterator.__iter__") (by kernel_rfl) (by first|rfl|decide +kernel|(unfold String.splitOn;simp +decide [String.splitOnAux])) (by decide +kernel) (by kernel_rfl)
theorem args_revit_next(a:Value):argsOk "list_reverseiterator.__next__" ⟨[a],[]⟩:=by unfold argsOk;kernel_rfl
theorem args_revit_iter(a:Value):argsOk "list_reverseiterator.__iter__" ⟨[a],[]⟩:=by unfold argsOk;kernel_rfl
theorem revit_len:typeLookup (.type "list_reverseiterator") "__len__" = pure none:=by rw[typeLookup_type,builtinLookup_eq_fast];kernel_rfl
theorem revit_hint:typeLookup (.type "list_reverseiterator") "__length_hint__" = pure (some (.builtin "list_reverseiterator.__length_hint__")):=by rw[typeLookup_type,builtinLookup_eq_fast];kernel_rfl
theorem meets_rev(l:Addr)(items:Array Value)(n:Nat) :
  Meets (Builtin.«reversed.__new__» ⟨[.type "reversed",.ref l],[]⟩) (fun _ R s=>s.heap.get? l=some {cls:=.type "list",dict:=none,data:=.seq items n,slots:=#[]}/\
   R (.ok (.ret (.ref s.heap.objs.size))) {s with heap:=s.heap.push {cls:=.type "list_reverseiterator",data:=.fields #[.ref l,rawInt (((items.size:Nat):Int)-1)]}}):=
 .of_wp fun prog w A R s h=>by
  obtain⟨hp,g,d,tk,os⟩:=s;obtain⟨hl,h⟩:=h
  have hsub:=sub_rev
  have hT:Shared.TypeIs ⟨hp,g,d,tk,os⟩ (.ref l) "list":=⟨_,hl,rfl⟩
  have hlk:=F.slot_list_reversed.lookup
  have hbi:=F.slot_list_reversed.bind (.ref l)
  wp_walk
  refine codeAny_mono (codeAny_call_builtin F.slot_list_reversed.plain F.entry_list_reversed (F.slot_list_reversed.check _ _ _ _ _ _ _ _ hT (F.args_list_reversed_1 _) (AutoListH.list___reversed___list_0 l items n prog w A.in1 (wants (fun v s'=>v=.ref hp.objs.size/\s'=⟨hp.push {cls:=.type "list_reverseiterator",data:=.fields #[.ref l,rawInt (((items.size:Nat):Int)-1)]},g,d,tk,os⟩) (fun _ _=>False)) _ ⟨hl,⟨rfl,rfl⟩⟩))) fun r s₁ hr=>?_
  cases r with
  | error e=>exact hr.elim
  | ok fl=>
   cases fl with
   | ret obj=>
    obtain⟨rfl,rfl⟩:=hr
    exact wpAny_pure ⟨_,rfl,h⟩
   | _=>exact hr.elim
section
variable{prog:Program}{w:World}{A:Around}{E:Value->Shared->Prop}{s:Shared}
theorem call_rev{l:Addr}{items:Array Value}{n:Nat}{Q:Value->Shared->Prop}(hl:s.heap.get? l=some {cls:=.type "list",dict:=none,data:=.seq items n,slots:=#[]})
  (h:Q (.ref s.heap.objs.size) {s with heap:=s.heap.push {cls:=.type "list_reverseiterator",data:=.fields #[.ref l,rawInt (((items.size:Nat):Int)-1)]}}) :
  wpAny (model prog w) A (call (.type "reversed") [.ref l]) Q E s:=by
 have hmro:=mro_rev
 have hmade:=made_rev
 have hct:=typeCall_rev (.ref l)
 have hsub:=sub_rev2
 refine wpAny_call (codeAny_of_tree ?_)
 show wpAny _ _ (callAny (.type "reversed") _) _ _ _
 refine wpAny_pure ⟨Code.quiet_builtin _ (by decide +kernel),codeAny_builtin F.entry_type_call ?_⟩
 rw[Around.under_plain (weight_type_call_type "reversed" _ []) (units_type_call_type "reversed" _ [])]
 have h1:(Value.type "reversed" == Value.type "type")=false:=by decide +kernel
 have h2:((Manifest.find? "reversed").bind (·.mro.findSome? fun t=>(Manifest.find? t).bind fun b=>if b.noNew then some true else if b.attrs.any (·.1 == "__new__")then some false else none)).getD false=false:=by decide +kernel
 repeat (any_goals (first|assumption|wp_step))
 refine codeAny_mono (codeAny_call_builtin (by decide +kernel) entry_rev_new (wpAny_of_eq (newCall_rev _) (meets_rev l items n prog w A.in1 (wants (fun v s'=>v=.ref s.heap.objs.size/\s'={s with heap:=s.heap.push {cls:=.type "list_reverseiterator",data:=.fields #[.ref l,rawInt (((items.size:Nat):Int)-1)]}}) (fun _ _=>False)) s ⟨hl,⟨rfl,rfl⟩⟩))) fun r s₁ hr=>?_
 cases r with
 | error e=>exact hr.elim
 | ok fl=>
  cases fl with
  | ret obj=>
   obtain⟨rfl,rfl⟩:=hr
   have hT:Shared.TypeIs {s with heap:=s.heap.push {cls:=.type "list_reverseiterator",data:=.fields #[.ref l,rawInt (((items.size:Nat):Int)-1)]}} (.ref s.heap.objs.size) "list_reverseiterator":=⟨_,Heap.get?_push_size _ rfl,rfl⟩
   repeat (any_goals (first|assumption|wp_step))
  | _=>exact hr.elim
end
def IsRevIter(h:Heap)(I l:Addr)(i:Int):Prop:=∃o,h.get? I=some o/\o.cls=.type "list_reverseiterator"/\o.data=.fields #[.ref l,.int i 0]
theorem IsRevIter.at{h h':Heap}{I l:Addr}{i:Int}(a:IsRevIter h I l i)(k:∀o,h.get? I=some o->h'.get? I=some o):IsRevIter h' I l i:=by
 obtain⟨o,ho,r⟩:=a
 exact⟨o,k o ho,r⟩
section
variable{prog:Program}{w:World}{A:Around}{E:Value->Shared->Prop}{s:Shared}
theorem next_rev{I l:Addr}{i:Nat}{items:Array Value}{x:Value}{Q:Option Value->Shared->Prop}(hit:IsRevIter s.heap I l i)(hl:s.heap.IsList l items)(hx:items[i]?=some x)
  (hQ:∀h',IsRevIter h' I l ((i:Int)-1)->Heap.SameBut I s.heap h'->Q (some x) {s with heap:=h'}):wpAny (model prog w) A (pyNext (.ref I)) Q E s:=by
 obtain⟨o,ho,hc,hd⟩:=id hit
 obtain⟨ol,hol,_,nl,hdl⟩:=hl
 have hT:s.TypeIs (.ref I) "list_reverseiterator":=⟨o,ho,hc⟩
 unfold pyNext
 refine wpAny_bind (wpAny_attempt (wpAny_callSpecial?_slot (name:=Str.ofString "__next__") hT slot_revit_next (wpAny_call_entry slot_revit_next hT entry_revit_next ?_ (args_revit_next _))))
 show wpAny _ _ (field (.ref I) 1 >>= _) _ _ s
 refine wpAny_bind (wpAny_field ho hd (x:=.int i 0) rfl ?_)
 show wpAny _ _ (if ((i:Int)<0)then _ else _) _ _ s
 rw[if_neg (by omega)]
 show wpAny _ _ (field (.ref I) 0 >>= _) _ _ s
 refine wpAny_bind (wpAny_field ho hd (x:=.ref l) rfl ?_)
 refine wpAny_bind (wpAny_seqItems hol hdl ?_)
 simp only[Int.toNat_natCast,hx]
 refine wpAny_bind (wpAny_setField ho hd (by simp) (wpAny_pure ⟨x,rfl,wpAny_pure (hQ _ ?_ (Heap.SameBut.update ..))⟩))
 exact⟨_,Heap.get?_update_self _ ho (Obj.isFreed_of_fields (Obj.data_mapFields hd _)),(Obj.cls_mapFields ..).trans hc,by
  rw[Obj.data_mapFields hd];simp[rawInt]⟩
theorem next_rev_end{I l:Addr}{i:Int}{Q:Option Value->Shared->Prop}(hh:A.handled=none)(hit:IsRevIter s.heap I l i)(hi:i<0)
  (hQ:∀h',Heap.ExtBut I s.heap h'->Q none {s with heap:=h'}):wpAny (model prog w) A (pyNext (.ref I)) Q E s:=by
 obtain⟨o,ho,hc,hd⟩:=id hit
 have hT:s.TypeIs (.ref I) "list_reverseiterator":=⟨o,ho,hc⟩
 unfold pyNext
 refine wpAny_bind (wpAny_attempt (wpAny_callSpecial?_slot (name:=Str.ofString "__next__") hT slot_revit_next (wpAny_call_entry slot_revit_next hT entry_revit_next ?_ (args_revit_next _))))
 show wpAny _ _ (field (.ref I) 1 >>= _) _ _ s
 refine wpAny_bind (wpAny_field ho hd (x:=.int i 0) rfl ?_)
 show wpAny _ _ (if (i<0)then _ else _) _ _ s
 rw[if_pos hi]
 refine wpAny_bind (wpAny_rule ?_)
 refine wpAny_bind ?_
 show wpAny _ _ (newExc (.type "StopIteration") [] >>= _) _ _ _
 refine wpAny_bind ?_
 simp only[newExc,newTuple]
 refine wpAny_bind (wpAny_newObj_type ?_ (by size_fits))
 refine wpAny_bind (m:=firstArgMember _ _) (wpAny_of_eq (a:=Value.none) (by first|rfl|(simp only[firstArgMember];rfl)) ?_)
 refine wpAny_newObj_type ?_ (by size_fits)
 simp only[raiseNew]
 refine wpAny_bind (wpAny_handled ?_)
 rw[show A.in1.handled=none from hh]
 refine wpAny_bind (wpAny_pure (wpAny_throw ?_))
 refine wpAny_bind (wpAny_isInstance (T:="StopIteration") (b:=true) ⟨_,Heap.get?_push_size _ rfl,rfl⟩ isSubtype_stop ?_)
 have r0:Heap.ExtBut I s.heap s.heap:=fun b o _ e=>e
 exact wpAny_pure (hQ _ ((r0.push _).push _))
theorem iter_rev{I l:Addr}{i:Int}{Q:Value->Shared->Prop}(hit:IsRevIter s.heap I l i)(h:Q (.ref I) s):wpAny (model prog w) A (pyIter (.ref I)) Q E s:=by
 obtain⟨o,ho,hc,hd⟩:=id hit
 have hT:s.TypeIs (.ref I) "list_reverseiterator":=⟨o,ho,hc⟩
 refine wpAny_pyIter_slot hT slot_revit_iter (wpAny_call_entry slot_revit_iter hT entry_revit_iter ?_ (args_revit_iter _))
 show wpAny _ _ (ret (.ref I)) _ _ s
 exact wpAny_pure ⟨_,rfl,"list_reverseiterator",_,hT,slot_revit_next.lookup,h⟩
end
theorem walks_rev{prog:Program}{w:World}{A:Around}(hh:A.handled=none)(I ax:Addr)(hne:ax≠I)(items:Array Value) :
  Walks prog w A I [I,ax] [I] items.size (fun i v=>items[items.size-1-i]?=some v) (fun i h=>IsRevIter h I ax ((items.size:Int)-1-i)/\h.IsList ax items)where
 sub:=fun b hb=>by simp at hb;simp[hb]
 frame:=fun _ _ _ st hk=>⟨st.1.at fun o e=>hk I (by simp) o e,st.2.at fun o e=>hk ax (by simp) o e⟩
 item:=fun i s Q E hi st hQ=>by
  have e:((items.size:Int)-1-i)=((items.size-1-i:Nat):Int):=by omega
  have hit:=st.1
  rw[e]at hit
  refine next_rev hit st.2 (x:=items[items.size-1-i]'(by omega)) (Array.getElem?_eq_getElem _) fun h' hit' hs'=>?_
  refine hQ _ h' s.toks (Array.getElem?_eq_getElem _) ⟨?_,st.2.extBut hs'.extBut hne⟩ fun b o hb e=>hs'.extBut b o (fun h=>hb (by simp[h])) e
  have e2:(((items.size-1-i:Nat):Int)-1)=(items.size:Int)-1-((i+1:Nat):Int):=by omega
  rw[e2]at hit'
  exact hit'
 done:=fun s Q E st hQ=>next_rev_end hh st.1 (by omega) fun h' he'=>hQ h' s.toks fun b o hb e=>he' b o (fun h=>hb (by simp[h])) e
 self:=fun _ _ _ _ st hQ=>iter_rev st.1 hQ
section
variable{prog:Program}{w:World}{A:Around}{E:Value->Shared->Prop}{s:Shared}
theorem hint_rev{I l:Addr}{i:Int}{Q:Bool->Shared->Prop}(hit:IsRevIter s.heap I l i)(h:Q false s):wpAny (model prog w) A (Builtin.List.listLengthHint (.ref I)) Q E s:=by
 obtain⟨o,ho,hc,hd⟩:=id hit
 have hT:s.TypeIs (.ref I) "list_reverseiterator":=⟨o,ho,hc⟩
 unfold Builtin.List.listLengthHint
 refine wpAny_bind (wpAny_specialOf (T:="list_reverseiterator") (v:=.ref I) hT revit_len ?_)
 refine(wpAny_bind (wpAny_specialOf (T:="list_reverseiterator") (v:=.ref I) hT revit_hint ?_):wpAny _ _ (specialOf (.ref I) "__length_hint__" >>= _) _ _ _)
 wp_delta
 refine wpAny_bind (wpAny_isInstance (T:="list_reverseiterator") (v:=.ref I) (b:=true) hT (by rw[isSubtype_type];kernel_rfl) ?_)
 exact wpAny_pure h
theorem extend_rev{R:Result->Shared->Prop}{I l:Addr}{items:Array Value}(hh:A.handled=none)(hit:IsRevIter s.heap I l ((items.size:Int)-1))(hl:s.heap.IsList l items)(hne:l≠I)(hz:items.size<=sizeLine)
  (S:Addr) (res:Value) (c₀:Nat) (hS:s.heap.get? S=some {cls:=.type "list",data:=.seq #[] c₀}) (hSl:S≠l)
  (hR:∀h' tk acc' c',(∀b o,b≠S->b≠I->s.heap.get? b=some o->h'.get? b=some o)->h'.get? S=some {cls:=.type "list",dict:=none,data:=.seq acc' c',slots:=#[]}->
   ItemsOf (fun i v=>items[items.size-1-i]?=some v) acc' items.size->R (.ok (.ret res)) {s with heap:=h',toks:=tk}) :
  wpAny (model prog w) A.in1 (Builtin.List.listExtendWith (.ref S) (.ref I) res)
   (fun fin s'=>match fin with|.done f=>R (.ok f) s'|.again c'=>c'.quiet=true/\codeAny (model prog w) A c' R s') (fun e s'=>R (.error e) s') s:=by
 obtain⟨o,ho,hc,hd⟩:=id hit
 have hT:s.TypeIs (.ref I) "list_reverseiterator":=⟨o,ho,hc⟩
 have hSI:S≠I:=fun e=>by rw[e,ho]at hS;cases hS;exact absurd (show Value.type "list" = Value.type "list_reverseiterator" from hc) (by decide)
 have hSf:S∉[I,l]:=fun hm=>by
  rcases List.mem_cons.mp hm with z|z
  .exact hSI z
  .exact hSl (List.mem_singleton.mp z)
 have W:=(walks_rev (prog:=prog) (w:=w) (A:=A.in1) hh I l hne items).toS
 unfold Builtin.List.listExtendWith
 refine wpAny_bind (wpAny_typeOf (T:="list_reverseiterator") hT ?_)
 have h1:Builtin.List.listSameRef (.ref S) (.ref I)=false:=by simp[Builtin.List.listSameRef,hSI]
 have h2:(Value.type "list_reverseiterator" == Value.type "list")=false:=by decide
 have h3:(Value.type "list_reverseiterator" == Value.type "tuple")=false:=by decide
 simp only[h1,h2,h3,Bool.or_false,Bool.false_eq_true,if_false]
 refine wpAny_bind (iter_rev hit ?_)
 refine wpAny_bind (wpAny_holding (hint_rev hit ?_))
 refine wpAny_ite_split (fun hab=>absurd hab (by decide)) (fun _=>wpAny_pure ⟨plainId_quiet F.plain_extend_loop _,?_⟩)
 refine codeAny_extend_loopS W hz S hSf res items.size 0 _ #[] c₀ rfl (Nat.zero_le _) ⟨by simpa using hit,hl⟩ hS (ItemsOf.nil _) fun s' acc' c' hm hS' hacc=>?_
 rw[Moved.eq_with hm]
 refine hR s'.heap s'.toks acc' c' (fun b ob hb hb2 e=>hm.heap b ob (fun hmem=>?_) e) hS' hacc
 rcases List.mem_cons.mp hmem with e'|hmem
 .exact hb e'
 .exact hb2 (List.mem_singleton.mp hmem)
theorem list_init_rev{R:Result->Shared->Prop}{I l:Addr}{items:Array Value}(hh:A.handled=none)(hit:IsRevIter s.heap I l ((items.size:Int)-1))(hl:s.heap.IsList l items)(hne:l≠I)(hz:items.size<=sizeLine)
  (S:Addr) (hS:s.heap.get? S=some {cls:=.type "list",data:=.seq #[]}) (hSl:S≠l)
  (hR:∀h' tk acc' c',(∀b o,b≠S->b≠I->s.heap.get? b=some o->h'.get? b=some o)->h'.get? S=some {cls:=.type "list",dict:=none,data:=.seq acc' c',slots:=#[]}->
   ItemsOf (fun i v=>items[items.size-1-i]?=some v) acc' items.size->R (.ok (.ret .none)) {s with heap:=h',toks:=tk}) :
  wpAny (model prog w) A.in1 (Builtin.«list.__init__» ⟨[.ref S,.ref I],[]⟩)
   (fun fin s'=>match fin with|.done f=>R (.ok f) s'|.again c'=>c'.quiet=true/\codeAny (model prog w) A c' R s') (fun e s'=>R (.error e) s') s:=by
 have hSI:S≠I:=fun e=>by obtain⟨o,ho,hc,_⟩:=hit;rw[e,ho]at hS;cases hS;exact absurd (show Value.type "list" = Value.type "list_reverseiterator" from hc) (by decide)
 show wpAny _ _ (do let old <-Builtin.List.listItems (.ref S);Builtin.List.listUpdate (.ref S) (fun _=>#[]);letGo old.toList.reverse;Builtin.List.listExtendWith (.ref S) (.ref I) .none) _ _ s
 refine wpAny_bind ?_
 unfold Builtin.List.listItems
 refine wpAny_bind (wpAny_seqItems hS rfl (wpAny_pure ?_))
 show wpAny _ _ (updateSeq S (fun _=>#[]) >>= fun _=>letGo (#[]:Array Value).toList.reverse >>= fun _=>Builtin.List.listExtendWith (.ref S) (.ref I) .none) _ _ s
 refine wpAny_bind (wpAny_updateSeq hS rfl ?_)
 have hS₂:=Heap.get?_update_self (Obj.mapSeq (fun _=>(#[]:Array Value))) hS rfl
 have oth:∀b o,b≠S->s.heap.get? b=some o->(s.heap.update S (Obj.mapSeq (fun _=>(#[]:Array Value)))).get? b=some o:=
  fun b o hb e=>(Heap.get?_update_other _ _ (Ne.symm hb)).trans e
 refine wpAny_bind (wpAny_letGo ?_)
 refine extend_rev hh (hit.at fun o e=>oth _ o (Ne.symm hSI) e) (hl.at fun o e=>oth _ o (Ne.symm hSl) e) hne hz S .none _ hS₂ hSl fun h' tk acc' c' hk hS' hacc=>?_
 exact hR h' tk acc' c' (fun b o hb hb2 e=>hk b o hb hb2 (oth b o hb e)) hS' hacc
theorem call_list_rev{Q:Value->Shared->Prop}{I l:Addr}{items:Array Value}(hh:A.handled=none)(hit:IsRevIter s.heap I l ((items.size:Int)-1))(hl:s.heap.IsList l items)(hne:l≠I)(hz:items.size<=sizeLine)
  (hQ:∀h' tk acc' c',(∀b o,b≠I->s.heap.get? b=some o->h'.get? b=some o)->
   h'.get? s.heap.objs.size=some {cls:=.type "list",dict:=none,data:=.seq acc' c',slots:=#[]}->ItemsOf (fun i v=>items[items.size-1-i]?=some v) acc' items.size->Q (.ref s.heap.objs.size) {s with heap:=h',toks:=tk}) :
  wpAny (model prog w) A (call (.type "list") [.ref I]) Q E s:=by
 have hll:l<s.heap.objs.size:=by obtain⟨o,ho,_⟩:=hl;exact Heap.lt_size ho
 refine callType_codes (Q₁:=fun obj s₁=>obj=.ref s.heap.objs.size/\s₁={s with heap:=s.heap.push {cls:=.type "list",data:=.seq #[]}}) F.called_list (F.typeCall_list_1 _) F.entry_list_init
  (code_list_new _ ⟨rfl,rfl⟩) fun obj s₁ h₁=>?_
 obtain⟨rfl,rfl⟩:=h₁
 have hS:(s.heap.push {cls:=.type "list",data:=.seq #[]}).get? s.heap.objs.size=some {cls:=.type "list",data:=.seq #[]}:=Heap.get?_push_size _ rfl
 refine⟨⟨_,hS,rfl⟩,F.args_list_init_2 _ _,list_init_rev (A:=A.in1) hh (hit.at fun o e=>Heap.get?_push_of_some _ e) (hl.at fun o e=>Heap.get?_push_of_some _ e) hne hz _ hS (Nat.ne_of_gt hll) fun h' tk acc' c' hk hS' hacc=>?_⟩
 exact⟨rfl,hQ h' tk acc' c' (fun b o hb e=>hk b o (Nat.ne_of_lt (Heap.lt_size e)) hb (Heap.get?_push_of_some _ e)) hS' hacc⟩
end
end L3
namespace L3
open PySem PySem.Spec PyProof.Rows L2
def rListRev:List V->Hp->VK->Prop:=fun vs H Q=>∃(p:Addr) (xs:List V),vs=[.ref p]/\H p=some (.lst xs)/\∀l,H l=none->Q (.ref l) (upd H l (.lst xs.reverse))
section
variable{X:Cx}{e:Expr}{p p2 pos pos2:Pos}{t:TA}
theorem pe_listrev(hc:X.calm=true)(hg:Gl X "list")(hm:X.mg "list" = none)(hg2:Gl X "reversed")(hm2:X.mg "reversed" = none)(ha:PA X [e] t)(h1:notStar e=true:=by rfl) :
  PE X (.Call (.Name "list" p) [.Call (.Name "reversed" p2) [e] [] pos2] [] pos) (tCB rListRev t):=by
 intro pins s σ H Q I h
 refine wpAny_Call_Name_kw (ld_blt I hg hm boot_list ?_ (by decide) (by decide))
 refine PyProof.Rows.callWith_type1 ?_ (star_cons rfl) rfl
 rw[star_cons rfl]
 show wpAny _ _ (spliced ((false,eval (.Call (.Name "reversed" p2) [e] [] pos2) X.env)::backTo pos (starEach [] X.env))) _ _ s
 refine Calls.spliced_cons ?_
 refine wpAny_Call_Name_kw (ld_blt I hg2 hm2 boot_reversed ?_ (by decide) (by decide))
 refine PyProof.Rows.callWith_type1 (thn (ha pos2 pins s σ H _ I h) fun us s1 ⟨vs,H1,I1,r1,q1⟩=>?_) (star_cons h1) rfl
 obtain⟨pl,xs,rfl,hp,q⟩:=q1
 obtain⟨u,rfl,ru⟩:=vals1 r1
 cases (show u=Value.ref pl from ru)
 obtain⟨z,its,n,rv,hl,e1⟩:=I1.lstM hp
 have l2:xs.length=its.length:=rv.length
 refine call_rev e1 ?_
 refine Calls.spliced_nil ?_
 have hpl:pl<s1.heap.objs.size:=Heap.lt_size e1
 have hit:IsRevIter (s1.heap.push {cls:=.type "list_reverseiterator",data:=.fields #[.ref pl,rawInt (((its.toArray.size:Nat):Int)-1)]}) s1.heap.objs.size pl ((its.toArray.size:Int)-1):=⟨_,Heap.get?_push_size _ rfl,rfl,rfl⟩
 have hLs:Heap.IsList (s1.heap.push {cls:=.type "list_reverseiterator",data:=.fields #[.ref pl,rawInt (((its.toArray.size:Nat):Int)-1)]}) pl its.toArray:=⟨_,Heap.get?_push_of_some _ e1,rfl,n,rfl⟩
 have hsz:(s1.heap.push {cls:=.type "list_reverseiterator",data:=.fields #[.ref pl,rawInt (((its.toArray.size:Nat):Int)-1)]}).objs.size=s1.heap.objs.size+1:=Heap.size_push ..
 refine call_list_rev (I1.ok.hd hc) hit hLs (Nat.ne_of_lt hpl) (by rw[List.size_toArray];omega) fun h' tk acc' c' kp e2 hacc=>?_
 have hn:H1 (s1.heap.objs.size+1)=none:=I1.hok.fresh (Nat.le_succ _)
 have hv:Vals xs.reverse acc'.toList:=by
  refine vals_at ?_ fun i y u' h1 h2=>?_
  .have h5:acc'.size=its.toArray.size:=hacc.1
   have h6:its.toArray.size=its.length:=List.size_toArray
   have h7:acc'.toList.length=acc'.size:=Array.length_toList
   rw[List.length_reverse,h7,h5,h6]
   exact l2
  .have hi:i<xs.length:=by have:=(List.getElem?_eq_some_iff.mp h1).1;rwa [List.length_reverse]at this
   rw[List.getElem?_reverse hi]at h1
   have h3:=hacc.2 i u' (by simpa using h2)
   obtain⟨u2,a1,a2⟩:=rv.get h1
   have h3':its[its.length-1-i]?=some u':=by simpa using h3
   rw[<-l2,a1]at h3'
   cases h3'
   exact a2
 rw[hsz]at e2
 rw[hsz]
 refine⟨.ref (s1.heap.objs.size+1),_,I1.laid (t':=tk) (o:=.lst xs.reverse) (fun b o hb=>kp b o (Nat.ne_of_lt (Heap.lt_size hb)) (Heap.get?_push_of_some _ hb)) (Nat.le_succ _) ⟨by rw[List.length_reverse];omega,acc'.toList,c',hv,by simpa using e2⟩,rfl,q _ hn⟩
end
end L3
namespace L3
open PySem PySem.Spec PyProof.Rows L2 SeqAt
open AutoSeq1 (wpAny_loadPart')
def ipS:TIp:=fun x y H Q=>∃a b:Str,x=.str a/\y=.str b/\a.length+b.length<=sizeLine/\Q (.str (a++b)) H
theorem ip_addS{X:Cx}:PIp X .Add ipS:=by
 intro pins s σ H x y v u Q I r1 r2 h
 obtain⟨i,j,e1,e2,hz,q⟩:=h
 subst e1;subst e2
 obtain⟨t,rfl⟩:=r1
 obtain⟨t',rfl⟩:=r2
 exact iadd_str (fun t'' tk=>⟨.str _,H,I.tok _,⟨_,rfl⟩,q⟩) hz
theorem noFill_tuple_mulY:fillsNumberSlot (.type "tuple") "mul" = pure false:=
 PySem.fillsNumberSlot_seq (id:="tuple.__mul__") (r:=some (.builtin "tuple.__rmul__")) F.slot_tuple_mul.lookup (by decide +kernel) F.slot_tuple_rmul.lookup (by decide +kernel)
theorem repeat_tupleY:seqRepeat? (.type "tuple")=pure (some (.builtin "tuple.__mul__")):=by
 unfold seqRepeat?
 rw[PySem.seqSlot_of (T:="tuple") (name:="__mul__") (id:="tuple.__mul__") F.slot_tuple_mul.lookup (by decide +kernel),PySem.seqSlot_of (T:="tuple") (name:="__rmul__") (id:="tuple.__rmul__") F.slot_tuple_rmul.lookup (by decide +kernel)]
 rfl
theorem int_rmul_tupleY(a:Int)(t:Tok)(l:Addr)(items:Array Value)(n:Nat)(dd:Option Addr)(sl:Array (Option Value)):Meets (Builtin.«int.__rmul__» ⟨[.int a t,.ref l],[]⟩) (fun _ R s=>s.heap.get? l=some {cls:=.type "tuple",dict:=dd,data:=.seq items n,slots:=sl}/\R (.ok (.ret Value.notImplemented)) s):=
 .of_wp fun prog w A R s h=>by obtain⟨hp,g,d,tk,os⟩:=s;obtain⟨hl,h⟩:=h;wp_walk;exact⟨_,rfl,h⟩
theorem tuple_mul8(l:Addr)(t:Tok)(items:Array Value)(n:Nat)(dd:Option Addr)(sl:Array (Option Value))(h0:items.isEmpty=false)(hz:items.size<=1000) :
  Meets (Builtin.«tuple.__mul__» ⟨[.ref l,.int 8 t],[]⟩) (fun _ R s=>s.heap.get? l=some {cls:=.type "tuple",dict:=dd,data:=.seq items n,slots:=sl}/\
   R (.ok (.ret (.ref s.heap.objs.size))) {s with heap:=s.heap.push {cls:=.type "tuple",data:=.seq ((List.replicate 8 items).foldl (· ++ ·) #[])}}):=
 .of_wp fun prog w A R s h=>by
  obtain⟨hp,g,d,tk,os⟩:=s
  obtain⟨hl,h⟩:=h
  have h1:(items.isEmpty||(8:Int)==1)=false:=by rw[h0];rfl
  have h2:((8:Int)<=0||items.isEmpty)=false:=by rw[h0];rfl
  wp_walk using wpAny_loadPart' hl
  have hn8:(items.size:Int)*8<=8000:=by omega
  have htm:Builtin.Tuple.tupleTooMany ((items.size:Int)*8)=false:=by
   unfold Builtin.Tuple.tupleTooMany
   simp[sizeLine_eq]
   omega
  rw[if_neg (by have:((2:Int)^63-1)/8=1152921504606846975:=by decide
                omega)]
  dsimp only
  rw[htm,if_neg Bool.false_ne_true]
  unfold Builtin.Tuple.tupleExact
  refine wpAny_bind (wpAny_newObj_type ?_ ?_)
  .exact wpAny_pure ⟨_,rfl,h⟩
  .show(List.foldl (fun x1 x2=>x1++x2) #[] (List.replicate 8 items)).size<=sizeLine
   have e:List.replicate 8 items=[items,items,items,items,items,items,items,items]:=rfl
   rw[e]
   simp[sizeLine_eq]
   omega
section
variable{X:Cx}
def rRep8:R2:=fun x y H Q=>∃(l:Addr) (xs:List V),x=.ref l/\y=.int 8/\H l=some (.tup xs)/\0<xs.length/\xs.length<=60/\∀p,H p=none->Q (.ref p) (upd H p (.tup (List.replicate 8 xs).flatten))
theorem op_rep8:OpR X (binaryOp .Mult) rRep8:=by
 intro pins s σ H x y v u Q I rx ry h
 obtain⟨l,xs,rfl,rfl,hl,h0,h60,q⟩:=h
 cases rx
 obtain⟨t,rfl⟩:=ry
 obtain⟨its,r,⟨o,ho,hc,n,hd⟩,hz⟩:=I.tuple (SqT.of (K:=X.K) hl)
 have hlen:=r.length
 obtain⟨cls,dd,data,sl⟩:=o
 simp only at hc hd
 subst hc hd
 refine wpAny_binaryOp_repeat_ref (T:="tuple") (U:="int") (by decide) ⟨_,ho,rfl⟩ (fun s'=>typeIs_int s' 8 t) noFill_tuple_mulY F.fills_int_mul F.slot_int_rmul repeat_tupleY F.slot_int_index.lookup
  (call_meets F.slot_int_rmul (typeIs_int s 8 t) F.entry_int_rmul (F.args_int_rmul_2 _ _) (int_rmul_tupleY 8 t l its.toArray n dd sl)
   ⟨ho,rfl,⟨_,ho,rfl⟩,call_meets F.slot_tuple_mul ⟨_,ho,rfl⟩ F.entry_tuple_mul (F.args_tuple_mul_2 _ _) (tuple_mul8 l t its.toArray n dd sl (by
    cases its with
    | nil=>rw[hlen]at h0;exact absurd h0 (Nat.lt_irrefl _)
    | cons a b=>rfl) (by rw[List.size_toArray];omega)) ⟨ho,?_⟩⟩)
 have e:(List.replicate 8 its.toArray).foldl (· ++ ·) #[]=((List.replicate 8 its).flatten).toArray:=by
  show #[]++its.toArray++its.toArray++its.toArray++its.toArray++its.toArray++its.toArray++its.toArray++its.toArray=(its++(its++(its++(its++(its++(its++(its++(its++[])))))))).toArray
  simp
 have rv:Vals (List.replicate 8 xs).flatten (List.replicate 8 its).flatten:=r.append (r.append (r.append (r.append (r.append (r.append (r.append (r.append .nil)))))))
 rw[e]
 refine⟨.ref s.heap.objs.size,_,I.laid (t':=s.toks) (o:=.tup (List.replicate 8 xs).flatten) (fun b ob q=>Heap.get?_push_of_some _ q) (Nat.le_refl _) ?_,rfl,q _ (I.hok.fresh (Nat.le_refl _))⟩
 refine⟨?_,_,rv,IsTup.new _ _⟩
 have:(List.replicate 8 xs).flatten.length=8*xs.length:=by rw[List.length_flatten,List.map_replicate,List.sum_replicate_nat]
 rw[this,sizeLine_eq]
 omega
end
end L3
namespace K71
open PySem PyProof.Rows L2 L3
def top(i:Nat):Stmt:=PySem.Challenge.pw_coverpieces_k71_pictures.main.body.getD i (.Pass ⟨0,0,0,0⟩)
abbrev sAt:Stmt:=top 2
abbrev sOpen:Stmt:=top 3
abbrev sPic:Stmt:=top 6
abbrev sRow:Stmt:=top 7
abbrev sCell:Stmt:=top 9
abbrev sState:Stmt:=top 10
abbrev sNext:Stmt:=top 11
abbrev sSigns:Stmt:=top 12
abbrev sGrown:Stmt:=top 13
abbrev sShift:Stmt:=top 14
abbrev sForm:Stmt:=top 15
abbrev sLt:Stmt:=top 16
abbrev sLaid:Stmt:=top 17
abbrev sFloor:Stmt:=top 18
abbrev sDue:Stmt:=top 19
abbrev sGood:Stmt:=top 20
abbrev sLaw:Stmt:=top 21
def blts:List Str:=["len","min","max","sorted","tuple","list","isinstance","bool","range","str","int","enumerate","reversed"]
section
variable{P:Program}{w:World}{K:PySem.W.Frag}{mg:Str->Option Value}{base:Heap}{f:Addr}{fd:FuncData}
theorem pw60:(0:Int)<10^(Int.toNat 60):=by decide
theorem pwM:(0:Int)<2305843009213693951:=by decide
def spCell(K:PySem.W.Frag):Sp:=fun vs H Q _=>∃(a:Addr) (ns:List Int) (k:Int),vs=[.ref a,.int k]/\SqL K H a (ns.map V.int)/\0<=k/\∀c:Int,Q (.int c) H
theorem scCell:FnScope ["_law_script","_law_k"] ["_law_script","_law_k"] (defScope sCell):=⟨rfl,rfl,rfl,by decide +kernel,rfl,by decide +kernel,by decide +kernel⟩
theorem ok_cell(B:∀x∈blts,mg x=none)(F:Fun K "_law_cell_at" "_law_cell_at" sCell f fd):FnOk P w K mg base CX0 1 f fd ["_law_script","_law_k"] (spCell K):=by
 refine F.ok (k:=0) scCell (fun vs H Q E h=>?_) (fun cdv A outer s H vs Q E hr h=>?_)
 .obtain⟨a,ns,k,rfl,_⟩:=h
  rfl
 obtain⟨a,ns,k,rfl,ha,hk,q⟩:=h
 refine⟨_,(pss_cons (ps_if (pt_cmpR op_lt (pv 1) (pe_cB call_len_seq rfl (B "len" (by decide)) PySem.boot_len (pa_c (pv 0) pa_nil)) (nomark _)) (pss_one (ps_ret (pe_op op_mod (pe_ix ix_list (pv 0) (pv 1) (fun _ _=>rfl)) (pe_op op_pow pe_int pe_int)))) pss_nil)
  (pss_one (ps_ret pe_int))),?_⟩
 refine⟨_,rfl,_,rfl,a,_,rfl,.inl ha,_,_,rfl,rfl,_,rfl,?_⟩
 refine ite2 (fun c=>?_) (fun c=>?_)
 .have c':k<(((ns.map V.int).length:Nat):Int):=of_decide_eq_true c
  rw[List.length_map]at c'
  obtain⟨j,rfl⟩:=Int.eq_ofNat_of_zero_le hk
  have hj:j<ns.length:=by omega
  have hv:atI (ns.map V.int) (j:Int)=some (.int ns[j]):=atI_nat (by rw[List.getElem?_map,List.getElem?_eq_getElem hj];rfl)
  refine⟨_,rfl,_,rfl,a,_,_,_,rfl,rfl,ha,hv,_,_,rfl,rfl,⟨by decide,by decide,by decide⟩,_,_,rfl,rfl,pw60,q _⟩
 .exact q _
def spState:Sp:=fun vs H Q _=>∃c k:Int,vs=[.int c,.int k]/\∀p n,H p=none->Q (.ref p) (upd H p (.lst [.int n]))
theorem scState:FnScope ["_law_cell","_law_k"] ["_law_cell","_law_k"] (defScope sState):=⟨rfl,rfl,rfl,by decide +kernel,rfl,by decide +kernel,by decide +kernel⟩
theorem ok_state(F:Fun K "_law_state" "_law_state" sState f fd):FnOk P w K mg base CX0 1 f fd ["_law_cell","_law_k"] spState:=by
 refine F.ok (k:=0) scState (fun vs H Q E h=>?_) (fun cdv A outer s H vs Q E hr h=>?_)
 .obtain⟨c,k,rfl,_⟩:=h
  rfl
 obtain⟨c,k,rfl,q⟩:=h
 refine⟨_,(pss_one (ps_ret (pe_lst (pa_c (pe_op op_mod (pe_op op_add (pe_op op_add (pe_op op_mul (pe_op op_mod (pv 0) (pe_op op_pow pe_int pe_int)) pe_int) (pe_op op_mul pe_int (pv 1))) pe_int) pe_int) pa_nil)))),?_⟩
 refine⟨_,rfl,_,_,rfl,rfl,⟨by decide,by decide,by decide⟩,_,_,rfl,rfl,pw60,_,_,rfl,rfl,.inr ⟨by decide,by decide⟩,_,rfl,_,_,rfl,rfl,.inl ⟨by decide,by decide⟩,_,_,rfl,rfl,_,_,rfl,rfl,_,_,rfl,rfl,pwM,
  (by show 1<=sizeLine;decide),fun p hp=>q p _ hp⟩
def spNext:Sp:=fun vs H Q _=>∃(st:Addr) (n m:Int),vs=[.ref st,.int m]/\H st=some (.lst [.int n])/\0<m/\∀n' i:Int,0<=i->i<m->Q (.int i) (upd H st (.lst [.int n']))
theorem scNext:FnScope ["_law_state_here","_law_many"] ["_law_state_here","_law_many"] (defScope sNext):=⟨rfl,rfl,rfl,by decide +kernel,rfl,by decide +kernel,by decide +kernel⟩
theorem ok_next(F:Fun K "_law_next" "_law_next" sNext f fd):FnOk P w K mg base CX0 1 f fd ["_law_state_here","_law_many"] spNext:=by
 refine F.ok (k:=0) scNext (fun vs H Q E h=>?_) (fun cdv A outer s H vs Q E hr h=>?_)
 .obtain⟨st,n,m,rfl,_⟩:=h
  rfl
 obtain⟨st,n,m,rfl,hst,hm,q⟩:=h
 refine⟨_,(pss_cons (ps_asg (pe_op op_mod (pe_op op_add (pe_op op_mul (pe_ix ix_list (pv 0) pe_int (fun _ _=>rfl)) pe_int) pe_int) pe_int) (pg_sub (pv 0) pe_int set_list))
  (pss_one (ps_ret (pe_op op_mod (pe_op op_fdiv (pe_ix ix_list (pv 0) pe_int (fun _ _=>rfl)) pe_int) (pv 1))))),?_⟩
 refine⟨_,rfl,st,_,_,_,rfl,rfl,SqL.of hst,rfl,_,_,rfl,rfl,.inr ⟨by decide,by decide⟩,_,_,rfl,rfl,_,_,rfl,rfl,pwM,?_⟩
 refine⟨_,rfl,st,_,_,0,rfl,rfl,hst,rfl,?_⟩
 refine⟨_,rfl,st,_,_,_,rfl,rfl,SqL.of upd_same,rfl,_,_,rfl,rfl,⟨by decide,by decide⟩,_,rfl,_,_,rfl,rfl,hm,?_⟩
 exact q _ _ (Int.emod_nonneg _ (by omega)) (Int.emod_lt_of_pos _ hm)
abbrev FnNext(P:Program)(w:World)(K:PySem.W.Frag)(mg:Str->Option Value)(base:Heap):Prop:=Fn P w K mg base "_law_next" 1 ["_law_state_here","_law_many"] spNext
def SgOk(x:Str):Prop:=0<x.length/\x.length<=26/\∀c∈x.cps.toList,65<=c/\c<=90
def spSigns:Sp:=fun vs H Q _=>∃(st:Addr) (n:Int),vs=[.ref st]/\H st=some (.lst [.int n])/\∀(x:Str) (H':Hp) (n':Int),SgOk x->Ex [st] H H'->H' st=some (.lst [.int n'])->Q (.str x) H'
theorem scSigns:FnScope ["_law_state_here"] ["_law_state_here"] (defScope sSigns):=⟨rfl,rfl,rfl,by decide +kernel,rfl,by decide +kernel,by decide +kernel⟩
theorem pick{α:Type}{xs:List α}{i:Int}(h0:0<=i)(h1:i<xs.length):∃x,atI xs i=some x/\x∈xs:=by
 obtain⟨j,rfl⟩:=Int.eq_ofNat_of_zero_le h0
 have hj:j<xs.length:=by omega
 exact⟨xs[j],atI_nat (List.getElem?_eq_getElem hj),List.getElem_mem hj⟩
theorem sgL{z:Str}(h:0<z.length/\z.length<=26/\z.cps.toList.all (fun c=>decide (65<=c)&&decide (c<=90))=true):SgOk z:=⟨h.1,h.2.1,fun c hc=>by simpa using List.all_eq_true.mp h.2.2 c hc⟩
theorem ok_signs(Fnext:FnNext P w K mg base)(F:Fun K "_law_signs" "_law_signs" sSigns f fd):FnOk P w K mg base CX0 2 f fd ["_law_state_here"] spSigns:=by
 refine F.ok (k:=1) scSigns (fun vs H Q E h=>?_) (fun cdv A outer s H vs Q E hr h=>?_)
 .obtain⟨st,n,rfl,_⟩:=h
  rfl
 obtain⟨st,n,rfl,hst,q⟩:=h
 refine⟨_,(pss_one (ps_ret (pe_ix ix_list (pe_lst (pa_c pe_str (pa_c pe_str (pa_c pe_str (pa_c pe_str pa_nil))))) (pe_fn Fnext hr (by decide) rfl (pa_c (pv 0) (pa_c pe_int pa_nil))) (fun _ _=>rfl)))),?_⟩
 refine⟨(by show 4<=sizeLine;decide),fun p hp=>?_⟩
 have hne:p≠st:=fun e=>by rw[e,hst]at hp;cases hp
 refine⟨_,rfl,st,n,4,rfl,by rw[upd_ne (Ne.symm hne)];exact hst,by decide,fun n' i h0 h4=>?_⟩
 obtain⟨x,hx,hm⟩:=pick (α:=V) (xs:=[V.str "ABCDEFGHIJKLMNOPQRSTUVWXYZ",V.str "AB",V.str "A",V.str "QZ"]) h0 h4
 have hs:∃z,x=.str z/\SgOk z:=by
  simp only[List.mem_cons,List.not_mem_nil,or_false]at hm
  rcases hm with rfl|rfl|rfl|rfl<;>exact⟨_,rfl,sgL (by decide +kernel)⟩
 obtain⟨z,rfl,hz⟩:=hs
 refine⟨p,_,i,_,rfl,rfl,SqL.of (by rw[upd_ne hne];exact upd_same),hx,?_⟩
 exact q z _ n' hz ((Ex.fresh hp).trans (Ex.upd (by simp))) upd_same
end
theorem cells_at{H:Hp}{cs:List PyData}{xs:List V}{i:Nat}{v:V}(h:Cells cs)(r:RepAll H cs xs)(e:xs[i]?=some v):∃(a:Addr) (p q:Int),v=.ref a/\H a=some (.tup [.int p,.int q])/\cs[i]?=some (.tuple [.int p,.int q]):=by
 obtain⟨d,e1,e2⟩:=r.at e
 obtain⟨p,q,rfl⟩:=h d (List.mem_of_getElem? e1)
 obtain⟨a,e3,e4⟩:=rep_cell e2
 exact⟨a,p,q,e3,e4,e1⟩
seal L2.PE L2.PT L2.PW L2.PA L2.PS L2.PSs L2.PG L2.PGs L2.PI L2.PO
section
variable{P:Program}{w:World}{K:PySem.W.Frag}{mg:Str->Option Value}{base:Heap}{f:Addr}{fd:FuncData}
def spGrown:Sp:=fun vs H Q _=>∃(st:Addr) (n m:Int),vs=[.ref st,.int m]/\H st=some (.lst [.int n])/\0<m/\m<=100/\
 ∀(r:Addr) (H':Hp) (n':Int) (xs:List V) (cs:List PyData),H r=none->Ex [st] H H'->H' st=some (.lst [.int n'])->H' r=some (.lst xs)->RepAll H' cs xs->Cells cs->0<cs.length->(cs.length:Int)<=m->Q (.ref r) H'
theorem scGrown:FnScope ["_law_state_here","_law_most","_law_cells","_law_k","_law_row","_law_column","_law_down","_law_right"] ["_law_state_here","_law_most"] (defScope sGrown):=⟨rfl,rfl,rfl,by decide +kernel,rfl,by decide +kernel,by decide +kernel⟩
theorem ok_grown(B:∀x∈blts,mg x=none)(Fnext:FnNext P w K mg base)(F:Fun K "_law_grown" "_law_grown" sGrown f fd):FnOk P w K mg base CX0 2 f fd ["_law_state_here","_law_most"] spGrown:=by
 refine F.ok (k:=1) scGrown (fun vs H Q E h=>?_) (fun cdv A outer s H vs Q E hr h=>?_)
 .obtain⟨st,n,m,rfl,_⟩:=h
  rfl
 obtain⟨st,n,m,rfl,hst,hm0,hm1,q⟩:=h
 have hu:=hr.units
 refine⟨_,(pss_cons (ps_set (i:=2) scGrown.nd rfl (Or.inl rfl) (pe_lst (pa_c (pe_tup (pa_c pe_int (pa_c pe_int pa_nil))) pa_nil)))
  (pss_cons (ps_for PassesOwn.never rfl (pi_r1 rfl (B "range" (by decide)) (pa_c (pe_fn Fnext hr (by decide) rfl (pa_c (pv 0) (pa_c (pv 1) pa_nil))) pa_nil)) (pg_name (i:=3) scGrown.nd rfl (Or.inl rfl)) (pss_cons (ps_asg (pe_ix ix_list (pv 2) (pe_fn Fnext hr (by decide) rfl (pa_c (pv 0) (pa_c (pe_cB call_len_seq rfl (B "len" (by decide)) PySem.boot_len (pa_c (pv 2) pa_nil)) pa_nil))) (fun _ _=>rfl)) (pg_tup (n:=2) rfl (pgs_cons (pg_name (i:=4) scGrown.nd rfl (Or.inl rfl)) (pgs_cons (pg_name (i:=5) scGrown.nd rfl (Or.inl rfl)) pgs_nil))))
  (pss_cons (ps_asg (pe_ix ix_list (pe_lst (pa_c (pe_tup (pa_c pe_int (pa_c pe_int pa_nil))) (pa_c (pe_tup (pa_c pe_int (pa_c pe_int pa_nil))) (pa_c (pe_tup (pa_c pe_int (pa_c (pe_un un_neg pe_int) pa_nil))) (pa_c (pe_tup (pa_c (pe_un un_neg pe_int) (pa_c pe_int pa_nil))) pa_nil))))) (pe_fn Fnext hr (by decide) rfl (pa_c (pv 0) (pa_c pe_int pa_nil))) (fun _ _=>rfl)) (pg_tup (n:=2) rfl (pgs_cons (pg_name (i:=6) scGrown.nd rfl (Or.inl rfl)) (pgs_cons (pg_name (i:=7) scGrown.nd rfl (Or.inl rfl)) pgs_nil))))
  (pss_one (ps_if (pt_cmpR (op_notInD hu) (pe_tup (pa_c (pe_op op_add (pv 4) (pv 6)) (pa_c (pe_op op_add (pv 5) (pv 7)) pa_nil))) (pv 2) rfl) (pss_one (ps_expr (pe_bm PySem.F.plainAttrs_list PySem.F.slot_list_append PySem.F.type_list_append mt_append (pv 2) (pa_c (pe_tup (pa_c (pe_op op_add (pv 4) (pv 6)) (pa_c (pe_op op_add (pv 5) (pv 7)) pa_nil))) pa_nil)))) pss_nil)))))
  (pss_one (ps_ret (pv 2))))),?_⟩
 refine⟨(by show 2<=sizeLine;decide),fun p1 hp1=>⟨(by show 1<=sizeLine;decide),fun p2 hp2=>?_⟩⟩
 obtain⟨hp21,hp2H⟩:=upd_none hp2
 have n2:st≠p2:=ne_of_none hst hp2H
 have s1:Same H (upd (upd H p1 (.tup [.int 0,.int 0])) p2 (.lst [.ref p1])):=(Same.fresh _ hp1).trans (Same.fresh _ hp2)
 have c1:upd (upd H p1 (.tup [.int 0,.int 0])) p2 (.lst [.ref p1]) p2=some (.lst [.ref p1]):=upd_same
 have b1:upd (upd H p1 (.tup [.int 0,.int 0])) p2 (.lst [.ref p1]) p1=some (.tup [.int 0,.int 0]):=by rw[upd_ne (Ne.symm hp21)];exact upd_same
 generalize upd (upd H p1 (.tup [.int 0,.int 0])) p2 (.lst [.ref p1])=H1 at *
 have st1:=s1 _ _ hst
 have nb:p1≠st:=ne_of b1 st1 (by intro z;cases z)
 refine⟨_,rfl,_,rfl,st,n,m,rfl,st1,hm0,fun n' j hj0 hj1=>⟨j,rfl,by omega,by omega,?_⟩⟩
 refine for_range (n:=j.toNat) (lo:=0) (fun i σ' G=>∃(x3 x4 x5 x6 x7:Option V) (n':Int) (xs:List V) (cs:List PyData),σ'=[some (.ref st),some (.int m),some (.ref p2),x3,x4,x5,x6,x7]/\Ex [st] H G/\G st=some (.lst [.int n'])/\G p2=some (.lst xs)/\RepAll G cs xs/\Cells cs/\0<cs.length/\cs.length<=i+1) ?_ (fun i σ' G hi h=>?_) (fun σ' G h=>?_)
 .refine⟨_,_,_,_,_,n',[.ref p1],[.tuple [.int 0,.int 0]],rfl,(Ex.of_same s1).trans (Ex.upd (by simp)),upd_same,by rw[upd_ne (Ne.symm n2)];exact c1,⟨_,_,rfl,cell_rep (by rw[upd_ne nb];exact b1),rfl⟩,fun d hd=>?_,by simp,by simp⟩
  rw[List.mem_singleton.mp hd]
  exact⟨0,0,rfl⟩
 .obtain⟨x3,x4,x5,x6,x7,n1,xs,cs,rfl,ex,hs,hp,rep,hcs,hpos,hlen⟩:=h
  have hxl:=rep.length
  refine⟨_,rfl,_,rfl,_,rfl,p2,xs,rfl,.inl (SqL.of hp),st,n1,_,rfl,hs,by omega,fun n3 i2 h20 h21=>?_⟩
  obtain⟨j2,rfl⟩:=Int.eq_ofNat_of_zero_le h20
  have hj2:j2<xs.length:=by omega
  obtain⟨b,r,c,hv,hb,hdat⟩:=cells_at hcs rep (List.getElem?_eq_getElem hj2)
  have nbs:b≠st:=ne_of hb hs (by intro z;cases z)
  have exA:Ex [st] H (upd G st (.lst [.int n3])):=ex.trans (Ex.upd (by simp))
  have stA:upd G st (.lst [.int n3]) st=some (.lst [.int n3]):=upd_same
  have pA:upd G st (.lst [.int n3]) p2=some (.lst xs):=by rw[upd_ne (Ne.symm n2)];exact hp
  have rA:RepAll (upd G st (.lst [.int n3])) cs xs:=rep.tk (Tk.lst hs) hcs.imm
  have bA:upd G st (.lst [.int n3]) b=some (.tup [.int r,.int c]):=by rw[upd_ne nbs];exact hb
  generalize upd G st (.lst [.int n3])=GA at *
  refine⟨p2,xs,_,.ref b,rfl,rfl,SqL.of pA,atI_nat (by rw[List.getElem?_eq_getElem hj2,hv]),b,_,rfl,SqT.of bA,rfl,_,_,rfl,_,_,rfl,rfl,?_⟩
  refine⟨(by show 2<=sizeLine;decide),fun q1 hq1=>⟨(by show 2<=sizeLine;decide),fun q2 hq2=>?_⟩⟩
  refine⟨_,rfl,(by show 2<=sizeLine;decide),fun q3 hq3=>?_⟩
  refine⟨_,rfl,(by show 2<=sizeLine;decide),fun q4 hq4=>⟨(by show 4<=sizeLine;decide),fun q5 hq5=>?_⟩⟩
  have u1:upd GA q1 (.tup [.int 0,.int 1]) q1=some (.tup [.int 0,.int 1]):=upd_same
  have t1:Same GA (upd GA q1 (.tup [.int 0,.int 1])):=Same.fresh _ hq1
  generalize upd GA q1 (.tup [.int 0,.int 1])=G1 at *
  have u2:upd G1 q2 (.tup [.int 1,.int 0]) q2=some (.tup [.int 1,.int 0]):=upd_same
  have t2:Same G1 (upd G1 q2 (.tup [.int 1,.int 0])):=Same.fresh _ hq2
  generalize upd G1 q2 (.tup [.int 1,.int 0])=G2 at *
  have u3:upd G2 q3 (.tup [.int 0,.int (-1)]) q3=some (.tup [.int 0,.int (-1)]):=upd_same
  have t3:Same G2 (upd G2 q3 (.tup [.int 0,.int (-1)])):=Same.fresh _ hq3
  generalize upd G2 q3 (.tup [.int 0,.int (-1)])=G3 at *
  have u4:upd G3 q4 (.tup [.int (-1),.int 0]) q4=some (.tup [.int (-1),.int 0]):=upd_same
  have t4:Same G3 (upd G3 q4 (.tup [.int (-1),.int 0])):=Same.fresh _ hq4
  generalize upd G3 q4 (.tup [.int (-1),.int 0])=G4 at *
  have u5:upd G4 q5 (.lst [.ref q1,.ref q2,.ref q3,.ref q4]) q5=some (.lst [.ref q1,.ref q2,.ref q3,.ref q4]):=upd_same
  have t5:Same G4 (upd G4 q5 (.lst [.ref q1,.ref q2,.ref q3,.ref q4])):=Same.fresh _ hq5
  generalize upd G4 q5 (.lst [.ref q1,.ref q2,.ref q3,.ref q4])=G5 at *
  have tA:Same GA G5:=(((t1.trans t2).trans t3).trans t4).trans t5
  have four:∀m:Nat,m<4->∃(b':Addr) (d e:Int),[V.ref q1,.ref q2,.ref q3,.ref q4][m]?=some (.ref b')/\G5 b'=some (.tup [.int d,.int e]):=fun m hm=>by
   match m,hm with
   | 0,_=>exact⟨q1,_,_,rfl,t5 _ _ (t4 _ _ (t3 _ _ (t2 _ _ u1)))⟩
   | 1,_=>exact⟨q2,_,_,rfl,t5 _ _ (t4 _ _ (t3 _ _ u2))⟩
   | 2,_=>exact⟨q3,_,_,rfl,t5 _ _ (t4 _ _ u3)⟩
   | 3,_=>exact⟨q4,_,_,rfl,t5 _ _ u4⟩
  have stB:=tA _ _ stA
  have pB:=tA _ _ pA
  refine⟨_,rfl,st,n3,4,rfl,stB,by decide,fun n4 i3 h30 h31=>?_⟩
  obtain⟨j3,rfl⟩:=Int.eq_ofNat_of_zero_le h30
  obtain⟨b',d,e,hb',hbd⟩:=four j3 (by omega)
  have nq5:q5≠st:=fun e=>by rw[e,stB]at u5;simp at u5
  have nb':b'≠st:=ne_of hbd stB (by intro z;cases z)
  have exC:Ex [st] H (upd G5 st (.lst [.int n4])):=(exA.trans (Ex.of_same tA)).trans (Ex.upd (by simp))
  have stC:upd G5 st (.lst [.int n4]) st=some (.lst [.int n4]):=upd_same
  have pC:upd G5 st (.lst [.int n4]) p2=some (.lst xs):=by rw[upd_ne (Ne.symm n2)];exact pB
  have rC:RepAll (upd G5 st (.lst [.int n4])) cs xs:=(rA.same tA).tk (Tk.lst stB) hcs.imm
  have bC:upd G5 st (.lst [.int n4]) b'=some (.tup [.int d,.int e]):=by rw[upd_ne nb'];exact hbd
  have lC:upd G5 st (.lst [.int n4]) q5=some (.lst [.ref q1,.ref q2,.ref q3,.ref q4]):=by rw[upd_ne nq5];exact u5
  generalize upd G5 st (.lst [.int n4])=GC at *
  refine⟨q5,_,_,.ref b',rfl,rfl,SqL.of lC,atI_nat hb',b',_,rfl,SqT.of bC,rfl,_,_,rfl,_,_,rfl,rfl,?_⟩
  refine⟨_,rfl,_,rfl,_,_,rfl,rfl,_,rfl,_,rfl,_,_,rfl,rfl,(by show 2<=sizeLine;decide),fun t6 ht6=>?_⟩
  have s6:Same GC (upd GC t6 (.tup [.int (r+d),.int (c+e)])):=Same.fresh _ ht6
  have c6:upd GC t6 (.tup [.int (r+d),.int (c+e)]) t6=some (.tup [.int (r+d),.int (c+e)]):=upd_same
  generalize upd GC t6 (.tup [.int (r+d),.int (c+e)])=GD at *
  have pD:=s6 _ _ pC
  refine⟨_,rfl,.tuple [.int (r+d),.int (c+e)],p2,xs,cs,cell_rep c6,rfl,.inl pD,rC.same s6,(by simp[PyData.depth,PyData.depthAll]),_,rfl,?_⟩
  have exD:=exC.trans (Ex.of_same s6)
  refine ite2 (fun hnew=>?_) (fun _=>?_)
  .refine⟨_,rfl,.inl ⟨rfl,_,SqL.of pD⟩,_,rfl,_,rfl,_,_,rfl,rfl,_,rfl,_,rfl,_,_,rfl,rfl,(by show 2<=sizeLine;decide),fun t7 ht7=>?_⟩
   have s7:Same GD (upd GD t7 (.tup [.int (r+d),.int (c+e)])):=Same.fresh _ ht7
   have c7:upd GD t7 (.tup [.int (r+d),.int (c+e)]) t7=some (.tup [.int (r+d),.int (c+e)]):=upd_same
   generalize upd GD t7 (.tup [.int (r+d),.int (c+e)])=GE at *
   have pE:=s7 _ _ pD
   refine⟨p2,xs,.ref t7,rfl,rfl,pE,small1000 (by omega),?_⟩
   have hcs':Cells (cs++[.tuple [.int (r+d),.int (c+e)]]):=fun z hz=>by
    rcases List.mem_append.mp hz with h|h
    .exact hcs z h
    .rw[List.mem_singleton.mp h];exact⟨_,_,rfl⟩
   refine⟨_,_,_,_,_,n4,xs++[.ref t7],cs++[.tuple [.int (r+d),.int (c+e)]],rfl,(exD.trans (Ex.of_same s7)).new hp2H,by rw[upd_ne n2];exact s7 _ _ (s6 _ _ stC),upd_same,((rC.same (s6.trans s7)).snoc (cell_rep c7)).tk (Tk.lst pE) hcs'.imm,hcs',by simp,by simp;omega⟩
  .exact⟨_,_,_,_,_,n4,xs,cs,rfl,exD,s6 _ _ stC,pD,rC.same s6,hcs,hpos,by omega⟩
 .obtain⟨x3,x4,x5,x6,x7,n1,xs,cs,rfl,ex,hs,hp,rep,hcs,hpos,hlen⟩:=h
  exact⟨_,rfl,q p2 G n1 xs cs hp2H ex hs hp rep hcs hpos (by omega)⟩
end
def iter(i:Nat)(ds:List PyData):List PyData:=(List.range i).foldl (fun a _=>turD a) ds
theorem iter_succ(i:Nat)(ds:List PyData):iter (i+1) ds=turD (iter i ds):=by
 unfold iter
 rw[List.range_succ,List.foldl_append]
 rfl
def FmN(ds:List PyData):Prop:=(∀d∈ds,∃r c k:Nat,d=.tuple [.int (r:Nat),.int (c:Nat),.str ⟨#[k]⟩]/\65<=k/\k<=90)/\0<ds.length/\ds.length<=6
theorem FmN.spots{ds:List PyData}(h:FmN ds):Spots ds:=fun d hd=>by
 obtain⟨r,c,k,e,_⟩:=h.1 d hd
 exact⟨r,c,_,e⟩
theorem FmN.perm{ds es:List PyData}(h:FmN ds)(p:es.Perm ds):FmN es:=⟨fun d hd=>h.1 d (p.mem_iff.mp hd),by rw[p.length_eq];exact h.2.1,by rw[p.length_eq];exact h.2.2⟩
theorem FmN.mir{ds:List PyData}(h:FmN ds):FmN (mirD ds):=by
 refine⟨fun d hd=>?_,by unfold mirD;rw[List.length_map];exact h.2.1,by unfold mirD;rw[List.length_map];exact h.2.2⟩
 obtain⟨e,he,rfl⟩:=List.mem_map.mp hd
 have hm:col1 e<=maxI (ds.map col1):=le_maxI _ (List.mem_map_of_mem he)
 obtain⟨r,c,k,rfl,hk⟩:=h.1 e he
 have hm':(c:Int)<=maxI (ds.map col1):=hm
 refine⟨r,(maxI (ds.map col1)-c).toNat,k,?_,hk⟩
 show PyData.tuple [.int r,.int (maxI (ds.map col1)-c),.str ⟨#[k]⟩]=_
 rw[Int.toNat_of_nonneg (by omega)]
theorem FmN.tur{ds:List PyData}(h:FmN ds):FmN (turD ds):=by
 refine⟨fun d hd=>?_,by unfold turD;rw[List.length_map];exact h.2.1,by unfold turD;rw[List.length_map];exact h.2.2⟩
 obtain⟨e,he,rfl⟩:=List.mem_map.mp hd
 have hm:row1 e<=maxI (ds.map row1):=le_maxI _ (List.mem_map_of_mem he)
 obtain⟨r,c,k,rfl,hk⟩:=h.1 e he
 have hm':(r:Int)<=maxI (ds.map row1):=hm
 refine⟨c,(maxI (ds.map row1)-r).toNat,k,?_,hk⟩
 show PyData.tuple [.int c,.int (maxI (ds.map row1)-r),.str ⟨#[k]⟩]=_
 rw[Int.toNat_of_nonneg (by omega)]
theorem FmN.iter{ds:List PyData}(h:FmN ds):∀i,FmN (iter i ds)
 | 0=>h
 | i+1=>by rw[iter_succ];exact(FmN.iter h i).tur
theorem FmN.turned{ds:List PyData}(h:FmN ds)(t:Nat):FmN (spotsD t ds):=by
 show FmN (K71.iter (t % 4) (if 4<=t then mirD ds else ds))
 refine FmN.iter ?_ _
 split
 .exact h.mir
 .exact h
theorem FmN.shift{ds:List PyData}(h:∀d∈ds,∃(r c:Int) (k:Nat),d=.tuple [.int r,.int c,.str ⟨#[k]⟩]/\65<=k/\k<=90)(h1:0<ds.length)(h6:ds.length<=6):FmN (shiftD ds):=by
 refine⟨fun d hd=>?_,by unfold shiftD;rw[List.length_map];exact h1,by unfold shiftD;rw[List.length_map];exact h6⟩
 obtain⟨e,he,rfl⟩:=List.mem_map.mp hd
 have hm:minI (ds.map row1)<=row1 e:=minI_le _ (List.mem_map_of_mem he)
 have hn:minI (ds.map col1)<=col1 e:=minI_le _ (List.mem_map_of_mem he)
 obtain⟨r,c,k,rfl,hk⟩:=h e he
 have hm':minI (ds.map row1)<=r:=hm
 have hn':minI (ds.map col1)<=c:=hn
 refine⟨(r-minI (ds.map row1)).toNat,(c-minI (ds.map col1)).toNat,k,?_,hk⟩
 show PyData.tuple [.int (r-minI (ds.map row1)),.int (c-minI (ds.map col1)),.str ⟨#[k]⟩]=_
 rw[Int.toNat_of_nonneg (by omega),Int.toNat_of_nonneg (by omega)]
section
variable{P:Program}{w:World}{K:PySem.W.Frag}{mg:Str->Option Value}{base:Heap}{f:Addr}{fd:FuncData}
theorem hmir(m:Int)(r c:Int)(z:Str)(H':Hp)(Q':VK)(h:∃u v:Int,mir1 m (.tuple [.int r,.int c,.str z])=.tuple [.int u,.int v,.str z]/\∀n,H' n=none->Q' (.ref n) (upd H' n (.tup [.int u,.int v,.str z]))) :
  tTup (tCons (tVar 0) (tCons (tOp (rI0 fun i j=>.int (i-j)) (tVar 3) (tVar 1)) (tCons (tVar 2) tNil))) [some (.int r),some (.int c),some (.str z),some (.int m)] H' Q':=by
 obtain⟨u,v,e,q⟩:=h
 cases (show PyData.tuple [.int r,.int (m-c),.str z]=.tuple [.int u,.int v,.str z]from e)
 exact⟨_,rfl,_,rfl,_,rfl,_,_,rfl,rfl,_,rfl,(by show 3<=sizeLine;decide),q⟩
theorem htur(m:Int)(r c:Int)(z:Str)(H':Hp)(Q':VK)(h:∃u v:Int,tur1 m (.tuple [.int r,.int c,.str z])=.tuple [.int u,.int v,.str z]/\∀n,H' n=none->Q' (.ref n) (upd H' n (.tup [.int u,.int v,.str z]))) :
  tTup (tCons (tVar 1) (tCons (tOp (rI0 fun i j=>.int (i-j)) (tVar 3) (tVar 0)) (tCons (tVar 2) tNil))) [some (.int r),some (.int c),some (.str z),some (.int m)] H' Q':=by
 obtain⟨u,v,e,q⟩:=h
 cases (show PyData.tuple [.int c,.int (m-r),.str z]=.tuple [.int u,.int v,.str z]from e)
 exact⟨_,rfl,_,rfl,_,rfl,_,_,rfl,rfl,_,rfl,(by show 3<=sizeLine;decide),q⟩
def spTd:Sp:=fun vs H Q _=>∃(a:Addr) (t:Nat) (xs:List V) (ds:List PyData),vs=[.ref a,.int (t:Nat)]/\H a=some (.tup xs)/\RepAll H ds xs/\Spots ds/\0<ds.length/\ds.length<64/\t<8/\
 ∀(r:Addr) (H':Hp),Same H H'->Rep H' (.tuple (sortD (spotsD t ds))) (.ref r)->Q (.ref r) H'
theorem scLt:FnScope ["_law_form","_law_t","_law_spots","_law_wide","_law_quarter","_law_high"] ["_law_form","_law_t"] (defScope sLt):=⟨rfl,rfl,rfl,by decide +kernel,rfl,by decide +kernel,by decide +kernel⟩
theorem ok_lt(B:∀x∈blts,mg x=none)(F:Fun K "_law_turned" "_law_turned" sLt f fd):FnOk P w K mg base CX0 1 f fd ["_law_form","_law_t"] spTd:=by
 refine F.ok (k:=0) scLt (fun vs H Q E h=>?_) (fun cdv A outer s H vs Q E hr h=>?_)
 .obtain⟨a,t,xs,ds,rfl,_⟩:=h
  rfl
 obtain⟨a,t,ys,ds,rfl,ha,rep0,hs0,hpos,h64,ht,q⟩:=h
 refine⟨_,(pss_cons (ps_set (i:=2) scLt.nd rfl (Or.inl rfl) (pe_cT call_list_of rfl (B "list" (by decide)) boot_list (pa_c (pv 0) pa_nil)))
  (pss_cons (ps_if (pt_cmpR op_ge (pv 1) pe_int (nomark _)) (pss_cons (ps_set (i:=3) scLt.nd rfl (Or.inr rfl) (pe_cB (call_maxL rfl) rfl (B "max" (by decide)) boot_max (pa_c (pe_comp ["_law_spot"] [none] rfl rfl (by decide +kernel) (by decide +kernel) rfl rfl (pi_list (pv 2)) (fun _=>(pg_name (i:=0) (show(["_law_spot"]:List PySem.Str).Nodup by decide +kernel) rfl (Or.inl rfl))) (fun _=>pts_nil) (fun _=>(pe_ix ix_tupC (pv 0) pe_int (fun _ _=>rfl)))) pa_nil)))
  (pss_one (ps_setC (i:=2) ["_law_row","_law_column","_law_sign","_law_wide"] [none,none,none,some 3] scLt.nd rfl (Or.inl rfl) rfl rfl rfl (by decide +kernel) (by decide +kernel) rfl rfl (pi_list (pv 2)) (fun _=>(pg_tupC (n:=3) rfl (pgs_cons (pg_name (i:=0) (show(["_law_row","_law_column","_law_sign","_law_wide"]:List PySem.Str).Nodup by decide +kernel) rfl (Or.inl rfl)) (pgs_cons (pg_name (i:=1) (show(["_law_row","_law_column","_law_sign","_law_wide"]:List PySem.Str).Nodup by decide +kernel) rfl (Or.inl rfl)) (pgs_cons (pg_name (i:=2) (show(["_law_row","_law_column","_law_sign","_law_wide"]:List PySem.Str).Nodup by decide +kernel) rfl (Or.inl rfl)) pgs_nil))))) (fun _=>pts_nil) (fun _=>(pe_tup (pa_c (pv 0) (pa_c (pe_op op_sub (pv 3) (pv 1)) (pa_c (pv 2) pa_nil)))))))) pss_nil)
  (pss_cons (ps_for PassesOwn.never rfl (pi_r1 rfl (B "range" (by decide)) (pa_c (pe_op op_mod (pv 1) pe_int) pa_nil)) (pg_name (i:=4) scLt.nd rfl (Or.inl rfl)) (pss_cons (ps_set (i:=5) scLt.nd rfl (Or.inr rfl) (pe_cB (call_maxL rfl) rfl (B "max" (by decide)) boot_max (pa_c (pe_comp ["_law_spot"] [none] rfl rfl (by decide +kernel) (by decide +kernel) rfl rfl (pi_list (pv 2)) (fun _=>(pg_name (i:=0) (show(["_law_spot"]:List PySem.Str).Nodup by decide +kernel) rfl (Or.inl rfl))) (fun _=>pts_nil) (fun _=>(pe_ix ix_tupC (pv 0) pe_int (fun _ _=>rfl)))) pa_nil)))
  (pss_one (ps_setC (i:=2) ["_law_row","_law_column","_law_sign","_law_high"] [none,none,none,some 5] scLt.nd rfl (Or.inl rfl) rfl rfl rfl (by decide +kernel) (by decide +kernel) rfl rfl (pi_list (pv 2)) (fun _=>(pg_tupC (n:=3) rfl (pgs_cons (pg_name (i:=0) (show(["_law_row","_law_column","_law_sign","_law_high"]:List PySem.Str).Nodup by decide +kernel) rfl (Or.inl rfl)) (pgs_cons (pg_name (i:=1) (show(["_law_row","_law_column","_law_sign","_law_high"]:List PySem.Str).Nodup by decide +kernel) rfl (Or.inl rfl)) (pgs_cons (pg_name (i:=2) (show(["_law_row","_law_column","_law_sign","_law_high"]:List PySem.Str).Nodup by decide +kernel) rfl (Or.inl rfl)) pgs_nil))))) (fun _=>pts_nil) (fun _=>(pe_tup (pa_c (pv 1) (pa_c (pe_op op_sub (pv 3) (pv 0)) (pa_c (pv 2) pa_nil)))))))))
  (pss_one (ps_ret (pe_cT call_tuple_of rfl (B "tuple" (by decide)) boot_tuple (pa_c (pe_cB call_sortedD rfl (B "sorted" (by decide)) boot_sorted (pa_c (pv 2) pa_nil)) pa_nil))))))),?_⟩
 refine⟨_,rfl,a,ys,rfl,.inr (SqT.of ha),fun D hD0=>?_⟩
 have sm:Same H (upd H D (.lst ys)):=Same.fresh _ hD0
 have hDy:upd H D (.lst ys) D=some (.lst ys):=upd_same
 have rep:=rep0.same sm
 generalize upd H D (.lst ys)=H2 at *
 refine⟨_,rfl,_,_,rfl,rfl,_,rfl,?_⟩
 refine ite2 (fun h4=>?ga) (fun h4=>?gb)
 case' ga=>
  have h4':4<=t:=by have:(t:Int)>=4:=of_decide_eq_true h4
                    omega
  refine read_projI 1 col1 col_at rfl hDy rep hs0 (Nat.le_of_lt h64) fun D1 H1 s1 hD1=>?_
  refine⟨D1,_,rfl,hD1,by rw[List.length_map];exact hpos,fun M1 m1 m1'=>?_⟩
  have em:=maxI_eq m1 m1'
  refine read_each mir1 rfl rfl (s1 _ _ hDy) (rep.same s1) hs0 (Nat.le_of_lt h64) (hmir M1) (fun D ys H3 hD s3 hDy rep=>?_) (fun r c z=>⟨_,_,rfl⟩)
  replace sm:=(sm.trans s1).trans s3
  obtain⟨ds1,e1⟩:∃d,d=(if 4<=t then mirD ds else ds):=⟨_,rfl⟩
  have e2:ds1=mirD ds:=by rw[e1,if_pos h4']
  have e3:ds.map (mir1 M1)=ds1:=by rw[e2];unfold mirD;rw[<-em]
  rw[e3]at rep
  have sp1:Spots ds1:=by rw[e2];exact mir_spots hs0 _
  have l1:ds1.length=ds.length:=by rw[e2];simp[mirD]
  generalize H3=H2 at *
 case' gb=>
  have h4':¬4<=t:=by have:¬(t:Int)>=4:=by simpa using h4
                     omega
  obtain⟨ds1,e1⟩:∃d,d=(if 4<=t then mirD ds else ds):=⟨_,rfl⟩
  have e2:ds1=ds:=by rw[e1,if_neg h4']
  rw[<-e2]at rep
  have sp1:Spots ds1:=by rw[e2];exact hs0
  have l1:ds1.length=ds.length:=by rw[e2]
 all_goals
  refine⟨_,rfl,_,_,rfl,rfl,(by show(0:Int)<4;decide),_,rfl,by omega,by omega,?_⟩
  refine for_range (lo:=0) (fun i σ' H'=>∃(y3 y4 y5:Option V) (D:Addr) (ys:List V),σ'=[some (.ref a),some (.int (t:Nat)),some (.ref D),y3,y4,y5]/\Same H H'/\H' D=some (.lst ys)/\RepAll H' (iter i ds1) ys/\Spots (iter i ds1)/\(iter i ds1).length=ds.length) ?_ (fun i σ' H' hi h=>?_) (fun σ' H' h=>?_)
  .exact⟨_,_,_,D,ys,rfl,sm,hDy,rep,sp1,l1⟩
  .obtain⟨y3,y4,y5,D,ys,rfl,sm,hDy,rep,sp,hl⟩:=h
   refine read_projI 0 row1 row_at rfl hDy rep sp (by omega) fun D1 H1 s1 hD1=>?_
   refine⟨D1,_,rfl,hD1,by rw[List.length_map];omega,fun M1 m1 m1'=>?_⟩
   have em:=maxI_eq m1 m1'
   refine read_each tur1 rfl rfl (s1 _ _ hDy) (rep.same s1) sp (by omega) (htur M1) (fun D2 ys2 H3 hD s3 hD3 rep3=>?_) (fun r c z=>⟨_,_,rfl⟩)
   have e3:(iter i ds1).map (tur1 M1)=iter (i+1) ds1:=by rw[iter_succ];unfold turD;rw[<-em]
   rw[e3]at rep3
   refine⟨_,_,_,D2,ys2,rfl,(sm.trans s1).trans s3,hD3,rep3,by rw[iter_succ];exact tur_spots sp _,by rw[iter_succ];simp[turD,hl]⟩
  .obtain⟨y3,y4,y5,D,ys,rfl,sm,hDy,rep,sp,hl⟩:=h
   have et:(((t:Nat):Int) % 4).toNat=t % 4:=by omega
   rw[et]at rep sp hl
   refine⟨_,rfl,D,ys,_,[true,false],rfl,hDy,rep,spots_rows sp,by omega,fun l zs hl1 hz=>?_⟩
   refine⟨l,zs,rfl,.inl ⟨SqL.of upd_same,fun l2 hl2=>?_⟩⟩
   have s1:Same H' (upd H' l (.lst zs)):=Same.fresh _ hl1
   have s2:Same (upd H' l (.lst zs)) (upd (upd H' l (.lst zs)) l2 (.tup zs)):=Same.fresh _ hl2
   refine q l2 _ ((sm.trans s1).trans s2) ⟨l2,zs,rfl,upd_same,?_⟩
   rw[show spotsD t ds=iter (t % 4) ds1 by rw[e1];rfl]
   exact hz.same s2
def spForm:Sp:=fun vs H Q _=>∃a xs ds,vs=[.ref a]/\H a=some (.lst xs)/\RepAll H ds xs/\Spots ds/\0<ds.length/\ds.length<64/\∀r H',Same H H'->Rep H' (.tuple (sortD (shiftD ds))) (.ref r)->Q (.ref r) H'
theorem read_sorted{K:PySem.W.Frag}{a:Addr}{xs:List V}{ds:List PyData}{σ:L2.St}{H H0:Hp}{Q:VK}{t l:Int}(hσ:σ[0]?=some (some (.ref a)))(h1:σ[1]?=some (some (.int t)))(h2:σ[2]?=some (some (.int l)))
  (ha:H a=some (.lst xs)) (hr:RepAll H ds xs) (hs:Spots ds) (hl:ds.length<64) (ht:t=minI (ds.map row1)) (hll:l=minI (ds.map col1)) (h0:Same H0 H)
  (q:∀r H',Same H0 H'->Rep H' (.tuple (sortD (shiftD ds))) (.ref r)->Q (.ref r) H') :
  tComp (iList K (tVar 0)) [none,none,none,some 1,some 2] (gTup K 3 (gCons (gName 0) (gCons (gName 1) (gCons (gName 2) gNil)))) tYes
   (tTup (tCons (tOp (rI0 fun i j=>.int (i-j)) (tVar 0) (tVar 3)) (tCons (tOp (rI0 fun i j=>.int (i-j)) (tVar 1) (tVar 4)) (tCons (tVar 2) tNil)))) σ H fun x H1=>∃p xs ds ks,[x]=[.ref p]/\H1 p=some (.lst xs)/\RepAll H1 ds xs/\Rows ks ds/\ds.length<64/\
  ∀l ys,H1 l=none->RepAll (upd H1 l (.lst ys)) (sortD ds) ys->∃p ys',[V.ref l]=[.ref p]/\((SqL K (upd H1 l (.lst ys)) p ys'/\∀l',upd H1 l (.lst ys) l'=none->Q (.ref l') (upd (upd H1 l (.lst ys)) l' (.tup ys')))\/(SqT K (upd H1 l (.lst ys)) p ys'/\Q (.ref p) (upd H1 l (.lst ys)))):=by
 refine read_shift hσ h1 h2 ha hr hs hl fun D ys H' hsame hD hrep=>?_
 refine⟨D,ys,_,[true,false],rfl,hD,hrep,shift_rows hs t l,by rw[List.length_map];exact hl,fun l1 zs hl1 hz=>?_⟩
 refine⟨l1,zs,rfl,.inl ⟨SqL.of upd_same,fun l2 hl2=>?_⟩⟩
 have s1:Same H' (upd H' l1 (.lst zs)):=Same.fresh _ hl1
 have s2:Same (upd H' l1 (.lst zs)) (upd (upd H' l1 (.lst zs)) l2 (.tup zs)):=Same.fresh _ hl2
 refine q l2 _ (((h0.trans hsame).trans s1).trans s2) ⟨l2,zs,rfl,upd_same,?_⟩
 have e:ds.map (shift1 t l)=shiftD ds:=by unfold shiftD;rw[ht,hll]
 rw[e]at hz
 exact hz.same s2
theorem scShift:FnScope ["_law_spots","_law_top","_law_left"] ["_law_spots"] (defScope sShift):=⟨rfl,rfl,rfl,by decide +kernel,rfl,by decide +kernel,by decide +kernel⟩
theorem ok_shift(B:∀x∈blts,mg x=none)(F:Fun K "_law_shifted" "_law_shifted" sShift f fd):FnOk P w K mg base CX0 1 f fd ["_law_spots"] spForm:=by
 refine F.ok (k:=0) scShift (fun vs H Q E h=>?_) (fun cdv A outer s H vs Q E hr h=>?_)
 .obtain⟨a,xs,ds,rfl,_⟩:=h
  rfl
 obtain⟨a,xs,ds,rfl,ha,hrep,hs,hpos,h64,q⟩:=h
 refine⟨_,(pss_cons (ps_set (i:=1) scShift.nd rfl (Or.inr rfl) (pe_cB (call_minL rfl) rfl (B "min" (by decide)) boot_min (pa_c (pe_comp ["_law_spot"] [none] rfl rfl (by decide +kernel) (by decide +kernel) rfl rfl (pi_list (pv 0)) (fun _=>(pg_name (i:=0) (show(["_law_spot"]:List PySem.Str).Nodup by decide +kernel) rfl (Or.inl rfl))) (fun _=>pts_nil) (fun _=>(pe_ix ix_tupC (pv 0) pe_int (fun _ _=>rfl)))) pa_nil)))
  (pss_cons (ps_set (i:=2) scShift.nd rfl (Or.inr rfl) (pe_cB (call_minL rfl) rfl (B "min" (by decide)) boot_min (pa_c (pe_comp ["_law_spot"] [none] rfl rfl (by decide +kernel) (by decide +kernel) rfl rfl (pi_list (pv 0)) (fun _=>(pg_name (i:=0) (show(["_law_spot"]:List PySem.Str).Nodup by decide +kernel) rfl (Or.inl rfl))) (fun _=>pts_nil) (fun _=>(pe_ix ix_tupC (pv 0) pe_int (fun _ _=>rfl)))) pa_nil)))
  (pss_one (ps_ret (pe_cT call_tuple_of rfl (B "tuple" (by decide)) boot_tuple (pa_c (pe_cB call_sortedD rfl (B "sorted" (by decide)) boot_sorted (pa_c (pe_comp ["_law_row","_law_column","_law_sign","_law_top","_law_left"] [none,none,none,some 1,some 2] rfl rfl (by decide +kernel) (by decide +kernel) rfl rfl (pi_list (pv 0)) (fun _=>(pg_tupC (n:=3) rfl (pgs_cons (pg_name (i:=0) (show(["_law_row","_law_column","_law_sign","_law_top","_law_left"]:List PySem.Str).Nodup by decide +kernel) rfl (Or.inl rfl)) (pgs_cons (pg_name (i:=1) (show(["_law_row","_law_column","_law_sign","_law_top","_law_left"]:List PySem.Str).Nodup by decide +kernel) rfl (Or.inl rfl)) (pgs_cons (pg_name (i:=2) (show(["_law_row","_law_column","_law_sign","_law_top","_law_left"]:List PySem.Str).Nodup by decide +kernel) rfl (Or.inl rfl)) pgs_nil))))) (fun _=>pts_nil) (fun _=>(pe_tup (pa_c (pe_op op_sub (pv 0) (pv 3)) (pa_c (pe_op op_sub (pv 1) (pv 4)) (pa_c (pv 2) pa_nil)))))) pa_nil)) pa_nil)))))),?_⟩
 refine read_proj 0 row1 row_at rfl ha hrep hs h64 fun D1 H1 s1 hD1=>?_
 refine⟨D1,_,rfl,hD1,by rw[List.length_map];exact hpos,fun M1 m1 m1'=>?_⟩
 refine read_proj 1 col1 col_at rfl (s1 _ _ ha) (hrep.same s1) hs h64 fun D2 H2 s2 hD2=>?_
 refine⟨D2,_,rfl,hD2,by rw[List.length_map];exact hpos,fun M2 m2 m2'=>?_⟩
 exact read_sorted rfl rfl rfl ((s1.trans s2) _ _ ha) (hrep.same (s1.trans s2)) hs h64 (minI_eq m1 m1') (minI_eq m2 m2') (s1.trans s2) q
def spForm2:Sp:=fun vs H Q _=>∃(st:Addr) (n:Int),vs=[.ref st,.int 6]/\H st=some (.lst [.int n])/\∀(r:Addr) (H':Hp) (n':Int) (ds:List PyData),Ex [st] H H'->H' st=some (.lst [.int n'])->FmN ds->Rep H' (.tuple ds) (.ref r)->Q (.ref r) H'
def SgD(d:PyData):Prop:=∃(r c:Int) (k:Nat),d=.tuple [.int r,.int c,.str ⟨#[k]⟩]/\65<=k/\k<=90
theorem scForm:FnScope ["_law_state_here","_law_most","_law_signs_here","_law_spots","_law_row","_law_column"] ["_law_state_here","_law_most"] (defScope sForm):=⟨rfl,rfl,rfl,by decide +kernel,rfl,by decide +kernel,by decide +kernel⟩
theorem sg_line{x:Str}(h:SgOk x):x.length<=sizeLine:=Nat.le_of_lt (small1000 (by have:=h.2.1;omega))
theorem ok_form(B:∀x∈blts,mg x=none)(Fnext:FnNext P w K mg base)(Fsigns:Fn P w K mg base "_law_signs" 2 ["_law_state_here"] spSigns)(Fgrown:Fn P w K mg base "_law_grown" 2 ["_law_state_here","_law_most"] spGrown)(Fshift:Fn P w K mg base "_law_shifted" 1 ["_law_spots"] spForm)
  (F:Fun K "_law_drawn_form" "_law_drawn_form" sForm f fd):FnOk P w K mg base CX0 3 f fd ["_law_state_here","_law_most"] spForm2:=by
 refine F.ok (k:=2) scForm (fun vs H Q E h=>?_) (fun cdv A outer s H vs Q E hr h=>?_)
 .obtain⟨st,n,rfl,_⟩:=h
  rfl
 obtain⟨st,n,rfl,hst,q⟩:=h
 refine⟨_,(pss_cons (ps_set (i:=2) scForm.nd rfl (Or.inl rfl) (pe_fn Fsigns hr (by decide) rfl (pa_c (pv 0) pa_nil)))
  (pss_cons (ps_set (i:=3) scForm.nd rfl (Or.inl rfl) (pe_lst pa_nil))
  (pss_cons (ps_for PassesOwn.never rfl (pi_list (pe_fn Fgrown hr (by decide) rfl (pa_c (pv 0) (pa_c (pv 1) pa_nil)))) (pg_tup (n:=2) rfl (pgs_cons (pg_name (i:=4) scForm.nd rfl (Or.inl rfl)) (pgs_cons (pg_name (i:=5) scForm.nd rfl (Or.inl rfl)) pgs_nil))) (pss_one (ps_expr (pe_bm PySem.F.plainAttrs_list PySem.F.slot_list_append PySem.F.type_list_append mt_append (pv 3) (pa_c (pe_tup (pa_c (pv 4) (pa_c (pv 5) (pa_c (pe_ix ix_str (pv 2) (pe_fn Fnext hr (by decide) rfl (pa_c (pv 0) (pa_c (pe_cB call_len_str rfl (B "len" (by decide)) PySem.boot_len (pa_c (pv 2) pa_nil)) pa_nil))) (fun _ _=>rfl)) pa_nil)))) pa_nil)))))
  (pss_one (ps_ret (pe_fn Fshift hr (by decide) rfl (pa_c (pv 3) pa_nil))))))),?_⟩
 refine⟨_,rfl,st,n,rfl,hst,fun sg H1 n1 hsg ex1 st1=>?_⟩
 refine⟨(by show 0<=sizeLine;decide),fun sp hsp=>?_⟩
 have nsp:sp≠st:=fun e=>by rw[e,st1]at hsp;cases hsp
 have hspH:H sp=none:=by
  cases z:H sp with
  | none=>rfl
  | some o=>have z':=ex1 sp o (by simpa using nsp) z;rw[z']at hsp;cases hsp
 have ex2:Ex [st] H (upd H1 sp (.lst [])):=ex1.trans (Ex.fresh hsp)
 have st2:upd H1 sp (.lst []) st=some (.lst [.int n1]):=by rw[upd_ne (Ne.symm nsp)];exact st1
 have sp2:upd H1 sp (.lst []) sp=some (.lst []):=upd_same
 generalize upd H1 sp (.lst [])=H2 at *
 refine⟨_,rfl,_,rfl,st,n1,6,rfl,st2,by decide,by decide,fun gr H3 n3 cxs cs hgr ex3 st3 gr3 rep3 hcs hpos3 hlen3=>?_⟩
 have sp3:H3 sp=some (.lst []):=ex3.at nsp sp2
 have ngs:gr≠sp:=fun e=>by rw[e,sp2]at hgr;cases hgr
 have ngt:gr≠st:=fun e=>by rw[e,st2]at hgr;cases hgr
 have lcx:=rep3.length
 refine⟨gr,rfl,⟨_,SqL.of gr3⟩,?_⟩
 refine for_list (xs:=cxs) (fun j σ' H'=>∃(y4 y5:Option V) (n:Int) (ds:List PyData) (ys:List V),σ'=[some (.ref st),some (.int 6),some (.str sg),some (.ref sp),y4,y5]/\
  Ex [st,sp] H3 H'/\H' st=some (.lst [.int n])/\H' sp=some (.lst ys)/\RepAll H' ds ys/\(∀d∈ds,SgD d)/\ds.length=j) ?_ (fun j σ' H' hj h=>?_) (fun j x σ' H' hx h=>?_) (fun σ' H' h=>?_)
 .exact⟨_,_,n3,[],[],rfl,Ex.refl _ _,st3,sp3,rfl,(fun d hd=>by cases hd),rfl⟩
 .obtain⟨_,_,_,_,_,_,hex,_⟩:=h
  exact SqL.of (hex _ _ (by simp[ngs,ngt]) gr3)
 .obtain⟨y4,y5,n6,ds,ys,rfl,hex,st6,sp6,rep6,hsp6,hl6⟩:=h
  have tk6:Tk H3 H':=hex.tk fun b hb=>by
   rcases List.mem_cons.mp hb with rfl|hb
   .exact⟨_,st3⟩
   .rw[List.mem_singleton.mp hb];exact⟨_,sp3⟩
  obtain⟨b,cr,cc,rfl,hb,hdat⟩:=cells_at hcs rep3 hx
  have im6:immAll ds=true:=Spots.imm fun d hd=>by obtain⟨r,c,k,e,_⟩:=hsp6 d hd;exact⟨r,c,_,e⟩
  refine⟨b,_,rfl,SqT.of (tk6 _ _ hb),rfl,_,_,rfl,_,_,rfl,rfl,?_⟩
  refine⟨_,rfl,.inl ⟨rfl,_,SqL.of sp6⟩,_,rfl,_,rfl,_,rfl,_,rfl,_,rfl,sg,rfl,sg_line hsg,st,n6,_,rfl,st6,by have:=hsg.1;omega,fun n7 i7 h70 h71=>?_⟩
  obtain⟨j7,rfl⟩:=Int.eq_ofNat_of_zero_le h70
  have hj7:j7<sg.cps.toList.length:=by
   have:sg.length=sg.cps.toList.length:=by simp[Str.length]
   omega
  have hk:=hsg.2.2 _ (List.getElem_mem hj7)
  refine⟨sg,_,sg.cps.toList[j7],rfl,rfl,sg_line hsg,atI_nat (List.getElem?_eq_getElem hj7),(by show 3<=sizeLine;decide),fun t ht=>?_⟩
  generalize sg.cps.toList[j7]=k at *
  have hok:PyData.strOk (⟨#[k]⟩:Str)=true:=Tx.ok ⟨by show 1<=80;omega,fun x hx=>by
   have:x=k:=by simpa using hx
   omega⟩
  have st7:upd H' st (.lst [.int n7]) st=some (.lst [.int n7]):=upd_same
  have sp7:upd H' st (.lst [.int n7]) sp=some (.lst ys):=by rw[upd_ne nsp];exact sp6
  have rep7:RepAll (upd H' st (.lst [.int n7])) ds ys:=rep6.tk (Tk.lst st6) im6
  have ex7:Ex [st,sp] H3 (upd H' st (.lst [.int n7])):=hex.trans (Ex.upd (by simp))
  generalize upd H' st (.lst [.int n7])=H7 at *
  have s8:Same H7 (upd H7 t (.tup [.int cr,.int cc,.str ⟨#[k]⟩])):=Same.fresh _ ht
  have t8:upd H7 t (.tup [.int cr,.int cc,.str ⟨#[k]⟩]) t=some (.tup [.int cr,.int cc,.str ⟨#[k]⟩]):=upd_same
  generalize upd H7 t (.tup [.int cr,.int cc,.str ⟨#[k]⟩])=H8 at *
  have sp8:=s8 _ _ sp7
  have hjl:j<cxs.length:=(List.getElem?_eq_some_iff.mp hx).1
  have hly:=rep6.length
  refine⟨sp,ys,.ref t,rfl,rfl,sp8,small1000 (by omega),?_⟩
  have hsn:∀d∈ds++[.tuple [.int cr,.int cc,.str ⟨#[k]⟩]],SgD d:=fun d hd=>by
   rcases List.mem_append.mp hd with h|h
   .exact hsp6 d h
   .rw[List.mem_singleton.mp h];exact⟨cr,cc,k,rfl,hk.1,hk.2⟩
  have imn:immAll (ds++[.tuple [.int cr,.int cc,.str ⟨#[k]⟩]])=true:=Spots.imm fun d hd=>by obtain⟨r,c,k',e,_⟩:=hsn d hd;exact⟨r,c,_,e⟩
  refine⟨_,_,n7,ds++[.tuple [.int cr,.int cc,.str ⟨#[k]⟩]],ys++[.ref t],rfl,(ex7.trans (Ex.of_same s8)).trans (Ex.upd (by simp)),by rw[upd_ne (Ne.symm nsp)];exact s8 _ _ st7,upd_same,
   (((rep7.same s8).snoc (spot_rep t8 hok)).tk (Tk.lst sp8) imn),hsn,by simp[hl6]⟩
 .obtain⟨y4,y5,n6,ds,ys,rfl,hex,st6,sp6,rep6,hsp6,hl6⟩:=h
  have fm:=FmN.shift hsp6 (by omega) (by omega)
  refine⟨_,rfl,sp,ys,ds,rfl,sp6,rep6,(fun d hd=>by obtain⟨r,c,k,e,_⟩:=hsp6 d hd;exact⟨r,c,_,e⟩),by omega,by omega,fun r H9 s9 rep9=>?_⟩
  refine q r H9 n6 _ (fun b o hb h0=>?_) (s9 _ _ st6) (fm.perm (sortD_perm _)) rep9
  have nb:b≠sp:=fun e=>by rw[e,hspH]at h0;cases h0
  have nbs:b≠st:=by simpa using hb
  exact s9 _ _ (hex b o (by simp[nb,nbs]) (ex3 b o (by simpa using nbs) (ex2 b o hb h0)))
end
def keyP(r c:Nat):List Key:=[Sum.inl ((r:Nat):Int),Sum.inl ((c:Nat):Int)]
theorem keyP_inj{r c r' c':Nat}(h:keyP r c=keyP r' c'):r=r'/\c=c':=by
 unfold keyP at h
 injection h with h1 h2
 injection h2 with h2 _
 exact⟨Int.ofNat.inj (Sum.inl.inj h1),Int.ofNat.inj (Sum.inl.inj h2)⟩
def TkD(kvs:List (List Key×V)):Prop:=∀r c v,valV kvs (keyP r c)=some v->∃k:Nat,v=.str ⟨#[k]⟩/\65<=k/\k<=90
def SpN(h w:Nat)(es:List PyData):Prop:=∀e∈es,∃r c k:Nat,e=.tuple [.int (r:Nat),.int (c:Nat),.str ⟨#[k]⟩]/\r<h/\c<w/\65<=k/\k<=90
def PlD(h w:Nat)(d:PyData):Prop:=∃es n,d=.tuple [.tuple es,.int n]/\SpN h w es/\es.length<=6
def cellD:PyData->Nat×Nat
 | .tuple (.int r::.int c::_)=>(r.toNat,c.toNat)
 | _=>(0,0)
def cellsD:PyData->List (Nat×Nat)
 | .tuple (.tuple es::_)=>es.map cellD
 | _=>[]
def CvD(kvs:List (List Key×V))(d:PyData):Prop:=∀p∈cellsD d,(valV kvs (keyP p.1 p.2)).isSome=true
theorem SpN.spots{h w:Nat}{es:List PyData}(a:SpN h w es):Spots es:=fun d hd=>by
 obtain⟨r,c,k,e,_⟩:=a d hd
 exact⟨r,c,_,e⟩
theorem PlD.imm{h w:Nat}:∀{ds:List PyData},(∀d∈ds,PlD h w d)->immAll ds=true
 | [],_=>rfl
 | d::ds,a=>by
  obtain⟨es,n,rfl,hs,_⟩:=a d List.mem_cons_self
  have h1:=Spots.imm hs.spots
  have h2:=PlD.imm fun x hx=>a x (List.mem_cons_of_mem _ hx)
  show(_root_.L3.imm (.tuple [.tuple es,.int n])&&immAll ds)=true
  rw[h2,Bool.and_true]
  show(immAll es&&true)=true
  rw[h1]
  rfl
theorem nw2{x y z:V}:¬(HT.sIx [x,y,z].length 0 none=0/\HT.sIx [x,y,z].length [x,y,z].length (some 2)=[x,y,z].length):=by
 show ¬(HT.sIx 3 0 none=0/\HT.sIx 3 3 (some 2)=3)
 decide
structure Ls(H G:Hp)(st tk ly:Addr)(n:Int)(kvs:List (List Key×V))(xs:List V)(pds:List PyData):Prop where
 ex:Ex [st] H G
 hst:G st=some (.lst [.int n])
 htk:G tk=some (.dT kvs)
 hly:G ly=some (.lst xs)
 rep:RepAll G pds xs
theorem Ls.same{H G G':Hp}{st tk ly:Addr}{n:Int}{kvs:List (List Key×V)}{xs:List V}{pds:List PyData}(a:Ls H G st tk ly n kvs xs pds)(s:Same G G'):Ls H G' st tk ly n kvs xs pds:=
 ⟨a.ex.trans (Ex.of_same s),s _ _ a.hst,s _ _ a.htk,s _ _ a.hly,a.rep.same s⟩
theorem Ls.next{H G:Hp}{st tk ly:Addr}{n:Int}{kvs:List (List Key×V)}{xs:List V}{pds:List PyData}(a:Ls H G st tk ly n kvs xs pds)(n':Int)(h:immAll pds=true)(hs:ly≠st):Ls H (upd G st (.lst [.int n'])) st tk ly n' kvs xs pds:=by
 have ntk:tk≠st:=fun e=>by have:=a.htk;rw[e,a.hst]at this;cases this
 exact⟨a.ex.trans (Ex.upd (by simp)),upd_same,by rw[upd_ne ntk];exact a.htk,by rw[upd_ne hs];exact a.hly,a.rep.tk (Tk.lst a.hst) h⟩
def FmsN(ds:List PyData):Prop:=∀d∈ds,∃es,d=.tuple es/\FmN es
theorem FmsN.imm:∀{ds:List PyData},FmsN ds->immAll ds=true
 | [],_=>rfl
 | d::ds,a=>by
  obtain⟨es,rfl,hs⟩:=a d List.mem_cons_self
  have h1:=Spots.imm hs.spots
  have h2:=FmsN.imm fun x hx=>a x (List.mem_cons_of_mem _ hx)
  show(_root_.L3.imm (.tuple es)&&immAll ds)=true
  rw[h2,Bool.and_true]
  exact h1
section
variable{P:Program}{w:World}{K:PySem.W.Frag}{mg:Str->Option Value}{base:Heap}{f:Addr}{fd:FuncData}
def spLaid:Sp:=fun vs H Q _=>∃(st fl:Addr) (n:Int) (h wd:Nat) (fxs:List V) (fds:List PyData),vs=[.ref st,.ref fl,.int (h:Nat),.int (wd:Nat)]/\H st=some (.lst [.int n])/\H fl=some (.lst fxs)/\fl≠st/\RepAll H fds fxs/\FmsN fds/\0<fds.length/\fds.length<=3/\0<h/\h<=8/\0<wd/\wd<=8/\
 ∀(p tk ly:Addr) (G:Hp) (n':Int) (kvs:List (List Key×V)) (xs:List V) (pds:List PyData),H tk=none->H ly=none->Ls H G st tk ly n' kvs xs pds->G p=some (.tup [.ref tk,.ref ly])->TkD kvs->(∀d∈pds,PlD h wd d/\CvD kvs d)->pds.length<=20->Q (.ref p) G
theorem scLaid:FnScope ["_law_state_here","_law_forms","_law_high","_law_wide","_law_taken","_law_laying","_law_k","_law_number","_law_down","_law_right","_law_form","_law_spots","_law_fits","_law_spot"] ["_law_state_here","_law_forms","_law_high","_law_wide"] (defScope sLaid):=⟨rfl,rfl,rfl,by decide +kernel,rfl,by decide +kernel,by decide +kernel⟩
theorem ok_laid(B:∀x∈blts,mg x=none)(Fnext:FnNext P w K mg base)(Flt:Fn P w K mg base "_law_turned" 1 ["_law_form","_law_t"] spTd)(F:Fun K "_law_laid" "_law_laid" sLaid f fd):FnOk P w K mg base CX0 2 f fd ["_law_state_here","_law_forms","_law_high","_law_wide"] spLaid:=by
 refine F.ok (k:=1) scLaid (fun vs H Q E h=>?_) (fun cdv A outer s H vs Q E hr h=>?_)
 .obtain⟨st,fl,n,h,wd,fxs,fds,rfl,_⟩:=h
  rfl
 obtain⟨st,fl,n,h,wd,fxs,fds,rfl,hst,hfl,nfl,repF,hF,hf1,hf3,hh1,hh8,hw1,hw8,q⟩:=h
 have hu:=hr.units
 refine⟨_,(pss_cons (ps_set (i:=4) scLaid.nd rfl (Or.inr rfl) pe_dnewT)
  (pss_cons (ps_set (i:=5) scLaid.nd rfl (Or.inl rfl) (pe_lst pa_nil))
  (pss_cons (ps_for PassesOwn.never rfl (pi_r1 rfl (B "range" (by decide)) (pa_c (pe_op op_add pe_int (pe_fn Fnext hr (by decide) rfl (pa_c (pv 0) (pa_c pe_int pa_nil)))) pa_nil)) (pg_name (i:=6) scLaid.nd rfl (Or.inl rfl)) (pss_cons (ps_set (i:=7) scLaid.nd rfl (Or.inl rfl) (pe_fn Fnext hr (by decide) rfl (pa_c (pv 0) (pa_c (pe_cB call_len_seq rfl (B "len" (by decide)) PySem.boot_len (pa_c (pv 1) pa_nil)) pa_nil))))
  (pss_cons (ps_set (i:=8) scLaid.nd rfl (Or.inr rfl) (pe_fn Fnext hr (by decide) rfl (pa_c (pv 0) (pa_c (pv 2) pa_nil))))
  (pss_cons (ps_set (i:=9) scLaid.nd rfl (Or.inr rfl) (pe_fn Fnext hr (by decide) rfl (pa_c (pv 0) (pa_c (pv 3) pa_nil))))
  (pss_cons (ps_set (i:=10) scLaid.nd rfl (Or.inl rfl) (pe_fn Flt hr (by decide) rfl (pa_c (pe_ix ix_list (pv 1) (pv 7) (fun _ _=>rfl)) (pa_c (pe_fn Fnext hr (by decide) rfl (pa_c (pv 0) (pa_c pe_int pa_nil))) pa_nil))))
  (pss_cons (ps_setC (i:=11) ["_law_row","_law_column","_law_sign","_law_down","_law_right"] [none,none,none,some 8,some 9] scLaid.nd rfl (Or.inl rfl) rfl rfl rfl (by decide +kernel) (by decide +kernel) rfl rfl (pi_tup (pv 10)) (fun _=>(pg_tupC (n:=3) rfl (pgs_cons (pg_name (i:=0) (show(["_law_row","_law_column","_law_sign","_law_down","_law_right"]:List PySem.Str).Nodup by decide +kernel) rfl (Or.inl rfl)) (pgs_cons (pg_name (i:=1) (show(["_law_row","_law_column","_law_sign","_law_down","_law_right"]:List PySem.Str).Nodup by decide +kernel) rfl (Or.inl rfl)) (pgs_cons (pg_name (i:=2) (show(["_law_row","_law_column","_law_sign","_law_down","_law_right"]:List PySem.Str).Nodup by decide +kernel) rfl (Or.inl rfl)) pgs_nil))))) (fun _=>pts_nil) (fun _=>(pe_tup (pa_c (pe_op op_add (pv 0) (pv 3)) (pa_c (pe_op op_add (pv 1) (pv 4)) (pa_c (pv 2) pa_nil))))))
  (pss_cons (ps_setC (i:=12) ["_law_spot","_law_high","_law_wide","_law_taken"] [none,some 2,some 3,some 4] scLaid.nd rfl (Or.inl rfl) rfl rfl rfl (by decide +kernel) (by decide +kernel) rfl rfl (pi_list (pv 11)) (fun _=>(pg_name (i:=0) (show(["_law_spot","_law_high","_law_wide","_law_taken"]:List PySem.Str).Nodup by decide +kernel) rfl (Or.inl rfl))) (fun _=>pts_one (PW.pt (pw_and (pt_cmpR op_lt (pe_ix ix_tupC (pv 0) pe_int (fun _ _=>rfl)) (pv 1) (nomark _)) (pw_and (pt_cmpR op_lt (pe_ix ix_tupC (pv 0) pe_int (fun _ _=>rfl)) (pv 2) (nomark _)) (pw_and1 (pt_cmp (pc_dnotin (Nat.lt_of_le_of_lt (Nat.add_le_add_left (by decide) _) hu) (pe_slice sl_tupC (pv 0) po_none (po_some pe_int)) (pv 3)))))))) (fun _=>(pv 0)))
  (pss_one (ps_if (pt_cmpR op_eq (pe_cB call_len_seq rfl (B "len" (by decide)) PySem.boot_len (pa_c (pv 12) pa_nil)) (pe_cB call_len_seq rfl (B "len" (by decide)) PySem.boot_len (pa_c (pv 11) pa_nil)) (nomark _)) (pss_cons (ps_for PassesOwn.never rfl (pi_list (pv 11)) (pg_name (i:=13) scLaid.nd rfl (Or.inl rfl)) (pss_one (ps_dput (Nat.lt_of_le_of_lt (Nat.add_le_add_left (by decide) _) hu) (pv 4) (pe_slice sl_tup (pv 13) po_none (po_some pe_int)) (pe_ix ix_tup (pv 13) pe_int (fun _ _=>rfl)) rfl)))
  (pss_one (ps_expr (pe_bm PySem.F.plainAttrs_list PySem.F.slot_list_append PySem.F.type_list_append mt_append (pv 5) (pa_c (pe_tup (pa_c (pe_cT call_tuple_of rfl (B "tuple" (by decide)) boot_tuple (pa_c (pe_cB call_sortedD rfl (B "sorted" (by decide)) boot_sorted (pa_c (pv 11) pa_nil)) pa_nil)) (pa_c (pv 7) pa_nil))) pa_nil))))) pss_nil)))))))))
  (pss_one (ps_ret (pe_tup (pa_c (pv 4) (pa_c (pv 5) pa_nil)))))))),?_⟩
 intro tk htk
 have s1:Same H (upd H tk (.dT [])):=Same.fresh _ htk
 have d1:upd H tk (.dT []) tk=some (.dT []):=upd_same
 generalize upd H tk (.dT [])=H1 at *
 refine⟨(by show 0<=sizeLine;decide),fun ly hly=>?_⟩
 have s2:Same H1 (upd H1 ly (.lst [])):=Same.fresh _ hly
 have l2:upd H1 ly (.lst []) ly=some (.lst ([]:List V)):=upd_same
 generalize upd H1 ly (.lst [])=H2 at *
 have hlyn:H ly=none:=s1.free hly
 have nly:ly≠st:=fun e=>by rw[e,hst]at hlyn;cases hlyn
 have ntk:tk≠st:=fun e=>by rw[e,hst]at htk;cases htk
 have nlt:ly≠tk:=fun e=>by rw[e,d1]at hly;cases hly
 have I0:Ls H H2 st tk ly n [] [] []:=⟨Ex.of_same (s1.trans s2),s2 _ _ (s1 _ _ hst),s2 _ _ d1,l2,rfl⟩
 have lf:=repF.length
 refine⟨_,rfl,st,n,20,rfl,I0.hst,by decide,fun n3 i3 h30 h31=>⟨_,_,rfl,rfl,?_⟩⟩
 obtain⟨m,hm,em⟩:∃m:Nat,m<=20/\1+i3=(m:Nat):=⟨(1+i3).toNat,by omega,by omega⟩
 have I1:=I0.next n3 rfl nly
 generalize upd H2 st (.lst [.int n3])=H3 at *
 refine⟨(m:Nat),by rw[<-em],by omega,by omega,?_⟩
 rw[Int.toNat_natCast]
 refine for_range (lo:=0) (fun i σ' G=>∃(y6 y7 y8 y9 y10 y11 y12 y13:Option V) (n:Int) (kvs:List (List Key×V)) (xs:List V) (pds:List PyData),σ'=[some (.ref st),some (.ref fl),some (.int (h:Nat)),some (.int (wd:Nat)),some (.ref tk),some (.ref ly),y6,y7,y8,y9,y10,y11,y12,y13]/\Ls H G st tk ly n kvs xs pds/\TkD kvs/\(∀d∈pds,PlD h wd d/\CvD kvs d)/\pds.length<=i/\kvs.length<=i*6) ?_ (fun i σ' G hi hI=>?_) (fun σ' G hI=>?_)
 .exact⟨_,_,_,_,_,_,_,_,n3,[],[],[],rfl,I1,(fun r c v e=>by cases e),(fun d hd=>by cases hd),Nat.le_refl _,Nat.le_refl _⟩
 .obtain⟨y6,y7,y8,y9,y10,y11,y12,y13,n1,kvs,xs,pds,rfl,L,hT,hP,hpl,hkl⟩:=hI
  have imP:immAll pds=true:=PlD.imm fun d hd=>(hP d hd).1
  have flk:∀{G':Hp},Ex [st] H G'->G' fl=some (.lst fxs)/\RepAll G' fds fxs:=fun e=>⟨e.at nfl hfl,repF.tk (e.one hst) hF.imm⟩
  refine⟨_,rfl,_,rfl,fl,fxs,rfl,.inl (SqL.of (flk L.ex).1),st,n1,_,rfl,L.hst,by omega,fun n2 i2 h20 h21=>?_⟩
  obtain⟨j,rfl⟩:=Int.eq_ofNat_of_zero_le h20
  have L2:=L.next n2 imP nly
  generalize upd G st (.lst [.int n2])=G2 at *
  refine⟨_,rfl,_,rfl,st,n2,_,rfl,L2.hst,by omega,fun n4 i4 h40 h41=>?_⟩
  obtain⟨dn,rfl⟩:=Int.eq_ofNat_of_zero_le h40
  have L3:=L2.next n4 imP nly
  generalize upd G2 st (.lst [.int n4])=G3 at *
  refine⟨_,rfl,_,rfl,st,n4,_,rfl,L3.hst,by omega,fun n5 i5 h50 h51=>?_⟩
  obtain⟨rt,rfl⟩:=Int.eq_ofNat_of_zero_le h50
  have L4:=L3.next n5 imP nly
  generalize upd G3 st (.lst [.int n5])=G4 at *
  have hj:j<fxs.length:=by omega
  obtain⟨dj,hdj,rdj⟩:=(flk L4.ex).2.at (List.getElem?_eq_getElem hj)
  obtain⟨es,rfl,hes⟩:=hF dj (List.mem_of_getElem? hdj)
  obtain⟨fb,exs,efb,hfb,repE⟩:=rdj
  refine⟨_,rfl,_,rfl,fl,_,_,.ref fb,rfl,rfl,SqL.of (flk L4.ex).1,atI_nat (by rw[List.getElem?_eq_getElem hj,efb]),_,rfl,st,n5,8,rfl,L4.hst,by decide,fun n6 i6 h60 h61=>?_⟩
  obtain⟨t,rfl⟩:=Int.eq_ofNat_of_zero_le h60
  have L5:=L4.next n6 imP nly
  have nfb:fb≠st:=ne_of hfb L4.hst (by intro z;cases z)
  have hfb5:upd G4 st (.lst [.int n6]) fb=some (.tup exs):=by rw[upd_ne nfb];exact hfb
  have repE5:RepAll (upd G4 st (.lst [.int n6])) es exs:=repE.tk (Tk.lst L4.hst) (Spots.imm hes.spots)
  generalize upd G4 st (.lst [.int n6])=G5 at *
  refine⟨fb,t,exs,es,rfl,hfb5,repE5,hes.spots,hes.2.1,by have:=hes.2.2;omega,by omega,fun r G6 s6 rep6=>?_⟩
  have L6:=L5.same s6
  have hfm:=(hes.turned t).perm (sortD_perm _)
  generalize sortD (spotsD t es)=fs at *
  obtain⟨r',fys,e6,hr6,repF6⟩:=rep6
  cases e6
  have lfs:=repF6.length
  have hf6:=hfm.2.2
  refine⟨_,rfl,r,rfl,⟨_,SqT.of hr6⟩,fun D hD=>?_⟩
  refine comp_tup (xs:=fys) (fun k ys G7=>Same G6 G7/\∃ss:List PyData,ss.length=k/\RepAll G7 ss ys/\∀e∈ss,∃r c k:Nat,e=.tuple [.int (r:Nat),.int (c:Nat),.str ⟨#[k]⟩]/\65<=k/\k<=90) ⟨Same.fresh _ hD,[],rfl,rfl,fun e he=>by cases he⟩ (fun k ys G7 p=>SqT.of (p.1 _ _ hr6)) (fun k x ys G7 hx hk hDy hyl p=>?_) (fun ys G7 hDy hyl p=>?_)
  .obtain⟨p1,ss,hsl,rep7,hss⟩:=p
   obtain⟨d,hd,rd⟩:=repF6.at hx
   obtain⟨r0,c0,k0,rfl,hk1,hk2⟩:=hfm.1 d (List.mem_of_getElem? hd)
   obtain⟨b,rfl,hb,hz⟩:=rep_spot rd
   refine⟨b,_,rfl,SqT.of (p1 _ _ hb),rfl,_,_,rfl,_,_,rfl,_,_,rfl,rfl,?_⟩
   refine⟨Agree.set (Agree.set (Agree.set (Agree.refl _) rfl) rfl) rfl,?_⟩
   dsimp only[tYes]
   refine iteT ?_
   refine⟨_,rfl,_,rfl,_,_,rfl,rfl,_,rfl,_,rfl,_,_,rfl,rfl,_,rfl,(by show 3<=sizeLine;decide),fun t8 ht8=>?_⟩
   have s8:Same G7 (upd G7 t8 (.tup [.int ((r0:Int)+(dn:Int)),.int ((c0:Int)+(rt:Int)),.str ⟨#[k0]⟩])):=Same.fresh _ ht8
   have c8:upd G7 t8 (.tup [.int ((r0:Int)+(dn:Int)),.int ((c0:Int)+(rt:Int)),.str ⟨#[k0]⟩]) t8=some (.tup [.int ((r0+dn:Nat):Int),.int ((c0+rt:Nat):Int),.str ⟨#[k0]⟩]):=by rw[upd_same,Int.natCast_add,Int.natCast_add]
   generalize upd G7 t8 (.tup [.int ((r0:Int)+(dn:Int)),.int ((c0:Int)+(rt:Int)),.str ⟨#[k0]⟩])=G8 at *
   have hD8:=s8 _ _ hDy
   have hss':∀e∈ss++[.tuple [.int ((r0+dn:Nat):Int),.int ((c0+rt:Nat):Int),.str ⟨#[k0]⟩]],∃r c k:Nat,e=.tuple [.int (r:Nat),.int (c:Nat),.str ⟨#[k]⟩]/\65<=k/\k<=90:=fun e he=>by
    rcases List.mem_append.mp he with h|h
    .exact hss e h
    .rw[List.mem_singleton.mp h];exact⟨_,_,_,rfl,hk1,hk2⟩
   refine nx_put (by omega) hD8 hyl ⟨(p1.trans s8).new hD,ss++[.tuple [.int ((r0+dn:Nat):Int),.int ((c0+rt:Nat):Int),.str ⟨#[k0]⟩]],by rw[List.length_append,hsl];rfl,((rep7.same s8).snoc (spot_rep c8 hz)).tk (Tk.lst hD8) (Spots.imm fun e he=>?_),hss'⟩
   obtain⟨r1,c1,k1,e1,_⟩:=hss' e he
   exact⟨_,_,_,e1⟩
  .obtain⟨p1,ss,hsl,rep7,hss⟩:=p
   have L7:=L6.same p1
   have hys:=rep7.length
   have hsp:Spots ss:=fun e he=>by obtain⟨r1,c1,k1,e1,_⟩:=hss e he;exact⟨_,_,_,e1⟩
   refine⟨_,rfl,D,rfl,⟨_,SqL.of hDy⟩,fun D2 hD2=>?_⟩
   refine comp_list (xs:=ys) (fun k zs G8=>Same G7 G8/\(zs.length=k->∀e∈ss.take k,∃r c k:Nat,e=.tuple [.int (r:Nat),.int (c:Nat),.str ⟨#[k]⟩]/\r<h/\c<wd/\65<=k/\k<=90)) ⟨Same.fresh _ hD2,fun _ e he=>by cases he⟩ (fun k zs G8 p=>SqL.of (p.1 _ _ hDy)) (fun k x zs G8 hx hk hDz hzl p=>?_) (fun zs G8 hDz hzl p=>?_)
   .obtain⟨p2,hall⟩:=p
    obtain⟨d,hd,rd⟩:=rep7.at hx
    obtain⟨r0,c0,k0,rfl,hk1,hk2⟩:=hss d (List.mem_of_getElem? hd)
    obtain⟨b,rfl,hb,hz⟩:=rep_spot rd
    have hb8:=p2 _ _ hb
    have tk8:=p2 _ _ L7.htk
    refine⟨Agree.set (Agree.refl _) rfl,?_⟩
    have no:∀G9:Hp,Same G8 G9->Nx D2 k (fun k zs G8=>Same G7 G8/\(zs.length=k->∀e∈ss.take k,∃r c k:Nat,e=.tuple [.int (r:Nat),.int (c:Nat),.str ⟨#[k]⟩]/\r<h/\c<wd/\65<=k/\k<=90)) G9:=fun G9 s9=>⟨zs,s9 _ _ hDz,by omega,p2.trans s9,fun e=>by omega⟩
    refine⟨_,rfl,b,_,_,_,rfl,rfl,SqT.of hb8,atI_nat (j:=0) rfl,_,rfl,_,_,rfl,rfl,_,rfl,?_⟩
    refine ite2 (fun h1=>?_) (fun h1=>iteF (no _ (Same.refl _)))
    have h1':(r0:Int)<(h:Nat):=of_decide_eq_true h1
    refine⟨_,rfl,b,_,_,_,rfl,rfl,SqT.of hb8,atI_nat (j:=1) rfl,_,rfl,_,_,rfl,rfl,_,rfl,?_⟩
    refine ite2 (fun h2=>?_) (fun h2=>iteF (no _ (Same.refl _)))
    have h2':(c0:Int)<(wd:Nat):=of_decide_eq_true h2
    refine⟨_,rfl,?_⟩
    dsimp only[tNoPart]
    refine⟨_,rfl,b,_,rfl,SqT.of hb8,nw2,fun t9 ht9=>?_⟩
    have s9:Same G8 (upd G8 t9 (.tup (cutV [.int (r0:Nat),.int (c0:Nat),.str ⟨#[k0]⟩] none (some 2)))):=Same.fresh _ ht9
    have c9:upd G8 t9 (.tup (cutV [.int (r0:Nat),.int (c0:Nat),.str ⟨#[k0]⟩] none (some 2))) t9=some (.tup ((keyP r0 c0).map kV)):=upd_same
    generalize upd G8 t9 (.tup (cutV [.int (r0:Nat),.int (c0:Nat),.str ⟨#[k0]⟩] none (some 2)))=G9 at *
    refine⟨_,rfl,tk,_,rfl,DGet.t (s9 _ _ tk8) c9,_,rfl,?_⟩
    refine ite2 (fun h3=>?_) (fun h3=>no _ s9)
    refine⟨_,rfl,?_⟩
    refine nx_put (by omega) (s9 _ _ hDz) hzl ⟨(p2.trans s9).new hD2,fun e=>?_⟩
    have e':zs.length=k:=by rw[List.length_append,List.length_singleton]at e;omega
    intro e2 he2
    rw[List.take_add_one,hd]at he2
    rcases List.mem_append.mp he2 with h|h
    .exact hall e' e2 h
    .have h:e2=.tuple [.int (r0:Nat),.int (c0:Nat),.str ⟨#[k0]⟩]:=by simpa using h
     rw[h]
     exact⟨r0,c0,k0,rfl,by omega,by omega,hk1,hk2⟩
   .obtain⟨p2,hall⟩:=p
    have L8:=L7.same p2
    have hDy8:=p2 _ _ hDy
    have rep8:=rep7.same p2
    refine⟨_,rfl,D2,_,rfl,.inl (SqL.of hDz),_,rfl,D,_,rfl,.inl (SqL.of hDy8),rfl,_,rfl,?_⟩
    refine ite2 (fun h4=>?_) (fun h4=>?_)
    .have el:zs.length=ys.length:=by
      have:=of_decide_eq_true h4
      injection this with this
      omega
     have hin:=hall el
     rw[List.take_of_length_le (by omega)]at hin
     have hSp:SpN h wd ss:=hin
     refine⟨_,rfl,D,rfl,⟨_,SqL.of hDy8⟩,?_⟩
     refine for_list (xs:=ys) (fun k σ' G9=>∃(y13:Option V) (kvs':List (List Key×V)),σ'=[some (.ref st),some (.ref fl),some (.int (h:Nat)),some (.int (wd:Nat)),some (.ref tk),some (.ref ly),some (.int (0+(i:Nat))),some (.int (j:Nat)),some (.int (dn:Nat)),some (.int (rt:Nat)),some (.ref r),some (.ref D),some (.ref D2),y13]/\Ls H G9 st tk ly n6 kvs' xs pds/\G9 D=some (.lst ys)/\RepAll G9 ss ys/\TkD kvs'/\kvs'.length<=kvs.length+k/\(∀d∈pds,CvD kvs' d)/\∀e∈ss.take k,(valV kvs' (keyP (cellD e).1 (cellD e).2)).isSome=true) ?_ (fun k σ' G9 hk hI=>?_) (fun k v σ' G9 hv hI=>?_) (fun σ' G9 hI=>?_)
     .exact⟨_,kvs,rfl,L8,hDy8,rep8,hT,Nat.le_refl _,fun d hd=>(hP d hd).2,fun e he=>by cases he⟩
     .obtain⟨_,_,_,_,h9,_⟩:=hI
      exact SqL.of h9
     .obtain⟨y13,kvs',rfl,L9,hD9,rep9,hT9,hkl9,hC9,hA9⟩:=hI
      have hk6:k<ys.length:=(List.getElem?_eq_some_iff.mp hv).1
      obtain⟨d,hd,rd⟩:=rep9.at hv
      obtain⟨r0,c0,k0,rfl,hr0,hc0,hk1,hk2⟩:=hSp d (List.mem_of_getElem? hd)
      obtain⟨b,rfl,hb,hz⟩:=rep_spot rd
      refine⟨_,rfl,b,_,_,_,rfl,rfl,SqT.of hb,atI_nat (j:=2) rfl,_,rfl,_,rfl,?_⟩
      dsimp only[tNoPart]
      refine⟨_,rfl,b,_,rfl,SqT.of hb,nw2,fun t9 ht9=>?_⟩
      have s9:Same G9 (upd G9 t9 (.tup (cutV [.int (r0:Nat),.int (c0:Nat),.str ⟨#[k0]⟩] none (some 2)))):=Same.fresh _ ht9
      have c9:upd G9 t9 (.tup (cutV [.int (r0:Nat),.int (c0:Nat),.str ⟨#[k0]⟩] none (some 2))) t9=some (.tup ((keyP r0 c0).map kV)):=upd_same
      generalize upd G9 t9 (.tup (cutV [.int (r0:Nat),.int (c0:Nat),.str ⟨#[k0]⟩] none (some 2)))=G10 at *
      have L10:=L9.same s9
      refine⟨tk,_,rfl,DPut.t (k:=keyP r0 c0) L10.htk c9 (small1000 (by omega)),?_⟩
      have nDt:D≠tk:=fun e=>by have:=L8.htk;rw[<-e,hDy8]at this;cases this
      have tkk:Tk G10 (upd G10 tk (.dT (putK kvs' (keyP r0 c0) (.str ⟨#[k0]⟩)))):=fun c zs hc=>by
       rw[upd_ne (fun e=>by rw[e,L10.htk]at hc;cases hc)]
       exact hc
      have grow:∀key,(valV kvs' key).isSome=true->(valV (putK kvs' (keyP r0 c0) (V.str ⟨#[k0]⟩)) key).isSome=true:=fun key hk=>by
       rw[valV_put]
       split
       .rfl
       .exact hk
      refine⟨_,_,rfl,⟨L10.ex.new htk,by rw[upd_ne (Ne.symm ntk)];exact L10.hst,upd_same,by rw[upd_ne nlt];exact L10.hly,L10.rep.tk tkk imP⟩,by rw[upd_ne nDt];exact s9 _ _ hD9,(rep9.same s9).tk tkk (Spots.imm hsp),fun r1 c1 v1 e1=>?_,?_,fun d hd p hp=>grow _ (hC9 d hd p hp),fun e he=>?_⟩
      .rw[valV_put]at e1
       split at e1
       .cases e1
        exact⟨k0,rfl,hk1,hk2⟩
       .exact hT9 r1 c1 v1 e1
      .have:=length_putK kvs' (keyP r0 c0) (V.str ⟨#[k0]⟩)
       omega
      .rw[List.take_add_one,hd]at he
       rcases List.mem_append.mp he with h|h
       .exact grow _ (hA9 e h)
       .have h:e=.tuple [.int (r0:Nat),.int (c0:Nat),.str ⟨#[k0]⟩]:=by simpa using h
        rw[h]
        show(valV (putK kvs' (keyP r0 c0) (V.str ⟨#[k0]⟩)) (keyP r0 c0)).isSome=true
        rw[valV_put,if_pos rfl]
        rfl
     .obtain⟨y13,kvs',rfl,L9,hD9,rep9,hT9,hkl9,hC9,hA9⟩:=hI
      rw[List.take_of_length_le (by omega)]at hA9
      refine⟨_,rfl,.inl ⟨rfl,_,SqL.of L9.hly⟩,_,rfl,D,ys,ss,[true,false],rfl,hD9,rep9,spots_rows hsp,by omega,fun l11 ws hl11 rep11=>?_⟩
      have s11:Same G9 (upd G9 l11 (.lst ws)):=Same.fresh _ hl11
      have c11:upd G9 l11 (.lst ws) l11=some (.lst ws):=upd_same
      generalize upd G9 l11 (.lst ws)=G11 at *
      refine⟨l11,ws,rfl,.inl ⟨SqL.of c11,fun l12 hl12=>?_⟩⟩
      have s12:Same G11 (upd G11 l12 (.tup ws)):=Same.fresh _ hl12
      have c12:upd G11 l12 (.tup ws) l12=some (.tup ws):=upd_same
      generalize upd G11 l12 (.tup ws)=G12 at *
      refine⟨_,rfl,(by show 2<=sizeLine;decide),fun l13 hl13=>?_⟩
      have s13:Same G12 (upd G12 l13 (.tup [.ref l12,.int (j:Nat)])):=Same.fresh _ hl13
      have c13:upd G12 l13 (.tup [.ref l12,.int (j:Nat)]) l13=some (.tup [.ref l12,.int (j:Nat)]):=upd_same
      generalize upd G12 l13 (.tup [.ref l12,.int (j:Nat)])=G13 at *
      have L13:=((L9.same s11).same s12).same s13
      have lxs:=L9.rep.length
      have pS:=sortD_perm ss
      have hnew:PlD h wd (.tuple [.tuple (sortD ss),.int (j:Nat)]):=⟨sortD ss,_,rfl,fun e he=>hSp e (pS.mem_iff.mp he),by rw[pS.length_eq];omega⟩
      have hall':∀d∈pds++[.tuple [.tuple (sortD ss),.int (j:Nat)]],PlD h wd d/\CvD kvs' d:=fun d hd=>by
       rcases List.mem_append.mp hd with h|h
       .exact⟨(hP d h).1,hC9 d h⟩
       .rw[List.mem_singleton.mp h]
        refine⟨hnew,fun p hp=>?_⟩
        obtain⟨e,he,rfl⟩:=List.mem_map.mp hp
        exact hA9 e (pS.mem_iff.mp he)
      refine⟨ly,xs,.ref l13,rfl,rfl,L13.hly,small1000 (by omega),?_⟩
      have repN:Rep G13 (.tuple [.tuple (sortD ss),.int (j:Nat)]) (.ref l13):=⟨l13,_,rfl,c13,_,_,rfl,⟨l12,ws,rfl,s13 _ _ c12,rep11.same (s12.trans s13)⟩,_,_,rfl,rfl,rfl⟩
      refine⟨_,_,_,_,_,_,_,_,n6,kvs',xs++[.ref l13],pds++[.tuple [.tuple (sortD ss),.int (j:Nat)]],rfl,⟨L13.ex.new hlyn,by rw[upd_ne (Ne.symm nly)];exact L13.hst,by rw[upd_ne (Ne.symm nlt)];exact L13.htk,upd_same,(L13.rep.snoc repN).tk (Tk.lst L13.hly) (PlD.imm fun d hd=>(hall' d hd).1)⟩,hT9,hall',by rw[List.length_append,List.length_singleton];omega,by omega⟩
    .exact⟨_,_,_,_,_,_,_,_,n6,kvs,xs,pds,rfl,L8,hT,hP,by omega,by omega⟩
 .obtain⟨y6,y7,y8,y9,y10,y11,y12,y13,n1,kvs,xs,pds,rfl,L,hT,hP,hpl,hkl⟩:=hI
  refine⟨_,rfl,_,rfl,(by show 2<=sizeLine;decide),fun p hp=>?_⟩
  exact q p tk ly _ n1 kvs xs pds htk hlyn (L.same (Same.fresh _ hp)) upd_same hT hP (by omega)
end
def Rw(zs:List Str):Prop:=0<zs.length/\zs.length<=8/\∃wd,0<wd/\wd<=8/\∀z∈zs,(Tx z/\∀c∈z.cps.toList,sgB c=true)/\z.length=wd
theorem lenL(z:Str):z.cps.toList.length=z.length:=by simp[Str.length]
theorem mat_of{zs:List Str}(h:Rw zs):∃M:Mat,zs=strsM M/\OkM SgP M:=by
 obtain⟨h1,h8,wd,w1,w8,hz⟩:=h
 refine⟨⟨zs.length,wd,fun r c=>((zs[r]?.map fun z=>z.cps.toList).getD []).getD c 0⟩,?_,⟨h1,h8,w1,w8,fun r c hr hc=>?_⟩⟩
 .apply List.ext_getElem?
  intro r
  by_cases hr:r<zs.length
  .rw[strs_at (M:=⟨zs.length,wd,_⟩) hr,List.getElem?_eq_getElem hr]
   have hz':=hz _ (List.getElem_mem hr)
   have hl:zs[r].cps.toList.length=wd:=by rw[lenL];exact hz'.2
   have e:lineM ⟨zs.length,wd,fun r c=>((zs[r]?.map fun z=>z.cps.toList).getD []).getD c 0⟩ r=zs[r].cps.toList:=by
    apply List.ext_getElem?
    intro c
    by_cases hc:c<wd
    .rw[line_at (M:=⟨zs.length,wd,fun r c=>((zs[r]?.map fun z=>z.cps.toList).getD []).getD c 0⟩) hc]
     show some (((zs[r]?.map fun z=>z.cps.toList).getD []).getD c 0)=_
     rw[List.getElem?_eq_getElem hr]
     show some (zs[r].cps.toList.getD c 0)=_
     rw[List.getD_eq_getElem?_getD,List.getElem?_eq_getElem (by omega)]
     rfl
    .rw[List.getElem?_eq_none (by rw[line_len];exact Nat.le_of_not_lt hc),List.getElem?_eq_none (by omega)]
   rw[e]
  .rw[List.getElem?_eq_none (by omega),List.getElem?_eq_none (by rw[strs_len];exact Nat.le_of_not_lt hr)]
 .have hr':r<zs.length:=hr
  have hc':c<wd:=hc
  have hz':=hz _ (List.getElem_mem hr')
  have hl:zs[r].cps.toList.length=wd:=by rw[lenL];exact hz'.2
  show sgB (((zs[r]?.map fun z=>z.cps.toList).getD []).getD c 0)=true
  rw[List.getElem?_eq_getElem hr']
  show sgB (zs[r].cps.toList.getD c 0)=true
  rw[List.getD_eq_getElem?_getD,List.getElem?_eq_getElem (by omega)]
  exact hz'.1.2 _ (List.getElem_mem _)
theorem strs_tx{M:Mat}(o:OkM SgP M){z:Str}(h:z∈strsM M):(Tx z/\∀c∈z.cps.toList,sgB c=true)/\z.length=M.w:=by
 obtain⟨r,hr,rfl⟩:=strs_mem h
 have hs:=line_sg o hr
 have hl:(⟨(lineM M r).toArray⟩:Str).length=M.w:=by show(lineM M r).toArray.size=_;rw[List.size_toArray,line_len]
 have hw:=o.w8
 have e:((⟨(lineM M r).toArray⟩:Str).cps.toList)=lineM M r:=by simp
 refine⟨⟨⟨by omega,fun c hc=>?_⟩,fun c hc=>?_⟩,hl⟩
 .rw[e]at hc;exact sg128 (hs c hc)
 .rw[e]at hc;exact hs c hc
theorem snoc_str(cs:List Nat)(c:Nat):(⟨cs.toArray⟩:Str)++(⟨#[c]⟩:Str)=⟨(cs++[c]).toArray⟩:=by
 show(⟨cs.toArray ++ #[c]⟩:Str)=_
 simp
theorem len_str(cs:List Nat):(⟨cs.toArray⟩:Str).length=cs.length:=List.size_toArray
theorem sg_str{cs:List Nat}(h:∀c∈cs,sgB c=true)(hl:cs.length<=8):Tx ⟨cs.toArray⟩/\∀c∈(⟨cs.toArray⟩:Str).cps.toList,sgB c=true:=by
 have e:(⟨cs.toArray⟩:Str).cps.toList=cs:=by simp
 rw[e]
 exact⟨⟨by rw[len_str];omega,fun c hc=>by rw[e]at hc;exact sg128 (h c hc)⟩,h⟩
theorem mat_ls{ls:List (List Nat)}{wd:Nat}(h1:0<ls.length)(h8:ls.length<=8)(w1:0<wd)(w8:wd<=8)(hz:∀l∈ls,(∀c∈l,sgB c=true)/\l.length=wd) :
  ∃M:Mat,ls.map (fun l=>(⟨l.toArray⟩:Str))=strsM M/\OkM SgP M/\M.h=ls.length/\M.w=wd/\∀r c l,ls[r]?=some l->c<wd->l[c]?=some (M.g r c):=by
 obtain⟨M,e,o⟩:=mat_of (zs:=ls.map fun l=>(⟨l.toArray⟩:Str)) ⟨by rw[List.length_map];exact h1,by rw[List.length_map];exact h8,wd,w1,w8,fun z hz'=>by
  obtain⟨l,hl,rfl⟩:=List.mem_map.mp hz'
  obtain⟨a,b⟩:=hz l hl
  exact⟨sg_str a (by omega),by rw[len_str];exact b⟩⟩
 have eh:M.h=ls.length:=by rw[<-strs_len,<-e,List.length_map]
 have ew:M.w=wd:=by
  have hm:=List.getElem_mem h1
  have b:=(strs_tx o (z:=⟨(ls[0]).toArray⟩) (by rw[<-e];exact List.mem_map_of_mem hm)).2
  rw[len_str]at b
  have:=(hz _ hm).2
  omega
 refine⟨M,e,o,eh,ew,fun r c l hr hc=>?_⟩
 have hrl:=(List.getElem?_eq_some_iff.mp hr).1
 have h2:=strs_at (M:=M) (r:=r) (by omega)
 rw[<-e,List.getElem?_map,hr]at h2
 have h3:(⟨l.toArray⟩:Str)=⟨(lineM M r).toArray⟩:=by injection h2
 have h4:l.toArray=(lineM M r).toArray:=by injection h3
 have h5:l=lineM M r:=by have:=congrArg Array.toList h4;simpa using this
 rw[h5]
 exact line_at (by omega)
theorem lo_sg{k:Nat}(h1:65<=k)(h2:k<=90):sgB k=true/\sgB (lo1 k)=true/\k≠35/\lo1 k≠35:=by
 have:∀k<91,65<=k->sgB k=true/\sgB (lo1 k)=true/\k≠35/\lo1 k≠35:=by decide +kernel
 exact this k (by omega) h1
section
variable{P:Program}{w:World}{K:PySem.W.Frag}{mg:Str->Option Value}{base:Heap}{f:Addr}{fd:FuncData}
def spFloor:Sp:=fun vs H Q _=>∃(st tk:Addr) (n:Int) (h wd:Nat) (kvs:List (List Key×V)),vs=[.ref st,.ref tk,.int (h:Nat),.int (wd:Nat)]/\H st=some (.lst [.int n])/\H tk=some (.dT kvs)/\TkD kvs/\0<h/\h<=8/\0<wd/\wd<=8/\
 ∀(r:Addr) (G:Hp) (n':Int) (M:Mat),Ex [st] H G->G st=some (.lst [.int n'])->FlM G r M->M.h=h->M.w=wd->(∀r c,r<h->c<wd->(valV kvs (keyP r c)).isSome=true->M.g r c≠35)->Q (.ref r) G
theorem scFloor:FnScope ["_law_state_here","_law_taken","_law_high","_law_wide","_law_rows","_law_row","_law_line","_law_column","_law_lot","_law_sign"] ["_law_state_here","_law_taken","_law_high","_law_wide"] (defScope sFloor):=⟨rfl,rfl,rfl,by decide +kernel,rfl,by decide +kernel,by decide +kernel⟩
theorem ok_floor(B:∀x∈blts,mg x=none)(Fnext:FnNext P w K mg base)(F:Fun K "_law_floor_of" "_law_floor_of" sFloor f fd):FnOk P w K mg base CX0 2 f fd ["_law_state_here","_law_taken","_law_high","_law_wide"] spFloor:=by
 refine F.ok (k:=1) scFloor (fun vs H Q E h=>?_) (fun cdv A outer s H vs Q E hr h=>?_)
 .obtain⟨st,tk,n,h,wd,kvs,rfl,_⟩:=h
  rfl
 obtain⟨st,tk,n,h,wd,kvs,rfl,hst,htk,hT,hh1,hh8,hw1,hw8,q⟩:=h
 have hu:=hr.units
 refine⟨_,(pss_cons (ps_set (i:=4) scFloor.nd rfl (Or.inl rfl) (pe_lst pa_nil))
  (pss_cons (ps_for PassesOwn.never rfl (pi_r1 rfl (B "range" (by decide)) (pa_c (pv 2) pa_nil)) (pg_name (i:=5) scFloor.nd rfl (Or.inl rfl)) (pss_cons (ps_set (i:=6) scFloor.nd rfl (Or.inl rfl) pe_str)
  (pss_cons (ps_for PassesOwn.never rfl (pi_r1 rfl (B "range" (by decide)) (pa_c (pv 3) pa_nil)) (pg_name (i:=7) scFloor.nd rfl (Or.inl rfl)) (pss_cons (ps_set (i:=8) scFloor.nd rfl (Or.inl rfl) (pe_fn Fnext hr (by decide) rfl (pa_c (pv 0) (pa_c pe_int pa_nil))))
  (pss_one (ps_if (pt_cmp (pc_din (Nat.lt_of_le_of_lt (Nat.add_le_add_left (by decide) _) hu) (pe_tup (pa_c (pv 5) (pa_c (pv 7) pa_nil))) (pv 1))) (pss_cons (ps_set (i:=9) scFloor.nd rfl (Or.inl rfl) (pe_dget (Nat.lt_of_le_of_lt (Nat.add_le_add_left (by decide) _) hu) (pv 1) (pe_tup (pa_c (pv 5) (pa_c (pv 7) pa_nil))) (fun _ _=>rfl)))
  (pss_one (ps_aug (i:=6) scFloor.nd rfl (Or.inl rfl) (pe_ix ix_list (pe_lst (pa_c pe_str (pa_c pe_str (pa_c (pv 9) (pa_c (pe_bm0 PySem.F.plainAttrs_str PySem.F.slot_str_lower PySem.F.type_str_lower mt_lower (pv 9)) pa_nil))))) (pv 8) (fun _ _=>rfl)) ip_addS))) (pss_one (ps_aug (i:=6) scFloor.nd rfl (Or.inl rfl) (pe_ix ix_list (pe_lst (pa_c pe_str (pa_c pe_str (pa_c pe_str (pa_c pe_str pa_nil))))) (pv 8) (fun _ _=>rfl)) ip_addS))))))
  (pss_one (ps_expr (pe_bm PySem.F.plainAttrs_list PySem.F.slot_list_append PySem.F.type_list_append mt_append (pv 4) (pa_c (pv 6) pa_nil)))))))
  (pss_one (ps_ret (pe_cT call_tuple_of rfl (B "tuple" (by decide)) boot_tuple (pa_c (pv 4) pa_nil)))))),?_⟩
 refine⟨(by show 0<=sizeLine;decide),fun D hD=>?_⟩
 have s1:Same H (upd H D (.lst [])):=Same.fresh _ hD
 have d1:upd H D (.lst []) D=some (.lst ([]:List V)):=upd_same
 generalize upd H D (.lst [])=H1 at *
 have nD:D≠st:=fun e=>by rw[e,hst]at hD;cases hD
 have ntk:tk≠st:=fun e=>by rw[e,hst]at htk;cases htk
 have nDt:tk≠D:=fun e=>by rw[e,hD]at htk;cases htk
 refine⟨_,rfl,(h:Nat),rfl,by omega,by omega,?_⟩
 rw[Int.toNat_natCast]
 refine for_range (lo:=0) (fun i σ' G=>∃(y5 y6 y7 y8 y9:Option V) (n:Int) (ls:List (List Nat)),σ'=[some (.ref st),some (.ref tk),some (.int (h:Nat)),some (.int (wd:Nat)),some (.ref D),y5,y6,y7,y8,y9]/\Ex [st] H G/\G st=some (.lst [.int n])/\G D=some (.lst ((ls.map fun l=>(⟨l.toArray⟩:Str)).map V.str))/\ls.length=i/\(∀l∈ls,(∀c∈l,sgB c=true)/\l.length=wd)/\∀r c l,ls[r]?=some l->(valV kvs (keyP r c)).isSome=true->l[c]?≠some 35) ?_ (fun i σ' G hi hI=>?_) (fun σ' G hI=>?_)
 .exact⟨_,_,_,_,_,n,[],rfl,Ex.of_same s1,s1 _ _ hst,d1,rfl,(fun l hl=>by cases hl),(fun r c l hl=>by simp at hl)⟩
 .obtain⟨y5,y6,y7,y8,y9,n1,ls,rfl,ex,hst1,hD1,hll,hls,hop⟩:=hI
  refine⟨_,rfl,(wd:Nat),rfl,by omega,by omega,?_⟩
  rw[Int.toNat_natCast]
  refine for_range (lo:=0) (fun j σ' G2=>∃(y7 y8 y9:Option V) (n:Int) (cs:List Nat),σ'=[some (.ref st),some (.ref tk),some (.int (h:Nat)),some (.int (wd:Nat)),some (.ref D),some (.int (0+(i:Nat))),some (.str ⟨cs.toArray⟩),y7,y8,y9]/\Ex [st] H G2/\G2 st=some (.lst [.int n])/\G2 D=some (.lst ((ls.map fun l=>(⟨l.toArray⟩:Str)).map V.str))/\cs.length=j/\(∀c∈cs,sgB c=true)/\∀c,(valV kvs (keyP i c)).isSome=true->cs[c]?≠some 35) ?_ (fun j σ' G2 hj hI=>?_) (fun σ' G2 hI=>?_)
  .exact⟨_,_,_,n1,[],rfl,ex,hst1,hD1,rfl,(fun c hc=>by cases hc),(fun c _ hc=>by simp at hc)⟩
  .obtain⟨y7,y8,y9,n2,cs,rfl,ex2,hst2,hD2,hcl,hcs,hco⟩:=hI
   refine⟨_,rfl,st,n2,4,rfl,hst2,by decide,fun n3 i3 h30 h31=>?_⟩
   obtain⟨lot,rfl⟩:=Int.eq_ofNat_of_zero_le h30
   have ex3:Ex [st] H (upd G2 st (.lst [.int n3])):=ex2.trans (Ex.upd (by simp))
   have st3:upd G2 st (.lst [.int n3]) st=some (.lst [.int n3]):=upd_same
   have D3:upd G2 st (.lst [.int n3]) D=some (.lst ((ls.map fun l=>(⟨l.toArray⟩:Str)).map V.str)):=by rw[upd_ne nD];exact hD2
   generalize upd G2 st (.lst [.int n3])=G3 at *
   have tk3:G3 tk=some (.dT kvs):=ex3.at ntk htk
   refine⟨_,rfl,_,rfl,(by show 2<=sizeLine;decide),fun p4 hp4=>?_⟩
   have s4:Same G3 (upd G3 p4 (.tup [.int (0+(i:Nat)),.int (0+(j:Nat))])):=Same.fresh _ hp4
   have c4:upd G3 p4 (.tup [.int (0+(i:Nat)),.int (0+(j:Nat))]) p4=some (.tup ((keyP i j).map kV)):=by rw[upd_same,Int.zero_add,Int.zero_add];rfl
   generalize upd G3 p4 (.tup [.int (0+(i:Nat)),.int (0+(j:Nat))])=G4 at *
   refine⟨_,rfl,tk,_,rfl,DGet.t (s4 _ _ tk3) c4,_,rfl,?_⟩
   have fin:∀(c:Nat) (G':Hp),Same G4 G'->sgB c=true->((valV kvs (keyP i j)).isSome=true->c≠35)->∀y7 y8 y9:Option V,∃(z7 z8 z9:Option V) (n:Int) (cs':List Nat),[some (V.ref st),some (.ref tk),some (.int (h:Nat)),some (.int (wd:Nat)),some (.ref D),some (.int (0+(i:Nat))),some (.str ((⟨cs.toArray⟩:Str)++(⟨#[c]⟩:Str))),y7,y8,y9]=[some (.ref st),some (.ref tk),some (.int (h:Nat)),some (.int (wd:Nat)),some (.ref D),some (.int (0+(i:Nat))),some (.str ⟨cs'.toArray⟩),z7,z8,z9]/\Ex [st] H G'/\G' st=some (.lst [.int n])/\G' D=some (.lst ((ls.map fun l=>(⟨l.toArray⟩:Str)).map V.str))/\cs'.length=j+1/\(∀c∈cs',sgB c=true)/\∀c,(valV kvs (keyP i c)).isSome=true->cs'[c]?≠some 35:=fun c G' s' hc hc2 y7 y8 y9=>by
    refine⟨y7,y8,y9,n3,cs++[c],by rw[snoc_str],(ex3.trans (Ex.of_same s4)).trans (Ex.of_same s'),s' _ _ (s4 _ _ st3),s' _ _ (s4 _ _ D3),by rw[List.length_append,hcl];rfl,fun d hd=>?_,fun d hd e=>?_⟩
    .rcases List.mem_append.mp hd with h|h
     .exact hcs d h
     .rw[List.mem_singleton.mp h];exact hc
    .by_cases hdj:d<cs.length
     .rw[List.getElem?_append_left hdj]at e
      exact hco d hd e
     .have hl:=(List.getElem?_eq_some_iff.mp e).1
      rw[List.length_append,List.length_singleton]at hl
      have e5:d=j:=by omega
      subst e5
      rw[List.getElem?_append_right (by omega),hcl,Nat.sub_self]at e
      have e6:c=35:=by simpa using e
      exact hc2 hd e6
   have llen:∀c:Nat,(⟨cs.toArray⟩:Str).length+(⟨#[c]⟩:Str).length<=sizeLine:=fun c=>by
    rw[len_str]
    exact Nat.le_of_lt (small1000 (by show cs.length+1<=1000;omega))
   cases hv:valV kvs (keyP i j)with
   | some v=>
    refine iteT ?_
    obtain⟨k,rfl,hk1,hk2⟩:=hT _ _ _ hv
    have hk:=lo_sg hk1 hk2
    refine⟨_,rfl,_,rfl,_,rfl,(by show 2<=sizeLine;decide),fun p5 hp5=>?_⟩
    have s5:Same G4 (upd G4 p5 (.tup [.int (0+(i:Nat)),.int (0+(j:Nat))])):=Same.fresh _ hp5
    have c5:upd G4 p5 (.tup [.int (0+(i:Nat)),.int (0+(j:Nat))]) p5=some (.tup ((keyP i j).map kV)):=by rw[upd_same,Int.zero_add,Int.zero_add];rfl
    generalize upd G4 p5 (.tup [.int (0+(i:Nat)),.int (0+(j:Nat))])=G5 at *
    refine⟨tk,.str ⟨#[k]⟩,rfl,by rw[<-hv];exact DGet.t (s5 _ _ (s4 _ _ tk3)) c5,?_⟩
    refine⟨_,rfl,_,rfl,_,rfl,rfl,k,rfl,rfl,by omega,(by show 4<=sizeLine;decide),fun p6 hp6=>?_⟩
    have e46:Str.ofString "." = ⟨#[46]⟩:=by decide +kernel
    have e44:Str.ofString "," = ⟨#[44]⟩:=by decide +kernel
    rw[e46,e44]
    have s6:Same G5 (upd G5 p6 (.lst [.str ⟨#[46]⟩,.str ⟨#[44]⟩,.str ⟨#[k]⟩,.str ⟨#[lo1 k]⟩])):=Same.fresh _ hp6
    have c6:upd G5 p6 (.lst [.str ⟨#[46]⟩,.str ⟨#[44]⟩,.str ⟨#[k]⟩,.str ⟨#[lo1 k]⟩]) p6=some (.lst [.str ⟨#[46]⟩,.str ⟨#[44]⟩,.str ⟨#[k]⟩,.str ⟨#[lo1 k]⟩]):=upd_same
    generalize upd G5 p6 (.lst [.str ⟨#[46]⟩,.str ⟨#[44]⟩,.str ⟨#[k]⟩,.str ⟨#[lo1 k]⟩])=G6 at *
    obtain⟨c,hc,hc1,hc2⟩:∃c,[V.str ⟨#[46]⟩,.str ⟨#[44]⟩,.str ⟨#[k]⟩,.str ⟨#[lo1 k]⟩][lot]?=some (.str ⟨#[c]⟩)/\sgB c=true/\c≠35:=by
     have hl4:lot<4:=by omega
     match lot,hl4 with
     | 0,_=>exact⟨46,rfl,by decide,by decide⟩
     | 1,_=>exact⟨44,rfl,by decide,by decide⟩
     | 2,_=>exact⟨k,rfl,hk.1,hk.2.2.1⟩
     | 3,_=>exact⟨lo1 k,rfl,hk.2.1,hk.2.2.2⟩
    refine⟨_,rfl,p6,_,_,.str ⟨#[c]⟩,rfl,rfl,SqL.of c6,atI_nat hc,_,_,rfl,rfl,llen c,?_⟩
    exact fin c _ (s5.trans s6) hc1 (fun _=>hc2) _ _ _
   | none=>
    refine iteF ?_
    refine⟨_,rfl,(by show 4<=sizeLine;decide),fun p6 hp6=>?_⟩
    have e35:Str.ofString "#" = ⟨#[35]⟩:=by decide +kernel
    have e44:Str.ofString "," = ⟨#[44]⟩:=by decide +kernel
    have e98:Str.ofString "b" = ⟨#[98]⟩:=by decide +kernel
    rw[e35,e44,e98]
    have s6:Same G4 (upd G4 p6 (.lst [.str ⟨#[44]⟩,.str ⟨#[35]⟩,.str ⟨#[98]⟩,.str ⟨#[44]⟩])):=Same.fresh _ hp6
    have c6:upd G4 p6 (.lst [.str ⟨#[44]⟩,.str ⟨#[35]⟩,.str ⟨#[98]⟩,.str ⟨#[44]⟩]) p6=some (.lst [.str ⟨#[44]⟩,.str ⟨#[35]⟩,.str ⟨#[98]⟩,.str ⟨#[44]⟩]):=upd_same
    generalize upd G4 p6 (.lst [.str ⟨#[44]⟩,.str ⟨#[35]⟩,.str ⟨#[98]⟩,.str ⟨#[44]⟩])=G6 at *
    obtain⟨c,hc,hc1⟩:∃c,[V.str ⟨#[44]⟩,.str ⟨#[35]⟩,.str ⟨#[98]⟩,.str ⟨#[44]⟩][lot]?=some (.str ⟨#[c]⟩)/\sgB c=true:=by
     have hl4:lot<4:=by omega
     match lot,hl4 with
     | 0,_=>exact⟨44,rfl,by decide⟩
     | 1,_=>exact⟨35,rfl,by decide⟩
     | 2,_=>exact⟨98,rfl,by decide⟩
     | 3,_=>exact⟨44,rfl,by decide⟩
    refine⟨_,rfl,p6,_,_,.str ⟨#[c]⟩,rfl,rfl,SqL.of c6,atI_nat hc,_,_,rfl,rfl,llen c,?_⟩
    exact fin c _ s6 hc1 (fun z=>by rw[hv]at z;cases z) _ _ _
  .obtain⟨y7,y8,y9,n2,cs,rfl,ex2,hst2,hD2,hcl,hcs,hco⟩:=hI
   refine⟨_,rfl,.inl ⟨rfl,_,SqL.of hD2⟩,_,rfl,D,_,.str ⟨cs.toArray⟩,rfl,rfl,hD2,small1000 (by rw[List.length_map,List.length_map];omega),?_⟩
   refine⟨_,_,_,_,_,n2,ls++[cs],rfl,ex2.new hD,by rw[upd_ne (Ne.symm nD)];exact hst2,by rw[upd_same,List.map_append,List.map_append];rfl,by rw[List.length_append,hll];rfl,fun l hl=>?_,fun r c l hl hv=>?_⟩
   .rcases List.mem_append.mp hl with h|h
    .exact hls l h
    .rw[List.mem_singleton.mp h];exact⟨hcs,hcl⟩
   .by_cases hr:r<ls.length
    .rw[List.getElem?_append_left hr]at hl
     exact hop r c l hl hv
    .have hl2:=(List.getElem?_eq_some_iff.mp hl).1
     rw[List.length_append,List.length_singleton]at hl2
     have e5:r=i:=by omega
     subst e5
     rw[List.getElem?_append_right (by omega),hll,Nat.sub_self]at hl
     have e6:cs=l:=by simpa using hl
     rw[<-e6]
     exact hco c hv
 .obtain⟨y5,y6,y7,y8,y9,n1,ls,rfl,ex,hst1,hD1,hll,hls,hop⟩:=hI
  obtain⟨M,e,o,eh,ew,hg⟩:=mat_ls (by omega) (by omega) hw1 hw8 hls
  rw[e]at hD1
  refine⟨_,rfl,D,_,rfl,.inl ⟨SqL.of hD1,fun l hl=>?_⟩⟩
  refine q l _ n1 M (ex.new (by
   cases hx:H l with
   | none=>rfl
   | some o=>exact absurd (ex l o (fun z=>by rw[List.mem_singleton.mp z,hst1]at hl;cases hl) hx) (by rw[hl];simp))) ?_ ⟨upd_same,o⟩ (by omega) ew (fun r c hr hc hv e2=>?_)
  .rw[upd_ne (fun z=>by rw[<-z,hst1]at hl;cases hl)]
   exact hst1
  .have hrl:r<ls.length:=by omega
   have h1:=hg r c _ (List.getElem?_eq_getElem hrl) hc
   exact hop r c _ (List.getElem?_eq_getElem hrl) hv (by rw[h1,e2])
end
def GS(mg:Str->Option Value)(x z:Str):Prop:=∃t,mg x=some (.str z t)
theorem eH:Str.ofString "#" = ⟨#[35]⟩:=by decide +kernel
theorem dec_str(c d:Nat){z:Str}(hz:z=⟨#[d]⟩):decide (V.str ⟨#[c]⟩=V.str z)=(c==d):=by
 subst hz
 rw[Bool.eq_iff_iff,decide_eq_true_eq,beq_iff_eq]
 constructor
 .intro h
  injection h with h
  injection h with h
  injection h with h
  injection h with h
 .intro h
  rw[h]
theorem strs_ati{M:Mat}{r:Nat}(h:r<M.h):((strsM M).map V.str)[r]?=some (V.str ⟨(lineM M r).toArray⟩):=by rw[List.getElem?_map,strs_at h];rfl
theorem line_str_len(N:Mat)(r:Nat):(⟨(lineM N r).toArray⟩:Str).length=N.w:=by show(lineM N r).toArray.size=_;rw[List.size_toArray,line_len]
theorem w_line{N:Mat}(o:OkM SgP N):N.w<=sizeLine:=Nat.le_of_lt (small1000 (by have:=o.w8;omega))
theorem join_line(l:List Nat):Txt.join (Str.ofString "") (l.map fun c=>(⟨#[c]⟩:Str))=⟨l.toArray⟩:=by
 have e:=join_list_eq (g:=Str.ofString "") (by decide +kernel) (l.map fun c=>(⟨#[c]⟩:Str))
 have e2:((l.map fun c=>(⟨#[c]⟩:Str)).map fun p=>p.cps.toList).flatten=l:=by
  clear e
  rw[List.map_map]
  induction l with
  | nil=>rfl
  | cons a t ih=>rw[List.map_cons,List.flatten_cons];exact congrArg (a :: ·) ih
 rw[e2]at e
 have e3:(Txt.join (Str.ofString "") (l.map fun c=>(⟨#[c]⟩:Str))).cps=l.toArray:=Array.toList_inj.mp (by rw[e])
 calc Txt.join (Str.ofString "") (l.map fun c=>(⟨#[c]⟩:Str))=⟨(Txt.join (Str.ofString "") (l.map fun c=>(⟨#[c]⟩:Str))).cps⟩:=rfl
  _=⟨l.toArray⟩:=by rw[e3]
abbrev Mk:=Nat->Nat->Option Nat
def picM(M:Mat)(m:Mk):Mat:=⟨M.h,M.w,fun r c=>if M.g r c=35 then 35 else(m r c).getD 45⟩
def DkM(kvs:List (List Key×V))(m:Mk):Prop:=∀r c,valV kvs (keyP r c)=(m r c).map fun k=>V.str ⟨#[k]⟩
section
variable{P:Program}{w:World}{K:PySem.W.Frag}{mg:Str->Option Value}{base:Heap}{f:Addr}{fd:FuncData}
def spCl(R:Nat->V):Sp:=fun vs H Q _=>∃(a b:Addr) (M:Mat) (r c:Nat),vs=[.ref a,.ref b]/\FlM H a M/\H b=some (.tup [.int (r:Nat),.int (c:Nat)])/\r<M.h/\c<M.w/\Q (R (M.g r c)) H
theorem scAt:FnScope ["floor","cell","row","column"] ["floor","cell"] (defScope sAt):=⟨rfl,rfl,rfl,by decide +kernel,rfl,by decide +kernel,by decide +kernel⟩
theorem ok_at(B:∀x∈blts,mg x=none)(gC:GS mg "CLOSED" "#")(F:Fun K "sign_at" "sign_at" sAt f fd):FnOk P w K mg base CX0 1 f fd ["floor","cell"] (spCl fun k=>.str ⟨#[k]⟩):=by
 refine F.ok (k:=0) scAt (fun vs H Q E h=>?_) (fun cdv A outer s H vs Q E hr h=>?_)
 .obtain⟨a,b,M,r,c,rfl,_⟩:=h
  rfl
 obtain⟨a,b,M,r,c,rfl,hf,hb,hrM,hcM,q⟩:=h
 dsimp only at q
 obtain⟨ha,okM⟩:=hf
 have hat:atI ((strsM M).map V.str) (r:Int)=some (.str ⟨(lineM M r).toArray⟩):=atI_nat (strs_ati hrM)
 have zl:(⟨(lineM M r).toArray⟩:Str).length<=sizeLine:=by rw[line_str_len];exact w_line okM
 refine⟨_,(pss_cons (ps_set (i:=2) scAt.nd rfl (Or.inl rfl) (pe_ix ix_tup (pv 1) pe_int (fun _ _=>rfl)))
  (pss_cons (ps_set (i:=3) scAt.nd rfl (Or.inl rfl) (pe_ix ix_tup (pv 1) pe_int (fun _ _=>rfl)))
  (pss_cons (ps_if (PW.pt (pw_and (pt_chain op_le op_lt pe_int (pv 2) (pe_cB call_len_seq rfl (B "len" (by decide)) PySem.boot_len (pa_c (pv 0) pa_nil))) (pw_and1 (pt_chain op_le op_lt pe_int (pv 3) (pe_cB call_len_str rfl (B "len" (by decide)) PySem.boot_len (pa_c (pe_ix ix_tup (pv 0) (pv 2) (fun _ _=>rfl)) pa_nil)))))) (pss_one (ps_ret (pe_ix ix_str (pe_ix ix_tup (pv 0) (pv 2) (fun _ _=>rfl)) (pv 3) (fun _ _=>rfl)))) pss_nil)
  (pss_one (ps_ret (pe_globS gC rfl)))))),?_⟩
 refine⟨_,rfl,b,_,_,_,rfl,rfl,SqT.of hb,atI_nat (j:=0) rfl,?_⟩
 refine⟨_,rfl,b,_,_,_,rfl,rfl,SqT.of hb,atI_nat (j:=1) rfl,?_⟩
 refine⟨_,rfl,_,_,rfl,rfl,_,rfl,?_⟩
 refine ite2 (fun c1=>?_) (fun c1=>absurd (decide_eq_true (by show(0:Int)<=(r:Nat);omega)) c1)
 refine⟨_,rfl,a,_,rfl,.inr (SqT.of ha),_,_,rfl,rfl,_,rfl,?_⟩
 refine ite2 (fun c2=>?_) (fun c2=>absurd (decide_eq_true (by show((r:Nat):Int)<(((strsM M).map V.str).length:Nat);rw[List.length_map,strs_len];omega)) c2)
 refine⟨_,rfl,_,_,rfl,rfl,_,rfl,?_⟩
 refine ite2 (fun c3=>?_) (fun c3=>absurd (decide_eq_true (by show(0:Int)<=(c:Nat);omega)) c3)
 refine⟨_,rfl,_,rfl,a,_,_,_,rfl,rfl,SqT.of ha,hat,_,rfl,zl,_,_,rfl,rfl,_,rfl,?_⟩
 refine ite2 (fun c4=>?_) (fun c4=>absurd (decide_eq_true (by show((c:Nat):Int)<((⟨(lineM M r).toArray⟩:Str).length:Nat);rw[line_str_len];omega)) c4)
 refine⟨_,rfl,_,rfl,a,_,_,_,rfl,rfl,SqT.of ha,hat,_,rfl,_,_,M.g r c,rfl,rfl,zl,?_,q⟩
 refine atI_nat ?_
 show(lineM M r).toArray.toList[c]?=_
 rw[List.toList_toArray]
 exact line_at hcM
theorem scOpen:FnScope ["floor","cell"] ["floor","cell"] (defScope sOpen):=⟨rfl,rfl,rfl,by decide +kernel,rfl,by decide +kernel,by decide +kernel⟩
theorem ok_open(gC:GS mg "CLOSED" "#")(Fat:Fn P w K mg base "sign_at" 1 ["floor","cell"] (spCl fun k=>.str ⟨#[k]⟩))(F:Fun K "is_open" "is_open" sOpen f fd):FnOk P w K mg base CX0 2 f fd ["floor","cell"] (spCl fun k=>.bl (!(k==35))):=by
 refine F.ok (k:=1) scOpen (fun vs H Q E h=>?_) (fun cdv A outer s H vs Q E hr h=>?_)
 .obtain⟨a,b,M,r,c,rfl,_⟩:=h
  rfl
 obtain⟨a,b,M,r,c,rfl,hf,hb,hrM,hcM,q⟩:=h
 dsimp only at q
 refine⟨_,(pss_one (ps_ret (pe_cmpR op_ne (pe_fn Fat hr (by decide) rfl (pa_c (pv 0) (pa_c (pv 1) pa_nil))) (pe_globS gC rfl) (nomark _)))),?_⟩
 refine⟨_,rfl,_,rfl,a,b,M,r,c,rfl,hf,hb,hrM,hcM,rfl,?_⟩
 rw[dec_str _ 35 eH]
 exact q
def spRow:Sp:=fun vs H Q _=>∃(a d:Addr) (M:Mat) (kvs:List (List Key×V)) (m:Mk) (r:Nat),vs=[.ref a,.ref d,.int (r:Nat)]/\FlM H a M/\H d=some (.dT kvs)/\DkM kvs m/\r<M.h/\∀H',Same H H'->Q (.str ⟨(lineM (picM M m) r).toArray⟩) H'
theorem scRow:FnScope ["floor","signs","row","cells"] ["floor","signs","row"] (defScope sRow):=⟨rfl,rfl,rfl,by decide +kernel,rfl,by decide +kernel,by decide +kernel⟩
theorem ok_row(B:∀x∈blts,mg x=none)(Fopen:Fn P w K mg base "is_open" 2 ["floor","cell"] (spCl fun k=>.bl (!(k==35))))(F:Fun K "picture_row" "picture_row" sRow f fd):FnOk P w K mg base CX0 3 f fd ["floor","signs","row"] spRow:=by
 refine F.ok (k:=2) scRow (fun vs H Q E h=>?_) (fun cdv A outer s H vs Q E hr h=>?_)
 .obtain⟨a,d,M,kvs,m,r,rfl,_⟩:=h
  rfl
 obtain⟨a,d,M,kvs,m,r,rfl,hf,hd,hm,hrM,q⟩:=h
 have hu:=hr.units
 obtain⟨ha,okM⟩:=id hf
 have w8:=okM.w8
 have hat:atI ((strsM M).map V.str) (r:Int)=some (.str ⟨(lineM M r).toArray⟩):=atI_nat (strs_ati hrM)
 have zl:(⟨(lineM M r).toArray⟩:Str).length<=sizeLine:=by rw[line_str_len];exact w_line okM
 refine⟨_,(pss_cons (ps_setC (i:=3) ["column","row"] [none,some 2] scRow.nd rfl (Or.inl rfl) rfl rfl rfl (by decide +kernel) (by decide +kernel) rfl rfl (pi_r1 rfl (B "range" (by decide)) (pa_c (pe_cB call_len_str rfl (B "len" (by decide)) PySem.boot_len (pa_c (pe_ix ix_tup (pv 0) (pv 2) (fun _ _=>rfl)) pa_nil)) pa_nil)) (fun _=>(pg_name (i:=0) (show(["column","row"]:List PySem.Str).Nodup by decide +kernel) rfl (Or.inl rfl))) (fun _=>pts_nil) (fun _=>(pe_tup (pa_c (pv 1) (pa_c (pv 0) pa_nil)))))
  (pss_one (ps_ret (pe_bm PySem.F.plainAttrs_str PySem.F.slot_str_join PySem.F.type_str_join mt_join pe_str (pa_c (pe_comp ["cell","floor","signs"] [none,some 0,some 1] rfl rfl (by decide +kernel) (by decide +kernel) rfl rfl (pi_list (pv 3)) (fun _=>(pg_name (i:=0) (show(["cell","floor","signs"]:List PySem.Str).Nodup by decide +kernel) rfl (Or.inl rfl))) (fun _=>pts_nil) (fun _=>(pe_ifExp (pt_val (pe_fn Fopen hr (by decide) rfl (pa_c (pv 1) (pa_c (pv 0) pa_nil)))) (pe_dget2 (Nat.lt_of_le_of_lt (Nat.add_le_add_left (by decide) _) hu) (pv 2) (pv 0) pe_str ⟨rfl,rfl,rfl,rfl⟩) pe_str))) pa_nil))))),?_⟩
 refine⟨_,rfl,_,rfl,a,_,_,_,rfl,rfl,SqT.of ha,hat,_,rfl,zl,_,by rw[line_str_len],by omega,by omega,?_⟩
 rw[Int.toNat_natCast]
 intro D hD
 refine comp_range (lo:=0) (fun j ys G=>Same H G/\RepAll G ((List.range j).map fun c=>PyData.tuple [.int (r:Nat),.int (c:Nat)]) ys) ⟨Same.fresh _ hD,rfl⟩ (fun j ys G hj hDy hyl p=>?_) (fun ys G hDy hyl p=>?_)
 .obtain⟨p1,rep⟩:=p
  refine⟨Agree.set (Agree.refl _) rfl,?_⟩
  dsimp only[tYes]
  refine iteT ?_
  refine⟨_,rfl,_,rfl,(by show 2<=sizeLine;decide),fun t ht=>?_⟩
  have s2:Same G (upd G t (.tup [.int (r:Nat),.int (0+(j:Nat))])):=Same.fresh _ ht
  have c2:upd G t (.tup [.int (r:Nat),.int (0+(j:Nat))]) t=some (.tup [.int (r:Nat),.int (j:Nat)]):=by rw[upd_same,Int.zero_add]
  generalize upd G t (.tup [.int (r:Nat),.int (0+(j:Nat))])=G2 at *
  have hD2:=s2 _ _ hDy
  refine nx_put (by omega) hD2 hyl ⟨(p1.trans s2).new hD,?_⟩
  rw[List.range_succ,List.map_append]
  refine((rep.same s2).snoc (cell_rep c2)).tk (Tk.lst hD2) ?_
  exact Cells.imm fun z hz=>by
   rcases List.mem_append.mp hz with h|h
   .obtain⟨c,_,rfl⟩:=List.mem_map.mp h
    exact⟨_,_,rfl⟩
   .rw[List.mem_singleton.mp h]
    exact⟨_,_,rfl⟩
 .obtain⟨p1,rep⟩:=p
  have lys:=rep.length
  rw[List.length_map,List.length_range]at lys
  refine⟨rfl,_,rfl,D,rfl,⟨_,SqL.of hDy⟩,fun D3 hD3=>?_⟩
  refine comp_list (xs:=ys) (fun k zs G3=>Same G G3/\zs=(((lineM (picM M m) r).take k).map fun c=>(⟨#[c]⟩:Str)).map V.str) ⟨Same.fresh _ hD3,rfl⟩ (fun k zs G3 p=>SqL.of (p.1 _ _ hDy)) (fun k x zs G3 hx hk hDz hzl p=>?_) (fun zs G3 hDz hzl p=>?_)
  .obtain⟨p3,rfl⟩:=p
   obtain⟨e,he,re⟩:=rep.at hx
   have hkw:k<M.w:=by omega
   rw[List.getElem?_map,List.getElem?_range hkw]at he
   cases he
   obtain⟨b,rfl,hb⟩:=rep_cell re
   have hb3:=p3 _ _ hb
   have sG:=p1.trans p3
   have hat2:(lineM (picM M m) r)[k]?=some ((picM M m).g r k):=line_at (M:=picM M m) hkw
   have put:∀(c:Nat),c=(picM M m).g r k->∃us,G3 D3=some (.lst us)/\us.length<sizeLine/\Nx D3 k (fun k zs G3=>Same G G3/\zs=(((lineM (picM M m) r).take k).map fun c=>(⟨#[c]⟩:Str)).map V.str) (upd G3 D3 (.lst (us++[.str ⟨#[c]⟩]))):=fun c hc=>by
    refine nx_put (by omega) hDz hzl ⟨p3.new hD3,?_⟩
    rw[map_take_succ (fun c=>(⟨#[c]⟩:Str)) hat2,List.map_append,hc]
    rfl
   refine⟨Agree.set (Agree.refl _) rfl,?_⟩
   dsimp only[tYes]
   refine iteT ?_
   refine⟨_,rfl,_,rfl,a,b,M,r,k,rfl,hf.same sG,hb3,hrM,hkw,_,rfl,?_⟩
   by_cases h35:M.g r k=35
   .rw[h35]
    refine iteF ?_
    rw[eH]
    exact put 35 (by show 35=if M.g r k=35 then 35 else _;rw[if_pos h35])
   .have e35:(M.g r k==35)=false:=by simpa using h35
    rw[e35]
    refine iteT ?_
    refine⟨_,rfl,d,rfl,.inr ⟨kvs,.inl (sG _ _ hd)⟩,_,rfl,_,DGet.t (k:=keyP r k) (sG _ _ hd) hb3,?_⟩
    rw[hm r k]
    have e45:Str.ofString "-" = ⟨#[45]⟩:=by decide +kernel
    have ev:(((m r k).map fun k=>V.str ⟨#[k]⟩).getD (.str (Str.ofString "-")))=V.str ⟨#[(m r k).getD 45]⟩:=by
     rw[e45]
     cases m r k<;>rfl
    rw[ev]
    exact put _ (by show _=if M.g r k=35 then 35 else _;rw[if_neg h35])
  .obtain⟨p3,rfl⟩:=p
   rw[List.take_of_length_le (by rw[line_len];show M.w<=_;omega)]at hDz
   have hsum:=PySem.StrLaws.sumLen_le (B:=1) ((lineM (picM M m) r).map fun c=>(⟨#[c]⟩:Str)) fun y hy=>by
    obtain⟨c,_,rfl⟩:=List.mem_map.mp hy
    exact Nat.le_refl _
   have e0:(Str.ofString "").length=0:=by decide +kernel
   rw[List.length_map,line_len]at hsum
   have ew:(picM M m).w=M.w:=rfl
   refine⟨_,D3,(lineM (picM M m) r).map fun c=>(⟨#[c]⟩:Str),rfl,rfl,hDz,by rw[e0,List.length_map,line_len];omega,?_⟩
   rw[join_line]
   exact q _ (p1.trans p3)
end
abbrev PSG:Str:=Str.ofString "abcdefghijklmnopqrstuvwxyzABCDEFGHIJKLMNOPQRSTUVWXYZ0123456789+*"
def sgc(i:Nat):Nat:=PSG.cps.toList.getD i 0
theorem sgc_at{i:Nat}(h:i<64):PSG.cps.toList[i]?=some (sgc i):=by
 have:∀i<64,PSG.cps.toList[i]?=some (sgc i):=by decide +kernel
 exact this i h
theorem sgc_lt(i:Nat):sgc i<128:=by
 by_cases h:i<64
 .have:∀i<64,sgc i<128:=by decide +kernel
  exact this i h
 .unfold sgc
  have e:PSG.cps.toList.length=64:=by decide +kernel
  rw[List.getD_eq_getElem?_getD,List.getElem?_eq_none (by omega)]
  decide
theorem psg_len:PSG.length=64:=by decide +kernel
def put1(m:Mk)(s:Nat)(p:Nat×Nat):Mk:=fun r c=>if r=p.1/\c=p.2 then some s else m r c
def puts(m:Mk)(s:Nat)(ps:List (Nat×Nat)):Mk:=ps.foldl (fun m p=>put1 m s p) m
theorem puts_succ{m:Mk}{s k:Nat}{ps:List (Nat×Nat)}{p:Nat×Nat}(h:ps[k]?=some p):puts m s (ps.take (k+1))=put1 (puts m s (ps.take k)) s p:=by
 unfold puts
 rw[List.take_add_one,h,List.foldl_append]
 rfl
def mkL(L:List PyData):Nat->Mk
 | 0=>fun _ _=>none
 | i+1=>puts (mkL L i) (sgc i) (cellsD (L.getD i .none))
theorem DkM.put{kvs:List (List Key×V)}{m:Mk}(h:DkM kvs m)(s r c:Nat):DkM (putK kvs (keyP r c) (.str ⟨#[s]⟩)) (put1 m s (r,c)):=fun r' c'=>by
 rw[valV_put]
 unfold put1
 by_cases e:r'=r/\c'=c
 .rw[if_pos e,if_pos (by rw[e.1,e.2])]
  rfl
 .rw[if_neg e,if_neg (fun z=>e (keyP_inj z))]
  exact h r' c'
theorem sp_kd{es:List PyData}(h:Spots es):kd (.tuple es)=true:=by
 show kdAll es=true
 induction es with
 | nil=>rfl
 | cons d ds ih=>
  obtain⟨r,c,x,rfl⟩:=h d List.mem_cons_self
  show(kd (.tuple [.int r,.int c,.str x])&&kdAll ds)=true
  rw[ih fun e he=>h e (List.mem_cons_of_mem _ he)]
  rfl
theorem sp_depth{es:List PyData}(h:Spots es):PyData.depthAll es<=3:=by
 induction es with
 | nil=>simp[PyData.depthAll]
 | cons d ds ih=>
  obtain⟨r,c,x,rfl⟩:=h d List.mem_cons_self
  have:=ih fun e he=>h e (List.mem_cons_of_mem _ he)
  simp[PyData.depthAll,PyData.depth]
  omega
theorem sp_cmp:∀{es fs:List PyData},Spots es->Spots fs->CmpL es fs
 | [],_,_,_=>True.intro
 | _::_,[],_,_=>True.intro
 | d::es,e::fs,h1,h2=>by
  obtain⟨r,c,x,rfl⟩:=h1 d List.mem_cons_self
  obtain⟨r',c',x',rfl⟩:=h2 e List.mem_cons_self
  exact⟨⟨True.intro,True.intro,True.intro,True.intro⟩,sp_cmp (fun z hz=>h1 z (List.mem_cons_of_mem _ hz)) fun z hz=>h2 z (List.mem_cons_of_mem _ hz)⟩
theorem PlD.key{h w:Nat}{d:PyData}(a:PlD h w d):KeyD d/\TT d:=by
 obtain⟨es,n,rfl,hs,_⟩:=a
 have hd:=sp_depth hs.spots
 refine⟨⟨?_,⟨_,rfl⟩,by simp[PyData.depth,PyData.depthAll];omega⟩,⟨_,_,rfl⟩⟩
 show(kd (.tuple es)&&true)=true
 rw[sp_kd hs.spots]
 rfl
theorem PlD.cmp{h w:Nat}{ds:List PyData}(a:∀d∈ds,PlD h w d):CmpA ds:=
 ⟨fun x hx y hy=>by
  obtain⟨es,n,rfl,hs,_⟩:=a x hx
  obtain⟨es',n',rfl,hs',_⟩:=a y hy
  exact⟨sp_cmp hs.spots hs'.spots,True.intro,True.intro⟩,fun x hx=>(a x hx).key.1.1⟩
section
variable{P:Program}{w:World}{K:PySem.W.Frag}{mg:Str->Option Value}{base:Heap}{f:Addr}{fd:FuncData}
def spPic:Sp:=fun vs H Q _=>∃(p l fl:Addr) (e1 e2:V) (M:Mat) (xs:List V) (pds:List PyData),vs=[.ref p,.ref l]/\H p=some (.tup [.ref fl,e1,e2])/\FlM H fl M/\H l=some (.lst xs)/\RepAll H pds xs/\(∀d∈pds,PlD M.h M.w d)/\pds.length<=64/\
 ∀(r:Addr) (H':Hp),Same H H'->H' r=some (.tup ((strsM (picM M (mkL (sortE pds) pds.length))).map V.str))->Q (.ref r) H'
theorem scPic:FnScope ["puzzle","laying","signs","place","placement","row","column","sign"] ["puzzle","laying"] (defScope sPic):=⟨rfl,rfl,rfl,by decide +kernel,rfl,by decide +kernel,by decide +kernel⟩
theorem ok_pic(B:∀x∈blts,mg x=none)(gS:GS mg "PLACE_SIGNS" "abcdefghijklmnopqrstuvwxyzABCDEFGHIJKLMNOPQRSTUVWXYZ0123456789+*")(Frow:Fn P w K mg base "picture_row" 3 ["floor","signs","row"] spRow)(F:Fun K "picture" "picture" sPic f fd):FnOk P w K mg base CX0 4 f fd ["puzzle","laying"] spPic:=by
 refine F.ok (k:=3) scPic (fun vs H Q E h=>?_) (fun cdv A outer s H vs Q E hr h=>?_)
 .obtain⟨p,l,fl,e1,e2,M,xs,pds,rfl,_⟩:=h
  rfl
 obtain⟨p,l,fl,e1,e2,M,xs,pds,rfl,hp,hf,hl,rep,hP,h64,q⟩:=h
 have hu:=hr.units
 refine⟨_,(pss_cons (ps_set (i:=2) scPic.nd rfl (Or.inr rfl) pe_dnewT)
  (pss_cons (ps_for PassesOwn.never rfl (pi_enL rfl (B "enumerate" (by decide)) (pa_c (pe_cB (call_sortedF hu) rfl (B "sorted" (by decide)) boot_sorted (pa_c (pv 1) pa_nil)) pa_nil)) (pg_tup (n:=2) rfl (pgs_cons (pg_name (i:=3) scPic.nd rfl (Or.inl rfl)) (pgs_cons (pg_name (i:=4) scPic.nd rfl (Or.inl rfl)) pgs_nil))) (pss_one (ps_for PassesOwn.never rfl (pi_tup (pe_ix ix_tup (pv 4) pe_int (fun _ _=>rfl))) (pg_tup (n:=3) rfl (pgs_cons (pg_name (i:=5) scPic.nd rfl (Or.inl rfl)) (pgs_cons (pg_name (i:=6) scPic.nd rfl (Or.inl rfl)) (pgs_cons (pg_name (i:=7) scPic.nd rfl (Or.inl rfl)) pgs_nil)))) (pss_one (ps_dput (Nat.lt_of_le_of_lt (Nat.add_le_add_left (by decide) _) hu) (pv 2) (pe_tup (pa_c (pv 5) (pa_c (pv 6) pa_nil))) (pe_ix ix_str (pe_globS gS rfl) (pe_op op_mod (pv 3) (pe_cB call_len_str rfl (B "len" (by decide)) PySem.boot_len (pa_c (pe_globS gS rfl) pa_nil))) (fun _ _=>rfl)) rfl)))))
  (pss_one (ps_ret (pe_cT call_tuple_of rfl (B "tuple" (by decide)) boot_tuple (pa_c (pe_comp ["row","puzzle","signs"] [none,some 0,some 2] rfl rfl (by decide +kernel) (by decide +kernel) rfl rfl (pi_r1 rfl (B "range" (by decide)) (pa_c (pe_cB call_len_seq rfl (B "len" (by decide)) PySem.boot_len (pa_c (pe_ix ix_tup (pv 0) pe_int (fun _ _=>rfl)) pa_nil)) pa_nil)) (fun _=>(pg_name (i:=0) (show(["row","puzzle","signs"]:List PySem.Str).Nodup by decide +kernel) rfl (Or.inl rfl))) (fun _=>pts_nil) (fun _=>(pe_fn Frow hr (by decide) rfl (pa_c (pe_ix ix_tupC (pv 1) pe_int (fun _ _=>rfl)) (pa_c (pv 2) (pa_c (pv 0) pa_nil)))))) pa_nil)))))),?_⟩
 intro sg hsg
 have s1:Same H (upd H sg (.dT [])):=Same.fresh _ hsg
 have d1:upd H sg (.dT []) sg=some (.dT []):=upd_same
 generalize upd H sg (.dT [])=H1 at *
 refine⟨_,rfl,l,xs,pds,rfl,s1 _ _ hl,rep.same s1,fun d hd=>(hP d hd).key,PlD.cmp hP,fun lS ws hlS repS=>?_⟩
 have s2:Same H1 (upd H1 lS (.lst ws)):=Same.fresh _ hlS
 have c2:upd H1 lS (.lst ws) lS=some (.lst ws):=upd_same
 generalize upd H1 lS (.lst ws)=H2 at *
 have sA:=s1.trans s2
 have d2:=s2 _ _ d1
 have hPS:∀d∈sortE pds,PlD M.h M.w d:=fun d hd=>hP d ((sortE_perm _).mem_iff.mp hd)
 have lS2:(sortE pds).length=pds.length:=sortE_length _
 generalize sortE pds=L at *
 have lws:=repS.length
 have nlS:lS≠sg:=fun e=>by rw[e,d2]at c2;cases c2
 refine⟨lS,rfl,⟨_,SqL.of c2⟩,?_⟩
 have keep:∀{G:Hp},Ex [sg] H2 G->Same H G/\G lS=some (.lst ws)/\RepAll G L ws:=fun{G} ex=>by
  refine⟨fun b o hb=>ex.at (fun e=>by rw[e,hsg]at hb;cases hb) (sA _ _ hb),ex.at nlS c2,repS.tk (fun b zs hb=>ex.at (fun e=>by rw[e,d2]at hb;cases hb) hb) (PlD.imm hPS)⟩
 refine for_enL (xs:=ws) (fun i σ' G=>∃(y3 y4 y5 y6 y7:Option V) (kvs:List (List Key×V)),σ'=[some (.ref p),some (.ref l),some (.ref sg),y3,y4,y5,y6,y7]/\Ex [sg] H2 G/\G sg=some (.dT kvs)/\DkM kvs (mkL L i)/\kvs.length<=i*6) ?_ (fun i σ' G hI=>?_) (fun i x pr σ' G hx hpr hI=>?_) (fun σ' G hI=>?_)
 .exact⟨_,_,_,_,_,[],rfl,Ex.refl _ _,d2,fun r c=>rfl,Nat.le_refl _⟩
 .obtain⟨_,_,_,_,_,_,_,ex,_⟩:=hI
  exact SqL.of (keep ex).2.1
 .obtain⟨y3,y4,y5,y6,y7,kvs,rfl,ex,hsg2,hm,hkl⟩:=hI
  have hiw:i<ws.length:=(List.getElem?_eq_some_iff.mp hx).1
  obtain⟨d,hd,rd⟩:=(keep ex).2.2.at hx
  obtain⟨es,n,rfl,hes,h6⟩:=hPS d (List.mem_of_getElem? hd)
  have ed:L.getD i .none=.tuple [.tuple es,.int n]:=by rw[List.getD_eq_getElem?_getD,hd];rfl
  obtain⟨b,bxs,rfl,hb,u,us,rfl,⟨eb,exs,rfl,heb,repE⟩,_⟩:=rd
  have s3:Same G (upd G pr (.tup [.int (i:Nat),.ref b])):=Same.fresh _ hpr
  have c3:upd G pr (.tup [.int (i:Nat),.ref b]) pr=some (.tup [.int (i:Nat),.ref b]):=upd_same
  generalize upd G pr (.tup [.int (i:Nat),.ref b])=G3 at *
  refine⟨pr,_,rfl,SqT.of c3,rfl,_,_,rfl,_,_,rfl,rfl,?_⟩
  refine⟨_,rfl,b,_,_,_,rfl,rfl,SqT.of (s3 _ _ hb),atI_nat (j:=0) rfl,eb,rfl,⟨_,SqT.of (s3 _ _ heb)⟩,?_⟩
  have ex3:=ex.trans (Ex.of_same (W:=[sg]) s3)
  have sg3:=s3 _ _ hsg2
  have lex:=repE.length
  refine for_tup (xs:=exs) (fun k σ' G4=>∃(y5 y6 y7:Option V) (kvs':List (List Key×V)),σ'=[some (.ref p),some (.ref l),some (.ref sg),some (.int (i:Nat)),some (.ref b),y5,y6,y7]/\Ex [sg] H2 G4/\Ex [sg] G3 G4/\G4 sg=some (.dT kvs')/\DkM kvs' (puts (mkL L i) (sgc i) ((es.map cellD).take k))/\kvs'.length<=kvs.length+k) ?_ (fun k σ' G4 hk hI=>?_) (fun k x σ' G4 hx2 hI=>?_) (fun σ' G4 hI=>?_)
  .exact⟨_,_,_,kvs,rfl,ex3,Ex.refl _ _,sg3,hm,Nat.le_refl _⟩
  .obtain⟨_,_,_,_,_,_,e34,_⟩:=hI
   exact SqT.of (e34.at (fun e=>by rw[e,hsg2]at heb;cases heb) (s3 _ _ heb))
  .obtain⟨y5,y6,y7,kvs',rfl,ex4,e34,sg4,hm4,hkl4⟩:=hI
   have hkx:k<exs.length:=(List.getElem?_eq_some_iff.mp hx2).1
   have tk34:Tk G G4:=fun c zs hc=>e34.at (fun e=>by rw[e,hsg2]at hc;cases hc) (s3 _ _ hc)
   obtain⟨e,he,re⟩:=(repE.tk tk34 (Spots.imm hes.spots)).at hx2
   obtain⟨r0,c0,k0,rfl,hr0,hc0,_⟩:=hes e (List.mem_of_getElem? he)
   obtain⟨c,rfl,hc,_⟩:=rep_spot re
   refine⟨c,_,rfl,SqT.of hc,rfl,_,_,rfl,_,_,rfl,_,_,rfl,rfl,?_⟩
   refine⟨_,rfl,_,rfl,(by rw[psg_len];decide),_,_,rfl,rfl,(by show(0:Int)<((PSG.length:Nat):Int);rw[psg_len];decide),_,_,sgc i,rfl,rfl,(by rw[psg_len];decide),?_,?_⟩
   .show atI _ ((i:Int) % ((PSG.length:Nat):Int))=_
    rw[psg_len,Int.emod_eq_of_lt (by omega) (by omega)]
    exact atI_nat (sgc_at (by omega))
   refine⟨_,rfl,_,rfl,_,rfl,(by show 2<=sizeLine;decide),fun t5 ht5=>?_⟩
   have s5:Same G4 (upd G4 t5 (.tup [.int (r0:Nat),.int (c0:Nat)])):=Same.fresh _ ht5
   have c5:upd G4 t5 (.tup [.int (r0:Nat),.int (c0:Nat)]) t5=some (.tup ((keyP r0 c0).map kV)):=upd_same
   generalize upd G4 t5 (.tup [.int (r0:Nat),.int (c0:Nat)])=G5 at *
   refine⟨sg,_,rfl,DPut.t (k:=keyP r0 c0) (s5 _ _ sg4) c5 (small1000 (by omega)),?_⟩
   refine⟨_,_,_,_,rfl,(ex4.trans (Ex.of_same s5)).trans (Ex.upd (by simp)),(e34.trans (Ex.of_same s5)).trans (Ex.upd (by simp)),upd_same,?_,?_⟩
   .rw[puts_succ (p:=(r0,c0)) (by rw[List.getElem?_map,he];rfl)]
    exact hm4.put _ _ _
   .have:=length_putK kvs' (keyP r0 c0) (V.str ⟨#[sgc i]⟩)
    omega
  .obtain⟨y5,y6,y7,kvs',rfl,ex4,e34,sg4,hm4,hkl4⟩:=hI
   rw[List.take_of_length_le (by rw[List.length_map];omega)]at hm4
   refine⟨_,_,_,_,_,kvs',rfl,ex4,sg4,?_,by omega⟩
   show DkM kvs' (puts (mkL L i) (sgc i) (cellsD (L.getD i .none)))
   rw[ed]
   exact hm4
 .obtain⟨y3,y4,y5,y6,y7,kvs,rfl,ex,hsg2,hm,hkl⟩:=hI
  obtain⟨sG,_,_⟩:=keep ex
  rw[lws,lS2]at hm
  have okM:=hf.2
  have h8:=okM.h8
  have el:((strsM M).map V.str).length=M.h:=by rw[List.length_map,strs_len]
  refine⟨_,rfl,p,_,_,_,rfl,rfl,SqT.of (sG _ _ hp),atI_nat (j:=0) rfl,fl,_,rfl,.inr (SqT.of (sG _ _ hf.1)),_,by rw[el],by omega,by omega,?_⟩
  rw[Int.toNat_natCast]
  intro D hD
  refine comp_range (lo:=0) (fun j ys G2=>Same G G2/\ys=((strsM (picM M (mkL L pds.length))).take j).map V.str) ⟨Same.fresh _ hD,rfl⟩ (fun j ys G2 hj hDy hyl pI=>?_) (fun ys G2 hDy hyl pI=>?_)
  .obtain⟨p2,rfl⟩:=pI
   have sG2:=sG.trans p2
   refine⟨Agree.set (Agree.refl _) rfl,?_⟩
   dsimp only[tYes]
   refine iteT ?_
   refine⟨_,rfl,p,_,_,_,rfl,rfl,SqT.of (sG2 _ _ hp),atI_nat (j:=0) rfl,_,rfl,_,rfl,fl,sg,M,kvs,mkL L pds.length,j,by rw[Int.zero_add];rfl,hf.same sG2,p2 _ _ hsg2,hm,hj,fun G4 s4=>?_⟩
   refine nx_put (by omega) (s4 _ _ hDy) hyl ⟨(p2.trans s4).new hD,?_⟩
   rw[map_take_succ V.str (strs_at (M:=picM M (mkL L pds.length)) hj)]
  .obtain⟨p2,rfl⟩:=pI
   refine⟨D,_,rfl,.inl ⟨SqL.of hDy,fun r hr2=>?_⟩⟩
   refine q r _ ((sG.trans p2).trans (Same.fresh _ hr2)) ?_
   rw[upd_same,List.take_of_length_le (by rw[strs_len];exact Nat.le_refl _)]
end
end K71
namespace L3
open PySem PySem.Spec PyProof.Rows L2
section
variable{X:Cx}{N:List Str}{scope:Scope}{z:CZ}
theorem pe_bmC{o e:Expr}{es:List Expr}{to:TE}{t:TA}{name:Str}{apos cpos:Pos}{T id:String}{r:V->List V->Hp->VK->Prop}(pa:PlainAttrs T)(slot:Slot T name id)(hty:typeOf (.builtin id)=pure (.type "method_descriptor"))(hm:MtR (cxComp X N scope z) id r)(ho:PE (cxComp X N scope z) o to)(ha:PA (cxComp X N scope z) (e::es) t)
  (hbase:attributeBase o name (cxComp X N scope z).env (eval o (cxComp X N scope z).env)=eval o (cxComp X N scope z).env:=by rfl)
  (hfew:((backTo cpos (starEach (e::es) (cxComp X N scope z).env)).all (fun x=>!x.1)&&(backToKw cpos (keywordEach [] (cxComp X N scope z).env)).all (fun x=>x.1.isSome)
   && decide ((e::es).length+([]:List Keyword).length+(if ([]:List Keyword).isEmpty then 0 else 1)<30))=true:=by rfl)
  (hline:(apos.endLine==cpos.line)=true:=by rfl) (hs:starEach (e::es) (cxComp X N scope z).env=(false,eval e (cxComp X N scope z).env)::starEach es (cxComp X N scope z).env:=by rfl) (hplain:(backTo cpos (starEach es (cxComp X N scope z).env)).any (·.1)=false:=by rfl) :
  PE (cxComp X N scope z) (.Call (.Attribute o name apos) (e::es) [] cpos) (tBM X.K T r to t):=pe_bm (X:=cxComp X N scope z) pa slot hty hm ho ha hbase hfew hline hs hplain
end
end L3
namespace K71
open PySem PyProof.Rows L2 L3
def cells1(l:List Nat):List V:=(l.map fun c=>(⟨#[c]⟩:Str)).map V.str
structure SmL(G:Hp)(S:Addr)(as:List Addr)(N:Mat):Prop where
 top:G S=some (.lst (as.map V.ref))
 len:as.length=N.h
 nd:as.Nodup
 ne:∀a∈as,a≠S
 row:∀r a,as[r]?=some a->G a=some (.lst (cells1 (lineM N r)))
theorem SmL.ex{G G':Hp}{S:Addr}{as:List Addr}{N:Mat}(h:SmL G S as N)(s:Same G G'):SmL G' S as N:=⟨s _ _ h.top,h.len,h.nd,h.ne,fun r a e=>s _ _ (h.row r a e)⟩
def setM(N:Mat)(r0 c0 k:Nat):Mat:=⟨N.h,N.w,fun r c=>if r=r0/\c=c0 then k else N.g r c⟩
theorem line_set{N:Mat}{r0 c0 k:Nat}(hc:c0<N.w):cells1 (lineM (setM N r0 c0 k) r0)=(cells1 (lineM N r0)).set c0 (.str ⟨#[k]⟩):=by
 apply List.ext_getElem?
 intro i
 unfold cells1
 rw[List.getElem?_set]
 by_cases hi:i<N.w
 .rw[List.getElem?_map,List.getElem?_map,line_at (M:=setM N r0 c0 k) hi,List.getElem?_map,List.getElem?_map,line_at hi]
  by_cases e:c0=i
  .rw[if_pos e,if_pos (by simp[line_len];omega)]
   show some (V.str ⟨#[if r0=r0/\i=c0 then k else N.g r0 i]⟩)=_
   rw[if_pos ⟨rfl,e.symm⟩]
  .rw[if_neg e]
   show some (V.str ⟨#[if r0=r0/\i=c0 then k else N.g r0 i]⟩)=_
   rw[if_neg (fun z=>e z.2.symm)]
   rfl
 .rw[List.getElem?_eq_none (by simp[line_len];exact Nat.le_of_not_lt hi),if_neg (by omega),List.getElem?_eq_none (by simp[line_len];omega)]
theorem line_other{N:Mat}{r0 c0 k r:Nat}(h:r≠r0):lineM (setM N r0 c0 k) r=lineM N r:=by
 unfold lineM
 refine List.map_congr_left fun c _=>?_
 show(if r=r0/\c=c0 then k else N.g r c)=_
 rw[if_neg (fun z=>h z.1)]
theorem SmL.set{G:Hp}{S:Addr}{as:List Addr}{N:Mat}(h:SmL G S as N){r0 c0 k:Nat}{a:Addr}(hr:as[r0]?=some a)(hc:c0<N.w):SmL (upd G a (.lst ((cells1 (lineM N r0)).set c0 (.str ⟨#[k]⟩)))) S as (setM N r0 c0 k):=by
 have ha:=List.mem_of_getElem? hr
 refine⟨by rw[upd_ne (Ne.symm (h.ne a ha))];exact h.top,h.len,h.nd,h.ne,fun r b e=>?_⟩
 by_cases er:r=r0
 .subst er
  rw[hr]at e
  cases e
  rw[upd_same,line_set hc]
 .have hb:b≠a:=fun e2=>er ((List.getElem?_inj (List.getElem?_eq_some_iff.mp e).1 h.nd).mp (by rw[e,hr,e2]))
  rw[upd_ne hb,line_other er]
  exact h.row r b e
theorem ix_nat{n k:Nat}(h:k<n):ixN n ((k:Nat):Int)=some k:=by
 unfold ixN
 rw[if_pos (by omega),if_pos (by omega),Int.toNat_natCast]
theorem cells1_len(N:Mat)(r:Nat):(cells1 (lineM N r)).length=N.w:=by unfold cells1;rw[List.length_map,List.length_map,line_len]
theorem puts_some{m:Mk}{s:Nat}{ps:List (Nat×Nat)}{r c v:Nat}(h:puts m s ps r c=some v):(r,c)∈ps\/m r c=some v:=by
 unfold puts at h
 induction ps generalizing m with
 | nil=>exact .inr h
 | cons p ps ih=>
  rw[List.foldl_cons]at h
  rcases ih h with h|h
  .exact .inl (List.mem_cons_of_mem _ h)
  .unfold put1 at h
   by_cases e:r=p.1/\c=p.2
   .exact .inl (by rw[e.1,e.2];exact List.mem_cons_self)
   .rw[if_neg e]at h
    exact .inr h
theorem mk_some{L:List PyData}{r c v:Nat}:∀{i:Nat},i<=L.length->mkL L i r c=some v->∃d∈L,(r,c)∈cellsD d
 | 0,_,h=>by cases h
 | i+1,hi,h=>by
  have hl:i<L.length:=hi
  rcases puts_some (show puts (mkL L i) (sgc i) (cellsD (L.getD i .none)) r c=some v from h)with h|h
  .refine⟨L.getD i .none,?_,h⟩
   rw[List.getD_eq_getElem?_getD,List.getElem?_eq_getElem hl]
   exact List.getElem_mem hl
  .exact mk_some (Nat.le_of_lt hl) h
def OpD(M:Mat)(d:PyData):Prop:=∀p∈cellsD d,M.g p.1 p.2≠35
seal L2.PE L2.PT L2.PW L2.PA L2.PS L2.PSs L2.PG L2.PGs L2.PI L2.PO
section
variable{P:Program}{w:World}{K:PySem.W.Frag}{mg:Str->Option Value}{base:Heap}{f:Addr}{fd:FuncData}
def spDue:Sp:=fun vs H Q _=>∃(fl l:Addr) (M:Mat) (xs:List V) (pds:List PyData),vs=[.ref fl,.ref l]/\FlM H fl M/\H l=some (.lst xs)/\RepAll H pds xs/\(∀d∈pds,PlD M.h M.w d/\OpD M d)/\pds.length<=64/\
 ∀(r:Addr) (H':Hp),Same H H'->H' r=some (.tup ((strsM (picM M (mkL (sortE pds) pds.length))).map V.str))->Q (.ref r) H'
theorem scDue:FnScope ["_law_floor","_law_laying","_law_marks","_law_some","_law_row","_law_column","_law_ranked","_law_place","_law_sign"] ["_law_floor","_law_laying"] (defScope sDue):=⟨rfl,rfl,rfl,by decide +kernel,rfl,by decide +kernel,by decide +kernel⟩
theorem ok_due(B:∀x∈blts,mg x=none)(F:Fun K "_law_due" "_law_due" sDue f fd):FnOk P w K mg base CX0 1 f fd ["_law_floor","_law_laying"] spDue:=by
 refine F.ok (k:=0) scDue (fun vs H Q E h=>?_) (fun cdv A outer s H vs Q E hr h=>?_)
 .obtain⟨fl,l,M,xs,pds,rfl,_⟩:=h
  rfl
 obtain⟨fl,l,M,xs,pds,rfl,hf,hl,rep,hP,h64,q⟩:=h
 have hu:=hr.units
 obtain⟨hfl,okM⟩:=id hf
 have h8:=okM.h8
 have w8:=okM.w8
 have zl:∀r,(⟨(lineM M r).toArray⟩:Str).length<=sizeLine:=fun r=>by rw[line_str_len];exact w_line okM
 have el:((strsM M).map V.str).length=M.h:=by rw[List.length_map,strs_len]
 refine⟨_,(pss_cons (ps_set (i:=2) scDue.nd rfl (Or.inl rfl) pe_str)
  (pss_cons (ps_setC (i:=3) ["_law_row"] [none] scDue.nd rfl (Or.inl rfl) rfl rfl rfl (by decide +kernel) (by decide +kernel) rfl rfl (pi_tup (pv 0)) (fun _=>(pg_name (i:=0) (show(["_law_row"]:List PySem.Str).Nodup by decide +kernel) rfl (Or.inl rfl))) (fun _=>pts_nil) (fun _=>(pe_comp ["_law_sign"] [none] rfl rfl (by decide +kernel) (by decide +kernel) rfl rfl (pi_str (pv 0)) (fun _=>(pg_name (i:=0) (show(["_law_sign"]:List PySem.Str).Nodup by decide +kernel) rfl (Or.inl rfl))) (fun _=>pts_nil) (fun _=>pe_str))))
  (pss_cons (ps_for PassesOwn.never rfl (pi_r1 rfl (B "range" (by decide)) (pa_c (pe_cB call_len_seq rfl (B "len" (by decide)) PySem.boot_len (pa_c (pv 0) pa_nil)) pa_nil)) (pg_name (i:=4) scDue.nd rfl (Or.inl rfl)) (pss_one (ps_for PassesOwn.never rfl (pi_r1 rfl (B "range" (by decide)) (pa_c (pe_cB call_len_str rfl (B "len" (by decide)) PySem.boot_len (pa_c (pe_ix ix_tup (pv 0) pe_int (fun _ _=>rfl)) pa_nil)) pa_nil)) (pg_name (i:=5) scDue.nd rfl (Or.inl rfl)) (pss_one (ps_if (pt_cmpR op_eq (pe_ix ix_str (pe_ix ix_tup (pv 0) (pv 4) (fun _ _=>rfl)) (pv 5) (fun _ _=>rfl)) pe_str (nomark _)) (pss_one (ps_asg pe_str (pg_sub (pe_ix ix_list (pv 3) (pv 4) (fun _ _=>rfl)) (pv 5) set_list))) pss_nil)))))
  (pss_cons (ps_set (i:=6) scDue.nd rfl (Or.inl rfl) (pe_cB (call_sortedF hu) rfl (B "sorted" (by decide)) boot_sorted (pa_c (pv 1) pa_nil)))
  (pss_cons (ps_for PassesOwn.never rfl (pi_r1 rfl (B "range" (by decide)) (pa_c (pe_cB call_len_seq rfl (B "len" (by decide)) PySem.boot_len (pa_c (pv 6) pa_nil)) pa_nil)) (pg_name (i:=7) scDue.nd rfl (Or.inl rfl)) (pss_one (ps_for PassesOwn.never rfl (pi_tup (pe_ix ix_tup (pe_ix ix_list (pv 6) (pv 7) (fun _ _=>rfl)) pe_int (fun _ _=>rfl))) (pg_tup (n:=3) rfl (pgs_cons (pg_name (i:=4) scDue.nd rfl (Or.inl rfl)) (pgs_cons (pg_name (i:=5) scDue.nd rfl (Or.inl rfl)) (pgs_cons (pg_name (i:=8) scDue.nd rfl (Or.inl rfl)) pgs_nil)))) (pss_one (ps_asg (pe_ix ix_str (pv 2) (pv 7) (fun _ _=>rfl)) (pg_sub (pe_ix ix_list (pv 3) (pv 4) (fun _ _=>rfl)) (pv 5) set_list))))))
  (pss_one (ps_ret (pe_cT call_tuple_of rfl (B "tuple" (by decide)) boot_tuple (pa_c (pe_comp ["_law_line"] [none] rfl rfl (by decide +kernel) (by decide +kernel) rfl rfl (pi_list (pv 3)) (fun _=>(pg_name (i:=0) (show(["_law_line"]:List PySem.Str).Nodup by decide +kernel) rfl (Or.inl rfl))) (fun _=>pts_nil) (fun _=>(pe_bmC PySem.F.plainAttrs_str PySem.F.slot_str_join PySem.F.type_str_join mt_join pe_str (pa_c (pv 0) pa_nil)))) pa_nil))))))))),?_⟩
 refine⟨_,rfl,fl,rfl,⟨_,SqT.of hfl⟩,fun S hS=>?_⟩
 refine comp_tup (xs:=(strsM M).map V.str) (fun j ys G=>∃as:List Addr,ys=as.map V.ref/\as.length=j/\as.Nodup/\(∀a∈as,H a=none/\a≠S)/\(∀a∈as,G a=some (.lst (cells1 (List.replicate M.w 45))))/\Same H G) ⟨[],rfl,rfl,List.nodup_nil,(fun a ha=>by cases ha),(fun a ha=>by cases ha),Same.fresh _ hS⟩ (fun j ys G p=>by obtain⟨_,_,_,_,_,_,sm⟩:=p;exact SqT.of (sm _ _ hfl)) (fun j x ys G hx hj hDy hyl p=>?_) (fun ys G hDy hyl p=>?_)
 .obtain⟨as,rfl,hal,hnd,hna,hrow,sm⟩:=p
  rw[el]at hj
  rw[strs_ati hj]at hx
  cases hx
  refine⟨Agree.set (Agree.refl _) rfl,?_⟩
  dsimp only[tYes]
  refine iteT ?_
  refine⟨_,rfl,_,rfl,fun D hD=>?_⟩
  have ell:(⟨(lineM M j).toArray⟩:Str).cps.toList.length=M.w:=by rw[lenL,line_str_len]
  have nDS:D≠S:=fun e=>by rw[e,hDy]at hD;cases hD
  refine comp_str (fun i zs G2=>Same G G2/\zs=cells1 (List.replicate i 45)) ⟨Same.fresh _ hD,rfl⟩ (fun i c zs G2 hc hi hDz hzl p=>?_) (fun zs G2 hDz hzl p=>?_)
  .obtain⟨p1,rfl⟩:=p
   refine⟨Agree.set (Agree.refl _) rfl,?_⟩
   dsimp only[tYes]
   refine iteT ?_
   rw[ell]at hi
   have e45:Str.ofString "-" = ⟨#[45]⟩:=by decide +kernel
   refine nx_put (by omega) hDz hzl ⟨p1.new hD,?_⟩
   rw[List.replicate_succ',e45]
   unfold cells1
   rw[List.map_append,List.map_append]
   rfl
  .obtain⟨p1,rfl⟩:=p
   rw[ell]at hDz
   have hDn:H D=none:=sm.free hD
   refine nx_put (by omega) (p1 _ _ hDy) hyl ⟨as++[D],by rw[List.map_append];rfl,by rw[List.length_append,hal];rfl,?_,fun a ha=>?_,fun a ha=>?_,(sm.trans p1).new hS⟩
   .rw[List.nodup_append]
    refine⟨hnd,by simp,fun a ha b hb e=>?_⟩
    rw[List.mem_singleton.mp hb]at e
    rw[<-e,hrow a ha]at hD
    cases hD
   .rcases List.mem_append.mp ha with h|h
    .exact hna a h
    .rw[List.mem_singleton.mp h];exact⟨hDn,nDS⟩
   .rcases List.mem_append.mp ha with h|h
    .rw[upd_ne (hna a h).2];exact p1 _ _ (hrow a h)
    .rw[List.mem_singleton.mp h,upd_ne nDS];exact hDz
 .obtain⟨as,rfl,hal,hnd,hna,hrow,sm⟩:=p
  rw[el]at hal
  have S0:SmL G S as ⟨M.h,M.w,fun _ _=>45⟩:=⟨hDy,hal,hnd,fun a ha=>(hna a ha).2,fun r a e=>by
   rw[hrow a (List.mem_of_getElem? e)]
   have:lineM ⟨M.h,M.w,fun _ _=>45⟩ r=List.replicate M.w 45:=by
    unfold lineM
    show List.map (fun _=>45) (List.range M.w)=_
    rw[List.map_const',List.length_range]
   rw[this]⟩
  have up:∀{G1:Hp} {a:Addr} {o:HO},Same H G1->a∈as->Same H (upd G1 a o):=fun s ha=>s.new (hna _ ha).1
  refine⟨_,rfl,fl,_,rfl,.inr (SqT.of (sm _ _ hfl)),_,by rw[el],by omega,by omega,?_⟩
  rw[Int.toNat_natCast]
  refine for_range (lo:=0) (fun i σ' G1=>∃(y4 y5 y6 y7 y8:Option V) (N:Mat),σ'=[some (.ref fl),some (.ref l),some (.str PSG),some (.ref S),y4,y5,y6,y7,y8]/\Same H G1/\SmL G1 S as N/\N.h=M.h/\N.w=M.w/\∀r c,N.g r c=if M.g r c=35/\r<i/\c<M.w then 35 else 45) ?_ (fun i σ' G1 hi hI=>?_) (fun σ' G1 hI=>?_)
  .exact⟨_,_,_,_,_,_,rfl,sm,S0,rfl,rfl,fun r c=>by rw[if_neg (fun z=>absurd z.2.1 (Nat.not_lt_zero _))]⟩
  .obtain⟨y4,y5,y6,y7,y8,N,rfl,s1,S1,nh,nw,hg⟩:=hI
   refine⟨_,rfl,fl,_,_,_,rfl,rfl,SqT.of (s1 _ _ hfl),atI_nat (j:=0) (strs_ati okM.h1),_,rfl,zl _,_,by rw[line_str_len],by omega,by omega,?_⟩
   rw[Int.toNat_natCast]
   refine for_range (lo:=0) (fun j σ' G2=>∃(y5 y6 y7 y8:Option V) (N:Mat),σ'=[some (.ref fl),some (.ref l),some (.str PSG),some (.ref S),some (.int (0+(i:Nat))),y5,y6,y7,y8]/\Same H G2/\SmL G2 S as N/\N.h=M.h/\N.w=M.w/\∀r c,N.g r c=if M.g r c=35/\(r<i/\c<M.w\/r=i/\c<j)then 35 else 45) ?_ (fun j σ' G2 hj hI=>?_) (fun σ' G2 hI=>?_)
   .exact⟨_,_,_,_,N,rfl,s1,S1,nh,nw,fun r c=>by rw[hg];congr 1;apply propext;omega⟩
   .obtain⟨y5,y6,y7,y8,N,rfl,s2,S2,nh,nw,hg⟩:=hI
    have hlt:(lineM M i).toArray.toList[j]?=some (M.g i j):=by rw[List.toList_toArray];exact line_at hj
    refine⟨_,rfl,_,rfl,fl,_,_,_,rfl,rfl,SqT.of (s2 _ _ hfl),by rw[Int.zero_add];exact atI_nat (strs_ati hi),_,rfl,_,_,M.g i j,rfl,rfl,zl _,by rw[Int.zero_add];exact atI_nat hlt,rfl,_,rfl,?_⟩
    rw[dec_str _ 35 eH]
    refine ite2 (fun h5=>?_) (fun h5=>?_)
    .have h5':M.g i j=35:=by simpa using h5
     have hia:i<as.length:=by omega
     have hai:=List.getElem?_eq_getElem hia
     generalize as[i]=a at hai
     have ham:=List.mem_of_getElem? hai
     refine⟨_,rfl,_,rfl,S,_,_,.ref a,rfl,rfl,SqL.of S2.top,by rw[Int.zero_add];exact atI_nat (by rw[List.getElem?_map,hai];rfl),_,rfl,a,_,_,j,rfl,rfl,S2.row i a hai,by rw[Int.zero_add,cells1_len];exact ix_nat (by omega),?_⟩
     rw[eH]
     refine⟨_,_,_,_,_,rfl,up s2 ham,S2.set hai (by omega),nh,nw,fun r c=>?_⟩
     show(if r=i/\c=j then 35 else N.g r c)=_
     by_cases e:r=i/\c=j
     .rw[if_pos e,if_pos ⟨by rw[e.1,e.2];exact h5',.inr ⟨e.1,by omega⟩⟩]
     .rw[if_neg e,hg]
      congr 1
      apply propext
      omega
    .have h5':M.g i j≠35:=by simpa using h5
     refine⟨_,_,_,_,N,rfl,s2,S2,nh,nw,fun r c=>?_⟩
     rw[hg]
     by_cases e:r=i/\c=j
     .rw[if_neg (fun z=>h5' (by rw[<-e.1,<-e.2];exact z.1)),if_neg (fun z=>h5' (by rw[<-e.1,<-e.2];exact z.1))]
     .congr 1
      apply propext
      omega
   .obtain⟨y5,y6,y7,y8,N,rfl,s2,S2,nh,nw,hg⟩:=hI
    exact⟨_,_,_,_,_,N,rfl,s2,S2,nh,nw,fun r c=>by rw[hg];congr 1;apply propext;omega⟩
  .obtain⟨y4,y5,y6,y7,y8,N,rfl,s1,S1,nh,nw,hg⟩:=hI
   refine⟨_,rfl,l,xs,pds,rfl,s1 _ _ hl,rep.same s1,fun d hd=>(hP d hd).1.key,PlD.cmp fun d hd=>(hP d hd).1,fun lS ws hlS repS=>?_⟩
   have t2:Same G1 (upd G1 lS (.lst ws)):=Same.fresh _ hlS
   have c2:upd G1 lS (.lst ws) lS=some (.lst ws):=upd_same
   generalize upd G1 lS (.lst ws)=G2 at *
   have S2:=S1.ex t2
   have s2:=s1.trans t2
   have hPS:∀d∈sortE pds,PlD M.h M.w d/\OpD M d:=fun d hd=>hP d ((sortE_perm _).mem_iff.mp hd)
   have lS2:(sortE pds).length=pds.length:=sortE_length _
   generalize sortE pds=L at *
   have lws:=repS.length
   have nlS:lS∉as:=fun e=>by
    obtain⟨r,hr⟩:=List.getElem?_of_mem e
    have:=S1.row r lS hr
    rw[hlS]at this
    cases this
   have lstA:∀b∈as,∃zs,G2 b=some (.lst zs):=fun b hb=>by
    obtain⟨r,hr⟩:=List.getElem?_of_mem hb
    exact⟨_,S2.row r b hr⟩
   refine⟨_,rfl,lS,_,rfl,.inl (SqL.of c2),_,rfl,by omega,by omega,?_⟩
   rw[Int.toNat_natCast]
   refine for_range (lo:=0) (fun i σ' G3=>∃(y4 y5 y7 y8:Option V) (N:Mat),σ'=[some (.ref fl),some (.ref l),some (.str PSG),some (.ref S),y4,y5,some (.ref lS),y7,y8]/\Same H G3/\Ex as G2 G3/\SmL G3 S as N/\N.h=M.h/\N.w=M.w/\∀r c,r<M.h->c<M.w->N.g r c=(mkL L i r c).getD (if M.g r c=35 then 35 else 45)) ?_ (fun i σ' G3 hi hI=>?_) (fun σ' G3 hI=>?_)
   .refine⟨_,_,_,_,N,rfl,s2,Ex.refl _ _,S2,nh,nw,fun r c hr hc=>?_⟩
    rw[hg]
    show _=if M.g r c=35 then 35 else 45
    congr 1
    apply propext
    omega
   .obtain⟨y4,y5,y7,y8,N,rfl,s3,ex3,S3,nh,nw,hg⟩:=hI
    have hiL:i<L.length:=by omega
    have tk3:Tk G2 G3:=ex3.tk lstA
    have hlS3:=ex3 _ _ nlS c2
    obtain⟨v,hv⟩:∃v,ws[i]?=some v:=⟨_,List.getElem?_eq_getElem (by omega)⟩
    have imL:immAll L=true:=PlD.imm fun d hd=>(hPS d hd).1
    obtain⟨d,hd,rd⟩:=(repS.tk tk3 imL).at hv
    obtain⟨es,n,rfl,hes,h6⟩:=(hPS d (List.mem_of_getElem? hd)).1
    have ed:L.getD i .none=.tuple [.tuple es,.int n]:=by rw[List.getD_eq_getElem?_getD,hd];rfl
    obtain⟨b,bxs,rfl,hb,u,us,rfl,⟨eb,exs,rfl,heb,repE⟩,_⟩:=rd
    have lex:=repE.length
    refine⟨_,rfl,_,rfl,lS,_,_,_,rfl,rfl,SqL.of hlS3,by rw[Int.zero_add];exact atI_nat hv,b,_,_,_,rfl,rfl,SqT.of hb,atI_nat (j:=0) rfl,eb,rfl,⟨_,SqT.of heb⟩,?_⟩
    have lstB:∀c∈as,∃zs,G3 c=some (.lst zs):=fun c hc=>by
     obtain⟨r,hr⟩:=List.getElem?_of_mem hc
     exact⟨_,S3.row r c hr⟩
    refine for_tup (xs:=exs) (fun k σ' G4=>∃(y4 y5 y8:Option V) (N:Mat),σ'=[some (.ref fl),some (.ref l),some (.str PSG),some (.ref S),y4,y5,some (.ref lS),some (.int (0+(i:Nat))),y8]/\Same H G4/\Ex as G2 G4/\Ex as G3 G4/\SmL G4 S as N/\N.h=M.h/\N.w=M.w/\∀r c,r<M.h->c<M.w->N.g r c=(puts (mkL L i) (sgc i) ((es.map cellD).take k) r c).getD (if M.g r c=35 then 35 else 45)) ?_ (fun k σ' G4 hk hI=>?_) (fun k x σ' G4 hx2 hI=>?_) (fun σ' G4 hI=>?_)
    .exact⟨_,_,_,N,rfl,s3,ex3,Ex.refl _ _,S3,nh,nw,hg⟩
    .obtain⟨_,_,_,_,_,_,_,e34,_⟩:=hI
     exact SqT.of ((e34.tk lstB) _ _ heb)
    .obtain⟨y4,y5,y8,N,rfl,s4,ex4,e34,S4,nh,nw,hg⟩:=hI
     have hkx:k<exs.length:=(List.getElem?_eq_some_iff.mp hx2).1
     obtain⟨e,he,re⟩:=(repE.tk (e34.tk lstB) (Spots.imm hes.spots)).at hx2
     obtain⟨r0,c0,k0,rfl,hr0,hc0,_⟩:=hes e (List.mem_of_getElem? he)
     obtain⟨c,rfl,hc,_⟩:=rep_spot re
     have hia:r0<as.length:=by omega
     have hai:=List.getElem?_eq_getElem hia
     generalize as[r0]=a at hai
     have ham:=List.mem_of_getElem? hai
     refine⟨c,_,rfl,SqT.of hc,rfl,_,_,rfl,_,_,rfl,_,_,rfl,rfl,?_⟩
     refine⟨_,rfl,_,rfl,_,_,sgc i,rfl,rfl,(by rw[psg_len];decide),by rw[Int.zero_add];exact atI_nat (sgc_at (by omega)),?_⟩
     refine⟨_,rfl,_,rfl,S,_,_,.ref a,rfl,rfl,SqL.of S4.top,atI_nat (by rw[List.getElem?_map,hai];rfl),_,rfl,a,_,_,c0,rfl,rfl,S4.row r0 a hai,by rw[cells1_len];exact ix_nat (by omega),?_⟩
     refine⟨_,_,_,_,rfl,up s4 ham,ex4.trans (Ex.upd ham),e34.trans (Ex.upd ham),S4.set hai (by omega),nh,nw,fun r c hr hc=>?_⟩
     rw[puts_succ (p:=(r0,c0)) (by rw[List.getElem?_map,he];rfl)]
     show(if r=r0/\c=c0 then sgc i else N.g r c)=(if r=r0/\c=c0 then some (sgc i)else _).getD _
     by_cases e:r=r0/\c=c0
     .rw[if_pos e,if_pos e]
      rfl
     .rw[if_neg e,if_neg e]
      exact hg r c hr hc
    .obtain⟨y4,y5,y8,N,rfl,s4,ex4,e34,S4,nh,nw,hg⟩:=hI
     rw[List.take_of_length_le (by rw[List.length_map];omega)]at hg
     refine⟨_,_,_,_,N,rfl,s4,ex4,S4,nh,nw,?_⟩
     show ∀r c,r<M.h->c<M.w->N.g r c=(puts (mkL L i) (sgc i) (cellsD (L.getD i .none)) r c).getD _
     rw[ed]
     exact hg
   .obtain⟨y4,y5,y7,y8,N,rfl,s3,ex3,S3,nh,nw,hg⟩:=hI
    rw[lws,lS2]at hg
    have same:SameM N (picM M (mkL L pds.length)):=⟨nh,nw,fun r c hr hc=>by
     rw[hg r c (by omega) (by omega)]
     show _=if M.g r c=35 then 35 else _
     cases hm:mkL L pds.length r c with
     | none=>rfl
     | some v=>
      obtain⟨d,hd,hdc⟩:=mk_some (by omega) hm
      have hop:=(hPS d hd).2 _ hdc
      rw[if_neg hop,if_neg hop]⟩
    rw[<-same.strs]at q
    refine⟨_,rfl,S,rfl,⟨_,SqL.of S3.top⟩,fun D hD=>?_⟩
    refine comp_list (xs:=as.map V.ref) (fun k zs G4=>Same G3 G4/\zs=((strsM N).take k).map V.str) ⟨Same.fresh _ hD,rfl⟩ (fun k zs G4 p=>SqL.of (p.1 _ _ S3.top)) (fun k x zs G4 hx hk hDz hzl p=>?_) (fun zs G4 hDz hzl p=>?_)
    .obtain⟨p4,rfl⟩:=p
     rw[List.getElem?_map]at hx
     obtain⟨a,ha,rfl⟩:=Option.map_eq_some_iff.mp hx
     rw[List.length_map]at hk
     have hkh:k<N.h:=by omega
     refine⟨Agree.set (Agree.refl _) rfl,?_⟩
     dsimp only[tYes]
     refine iteT ?_
     have hsum:=PySem.StrLaws.sumLen_le (B:=1) ((lineM N k).map fun c=>(⟨#[c]⟩:Str)) fun y hy=>by
      obtain⟨c,_,rfl⟩:=List.mem_map.mp hy
      exact Nat.le_refl _
     have e0:(Str.ofString "").length=0:=by decide +kernel
     rw[List.length_map,line_len]at hsum
     refine⟨rfl,_,rfl,_,a,(lineM N k).map fun c=>(⟨#[c]⟩:Str),rfl,rfl,p4 _ _ (S3.row k a ha),by rw[e0,List.length_map,line_len];omega,?_⟩
     rw[join_line]
     refine nx_put (by omega) hDz hzl ⟨p4.new hD,?_⟩
     rw[map_take_succ V.str (strs_at hkh)]
    .obtain⟨p4,rfl⟩:=p
     refine⟨D,_,rfl,.inl ⟨SqL.of hDz,fun r hr2=>?_⟩⟩
     refine q r _ ((s3.trans p4).trans (Same.fresh _ hr2)) ?_
     rw[upd_same,List.take_of_length_le (by rw[strs_len,List.length_map,S3.len];exact Nat.le_refl _)]
end
end K71
namespace L3
open PySem PyProof.Rows L2
theorem seq_hold{s1 s2:TS}{D:Ends}{σ:L2.St}{H:Hp}(h:∀D':Ends,D'.nx=s2 D->D'.rt=D.rt->s1 D' σ H):tSeq s1 s2 D σ H:=h _ rfl rfl
theorem seq_holdG{i:Nat}{v:V}{s1 s2:TS}{D:Ends}{σ:L2.St}{H:Hp}(h:∀D':Ends,D'.nx=s2 D->D'.rt=D.rt->s1 D' (σ.set i (some v)) H):gName i v σ H fun σ2 H2=>tSeq s1 s2 D σ2 H2:=h _ rfl rfl
theorem noPart{σ:L2.St}{H:Hp}{Q:Option Int->Hp->Prop}(h:Q none H):tNoPart σ H Q:=h
theorem seq_join{s1 s2:TS}{D:Ends}{σ:L2.St}{H:Hp}(R:L2.St->Hp->Prop)(h:∀σ' G',R σ' G'->s2 D σ' G')(h1:∀D':Ends,(∀σ' G',R σ' G'->D'.nx σ' G')->D'.rt=D.rt->s1 D' σ H):tSeq s1 s2 D σ H:=h1 _ h rfl
end L3
namespace K71
open PySem PyProof.Rows L2 L3
theorem rep_of{H:Hp}:∀{ds:List PyData} {xs:List V},ds.length=xs.length->(∀(i:Nat) d x,ds[i]?=some d->xs[i]?=some x->Rep H d x)->RepAll H ds xs
 | [],[],_,_=>rfl
 | [],_::_,h,_=>by cases h
 | _::_,[],h,_=>by cases h
 | d::ds,x::xs,h,r=>⟨x,xs,rfl,r 0 d x rfl rfl,rep_of (by simpa using h) fun i d' x' h1 h2=>r (i+1) d' x' (by simpa using h1) (by simpa using h2)⟩
theorem rep_pt{H:Hp}{ds:List PyData}{xs:List V}(h:RepAll H ds xs){i:Nat}{d:PyData}{x:V}(h1:ds[i]?=some d)(h2:xs[i]?=some x):Rep H d x:=by
 obtain⟨x',e,r⟩:=h.get h1
 rw[h2]at e
 cases e
 exact r
theorem rep_take{H:Hp}{ds:List PyData}{xs:List V}(h:RepAll H ds xs)(k:Nat):RepAll H (ds.take k) (xs.take k):=by
 have hl:=h.length
 refine rep_of (by rw[List.length_take,List.length_take,hl]) fun i d x h1 h2=>?_
 rw[List.getElem?_take]at h1 h2
 split at h1
 .rw[if_pos (by assumption)]at h2
  exact rep_pt h h1 h2
 .cases h1
theorem rep_drop{H:Hp}{ds:List PyData}{xs:List V}(h:RepAll H ds xs)(k:Nat):RepAll H (ds.drop k) (xs.drop k):=by
 have hl:=h.length
 refine rep_of (by rw[List.length_drop,List.length_drop,hl]) fun i d x h1 h2=>?_
 rw[List.getElem?_drop]at h1 h2
 exact rep_pt h h1 h2
theorem rep_rev{H:Hp}{ds:List PyData}{xs:List V}(h:RepAll H ds xs):RepAll H ds.reverse xs.reverse:=by
 have hl:=h.length
 refine rep_of (by rw[List.length_reverse,List.length_reverse,hl]) fun i d x h1 h2=>?_
 have hi:i<ds.length:=by have:=(List.getElem?_eq_some_iff.mp h1).1;rwa [List.length_reverse]at this
 rw[List.getElem?_reverse hi]at h1
 rw[List.getElem?_reverse (by omega),hl]at h2
 exact rep_pt h h1 h2
theorem cut_from{xs:List V}{k:Nat}(hk:k<=xs.length):cutV xs (some (k:Int)) none=xs.drop k:=by
 unfold cutV
 rw[HT.sIx_none,HT.sIx_nat,show min k xs.length=k by omega,List.take_of_length_le (by rw[List.length_drop];exact Nat.le_refl _)]
theorem cut_to{xs:List V}{k:Nat}(hk:k<=xs.length):cutV xs none (some (k:Int))=xs.take k:=by
 unfold cutV
 rw[HT.sIx_none,HT.sIx_nat,show min k xs.length=k by omega]
 rfl
theorem puts_lt{m:Mk}{s:Nat}(hs:s<128):∀{ps:List (Nat×Nat)},(∀r c v,m r c=some v->v<128)->∀r c v,puts m s ps r c=some v->v<128:=by
 intro ps
 induction ps generalizing m with
 | nil=>intro h;exact h
 | cons p ps ih=>
  intro h
  refine ih (m:=put1 m s p) fun r c v e=>?_
  unfold put1 at e
  split at e
  .cases e;exact hs
  .exact h r c v e
theorem mk_lt(L:List PyData):∀(i r c v:Nat),mkL L i r c=some v->v<128
 | 0,_,_,_,h=>by cases h
 | i+1,r,c,v,h=>puts_lt (sgc_lt i) (mk_lt L i) r c v h
theorem pic_tx{M:Mat}(o:OkM SgP M){L:List PyData}{i:Nat}{z:Str}(h:z∈strsM (picM M (mkL L i))):Tx z:=by
 obtain⟨r,hr,rfl⟩:=strs_mem h
 have hw:=o.w8
 have hl:=line_str_len (picM M (mkL L i)) r
 have e:((⟨(lineM (picM M (mkL L i)) r).toArray⟩:Str).cps.toList)=lineM (picM M (mkL L i)) r:=by simp
 refine⟨by rw[hl];show M.w<=80;omega,fun c hc=>?_⟩
 rw[e]at hc
 obtain⟨k,_,rfl⟩:=List.mem_map.mp hc
 show(if M.g r k=35 then 35 else(mkL L i r k).getD 45)<128
 split
 .decide
 .cases hm:mkL L i r k with
  | none=>decide
  | some v=>exact mk_lt L i r k v hm
def dT(N:Mat):PyData:=.tuple ((strsM N).map PyData.str)
theorem rep_strs{H:Hp}:∀{zs:List Str},(∀z∈zs,Tx z)->RepAll H (zs.map PyData.str) (zs.map V.str)
 | [],_=>rfl
 | z::zs,h=>⟨_,_,rfl,⟨rfl,Tx.ok (h z List.mem_cons_self)⟩,rep_strs fun y hy=>h y (List.mem_cons_of_mem _ hy)⟩
theorem depth_strs(zs:List Str):PyData.depthAll (zs.map PyData.str)<=1:=by
 induction zs with
 | nil=>simp[PyData.depthAll]
 | cons z t ih=>simp[PyData.depthAll,PyData.depth]at ih⊢;omega
theorem depth_T(N:Mat):(dT N).depth<=60:=by
 have:=depth_strs (strsM N)
 simp[dT,PyData.depth]
 omega
theorem depth_pl{h w:Nat}:∀{ds:List PyData},(∀d∈ds,PlD h w d)->PyData.depthAll ds<=7
 | [],_=>by simp[PyData.depthAll]
 | d::ds,a=>by
  have h1:=(a d List.mem_cons_self).key.1.2.2
  have h2:=depth_pl fun e he=>a e (List.mem_cons_of_mem _ he)
  show max d.depth (PyData.depthAll ds)<=7
  omega
seal L2.PE L2.PT L2.PW L2.PA L2.PS L2.PSs L2.PG L2.PGs L2.PI L2.PO
section
variable{P:Program}{w:World}{K:PySem.W.Frag}{mg:Str->Option Value}{base:Heap}{f:Addr}{fd:FuncData}
def spGood:Sp:=fun vs H Q _=>∃(p ly st fl:Addr) (e1 e2:V) (M:Mat) (n:Int) (xs:List V) (pds:List PyData),vs=[.ref p,.ref ly,.ref st]/\H p=some (.tup [.ref fl,e1,e2])/\FlM H fl M/\H ly=some (.lst xs)/\RepAll H pds xs/\(∀d∈pds,PlD M.h M.w d/\OpD M d)/\pds.length<=64/\H st=some (.lst [.int n])/\ly≠st/\
 ∀(H':Hp),Ex [st] H H'->Q (.bl true) H'
theorem scGood:FnScope ["_law_puzzle","_law_laying","_law_state_here","_law_cut","_law_handed","_law_copy","_law_found"] ["_law_puzzle","_law_laying","_law_state_here"] (defScope sGood):=⟨rfl,rfl,rfl,by decide +kernel,rfl,by decide +kernel,by decide +kernel⟩
theorem ok_good(B:∀x∈blts,mg x=none)(Fnext:FnNext P w K mg base)(Fpic:Fn P w K mg base "picture" 4 ["puzzle","laying"] spPic)(Fdue:Fn P w K mg base "_law_due" 1 ["_law_floor","_law_laying"] spDue)(F:Fun K "_law_good" "_law_good" sGood f fd):FnOk P w K mg base CX0 5 f fd ["_law_puzzle","_law_laying","_law_state_here"] spGood:=by
 refine F.ok (k:=4) scGood (fun vs H Q E h=>?_) (fun cdv A outer s H vs Q E hr h=>?_)
 .obtain⟨p,ly,st,fl,e1,e2,M,n,xs,pds,rfl,_⟩:=h
  rfl
 obtain⟨p,ly,st,fl,e1,e2,M,n,xs,pds,rfl,hp,hf,hly,rep,hP,h64,hst,nly,q⟩:=h
 have hu:=hr.units
 have lxs:=rep.length
 refine⟨_,(pss_cons (ps_set (i:=3) scGood.nd rfl (Or.inl rfl) (pe_fn Fnext hr (by decide) rfl (pa_c (pv 2) (pa_c (pe_op op_add (pe_cB call_len_seq rfl (B "len" (by decide)) PySem.boot_len (pa_c (pv 1) pa_nil)) pe_int) pa_nil))))
  (pss_cons (ps_set (i:=4) scGood.nd rfl (Or.inl rfl) (pe_op op_cat (pe_listrev rfl rfl (B "list" (by decide)) rfl (B "reversed" (by decide)) (pa_c (pe_slice sl_list (pv 1) (po_some (pv 3)) po_none) pa_nil)) (pe_slice sl_list (pv 1) po_none (po_some (pv 3)))))
  (pss_cons (ps_set (i:=5) scGood.nd rfl (Or.inl rfl) (pe_cT call_list_of rfl (B "list" (by decide)) boot_list (pa_c (pv 4) pa_nil)))
  (pss_cons (ps_set (i:=6) scGood.nd rfl (Or.inl rfl) (pe_fn Fpic hr (by decide) rfl (pa_c (pv 0) (pa_c (pv 4) pa_nil))))
  (pss_one (ps_ret (pe_and (pe_cB call_isinst rfl (B "isinstance" (by decide)) boot_isinstance (pa_c (pv 6) (pa_c (pe_bltn (v:=.ty "tuple") rfl (B "tuple" (by decide)) boot_tuple rfl) pa_nil))) (pe_and (pe_cmpR (op_eqD hu) (pv 6) (pe_fn Fdue hr (by decide) rfl (pa_c (pe_ix ix_tup (pv 0) pe_int (fun _ _=>rfl)) (pa_c (pv 1) pa_nil))) (nomark _)) (pe_one (pe_cmpR (op_eqD hu) (pv 4) (pv 5) (nomark _))))))))))),?_⟩
 refine seq_hold fun Dh nxE rtE=>?_
 refine⟨_,rfl,_,rfl,ly,xs,rfl,.inl (SqL.of hly),_,_,rfl,rfl,st,n,_,rfl,hst,by omega,fun n2 i2 h20 h21=>?_⟩
 obtain⟨c,rfl⟩:=Int.eq_ofNat_of_zero_le h20
 have hc:c<=xs.length:=by omega
 have ex1:Ex [st] H (upd H st (.lst [.int n2])):=Ex.upd (by simp)
 have tk1:Tk H (upd H st (.lst [.int n2])):=Tk.lst hst
 generalize upd H st (.lst [.int n2])=G1 at *
 have hp1:=tk1 _ _ hp
 have hf1:FlM G1 fl M:=⟨tk1 _ _ hf.1,hf.2⟩
 have hly1:=ex1.at nly hly
 have rep1:RepAll G1 pds xs:=rep.tk tk1 (PlD.imm fun d hd=>(hP d hd).1)
 clear rep hly hp tk1
 show Dh.nx _ _
 rw[nxE]
 clear nxE rtE Dh
 refine seq_hold fun Dh nxE rtE=>?_
 refine⟨_,rfl,_,rfl,_,rfl,noPart ⟨ly,xs,rfl,SqL.of hly1,fun S1 hS1=>?_⟩⟩
 rw[cut_from hc]
 have s1:Same G1 (upd G1 S1 (.lst (xs.drop c))):=Same.fresh _ hS1
 have c1:upd G1 S1 (.lst (xs.drop c)) S1=some (.lst (xs.drop c)):=upd_same
 generalize upd G1 S1 (.lst (xs.drop c))=G2 at *
 refine⟨S1,_,rfl,c1,fun S2 hS2=>?_⟩
 have s2:Same G2 (upd G2 S2 (.lst (xs.drop c).reverse)):=Same.fresh _ hS2
 have c2:upd G2 S2 (.lst (xs.drop c).reverse) S2=some (.lst (xs.drop c).reverse):=upd_same
 generalize upd G2 S2 (.lst (xs.drop c).reverse)=G3 at *
 refine⟨_,rfl,noPart ⟨_,rfl,_,rfl,ly,xs,rfl,SqL.of (s2 _ _ (s1 _ _ hly1)),fun S3 hS3=>?_⟩⟩
 rw[cut_to hc]
 have s3:Same G3 (upd G3 S3 (.lst (xs.take c))):=Same.fresh _ hS3
 have c3:upd G3 S3 (.lst (xs.take c)) S3=some (.lst (xs.take c)):=upd_same
 generalize upd G3 S3 (.lst (xs.take c))=G4 at *
 refine⟨S2,S3,_,_,rfl,rfl,s3 _ _ c2,c3,?_,fun hd hhd=>?_⟩
 .rw[List.length_reverse,List.length_drop,List.length_take]
  exact Nat.le_of_lt (small1000 (by omega))
 obtain⟨ys,hys⟩:∃ys,ys=(xs.drop c).reverse++xs.take c:=⟨_,rfl⟩
 obtain⟨qds,hqds⟩:∃qds,qds=(pds.drop c).reverse++pds.take c:=⟨_,rfl⟩
 have pq:qds.Perm pds:=by
  rw[hqds]
  refine((List.reverse_perm _).append_right _).trans (List.perm_append_comm.trans ?_)
  rw[List.take_append_drop]
 rw[<-hys]
 have s4:Same G4 (upd G4 hd (.lst ys)):=Same.fresh _ hhd
 have c4:upd G4 hd (.lst ys) hd=some (.lst ys):=upd_same
 generalize upd G4 hd (.lst ys)=G5 at *
 have s15:=((s1.trans s2).trans s3).trans s4
 have rep5:RepAll G5 qds ys:=by
  rw[hys,hqds]
  exact((rep_rev (rep_drop rep1 c)).append (rep_take rep1 c)).same s15
 have hPq:∀d∈qds,PlD M.h M.w d:=fun d hd=>(hP d (pq.mem_iff.mp hd)).1
 have lq:=pq.length_eq
 have esort:sortE qds=sortE pds:=sortE_uniq pq (PlD.cmp hPq)
 show Dh.nx _ _
 rw[nxE]
 clear nxE rtE Dh
 refine seq_hold fun Dh nxE rtE=>?_
 refine⟨_,rfl,hd,ys,rfl,.inl (SqL.of c4),fun cp hcp=>?_⟩
 have s5:Same G5 (upd G5 cp (.lst ys)):=Same.fresh _ hcp
 have c5:upd G5 cp (.lst ys) cp=some (.lst ys):=upd_same
 generalize upd G5 cp (.lst ys)=G6 at *
 have s16:=s15.trans s5
 show Dh.nx _ _
 rw[nxE]
 clear nxE rtE Dh
 refine seq_hold fun Dh nxE rtE=>?_
 refine⟨_,rfl,_,rfl,p,hd,fl,e1,e2,M,ys,qds,rfl,s16 _ _ hp1,hf1.same s16,s5 _ _ c4,rep5.same s5,hPq,by omega,fun r G7 s7 hr7=>?_⟩
 rw[esort,lq]at hr7
 have s17:=s16.trans s7
 show Dh.nx _ _
 rw[nxE]
 clear nxE rtE Dh
 refine⟨_,rfl,.ref r,"tuple",.type "tuple",true,rfl,.tup hr7,rfl,true,rfl,iteT ?_⟩
 refine⟨_,rfl,_,rfl,p,_,_,_,rfl,rfl,SqT.of (s17 _ _ hp1),atI_nat (j:=0) rfl,_,rfl,fl,ly,M,xs,pds,rfl,hf1.same s17,s17 _ _ hly1,rep1.same s17,hP,h64,fun r2 G8 s8 hr8=>?_⟩
 have hN:∀z∈strsM (picM M (mkL (sortE pds) pds.length)),Tx z:=fun z hz=>pic_tx hf1.2 hz
 generalize picM M (mkL (sortE pds) pds.length)=N at *
 have rp1:Rep G8 (dT N) (.ref r):=⟨r,_,rfl,s8 _ _ hr7,rep_strs hN⟩
 have rp2:Rep G8 (dT N) (.ref r2):=⟨r2,_,rfl,hr8,rep_strs hN⟩
 refine⟨dT N,dT N,rp1,rp2,depth_T _,?_⟩
 rw[if_neg Bool.false_ne_true,SeqAt.eqv_refl _ rp1.lay]
 refine⟨_,rfl,iteT ?_⟩
 have s58:=(s5.trans s7).trans s8
 have rq1:Rep G8 (.list qds) (.ref hd):=⟨hd,ys,rfl,s58 _ _ c4,rep5.same s58⟩
 have rq2:Rep G8 (.list qds) (.ref cp):=⟨cp,ys,rfl,s8 _ _ (s7 _ _ c5),rep5.same s58⟩
 have:=depth_pl hPq
 refine⟨_,rfl,_,rfl,.list qds,.list qds,rq1,rq2,by simp[PyData.depth];omega,?_⟩
 rw[if_neg Bool.false_ne_true,SeqAt.eqv_refl _ rq1.lay]
 exact q _ (ex1.trans (Ex.of_same (s17.trans s8)))
end
theorem seq_keep{K:PySem.W.Frag}{H H':Hp}{a:Addr}{xs:List V}(h:SqL K H a xs)(k:∀o,H a=some o->H' a=some o):SqL K H' a xs:=by
 rcases h with (h|⟨o,h⟩)|h
 .exact .inl (.inl (k _ h))
 .exact .inl (.inr ⟨o,k _ h⟩)
 .exact .inr h
def M8:Mat:=⟨8,8,fun _ _=>46⟩
theorem m8_strs:strsM M8=List.replicate 8 (Str.ofString "........"):=by decide +kernel
theorem m8_ok:OkM SgP M8:=⟨by decide,by decide,by decide,by decide,fun _ _ _ _=>(by decide:sgB 46=true)⟩
def d64(i:Nat):PyData:=.tuple [.tuple [.tuple [.int ((i/8:Nat):Int),.int ((i % 8:Nat):Int),.str ⟨#[75]⟩]],.int 0]
theorem d64_pl{i:Nat}(h:i<64):PlD 8 8 (d64 i)/\OpD M8 (d64 i):=by
 refine⟨⟨_,0,rfl,fun e he=>?_,(by show 1<=6;decide)⟩,fun p _=>(by show(46:Nat)≠35;decide)⟩
 rw[List.mem_singleton.mp he]
 exact⟨i/8,i % 8,75,rfl,by omega,by omega,by decide,by decide⟩
theorem OpD.of{M:Mat}{kvs:List (List Key×V)}{d:PyData}(h:PlD M.h M.w d)(hc:CvD kvs d)(ho:∀r c,r<M.h->c<M.w->(valV kvs (keyP r c)).isSome=true->M.g r c≠35):OpD M d:=fun p hp=>by
 obtain⟨es,n,rfl,hs,_⟩:=h
 have hcp:=hc p hp
 obtain⟨e,he,rfl⟩:=List.mem_map.mp hp
 obtain⟨r,c,k,rfl,hr,hc2,_⟩:=hs e he
 exact ho r c hr hc2 hcp
def spLaw(K:PySem.W.Frag):Sp:=fun vs H Q _=>∃(a:Addr) (ns:List Int),vs=[.ref a]/\SqL K H a (ns.map V.int)/\ns.length<=63/\∀H',Q (.bl true) H'
section
variable{P:Program}{w:World}{K:PySem.W.Frag}{mg:Str->Option Value}{base:Heap}{f:Addr}{fd:FuncData}
theorem scLaw:FnScope ["_law_script","_law_k","_law_state_here","_law_forms","_law_high","_law_wide","_law_taken","_law_laying","_law_floor","_law_kinds"] ["_law_script"] (defScope sLaw):=⟨rfl,rfl,rfl,by decide +kernel,rfl,by decide +kernel,by decide +kernel⟩
theorem ok_law(B:∀x∈blts,mg x=none)(Fcell:Fn P w K mg base "_law_cell_at" 1 ["_law_script","_law_k"] (spCell K))(Fstate:Fn P w K mg base "_law_state" 1 ["_law_cell","_law_k"] spState)(Fnext:FnNext P w K mg base)(Fform:Fn P w K mg base "_law_drawn_form" 3 ["_law_state_here","_law_most"] spForm2)(Flaid:Fn P w K mg base "_law_laid" 2 ["_law_state_here","_law_forms","_law_high","_law_wide"] spLaid)(Ffloor:Fn P w K mg base "_law_floor_of" 2 ["_law_state_here","_law_taken","_law_high","_law_wide"] spFloor)(Fgood:Fn P w K mg base "_law_good" 5 ["_law_puzzle","_law_laying","_law_state_here"] spGood)
  (F:Fun K "law" "law" sLaw f fd):FnOk P w K mg base CX0 6 f fd ["_law_script"] (spLaw K):=by
 refine F.ok (k:=5) scLaw (fun vs H Q E h=>?_) (fun cdv A outer s H vs Q E hr h=>?_)
 .obtain⟨a,ns,rfl,_⟩:=h
  rfl
 obtain⟨a,ns,rfl,hS,h63,q⟩:=h
 have hu:=hr.units
 refine⟨_,(pss_cons (ps_for PassesOwn.never rfl (pi_r1 rfl (B "range" (by decide)) (pa_c (pe_cB (call_max2 rfl) rfl (B "max" (by decide)) boot_max (pa_c pe_int (pa_c (pe_cB (call_min2 rfl) rfl (B "min" (by decide)) boot_min (pa_c (pe_cB call_len_seq rfl (B "len" (by decide)) PySem.boot_len (pa_c (pv 0) pa_nil)) (pa_c pe_int pa_nil))) pa_nil))) pa_nil)) (pg_name (i:=1) scLaw.nd rfl (Or.inl rfl)) (pss_cons (ps_set (i:=2) scLaw.nd rfl (Or.inr rfl) (pe_fn Fstate hr (by decide) rfl (pa_c (pe_fn Fcell hr (by decide) rfl (pa_c (pv 0) (pa_c (pv 1) pa_nil))) (pa_c (pv 1) pa_nil))))
  (pss_cons (ps_setC (i:=3) ["_law_j","_law_state_here"] [none,some 2] scLaw.nd rfl (Or.inl rfl) rfl rfl rfl (by decide +kernel) (by decide +kernel) rfl rfl (pi_r1 rfl (B "range" (by decide)) (pa_c (pe_op op_add pe_int (pe_fn Fnext hr (by decide) rfl (pa_c (pv 2) (pa_c pe_int pa_nil)))) pa_nil)) (fun _=>(pg_name (i:=0) (show(["_law_j","_law_state_here"]:List PySem.Str).Nodup by decide +kernel) rfl (Or.inl rfl))) (fun _=>pts_nil) (fun _=>(pe_fn Fform hr (by decide) rfl (pa_c (pv 1) (pa_c pe_int pa_nil)))))
  (pss_cons (ps_set (i:=4) scLaw.nd rfl (Or.inl rfl) (pe_op op_add pe_int (pe_fn Fnext hr (by decide) rfl (pa_c (pv 2) (pa_c pe_int pa_nil)))))
  (pss_cons (ps_set (i:=5) scLaw.nd rfl (Or.inl rfl) (pe_op op_add pe_int (pe_fn Fnext hr (by decide) rfl (pa_c (pv 2) (pa_c pe_int pa_nil)))))
  (pss_cons (ps_asg (pe_fn Flaid hr (by decide) rfl (pa_c (pv 2) (pa_c (pv 3) (pa_c (pv 4) (pa_c (pv 5) pa_nil))))) (pg_tup (n:=2) rfl (pgs_cons (pg_name (i:=6) scLaw.nd rfl (Or.inl rfl)) (pgs_cons (pg_name (i:=7) scLaw.nd rfl (Or.inl rfl)) pgs_nil))))
  (pss_cons (ps_set (i:=8) scLaw.nd rfl (Or.inl rfl) (pe_fn Ffloor hr (by decide) rfl (pa_c (pv 2) (pa_c (pv 6) (pa_c (pv 4) (pa_c (pv 5) pa_nil))))))
  (pss_cons (ps_if (pt_cmpR op_eq (pe_fn Fnext hr (by decide) rfl (pa_c (pv 2) (pa_c pe_int pa_nil))) pe_int (nomark _)) (pss_cons (ps_set (i:=3) scLaw.nd rfl (Or.inl rfl) (pe_lst (pa_c (pe_tup (pa_c (pe_tup (pa_c pe_int (pa_c pe_int (pa_c pe_str pa_nil)))) pa_nil)) pa_nil)))
  (pss_cons (ps_set (i:=8) scLaw.nd rfl (Or.inl rfl) (pe_op op_rep8 (pe_tup (pa_c pe_str pa_nil)) pe_int))
  (pss_one (ps_setC (i:=7) ["_law_place"] [none] scLaw.nd rfl (Or.inl rfl) rfl rfl rfl (by decide +kernel) (by decide +kernel) rfl rfl (pi_r1 rfl (B "range" (by decide)) (pa_c pe_int pa_nil)) (fun _=>(pg_name (i:=0) (show(["_law_place"]:List PySem.Str).Nodup by decide +kernel) rfl (Or.inl rfl))) (fun _=>pts_nil) (fun _=>(pe_tup (pa_c (pe_tup (pa_c (pe_tup (pa_c (pe_op op_fdiv (pv 0) pe_int) (pa_c (pe_op op_mod (pv 0) pe_int) (pa_c pe_str pa_nil)))) pa_nil)) (pa_c pe_int pa_nil)))))))) pss_nil)
  (pss_cons (ps_setC (i:=9) ["_law_j","_law_form"] [none,none] scLaw.nd rfl (Or.inl rfl) rfl rfl rfl (by decide +kernel) (by decide +kernel) rfl rfl (pi_enL rfl (B "enumerate" (by decide)) (pa_c (pv 3) pa_nil)) (fun _=>(pg_tupC (n:=2) rfl (pgs_cons (pg_name (i:=0) (show(["_law_j","_law_form"]:List PySem.Str).Nodup by decide +kernel) rfl (Or.inl rfl)) (pgs_cons (pg_name (i:=1) (show(["_law_j","_law_form"]:List PySem.Str).Nodup by decide +kernel) rfl (Or.inl rfl)) pgs_nil)))) (fun _=>pts_nil) (fun _=>(pe_tup (pa_c (pe_ix ix_listC (pe_lst (pa_c pe_str (pa_c pe_str (pa_c pe_str pa_nil)))) (pv 0) (fun _ _=>rfl)) (pa_c pe_int (pa_c pe_non (pa_c pe_str (pa_c (pv 1) pa_nil))))))))
  (pss_one (ps_if (pt_not (pt_val (pe_fn Fgood hr (by decide) rfl (pa_c (pe_tup (pa_c (pv 8) (pa_c (pe_cT call_tuple_of rfl (B "tuple" (by decide)) boot_tuple (pa_c (pv 9) pa_nil)) (pa_c (pe_tup pa_nil) pa_nil)))) (pa_c (pv 7) (pa_c (pv 2) pa_nil)))))) (pss_one (ps_ret pe_bl)) pss_nil)))))))))))
  (pss_one (ps_ret pe_bl))),?_⟩
 refine seq_hold fun Dt nxT rtT=>?_
 refine⟨_,rfl,a,_,rfl,.inl hS,_,_,rfl,_,_,rfl,_,rfl,?_,?_,?_⟩
 .split<;>split<;>omega
 .split<;>split<;>omega
 refine for_range (lo:=0) (fun i σ' G=>∃x1 x2 x3 x4 x5 x6 x7 x8 x9,σ'=[some (.ref a),x1,x2,x3,x4,x5,x6,x7,x8,x9]/\Same H G) ?_ (fun i σ' G hi h=>?_) (fun σ' G h=>?_)
 .exact⟨_,_,_,_,_,_,_,_,_,rfl,Same.refl _⟩
 .obtain⟨x1,x2,x3,x4,x5,x6,x7,x8,x9,rfl,sm⟩:=h
  have hG:SqL K G a (ns.map V.int):=seq_keep hS fun o ho=>sm _ _ ho
  refine seq_holdG fun Dh nxE rtE=>?_
  refine⟨_,rfl,_,rfl,a,ns,_,rfl,hG,by omega,fun c=>⟨_,rfl,c,_,rfl,fun st n0 hst0=>?_⟩⟩
  have k0:Same G (upd G st (.lst [.int n0])):=Same.fresh _ hst0
  have st0:upd G st (.lst [.int n0]) st=some (.lst [.int n0]):=upd_same
  generalize upd G st (.lst [.int n0])=G0 at *
  have keep:∀{G':Hp},Ex [st] G0 G'->Same G G':=fun ex b o hb=>ex.at (fun e=>by rw[e,hst0]at hb;cases hb) (k0 _ _ hb)
  show Dh.nx _ _
  rw[nxE]
  clear nxE rtE Dh
  refine seq_hold fun Dh nxE rtE=>?_
  refine⟨_,rfl,st,n0,3,rfl,st0,by decide,fun n1 i1 h10 h11=>⟨_,_,rfl,rfl,?_⟩⟩
  obtain⟨m,hm1,hm3,em⟩:∃m:Nat,0<m/\m<=3/\1+i1=(m:Nat):=⟨(1+i1).toNat,by omega,by omega,by omega⟩
  have ex1:Ex [st] G0 (upd G0 st (.lst [.int n1])):=Ex.upd (by simp)
  have st1:upd G0 st (.lst [.int n1]) st=some (.lst [.int n1]):=upd_same
  generalize upd G0 st (.lst [.int n1])=G1 at *
  refine⟨(m:Nat),by rw[<-em],by omega,by omega,?_⟩
  rw[Int.toNat_natCast]
  intro D hD
  have nD:D≠st:=fun e=>by rw[e,st1]at hD;cases hD
  refine comp_range (lo:=0) (fun j ys G'=>Ex [st] G1 G'/\(∃n:Int,G' st=some (.lst [.int n]))/\∃fds:List PyData,fds.length=j/\RepAll G' fds ys/\FmsN fds) ⟨Ex.fresh hD,⟨n1,by rw[upd_ne (Ne.symm nD)];exact st1⟩,[],rfl,rfl,fun d hd=>by cases hd⟩ (fun j ys G' hj hDy hyl p=>?_) (fun ys G' hDy hyl p=>?_)
  .obtain⟨p1,⟨n2,st2⟩,fds,hfl,repF,hF⟩:=p
   refine⟨Agree.set (Agree.refl _) rfl,?_⟩
   dsimp only[tYes]
   refine iteT ?_
   refine⟨_,rfl,st,n2,rfl,st2,fun r G2 n3 ds ex2 st3 fm rp=>?_⟩
   have hD2:=ex2.at nD hDy
   have hF':FmsN (fds++[.tuple ds]):=fun d hd=>by
    rcases List.mem_append.mp hd with h|h
    .exact hF d h
    .rw[List.mem_singleton.mp h];exact⟨ds,rfl,fm⟩
   refine nx_put (by omega) hD2 hyl ⟨(p1.trans ex2).new hD,⟨n3,by rw[upd_ne (Ne.symm nD)];exact st3⟩,fds++[.tuple ds],by rw[List.length_append,hfl];rfl,((repF.tk (ex2.one st2) hF.imm).snoc rp).tk (Tk.lst hD2) hF'.imm,hF'⟩
  .obtain⟨p1,⟨n2,st2⟩,fds,hfl,repF,hF⟩:=p
   have ex2:=ex1.trans p1
   show Dh.nx _ _
   rw[nxE]
   clear nxE rtE Dh
   refine seq_hold fun Dh nxE rtE=>?_
   refine⟨_,rfl,st,n2,8,rfl,st2,by decide,fun n3 i3 h30 h31=>⟨_,_,rfl,rfl,?_⟩⟩
   obtain⟨h,hh1,hh8,eh⟩:∃h:Nat,0<h/\h<=8/\1+i3=(h:Nat):=⟨(1+i3).toNat,by omega,by omega,by omega⟩
   have ex3:Ex [st] G0 (upd G' st (.lst [.int n3])):=ex2.trans (Ex.upd (by simp))
   have st3:upd G' st (.lst [.int n3]) st=some (.lst [.int n3]):=upd_same
   have hD3:upd G' st (.lst [.int n3]) D=some (.lst ys):=by rw[upd_ne nD];exact hDy
   have rep3:RepAll (upd G' st (.lst [.int n3])) fds ys:=repF.tk (Tk.lst st2) hF.imm
   generalize upd G' st (.lst [.int n3])=G3 at *
   show Dh.nx _ _
   rw[nxE]
   clear nxE rtE Dh
   refine seq_hold fun Dh nxE rtE=>?_
   refine⟨_,rfl,st,n3,8,rfl,st3,by decide,fun n4 i4 h40 h41=>⟨_,_,rfl,rfl,?_⟩⟩
   obtain⟨wd,hw1,hw8,ew⟩:∃h:Nat,0<h/\h<=8/\1+i4=(h:Nat):=⟨(1+i4).toNat,by omega,by omega,by omega⟩
   have ex4:Ex [st] G0 (upd G3 st (.lst [.int n4])):=ex3.trans (Ex.upd (by simp))
   have st4:upd G3 st (.lst [.int n4]) st=some (.lst [.int n4]):=upd_same
   have hD4:upd G3 st (.lst [.int n4]) D=some (.lst ys):=by rw[upd_ne nD];exact hD3
   have rep4:RepAll (upd G3 st (.lst [.int n4])) fds ys:=rep3.tk (Tk.lst st3) hF.imm
   generalize upd G3 st (.lst [.int n4])=G4 at *
   have lys:=rep4.length
   show Dh.nx _ _
   rw[nxE]
   clear nxE rtE Dh
   refine seq_hold fun Dh nxE rtE=>?_
   refine⟨_,rfl,_,rfl,_,rfl,_,rfl,st,D,n4,h,wd,ys,fds,by rw[<-eh,<-ew]<;>rfl,st4,hD4,nD,rep4,hF,by omega,by omega,hh1,hh8,hw1,hw8,fun p tk ly G5 n5 kvs xs pds htk hly L5 hp hT hP hpl=>?_⟩
   refine⟨p,_,rfl,SqT.of hp,rfl,_,_,rfl,_,_,rfl,rfl,?_⟩
   have nly:ly≠st:=fun e=>by rw[e,st4]at hly;cases hly
   have hD5:=L5.ex.at nD hD4
   show Dh.nx _ _
   rw[nxE]
   clear nxE rtE Dh
   refine seq_hold fun Dh nxE rtE=>?_
   refine⟨_,rfl,_,rfl,_,rfl,_,rfl,st,tk,n5,h,wd,kvs,by rw[<-eh,<-ew]<;>rfl,L5.hst,L5.htk,hT,hh1,hh8,hw1,hw8,fun fl G6 n6 M ex6 st6 hfl eMh eMw hop=>?_⟩
   have ex06:=(ex4.trans L5.ex).trans ex6
   have ly6:=ex6.at nly L5.hly
   have rep6:RepAll G6 pds xs:=L5.rep.tk (ex6.one L5.hst) (PlD.imm fun d hd=>(hP d hd).1)
   have D6:=ex6.at nD hD5
   have hPM:∀d∈pds,PlD M.h M.w d/\OpD M d:=fun d hd=>by
    have h1:PlD M.h M.w d:=by rw[eMh,eMw];exact(hP d hd).1
    exact⟨h1,OpD.of h1 (hP d hd).2 fun r c hr hc=>hop r c (by omega) (by omega)⟩
   show Dh.nx _ _
   rw[nxE]
   clear nxE rtE Dh
   refine seq_join (fun σ' G'=>∃(z4 z5 z6:Option V) (fo ly fl:Addr) (n:Int) (M:Mat) (fxs xs:List V) (pds:List PyData),σ'=[some (.ref a),some (.int (0+(i:Nat))),some (.ref st),some (.ref fo),z4,z5,z6,some (.ref ly),some (.ref fl),x9]/\Ex [st] G0 G'/\G' st=some (.lst [.int n])/\G' fo=some (.lst fxs)/\fxs.length<=3/\fo≠st/\FlM G' fl M/\G' ly=some (.lst xs)/\RepAll G' pds xs/\(∀d∈pds,PlD M.h M.w d/\OpD M d)/\pds.length<=64/\ly≠st) ?_ (fun Dh hnx rtE=>?_)
   case' refine_2=>
    refine⟨_,rfl,st,n6,8,rfl,st6,by decide,fun n7 i7 h70 h71=>⟨rfl,_,rfl,?_⟩⟩
    have ex7:Ex [st] G0 (upd G6 st (.lst [.int n7])):=ex06.trans (Ex.upd (by simp))
    have st7:upd G6 st (.lst [.int n7]) st=some (.lst [.int n7]):=upd_same
    have ly7:upd G6 st (.lst [.int n7]) ly=some (.lst xs):=by rw[upd_ne nly];exact ly6
    have D7:upd G6 st (.lst [.int n7]) D=some (.lst ys):=by rw[upd_ne nD];exact D6
    have rep7:RepAll (upd G6 st (.lst [.int n7])) pds xs:=rep6.tk (Tk.lst st6) (PlD.imm fun d hd=>(hP d hd).1)
    have fl7:FlM (upd G6 st (.lst [.int n7])) fl M:=⟨Tk.lst st6 _ _ hfl.1,hfl.2⟩
    generalize upd G6 st (.lst [.int n7])=G7 at *
    refine ite2 (fun h8=>?_) (fun h8=>?_)
    .refine seq_hold fun Dh nxE rtE=>?_
     refine⟨(by show 3<=sizeLine;decide),fun t1 ht1=>⟨(by show 1<=sizeLine;decide),fun t2 ht2=>⟨(by show 1<=sizeLine;decide),fun fo hfo=>?_⟩⟩⟩
     generalize g1:upd G7 t1 _=A1 at *
     have a1:Same G7 A1:=by rw[<-g1];exact Same.fresh _ ht1
     generalize g2:upd A1 t2 _=A2 at *
     have a2:Same A1 A2:=by rw[<-g2];exact Same.fresh _ ht2
     generalize g3:upd A2 fo _=A3 at *
     have a3:Same A2 A3:=by rw[<-g3];exact Same.fresh _ hfo
     have c3:=(congrFun g3 fo).symm.trans upd_same
     have a13:=(a1.trans a2).trans a3
     have nfo:fo≠st:=fun e=>by rw[e,a2 _ _ (a1 _ _ st7)]at hfo;cases hfo
     show Dh.nx _ _
     rw[nxE]
     clear nxE rtE Dh
     refine seq_hold fun Dh nxE rtE=>?_
     refine⟨(by show 1<=sizeLine;decide),fun t4 ht4=>?_⟩
     have a4:Same A3 (upd A3 t4 (.tup [.str (Str.ofString "........")])):=Same.fresh _ ht4
     have c4:upd A3 t4 (.tup [.str (Str.ofString "........")]) t4=some (.tup [.str (Str.ofString "........")]):=upd_same
     generalize upd A3 t4 (.tup [.str (Str.ofString "........")])=A4 at *
     refine⟨t4,_,rfl,rfl,c4,by decide,by decide,fun fl2 hfl2=>?_⟩
     generalize g5:upd A4 fl2 _=A5 at *
     have a5:Same A4 A5:=by rw[<-g5];exact Same.fresh _ hfl2
     have c5:=(congrFun g5 fl2).symm.trans upd_same
     have f5:FlM A5 fl2 M8:=⟨by rw[c5,m8_strs];rfl,m8_ok⟩
     show Dh.nx _ _
     rw[nxE]
     clear nxE rtE Dh
     refine⟨64,rfl,by decide,by decide,fun ly2 hly2=>?_⟩
     have a15:=(a13.trans a4).trans a5
     have nly2:ly2≠st:=fun e=>by rw[e,a15 _ _ st7]at hly2;cases hly2
     refine comp_range (lo:=0) (n:=64) (fun j zs B=>Same A5 B/\RepAll B ((List.range j).map d64) zs) ⟨Same.fresh _ hly2,rfl⟩ (fun j zs B hj hDz hzl p=>?_) (fun zs B hDz hzl p=>?_)
     .obtain⟨p1,rp⟩:=p
      refine⟨Agree.set (Agree.refl _) rfl,?_⟩
      dsimp only[tYes]
      refine iteT ?_
      refine⟨_,rfl,_,_,rfl,rfl,⟨by decide,by decide⟩,_,rfl,_,_,rfl,rfl,(by show(0:Int)<8;decide),(by show 3<=sizeLine;decide),fun b1 hb1=>⟨(by show 1<=sizeLine;decide),fun b2 hb2=>⟨(by show 2<=sizeLine;decide),fun b3 hb3=>?_⟩⟩⟩
      have e75:Str.ofString "K" = ⟨#[75]⟩:=by decide +kernel
      generalize q1:upd B b1 _=B1 at *
      have w1:Same B B1:=by rw[<-q1];exact Same.fresh _ hb1
      have v1:B1 b1=some (.tup [.int ((j/8:Nat):Int),.int ((j % 8:Nat):Int),.str ⟨#[75]⟩]):=by
       rw[<-q1,upd_same,e75,Int.zero_add]
       rfl
      generalize q2:upd B1 b2 _=B2 at *
      have w2:Same B1 B2:=by rw[<-q2];exact Same.fresh _ hb2
      have v2:=(congrFun q2 b2).symm.trans upd_same
      generalize q3:upd B2 b3 _=B3 at *
      have w3:Same B2 B3:=by rw[<-q3];exact Same.fresh _ hb3
      have v3:=(congrFun q3 b3).symm.trans upd_same
      have w13:=(w1.trans w2).trans w3
      have hD3:=w13 _ _ hDz
      have rN:Rep B3 (d64 j) (.ref b3):=⟨b3,_,rfl,v3,_,_,rfl,⟨b2,_,rfl,w3 _ _ v2,_,_,rfl,spot_rep (w3 _ _ (w2 _ _ v1)) (Tx.ok ⟨by show 1<=80;omega,fun x hx=>by
       have:x=75:=by simpa using hx
       omega⟩),rfl⟩,_,_,rfl,rfl,rfl⟩
      refine nx_put (by omega) hD3 hzl ⟨(p1.trans w13).new hly2,?_⟩
      rw[List.range_succ,List.map_append]
      refine((rp.same w13).snoc rN).tk (Tk.lst hD3) (PlD.imm (h:=8) (w:=8) fun d hd=>?_)
      rcases List.mem_append.mp hd with h|h
      .obtain⟨k,hk,rfl⟩:=List.mem_map.mp h
       have hk':k<j:=by simpa using hk
       exact(d64_pl (by omega)).1
      .rw[List.mem_singleton.mp h]
       exact(d64_pl hj).1
     .obtain⟨p1,rp⟩:=p
      have aB:=a15.trans p1
      refine hnx _ _ ⟨_,_,_,fo,ly2,fl2,n7,M8,_,zs,(List.range 64).map d64,rfl,ex7.trans (Ex.of_same aB),aB _ _ st7,p1 _ _ (a5 _ _ (a4 _ _ c3)),(by show 1<=3;decide),nfo,f5.same p1,hDz,rp,fun d hd=>?_,by simp,nly2⟩
      obtain⟨k,hk,rfl⟩:=List.mem_map.mp hd
      exact d64_pl (by simpa using hk)
    .exact hnx _ _ ⟨_,_,_,D,ly,fl,n7,M,ys,xs,pds,rfl,ex7,st7,D7,by omega,nD,fl7,ly7,rep7,hPM,by omega,nly⟩
   .rintro σ' Gx ⟨z4,z5,z6,fo,ly2,fl2,nx,Mx,fxs,xs2,pds2,rfl,exx,stx,fox,hfx3,nfo,flx,lyx,repx,hPx,h64x,nlyx⟩
    refine seq_hold fun Dh nxE rtE=>?_
    refine⟨_,rfl,fo,rfl,⟨_,SqL.of fox⟩,fun D9 hD9=>?_⟩
    refine comp_enL (xs:=fxs) (fun j zs B=>Same Gx B) (Same.fresh _ hD9) (fun j zs B p=>SqL.of (p _ _ fox)) (fun j x pr zs B hx hpr hDz hzl p=>?_) (fun zs B hDz hzl p=>?_)
    .have hj:j<fxs.length:=(List.getElem?_eq_some_iff.mp hx).1
     have u1:Same B (upd B pr (.tup [.int (j:Nat),x])):=Same.fresh _ hpr
     have v1:upd B pr (.tup [.int (j:Nat),x]) pr=some (.tup [.int (j:Nat),x]):=upd_same
     generalize upd B pr (.tup [.int (j:Nat),x])=B1 at *
     refine⟨pr,_,rfl,SqT.of v1,rfl,_,_,rfl,_,_,rfl,rfl,?_⟩
     refine⟨Agree.set (Agree.set (Agree.refl _) rfl) rfl,?_⟩
     dsimp only[tYes]
     refine iteT ?_
     refine⟨(by show 3<=sizeLine;decide),fun b2 hb2=>?_⟩
     have u2:Same B1 (upd B1 b2 (.lst [.str (Str.ofString "one"),.str (Str.ofString "two"),.str (Str.ofString "three")])):=Same.fresh _ hb2
     have v2:upd B1 b2 (.lst [.str (Str.ofString "one"),.str (Str.ofString "two"),.str (Str.ofString "three")]) b2=some (.lst [.str (Str.ofString "one"),.str (Str.ofString "two"),.str (Str.ofString "three")]):=upd_same
     generalize upd B1 b2 (.lst [.str (Str.ofString "one"),.str (Str.ofString "two"),.str (Str.ofString "three")])=B2 at *
     obtain⟨v,hv⟩:∃v,[V.str (Str.ofString "one"),.str (Str.ofString "two"),.str (Str.ofString "three")][j]?=some v:=⟨_,List.getElem?_eq_getElem (by show j<3;omega)⟩
     refine⟨_,rfl,b2,_,_,v,rfl,rfl,SqL.of v2,atI_nat hv,_,rfl,(by show 5<=sizeLine;decide),fun b3 hb3=>?_⟩
     generalize q3:upd B2 b3 _=B3 at *
     have u3':Same B2 B3:=by rw[<-q3];exact Same.fresh _ hb3
     have u3:=(u1.trans u2).trans u3'
     exact nx_put (by omega) (u3 _ _ hDz) hzl ((p.trans u3).new hD9)
    .show Dh.nx _ _
     rw[nxE]
     clear nxE rtE Dh
     refine⟨_,rfl,_,rfl,D9,_,rfl,.inl ⟨SqL.of hDz,fun kr hkr=>?_⟩⟩
     generalize g1:upd B kr _=B1 at *
     have u1:Same B B1:=by rw[<-g1];exact Same.fresh _ hkr
     refine⟨(by show 0<=sizeLine;decide),fun et het=>?_⟩
     generalize g2:upd B1 et _=B2 at *
     have u2:Same B1 B2:=by rw[<-g2];exact Same.fresh _ het
     refine⟨(by show 3<=sizeLine;decide),fun pz hpz=>?_⟩
     have u3:Same B2 (upd B2 pz (.tup [.ref fl2,.ref kr,.ref et])):=Same.fresh _ hpz
     have c3:upd B2 pz (.tup [.ref fl2,.ref kr,.ref et]) pz=some (.tup [.ref fl2,.ref kr,.ref et]):=upd_same
     generalize upd B2 pz (.tup [.ref fl2,.ref kr,.ref et])=B3 at *
     have u:=((p.trans u1).trans u2).trans u3
     refine⟨_,rfl,_,rfl,pz,ly2,st,fl2,.ref kr,.ref et,Mx,nx,xs2,pds2,rfl,c3,flx.same u,u _ _ lyx,repx.same u,hPx,h64x,u _ _ stx,nlyx,fun G9 ex9=>?_⟩
     refine⟨_,rfl,iteF ?_⟩
     exact⟨_,_,_,_,_,_,_,_,_,rfl,sm.trans (keep ((exx.trans (Ex.of_same u)).trans ex9))⟩
 .rw[nxT]
  exact q G
end
end K71
namespace K71
open PySem PyProof.Rows L2 L3
theorem all_mk{l:PySem.W.OpenLaw}{w:World}{K:PySem.W.Frag}{h:Heap}{mg:Str->Option Value}{fa:Addr}(X:K.In h)(G:h.Ns mainGlobals mg)(hfa:mg "law" = some (.ref fa))
  (d1:Df K "sign_at" sAt)
  (d2:Df K "is_open" sOpen)
  (d3:Df K "picture" sPic)
  (d4:Df K "picture_row" sRow)
  (d5:Df K "_law_cell_at" sCell)
  (d6:Df K "_law_state" sState)
  (d7:Df K "_law_next" sNext)
  (d8:Df K "_law_signs" sSigns)
  (d9:Df K "_law_grown" sGrown)
  (d10:Df K "_law_shifted" sShift)
  (d11:Df K "_law_drawn_form" sForm)
  (d12:Df K "_law_turned" sLt)
  (d13:Df K "_law_laid" sLaid)
  (d14:Df K "_law_floor_of" sFloor)
  (d15:Df K "_law_due" sDue)
  (d16:Df K "_law_good" sGood)
  (d17:Df K "law" sLaw)
  {tC tS:Tok} (yC:PySem.W.nsIn K mainGlobals "CLOSED" = some (some (.str "#" tC))) (yS:PySem.W.nsIn K mainGlobals "PLACE_SIGNS" = some (some (.str "abcdefghijklmnopqrstuvwxyzABCDEFGHIJKLMNOPQRSTUVWXYZ0123456789+*" tS)))
  (z1:PySem.W.nsIn K mainGlobals "len" = some none) (z2:PySem.W.nsIn K mainGlobals "min" = some none) (z3:PySem.W.nsIn K mainGlobals "max" = some none) (z4:PySem.W.nsIn K mainGlobals "sorted" = some none) (z5:PySem.W.nsIn K mainGlobals "tuple" = some none) (z6:PySem.W.nsIn K mainGlobals "list" = some none) (z7:PySem.W.nsIn K mainGlobals "isinstance" = some none) (z8:PySem.W.nsIn K mainGlobals "bool" = some none) (z9:PySem.W.nsIn K mainGlobals "range" = some none) (z10:PySem.W.nsIn K mainGlobals "str" = some none) (z11:PySem.W.nsIn K mainGlobals "int" = some none) (z12:PySem.W.nsIn K mainGlobals "enumerate" = some none) (z13:PySem.W.nsIn K mainGlobals "reversed" = some none) :
  ∃fd:FuncData,(∀(s:Shared) (v:Value),BindsTo s fd ⟨[v],[]⟩ [("_law_script",v)])/\∀base:Heap,K.In base->base.Ns mainGlobals mg->FnOk l.prog w K mg base CX0 6 fa fd ["_law_script"] (spLaw K):=by
 obtain⟨f,fd,a,F⟩:=d17
 cases hfa.symm.trans (PySem.W.mg_of X G a)
 have B:∀x∈blts,mg x=none:=by
  intro x hx
  simp only[blts,List.mem_cons,List.not_mem_nil,or_false]at hx
  rcases hx with rfl|rfl|rfl|rfl|rfl|rfl|rfl|rfl|rfl|rfl|rfl|rfl|rfl
  .exact PySem.W.mg_none_of X G z1
  .exact PySem.W.mg_none_of X G z2
  .exact PySem.W.mg_none_of X G z3
  .exact PySem.W.mg_none_of X G z4
  .exact PySem.W.mg_none_of X G z5
  .exact PySem.W.mg_none_of X G z6
  .exact PySem.W.mg_none_of X G z7
  .exact PySem.W.mg_none_of X G z8
  .exact PySem.W.mg_none_of X G z9
  .exact PySem.W.mg_none_of X G z10
  .exact PySem.W.mg_none_of X G z11
  .exact PySem.W.mg_none_of X G z12
  .exact PySem.W.mg_none_of X G z13
 obtain⟨oc,od,kV,doc,pm,an,cdv,ct,osl,rfl,lk,hcd⟩:=id F.ex
 refine⟨PySem.W.fnOf "law" "law" (defArgs sLaw) (defBody sLaw) (defScope sLaw) .none kV doc pm an cdv ct,fun s v=>.of_eq rfl,fun base _ _=>?_⟩
 have gC:GS mg "CLOSED" "#":=⟨_,PySem.W.mg_of X G yC⟩
 have gS:GS mg "PLACE_SIGNS" "abcdefghijklmnopqrstuvwxyzABCDEFGHIJKLMNOPQRSTUVWXYZ0123456789+*":=⟨_,PySem.W.mg_of X G yS⟩
 have at1:=d1.fn (P:=l.prog) (w:=w) (base:=base) X G (ok_at B gC)
 have op:=d2.fn (P:=l.prog) (w:=w) (base:=base) X G (ok_open gC at1)
 have ro:=d4.fn (P:=l.prog) (w:=w) (base:=base) X G (ok_row B op)
 have pi:=d3.fn (P:=l.prog) (w:=w) (base:=base) X G (ok_pic B gS ro)
 have ce:=d5.fn (P:=l.prog) (w:=w) (base:=base) X G (ok_cell B)
 have sa:=d6.fn (P:=l.prog) (w:=w) (base:=base) X G (ok_state)
 have nx:=d7.fn (P:=l.prog) (w:=w) (base:=base) X G (ok_next)
 have sg:=d8.fn (P:=l.prog) (w:=w) (base:=base) X G (ok_signs nx)
 have gr:=d9.fn (P:=l.prog) (w:=w) (base:=base) X G (ok_grown B nx)
 have sh:=d10.fn (P:=l.prog) (w:=w) (base:=base) X G (ok_shift B)
 have fm:=d11.fn (P:=l.prog) (w:=w) (base:=base) X G (ok_form B nx sg gr sh)
 have lt:=d12.fn (P:=l.prog) (w:=w) (base:=base) X G (ok_lt B)
 have la:=d13.fn (P:=l.prog) (w:=w) (base:=base) X G (ok_laid B nx lt)
 have fl:=d14.fn (P:=l.prog) (w:=w) (base:=base) X G (ok_floor B nx)
 have du:=d15.fn (P:=l.prog) (w:=w) (base:=base) X G (ok_due B)
 have go:=d16.fn (P:=l.prog) (w:=w) (base:=base) X G (ok_good B nx pi du)
 exact ok_law B ce sa nx fm la fl go F
theorem walk{l:PySem.W.OpenLaw}{q:Program}{loose:List Str}{XP:(Str->Option Value)->Heap->Prop}{YP:World->Heap->Prop}{d:DefRec}{K:Params->PySem.W.Frag}(hn:l.most=some 63)(hdf:d.params.defaults=[])
  (hY:∀(w:World) (h:Heap),YP w h->(K w.params).In h)
  (F:∀(w:World) (mg:Str->Option Value) (fa:Addr) (h:Heap),(K w.params).In h->h.Ns mainGlobals mg->mg d.name=some (.ref fa)->
   ∃fd:FuncData,(∀(s:Shared) (u:Value),BindsTo s fd ⟨[u],[]⟩ [("_law_script",u)])/\∀base:Heap,(K w.params).In base->base.Ns mainGlobals mg->FnOk l.prog w (K w.params) mg base CX0 6 fa fd ["_law_script"] (spLaw (K w.params))) :
  PySem.W.WalkO q loose XP YP l.row.toRowW d [] (fun f vs=>PySem.call f vs):=
 L2.walk_of (n:=63) (k:=6) (x:="_law_script") (CX:=fun _=>CX0) (sp:=fun w=>spLaw (K w.params)) hn (by decide) hdf ⟨rfl,by decide,by decide⟩ hY F (fun _ _ a ns hl _ hS=>⟨a,ns,rfl,hS,hl,fun _=>rfl⟩) fun _ _ _ _ _ z=>z
end K71
open PySem PySem.W PyProof.Rows
set_option maxRecDepth 100000 in
set_option maxHeartbeats 0 in
theorem PySem.Challenge.cw_coverpieces_k71_pictures_holds : PySem.Challenge.rw_coverpieces_k71_pictures.Holds := by
 w_on;o_law;k_head;(case hw=>w_witness2)
 k_fill
 refine K71.walk (l:=PySem.Challenge.rw_coverpieces_k71_pictures) rfl rfl (fun w h Y=>PySem.W.kIn_of Y) ?F
 case F=>
  intro w mg fa h KX G hmg
  refine' K71.all_mk KX G hmg ?d1 ?d2 ?d3 ?d4 ?d5 ?d6 ?d7 ?d8 ?d9 ?d10 ?d11 ?d12 ?d13 ?d14 ?d15 ?d16 ?d17 ?yC ?yS ?z1 ?z2 ?z3 ?z4 ?z5 ?z6 ?z7 ?z8 ?z9 ?z10 ?z11 ?z12 ?z13
  case d1|d2|d3|d4|d5|d6|d7|d8|d9|d10|d11|d12|d13|d14|d15|d16|d17=>refine' L3.df_mk ?a ?l ?c ?k;(case a=>k_is);(case l=>k_is);(case c=>k_is);(case k=>k_is)
  case yC=>k_is
  case yS=>k_is
  case z1|z2|z3|z4|z5|z6|z7|z8|z9|z10|z11|z12|z13=>k_is
