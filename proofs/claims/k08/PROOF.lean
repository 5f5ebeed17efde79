import PyProof.Rows.All
import Wide.All
import OpenK.AllK
import Wide.FinOn
import Lean
import PyProof.EqAt
import PyProof.EqKinds
import PyProof.TupleCall
import PyProof.Rows.SortRuns
import KE.KSortTup
import PyProof.WalkInts
import PyProof.Rows.MinMaxN
import PyProof.CompFree
import PyProof.P3Eq
import PyProof.P3In
import PyProof.NeData
import PyProof.StrWalks
import PyProof.StrBlockH
import PyProof.StrLawsIn
import PyProof.FString5
import PyProof.StrOps2
import PyProof.ListStr
import PyProof.ConsumeWalk
import PyProof.Rows.StrJoin2
import PyProof.EnumMake
import PyProof.EnumFor
import PyProof.LayNew
import PyProof.Rows.EnumRows
import PyProof.StrCalls
import PyProof.Rows.StrCase
import PyProof.Rows.StrAscii2
import PyProof.Rows.StrFit
import PyProof.IsRules
import PyProof.DictWalks
import PyProof.TupleOfStr
import PyProof.CollectWalk
import PyProof.WalkLemmas
import PyProof.Rows.Range3
import PyProof.Cells
import KE.KRevSl
import PySem.Challenge.RW_coverpieces_k08_floors_turned
set_option Elab.async false
set_option linter.all false
set_option maxRecDepth 100000
/-! THE HAND LAYER, for ints, bools, texts, own classes, LISTS and tuples (index, slices, in, append, pop ..), calls, loops. Paste it whole ahead of your own text; what your proof does not reach may be deleted. -/
namespace L2
open PySem PySem.Spec PyProof.Rows

/-- a key: an int or a str -/
abbrev Key := Sum Int Str
def keyIs : Key → Value → Bool
  | .inl k, v => Value.isInt k v
  | .inr x, v => Value.isStrOf x v
def keyH (w : World) : Key → Int
  | .inl k => hashInt k
  | .inr x => hashStr w x
theorem keyIs_shape : ∀ {k : Key} {v : Value}, keyIs k v = true → (∃ i t, k = Sum.inl i ∧ v = Value.int i t) ∨ (∃ x t, k = Sum.inr x ∧ v = Value.str x t)
  | .inl i, v, h => by
    obtain ⟨t, e⟩ := Value.isInt_shape (k := i) (v := v) h
    exact .inl ⟨i, t, rfl, e⟩
  | .inr x, v, h => by
    obtain ⟨t, e⟩ := Value.isStrOf_shape (x := x) (v := v) h
    exact .inr ⟨x, t, rfl, e⟩
theorem keyIs_int (i : Int) (t : Tok) : keyIs (.inl i) (.int i t) = true := by simp [keyIs, Value.isInt]
theorem keyIs_str (x : Str) (t : Tok) : keyIs (.inr x) (.str x t) = true := by simp [keyIs, Value.isStrOf]
theorem key_ll (a b : Int) : decide ((Sum.inl a : Key) = Sum.inl b) = (a == b) := by
  by_cases e : a = b
  · subst e; simp
  · have h : ¬ (Sum.inl a : Key) = Sum.inl b := fun q => e (Sum.inl.inj q)
    rw [decide_eq_false h]
    exact (beq_eq_false_iff_ne.mpr e).symm
theorem key_rr (a b : Str) : decide ((Sum.inr a : Key) = Sum.inr b) = decide (a = b) := by
  by_cases e : a = b
  · subst e; simp
  · have h : ¬ (Sum.inr a : Key) = Sum.inr b := fun q => e (Sum.inr.inj q)
    rw [decide_eq_false h, decide_eq_false e]
theorem key_lr (a : Int) (b : Str) : decide ((Sum.inl a : Key) = Sum.inr b) = false := decide_eq_false (fun q => nomatch q)
theorem key_rl (a : Str) (b : Int) : decide ((Sum.inr a : Key) = Sum.inl b) = false := decide_eq_false (fun q => nomatch q)

def mixKind (prog : Program) (w : World) : PySem.KeyKind prog w Key where
  is := keyIs
  hash := keyH w
  inj := fun v a b ha hb => by
    rcases keyIs_shape ha with ⟨i, t, rfl, rfl⟩ | ⟨x, t, rfl, rfl⟩
    · rcases keyIs_shape hb with ⟨j, u, rfl, e⟩ | ⟨y, u, rfl, e⟩
      · injection e with e1 _; rw [e1]
      · exact nomatch e
    · rcases keyIs_shape hb with ⟨j, u, rfl, e⟩ | ⟨y, u, rfl, e⟩
      · exact nomatch e
      · injection e with e1 _; rw [e1]
  byValue := fun k v h => by
    rcases keyIs_shape h with ⟨i, t, rfl, rfl⟩ | ⟨x, t, rfl, rfl⟩ <;> rfl
  pyHash := fun hv h => by
    rcases keyIs_shape hv with ⟨i, t, rfl, rfl⟩ | ⟨x, t, rfl, rfl⟩
    · exact wpAny_pyHash_int h
    · exact wpAny_pyHash_str h
  eqBool := fun hu hv h => by
    rcases keyIs_shape hu with ⟨i, t, rfl, rfl⟩ | ⟨x, t, rfl, rfl⟩
    · rcases keyIs_shape hv with ⟨j, u, rfl, rfl⟩ | ⟨y, u, rfl, rfl⟩
      · rw [key_ll] at h; exact wpAny_eqBool_int h
      · rw [key_lr] at h; exact SeqAt.EqAt.int_str i t y u _ _ _ _ h
    · rcases keyIs_shape hv with ⟨j, u, rfl, rfl⟩ | ⟨y, u, rfl, rfl⟩
      · rw [key_rl] at h; exact SeqAt.EqAt.str_int x t j u _ _ _ _ h
      · rw [key_rr] at h; exact wpAny_eqBool_str h
  «strs» := fun k x t v h => by
    rcases keyIs_shape h with ⟨i, u, rfl, e⟩ | ⟨y, u, rfl, e⟩
    · exact nomatch e
    · injection e with e1 _
      subst e1
      cases v <;> rfl

theorem mixKind_is (prog : Program) (w : World) (k : Key) (v : Value) : (mixKind prog w).is k v = keyIs k v := rfl
theorem mixKind_int (prog : Program) (w : World) (i : Int) (t : Tok) : (mixKind prog w).is (.inl i) (.int i t) = true := keyIs_int i t
theorem mixKind_str (prog : Program) (w : World) (x : Str) (t : Tok) : (mixKind prog w).is (.inr x) (.str x t) = true := keyIs_str x t
end L2

namespace L2
open PySem PySem.Spec PyProof.Rows

/-- a value, without the heap -/
inductive V where
  | non | bl (b : Bool) | int (i : Int) | str (x : Str) | byt (b : Array UInt8) | flt (b : UInt64) | ref (a : Addr) | ty (n : String)
  deriving DecidableEq

def RelV : V → Value → Prop
  | .non, u => u = Value.none
  | .bl b, u => u = Value.bool b
  | .int i, u => ∃ t, u = Value.int i t
  | .str x, u => ∃ t, u = Value.str x t
  | .byt b, u => ∃ t, u = Value.bytes b t
  | .flt b, u => ∃ t, u = Value.float b t
  | .ref a, u => u = Value.ref a
  | .ty n, u => u = Value.type n

abbrev Vals : List V → List Value → Prop := Paired RelV
theorem Vals.length {xs : List V} {us : List Value} (r : Vals xs us) : xs.length = us.length := Paired.length r
theorem Vals.get : ∀ {xs : List V} {us : List Value} {i : Nat} {x : V}, Vals xs us → xs[i]? = some x → ∃ u, us[i]? = some u ∧ RelV x u
  | _, _, _, _, .nil, e => by simp at e
  | _, _, 0, _, .cons r _, e => by simp at e; subst e; exact ⟨_, rfl, r⟩
  | _, _, i + 1, x, .cons _ t, e => by
    obtain ⟨u, h1, h2⟩ := Vals.get (i := i) (x := x) t (by simpa using e)
    exact ⟨u, by simpa using h1, h2⟩
theorem Vals.set {x : V} {u : Value} (r : RelV x u) : ∀ {xs : List V} {us : List Value} (i : Nat), Vals xs us → Vals (xs.set i x) (us.set i u)
  | _, _, _, .nil => .nil
  | _, _, 0, .cons _ t => .cons r t
  | _, _, i + 1, .cons q t => .cons q (Vals.set r i t)
theorem Vals.append : ∀ {xs ys : List V} {us ws : List Value}, Vals xs us → Vals ys ws → Vals (xs ++ ys) (us ++ ws)
  | _, _, _, _, .nil, s => s
  | _, _, _, _, .cons r t, s => .cons r (Vals.append t s)
theorem Vals.take : ∀ {xs : List V} {us : List Value} (n : Nat), Vals xs us → Vals (xs.take n) (us.take n)
  | _, _, 0, _ => .nil
  | _, _, _ + 1, .nil => .nil
  | _, _, n + 1, .cons r t => .cons r (Vals.take n t)
theorem Vals.drop : ∀ {xs : List V} {us : List Value} (n : Nat), Vals xs us → Vals (xs.drop n) (us.drop n)
  | _, _, 0, r => r
  | _, _, _ + 1, .nil => .nil
  | _, _, n + 1, .cons _ t => Vals.drop n t
theorem Vals.none_of : ∀ {xs : List V} {us : List Value} {i : Nat}, Vals xs us → xs[i]? = none → us[i]? = none := fun {xs us i} r e => by
  have h1 := r.length
  have h2 : xs.length ≤ i := List.getElem?_eq_none_iff.mp e
  exact List.getElem?_eq_none_iff.mpr (by omega)

def RelO : Option V → Option Value → Prop
  | some v, some u => RelV v u
  | none, none => True
  | _, _ => False
def KV {κ : Type} : List (κ × V) → List (κ × Value) → Prop := Paired fun (p : κ × V) (q : κ × Value) => p.1 = q.1 ∧ RelV p.2 q.2

/-- a key of a dict (00_mix): an int or a text -/
def kV : Key → V
  | .inl i => .int i
  | .inr x => .str x

/-- what stands at a tracked address -/
inductive HO where
  /-- a list -/
  | lst (xs : List V)
  /-- a tuple (never changes) -/
  | tup (xs : List V)
  /-- a dict whose keys are ints and texts; one whose keys are tuples of ints and texts (the empty one is both) -/
  | dK (kvs : List (Key × V)) | dT (kvs : List (List Key × V))
  /-- a set of ints: its members, its size -/
  | set (S : Int → Bool) (n : Nat)
  /-- an instance of the class at C, its dict at dx, its attributes -/
  | ins (C dx : Addr) (fs : List (Str × V))
  /-- the dict of the instance at x -/
  | own (x : Addr)
  /-- the dict of an exception -/
  | xd (fs : List (Str × V))
  /-- a bound method, f of x -/
  | met (f x : Addr)
  /-- a range object lo, lo + 1, .. below hi -/
  | rng (lo hi : Int)
  /-- a thing that is known to the object (the script; a dict while a loop walks it): read, never written while it is so -/
  | frz (o : Obj) (u : HO)
  /-- a code object's table -/
  | tbl (ps : Array Value)
  /-- any other thing, by what is true of its one object (a def of one's own: SetO a S n := HO.ext fun h => ..) -/
  | ext (φ : Heap → Prop)

abbrev Hp := Addr → Option HO
def upd (H : Hp) (a : Addr) (o : HO) : Hp := fun b => if b = a then some o else H b
theorem upd_same {H : Hp} {a : Addr} {o : HO} : upd H a o a = some o := by unfold upd; rw [if_pos rfl]
theorem upd_ne {H : Hp} {a b : Addr} {o : HO} (h : b ≠ a) : upd H a o b = H b := by unfold upd; rw [if_neg h]
theorem upd_upd {H : Hp} {a : Addr} {o u : HO} : upd (upd H a o) a u = upd H a u := by
  funext b; unfold upd; split <;> rfl
/-- two objects of different content stand apart -/
theorem ne_of {H : Hp} {a b : Addr} {o u : HO} (h : H a = some o) (h' : H b = some u) (d : o ≠ u) : a ≠ b := by
  intro e; subst e; rw [h] at h'; exact d (Option.some.inj h')
theorem ne_of_none {H : Hp} {a b : Addr} {o : HO} (h : H a = some o) (h' : H b = none) : a ≠ b := by
  intro e; subst e; rw [h] at h'; cases h'

section
variable (P : Program) (w : World)
def ObjOk (H : Hp) (h : Heap) (a : Addr) : HO → Prop
  | .lst xs => xs.length ≤ sizeLine ∧ ∃ (its : List Value) (n : Nat), Vals xs its ∧ h.get? a = some { cls := .type "list", data := .seq its.toArray n }
  | .tup xs => xs.length ≤ sizeLine ∧ ∃ its : List Value, Vals xs its ∧ IsTup h a its.toArray
  | .dK kvs => kvs.length ≤ sizeLine ∧ (a == sysModules) = false ∧ ∃ vs, KV kvs vs ∧ h.DictOf (mixKind P w) a vs
  | .dT kvs => kvs.length ≤ sizeLine ∧ (a == sysModules) = false ∧ ∃ xs : List (List Key × Addr × Value),
      Paired (fun (p : List Key × V) (q : List Key × Addr × Value) => p.1 = q.1 ∧ H q.2.1 = some (.tup (p.1.map kV)) ∧ RelV p.2 q.2.2) kvs xs ∧
      ∃ o es ep, h.get? a = some o ∧ o.ExactDict ∧ o.data = .dict es ep ∧ es.toList = xs.map (entryOfKey (tupleKind (mixKind P w))) ∧ (xs.map (·.1)).Nodup
  | .set S n => h.SetOf (intKind P w) a S n
  | .ins C dx fs => H dx = some (.own a) ∧ fs.length ≤ 1000 ∧ dx ≠ a ∧ h.get? a = some (PySem.W.instObj C dx) ∧
      ∃ mA, h.Ns1 dx mA ∧ (∀ f, RelO (fs.lookup f) (mA f)) ∧ PySem.Within mA (fs.map (·.1))
  | .own _ => ∃ o, h.get? a = some o
  | .xd fs => ∃ mA, h.Ns1 a mA ∧ ∀ f, RelO (fs.lookup f) (mA f)
  | .rng lo hi => ∃ t u v, h.get? a = some { cls := .type "range", data := .fields #[.int lo t, .int hi u, .int 1 v] }
  | .frz o u => h.get? a = some o ∧ ObjOk H h a u
  | .tbl ps => h.get? a = some { cls := .none, data := .fields ps }
  | .met f x => h.get? a = some (PySem.W.methodObj (.ref f) (.ref x))
  | .ext φ => φ h ∧ (∃ o, h.get? a = some o) ∧ ∀ h1 h2 : Heap, φ h1 → (∀ o, h1.get? a = some o → h2.get? a = some o) → φ h2
/-- the abstract heap is held -/
def HOk (H : Hp) (h : Heap) : Prop := ∀ a o, H a = some o → ObjOk P w H h a o
end

section
variable {P : Program} {w : World} {H H' : Hp} {h h' : Heap} {a : Addr} {o : HO}
theorem ObjOk.lt (x : ObjOk P w H h a o) : a < h.objs.size := by
  cases o with
  | lst xs => obtain ⟨_, _, _, _, e⟩ := x; exact Heap.lt_size e
  | tup xs => obtain ⟨_, _, _, p⟩ := x; exact p.lt
  | dK kvs => obtain ⟨_, _, _, _, o, _, _, e, _⟩ := x; exact Heap.lt_size e
  | dT kvs => obtain ⟨_, _, _, _, o, _, _, e, _⟩ := x; exact Heap.lt_size e
  | set S n => obtain ⟨o, _, _, _, e, _⟩ := x; exact Heap.lt_size e
  | ins C dx fs => obtain ⟨_, _, _, e, _⟩ := x; exact Heap.lt_size e
  | own y => obtain ⟨_, e⟩ := x; exact Heap.lt_size e
  | xd fs => obtain ⟨_, ⟨_, _, _, e, _⟩, _⟩ := x; exact Heap.lt_size e
  | rng lo hi => obtain ⟨_, _, _, e⟩ := x; exact Heap.lt_size e
  | frz ob u => obtain ⟨e, _⟩ := x; exact Heap.lt_size e
  | tbl ps => exact Heap.lt_size (show h.get? a = some _ from x)
  | met f y => exact Heap.lt_size (show h.get? a = some _ from x)
  | ext φ => obtain ⟨_, ⟨_, e⟩, _⟩ := x; exact Heap.lt_size e
theorem Paired.mapP {α β : Type} {F G : α → β → Prop} : ∀ {l₁ : List α} {l₂ : List β}, Paired F l₁ l₂ → (∀ a b, F a b → G a b) → Paired G l₁ l₂
  | _, _, .nil, _ => .nil
  | _, _, .cons r t, f => .cons (f _ _ r) (Paired.mapP t f)
theorem Paired.imp' {α β : Type} {F G : α → β → Prop} (f : ∀ a b, F a b → G a b) {l₁ : List α} {l₂ : List β} (r : Paired F l₁ l₂) : Paired G l₁ l₂ := Paired.mapP r f
/-- what an object's description leans on: its own object, its own dict, the tuples -/
theorem ObjOk.stay (x : ObjOk P w H h a o) (k : ∀ b u, (b = a ∨ H b = some (.own a)) → h.get? b = some u → h'.get? b = some u)
    (ho : ∀ b, H b = some (.own a) → H' b = some (.own a)) (ht : ∀ b xs, H b = some (.tup xs) → H' b = some (.tup xs)) : ObjOk P w H' h' a o := by
  induction o with
  | lst xs => obtain ⟨z, its, n, r, e⟩ := x; exact ⟨z, its, n, r, k _ _ (.inl rfl) e⟩
  | tup xs => obtain ⟨z, its, r, ob, e, c⟩ := x; exact ⟨z, its, r, ob, k _ _ (.inl rfl) e, c⟩
  | dK kvs => obtain ⟨z, y, vs, r, ob, es, ep, e, c⟩ := x; exact ⟨z, y, vs, r, ob, es, ep, k _ _ (.inl rfl) e, c⟩
  | dT kvs =>
    obtain ⟨z, y, xs, r, ob, es, ep, e, c⟩ := x
    exact ⟨z, y, xs, Paired.mapP r fun p q z => ⟨z.1, ht _ _ z.2.1, z.2.2⟩, ob, es, ep, k _ _ (.inl rfl) e, c⟩
  | set S n => obtain ⟨ob, es, ep, t, e, c⟩ := x; exact ⟨ob, es, ep, t, k _ _ (.inl rfl) e, c⟩
  | ins C dx fs =>
    obtain ⟨d, z, ne, e, mA, ⟨od, es, ep, e2, c⟩, r⟩ := x
    exact ⟨ho _ d, z, ne, k _ _ (.inl rfl) e, mA, ⟨od, es, ep, k _ _ (.inr d) e2, c⟩, r⟩
  | own y => obtain ⟨ob, e⟩ := x; exact ⟨ob, k _ _ (.inl rfl) e⟩
  | xd fs => obtain ⟨mA, ⟨od, es, ep, e, c⟩, r⟩ := x; exact ⟨mA, ⟨od, es, ep, k _ _ (.inl rfl) e, c⟩, r⟩
  | rng lo hi => obtain ⟨t, u, v, e⟩ := x; exact ⟨t, u, v, k _ _ (.inl rfl) e⟩
  | frz ob u ih => obtain ⟨e, q⟩ := x; exact ⟨k _ _ (.inl rfl) e, ih q⟩
  | tbl ps =>
    have e : h.get? a = some { cls := .none, data := .fields ps } := x
    show h'.get? a = some { cls := .none, data := .fields ps }
    exact k a _ (.inl rfl) e
  | met f y =>
    have e : h.get? a = some (PySem.W.methodObj (.ref f) (.ref y)) := x
    show h'.get? a = some (PySem.W.methodObj (.ref f) (.ref y))
    exact k a _ (.inl rfl) e
  | ext φ => obtain ⟨p, ⟨o, e⟩, st⟩ := x; exact ⟨st _ _ p fun o q => k _ _ (.inl rfl) q, ⟨o, k _ _ (.inl rfl) e⟩, st⟩
theorem HOk.lt (x : HOk P w H h) (e : H a = some o) : a < h.objs.size := (x a o e).lt
theorem HOk.fresh (x : HOk P w H h) (e : h.objs.size ≤ a) : H a = none := by
  cases q : H a with
  | none => rfl
  | some u => exact absurd (Nat.lt_of_lt_of_le (x.lt q) e) (Nat.lt_irrefl _)
/-- every object of the heap is kept -/
theorem HOk.kept (x : HOk P w H h) (k : ∀ b u, h.get? b = some u → h'.get? b = some u) : HOk P w H h' := fun a o e =>
  (x a o e).stay (fun b u _ q => k b u q) (fun _ q => q) fun _ _ q => q
/-- a new object is laid and tracked -/
theorem HOk.laid (x : HOk P w H h) (k : ∀ b u, h.get? b = some u → h'.get? b = some u) (hp : h.objs.size ≤ a) (new : ObjOk P w (upd H a o) h' a o) : HOk P w (upd H a o) h' := fun b u e => by
  have hn := x.fresh hp
  by_cases hb : b = a
  · subst hb; rw [upd_same] at e; cases e; exact new
  · rw [upd_ne hb] at e
    exact (x b u e).stay (fun c v _ q => k c v q) (fun c q => by rw [upd_ne (ne_of_none q hn)]; exact q) fun c xs q => by rw [upd_ne (ne_of_none q hn)]; exact q
end

/-- what may be read as u: it is u, or a known u -/
def Rd (H : Hp) (a : Addr) (u : HO) : Prop := H a = some u ∨ ∃ o, H a = some (.frz o u)
theorem Rd.of {H : Hp} {a : Addr} {u : HO} (h : H a = some u) : Rd H a u := .inl h
theorem Rd.ok {P : Program} {w : World} {H : Hp} {h : Heap} {a : Addr} {u : HO} (r : Rd H a u) (x : HOk P w H h) : ObjOk P w H h a u := by
  rcases r with r | ⟨o, r⟩
  · exact x a u r
  · obtain ⟨_, q⟩ := x a _ r
    exact q
/-- what may be written -/
def Mut : Option HO → Prop
  | some (.lst _) => True
  | some (.dK _) => True
  | some (.dT _) => True
  | some (.set _ _) => True
  | some (.ins _ _ _) => True
  | some (.ext _) => True
  | _ => False
section
variable {P : Program} {w : World} {H : Hp} {h h' : Heap} {x e : Addr} {o' : HO}
/-- the object at e is changed: x itself, or the dict of the instance x -/
theorem HOk.write (ok : HOk P w H h) (mu : Mut (H x)) (he : e = x ∨ H e = some (.own x)) (k : ∀ b u, b ≠ e → h.get? b = some u → h'.get? b = some u) (heo : ∃ u, h'.get? e = some u)
    (new : ObjOk P w (upd H x o') h' x o') : HOk P w (upd H x o') h' := fun b u q => by
  have nown : ∀ c y, H c = some (.own y) → c ≠ x := fun c y r z => by subst z; rw [r] at mu; exact mu
  have ntup : ∀ c xs, H c = some (.tup xs) → c ≠ x := fun c xs r z => by subst z; rw [r] at mu; exact mu
  by_cases hb : b = x
  · subst hb; rw [upd_same] at q; cases q; exact new
  · rw [upd_ne hb] at q
    by_cases hbe : b = e
    · have q' : H b = some (.own x) := by
        rcases he with z | z
        · exact absurd (hbe.trans z) hb
        · rw [hbe]; exact z
      rw [q] at q'; cases q'
      obtain ⟨v, hv⟩ := heo
      exact ⟨v, by rw [hbe]; exact hv⟩
    · refine (ok b u q).stay (fun c v hc r => k c v ?_ r) (fun c r => by rw [upd_ne (nown c b r)]; exact r) fun c xs r => by rw [upd_ne (ntup c xs r)]; exact r
      rcases hc with rfl | hc
      · exact hbe
      · rintro rfl
        rcases he with z | z
        · exact nown c b hc z
        · rw [hc] at z; cases z; exact hb rfl
end

/-! ### kept unless tracked; of the frames at fs (the callers') the slots may change (an exception that passes writes there); of the records at ex (iterators) nothing is said -/
structure Un (fs ex : List Addr) (H H' : Hp) (h h' : Heap) : Prop where
  keep : ∀ b o, h.get? b = some o → H b = none → b ∉ fs → b ∉ ex → h'.get? b = some o
  slot : ∀ b o, h.get? b = some o → H b = none → b ∈ fs → b ∉ ex → ∃ sl, h'.get? b = some { o with slots := sl }
  free : ∀ b o, h.get? b = some o → H b = none → b ∉ ex → H' b = none
  there : ∀ b o, h.get? b = some o → b ∉ ex → ∃ o', h'.get? b = some o'
  tups : ∀ b xs, H b = some (.tup xs) → H' b = some (.tup xs)
  frzs : ∀ b o u, H b = some (.frz o u) → H' b = some (.frz o u)
  tbls : ∀ b ps, H b = some (.tbl ps) → ∃ more, H' b = some (.tbl (ps ++ more))
section
variable {fs fs' ex ex' : List Addr} {H H1 H2 : Hp} {h h1 h2 h' : Heap} {a x e : Addr} {o : HO}
theorem Un.any (u : Un fs ex H H1 h h1) {b : Addr} {ob : Obj} (q : h.get? b = some ob) (n : H b = none) (hx : b ∉ ex) : ∃ sl, h1.get? b = some { ob with slots := sl } := by
  by_cases hb : b ∈ fs
  · exact u.slot b ob q n hb hx
  · exact ⟨ob.slots, u.keep b ob q n hb hx⟩
theorem Un.trans (a : Un fs ex H H1 h h1) (b : Un fs ex H1 H2 h1 h2) : Un fs ex H H2 h h2 where
  keep := fun c ob q n hc hx => b.keep c ob (a.keep c ob q n hc hx) (a.free c ob q n hx) hc hx
  slot := fun c ob q n hc hx => by
    obtain ⟨sl, e1⟩ := a.slot c ob q n hc hx
    obtain ⟨sl', e2⟩ := b.slot c _ e1 (a.free c ob q n hx) hc hx
    exact ⟨sl', e2⟩
  free := fun c ob q n hx => by
    obtain ⟨o', e1⟩ := a.there c ob q hx
    exact b.free c o' e1 (a.free c ob q n hx) hx
  there := fun c ob q hx => by
    obtain ⟨o', e1⟩ := a.there c ob q hx
    exact b.there c o' e1 hx
  tups := fun c xs q => b.tups c xs (a.tups c xs q)
  frzs := fun c ob xs q => b.frzs c ob xs (a.frzs c ob xs q)
  tbls := fun c ps q => by
    obtain ⟨m1, e1⟩ := a.tbls c ps q
    obtain ⟨m2, e2⟩ := b.tbls c _ e1
    exact ⟨m1 ++ m2, by rw [e2, Array.append_assoc]⟩
theorem Un.kept (k : ∀ b u, h.get? b = some u → h'.get? b = some u) : Un fs ex H H h h' :=
  ⟨fun b ob q _ _ _ => k b ob q, fun b ob q _ _ _ => ⟨ob.slots, k b ob q⟩, fun _ _ _ n _ => n, fun b ob q _ => ⟨ob, k b ob q⟩, fun _ _ q => q, fun _ _ _ q => q, fun _ ps q => ⟨#[], by rw [q]; simp⟩⟩
theorem Un.refl : Un fs ex H H h h := Un.kept fun _ _ q => q
theorem Un.laid (k : ∀ b u, h.get? b = some u → h'.get? b = some u) (hp : h.objs.size ≤ a) (hn : H a = none) : Un fs ex H (upd H a o) h h' where
  keep := fun b u q _ _ _ => k b u q
  slot := fun b u q _ _ _ => ⟨u.slots, k b u q⟩
  free := fun b u q n _ => by rw [upd_ne (Nat.ne_of_lt (Nat.lt_of_lt_of_le (Heap.lt_size q) hp))]; exact n
  there := fun b u q _ => ⟨u, k b u q⟩
  tups := fun b xs q => by rw [upd_ne (ne_of_none q hn)]; exact q
  frzs := fun b u xs q => by rw [upd_ne (ne_of_none q hn)]; exact q
  tbls := fun b ps q => ⟨#[], by rw [upd_ne (ne_of_none q hn), q]; simp⟩
theorem Un.write (mu : Mut (H x)) (he : e = x ∨ H e = some (.own x)) (k : ∀ b u, b ≠ e → h.get? b = some u → h'.get? b = some u) (heo : ∃ u, h'.get? e = some u) : Un fs ex H (upd H x o) h h' := by
  have hx : ∀ b, H b = none → b ≠ x := fun b n z => by subst z; rw [n] at mu; exact mu
  have hb : ∀ b, H b = none → b ≠ e := fun b n z => by
    subst z
    rcases he with r | r
    · exact hx b n r
    · rw [n] at r; cases r
  have hm : ∀ b u, H b = some u → ¬ Mut (some u) → b ≠ x := fun b u q nm z => by subst z; rw [q] at mu; exact nm mu
  refine ⟨fun b u q n _ _ => k b u (hb b n) q, fun b u q n _ _ => ⟨u.slots, k b u (hb b n) q⟩, fun b u q n _ => by rw [upd_ne (hx b n)]; exact n, fun b u q _ => ?_,
    fun b xs q => by rw [upd_ne (hm b _ q fun z => z)]; exact q, fun b u xs q => by rw [upd_ne (hm b _ q fun z => z)]; exact q, fun b ps q => ⟨#[], by rw [upd_ne (hm b _ q fun z => z), q]; simp⟩⟩
  by_cases hbe : b = e
  · subst hbe; exact heo
  · exact ⟨u, k b u hbe q⟩
theorem Un.mono (u : Un fs ex H H1 h h1) (hs : ∀ b ∈ fs, b ∈ fs') (hx : ∀ b ∈ ex, b ∈ ex') : Un fs' ex' H H1 h h1 :=
  ⟨fun b ob q n hb he => u.keep b ob q n (fun z => hb (hs b z)) fun z => he (hx b z), fun _ _ q n _ he => u.any q n fun z => he (hx _ z), fun b ob q n he => u.free b ob q n fun z => he (hx b z), fun b ob q he => u.there b ob q fun z => he (hx b z), u.tups, u.frzs, u.tbls⟩
end

/-! ### the heap without what is tracked -/
def trk (h : Heap) (H : Hp) : List Addr := (List.range h.objs.size).filter fun a => (H a).isSome
def hidT (h : Heap) (H : Hp) : Heap := PySem.W.hideAll h (trk h H)
theorem hidT_size (h : Heap) (H : Hp) : (hidT h H).objs.size = h.objs.size := PySem.W.hideAll_size _ _
theorem hidT_get {h : Heap} {H : Hp} {b : Addr} {o : Obj} (e : h.get? b = some o) (n : H b = none) : (hidT h H).get? b = some o :=
  PySem.W.hideAll_get _ e fun hm => by
    have q : (H b).isSome = true := (List.mem_filter.mp hm).2
    rw [n] at q; simp at q
theorem of_hidT {h : Heap} {H : Hp} {b : Addr} {o : Obj} (e : (hidT h H).get? b = some o) : h.get? b = some o ∧ H b = none := by
  have e' : h.get? b = some o := PySem.W.of_hideAll (trk h H) e
  refine ⟨e', ?_⟩
  cases q : H b with
  | none => rfl
  | some x =>
    have hm : b ∈ trk h H := List.mem_filter.mpr ⟨List.mem_range.mpr (Heap.lt_size e'), by simp [q]⟩
    have z : (hidT h H).get? b = none := PySem.W.hideAll_none (trk h H) hm
    rw [z] at e; cases e

/-! ### OpenK's ledger, filled with every new object but one -/
def allNews (g h : Heap) (L : Addr) : List (Addr × Obj) := (List.range h.objs.size).filterMap fun a => if a = L ∨ (g.get? a).isSome = true then none else (h.get? a).map fun o => (a, o)
theorem mem_allNews {g h : Heap} {L a : Addr} {o : Obj} (h1 : a ≠ L) (h2 : g.get? a = none) (h3 : h.get? a = some o) : (a, o) ∈ allNews g h L :=
  List.mem_filterMap.mpr ⟨a, List.mem_range.mpr (Heap.lt_size h3), by simp [h1, h2, h3]⟩
theorem of_mem_allNews {g h : Heap} {L : Addr} {p : Addr × Obj} (hp : p ∈ allNews g h L) : p.1 ≠ L ∧ g.get? p.1 = none ∧ h.get? p.1 = some p.2 := by
  obtain ⟨b, _, e⟩ := List.mem_filterMap.mp hp
  split at e
  · cases e
  · rename_i hn
    cases q : h.get? b with
    | none => rw [q] at e; simp at e
    | some u =>
      rw [q] at e
      simp only [Option.map_some, Option.some.injEq] at e
      subst e
      refine ⟨fun z => hn (.inl z), ?_, q⟩
      show g.get? b = none
      cases r : g.get? b with
      | none => rfl
      | some v => exact (hn (.inr (by simp [r]))).elim
def rest (g h : Heap) (L d : Addr) : List (Addr × Obj) := (allNews g h L).filter fun p => decide (p.1 ≠ d)
theorem rest_ne {g h : Heap} {L d : Addr} : ∀ p ∈ rest g h L d, p.1 ≠ d := fun p hp => of_decide_eq_true (List.mem_filter.mp hp).2
theorem mem_rest {g h : Heap} {L d a : Addr} {o : Obj} (h1 : a ≠ L) (h2 : g.get? a = none) (h3 : h.get? a = some o) (h4 : a ≠ d) : (a, o) ∈ rest g h L d :=
  List.mem_filter.mpr ⟨mem_allNews h1 h2 h3, decide_eq_true h4⟩
theorem news_all {g h : Heap} {L : Addr} : News g L h (allNews g h L) := fun p hp => let ⟨a, b, c⟩ := of_mem_allNews hp; ⟨c, a, b⟩
theorem news_at {g h : Heap} {L d : Addr} {o : Obj} (h1 : d ≠ L) (h2 : g.get? d = none) (h3 : h.get? d = some o) : News g L h ((d, o) :: rest g h L d) := fun p hp => by
  rcases List.mem_cons.mp hp with rfl | hp
  · exact ⟨h3, h1, h2⟩
  · exact news_all p (List.mem_filter.mp hp).1
/-- behind a rule that changed d alone: all else but the frame is kept -/
theorem kept_of_news {g h h' : Heap} {L d : Addr} {m : Str → Option Value} (k : ∀ b o, g.get? b = some o → h.get? b = some o) (F : Fr g L h' m) (N : News g L h' (rest g h L d)) :
    ∀ b o, b ≠ L → b ≠ d → h.get? b = some o → h'.get? b = some o := fun b o h1 h2 e => by
  cases q : g.get? b with
  | some u =>
    have := k b u q
    rw [e] at this; cases this
    exact F.keep b _ q
  | none => exact (N (b, o) (mem_rest h1 q e h2)).1
end L2

namespace L2
open PySem PySem.Spec PyProof.Rows

/-- the module's facts, over the base: the heap at the law's entry without what is tracked there -/
structure Mod (K : PySem.W.Frag) (mg : Str → Option Value) (base : Heap) : Prop where
  kin : K.In base
  glob : base.Ns mainGlobals mg
  blt : ∃ mb, base.Ns builtinsNs mb ∧ ∀ x : Str, x ≠ "__name__" → mb x = bootBuiltins x
  nolimit : base.NoLimit

/-- the context: a def's body (or a comprehension's block) running. base: fixed through the whole law; s₀, H₀: the entry; outer: the frames whose slots others may change (a def's callers); stack: all frames that run;
   ex: iterators that were made ahead of the entry and are walked here (a comprehension's); fn: the names whose cells were made at the entry (a def: all; a comprehension's block: its own); calm: not within an except suite; pn: pins that every state bears; xe: what is wanted of an exception that leaves the code -/
structure Cx where
  prog : Program
  w : World
  K : PySem.W.Frag
  mg : Str → Option Value
  base : Heap
  A : Around
  N : List Str
  s₀ : Shared
  H₀ : Hp
  env : Env
  outer : List Env
  stack : List Env
  ex : List Addr
  fn : Str → Bool
  calm : Bool
  pn : List (Addr × Obj)
  xe : Value → Shared → Prop
/-- the callers' frames -/
def frs (l : List Env) : List Addr := l.filterMap (·.frame)
abbrev Cx.fs (X : Cx) : List Addr := frs X.outer

def Vis (sc : Scope) (x : Str) : Prop := sc.names.lookup x = some .local ∨ sc.names.lookup x = some .cell ∨ sc.names.lookup x = some .free
def Loc (sc : Scope) (x : Str) : Prop := sc.names.lookup x = some .local ∨ sc.names.lookup x = some .cell
def Look (env : Env) (h : Heap) (m : Str → Option Value) (x : Str) (u : Value) : Prop :=
  (env.kindOf x = some .local ∧ m x = some u) ∨ ((env.kindOf x = some .cell ∨ env.kindOf x = some .free) ∧ ∃ c, env.cells.lookup x = some c ∧ h.IsCell c (some u))

structure Cx.Ok (X : Cx) : Prop where
  mod : Mod X.K X.mg X.base
  kind : X.env.scope.kind = .function
  glob : X.env.globals = mainGlobals
  blt : X.env.builtins = builtinsNs
  above : X.s₀.heap.objs.size ≤ X.env.locals
  inj : ∀ x y c, X.env.cells.lookup x = some c → X.env.cells.lookup y = some c → x = y
  has : ∀ x, (X.env.kindOf x = some .cell ∨ X.env.kindOf x = some .free) → ∃ c, X.env.cells.lookup x = some c
  cab : ∀ x c, X.fn x = true → X.env.cells.lookup x = some c → X.s₀.heap.objs.size ≤ c
  hd : X.calm = true → X.A.handled = none
  frames : X.A.frames = some X.stack
  stk : X.stack = X.outer ∨ (X.stack = X.env :: X.outer ∧ X.env.frame = some X.env.locals)
  exf : ∀ b ∈ X.ex, b ≠ X.env.locals ∧ ∀ x c, X.env.cells.lookup x = some c → c ≠ b
  bs : ∀ b o, X.base.get? b = some o → X.s₀.heap.get? b = some o ∧ X.H₀ b = none
  bsz : X.base.objs.size ≤ X.s₀.heap.objs.size
  noex : ∀ b o, X.base.get? b = some o → b ∉ X.ex
  exfs : ∀ b ∈ X.ex, b ∉ X.fs
  funs : X.s₀.heap.FunFrames X.base X.outer
  frf : ∀ b ∈ X.fs, X.H₀ b = none

structure Inv (X : Cx) (pins : List (Addr × Obj)) (σ : List (Option V)) (H : Hp) (s : Shared) : Prop where
  ok : X.Ok
  os : s.os = X.s₀.os
  bare : AllBare s.gens
  base : Un X.fs X.ex X.H₀ H X.s₀.heap s.heap
  loc : ∃ m, s.heap.Ns X.env.locals m ∧ ∀ (i : Nat) (x : Str) (v : V), X.N[i]? = some x → σ[i]? = some (some v) → Vis X.env.scope x → ∃ u, RelV v u ∧ Look X.env s.heap m x u
  cell : ∀ x c, X.env.cells.lookup x = some c → ∃ v, s.heap.IsCell c v
  free : H X.env.locals = none
  freeC : ∀ x c, X.env.cells.lookup x = some c → H c = none
  pin : ∀ p ∈ X.pn ++ pins, s.heap.get? p.1 = some p.2 ∧ H p.1 = none ∧ p.1 ≠ X.env.locals ∧ p.1 ∉ X.fs ∧ ∀ v, p.2.data ≠ .cell v
  hok : HOk X.prog X.w H s.heap
  len : σ.length = X.N.length

section
variable {X : Cx} {pins : List (Addr × Obj)} {σ : List (Option V)} {H H' : Hp} {s : Shared} {h' : Heap}

theorem Cx.Ok.nofr (ok : X.Ok) {b : Addr} {o : Obj} (e : X.base.get? b = some o) : b ∉ X.fs := fun hb => by
  have := (ok.funs.mem hb).1
  rw [e] at this; cases this
theorem Inv.bs (I : Inv X pins σ H s) : ∀ b o, X.base.get? b = some o → s.heap.get? b = some o ∧ H b = none := fun b o e =>
  ⟨I.base.keep b o (I.ok.bs b o e).1 (I.ok.bs b o e).2 (I.ok.nofr e) (I.ok.noex b o e), I.base.free b o (I.ok.bs b o e).1 (I.ok.bs b o e).2 (I.ok.noex b o e)⟩
theorem Inv.bk (I : Inv X pins σ H s) : ∀ b o, X.base.get? b = some o → s.heap.get? b = some o := fun b o e => (I.bs b o e).1
theorem Inv.mod (I : Inv X pins σ H s) : Mod X.K X.mg X.base := I.ok.mod
theorem Inv.kIn (I : Inv X pins σ H s) : X.K.In s.heap := I.ok.mod.kin.keeps I.bk
theorem Inv.nolimit (I : Inv X pins σ H s) : s.heap.NoLimit := I.ok.mod.nolimit.keeps I.bk
/-- the frame over the base: for OpenK's rules (K.In X.base is I.mod.kin) -/
theorem Inv.fr (I : Inv X pins σ H s) : ∃ m, Fr X.base X.env.locals s.heap m :=
  let ⟨m, hn, _⟩ := I.loc
  ⟨m, hn, I.bk, Nat.le_trans I.ok.bsz I.ok.above⟩
theorem Inv.lt (I : Inv X pins σ H s) : X.env.locals < s.heap.objs.size := let ⟨_, hn, _⟩ := I.loc; hn.lt
theorem Inv.sz (I : Inv X pins σ H s) : X.s₀.heap.objs.size ≤ s.heap.objs.size := Nat.le_trans I.ok.above (Nat.le_of_lt I.lt)
theorem Inv.nofs (I : Inv X pins σ H s) {a : Addr} (h : s.heap.objs.size ≤ a) : a ∉ X.fs := fun hb => by
  obtain ⟨_, o, ho, _⟩ := I.ok.funs.mem hb
  exact absurd (Nat.lt_of_lt_of_le (Heap.lt_size ho) (Nat.le_trans I.sz h)) (Nat.lt_irrefl _)
theorem Inv.cne (I : Inv X pins σ H s) : ∀ x c, X.env.cells.lookup x = some c → c ≠ X.env.locals := fun x c e z => by
  obtain ⟨v, o, ho, hd⟩ := I.cell x c e
  obtain ⟨m, ⟨o', es, ep, ho', hd', _⟩, _⟩ := I.loc
  rw [z, ho'] at ho; cases ho; rw [hd'] at hd; cases hd
theorem Inv.funs (I : Inv X pins σ H s) : s.heap.FunFrames X.base X.outer := by
  have all : ∀ (l : List Env), (∀ b ∈ frs l, b ∈ X.fs) → X.s₀.heap.FunFrames X.base l → s.heap.FunFrames X.base l := by
    intro l
    induction l with
    | nil => intro _ _; trivial
    | cons env r ih =>
      intro hs hl
      obtain ⟨hk, ⟨L, o, hf, hn, ho, hd⟩, hr⟩ := hl
      have hL : L ∈ X.fs := hs L (by unfold frs; rw [List.filterMap_cons, hf]; exact List.mem_cons_self)
      obtain ⟨sl, e⟩ := I.base.slot L o ho (I.ok.frf L hL) hL fun z => I.ok.exfs L z hL
      exact ⟨hk, ⟨L, _, hf, hn, e, hd⟩, ih (fun b hb => hs b (by unfold frs; rw [List.filterMap_cons, hf]; exact List.mem_cons_of_mem _ hb)) hr⟩
  exact all X.outer (fun _ hb => hb) I.ok.funs

/-- the frames that run, for a call -/
theorem Inv.stack (I : Inv X pins σ H s) : s.heap.FunFrames X.base X.stack := by
  rcases I.ok.stk with e | ⟨e, hf⟩
  · rw [e]; exact I.funs
  · rw [e]
    obtain ⟨m, hn, _⟩ := I.loc
    refine .cons (by rw [I.ok.kind]; decide) hf hn ?_ I.funs
    exact Heap.get?_none_of_le (Nat.le_trans I.ok.bsz I.ok.above)
theorem Inv.stkSub (I : Inv X pins σ H s) : ∀ b ∈ frs X.stack, b ∈ X.env.locals :: X.fs := fun b hb => by
  rcases I.ok.stk with e | ⟨e, hf⟩
  · rw [e] at hb; exact List.mem_cons_of_mem _ hb
  · rw [e] at hb
    unfold frs at hb
    rw [List.filterMap_cons, hf] at hb
    exact hb
theorem Inv.stkFree (I : Inv X pins σ H s) : ∀ b ∈ frs X.stack, H b = none := fun b hb => by
  rcases List.mem_cons.mp (I.stkSub b hb) with e | hb
  · rw [e]; exact I.free
  · obtain ⟨_, o, ho, _⟩ := I.ok.funs.mem hb
    exact I.base.free b o ho (I.ok.frf b hb) fun z => I.ok.exfs b z hb

/-- THE STEP: the untracked objects but the frame and the records at ch are kept (the callers' frames up to slots), the frame's map is kept, the new abstract heap is held -/
theorem Inv.step {g' : Array GenState} {t' : Nat} {d' : Drawn} {ch : List Addr} (I : Inv X pins σ H s)
    (hch : ∀ b ∈ ch, (b ∈ X.ex ∨ X.s₀.heap.objs.size ≤ b) ∧ b ≠ X.env.locals ∧ (∀ x c, X.env.cells.lookup x = some c → c ≠ b) ∧ ∀ p ∈ X.pn ++ pins, p.1 ≠ b)
    (keep : ∀ b o, b ≠ X.env.locals → b ∉ X.fs → b ∉ ch → s.heap.get? b = some o → H b = none → h'.get? b = some o)
    (slot : ∀ b o, b ≠ X.env.locals → b ∈ X.fs → b ∉ ch → s.heap.get? b = some o → H b = none → ∃ sl, h'.get? b = some { o with slots := sl }) (free : ∀ b o, b ∉ ch → s.heap.get? b = some o → H b = none → H' b = none)
    (there : ∀ b o, b ∉ ch → s.heap.get? b = some o → ∃ o', h'.get? b = some o')
    (tups : ∀ b xs, H b = some (.tup xs) → H' b = some (.tup xs)) (frzs : ∀ b o u, H b = some (.frz o u) → H' b = some (.frz o u)) (tbls : ∀ b ps, H b = some (.tbl ps) → ∃ more, H' b = some (.tbl (ps ++ more)))
    (ns : ∀ m, s.heap.Ns X.env.locals m → h'.Ns X.env.locals m) (hok : HOk X.prog X.w H' h') (hg : AllBare g') :
    Inv X pins σ H' { s with heap := h', gens := g', drawn := d', toks := t' } := by
  have neL : ∀ b o, X.s₀.heap.get? b = some o → b ≠ X.env.locals := fun b o e => Nat.ne_of_lt (Nat.lt_of_lt_of_le (Heap.lt_size e) I.ok.above)
  have neC : ∀ b o, X.s₀.heap.get? b = some o → b ∉ X.ex → b ∉ ch := fun b o e hx hb => by
    rcases (hch b hb).1 with z | z
    · exact hx z
    · exact absurd (Nat.lt_of_lt_of_le (Heap.lt_size e) z) (Nat.lt_irrefl _)
  have cellK : ∀ x c, X.env.cells.lookup x = some c → ∀ v, s.heap.IsCell c v → h'.IsCell c v := fun x c e v ⟨o, ho, hd⟩ => by
    have nch : c ∉ ch := fun z => (hch c z).2.2.1 x c e rfl
    by_cases hc : c ∈ X.fs
    · obtain ⟨sl, q⟩ := slot c o (I.cne x c e) hc nch ho (I.freeC x c e)
      exact ⟨_, q, hd⟩
    · exact ⟨o, keep c o (I.cne x c e) hc nch ho (I.freeC x c e), hd⟩
  refine ⟨I.ok, I.os, hg, ⟨fun b o e n hb hx => ?_, fun b o e n hb hx => ?_, fun b o e n hx => ?_, fun b o e hx => ?_, fun b xs e => tups b xs (I.base.tups b xs e), fun b o xs e => frzs b o xs (I.base.frzs b o xs e), fun b ps e => ?_⟩, ?_, fun x c e => ?_, ?_, fun x c e => ?_, fun p hp => ?_, hok, I.len⟩
  · exact keep b o (neL b o e) hb (neC b o e hx) (I.base.keep b o e n hb hx) (I.base.free b o e n hx)
  · obtain ⟨sl, e1⟩ := I.base.slot b o e n hb hx
    obtain ⟨sl', e2⟩ := slot b _ (neL b o e) hb (neC b o e hx) e1 (I.base.free b o e n hx)
    exact ⟨sl', e2⟩
  · obtain ⟨o', e1⟩ := I.base.there b o e hx
    exact free b o' (neC b o e hx) e1 (I.base.free b o e n hx)
  · obtain ⟨o', e1⟩ := I.base.there b o e hx
    exact there b o' (neC b o e hx) e1
  · obtain ⟨m1, e1⟩ := I.base.tbls b ps e
    obtain ⟨m2, e2⟩ := tbls b _ e1
    exact ⟨m1 ++ m2, by rw [e2, Array.append_assoc]⟩
  · obtain ⟨m, hn, hl⟩ := I.loc
    refine ⟨m, ns m hn, fun i x v e1 e2 e3 => ?_⟩
    obtain ⟨u, r, l⟩ := hl i x v e1 e2 e3
    refine ⟨u, r, ?_⟩
    rcases l with l | ⟨k, c, e, z⟩
    · exact .inl l
    · exact .inr ⟨k, c, e, cellK x c e _ z⟩
  · obtain ⟨v, z⟩ := I.cell x c e
    exact ⟨v, cellK x c e v z⟩
  · obtain ⟨m, ⟨o, _, _, ho, _⟩, _⟩ := I.loc
    exact free _ o (fun z => (hch _ z).2.1 rfl) ho I.free
  · obtain ⟨v, o, ho, hd⟩ := I.cell x c e
    exact free c o (fun z => (hch c z).2.2.1 x c e rfl) ho (I.freeC x c e)
  · obtain ⟨e, n, ne, nf, d⟩ := I.pin p hp
    have nch : p.1 ∉ ch := fun z => (hch p.1 z).2.2.2 p hp rfl
    exact ⟨keep p.1 p.2 ne nf nch e n, free p.1 p.2 nch e n, ne, nf, d⟩
/-- .. where the frame's own object is kept too -/
theorem Inv.un {t' : Nat} (I : Inv X pins σ H s) (u : Un X.fs [] H H' s.heap h') (hok : HOk X.prog X.w H' h') : Inv X pins σ H' { s with heap := h', toks := t' } := by
  obtain ⟨m, ⟨o, es, ep, ho, r⟩, _⟩ := id I.loc
  obtain ⟨sl, hL⟩ := u.any ho I.free (by simp)
  exact I.step (g' := s.gens) (d' := s.drawn) (ch := []) (fun _ z => nomatch z) (fun b o _ hb _ e n => u.keep b o e n hb (by simp)) (fun b o _ hb _ e n => u.slot b o e n hb (by simp)) (fun b o _ e n => u.free b o e n (by simp)) (fun b o _ e => u.there b o e (by simp)) u.tups u.frzs u.tbls (fun m' hm => by
    obtain ⟨o', es', ep', ho', r'⟩ := hm
    rw [ho] at ho'; cases ho'
    exact ⟨_, es', ep', hL, r'⟩) hok I.bare
/-- behind a call (or a comprehension's block): the slots of this frame may have changed too, the records at ch may have turned -/
theorem Inv.call {g' : Array GenState} {t' : Nat} {d' : Drawn} {ch : List Addr} (I : Inv X pins σ H s) (u : Un (frs X.stack) ch H H' s.heap h') (hok : HOk X.prog X.w H' h') (hg : AllBare g')
    (hch : ∀ b ∈ ch, (b ∈ X.ex ∨ X.s₀.heap.objs.size ≤ b) ∧ b ≠ X.env.locals ∧ (∀ x c, X.env.cells.lookup x = some c → c ≠ b) ∧ ∀ p ∈ X.pn ++ pins, p.1 ≠ b) :
    Inv X pins σ H' { s with heap := h', gens := g', drawn := d', toks := t' } := by
  obtain ⟨m, ⟨o, es, ep, ho, r⟩, _⟩ := id I.loc
  obtain ⟨sl, hL⟩ := u.any ho I.free fun z => (hch _ z).2.1 rfl
  exact I.step (ch := ch) hch (fun b o hL hb hc e n => u.keep b o e n (fun z => (List.mem_cons.mp (I.stkSub b z)).elim hL hb) hc) (fun b o _ _ hc e n => u.any e n hc) (fun b o hc e n => u.free b o e n hc) (fun b o hc e => u.there b o e hc) u.tups u.frzs u.tbls (fun m' hm => by
    obtain ⟨o', es', ep', ho', r'⟩ := hm
    rw [ho] at ho'; cases ho'
    exact ⟨_, es', ep', hL, r'⟩) hok hg
/-- an untracked record of ours (an iterator) has turned -/
theorem Inv.turned {t' : Nat} {it : Addr} (I : Inv X pins σ H s) (k : ∀ b o, b ≠ it → s.heap.get? b = some o → h'.get? b = some o) (hn : H it = none) (hL : it ≠ X.env.locals)
    (h1 : it ∈ X.ex ∨ X.s₀.heap.objs.size ≤ it) (h2 : ∀ x c, X.env.cells.lookup x = some c → c ≠ it) (h3 : ∀ p ∈ X.pn ++ pins, p.1 ≠ it) : Inv X pins σ H { s with heap := h', toks := t' } := by
  have nit : ∀ b u, H b = some u → b ≠ it := fun b u e z => by rw [z, hn] at e; cases e
  refine I.step (g' := s.gens) (d' := s.drawn) (ch := [it]) (fun b hb => ?_) (fun b o _ _ hc e _ => k b o (fun z => hc (by simp [z])) e) (fun b o _ _ hc e _ => ⟨o.slots, k b o (fun z => hc (by simp [z])) e⟩) (fun _ _ _ _ n => n)
    (fun b o hc e => ⟨o, k b o (fun z => hc (by simp [z])) e⟩) (fun _ _ e => e) (fun _ _ _ e => e) (fun b ps e => ⟨#[], by rw [e]; simp⟩) (fun m hm => ?_) (fun b u e => ?_) I.bare
  · have e : b = it := by simpa using hb
    subst e
    exact ⟨h1, hL, h2, h3⟩
  · obtain ⟨o, es, ep, ho, r⟩ := hm
    exact ⟨o, es, ep, k _ o (Ne.symm hL) ho, r⟩
  · refine (I.hok b u e).stay (fun c v hc q => k c v ?_ q) (fun _ q => q) fun _ _ q => q
    rcases hc with z | z
    · rw [z]; exact nit b u e
    · exact nit c _ z
theorem Inv.tok (I : Inv X pins σ H s) (t : Nat) : Inv X pins σ H { s with toks := t } := I.un (h' := s.heap) (t' := t) Un.refl I.hok
/-- all objects kept -/
theorem Inv.kept {t' : Nat} (I : Inv X pins σ H s) (k : ∀ b u, s.heap.get? b = some u → h'.get? b = some u) : Inv X pins σ H { s with heap := h', toks := t' } := I.un (Un.kept k) (I.hok.kept k)
/-- a new object laid and tracked -/
theorem Inv.laid {a : Addr} {o : HO} {t' : Nat} (I : Inv X pins σ H s) (k : ∀ b u, s.heap.get? b = some u → h'.get? b = some u) (hp : s.heap.objs.size ≤ a) (new : ObjOk X.prog X.w (upd H a o) h' a o) :
    Inv X pins σ (upd H a o) { s with heap := h', toks := t' } := I.un (Un.laid k hp (I.hok.fresh hp)) (I.hok.laid k hp new)
/-- an object written -/
theorem Inv.write {x e : Addr} {o : HO} {t' : Nat} (I : Inv X pins σ H s) (mu : Mut (H x)) (he : e = x ∨ H e = some (.own x)) (k : ∀ b u, b ≠ e → s.heap.get? b = some u → h'.get? b = some u) (heo : ∃ u, h'.get? e = some u)
    (new : ObjOk X.prog X.w (upd H x o) h' x o) : Inv X pins σ (upd H x o) { s with heap := h', toks := t' } := I.un (Un.write mu he k heo) (I.hok.write mu he k heo new)
/-- forgetting slots, pins -/
theorem Inv.weak {σ' : List (Option V)} (I : Inv X pins σ H s) (hl : σ'.length = σ.length) (w : ∀ (i : Nat) v, σ'[i]? = some (some v) → σ[i]? = some (some v)) : Inv X pins σ' H s :=
  ⟨I.ok, I.os, I.bare, I.base, let ⟨m, hn, hl'⟩ := I.loc; ⟨m, hn, fun i x v e1 e2 e3 => hl' i x v e1 (w i v e2) e3⟩, I.cell, I.free, I.freeC, I.pin, I.hok, hl.trans I.len⟩
theorem Inv.pins_of {pins' : List (Addr × Obj)} (I : Inv X pins σ H s) (h : ∀ p ∈ pins', s.heap.get? p.1 = some p.2 ∧ H p.1 = none ∧ p.1 ≠ X.env.locals ∧ p.1 ∉ X.fs ∧ ∀ v, p.2.data ≠ .cell v) : Inv X pins' σ H s :=
  ⟨I.ok, I.os, I.bare, I.base, I.loc, I.cell, I.free, I.freeC, fun p hp => (List.mem_append.mp hp).elim (fun z => I.pin p (List.mem_append_left _ z)) (h p), I.hok, I.len⟩

theorem nodup_ix {N : List Str} (hN : N.Nodup) {i j : Nat} {x : Str} (a : N[i]? = some x) (b : N[j]? = some x) : i = j := by
  obtain ⟨h1, e1⟩ := List.getElem?_eq_some_iff.mp a
  obtain ⟨h2, e2⟩ := List.getElem?_eq_some_iff.mp b
  exact (List.getElem_inj hN).mp (e1.trans e2.symm)

/-- a name is stored; what changed -/
theorem store_ok2 {M : Model} {A : Around} {E : Value → Shared → Prop} {i : Nat} {x : Str} {v : V} {u : Value} {Q : Unit → Shared → Prop} (I : Inv X pins σ H s) (hN : X.N.Nodup) (hi : X.N[i]? = some x) (hx : Loc X.env.scope x) (r : RelV v u)
    (h : ∀ s', Inv X pins (σ.set i (some v)) H s' → (∃ a, Heap.SameBut a s.heap s'.heap ∧ (a = X.env.locals ∨ X.env.cells.lookup x = some a)) → Q () s') (hf : X.fn x = true ∨ X.env.scope.names.lookup x = some .local := by first | exact .inl rfl | exact .inr rfl | assumption) : wpAny M A (storeName X.env x u) Q E s := by
  obtain ⟨m, hn, hl⟩ := id I.loc
  have hcls : (X.env.scope.kind == .class || (X.env.scope.kind == .module && X.env.locals != X.env.globals)) = false := by rw [I.ok.kind]; rfl
  have hiσ : i < σ.length := by rw [I.len]; exact (List.getElem?_eq_some_iff.mp hi).1
  have cne := I.cne
  have tracked : ∀ {a : Addr} {h' : Heap}, (∃ o, s.heap.get? a = some o ∧ H a = none) → Heap.SameBut a s.heap h' → HOk X.prog X.w H h' := fun {a h'} ha hs b ob e => by
    obtain ⟨_, _, hfree⟩ := ha
    refine (I.hok b ob e).stay (fun c w' hc q => (hs.2 c ?_).trans q) (fun _ q => q) fun _ _ q => q
    rintro rfl
    rcases hc with rfl | hc
    · rw [hfree] at e; cases e
    · rw [hfree] at hc; cases hc
  rcases hx with hk | hk
  · refine wpAny_storeName_local hk hn (fun h' hn' hs => ?_) hcls
    obtain ⟨oL, _, _, hoL, _⟩ := id hn
    refine h _ ⟨I.ok, I.os, I.bare, ⟨fun b o e n hb hx => ?_, fun b o e n hb hx => ?_, I.base.free, fun b o e hx => ?_, I.base.tups, I.base.frzs, I.base.tbls⟩, ⟨_, hn', fun j y v' e1 e2 e3 => ?_⟩, fun y c e => ?_, I.free, I.freeC, fun p hp => ?_, tracked ⟨oL, hoL, I.free⟩ hs, by simpa using I.len⟩ ⟨_, hs, .inl rfl⟩
    · exact (hs.2 b (Nat.ne_of_lt (Nat.lt_of_lt_of_le (Heap.lt_size e) I.ok.above))).trans (I.base.keep b o e n hb hx)
    · obtain ⟨sl, e1⟩ := I.base.slot b o e n hb hx
      exact ⟨sl, (hs.2 b (Nat.ne_of_lt (Nat.lt_of_lt_of_le (Heap.lt_size e) I.ok.above))).trans e1⟩
    · obtain ⟨o', e1⟩ := I.base.there b o e hx
      exact ⟨o', (hs.2 b (Nat.ne_of_lt (Nat.lt_of_lt_of_le (Heap.lt_size e) I.ok.above))).trans e1⟩
    · by_cases hj : j = i
      · subst hj
        rw [hi] at e1; cases e1
        rw [List.getElem?_set_self hiσ] at e2
        cases e2
        exact ⟨u, r, .inl ⟨hk, by simp⟩⟩
      · rw [List.getElem?_set_ne (Ne.symm hj)] at e2
        obtain ⟨u', r', q⟩ := hl j y v' e1 e2 e3
        refine ⟨u', r', ?_⟩
        rcases q with ⟨k, e⟩ | ⟨k, c, e, z⟩
        · refine .inl ⟨k, ?_⟩
          have : y ≠ x := fun e => hj (nodup_ix hN e1 (e ▸ hi))
          simp [this, e]
        · exact .inr ⟨k, c, e, z.sameBut hs (cne y c e)⟩
    · obtain ⟨w', z⟩ := I.cell y c e
      exact ⟨w', z.sameBut hs (cne y c e)⟩
    · obtain ⟨e, n, ne, nf, d⟩ := I.pin p hp
      exact ⟨(hs.2 p.1 ne).trans e, n, ne, nf, d⟩
  · have hfn : X.fn x = true := by
      rcases hf with z | z
      · exact z
      · rw [z] at hk; cases hk
    obtain ⟨c, hc⟩ := I.ok.has x (.inl hk)
    obtain ⟨w', z⟩ := I.cell x c hc
    refine wpAny_storeName_cell I.ok.kind hk hc z (fun h' hc' hs => ?_)
    obtain ⟨oc, hoc, hocd⟩ := id z
    refine h { s with heap := h' } ⟨I.ok, I.os, I.bare, ⟨fun b o e n hb hx => ?_, fun b o e n hb hx => ?_, I.base.free, fun b o e hx => ?_, I.base.tups, I.base.frzs, I.base.tbls⟩, ⟨m, hn.sameBut hs (Ne.symm (cne x c hc)), fun j y v' e1 e2 e3 => ?_⟩, fun y c' e => ?_, I.free, I.freeC, fun p hp => ?_, tracked ⟨oc, hoc, I.freeC x c hc⟩ hs, by simpa using I.len⟩ ⟨c, hs, .inr hc⟩
    · exact (hs.2 b (Nat.ne_of_lt (Nat.lt_of_lt_of_le (Heap.lt_size e) (I.ok.cab x c hfn hc)))).trans (I.base.keep b o e n hb hx)
    · obtain ⟨sl, e1⟩ := I.base.slot b o e n hb hx
      exact ⟨sl, (hs.2 b (Nat.ne_of_lt (Nat.lt_of_lt_of_le (Heap.lt_size e) (I.ok.cab x c hfn hc)))).trans e1⟩
    · obtain ⟨o', e1⟩ := I.base.there b o e hx
      exact ⟨o', (hs.2 b (Nat.ne_of_lt (Nat.lt_of_lt_of_le (Heap.lt_size e) (I.ok.cab x c hfn hc)))).trans e1⟩
    · by_cases hj : j = i
      · subst hj
        rw [hi] at e1; cases e1
        rw [List.getElem?_set_self hiσ] at e2
        cases e2
        exact ⟨u, r, .inr ⟨.inl hk, c, hc, hc'⟩⟩
      · rw [List.getElem?_set_ne (Ne.symm hj)] at e2
        obtain ⟨u', r', q⟩ := hl j y v' e1 e2 e3
        refine ⟨u', r', ?_⟩
        rcases q with q | ⟨k, c', e, z'⟩
        · exact .inl q
        · refine .inr ⟨k, c', e, z'.sameBut hs ?_⟩
          rintro rfl
          exact hj (nodup_ix hN e1 (I.ok.inj _ _ _ e hc ▸ hi))
    · by_cases hcc : c' = c
      · subst hcc; exact ⟨_, hc'⟩
      · obtain ⟨w2, z2⟩ := I.cell y c' e
        exact ⟨w2, z2.sameBut hs hcc⟩
    · obtain ⟨e, n, ne, nf, d⟩ := I.pin p hp
      refine ⟨(hs.2 p.1 ?_).trans e, n, ne, nf, d⟩
      intro q
      rw [q, hoc] at e
      have q' : oc = p.2 := Option.some.inj e
      exact d w' (by rw [← q']; exact hocd)
theorem store_ok {M : Model} {A : Around} {E : Value → Shared → Prop} {i : Nat} {x : Str} {v : V} {u : Value} {Q : Unit → Shared → Prop} (I : Inv X pins σ H s) (hN : X.N.Nodup) (hi : X.N[i]? = some x) (hx : Loc X.env.scope x) (r : RelV v u)
    (h : ∀ s', Inv X pins (σ.set i (some v)) H s' → Q () s') (hf : X.fn x = true ∨ X.env.scope.names.lookup x = some .local := by first | exact .inl rfl | exact .inr rfl | assumption) : wpAny M A (storeName X.env x u) Q E s :=
  store_ok2 I hN hi hx r (fun s' I' _ => h s' I') hf
/-- behind a call or a block, the state as it is -/
theorem Inv.call' {s' : Shared} {ch : List Addr} (I : Inv X pins σ H s) (ho : s'.os = s.os) (u : Un (frs X.stack) ch H H' s.heap s'.heap) (hok : HOk X.prog X.w H' s'.heap) (hg : AllBare s'.gens)
    (hch : ∀ b ∈ ch, (b ∈ X.ex ∨ X.s₀.heap.objs.size ≤ b) ∧ b ≠ X.env.locals ∧ (∀ x c, X.env.cells.lookup x = some c → c ≠ b) ∧ ∀ p ∈ X.pn ++ pins, p.1 ≠ b) : Inv X pins σ H' s' := by
  obtain ⟨h', g', d', t', o'⟩ := s'
  have e : o' = s.os := ho
  subst e
  exact I.call (g' := g') (t' := t') (d' := d') u hok hg hch
end

/-! ### the judgements -/
/-- an exception: its class, its own dict's address (where it has one), the abstract heap behind it -/
abbrev XK := Value → Option Addr → Hp → Prop
abbrev St := List (Option V)
abbrev VK := V → Hp → Prop
/-- an expression's reading; a test's; an argument list's -/
abbrev TE := St → Hp → VK → Prop
abbrev TT := St → Hp → (Bool → Hp → Prop) → Prop
abbrev TA := St → Hp → (List V → Hp → Prop) → Prop
/-- what is wanted behind a statement -/
structure Ends where
  nx : St → Hp → Prop
  rt : VK
  bk : St → Hp → Prop := fun _ _ => False
  ct : St → Hp → Prop := fun _ _ => False
abbrev TS := Ends → St → Hp → Prop

def EP (X : Cx) (pins : List (Addr × Obj)) (σ : St) (Q : VK) (u : Value) (s' : Shared) : Prop := ∃ v H', Inv X pins σ H' s' ∧ RelV v u ∧ Q v H'
def TP (X : Cx) (pins : List (Addr × Obj)) (σ : St) (Q : Bool → Hp → Prop) (b : Bool) (s' : Shared) : Prop := ∃ H', Inv X pins σ H' s' ∧ Q b H'
def AP (X : Cx) (pins : List (Addr × Obj)) (σ : St) (Q : List V → Hp → Prop) (us : List Value) (s' : Shared) : Prop := ∃ vs H', Inv X pins σ H' s' ∧ Vals vs us ∧ Q vs H'
def SP (X : Cx) (pins : List (Addr × Obj)) (D : Ends) (f : Flow) (s' : Shared) : Prop :=
  match f with
  | .next => ∃ σ' H', Inv X pins σ' H' s' ∧ D.nx σ' H'
  | .brk => ∃ σ' H', Inv X pins σ' H' s' ∧ D.bk σ' H'
  | .cont => ∃ σ' H', Inv X pins σ' H' s' ∧ D.ct σ' H'
  | .ret u => ∃ v σ' H', Inv X pins σ' H' s' ∧ RelV v u ∧ D.rt v H'

def PE (X : Cx) (e : Expr) (t : TE) : Prop :=
  ∀ (pins : List (Addr × Obj)) (s : Shared) (σ : St) (H : Hp) (Q : VK), Inv X pins σ H s → t σ H Q → wpAny (model X.prog X.w) X.A (eval e X.env) (EP X pins σ Q) X.xe s
def PT (X : Cx) (e : Expr) (t : TT) : Prop :=
  ∀ (pins : List (Addr × Obj)) (s : Shared) (σ : St) (H : Hp) (Q : Bool → Hp → Prop), Inv X pins σ H s → t σ H Q → wpAny (model X.prog X.w) X.A (isTrue e X.env (eval e X.env)) (TP X pins σ Q) X.xe s
/-- a test whatever its 'whole' is (and, or) -/
def PW (X : Cx) (e : Expr) (t : TT) : Prop :=
  ∀ (whole : Sem Value) (pins : List (Addr × Obj)) (s : Shared) (σ : St) (H : Hp) (Q : Bool → Hp → Prop), Inv X pins σ H s → t σ H Q → wpAny (model X.prog X.w) X.A (isTrue e X.env whole) (TP X pins σ Q) X.xe s
theorem PW.pt {X : Cx} {e : Expr} {t : TT} (h : PW X e t) : PT X e t := h _
/-- an argument list (no star), from the left -/
def PA (X : Cx) (es : List Expr) (t : TA) : Prop :=
  ∀ (pos : Pos) (pins : List (Addr × Obj)) (s : Shared) (σ : St) (H : Hp) (Q : List V → Hp → Prop), Inv X pins σ H s → t σ H Q → wpAny (model X.prog X.w) X.A (spliced (backTo pos (starEach es X.env))) (AP X pins σ Q) X.xe s
def PS (X : Cx) (st : Stmt) (t : TS) : Prop :=
  ∀ (pins : List (Addr × Obj)) (s : Shared) (σ : St) (H : Hp) (D : Ends), Inv X pins σ H s → t D σ H → wpAny (model X.prog X.w) X.A (exec st X.env) (SP X pins D) X.xe s
def PSs (X : Cx) (st : List Stmt) (t : TS) : Prop :=
  ∀ (pins : List (Addr × Obj)) (s : Shared) (σ : St) (H : Hp) (D : Ends), Inv X pins σ H s → t D σ H → wpAny (model X.prog X.w) X.A (execs st X.env) (SP X pins D) X.xe s
/-- weaken the end -/
theorem thn {α : Type} {t : Sem α} {Q Q' : α → Shared → Prop} {M : Model} {A : Around} {E : Value → Shared → Prop} {s : Shared} (h : wpAny M A t Q E s) (hQ : ∀ a s, Q a s → Q' a s) : wpAny M A t Q' E s := wpAny_mono h hQ fun _ _ x => x
end L2

namespace L2
open PySem PySem.Spec PyProof.Rows
section
variable {X : Cx}

/-- two expressions in a row -/
theorem bin {a b : Expr} {ta tb : TE} (ha : PE X a ta) (hb : PE X b tb) {pins : List (Addr × Obj)} {s : Shared} {σ : St} {H : Hp} {R : V → V → Hp → Prop} (I : Inv X pins σ H s) (h : ta σ H fun x H1 => tb σ H1 fun y H2 => R x y H2)
    {α : Type} {Q : α → Shared → Prop} {f : Value → Value → Sem α}
    (hf : ∀ v u s2 x y H2, Inv X pins σ H2 s2 → RelV x v → RelV y u → R x y H2 → wpAny (model X.prog X.w) X.A (f v u) Q X.xe s2) :
    wpAny (model X.prog X.w) X.A (eval a X.env) (fun v s₁ => wpAny (model X.prog X.w) X.A (eval b X.env) (fun u s₂ => wpAny (model X.prog X.w) X.A (f v u) Q X.xe s₂) X.xe s₁) X.xe s := by
  refine thn (ha pins s σ H _ I h) fun v s1 ⟨x, H1, I1, r1, q1⟩ => ?_
  refine thn (hb pins s1 σ H1 _ I1 q1) fun u s2 ⟨y, H2, I2, r2, q2⟩ => ?_
  exact hf v u s2 x y H2 I2 r1 r2 q2

/-! ### names and constants -/
def tVar (i : Nat) : TE := fun σ H Q => ∃ v, σ[i]? = some (some v) ∧ Q v H
def tC (v : V) : TE := fun _ H Q => Q v H
theorem pe_var {i : Nat} {x : Str} {pos : Pos} (hN : X.N[i]? = some x) (hv : Vis X.env.scope x) (hd : (x == ("__debug__" : Str)) = false := by decide) (hcd : (x == ("__classdict__" : Str)) = false := by decide) : PE X (.Name x pos) (tVar i) := by
  intro pins s σ H Q I h
  obtain ⟨v, e, h⟩ := h
  obtain ⟨m, hn, hl⟩ := I.loc
  obtain ⟨u, r, l⟩ := hl i x v hN e hv
  have fin : EP X pins σ Q u s := ⟨v, H, I, r, h⟩
  rcases l with ⟨hk, hm⟩ | ⟨hk, c, hc, hcell⟩
  · exact wpAny_Name (wpAny_loadName_local I.ok.kind hk hn hm fin) hd
  · rcases hk with hk | hk
    · exact wpAny_Name (wpAny_loadName_cell I.ok.kind hk hc hcell fin) hd
    · exact wpAny_Name (wpAny_loadName_free I.ok.kind hk hc hcell fin hcd) hd
theorem pe_int {i j pos} : PE X (.Constant (.int i) j pos) (tC (.int i)) := fun _ _ _ H _ I h => wpAny_Constant_int ⟨.int i, H, I.tok _, ⟨_, rfl⟩, h⟩
theorem pe_bl {b j pos} : PE X (.Constant (.bool b) j pos) (tC (.bl b)) := fun _ _ _ H _ I h => Constant_bool ⟨.bl b, H, I, rfl, h⟩
theorem pe_non {j pos} : PE X (.Constant .none j pos) (tC .non) := fun _ _ _ H _ I h => Constant_none ⟨.non, H, I, rfl, h⟩
theorem pe_str {x j pos} : PE X (.Constant (.str x) j pos) (tC (.str x)) := fun _ _ _ H _ I h => Calls.Constant_str ⟨.str x, H, I.tok _, ⟨_, rfl⟩, h⟩

/-- a global name of the def -/
def Gl (X : Cx) (x : Str) : Prop := X.env.kindOf x = some .globalImplicit
theorem ld_glob {E : Value → Shared → Prop} {pins : List (Addr × Obj)} {s : Shared} {σ : St} {H : Hp} {x : Str} {u : Value} {pos : Pos} {Q : Value → Shared → Prop} (I : Inv X pins σ H s) (hg : Gl X x) (hm : X.mg x = some u) (h : Q u s)
    (hd : (x == ("__debug__" : Str)) = false := by decide) : wpAny (model X.prog X.w) X.A (eval (.Name x pos) X.env) Q E s :=
  Calls.Name_function_global I.ok.kind hg (Calls.loadGlobal_global (by rw [I.ok.glob]; exact I.mod.glob.keeps I.bk) hm h) hd
theorem ld_blt {E : Value → Shared → Prop} {pins : List (Addr × Obj)} {s : Shared} {σ : St} {H : Hp} {x : Str} {u : Value} {pos : Pos} {Q : Value → Shared → Prop} (I : Inv X pins σ H s) (hg : Gl X x) (hm : X.mg x = none) (hv : bootBuiltins x = some u) (h : Q u s)
    (hn : x ≠ "__name__" := by decide) (hd : (x == ("__debug__" : Str)) = false := by decide) : wpAny (model X.prog X.w) X.A (eval (.Name x pos) X.env) Q E s := by
  obtain ⟨mb, h1, h2⟩ := I.mod.blt
  exact Calls.Name_function_global I.ok.kind hg (Calls.loadGlobal_builtin (by rw [I.ok.glob]; exact I.mod.glob.keeps I.bk) hm (by rw [I.ok.blt]; exact h1.keeps I.bk) ((h2 x hn).trans hv) h) hd
/-- a module's constant, a class, a function, as a value -/
theorem pe_glob {x : Str} {v : V} {u : Value} {pos : Pos} (hg : Gl X x) (hm : X.mg x = some u) (r : RelV v u) (hd : (x == ("__debug__" : Str)) = false := by decide) : PE X (.Name x pos) (tC v) :=
  fun _ _ _ H _ I h => ld_glob I hg hm ⟨v, H, I, r, h⟩ hd
theorem pe_bltn {x : Str} {v : V} {u : Value} {pos : Pos} (hg : Gl X x) (hm : X.mg x = none) (hv : bootBuiltins x = some u) (r : RelV v u) (hn : x ≠ "__name__" := by decide) (hd : (x == ("__debug__" : Str)) = false := by decide) : PE X (.Name x pos) (tC v) :=
  fun _ _ _ H _ I h => ld_blt I hg hm hv ⟨v, H, I, r, h⟩ hn hd

/-! ### arithmetic -/
/-- two ints -/
def t2I (ta tb : TE) (k : Int → Int → Hp → Prop) : St → Hp → Prop := fun σ H => ta σ H fun x H1 => tb σ H1 fun y H2 => ∃ i j, x = .int i ∧ y = .int j ∧ k i j H2
def tAdd (ta tb : TE) : TE := fun σ H Q => t2I ta tb (fun i j H2 => Q (.int (i + j)) H2) σ H
def tSub (ta tb : TE) : TE := fun σ H Q => t2I ta tb (fun i j H2 => Q (.int (i - j)) H2) σ H
/-- the left factor below 2^64 -/
def tMul (ta tb : TE) : TE := fun σ H Q => t2I ta tb (fun i j H2 => (-(2 ^ 64) < i ∧ i < 2 ^ 64) ∧ Q (.int (i * j)) H2) σ H
variable {a b : Expr} {ta tb : TE} {pos : Pos}
theorem pe_add (ha : PE X a ta) (hb : PE X b tb) : PE X (.BinOp a .Add b pos) (tAdd ta tb) := by
  intro pins s σ H Q I h
  refine wpAny_BinOp (bin ha hb I h fun v u s2 x y H2 I2 rx ry q => ?_)
  obtain ⟨i, j, rfl, rfl, q⟩ := q
  obtain ⟨t, rfl⟩ := rx
  obtain ⟨t', rfl⟩ := ry
  exact add_int ⟨.int _, H2, I2.tok _, ⟨_, rfl⟩, q⟩
theorem pe_sub (ha : PE X a ta) (hb : PE X b tb) : PE X (.BinOp a .Sub b pos) (tSub ta tb) := by
  intro pins s σ H Q I h
  refine wpAny_BinOp (bin ha hb I h fun v u s2 x y H2 I2 rx ry q => ?_)
  obtain ⟨i, j, rfl, rfl, q⟩ := q
  obtain ⟨t, rfl⟩ := rx
  obtain ⟨t', rfl⟩ := ry
  exact sub_int ⟨.int _, H2, I2.tok _, ⟨_, rfl⟩, q⟩
theorem pe_mul (ha : PE X a ta) (hb : PE X b tb) : PE X (.BinOp a .Mult b pos) (tMul ta tb) := by
  intro pins s σ H Q I h
  refine wpAny_BinOp (bin ha hb I h fun v u s2 x y H2 I2 rx ry q => ?_)
  obtain ⟨i, j, rfl, rfl, ⟨q1, q2⟩, q⟩ := q
  obtain ⟨t, rfl⟩ := rx
  obtain ⟨t', rfl⟩ := ry
  exact mul_int ⟨.int _, H2, I2.tok _, ⟨_, rfl⟩, q⟩ (.of_left (intBits_le_64 q1 q2))

/-! ### comparisons -/
def PC (X : Cx) (op : CmpOp) (a b : Expr) (t : TE) : Prop :=
  ∀ (pins : List (Addr × Obj)) (s : Shared) (σ : St) (H : Hp) (Q : VK), Inv X pins σ H s → t σ H Q →
    wpAny (model X.prog X.w) X.A (eval a X.env) (fun v s₁ => wpAny (model X.prog X.w) X.A (eval b X.env) (fun u s₂ => wpAny (model X.prog X.w) X.A (compareOp op v u) (EP X pins σ Q) X.xe s₂) X.xe s₁) X.xe s
theorem nobehind (b : Expr) {op : CmpOp} (h : op ≠ .In) (h2 : op ≠ .NotIn) : behindInMarks op b = false := by
  have e1 : (op == CmpOp.In) = false := by cases op <;> first | rfl | exact absurd rfl h
  have e2 : (op == CmpOp.NotIn) = false := by cases op <;> first | rfl | exact absurd rfl h2
  cases b <;> simp [behindInMarks, e1, e2]
def tCmp (p : Int → Int → Bool) (ta tb : TE) : TE := fun σ H Q => t2I ta tb (fun i j H2 => Q (.bl (p i j)) H2) σ H
abbrev tLt : TE → TE → TE := tCmp fun i j => decide (i < j)
abbrev tLe : TE → TE → TE := tCmp fun i j => decide (i ≤ j)
abbrev tGt : TE → TE → TE := tCmp fun i j => decide (j < i)
abbrev tGe : TE → TE → TE := tCmp fun i j => decide (j ≤ i)
abbrev tEqI : TE → TE → TE := tCmp fun i j => decide (i = j)
abbrev tNeI : TE → TE → TE := tCmp fun i j => !decide (i = j)
/-- a comparison of two ints, by its rule -/
theorem pc_int {op : CmpOp} {p : Int → Int → Bool} (ha : PE X a ta) (hb : PE X b tb)
    (rule : ∀ (i j : Int) (t u : Tok) (Q : Value → Shared → Prop) (s : Shared), Q (.bool (p i j)) s → wpAny (model X.prog X.w) X.A (compareOp op (.int i t) (.int j u)) Q X.xe s) : PC X op a b (tCmp p ta tb) := by
  intro pins s σ H Q I h
  refine bin ha hb I h fun v u s2 x y H2 I2 rx ry q => ?_
  obtain ⟨i, j, rfl, rfl, q⟩ := q
  obtain ⟨t, rfl⟩ := rx
  obtain ⟨t', rfl⟩ := ry
  exact rule i j t t' _ s2 ⟨.bl _, H2, I2, rfl, q⟩
theorem pc_lt (ha : PE X a ta) (hb : PE X b tb) : PC X .Lt a b (tLt ta tb) := pc_int ha hb fun _ _ _ _ _ _ h => lt_int h
theorem pc_le (ha : PE X a ta) (hb : PE X b tb) : PC X .LtE a b (tLe ta tb) := pc_int ha hb fun _ _ _ _ _ _ h => le_int h
theorem pc_gt (ha : PE X a ta) (hb : PE X b tb) : PC X .Gt a b (tGt ta tb) := pc_int ha hb fun _ _ _ _ _ _ h => gt_int h
theorem pc_ge (ha : PE X a ta) (hb : PE X b tb) : PC X .GtE a b (tGe ta tb) := pc_int ha hb fun _ _ _ _ _ _ h => ge_int h
theorem pc_eqI (ha : PE X a ta) (hb : PE X b tb) : PC X .Eq a b (tEqI ta tb) := pc_int ha hb fun _ _ _ _ _ _ h => eq_int (by rw [Bool.beq_eq_decide_eq]; exact h)
theorem pc_neI (ha : PE X a ta) (hb : PE X b tb) : PC X .NotEq a b (tNeI ta tb) := pc_int ha hb fun _ _ _ _ _ _ h => ne_int (by rw [bne, Bool.beq_eq_decide_eq]; exact h)
/-- is None -/
def tIsN (ta : TE) : TE := fun σ H Q => ta σ H fun x H1 => Q (.bl (decide (x = .non))) H1
def tNotN (ta : TE) : TE := fun σ H Q => ta σ H fun x H1 => Q (.bl (!decide (x = .non))) H1
theorem RelV.none_iff {x : V} {v : Value} (r : RelV x v) : (v == Value.none) = decide (x = .non) := by
  cases x with
  | non => cases r; rfl
  | bl _ => cases r; rfl
  | int _ => obtain ⟨t, rfl⟩ := r; rfl
  | str _ => obtain ⟨t, rfl⟩ := r; rfl
  | byt _ => obtain ⟨t, rfl⟩ := r; rfl
  | flt _ => obtain ⟨t, rfl⟩ := r; rfl
  | ref _ => cases r; rfl
  | ty _ => cases r; rfl
theorem pc_isN {j pos'} (ha : PE X a ta) : PC X .Is a (.Constant .none j pos') (tIsN ta) := by
  intro pins s σ H Q I h
  refine thn (ha pins s σ H _ I h) fun v s1 ⟨x, H1, I1, r1, q1⟩ => ?_
  exact Constant_none (is_none_gen ⟨.bl _, H1, I1, by rw [r1.none_iff]; rfl, q1⟩)
theorem pc_notN {j pos'} (ha : PE X a ta) : PC X .IsNot a (.Constant .none j pos') (tNotN ta) := by
  intro pins s σ H Q I h
  refine thn (ha pins s σ H _ I h) fun v s1 ⟨x, H1, I1, r1, q1⟩ => ?_
  exact Constant_none (isnot_none_gen ⟨.bl _, H1, I1, by rw [r1.none_iff]; rfl, q1⟩)
/-- a comparison as a value, as a test -/
def tB (t : TE) : TT := fun σ H Q => t σ H fun x H1 => ∃ c, x = .bl c ∧ Q c H1
theorem pe_cmp {op : CmpOp} {t : TE} (h : PC X op a b t) (h1 : behindInMarks op b = false := by first | exact nobehind _ (by decide) (by decide) | rfl) : PE X (.Compare a [op] [b] pos) t := fun pins s σ H Q I hw => wpAny_Compare1 (h pins s σ H Q I hw) h1
theorem pt_cmp {op : CmpOp} {t : TE} (h : PC X op a b t) (h1 : behindInMarks op b = false := by first | exact nobehind _ (by decide) (by decide) | rfl) : PT X (.Compare a [op] [b] pos) (tB t) := by
  intro pins s σ H Q I hw
  refine wpAny_isTrue_Compare1 (thn (h pins s σ H _ I hw) fun v s1 h1 => thn h1 fun u s2 h2 => thn h2 fun c s3 ⟨x, H1, I1, r1, q1⟩ => ?_) h1
  obtain ⟨d, rfl, q⟩ := q1
  cases r1
  exact wpAny_truthy_bool ⟨H1, I1, q⟩
/-- an expression whose value is a bool, as a test -/
theorem pt_val {e : Expr} {t : TE} (h : PE X e t) (he : ∀ whole, isTrue e X.env whole = (do let v ← whole; standAt e.pos; holding [v] (truthy v)) := by intro _; rfl) : PT X e (tB t) := by
  intro pins s σ H Q I hw
  refine isTrue_plain (thn (h pins s σ H _ I hw) fun v s1 ⟨x, H1, I1, r1, q1⟩ => ?_) (he _)
  obtain ⟨d, rfl, q⟩ := q1
  cases r1
  exact wpAny_truthy_bool ⟨H1, I1, q⟩

/-! ### and, or, not -/
variable {tA tB' : TT} {rest : List Expr}
def tAnd (t u : TT) : TT := fun σ H Q => t σ H fun c H1 => if c = true then u σ H1 Q else Q false H1
def tOr (t u : TT) : TT := fun σ H Q => t σ H fun c H1 => if c = true then Q true H1 else u σ H1 Q
def tNot (t : TT) : TT := fun σ H Q => t σ H fun c H1 => Q (!c) H1
theorem pw_and1 (ha : PT X a tA) : PW X (.BoolOp .And [a] pos) tA := by
  intro wh pins s σ H Q I h
  refine isTrue_and (thn (ha pins s σ H Q I h) fun c s1 e => ?_)
  cases c with
  | true => exact isTrue_and_nil e
  | false => exact e
theorem pw_or1 (ha : PT X a tA) : PW X (.BoolOp .Or [a] pos) tA := by
  intro wh pins s σ H Q I h
  refine isTrue_or (thn (ha pins s σ H Q I h) fun c s1 e => ?_)
  cases c with
  | false => exact isTrue_or_nil e
  | true => exact e
theorem pw_and (ha : PT X a tA) (hb : PW X (.BoolOp .And (b :: rest) pos) tB') : PW X (.BoolOp .And (a :: b :: rest) pos) (tAnd tA tB') := by
  intro wh pins s σ H Q I h
  refine isTrue_and (thn (ha pins s σ H _ I h) fun c s1 ⟨H1, I1, q1⟩ => ?_)
  cases c with
  | true => exact hb wh pins s1 σ H1 Q I1 q1
  | false => exact ⟨H1, I1, q1⟩
theorem pw_or (ha : PT X a tA) (hb : PW X (.BoolOp .Or (b :: rest) pos) tB') : PW X (.BoolOp .Or (a :: b :: rest) pos) (tOr tA tB') := by
  intro wh pins s σ H Q I h
  refine isTrue_or (thn (ha pins s σ H _ I h) fun c s1 ⟨H1, I1, q1⟩ => ?_)
  cases c with
  | true => exact ⟨H1, I1, q1⟩
  | false => exact hb wh pins s1 σ H1 Q I1 q1
theorem pt_not (ha : PT X a tA) : PT X (.UnaryOp .Not a pos) (tNot tA) := by
  intro pins s σ H Q I h
  exact isTrue_not (ha pins s σ H (fun c H1 => Q (!c) H1) I h)
/-- .. as values (bools) -/
def tAndV (ta tb : TE) : TE := fun σ H Q => ta σ H fun x H1 => ∃ c, x = .bl c ∧ if c = true then tb σ H1 Q else Q (.bl false) H1
def tOrV (ta tb : TE) : TE := fun σ H Q => ta σ H fun x H1 => ∃ c, x = .bl c ∧ if c = true then Q (.bl true) H1 else tb σ H1 Q
def tNotV (ta : TE) : TE := fun σ H Q => ta σ H fun x H1 => ∃ c, x = .bl c ∧ Q (.bl (!c)) H1
theorem pe_one {op} {t : TE} (h : PE X a t) : PE X (.BoolOp op [a] pos) t := fun pins s σ H Q I hw => BoolOp_one (h pins s σ H Q I hw)
theorem pe_and (ha : PE X a ta) (hb : PE X (.BoolOp .And (b :: rest) pos) tb) : PE X (.BoolOp .And (a :: b :: rest) pos) (tAndV ta tb) := by
  intro pins s σ H Q I h
  refine BoolOp_and (thn (ha pins s σ H _ I h) fun v s1 ⟨x, H1, I1, r1, q1⟩ => ?_)
  obtain ⟨c, rfl, q1⟩ := q1
  cases r1
  refine wpAny_truthy_bool ?_
  cases c with
  | true => exact hb pins s1 σ H1 Q I1 q1
  | false => exact ⟨.bl false, H1, I1, rfl, q1⟩
theorem pe_or (ha : PE X a ta) (hb : PE X (.BoolOp .Or (b :: rest) pos) tb) : PE X (.BoolOp .Or (a :: b :: rest) pos) (tOrV ta tb) := by
  intro pins s σ H Q I h
  refine BoolOp_or (thn (ha pins s σ H _ I h) fun v s1 ⟨x, H1, I1, r1, q1⟩ => ?_)
  obtain ⟨c, rfl, q1⟩ := q1
  cases r1
  refine wpAny_truthy_bool ?_
  cases c with
  | false => exact hb pins s1 σ H1 Q I1 q1
  | true => exact ⟨.bl true, H1, I1, rfl, q1⟩
theorem pe_not (ha : PE X a ta) : PE X (.UnaryOp .Not a pos) (tNotV ta) := by
  intro pins s σ H Q I h
  refine UnaryOp_ (thn (ha pins s σ H _ I h) fun v s1 ⟨x, H1, I1, r1, q1⟩ => ?_)
  obtain ⟨c, rfl, q1⟩ := q1
  cases r1
  exact not_of (wpAny_truthy_bool ⟨.bl (!c), H1, I1, rfl, q1⟩)
/-- a if t else b -/
def tIf (t : TT) (ta tb : TE) : TE := fun σ H Q => t σ H fun c H1 => if c = true then ta σ H1 Q else tb σ H1 Q
theorem pe_ifExp {c : Expr} (hc : PT X c tA) (ha : PE X a ta) (hb : PE X b tb) : PE X (.IfExp c a b pos) (tIf tA ta tb) := by
  intro pins s σ H Q I h
  refine wpAny_IfExp (thn (hc pins s σ H _ I h) fun d s1 ⟨H1, I1, q1⟩ => ?_)
  cases d with
  | true => exact ha pins s1 σ H1 Q I1 q1
  | false => exact hb pins s1 σ H1 Q I1 q1
end
end L2

namespace L2
open PySem PySem.Spec PyProof.Rows

/-! ### a list, a tuple that is read: tracked, frozen, or an object of the module -/
def SqL (K : PySem.W.Frag) (H : Hp) (a : Addr) (xs : List V) : Prop :=
  Rd H a (.lst xs) ∨
    ∃ (o : Obj) (its : Array Value) (n : Nat), K.lookup a = some o ∧ o.cls = .type "list" ∧ o.dict = none ∧ o.data = .seq its n ∧ its.size ≤ sizeLine ∧ Vals xs its.toList
def SqT (K : PySem.W.Frag) (H : Hp) (a : Addr) (xs : List V) : Prop :=
  Rd H a (.tup xs) ∨
    ∃ (o : Obj) (its : Array Value) (n : Nat), K.lookup a = some o ∧ o.cls = .type "tuple" ∧ o.data = .seq its n ∧ its.size ≤ sizeLine ∧ Vals xs its.toList
def absV : Value → Option V
  | .none => some .non
  | .bool b => some (.bl b)
  | .int i _ => some (.int i)
  | .str x _ => some (.str x)
  | .bytes b _ => some (.byt b)
  | .float b _ => some (.flt b)
  | .ref a => some (.ref a)
  | .type n => some (.ty n)
  | _ => none
theorem RelV.abs {x : V} {u : Value} (r : RelV x u) : absV u = some x := by
  cases x with
  | non => cases r; rfl
  | bl _ => cases r; rfl
  | int _ => obtain ⟨t, rfl⟩ := r; rfl
  | str _ => obtain ⟨t, rfl⟩ := r; rfl
  | byt _ => obtain ⟨t, rfl⟩ := r; rfl
  | flt _ => obtain ⟨t, rfl⟩ := r; rfl
  | ref _ => cases r; rfl
  | ty _ => cases r; rfl
theorem RelV.inj {x y : V} {u : Value} (r : RelV x u) (q : RelV y u) : x = y := Option.some.inj (r.abs.symm.trans q.abs)
theorem Vals.inj : ∀ {xs ys : List V} {us : List Value}, Vals xs us → Vals ys us → xs = ys
  | _, _, _, .nil, .nil => rfl
  | _, _, _, .cons r t, .cons r' t' => by rw [r.inj r', Vals.inj t t']
section
variable {X : Cx} {pins : List (Addr × Obj)} {σ : St} {H : Hp} {s : Shared} {a : Addr} {xs ys : List V}
theorem SqL.of {K : PySem.W.Frag} (h : H a = some (.lst xs)) : SqL K H a xs := .inl (.inl h)
theorem SqT.of {K : PySem.W.Frag} (h : H a = some (.tup xs)) : SqT K H a xs := .inl (.inl h)
theorem Inv.list (I : Inv X pins σ H s) (h : SqL X.K H a xs) : ∃ its : List Value, Vals xs its ∧ PlainL s.heap a its.toArray ∧ xs.length ≤ sizeLine := by
  rcases h with h | ⟨o, its, n, hk, hc, hd, hs, hz, r⟩
  · obtain ⟨z, its, n, r, e⟩ := h.ok I.hok
    exact ⟨its, r, ⟨_, n, e, rfl, rfl, rfl⟩, z⟩
  · refine ⟨its.toList, r, ⟨o, n, I.kIn a o hk, hc, hd, by simpa using hs⟩, ?_⟩
    have e := r.length
    simp only [Array.length_toList] at e
    omega
theorem Inv.tuple (I : Inv X pins σ H s) (h : SqT X.K H a xs) : ∃ its : List Value, Vals xs its ∧ IsTup s.heap a its.toArray ∧ xs.length ≤ sizeLine := by
  rcases h with h | ⟨o, its, n, hk, hc, hs, hz, r⟩
  · obtain ⟨z, its, r, p⟩ := h.ok I.hok
    exact ⟨its, r, p, z⟩
  · refine ⟨its.toList, r, ⟨o, I.kIn a o hk, hc, n, by simpa using hs⟩, ?_⟩
    have e := r.length
    simp only [Array.length_toList] at e
    omega
theorem Inv.list_inj (I : Inv X pins σ H s) (h : SqL X.K H a xs) (h' : SqL X.K H a ys) : xs = ys := by
  obtain ⟨its, r, ⟨o, n, e, _, _, d⟩, _⟩ := I.list h
  obtain ⟨its', r', ⟨o', n', e', _, _, d'⟩, _⟩ := I.list h'
  rw [e] at e'; cases e'
  rw [d] at d'
  injection d' with d1 _
  have : its = its' := by simpa using congrArg Array.toList d1
  subst this
  exact r.inj r'
theorem Inv.tuple_inj (I : Inv X pins σ H s) (h : SqT X.K H a xs) (h' : SqT X.K H a ys) : xs = ys := by
  obtain ⟨its, r, ⟨o, e, _, n, d⟩, _⟩ := I.tuple h
  obtain ⟨its', r', ⟨o', e', _, n', d'⟩, _⟩ := I.tuple h'
  rw [e] at e'; cases e'
  rw [d] at d'
  injection d' with d1 _
  have : its = its' := by simpa using congrArg Array.toList d1
  subst this
  exact r.inj r'
end

/-! ### another wish about exceptions -/
abbrev Cx.wish (X : Cx) (E : Value → Shared → Prop) : Cx := { X with xe := E }
/-- no exception leaves -/
abbrev Cx.nox (X : Cx) : Cx := X.wish fun _ _ => False
theorem Cx.Ok.wish {X : Cx} (ok : X.Ok) (E : Value → Shared → Prop) : (X.wish E).Ok :=
  ⟨ok.mod, ok.kind, ok.glob, ok.blt, ok.above, ok.inj, ok.has, ok.cab, ok.hd, ok.frames, ok.stk, ok.exf, ok.bs, ok.bsz, ok.noex, ok.exfs, ok.funs, ok.frf⟩
theorem Cx.Ok.unwish {X : Cx} {E : Value → Shared → Prop} (ok : (X.wish E).Ok) : X.Ok :=
  ⟨ok.mod, ok.kind, ok.glob, ok.blt, ok.above, ok.inj, ok.has, ok.cab, ok.hd, ok.frames, ok.stk, ok.exf, ok.bs, ok.bsz, ok.noex, ok.exfs, ok.funs, ok.frf⟩
section
variable {X : Cx} {pins : List (Addr × Obj)} {σ : St} {H : Hp} {s : Shared} {E : Value → Shared → Prop}
theorem Inv.wish (I : Inv X pins σ H s) (E : Value → Shared → Prop) : Inv (X.wish E) pins σ H s := ⟨I.ok.wish E, I.os, I.bare, I.base, I.loc, I.cell, I.free, I.freeC, I.pin, I.hok, I.len⟩
theorem Inv.unwish (I : Inv (X.wish E) pins σ H s) : Inv X pins σ H s := ⟨I.ok.unwish, I.os, I.bare, I.base, I.loc, I.cell, I.free, I.freeC, I.pin, I.hok, I.len⟩
theorem SP.unwish {D : Ends} {f : Flow} {s' : Shared} (h : SP (X.wish E) pins D f s') : SP X pins D f s' := by
  cases f with
  | next => obtain ⟨σ', H', I, q⟩ := h; exact ⟨σ', H', I.unwish, q⟩
  | brk => obtain ⟨σ', H', I, q⟩ := h; exact ⟨σ', H', I.unwish, q⟩
  | cont => obtain ⟨σ', H', I, q⟩ := h; exact ⟨σ', H', I.unwish, q⟩
  | ret u => obtain ⟨v, σ', H', I, r, q⟩ := h; exact ⟨v, σ', H', I.unwish, r, q⟩
theorem PE.nox {e : Expr} {t : TE} (h : PE X.nox e t) : PE X e t := fun pins s σ H Q I hw =>
  wpAny_mono (h pins s σ H Q (I.wish _) hw) (fun _ _ ⟨v, H', I', r, q⟩ => ⟨v, H', I'.unwish, r, q⟩) fun _ _ z => False.elim z
theorem PT.nox {e : Expr} {t : TT} (h : PT X.nox e t) : PT X e t := fun pins s σ H Q I hw =>
  wpAny_mono (h pins s σ H Q (I.wish _) hw) (fun _ _ ⟨H', I', q⟩ => ⟨H', I'.unwish, q⟩) fun _ _ z => False.elim z
theorem PSs.nox {st : List Stmt} {t : TS} (h : PSs X.nox st t) : PSs X st t := fun pins s σ H D I hw =>
  wpAny_mono (h pins s σ H D (I.wish _) hw) (fun _ _ q => q.unwish) fun _ _ z => False.elim z
end

/-! ### blocks and small statements -/
section
variable {X : Cx} {st : Stmt} {rest : List Stmt} {t u : TS} {e : Expr} {te : TE} {pos : Pos}
def tNext : TS := fun D σ H => D.nx σ H
def tSeq (t u : TS) : TS := fun D σ H => t { D with nx := u D } σ H
theorem pss_nil : PSs X [] tNext := fun _ _ σ H _ I h => wpAny_execs_nil ⟨σ, H, I, h⟩
theorem pss_cons (h1 : PS X st t) (h2 : PSs X rest u) : PSs X (st :: rest) (tSeq t u) := by
  intro pins s σ H D I h
  refine wpAny_execs_cons (thn (h1 pins s σ H { D with nx := u D } I h) fun f s1 q => ?_)
  cases f with
  | next =>
    obtain ⟨σ', H', I', q⟩ := q
    exact h2 pins s1 σ' H' D I' q
  | ret v => exact q
  | brk => exact q
  | cont => exact q
theorem pss_one (h1 : PS X st t) : PSs X [st] t := by
  intro pins s σ H D I h
  refine wpAny_execs_cons (thn (h1 pins s σ H D I h) fun f s1 q => ?_)
  cases f with
  | next => exact wpAny_execs_nil q
  | ret v => exact q
  | brk => exact q
  | cont => exact q
def tBreak : TS := fun D σ H => D.bk σ H
def tCont : TS := fun D σ H => D.ct σ H
theorem ps_pass : PS X (.Pass pos) tNext := fun _ _ σ H _ I h => wpAny_Pass ⟨σ, H, I, h⟩
theorem ps_break : PS X (.Break pos) tBreak := fun _ _ σ H _ I h => wpAny_Break ⟨σ, H, I, h⟩
theorem ps_continue : PS X (.Continue pos) tCont := fun _ _ σ H _ I h => wpAny_Continue ⟨σ, H, I, h⟩
/-- in a def's body nothing is shown -/
theorem Inv.quiet {pins : List (Addr × Obj)} {σ : St} {H : Hp} {s : Shared} (I : Inv X pins σ H s) : interactive X.env = false := by simp [interactive, I.ok.kind]
/-- a docstring -/
theorem ps_doc {x j pos pos'} : PS X (.Expr (.Constant (.str x) j pos) pos') tNext := fun _ s σ H _ I h => wpAny_Expr (Calls.Constant_str (show SP X _ _ .next { s with toks := s.toks + 1 } from ⟨σ, H, I.tok _, h⟩)) I.quiet
/-- an expression whose value is dropped -/
def tDrop (te : TE) : TS := fun D σ H => te σ H fun _ H1 => D.nx σ H1
theorem ps_expr (he : PE X e te) (hs : swapsWith e none pos.line X.env = pure false := by rfl) : PS X (.Expr e pos) (tDrop te) := by
  intro pins s σ H D I h
  exact wpAny_Expr_any (thn (he pins s σ H _ I h) fun v s1 ⟨x, H1, I1, r1, q1⟩ => ⟨σ, H1, I1, q1⟩) I.quiet hs
def tRet (te : TE) : TS := fun D σ H => te σ H D.rt
theorem ps_ret (he : PE X e te) : PS X (.Return (some e) pos) (tRet te) := by
  intro pins s σ H D I h
  exact wpAny_Return_some (thn (he pins s σ H _ I h) fun v s1 ⟨x, H1, I1, r1, q1⟩ => ⟨x, σ, H1, I1, r1, q1⟩)
def tRetN : TS := fun D _ H => D.rt .non H
theorem ps_retN : PS X (.Return none pos) tRetN := fun _ _ σ H _ I h => wpAny_Return_none ⟨.non, σ, H, I, rfl, h⟩
def tIfS (c : TT) (t u : TS) : TS := fun D σ H => c σ H fun b H1 => if b = true then t D σ H1 else u D σ H1
theorem ps_if {c : Expr} {a b : List Stmt} {tc : TT} (hc : PT X c tc) (ha : PSs X a t) (hb : PSs X b u) : PS X (.If c a b pos) (tIfS tc t u) := by
  intro pins s σ H D I h
  refine wpAny_If (thn (hc pins s σ H _ I h) fun d s1 ⟨H1, I1, q1⟩ => ?_)
  cases d with
  | true => exact ha pins s1 σ H1 D I1 q1
  | false => exact hb pins s1 σ H1 D I1 q1
/-- code that the proof never comes to -/
def tNever : TS := fun _ _ _ => False
theorem ps_never : PS X st tNever := fun _ _ _ _ _ _ h => h.elim
theorem pss_never {sts : List Stmt} : PSs X sts tNever := fun _ _ _ _ _ _ h => h.elim
end

/-! ### targets -/
abbrev TG := V → St → Hp → (St → Hp → Prop) → Prop
abbrev TGs := List V → St → Hp → (St → Hp → Prop) → Prop
def PG (X : Cx) (target : Expr) (t : TG) : Prop :=
  ∀ (pins : List (Addr × Obj)) (s : Shared) (σ : St) (H : Hp) (v : V) (u : Value) (Q : St → Hp → Prop), Inv X pins σ H s → RelV v u → t v σ H Q →
    wpAny (model X.prog X.w) X.A (assign target X.env u) (fun _ s' => ∃ σ' H', Inv X pins σ' H' s' ∧ Q σ' H') X.xe s
/-- several targets, one after another -/
def PGs (X : Cx) (ts : List Expr) (t : TGs) : Prop :=
  ∀ (pins : List (Addr × Obj)) (s : Shared) (σ : St) (H : Hp) (vs : List V) (us : List Value) (Q : St → Hp → Prop), Inv X pins σ H s → Vals vs us → t vs σ H Q →
    wpAny (model X.prog X.w) X.A (assignInOrder ((assignEach ts X.env).map (·.2)) us) (fun _ s' => ∃ σ' H', Inv X pins σ' H' s' ∧ Q σ' H') X.xe s
/-- o[i] = v, by values -/
abbrev TSet := V → V → V → Hp → (Hp → Prop) → Prop
def PSet (X : Cx) (t : TSet) : Prop :=
  ∀ (pins : List (Addr × Obj)) (s : Shared) (σ : St) (H : Hp) (o i v : V) (ov iv u : Value) (Q : Hp → Prop), Inv X pins σ H s → RelV o ov → RelV i iv → RelV v u → t o i v H Q →
    wpAny (model X.prog X.w) X.A (setItem ov iv u) (fun _ s' => ∃ H', Inv X pins σ H' s' ∧ Q H') X.xe s
/-- a op= b, by values -/
abbrev TIp := V → V → Hp → VK → Prop
def PIp (X : Cx) (op : Operator) (t : TIp) : Prop :=
  ∀ (pins : List (Addr × Obj)) (s : Shared) (σ : St) (H : Hp) (x y : V) (v u : Value) (Q : VK), Inv X pins σ H s → RelV x v → RelV y u → t x y H Q →
    wpAny (model X.prog X.w) X.A (inplaceOp op v u) (EP X pins σ Q) X.xe s
section
variable {X : Cx} {pos : Pos}
def gName (i : Nat) : TG := fun v σ H Q => Q (σ.set i (some v)) H
theorem pg_name {i : Nat} {x : Str} (hN : X.N.Nodup) (hi : X.N[i]? = some x) (hx : Loc X.env.scope x) (hf : X.fn x = true ∨ X.env.scope.names.lookup x = some .local := by first | exact .inl rfl | exact .inr rfl | assumption) : PG X (.Name x pos) (gName i) := by
  intro pins s σ H v u Q I r h
  exact wpAny_assign_Name (store_ok I hN hi hx r (fun s' I' => ⟨_, H, I', h⟩) hf)
def gNil : TGs := fun vs σ H Q => vs = [] ∧ Q σ H
def gCons (t : TG) (u : TGs) : TGs := fun vs σ H Q => ∃ v r, vs = v :: r ∧ t v σ H fun σ' H' => u r σ' H' Q
theorem pgs_nil : PGs X [] gNil := by
  intro pins s σ H vs us Q I r h
  obtain ⟨e, h⟩ := h
  subst e
  cases r
  exact assignInOrder_nil ⟨σ, H, I, h⟩
theorem pgs_cons {e : Expr} {es : List Expr} {t : TG} {u : TGs} (h1 : PG X e t) (h2 : PGs X es u)
    (hs : (assignEach (e :: es) X.env).map (·.2) = assign e X.env :: (assignEach es X.env).map (·.2) := by rfl) : PGs X (e :: es) (gCons t u) := by
  intro pins s σ H vs us Q I r h
  obtain ⟨v, vr, e1, h⟩ := h
  subst e1
  cases r with
  | cons r rr =>
    rw [hs]
    refine assignInOrder_cons (thn (h1 pins s σ H _ _ _ I r h) fun _ s1 ⟨σ1, H1, I1, q1⟩ => ?_)
    exact h2 pins s1 σ1 H1 _ _ Q I1 rr q1
/-- (a, b, ..) = a tuple of that length -/
def gTup (K : PySem.W.Frag) (n : Nat) (t : TGs) : TG := fun v σ H Q => ∃ a xs, v = .ref a ∧ SqT K H a xs ∧ xs.length = n ∧ t xs σ H Q
theorem pg_tup {es : List Expr} {k : Nat} {t : TGs} {n : Nat} (hc : X.calm = true) (h : PGs X es t)
    (hn : (assignEach es X.env).length = n := by rfl) (hst : (assignEach es X.env).findIdx? (·.1) = none := by rfl) : PG X (.Tuple es k pos) (gTup X.K n t) := by
  intro pins s σ H v u Q I r hw
  obtain ⟨a, xs, e1, hq, hl, hw⟩ := hw
  subst e1
  cases r
  obtain ⟨its, rv, ht, hz⟩ := I.tuple hq
  refine assign_Tuple_tuple (I.ok.hd hc) ht (by simp [hn, ← hl, rv.length]) hst fun h' hx => ?_
  have I1 : Inv X pins σ H { s with heap := h' } := I.kept (t' := s.toks) fun b o e => hx b o (Nat.ne_of_lt (Heap.lt_size e)) e
  exact h pins _ σ H xs _ Q I1 (by simpa using rv) hw
/-- o[i] = .. -/
def gSub (to ti : TE) (t : TSet) : TG := fun v σ H Q => to σ H fun o H1 => ti σ H1 fun i H2 => t o i v H2 fun H3 => Q σ H3
theorem pg_sub {o i : Expr} {to ti : TE} {t : TSet} (ho : PE X o to) (hi : PE X i ti) (hs : PSet X t)
    (ha : ∀ v, assign (.Subscript o i pos) X.env v = (do
      let ov ← holding [v] (eval o X.env)
      let iv ← holding [v, ov] (eval i X.env)
      standAt pos
      holding [v, ov, iv] (setItem ov iv v)
      release [v, ov, iv] []) := by intro _; rfl) : PG X (.Subscript o i pos) (gSub to ti t) := by
  intro pins s σ H v u Q I r h
  rw [ha]
  refine wpAny_bind (wpAny_holding (thn (ho pins s σ H _ I h) fun ov s1 ⟨x, H1, I1, r1, q1⟩ => ?_))
  refine wpAny_bind (wpAny_holding (thn (hi pins s1 σ H1 _ I1 q1) fun iv s2 ⟨y, H2, I2, r2, q2⟩ => ?_))
  refine wpAny_bind (wpAny_standAt (wpAny_bind (wpAny_holding (thn (hs pins s2 σ H2 x y v ov iv u _ I2 r1 r2 r q2) fun _ s3 ⟨H3, I3, q3⟩ => ?_))))
  exact wpAny_release ⟨σ, H3, I3, q3⟩
/-- target = value -/
def tAsg (te : TE) (g : TG) : TS := fun D σ H => te σ H fun x H1 => g x σ H1 D.nx
theorem ps_asg {tg e : Expr} {te : TE} {g : TG} (he : PE X e te) (hg : PG X tg g) (hs : swapsWithSole [tg] e pos.line X.env = pure false := by rfl) (hw : swappedStores [tg] e X.env = pure none := by rfl)
    (h1 : (assignEach [tg] X.env).map (·.2) = [assign tg X.env] := by rfl) : PS X (.Assign [tg] e pos) (tAsg te g) := by
  intro pins s σ H D I h
  refine wpAny_Assign_stores (thn (he pins s σ H _ I h) fun v s1 ⟨x, H1, I1, r1, q1⟩ => ?_) hs hw
  rw [h1]
  exact thn (hg pins s1 σ H1 x v _ I1 r1 q1) fun _ s2 q => q
/-- name = value -/
theorem ps_set {i : Nat} {x : Str} {e : Expr} {te : TE} {pos' : Pos} (hN : X.N.Nodup) (hi : X.N[i]? = some x) (hx : Loc X.env.scope x) (he : PE X e te) (hs : swapsWith e (some (.Name x pos')) pos.line X.env = pure false := by rfl) (hf : X.fn x = true ∨ X.env.scope.names.lookup x = some .local := by first | exact .inl rfl | exact .inr rfl | assumption) :
    PS X (.Assign [.Name x pos'] e pos) (tAsg te (gName i)) := by
  intro pins s σ H D I h
  refine wpAny_Assign_Name (thn (he pins s σ H _ I h) fun v s1 ⟨y, H1, I1, r1, q1⟩ => ?_) hs
  exact store_ok I1 hN hi hx r1 (fun s2 I2 => ⟨_, H1, I2, q1⟩) hf
/-- a, b = x, y with plain local names: stored from the right; the pair itself is not tracked (the opening rows as in PyProof/Rows/TupAssign.lean:23) -/
def tPar (i j : Nat) (ta : TA) : TS := fun D σ H => ta σ H fun vs H1 => ∃ v w, vs = [v, w] ∧ D.nx ((σ.set i (some v)).set j (some w)) H1
theorem ps_par {i j : Nat} {x y : Str} {a b : Expr} {ta : TA} {px py pt : Pos} {kt k2 pt2} (hc : X.calm = true) (hN : X.N.Nodup) (hi : X.N[i]? = some x) (hj : X.N[j]? = some y) (hij : i ≠ j)
    (hx : X.env.scope.names.lookup x = some .local) (hy : X.env.scope.names.lookup y = some .local) (ha : PA X [a, b] ta)
    (hw : swappedStores [.Tuple [.Name x px, .Name y py] kt pt] (.Tuple [a, b] k2 pt2) X.env = pure (some [x, y]))
    (hs : swapsWithSole [.Tuple [.Name x px, .Name y py] kt pt] (.Tuple [a, b] k2 pt2) pos.line X.env = pure false := by rfl) :
    PS X (.Assign [.Tuple [.Name x px, .Name y py] kt pt] (.Tuple [a, b] k2 pt2) pos) (tPar i j ta) := by
  intro pins s σ H D I h
  rw [exec_Assign_arm]
  refine wpAny_bind (wpAny_standAt ?_)
  rw [hs]
  refine wpAny_bind (wpAny_pure ?_)
  rw [if_neg (by decide)]
  refine wpAny_bind (Tuple_ (thn (ha _ pins s σ H _ I h) fun us s1 ⟨vs, H1, I1, r1, q1⟩ => ?_))
  obtain ⟨v, w, e1, q1⟩ := q1
  subst e1
  obtain ⟨u1, u2, rfl, rv, rw'⟩ : ∃ u1 u2, us = [u1, u2] ∧ RelV v u1 ∧ RelV w u2 := by
    cases r1 with
    | cons p q =>
      cases q with
      | cons p' q' =>
        cases q'
        exact ⟨_, _, rfl, p, p'⟩
  refine wpAny_newObj_type ?_ (by show 2 ≤ sizeLine; decide)
  have I2 : Inv X pins σ H1 { s1 with heap := s1.heap.push { cls := .type "tuple", data := .seq [u1, u2].toArray } } := I1.kept (t' := s1.toks) fun b o e => Heap.get?_push_of_some _ e
  rw [hw]
  refine wpAny_bind (wpAny_pure ?_)
  show wpAny (model X.prog X.w) X.A (do rule "assign.swapped-stores"; let items ← unpackItems (.ref s1.heap.objs.size) 2 none; assignInOrder [fun v => bindName X.env y v, fun v => bindName X.env x v] items.reverse; pure Flow.next) _ _ _
  refine wpAny_bind (wpAny_rule (wpAny_bind (unpackItems_tuple (items := #[u1, u2]) (I.ok.hd hc) (IsTup.new s1.heap _) fun h' hx' => ?_)))
  have I3 := I2.kept (h' := h') (t' := s1.toks) fun b o e => hx' b o (Nat.ne_of_lt (Heap.lt_size e)) e
  show wpAny _ _ (assignInOrder [fun v => bindName X.env y v, fun v => bindName X.env x v] [u2, u1] >>= fun _ => pure Flow.next) _ _ _
  refine wpAny_bind (assignInOrder_cons (wpAny_bindName (store_ok I3 hN hj (.inl hy) rw' (fun s2 I4 => ?_) (.inr hy))))
  refine assignInOrder_cons (wpAny_bindName (store_ok I4 hN hi (.inl hx) rv (fun s3 I5 => assignInOrder_nil (wpAny_pure ?_)) (.inr hx)))
  rw [List.set_comm _ _ (Ne.symm hij)] at I5
  exact ⟨_, H1, I5, q1⟩
/-- name op= e -/
def tAug (i : Nat) (te : TE) (ti : TIp) : TS := fun D σ H => ∃ x, σ[i]? = some (some x) ∧ te σ H fun y H1 => ti x y H1 fun z H2 => D.nx (σ.set i (some z)) H2
theorem ps_aug {i : Nat} {x : Str} {e : Expr} {te : TE} {op : Operator} {ti : TIp} {pos' : Pos} (hN : X.N.Nodup) (hi : X.N[i]? = some x) (hx : Loc X.env.scope x) (he : PE X e te) (ho : PIp X op ti) (hf : X.fn x = true ∨ X.env.scope.names.lookup x = some .local := by first | exact .inl rfl | exact .inr rfl | assumption) :
    PS X (.AugAssign (.Name x pos') op e pos) (tAug i te ti) := by
  intro pins s σ H D I h
  obtain ⟨v, e1, h⟩ := h
  obtain ⟨m, hn, hl⟩ := I.loc
  have vis : Vis X.env.scope x := by rcases hx with k | k; exact .inl k; exact .inr (.inl k)
  obtain ⟨u, r, l⟩ := hl i x v hi e1 vis
  refine wpAny_AugAssign_Name ?_
  have go : wpAny (model X.prog X.w) X.A (eval e X.env) (fun w s₂ => wpAny (model X.prog X.w) X.A (inplaceOp op u w) (fun r s₃ => wpAny (model X.prog X.w) X.A (storeName X.env x r) (fun _ => SP X pins D .next) X.xe s₃) X.xe s₂) X.xe s := by
    refine thn (he pins s σ H _ I h) fun w s1 ⟨y, H1, I1, r1, q1⟩ => ?_
    refine thn (ho pins s1 σ H1 v y u w _ I1 r r1 q1) fun z s2 ⟨zv, H2, I2, r2, q2⟩ => ?_
    exact store_ok I2 hN hi hx r2 (fun s3 I3 => ⟨_, H2, I3, q2⟩) hf
  rcases l with ⟨hk, hm⟩ | ⟨hk, c, hc, hcell⟩
  · exact wpAny_loadName_local I.ok.kind hk hn hm go
  · rcases hk with hk | hk
    · exact wpAny_loadName_cell I.ok.kind hk hc hcell go
    · rcases hx with k | k
      · have : X.env.scope.names.lookup x = some .free := hk
        rw [k] at this; cases this
      · have : X.env.scope.names.lookup x = some .free := hk
        rw [k] at this; cases this
/-- o[i] op= e -/
def tAugS (to ti te : TE) (tget : V → V → Hp → VK → Prop) (tip : TIp) (tset : TSet) : TS := fun D σ H => to σ H fun o H1 => ti σ H1 fun i H2 => tget o i H2 fun x H3 => te σ H3 fun y H4 => tip x y H4 fun z H5 => tset o i z H5 fun H6 => D.nx σ H6
/-- o[i], by values -/
def PGet (X : Cx) (t : V → V → Hp → VK → Prop) : Prop :=
  ∀ (pins : List (Addr × Obj)) (s : Shared) (σ : St) (H : Hp) (o i : V) (ov iv : Value) (Q : VK), Inv X pins σ H s → RelV o ov → RelV i iv → t o i H Q →
    wpAny (model X.prog X.w) X.A (getItem ov iv) (EP X pins σ Q) X.xe s
theorem ps_augS {o i e : Expr} {to ti te : TE} {tget : V → V → Hp → VK → Prop} {tip : TIp} {tset : TSet} {op : Operator} {tpos : Pos} (ho : PE X o to) (hi : PE X i ti) (hg : PGet X tget) (he : PE X e te) (hp : PIp X op tip) (hs : PSet X tset)
    (ha : ∀ ov iv new, augStore i ov iv new = (do holding [new, ov, iv] (setItem ov iv new); release [new, ov, iv] []; pure .next) := by intros; rfl) : PS X (.AugAssign (.Subscript o i tpos) op e pos) (tAugS to ti te tget tip tset) := by
  intro pins s σ H D I h
  refine wpAny_AugAssign_SubscriptAny (thn (ho pins s σ H _ I h) fun ov s1 ⟨x1, H1, I1, r1, q1⟩ => ?_) ha
  refine thn (hi pins s1 σ H1 _ I1 q1) fun iv s2 ⟨x2, H2, I2, r2, q2⟩ => ?_
  refine thn (hg pins s2 σ H2 x1 x2 ov iv _ I2 r1 r2 q2) fun old s3 ⟨x3, H3, I3, r3, q3⟩ => ?_
  refine thn (he pins s3 σ H3 _ I3 q3) fun v s4 ⟨x4, H4, I4, r4, q4⟩ => ?_
  refine thn (hp pins s4 σ H4 x3 x4 old v _ I4 r3 r4 q4) fun new s5 ⟨x5, H5, I5, r5, q5⟩ => ?_
  exact thn (hs pins s5 σ H5 x1 x2 x5 ov iv new _ I5 r1 r2 r5 q5) fun _ s6 ⟨H6, I6, q6⟩ => ⟨σ, H6, I6, q6⟩
/-- ints -/
def ipI (f : Int → Int → Int) : TIp := fun x y H Q => ∃ i j, x = .int i ∧ y = .int j ∧ Q (.int (f i j)) H
theorem ip_add : PIp X .Add (ipI fun i j => i + j) := by
  intro pins s σ H x y v u Q I r1 r2 h
  obtain ⟨i, j, e1, e2, q⟩ := h
  subst e1; subst e2
  obtain ⟨t, rfl⟩ := r1
  obtain ⟨t', rfl⟩ := r2
  exact iadd_int ⟨.int _, H, I.tok _, ⟨_, rfl⟩, q⟩
theorem ip_sub : PIp X .Sub (ipI fun i j => i - j) := by
  intro pins s σ H x y v u Q I r1 r2 h
  obtain ⟨i, j, e1, e2, q⟩ := h
  subst e1; subst e2
  obtain ⟨t, rfl⟩ := r1
  obtain ⟨t', rfl⟩ := r2
  exact isub_int ⟨.int _, H, I.tok _, ⟨_, rfl⟩, q⟩
end

/-! ### while -/
section
variable {X : Cx} {pos : Pos}
/-- the invariant W with its measure -/
def tWhile (c : TT) (tb : TS) : TS := fun D σ H => ∃ W : Nat → St → Hp → Prop, (∃ m, W m σ H) ∧ ∀ m σ H, W m σ H →
  c σ H fun b H1 => if b = true then ∃ N : St → Hp → Prop, (∀ σ' H', N σ' H' → ∃ m', m' < m ∧ W m' σ' H') ∧ tb { D with nx := N, ct := N, bk := D.nx } σ H1 else D.nx σ H1
theorem ps_while {c : Expr} {body : List Stmt} {tc : TT} {tb : TS} (hp : PassesOwn (model X.prog X.w) X.A X.env X.xe) (hc : PT X c tc) (hb : PSs X body tb) : PS X (.While c body [] pos) (tWhile tc tb) := by
  intro pins s σ H D I h
  obtain ⟨W, ⟨m0, w0⟩, turn⟩ := h
  refine wpAny_While (codeAny_whileLoop (fun n s' => ∃ σ' H', Inv X pins σ' H' s' ∧ W n σ' H') ?_ m0 ⟨σ, H, I, w0⟩)
  rintro n s1 ⟨σ1, H1, I1, w1⟩
  refine wpAny_passesOwn hp (thn (hc pins s1 σ1 H1 _ I1 (turn n σ1 H1 w1)) fun b s2 ⟨H2, I2, q2⟩ => ?_)
  cases b with
  | true =>
    obtain ⟨N, hN, q2⟩ := q2
    rw [if_pos rfl]
    refine wpAny_passesOwn hp (thn (hb pins s2 σ1 H2 _ I2 q2) fun f s3 q3 => ?_)
    cases f with
    | next =>
      obtain ⟨σ3, H3, I3, n3⟩ := q3
      obtain ⟨m', hm, w3⟩ := hN σ3 H3 n3
      exact ⟨m', hm, σ3, H3, I3, w3⟩
    | cont =>
      obtain ⟨σ3, H3, I3, n3⟩ := q3
      obtain ⟨m', hm, w3⟩ := hN σ3 H3 n3
      exact ⟨m', hm, σ3, H3, I3, w3⟩
    | brk => exact q3
    | ret v => exact q3
  | false =>
    rw [if_neg Bool.false_ne_true]
    exact wpAny_execs_nil ⟨σ1, H2, I2, q2⟩
end

/-! ### what a loop or a comprehension walks -/
/-- at turn i: it yields x (the heap may grow), or it stops -/
structure It where
  go : Nat → Hp → Prop
  yld : Nat → Hp → V → Hp → Prop
  stop : Nat → Hp → Prop
/-- the iterator's own objects may turn: they are not the frame's, not pinned, younger than the entry (or a comprehension's own) -/
def FpOk (X : Cx) (pins : List (Addr × Obj)) (H : Hp) (b : Addr) : Prop :=
  H b = none ∧ b ≠ X.env.locals ∧ b ∉ X.fs ∧ (b ∈ X.ex ∨ X.s₀.heap.objs.size ≤ b) ∧ (∀ x c, X.env.cells.lookup x = some c → c ≠ b) ∧ ∀ p ∈ X.pn ++ pins, p.1 ≠ b
theorem Inv.fpOk {X : Cx} {pins : List (Addr × Obj)} {σ : St} {H H' : Hp} {s : Shared} {b : Addr} (I : Inv X pins σ H s) (hb : s.heap.objs.size ≤ b) (hn : H' b = none) : FpOk X pins H' b := by
  refine ⟨hn, Nat.ne_of_gt (Nat.lt_of_lt_of_le I.lt hb), I.nofs hb, .inr (Nat.le_trans I.sz hb), fun x c e z => ?_, fun p hp z => ?_⟩
  · obtain ⟨v, q⟩ := I.cell x c e
    exact absurd (Nat.lt_of_lt_of_le q.lt (by rw [z]; exact hb)) (Nat.lt_irrefl _)
  · exact absurd (Nat.lt_of_lt_of_le (Heap.lt_size (I.pin p hp).1) (by rw [z]; exact hb)) (Nat.lt_irrefl _)
structure Turn (P : Program) (w : World) (K : PySem.W.Frag) (tg : Expr) (J : It) (fp : List Addr) (it : Addr) (tn : Nat → Heap → Prop) : Prop where
  mem : it ∈ fp
  obj : ∀ i h, tn i h → ∀ b ∈ fp, ∃ o, h.get? b = some o ∧ ∀ v, o.data ≠ .cell v
  keep : ∀ i h h', tn i h → (∀ b ∈ fp, ∀ o, h.get? b = some o → h'.get? b = some o) → tn i h'
  item : ∀ (X : Cx), X.prog = P → X.w = w → X.K = K → X.calm = true → ∀ (i : Nat) (pins : List (Addr × Obj)) (s : Shared) (σ : St) (H : Hp) (E : Value → Shared → Prop), Inv X pins σ H s → (∀ b ∈ fp, FpOk X pins H b) → tn i s.heap → J.go i H →
    wpAny (model P w) X.A (pyNext (.ref it)) (fun r s1 => ∃ u, r = some u ∧
      wpAny (model P w) X.A (letOwnedTupleGo tg (.ref it) u) (fun _ s2 => ∃ x H', Inv X pins σ H' s2 ∧ RelV x u ∧ J.yld i H x H' ∧ tn (i + 1) s2.heap ∧ ∀ b ∈ fp, H' b = none) E s1) E s
  done : ∀ (X : Cx), X.prog = P → X.w = w → X.K = K → X.calm = true → ∀ (i : Nat) (pins : List (Addr × Obj)) (s : Shared) (σ : St) (H : Hp) (E : Value → Shared → Prop), Inv X pins σ H s → (∀ b ∈ fp, FpOk X pins H b) → tn i s.heap → J.stop i H →
    wpAny (model P w) X.A (pyNext (.ref it)) (fun r s1 => r = none ∧ Inv X pins σ H s1) E s
  self : ∀ (A : Around) (i : Nat) (s : Shared) (Q : Value → Shared → Prop) (E : Value → Shared → Prop), tn i s.heap → Q (.ref it) s → wpAny (model P w) A (pyIter (.ref it)) Q E s
abbrev TI := St → Hp → (It → Hp → Prop) → Prop
/-- an iterator has come -/
def PIE (X : Cx) (pins : List (Addr × Obj)) (σ : St) (tg : Expr) (R : It → Hp → Prop) (itv : Value) (s2 : Shared) : Prop :=
  ∃ (it : Addr) (fp : List Addr) (tn : Nat → Heap → Prop) (J : It) (H' : Hp), itv = .ref it ∧ Inv X pins σ H' s2 ∧ Turn X.prog X.w X.K tg J fp it tn ∧ tn 0 s2.heap ∧ (∀ b ∈ fp, FpOk X pins H' b) ∧ R J H'
def PI (X : Cx) (tg iter : Expr) (wi : TI) : Prop :=
  ∀ (pins : List (Addr × Obj)) (s : Shared) (σ : St) (H : Hp) (R : It → Hp → Prop), Inv X pins σ H s → wi σ H R →
    wpAny (model X.prog X.w) X.A (eval iter X.env) (fun v s1 => wpAny (model X.prog X.w) X.A (pyIter v) (PIE X pins σ tg R) X.xe s1) X.xe s

/-- the step ahead of the store is nothing for an iterator that keeps no tuple -/
theorem go_of {M : Model} {A : Around} {E : Value → Shared → Prop} {s : Shared} {tg : Expr} {it : Addr} {u : Value} {o : Obj} {n : String} {vs : Array Value} {Q : Unit → Shared → Prop} (ho : s.heap.get? it = some o) (hc : o.cls = .type n) (hd : o.data = .fields vs)
    (hn : ["enumerate", "zip", "dict_itemiterator", "dict_reverseitemiterator", "odict_iterator", "itertools.zip_longest", "itertools.pairwise"].contains n = false) (hQ : Q () s) : wpAny M A (letOwnedTupleGo tg (.ref it) u) Q E s := by
  unfold letOwnedTupleGo
  cases tg <;> first
    | exact wpAny_pure hQ
    | (cases u <;> first
        | exact wpAny_pure hQ
        | (refine wpAny_bind (wpAny_load ho ?_)
           rw [hc, hd]
           show wpAny M A (if (["enumerate", "zip", "dict_itemiterator", "dict_reverseitemiterator", "odict_iterator", "itertools.zip_longest", "itertools.pairwise"].contains n && vs[0]? == some (rawInt _)) = true then _ else _) Q E s
           rw [if_neg (by intro h; rw [hn, Bool.false_and] at h; cases h)]
           exact wpAny_pure hQ))

/-- the list at a, as it stands at each turn (a loop may append to it) -/
def Itl (K : PySem.W.Frag) (a : Addr) : It :=
  ⟨fun i H => ∃ xs x, SqL K H a xs ∧ xs[i]? = some x, fun i H x H' => H' = H ∧ ∀ xs, SqL K H a xs → xs[i]? = some x, fun i H => ∃ xs, SqL K H a xs ∧ xs.length ≤ i⟩
def Itt (K : PySem.W.Frag) (a : Addr) : It :=
  ⟨fun i H => ∃ xs x, SqT K H a xs ∧ xs[i]? = some x, fun i H x H' => H' = H ∧ ∀ xs, SqT K H a xs → xs[i]? = some x, fun i H => ∃ xs, SqT K H a xs ∧ xs.length ≤ i⟩
/-- lo, lo + 1, .. (n of them) -/
def Itr (lo : Int) (n : Nat) : It := ⟨fun i _ => i < n, fun i H x H' => H' = H ∧ x = .int (lo + i), fun i _ => n ≤ i⟩
theorem turn_list {P : Program} {w : World} {K : PySem.W.Frag} {tg : Expr} (a it : Addr) : Turn P w K tg (Itl K a) [it] it (fun i h => h.IsListIter it a i) where
  mem := by simp
  obj := fun i h st b hb => by
    have e : b = it := by simpa using hb
    subst e
    obtain ⟨o, e, c, d⟩ := st
    exact ⟨o, e, fun v z => by rw [d] at z; cases z⟩
  keep := fun i h h' st k => st.at fun o e => k it (by simp) o e
  item := by
    intro X hP hw hK hc i pins s σ H E I hf st hg
    subst hP hw hK
    obtain ⟨xs, x, hq, hx⟩ := hg
    obtain ⟨its, rv, p, hz⟩ := I.list hq
    obtain ⟨u, hu, ru⟩ := rv.get hx
    obtain ⟨f0, f1, f2, f3, f4, f5⟩ := hf it (by simp)
    refine wpAny_pyNext_list_item st p.isList (x := u) (by simpa using hu) fun h' st' sb => ?_
    have I1 : Inv X pins σ H { s with heap := h' } := I.turned (t' := s.toks) (fun b o hb e => (sb.2 b hb).trans e) f0 f1 f3 f4 f5
    obtain ⟨o, e, c, d⟩ := id st'
    exact ⟨u, rfl, go_of (s := { s with heap := h' }) e c d (by decide) ⟨x, H, I1, ru, ⟨rfl, fun ys hy => by rw [I.list_inj hy hq]; exact hx⟩, st', fun b hb => (hf b hb).1⟩⟩
  done := by
    intro X hP hw hK hc i pins s σ H E I hf st hg
    subst hP hw hK
    obtain ⟨xs, hq, hx⟩ := hg
    obtain ⟨its, rv, p, hz⟩ := I.list hq
    obtain ⟨f0, f1, f2, f3, f4, f5⟩ := hf it (by simp)
    have hl := rv.length
    exact wpAny_pyNext_list_end (I.ok.hd hc) st p.isList (by simp; omega) fun h' eb => ⟨rfl, I.turned (t' := s.toks) (fun b o hb e => eb b o hb e) f0 f1 f3 f4 f5⟩
  self := fun _ _ _ _ _ st h => wpAny_pyIter_listiter st h
theorem turn_tuple {P : Program} {w : World} {K : PySem.W.Frag} {tg : Expr} (a it : Addr) : Turn P w K tg (Itt K a) [it] it (fun i h => h.IsTupleIter it a i) where
  mem := by simp
  obj := fun i h st b hb => by
    have e : b = it := by simpa using hb
    subst e
    obtain ⟨o, e, c, d⟩ := st
    exact ⟨o, e, fun v z => by rw [d] at z; cases z⟩
  keep := fun i h h' st k => st.at fun o e => k it (by simp) o e
  item := by
    intro X hP hw hK hc i pins s σ H E I hf st hg
    subst hP hw hK
    obtain ⟨xs, x, hq, hx⟩ := hg
    obtain ⟨its, rv, p, hz⟩ := I.tuple hq
    obtain ⟨u, hu, ru⟩ := rv.get hx
    obtain ⟨f0, f1, f2, f3, f4, f5⟩ := hf it (by simp)
    refine wpAny_pyNext_tuple_item st (show s.heap.IsTuple a its.toArray from p) (x := u) (by simpa using hu) fun h' st' sb => ?_
    have I1 : Inv X pins σ H { s with heap := h' } := I.turned (t' := s.toks) (fun b o hb e => (sb.2 b hb).trans e) f0 f1 f3 f4 f5
    obtain ⟨o, e, c, d⟩ := id st'
    exact ⟨u, rfl, go_of (s := { s with heap := h' }) e c d (by decide) ⟨x, H, I1, ru, ⟨rfl, fun ys hy => by rw [I.tuple_inj hy hq]; exact hx⟩, st', fun b hb => (hf b hb).1⟩⟩
  done := by
    intro X hP hw hK hc i pins s σ H E I hf st hg
    subst hP hw hK
    obtain ⟨xs, hq, hx⟩ := hg
    obtain ⟨its, rv, p, hz⟩ := I.tuple hq
    obtain ⟨f0, f1, f2, f3, f4, f5⟩ := hf it (by simp)
    have hl := rv.length
    exact wpAny_pyNext_tuple_end (I.ok.hd hc) st (show s.heap.IsTuple a its.toArray from p) (by simp; omega) fun h' eb => ⟨rfl, I.turned (t' := s.toks) (fun b o hb e => eb b o hb e) f0 f1 f3 f4 f5⟩
  self := fun _ _ _ _ _ st h => wpAny_pyIter_tupleiter st h
theorem turn_range {P : Program} {w : World} {K : PySem.W.Frag} {tg : Expr} (it : Addr) (lo : Int) (n : Nat) : Turn P w K tg (Itr lo n) [it] it (fun i h => IsRangeIter h it (lo + (i : Nat) * 1) ((n : Int) - (i : Nat)) 1) where
  mem := by simp
  obj := fun i h st b hb => by
    have e : b = it := by simpa using hb
    subst e
    exact ⟨_, st, fun v z => by
      have z' : Data.fields _ = Data.cell v := z
      cases z'⟩
  keep := fun i h h' st k => k it (by simp) _ st
  item := by
    intro X hP hw hK hc i pins s σ H E I hf st hg
    subst hP hw hK
    obtain ⟨f0, f1, f2, f3, f4, f5⟩ := hf it (by simp)
    have W := Walks.range (prog := X.prog) (w := X.w) (I.ok.hd hc) it lo 1 n
    refine W.item i s _ _ hg st fun v h' tk hv st' kk => ?_
    obtain ⟨t, rfl⟩ := hv
    have I1 : Inv X pins σ H { s with heap := h', toks := tk } := I.turned (fun b o hb e => kk b o (by simpa using hb) e) f0 f1 f3 f4 f5
    refine ⟨_, rfl, go_of (s := { s with heap := h', toks := tk }) (n := "range_iterator") st' rfl rfl (by decide) ⟨.int (lo + i), H, I1, ⟨t, ?_⟩, ⟨rfl, rfl⟩, st', fun b hb => (hf b hb).1⟩⟩
    rw [Int.mul_one]
  done := by
    intro X hP hw hK hc i pins s σ H E I hf st hg
    subst hP hw hK
    obtain ⟨f0, f1, f2, f3, f4, f5⟩ := hf it (by simp)
    exact wpAny_pyNext_range_end (I.ok.hd hc) st (by have : n ≤ i := hg; omega) fun h' eb => ⟨rfl, I.turned (t' := s.toks) (fun b o hb e => eb b o hb e) f0 f1 f3 f4 f5⟩
  self := fun _ _ _ _ _ st h => wpAny_pyIter_rangeiter st h
end L2

namespace L2
open PySem PySem.Spec PyProof.Rows
section
variable {X : Cx} {tg : Expr}
def iList (K : PySem.W.Frag) (tl : TE) : TI := fun σ H R => tl σ H fun x H1 => ∃ a, x = .ref a ∧ (∃ xs, SqL K H1 a xs) ∧ R (Itl K a) H1
def iTup (K : PySem.W.Frag) (tl : TE) : TI := fun σ H R => tl σ H fun x H1 => ∃ a, x = .ref a ∧ (∃ xs, SqT K H1 a xs) ∧ R (Itt K a) H1
theorem pi_list {l : Expr} {tl : TE} (hl : PE X l tl) : PI X tg l (iList X.K tl) := by
  intro pins s σ H R I h
  refine thn (hl pins s σ H _ I h) fun v s1 ⟨x, H1, I1, r1, q1⟩ => ?_
  obtain ⟨a, e, ⟨xs, hq⟩, q⟩ := q1
  subst e
  cases r1
  obtain ⟨its, rv, p, hz⟩ := I1.list hq
  refine wpAny_pyIter_list p.isList ?_
  refine ⟨s1.heap.objs.size, [s1.heap.objs.size], _, _, H1, rfl, I1.kept (t' := s1.toks) fun b o e => Heap.get?_push_of_some _ e, turn_list a _, ⟨_, Heap.get?_push_size _ rfl, rfl, rfl⟩, fun b hb => ?_, q⟩
  have e : b = s1.heap.objs.size := by simpa using hb
  subst e
  exact I1.fpOk (Nat.le_refl _) (I1.hok.fresh (Nat.le_refl _))
theorem pi_tup {l : Expr} {tl : TE} (hl : PE X l tl) : PI X tg l (iTup X.K tl) := by
  intro pins s σ H R I h
  refine thn (hl pins s σ H _ I h) fun v s1 ⟨x, H1, I1, r1, q1⟩ => ?_
  obtain ⟨a, e, ⟨xs, hq⟩, q⟩ := q1
  subst e
  cases r1
  obtain ⟨its, rv, p, hz⟩ := I1.tuple hq
  refine wpAny_pyIter_tuple (show s1.heap.IsTuple a its.toArray from p) ?_
  refine ⟨s1.heap.objs.size, [s1.heap.objs.size], _, _, H1, rfl, I1.kept (t' := s1.toks) fun b o e => Heap.get?_push_of_some _ e, turn_tuple a _, ⟨_, Heap.get?_push_size _ rfl, rfl, rfl⟩, fun b hb => ?_, q⟩
  have e : b = s1.heap.objs.size := by simpa using hb
  subst e
  exact I1.fpOk (Nat.le_refl _) (I1.hok.fresh (Nat.le_refl _))
/-- a range object just made, walked -/
theorem range_it {pins : List (Addr × Obj)} {σ : St} {H : Hp} {s : Shared} {R : It → Hp → Prop} {E : Value → Shared → Prop} {lo hi : Int} {t u v : Tok} {tk : Nat} (I : Inv X pins σ H s) (h1 : -(2 ^ 62) ≤ lo) (h2 : lo < 2 ^ 62) (h3 : -(2 ^ 62) ≤ hi) (h4 : hi < 2 ^ 62)
    (q : R (Itr lo (hi - lo).toNat) H) : wpAny (model X.prog X.w) X.A (pyIter (.ref s.heap.objs.size)) (PIE X pins σ tg R) E { s with heap := s.heap.push { cls := .type "range", data := .fields #[.int lo t, .int hi u, .int 1 v] }, toks := tk } := by
  refine wpAny_pyIter_range (IsRange.new ..) (small_one h1 h2 h3 h4) ?_
  have I1 : Inv X pins σ H { s with heap := s.heap.push { cls := .type "range", data := .fields #[.int lo t, .int hi u, .int 1 v] }, toks := tk } := I.kept fun b o e => Heap.get?_push_of_some _ e
  refine ⟨(s.heap.push { cls := .type "range", data := .fields #[.int lo t, .int hi u, .int 1 v] }).objs.size, [(s.heap.push { cls := .type "range", data := .fields #[.int lo t, .int hi u, .int 1 v] }).objs.size], _, _, H, rfl,
    I1.kept (t' := tk) fun b o e => Heap.get?_push_of_some _ e, turn_range _ lo (hi - lo).toNat, ?_, fun b hb => ?_, q⟩
  · have e1 : lo + ((0 : Nat) : Int) * 1 = lo := by simp
    have e2 : (((hi - lo).toNat : Nat) : Int) - ((0 : Nat) : Int) = Builtin.Range.rangeSize lo hi 1 := by rw [rangeSize_one]; split <;> omega
    show IsRangeIter _ _ (lo + ((0 : Nat) : Int) * 1) ((((hi - lo).toNat : Nat) : Int) - ((0 : Nat) : Int)) 1
    rw [e1, e2]
    exact Heap.get?_push_size _ rfl
  · have e : b = (s.heap.push { cls := .type "range", data := .fields #[.int lo t, .int hi u, .int 1 v] }).objs.size := by simpa using hb
    subst e
    exact I1.fpOk (Nat.le_refl _) (I1.hok.fresh (Nat.le_refl _))
def iRng1 (ta : TA) : TI := fun σ H R => ta σ H fun vs H1 => ∃ j : Int, vs = [.int j] ∧ -(2 ^ 62) ≤ j ∧ j < 2 ^ 62 ∧ R (Itr 0 j.toNat) H1
def iRng2 (ta : TA) : TI := fun σ H R => ta σ H fun vs H1 => ∃ i j : Int, vs = [.int i, .int j] ∧ (-(2 ^ 62) ≤ i ∧ i < 2 ^ 62 ∧ -(2 ^ 62) ≤ j ∧ j < 2 ^ 62) ∧ R (Itr i (j - i).toNat) H1
theorem pi_range1 {a : Expr} {ta : TA} {p pos : Pos} (hg : Gl X "range") (hm : X.mg "range" = none) (ha : PA X [a] ta) (hs : starEach [a] X.env = [(false, eval a X.env)] := by rfl) : PI X tg (.Call (.Name "range" p) [a] [] pos) (iRng1 ta) := by
  intro pins s σ H R I h
  refine Call_ (ld_blt I hg hm boot_range (PyProof.Rows.callWith_type1 (thn (ha pos pins s σ H _ I h) fun us s1 ⟨vs, H1, I1, r1, q1⟩ => ?_) hs rfl))
  obtain ⟨j, e, q1, q2, q⟩ := q1
  subst e
  cases r1 with
  | cons r rr =>
    cases rr
    obtain ⟨t, rfl⟩ := r
    exact call_range_1 (range_it I1 (by omega) (by omega) q1 q2 (by simpa using q))
theorem pi_range2 {a b : Expr} {ta : TA} {p pos : Pos} (hg : Gl X "range") (hm : X.mg "range" = none) (ha : PA X [a, b] ta) (hs : starEach [a, b] X.env = [(false, eval a X.env), (false, eval b X.env)] := by rfl) (hs2 : starEach [b] X.env = [(false, eval b X.env)] := by rfl) :
    PI X tg (.Call (.Name "range" p) [a, b] [] pos) (iRng2 ta) := by
  intro pins s σ H R I h
  refine Call_ (ld_blt I hg hm boot_range (PyProof.Rows.callWith_type1 (thn (ha pos pins s σ H _ I h) fun us s1 ⟨vs, H1, I1, r1, q1⟩ => ?_) (by rw [hs, hs2]) (by rw [hs2]; rfl)))
  obtain ⟨i, j, e, ⟨q1, q2, q3, q4⟩, q⟩ := q1
  subst e
  cases r1 with
  | cons r rr =>
    cases rr with
    | cons r' rr =>
      cases rr
      obtain ⟨t, rfl⟩ := r
      obtain ⟨t', rfl⟩ := r'
      exact call_range_2 (range_it I1 q1 q2 q3 q4 q)

/-! ### for -/
/-- W: the invariant by the turn and a measure; N: what the body is to reach -/
def tFor (wi : TI) (g : TG) (tb : TS) : TS := fun D σ H => wi σ H fun J H1 => ∃ W : Nat → Nat → St → Hp → Prop, (∃ m, W 0 m σ H1) ∧ ∀ i m σ H, W i m σ H →
  (J.stop i H ∧ D.nx σ H) ∨ (J.go i H ∧ ∃ N : St → Hp → Prop, (∀ σ' H', N σ' H' → ∃ m', m' < m ∧ W (i + 1) m' σ' H') ∧ ∀ x H', J.yld i H x H' → g x σ H' fun σ2 H2 => tb { D with nx := N, ct := N, bk := D.nx } σ2 H2)
/-- the records at fp as they stand -/
def pinsAt (fp : List Addr) (h : Heap) : List (Addr × Obj) := fp.filterMap fun b => (h.get? b).map fun o => (b, o)
theorem mem_pinsAt {fp : List Addr} {h : Heap} {b : Addr} {o : Obj} (hb : b ∈ fp) (e : h.get? b = some o) : (b, o) ∈ pinsAt fp h := List.mem_filterMap.mpr ⟨b, hb, by rw [e]; rfl⟩
theorem of_pinsAt {fp : List Addr} {h : Heap} {p : Addr × Obj} (hp : p ∈ pinsAt fp h) : p.1 ∈ fp ∧ h.get? p.1 = some p.2 := by
  obtain ⟨b, hb, e⟩ := List.mem_filterMap.mp hp
  cases q : h.get? b with
  | none => rw [q] at e; cases e
  | some o =>
    rw [q] at e
    have e' : (b, o) = p := Option.some.inj e
    subst e'
    exact ⟨hb, q⟩
theorem Inv.pinned {pins : List (Addr × Obj)} {σ : St} {H : Hp} {s : Shared} {fp : List Addr} (I : Inv X pins σ H s) (hf : ∀ b ∈ fp, FpOk X pins H b) (ho : ∀ b ∈ fp, ∃ o, s.heap.get? b = some o ∧ ∀ v, o.data ≠ .cell v) : Inv X (pins ++ pinsAt fp s.heap) σ H s :=
  I.pins_of fun p hp => (List.mem_append.mp hp).elim (fun z => I.pin p (List.mem_append_right _ z)) fun z => by
    obtain ⟨hb, e⟩ := of_pinsAt z
    obtain ⟨f0, f1, f2, _⟩ := hf p.1 hb
    obtain ⟨o, e', d⟩ := ho p.1 hb
    rw [e] at e'; cases e'
    exact ⟨e, f0, f1, f2, d⟩
theorem Inv.unpinned {pins pl : List (Addr × Obj)} {σ : St} {H : Hp} {s : Shared} (I : Inv X (pins ++ pl) σ H s) : Inv X pins σ H s := I.pins_of fun p hp => I.pin p (List.mem_append_right _ (List.mem_append_left _ hp))
theorem ps_for {iter : Expr} {body : List Stmt} {wi : TI} {g : TG} {tb : TS} {pos : Pos} (hp : PassesOwn (model X.prog X.w) X.A X.env X.xe) (hc : X.calm = true) (hi : PI X tg iter wi) (hg : PG X tg g) (hb : PSs X body tb)
    (hs : ∀ x, foldedSetIterable iter X.env x = pure x := by intro _; rfl) : PS X (.For tg iter body [] pos) (tFor wi g tb) := by
  intro pins s σ H D I h
  refine wpAny_For (thn (hi pins s σ H _ I h) fun v s1 h1 => thn h1 fun itv s2 h2 => ?_) hs
  obtain ⟨it, fp, tn, J, H2, e, I2, T, st2, f2, W, ⟨m0, w0⟩, turn⟩ := h2
  subst e
  -- what stays true of the iterator's objects through the loop
  have stat : ∀ {H' : Hp}, (∀ b ∈ fp, H' b = none) → ∀ b ∈ fp, FpOk X pins H' b := fun hn b hb => ⟨hn b hb, (f2 b hb).2⟩
  refine codeAny_forLoop_any (fun n s' => ∃ i σ' H', Inv X pins σ' H' s' ∧ tn i s'.heap ∧ (∀ b ∈ fp, H' b = none) ∧ W i n σ' H') ?_ m0 ⟨0, σ, H2, I2, st2, fun b hb => (f2 b hb).1, w0⟩
  rintro n s3 ⟨i, σ3, H3, I3, st3, fr3, w3⟩
  rcases turn i n σ3 H3 w3 with ⟨stop, qn⟩ | ⟨go, N, hN, step⟩
  · refine wpAny_passesOwn hp (thn (T.done X rfl rfl rfl hc i pins s3 σ3 H3 X.xe I3 (stat fr3) st3 stop) fun r s4 ⟨hr, I4⟩ => ?_)
    subst hr
    exact wpAny_execs_nil ⟨σ3, H3, I4, qn⟩
  · refine wpAny_passesOwn hp (thn (T.item X rfl rfl rfl hc i pins s3 σ3 H3 X.xe I3 (stat fr3) st3 go) fun r s4 ⟨u, hr, h4⟩ => ?_)
    subst hr
    refine wpAny_passesOwn hp (thn h4 fun _ s5 ⟨x, H5, I5, r5, y5, st5, fr5⟩ => ?_)
    have I5' := I5.pinned (stat fr5) (T.obj _ _ st5)
    refine wpAny_passesOwn hp (thn (hg _ s5 σ3 H5 x u _ I5' r5 (step x H5 y5)) fun _ s6 ⟨σ6, H6, I6, q6⟩ => ?_)
    refine wpAny_passesOwn hp (thn (hb _ s6 σ6 H6 _ I6 q6) fun f s7 q7 => ?_)
    have again : ∀ {σ7 : St} {H7 : Hp}, Inv X (pins ++ pinsAt fp s5.heap) σ7 H7 s7 → N σ7 H7 → ∃ m, m < n ∧ ∃ i σ' H', Inv X pins σ' H' s7 ∧ tn i s7.heap ∧ (∀ b ∈ fp, H' b = none) ∧ W i m σ' H' := fun {σ7 H7} I7 n7 => by
      obtain ⟨m', hm, w7⟩ := hN σ7 H7 n7
      refine ⟨m', hm, i + 1, σ7, H7, I7.unpinned, T.keep _ _ _ st5 fun b hb o e => (I7.pin (b, o) (List.mem_append_right _ (List.mem_append_right _ (mem_pinsAt hb e)))).1, fun b hb => ?_, w7⟩
      obtain ⟨o, e, d⟩ := T.obj _ _ st5 b hb
      exact (I7.pin (b, o) (List.mem_append_right _ (List.mem_append_right _ (mem_pinsAt hb e)))).2.1
    cases f with
    | next => obtain ⟨σ7, H7, I7, n7⟩ := q7; exact again I7 n7
    | cont => obtain ⟨σ7, H7, I7, n7⟩ := q7; exact again I7 n7
    | brk => obtain ⟨σ7, H7, I7, q7⟩ := q7; exact ⟨σ7, H7, I7.unpinned, q7⟩
    | ret v => obtain ⟨x7, σ7, H7, I7, r7, q7⟩ := q7; exact ⟨x7, σ7, H7, I7.unpinned, r7, q7⟩
end

/-! ### the forms one uses -/
/-- over a list that the body leaves as it is -/
theorem for_list {K : PySem.W.Frag} {a : Addr} {xs : List V} {g : TG} {tb : TS} {D : Ends} {σ : St} {H : Hp} (Pv : Nat → St → Hp → Prop) (h0 : Pv 0 σ H) (hl : ∀ i σ H, i ≤ xs.length → Pv i σ H → SqL K H a xs)
    (hs : ∀ i x σ H, xs[i]? = some x → Pv i σ H → g x σ H fun σ2 H2 => tb { D with nx := Pv (i + 1), ct := Pv (i + 1), bk := D.nx } σ2 H2) (hd : ∀ σ H, Pv xs.length σ H → D.nx σ H) :
    ∃ W : Nat → Nat → St → Hp → Prop, (∃ m, W 0 m σ H) ∧ ∀ i m σ H, W i m σ H →
      ((Itl K a).stop i H ∧ D.nx σ H) ∨ ((Itl K a).go i H ∧ ∃ N : St → Hp → Prop, (∀ σ' H', N σ' H' → ∃ m', m' < m ∧ W (i + 1) m' σ' H') ∧ ∀ x H', (Itl K a).yld i H x H' → g x σ H' fun σ2 H2 => tb { D with nx := N, ct := N, bk := D.nx } σ2 H2) := by
  refine ⟨fun i m σ H => m = xs.length - i ∧ i ≤ xs.length ∧ Pv i σ H, ⟨xs.length, by simp, Nat.zero_le _, h0⟩, ?_⟩
  rintro i m σ H ⟨rfl, hi, p⟩
  have q := hl i σ H hi p
  by_cases hlt : i < xs.length
  · refine .inr ⟨⟨xs, xs[i], q, by simp [hlt]⟩, Pv (i + 1), fun σ' H' p' => ⟨xs.length - (i + 1), by omega, rfl, hlt, p'⟩, fun x H' y => ?_⟩
    obtain ⟨e, y⟩ := y
    subst e
    exact hs i x σ _ (y xs q) p
  · have e : i = xs.length := by omega
    subst e
    exact .inl ⟨⟨xs, q, Nat.le_refl _⟩, hd σ H p⟩
theorem for_tup {K : PySem.W.Frag} {a : Addr} {xs : List V} {g : TG} {tb : TS} {D : Ends} {σ : St} {H : Hp} (Pv : Nat → St → Hp → Prop) (h0 : Pv 0 σ H) (hl : ∀ i σ H, i ≤ xs.length → Pv i σ H → SqT K H a xs)
    (hs : ∀ i x σ H, xs[i]? = some x → Pv i σ H → g x σ H fun σ2 H2 => tb { D with nx := Pv (i + 1), ct := Pv (i + 1), bk := D.nx } σ2 H2) (hd : ∀ σ H, Pv xs.length σ H → D.nx σ H) :
    ∃ W : Nat → Nat → St → Hp → Prop, (∃ m, W 0 m σ H) ∧ ∀ i m σ H, W i m σ H →
      ((Itt K a).stop i H ∧ D.nx σ H) ∨ ((Itt K a).go i H ∧ ∃ N : St → Hp → Prop, (∀ σ' H', N σ' H' → ∃ m', m' < m ∧ W (i + 1) m' σ' H') ∧ ∀ x H', (Itt K a).yld i H x H' → g x σ H' fun σ2 H2 => tb { D with nx := N, ct := N, bk := D.nx } σ2 H2) := by
  refine ⟨fun i m σ H => m = xs.length - i ∧ i ≤ xs.length ∧ Pv i σ H, ⟨xs.length, by simp, Nat.zero_le _, h0⟩, ?_⟩
  rintro i m σ H ⟨rfl, hi, p⟩
  have q := hl i σ H hi p
  by_cases hlt : i < xs.length
  · refine .inr ⟨⟨xs, xs[i], q, by simp [hlt]⟩, Pv (i + 1), fun σ' H' p' => ⟨xs.length - (i + 1), by omega, rfl, hlt, p'⟩, fun x H' y => ?_⟩
    obtain ⟨e, y⟩ := y
    subst e
    exact hs i x σ _ (y xs q) p
  · have e : i = xs.length := by omega
    subst e
    exact .inl ⟨⟨xs, q, Nat.le_refl _⟩, hd σ H p⟩
theorem for_range {lo : Int} {n : Nat} {g : TG} {tb : TS} {D : Ends} {σ : St} {H : Hp} (Pv : Nat → St → Hp → Prop) (h0 : Pv 0 σ H)
    (hs : ∀ i σ H, i < n → Pv i σ H → g (.int (lo + i)) σ H fun σ2 H2 => tb { D with nx := Pv (i + 1), ct := Pv (i + 1), bk := D.nx } σ2 H2) (hd : ∀ σ H, Pv n σ H → D.nx σ H) :
    ∃ W : Nat → Nat → St → Hp → Prop, (∃ m, W 0 m σ H) ∧ ∀ i m σ H, W i m σ H →
      ((Itr lo n).stop i H ∧ D.nx σ H) ∨ ((Itr lo n).go i H ∧ ∃ N : St → Hp → Prop, (∀ σ' H', N σ' H' → ∃ m', m' < m ∧ W (i + 1) m' σ' H') ∧ ∀ x H', (Itr lo n).yld i H x H' → g x σ H' fun σ2 H2 => tb { D with nx := N, ct := N, bk := D.nx } σ2 H2) := by
  refine ⟨fun i m σ H => m = n - i ∧ i ≤ n ∧ Pv i σ H, ⟨n, by simp, Nat.zero_le _, h0⟩, ?_⟩
  rintro i m σ H ⟨rfl, hi, p⟩
  by_cases hlt : i < n
  · refine .inr ⟨hlt, Pv (i + 1), fun σ' H' p' => ⟨n - (i + 1), by omega, rfl, hlt, p'⟩, fun x H' y => ?_⟩
    obtain ⟨e, y⟩ := y
    subst e y
    exact hs i σ _ hlt p
  · have e : i = n := by omega
    subst e
    exact .inl ⟨Nat.le_refl _, hd σ H p⟩
/-- while, by a word and a measure of the state -/
theorem while_by {c : TT} {tb : TS} {D : Ends} {σ : St} {H : Hp} (Pv : St → Hp → Prop) (μ : St → Hp → Nat) (h0 : Pv σ H)
    (hs : ∀ σ H, Pv σ H → c σ H fun b H1 => if b = true then tb { D with nx := fun σ' H' => Pv σ' H' ∧ μ σ' H' < μ σ H, ct := fun σ' H' => Pv σ' H' ∧ μ σ' H' < μ σ H, bk := D.nx } σ H1 else D.nx σ H1)
    (mono : ∀ σ H Q Q', (∀ b H1, Q b H1 → Q' b H1) → c σ H Q → c σ H Q') : tWhile c tb D σ H := by
  refine ⟨fun m σ H => m = μ σ H ∧ Pv σ H, ⟨_, rfl, h0⟩, ?_⟩
  rintro m σ H ⟨rfl, p⟩
  refine mono σ H _ _ (fun b H1 q => ?_) (hs σ H p)
  cases b with
  | true => exact ⟨_, fun σ' H' ⟨p', l⟩ => ⟨_, l, rfl, p'⟩, q⟩
  | false => exact q
end L2

namespace L2
open PySem PySem.Spec PyProof.Rows

abbrev R2 := V → V → Hp → VK → Prop
/-- a two-place operation on values: f is binaryOp op, inplaceOp op or compareOp op -/
def OpR (X : Cx) (f : Value → Value → Sem Value) (r : R2) : Prop :=
  ∀ (pins : List (Addr × Obj)) (s : Shared) (σ : St) (H : Hp) (x y : V) (v u : Value) (Q : VK), Inv X pins σ H s → RelV x v → RelV y u → r x y H Q →
    wpAny (model X.prog X.w) X.A (f v u) (EP X pins σ Q) X.xe s
/-- a one-place operation -/
def UnR (X : Cx) (f : Value → Sem Value) (r : V → Hp → VK → Prop) : Prop :=
  ∀ (pins : List (Addr × Obj)) (s : Shared) (σ : St) (H : Hp) (x : V) (v : Value) (Q : VK), Inv X pins σ H s → RelV x v → r x H Q →
    wpAny (model X.prog X.w) X.A (f v) (EP X pins σ Q) X.xe s
/-- a call of a value that is known (a builtin, a type) with values -/
def CallR (X : Cx) (f : Value) (r : List V → Hp → VK → Prop) : Prop :=
  ∀ (pins : List (Addr × Obj)) (s : Shared) (σ : St) (H : Hp) (xs : List V) (us : List Value) (Q : VK), Inv X pins σ H s → Vals xs us → r xs H Q →
    wpAny (model X.prog X.w) X.A (call f us) (EP X pins σ Q) X.xe s
/-- a value's truth -/
def TruR (X : Cx) (r : V → Hp → (Bool → Hp → Prop) → Prop) : Prop :=
  ∀ (pins : List (Addr × Obj)) (s : Shared) (σ : St) (H : Hp) (x : V) (v : Value) (Q : Bool → Hp → Prop), Inv X pins σ H s → RelV x v → r x H Q →
    wpAny (model X.prog X.w) X.A (truthy v) (TP X pins σ Q) X.xe s

def tOp (r : R2) (ta tb : TE) : TE := fun σ H Q => ta σ H fun x H1 => tb σ H1 fun y H2 => r x y H2 Q
def tUn (r : V → Hp → VK → Prop) (ta : TE) : TE := fun σ H Q => ta σ H fun x H1 => r x H1 Q
/-- ints in, under C, and a value out -/
def rI (C : Int → Int → Prop) (g : Int → Int → V) : R2 := fun x y H Q => ∃ i j, x = .int i ∧ y = .int j ∧ C i j ∧ Q (g i j) H
def rI0 (g : Int → Int → V) : R2 := fun x y H Q => ∃ i j, x = .int i ∧ y = .int j ∧ Q (g i j) H
def rU (g : Int → V) : V → Hp → VK → Prop := fun x H Q => ∃ i, x = .int i ∧ Q (g i) H

section
variable {X : Cx} {a b c : Expr} {ta tb tc : TE} {pos : Pos}

theorem binT (ha : PE X a ta) (hb : PE X b tb) {pins : List (Addr × Obj)} {s : Shared} {σ : St} {H : Hp} {R : V → V → Hp → Prop} (I : Inv X pins σ H s)
    (h : ta σ H fun x H1 => tb σ H1 fun y H2 => R x y H2) {Q : Value → Shared → Prop} {f : Value → Value → Sem Value}
    (hf : ∀ v u s2 x y H2, Inv X pins σ H2 s2 → RelV x v → RelV y u → R x y H2 → wpAny (model X.prog X.w) X.A (f v u) Q X.xe s2) :
    wpAny (model X.prog X.w) X.A (eval a X.env) (fun v s₁ => wpAny (model X.prog X.w) X.A (eval b X.env) (fun u s₂ => wpAny (model X.prog X.w) X.A (f v u) Q X.xe s₂) X.xe s₁) X.xe s := by
  refine thn (ha pins s σ H _ I h) fun v s1 ⟨x, H1, I1, r1, q1⟩ => ?_
  refine thn (hb pins s1 σ H1 _ I1 q1) fun u s2 ⟨y, H2, I2, r2, q2⟩ => ?_
  exact hf v u s2 x y H2 I2 r1 r2 q2

theorem pe_op {op : Operator} {r : R2} (ho : OpR X (binaryOp op) r) (ha : PE X a ta) (hb : PE X b tb) : PE X (.BinOp a op b pos) (tOp r ta tb) := by
  intro pins s σ H Q I h
  exact wpAny_BinOp (binT ha hb I h fun v u s2 x y H2 I2 rx ry q => ho pins s2 σ H2 x y v u Q I2 rx ry q)
theorem pe_un {op : UnaryOp} {r : V → Hp → VK → Prop} (ho : UnR X (unaryOp op) r) (ha : PE X a ta) : PE X (.UnaryOp op a pos) (tUn r ta) := by
  intro pins s σ H Q I h
  exact UnaryOp_ (thn (ha pins s σ H _ I h) fun v s1 ⟨x, H1, I1, r1, q1⟩ => ho pins s1 σ H1 x v Q I1 r1 q1)
/-- a op= e at a name: the name's slot i -/
theorem augR {op : Operator} {r : R2} (ho : OpR X (inplaceOp op) r) {pins : List (Addr × Obj)} {s : Shared} {σ : St} {H : Hp} {x y : V} {v u : Value} {Q : VK} (I : Inv X pins σ H s)
    (rx : RelV x v) (ry : RelV y u) (q : r x y H Q) : wpAny (model X.prog X.w) X.A (inplaceOp op v u) (EP X pins σ Q) X.xe s := ho pins s σ H x y v u Q I rx ry q

/-! ### ints -/
theorem opI {f : Value → Value → Sem Value} {C : Int → Int → Prop} {g : Int → Int → Int}
    (rule : ∀ (i j : Int) (t u : Tok) (s : Shared) (Q : Value → Shared → Prop) (E : Value → Shared → Prop), C i j → Q (.int (g i j) s.toks) { s with toks := s.toks + 1 } → wpAny (model X.prog X.w) X.A (f (.int i t) (.int j u)) Q E s) :
    OpR X f (rI C fun i j => .int (g i j)) := by
  intro pins s σ H x y v u Q I rx ry h
  obtain ⟨i, j, rfl, rfl, hc, q⟩ := h
  obtain ⟨t, rfl⟩ := rx
  obtain ⟨t', rfl⟩ := ry
  exact rule i j t t' s _ _ hc ⟨.int (g i j), H, I.tok _, ⟨_, rfl⟩, q⟩
theorem opI0 {f : Value → Value → Sem Value} {g : Int → Int → Int}
    (rule : ∀ (i j : Int) (t u : Tok) (s : Shared) (Q : Value → Shared → Prop) (E : Value → Shared → Prop), Q (.int (g i j) s.toks) { s with toks := s.toks + 1 } → wpAny (model X.prog X.w) X.A (f (.int i t) (.int j u)) Q E s) :
    OpR X f (rI0 fun i j => .int (g i j)) := by
  intro pins s σ H x y v u Q I rx ry h
  obtain ⟨i, j, rfl, rfl, q⟩ := h
  obtain ⟨t, rfl⟩ := rx
  obtain ⟨t', rfl⟩ := ry
  exact rule i j t t' s _ _ ⟨.int (g i j), H, I.tok _, ⟨_, rfl⟩, q⟩
theorem opB0 {f : Value → Value → Sem Value} {g : Int → Int → Bool}
    (rule : ∀ (i j : Int) (t u : Tok) (s : Shared) (Q : Value → Shared → Prop) (E : Value → Shared → Prop), Q (.bool (g i j)) s → wpAny (model X.prog X.w) X.A (f (.int i t) (.int j u)) Q E s) :
    OpR X f (rI0 fun i j => .bl (g i j)) := by
  intro pins s σ H x y v u Q I rx ry h
  obtain ⟨i, j, rfl, rfl, q⟩ := h
  obtain ⟨t, rfl⟩ := rx
  obtain ⟨t', rfl⟩ := ry
  exact rule i j t t' s _ _ ⟨.bl (g i j), H, I, rfl, q⟩

def CDiv (i j : Int) : Prop := 0 < j ∧ j < 1073741824
def CDivN (i j : Int) : Prop := j ≠ 0 ∧ j.natAbs < 1073741824
def CPow (i j : Int) : Prop := 0 ≤ j ∧ j ≤ 1000000 ∧ i.natAbs < 2 ^ 64
def CMul (i j : Int) : Prop := (-(2 ^ 64) < i ∧ i < 2 ^ 64) ∨ (-(2 ^ 64) < j ∧ j < 2 ^ 64)
theorem CMul.ok {i j : Int} (h : CMul i j) : IntMulOk i j := by
  rcases h with ⟨h1, h2⟩ | ⟨h1, h2⟩
  · exact .of_left (intBits_le_64 h1 h2)
  · exact .of_right (intBits_le_64 h1 h2)
theorem two_pow_nn (k : Nat) : (0 : Int) ≤ 2 ^ k := by
  rw [two_pow_cast]
  exact Int.natCast_nonneg _

theorem op_add : OpR X (binaryOp .Add) (rI0 fun i j => .int (i + j)) := opI0 fun _ _ _ _ _ _ _ q => add_int q
theorem op_sub : OpR X (binaryOp .Sub) (rI0 fun i j => .int (i - j)) := opI0 fun _ _ _ _ _ _ _ q => sub_int q
theorem op_mul : OpR X (binaryOp .Mult) (rI CMul fun i j => .int (i * j)) := opI fun _ _ _ _ _ _ _ hc q => mul_int q hc.ok
/-- // by a positive divisor -/
theorem op_fdiv : OpR X (binaryOp .FloorDiv) (rI CDiv fun i j => .int (i / j)) := opI fun i j _ _ _ _ _ hc q => by
  have h1 : (0 : Int) < j := hc.1
  have h2 : j < 1073741824 := hc.2
  exact floordiv_int (by omega) (by rw [Int.fdiv_eq_ediv_of_nonneg i (by omega)]; exact q) (.inl (PyProof.noPylong_small (by omega)))
theorem op_fdivN : OpR X (binaryOp .FloorDiv) (rI CDivN fun i j => .int (i.fdiv j)) := opI fun _ _ _ _ _ _ _ hc q => floordiv_int hc.1 q (.inl (PyProof.noPylong_small hc.2))
/-- % by a positive divisor of any size -/
theorem op_mod : OpR X (binaryOp .Mod) (rI (fun _ j => 0 < j) fun i j => .int (i % j)) := opI fun i j _ _ _ _ _ hc q => by
  have h1 : (0 : Int) < j := hc
  exact mod_int' (by omega) (by rw [Int.fmod_eq_emod_of_nonneg i (by omega)]; exact q)
theorem op_modN : OpR X (binaryOp .Mod) (rI (fun _ j => j ≠ 0) fun i j => .int (i.fmod j)) := opI fun _ _ _ _ _ _ _ hc q => mod_int' hc q
theorem op_pow : OpR X (binaryOp .Pow) (rI CPow fun i j => .int (i ^ j.toNat)) := opI fun _ _ _ _ _ _ _ hc q => pow_int_small hc.1 hc.2.1 hc.2.2 q
theorem op_shl : OpR X (binaryOp .LShift) (rI CPow fun i j => .int (i * 2 ^ j.toNat)) := opI fun _ _ _ _ _ _ _ hc q => lshift_int_small hc.1 hc.2.1 hc.2.2 q
theorem op_shr : OpR X (binaryOp .RShift) (rI (fun _ j => 0 ≤ j) fun i j => .int (i / 2 ^ j.toNat)) := opI fun i j _ _ _ _ _ hc q =>
  rshift_int hc (by rw [Int.fdiv_eq_ediv_of_nonneg i (two_pow_nn _)]; exact q)
theorem op_and : OpR X (binaryOp .BitAnd) (rI0 fun i j => .int (Builtin.bitAnd i j)) := opI0 fun _ _ _ _ _ _ _ q => and_int q
theorem op_or : OpR X (binaryOp .BitOr) (rI0 fun i j => .int (Builtin.bitOr i j)) := opI0 fun _ _ _ _ _ _ _ q => or_int q
theorem op_xor : OpR X (binaryOp .BitXor) (rI0 fun i j => .int (Builtin.bitXor i j)) := opI0 fun _ _ _ _ _ _ _ q => xor_int q

theorem iop_add : OpR X (inplaceOp .Add) (rI0 fun i j => .int (i + j)) := opI0 fun _ _ _ _ _ _ _ q => iadd_int q
theorem iop_sub : OpR X (inplaceOp .Sub) (rI0 fun i j => .int (i - j)) := opI0 fun _ _ _ _ _ _ _ q => isub_int q
theorem iop_mul : OpR X (inplaceOp .Mult) (rI CMul fun i j => .int (i * j)) := opI fun _ _ _ _ _ _ _ hc q => imul_int q hc.ok
theorem iop_fdiv : OpR X (inplaceOp .FloorDiv) (rI CDiv fun i j => .int (i / j)) := opI fun i j _ _ _ _ _ hc q => by
  have h1 : (0 : Int) < j := hc.1
  have h2 : j < 1073741824 := hc.2
  exact ifloordiv_int (by omega) (by rw [Int.fdiv_eq_ediv_of_nonneg i (by omega)]; exact q) (.inl (PyProof.noPylong_small (by omega)))
theorem iop_mod : OpR X (inplaceOp .Mod) (rI (fun _ j => 0 < j) fun i j => .int (i % j)) := opI fun i j _ _ _ _ _ hc q => by
  have h1 : (0 : Int) < j := hc
  exact imod_int (by omega) (by rw [Int.fmod_eq_emod_of_nonneg i (by omega)]; exact q)
theorem iop_shl : OpR X (inplaceOp .LShift) (rI CPow fun i j => .int (i * 2 ^ j.toNat)) := opI fun _ _ _ _ _ _ _ hc q => ilshift_int_small hc.1 hc.2.1 hc.2.2 q
theorem iop_shr : OpR X (inplaceOp .RShift) (rI (fun _ j => 0 ≤ j) fun i j => .int (i / 2 ^ j.toNat)) := opI fun i j _ _ _ _ _ hc q =>
  irshift_int hc (by rw [Int.fdiv_eq_ediv_of_nonneg i (two_pow_nn _)]; exact q)
theorem iop_and : OpR X (inplaceOp .BitAnd) (rI0 fun i j => .int (Builtin.bitAnd i j)) := opI0 fun _ _ _ _ _ _ _ q => iand_int q
theorem iop_or : OpR X (inplaceOp .BitOr) (rI0 fun i j => .int (Builtin.bitOr i j)) := opI0 fun _ _ _ _ _ _ _ q => ior_int q
theorem iop_xor : OpR X (inplaceOp .BitXor) (rI0 fun i j => .int (Builtin.bitXor i j)) := opI0 fun _ _ _ _ _ _ _ q => ixor_int q

theorem unI {f : Value → Sem Value} {g : Int → Int}
    (rule : ∀ (i : Int) (t : Tok) (s : Shared) (Q : Value → Shared → Prop) (E : Value → Shared → Prop), Q (.int (g i) s.toks) { s with toks := s.toks + 1 } → wpAny (model X.prog X.w) X.A (f (.int i t)) Q E s) :
    UnR X f (rU fun i => .int (g i)) := by
  intro pins s σ H x v Q I rx h
  obtain ⟨i, rfl, q⟩ := h
  obtain ⟨t, rfl⟩ := rx
  exact rule i t s _ _ ⟨.int (g i), H, I.tok _, ⟨_, rfl⟩, q⟩
theorem un_neg : UnR X (unaryOp .USub) (rU fun i => .int (-i)) := unI fun _ _ _ _ _ q => neg_int q
theorem un_inv : UnR X (unaryOp .Invert) (rU fun i => .int (Builtin.bitNot i)) := unI fun _ _ _ _ _ q => invert_int q

/-! ### bools among ints: n += (a < b) -/
theorem op_add_ib : OpR X (binaryOp .Add) (fun x y H Q => ∃ i k, x = .int i ∧ y = .bl k ∧ Q (.int (i + b2i k)) H) := by
  intro pins s σ H x y v u Q I rx ry h
  obtain ⟨i, k, rfl, rfl, q⟩ := h
  obtain ⟨t, rfl⟩ := rx
  cases ry
  exact add_int_bool ⟨.int (i + b2i k), H, I.tok _, ⟨_, rfl⟩, q⟩
end

/-! ### comparisons -/
/-- the scalars that == tells apart as data does -/
def scal : V → V → Bool
  | .non, .non => true | .non, .int _ => true | .int _, .non => true | .non, .bl _ => true | .bl _, .non => true | .non, .str _ => true | .str _, .non => true
  | .int _, .int _ => true | .bl _, .bl _ => true | .str _, .str _ => true | .byt _, .byt _ => true
  | .int _, .str _ => true | .str _, .int _ => true | .bl _, .str _ => true | .str _, .bl _ => true
  | _, _ => false
def rEq : R2 := fun x y H Q => scal x y = true ∧ Q (.bl (decide (x = y))) H
def rNe : R2 := fun x y H Q => scal x y = true ∧ Q (.bl (!decide (x = y))) H

theorem dec_int {i j : Int} : decide (V.int i = V.int j) = (i == j) := by
  rw [Bool.eq_iff_iff]
  simp
theorem dec_bl {i j : Bool} : decide (V.bl i = V.bl j) = (i == j) := by
  rw [Bool.eq_iff_iff]
  simp
theorem dec_str {i j : Str} : decide (V.str i = V.str j) = (i == j) := by
  rw [Bool.eq_iff_iff]
  simp
theorem dec_byt {i j : Array UInt8} : decide (V.byt i = V.byt j) = (i.toList == j.toList) := by
  rw [Bool.eq_iff_iff]
  cases i
  cases j
  simp

section
variable {X : Cx} {a b c : Expr} {ta tb tc : TE} {pos : Pos}
theorem fin_bl {pins : List (Addr × Obj)} {σ : St} {H : Hp} {s : Shared} {Q : VK} {k k' : Bool} (I : Inv X pins σ H s) (q : Q (.bl k) H) (e : k = k') : EP X pins σ Q (.bool k') s := by
  subst e
  exact ⟨.bl k, H, I, rfl, q⟩
theorem op_eq : OpR X (compareOp .Eq) rEq := by
  intro pins s σ H x y v u Q I rx ry h
  obtain ⟨hs, q⟩ := h
  cases x with
  | non =>
    cases rx
    cases y with
    | non => cases ry; exact PySem.EqNone.eq_none_none (fin_bl I q (by simp))
    | bl j => cases ry; exact PySem.EqNone.eq_none_bool (fin_bl I q (by simp))
    | int j => obtain ⟨t', rfl⟩ := ry; exact PySem.EqNone.eq_none_int (fin_bl I q (by simp))
    | str j => obtain ⟨t', rfl⟩ := ry; exact PySem.EqNone.eq_none_str (fin_bl I q (by simp))
    | _ => exact absurd (show false = true from hs) Bool.false_ne_true
  | bl i =>
    cases rx
    cases y with
    | non => cases ry; exact PySem.EqNone.eq_bool_none (fin_bl I q (by simp))
    | bl j => cases ry; exact eq_bool (fin_bl I q dec_bl)
    | str j => obtain ⟨t', rfl⟩ := ry; exact PySem.EqMixed.eq_bool_str (fin_bl I q (by simp))
    | _ => exact absurd (show false = true from hs) Bool.false_ne_true
  | int i =>
    obtain ⟨t, rfl⟩ := rx
    cases y with
    | non => cases ry; exact PySem.EqNone.eq_int_none (fin_bl I q (by simp))
    | int j => obtain ⟨t', rfl⟩ := ry; exact eq_int (fin_bl I q dec_int)
    | str j => obtain ⟨t', rfl⟩ := ry; exact PySem.EqMixed.eq_int_str (fin_bl I q (by simp))
    | _ => exact absurd (show false = true from hs) Bool.false_ne_true
  | str i =>
    obtain ⟨t, rfl⟩ := rx
    cases y with
    | non => cases ry; exact PySem.EqNone.eq_str_none (fin_bl I q (by simp))
    | bl j => cases ry; exact PySem.EqMixed.eq_str_bool (fin_bl I q (by simp))
    | int j => obtain ⟨t', rfl⟩ := ry; exact PySem.EqMixed.eq_str_int (fin_bl I q (by simp))
    | str j => obtain ⟨t', rfl⟩ := ry; exact eq_str (fin_bl I q dec_str)
    | _ => exact absurd (show false = true from hs) Bool.false_ne_true
  | byt i =>
    obtain ⟨t, rfl⟩ := rx
    cases y with
    | byt j => obtain ⟨t', rfl⟩ := ry; exact PySem.W.eq_bytes (fin_bl I q dec_byt)
    | _ => exact absurd (show false = true from hs) Bool.false_ne_true
  | _ => cases y <;> exact absurd (show false = true from hs) Bool.false_ne_true
theorem op_ne : OpR X (compareOp .NotEq) rNe := by
  intro pins s σ H x y v u Q I rx ry h
  obtain ⟨hs, q⟩ := h
  cases x with
  | non =>
    cases rx
    cases y with
    | non => cases ry; exact PySem.EqNone.ne_none_none (fin_bl I q (by simp))
    | bl j => cases ry; exact PySem.EqNone.ne_none_bool (fin_bl I q (by simp))
    | int j => obtain ⟨t', rfl⟩ := ry; exact PySem.EqNone.ne_none_int (fin_bl I q (by simp))
    | str j => obtain ⟨t', rfl⟩ := ry; exact PySem.EqNone.ne_none_str (fin_bl I q (by simp))
    | _ => exact absurd (show false = true from hs) Bool.false_ne_true
  | bl i =>
    cases rx
    cases y with
    | non => cases ry; exact PySem.EqNone.ne_bool_none (fin_bl I q (by simp))
    | bl j => cases ry; exact ne_bool (fin_bl I q (congrArg not dec_bl))
    | str j => obtain ⟨t', rfl⟩ := ry; exact PySem.EqMixed.ne_bool_str (fin_bl I q (by simp))
    | _ => exact absurd (show false = true from hs) Bool.false_ne_true
  | int i =>
    obtain ⟨t, rfl⟩ := rx
    cases y with
    | non => cases ry; exact PySem.EqNone.ne_int_none (fin_bl I q (by simp))
    | int j => obtain ⟨t', rfl⟩ := ry; exact ne_int (fin_bl I q (congrArg not dec_int))
    | str j => obtain ⟨t', rfl⟩ := ry; exact PySem.EqMixed.ne_int_str (fin_bl I q (by simp))
    | _ => exact absurd (show false = true from hs) Bool.false_ne_true
  | str i =>
    obtain ⟨t, rfl⟩ := rx
    cases y with
    | non => cases ry; exact PySem.EqNone.ne_str_none (fin_bl I q (by simp))
    | bl j => cases ry; exact PySem.EqMixed.ne_str_bool (fin_bl I q (by simp))
    | int j => obtain ⟨t', rfl⟩ := ry; exact PySem.EqMixed.ne_str_int (fin_bl I q (by simp))
    | str j => obtain ⟨t', rfl⟩ := ry; exact ne_str (fin_bl I q (congrArg not dec_str))
    | _ => exact absurd (show false = true from hs) Bool.false_ne_true
  | byt i =>
    obtain ⟨t, rfl⟩ := rx
    cases y with
    | byt j => obtain ⟨t', rfl⟩ := ry; exact PySem.W.ne_bytes (fin_bl I q (congrArg not dec_byt))
    | _ => exact absurd (show false = true from hs) Bool.false_ne_true
  | _ => cases y <;> exact absurd (show false = true from hs) Bool.false_ne_true

theorem op_lt : OpR X (compareOp .Lt) (rI0 fun i j => .bl (decide (i < j))) := opB0 fun _ _ _ _ _ _ _ q => lt_int q
theorem op_le : OpR X (compareOp .LtE) (rI0 fun i j => .bl (decide (i ≤ j))) := opB0 fun _ _ _ _ _ _ _ q => le_int q
theorem op_gt : OpR X (compareOp .Gt) (rI0 fun i j => .bl (decide (j < i))) := opB0 fun _ _ _ _ _ _ _ q => gt_int q
theorem op_ge : OpR X (compareOp .GtE) (rI0 fun i j => .bl (decide (j ≤ i))) := opB0 fun _ _ _ _ _ _ _ q => ge_int q
theorem op_lt_str : OpR X (compareOp .Lt) (fun x y H Q => ∃ i j, x = .str i ∧ y = .str j ∧ Q (.bl (decide (i.cps.toList < j.cps.toList))) H) := by
  intro pins s σ H x y v u Q I rx ry h
  obtain ⟨i, j, rfl, rfl, q⟩ := h
  obtain ⟨t, rfl⟩ := rx
  obtain ⟨t', rfl⟩ := ry
  exact lt_str (fin_bl I q rfl)
/-- the one string within the other -/
theorem op_in_str : OpR X (compareOp .In) (fun x y H Q => ∃ i j, x = .str i ∧ y = .str j ∧ Q (.bl (!(Builtin.Str.occurrences j i 0 j.length 1).isEmpty)) H) := by
  intro pins s σ H x y v u Q I rx ry h
  obtain ⟨i, j, rfl, rfl, q⟩ := h
  obtain ⟨t, rfl⟩ := rx
  obtain ⟨t', rfl⟩ := ry
  exact in_str (fin_bl I q rfl)

/-- is None, is not None: the right side a value none -/
theorem op_isN : OpR X (compareOp .Is) (fun x y H Q => y = .non ∧ Q (.bl (decide (x = .non))) H) := by
  intro pins s σ H x y v u Q I rx ry h
  obtain ⟨rfl, q⟩ := h
  cases ry
  refine is_none_gen (fin_bl I q ?_)
  cases x <;> first
    | (cases rx; rfl)
    | (obtain ⟨t, rfl⟩ := rx; rfl)
theorem op_notN : OpR X (compareOp .IsNot) (fun x y H Q => y = .non ∧ Q (.bl (!decide (x = .non))) H) := by
  intro pins s σ H x y v u Q I rx ry h
  obtain ⟨rfl, q⟩ := h
  cases ry
  refine isnot_none_gen (fin_bl I q ?_)
  cases x <;> first
    | (cases rx; rfl)
    | (obtain ⟨t, rfl⟩ := rx; rfl)

theorem op_notin_str : OpR X (compareOp .NotIn) (fun x y H Q => ∃ i j, x = .str i ∧ y = .str j ∧ Q (.bl (!(!(Builtin.Str.occurrences j i 0 j.length 1).isEmpty))) H) := by
  intro pins s σ H x y v u Q I rx ry h
  obtain ⟨i, j, rfl, rfl, q⟩ := h
  obtain ⟨t, rfl⟩ := rx
  obtain ⟨t', rfl⟩ := ry
  exact notIn_str (fin_bl I q rfl)
/-- is, is not of two objects that are tracked lists or instances -/
def isObj : HO → Bool
  | .lst _ => true
  | .ins _ _ _ => true
  | _ => false
theorem obj_there {pins : List (Addr × Obj)} {s : Shared} {σ : St} {H : Hp} {a : Addr} {o : HO} (I : Inv X pins σ H s) (h : H a = some o) (p : isObj o = true) : ∃ ob, s.heap.get? a = some ob ∧ ob.cls ≠ .type "tuple" := by
  cases o with
  | lst xs =>
    obtain ⟨_, its, n, _, e⟩ : xs.length ≤ sizeLine ∧ ∃ (its : List Value) (n : Nat), Vals xs its ∧ s.heap.get? a = some { cls := .type "list", data := .seq its.toArray n } := I.hok a _ h
    exact ⟨_, e, (by show Value.type "list" ≠ .type "tuple"; decide +kernel)⟩
  | ins C dx fs =>
    have x := I.hok a _ h
    obtain ⟨_, _, _, e, _⟩ := x
    exact ⟨_, e, (by show Value.ref C ≠ .type "tuple"; exact fun z => by cases z)⟩
  | _ => exact absurd (show false = true from p) Bool.false_ne_true
theorem op_is_ref : OpR X (compareOp .Is) (fun x y H Q => ∃ a b oa ob, x = .ref a ∧ y = .ref b ∧ H a = some oa ∧ isObj oa = true ∧ H b = some ob ∧ isObj ob = true ∧ Q (.bl (decide (a = b))) H) := by
  intro pins s σ H x y v u Q I rx ry h
  obtain ⟨a, b, oa, ob, rfl, rfl, ha, pa, hb, pb, q⟩ := h
  cases rx
  cases ry
  obtain ⟨o1, e1, n1⟩ := obj_there I ha pa
  obtain ⟨o2, e2, _⟩ := obj_there I hb pb
  by_cases z : a = b
  · subst z
    exact wpAny_is_ref_self (fin_bl I q (by simp))
  · exact wpAny_is_ref_other z e1 e2 n1 (fin_bl I q (by simp [z]))
theorem op_isnot_ref : OpR X (compareOp .IsNot) (fun x y H Q => ∃ a b oa ob, x = .ref a ∧ y = .ref b ∧ H a = some oa ∧ isObj oa = true ∧ H b = some ob ∧ isObj ob = true ∧ Q (.bl (!decide (a = b))) H) := by
  intro pins s σ H x y v u Q I rx ry h
  obtain ⟨a, b, oa, ob, rfl, rfl, ha, pa, hb, pb, q⟩ := h
  cases rx
  cases ry
  obtain ⟨o1, e1, n1⟩ := obj_there I ha pa
  obtain ⟨o2, e2, _⟩ := obj_there I hb pb
  by_cases z : a = b
  · subst z
    exact wpAny_isNot_ref_self (fin_bl I q (by simp))
  · exact wpAny_isNot_ref_other z e1 e2 n1 (fin_bl I q (by simp [z]))

/-- two rules for one operation: by cases -/
theorem OpR.or {f : Value → Value → Sem Value} {r r' : R2} (h : OpR X f r) (h' : OpR X f r') : OpR X f (fun x y H Q => r x y H Q ∨ r' x y H Q) := by
  intro pins s σ H x y v u Q I rx ry q
  rcases q with q | q
  · exact h pins s σ H x y v u Q I rx ry q
  · exact h' pins s σ H x y v u Q I rx ry q

theorem nomark (b : Expr) {op : CmpOp} (h : op ≠ .In := by decide) (h2 : op ≠ .NotIn := by decide) : behindInMarks op b = false := by
  have e1 : (op == CmpOp.In) = false := by cases op <;> first | rfl | exact absurd rfl h
  have e2 : (op == CmpOp.NotIn) = false := by cases op <;> first | rfl | exact absurd rfl h2
  cases b <;> simp [behindInMarks, e1, e2]
/-- a comparison as a value; hm: nomark b, or (for in, not in) by with_unfolding_all rfl -/
theorem pe_cmpR {op : CmpOp} {r : R2} (ho : OpR X (compareOp op) r) (ha : PE X a ta) (hb : PE X b tb) (hm : behindInMarks op b = false) : PE X (.Compare a [op] [b] pos) (tOp r ta tb) := by
  intro pins s σ H Q I h
  exact wpAny_Compare1 (binT ha hb I h fun v u s2 x y H2 I2 rx ry q => ho pins s2 σ H2 x y v u Q I2 rx ry q) hm
/-- a reading of a value as a test -/
def tTest (t : TE) : TT := fun σ H Q => t σ H fun x H' => ∃ k, x = .bl k ∧ Q k H'
theorem pt_cmpR {op : CmpOp} {r : R2} (ho : OpR X (compareOp op) r) (ha : PE X a ta) (hb : PE X b tb) (hm : behindInMarks op b = false) : PT X (.Compare a [op] [b] pos) (tTest (tOp r ta tb)) := by
  intro pins s σ H Q I h
  refine wpAny_isTrue_Compare1 (thn (ha pins s σ H _ I h) fun v s1 ⟨x, H1, I1, r1, q1⟩ => thn (hb pins s1 σ H1 _ I1 q1) fun u s2 ⟨y, H2, I2, r2, q2⟩ =>
    thn (ho pins s2 σ H2 x y v u _ I2 r1 r2 q2) fun c s3 ⟨z, H3, I3, r3, k, e, q3⟩ => ?_) hm
  subst e
  cases r3
  exact wpAny_truthy_bool ⟨H3, I3, q3⟩
/-- a op1 b op2 c -/
def tChain (r r' : R2) (ta tb tc : TE) : TE := fun σ H Q => ta σ H fun x H1 => tb σ H1 fun y H2 => r x y H2 fun z H3 => ∃ k, z = .bl k ∧
  (if k = true then tc σ H3 fun w' H4 => r' y w' H4 Q else Q (.bl false) H3)
theorem pe_chain {op op' : CmpOp} {r r' : R2} (ho : OpR X (compareOp op) r) (ho' : OpR X (compareOp op') r') (ha : PE X a ta) (hb : PE X b tb) (hc : PE X c tc)
    (hm : lastMarks [op, op'] [b, c] = false := by with_unfolding_all rfl) : PE X (.Compare a [op, op'] [b, c] pos) (tChain r r' ta tb tc) := by
  intro pins s σ H Q I h
  refine Compare_chain (thn (ha pins s σ H _ I h) fun v s1 ⟨x, H1, I1, r1, q1⟩ => chain_link (thn (hb pins s1 σ H1 _ I1 q1) fun u s2 ⟨y, H2, I2, r2, q2⟩ =>
    thn (ho pins s2 σ H2 x y v u _ I2 r1 r2 q2) fun d s3 ⟨z, H3, I3, r3, k, e, q3⟩ => ?_)) hm
  subst e
  cases r3
  refine wpAny_truthy_bool ?_
  cases k with
  | false => exact ite_ff ⟨.bl false, H3, I3, rfl, q3⟩
  | true => exact ite_tt (chain_last (thn (hc pins s3 σ H3 _ I3 q3) fun w' s4 ⟨z', H4, I4, r4, q4⟩ => ho' pins s4 σ H4 y z' u w' Q I4 r2 r4 q4))
theorem pt_chain {op op' : CmpOp} {r r' : R2} (ho : OpR X (compareOp op) r) (ho' : OpR X (compareOp op') r') (ha : PE X a ta) (hb : PE X b tb) (hc : PE X c tc)
    (hm : lastMarks [op, op'] [b, c] = false := by with_unfolding_all rfl) : PT X (.Compare a [op, op'] [b, c] pos) (tTest (tChain r r' ta tb tc)) := by
  intro pins s σ H Q I h
  refine isTrue_chain (thn (ha pins s σ H _ I h) fun v s1 ⟨x, H1, I1, r1, q1⟩ => test_link (thn (hb pins s1 σ H1 _ I1 q1) fun u s2 ⟨y, H2, I2, r2, q2⟩ =>
    thn (ho pins s2 σ H2 x y v u _ I2 r1 r2 q2) fun d s3 ⟨z, H3, I3, r3, k, e, q3⟩ => ?_)) hm
  subst e
  cases r3
  refine wpAny_truthy_bool ?_
  cases k with
  | false =>
    obtain ⟨k', e', q'⟩ := q3
    cases e'
    exact ite_ff ⟨H3, I3, q'⟩
  | true =>
    refine ite_tt (test_last (thn (hc pins s3 σ H3 _ I3 q3) fun w' s4 ⟨z', H4, I4, r4, q4⟩ => thn (ho' pins s4 σ H4 y z' u w' _ I4 r2 r4 q4) fun d' s5 ⟨z2, H5, I5, r5, k2, e2, q5⟩ => ?_))
    subst e2
    cases r5
    exact wpAny_truthy_bool ⟨H5, I5, q5⟩

/-! ### truth -/
/-- a value's truth by the abstract heap -/
def TruV (K : PySem.W.Frag) (x : V) (H : Hp) (k : Bool) : Prop :=
  match x with
  | .non => k = false
  | .bl b => k = b
  | .int i => k = (i != 0)
  | .str y => y.length ≤ sizeLine ∧ k = ((y.length : Int) != 0)
  | .byt y => y.size ≤ sizeLine ∧ k = ((y.size : Int) != 0)
  | .ref p => (∃ xs, SqL K H p xs ∧ k = !xs.isEmpty) ∨ (∃ xs, SqT K H p xs ∧ k = !xs.isEmpty) ∨ ∃ kvs, H p = some (.dK kvs) ∧ k = !kvs.isEmpty
  | _ => False
theorem isEmpty_kv {κ : Type} {kvs : List (κ × V)} {vs : List (κ × Value)} (r : KV kvs vs) : (!vs.isEmpty) = !kvs.isEmpty := by
  cases r <;> rfl
theorem isEmpty_of {xs : List V} {its : List Value} (r : Vals xs its) : (!its.toArray.isEmpty) = !xs.isEmpty := by
  cases r <;> simp
theorem line63 : (sizeLine : Nat) < 2 ^ 63 := by rw [sizeLine_eq]; decide
theorem tru_ok : TruR X (fun x H Q => ∃ k, TruV X.K x H k ∧ Q k H) := by
  intro pins s σ H x v Q I rx h
  obtain ⟨k, e, q⟩ := h
  have hl := line63
  have hs : sizeLine = 16777216 := sizeLine_eq
  cases x with
  | non =>
    cases rx
    have e' : k = false := e
    subst e'
    exact truthy_none ⟨H, I, q⟩
  | bl b =>
    cases rx
    have e' : k = b := e
    subst e'
    exact wpAny_truthy_bool ⟨H, I, q⟩
  | int i =>
    obtain ⟨t, rfl⟩ := rx
    have e' : k = (i != 0) := e
    subst e'
    exact PySem.P.truthy_int ⟨H, I, q⟩
  | str y =>
    obtain ⟨t, rfl⟩ := rx
    obtain ⟨hy, e'⟩ : y.length ≤ sizeLine ∧ k = ((y.length : Int) != 0) := e
    subst e'
    exact PySem.P.truthy_str (by omega) ⟨H, I.tok _, q⟩
  | byt y =>
    obtain ⟨t, rfl⟩ := rx
    obtain ⟨hy, e'⟩ : y.size ≤ sizeLine ∧ k = ((y.size : Int) != 0) := e
    subst e'
    exact PySem.W.truthy_bytes (by omega) ⟨H, I.tok _, q⟩
  | ref p =>
    cases rx
    have e' : (∃ xs, SqL X.K H p xs ∧ k = !xs.isEmpty) ∨ (∃ xs, SqT X.K H p xs ∧ k = !xs.isEmpty) ∨ ∃ kvs, H p = some (.dK kvs) ∧ k = !kvs.isEmpty := e
    rcases e' with ⟨xs, hx, e'⟩ | ⟨xs, hx, e'⟩ | ⟨kvs, hx, e'⟩
    · subst e'
      obtain ⟨its, r, pl, hz⟩ := I.list hx
      have hlen := r.length
      exact wpAny_truthy_list pl.isList (by simp only [List.size_toArray]; omega) ⟨H, I.tok _, by rw [isEmpty_of r]; exact q⟩
    · subst e'
      obtain ⟨its, r, pl, hz⟩ := I.tuple hx
      have hlen := r.length
      exact truthy_tuple pl (by simp only [List.size_toArray]; omega) ⟨H, I.tok _, by rw [isEmpty_of r]; exact q⟩
    · subst e'
      obtain ⟨hz, hS, vs, r, m⟩ : kvs.length ≤ sizeLine ∧ (p == sysModules) = false ∧ ∃ vs, KV kvs vs ∧ s.heap.DictOf (mixKind X.prog X.w) p vs := I.hok p _ hx
      have hlen : kvs.length = vs.length := Paired.length r
      exact wpAny_truthy_dict hS m (by omega) ⟨H, I.tok _, by rw [isEmpty_kv r]; exact q⟩
  | _ => exact (show False from e).elim
/-- any expression whose test is its value's truth (a name, a call, a subscript, a field ..: he by fun _ => rfl) -/
theorem pt_truth (ha : PE X a ta) (he : ∀ whole, isTrue a X.env whole = (do let v ← whole; standAt a.pos; holding [v] (truthy v))) :
    PT X a (fun σ H Q => ta σ H fun x H' => ∃ k, TruV X.K x H' k ∧ Q k H') := by
  intro pins s σ H Q I h
  exact isTrue_plain (thn (ha pins s σ H _ I h) fun v s1 ⟨x, H1, I1, r1, q1⟩ => tru_ok pins s1 σ H1 x v Q I1 r1 q1) (he _)

/-! ### strs and bytes -/
theorem pe_byt {x : List UInt8} {k : Nat} : PE X (.Constant (.bytes x) k pos) (fun _ H Q => Q (.byt x.toArray) H) := fun _ _ _ H _ I h => PySem.W.Constant_bytes ⟨.byt x.toArray, H, I.tok _, ⟨_, rfl⟩, h⟩
theorem op_add_str : OpR X (binaryOp .Add) (fun x y H Q => ∃ i j, x = .str i ∧ y = .str j ∧ i.length + j.length ≤ sizeLine ∧ Q (.str (i ++ j)) H) := by
  intro pins s σ H x y v u Q I rx ry h
  obtain ⟨i, j, rfl, rfl, hz, q⟩ := h
  obtain ⟨t, rfl⟩ := rx
  obtain ⟨t', rfl⟩ := ry
  exact add_str (fun t' tk => ⟨.str (i ++ j), H, I.tok _, ⟨_, rfl⟩, q⟩) hz
theorem iop_add_str : OpR X (inplaceOp .Add) (fun x y H Q => ∃ i j, x = .str i ∧ y = .str j ∧ i.length + j.length ≤ sizeLine ∧ Q (.str (i ++ j)) H) := by
  intro pins s σ H x y v u Q I rx ry h
  obtain ⟨i, j, rfl, rfl, hz, q⟩ := h
  obtain ⟨t, rfl⟩ := rx
  obtain ⟨t', rfl⟩ := ry
  exact iadd_str (fun t' tk => ⟨.str (i ++ j), H, I.tok _, ⟨_, rfl⟩, q⟩) hz
theorem op_add_byt : OpR X (binaryOp .Add) (fun x y H Q => ∃ i j, x = .byt i ∧ y = .byt j ∧ i.size + j.size ≤ 16777216 ∧ Q (.byt (i ++ j)) H) := by
  intro pins s σ H x y v u Q I rx ry h
  obtain ⟨i, j, rfl, rfl, hz, q⟩ := h
  obtain ⟨t, rfl⟩ := rx
  obtain ⟨t', rfl⟩ := ry
  exact PySem.W.KBy.add_bytes hz (fun t' tk => ⟨.byt (i ++ j), H, I.tok _, ⟨_, rfl⟩, q⟩)

def PlainIxT (b : Expr) : Prop := ∀ o i, subscripted b false o i = operate [o, i] (getItem o i)
/-- s[i], 0 ≤ i < len -/
theorem pe_item_str (ha : PE X a ta) (hb : PE X b tb) (hs : PlainIxT b) :
    PE X (.Subscript a b pos) (tOp (fun x y H Q => ∃ z i c, x = .str z ∧ y = .int i ∧ 0 ≤ i ∧ i < 2 ^ 63 ∧ i < z.length ∧ z.cps[i.toNat]? = some c ∧ Q (.str ⟨#[c]⟩) H) ta tb) := by
  intro pins s σ H Q I h
  refine Subscript_ (binT ha hb I h fun v u s2 x y H2 I2 rx ry q => ?_)
  obtain ⟨z, i, c, rfl, rfl, h0, h63, h1, hc, q⟩ := q
  obtain ⟨t, rfl⟩ := rx
  obtain ⟨t', rfl⟩ := ry
  have e : seqIndex? i z.length = some i.toNat := PySem.StrLaws.seqIndex_nonneg h0 h1
  exact tail_any (typeIs_str s2 z t) slot_str_getitem.lookup (getItem_str (c := c) (by
    have e1 : decide (i < -(2 ^ 63 : Int)) = false := decide_eq_false (by omega)
    have e2 : decide (i ≥ 2 ^ 63) = false := decide_eq_false (by omega)
    rw [e1, e2] <;> rfl) (by rw [e]; exact hc) ⟨.str ⟨#[c]⟩, H2, I2.tok _, ⟨_, rfl⟩, q⟩) (hs _ _)
/-- b[i], 0 ≤ i < len -/
theorem pe_item_byt (ha : PE X a ta) (hb : PE X b tb) (hs : PlainIxT b) :
    PE X (.Subscript a b pos) (tOp (fun x y H Q => ∃ (z : List UInt8) (i : Int), x = .byt z.toArray ∧ y = .int i ∧ z.length ≤ sizeLine ∧ 0 ≤ i ∧ i < z.length ∧ Q (.int ((z.getD i.toNat 0).toNat : Nat)) H) ta tb) := by
  intro pins s σ H Q I h
  refine Subscript_ (binT ha hb I h fun v u s2 x y H2 I2 rx ry q => ?_)
  obtain ⟨z, i, rfl, rfl, hz, h0, h1, q⟩ := q
  obtain ⟨t, rfl⟩ := rx
  obtain ⟨t', rfl⟩ := ry
  have hl : sizeLine = 16777216 := sizeLine_eq
  exact tail_any (PySem.W.typeIs_bytes s2 z.toArray t) PySem.W.FB.slot_bytes_getitem.lookup (PySem.W.getItem_bytes (by omega) h0 h1 ⟨.int ((z.getD i.toNat 0).toNat : Nat), H2, I2.tok _, ⟨_, rfl⟩, q⟩) (hs _ _)

/-! ### scalar builtins, by CallR -/
theorem vals1 {x : V} {us : List Value} (r : Vals [x] us) : ∃ u, us = [u] ∧ RelV x u := by
  cases r with
  | cons r1 r2 => cases r2; exact ⟨_, rfl, r1⟩
theorem vals2 {x y : V} {us : List Value} (r : Vals [x, y] us) : ∃ u w', us = [u, w'] ∧ RelV x u ∧ RelV y w' := by
  cases r with
  | cons r1 r2 =>
    cases r2 with
    | cons r3 r4 => cases r4; exact ⟨_, _, rfl, r1, r3⟩
theorem call_abs : CallR X (.builtin "abs") (fun xs H Q => ∃ i, xs = [.int i] ∧ Q (.int (if i < 0 then -i else i)) H) := by
  intro pins s σ H xs us Q I r h
  obtain ⟨i, rfl, q⟩ := h
  obtain ⟨u, rfl, t, rfl⟩ := vals1 r
  exact call_abs_int fun u tk => ⟨.int (if i < 0 then -i else i), H, I.tok _, ⟨_, rfl⟩, q⟩
theorem call_max2 (hc : X.calm = true) : CallR X (.builtin "max") (fun xs H Q => ∃ i j, xs = [.int i, .int j] ∧ Q (.int (if j > i then j else i)) H) := by
  intro pins s σ H xs us Q I r h
  obtain ⟨i, j, rfl, q⟩ := h
  obtain ⟨u, w', rfl, ⟨t, rfl⟩, ⟨t', rfl⟩⟩ := vals2 r
  refine max_two_ints (I.ok.hd hc) fun h' tk k => ⟨_, H, I.kept k, ?_, q⟩
  by_cases hj : j > i
  · rw [if_pos hj, if_pos hj]; exact ⟨_, rfl⟩
  · rw [if_neg hj, if_neg hj]; exact ⟨_, rfl⟩
theorem call_min2 (hc : X.calm = true) : CallR X (.builtin "min") (fun xs H Q => ∃ i j, xs = [.int i, .int j] ∧ Q (.int (if j < i then j else i)) H) := by
  intro pins s σ H xs us Q I r h
  obtain ⟨i, j, rfl, q⟩ := h
  obtain ⟨u, w', rfl, ⟨t, rfl⟩, ⟨t', rfl⟩⟩ := vals2 r
  refine min_two_ints (I.ok.hd hc) fun h' tk k => ⟨_, H, I.kept k, ?_, q⟩
  by_cases hj : j < i
  · rw [if_pos hj, if_pos hj]; exact ⟨_, rfl⟩
  · rw [if_neg hj, if_neg hj]; exact ⟨_, rfl⟩
theorem call_int1 : CallR X (.type "int") (fun xs H Q => (∃ i, xs = [.int i] ∧ Q (.int i) H) ∨ ∃ k, xs = [.bl k] ∧ Q (.int (if k then 1 else 0)) H) := by
  intro pins s σ H xs us Q I r h
  rcases h with ⟨i, rfl, q⟩ | ⟨k, rfl, q⟩
  · obtain ⟨u, rfl, t, rfl⟩ := vals1 r
    exact call_int_int ⟨.int i, H, I, ⟨_, rfl⟩, q⟩
  · obtain ⟨u, rfl, r1⟩ := vals1 r
    cases r1
    exact call_int_bool ⟨.int (if k then 1 else 0), H, I.tok _, ⟨_, rfl⟩, q⟩
theorem call_bool1 : CallR X (.type "bool") (fun xs H Q => (∃ i, xs = [.int i] ∧ Q (.bl (i != 0)) H) ∨ ∃ k, xs = [.bl k] ∧ Q (.bl k) H) := by
  intro pins s σ H xs us Q I r h
  rcases h with ⟨i, rfl, q⟩ | ⟨k, rfl, q⟩
  · obtain ⟨u, rfl, t, rfl⟩ := vals1 r
    exact call_bool_int ⟨.bl (i != 0), H, I, rfl, q⟩
  · obtain ⟨u, rfl, r1⟩ := vals1 r
    cases r1
    exact call_bool_bool ⟨.bl k, H, I, rfl, q⟩
theorem call_str_int : CallR X (.type "str") (fun xs H Q => ∃ i, xs = [.int i] ∧ i.natAbs.log2 < 1920 ∧ Q (.str (toString i)) H) := by
  intro pins s σ H xs us Q I r h
  obtain ⟨i, rfl, hz, q⟩ := h
  obtain ⟨u, rfl, t, rfl⟩ := vals1 r
  exact PySem.P.str_of_int hz ⟨.str _, H, I.tok _, ⟨_, rfl⟩, q⟩
theorem call_ord : CallR X (.builtin "ord") (fun xs H Q => ∃ x, xs = [.str x] ∧ x.length = 1 ∧ Q (.int (x.cps.getD 0 0 : Nat)) H) := by
  intro pins s σ H xs us Q I r h
  obtain ⟨x, rfl, hz, q⟩ := h
  obtain ⟨u, rfl, t, rfl⟩ := vals1 r
  exact ord_of_one hz ⟨.int _, H, I.tok _, ⟨_, rfl⟩, q⟩
theorem call_chr : CallR X (.builtin "chr") (fun xs H Q => ∃ i, xs = [.int i] ∧ 0 ≤ i ∧ i ≤ 1114111 ∧ Q (.str ⟨#[i.toNat]⟩) H) := by
  intro pins s σ H xs us Q I r h
  obtain ⟨i, rfl, h0, h1, q⟩ := h
  obtain ⟨u, rfl, t, rfl⟩ := vals1 r
  exact chr_of_range h0 h1 ⟨.str _, H, I.tok _, ⟨_, rfl⟩, q⟩
/-- len of a str, a bytes, a list, a tuple -/
def LenV (K : PySem.W.Frag) (x : V) (H : Hp) (n : Nat) : Prop :=
  match x with
  | .str y => y.length ≤ sizeLine ∧ n = y.length
  | .byt y => y.size ≤ sizeLine ∧ n = y.size
  | .ref p => (∃ xs, SqL K H p xs ∧ n = xs.length) ∨ ∃ xs, SqT K H p xs ∧ n = xs.length
  | _ => False
theorem call_len : CallR X (.builtin "len") (fun xs H Q => ∃ x n, xs = [x] ∧ LenV X.K x H n ∧ Q (.int n) H) := by
  intro pins s σ H xs us Q I r h
  obtain ⟨x, n, rfl, e, q⟩ := h
  obtain ⟨u, rfl, rx⟩ := vals1 r
  have hl := line63
  have hs : sizeLine = 16777216 := sizeLine_eq
  cases x with
  | str y =>
    obtain ⟨t, rfl⟩ := rx
    obtain ⟨hy, e'⟩ : y.length ≤ sizeLine ∧ n = y.length := e
    subst e'
    exact len_str (by omega) ⟨.int _, H, I.tok _, ⟨_, rfl⟩, q⟩
  | byt y =>
    obtain ⟨t, rfl⟩ := rx
    obtain ⟨hy, e'⟩ : y.size ≤ sizeLine ∧ n = y.size := e
    subst e'
    exact PySem.W.len_bytes (by omega) ⟨.int _, H, I.tok _, ⟨_, rfl⟩, q⟩
  | ref p =>
    cases rx
    have e' : (∃ xs, SqL X.K H p xs ∧ n = xs.length) ∨ ∃ xs, SqT X.K H p xs ∧ n = xs.length := e
    rcases e' with ⟨xs, hx, e'⟩ | ⟨xs, hx, e'⟩
    · subst e'
      obtain ⟨its, r', pl, hz⟩ := I.list hx
      have hlen := r'.length
      exact Calls.call_len_list pl.isList (by simp only [List.size_toArray]; omega) ⟨.int xs.length, H, I.tok _, ⟨_, by simp only [List.size_toArray]; rw [hlen]⟩, q⟩
    · subst e'
      obtain ⟨its, r', pl, hz⟩ := I.tuple hx
      have hlen := r'.length
      exact len_tuple pl (by simp only [List.size_toArray]; omega) ⟨.int xs.length, H, I.tok _, ⟨_, by simp only [List.size_toArray]; rw [hlen]⟩, q⟩
  | _ => exact (show False from e).elim
/-- divmod: a new tuple -/
theorem call_divmod : CallR X (.builtin "divmod") (fun xs H Q => ∃ i j, xs = [.int i, .int j] ∧ CDiv i j ∧ ∀ p, H p = none → Q (.ref p) (upd H p (.tup [.int (i / j), .int (i % j)]))) := by
  intro pins s σ H xs us Q I r h
  obtain ⟨i, j, rfl, ⟨h1, h2⟩, q⟩ := h
  obtain ⟨u, w', rfl, ⟨t, rfl⟩, ⟨t', rfl⟩⟩ := vals2 r
  refine divmod_int (by omega) ?_ (.inl (PyProof.noPylong_small (by omega)))
  rw [Int.fdiv_eq_ediv_of_nonneg i (by omega), Int.fmod_eq_emod_of_nonneg i (by omega)]
  have hn : H s.heap.objs.size = none := I.hok.fresh (Nat.le_refl _)
  refine ⟨.ref s.heap.objs.size, _, ?_, rfl, q _ hn⟩
  refine I.laid (fun b o e => Heap.get?_push_of_some _ e) (Nat.le_refl _) ⟨by simp only [List.length_cons, List.length_nil]; rw [sizeLine_eq]; decide, [.int (i / j) s.toks, .int (i % j) (s.toks + 1)], .cons ⟨_, rfl⟩ (.cons ⟨_, rfl⟩ .nil), ?_⟩
  exact ⟨_, Heap.get?_push_size s.heap rfl, rfl, 0, rfl⟩
end
end L2

namespace L2
open PySem PySem.Spec PyProof.Rows

/-! ### an instance, its attributes a map -/
structure ObjM (h : Heap) (x dx C : Addr) (mA : Str → Option Value) : Prop where
  obj : h.get? x = some (PySem.W.instObj C dx)
  ns : h.Ns1 dx mA
  ne : dx ≠ x

theorem lookIn_ns {h : Heap} {dx : Addr} {mA : Str → Option Value} (n : h.Ns1 dx mA) : ∃ od, h.get? dx = some od ∧ ∀ name, PySem.W.lookIn name od = some (mA name) := by
  obtain ⟨o, es, ep, ho, hd, hk, _, hm⟩ := n
  refine ⟨o, ho, fun name => ?_⟩
  have e := hm name
  unfold nsFind findBy at e
  rw [← Array.find?_toList] at e
  unfold PySem.W.lookIn
  rw [hd]
  dsimp only
  split
  · rename_i y q
    rw [q] at e
    exact congrArg some e
  · rename_i q
    rw [q] at e
    have a : es.toList.any (·.refKey) = false := by
      rw [List.any_eq_false]
      intro y hy
      obtain ⟨z, t, hkey⟩ := hk y (Array.mem_toList_iff.mp hy)
      simp [DictEntry.refKey, hkey]
    have a' : ¬ es.toList.any (·.refKey) = true := by rw [a]; exact Bool.false_ne_true
    rw [if_neg a']
    exact congrArg some e

theorem ObjM.look {h : Heap} {x dx C : Addr} {mA : Str → Option Value} (I : ObjM h x dx C mA) : ∃ od, PySem.W.InstAt h x (PySem.W.instObj C dx) C (some od) ∧ ∀ name, PySem.W.lookIn name od = some (mA name) :=
  let ⟨od, ho, hl⟩ := lookIn_ns I.ns
  ⟨od, ⟨I.obj, rfl, rfl, ho⟩, hl⟩

section
variable {prog : Program} {w : World} {A : Around} {E : Value → Shared → Prop} {s : Shared} {K : PySem.W.Frag} {x dx C f : Addr} {mA : Str → Option Value} {name : Str} {v : Value}

theorem get_map {expr : Bool} {Q : Value → Shared → Prop} (X : K.In s.heap) (I : ObjM s.heap x dx C mA) (hg : PySem.W.plainGet K C name = true) (hh : PySem.W.hasDictIn K C = true)
    (ha : PySem.W.findIn K (.ref C) name = some none) (hv : mA name = some v) (hv' : PySem.W.handedIn v = true) (h : Q v { s with toks := s.toks + 1 }) :
    wpAny (model prog w) A (getAttr (.ref x) name expr) Q E s := by
  obtain ⟨od, J, hl⟩ := I.look
  exact PySem.W.get_value X J (PySem.W.plainGet_of hg).1 (PySem.W.findObj_own hh ha rfl (by rw [hl, hv])) hv' h

theorem get_const {expr : Bool} {a : Value} {Q : Value → Shared → Prop} (X : K.In s.heap) (I : ObjM s.heap x dx C mA) (hg : PySem.W.plainGet K C name = true) (hh : PySem.W.hasDictIn K C = true)
    (ha : PySem.W.findIn K (.ref C) name = some (some a)) (hn : PySem.W.specialIn K a "__get__" = some none) (hc : PySem.W.copiedNames.contains name = false) (hv : mA name = none) (hv' : PySem.W.handedIn a = true)
    (h : Q a { s with toks := s.toks + 1 }) : wpAny (model prog w) A (getAttr (.ref x) name expr) Q E s := by
  obtain ⟨od, J, hl⟩ := I.look
  exact PySem.W.get_value X J (PySem.W.plainGet_of hg).1 (PySem.W.findObj_cls hh ha hn hv' hc (by rw [hl, hv])) hv' h

theorem get_meth {pl : Sem Bool} {Q : Value × List Value → Shared → Prop} (X : K.In s.heap) (I : ObjM s.heap x dx C mA) (hg : PySem.W.plainGet K C name = true)
    (hf : PySem.W.findIn K (.ref C) name = some (some (.ref f))) (ht : PySem.W.isFn K (.ref f) = true) (hv : mA name = none) (h : Q (.ref f, [.ref x]) s) :
    wpAny (model prog w) A (getMethod (.ref x) name pl) Q E s := by
  obtain ⟨od, J, hl⟩ := I.look
  exact PySem.W.method_fn X J (PySem.W.plainGet_of hg).1 (PySem.W.plainGet_of hg).2 hf (beq_iff_eq.mp ht) (by show (PySem.W.lookIn name od).map (·.isSome) = some false; rw [hl, hv]; rfl) h

theorem set_map {ns : List Str} {Q : Unit → Shared → Prop} (X : K.In s.heap) (I : ObjM s.heap x dx C mA)
    (hs : PySem.W.findIn K (.ref C) "__setattr__" = some (some (.builtin "object.__setattr__"))) (hp : PySem.W.plainOver K C = true) (ht : PySem.W.takerIn K C name = some none) (hh : PySem.W.hasDictIn K C = true)
    (hw : PySem.Within mA ns) (hsz : ns.length ≤ sizeLine)
    (h : ∀ h', ObjM h' x dx C (fun y => if y = name then some v else mA y) → Heap.SameBut dx s.heap h' → Q () { s with heap := h', toks := s.toks + 2 }) :
    wpAny (model prog w) A (setAttr (.ref x) name v) Q E s := by
  obtain ⟨od, J, hl⟩ := I.look
  refine PySem.W.set_plain X J hs (PySem.W.osa_open (s := { s with toks := s.toks + 1 }) (r := none) X J hp ht fun b => ?_)
  obtain ⟨cd, hc, hd'⟩ := PySem.W.any_some hh
  have hx : s.heap.get? x = some ⟨.ref C, some dx, .plain, #[]⟩ := I.obj
  refine wpAny_bind (wpAny_pure (wpAny_bind (wpAny_bind (wpAny_loadPart hx (wpAny_bind (PySem.W.Looks.here (s := { s with toks := s.toks + 1 }) (PySem.W.looks_clsIn X hc) ?_))))))
  rw [hd']
  refine wpAny_pure (a := some dx) (wpAny_bind (wpAny_pure (wpAny_bind ?_)))
  refine wpAny_nsSet1 (s := { s with toks := s.toks + 1 }) I.ns fun h' hn2 hs2 => ?_
  obtain ⟨oD, esD, epD, hoD, hdD, hcD⟩ := hn2.count (PySem.Within.cons name v hw)
  refine wpAny_bind (wpAny_lookBehind hoD (by rw [hdD]; exact pastItsLine_dict (Nat.le_trans hcD (by rw [List.length_cons]; omega))) ?_)
  exact wpAny_pure (h _ ⟨(hs2.2 _ (Ne.symm I.ne)).trans I.obj, hn2, I.ne⟩ hs2)

/-- C(..): the dict at the heap's end, the instance behind it; then its __init__ -/
theorem make_map {R : Result → Shared → Prop} {vs : List Value} {kw : List (Str × Value)} (X : K.In s.heap) (hm : PySem.W.makesIn K C = true)
    (hi : PySem.W.findIn K (.ref C) "__init__" = some (some (.ref f))) (hf : PySem.W.typeIn K (.ref f) = some (.type "function"))
    (h : codeAny (model prog w) (A.under (.builtin "type.__call__" ⟨.ref C :: vs, kw⟩)) (.call (.ref f) ⟨.ref (s.heap.objs.size + 1) :: vs, kw⟩) (PySem.W.InitBack (s.heap.objs.size + 1) R)
      { s with heap := (s.heap.push PySem.W.emptyDict).push (PySem.W.instObj C s.heap.objs.size) }) :
    codeAny (model prog w) A (.call (.ref C) ⟨vs, kw⟩) R s := by
  obtain ⟨hh, g, d, t, os⟩ := s
  exact PySem.W.make_core (PySem.W.makes_of X hm) (PySem.W.looks_findIn X hi) (fun self => PySem.W.bind_fn X self hf) (.inl rfl) h
/-- C() where there is no __init__ but object's -/
theorem make_map0 {R : Result → Shared → Prop} (X : K.In s.heap) (hm : PySem.W.makesIn K C = true)
    (hi : PySem.W.findIn K (.ref C) "__init__" = some (some (.builtin "object.__init__")))
    (hb : ∀ self, PySem.W.Looks (model prog w) s.heap (bindSpecial (.builtin "object.__init__") self) (.builtin "object.__init__", [self]))
    (h : codeAny (model prog w) (A.under (.builtin "type.__call__" ⟨[.ref C], []⟩)) (.call (.builtin "object.__init__") ⟨[.ref (s.heap.objs.size + 1)], []⟩) (PySem.W.InitBack (s.heap.objs.size + 1) R)
      { s with heap := (s.heap.push PySem.W.emptyDict).push (PySem.W.instObj C s.heap.objs.size) }) :
    codeAny (model prog w) A (.call (.ref C) ⟨[], []⟩) R s := by
  obtain ⟨hh, g, d, t, os⟩ := s
  exact PySem.W.make_core (PySem.W.makes_of X hm) (PySem.W.looks_findIn X hi) hb (.inr ⟨rfl, rfl⟩) h
end

/-! ### the attributes as a list of pairs -/
def putF (f : Str) (v : V) : List (Str × V) → List (Str × V)
  | [] => [(f, v)]
  | (g, x) :: r => if g = f then (g, v) :: r else (g, x) :: putF f v r
theorem lookup_putF (f g : Str) (v : V) : ∀ fs : List (Str × V), (putF f v fs).lookup g = if g = f then some v else fs.lookup g
  | [] => by
    show List.lookup g [(f, v)] = _
    by_cases h : g = f
    · have hb : (g == f) = true := beq_iff_eq.mpr h
      simp only [List.lookup, hb, if_pos h]
    · have hb : (g == f) = false := beq_eq_false_iff_ne.mpr h
      simp only [List.lookup, hb, if_neg h]
  | (k, x) :: r => by
    have ih := lookup_putF f g v r
    rw [show putF f v ((k, x) :: r) = (if k = f then (k, v) :: r else (k, x) :: putF f v r) from rfl]
    by_cases hk : k = f
    · rw [if_pos hk]
      by_cases h : g = k
      · have hb : (g == k) = true := beq_iff_eq.mpr h
        simp only [List.lookup, hb, if_pos (h.trans hk)]
      · have hb : (g == k) = false := beq_eq_false_iff_ne.mpr h
        simp only [List.lookup, hb, if_neg (fun e : g = f => h (e.trans hk.symm))]
    · rw [if_neg hk]
      by_cases h : g = k
      · have hb : (g == k) = true := beq_iff_eq.mpr h
        simp only [List.lookup, hb, if_neg (fun e : g = f => hk (h.symm.trans e))]
      · have hb : (g == k) = false := beq_eq_false_iff_ne.mpr h
        simp only [List.lookup, hb]
        exact ih
theorem keys_putF (f : Str) (v : V) : ∀ fs : List (Str × V), f ∈ (putF f v fs).map (·.1) ∧ ∀ g, g ∈ fs.map (·.1) → g ∈ (putF f v fs).map (·.1)
  | [] => ⟨by simp [putF], fun g h => by simp at h⟩
  | (k, x) :: r => by
    obtain ⟨i1, i2⟩ := keys_putF f v r
    rw [show putF f v ((k, x) :: r) = (if k = f then (k, v) :: r else (k, x) :: putF f v r) from rfl]
    by_cases hk : k = f
    · rw [if_pos hk]
      subst hk
      exact ⟨by simp, fun g h => by simpa using h⟩
    · rw [if_neg hk]
      refine ⟨?_, fun g h => ?_⟩
      · rw [List.map_cons]
        exact List.mem_cons_of_mem _ i1
      · rw [List.map_cons] at h ⊢
        rcases List.mem_cons.mp h with e | e
        · exact List.mem_cons.mpr (.inl e)
        · exact List.mem_cons_of_mem _ (i2 g e)
theorem length_putF (f : Str) (v : V) : ∀ fs : List (Str × V), (putF f v fs).length ≤ fs.length + 1
  | [] => by simp [putF]
  | (k, x) :: r => by
    have ih := length_putF f v r
    rw [show putF f v ((k, x) :: r) = (if k = f then (k, v) :: r else (k, x) :: putF f v r) from rfl]
    by_cases hk : k = f
    · rw [if_pos hk, List.length_cons, List.length_cons]; omega
    · rw [if_neg hk, List.length_cons, List.length_cons]; omega

theorem RelO.some_of {v : V} {o : Option Value} (r : RelO (some v) o) : ∃ u, o = some u ∧ RelV v u := by
  cases o with
  | none => exact (show False from r).elim
  | some u => exact ⟨u, rfl, r⟩
theorem RelO.none_of {o : Option Value} (r : RelO none o) : o = none := by
  cases o with
  | none => rfl
  | some u => exact (show False from r).elim
theorem handed_of {v : V} {u : Value} (r : RelV v u) : PySem.W.handedIn u = true := by
  cases v with
  | non => cases (show u = Value.none from r); rfl
  | bl b => cases (show u = Value.bool b from r); rfl
  | int i => obtain ⟨t, e⟩ := (show ∃ t, u = Value.int i t from r); cases e; rfl
  | str x => obtain ⟨t, e⟩ := (show ∃ t, u = Value.str x t from r); cases e; rfl
  | byt b => obtain ⟨t, e⟩ := (show ∃ t, u = Value.bytes b t from r); cases e; rfl
  | flt b => obtain ⟨t, e⟩ := (show ∃ t, u = Value.float b t from r); cases e; rfl
  | ref a => cases (show u = Value.ref a from r); rfl
  | ty n => cases (show u = Value.type n from r); rfl

section
variable {P : Program} {w : World} {H H' : Hp} {h h' : Heap} {a C dx : Addr} {fs fs' : List (Str × V)}
theorem ins_get (hok : HOk P w H h) (e : H a = some (.ins C dx fs)) : ∃ mA, ObjM h a dx C mA ∧ (∀ f, RelO (fs.lookup f) (mA f)) ∧ PySem.Within mA (fs.map (·.1)) ∧ fs.length ≤ 1000 ∧ H dx = some (.own a) := by
  obtain ⟨d, z, ne, ob, mA, n, r, q⟩ := (show ObjOk P w H h a (.ins C dx fs) from hok a _ e)
  exact ⟨mA, ⟨ob, n, ne⟩, r, q, z, d⟩
end

/-! ### what of the text a class must have -/
structure Cls (K : PySem.W.Frag) (C : Addr) : Prop where
  pg : PySem.W.plainGet K C Str.empty = true
  hd : PySem.W.hasDictIn K C = true
  po : PySem.W.plainOver K C = true
  sa : PySem.W.findIn K (.ref C) "__setattr__" = some (some (.builtin "object.__setattr__"))
theorem Cls.get {K : PySem.W.Frag} {C : Addr} (c : Cls K C) (f : Str) : PySem.W.plainGet K C f = true := c.pg
/-- no class of it has the name -/
def NoAttr (K : PySem.W.Frag) (C : Addr) (f : Str) : Prop := PySem.W.findIn K (.ref C) f = some none
theorem NoAttr.taker {K : PySem.W.Frag} {C : Addr} {f : Str} (n : NoAttr K C f) : PySem.W.takerIn K C f = some none := by
  unfold PySem.W.takerIn
  rw [show PySem.W.findIn K (.ref C) f = some none from n]
  rfl
/-- a constant of the class -/
structure Con (K : PySem.W.Frag) (C : Addr) (f : Str) (v : V) (u : Value) : Prop where
  at_ : PySem.W.findIn K (.ref C) f = some (some u)
  rel : RelV v u
  get : PySem.W.specialIn K u "__get__" = some none
  cp : PySem.W.copiedNames.contains f = false
/-- a method: a plain def of the class or of one above it -/
structure Meth (K : PySem.W.Frag) (C : Addr) (m : Str) (f : Addr) : Prop where
  at_ : PySem.W.findIn K (.ref C) m = some (some (.ref f))
  fn : PySem.W.isFn K (.ref f) = true
  kp : PySem.W.keepIn K (.ref f) = true

section
variable {X : Cx} {pins : List (Addr × Obj)} {σ : St} {H : Hp} {s : Shared} {a C dx : Addr} {fs : List (Str × V)} {f : Str} {v : V} {A : Around} {E : Value → Shared → Prop}

theorem getattr_ok {b : Bool} {Q : Value → Shared → Prop} (I : Inv X pins σ H s) (e : H a = some (.ins C dx fs)) (c : Cls X.K C) (n : NoAttr X.K C f) (l : fs.lookup f = some v)
    (h : ∀ u s', Inv X pins σ H s' → RelV v u → Q u s') : wpAny (model X.prog X.w) A (getAttr (.ref a) f b) Q E s := by
  obtain ⟨mA, O, r, _, _, _⟩ := ins_get I.hok e
  obtain ⟨u, hu, ru⟩ := RelO.some_of (v := v) (o := mA f) (by rw [← l]; exact r f)
  exact get_map I.kIn O (c.get f) c.hd n hu (handed_of ru) (h u _ (I.tok _) ru)

theorem getcon_ok {b : Bool} {u : Value} {Q : Value → Shared → Prop} (I : Inv X pins σ H s) (e : H a = some (.ins C dx fs)) (c : Cls X.K C) (k : Con X.K C f v u) (l : fs.lookup f = none)
    (h : ∀ s', Inv X pins σ H s' → Q u s') : wpAny (model X.prog X.w) A (getAttr (.ref a) f b) Q E s := by
  obtain ⟨mA, O, r, _, _, _⟩ := ins_get I.hok e
  have hn : mA f = none := RelO.none_of (by rw [← l]; exact r f)
  exact get_const I.kIn O (c.get f) c.hd k.at_ k.get k.cp hn (handed_of k.rel) (h _ (I.tok _))

theorem getmeth_ok {m : Str} {g : Addr} {pl : Sem Bool} {Q : Value × List Value → Shared → Prop} (I : Inv X pins σ H s) (e : H a = some (.ins C dx fs)) (c : Cls X.K C) (k : Meth X.K C m g) (l : fs.lookup m = none)
    (h : Q (.ref g, [.ref a]) s) : wpAny (model X.prog X.w) A (getMethod (.ref a) m pl) Q E s := by
  obtain ⟨mA, O, r, _, _, _⟩ := ins_get I.hok e
  have hn : mA m = none := RelO.none_of (by rw [← l]; exact r m)
  exact get_meth I.kIn O (c.get m) k.at_ k.fn hn h

theorem setattr_ok {y : V} {u : Value} {Q : Unit → Shared → Prop} (I : Inv X pins σ H s) (e : H a = some (.ins C dx fs)) (c : Cls X.K C) (n : NoAttr X.K C f) (hl : fs.length < 1000) (ry : RelV y u)
    (h : ∀ s', Inv X pins σ (upd H a (.ins C dx (putF f y fs))) s' → Q () s') : wpAny (model X.prog X.w) A (setAttr (.ref a) f u) Q E s := by
  obtain ⟨mA, O, r, wi, _, ho⟩ := ins_get I.hok e
  have hz : (fs.map (·.1)).length ≤ sizeLine := by rw [List.length_map, sizeLine_eq]; omega
  refine set_map I.kIn O c.sa c.po n.taker c.hd wi hz fun h' O' sb => h _ ?_
  have hd : ∃ o, h'.get? dx = some o := let ⟨o, _, _, e', _⟩ := O'.ns; ⟨o, e'⟩
  refine I.write (x := a) (e := dx) (by rw [e]; exact True.intro) (.inr ho) (fun b q hb z => (sb.2 b hb).trans z) hd ?_
  refine ⟨by rw [upd_ne O.ne]; exact ho, ?_, O.ne, O'.obj, _, O'.ns, fun g => ?_, fun g hg => ?_⟩
  · have := length_putF f y fs; omega
  · show RelO ((putF f y fs).lookup g) (if g = f then some u else mA g)
    rw [lookup_putF]
    by_cases q : g = f
    · rw [if_pos q, if_pos q]; exact ry
    · rw [if_neg q, if_neg q]; exact r g
  · by_cases q : g = f
    · rw [q]; exact (keys_putF f y fs).1
    · refine (keys_putF f y fs).2 g (wi g fun z => hg ?_)
      show (if g = f then some u else mA g) = none
      rw [if_neg q]; exact z

/-- a new instance, tracked, without attributes -/
theorem Inv.made (I : Inv X pins σ H s) : Inv X pins σ (upd (upd H s.heap.objs.size (.own (s.heap.objs.size + 1))) (s.heap.objs.size + 1) (.ins C s.heap.objs.size []))
    { s with heap := (s.heap.push PySem.W.emptyDict).push (PySem.W.instObj C s.heap.objs.size) } := by
  have e1 : (s.heap.push PySem.W.emptyDict).get? s.heap.objs.size = some PySem.W.emptyDict := Heap.get?_push_size s.heap rfl
  have e2 : ((s.heap.push PySem.W.emptyDict).push (PySem.W.instObj C s.heap.objs.size)).get? (s.heap.objs.size + 1) = some (PySem.W.instObj C s.heap.objs.size) := by
    have := Heap.get?_push_size (s.heap.push PySem.W.emptyDict) (o := PySem.W.instObj C s.heap.objs.size) rfl
    rwa [Heap.size_push] at this
  have e3 : (s.heap.push PySem.W.emptyDict).Ns s.heap.objs.size (fun _ => none) := ⟨PySem.W.emptyDict, #[], _, e1, rfl, (fun e he => absurd he (by simp)), fun _ => rfl⟩
  have I1 := I.laid (a := s.heap.objs.size) (o := .own (s.heap.objs.size + 1)) (h' := s.heap.push PySem.W.emptyDict) (t' := s.toks) (fun b u q => Heap.get?_push_of_some _ q) (Nat.le_refl _) ⟨_, e1⟩
  refine I1.laid (a := s.heap.objs.size + 1) (o := .ins C s.heap.objs.size []) (t' := s.toks) (fun b u q => Heap.get?_push_of_some _ q) (Nat.le_of_eq (Heap.size_push _ _)) ?_
  have ne : s.heap.objs.size ≠ s.heap.objs.size + 1 := Nat.ne_of_lt (Nat.lt_succ_self _)
  refine ⟨by rw [upd_ne ne, upd_same], Nat.zero_le _, ne, e2, fun _ => none, (Heap.Ns1.of_empty e3).at fun o q => Heap.get?_push_of_some _ q, fun _ => True.intro, fun y hy => absurd rfl hy⟩

/-- e.f where nothing but the object is asked: through attributeBase (super) and the last hold -/
theorem attr_of {prog : Program} {w : World} {env : Env} {e : Expr} {f : Str} {pos : Pos} {s : Shared} {Q : Value → Shared → Prop} (hb : attributeBase e f env (eval e env) = eval e env)
    (h : wpAny (model prog w) A (eval e env) (fun o s₁ => wpAny (model prog w) A (getAttr o f true) Q E s₁) E s) : wpAny (model prog w) A (eval (.Attribute e f pos) env) Q E s :=
  Attribute_any_ h (by rw [arm_eval_Attribute, hb])
end

/-! ### readings and rules -/
/-- e.f, an attribute of the instance -/
def tFld (K : PySem.W.Frag) (ta : TE) (f : Str) : TE := fun σ H Q => ta σ H fun x H1 => ∃ a C dx fs v, x = .ref a ∧ H1 a = some (.ins C dx fs) ∧ Cls K C ∧ NoAttr K C f ∧ fs.lookup f = some v ∧ Q v H1
/-- e.f, a constant of the class -/
def tCon (K : PySem.W.Frag) (ta : TE) (f : Str) : TE := fun σ H Q => ta σ H fun x H1 => ∃ a C dx fs v u, x = .ref a ∧ H1 a = some (.ins C dx fs) ∧ Cls K C ∧ Con K C f v u ∧ fs.lookup f = none ∧ Q v H1
/-- e.f = value -/
def sFld (K : PySem.W.Frag) (ta tv : TE) (f : Str) : TS := fun D σ H => tv σ H fun y H1 => ta σ H1 fun x H2 => ∃ a C dx fs, x = .ref a ∧ H2 a = some (.ins C dx fs) ∧ Cls K C ∧ NoAttr K C f ∧ fs.length < 1000 ∧
  D.nx σ (upd H2 a (.ins C dx (putF f y fs)))
/-- an augmented operator on two values -/
def InOp (X : Cx) (op : Operator) (rd : V → V → Hp → VK → Prop) : Prop :=
  ∀ (pins : List (Addr × Obj)) (s : Shared) (σ : St) (H : Hp) (x y : V) (u v : Value) (Q : VK), Inv X pins σ H s → RelV x u → RelV y v → rd x y H Q → wpAny (model X.prog X.w) X.A (inplaceOp op u v) (EP X pins σ Q) X.xe s
/-- e.f op= value -/
def sFldAug (K : PySem.W.Frag) (ta tv : TE) (rd : V → V → Hp → VK → Prop) (f : Str) : TS := fun D σ H => ta σ H fun x H1 => ∃ a C dx fs v, x = .ref a ∧ H1 a = some (.ins C dx fs) ∧ Cls K C ∧ NoAttr K C f ∧ fs.lookup f = some v ∧
  tv σ H1 fun y H2 => rd v y H2 fun z H3 => ∃ dx' fs', H3 a = some (.ins C dx' fs') ∧ fs'.length < 1000 ∧ D.nx σ (upd H3 a (.ins C dx' (putF f z fs')))

section
variable {X : Cx} {o e value : Expr} {f : Str} {pos pos' tpos : Pos} {ta tv : TE}
theorem pe_fld (he : PE X e ta) (hb : attributeBase e f X.env (eval e X.env) = eval e X.env) : PE X (.Attribute e f pos) (tFld X.K ta f) := by
  intro pins s σ H Q I h
  refine attr_of hb (thn (he pins s σ H _ I h) fun u s1 ⟨x, H1, I1, rx, a, C, dx, fs, v, ex, ea, c, n, l, q⟩ => ?_)
  subst ex
  obtain rfl : u = Value.ref a := rx
  exact getattr_ok I1 ea c n l fun u' s2 I2 ru => ⟨v, H1, I2, ru, q⟩
theorem pe_con (he : PE X e ta) (hb : attributeBase e f X.env (eval e X.env) = eval e X.env) : PE X (.Attribute e f pos) (tCon X.K ta f) := by
  intro pins s σ H Q I h
  refine attr_of hb (thn (he pins s σ H _ I h) fun u s1 ⟨x, H1, I1, rx, a, C, dx, fs, v, u0, ex, ea, c, k, l, q⟩ => ?_)
  subst ex
  obtain rfl : u = Value.ref a := rx
  exact getcon_ok I1 ea c k l fun s2 I2 => ⟨v, H1, I2, k.rel, q⟩
theorem ps_fld (ha : PE X o ta) (hv : PE X value tv) (hs : swapsWith value (some (.Attribute o f pos')) pos.line X.env = pure false) : PS X (.Assign [.Attribute o f pos'] value pos) (sFld X.K ta tv f) := by
  intro pins s σ H D I h
  refine plainObj_wpAny_Assign_Attribute (thn (hv pins s σ H _ I h) fun u s1 ⟨y, H1, I1, ry, q⟩ => thn (ha pins s1 σ H1 _ I1 q) fun ov s2 ⟨x, H2, I2, rx, a, C, dx, fs, ex, ea, c, n, l, q2⟩ => ?_) hs
  subst ex
  obtain rfl : ov = Value.ref a := rx
  exact setattr_ok I2 ea c n l ry fun s3 I3 => ⟨σ, _, I3, q2⟩
theorem ps_fldaug {op : Operator} {rd : V → V → Hp → VK → Prop} (ha : PE X o ta) (hv : PE X value tv) (hop : InOp X op rd) : PS X (.AugAssign (.Attribute o f tpos) op value pos) (sFldAug X.K ta tv rd f) := by
  intro pins s σ H D I h
  refine wpAny_AugAssign_AttributeAny (thn (ha pins s σ H _ I h) fun ov s1 ⟨x, H1, I1, rx, a, C, dx, fs, v, ex, ea, c, n, l, q⟩ => ?_)
  subst ex
  obtain rfl : ov = Value.ref a := rx
  refine getattr_ok I1 ea c n l fun u s2 I2 ru => thn (hv pins s2 σ H1 _ I2 q) fun w3 s3 ⟨y, H2, I3, ry, q3⟩ => thn (hop pins s3 σ H2 v y u w3 _ I3 ru ry q3) fun w4 s4 ⟨z, H3, I4, rz, dx', fs', ea', l', q4⟩ => ?_
  exact setattr_ok I4 ea' c n l' rz fun s5 I5 => ⟨σ, _, I5, q4⟩
def rAdd : V → V → Hp → VK → Prop := fun x y H Q => ∃ i j, x = .int i ∧ y = .int j ∧ Q (.int (i + j)) H
def rSub : V → V → Hp → VK → Prop := fun x y H Q => ∃ i j, x = .int i ∧ y = .int j ∧ Q (.int (i - j)) H
theorem in_add : InOp X .Add rAdd := by
  rintro pins s σ H x y u v Q I rx ry ⟨i, j, rfl, rfl, q⟩
  obtain ⟨t, rfl⟩ := (show ∃ t, u = Value.int i t from rx)
  obtain ⟨t', rfl⟩ := (show ∃ t', v = Value.int j t' from ry)
  exact PyProof.Rows.iadd_int ⟨.int (i + j), H, I.tok _, ⟨_, rfl⟩, q⟩
theorem in_sub : InOp X .Sub rSub := by
  rintro pins s σ H x y u v Q I rx ry ⟨i, j, rfl, rfl, q⟩
  obtain ⟨t, rfl⟩ := (show ∃ t, u = Value.int i t from rx)
  obtain ⟨t', rfl⟩ := (show ∃ t', v = Value.int j t' from ry)
  exact PyProof.Rows.isub_int ⟨.int (i - j), H, I.tok _, ⟨_, rfl⟩, q⟩

/-- what is between an instance and its method: the tree of a method call -/
theorem methcall_of {pl : Sem Bool} {m : Str} {apos : Pos} {args : List Expr} {pins : List (Addr × Obj)} {s : Shared} {σ : St} {H : Hp} {Q : Value → Shared → Prop} {te : TE} (he : PE X e te) (I : Inv X pins σ H s)
    (h : te σ H fun x H1 => ∃ a C dx fs g, x = .ref a ∧ H1 a = some (.ins C dx fs) ∧ Cls X.K C ∧ Meth X.K C m g ∧ fs.lookup m = none ∧
      ∀ s1, Inv X pins σ H1 s1 → wpAny (model X.prog X.w) X.A (callWith pos (.ref g) [.ref a] (backTo pos (starEach args X.env)) (backToKw pos (keywordEach [] X.env))) Q X.xe s1)
    (ht : eval (.Call (.Attribute e m apos) args [] pos) X.env = (do
      let ov ← eval e X.env
      standAt apos.atName
      let (f, first) ← holding [ov] (getMethod ov m pl)
      callWith pos f first (backTo pos (starEach args X.env)) (backToKw pos (keywordEach [] X.env)))) :
    wpAny (model X.prog X.w) X.A (eval (.Call (.Attribute e m apos) args [] pos) X.env) Q X.xe s := by
  refine PySem.W.methodCall_KW (pl := pl) (thn (he pins s σ H _ I h) fun u s1 ⟨x, H1, I1, rx, a, C, dx, fs, g, ex, ea, c, k, l, q⟩ => ?_) ht
  subst ex
  obtain rfl : u = Value.ref a := rx
  exact getmeth_ok I1 ea c k l (q s1 I1)
end

/-! ### isinstance -/
section
variable {X : Cx} {pins : List (Addr × Obj)} {σ : St} {H : Hp} {s : Shared} {A : Around} {E : Value → Shared → Prop} {Q : Value → Shared → Prop} {c : Value} {b : Bool}
/-- the type of a value, as the fragment's deciders take it; for an instance its class -/
inductive TyOf (K : PySem.W.Frag) (H : Hp) : V → Value → Prop where
  | non : TyOf K H .non (.type "NoneType")
  | bl (x : Bool) : TyOf K H (.bl x) (.type "bool")
  | int (i : Int) : TyOf K H (.int i) (.type "int")
  | str (x : Str) : TyOf K H (.str x) (.type "str")
  | flt (x : UInt64) : TyOf K H (.flt x) (.type "float")
  | lst {a : Addr} {xs : List V} (e : H a = some (.lst xs)) : TyOf K H (.ref a) (.type "list")
  | frz {a : Addr} {o : Obj} {xs : List V} (e : H a = some (.frz o (.lst xs))) : TyOf K H (.ref a) (.type "list")
  | tup {a : Addr} {xs : List V} (e : H a = some (.tup xs)) : TyOf K H (.ref a) (.type "tuple")
  | dK {a : Addr} {kvs : List (Key × V)} (e : H a = some (.dK kvs)) : TyOf K H (.ref a) (.type "dict")
  | dT {a : Addr} {kvs : List (List Key × V)} (e : H a = some (.dT kvs)) : TyOf K H (.ref a) (.type "dict")
  | ins {a C dx : Addr} {fs : List (Str × V)} (e : H a = some (.ins C dx fs)) (cl : Cls K C) (ha : PySem.W.findIn K (.ref C) "__class__" = some (some (.builtin "object.__class__")))
      (hn : PySem.W.specialIn K (.builtin "object.__class__") "__get__" = some (some (.builtin "getset_descriptor.__get__"))) (htk : PySem.W.takesIn K (.builtin "object.__class__") = some true)
      (hm : PySem.W.mroIn K C (.type "object") = some true) : TyOf K H (.ref a) (.ref C)
/-- isinstance(x, c) for one class c, a built-in or an own one: kitOne's answer -/
theorem isinst_ok {x : V} {u t : Value} (I : Inv X pins σ H s) (rx : RelV x u) (ty : TyOf X.K H x t) (e : PySem.W.kitOne X.K t c = some b) (h : ∀ tk, Q (.bool b) { s with toks := tk }) :
    wpAny (model X.prog X.w) A (call (.builtin "isinstance") [u, c]) Q E s := by
  cases ty with
  | non => cases (show u = Value.none from rx); exact PySem.W.kia_one PySem.W.kitx_none I.kIn True.intro e (fun z => nomatch z) h
  | bl y => cases (show u = Value.bool y from rx); exact PySem.W.kia_one PySem.W.kitx_bool I.kIn True.intro e (fun z => nomatch z) h
  | int i => obtain ⟨t, q⟩ := (show ∃ t, u = Value.int i t from rx); cases q; exact PySem.W.kia_one PySem.W.kitx_int I.kIn True.intro e (fun z => nomatch z) h
  | str y => obtain ⟨t, q⟩ := (show ∃ t, u = Value.str y t from rx); cases q; exact PySem.W.kia_one PySem.W.kitx_str I.kIn True.intro e (fun z => nomatch z) h
  | flt y => obtain ⟨t, q⟩ := (show ∃ t, u = Value.float y t from rx); cases q; exact PySem.W.kia_one PySem.W.kitx_float I.kIn True.intro e (fun z => nomatch z) h
  | @lst a xs ea =>
    cases (show u = Value.ref a from rx)
    obtain ⟨_, _, n, _, h1⟩ := (show ObjOk X.prog X.w H s.heap a (.lst xs) from I.hok a _ ea)
    exact PySem.W.kia_one PySem.W.kitx_list I.kIn ⟨_, h1, rfl⟩ e (fun z => nomatch z) h
  | @frz a ob xs ea =>
    cases (show u = Value.ref a from rx)
    obtain ⟨_, _, _, n, _, h1⟩ := (show ObjOk X.prog X.w H s.heap a (.frz ob (.lst xs)) from I.hok a _ ea)
    exact PySem.W.kia_one PySem.W.kitx_list I.kIn ⟨_, h1, rfl⟩ e (fun z => nomatch z) h
  | @tup a xs ea =>
    cases (show u = Value.ref a from rx)
    obtain ⟨_, _, _, p⟩ := (show ObjOk X.prog X.w H s.heap a (.tup xs) from I.hok a _ ea)
    obtain ⟨o, h1, h2, _⟩ := p
    exact PySem.W.kia_one PySem.W.kitx_tuple I.kIn ⟨o, h1, h2⟩ e (fun z => nomatch z) h
  | @dK a kvs ea =>
    cases (show u = Value.ref a from rx)
    obtain ⟨_, _, vs, _, p⟩ := (show ObjOk X.prog X.w H s.heap a (.dK kvs) from I.hok a _ ea)
    obtain ⟨o, es, ep, h1, h2, _⟩ := p
    exact PySem.W.kia_one PySem.W.kitx_dict I.kIn ⟨o, h1, h2.1⟩ e (fun z => nomatch z) h
  | @dT a kvs ea =>
    cases (show u = Value.ref a from rx)
    obtain ⟨_, _, xs, _, o, es, ep, h1, h2, _⟩ := (show ObjOk X.prog X.w H s.heap a (.dT kvs) from I.hok a _ ea)
    exact PySem.W.kia_one PySem.W.kitx_dict I.kIn ⟨o, h1, h2.1⟩ e (fun z => nomatch z) h
  | @ins a C dx fs ea cl ha hn htk hm =>
    cases (show u = Value.ref a from rx)
    obtain ⟨mA, O, _⟩ := ins_get I.hok ea
    obtain ⟨od, J, _⟩ := O.look
    exact PySem.W.kia_one (PySem.W.kitx_own (cl.get _) cl.hd ha hn htk hm) I.kIn J e (fun z => nomatch z) h
end
end L2

namespace L2
open PySem PySem.Spec PyProof.Rows

/-! ### room -/
structure Room (k : Nat) (A : Around) : Prop where
  hd : A.handled = none
  dp : A.depth + 3 * k + 5 < recursionLimit
  un : A.units + 16 * k + 200 < cLine
theorem Room.mono {j k : Nat} {A : Around} (r : Room k A) (h : j ≤ k) : Room j A := ⟨r.hd, by have := r.dp; omega, by have := r.un; omega⟩
theorem Room.deeper {k : Nat} {A : Around} (r : Room (k + 1) A) (env : Env) : Room k (A.deeper env) :=
  ⟨r.hd, by have := r.dp; show A.depth + 1 + 3 * k + 5 < _; omega, by have := r.un; show A.units + 3 + 16 * k + 200 < _; omega⟩
theorem Room.in1 {k : Nat} {A : Around} (r : Room (k + 1) A) : Room k A.in1 :=
  ⟨r.hd, by have := r.dp; show A.depth + 3 * k + 5 < _; omega, by have := r.un; show A.units + 1 + 16 * k + 200 < _; omega⟩
theorem make_depth {A : Around} {C : Addr} {us : List Value} {kw : List (Str × Value)} : (A.under (.builtin "type.__call__" ⟨.ref C :: us, kw⟩)).depth = A.depth + 1 := by
  first | rfl | simp [Around.under, Code.weight, Code.isCreation, Code.isGuard, Code.isCaller, Code.frames, Code.isFrame, guardIds]
theorem make_units {A : Around} {C : Addr} {us : List Value} {kw : List (Str × Value)} : (A.under (.builtin "type.__call__" ⟨.ref C :: us, kw⟩)).units = A.units + 1 := by
  first | rfl | simp [Around.under, Code.cUnits, Code.frames, Code.isFrame]
theorem Room.make {k : Nat} {A : Around} (r : Room (k + 1) A) (C : Addr) (us : List Value) (kw : List (Str × Value)) : Room k (A.under (.builtin "type.__call__" ⟨.ref C :: us, kw⟩)) :=
  ⟨r.hd, by have := r.dp; rw [make_depth]; omega, by have := r.un; rw [make_units]; omega⟩
theorem Room.depth {k : Nat} {A : Around} (r : Room k A) : A.depth < recursionLimit := by have := r.dp; omega
theorem Room.units {k : Nat} {A : Around} (r : Room k A) : A.units + 64 < cLine := by have := r.un; omega
theorem Room.units0 {k : Nat} {A : Around} (r : Room k A) : A.units < cLine := by have := r.un; omega

/-! ### argument lists and displays -/
def tNil : TA := fun _ H Q => Q [] H
def tCons (ta : TE) (tr : TA) : TA := fun σ H Q => ta σ H fun x H1 => tr σ H1 fun xs H2 => Q (x :: xs) H2
section
variable {X : Cx} {e : Expr} {es : List Expr} {te : TE} {t : TA} {pos : Pos}
theorem pa_nil : PA X [] tNil := fun _ _ _ _ H Q I h => Calls.spliced_nil ⟨[], H, I, .nil, h⟩
theorem pa_cons (ha : PE X e te) (hr : PA X es t) (hs : starEach (e :: es) X.env = (false, eval e X.env) :: starEach es X.env := by rfl) : PA X (e :: es) (tCons te t) := by
  intro pos pins s σ H Q I h
  rw [hs]
  show wpAny _ _ (spliced ((false, eval e X.env) :: backTo pos (starEach es X.env))) _ _ s
  refine Calls.spliced_cons (thn (ha pins s σ H _ I h) fun u s1 ⟨x, H1, I1, r1, q1⟩ => ?_)
  exact thn (hr pos pins s1 σ H1 _ I1 q1) fun us s2 ⟨xs, H2, I2, r2, q2⟩ => ⟨x :: xs, H2, I2, .cons r1 r2, q2⟩

/-- a tuple, a list of written items -/
def tTup (t : TA) : TE := fun σ H Q => t σ H fun xs H1 => xs.length ≤ sizeLine ∧ ∀ p, H1 p = none → Q (.ref p) (upd H1 p (.tup xs))
def tLst (t : TA) : TE := fun σ H Q => t σ H fun xs H1 => xs.length ≤ sizeLine ∧ ∀ p, H1 p = none → Q (.ref p) (upd H1 p (.lst xs))
theorem pe_tup {x1} (h : PA X es t) : PE X (.Tuple es x1 pos) (tTup t) := by
  intro pins s σ H Q I hq
  refine wpAny_Tuple_spliced (thn (h pos pins s σ H _ I hq) fun us s1 ⟨xs, H1, I1, r, z, q⟩ => ⟨by rw [← r.length]; exact z, ?_⟩)
  have hf : H1 s1.heap.objs.size = none := I1.hok.fresh (Nat.le_refl _)
  refine ⟨.ref s1.heap.objs.size, upd H1 s1.heap.objs.size (.tup xs), I1.laid (t' := s1.toks) (fun b u e => Heap.get?_push_of_some _ e) (Nat.le_refl _) ?_, rfl, q _ hf⟩
  exact ⟨z, us, r, ⟨_, Heap.get?_push_size _ rfl, rfl, _, rfl⟩⟩
theorem pe_lst (h : PA X es t) : PE X (.List es pos) (tLst t) := by
  intro pins s σ H Q I hq
  refine wpAny_List_spliced (thn (h pos pins s σ H _ I hq) fun us s1 ⟨xs, H1, I1, r, z, q⟩ => ⟨by rw [← r.length]; exact z, ?_⟩)
  have hf : H1 s1.heap.objs.size = none := I1.hok.fresh (Nat.le_refl _)
  refine ⟨.ref s1.heap.objs.size, upd H1 s1.heap.objs.size (.lst xs), I1.laid (t' := s1.toks) (fun b u e => Heap.get?_push_of_some _ e) (Nat.le_refl _) ?_, rfl, q _ hf⟩
  exact ⟨z, us, 0, r, Heap.get?_push_size _ rfl⟩
end

/-! ### what a def promises -/
/-- a def's promise: the bound arguments in the parameters' order, the heap, the wanted end, the wanted exception -/
abbrev Sp := List V → Hp → VK → XK → Prop
/-- how an exception lies behind a call (file 08 gives it): the callers' frames, abstract heap and state ahead of the call, the wish, the exception, the state -/
abbrev CXT := List Env → Hp → Shared → XK → Value → Shared → Prop

/-- the state at a call -/
structure Env0 (P : Program) (w : World) (K : PySem.W.Frag) (mg : Str → Option Value) (base : Heap) (A : Around) (outer : List Env) (s : Shared) (H : Hp) : Prop where
  frames : A.frames = some outer
  mod : Mod K mg base
  bs : ∀ b o, base.get? b = some o → s.heap.get? b = some o ∧ H b = none
  bsz : base.objs.size ≤ s.heap.objs.size
  funs : s.heap.FunFrames base outer
  frf : ∀ b ∈ frs outer, H b = none
  hok : HOk P w H s.heap
  bare : AllBare s.gens
/-- a call's end -/
def CE (outer : List Env) (P : Program) (w : World) (H : Hp) (s : Shared) (Q : VK) (u : Value) (s' : Shared) : Prop :=
  ∃ v H', s'.os = s.os ∧ AllBare s'.gens ∧ Un (frs outer) [] H H' s.heap s'.heap ∧ HOk P w H' s'.heap ∧ RelV v u ∧ Q v H'
def CR (CX : CXT) (outer : List Env) (P : Program) (w : World) (H : Hp) (s : Shared) (Q : VK) (E : XK) (r : Result) (s' : Shared) : Prop :=
  match r with
  | .ok (.ret u) => CE outer P w H s Q u s'
  | .ok _ => False
  | .error e => CX outer H s E e s'
structure FnOk (P : Program) (w : World) (K : PySem.W.Frag) (mg : Str → Option Value) (base : Heap) (CX : CXT) (k : Nat) (f : Addr) (fd : FuncData) (ps : List Str) (sp : Sp) : Prop where
  len : ∀ vs H Q E, sp vs H Q E → vs.length = ps.length
  run : ∀ (A : Around) (outer : List Env) (s : Shared) (H : Hp) (args : Args) (us : List Value) (vs : List V) (Q : VK) (E : XK), Room k A → Env0 P w K mg base A outer s H → BindsTo s fd args (ps.zip us) → Vals vs us → sp vs H Q E →
    codeAny (model P w) A (.call (.ref f) args) (CR CX outer P w H s Q E) s
theorem FnOk.mono {P : Program} {w : World} {K : PySem.W.Frag} {mg : Str → Option Value} {base : Heap} {CX : CXT} {j k : Nat} {f : Addr} {fd : FuncData} {ps : List Str} {sp : Sp} (F : FnOk P w K mg base CX j f fd ps sp) (h : j ≤ k) :
    FnOk P w K mg base CX k f fd ps sp := ⟨F.len, fun A outer s H args us vs Q E hr => F.run A outer s H args us vs Q E (hr.mono h)⟩
/-- a weaker promise -/
theorem FnOk.imp {P : Program} {w : World} {K : PySem.W.Frag} {mg : Str → Option Value} {base : Heap} {CX : CXT} {k : Nat} {f : Addr} {fd : FuncData} {ps : List Str} {sp sp' : Sp} (F : FnOk P w K mg base CX k f fd ps sp)
    (h : ∀ vs H Q E, sp' vs H Q E → sp vs H Q E) : FnOk P w K mg base CX k f fd ps sp' :=
  ⟨fun vs H Q E q => F.len vs H Q E (h _ _ _ _ q), fun A outer s H args us vs Q E hr he hb hv hs => F.run A outer s H args us vs Q E hr he hb hv (h _ _ _ _ hs)⟩

theorem Env0.make {P : Program} {w : World} {K : PySem.W.Frag} {mg : Str → Option Value} {base : Heap} {A : Around} {outer : List Env} {s : Shared} {H : Hp} (e : Env0 P w K mg base A outer s H) (C : Addr) (us : List Value) (kw : List (Str × Value)) :
    Env0 P w K mg base (A.under (.builtin "type.__call__" ⟨.ref C :: us, kw⟩)) outer s H := ⟨by first | exact e.frames | (simpa [Around.under, Code.envs, Code.isFrame, pushEnvs] using e.frames), e.mod, e.bs, e.bsz, e.funs, e.frf, e.hok, e.bare⟩
theorem Env0.in1 {P : Program} {w : World} {K : PySem.W.Frag} {mg : Str → Option Value} {base : Heap} {A : Around} {outer : List Env} {s : Shared} {H : Hp} (e : Env0 P w K mg base A outer s H) :
    Env0 P w K mg base A.in1 outer s H := ⟨e.frames, e.mod, e.bs, e.bsz, e.funs, e.frf, e.hok, e.bare⟩

section
variable {X : Cx} {pins : List (Addr × Obj)} {σ : St} {H : Hp} {s s' : Shared}
/-- from a body: what a callee wants -/
theorem Inv.env0 (I : Inv X pins σ H s) : Env0 X.prog X.w X.K X.mg X.base X.A X.stack s H :=
  ⟨I.ok.frames, I.ok.mod, I.bs, Nat.le_trans I.ok.bsz I.sz, I.stack, I.stkFree, I.hok, I.bare⟩
/-- behind a call -/
theorem Inv.after {Q : VK} {u : Value} (I : Inv X pins σ H s) (h : CE X.stack X.prog X.w H s Q u s') : EP X pins σ Q u s' := by
  obtain ⟨v, H', os, bare, un, hok, r, q⟩ := h
  obtain ⟨hh, g, d, t, os'⟩ := s'
  obtain rfl : os' = s.os := os
  exact ⟨v, H', I.call (h' := hh) (g' := g) (d' := d) (t' := t) (ch := []) un hok bare (fun b z => absurd z (by simp)), r, q⟩
end

/-! ### calls -/
/-- f(..): the written arguments, then the defaults dvs; E: what is wanted of an exception -/
def tCall (sp : Sp) (dvs : List V) (E : XK) (t : TA) : TE := fun σ H Q => t σ H fun vs H1 => sp (vs ++ dvs) H1 Q E
/-- o.m(..) of an instance of the class at C -/
def tMeth (C : Addr) (m : Str) (sp : Sp) (dvs : List V) (E : XK) (ta : TE) (t : TA) : TE := fun σ H Q => ta σ H fun x H1 => ∃ a dx fs, x = .ref a ∧ H1 a = some (.ins C dx fs) ∧ fs.lookup m = none ∧
  t σ H1 fun vs H2 => sp (x :: (vs ++ dvs)) H2 Q E
/-- C(..): a new instance and its dict, then __init__ -/
def tMake (C : Addr) (sp : Sp) (dvs : List V) (E : XK) (t : TA) : TE := fun σ H Q => t σ H fun vs H1 => ∀ x dx, H1 x = none → H1 dx = none → dx ≠ x →
  sp (.ref x :: (vs ++ dvs)) (upd (upd H1 dx (.own x)) x (.ins C dx [])) (fun v H2 => v = .non ∧ Q (.ref x) H2) E

/-- how the parameters are bound: us the positional arguments, kw the keywords' values by name, ds the defaults that fill up -/
def Binds (K : PySem.W.Frag) (fd : FuncData) (ps : List Str) (ds : List Value) : Prop :=
  ∀ (s : Shared) (us : List Value), K.In s.heap → (us ++ ds).length = ps.length → BindsTo s fd ⟨us, []⟩ (ps.zip (us ++ ds))
/-- every parameter is given -/
theorem Binds.all {K : PySem.W.Frag} {fd : FuncData} {ps : List Str} (h : ∀ us : List Value, us.length = ps.length → bindArgs fd ⟨us, []⟩ = pure (ps.zip us)) : Binds K fd ps [] := fun s us _ hl => by
  rw [List.append_nil] at hl ⊢
  exact .of_eq (h us hl)

/-- an exception of a callee reaches what this body wants of exceptions -/
def Passes (CX : CXT) (X : Cx) (E : XK) : Prop := ∀ (pins : List (Addr × Obj)) (σ : St) (H : Hp) (s : Shared) (e : Value) (s' : Shared), Inv X pins σ H s → CX X.stack H s E e s' → X.xe e s'

section
variable {X : Cx} {CX : CXT} {k : Nat} {f C : Addr} {fd : FuncData} {ps : List Str} {sp : Sp} {dvs : List V} {ds : List Value} {E : XK} {x m : Str} {p pos apos : Pos} {e o : Expr} {es : List Expr} {ta : TE} {t : TA}

/-- the callee runs -/
theorem run_fn {pins : List (Addr × Obj)} {σ : St} {H : Hp} {s : Shared} {Q : VK} {us : List Value} {vs : List V} (F : FnOk X.prog X.w X.K X.mg X.base CX k f fd ps sp) (hr : Room k X.A) (hb : Binds X.K fd ps ds) (hd : Vals dvs ds) (hx : Passes CX X E)
    (I : Inv X pins σ H s) (r : Vals vs us) (h : sp (vs ++ dvs) H Q E) : wpAny (model X.prog X.w) X.A (call (.ref f) us) (EP X pins σ Q) X.xe s := by
  have r2 : Vals (vs ++ dvs) (us ++ ds) := r.append hd
  have hl : (us ++ ds).length = ps.length := by rw [← r2.length]; exact F.len _ _ _ _ h
  refine wpAny_call (codeAny_mono (F.run X.A X.stack s H ⟨us, []⟩ (us ++ ds) (vs ++ dvs) Q E hr I.env0 (hb s us I.kIn hl) r2 h) fun r s' hq => ?_)
  cases r with
  | error e => exact hx pins σ H s e s' I hq
  | ok fl =>
    cases fl with
    | ret u => exact I.after hq
    | next => exact False.elim hq
    | brk => exact False.elim hq
    | cont => exact False.elim hq

theorem pe_call (F : FnOk X.prog X.w X.K X.mg X.base CX k f fd ps sp) (hr : Room k X.A) (hg : Gl X x) (hm : X.mg x = some (.ref f)) (hk : PySem.W.keepIn X.K (.ref f) = true) (hb : Binds X.K fd ps ds) (hd : Vals dvs ds) (hx : Passes CX X E)
    (ha : PA X (e :: es) t) (hdb : (x == ("__debug__" : Str)) = false := by decide) (he : starEach (e :: es) X.env = (false, eval e X.env) :: starEach es X.env := by rfl) (hpl : (backTo pos (starEach es X.env)).any (·.1) = false := by rfl) :
    PE X (.Call (.Name x p) (e :: es) [] pos) (tCall sp dvs E t) := by
  intro pins s σ H Q I h
  refine wpAny_Call_Name_kw (ld_glob I hg hm ?_ hdb)
  refine PySem.W.callWith_K (h₀ := X.base) I.ok.mod.kin hk (thn (ha pos pins s σ H _ I h) fun us s1 ⟨vs, H1, I1, r, q⟩ => ⟨I1.kIn, ?_⟩) he hpl
  exact run_fn F hr hb hd hx I1 r q
theorem pe_call0 (F : FnOk X.prog X.w X.K X.mg X.base CX k f fd ps sp) (hr : Room k X.A) (hg : Gl X x) (hm : X.mg x = some (.ref f)) (hk : PySem.W.keepIn X.K (.ref f) = true) (hb : Binds X.K fd ps ds) (hd : Vals dvs ds) (hx : Passes CX X E)
    (hdb : (x == ("__debug__" : Str)) = false := by decide) : PE X (.Call (.Name x p) [] [] pos) (tCall sp dvs E tNil) := by
  intro pins s σ H Q I h
  refine wpAny_Call_Name_kw (ld_glob I hg hm ?_ hdb)
  exact PySem.W.callWith_K0 I.kIn hk (run_fn (us := []) F hr hb hd hx I .nil h)

/-- o.m(e, ..) -/
theorem pe_meth {pl : Sem Bool} (he : PE X o ta) (c : Cls X.K C) (hm : Meth X.K C m f) (F : FnOk X.prog X.w X.K X.mg X.base CX k f fd ps sp) (hr : Room k X.A) (hb : Binds X.K fd ps ds) (hd : Vals dvs ds) (hx : Passes CX X E) (ha : PA X (e :: es) t)
    (hst : starEach (e :: es) X.env = (false, eval e X.env) :: starEach es X.env := by rfl) (hpl : (backTo pos (starEach es X.env)).any (·.1) = false := by rfl)
    (ht : eval (.Call (.Attribute o m apos) (e :: es) [] pos) X.env = (do
      let ov ← eval o X.env
      standAt apos.atName
      let (f, first) ← holding [ov] (getMethod ov m pl)
      callWith pos f first (backTo pos (starEach (e :: es) X.env)) (backToKw pos (keywordEach [] X.env))) := by rfl) :
    PE X (.Call (.Attribute o m apos) (e :: es) [] pos) (tMeth C m sp dvs E ta t) := by
  intro pins s σ H Q I h
  refine PySem.W.methodCall_KW (pl := pl) (thn (he pins s σ H _ I h) fun u s1 ⟨x, H1, I1, rx, a, dx, fs, ex, ea, l, q⟩ => ?_) ht
  subst ex
  obtain rfl : u = Value.ref a := rx
  refine getmeth_ok I1 ea c hm l ?_
  refine PySem.W.callWith_K (first := [.ref a]) (h₀ := X.base) I.ok.mod.kin hm.kp (thn (ha pos pins s1 σ H1 _ I1 q) fun us s2 ⟨vs, H2, I2, r, q2⟩ => ⟨I2.kIn, ?_⟩) hst hpl
  exact run_fn (us := .ref a :: us) (vs := .ref a :: vs) F hr hb hd hx I2 (.cons rfl r) q2
/-- o.m() -/
theorem pe_meth0 {pl : Sem Bool} (he : PE X o ta) (c : Cls X.K C) (hm : Meth X.K C m f) (F : FnOk X.prog X.w X.K X.mg X.base CX k f fd ps sp) (hr : Room k X.A) (hb : Binds X.K fd ps ds) (hd : Vals dvs ds) (hx : Passes CX X E)
    (ht : eval (.Call (.Attribute o m apos) [] [] pos) X.env = (do
      let ov ← eval o X.env
      standAt apos.atName
      let (f, first) ← holding [ov] (getMethod ov m pl)
      callWith pos f first (backTo pos (starEach [] X.env)) (backToKw pos (keywordEach [] X.env))) := by rfl) :
    PE X (.Call (.Attribute o m apos) [] [] pos) (tMeth C m sp dvs E ta tNil) := by
  intro pins s σ H Q I h
  refine PySem.W.methodCall_KW (pl := pl) (thn (he pins s σ H _ I h) fun u s1 ⟨x, H1, I1, rx, a, dx, fs, ex, ea, l, q⟩ => ?_) ht
  subst ex
  obtain rfl : u = Value.ref a := rx
  refine getmeth_ok I1 ea c hm l ?_
  exact PySem.W.callWith_K0 (first := [.ref a]) I1.kIn hm.kp (run_fn (us := [.ref a]) (vs := [.ref a]) F hr hb hd hx I1 (.cons rfl .nil) q)

/-- what a class must have to be made -/
structure Mk (K : PySem.W.Frag) (C f : Addr) : Prop where
  makes : PySem.W.makesIn K C = true
  init : PySem.W.findIn K (.ref C) "__init__" = some (some (.ref f))
  fn : PySem.W.isFn K (.ref f) = true
  kp : PySem.W.keepIn K (.ref C) = true

theorem run_make {pins : List (Addr × Obj)} {σ : St} {H : Hp} {s : Shared} {Q : VK} {us : List Value} {vs : List V} (M : Mk X.K C f) (F : FnOk X.prog X.w X.K X.mg X.base CX k f fd ps sp) (hr : Room (k + 1) X.A) (hb : Binds X.K fd ps ds) (hd : Vals dvs ds)
    (hx : Passes CX X E) (I : Inv X pins σ H s) (r : Vals vs us)
    (h : ∀ x dx, H x = none → H dx = none → dx ≠ x → sp (.ref x :: (vs ++ dvs)) (upd (upd H dx (.own x)) x (.ins C dx [])) (fun v H2 => v = .non ∧ Q (.ref x) H2) E) :
    wpAny (model X.prog X.w) X.A (call (.ref C) us) (EP X pins σ Q) X.xe s := by
  have hq := h (s.heap.objs.size + 1) s.heap.objs.size (I.hok.fresh (Nat.le_succ _)) (I.hok.fresh (Nat.le_refl _)) (Nat.ne_of_lt (Nat.lt_succ_self _))
  have I2 := Inv.made (C := C) I
  have r2 : Vals (V.ref (s.heap.objs.size + 1) :: (vs ++ dvs)) (Value.ref (s.heap.objs.size + 1) :: (us ++ ds)) := .cons rfl (r.append hd)
  have hl : (Value.ref (s.heap.objs.size + 1) :: us ++ ds).length = ps.length := by
    have e := r2.length
    rw [F.len _ _ _ _ hq] at e
    exact e.symm
  refine wpAny_call (make_map (f := f) I.kIn M.makes M.init (beq_iff_eq.mp M.fn) (codeAny_mono (F.run _ X.stack _ _ ⟨Value.ref (s.heap.objs.size + 1) :: us, []⟩ (Value.ref (s.heap.objs.size + 1) :: (us ++ ds)) _ _ E (hr.make C us [])
    (I2.env0.make C us []) (hb _ (Value.ref (s.heap.objs.size + 1) :: us) I2.kIn hl) r2 hq) fun r s' hq' => ?_))
  cases r with
  | error e => exact hx pins σ _ _ e s' I2 hq'
  | ok fl =>
    cases fl with
    | ret u =>
      obtain ⟨v, H', I3, rv, ev, q3⟩ := I2.after hq'
      subst ev
      exact ⟨rv, ⟨V.ref (s.heap.objs.size + 1), H', I3, rfl, q3⟩⟩
    | next => exact False.elim hq'
    | brk => exact False.elim hq'
    | cont => exact False.elim hq'
theorem pe_make (M : Mk X.K C f) (F : FnOk X.prog X.w X.K X.mg X.base CX k f fd ps sp) (hr : Room (k + 1) X.A) (hg : Gl X x) (hm : X.mg x = some (.ref C)) (hb : Binds X.K fd ps ds) (hd : Vals dvs ds) (hx : Passes CX X E)
    (ha : PA X (e :: es) t) (hdb : (x == ("__debug__" : Str)) = false := by decide) (he : starEach (e :: es) X.env = (false, eval e X.env) :: starEach es X.env := by rfl) (hpl : (backTo pos (starEach es X.env)).any (·.1) = false := by rfl) :
    PE X (.Call (.Name x p) (e :: es) [] pos) (tMake C sp dvs E t) := by
  intro pins s σ H Q I h
  refine wpAny_Call_Name_kw (ld_glob I hg hm ?_ hdb)
  refine PySem.W.callWith_K (h₀ := X.base) I.ok.mod.kin M.kp (thn (ha pos pins s σ H _ I h) fun us s1 ⟨vs, H1, I1, r, q⟩ => ⟨I1.kIn, ?_⟩) he hpl
  exact run_make M F hr hb hd hx I1 r q
theorem pe_make0 (M : Mk X.K C f) (F : FnOk X.prog X.w X.K X.mg X.base CX k f fd ps sp) (hr : Room (k + 1) X.A) (hg : Gl X x) (hm : X.mg x = some (.ref C)) (hb : Binds X.K fd ps ds) (hd : Vals dvs ds) (hx : Passes CX X E)
    (hdb : (x == ("__debug__" : Str)) = false := by decide) : PE X (.Call (.Name x p) [] [] pos) (tMake C sp dvs E tNil) := by
  intro pins s σ H Q I h
  refine wpAny_Call_Name_kw (ld_glob I hg hm ?_ hdb)
  exact PySem.W.callWith_K0 I.kIn M.kp (run_make (us := []) M F hr hb hd hx I .nil h)
end

/-! ### keywords -/
/-- the values of the keywords, from the left -/
def PK (X : Cx) (kws : List Keyword) (t : TA) : Prop :=
  ∀ (pos : Pos) (pins : List (Addr × Obj)) (s : Shared) (σ : St) (H : Hp) (Q : List V → Hp → Prop), Inv X pins σ H s → t σ H Q → wpAny (model X.prog X.w) X.A (evalAll ((backToKw pos (keywordEach kws X.env)).map (·.2))) (AP X pins σ Q) X.xe s
section
variable {X : Cx} {CX : CXT} {k : Nat} {f C : Addr} {fd : FuncData} {ps ks : List Str} {sp : Sp} {E : XK} {x m : Str} {p pos apos kpos : Pos} {e o : Expr} {es : List Expr} {kws : List Keyword} {te ta : TE} {t tk : TA} {nm : Option Str}
theorem pk_nil : PK X [] tNil := fun _ _ _ _ H Q I h => wpAny_evalAll_nil ⟨[], H, I, .nil, h⟩
theorem pk_cons (ha : PE X e te) (hr : PK X kws t) : PK X (⟨nm, e, kpos⟩ :: kws) (tCons te t) := by
  intro pos pins s σ H Q I h
  show wpAny _ _ (evalAll ((do let v ← eval e X.env; standAt pos; pure v) :: (backToKw pos (keywordEach kws X.env)).map (·.2))) _ _ s
  refine wpAny_evalAll_cons (wpAny_bind (thn (ha pins s σ H _ I h) fun u s1 ⟨x, H1, I1, r1, q1⟩ => wpAny_bind (wpAny_standAt (wpAny_pure ?_))))
  exact thn (hr pos pins s1 σ H1 _ I1 q1) fun us s2 ⟨xs, H2, I2, r2, q2⟩ => ⟨x :: xs, H2, I2, .cons r1 r2, q2⟩

/-- how a call with keywords binds: g puts the positional values us and the keywords' values ws (names ks) in the parameters' order, defaults among them -/
structure KBinds (K : PySem.W.Frag) (fd : FuncData) (ps ks : List Str) (g : List Value → List Value → List Value) (gV : List V → List V → List V) : Prop where
  to : ∀ (s : Shared) (us ws : List Value), K.In s.heap → (g us ws).length = ps.length → BindsTo s fd ⟨us, ks.zip ws⟩ (ps.zip (g us ws))
  rel : ∀ {vs : List V} {us : List Value} {zs : List V} {ws : List Value}, Vals vs us → Vals zs ws → Vals (gV vs zs) (g us ws)
def tCallK (sp : Sp) (gV : List V → List V → List V) (E : XK) (t tk : TA) : TE := fun σ H Q => t σ H fun vs H1 => tk σ H1 fun zs H2 => sp (gV vs zs) H2 Q E
variable {g : List Value → List Value → List Value} {gV : List V → List V → List V}
theorem run_fnk {pins : List (Addr × Obj)} {σ : St} {H : Hp} {s : Shared} {Q : VK} {us ws : List Value} {vs zs : List V} (F : FnOk X.prog X.w X.K X.mg X.base CX k f fd ps sp) (hr : Room k X.A) (hb : KBinds X.K fd ps ks g gV) (hx : Passes CX X E)
    (I : Inv X pins σ H s) (r : Vals vs us) (rz : Vals zs ws) (h : sp (gV vs zs) H Q E) : wpAny (model X.prog X.w) X.A (call (.ref f) us (ks.zip ws)) (EP X pins σ Q) X.xe s := by
  have r2 := hb.rel r rz
  have hl : (g us ws).length = ps.length := by rw [← r2.length]; exact F.len _ _ _ _ h
  refine wpAny_call (codeAny_mono (F.run X.A X.stack s H ⟨us, ks.zip ws⟩ (g us ws) (gV vs zs) Q E hr I.env0 (hb.to s us ws I.kIn hl) r2 h) fun r s' hq => ?_)
  cases r with
  | error e => exact hx pins σ H s e s' I hq
  | ok fl =>
    cases fl with
    | ret u => exact I.after hq
    | next => exact False.elim hq
    | brk => exact False.elim hq
    | cont => exact False.elim hq
/-- f(e, .., k = v, ..) -/
theorem pe_callK (F : FnOk X.prog X.w X.K X.mg X.base CX k f fd ps sp) (hr : Room k X.A) (hg : Gl X x) (hm : X.mg x = some (.ref f)) (hk : PySem.W.keepIn X.K (.ref f) = true) (hb : KBinds X.K fd ps ks g gV) (hx : Passes CX X E)
    (ha : PA X (e :: es) t) (hkw : PK X kws tk) (hall : (backToKw pos (keywordEach kws X.env)).all (·.1.isSome) = true := by rfl) (hks : (backToKw pos (keywordEach kws X.env)).filterMap (·.1) = ks := by rfl)
    (hdb : (x == ("__debug__" : Str)) = false := by decide) (he : starEach (e :: es) X.env = (false, eval e X.env) :: starEach es X.env := by rfl)
    (hpl : ((backTo pos (starEach (e :: es) X.env)).any (·.1) || (backToKw pos (keywordEach kws X.env)).any (·.1.isNone)) = false := by rfl) :
    PE X (.Call (.Name x p) (e :: es) kws pos) (tCallK sp gV E t tk) := by
  intro pins s σ H Q I h
  refine wpAny_Call_Name_kw (ld_glob I hg hm ?_ hdb)
  refine PySem.W.callWith_KW (h₀ := X.base) I.ok.mod.kin hk hall (thn (ha pos pins s σ H _ I h) fun us s1 ⟨vs, H1, I1, r, q⟩ => ?_) hpl he
  refine thn (hkw pos pins s1 σ H1 _ I1 q) fun ws s2 ⟨zs, H2, I2, rz, q2⟩ => ⟨I2.kIn, ?_⟩
  rw [hks]
  exact run_fnk F hr hb hx I2 r rz q2
end

/-! ### a def's body keeps its promise -/
/-- names: the parameters first -/
structure FnScope (N P : List Str) (sc : Scope) : Prop where
  kind : sc.kind = .function
  co : sc.isCoroutine = false
  gen : sc.isGenerator = false
  nd : N.Nodup
  pre : N.take P.length = P
  par : ∀ x ∈ P, sc.names.lookup x = some .local ∨ sc.names.lookup x = some .cell
  nofree : ∀ y ∈ sc.names, y.2 ≠ .free

theorem bindL_out {kindOf : Str → Option NameKind} {x : Str} : ∀ {binds : List (Str × Value)} {m : Str → Option Value}, (∀ v, (x, v) ∉ binds) → bindL kindOf binds m x = m x
  | [], _, _ => rfl
  | (n, v) :: r, m, h => by
    unfold bindL
    rw [bindL_out fun w hw => h w (List.mem_cons_of_mem _ hw)]
    split
    · have : x ≠ n := by rintro rfl; exact h v List.mem_cons_self
      simp [this]
    · rfl
theorem bindC_out {kindOf : Str → Option NameKind} {x : Str} : ∀ {binds : List (Str × Value)} {m : Str → Option Value}, (∀ v, (x, v) ∉ binds) → bindC kindOf binds m x = m x
  | [], _, _ => rfl
  | (n, v) :: r, m, h => by
    unfold bindC
    rw [bindC_out fun w hw => h w (List.mem_cons_of_mem _ hw)]
    split
    · rfl
    · have : x ≠ n := by rintro rfl; exact h v List.mem_cons_self
      simp [this]
theorem bindL_get {kindOf : Str → Option NameKind} {x : Str} {v : Value} : ∀ {P : List Str} {vs : List Value} {i : Nat} {m : Str → Option Value}, P.Nodup → P[i]? = some x → vs[i]? = some v → kindOf x = some .local →
    bindL kindOf (P.zip vs) m x = some v
  | [], _, _, _, _, h, _, _ => by simp at h
  | _ :: _, [], _, _, _, _, h, _ => by simp at h
  | p :: P, w :: vs, 0, m, nd, h1, h2, hk => by
    simp at h1 h2; subst h1; subst h2
    show bindL kindOf ((p, w) :: P.zip vs) m p = _
    unfold bindL
    rw [bindL_out fun v hv => (List.nodup_cons.mp nd).1 (List.of_mem_zip hv).1, if_pos hk]
    simp
  | p :: P, w :: vs, i + 1, m, nd, h1, h2, hk => by
    show bindL kindOf ((p, w) :: P.zip vs) m x = _
    unfold bindL
    exact bindL_get (i := i) (List.nodup_cons.mp nd).2 (by simpa using h1) (by simpa using h2) hk
theorem bindC_get {kindOf : Str → Option NameKind} {x : Str} {v : Value} : ∀ {P : List Str} {vs : List Value} {i : Nat} {m : Str → Option Value}, P.Nodup → P[i]? = some x → vs[i]? = some v → kindOf x ≠ some .local →
    bindC kindOf (P.zip vs) m x = some v
  | [], _, _, _, _, h, _, _ => by simp at h
  | _ :: _, [], _, _, _, _, h, _ => by simp at h
  | p :: P, w :: vs, 0, m, nd, h1, h2, hk => by
    simp at h1 h2; subst h1; subst h2
    show bindC kindOf ((p, w) :: P.zip vs) m p = _
    unfold bindC
    rw [bindC_out fun v hv => (List.nodup_cons.mp nd).1 (List.of_mem_zip hv).1, if_neg hk]
    simp
  | p :: P, w :: vs, i + 1, m, nd, h1, h2, hk => by
    show bindC kindOf ((p, w) :: P.zip vs) m x = _
    unfold bindC
    exact bindC_get (i := i) (List.nodup_cons.mp nd).2 (by simpa using h1) (by simpa using h2) hk

/-- the names' values at the entry -/
def start (N : List Str) (vs : List V) : St := vs.map some ++ List.replicate (N.length - vs.length) none

/-- the context of a def's body, at its entry; an exception leaves the frame, then lies as CX says -/
def cxOf (CX : CXT) (P : Program) (w : World) (K : PySem.W.Frag) (mg : Str → Option Value) (base : Heap) (N : List Str) (qual : Str) (scope : Scope) (f : Addr) (cd : Value) (A : Around) (outer : List Env) (s : Shared) (H : Hp) (E : XK) : Cx where
  prog := P
  w := w
  K := K
  mg := mg
  base := base
  A := A.deeper (envOfC qual scope s.heap.objs.size f cd)
  N := N
  s₀ := s
  H₀ := H
  env := envOfC qual scope s.heap.objs.size f cd
  outer := outer
  stack := envOfC qual scope s.heap.objs.size f cd :: outer
  ex := []
  calm := true
  fn := fun _ => true
  pn := []
  xe := fun e s' => wpAny (model P w) (A.deeper (envOfC qual scope s.heap.objs.size f cd)) (leaving (envOfC qual scope s.heap.objs.size f cd) e) (fun _ s'' => CX outer H s E e s'') (fun e' s'' => CX outer H s E e' s'') s'

theorem cell_has {sc : Scope} {n : Nat} {x : Str} (h : sc.names.lookup x = some .cell) : ∃ c, (cellsFrom n sc.names []).lookup x = some c := by
  have q := PySem.W.cellsFrom_some sc.names n [] (.inl h)
  exact Option.isSome_iff_exists.mp q

theorem inv_start {CX : CXT} {P : Program} {w : World} {K : PySem.W.Frag} {mg : Str → Option Value} {base : Heap} {N ps : List Str} {qual : Str} {scope : Scope} {f : Addr} {cd : Value} {A : Around} {outer : List Env} {s s1 : Shared} {H : Hp} {E : XK} {us : List Value} {vs : List V}
    (S : FnScope N ps scope) (hd : A.handled = none) (e0 : Env0 P w K mg base A outer s H) (hl : vs.length = ps.length) (r : Vals vs us)
    (x : InCallC s s.heap.objs.size (bindL (envOfC qual scope s.heap.objs.size f cd).kindOf (ps.zip us) fun _ => none) (cellsFrom (s.heap.objs.size + 1) scope.names []) (bindC (envOfC qual scope s.heap.objs.size f cd).kindOf (ps.zip us) fun _ => none) s1) :
    Inv (cxOf CX P w K mg base N qual scope f cd A outer s H E) [] (start N vs) H s1 := by
  have hpl : ps.length ≤ N.length := by have := congrArg List.length S.pre; rw [List.length_take] at this; omega
  obtain ⟨h1, tk, rfl, hk⟩ := x.done
  have noA : ∀ b : Addr, b ∉ (cxOf CX P w K mg base N qual scope f cd A outer s H E).ex := fun b z => absurd (show b ∈ ([] : List Addr) from z) (by simp)
  refine ⟨⟨e0.mod, S.kind, rfl, rfl, Nat.le_refl _, fun y z c h1 h2 => ?_, fun y hy => ?_, fun y c _ h => ?_, fun _ => hd, Around.frames_deeper e0.frames, .inr ⟨rfl, rfl⟩, fun b z => absurd z (noA b), e0.bs, e0.bsz, fun b _ _ => noA b, fun b z => absurd z (noA b), e0.funs, e0.frf⟩,
    rfl, e0.bare, Un.kept hk, ⟨_, x.toInCall.ns, fun i y v h1 h2 h3 => ?_⟩, fun y c h => ⟨_, x.cell y c h⟩, e0.hok.fresh (Nat.le_refl _), fun y c h => ?_, fun p hp => absurd (show p ∈ ([] : List (Addr × Obj)) from hp) (by simp), e0.hok.kept hk, ?_⟩
  · exact name_of_addr x.apart (PySem.mem_of_lookup h1) (PySem.mem_of_lookup h2)
  · have hy : scope.names.lookup y = some .cell ∨ scope.names.lookup y = some .free := hy
    rcases hy with hy | hy
    · exact cell_has hy
    · exact absurd rfl (S.nofree _ (PySem.mem_of_lookup hy))
  · exact Nat.le_of_lt (x.above y c (PySem.mem_of_lookup h))
  · have hi : i < vs.length := by
      unfold start at h2
      by_cases hi : i < vs.length
      · exact hi
      · rw [List.getElem?_append_right (by simpa using hi)] at h2
        rw [List.getElem?_replicate] at h2
        split at h2 <;> cases h2
    have ha : vs[i]? = some v := by
      unfold start at h2
      rw [List.getElem?_append_left (by simpa using hi), List.getElem?_map] at h2
      cases e : vs[i]? with
      | none => rw [e] at h2; cases h2
      | some a => rw [e] at h2; cases h2; rfl
    obtain ⟨u, hu, rv⟩ := r.get ha
    have hp : ps[i]? = some y := by
      rw [← S.pre, List.getElem?_take_of_lt (by omega)]; exact h1
    have ndP : ps.Nodup := by rw [← S.pre]; exact S.nd.sublist (List.take_sublist _ _)
    refine ⟨u, rv, ?_⟩
    rcases S.par y (List.mem_of_getElem? hp) with k | k
    · exact .inl ⟨k, bindL_get ndP hp hu k⟩
    · obtain ⟨c, e⟩ := cell_has (n := s.heap.objs.size + 1) k
      refine .inr ⟨.inl k, c, e, ?_⟩
      have q := x.cell y c e
      rw [bindC_get ndP hp hu (by show scope.names.lookup y ≠ _; rw [k]; decide)] at q
      exact q
  · exact e0.hok.fresh (Nat.le_of_lt (x.above y c (PySem.mem_of_lookup h)))
  · unfold start
    show _ = N.length
    rw [List.length_append, List.length_map, List.length_replicate]
    omega

/-- THE RULE: a def (or a method) of the text, by its body. The body's reading t is chosen for each entry; it is run at the parameters' values -/
theorem fn_of {CX : CXT} {P : Program} {w : World} {K : PySem.W.Frag} {mg : Str → Option Value} {base : Heap} {k : Nat} {f : Addr} {name qual : Str} {params : Arguments} {body : List Stmt} {scope : Scope} {dV kV doc pm cdv ct oc : Value} {an od : Option Addr}
    {osl : Array (Option Value)} {N ps : List Str} {sp : Sp} (lk : K.lookup f = some ⟨oc, od, .func (PySem.W.fnOf name qual params body scope dV kV doc pm an cdv ct), osl⟩) (hcd : PySem.W.codeIn K cdv qual = true) (S : FnScope N ps scope)
    (len : ∀ vs H Q E, sp vs H Q E → vs.length = ps.length)
    (hbody : ∀ (A : Around) (outer : List Env) (s : Shared) (H : Hp) (vs : List V) (Q : VK) (E : XK), Room k (A.deeper (envOfC qual scope s.heap.objs.size f cdv)) → sp vs H Q E →
      ∃ t, PSs (cxOf CX P w K mg base N qual scope f cdv A outer s H E) body t ∧ t { nx := fun _ H' => Q .non H', rt := Q } (start N vs) H) :
    FnOk P w K mg base CX (k + 1) f (PySem.W.fnOf name qual params body scope dV kV doc pm an cdv ct) ps sp := by
  refine ⟨len, fun A outer s H args us vs Q E hr e0 hb r hsp => ?_⟩
  have hl := len _ _ _ _ hsp
  have KX : K.In s.heap := e0.mod.kin.keeps fun b o e => (e0.bs b o e).1
  have lim : s.heap.NoLimit := e0.mod.nolimit.keeps fun b o e => (e0.bs b o e).1
  have hkind : ∀ y ∈ ps.zip us, scope.names.lookup y.1 = some .local ∨ (scope.names.lookup y.1 = some .cell ∧ ((cellsFrom (s.heap.objs.size + 1) scope.names []).lookup y.1).isSome = true) := fun ⟨n, v⟩ hy => by
    rcases S.par n (List.of_mem_zip hy).1 with q | q
    · exact .inl q
    · exact .inr ⟨q, PySem.W.cellsFrom_some _ _ _ (.inl q)⟩
  refine codeAny_call_function hr.depth (KX _ _ lk) rfl S.co S.gen rfl (PySem.W.codeRec_of KX hcd) (hb _ _ _ _ ?_)
  refine wpAny_newFunctionEnv_cells S.kind hkind fun env he s1 x => ?_
  subst he
  refine ⟨lim.keeps x.toInCall.keep, codeAny_func ?_⟩
  obtain ⟨t, ht, hq⟩ := hbody A outer s H vs Q E (hr.deeper _) hsp
  have I : Inv (cxOf CX P w K mg base N qual scope f cdv A outer s H E) [] (start N vs) H s1 := inv_start S hr.hd e0 hl r x
  refine wpAny_mono (ht [] s1 (start N vs) H _ I hq) (fun fl s' hs => ?_) fun e s' hs => hs
  have fin : ∀ {σ' : St} {H' : Hp} {v : V} {u : Value}, Inv (cxOf CX P w K mg base N qual scope f cdv A outer s H E) [] σ' H' s' → RelV v u → Q v H' → CE outer P w H s Q u s' :=
    fun {σ' H' v u} J rv q => ⟨v, H', J.os, J.bare, J.base, J.hok, rv, q⟩
  cases fl with
  | ret u =>
    obtain ⟨v, σ', H', J, rv, q⟩ := hs
    exact fin J rv q
  | next =>
    obtain ⟨σ', H', J, q⟩ := hs
    exact fin (v := V.non) (u := Value.none) J rfl q
  | brk =>
    obtain ⟨_, _, _, q⟩ := hs
    exact False.elim q
  | cont =>
    obtain ⟨_, _, _, q⟩ := hs
    exact False.elim q
end L2

namespace L2
open PySem PySem.Spec PyProof.Rows
section
variable {X : Cx} {x : Str} {p pos : Pos} {e : Expr} {es : List Expr} {t : TA} {id T : String} {r : List V → Hp → VK → Prop}

def tCB (r : List V → Hp → VK → Prop) (t : TA) : TE := fun σ H Q => t σ H fun vs H1 => r vs H1 Q
/-- f(e, ..), f a built-in function -/
theorem pe_callB (hc : CallR X (.builtin id) r) (hg : Gl X x) (hm : X.mg x = none) (hv : bootBuiltins x = some (.builtin id)) (ha : PA X (e :: es) t) (hn : x ≠ "__name__" := by decide) (hdb : (x == ("__debug__" : Str)) = false := by decide)
    (he : starEach (e :: es) X.env = (false, eval e X.env) :: starEach es X.env := by rfl) (hpl : (backTo pos (starEach es X.env)).any (·.1) = false := by rfl) : PE X (.Call (.Name x p) (e :: es) [] pos) (tCB r t) := by
  intro pins s σ H Q I h
  refine wpAny_Call_Name_kw (ld_blt I hg hm hv ?_ hn hdb)
  exact PyProof.Rows.callWith_builtin1 (thn (ha pos pins s σ H _ I h) fun us s1 ⟨vs, H1, I1, r1, q1⟩ => hc pins s1 σ H1 vs us Q I1 r1 q1) he hpl
/-- T(e, ..), T a built-in type -/
theorem pe_callTy (hc : CallR X (.type T) r) (hg : Gl X x) (hm : X.mg x = none) (hv : bootBuiltins x = some (.type T)) (ha : PA X (e :: es) t) (hn : x ≠ "__name__" := by decide) (hdb : (x == ("__debug__" : Str)) = false := by decide)
    (he : starEach (e :: es) X.env = (false, eval e X.env) :: starEach es X.env := by rfl) (hpl : (backTo pos (starEach es X.env)).any (·.1) = false := by rfl) : PE X (.Call (.Name x p) (e :: es) [] pos) (tCB r t) := by
  intro pins s σ H Q I h
  refine wpAny_Call_Name_kw (ld_blt I hg hm hv ?_ hn hdb)
  exact PyProof.Rows.callWith_type1 (thn (ha pos pins s σ H _ I h) fun us s1 ⟨vs, H1, I1, r1, q1⟩ => hc pins s1 σ H1 vs us Q I1 r1 q1) he hpl
/-- T() -/
theorem pe_callTy0 (hc : CallR X (.type T) r) (hg : Gl X x) (hm : X.mg x = none) (hv : bootBuiltins x = some (.type T)) (hn : x ≠ "__name__" := by decide) (hdb : (x == ("__debug__" : Str)) = false := by decide) :
    PE X (.Call (.Name x p) [] [] pos) (tCB r tNil) := by
  intro pins s σ H Q I h
  refine wpAny_Call_Name_kw (ld_blt I hg hm hv ?_ hn hdb)
  exact PyProof.Rows.callWith_type0 (hc pins s σ H [] [] Q I .nil h)
end
end L2

namespace HT
open PySem PyProof.Rows

/-- t < u of tuples of ints -/
def lexLt : List Int → List Int → Bool
  | [], [] => false
  | [], _ :: _ => true
  | _ :: _, [] => false
  | x :: xs, y :: ys => if x = y then lexLt xs ys else decide (x < y)
theorem lexLt_cons (x y : Int) (xs ys : List Int) : lexLt (x :: xs) (y :: ys) = if x = y then lexLt xs ys else decide (x < y) := rfl
theorem lexLt_nil_nil : lexLt [] [] = false := rfl
theorem lexLt_nil_cons (y : Int) (ys : List Int) : lexLt [] (y :: ys) = true := rfl
theorem lexLt_cons_nil (x : Int) (xs : List Int) : lexLt (x :: xs) [] = false := rfl

theorem eqAt_int (A : Around) (s : Shared) (a : Int) (t : Tok) (c : Int) (u : Tok) : ∃ e, SeqAt.EqAt A s (.int a t) (.int c u) e ∧ (e = true ↔ a = c) :=
  ⟨(a == c), SeqAt.EqAt.int_int a t c u, by simp⟩
theorem rcLt_int (A : Around) (s : Shared) (a : Int) (t : Tok) (c : Int) (u : Tok) (prog : Program) (w : World) (E : Value → Shared → Prop) (Q : Value → Shared → Prop) (h : Q (.bool (decide (a < c))) s) :
    wpAny (model prog w) A (richCompare .Lt (.int a t) (.int c u)) Q E s :=
  (PyProof.Rows.lt_int h : wpAny (model prog w) A (compareOp .Lt (.int a t) (.int c u)) Q E s)

section
open PySem.SeqAt
open PySem.AutoSeq1 (wpAny_loadPart')
open PySem.MeetsSeq PySem.MeetsSeq2 PySem.MeetsSeq3

theorem tuple_lt_ints (l b : Addr) (items items2 : Array Value) (n n2 : Nat) (dd dd2 : Option Addr) (sl sl2 : Array (Option Value)) (ns ms : List Int) (hi : IntsAre items.toList ns) (hj : IntsAre items2.toList ms) :
    Meets (Builtin.«tuple.__lt__» ⟨[.ref l, .ref b], []⟩)
      (fun _ R s => s.heap.get? l = some { cls := .type "tuple", dict := dd, data := .seq items n, slots := sl } ∧ s.heap.get? b = some { cls := .type "tuple", dict := dd2, data := .seq items2 n2, slots := sl2 } ∧
        R (.ok (.ret (.bool (lexLt ns ms)))) s) :=
  .of_wp fun prog w A R s h => by
    obtain ⟨hp, g, d, tk, os⟩ := s; obtain ⟨hl, hb, h⟩ := h
    have f2 := AutoSeq1.sub_tuple_tuple
    have z1 : items.size = ns.length := by rw [← hi.length]; simp
    have z2 : items2.size = ms.length := by rw [← hj.length]; simp
    wp_walk using wpAny_loadPart' hl, wpAny_loadPart' hb, wpAny_forIn_list _ (fun rest b s' => b.1 = none ∧ s' = ⟨hp, g, d, tk, os⟩ ∧ ∃ (vs ws : List Value) (ns' ms' : List Int), rest = vs.zip ws ∧
      IntsAre vs ns' ∧ IntsAre ws ms' ∧ ns'.length + items2.size = ms'.length + items.size ∧ R (.ok (.ret (.bool (lexLt ns' ms')))) ⟨hp, g, d, tk, os⟩) _
    case turn =>
      rintro ⟨y, x⟩ rest b s' ⟨hb', rfl, vs, ws, ns', ms', hz, hvi, hwi, hlen, hR⟩
      cases hvi with
      | nil => rw [List.zip_nil_left] at hz; cases hz
      | cons a t hvi' =>
        cases hwi with
        | nil => rw [List.zip_nil_right] at hz; cases hz
        | cons c u hwi' =>
          rw [List.zip_cons_cons] at hz
          injection hz with hyx hrest
          injection hyx with hy hx
          subst hy hx
          rw [lexLt_cons] at hR
          simp only [List.length_cons] at hlen
          obtain ⟨e, he, hiff⟩ := eqAt_int A.in1 ⟨hp, g, d, tk, os⟩ a t c u
          refine wpAny_bind (he prog w _ _ ?_)
          cases e with
          | true =>
            rw [if_pos (hiff.mp rfl)] at hR
            wp_walk
            exact ⟨rfl, rfl, _, _, _, _, hrest, hvi', hwi', by omega, hR⟩
          | false =>
            rw [if_neg (fun q => absurd (hiff.mpr q) Bool.false_ne_true)] at hR
            have hri := rcLt_int A.in1 ⟨hp, g, d, tk, os⟩ a t c u prog w
            wp_walk using hri
            exact ⟨_, rfl, by simpa using hR⟩
    case fin =>
      rintro ⟨b1, b2⟩ s' ⟨hb', rfl, vs, ws, ns', ms', hz, hvi, hwi, hlen, hR⟩
      simp only at hb'
      subst hb'
      have hv : lexLt ns' ms' = decide (items.size < items2.size) := by
        cases hvi with
        | nil =>
          cases hwi with
          | nil =>
            simp only [List.length_nil] at hlen
            rw [lexLt_nil_nil]
            exact (decide_eq_false (by omega)).symm
          | cons c u hw =>
            simp only [List.length_nil, List.length_cons] at hlen
            rw [lexLt_nil_cons]
            exact (decide_eq_true (by omega)).symm
        | cons a t hv =>
          cases hwi with
          | nil =>
            simp only [List.length_nil, List.length_cons] at hlen
            rw [lexLt_cons_nil]
            exact (decide_eq_false (by omega)).symm
          | cons c u hw =>
            rw [List.zip_cons_cons] at hz
            cases hz
      rw [hv] at hR
      wp_walk
      exact ⟨_, rfl, by simpa [Builtin.Tuple.tupleCompareSizes] using hR⟩
    case h =>
      exact ⟨rfl, rfl, items.toList, items2.toList, ns, ms, rfl, hi, hj, by omega, h⟩
end

section
variable {prog : Program} {w : World} {A : Around} {E : Value → Shared → Prop} {s : Shared}

theorem lt_tupInts {l b : Addr} {items items2 : Array Value} {ns ms : List Int} {Q : Value → Shared → Prop} (hl : IsTup s.heap l items) (hb : IsTup s.heap b items2) (hi : IntsAre items.toList ns) (hj : IntsAre items2.toList ms)
    (hu : A.units < cLine) (h : Q (.bool (lexLt ns ms)) s) : wpAny (model prog w) A (compareOp .Lt (.ref l) (.ref b)) Q E s := by
  obtain ⟨⟨cls, dd, data, sl⟩, ho, hc, n, hd⟩ := id hl
  obtain ⟨⟨cls2, dd2, data2, sl2⟩, ho2, hc2, n2, hd2⟩ := id hb
  simp only at hc hd hc2 hd2
  subst hc hd hc2 hd2
  exact richCompare_meets_room (op := .Lt) ⟨_, ho, rfl⟩ ⟨_, ho2, rfl⟩ PySem.F.slot_tuple_lt PySem.F.entry_tuple_lt (PySem.F.args_tuple_lt_2 _ _) (tuple_lt_ints l b items items2 n n2 dd dd2 sl sl2 ns ms hi hj)
    ⟨ho, ho2, show Value.bool (lexLt ns ms) ≠ Value.notImplemented ∧ Q (.bool (lexLt ns ms)) s from ⟨(fun x => nomatch x), h⟩⟩ hu

/-- t + u, t not empty -/
theorem cat_tup {t b : Addr} {vs ws : List Value} {Q : Value → Shared → Prop} (ht : IsTup s.heap t vs.toArray) (hb : IsTup s.heap b ws.toArray) (hv : vs ≠ [])
    (h1 : ws = [] → Q (.ref t) s) (h2 : ws ≠ [] → Q (.ref s.heap.objs.size) { s with heap := s.heap.push { cls := .type "tuple", data := .seq (vs ++ ws).toArray } })
    (hsz : vs.length + ws.length ≤ sizeLine) : wpAny (model prog w) A (binaryOp .Add (.ref t) (.ref b)) Q E s := by
  obtain ⟨⟨cls, dd, data, sl⟩, ho, hc, n, hd⟩ := id ht
  obtain ⟨⟨cls2, dd2, data2, sl2⟩, ho2, hc2, n2, hd2⟩ := id hb
  simp only at hc hd hc2 hd2
  subst hc hd hc2 hd2
  have e : vs.toArray ++ ws.toArray = (vs ++ ws).toArray := by simp
  by_cases hw : ws = []
  · exact concat_meets ⟨_, ho, rfl⟩ ⟨_, ho2, rfl⟩ noFill_tuple_add seq_tuple_add PySem.F.slot_tuple_add PySem.F.entry_tuple_add (PySem.F.args_tuple_add_2 _ _)
      (tuple_addW1 t b vs.toArray ws.toArray n n2 dd dd2 sl sl2 (by simpa using hv) (by simp [hw])) ⟨ho, ho2, h1 hw⟩
  · refine concat_meets ⟨_, ho, rfl⟩ ⟨_, ho2, rfl⟩ noFill_tuple_add seq_tuple_add PySem.F.slot_tuple_add PySem.F.entry_tuple_add (PySem.F.args_tuple_add_2 _ _)
      (tuple_addW2 t b vs.toArray ws.toArray n n2 dd dd2 sl sl2 (by simpa using hv) (by simpa using hw) (by rw [List.size_toArray, List.size_toArray]; exact hsz)) ⟨ho, ho2, ?_⟩
    rw [e]
    exact h2 hw

/-! ### t[a:b], not the whole -/
/-- a slice's bound as a place among n (d where it is left out) -/
def sIx (n d : Nat) : Option Int → Nat
  | none => d
  | some v => if v < 0 then (v + (n : Int)).toNat else min v.toNat n
theorem sIx_none (n d : Nat) : sIx n d none = d := rfl
theorem sIx_nat (n d k : Nat) : sIx n d (some (k : Int)) = min k n := by
  show (if (k : Int) < 0 then ((k : Int) + (n : Int)).toNat else min (k : Int).toNat n) = min k n
  rw [if_neg (by omega), Int.toNat_natCast]
theorem sIx_le (n d : Nat) (hd : d ≤ n) (o : Option Int) : sIx n d o ≤ n := by
  cases o with
  | none => exact hd
  | some v =>
    show (if v < 0 then (v + (n : Int)).toNat else min v.toNat n) ≤ n
    by_cases hv : v < 0
    · rw [if_pos hv]; omega
    · rw [if_neg hv]; exact Nat.min_le_right _ _
theorem clip_eq (v : Int) (n d : Nat) : (if v < 0 then max (v + (n : Int)) 0 else min v (n : Int)) = ((sIx n d (some v) : Nat) : Int) := by
  show (if v < 0 then max (v + (n : Int)) 0 else min v (n : Int)) = (((if v < 0 then (v + (n : Int)).toNat else min v.toNat n) : Nat) : Int)
  by_cases hv : v < 0
  · simp only [if_pos hv]; omega
  · simp only [if_neg hv]; omega
theorem adjust_gen (lo hi : Option Int) (n : Nat) : Builtin.Slice.sliceAdjust lo hi 1 (n : Int) = (((sIx n 0 lo : Nat) : Int), ((sIx n n hi : Nat) : Int)) := by
  have h1 : ¬ ((1 : Int) < 0) := by omega
  unfold Builtin.Slice.sliceAdjust
  simp only [h1, if_false]
  refine Prod.ext ?_ ?_
  · cases lo with
    | none => rfl
    | some v => exact clip_eq v n 0
  · cases hi with
    | none => rfl
    | some v => exact clip_eq v n n
theorem places_gen (i j : Nat) : Builtin.Slice.slicePlaces (i : Int) (j : Int) 1 = j - i := by
  unfold Builtin.Slice.slicePlaces
  have h1 : (1 : Int) > 0 := by omega
  simp only [h1, if_true, Int.ediv_one]
  split <;> omega
theorem slicePart_ {v : Value} {o : Option Int} {Q : Option Int → Shared → Prop} (p : IsPart v o) (h : Q o s) : wpAny (model prog w) A (Builtin.Slice.slicePartIndex v) Q E s := by
  cases p with
  | none => exact slicePart_none h
  | int i t => exact slicePart_int h
theorem sliceApplied_gen {sl : Addr} {vl vu : Value} {lo hi : Option Int} {n : Nat} {Q : Int × Int × Nat → Shared → Prop} (hs : s.heap.IsSliceOf sl vl vu .none) (pl : IsPart vl lo) (pu : IsPart vu hi)
    (h : Q (((sIx n 0 lo : Nat) : Int), 1, sIx n n hi - sIx n 0 lo) s) : wpAny (model prog w) A (Builtin.Slice.sliceApplied (.ref sl) (pure (n : Int))) Q E s := by
  obtain ⟨os, hos, hcs, hds⟩ := id hs
  unfold Builtin.Slice.sliceApplied Builtin.Slice.sliceFields
  refine wpAny_bind (wpAny_bind (wpAny_field hos hds (x := vl) rfl (wpAny_bind (wpAny_field hos hds (x := vu) rfl (wpAny_bind (wpAny_field hos hds (x := .none) rfl (wpAny_pure ?_)))))))
  refine wpAny_bind (slicePart_none ?_)
  show wpAny _ _ (if ((1 : Int) == 0) = true then _ else _) _ _ s
  rw [if_neg (by decide)]
  refine wpAny_bind (slicePart_ pl (wpAny_bind (slicePart_ pu (wpAny_bind (wpAny_pure ?_)))))
  show wpAny _ _ (match Builtin.Slice.sliceAdjust lo hi 1 (n : Int) with | (lo, hi) => pure (lo, (1 : Int), Builtin.Slice.slicePlaces lo hi 1)) _ _ s
  rw [adjust_gen lo hi n]
  show wpAny _ _ (pure (((sIx n 0 lo : Nat) : Int), (1 : Int), Builtin.Slice.slicePlaces ((sIx n 0 lo : Nat) : Int) ((sIx n n hi : Nat) : Int) 1)) _ _ s
  rw [places_gen]
  exact wpAny_pure h
theorem pick_gen (xs : Array Value) (i k : Nat) : ((List.range k).filterMap fun (m : Nat) => xs[((i : Int) + (m : Int) * 1).toNat]?).toArray = ((xs.toList.drop i).take k).toArray := by
  have e : (fun (m : Nat) => xs[((i : Int) + (m : Int) * 1).toNat]?) = fun m => xs[i + m]? := by
    funext m
    have : ((i : Int) + (m : Int) * 1).toNat = i + m := by omega
    rw [this]
  rw [e]
  have := pick_run xs i k
  rw [List.filterMap_map] at this
  have e2 : ((fun x => xs[x]?) ∘ fun x => i + x) = fun m => xs[i + m]? := rfl
  rw [e2] at this
  rw [this]

theorem getItem_tuple_cut {t sl : Addr} {items : Array Value} {vl vu : Value} {lo hi : Option Int} {Q : Value → Shared → Prop} (ht : IsTup s.heap t items) (hs : s.heap.IsSliceOf sl vl vu .none) (pl : IsPart vl lo) (pu : IsPart vu hi)
    (hw : ¬ (sIx items.size 0 lo = 0 ∧ sIx items.size items.size hi = items.size))
    (h : Q (.ref s.heap.objs.size) { s with heap := s.heap.push { cls := .type "tuple", data := .seq ((items.toList.drop (sIx items.size 0 lo)).take (sIx items.size items.size hi - sIx items.size 0 lo)).toArray } })
    (hsz : items.size ≤ sizeLine) : wpAny (model prog w) A (getItem (.ref t) (.ref sl)) Q E s := by
  have htake : sizeOk (.seq ((items.toList.drop (sIx items.size 0 lo)).take (sIx items.size items.size hi - sIx items.size 0 lo)).toArray) := by
    show ((items.toList.drop (sIx items.size 0 lo)).take (sIx items.size items.size hi - sIx items.size 0 lo)).toArray.size ≤ sizeLine
    rw [List.size_toArray, List.length_take, List.length_drop, Array.length_toList]
    omega
  have hj : sIx items.size items.size hi ≤ items.size := sIx_le _ _ (Nat.le_refl _) hi
  obtain ⟨os, hos, hcs, hds⟩ := id hs
  have hTs : s.TypeIs (.ref sl) "slice" := ⟨os, hos, hcs⟩
  unfold getItem
  try with_reducible refine wpAny_holding ?_
  first | refine wpAny_bind (wpAny_pure ?_) | skip
  refine wpAny_bind (wpAny_sequenceKey ht.typeIs (by decide) ?_)
  refine wpAny_bind (wpAny_callSpecial?_slot (name := Str.ofString "__getitem__") ht.typeIs PyProof.Rows.slot_tuple_getitem
    (wpAny_call_entry PyProof.Rows.slot_tuple_getitem ht.typeIs entry_tuple_getitem ?_ (args_tuple_getitem _ _)))
  show wpAny _ _ (Builtin.Tuple.tupleItemsOf (.ref t) >>= _) _ _ s
  refine wpAny_bind (tupleItemsOf_ ht ?_)
  refine wpAny_bind (wpAny_typeOf hTs ?_)
  rw [if_pos (by decide)]
  refine wpAny_bind (sliceApplied_gen hs pl pu ?_)
  have hno : ¬ ((((sIx items.size 0 lo : Nat) : Int) == 0 && (1 : Int) == 1 && (sIx items.size items.size hi - sIx items.size 0 lo) == items.size) = true) := by
    intro q
    rw [Bool.and_eq_true, Bool.and_eq_true] at q
    have q1 : ((sIx items.size 0 lo : Nat) : Int) = 0 := eq_of_beq q.1.1
    have q2 : sIx items.size items.size hi - sIx items.size 0 lo = items.size := eq_of_beq q.2
    exact hw ⟨by omega, by omega⟩
  show wpAny _ _ (if (((sIx items.size 0 lo : Nat) : Int) == 0 && (1 : Int) == 1 && (sIx items.size items.size hi - sIx items.size 0 lo) == items.size) = true then _ else _) _ _ s
  rw [if_neg hno, pick_gen]
  first
    | exact wpAny_bind (m := Builtin.Tuple.tupleExact _) (wpAny_newObj_type (wpAny_pure ⟨_, rfl, wpAny_pure h⟩) htake)
    | exact wpAny_bind (m := Builtin.Tuple.tupleExact _) (wpAny_newObj_type (wpAny_bind (wpAny_pure (wpAny_pure ⟨_, rfl, wpAny_pure h⟩))) htake)
    | exact wpAny_bind (wpAny_bind (m := Builtin.Tuple.tupleExact _) (wpAny_newObj_type (wpAny_pure (wpAny_pure ⟨_, rfl, wpAny_pure h⟩)) htake))
    | exact wpAny_bind (wpAny_bind (m := Builtin.Tuple.tupleExact _) (wpAny_newObj_type (wpAny_pure ⟨_, rfl, wpAny_pure h⟩) htake))
end
end HT

namespace L2
open PySem PySem.Spec PyProof.Rows

/-! ### the parts of a slice -/
abbrev TO := St → Hp → (Option Int → Hp → Prop) → Prop
/-- a slice's part (left out, or an int) -/
def PO (X : Cx) (e : Option Expr) (t : TO) : Prop :=
  ∀ (pins : List (Addr × Obj)) (s : Shared) (σ : St) (H : Hp) (Q : Option Int → Hp → Prop), Inv X pins σ H s → t σ H Q →
    wpAny (model X.prog X.w) X.A (evalPart e X.env) (fun u s' => ∃ o H', Inv X pins σ H' s' ∧ IsPart u o ∧ Q o H') X.xe s
def tNoPart : TO := fun _ H Q => Q none H
def tPart (t : TE) : TO := fun σ H Q => t σ H fun x H1 => ∃ i, x = .int i ∧ Q (some i) H1

theorem intsAre_of {ns : List Int} : ∀ {us : List Value}, Vals (ns.map V.int) us → IntsAre us ns := by
  induction ns with
  | nil => intro us r; rw [List.map_nil] at r; cases r; exact .nil
  | cons n ns ih =>
    intro us r
    rw [List.map_cons] at r
    cases r with
    | cons r1 r2 =>
      obtain ⟨t, e⟩ := r1
      subst e
      exact .cons n t (ih r2)

section
variable {X : Cx} {e : Expr} {te : TE} {lo hi : Option Expr} {tl th : TO} {pos p2 : Pos}

theorem po_none : PO X none tNoPart := by
  intro pins s σ H Q I h
  rw [evalPart_none]
  exact wpAny_pure ⟨none, H, I, .none, h⟩
theorem po_some (h : PE X e te) : PO X (some e) (tPart te) := by
  intro pins s σ H Q I hw
  rw [evalPart_some]
  refine thn (h pins s σ H _ I hw) fun u s1 ⟨x, H1, I1, r1, q1⟩ => ?_
  obtain ⟨i, rfl, q⟩ := q1
  obtain ⟨t, rfl⟩ := r1
  exact ⟨some i, H1, I1, .int i t, q⟩

/-- what a slice of a value is, by values: the slice object stands at sl -/
def SlR (X : Cx) (r : V → Option Int → Option Int → Hp → VK → Prop) : Prop :=
  ∀ (pins : List (Addr × Obj)) (s : Shared) (σ : St) (H : Hp) (x : V) (v vl vu : Value) (lo hi : Option Int) (sl : Addr) (Q : VK), Inv X pins σ H s → RelV x v → s.heap.IsSliceOf sl vl vu .none → IsPart vl lo → IsPart vu hi → r x lo hi H Q →
    ∃ T id, typeLookup (.type T) "__getitem__" = pure (some (.builtin id)) ∧ s.TypeIs v T ∧ wpAny (model X.prog X.w) X.A (getItem v (.ref sl)) (EP X pins σ Q) X.xe s
theorem SlR.or {r r' : V → Option Int → Option Int → Hp → VK → Prop} (h : SlR X r) (h' : SlR X r') : SlR X (fun x lo hi H Q => r x lo hi H Q ∨ r' x lo hi H Q) := by
  intro pins s σ H x v vl vu lo hi sl Q I rx hs pl pu q
  rcases q with q | q
  · exact h pins s σ H x v vl vu lo hi sl Q I rx hs pl pu q
  · exact h' pins s σ H x v vl vu lo hi sl Q I rx hs pl pu q
def tSl (r : V → Option Int → Option Int → Hp → VK → Prop) (te : TE) (tl th : TO) : TE := fun σ H Q => te σ H fun x H1 => tl σ H1 fun l H2 => th σ H2 fun u H3 => r x l u H3 Q
/-- a[lo:hi], any a -/
theorem pe_slice {r : V → Option Int → Option Int → Hp → VK → Prop} (hr : SlR X r) (he : PE X e te) (hl : PO X lo tl) (hu : PO X hi th) : PE X (.Subscript e (.Slice lo hi none p2) pos) (tSl r te tl th) := by
  intro pins s σ H Q I h
  refine Subscript_ (thn (he pins s σ H _ I h) fun v s1 ⟨x, H1, I1, r1, q1⟩ => ?_)
  refine wpAny_Slice (thn (hl pins s1 σ H1 _ I1 q1) fun vl s2 ⟨l, H2, I2, pl, q2⟩ => thn (hu pins s2 σ H2 _ I2 q2) fun vu s3 ⟨u, H3, I3, pu, q3⟩ => ?_)
  rw [evalPart_none]
  refine wpAny_pure ?_
  have I4 : Inv X pins σ H3 { s3 with heap := s3.heap.push { cls := .type "slice", data := .fields #[vl, vu, .none] } } := I3.kept (t' := s3.toks) fun b ob q => Heap.get?_push_of_some _ q
  obtain ⟨T, id, hT, ht, hg⟩ := hr pins { s3 with heap := s3.heap.push { cls := .type "slice", data := .fields #[vl, vu, .none] } } σ H3 x v vl vu l u s3.heap.objs.size Q I4 r1 (Heap.IsSliceOf.new ..) pl pu q3
  show wpAny (model X.prog X.w) X.A (subscriptTail e (.Slice lo hi none p2) v (.ref s3.heap.objs.size)) (EP X pins σ Q) X.xe { s3 with heap := s3.heap.push { cls := .type "slice", data := .fields #[vl, vu, .none] } }
  exact tail_any (ops := [.ref s3.heap.objs.size, v]) ht hT hg (by with_unfolding_all rfl)

/-- the items of xs[lo:hi] -/
def cutV (xs : List V) (lo hi : Option Int) : List V := (xs.drop (HT.sIx xs.length 0 lo)).take (HT.sIx xs.length xs.length hi - HT.sIx xs.length 0 lo)
theorem cutV_length (xs : List V) (lo hi : Option Int) : (cutV xs lo hi).length ≤ xs.length := by
  unfold cutV
  rw [List.length_take, List.length_drop]
  omega
/-- t[lo:hi], not the whole of it (the whole would be t itself) -/
def rSlT (K : PySem.W.Frag) : V → Option Int → Option Int → Hp → VK → Prop := fun x lo hi H Q => ∃ a xs, x = .ref a ∧ SqT K H a xs ∧
  ¬ (HT.sIx xs.length 0 lo = 0 ∧ HT.sIx xs.length xs.length hi = xs.length) ∧ ∀ p, H p = none → Q (.ref p) (upd H p (.tup (cutV xs lo hi)))
theorem sl_tup : SlR X (rSlT X.K) := by
  intro pins s σ H x v vl vu lo hi sl Q I rx hs pl pu h
  obtain ⟨a, xs, rfl, hx, hw, q⟩ := h
  cases rx
  obtain ⟨its, r, ht, hz⟩ := I.tuple hx
  have hlen : its.toArray.size = xs.length := by rw [List.size_toArray]; exact r.length.symm
  refine ⟨"tuple", _, PyProof.Rows.slot_tuple_getitem.lookup, ht.typeIs, ?_⟩
  refine HT.getItem_tuple_cut ht hs pl pu (by rw [hlen]; exact hw) ?_ (by rw [hlen]; exact hz)
  rw [hlen]
  refine ⟨.ref s.heap.objs.size, _, I.laid (t' := s.toks) (o := .tup (cutV xs lo hi)) (fun b ob q => Heap.get?_push_of_some _ q) (Nat.le_refl _) ?_, rfl, q _ (I.hok.fresh (Nat.le_refl _))⟩
  exact ⟨Nat.le_trans (cutV_length xs lo hi) hz, _, (r.drop (HT.sIx xs.length 0 lo)).take (HT.sIx xs.length xs.length hi - HT.sIx xs.length 0 lo), IsTup.new _ _⟩

/-! ### t < u, t + u -/
def rLtT (K : PySem.W.Frag) : R2 := fun x y H Q => ∃ a b ns ms, x = .ref a ∧ y = .ref b ∧ SqT K H a (ns.map V.int) ∧ SqT K H b (ms.map V.int) ∧ Q (.bl (HT.lexLt ns ms)) H
theorem op_ltT (hu : X.A.units < cLine) : OpR X (compareOp .Lt) (rLtT X.K) := by
  intro pins s σ H x y v u Q I rx ry h
  obtain ⟨a, b, ns, ms, rfl, rfl, ha, hb, q⟩ := h
  cases rx
  cases ry
  obtain ⟨its, r1, p1, _⟩ := I.tuple ha
  obtain ⟨its2, r2, p2, _⟩ := I.tuple hb
  have i1 : IntsAre its.toArray.toList ns := intsAre_of r1
  have i2 : IntsAre its2.toArray.toList ms := intsAre_of r2
  exact HT.lt_tupInts p1 p2 i1 i2 hu ⟨.bl (HT.lexLt ns ms), H, I, rfl, q⟩
/-- t + u, t not empty: u empty gives t itself -/
def rCatT (K : PySem.W.Frag) : R2 := fun x y H Q => ∃ a b xs ys, x = .ref a ∧ y = .ref b ∧ SqT K H a xs ∧ SqT K H b ys ∧ xs ≠ [] ∧ xs.length + ys.length ≤ sizeLine ∧
  (ys = [] → Q (.ref a) H) ∧ (ys ≠ [] → ∀ p, H p = none → Q (.ref p) (upd H p (.tup (xs ++ ys))))
theorem Vals.nil_iff {xs : List V} {us : List Value} (r : Vals xs us) : us = [] ↔ xs = [] := by
  cases r with
  | nil => simp
  | cons _ _ => simp
theorem op_catT : OpR X (binaryOp .Add) (rCatT X.K) := by
  intro pins s σ H x y v u Q I rx ry h
  obtain ⟨a, b, xs, ys, rfl, rfl, ha, hb, hx, hz, q1, q2⟩ := h
  cases rx
  cases ry
  obtain ⟨its, r1, p1, _⟩ := I.tuple ha
  obtain ⟨its2, r2, p2, _⟩ := I.tuple hb
  refine HT.cat_tup p1 p2 (fun z => hx (r1.nil_iff.mp z)) (fun z => ⟨.ref a, H, I, rfl, q1 (r2.nil_iff.mp z)⟩) (fun z => ?_) (by rw [← r1.length, ← r2.length]; exact hz)
  refine ⟨.ref s.heap.objs.size, _, I.laid (t' := s.toks) (o := .tup (xs ++ ys)) (fun b ob q => Heap.get?_push_of_some _ q) (Nat.le_refl _) ?_, rfl, q2 (fun w => z (r2.nil_iff.mpr w)) _ (I.hok.fresh (Nat.le_refl _))⟩
  exact ⟨by rw [List.length_append]; exact hz, _, r1.append r2, IsTup.new _ _⟩
/-- tuple(t) -/
theorem call_tupleT : CallR X (.type "tuple") (fun xs H Q => ∃ a ys, xs = [.ref a] ∧ SqT X.K H a ys ∧ Q (.ref a) H) := by
  intro pins s σ H xs us Q I r h
  obtain ⟨a, ys, rfl, ha, q⟩ := h
  obtain ⟨u, rfl, ru⟩ := vals1 r
  cases ru
  obtain ⟨its, _, p1, _⟩ := I.tuple ha
  exact call_tuple_same (items := its.toArray) p1 ⟨.ref a, H, I, rfl, q⟩
end
end L2

namespace L2
open PySem PySem.Spec PyProof.Rows

/-! ### places -/
/-- the place that an index of any sign means -/
def ixN (n : Nat) (i : Int) : Option Nat := if 0 ≤ i then (if i < n then some i.toNat else none) else if -(n : Int) ≤ i then some (i + n).toNat else none
def atI {α : Type} (xs : List α) (i : Int) : Option α := (ixN xs.length i).bind fun j => xs[j]?
theorem ixN_seq {n : Nat} {i : Int} {j : Nat} (h : ixN n i = some j) : seqIndex? i n = some j ∧ j < n ∧ -(n : Int) ≤ i ∧ i < n := by
  unfold ixN at h
  by_cases h0 : 0 ≤ i
  · rw [if_pos h0] at h
    by_cases h1 : i < n
    · rw [if_pos h1] at h
      have e : i.toNat = j := Option.some.inj h
      exact ⟨by rw [seqIndex_of h0 h1, e], by omega, by omega, h1⟩
    · rw [if_neg h1] at h; cases h
  · rw [if_neg h0] at h
    by_cases h1 : -(n : Int) ≤ i
    · rw [if_pos h1] at h
      have e : (i + n).toNat = j := Option.some.inj h
      exact ⟨by rw [seqIndex_neg (by omega) h1, e], by omega, h1, by omega⟩
    · rw [if_neg h1] at h; cases h
theorem atI_get {α : Type} {xs : List α} {i : Int} {v : α} (h : atI xs i = some v) : ∃ j, seqIndex? i xs.length = some j ∧ xs[j]? = some v ∧ j < xs.length ∧ -(xs.length : Int) ≤ i ∧ i < xs.length := by
  unfold atI at h
  cases e : ixN xs.length i with
  | none => rw [e] at h; cases h
  | some j =>
    rw [e] at h
    obtain ⟨h1, h2, h3, h4⟩ := ixN_seq e
    exact ⟨j, h1, h, h2, h3, h4⟩
theorem atI_nat {α : Type} {xs : List α} {j : Nat} {v : α} (h : xs[j]? = some v) : atI xs (j : Int) = some v := by
  have hj : j < xs.length := (List.getElem?_eq_some_iff.mp h).1
  have e : ixN xs.length (j : Int) = some j := by
    unfold ixN
    rw [if_pos (by omega), if_pos (by omega)]; simp
  unfold atI; rw [e]; exact h
theorem atI_last {α : Type} (xs : List α) (v : α) : atI (xs ++ [v]) (-1) = some v := by
  have hl : (xs ++ [v]).length = xs.length + 1 := by simp
  have e : ixN (xs ++ [v]).length (-1) = some xs.length := by
    unfold ixN
    rw [hl, if_neg (by decide), if_pos (by omega)]
    congr 1
    omega
  unfold atI
  rw [e]
  show (xs ++ [v])[xs.length]? = some v
  simp

/-! ### what may be subscripted -/
/-- what stands as an index of a plain subscript -/
def PlainIx (b : Expr) : Prop := ∀ o i, subscripted b false o i = operate [o, i] (getItem o i)
/-- a subscript by values -/
def IxR (X : Cx) (r : R2) : Prop :=
  ∀ (value slice : Expr) (pins : List (Addr × Obj)) (s : Shared) (σ : St) (H : Hp) (x y : V) (v u : Value) (Q : VK), Inv X pins σ H s → RelV x v → RelV y u → r x y H Q →
    subscripted slice false v u = operate [v, u] (getItem v u) → wpAny (model X.prog X.w) X.A (subscriptTail value slice v u) (EP X pins σ Q) X.xe s
/-- a call of a builtin's method by values: the receiver, the arguments -/
def MtR (X : Cx) (id : String) (r : V → List V → Hp → VK → Prop) : Prop :=
  ∀ (pins : List (Addr × Obj)) (s : Shared) (σ : St) (H : Hp) (x : V) (xs : List V) (v : Value) (us : List Value) (Q : VK), Inv X pins σ H s → RelV x v → Vals xs us → r x xs H Q →
    wpAny (model X.prog X.w) X.A (call (.builtin id) (v :: us)) (EP X pins σ Q) X.xe s
section
variable {X : Cx} {a b : Expr} {ta tb : TE} {pos : Pos}
theorem IxR.or {r r' : R2} (h : IxR X r) (h' : IxR X r') : IxR X (fun x y H Q => r x y H Q ∨ r' x y H Q) := by
  intro value slice pins s σ H x y v u Q I rx ry q hs
  rcases q with q | q
  · exact h value slice pins s σ H x y v u Q I rx ry q hs
  · exact h' value slice pins s σ H x y v u Q I rx ry q hs
theorem MtR.or {id : String} {r r' : V → List V → Hp → VK → Prop} (h : MtR X id r) (h' : MtR X id r') : MtR X id (fun x xs H Q => r x xs H Q ∨ r' x xs H Q) := by
  intro pins s σ H x xs v us Q I rx rs q
  rcases q with q | q
  · exact h pins s σ H x xs v us Q I rx rs q
  · exact h' pins s σ H x xs v us Q I rx rs q
/-- a[b] -/
theorem pe_ix {r : R2} (hr : IxR X r) (ha : PE X a ta) (hb : PE X b tb) (hs : PlainIx b) : PE X (.Subscript a b pos) (tOp r ta tb) := by
  intro pins s σ H Q I h
  exact Subscript_ (binT ha hb I h fun v u s2 x y H2 I2 rx ry q => hr a b pins s2 σ H2 x y v u Q I2 rx ry q (hs _ _))

def rIxL (K : PySem.W.Frag) : R2 := fun x y H Q => ∃ p xs i v, x = .ref p ∧ y = .int i ∧ SqL K H p xs ∧ atI xs i = some v ∧ Q v H
def rIxT (K : PySem.W.Frag) : R2 := fun x y H Q => ∃ p xs i v, x = .ref p ∧ y = .int i ∧ SqT K H p xs ∧ atI xs i = some v ∧ Q v H
def rIxS : R2 := fun x y H Q => ∃ z i c, x = .str z ∧ y = .int i ∧ z.length ≤ sizeLine ∧ atI z.cps.toList i = some c ∧ Q (.str ⟨#[c]⟩) H
theorem ix_list : IxR X (rIxL X.K) := by
  intro value slice pins s σ H x y v u Q I rx ry h hs
  obtain ⟨p, xs, i, z, rfl, rfl, hq, he, q⟩ := h
  cases rx
  obtain ⟨t, rfl⟩ := ry
  obtain ⟨its, r, pl, hz⟩ := I.list hq
  obtain ⟨j, h1, h2, h3, h4, h5⟩ := atI_get he
  obtain ⟨w, ew, rw'⟩ := r.get h2
  have hl := r.length
  have hn := line63
  have fin : EP X pins σ Q w s := ⟨z, H, I, rw', q⟩
  by_cases h0 : 0 ≤ i
  · have hj : i.toNat = j := by
      rw [seqIndex_of h0 h5] at h1
      exact Option.some.inj h1
    exact item_listR pl.isList h0 (by omega) (by rw [hj]; simpa using ew) fin hs
  · have hj : (i + (its.toArray.size : Int)).toNat = j := by
      rw [seqIndex_neg (by omega) h4] at h1
      rw [List.size_toArray, ← hl]
      exact Option.some.inj h1
    exact subscriptTail_builtinR (x := w) pl.isList.typeIs slot_list_getitem.lookup
      (wpAny_getItem_list_neg (Q := fun r s' => r = w ∧ EP X pins σ Q r s') pl.isList (by omega) (by rw [List.size_toArray] <;> omega) (by omega) (by rw [hj]; simpa using ew) ⟨rfl, fin⟩) hs
theorem ix_tup : IxR X (rIxT X.K) := by
  intro value slice pins s σ H x y v u Q I rx ry h hs
  obtain ⟨p, xs, i, z, rfl, rfl, hq, he, q⟩ := h
  cases rx
  obtain ⟨t, rfl⟩ := ry
  obtain ⟨its, r, pl, hz⟩ := I.tuple hq
  obtain ⟨j, h1, h2, h3, h4, h5⟩ := atI_get he
  obtain ⟨w, ew, rw'⟩ := r.get h2
  have hl := r.length
  have hn := line63
  have fin : EP X pins σ Q w s := ⟨z, H, I, rw', q⟩
  exact subscriptTail_builtinR (x := w) pl.typeIs slot_tuple_getitem.lookup
    (getItem_tuple (j := j) (Q := fun r s' => r = w ∧ EP X pins σ Q r s') pl (by omega) (by omega) (by rw [List.size_toArray, ← hl]; exact h1) (by simpa using ew) ⟨rfl, fin⟩) hs
theorem ix_str : IxR X rIxS := by
  intro value slice pins s σ H x y v u Q I rx ry h hs
  obtain ⟨z, i, c, rfl, rfl, hz, he, q⟩ := h
  obtain ⟨t, rfl⟩ := rx
  obtain ⟨t', rfl⟩ := ry
  obtain ⟨j, h1, h2, h3, h4, h5⟩ := atI_get he
  have hl : z.cps.toList.length = z.length := by simp [Str.length]
  rw [hl] at h1 h4 h5
  have hn := line63
  exact tail_any (typeIs_str s z t) slot_str_getitem.lookup (getItem_str (c := c) (by
    have e1 : decide (i < -(2 ^ 63 : Int)) = false := decide_eq_false (by omega)
    have e2 : decide (i ≥ 2 ^ 63) = false := decide_eq_false (by omega)
    rw [e1, e2, Bool.or_false]) (by rw [h1]; simpa using h2) ⟨.str ⟨#[c]⟩, H, I.tok _, ⟨_, rfl⟩, q⟩) hs
/-- list, tuple or str -/
def rIx (K : PySem.W.Frag) : R2 := fun x y H Q => rIxL K x y H Q ∨ rIxT K x y H Q ∨ rIxS x y H Q
theorem ix_seq : IxR X (rIx X.K) := ix_list.or (ix_tup.or ix_str)

/-! ### xs[i] = v, any sign -/
/-- the list's object behind a store -/
theorem mapSeq_set (its : List Value) (n j : Nat) (u : Value) : Obj.mapSeq (·.setIfInBounds j u) { cls := .type "list", data := .seq its.toArray n } = { cls := .type "list", data := .seq (its.set j u).toArray n } := by
  simp [Obj.mapSeq]
theorem Inv.lst {pins : List (Addr × Obj)} {σ : St} {H : Hp} {s : Shared} {p : Addr} {xs : List V} (I : Inv X pins σ H s) (h : H p = some (.lst xs)) :
    ∃ (its : List Value) (n : Nat), Vals xs its ∧ s.heap.get? p = some { cls := .type "list", data := .seq its.toArray n } ∧ xs.length ≤ sizeLine := by
  obtain ⟨z, its, n, r, e⟩ := I.hok p _ h
  exact ⟨its, n, r, e, z⟩
/-- the list at p is written by an update of its object -/
theorem Inv.lstUpd {pins : List (Addr × Obj)} {σ : St} {H : Hp} {s : Shared} {p : Addr} {xs ys : List V} {its its' : List Value} {n n' : Nat} {f : Obj → Obj} (I : Inv X pins σ H s) (h : H p = some (.lst xs))
    (ho : s.heap.get? p = some { cls := .type "list", data := .seq its.toArray n }) (hf : f { cls := .type "list", data := .seq its.toArray n } = { cls := .type "list", data := .seq its'.toArray n' }) (r : Vals ys its') (hz : ys.length ≤ sizeLine) (t : Nat) :
    Inv X pins σ (upd H p (.lst ys)) { s with heap := s.heap.update p f, toks := t } := by
  have e : (s.heap.update p f).get? p = some { cls := .type "list", data := .seq its'.toArray n' } := by
    rw [Heap.get?_update_self f ho (by rw [hf] <;> rfl), hf]
  refine I.write (x := p) (e := p) (by rw [h]; trivial) (.inl rfl) (fun b u hb q => (Heap.get?_update_other _ _ (Ne.symm hb)).trans q) ⟨_, e⟩ ?_
  exact ⟨hz, its', n', r, e⟩
def rSetL : V → V → V → Hp → (Hp → Prop) → Prop := fun o i v H Q => ∃ p xs k j, o = .ref p ∧ i = .int k ∧ H p = some (.lst xs) ∧ ixN xs.length k = some j ∧ Q (upd H p (.lst (xs.set j v)))
theorem set_list : PSet X rSetL := by
  intro pins s σ H o i v ov iv u Q I ro ri rv h
  obtain ⟨p, xs, k, j, rfl, rfl, hp, hj, q⟩ := h
  cases ro
  obtain ⟨t, rfl⟩ := ri
  obtain ⟨its, n, r, ho, hz⟩ := I.lst hp
  obtain ⟨h1, h2, h3, h4⟩ := ixN_seq hj
  have hl := r.length
  have hn := line63
  have I' : Inv X pins σ (upd H p (.lst (xs.set j v))) { s with heap := s.heap.update p (Obj.mapSeq (·.setIfInBounds j u)) } :=
    I.lstUpd hp ho (mapSeq_set its n j u) (r.set rv j) (by rw [List.length_set]; exact hz) s.toks
  by_cases h0 : 0 ≤ k
  · have hk : k.toNat = j := by
      rw [seqIndex_of h0 h4] at h1
      exact Option.some.inj h1
    exact PySem.W.ki_setAt ho h0 (by omega) (by rw [List.size_toArray, ← hl]; exact h4) (by rw [hk]; exact ⟨_, I', q⟩)
  · have hk : (k + (its.toArray.size : Int)).toNat = j := by
      rw [seqIndex_neg (by omega) h3] at h1
      rw [List.size_toArray, ← hl]
      exact Option.some.inj h1
    exact PySem.W.ki_setBack ho (by omega) (by rw [List.size_toArray, ← hl]; exact h3) (by omega) (by rw [hk]; exact ⟨_, I', q⟩)

/-! ### slices -/
theorem slice_bounds (lo hi : Option Int) (n : Nat) : (sliceBounds lo hi none n).1 = ((HT.sIx n 0 lo : Nat) : Int) ∧ (sliceBounds lo hi none n).2.1 = ((HT.sIx n n hi : Nat) : Int) ∧ (sliceBounds lo hi none n).2.2 = 1 := by
  refine ⟨?_, ?_, rfl⟩
  · cases lo with
    | none => simp [sliceBounds, HT.sIx]
    | some i =>
      simp only [sliceBounds, HT.sIx, Option.getD_none, show (1 : Int) > 0 by decide, if_true]
      by_cases h : i < 0
      · simp only [h, if_true] <;> omega
      · simp only [h, if_false] <;> omega
  · cases hi with
    | none => simp [sliceBounds, HT.sIx]
    | some i =>
      simp only [sliceBounds, HT.sIx, Option.getD_none, show (1 : Int) > 0 by decide, if_true]
      by_cases h : i < 0
      · simp only [h, if_true] <;> omega
      · simp only [h, if_false] <;> omega
theorem slicePick_cut (its : List Value) (lo hi : Option Int) : slicePick its.toArray lo hi none = ((its.drop (HT.sIx its.length 0 lo)).take (HT.sIx its.length its.length hi - HT.sIx its.length 0 lo)).toArray := by
  obtain ⟨h1, h2, h3⟩ := slice_bounds lo hi its.toArray.size
  unfold slicePick
  rw [h1, h2, h3]
  simp only [sliceRange_one, pick_run, List.size_toArray] <;> rfl
/-- xs[lo:hi] of a list: a new list -/
def rSlL (K : PySem.W.Frag) : V → Option Int → Option Int → Hp → VK → Prop := fun x lo hi H Q => ∃ a xs, x = .ref a ∧ SqL K H a xs ∧ ∀ p, H p = none → Q (.ref p) (upd H p (.lst (cutV xs lo hi)))
theorem sl_list : SlR X (rSlL X.K) := by
  intro pins s σ H x v vl vu lo hi sl Q I rx hs pl pu h
  obtain ⟨a, xs, rfl, hx, q⟩ := h
  cases rx
  obtain ⟨its, r, ht, hz⟩ := I.list hx
  have hlen := r.length
  refine ⟨"list", _, slot_list_getitem.lookup, ht.isList.typeIs, ?_⟩
  refine wpAny_getItem_list_slice ht.isList hs pl pu .none (by simp) ?_ (by rw [List.size_toArray] <;> omega)
  rw [slicePick_cut, ← hlen]
  refine ⟨.ref s.heap.objs.size, _, I.laid (t' := s.toks) (o := .lst (cutV xs lo hi)) (fun b ob q => Heap.get?_push_of_some _ q) (Nat.le_refl _) ?_, rfl, q _ (I.hok.fresh (Nat.le_refl _))⟩
  exact ⟨Nat.le_trans (cutV_length xs lo hi) hz, _, 0, (r.drop (HT.sIx xs.length 0 lo)).take (HT.sIx xs.length xs.length hi - HT.sIx xs.length 0 lo), Heap.get?_push_size _ rfl⟩

/-! ### in, not in: flat items -/
def flatV : V → Bool
  | .non => true
  | .bl _ => true
  | .int _ => true
  | .str _ => true
  | _ => false
/-- == of flat values -/
def eqV : V → V → Bool
  | .non, .non => true
  | .bl a, .bl b => a == b
  | .bl a, .int b => (if a then 1 else 0) == b
  | .int a, .bl b => a == (if b then 1 else 0)
  | .int a, .int b => a == b
  | .str a, .str b => a == b
  | _, _ => false
theorem eqAt_V {A : Around} {s : Shared} {y x : V} {u v : Value} (ry : RelV y u) (rx : RelV x v) (fy : flatV y = true) (fx : flatV x = true) : SeqAt.EqAt A s u v (eqV y x) := by
  cases y with
  | non =>
    cases ry
    cases x with
    | non => cases rx; exact SeqAt.EqAt.same _
    | bl b => cases rx; exact SeqAt.EqAt.none_bool b
    | int b => obtain ⟨t, rfl⟩ := rx; exact SeqAt.EqAt.none_int b t
    | str b => obtain ⟨t, rfl⟩ := rx; exact SeqAt.EqAt.none_str b t
    | _ => exact absurd (show false = true from fx) Bool.false_ne_true
  | bl a =>
    cases ry
    cases x with
    | non => cases rx; exact SeqAt.EqAt.bool_none a
    | bl b => cases rx; exact SeqAt.EqAt.bool_bool a b
    | int b => obtain ⟨t, rfl⟩ := rx; exact SeqAt.EqAt.bool_int a b t
    | str b => obtain ⟨t, rfl⟩ := rx; exact SeqAt.EqAt.bool_str a b t
    | _ => exact absurd (show false = true from fx) Bool.false_ne_true
  | int a =>
    obtain ⟨t', rfl⟩ := ry
    cases x with
    | non => cases rx; exact SeqAt.EqAt.int_none a t'
    | bl b => cases rx; exact SeqAt.EqAt.int_bool a t' b
    | int b => obtain ⟨t, rfl⟩ := rx; exact SeqAt.EqAt.int_int a t' b t
    | str b => obtain ⟨t, rfl⟩ := rx; exact SeqAt.EqAt.int_str a t' b t
    | _ => exact absurd (show false = true from fx) Bool.false_ne_true
  | str a =>
    obtain ⟨t', rfl⟩ := ry
    cases x with
    | non => cases rx; exact SeqAt.EqAt.str_none a t'
    | bl b => cases rx; exact SeqAt.EqAt.str_bool a t' b
    | int b => obtain ⟨t, rfl⟩ := rx; exact SeqAt.EqAt.str_int a t' b t
    | str b => obtain ⟨t, rfl⟩ := rx; exact SeqAt.EqAt.str_str a t' b t
    | _ => exact absurd (show false = true from fx) Bool.false_ne_true
  | _ => exact absurd (show false = true from fy) Bool.false_ne_true
/-- the items' answers, read off the values (a value's own answer does not lean on its token) -/
def eqU (x : V) (u : Value) : Bool := match u with
  | .none => eqV .non x
  | .bool b => eqV (.bl b) x
  | .int i _ => eqV (.int i) x
  | .str z _ => eqV (.str z) x
  | _ => false
theorem eqU_of {x y : V} {u : Value} (r : RelV y u) (f : flatV y = true) : eqU x u = eqV y x := by
  cases y with
  | non => cases r; rfl
  | bl b => cases r; rfl
  | int i => obtain ⟨t, rfl⟩ := r; rfl
  | str z => obtain ⟨t, rfl⟩ := r; rfl
  | _ => exact absurd (show false = true from f) Bool.false_ne_true
theorem any_eqU {x : V} : ∀ {xs : List V} {us : List Value}, Vals xs us → xs.all flatV = true → us.any (eqU x) = xs.any fun y => eqV y x
  | _, _, .nil, _ => rfl
  | y :: xs, u :: us, .cons r t, f => by
    rw [List.all_cons, Bool.and_eq_true] at f
    rw [List.any_cons, List.any_cons, eqU_of r f.1, any_eqU t f.2]
theorem mem_eqAt {A : Around} {s : Shared} {x : V} {v : Value} (rx : RelV x v) (fx : flatV x = true) : ∀ {xs : List V} {us : List Value}, Vals xs us → xs.all flatV = true → ∀ u ∈ us, SeqAt.EqAt A s u v (eqU x u)
  | _, _, .nil, _ => fun u hu => by cases hu
  | y :: xs, u :: us, .cons r t, f => fun u' hu => by
    rw [List.all_cons, Bool.and_eq_true] at f
    rcases List.mem_cons.mp hu with rfl | hu
    · rw [eqU_of r f.1]; exact eqAt_V r rx f.1 fx
    · exact mem_eqAt rx fx t f.2 u' hu
def inV (x : V) (xs : List V) : Bool := xs.any fun y => eqV y x
/-- x in a list or tuple of flat items -/
def rIn (K : PySem.W.Frag) (neg : Bool) : R2 := fun x y H Q => ∃ p xs, y = .ref p ∧ (SqL K H p xs ∨ SqT K H p xs) ∧ flatV x = true ∧ xs.all flatV = true ∧ Q (.bl (if neg then !inV x xs else inV x xs)) H
theorem op_in_seq : OpR X (compareOp .In) (rIn X.K false) := by
  intro pins s σ H x y v u Q I rx ry h
  obtain ⟨p, xs, rfl, hq, fx, fs, q⟩ := h
  cases ry
  rcases hq with hq | hq
  · obtain ⟨its, r, pl, hz⟩ := I.list hq
    refine SeqAt.in_listAt (eqU x) pl.isList (fun w hw => mem_eqAt rx fx r fs w (by simpa using hw)) ⟨.bl _, H, I, rfl, ?_⟩
    rw [show its.toArray.any (eqU x) = its.any (eqU x) by simp, any_eqU r fs]
    exact q
  · obtain ⟨its, r, pl, hz⟩ := I.tuple hq
    refine SeqAt.in_tupleAt (eqU x) pl (fun w hw => mem_eqAt rx fx r fs w (by simpa using hw)) ⟨.bl _, H, I, rfl, ?_⟩
    rw [show its.toArray.any (eqU x) = its.any (eqU x) by simp, any_eqU r fs]
    exact q
theorem op_notIn_seq : OpR X (compareOp .NotIn) (rIn X.K true) := by
  intro pins s σ H x y v u Q I rx ry h
  obtain ⟨p, xs, rfl, hq, fx, fs, q⟩ := h
  cases ry
  rcases hq with hq | hq
  · obtain ⟨its, r, pl, hz⟩ := I.list hq
    refine SeqAt.notIn_listAt (eqU x) pl.isList (fun w hw => mem_eqAt rx fx r fs w (by simpa using hw)) ⟨.bl _, H, I, rfl, ?_⟩
    rw [show its.toArray.any (eqU x) = its.any (eqU x) by simp, any_eqU r fs]
    exact q
  · obtain ⟨its, r, pl, hz⟩ := I.tuple hq
    refine SeqAt.notIn_tupleAt (eqU x) pl (fun w hw => mem_eqAt rx fx r fs w (by simpa using hw)) ⟨.bl _, H, I, rfl, ?_⟩
    rw [show its.toArray.any (eqU x) = its.any (eqU x) by simp, any_eqU r fs]
    exact q
theorem op_notIn_str : OpR X (compareOp .NotIn) (fun x y H Q => ∃ i j, x = .str i ∧ y = .str j ∧ Q (.bl (!(!(Builtin.Str.occurrences j i 0 j.length 1).isEmpty))) H) := by
  intro pins s σ H x y v u Q I rx ry h
  obtain ⟨i, j, rfl, rfl, q⟩ := h
  obtain ⟨t, rfl⟩ := rx
  obtain ⟨t', rfl⟩ := ry
  exact notIn_str ⟨.bl _, H, I, rfl, q⟩

/-! ### len, list(x), tuple(x) of any list or tuple that is read -/
theorem call_len_seq : CallR X (.builtin "len") (fun xs H Q => ∃ p ys, xs = [.ref p] ∧ (SqL X.K H p ys ∨ SqT X.K H p ys) ∧ Q (.int ys.length) H) := by
  intro pins s σ H xs us Q I r h
  obtain ⟨p, ys, rfl, hq, q⟩ := h
  obtain ⟨u, rfl, rx⟩ := vals1 r
  cases rx
  have hn := line63
  rcases hq with hq | hq
  · obtain ⟨its, r', pl, hz⟩ := I.list hq
    have hlen := r'.length
    exact Calls.call_len_list pl.isList (by simp only [List.size_toArray] <;> omega) ⟨.int ys.length, H, I.tok _, ⟨s.toks + 1, by rw [List.size_toArray, hlen]⟩, q⟩
  · obtain ⟨its, r', pl, hz⟩ := I.tuple hq
    have hlen := r'.length
    exact len_tuple pl (by simp only [List.size_toArray] <;> omega) ⟨.int ys.length, H, I.tok _, ⟨s.toks + 1, by rw [List.size_toArray, hlen]⟩, q⟩
theorem call_len_str : CallR X (.builtin "len") (fun xs H Q => ∃ z, xs = [.str z] ∧ z.length ≤ sizeLine ∧ Q (.int z.length) H) := by
  intro pins s σ H xs us Q I r h
  obtain ⟨z, rfl, hz, q⟩ := h
  obtain ⟨u, rfl, t, rfl⟩ := vals1 r
  have hn := line63
  exact len_str (by omega) ⟨.int z.length, H, I.tok _, ⟨_, rfl⟩, q⟩
theorem CallR.or {f : Value} {r r' : List V → Hp → VK → Prop} (h : CallR X f r) (h' : CallR X f r') : CallR X f (fun xs H Q => r xs H Q ∨ r' xs H Q) := by
  intro pins s σ H xs us Q I rs q
  rcases q with q | q
  · exact h pins s σ H xs us Q I rs q
  · exact h' pins s σ H xs us Q I rs q
theorem call_list_of : CallR X (.type "list") (fun xs H Q => ∃ p ys, xs = [.ref p] ∧ (SqL X.K H p ys ∨ SqT X.K H p ys) ∧ ∀ l, H l = none → Q (.ref l) (upd H l (.lst ys))) := by
  intro pins s σ H xs us Q I r h
  obtain ⟨p, ys, rfl, hq, q⟩ := h
  obtain ⟨u, rfl, rx⟩ := vals1 r
  cases rx
  have fin : ∀ (its : List Value), Vals ys its → ys.length ≤ sizeLine → ∀ (h' : Heap) (c' : Nat), (∀ b o', s.heap.get? b = some o' → h'.get? b = some o') →
      h'.get? s.heap.objs.size = some { cls := .type "list", dict := none, data := .seq its.toArray c', slots := #[] } → EP X pins σ Q (.ref s.heap.objs.size) { s with heap := h' } := fun its r' hz h' c' kp e =>
    ⟨.ref s.heap.objs.size, _, I.laid (t' := s.toks) kp (Nat.le_refl _) (show ObjOk X.prog X.w _ h' _ (.lst ys) from ⟨hz, its, c', r', e⟩), rfl, q _ (I.hok.fresh (Nat.le_refl _))⟩
  rcases hq with hq | hq
  · obtain ⟨its, r', pl, hz⟩ := I.list hq
    have hlen := r'.length
    obtain ⟨o, ho, hc, n, hd⟩ := pl.isList
    exact call_list_seq p (.inl rfl) ho hc hd (fun h' c' kp e => fin its r' hz h' c' kp e) (by simp only [List.size_toArray] <;> omega)
  · obtain ⟨its, r', pl, hz⟩ := I.tuple hq
    have hlen := r'.length
    obtain ⟨o, ho, hc, n, hd⟩ := pl
    exact call_list_seq p (.inr rfl) ho hc hd (fun h' c' kp e => fin its r' hz h' c' kp e) (by simp only [List.size_toArray] <;> omega)
theorem call_tuple_of : CallR X (.type "tuple") (fun xs H Q => ∃ p ys, xs = [.ref p] ∧ ((SqL X.K H p ys ∧ ∀ l, H l = none → Q (.ref l) (upd H l (.tup ys))) ∨ (SqT X.K H p ys ∧ Q (.ref p) H))) := by
  intro pins s σ H xs us Q I r h
  obtain ⟨p, ys, rfl, h⟩ := h
  obtain ⟨u, rfl, rx⟩ := vals1 r
  cases rx
  rcases h with ⟨hq, q⟩ | ⟨hq, q⟩
  · obtain ⟨its, r', pl, hz⟩ := I.list hq
    have hlen := r'.length
    refine call_tuple_list pl.isList (fun h' kp => ?_) (by simp only [List.size_toArray] <;> omega)
    have I1 : Inv X pins σ H { s with heap := h' } := I.kept (t' := s.toks) kp
    have I2 : Inv X pins σ (upd H h'.objs.size (.tup ys)) { s with heap := h'.push { cls := .type "tuple", data := .seq its.toArray } } :=
      I1.laid (t' := s.toks) (fun b o e => Heap.get?_push_of_some _ e) (Nat.le_refl _) (show ObjOk X.prog X.w _ _ _ (.tup ys) from ⟨hz, its, r', IsTup.new _ _⟩)
    exact ⟨.ref h'.objs.size, _, I2, rfl, q _ (I1.hok.fresh (Nat.le_refl _))⟩
  · obtain ⟨its, r', pl, hz⟩ := I.tuple hq
    exact call_tuple_same pl ⟨.ref p, H, I, rfl, q⟩

/-! ### the call of a builtin's method: o.m(..) -/
/-- the value is of that builtin type -/
def tyV (K : PySem.W.Frag) (T : String) (x : V) (H : Hp) : Prop := match x with
  | .str _ => T = "str"
  | .int _ => T = "int"
  | .ref p => (T = "list" ∧ ∃ xs, SqL K H p xs) ∨ (T = "tuple" ∧ ∃ o, K.lookup p = some o ∧ o.cls = .type "tuple" ∧ o.dict = none) ∨
      (T = "dict" ∧ ((∃ kvs, H p = some (.dK kvs)) ∨ ∃ kvs, H p = some (.dT kvs))) ∨ (T = "set" ∧ ∃ S n, H p = some (.set S n))
  | _ => False
theorem tyV_is {pins : List (Addr × Obj)} {σ : St} {H : Hp} {s : Shared} {T : String} {x : V} {v : Value} (I : Inv X pins σ H s) (r : RelV x v) (ty : tyV X.K T x H) :
    s.TypeIs v T ∧ ∀ a, v = .ref a → ∃ ob, s.heap.get? a = some ob ∧ ob.dict = none := by
  cases x with
  | str z =>
    obtain ⟨t, rfl⟩ := r
    cases (show T = "str" from ty)
    exact ⟨typeIs_str s z t, fun _ e => nomatch e⟩
  | int i =>
    obtain ⟨t, rfl⟩ := r
    cases (show T = "int" from ty)
    exact ⟨typeIs_int s i t, fun _ e => nomatch e⟩
  | ref p =>
    cases r
    rcases ty with ⟨rfl, xs, hq⟩ | ⟨rfl, o, hk, hc, hd⟩ | ⟨rfl, hk⟩ | ⟨rfl, S, n, hk⟩
    · obtain ⟨its, _, pl, _⟩ := I.list hq
      refine ⟨pl.isList.typeIs, fun a e => ?_⟩
      cases e
      obtain ⟨o, n, e, c, hd, _⟩ := pl
      exact ⟨o, e, hd⟩
    · refine ⟨⟨o, I.kIn p o hk, hc⟩, fun a e => ?_⟩
      cases e
      exact ⟨o, I.kIn _ o hk, hd⟩
    · have z : ∃ o, s.heap.get? p = some o ∧ o.ExactDict := by
        rcases hk with ⟨kvs, hk⟩ | ⟨kvs, hk⟩
        · obtain ⟨_, _, _, _, o, _, _, e, ex, _⟩ := I.hok p _ hk
          exact ⟨o, e, ex⟩
        · obtain ⟨_, _, _, _, o, _, _, e, ex, _⟩ := I.hok p _ hk
          exact ⟨o, e, ex⟩
      obtain ⟨o, e, ex⟩ := z
      refine ⟨⟨o, e, ex.1⟩, fun a e2 => ?_⟩
      cases e2
      exact ⟨o, e, ex.2.1⟩
    · obtain ⟨o, _, _, _, e, ex, _⟩ := I.hok p _ hk
      refine ⟨⟨o, e, ex.1⟩, fun a e2 => ?_⟩
      cases e2
      exact ⟨o, e, ex.2.1⟩
  | _ => exact False.elim ty
def tBM0 (K : PySem.W.Frag) (T : String) (r : V → List V → Hp → VK → Prop) (to : TE) : TE := fun σ H Q => to σ H fun x H1 => tyV K T x H1 ∧ r x [] H1 Q
def tBM (K : PySem.W.Frag) (T : String) (r : V → List V → Hp → VK → Prop) (to : TE) (t : TA) : TE := fun σ H Q => to σ H fun x H1 => tyV K T x H1 ∧ t σ H1 fun xs H2 => r x xs H2 Q
variable {o e : Expr} {es : List Expr} {to : TE} {t : TA} {name : Str} {apos cpos : Pos} {T id : String} {r : V → List V → Hp → VK → Prop}
theorem pe_bm0 (pa : PlainAttrs T) (slot : Slot T name id) (hty : typeOf (.builtin id) = pure (.type "method_descriptor")) (hm : MtR X id r) (ho : PE X o to)
    (hbase : attributeBase o name X.env (eval o X.env) = eval o X.env := by rfl) (hline : (apos.endLine == cpos.line) = true := by rfl) : PE X (.Call (.Attribute o name apos) [] [] cpos) (tBM0 X.K T r to) := by
  intro pins s σ H Q I h
  refine wpAny_Call_method0_late hbase hline (thn (ho pins s σ H _ I h) fun v s1 ⟨x, H1, I1, r1, ty, q1⟩ => ?_)
  obtain ⟨h1, h2⟩ := tyV_is I1 r1 ty
  exact ⟨T, id, pa, slot, hty, h1, h2, Calls.callWith_builtin rfl (PySem.evalArgs_none (hm pins s1 σ H1 x [] v [] Q I1 r1 .nil q1))⟩
theorem pe_bm (pa : PlainAttrs T) (slot : Slot T name id) (hty : typeOf (.builtin id) = pure (.type "method_descriptor")) (hm : MtR X id r) (ho : PE X o to) (ha : PA X (e :: es) t)
    (hbase : attributeBase o name X.env (eval o X.env) = eval o X.env := by rfl)
    (hfew : ((backTo cpos (starEach (e :: es) X.env)).all (fun x => !x.1) && (backToKw cpos (keywordEach [] X.env)).all (fun x => x.1.isSome)
      && decide ((e :: es).length + ([] : List Keyword).length + (if ([] : List Keyword).isEmpty then 0 else 1) < 30)) = true := by rfl)
    (hline : (apos.endLine == cpos.line) = true := by rfl) (hs : starEach (e :: es) X.env = (false, eval e X.env) :: starEach es X.env := by rfl) (hplain : (backTo cpos (starEach es X.env)).any (·.1) = false := by rfl) :
    PE X (.Call (.Attribute o name apos) (e :: es) [] cpos) (tBM X.K T r to t) := by
  intro pins s σ H Q I h
  refine wpAny_Call_method_late hbase hfew hline rfl (thn (ho pins s σ H _ I h) fun v s1 ⟨x, H1, I1, r1, ty, q1⟩ => ?_)
  obtain ⟨h1, h2⟩ := tyV_is I1 r1 ty
  refine ⟨T, id, pa, slot, hty, h1, h2, ?_⟩
  have hA := ha cpos pins s1 σ H1 _ I1 q1
  rw [hs] at hA ⊢
  refine Calls.callWith_builtin (by show (false || (backTo cpos (starEach es X.env)).any (·.1)) = false; rw [hplain] <;> rfl) (Calls.evalArgs_plain ?_)
  exact thn hA fun us s2 ⟨vs, H2, I2, r2, q2⟩ => hm pins s2 σ H2 x vs v us Q I2 r1 r2 q2
/- xs.append(e), list.index on a module's tuple .. are MtR facts of 06m -/
end
end L2

namespace L2
open PySem PySem.Spec PyProof.Rows

def MtM (X : Cx) (id : String) (r : V → List V → Hp → VK → Prop) : Prop :=
  ∀ (pins : List (Addr × Obj)) (s : Shared) (σ : St) (H : Hp) (x : V) (xs : List V) (v : Value) (us : List Value) (Q : VK), Inv X pins σ H s → RelV x v → Vals xs us → r x xs H Q →
    wpAny (model X.prog X.w) X.A (call (.builtin id) (v :: us)) (EP X pins σ Q) X.xe s

/-! ### lists of values -/
theorem Vals.one : ∀ {x : V} {us : List Value}, Vals [x] us → ∃ u, us = [u] ∧ RelV x u
  | _, _, .cons r .nil => ⟨_, rfl, r⟩
theorem Vals.two : ∀ {x y : V} {us : List Value}, Vals [x, y] us → ∃ u v, us = [u, v] ∧ RelV x u ∧ RelV y v
  | _, _, _, .cons r (.cons q .nil) => ⟨_, _, rfl, r, q⟩
theorem Vals.zero : ∀ {us : List Value}, Vals [] us → us = []
  | _, .nil => rfl
theorem Vals.dropLast {xs : List V} {us : List Value} (h : Vals xs us) : Vals xs.dropLast us.dropLast := by
  induction h with
  | nil => exact .nil
  | cons r t ih =>
    cases t with
    | nil => exact .nil
    | cons q t' => exact .cons r ih
theorem Vals.eraseIdx : ∀ {xs : List V} {us : List Value} (i : Nat), Vals xs us → Vals (xs.eraseIdx i) (us.eraseIdx i)
  | _, _, _, .nil => .nil
  | _, _, 0, .cons _ t => t
  | _, _, i + 1, .cons r t => .cons r (Vals.eraseIdx i t)
theorem Vals.reverse {xs : List V} {us : List Value} (h : Vals xs us) : Vals xs.reverse us.reverse := by
  induction h with
  | nil => exact .nil
  | cons r t ih => rw [List.reverse_cons, List.reverse_cons]; exact Vals.append ih (.cons r .nil)
theorem Vals.rep {xs : List V} {us : List Value} (h : Vals xs us) : ∀ k : Nat, Vals (List.replicate k xs).flatten (List.replicate k us).flatten
  | 0 => .nil
  | k + 1 => by
    rw [List.replicate_succ, List.replicate_succ, List.flatten_cons, List.flatten_cons]
    exact Vals.append h (Vals.rep h k)
theorem erase_last {α : Type} (l : List α) : l.eraseIdx (l.length - 1) = l.dropLast := by
  induction l with
  | nil => rfl
  | cons a r ih =>
    cases r with
    | nil => rfl
    | cons b r =>
      have e : (a :: b :: r).length - 1 = ((b :: r).length - 1) + 1 := by
        have h1 : (a :: b :: r).length = r.length + 2 := rfl
        have h2 : (b :: r).length = r.length + 1 := rfl
        omega
      rw [e, List.eraseIdx_cons_succ, ih]
      all_goals rfl
theorem len_erase {α : Type} : ∀ (l : List α) (i : Nat), (l.eraseIdx i).length ≤ l.length
  | [], _ => Nat.le_refl _
  | _ :: _, 0 => Nat.le_succ _
  | _ :: r, i + 1 => Nat.succ_le_succ (len_erase r i)
theorem foldl_rep (its : List Value) : ∀ (k : Nat) (acc : List Value),
    List.foldl (fun x1 x2 => x1 ++ x2) acc.toArray (List.replicate k its.toArray) = (acc ++ (List.replicate k its).flatten).toArray
  | 0, acc => by simp
  | k + 1, acc => by
    have e : acc.toArray ++ its.toArray = (acc ++ its).toArray := by simp
    have e2 : (acc ++ its) ++ (List.replicate k its).flatten = acc ++ (List.replicate (k + 1) its).flatten := by
      rw [List.replicate_succ, List.flatten_cons, List.append_assoc]
    rw [← e2, ← foldl_rep its k (acc ++ its), ← e, List.replicate_succ, List.foldl_cons]

section
variable {X : Cx} {pins : List (Addr × Obj)} {σ : St} {H : Hp} {s : Shared} {l b : Addr} {xs ys zs : List V}

/-! ### the two steps: a tracked list is rewritten, a new list is laid -/
theorem Inv.lset {its its' : List Value} {n : Nat} {f : Array Value → Array Value} {t' : Nat} (I : Inv X pins σ H s) (hH : H l = some (.lst xs))
    (e : s.heap.get? l = some { cls := .type "list", data := .seq its.toArray n }) (hf : f its.toArray = its'.toArray) (hv : Vals ys its') (hz : ys.length ≤ sizeLine) :
    Inv X pins σ (upd H l (.lst ys)) { s with heap := s.heap.update l (Obj.mapSeq f), toks := t' } := by
  have q := PySem.IsL.update e f
  rw [hf] at q
  refine I.write (x := l) (e := l) (by rw [hH]; exact trivial) (.inl rfl) (fun b' u hb hu => (Heap.get?_update_other s.heap (Obj.mapSeq f) (Ne.symm hb)).trans hu) ⟨_, q⟩ ?_
  exact ⟨hz, its', _, hv, q⟩
theorem Inv.lnew {its : List Value} {t' : Nat} (I : Inv X pins σ H s) (hv : Vals ys its) (hz : ys.length ≤ sizeLine) :
    Inv X pins σ (upd H s.heap.objs.size (.lst ys)) { s with heap := s.heap.push { cls := .type "list", data := .seq its.toArray }, toks := t' } :=
  I.laid (fun _ _ q => Heap.get?_push_of_some _ q) (Nat.le_refl _) ⟨hz, its, 0, hv, Heap.get?_push_size _ rfl⟩
theorem Inv.fresh (I : Inv X pins σ H s) : H s.heap.objs.size = none := I.hok.fresh (Nat.le_refl _)
theorem Inv.lstM (I : Inv X pins σ H s) (hH : H l = some (.lst xs)) : xs.length ≤ sizeLine ∧ ∃ (its : List Value) (n : Nat), Vals xs its ∧ xs.length = its.length ∧ s.heap.get? l = some { cls := .type "list", data := .seq its.toArray n } := by
  obtain ⟨z, its, n, r, e⟩ := I.hok l _ hH
  exact ⟨z, its, n, r, r.length, e⟩

theorem notLongL {n : Nat} (h : n ≤ sizeLine) : Builtin.List.listTooLong n = false := by
  unfold Builtin.List.listTooLong
  exact decide_eq_false (by omega)
end

section
variable {X : Cx}

/-! ### methods -/
def rAppend : V → List V → Hp → VK → Prop := fun x vs H Q => ∃ l xs y, x = .ref l ∧ vs = [y] ∧ H l = some (.lst xs) ∧ xs.length < sizeLine ∧ Q .non (upd H l (.lst (xs ++ [y])))
theorem mt_append : MtM X "list.append" rAppend := by
  intro pins s σ H x vs v us Q I rx rv h
  obtain ⟨l, xs, y, rfl, rfl, hH, hz, q⟩ := h
  cases rx
  obtain ⟨u, rfl, ru⟩ := rv.one
  obtain ⟨z, its, n, r, hl, e⟩ := I.lstM hH
  refine call_meets F.slot_list_append ⟨_, e, rfl⟩ F.entry_list_append (F.args_list_append_2 _ _) (PySem.list_append l its.toArray n u (by rw [List.size_toArray]; omega)) ⟨e, ?_⟩
  refine ⟨.non, _, I.lset (its' := its ++ [u]) hH e (by simp) (r.append (.cons ru .nil)) ?_, rfl, q⟩
  rw [List.length_append, List.length_singleton]
  omega

def rExtend : V → List V → Hp → VK → Prop := fun x vs H Q => ∃ l b xs zs, x = .ref l ∧ vs = [.ref b] ∧ H l = some (.lst xs) ∧ H b = some (.lst zs) ∧ xs.length + zs.length ≤ sizeLine ∧ Q .non (upd H l (.lst (xs ++ zs)))
theorem mt_extend : MtM X "list.extend" rExtend := by
  intro pins s σ H x vs v us Q I rx rv h
  obtain ⟨l, b, xs, zs, rfl, rfl, hH, hB, hz, q⟩ := h
  cases rx
  obtain ⟨u, rfl, ru⟩ := rv.one
  cases ru
  obtain ⟨z, its, n, r, hl, e⟩ := I.lstM hH
  obtain ⟨z2, its2, n2, r2, hl2, e2⟩ := I.lstM hB
  have hsz : its.toArray.size + its2.toArray.size ≤ sizeLine := by rw [List.size_toArray, List.size_toArray]; omega
  have hlong : ¬ (!its.toArray.isEmpty && Builtin.List.listTooLong (its.toArray.size + its2.toArray.size)) = true := by
    rw [notLongL hsz, Bool.and_false]
    exact Bool.false_ne_true
  refine call_meets F.slot_list_extend ⟨_, e, rfl⟩ F.entry_list_extend (F.args_list_extend_2 _ _)
    (AutoSeq1.list_extend_list_list_0 l its.toArray n b its2.toArray n2 hlong (by rw [List.size_toArray]; omega) (by omega)) ⟨e, e2, ?_⟩
  refine ⟨.non, _, I.lset (its' := its ++ its2) hH e (by simp) (r.append r2) ?_, rfl, q⟩
  rw [List.length_append]
  omega

def rPop : V → List V → Hp → VK → Prop := fun x vs H Q => ∃ l xs y, x = .ref l ∧ vs = [] ∧ H l = some (.lst xs) ∧ xs[xs.length - 1]? = some y ∧ Q y (upd H l (.lst xs.dropLast))
theorem mt_pop : MtM X "list.pop" rPop := by
  intro pins s σ H x vs v us Q I rx rv h
  obtain ⟨l, xs, y, rfl, rfl, hH, hy, q⟩ := h
  cases rx
  have hus := rv.zero
  subst hus
  obtain ⟨z, its, n, r, hl, e⟩ := I.lstM hH
  obtain ⟨u, hu, ru⟩ := r.get hy
  have hy' : its.toArray[its.toArray.size - 1]? = some u := by
    show its.toArray[its.length - 1]? = some u
    rw [← Array.getElem?_toList, ← hl]
    exact hu
  refine call_meets F.slot_list_pop ⟨_, e, rfl⟩ F.entry_list_pop (F.args_list_pop_1 _) (MeetsSeq.list_pop_last l its.toArray n u hy' (by rw [List.size_toArray]; omega)) ⟨e, ?_⟩
  refine ⟨y, _, I.lset (its' := its.dropLast) hH e ?_ r.dropLast ?_, ru, q⟩
  · show its.toArray.eraseIdxIfInBounds (its.toArray.size - 1) = its.dropLast.toArray
    rw [List.size_toArray, List.eraseIdxIfInBounds_toArray, erase_last]
  · rw [List.length_dropLast]
    omega

def rPopAt : V → List V → Hp → VK → Prop := fun x vs H Q => ∃ l xs i k y, x = .ref l ∧ vs = [.int i] ∧ H l = some (.lst xs) ∧ -(2 ^ 63) ≤ i ∧ i < 2 ^ 63 ∧ seqIndex? i xs.length = some k ∧ xs[k]? = some y ∧ Q y (upd H l (.lst (xs.eraseIdx k)))
theorem mt_popAt : MtM X "list.pop" rPopAt := by
  intro pins s σ H x vs v us Q I rx rv h
  obtain ⟨l, xs, i, k, y, rfl, rfl, hH, h1, h2, hk, hy, q⟩ := h
  cases rx
  obtain ⟨u, rfl, ru⟩ := rv.one
  obtain ⟨t, rfl⟩ := ru
  obtain ⟨z, its, n, r, hl, e⟩ := I.lstM hH
  obtain ⟨w, hw, rw'⟩ := r.get hy
  refine call_meets F.slot_list_pop ⟨_, e, rfl⟩ F.entry_list_pop (F.args_list_pop_2 _ _)
    (MeetsSeq.list_pop_at l its.toArray n i t k w (fitsIndex_both h1 h2) (by rw [List.size_toArray, ← hl]; exact hk) (by rw [← Array.getElem?_toList]; exact hw) (by rw [List.size_toArray]; omega)) ⟨e, ?_⟩
  refine ⟨y, _, I.lset (its' := its.eraseIdx k) hH e ?_ (r.eraseIdx k) ?_, rw', q⟩
  · show its.toArray.eraseIdxIfInBounds k = (its.eraseIdx k).toArray
    rw [List.eraseIdxIfInBounds_toArray]
  · have := len_erase xs k
    omega

def rReverse : V → List V → Hp → VK → Prop := fun x vs H Q => ∃ l xs, x = .ref l ∧ vs = [] ∧ H l = some (.lst xs) ∧ Q .non (upd H l (.lst xs.reverse))
theorem mt_reverse : MtM X "list.reverse" rReverse := by
  intro pins s σ H x vs v us Q I rx rv h
  obtain ⟨l, xs, rfl, rfl, hH, q⟩ := h
  cases rx
  have hus := rv.zero
  subst hus
  obtain ⟨z, its, n, r, hl, e⟩ := I.lstM hH
  refine call_meets F.slot_list_reverse ⟨_, e, rfl⟩ F.entry_list_reverse (F.args_list_reverse_1 _) (AutoSeq1.list_reverse_list_0 l its.toArray n (by rw [List.size_toArray]; omega)) ⟨e, ?_⟩
  refine ⟨.non, _, I.lset (its' := its.reverse) hH e (by simp) r.reverse ?_, rfl, q⟩
  rw [List.length_reverse]
  omega

def rClear : V → List V → Hp → VK → Prop := fun x vs H Q => ∃ l xs, x = .ref l ∧ vs = [] ∧ H l = some (.lst xs) ∧ Q .non (upd H l (.lst []))
theorem mt_clear : MtM X "list.clear" rClear := by
  intro pins s σ H x vs v us Q I rx rv h
  obtain ⟨l, xs, rfl, rfl, hH, q⟩ := h
  cases rx
  have hus := rv.zero
  subst hus
  obtain ⟨z, its, n, r, hl, e⟩ := I.lstM hH
  refine call_meets F.slot_list_clear ⟨_, e, rfl⟩ F.entry_list_clear (F.args_list_clear_1 _) (AutoSeq1.list_clear_list_0 l its.toArray n (by rw [List.size_toArray]; omega)) ⟨e, ?_⟩
  exact ⟨.non, _, I.lset (its' := []) (ys := []) hH e rfl .nil (Nat.zero_le _), rfl, q⟩

/-! ### list + list, list += list, list * int -/
def rCat : R2 := fun x y H Q => ∃ l b xs zs, x = .ref l ∧ y = .ref b ∧ H l = some (.lst xs) ∧ H b = some (.lst zs) ∧ xs.length + zs.length ≤ sizeLine ∧ ∀ p, H p = none → Q (.ref p) (upd H p (.lst (xs ++ zs)))
theorem op_cat : OpR X (binaryOp .Add) rCat := by
  intro pins s σ H x y v u Q I rx ry h
  obtain ⟨l, b, xs, zs, rfl, rfl, hH, hB, hz, q⟩ := h
  cases rx
  cases ry
  obtain ⟨z, its, n, r, hl, e⟩ := I.lstM hH
  obtain ⟨z2, its2, n2, r2, hl2, e2⟩ := I.lstM hB
  refine PySem.P.add_list e e2 ?_ (by rw [List.size_toArray, List.size_toArray]; omega)
  have ea : its.toArray ++ its2.toArray = (its ++ its2).toArray := by simp
  rw [ea]
  exact ⟨.ref _, _, I.lnew (t' := s.toks) (r.append r2) (by rw [List.length_append]; omega), rfl, q _ I.fresh⟩
/-- a list times an int (a negative one is nothing) -/
def rRep : R2 := fun x y H Q => ∃ l k xs, x = .ref l ∧ y = .int k ∧ H l = some (.lst xs) ∧ -(2 ^ 63) ≤ k ∧ k < 2 ^ 63 ∧ xs.length * k.toNat ≤ sizeLine ∧
  ∀ p, H p = none → Q (.ref p) (upd H p (.lst (List.replicate k.toNat xs).flatten))
theorem len_rep {α : Type} (xs : List α) (k : Nat) : (List.replicate k xs).flatten.length = k * xs.length := by
  induction k with
  | zero => simp
  | succ k ih => rw [List.replicate_succ, List.flatten_cons, List.length_append, ih, Nat.succ_mul, Nat.add_comm]
theorem op_rep : OpR X (binaryOp .Mult) rRep := by
  intro pins s σ H x y v u Q I rx ry h
  obtain ⟨l, k, xs, rfl, rfl, hH, h1, h2, hz, q⟩ := h
  cases rx
  obtain ⟨t, rfl⟩ := ry
  obtain ⟨z, its, n, r, hl, e⟩ := I.lstM hH
  have hlen : its.toArray.size * k.toNat ≤ sizeLine := by rw [List.size_toArray, ← hl]; exact hz
  have hcap : ¬ its.toArray.size * k.toNat > (2 ^ 63 - 1) / 8 := by
    have : (sizeLine : Nat) ≤ (2 ^ 63 - 1) / 8 := by decide
    omega
  have hfit : ¬ (!Builtin.List.listFitsIndex k) = true := by
    rw [fitsIndex_both h1 h2]
    exact Bool.false_ne_true
  have hlong : ¬ Builtin.List.listTooLong (its.toArray.size * k.toNat) = true := by
    rw [notLongL hlen]
    exact Bool.false_ne_true
  have hnew : List.foldl (fun x1 x2 => x1 ++ x2) #[] (List.replicate (if its.toArray.isEmpty = true then 0 else k.toNat) its.toArray) = (List.replicate k.toNat its).flatten.toArray := by
    have f0 : ∀ m : Nat, List.foldl (fun x1 x2 => x1 ++ x2) #[] (List.replicate m its.toArray) = (List.replicate m its).flatten.toArray := fun m => by
      have := foldl_rep its m []
      rw [List.nil_append] at this
      exact this
    rw [f0]
    cases its with
    | nil => simp
    | cons a r' => rw [if_neg (by simp)]
  refine wpAny_binaryOp_repeat_ref (T := "list") (U := "int") (by decide) ⟨_, e, rfl⟩ (fun s' => typeIs_int s' k t) noFill_list_mul F.fills_int_mul F.slot_int_rmul repeat_list F.slot_int_index.lookup
    (call_meets F.slot_int_rmul (typeIs_int s k t) F.entry_int_rmul (F.args_int_rmul_2 _ _) (int___rmul___int_list k t l its.toArray n)
      ⟨e, rfl, ⟨_, e, rfl⟩, call_meets F.slot_list_mul ⟨_, e, rfl⟩ F.entry_list_mul (F.args_list_mul_2 _ _) (AutoListH.list___mul___list_int_3 l its.toArray n k t hfit hcap hlong) ⟨e, ?_⟩⟩)
  rw [hnew]
  exact ⟨.ref _, _, I.lnew (t' := s.toks) (r.rep k.toNat) (by rw [len_rep, Nat.mul_comm]; exact hz), rfl, q _ I.fresh⟩

/-! ### del xs[i] -/
theorem del_list {pins : List (Addr × Obj)} {s : Shared} {σ : St} {H : Hp} {l : Addr} {xs : List V} {i : Int} {t : Tok} {k : Nat} {Q : Unit → Shared → Prop} (I : Inv X pins σ H s) (hH : H l = some (.lst xs))
    (h1 : -(2 ^ 63) ≤ i) (h2 : i < 2 ^ 63) (hk : seqIndex? i xs.length = some k) (h : ∀ s', Inv X pins σ (upd H l (.lst (xs.eraseIdx k))) s' → Q () s') :
    wpAny (model X.prog X.w) X.A (delItem (.ref l) (.int i t)) Q X.xe s := by
  obtain ⟨z, its, n, r, hl, e⟩ := I.lstM hH
  refine PySem.P.delItem_list (k := k) e (fitsIndex_both h1 h2) (by rw [List.size_toArray, ← hl]; exact hk) (h _ ?_) (by rw [List.size_toArray]; omega)
  refine I.lset (its' := its.eraseIdx k) (t' := s.toks) hH e ?_ (r.eraseIdx k) ?_
  · show its.toArray.eraseIdxIfInBounds k = (its.eraseIdx k).toArray
    rw [List.eraseIdxIfInBounds_toArray]
  · have := len_erase xs k
    omega
end

/-! ### xs[a:b] = ys -/
section
variable {prog : Program} {w : World} {A : Around} {E : Value → Shared → Prop} {s : Shared}
theorem splice_eq (its its2 : List Value) (a c : Nat) : its.toArray.extract 0 a ++ its2.toArray ++ its.toArray.extract c its.toArray.size = (its.take a ++ its2 ++ its.drop c).toArray := by
  apply Array.toList_inj.mp
  first
    | (simp
       exact List.take_of_length_le (by simp))
    | simp [List.take_of_length_le]
    | simp
theorem bounds_run {a c n : Nat} (hac : a ≤ c) (hc : c ≤ n) : sliceBounds (some (a : Int)) (some (c : Int)) none n = ((a : Int), (c : Int), 1) := by
  simp only [sliceBounds, Option.getD_none]
  have h1 : ¬ ((a : Int) < 0) := by omega
  have h2 : ¬ ((c : Int) < 0) := by omega
  simp only [h1, h2, if_false, show (1 : Int) > 0 by decide, if_true]
  congr 1
  · omega
  · congr 1; omega
set_option maxRecDepth 100000 in
/-- list.__setitem__ with a slice of step one and another list -/
theorem setItem_slice {l b sl : Addr} {items new : Array Value} {n n2 : Nat} {vl vu : Value} {a c : Nat} {Q : Unit → Shared → Prop}
    (e : s.heap.get? l = some { cls := .type "list", data := .seq items n }) (e2 : s.heap.get? b = some { cls := .type "list", data := .seq new n2 }) (hne : l ≠ b)
    (hs : s.heap.IsSliceOf sl vl vu .none) (pl : IsPart vl (some (a : Int))) (pu : IsPart vu (some (c : Int))) (hac : a ≤ c) (hc : c ≤ items.size)
    (hsz : items.size + new.size ≤ sizeLine) (h : Q () { s with heap := s.heap.update l (Obj.mapSeq fun xs => xs.extract 0 a ++ new ++ xs.extract c xs.size) }) :
    wpAny (model prog w) A (setItem (.ref l) (.ref sl) (.ref b)) Q E s := by
  have hl : s.heap.IsList l items := PySem.IsL.isList e
  have hb : s.heap.IsList b new := PySem.IsL.isList e2
  obtain ⟨os, hos, hcs, hds⟩ := id hs
  have hTs : s.TypeIs (.ref sl) "slice" := ⟨os, hos, hcs⟩
  have hstep : ¬ ((rawPart none == rawInt 0) = true) := Bool.false_ne_true
  have hsame : Builtin.List.listSameRef (.ref l) (.ref b) = false := by
    unfold Builtin.List.listSameRef
    exact beq_eq_false_iff_ne.mpr hne
  have hmax : (max (a : Int) (c : Int)).toNat = c := by omega
  have hz' : ((fun xs : Array Value => xs.extract 0 a ++ new ++ xs.extract c xs.size) items).size ≤ sizeLine + 1 := by
    simp only [Array.size_append, Array.size_extract]
    omega
  unfold setItem
  try with_reducible refine wpAny_holding ?_
  first | refine wpAny_bind (wpAny_pure ?_) | skip
  refine wpAny_bind (wpAny_sequenceKey hl.typeIs (by decide) ?_)
  refine wpAny_bind (wpAny_callSpecial?_slot (name := Str.ofString "__setitem__") hl.typeIs slot_list_setitem
    (wpAny_call_entry slot_list_setitem hl.typeIs entry_list_setitem ?_ (args_list_setitem _ _ _)))
  show wpAny _ _ (Builtin.List.listSubscript? (.ref sl) >>= _) _ _ s
  refine wpAny_bind ?_
  unfold Builtin.List.listSubscript?
  refine wpAny_bind (wpAny_specialOf hTs slice_no_index ?_)
  simp only [Option.isNone_none, if_true]
  refine wpAny_pure ?_
  show wpAny _ _ (typeOf (.ref sl) >>= _) _ _ s
  refine wpAny_bind (wpAny_typeOf hTs ?_)
  first
    | rw [if_neg (by decide)]
    | refine PySem.W.KFB.if_not (by decide) ?_
  rw [listSliceParts_eq]
  refine wpAny_bind (wpAny_bind (wpAny_field hos hds (x := .none) rfl (wpAny_bind (wpAny_listPart .none ?_))))
  rw [if_neg hstep]
  refine wpAny_bind (wpAny_field hos hds (x := vl) rfl (wpAny_bind (wpAny_listPart pl ?_)))
  refine wpAny_bind (wpAny_field hos hds (x := vu) rfl (wpAny_bind (wpAny_listPart pu (wpAny_pure ?_))))
  first
    | simp only [hsame, Bool.false_eq_true, if_false]
    | refine PySem.W.KFB.if_not hsame ?_
    | (dsimp only
       rw [if_neg (by rw [hsame]; exact Bool.false_ne_true)])
  refine wpAny_bind (m := Builtin.List.listAllItems (.ref b) "must assign iterable to extended slice") ?_
  unfold Builtin.List.listAllItems
  refine wpAny_bind (wpAny_typeOf hb.typeIs ?_)
  first
    | refine PySem.W.KFB.if_so (by decide) ?_
    | rw [if_pos (by decide)]
    | simp only [beq_self_eq_true, Bool.true_or, if_true]
  unfold Builtin.List.listItems
  refine wpAny_bind (wpAny_seqItems e2 rfl (wpAny_pure ?_))
  refine wpAny_bind (wpAny_bind (wpAny_seqItems e rfl (wpAny_pure ?_)))
  refine wpAny_bind (wpAny_of_eq ((sliceIndices_raw (some (a : Int)) (some (c : Int)) none items.size (by simp)).trans (congrArg (pure : Int × Int × Int → Sem (Int × Int × Int)) (bounds_run hac hc))) ?_)
  show wpAny _ _ (if ((1 : Int) == 1) = true then _ else _) _ _ s
  rw [if_pos (by decide)]
  refine wpAny_bind (wpAny_rule ?_)
  first
    | simp only [notLongL hsz, Bool.false_eq_true, if_false]
    | refine PySem.W.KFB.if_not (notLongL hsz) ?_
  first | refine wpAny_bind (wpAny_pure ?_) | skip
  show wpAny _ _ (updateSeq l (fun xs => xs.extract 0 ((a : Int)).toNat ++ new ++ xs.extract (max (a : Int) (c : Int)).toNat xs.size) >>= _) _ _ s
  rw [hmax, Int.toNat_natCast]
  refine wpAny_bind (wpAny_updateSeq (hz := Nat.le_trans (Nat.le_add_right _ _) hsz) (_hz' := hz') e rfl ?_)
  refine wpAny_bind (wpAny_letGo ?_)
  first
    | exact wpAny_bind (wpAny_pure (wpAny_pure ⟨.none, rfl, wpAny_pure h⟩))
    | exact wpAny_pure ⟨.none, rfl, wpAny_pure h⟩
end

section
variable {X : Cx}
/-- xs[a:c] = ys of another list, at the value level: sl is the slice object that was just made -/
theorem set_slice {pins : List (Addr × Obj)} {s : Shared} {σ : St} {H : Hp} {l b sl : Addr} {xs ys : List V} {a c : Int} {vl vu : Value} {Q : Unit → Shared → Prop} (I : Inv X pins σ H s)
    (hH : H l = some (.lst xs)) (hB : H b = some (.lst ys)) (hne : l ≠ b) (hs : s.heap.IsSliceOf sl vl vu .none) (ra : RelV (.int a) vl) (rc : RelV (.int c) vu) (h0 : 0 ≤ a) (hac : a ≤ c) (hc : c ≤ xs.length)
    (hz : xs.length + ys.length ≤ sizeLine) (h : ∀ s', Inv X pins σ (upd H l (.lst (xs.take a.toNat ++ ys ++ xs.drop c.toNat))) s' → Q () s') :
    wpAny (model X.prog X.w) X.A (setItem (.ref l) (.ref sl) (.ref b)) Q X.xe s := by
  obtain ⟨ta, rfl⟩ := ra
  obtain ⟨tc, rfl⟩ := rc
  obtain ⟨z, its, n, r, hl, e⟩ := I.lstM hH
  obtain ⟨z2, its2, n2, r2, hl2, e2⟩ := I.lstM hB
  obtain ⟨a', rfl⟩ := Int.eq_ofNat_of_zero_le h0
  obtain ⟨c', rfl⟩ := Int.eq_ofNat_of_zero_le (Int.le_trans h0 hac)
  simp only [Int.toNat_natCast] at h
  refine setItem_slice (a := a') (c := c') e e2 hne hs (.int _ _) (.int _ _) (by omega) (by rw [List.size_toArray]; omega) (by rw [List.size_toArray, List.size_toArray]; omega) (h _ ?_)
  refine I.lset (its' := its.take a' ++ its2 ++ its.drop c') (t' := s.toks) hH e ?_ (Vals.append (Vals.append (r.take _) r2) (r.drop _)) ?_
  · exact splice_eq its its2 a' c'
  · rw [List.length_append, List.length_append, List.length_take, List.length_drop]
    omega
end
end L2

namespace Att
open PySem PySem.W PySem.Calls PyProof.Rows

/-! ### the script -/
theorem ints_of_wellAll {P : Params} {h : Heap} : ∀ (ns : List Int) (vs : List Value), WellAll P h vs (ns.map WData.int) → IntsAre vs ns := by
  intro ns
  induction ns with
  | nil =>
    intro vs w
    rw [List.map_nil] at w
    cases w
    exact .nil
  | cons n ns ih =>
    intro vs w
    rw [List.map_cons] at w
    cases w with
    | cons a b =>
      cases a
      exact .cons _ _ (ih _ b)

theorem script_of {l : OpenLaw} {n : Nat} (hn : l.most = some n) {P : Params} {h : Heap} {args : List WData} {vals : List Value}
    (hpre : l.row.toRowW.claim.pre args = true) (hwl : WellAll P h vals args) :
    ∃ a vs ns, vals = [Value.ref a] ∧ args = [WData.list (ns.map WData.int)] ∧ h.get? a = some { cls := .type "list", data := .seq vs.toArray } ∧ IntsAre vs ns ∧ ns.length ≤ n := by
  have hsh : WShape.hasAll [] args [.list .int] = true := (pre_splitW hpre).1
  have hc : l.pre.holds [] { args := args } = true := (pre_splitW hpre).2
  obtain ⟨d, r, rfl, h1, h2⟩ := hasAllW_cons hsh
  obtain rfl := hasAllW_nil h2
  obtain ⟨xs, rfl, h3⟩ := hasW_list h1
  obtain ⟨ns, rfl⟩ := items_int h3
  have hlen : ns.length ≤ n := by
    unfold OpenLaw.pre at hc
    have h4 : (WTm.not (.lt (.lit (.int (n : Int))) (.len (.arg 0)))).holds [] { args := [.list (ns.map .int)] } = true := by
      have h4 := (holds_andW hc).1
      rw [hn] at h4
      exact h4
    have h5 := condW_of h4 (w_not (w_lt w_lit (w_len_list (w_arg rfl))))
    rw [List.length_map] at h5
    refine Nat.le_of_not_lt fun q => ?_
    have q' : (n : Int) < ((ns.length : Nat) : Int) := by omega
    first
      | (rw [decide_eq_true q'] at h5; exact absurd h5 (by decide))
      | (simp at h5; omega)
  cases hwl with
  | cons w1 w2 =>
    cases w2
    cases w1 with
    | list ho hall => exact ⟨_, _, ns, rfl, rfl, ho, ints_of_wellAll ns _ hall, hlen⟩

theorem post_true (l : OpenLaw) (args : List WData) : l.row.toRowW.claim.post args (.bool true) args = true :=
  postW_of (r := l.row.toRowW) (X := (true == true))
    (show WShape.has [] (.bool true) .bool = true by first | rfl | decide | simp [WShape.has, WShape.arms, WShape.armsAll])
    (show (WTm.eq .res (.lit (.bool true))).value [] { args := args, res := some (.bool true), after := args } = some (.bool (true == true)) from w_eq_bool (w_res rfl) w_lit) rfl

/-! ### the attachment: holds_open's last premise (the goal 'hc' behind k_head) from a wpAny of the law's body -/
theorem attach {l : OpenLaw} {n : Nat} {q : Program} {loose : List Str} {XP : (Str → Option Value) → Heap → Prop} {YP : World → Heap → Prop} {d : DefRec} {x : Str}
    (hn : l.most = some n) (hdf : d.params.defaults = [])
    (hbind : ∀ pm cd doc v : Value, bindArgs (docDef d.name d.params d.body d.scope pm cd doc) ⟨[v], []⟩ = pure [(x, v)])
    (hx : d.scope.names.lookup x = some .local ∨ d.scope.names.lookup x = some .cell)
    (hk : d.scope.kind = .function) (hco : d.scope.isCoroutine = false) (hgen : d.scope.isGenerator = false)
    (body : ∀ (w : World) (s₀ s₁ s : Shared) (mg mb : Str → Option Value) (fa : Addr) (o : Obj) (pm cd doc : Value) (a : Addr) (vs : List Value) (ns : List Int),
      Ground q loose [] XP w s₀ mg mb s₁.heap → YP w s₁.heap →
      s₁.heap.get? fa = some o → o.data = .func (docDef d.name d.params d.body d.scope pm cd doc) → s₁.heap.CodeRec cd d.name → mg d.name = some (.ref fa) →
      s₁.heap.get? a = some { cls := .type "list", data := .seq vs.toArray } → IntsAre vs ns → ns.length ≤ n →
      s.gens = #[] → s.os = s₁.os →
      Fr s₁.heap s₁.heap.objs.size s.heap (bindL (envOfC d.name d.scope s₁.heap.objs.size fa cd).kindOf [(x, .ref a)] fun _ => none) →
      Cl s₁.heap.objs.size (cellsFrom (s₁.heap.objs.size + 1) d.scope.names []) s.heap (bindC (envOfC d.name d.scope s₁.heap.objs.size fa cd).kindOf [(x, .ref a)] fun _ => none) →
      wpAny (model l.prog w) (callerA.deeper (envOfC d.name d.scope s₁.heap.objs.size fa cd)) (execs d.body (envOfC d.name d.scope s₁.heap.objs.size fa cd))
        (fun f s' => f = .ret (.bool true) ∧ OldK s₁.heap s'.heap ∧ s'.os = s₁.os ∧ AllBare s'.gens) (fun _ _ => False) s) :
    WalkO q loose XP YP l.row.toRowW d [] (fun f vs => PySem.call f vs) := by
  intro w s₀ s₁ mg mb G Y fa o pm cd doc dV kV ho hd hcd hD hmg hg args vals as hpre hlay hrd hwl hlo
  obtain rfl : dV = .none := Dflts.none hD hdf
  obtain rfl : kV = .none := Dflts.noKw hD
  obtain ⟨a, vs, ns, rfl, rfl, hobj, hints, hlen⟩ := script_of hn hpre hwl
  refine enter_call ?_
  refine call_cells_ret (o := o) (by rw [depth_caller]; decide) ho (fd_plain hd) G.T.nolimit hcd (hbind pm cd doc (.ref a)) (fun y hy => ?_) (fun h₁ tk F X => ?_) hco hgen hk
  · obtain rfl : y = (x, Value.ref a) := List.mem_singleton.mp hy
    rcases hx with e | e
    · exact .inl e
    · exact .inr ⟨e, cellsFrom_some _ _ _ (.inl e)⟩
  · refine wpAny_mono (body w s₀ s₁ { s₁ with heap := h₁, toks := tk } mg mb fa o pm cd doc a vs ns G Y ho (fd_plain hd) hcd hmg hobj hints hlen hg rfl F X) (fun f s' hq => ?_) (fun _ _ hq => hq)
    obtain ⟨rfl, h2, h3, h4⟩ := hq
    exact ⟨.inl ⟨.bool true, .bool true, [], rfl, fun _ => rfl, .bool true, post_true l _, fun _ => ⟨List.Pairwise.nil, fun _ hm => (nomatch hm)⟩⟩, h2, h3, h4⟩

/-- the same from a codeAny of the CALL (for a layer whose function contracts speak of calls) -/
theorem attach_call {l : OpenLaw} {n : Nat} {q : Program} {loose : List Str} {XP : (Str → Option Value) → Heap → Prop} {YP : World → Heap → Prop} {d : DefRec}
    (hn : l.most = some n) (hdf : d.params.defaults = [])
    (call : ∀ (w : World) (s₀ s₁ : Shared) (mg mb : Str → Option Value) (fa : Addr) (o : Obj) (pm cd doc : Value) (a : Addr) (vs : List Value) (ns : List Int),
      Ground q loose [] XP w s₀ mg mb s₁.heap → YP w s₁.heap →
      s₁.heap.get? fa = some o → o.data = .func (docDef d.name d.params d.body d.scope pm cd doc) → s₁.heap.CodeRec cd d.name → mg d.name = some (.ref fa) →
      s₁.heap.get? a = some { cls := .type "list", data := .seq vs.toArray } → IntsAre vs ns → ns.length ≤ n → s₁.gens = #[] →
      codeAny (model l.prog w) callerA (.call (.ref fa) ⟨[.ref a], []⟩) (fun r s' => r = .ok (.ret (.bool true)) ∧ OldK s₁.heap s'.heap ∧ s'.os = s₁.os ∧ AllBare s'.gens) s₁) :
    WalkO q loose XP YP l.row.toRowW d [] (fun f vs => PySem.call f vs) := by
  intro w s₀ s₁ mg mb G Y fa o pm cd doc dV kV ho hd hcd hD hmg hg args vals as hpre hlay hrd hwl hlo
  obtain rfl : dV = .none := Dflts.none hD hdf
  obtain rfl : kV = .none := Dflts.noKw hD
  obtain ⟨a, vs, ns, rfl, rfl, hobj, hints, hlen⟩ := script_of hn hpre hwl
  refine enter_call (codeAny_mono (call w s₀ s₁ mg mb fa o pm cd doc a vs ns G Y ho (fd_plain hd) hcd hmg hobj hints hlen hg) fun r s' hq => ?_)
  obtain ⟨rfl, h2, h3, h4⟩ := hq
  exact ⟨.inl ⟨.bool true, .bool true, [], rfl, fun _ => rfl, .bool true, post_true l _, fun _ => ⟨List.Pairwise.nil, fun _ hm => (nomatch hm)⟩⟩, h2, h3, h4⟩

/-- the same where the top left finished generators (o_head chose holds_openN): nothing may have changed at all and no generator may be left -/
theorem attachN {l : OpenLaw} {n : Nat} {q : Program} {loose : List Str} {XP : (Str → Option Value) → Heap → Prop} {YP : World → Heap → Prop} {d : DefRec} {x : Str}
    (hn : l.most = some n) (hdf : d.params.defaults = [])
    (hbind : ∀ pm cd doc v : Value, bindArgs (docDef d.name d.params d.body d.scope pm cd doc) ⟨[v], []⟩ = pure [(x, v)])
    (hx : d.scope.names.lookup x = some .local ∨ d.scope.names.lookup x = some .cell)
    (hk : d.scope.kind = .function) (hco : d.scope.isCoroutine = false) (hgen : d.scope.isGenerator = false)
    (body : ∀ (w : World) (s₀ s₁ s : Shared) (mg mb : Str → Option Value) (fa : Addr) (o : Obj) (pm cd doc : Value) (a : Addr) (vs : List Value) (ns : List Int),
      Ground q loose [] XP w s₀ mg mb s₁.heap → YP w s₁.heap →
      s₁.heap.get? fa = some o → o.data = .func (docDef d.name d.params d.body d.scope pm cd doc) → s₁.heap.CodeRec cd d.name → mg d.name = some (.ref fa) →
      s₁.heap.get? a = some { cls := .type "list", data := .seq vs.toArray } → IntsAre vs ns → ns.length ≤ n →
      s.gens = #[] → s.os = s₁.os →
      Fr s₁.heap s₁.heap.objs.size s.heap (bindL (envOfC d.name d.scope s₁.heap.objs.size fa cd).kindOf [(x, .ref a)] fun _ => none) →
      Cl s₁.heap.objs.size (cellsFrom (s₁.heap.objs.size + 1) d.scope.names []) s.heap (bindC (envOfC d.name d.scope s₁.heap.objs.size fa cd).kindOf [(x, .ref a)] fun _ => none) →
      wpAny (model l.prog w) (callerA.deeper (envOfC d.name d.scope s₁.heap.objs.size fa cd)) (execs d.body (envOfC d.name d.scope s₁.heap.objs.size fa cd))
        (fun f s' => f = .ret (.bool true) ∧ (∀ b o, s₁.heap.get? b = some o → s'.heap.get? b = some o) ∧ s'.os = s₁.os ∧ s'.gens = #[]) (fun _ _ => False) s) :
    WalkN q loose XP YP l.row.toRowW d [] (fun f vs => PySem.call f vs) := by
  intro w s₀ s₁ mg mb G Y fa o pm cd doc dV kV ho hd hcd hD hmg hg args vals as hpre hlay hrd hwl hlo
  obtain rfl : dV = .none := Dflts.none hD hdf
  obtain rfl : kV = .none := Dflts.noKw hD
  obtain ⟨a, vs, ns, rfl, rfl, hobj, hints, hlen⟩ := script_of hn hpre hwl
  refine enter_callW ?_
  refine call_cells_ret (o := o) (by rw [depth_caller]; decide) ho (fd_plain hd) G.T.nolimit hcd (hbind pm cd doc (.ref a)) (fun y hy => ?_) (fun h₁ tk F X => ?_) hco hgen hk
  · obtain rfl : y = (x, Value.ref a) := List.mem_singleton.mp hy
    rcases hx with e | e
    · exact .inl e
    · exact .inr ⟨e, cellsFrom_some _ _ _ (.inl e)⟩
  · refine wpAny_mono (body w s₀ s₁ { s₁ with heap := h₁, toks := tk } mg mb fa o pm cd doc a vs ns G Y ho (fd_plain hd) hcd hmg hobj hints hlen hg rfl F X) (fun f s' hq => ?_) (fun _ _ hq => hq)
    obtain ⟨rfl, h2, h3, h4⟩ := hq
    exact ⟨.inl ⟨.bool true, .bool true, [], rfl, fun _ => rfl, .bool true, post_true l _, fun _ => ⟨List.Pairwise.nil, fun _ hm => (nomatch hm)⟩⟩, h2, h3, h4⟩

/-! ### rules over ANY heap (no ledger) from facts about the written part K: the library's own take a ledger (News) for what they write -/
section
variable {prog : Program} {w : World} {A : Around} {E : Value → Shared → Prop} {s : Shared} {K : Frag}

/-- a def of the module, or a method (qual 'C.m'), entered: the frame is the next address; cells behind it -/
theorem call_fn {R : Result → Shared → Prop} {name qual : Str} {params : Arguments} {body : List Stmt} {scope : Scope} {dV kV doc pm cdv ct oc : Value} {an od : Option Addr} {osl : Array (Option Value)} {f : Addr} {args : Args} {binds : List (Str × Value)}
    (X : K.In s.heap) (hlim : s.heap.NoLimit) (ho : K.lookup f = some ⟨oc, od, .func (fnOf name qual params body scope dV kV doc pm an cdv ct), osl⟩) (hcd : codeIn K cdv qual = true) (hroom : A.depth < recursionLimit)
    (hbind : BindsTo s (fnOf name qual params body scope dV kV doc pm an cdv ct) args binds)
    (hkind : (binds.all fun y => scope.names.lookup y.1 == some .local || scope.names.lookup y.1 == some .cell) = true)
    (h : ∀ s₁, InCallC s s.heap.objs.size (bindL (envOfC qual scope s.heap.objs.size f cdv).kindOf binds fun _ => none) (cellsFrom (s.heap.objs.size + 1) scope.names [])
        (bindC (envOfC qual scope s.heap.objs.size f cdv).kindOf binds fun _ => none) s₁ →
      wpAny (model prog w) (A.deeper (envOfC qual scope s.heap.objs.size f cdv)) (execs body (envOfC qual scope s.heap.objs.size f cdv))
        (fun fl s' => R (.ok (.ret (match fl with | .ret v => v | _ => .none))) s')
        (fun e s' => wpAny (model prog w) (A.deeper (envOfC qual scope s.heap.objs.size f cdv)) (leaving (envOfC qual scope s.heap.objs.size f cdv) e) (fun _ s'' => R (.error e) s'') (fun e' s'' => R (.error e') s'') s') s₁)
    (hco : scope.isCoroutine = false) (hgen : scope.isGenerator = false) (hk : scope.kind = .function) : codeAny (model prog w) A (.call (.ref f) args) R s := by
  refine codeAny_call_function hroom (X _ _ ho) rfl hco hgen rfl (codeRec_of X hcd) (hbind _ _ _ _ ?_)
  refine wpAny_newFunctionEnv_cells hk (kindsX hkind _) fun env he s₁ x => ?_
  subst he
  exact ⟨hlim.keeps x.toInCall.keep, codeAny_func (h s₁ x)⟩

/-- C(..): dict at size, instance at size + 1, then __init__ -/
theorem make_obj {R : Result → Shared → Prop} {C fI : Addr} {rest : List Value} {kw : List (Str × Value)}
    (X : K.In s.heap) (hm : makesIn K C = true) (hi : findIn K (.ref C) "__init__" = some (some (.ref fI))) (hf : isFn K (.ref fI) = true)
    (h : codeAny (model prog w) (A.under (.builtin "type.__call__" ⟨.ref C :: rest, kw⟩)) (.call (.ref fI) ⟨.ref (s.heap.objs.size + 1) :: rest, kw⟩) (InitBack (s.heap.objs.size + 1) R)
      { s with heap := (s.heap.push emptyDict).push (instObj C s.heap.objs.size) }) : codeAny (model prog w) A (.call (.ref C) ⟨rest, kw⟩) R s := by
  obtain ⟨hh, g, d, t, os⟩ := s
  exact make_core (makes_of X hm) (looks_findIn X hi) (fun self => bind_fn X self (beq_iff_eq.mp hf)) (.inl rfl) h

/-- x.name where the instance's dict holds the name and the class does not -/
theorem get_field {x C : Addr} {ox : Obj} {es : List DictEntry} {n : Nat} {name : Str} {expr : Bool} {v : Value} {Q : Value → Shared → Prop}
    (X : K.In s.heap) (I : PySem.W.InstAt s.heap x ox C (some (dictOf es n))) (hg : plainGet K C name = true) (hh : hasDictIn K C = true) (ha : findIn K (.ref C) name = some none)
    (hl : getL name es = some (some v)) (hv : handedIn v = true) (h : Q v { s with toks := s.toks + 1 }) : wpAny (model prog w) A (getAttr (.ref x) name expr) Q E s :=
  get_value X I (plainGet_of hg).1 (findObj_own hh ha rfl hl) hv h

/-- x.m(..): the method found in the class -/
theorem get_method {x C f : Addr} {ox : Obj} {es : List DictEntry} {n : Nat} {name : Str} {pl : Sem Bool} {Q : Value × List Value → Shared → Prop}
    (X : K.In s.heap) (I : PySem.W.InstAt s.heap x ox C (some (dictOf es n))) (hg : plainGet K C name = true) (hf : findIn K (.ref C) name = some (some (.ref f))) (ht : isFn K (.ref f) = true)
    (hl : getL name es = some none) (h : Q (.ref f, [.ref x]) s) : wpAny (model prog w) A (getMethod (.ref x) name pl) Q E s :=
  method_fn X I (plainGet_of hg).1 (plainGet_of hg).2 hf (beq_iff_eq.mp ht) (by show (lookIn name (dictOf es n)).map _ = _; rw [lookIn_dict, hl]; rfl) h

/-! the whole heap as the ledger: makes every rule that writes through a ledger a rule over any heap -/
def noObjs (h : Heap) : Heap := { h with objs := #[] }
theorem noObjs_get (h : Heap) (b : Addr) : (noObjs h).get? b = none := by
  cases e : (noObjs h).get? b with
  | none => rfl
  | some o => exact absurd (Heap.lt_size e) (Nat.not_lt_zero _)
def ledger (h : Heap) (L d : Addr) : List (Addr × Obj) := (List.range h.objs.size).filterMap fun a => if a = L ∨ a = d then none else (h.get? a).map fun o => (a, o)
theorem mem_ledger {h : Heap} {L d a : Addr} {o : Obj} : (a, o) ∈ ledger h L d ↔ a ≠ L ∧ a ≠ d ∧ h.get? a = some o := by
  unfold ledger
  rw [List.mem_filterMap]
  constructor
  · rintro ⟨b, _, e⟩
    split at e
    · cases e
    · rename_i hb
      obtain ⟨o', ho, e'⟩ := Option.map_eq_some_iff.mp e
      cases e'
      exact ⟨fun q => hb (.inl q), fun q => hb (.inr q), ho⟩
  · rintro ⟨n1, n2, ho⟩
    refine ⟨a, List.mem_range.mpr (Heap.lt_size ho), ?_⟩
    rw [if_neg (show ¬ (a = L ∨ a = d) from fun q => q.elim n1 n2), ho] <;> rfl
theorem news_ledger {h : Heap} {L d : Addr} {od : Obj} (hne : d ≠ L) (ho : h.get? d = some od) : News (noObjs h) L h ([] ++ (d, od) :: ledger h L d) := by
  rintro ⟨a, o⟩ hp
  rcases List.mem_cons.mp hp with e | hp
  · cases e
    exact ⟨ho, hne, noObjs_get _ _⟩
  · obtain ⟨n1, n2, e⟩ := mem_ledger.mp hp
    exact ⟨e, n1, noObjs_get _ _⟩
theorem fr_all {h : Heap} {L : Addr} {m : Str → Option Value} (n : h.Ns L m) : Fr (noObjs h) L h m :=
  ⟨n, fun b o e => (by rw [noObjs_get] at e; cases e), Nat.zero_le _⟩
/-- Upd of the head entry (for append_K, setItem_K ..) -/
theorem upd_ledger {h : Heap} {L d : Addr} {o o' : Obj} : Upd d o o' ((d, o) :: ledger h L d) ((d, o') :: ledger h L d) :=
  .head fun ⟨_, _⟩ hp => (mem_ledger.mp hp).2.1

/-- x.name = v over any heap: L is any namespace of the heap (the frame's, say): its map stays, its object is not told; all else but the dict stays -/
theorem set_field {x C dx L : Addr} {ox : Obj} {m : Str → Option Value} {es es' : List DictEntry} {n n' : Nat} {name : Str} {v : Value} {Q : Unit → Shared → Prop}
    (X : K.In s.heap) (I : PySem.W.InstAt s.heap x ox C (some (dictOf es n))) (hd : ox.dict = some dx) (hL : s.heap.Ns L m) (hne : dx ≠ L)
    (hs : findIn K (.ref C) "__setattr__" = some (some (.builtin "object.__setattr__"))) (hp : plainOver K C = true) (ht : takerIn K C name = some none) (hh : hasDictIn K C = true) (hl : (getL name es).isSome = true)
    (e : (putL name (PyData.keyHash w.params name) (.str name (s.toks + 1)) v es, putN name es n) = (es', n')) (hz : es'.length ≤ 1000)
    (h : ∀ h' : Heap, h'.Ns L m → h'.get? dx = some (dictOf es' n') → (∀ b o, b ≠ dx → b ≠ L → s.heap.get? b = some o → h'.get? b = some o) → Q () { s with heap := h', toks := s.toks + 2 }) :
    wpAny (model prog w) A (setAttr (.ref x) name v) Q E s := by
  obtain ⟨e1, e2⟩ := Prod.mk.inj e
  have hdx : s.heap.get? dx = some (dictOf es n) := by
    have := I.dict
    rw [hd] at this
    exact this
  refine set_plain X I hs (osa_dict (s := { s with toks := s.toks + 1 }) (h₀ := noObjs s.heap) (L := L) (m := m) (od := dictOf es n) (od' := dictOf es' n') (es := es') (n := n') (pre := []) (post := ledger s.heap L dx)
    (fr_all hL) (news_ledger hne hdx) X I hd hp ht hh hl (fun _ q => nomatch q) (fun ⟨_, _⟩ q => (mem_ledger.mp q).2.1) (by rw [putName_dict, e1, e2]) rfl hz fun h' F' N' => ?_)
  exact h h' F'.ns (N'.get (List.Mem.head _)) fun b o n1 n2 ho => N'.get (List.Mem.tail _ (mem_ledger.mpr ⟨n2, n1, ho⟩))
end
end Att

namespace L2
open PySem PySem.Spec PyProof.Rows

theorem vals_ints : ∀ {vs : List Value} {ns : List Int}, IntsAre vs ns → Vals (ns.map V.int) vs
  | _, _, .nil => .nil
  | _, _, .cons n t h => .cons ⟨t, rfl⟩ (vals_ints h)

/-- nothing is tracked but the script, known to the object (or it is an object of the module) -/
def Only (H : Hp) : Prop := ∀ b, H b = none ∨ ∃ o xs, H b = some (.frz o (.lst xs))

/-- THE HEAD: the law's promise, at the heap behind the top. F, the promise of the law's def, may use that base is part of the heap (so K.In base, base.Ns mainGlobals mg stand in Mod) -/
theorem law_call {P : Program} {w : World} {K : PySem.W.Frag} {mg mb : Str → Option Value} {CX : CXT} {k : Nat} {fa a : Addr} {fd : FuncData} {x : Str} {sp : Sp} {s₁ : Shared} {vs : List Value} {ns : List Int}
    (KX : K.In s₁.heap) (hns : s₁.heap.Ns mainGlobals mg) (hb : s₁.heap.Ns builtinsNs mb) (hbb : ∀ x : Str, x ≠ "__name__" → mb x = bootBuiltins x) (hlim : s₁.heap.NoLimit) (hg : s₁.gens = #[])
    (ha : s₁.heap.get? a = some { cls := .type "list", data := .seq vs.toArray }) (hi : IntsAre vs ns) (hl : ns.length ≤ sizeLine) (hr : Room k callerA)
    (F : ∀ base : Heap, K.In base → base.Ns mainGlobals mg → FnOk P w K mg base CX k fa fd [x] sp) (hbind : ∀ (s : Shared) (u : Value), BindsTo s fd ⟨[u], []⟩ [(x, u)])
    (hsp : ∀ H : Hp, Only H → SqL K H a (ns.map V.int) → sp [.ref a] H (fun v _ => v = .bl true) fun _ _ _ => False)
    (hCX : ∀ H e s', CX [] H s₁ (fun _ _ _ => False) e s' → False) :
    codeAny (model P w) callerA (.call (.ref fa) ⟨[.ref a], []⟩) (fun r s' => r = .ok (.ret (.bool true)) ∧ OldK s₁.heap s'.heap ∧ s'.os = s₁.os ∧ AllBare s'.gens) s₁ := by
  have rv := vals_ints hi
  have lenV := hi.length
  -- from an abstract heap in which nothing but the script may be tracked
  have core : ∀ H : Hp, Only H → SqL K H a (ns.map V.int) → HOk P w H s₁.heap → (∀ b, H b ≠ none → b = a) → (H a ≠ none → K.lookup a = none) →
      codeAny (model P w) callerA (.call (.ref fa) ⟨[.ref a], []⟩) (fun r s' => r = .ok (.ret (.bool true)) ∧ OldK s₁.heap s'.heap ∧ s'.os = s₁.os ∧ AllBare s'.gens) s₁ := by
    intro H hO hS hok hA hK
    have base_of : ∀ {b : Addr} {o : Obj}, s₁.heap.get? b = some o → H b = none → (hidT s₁.heap H).get? b = some o := fun e n => hidT_get e n
    have noA : ∀ {b : Addr} {o : Obj} {es : Array DictEntry} {ep : Nat}, s₁.heap.get? b = some o → o.data = .dict es ep → H b = none := fun {b o es ep} e d => by
      cases q : H b with
      | none => rfl
      | some u =>
        have e' : b = a := hA b (by rw [q]; simp)
        subst e'
        rw [ha] at e; cases e
        have d' : Data.seq vs.toArray _ = Data.dict es ep := d
        cases d'
    have nsK : ∀ {b : Addr} {m : Str → Option Value}, s₁.heap.Ns b m → (hidT s₁.heap H).Ns b m := fun {b m} ⟨o, es, ep, e, d, r⟩ => ⟨o, es, ep, base_of e (noA e d), d, r⟩
    have hKb : K.In (hidT s₁.heap H) := fun b o e => base_of (KX b o e) (by
      cases q : H b with
      | none => rfl
      | some u =>
        have e' : b = a := hA b (by rw [q]; simp)
        subst e'
        rw [hK (by rw [q]; simp)] at e; cases e)
    have hM : Mod K mg (hidT s₁.heap H) := ⟨hKb, nsK hns, ⟨mb, nsK hb, hbb⟩, let ⟨mc, h1, h2⟩ := hlim; ⟨mc, nsK h1, h2⟩⟩
    have e0 : Env0 P w K mg (hidT s₁.heap H) callerA [] s₁ H := ⟨rfl, hM, fun b o e => of_hidT e, Nat.le_of_eq (hidT_size _ _), trivial, fun b hb => absurd (show b ∈ ([] : List Addr) from hb) (by simp), hok, .of_eq hg⟩
    refine codeAny_mono ((F _ hKb (nsK hns)).run callerA [] s₁ H ⟨[.ref a], []⟩ [.ref a] [.ref a] _ _ hr e0 (hbind s₁ (.ref a)) (.cons rfl .nil) (hsp H hO hS)) fun r s' h => ?_
    cases r with
    | error e => exact (hCX H e s' h).elim
    | ok fl =>
      cases fl with
      | next => exact False.elim h
      | brk => exact False.elim h
      | cont => exact False.elim h
      | ret u =>
        obtain ⟨v, H', os, bare, un, hok', r', q⟩ := h
        have q' : v = .bl true := q
        subst q'
        obtain rfl : u = Value.bool true := r'
        refine ⟨rfl, OldK.of_keep fun b o e => ?_, os, bare⟩
        cases q : H b with
        | none => exact un.keep b o e q (by intro z; exact absurd (show b ∈ ([] : List Addr) from z) (by simp)) (by simp)
        | some u =>
          rcases hO b with z | ⟨ob, xs, z⟩
          · rw [q] at z; cases z
          · have z2 := un.frzs b ob _ z
            obtain ⟨e1, _⟩ := hok b _ z
            obtain ⟨e2, _⟩ := hok' b _ z2
            rw [e] at e1; cases e1
            exact e2
  cases hk : K.lookup a with
  | some o =>
    -- the script is one of the module's own objects
    have e := KX a o hk
    rw [ha] at e
    cases e
    refine core (fun _ => none) (fun _ => .inl rfl) (.inr ⟨_, vs.toArray, _, hk, rfl, rfl, rfl, by rw [List.size_toArray, lenV]; exact hl, by simpa using rv⟩) (fun b u z => by have z' : (none : Option HO) = some u := z; cases z') (fun b z => absurd rfl z) fun z => absurd rfl z
  | none =>
    refine core (fun b => if b = a then some (.frz { cls := .type "list", data := .seq vs.toArray } (.lst (ns.map V.int))) else none) (fun b => ?_) (.inl (.inr ⟨{ cls := .type "list", data := .seq vs.toArray }, if_pos rfl⟩)) (fun b u z => ?_) (fun b z => ?_) fun _ => hk
    · by_cases hb : b = a
      · exact .inr ⟨_, _, if_pos hb⟩
      · exact .inl (if_neg hb)
    · by_cases hb : b = a
      · have z' := (if_pos hb).symm.trans z
        cases z'
        subst hb
        exact ⟨ha, by rw [List.length_map]; exact hl, vs, _, rv, ha⟩
      · have z' := (if_neg hb).symm.trans z
        cases z'
    · by_cases hb : b = a
      · exact hb
      · exact absurd (if_neg hb) z
end L2

namespace L2
open PySem PySem.Spec PyProof.Rows

abbrev KOf {K : PySem.W.Frag} {h : Heap} (_ : K.In h) : PySem.W.Frag := K

/-- the goal that k_head leaves (case hc), from the law's promise. F gives the function object fd (K's own) once, then the promise over every base -/
theorem walk_of {l : PySem.W.OpenLaw} {n k : Nat} {q : Program} {loose : List Str} {XP : (Str → Option Value) → Heap → Prop} {YP : World → Heap → Prop} {d : DefRec} {K : Params → PySem.W.Frag} {CX : World → CXT} {sp : World → Sp} {x : Str}
    (hn : l.most = some n) (hn2 : n ≤ sizeLine) (hdf : d.params.defaults = []) (hr : Room k callerA)
    (hY : ∀ (w : World) (h : Heap), YP w h → (K w.params).In h)
    (F : ∀ (w : World) (mg : Str → Option Value) (fa : Addr) (h : Heap), (K w.params).In h → h.Ns mainGlobals mg → mg d.name = some (.ref fa) →
      ∃ fd : FuncData, (∀ (s : Shared) (u : Value), BindsTo s fd ⟨[u], []⟩ [(x, u)]) ∧
        ∀ base : Heap, (K w.params).In base → base.Ns mainGlobals mg → FnOk l.prog w (K w.params) mg base (CX w) k fa fd [x] (sp w))
    (hsp : ∀ (w : World) (H : Hp) (a : Addr) (ns : List Int), ns.length ≤ n → Only H → SqL (K w.params) H a (ns.map V.int) → sp w [.ref a] H (fun v _ => v = .bl true) fun _ _ _ => False)
    (hCX : ∀ (w : World) (H : Hp) (s : Shared) (e : Value) (s' : Shared), CX w [] H s (fun _ _ _ => False) e s' → False) :
    PySem.W.WalkO q loose XP YP l.row.toRowW d [] (fun f vs => PySem.call f vs) := by
  refine Att.attach_call hn hdf fun w s₀ s₁ mg mb fa o pm cd doc a vs ns G Y ho hd hcd hmg hobj hints hlen hg => ?_
  have KX := hY w _ Y
  obtain ⟨fd, hb, hF⟩ := F w mg fa _ KX G.T.g hmg
  exact law_call KX G.T.g G.T.b G.T.builtins G.T.nolimit hg hobj hints (Nat.le_trans hlen hn2) hr hF hb (fun H hO hS => hsp w H a ns hlen hO hS) fun H e s' => hCX w H s₁ e s'
/-- the same where the promise hangs on the written part alone: (sp := My.sp_law), no hole under a binder -/
theorem walk_ofK {l : PySem.W.OpenLaw} {n k : Nat} {q : Program} {loose : List Str} {XP : (Str → Option Value) → Heap → Prop} {YP : World → Heap → Prop} {d : DefRec} {K : Params → PySem.W.Frag} {CX : CXT} {sp : PySem.W.Frag → Sp} {x : Str}
    (hn : l.most = some n) (hn2 : n ≤ sizeLine) (hdf : d.params.defaults = []) (hr : Room k callerA)
    (hY : ∀ (w : World) (h : Heap), YP w h → (K w.params).In h)
    (F : ∀ (w : World) (mg : Str → Option Value) (fa : Addr) (h : Heap), (K w.params).In h → h.Ns mainGlobals mg → mg d.name = some (.ref fa) →
      ∃ fd : FuncData, (∀ (s : Shared) (u : Value), BindsTo s fd ⟨[u], []⟩ [(x, u)]) ∧
        ∀ base : Heap, (K w.params).In base → base.Ns mainGlobals mg → FnOk l.prog w (K w.params) mg base CX k fa fd [x] (sp (K w.params)))
    (hsp : ∀ (K : PySem.W.Frag) (H : Hp) (a : Addr) (ns : List Int), ns.length ≤ n → Only H → SqL K H a (ns.map V.int) → sp K [.ref a] H (fun v _ => v = .bl true) fun _ _ _ => False)
    (hCX : ∀ (H : Hp) (s : Shared) (e : Value) (s' : Shared), CX [] H s (fun _ _ _ => False) e s' → False) :
    PySem.W.WalkO q loose XP YP l.row.toRowW d [] (fun f vs => PySem.call f vs) :=
  walk_of (K := K) (CX := fun _ => CX) (sp := fun w => sp (K w.params)) hn hn2 hdf hr hY F (fun w H a ns h1 h2 h3 => hsp (K w.params) H a ns h1 h2 h3) fun _ H s e s' => hCX H s e s'
end L2

/- THE LAST THEOREM (shape; LID, My.* are yours):
   My.Adr: a structure of the addresses that your layer names (classes, functions); My.Txt K t: a structure (Prop) of the equations over K;
   My.txt_mk : {K} {implicit addresses ..} (e1 : nsIn K mainGlobals "law" = some (some (.ref f))) (e2 : K.lookup f = some ⟨oc, od, .func (fnOf "law" "law" params body scope dV kV doc pm an cdv ct), sl⟩) (e3 : codeIn K cdv "law" = true) .. : ∃ t, My.Txt K t

set_option maxRecDepth 100000 in
set_option maxHeartbeats 0 in
theorem PySem.Challenge.cw_LID_holds : PySem.Challenge.rw_LID.Holds := by
  w_on; o_law; k_head; (case hw => w_witness2)
  k_fill
  refine L2.walk_of (l := PySem.Challenge.rw_LID) (n := 63) (k := 40) (x := "script") (CX := fun w => ..) (sp := fun _ => My.sp_law) rfl (by decide) rfl ⟨rfl, by decide, by decide⟩ (fun w h Y => PySem.W.kIn_of Y) ?F ?S ?C
  case F =>
    intro w mg fa h KX G hmg
    have T : ∃ t, My.Txt (L2.KOf KX) t := by
      dsimp only [L2.KOf]                          -- K must stand as «<heap const> w.params» for k_is
      refine' My.txt_mk ?e1 ?e2 ?e3 ..
      (case e1 => PySem.W.k_is)                    -- in the order: a name -> its address -> its object -> its parts
      (case e2 => PySem.W.k_is)
      ..
    obtain ⟨t, T⟩ := T
    have e0 := hmg.symm.trans (PySem.W.mg_of KX G T.law)
    cases e0                                       -- fa is the law's own address
    exact ⟨_, fun s u => .of_eq rfl, fun base kb nb => My.law_fn T kb nb⟩     -- if «.of_eq rfl» comes too early: refine' ⟨_, ?b, fun base kb nb => My.law_fn T kb nb⟩; exact fun s u => .of_eq rfl
  case S => exact fun w H a ns hl hO hS => ..
  case C => exact ..
(the tactic k_is has no namespace: write k_is) -/

/-! SHORT WORDS over the layer: a def of the text, its body, what a loop and a test want. -/
namespace L2
open PySem PySem.Spec PyProof.Rows

/-! ### the text by places -/
/-- the j-th statement of a class's body -/
def inClass (s : Stmt) (j : Nat) : Stmt := match s with
  | .ClassDef _ _ _ body _ _ _ _ _ _ _ => body.getD j (.Pass ⟨0, 0, 0, 0⟩)
  | _ => .Pass ⟨0, 0, 0, 0⟩
def defArgs (s : Stmt) : Arguments := match s with
  | .FunctionDef _ a _ _ _ _ _ _ _ _ => a
  | _ => { posonlyargs := [], args := [], vararg := none, kwonlyargs := [], kw_defaults := [], kwarg := none, defaults := [] }
def defBody (s : Stmt) : List Stmt := match s with
  | .FunctionDef _ _ b _ _ _ _ _ _ _ => b
  | _ => []
def defScope (s : Stmt) : Scope := match s with
  | .FunctionDef _ _ _ _ _ _ sc _ _ _ => sc
  | _ => { kind := .function, names := [], isGenerator := false, isCoroutine := false }

/-! ### no exception leaves a def -/
abbrev CX0 : CXT := fun _ _ _ _ _ _ => False
abbrev E0 : XK := fun _ _ _ => False
theorem pass0 {X : Cx} : Passes CX0 X E0 := fun _ _ _ _ _ _ _ h => h.elim

/-! ### a def (or method) of the text as it stands behind the top -/
structure Fun (K : PySem.W.Frag) (x qual : Str) (st : Stmt) (f : Addr) (fd : FuncData) : Prop where
  ex : ∃ (oc : Value) (od : Option Addr) (kV doc pm : Value) (an : Option Addr) (cdv ct : Value) (osl : Array (Option Value)),
    fd = PySem.W.fnOf x qual (defArgs st) (defBody st) (defScope st) .none kV doc pm an cdv ct ∧ K.lookup f = some ⟨oc, od, .func fd, osl⟩ ∧ PySem.W.codeIn K cdv qual = true
  kp : PySem.W.keepIn K (.ref f) = true
section
variable {P : Program} {w : World} {K : PySem.W.Frag} {mg : Str → Option Value} {base : Heap}
/-- THE RULE for a def: its body as a term of rules, and the reading of that term -/
theorem Fun.ok {x qual : Str} {st : Stmt} {f : Addr} {fd : FuncData} {N ps : List Str} {k : Nat} {sp : Sp} (F : Fun K x qual st f fd) (S : FnScope N ps (defScope st)) (len : ∀ vs H Q E, sp vs H Q E → vs.length = ps.length)
    (hbody : ∀ (cdv : Value) (A : Around) (outer : List Env) (s : Shared) (H : Hp) (vs : List V) (Q : VK) (E : XK), Room k (A.deeper (envOfC qual (defScope st) s.heap.objs.size f cdv)) → sp vs H Q E →
      ∃ t, PSs (cxOf CX0 P w K mg base N qual (defScope st) f cdv A outer s H E).nox (defBody st) t ∧ t { nx := fun _ H' => Q .non H', rt := Q } (start N vs) H) : FnOk P w K mg base CX0 (k + 1) f fd ps sp := by
  obtain ⟨oc, od, kV, doc, pm, an, cdv, ct, osl, rfl, lk, hcd⟩ := F.ex
  refine fn_of lk hcd S len fun A outer s H vs Q E hr hsp => ?_
  obtain ⟨t, h, q⟩ := hbody cdv A outer s H vs Q E hr hsp
  exact ⟨t, h.nox, q⟩
/-- how its arguments bind (no defaults): h is «fun _ _ _ _ _ _ us hl => match us, hl with | [_, _], _ => rfl», one _ a parameter -/
theorem Fun.binds {x qual : Str} {st : Stmt} {f : Addr} {fd : FuncData} {ps : List Str} (F : Fun K x qual st f fd)
    (h : ∀ (kV doc pm : Value) (an : Option Addr) (cdv ct : Value) (us : List Value), us.length = ps.length → bindArgs (PySem.W.fnOf x qual (defArgs st) (defBody st) (defScope st) .none kV doc pm an cdv ct) ⟨us, []⟩ = pure (ps.zip us)) : Binds K fd ps [] := by
  obtain ⟨oc, od, kV, doc, pm, an, cdv, ct, osl, rfl, lk, hcd⟩ := F.ex
  exact .all (h kV doc pm an cdv ct)
theorem fun_mk {x qual : Str} {st : Stmt} {f : Addr} {oc : Value} {od an : Option Addr} {osl : Array (Option Value)} {kV doc pm cdv ct : Value} (l : K.lookup f = some ⟨oc, od, .func (PySem.W.fnOf x qual (defArgs st) (defBody st) (defScope st) .none kV doc pm an cdv ct), osl⟩)
    (c : PySem.W.codeIn K cdv qual = true) (k : PySem.W.keepIn K (.ref f) = true) : Fun K x qual st f (PySem.W.fnOf x qual (defArgs st) (defBody st) (defScope st) .none kV doc pm an cdv ct) := ⟨⟨oc, od, kV, doc, pm, an, cdv, ct, osl, rfl, l, c⟩, k⟩
end
theorem hu_of {A : Around} {k : Nat} (hr : Room k A) : A.units + 1 < cLine := Nat.lt_of_le_of_lt (Nat.add_le_add_left (by decide : 1 ≤ 64) _) hr.units
theorem small1000 {n : Nat} (h : n ≤ 1000) : n < sizeLine := Nat.lt_of_le_of_lt h (by decide)

/-! ### expressions in short: the name that stands in the i-th slot -/
section
variable {X : Cx}
theorem pv (i : Nat) {x : Str} {pos : Pos} (hN : X.N[i]? = some x := by rfl) (hv : Vis X.env.scope x := by first | exact Or.inl rfl | exact Or.inr (Or.inl rfl) | exact Or.inr (Or.inr rfl)) (hd : (x == ("__debug__" : Str)) = false := by decide)
    (hcd : (x == ("__classdict__" : Str)) = false := by decide) : PE X (.Name x pos) (tVar i) := pe_var hN hv hd hcd
end

/-! ### tests -/
theorem iteF {A B : Prop} (h : B) : if false = true then A else B := by
  rw [if_neg Bool.false_ne_true]
  exact h
theorem iteT {A B : Prop} (h : A) : if true = true then A else B := by
  rw [if_pos rfl]
  exact h
theorem ite2 {c A B : Prop} [Decidable c] (h1 : c → A) (h2 : ¬ c → B) : if c then A else B := by
  by_cases h : c
  · rw [if_pos h]
    exact h1 h
  · rw [if_neg h]
    exact h2 h
theorem iteNS {c A B : Prop} [Decidable c] (hc : c) (h : B) : if (!decide c) = true then A else B := by
  rw [decide_eq_true hc]
  exact iteF h

/-! ### heaps -/
/-- all that was tracked is as it was -/
def Same (H H' : Hp) : Prop := ∀ b o, H b = some o → H' b = some o
theorem Same.refl (H : Hp) : Same H H := fun _ _ h => h
theorem Same.trans {H H1 H2 : Hp} (a : Same H H1) (b : Same H1 H2) : Same H H2 := fun c o h => b c o (a c o h)
theorem Same.free {H H' : Hp} (e : Same H H') {l : Addr} (h : H' l = Option.none) : H l = Option.none := by
  cases q : H l with
  | none => rfl
  | some o =>
    rw [e l o q] at h
    cases h
theorem Same.seq {K : PySem.W.Frag} {H H' : Hp} {a : Addr} {xs : List V} (e : Same H H') (h : SqL K H a xs) : SqL K H' a xs := by
  rcases h with (h | ⟨o, h⟩) | h
  · exact .inl (.inl (e _ _ h))
  · exact .inl (.inr ⟨o, e _ _ h⟩)
  · exact .inr h

end L2

set_option maxHeartbeats 4000000
namespace L3
open PySem PyProof.Rows
def gallop' : Bool → Keyed → Array Keyed → Nat → Nat → Nat → StateT SortSt Sem (Option Nat) := sortPriv% PySem.Builtin.gallop
def beyond' (left : Bool) (key : Keyed) (arr : Array Keyed) (base i : Nat) : StateT SortSt Sem (Option Bool) := do
  let x ← elem' arr (base + i)
  if left then lt' x key else return (← lt' key x).map (!·)
section
variable {prog : Program} {w : World} {A : Around} {E : Value → Shared → Prop} {s : Shared}
/-- what two keys answer -/
def CmpS (prog : Program) (w : World) (A : Around) (s : Shared) (κ : SortKind) (mem : Keyed → Prop) (lt : Keyed → Keyed → Bool) : Prop :=
  ∀ x y, mem x → mem y → ∀ (Q : Bool → Shared → Prop), Q (lt x y) s → wpAny (model prog w) A (keyLt' κ x.1 y.1) Q (fun _ _ => False) s
variable {κ : SortKind} {mem : Keyed → Prop} {lt : Keyed → Keyed → Bool}
theorem wpS_lt (C : CmpS prog w A s κ mem lt) {st : SortSt} (hk : kindOf st = κ) {x y : Keyed} (hx : mem x) (hy : mem y) {Q : Option Bool → SortSt → Prop} (h : Q (some (lt x y)) st) : wpS (model prog w) A E s (lt' x y) Q st := by
  rw [lt'_eq]
  refine wpS_bind (wpS_get ?_)
  rw [hk]
  refine wpS_bind (wpS_lift (wpAny_attempt (wpAny_mono (C x y hx hy (fun b s' => s' = s ∧ b = lt x y) ⟨rfl, rfl⟩) (fun b s' hb => ⟨hb.1, ?_⟩) fun _ _ z => z.elim)))
  rw [hb.2]
  exact wpS_pure h
theorem wpS_beyond (C : CmpS prog w A s κ mem lt) {st : SortSt} (hk : kindOf st = κ) {left : Bool} {key : Keyed} {arr : Array Keyed} {base i : Nat} {x : Keyed} (hx : arr[base + i]? = some x) (hm : mem x) (hy : mem key) {Q : Option Bool → SortSt → Prop} (h : Q (some (if left = true then lt x key else !lt key x)) st) :
    wpS (model prog w) A E s (beyond' left key arr base i) Q st := by
  unfold beyond'
  rw [elem'_eq, hx]
  refine wpS_bind (wpS_pure ?_)
  cases left with
  | true => exact wpS_lt C hk hm hy h
  | false => exact wpS_bind (wpS_lt C hk hy hm (wpS_pure h))
theorem wpS_gallop (C : CmpS prog w A s κ mem lt) {st : SortSt} (hk : kindOf st = κ) {left : Bool} {key : Keyed} {arr : Array Keyed} {base n hint : Nat} (hkey : mem key)
    (harr : ∀ i, i < n → ∃ x, arr[base + i]? = some x ∧ mem x) (hh : hint < n) (B : Nat → Bool) (hB : ∀ i x, i < n → arr[base + i]? = some x → B i = (if left = true then lt x key else !lt key x))
    (mono : ∀ i j, i ≤ j → j < n → B j = true → B i = true) {Q : Option Nat → SortSt → Prop} (h : ∀ k, k ≤ n → (∀ i, i < k → B i = true) → (∀ i, k ≤ i → i < n → B i = false) → Q (some k) st) :
    wpS (model prog w) A E s (gallop' left key arr base n hint) Q st := by
  have ask : ∀ (i : Nat) (Q : Option Bool → SortSt → Prop), i < n → Q (some (B i)) st → wpS (model prog w) A E s (beyond' left key arr base i) Q st := fun i Q hi q => by
    obtain ⟨x, hx, hm⟩ := harr i hi
    rw [hB i x hi hx] at q
    exact wpS_beyond C hk hx hm hkey q
  have fin : ∀ (lo hi : Nat) , lo ≤ hi → hi ≤ n → (∀ i, i < lo → B i = true) → (∀ i, hi ≤ i → i < n → B i = false) →
      wpS (model prog w) A E s (do
        let mut l := lo
        let mut r := hi
        for _ in [0:n] do
          if l ≥ r then break
          let mid := l + (r - l) / 2
          let some up ← beyond' left key arr base mid | return none
          if up then l := mid + 1 else r := mid
        return some r) Q st := by
    intro lo hi h1 h2 h3 h4
    refine wpS_bind (wpS_mono (wpS_forRange (I := fun x c st' => st' = st ∧ ∃ l r, c = (none, l, r) ∧ l ≤ r ∧ r ≤ n ∧ r - l ≤ n - x ∧ (∀ i, i < l → B i = true) ∧ (∀ i, r ≤ i → i < n → B i = false))
      (Q := fun c st' => st' = st ∧ ∃ l r, c = (none, l, r) ∧ l = r ∧ r ≤ n ∧ (∀ i, i < l → B i = true) ∧ (∀ i, r ≤ i → i < n → B i = false)) ?step ?fin ?init) ?post)
    case init => exact ⟨rfl, lo, hi, rfl, h1, h2, by omega, h3, h4⟩
    case fin =>
      rintro c st' ⟨rfl, l, r, rfl, a1, a2, a3, a4, a5⟩
      exact ⟨rfl, l, r, rfl, by omega, a2, a4, a5⟩
    case post =>
      rintro c st' ⟨rfl, l, r, rfl, rfl, a2, a4, a5⟩
      exact wpS_pure (h l a2 a4 a5)
    case step =>
      rintro x c st' _ hx ⟨rfl, l, r, rfl, a1, a2, a3, a4, a5⟩
      dsimp only
      by_cases hge : l ≥ r
      · rw [if_pos hge]
        exact wpS_pure ⟨rfl, l, r, rfl, by omega, a2, a4, a5⟩
      · rw [if_neg hge]
        refine wpS_bind (ask _ _ (by omega) ?_)
        cases hb : B (l + (r - l) / 2) with
        | true => exact wpS_pure ⟨rfl, l + (r - l) / 2 + 1, r, rfl, by omega, a2, by omega, fun i hi => mono _ _ (show i ≤ l + (r - l) / 2 by omega) (by omega) hb, a5⟩
        | false =>
          refine wpS_pure ⟨rfl, l, l + (r - l) / 2, rfl, by omega, by omega, by omega, a4, fun i hi hn => ?_⟩
          cases hbi : B i with
          | false => rfl
          | true => rw [mono _ _ hi hn hbi] at hb; cases hb
  refine wpS_bind (ask hint _ hh ?_)
  cases hb0 : B hint with
  | true =>
    dsimp only
    simp only [if_true]
    refine wpS_bind (wpS_mono (wpS_forRange (I := fun x c st' => st' = st ∧ ∃ lo ofs, c = (none, lo, ofs) ∧ x + 1 ≤ ofs ∧ lo < ofs ∧ hint + lo < n ∧ B (hint + lo) = true)
      (Q := fun c st' => st' = st ∧ ∃ lo ofs, c = (none, lo, ofs) ∧ lo < ofs ∧ hint + lo < n ∧ B (hint + lo) = true ∧ (n - hint ≤ ofs ∨ (ofs < n - hint ∧ B (hint + ofs) = false))) ?step ?fin ?init) ?post)
    case init => exact ⟨rfl, 0, 1, rfl, by omega, by omega, by omega, hb0⟩
    case fin =>
      rintro c st' ⟨rfl, lo, ofs, rfl, a1, a2, a3, a4⟩
      exact ⟨rfl, lo, ofs, rfl, a2, a3, a4, .inl (by omega)⟩
    case step =>
      rintro x c st' _ hx ⟨rfl, lo, ofs, rfl, a1, a2, a3, a4⟩
      dsimp only
      by_cases hge : ofs ≥ n - hint
      · rw [if_pos hge]
        exact wpS_pure ⟨rfl, lo, ofs, rfl, a2, a3, a4, .inl hge⟩
      · rw [if_neg hge]
        refine wpS_bind (ask _ _ (by omega) ?_)
        cases hb : B (hint + ofs) with
        | false => exact wpS_pure ⟨rfl, lo, ofs, rfl, a2, a3, a4, .inr ⟨by omega, hb⟩⟩
        | true => exact wpS_pure ⟨rfl, ofs, 2 * ofs + 1, rfl, by omega, by omega, by omega, hb⟩
    case post =>
      rintro c st' ⟨rfl, lo, ofs, rfl, a2, a3, a4, a5⟩
      dsimp only
      refine fin _ _ ?_ ?_ (fun i hi => mono _ _ (show i ≤ hint + lo by omega) a3 a4) fun i hi hn => ?_
      · omega
      · omega
      · rcases a5 with h5 | ⟨h5, h6⟩
        · omega
        · cases hbi : B i with
          | false => rfl
          | true => rw [mono _ _ (show hint + ofs ≤ i by omega) hn hbi] at h6; cases h6
  | false =>
    dsimp only
    simp only [Bool.false_eq_true, if_false]
    refine wpS_bind (wpS_mono (wpS_forRange (I := fun x c st' => st' = st ∧ ∃ lo ofs, c = (none, lo, ofs) ∧ x + 1 ≤ ofs ∧ lo < ofs ∧ lo ≤ hint ∧ B (hint - lo) = false)
      (Q := fun c st' => st' = st ∧ ∃ lo ofs, c = (none, lo, ofs) ∧ lo < ofs ∧ lo ≤ hint ∧ B (hint - lo) = false ∧ (hint + 1 ≤ ofs ∨ (ofs < hint + 1 ∧ B (hint - ofs) = true))) ?step ?fin ?init) ?post)
    case init => exact ⟨rfl, 0, 1, rfl, by omega, by omega, by omega, hb0⟩
    case fin =>
      rintro c st' ⟨rfl, lo, ofs, rfl, a1, a2, a3, a4⟩
      exact ⟨rfl, lo, ofs, rfl, a2, a3, a4, .inl (by omega)⟩
    case step =>
      rintro x c st' _ hx ⟨rfl, lo, ofs, rfl, a1, a2, a3, a4⟩
      dsimp only
      by_cases hge : ofs ≥ hint + 1
      · rw [if_pos hge]
        exact wpS_pure ⟨rfl, lo, ofs, rfl, a2, a3, a4, .inl hge⟩
      · rw [if_neg hge]
        refine wpS_bind (ask _ _ (by omega) ?_)
        cases hb : B (hint - ofs) with
        | true => exact wpS_pure ⟨rfl, lo, ofs, rfl, a2, a3, a4, .inr ⟨by omega, hb⟩⟩
        | false => exact wpS_pure ⟨rfl, ofs, 2 * ofs + 1, rfl, by omega, by omega, by omega, hb⟩
    case post =>
      rintro c st' ⟨rfl, lo, ofs, rfl, a2, a3, a4, a5⟩
      dsimp only
      refine fin _ _ ?_ ?_ (fun i hi => ?_) fun i hi hn => ?_
      · omega
      · omega
      · rcases a5 with h5 | ⟨h5, h6⟩
        · omega
        · exact mono _ _ (show i ≤ hint - ofs by omega) (by omega) h6
      · cases hbi : B i with
        | false => rfl
        | true => rw [mono _ _ (show hint - lo ≤ i by omega) hn hbi] at a4; cases a4
end
end L3

set_option maxHeartbeats 4000000
namespace L3
open PySem PyProof.Rows
structure KOrd (lt : Keyed → Keyed → Bool) : Prop where
  asy : ∀ x y, lt x y = true → lt y x = false
  tr : ∀ x y z, lt y x = false → lt z y = false → lt z x = false
def Srt (lt : Keyed → Keyed → Bool) (l : List Keyed) : Prop := l.Pairwise fun x y => lt y x = false
/-- part way: what is out, what is left of both -/
structure Mid (lt : Keyed → Keyed → Bool) (la lb out : List Keyed) (ia ib : Nat) : Prop where
  perm : out.Perm (la.take ia ++ lb.take ib)
  srt : Srt lt out
  leA : ∀ x ∈ out, ∀ y ∈ la.drop ia, lt y x = false
  leB : ∀ x ∈ out, ∀ y ∈ lb.drop ib, lt y x = false
section
variable {lt : Keyed → Keyed → Bool} {la lb out : List Keyed} {ia ib : Nat}
theorem take_more {l : List Keyed} {i k : Nat} : l.take (i + k) = l.take i ++ (l.drop i).take k := by
  rw [List.take_add]
theorem Mid.pushA (m : Mid lt la lb out ia ib) (hA : Srt lt la) (k : Nat) (h : ∀ x ∈ (la.drop ia).take k, ∀ y ∈ lb.drop ib, lt y x = false) : Mid lt la lb (out ++ (la.drop ia).take k) (ia + k) ib := by
  have hd : Srt lt (la.drop ia) := List.Pairwise.sublist (List.drop_sublist _ _) hA
  have hs : (la.drop ia).take k ++ la.drop (ia + k) = la.drop ia := by
    rw [← List.drop_drop]; exact List.take_append_drop k _
  have hd2 := hd
  unfold Srt at hd2
  rw [← hs, List.pairwise_append] at hd2
  refine ⟨?_, ?_, fun x hx y hy => ?_, fun x hx y hy => ?_⟩
  · rw [take_more]
    refine ((m.perm.append_right _).trans ?_)
    rw [List.append_assoc, List.append_assoc]
    exact List.Perm.append_left _ List.perm_append_comm
  · exact List.pairwise_append.mpr ⟨m.srt, hd2.1, fun x hx y hy => m.leA x hx y (List.mem_of_mem_take hy)⟩
  · rcases List.mem_append.mp hx with h1 | h1
    · exact m.leA x h1 y (by rw [← hs]; exact List.mem_append_right _ hy)
    · exact hd2.2.2 x h1 y hy
  · rcases List.mem_append.mp hx with h1 | h1
    · exact m.leB x h1 y hy
    · exact h x h1 y hy
theorem Mid.pushB (m : Mid lt la lb out ia ib) (hB : Srt lt lb) (k : Nat) (h : ∀ x ∈ (lb.drop ib).take k, ∀ y ∈ la.drop ia, lt y x = false) : Mid lt la lb (out ++ (lb.drop ib).take k) ia (ib + k) := by
  have hd : Srt lt (lb.drop ib) := List.Pairwise.sublist (List.drop_sublist _ _) hB
  have hs : (lb.drop ib).take k ++ lb.drop (ib + k) = lb.drop ib := by
    rw [← List.drop_drop]; exact List.take_append_drop k _
  have hd2 := hd
  unfold Srt at hd2
  rw [← hs, List.pairwise_append] at hd2
  refine ⟨?_, ?_, fun x hx y hy => ?_, fun x hx y hy => ?_⟩
  · rw [take_more, ← List.append_assoc]
    exact m.perm.append_right _
  · exact List.pairwise_append.mpr ⟨m.srt, hd2.1, fun x hx y hy => m.leB x hx y (List.mem_of_mem_take hy)⟩
  · rcases List.mem_append.mp hx with h1 | h1
    · exact m.leA x h1 y hy
    · exact h x h1 y hy
  · rcases List.mem_append.mp hx with h1 | h1
    · exact m.leB x h1 y (by rw [← hs]; exact List.mem_append_right _ hy)
    · exact hd2.2.2 x h1 y hy
/-- what a merge has to give -/
def Merged (lt : Keyed → Keyed → Bool) (la lb out : List Keyed) : Prop := out.Perm (la ++ lb) ∧ Srt lt out
theorem Mid.endB (m : Mid lt la lb out ia ib) (hA : Srt lt la) (h : lb.length ≤ ib) : Merged lt la lb (out ++ la.drop ia) := by
  have hd : Srt lt (la.drop ia) := List.Pairwise.sublist (List.drop_sublist _ _) hA
  refine ⟨?_, List.pairwise_append.mpr ⟨m.srt, hd, m.leA⟩⟩
  have e : lb.take ib = lb := List.take_of_length_le h
  have p := m.perm.append_right (la.drop ia)
  rw [e, List.append_assoc] at p
  refine p.trans ((List.Perm.append_left _ List.perm_append_comm).trans ?_)
  rw [← List.append_assoc, List.take_append_drop]
theorem Mid.endA (m : Mid lt la lb out ia ib) (hB : Srt lt lb) (h : la.length ≤ ia) : Merged lt la lb (out ++ lb.drop ib) := by
  have hd : Srt lt (lb.drop ib) := List.Pairwise.sublist (List.drop_sublist _ _) hB
  refine ⟨?_, List.pairwise_append.mpr ⟨m.srt, hd, m.leB⟩⟩
  have e : la.take ia = la := List.take_of_length_le h
  have p := m.perm.append_right (lb.drop ib)
  rw [e, List.append_assoc, List.take_append_drop] at p
  exact p
/-- one left of the first, greater than all of the second -/
theorem Mid.lastA (m : Mid lt la lb out ia ib) (o : KOrd lt) (hA : Srt lt la) (hB : Srt lt lb) (h : ia + 1 = la.length) (hl : ∀ y ∈ lb, ∀ x ∈ la.drop ia, lt y x = true) : Merged lt la lb (out ++ lb.drop ib ++ la.drop ia) := by
  have m2 := m.pushB hB (lb.length - ib) fun x hx y hy => o.asy _ _ (hl x (List.mem_of_mem_drop (List.mem_of_mem_take hx)) y hy)
  have e : (lb.drop ib).take (lb.length - ib) = lb.drop ib := List.take_of_length_le (by rw [List.length_drop]; exact Nat.le_refl _)
  rw [e] at m2
  exact m2.endB hA (by omega)
end
end L3

set_option maxHeartbeats 4000000
namespace L3
open PySem PyProof.Rows
def setMinGallop' : Nat → StateT SortSt Sem Unit := sortPriv% PySem.Builtin.setMinGallop
abbrev setGal (st : SortSt) (g : Nat) : SortSt := SortSt.mk' (kindOf st) (arrOf st) (pendingOf st) g (failedOf st)
def mergeLo' : Array Keyed → Array Keyed → StateT SortSt Sem (Array Keyed) := sortPriv% PySem.Builtin.mergeLo
/-- the state but for its gallop -/
def SameG (st st' : SortSt) : Prop := kindOf st' = kindOf st ∧ arrOf st' = arrOf st ∧ pendingOf st' = pendingOf st ∧ failedOf st' = failedOf st
theorem SameG.refl (st : SortSt) : SameG st st := ⟨rfl, rfl, rfl, rfl⟩
theorem SameG.gal {st st' : SortSt} (h : SameG st st') (g : Nat) : SameG st (setGal st' g) := h
section
variable {prog : Program} {w : World} {A : Around} {E : Value → Shared → Prop} {s : Shared}
variable {κ : SortKind} {mem : Keyed → Prop} {lt : Keyed → Keyed → Bool}
/-- the two runs that are merged -/
structure Two (mem : Keyed → Prop) (lt : Keyed → Keyed → Bool) (a b : Array Keyed) : Prop where
  mA : ∀ x ∈ a.toList, mem x
  mB : ∀ x ∈ b.toList, mem x
  sA : Srt lt a.toList
  sB : Srt lt b.toList
  pA : 0 < a.size
  pB : 0 < b.size
  first : ∀ x y, b[0]? = some x → a[0]? = some y → lt x y = true
  last : ∀ y ∈ b.toList, ∀ x, a[a.size - 1]? = some x → lt y x = true
theorem gal_at {st : SortSt} {g : Nat} {Q : Unit → SortSt → Prop} (q : Q () (setGal st g)) : wpS (model prog w) A E s (setMinGallop' g) Q st :=
  show wpS (model prog w) A E s (modify fun z => setGal z g) Q st from wpS_modify q
theorem elem_at {arr : Array Keyed} {i : Nat} {x : Keyed} (h : arr[i]? = some x) {st : SortSt} {Q : Keyed → SortSt → Prop} (q : Q x st) : wpS (model prog w) A E s (elem' arr i) Q st := by
  rw [elem'_eq, h]
  exact wpS_pure q
theorem drop_at {arr : Array Keyed} {i : Nat} {x : Keyed} (h : arr[i]? = some x) : arr.toList.drop i = x :: arr.toList.drop (i + 1) := by
  obtain ⟨hi, e⟩ := Array.getElem?_eq_some_iff.mp h
  have := List.drop_eq_getElem_cons (l := arr.toList) (i := i) (by simpa using hi)
  rw [this]
  simp [e]
theorem srt_head {l : List Keyed} {x : Keyed} {r : List Keyed} (o : KOrd lt) (hs : Srt lt l) (e : l = x :: r) : ∀ z ∈ l, lt z x = false := by
  subst e
  intro z hz
  rcases List.mem_cons.mp hz with h | h
  · rw [h]
    cases q : lt x x with
    | false => rfl
    | true => have := o.asy _ _ q; rw [q] at this; cases this
  · exact (List.pairwise_cons.mp hs).1 z h
theorem srt_drop {l : List Keyed} (hs : Srt lt l) (i : Nat) : Srt lt (l.drop i) := List.Pairwise.sublist (List.drop_sublist _ _) hs
theorem srt_two {arr : Array Keyed} (o : KOrd lt) (hs : Srt lt arr.toList) {i j : Nat} {x y : Keyed} (hij : i ≤ j) (hx : arr[i]? = some x) (hy : arr[j]? = some y) : lt y x = false := by
  have e := drop_at hx
  have hm : y ∈ arr.toList.drop i := by
    rw [List.mem_iff_getElem?]
    exact ⟨j - i, by rw [List.getElem?_drop, show i + (j - i) = j by omega]; simpa using hy⟩
  exact srt_head o (srt_drop hs i) e y hm
def Live (lt : Keyed → Keyed → Bool) (a b out : Array Keyed) (ia ib : Nat) : Prop := Mid lt a.toList b.toList out.toList ia ib ∧ ia + 1 < a.size ∧ ib < b.size
theorem stepB {a b out : Array Keyed} {ia ib : Nat} {x : Keyed} (o : KOrd lt) (T : Two mem lt a b) (m : Mid lt a.toList b.toList out.toList ia ib) (hx : b[ib]? = some x) (h : ∀ z ∈ a.toList.drop ia, lt z x = false) :
    Mid lt a.toList b.toList (out.push x).toList ia (ib + 1) := by
  have m2 := m.pushB T.sB 1 fun u hu y hy => by
    rw [drop_at hx] at hu
    have : u = x := by simpa using hu
    rw [this]
    exact h y hy
  rw [drop_at hx] at m2
  simpa using m2
theorem stepA {a b out : Array Keyed} {ia ib : Nat} {y : Keyed} (o : KOrd lt) (T : Two mem lt a b) (m : Mid lt a.toList b.toList out.toList ia ib) (hy : a[ia]? = some y) (h : ∀ z ∈ b.toList.drop ib, lt z y = false) :
    Mid lt a.toList b.toList (out.push y).toList (ia + 1) ib := by
  have m2 := m.pushA T.sA 1 fun u hu z hz => by
    rw [drop_at hy] at hu
    have : u = y := by simpa using hu
    rw [this]
    exact h z hz
  rw [drop_at hy] at m2
  simpa using m2
theorem le_rest {arr : Array Keyed} (o : KOrd lt) (hs : Srt lt arr.toList) {i : Nat} {x y : Keyed} (hx : arr[i]? = some x) (h : lt x y = false) : ∀ z ∈ arr.toList.drop i, lt z y = false := fun z hz =>
  o.tr y x z h (srt_head o (srt_drop hs i) (drop_at hx) z hz)
theorem doneB {a b out : Array Keyed} {ia ib : Nat} (T : Two mem lt a b) (m : Mid lt a.toList b.toList out.toList ia ib) (h : ib = b.size) : Merged lt a.toList b.toList (out ++ a.extract ia a.size ++ b.extract ib b.size).toList := by
  have := m.endB T.sA (by simp [h])
  have e : List.take (a.size - ia) (a.toList.drop ia) = a.toList.drop ia := List.take_of_length_le (by simp)
  simpa [h, e] using this
theorem doneA {a b out : Array Keyed} {ia ib : Nat} (T : Two mem lt a b) (m : Mid lt a.toList b.toList out.toList ia ib) (h : ia = a.size) : Merged lt a.toList b.toList (out ++ a.extract ia a.size ++ b.extract ib b.size).toList := by
  have := m.endA T.sB (by simp [h])
  have e : List.take (b.size - ib) (b.toList.drop ib) = b.toList.drop ib := List.take_of_length_le (by simp)
  simpa [h, e] using this
theorem doneL {a b out : Array Keyed} {ia ib : Nat} (o : KOrd lt) (T : Two mem lt a b) (m : Mid lt a.toList b.toList out.toList ia ib) (h : ia + 1 = a.size) : Merged lt a.toList b.toList (out ++ b.extract ib b.size ++ a.extract ia a.size).toList := by
  have := m.lastA o T.sA T.sB (by simpa using h) fun y hy x hx => by
    have hl : a[ia]? = some (a[ia]'(by omega)) := by simp
    rw [drop_at hl, List.drop_eq_nil_of_le (by simp; omega)] at hx
    have e : x = a[ia]'(by omega) := by simpa using hx
    refine T.last y hy x ?_
    rw [e, show a.size - 1 = ia by omega]
    exact hl
  have e : List.take (a.size - ia) (a.toList.drop ia) = a.toList.drop ia := List.take_of_length_le (by simp)
  have e2 : List.take (b.size - ib) (b.toList.drop ib) = b.toList.drop ib := List.take_of_length_le (by simp)
  simpa [e, e2] using this
theorem low_take {arr : Array Keyed} {P : Keyed → Prop} {base k : Nat} (h : ∀ i z, i < k → arr[base + i]? = some z → P z) : ∀ z ∈ (arr.toList.drop base).take k, P z := fun z hz => by
  obtain ⟨i, hi⟩ := List.mem_iff_getElem?.mp hz
  have hik : i < k := by
    have := (List.getElem?_eq_some_iff.mp hi).1
    rw [List.length_take] at this
    omega
  rw [List.getElem?_take_of_lt hik, List.getElem?_drop] at hi
  exact h i z hik (by simpa using hi)
theorem high_drop {arr : Array Keyed} {P : Keyed → Prop} {base k : Nat} (h : ∀ i z, k ≤ i → arr[base + i]? = some z → P z) : ∀ z ∈ arr.toList.drop (base + k), P z := fun z hz => by
  obtain ⟨i, hi⟩ := List.mem_iff_getElem?.mp hz
  rw [List.getElem?_drop] at hi
  exact h (k + i) z (by omega) (by rw [← Nat.add_assoc]; simpa using hi)
theorem wpS_galR (C : CmpS prog w A s κ mem lt) (o : KOrd lt) {st : SortSt} (hk : kindOf st = κ) {key : Keyed} {arr : Array Keyed} {base n hint : Nat} (hkey : mem key) (hn : base + n ≤ arr.size) (hm : ∀ i z, i < n → arr[base + i]? = some z → mem z) (hh : hint < n)
    (hs : ∀ i j y z, i ≤ j → j < n → arr[base + i]? = some y → arr[base + j]? = some z → lt z y = false) {Q : Option Nat → SortSt → Prop}
    (h : ∀ k, k ≤ n → (∀ i z, i < k → arr[base + i]? = some z → lt key z = false) → (∀ i z, k ≤ i → i < n → arr[base + i]? = some z → lt key z = true) → Q (some k) st) : wpS (model prog w) A E s (gallop' false key arr base n hint) Q st := by
  have ex : ∀ i, i < n → ∃ z, arr[base + i]? = some z := fun i hi => ⟨arr[base + i]'(by omega), by simp⟩
  refine wpS_gallop C hk hkey (fun i hi => ?_) hh (fun i => match arr[base + i]? with | some z => !lt key z | none => false) (fun i z hi hz => by simp [hz]) (fun i j hij hj hb => ?_) fun k hkn h1 h2 => h k hkn (fun i z hi hz => ?_) fun i z hi hn' hz => ?_
  · obtain ⟨z, hz⟩ := ex i hi
    exact ⟨z, hz, hm i z hi hz⟩
  · obtain ⟨y, hy⟩ := ex i (by omega)
    obtain ⟨z, hz⟩ := ex j hj
    simp only [hz, hy, Bool.not_eq_true'] at hb ⊢
    exact o.tr _ _ _ (hs i j y z hij hj hy hz) hb
  · have := h1 i hi
    simpa [hz] using this
  · have := h2 i hi hn'
    simpa [hz] using this
theorem wpS_galL (C : CmpS prog w A s κ mem lt) (o : KOrd lt) {st : SortSt} (hk : kindOf st = κ) {key : Keyed} {arr : Array Keyed} {base n hint : Nat} (hkey : mem key) (hn : base + n ≤ arr.size) (hm : ∀ i z, i < n → arr[base + i]? = some z → mem z) (hh : hint < n)
    (hs : ∀ i j y z, i ≤ j → j < n → arr[base + i]? = some y → arr[base + j]? = some z → lt z y = false) {Q : Option Nat → SortSt → Prop}
    (h : ∀ k, k ≤ n → (∀ i z, i < k → arr[base + i]? = some z → lt z key = true) → (∀ i z, k ≤ i → i < n → arr[base + i]? = some z → lt z key = false) → Q (some k) st) : wpS (model prog w) A E s (gallop' true key arr base n hint) Q st := by
  have ex : ∀ i, i < n → ∃ z, arr[base + i]? = some z := fun i hi => ⟨arr[base + i]'(by omega), by simp⟩
  refine wpS_gallop C hk hkey (fun i hi => ?_) hh (fun i => match arr[base + i]? with | some z => lt z key | none => false) (fun i z hi hz => by simp [hz]) (fun i j hij hj hb => ?_) fun k hkn h1 h2 => h k hkn (fun i z hi hz => ?_) fun i z hi hn' hz => ?_
  · obtain ⟨z, hz⟩ := ex i hi
    exact ⟨z, hz, hm i z hi hz⟩
  · obtain ⟨y, hy⟩ := ex i (by omega)
    obtain ⟨z, hz⟩ := ex j hj
    simp only [hz, hy] at hb ⊢
    cases q : lt y key with
    | true => rfl
    | false => rw [o.tr _ _ _ q (hs i j y z hij hj hy hz)] at hb; cases hb
  · have := h1 i hi
    simpa [hz] using this
  · have := h2 i hi hn'
    simpa [hz] using this
theorem wpS_mergeLo (C : CmpS prog w A s κ mem lt) (o : KOrd lt) {st : SortSt} (hk : kindOf st = κ) {a b : Array Keyed} (T : Two mem lt a b) {Q : Array Keyed → SortSt → Prop}
    (h : ∀ out st', SameG st st' → Merged lt a.toList b.toList out.toList → Q out st') : wpS (model prog w) A E s (mergeLo' a b) Q st := by
  refine wpS_bind (wpS_lift (wpAny_rule ⟨rfl, ?_⟩))
  have hb0 : b[0]? = some (b[0]'T.pB) := by simp [T.pB]
  have ha0 : a[0]? = some (a[0]'T.pA) := by simp [T.pA]
  refine wpS_bind (elem_at hb0 ?_)
  have m0 : Mid lt a.toList b.toList (#[] : Array Keyed).toList 0 0 := ⟨by simp, List.Pairwise.nil, by simp, by simp⟩
  have m1 := stepB o T m0 hb0 fun z hz => o.tr _ _ _ (o.asy _ _ (T.first _ _ hb0 ha0)) (srt_head o (srt_drop T.sA 0) (drop_at ha0) z hz)
  dsimp only
  by_cases hb1 : (1 == b.size) = true
  · rw [if_pos hb1]
    exact wpS_pure (h _ _ (SameG.refl _) (doneB T m1 (by simpa using hb1)))
  rw [if_neg hb1]
  by_cases ha1 : (0 + 1 == a.size) = true
  · rw [if_pos ha1]
    exact wpS_pure (h _ _ (SameG.refl _) (doneL o T m1 (by simpa using ha1)))
  rw [if_neg ha1]
  have hb2 : 1 < b.size := by have : ¬ 1 = b.size := by simpa using hb1
                              have := T.pB
                              omega
  have ha2 : 0 + 1 < a.size := by have : ¬ 0 + 1 = a.size := by simpa using ha1
                                  have := T.pA
                                  omega
  refine wpS_bind (wpS_get ?_)
  refine wpS_bind (wpS_mono (wpS_forRange (I := fun x c st' => SameG st st' ∧ ∃ out ia ib mg, c = (none, out, ia, ib, mg) ∧ Live lt a b out ia ib ∧ x + 1 ≤ ia + ib)
    (Q := fun c st' => SameG st st' ∧ ∃ res r, c = (some res, r) ∧ Merged lt a.toList b.toList res.toList) ?step ?fin ?init) ?post)
  case init => exact ⟨SameG.refl _, _, _, _, _, rfl, ⟨m1, ha2, hb2⟩, Nat.le_refl _⟩
  case fin =>
    rintro c st' ⟨_, out, ia, ib, mg, rfl, ⟨_, h1, h2⟩, h3⟩
    omega
  case post =>
    rintro c st' ⟨sg, res, r, rfl, hm⟩
    exact wpS_pure (h _ _ sg hm)
  case step =>
    rintro x c st' _ hx ⟨sg, out, ia, ib, mg, rfl, L, hp⟩
    dsimp only
    refine wpS_bind (wpS_mono (wpS_forRange (I := fun y c st' => SameG st st' ∧ ∃ out' ia' ib' ac bc, c = (none, out', ia', ib', ac, bc) ∧ Live lt a b out' ia' ib' ∧ ia + ib ≤ ia' + ib')
      (Q := fun c st' => SameG st st' ∧ ((∃ res r, c = (some res, r) ∧ Merged lt a.toList b.toList res.toList) ∨ ∃ out' ia' ib' ac bc, c = (none, out', ia', ib', ac, bc) ∧ Live lt a b out' ia' ib' ∧ ia + ib ≤ ia' + ib')) ?istep ?ifin ?iinit) ?ipost)
    case iinit => exact ⟨sg, _, _, _, _, _, rfl, L, Nat.le_refl _⟩
    case ifin =>
      rintro c st2 ⟨sg2, rest⟩
      exact ⟨sg2, .inr rest⟩
    case istep =>
      rintro y c st2 _ hy ⟨sg2, out', ia', ib', ac, bc, rfl, ⟨m, l1, l2⟩, hp'⟩
      dsimp only
      have hxb : b[ib']? = some (b[ib']'l2) := by simp [l2]
      have hxa : a[ia']? = some (a[ia']'(by omega)) := by simp
      refine wpS_bind (elem_at hxb (wpS_bind (elem_at hxa (wpS_bind (wpS_lt C (sg2.1.trans hk) (T.mB _ (by simp)) (T.mA _ (by simp)) ?_)))))
      cases hl : lt b[ib'] a[ia'] with
      | true =>
        dsimp only
        simp only [if_true]
        refine wpS_bind (elem_at hxb ?_)
        have m2 := stepB o T m hxb (le_rest o T.sA hxa (o.asy _ _ hl))
        try dsimp only
        by_cases he : (ib' + 1 == b.size) = true
        · rw [if_pos he]
          exact wpS_pure ⟨sg2, .inl ⟨_, _, rfl, doneB T m2 (by simpa using he)⟩⟩
        · rw [if_neg he]
          have he' : ¬ ib' + 1 = b.size := by simpa using he
          have L2 : Live lt a b (out'.push b[ib']) ia' (ib' + 1) := ⟨m2, l1, by omega⟩
          split
          · exact wpS_pure ⟨sg2, .inr ⟨_, _, _, _, _, rfl, L2, by omega⟩⟩
          · exact wpS_pure ⟨sg2, _, _, _, _, _, rfl, L2, by omega⟩
      | false =>
        dsimp only
        simp only [Bool.false_eq_true, if_false]
        refine wpS_bind (elem_at hxa ?_)
        have m2 := stepA o T m hxa (le_rest o T.sB hxb hl)
        try dsimp only
        by_cases he : (ia' + 1 + 1 == a.size) = true
        · rw [if_pos he]
          exact wpS_pure ⟨sg2, .inl ⟨_, _, rfl, doneL o T m2 (by simpa using he)⟩⟩
        · rw [if_neg he]
          have he' : ¬ ia' + 1 + 1 = a.size := by simpa using he
          have L2 : Live lt a b (out'.push a[ia']) (ia' + 1) ib' := ⟨m2, by omega, l2⟩
          split
          · exact wpS_pure ⟨sg2, .inr ⟨_, _, _, _, _, rfl, L2, by omega⟩⟩
          · exact wpS_pure ⟨sg2, _, _, _, _, _, rfl, L2, by omega⟩
    case ipost =>
      rintro c st2 ⟨sg2, (⟨res, r, rfl, hm⟩ | ⟨out', ia', ib', ac, bc, rfl, L2, hp2⟩)⟩
      · dsimp only
        exact wpS_pure ⟨sg2, _, _, rfl, hm⟩
      · dsimp only
        refine wpS_bind (wpS_lift (wpAny_rule ⟨rfl, ?_⟩))
        refine wpS_bind (wpS_mono (wpS_forRange (I := fun y c st' => SameG st st' ∧ ∃ out2 ia2 ib2 mg2 ac bc, c = (none, out2, ia2, ib2, mg2, ac, bc) ∧ Live lt a b out2 ia2 ib2 ∧ ia' + ib' + y ≤ ia2 + ib2)
          (Q := fun c st' => SameG st st' ∧ ((∃ res r, c = (some res, r) ∧ Merged lt a.toList b.toList res.toList) ∨ ∃ out2 ia2 ib2 mg2 ac bc, c = (none, out2, ia2, ib2, mg2, ac, bc) ∧ Live lt a b out2 ia2 ib2 ∧ ia' + ib' + 1 ≤ ia2 + ib2)) ?jstep ?jfin ?jinit) ?jpost)
        case jinit => exact ⟨sg2, _, _, _, _, _, _, rfl, L2, Nat.le_refl _⟩
        case jfin =>
          rintro c st3 ⟨sg3, out2, ia2, ib2, mg2, ac2, bc2, rfl, L3, hp3⟩
          exact ⟨sg3, .inr ⟨_, _, _, _, _, _, rfl, L3, by have := T.pA; omega⟩⟩
        case jpost =>
          rintro c st3 ⟨sg3, (⟨res, r, rfl, hm⟩ | ⟨out2, ia2, ib2, mg2, ac2, bc2, rfl, L3, hp3⟩)⟩
          · dsimp only
            exact wpS_pure ⟨sg3, _, _, rfl, hm⟩
          · dsimp only
            refine wpS_bind (gal_at ?_)
            exact wpS_pure ⟨sg3.gal _, _, _, _, _, rfl, L3, by omega⟩
        case jstep =>
          rintro y c st3 _ hy ⟨sg3, out2, ia2, ib2, mg2, ac2, bc2, rfl, ⟨m3, l3, l4⟩, hp3⟩
          dsimp only
          have hxb : b[ib2]? = some (b[ib2]'l4) := by simp [l4]
          have memA : ∀ i z, a[i]? = some z → mem z := fun i z hz => T.mA z (by obtain ⟨h1, h2⟩ := Array.getElem?_eq_some_iff.mp hz; rw [← h2]; simp)
          have memB : ∀ i z, b[i]? = some z → mem z := fun i z hz => T.mB z (by obtain ⟨h1, h2⟩ := Array.getElem?_eq_some_iff.mp hz; rw [← h2]; simp)
          have body : ∀ (mg3 : Nat) (st4 : SortSt), SameG st st4 → ∀ (k : Nat), k ≤ a.size - ia2 → (∀ i z, i < k → a[ia2 + i]? = some z → lt b[ib2] z = false) → (∀ i z, k ≤ i → i < a.size - ia2 → a[ia2 + i]? = some z → lt b[ib2] z = true) →
              ∃ out3 : Array Keyed, out3 = out2 ++ a.extract ia2 (ia2 + k) ∧ Mid lt a.toList b.toList out3.toList (ia2 + k) ib2 ∧ ∀ z ∈ a.toList.drop (ia2 + k), lt z b[ib2] = false := by
            intro mg3 st4 sg4 k hkn h1 h2
            refine ⟨_, rfl, ?_, ?_⟩
            · have m4 := m3.pushA T.sA k fun z hz y hy => le_rest o T.sB hxb (low_take (P := fun z => lt b[ib2] z = false) h1 z hz) y hy
              have e : (out2 ++ a.extract ia2 (ia2 + k)).toList = out2.toList ++ (a.toList.drop ia2).take k := by
                simp
              rw [e]
              exact m4
            · exact high_drop (P := fun z => lt z b[ib2] = false) fun i z hi hz => o.asy _ _ (h2 i z hi (by have := (Array.getElem?_eq_some_iff.mp hz).1; omega) hz)
          have rest2 : ∀ (out4 : Array Keyed) (ia3 ib3 mg3 k k1 : Nat) (st4 : SortSt), SameG st st4 → Mid lt a.toList b.toList out4.toList ia3 ib3 → ia3 + 1 < a.size → ib3 < b.size → (∀ z, a[ia3]? = some z → ∀ u ∈ b.toList.drop ib3, lt u z = false) → ia' + ib' + y + 1 ≤ ia3 + ib3 →
              wpS (model prog w) A E s (do
                let z2 ← elem' a ia3
                if (ia3 + 1 + 1 == a.size) = true then
                  pure (ForInStep.done (some (out4.push z2 ++ b.extract ib3 b.size ++ a.extract (ia3 + 1) a.size), out4.push z2, ia3 + 1, ib3, mg3, k, k1))
                else if (decide (k < 7) && decide (k1 < 7)) = true then pure (ForInStep.done (none, out4.push z2, ia3 + 1, ib3, mg3, k, k1))
                else pure (ForInStep.yield (none, out4.push z2, ia3 + 1, ib3, mg3, k, k1)))
              (fun r st' => match r with
                | .done c' => SameG st st' ∧ ((∃ res r, c' = (some res, r) ∧ Merged lt a.toList b.toList res.toList) ∨ ∃ out2 ia2 ib2 mg2 ac bc, c' = (none, out2, ia2, ib2, mg2, ac, bc) ∧ Live lt a b out2 ia2 ib2 ∧ ia' + ib' + 1 ≤ ia2 + ib2)
                | .yield c' => SameG st st' ∧ ∃ out2 ia2 ib2 mg2 ac bc, c' = (none, out2, ia2, ib2, mg2, ac, bc) ∧ Live lt a b out2 ia2 ib2 ∧ ia' + ib' + (y + 1) ≤ ia2 + ib2) st4 := by
            intro out4 ia3 ib3 mg3 k k1 st4 sg4 m5 l5 l6 hu hp5
            have hxa : a[ia3]? = some (a[ia3]'(by omega)) := by simp
            refine wpS_bind (elem_at hxa ?_)
            have m6 := stepA o T m5 hxa (hu _ hxa)
            by_cases he : (ia3 + 1 + 1 == a.size) = true
            · rw [if_pos he]
              exact wpS_pure ⟨sg4, .inl ⟨_, _, rfl, doneL o T m6 (by simpa using he)⟩⟩
            · rw [if_neg he]
              have he' : ¬ ia3 + 1 + 1 = a.size := by simpa using he
              have L6 : Live lt a b (out4.push a[ia3]) (ia3 + 1) ib3 := ⟨m6, by omega, l6⟩
              split
              · exact wpS_pure ⟨sg4, .inr ⟨_, _, _, _, _, _, rfl, L6, by omega⟩⟩
              · exact wpS_pure ⟨sg4, _, _, _, _, _, _, rfl, L6, by omega⟩
          have rest : ∀ (out3 : Array Keyed) (ia3 mg3 k : Nat) (st4 : SortSt), SameG st st4 → Mid lt a.toList b.toList out3.toList ia3 ib2 → ia3 + 1 < a.size → (∀ z ∈ a.toList.drop ia3, lt z b[ib2] = false) → ia' + ib' + y ≤ ia3 + ib2 →
              wpS (model prog w) A E s (do
                let z ← elem' b ib2
                if (ib2 + 1 == b.size) = true then
                  pure (ForInStep.done (some (out3.push z ++ a.extract ia3 a.size ++ b.extract (ib2 + 1) b.size), out3.push z, ia3, ib2 + 1, mg3, k, bc2))
                else do
                  let z1 ← elem' a ia3
                  let x ← gallop' true z1 b (ib2 + 1) (b.size - (ib2 + 1)) 0
                  match x with
                  | some k1 =>
                    if k1 > 0 then
                      if (ib2 + 1 + k1 == b.size) = true then
                        pure (ForInStep.done (some (out3.push z ++ b.extract (ib2 + 1) (ib2 + 1 + k1) ++ a.extract ia3 a.size ++ b.extract (ib2 + 1 + k1) b.size), out3.push z ++ b.extract (ib2 + 1) (ib2 + 1 + k1), ia3, ib2 + 1 + k1, mg3, k, k1))
                      else do
                        let z2 ← elem' a ia3
                        if (ia3 + 1 + 1 == a.size) = true then
                          pure (ForInStep.done (some ((out3.push z ++ b.extract (ib2 + 1) (ib2 + 1 + k1)).push z2 ++ b.extract (ib2 + 1 + k1) b.size ++ a.extract (ia3 + 1) a.size), (out3.push z ++ b.extract (ib2 + 1) (ib2 + 1 + k1)).push z2, ia3 + 1, ib2 + 1 + k1, mg3, k, k1))
                        else if (decide (k < 7) && decide (k1 < 7)) = true then pure (ForInStep.done (none, (out3.push z ++ b.extract (ib2 + 1) (ib2 + 1 + k1)).push z2, ia3 + 1, ib2 + 1 + k1, mg3, k, k1))
                        else pure (ForInStep.yield (none, (out3.push z ++ b.extract (ib2 + 1) (ib2 + 1 + k1)).push z2, ia3 + 1, ib2 + 1 + k1, mg3, k, k1))
                    else do
                      let z2 ← elem' a ia3
                      if (ia3 + 1 + 1 == a.size) = true then
                        pure (ForInStep.done (some ((out3.push z).push z2 ++ b.extract (ib2 + 1) b.size ++ a.extract (ia3 + 1) a.size), (out3.push z).push z2, ia3 + 1, ib2 + 1, mg3, k, k1))
                      else if (decide (k < 7) && decide (k1 < 7)) = true then pure (ForInStep.done (none, (out3.push z).push z2, ia3 + 1, ib2 + 1, mg3, k, k1))
                      else pure (ForInStep.yield (none, (out3.push z).push z2, ia3 + 1, ib2 + 1, mg3, k, k1))
                  | _ => pure (ForInStep.done (some (out3.push z ++ a.extract ia3 a.size ++ b.extract (ib2 + 1) b.size), out3.push z, ia3, ib2 + 1, mg3, k, bc2)))
              (fun r st' => match r with
                | .done c' => SameG st st' ∧ ((∃ res r, c' = (some res, r) ∧ Merged lt a.toList b.toList res.toList) ∨ ∃ out2 ia2 ib2 mg2 ac bc, c' = (none, out2, ia2, ib2, mg2, ac, bc) ∧ Live lt a b out2 ia2 ib2 ∧ ia' + ib' + 1 ≤ ia2 + ib2)
                | .yield c' => SameG st st' ∧ ∃ out2 ia2 ib2 mg2 ac bc, c' = (none, out2, ia2, ib2, mg2, ac, bc) ∧ Live lt a b out2 ia2 ib2 ∧ ia' + ib' + (y + 1) ≤ ia2 + ib2) st4 := by
            intro out3 ia3 mg3 k st4 sg4 m4 l5 hz4 hp4
            refine wpS_bind (elem_at hxb ?_)
            have m5 := stepB o T m4 hxb hz4
            by_cases he : (ib2 + 1 == b.size) = true
            · rw [if_pos he]
              exact wpS_pure ⟨sg4, .inl ⟨_, _, rfl, doneB T m5 (by simpa using he)⟩⟩
            rw [if_neg he]
            have he' : ¬ ib2 + 1 = b.size := by simpa using he
            have hxa : a[ia3]? = some (a[ia3]'(by omega)) := by simp
            refine wpS_bind (elem_at hxa ?_)
            refine wpS_bind (wpS_galL (st := st4) (base := ib2 + 1) (n := b.size - (ib2 + 1)) (hint := 0) C o (sg4.1.trans hk) (memA _ _ hxa) (by omega) (fun i z hi hz => memB _ z hz) (by omega) (fun i j y z hij hj hy hz => srt_two o T.sB (show ib2 + 1 + i ≤ ib2 + 1 + j by omega) hy hz) fun k1 hkn h1 h2 => ?_)
            dsimp only
            have m6 := m5.pushB T.sB k1 fun z hz u hu => le_rest o T.sA hxa (o.asy _ _ (low_take (P := fun z => lt z a[ia3] = true) h1 z hz)) u hu
            have e6 : (out3.push b[ib2] ++ b.extract (ib2 + 1) (ib2 + 1 + k1)).toList = (out3.push b[ib2]).toList ++ (b.toList.drop (ib2 + 1)).take k1 := by simp
            rw [← e6] at m6
            have hu6 : ∀ z, a[ia3]? = some z → ∀ u ∈ b.toList.drop (ib2 + 1 + k1), lt u z = false := fun z hz => by
              rw [hxa] at hz
              cases hz
              exact high_drop (P := fun u => lt u a[ia3] = false) fun i z hi hz => h2 i z hi (by have := (Array.getElem?_eq_some_iff.mp hz).1; omega) hz
            by_cases hk0 : k1 > 0
            · rw [if_pos hk0]
              by_cases he2 : (ib2 + 1 + k1 == b.size) = true
              · rw [if_pos he2]
                exact wpS_pure ⟨sg4, .inl ⟨_, _, rfl, doneB T m6 (by simpa using he2)⟩⟩
              · rw [if_neg he2]
                have he3 : ¬ ib2 + 1 + k1 = b.size := by simpa using he2
                exact rest2 _ ia3 (ib2 + 1 + k1) mg3 k k1 st4 sg4 m6 l5 (by omega) hu6 (by omega)
            · rw [if_neg hk0]
              have e0 : k1 = 0 := by omega
              subst e0
              exact rest2 _ ia3 (ib2 + 1) mg3 k 0 st4 sg4 m5 l5 (by omega) hu6 (by omega)
          by_cases hmg : mg2 > 1
          · rw [if_pos hmg]
            refine wpS_bind (gal_at ?_)
            have sg4 : SameG st (setGal st3 (mg2 - 1)) := sg3.gal _
            refine wpS_bind (elem_at hxb ?_)
            refine wpS_bind (wpS_galR (st := setGal st3 (mg2 - 1)) (base := ia2) (n := a.size - ia2) (hint := 0) C o (sg4.1.trans hk) (memB _ _ hxb) (by omega) (fun i z hi hz => memA _ z hz) (by omega) (fun i j y z hij hj hy hz => srt_two o T.sA (show ia2 + i ≤ ia2 + j by omega) hy hz) fun k hkn h1 h2 => ?_)
            obtain ⟨out3, e3, m4, hz4⟩ := body 0 st3 sg3 k hkn h1 h2
            dsimp only
            by_cases hk0 : k > 0
            · rw [if_pos hk0, ← e3]
              by_cases he : (ia2 + k + 1 == a.size) = true
              · rw [if_pos he]
                exact wpS_pure ⟨sg4, .inl ⟨_, _, rfl, doneL o T m4 (by simpa using he)⟩⟩
              rw [if_neg he]
              have he' : ¬ ia2 + k + 1 = a.size := by simpa using he
              by_cases he2 : (ia2 + k == a.size) = true
              · rw [if_pos he2]
                exact wpS_pure ⟨sg4, .inl ⟨_, _, rfl, doneA T m4 (by simpa using he2)⟩⟩
              rw [if_neg he2]
              have he3 : ¬ ia2 + k = a.size := by simpa using he2
              refine wpS_mono (rest out3 (ia2 + k) (mg2 - 1) k _ sg4 m4 (by omega) hz4 (by omega)) fun r st' hr => ?_
              cases r <;> exact hr
            · rw [if_neg hk0]
              have e0 : k = 0 := by omega
              subst e0
              have e5 : out3 = out2 := Array.ext' (by rw [e3]; simp)
              rw [e5] at m4
              refine wpS_mono (rest out2 ia2 (mg2 - 1) 0 _ sg4 m4 l3 hz4 hp3) fun r st' hr => ?_
              cases r <;> exact hr
          · rw [if_neg hmg]
            refine wpS_bind (gal_at ?_)
            have sg4 : SameG st (setGal st3 (mg2)) := sg3.gal _
            refine wpS_bind (elem_at hxb ?_)
            refine wpS_bind (wpS_galR (st := setGal st3 (mg2)) (base := ia2) (n := a.size - ia2) (hint := 0) C o (sg4.1.trans hk) (memB _ _ hxb) (by omega) (fun i z hi hz => memA _ z hz) (by omega) (fun i j y z hij hj hy hz => srt_two o T.sA (show ia2 + i ≤ ia2 + j by omega) hy hz) fun k hkn h1 h2 => ?_)
            obtain ⟨out3, e3, m4, hz4⟩ := body 0 st3 sg3 k hkn h1 h2
            dsimp only
            by_cases hk0 : k > 0
            · rw [if_pos hk0, ← e3]
              by_cases he : (ia2 + k + 1 == a.size) = true
              · rw [if_pos he]
                exact wpS_pure ⟨sg4, .inl ⟨_, _, rfl, doneL o T m4 (by simpa using he)⟩⟩
              rw [if_neg he]
              have he' : ¬ ia2 + k + 1 = a.size := by simpa using he
              by_cases he2 : (ia2 + k == a.size) = true
              · rw [if_pos he2]
                exact wpS_pure ⟨sg4, .inl ⟨_, _, rfl, doneA T m4 (by simpa using he2)⟩⟩
              rw [if_neg he2]
              have he3 : ¬ ia2 + k = a.size := by simpa using he2
              refine wpS_mono (rest out3 (ia2 + k) (mg2) k _ sg4 m4 (by omega) hz4 (by omega)) fun r st' hr => ?_
              cases r <;> exact hr
            · rw [if_neg hk0]
              have e0 : k = 0 := by omega
              subst e0
              have e5 : out3 = out2 := Array.ext' (by rw [e3]; simp)
              rw [e5] at m4
              refine wpS_mono (rest out2 ia2 (mg2) 0 _ sg4 m4 l3 hz4 hp3) fun r st' hr => ?_
              cases r <;> exact hr
end
end L3

set_option maxHeartbeats 4000000
namespace L3
open PySem PyProof.Rows
/-! ### the merge from above: what is out stands reversed -/
structure MidH (lt : Keyed → Keyed → Bool) (la lb R : List Keyed) (na nb : Nat) : Prop where
  perm : R.Perm (la.drop na ++ lb.drop nb)
  srt : Srt lt R
  geA : ∀ x ∈ la.take na, ∀ y ∈ R, lt y x = false
  geB : ∀ x ∈ lb.take nb, ∀ y ∈ R, lt y x = false
section
variable {lt : Keyed → Keyed → Bool} {la lb R : List Keyed} {na nb : Nat}
theorem take_cut {l : List Keyed} {i n : Nat} (h : i ≤ n) : l.take i ++ (l.take n).drop i = l.take n := by
  have := List.take_append_drop i (l.take n)
  rw [List.take_take, Nat.min_eq_left h] at this
  exact this
theorem cut_drop {l : List Keyed} {i n : Nat} (h : i ≤ n) : (l.take n).drop i ++ l.drop n = l.drop i := by
  have e := List.take_append_drop n l
  have := congrArg (List.drop i) e
  rw [List.drop_append] at this
  by_cases hl : n ≤ l.length
  · rw [List.length_take, Nat.min_eq_left hl, show i - n = 0 by omega, List.drop_zero] at this
    exact this
  · rw [List.drop_eq_nil_of_le (show l.length ≤ n by omega), List.append_nil, List.take_of_length_le (by omega)]
theorem MidH.pushA (m : MidH lt la lb R na nb) (hA : Srt lt la) {i : Nat} (hi : i ≤ na) (h : ∀ x ∈ lb.take nb, ∀ y ∈ (la.take na).drop i, lt y x = false) : MidH lt la lb ((la.take na).drop i ++ R) i nb := by
  have ht : Srt lt (la.take na) := List.Pairwise.sublist (List.take_sublist _ _) hA
  have hs := take_cut (l := la) hi
  have ht2 := ht
  unfold Srt at ht2
  rw [← hs, List.pairwise_append] at ht2
  refine ⟨?_, ?_, fun x hx y hy => ?_, fun x hx y hy => ?_⟩
  · rw [← cut_drop (l := la) hi, List.append_assoc]
    exact List.Perm.append_left _ m.perm
  · exact List.pairwise_append.mpr ⟨ht2.2.1, m.srt, fun x hx y hy => m.geA x (List.mem_of_mem_drop hx) y hy⟩
  · rcases List.mem_append.mp hy with h1 | h1
    · exact ht2.2.2 x hx y h1
    · exact m.geA x (by rw [← hs]; exact List.mem_append_left _ hx) y h1
  · rcases List.mem_append.mp hy with h1 | h1
    · exact h x hx y h1
    · exact m.geB x hx y h1
theorem MidH.pushB (m : MidH lt la lb R na nb) (hB : Srt lt lb) {i : Nat} (hi : i ≤ nb) (h : ∀ x ∈ la.take na, ∀ y ∈ (lb.take nb).drop i, lt y x = false) : MidH lt la lb ((lb.take nb).drop i ++ R) na i := by
  have ht : Srt lt (lb.take nb) := List.Pairwise.sublist (List.take_sublist _ _) hB
  have hs := take_cut (l := lb) hi
  have ht2 := ht
  unfold Srt at ht2
  rw [← hs, List.pairwise_append] at ht2
  refine ⟨?_, ?_, fun x hx y hy => ?_, fun x hx y hy => ?_⟩
  · rw [← cut_drop (l := lb) hi]
    refine (List.Perm.append_left _ m.perm).trans ?_
    rw [← List.append_assoc, ← List.append_assoc]
    exact List.Perm.append_right _ List.perm_append_comm
  · exact List.pairwise_append.mpr ⟨ht2.2.1, m.srt, fun x hx y hy => m.geB x (List.mem_of_mem_drop hx) y hy⟩
  · rcases List.mem_append.mp hy with h1 | h1
    · exact h x hx y h1
    · exact m.geA x hx y h1
  · rcases List.mem_append.mp hy with h1 | h1
    · exact ht2.2.2 x hx y h1
    · exact m.geB x (by rw [← hs]; exact List.mem_append_left _ hx) y h1
theorem MidH.endA (m : MidH lt la lb R 0 nb) (hB : Srt lt lb) : Merged lt la lb (lb.take nb ++ R) := by
  have ht : Srt lt (lb.take nb) := List.Pairwise.sublist (List.take_sublist _ _) hB
  refine ⟨?_, List.pairwise_append.mpr ⟨ht, m.srt, m.geB⟩⟩
  have p := List.Perm.append_left (lb.take nb) m.perm
  rw [List.drop_zero] at p
  refine p.trans ?_
  rw [← List.append_assoc]
  refine (List.Perm.append_right _ List.perm_append_comm).trans ?_
  rw [List.append_assoc, List.take_append_drop]
theorem MidH.endB (m : MidH lt la lb R na 0) (hA : Srt lt la) : Merged lt la lb (la.take na ++ R) := by
  have ht : Srt lt (la.take na) := List.Pairwise.sublist (List.take_sublist _ _) hA
  refine ⟨?_, List.pairwise_append.mpr ⟨ht, m.srt, m.geA⟩⟩
  have p := List.Perm.append_left (la.take na) m.perm
  rw [List.drop_zero, ← List.append_assoc, List.take_append_drop] at p
  exact p
/-- one left of the second, below all of the first -/
theorem MidH.firstB (m : MidH lt la lb R na 1) (o : KOrd lt) (hA : Srt lt la) (hB : Srt lt lb) (hl : ∀ y ∈ la, ∀ x ∈ lb.take 1, lt x y = true) : Merged lt la lb (lb.take 1 ++ la.take na ++ R) := by
  have m2 := m.pushA hA (Nat.zero_le na) fun x hx y hy => o.asy _ _ (hl y (List.mem_of_mem_take (List.mem_of_mem_drop hy)) x hx)
  rw [List.drop_zero] at m2
  have := m2.endA hB
  rw [List.append_assoc]
  exact this
end
end L3

set_option maxHeartbeats 4000000
namespace L3
open PySem PyProof.Rows
def mergeHi' : Array Keyed → Array Keyed → StateT SortSt Sem (Array Keyed) := sortPriv% PySem.Builtin.mergeHi
section
variable {prog : Program} {w : World} {A : Around} {E : Value → Shared → Prop} {s : Shared}
variable {κ : SortKind} {mem : Keyed → Prop} {lt : Keyed → Keyed → Bool}
def LiveH (lt : Keyed → Keyed → Bool) (a b out : Array Keyed) (na nb : Nat) : Prop := MidH lt a.toList b.toList out.reverse.toList na nb ∧ 0 < na ∧ 1 < nb ∧ na ≤ a.size ∧ nb ≤ b.size
theorem top_cut {arr : Array Keyed} {n : Nat} {x : Keyed} (h : arr[n]? = some x) : (arr.toList.take (n + 1)).drop n = [x] := by
  obtain ⟨hi, e⟩ := Array.getElem?_eq_some_iff.mp h
  have hl : n < arr.toList.length := by simpa using hi
  rw [List.take_succ, List.drop_append, List.drop_eq_nil_of_le (by rw [List.length_take]; omega)]
  have e2 : n - min n arr.size = 0 := by omega
  simp [h, e2]
theorem le_all {arr : Array Keyed} (o : KOrd lt) (hs : Srt lt arr.toList) {n : Nat} {x y : Keyed} (hx : arr[n]? = some x) (h : lt y x = false) : ∀ z ∈ arr.toList.take (n + 1), lt y z = false := fun z hz => by
  obtain ⟨i, hi⟩ := List.mem_iff_getElem?.mp hz
  have hlt : i < n + 1 := by
    have := (List.getElem?_eq_some_iff.mp hi).1
    rw [List.length_take] at this
    omega
  rw [List.getElem?_take_of_lt hlt] at hi
  exact o.tr z x y (srt_two o hs (show i ≤ n by omega) (by simpa using hi) hx) h
theorem ext_rev (out arr : Array Keyed) {i n : Nat} (h : i ≤ n) : (out ++ (arr.extract i n).reverse).reverse.toList = (arr.toList.take n).drop i ++ out.reverse.toList := by
  simp [List.take_drop, show i + (n - i) = n by omega]
theorem cut_mem {arr : Array Keyed} {P : Keyed → Prop} {i n : Nat} (h : ∀ j z, i ≤ j → j < n → arr[j]? = some z → P z) : ∀ z ∈ (arr.toList.take n).drop i, P z := fun z hz => by
  obtain ⟨k, hk⟩ := List.mem_iff_getElem?.mp hz
  rw [List.getElem?_drop] at hk
  have hlt : i + k < n := by
    have := (List.getElem?_eq_some_iff.mp hk).1
    rw [List.length_take] at this
    omega
  rw [List.getElem?_take_of_lt hlt] at hk
  exact h (i + k) z (by omega) hlt (by simpa using hk)
theorem stepHA {a b out : Array Keyed} {na nb : Nat} {y : Keyed} (T : Two mem lt a b) (m : MidH lt a.toList b.toList out.reverse.toList (na + 1) nb) (hy : a[na]? = some y) (h : ∀ x ∈ b.toList.take nb, lt y x = false) : MidH lt a.toList b.toList (out.push y).reverse.toList na nb := by
  have m2 := m.pushA T.sA (Nat.le_succ na) fun x hx u hu => by
    rw [top_cut hy] at hu
    rw [List.mem_singleton.mp hu]
    exact h x hx
  rw [top_cut hy] at m2
  simpa using m2
theorem stepHB {a b out : Array Keyed} {na nb : Nat} {y : Keyed} (T : Two mem lt a b) (m : MidH lt a.toList b.toList out.reverse.toList na (nb + 1)) (hy : b[nb]? = some y) (h : ∀ x ∈ a.toList.take na, lt y x = false) : MidH lt a.toList b.toList (out.push y).reverse.toList na nb := by
  have m2 := m.pushB T.sB (Nat.le_succ nb) fun x hx u hu => by
    rw [top_cut hy] at hu
    rw [List.mem_singleton.mp hu]
    exact h x hx
  rw [top_cut hy] at m2
  simpa using m2
theorem doneHA {a b out : Array Keyed} {na nb : Nat} (T : Two mem lt a b) (m : MidH lt a.toList b.toList out.reverse.toList na nb) (h : na = 0) : Merged lt a.toList b.toList (a.extract 0 na ++ b.extract 0 nb ++ out.reverse).toList := by
  subst h
  have := m.endA T.sB
  simpa using this
theorem doneHB {a b out : Array Keyed} {na nb : Nat} (T : Two mem lt a b) (m : MidH lt a.toList b.toList out.reverse.toList na nb) (h : nb = 0) : Merged lt a.toList b.toList (a.extract 0 na ++ b.extract 0 nb ++ out.reverse).toList := by
  subst h
  have := m.endB T.sA
  simpa using this
theorem doneHF {a b out : Array Keyed} {na nb : Nat} (o : KOrd lt) (T : Two mem lt a b) (m : MidH lt a.toList b.toList out.reverse.toList na nb) (h : nb = 1) : Merged lt a.toList b.toList (b.extract 0 nb ++ a.extract 0 na ++ out.reverse).toList := by
  subst h
  have pB := T.pB
  have pA := T.pA
  have hb0 : b[0]? = some (b[0]'T.pB) := by simp [T.pB]
  have ha0 : a[0]? = some (a[0]'T.pA) := by simp [T.pA]
  have := m.firstB o T.sA T.sB fun y hy x hx => by
    have e1 := top_cut hb0
    rw [List.drop_zero] at e1
    rw [e1] at hx
    rw [List.mem_singleton.mp hx]
    have hya : lt y a[0] = false := srt_head o (srt_drop T.sA 0) (drop_at ha0) y (by rw [List.drop_zero]; exact hy)
    cases q : lt b[0] y with
    | true => rfl
    | false => have := o.tr _ _ _ hya q; rw [T.first _ _ hb0 ha0] at this; cases this
  simpa using this
theorem wpS_mergeHi (C : CmpS prog w A s κ mem lt) (o : KOrd lt) {st : SortSt} (hk : kindOf st = κ) {a b : Array Keyed} (T : Two mem lt a b) {Q : Array Keyed → SortSt → Prop}
    (h : ∀ out st', SameG st st' → Merged lt a.toList b.toList out.toList → Q out st') : wpS (model prog w) A E s (mergeHi' a b) Q st := by
  refine wpS_bind (wpS_lift (wpAny_rule ⟨rfl, ?_⟩))
  have memA : ∀ i z, a[i]? = some z → mem z := fun i z hz => T.mA z (by obtain ⟨h1, h2⟩ := Array.getElem?_eq_some_iff.mp hz; rw [← h2]; simp)
  have memB : ∀ i z, b[i]? = some z → mem z := fun i z hz => T.mB z (by obtain ⟨h1, h2⟩ := Array.getElem?_eq_some_iff.mp hz; rw [← h2]; simp)
  have hpA := T.pA
  have hpB := T.pB
  have hal : a[a.size - 1]? = some (a[a.size - 1]'(by omega)) := by simp
  refine wpS_bind (elem_at hal ?_)
  have m0 : MidH lt a.toList b.toList (#[] : Array Keyed).reverse.toList (a.size - 1 + 1) b.size := by
    rw [show a.size - 1 + 1 = a.size by omega]
    exact ⟨by simp, List.Pairwise.nil, by simp, by simp⟩
  have m1 := stepHA T m0 hal fun x hx => o.asy _ _ (T.last x (List.mem_of_mem_take hx) _ hal)
  dsimp only
  by_cases ha1 : (a.size - 1 == 0) = true
  · rw [if_pos ha1]
    exact wpS_pure (h _ _ (SameG.refl _) (doneHA T m1 (by simpa using ha1)))
  rw [if_neg ha1]
  by_cases hb1 : (b.size == 1) = true
  · rw [if_pos hb1]
    exact wpS_pure (h _ _ (SameG.refl _) (doneHF o T m1 (by simpa using hb1)))
  rw [if_neg hb1]
  have ha2 : ¬ a.size - 1 = 0 := by simpa using ha1
  have hb2 : ¬ b.size = 1 := by simpa using hb1
  refine wpS_bind (wpS_get ?_)
  refine wpS_bind (wpS_mono (wpS_forRange (I := fun x c st' => SameG st st' ∧ ∃ na nb out mg, c = (none, na, nb, out, mg) ∧ LiveH lt a b out na nb ∧ na + nb + x + 1 ≤ a.size + b.size)
    (Q := fun c st' => SameG st st' ∧ ∃ res r, c = (some res, r) ∧ Merged lt a.toList b.toList res.toList) ?step ?fin ?init) ?post)
  case init => exact ⟨SameG.refl _, _, _, _, _, rfl, ⟨m1, by omega, by omega, by omega, by omega⟩, by omega⟩
  case fin =>
    rintro c st' ⟨_, na, nb, out, mg, rfl, ⟨_, h1, h2, h3, h4⟩, h5⟩
    omega
  case post =>
    rintro c st' ⟨sg, res, r, rfl, hm⟩
    exact wpS_pure (h _ _ sg hm)
  case step =>
    rintro x c st' _ hx ⟨sg, na, nb, out, mg, rfl, L, hp⟩
    dsimp only
    refine wpS_bind (wpS_mono (wpS_forRange (I := fun y c st' => SameG st st' ∧ ∃ na' nb' out' ac bc, c = (none, na', nb', out', ac, bc) ∧ LiveH lt a b out' na' nb' ∧ na' + nb' ≤ na + nb)
      (Q := fun c st' => SameG st st' ∧ ((∃ res r, c = (some res, r) ∧ Merged lt a.toList b.toList res.toList) ∨ ∃ na' nb' out' ac bc, c = (none, na', nb', out', ac, bc) ∧ LiveH lt a b out' na' nb' ∧ na' + nb' ≤ na + nb)) ?istep ?ifin ?iinit) ?ipost)
    case iinit => exact ⟨sg, _, _, _, _, _, rfl, L, Nat.le_refl _⟩
    case ifin =>
      rintro c st2 ⟨sg2, rest⟩
      exact ⟨sg2, .inr rest⟩
    case istep =>
      rintro y c st2 _ hy ⟨sg2, na', nb', out', ac, bc, rfl, ⟨m, l1, l2, l3, l4⟩, hp'⟩
      obtain ⟨n1, rfl⟩ : ∃ n1, na' = n1 + 1 := ⟨na' - 1, by omega⟩
      obtain ⟨n2, rfl⟩ : ∃ n2, nb' = n2 + 1 := ⟨nb' - 1, by omega⟩
      dsimp only [Nat.add_sub_cancel]
      have hxb : b[n2]? = some (b[n2]'(by omega)) := by simp
      have hxa : a[n1]? = some (a[n1]'(by omega)) := by simp
      refine wpS_bind (elem_at hxb (wpS_bind (elem_at hxa (wpS_bind (wpS_lt C (sg2.1.trans hk) (memB _ _ hxb) (memA _ _ hxa) ?_)))))
      cases hl : lt b[n2] a[n1] with
      | true =>
        dsimp only
        simp only [if_true]
        refine wpS_bind (elem_at hxa ?_)
        have m2 := stepHA T m hxa (le_all o T.sB hxb (o.asy _ _ hl))
        try simp only [Nat.add_sub_cancel]
        by_cases he : (n1 == 0) = true
        · rw [if_pos he]
          exact wpS_pure ⟨sg2, .inl ⟨_, _, rfl, doneHA T m2 (by simpa using he)⟩⟩
        · rw [if_neg he]
          have he' : ¬ n1 = 0 := by simpa using he
          have L2 : LiveH lt a b (out'.push a[n1]) n1 (n2 + 1) := ⟨m2, by omega, by omega, by omega, by omega⟩
          split
          · exact wpS_pure ⟨sg2, .inr ⟨_, _, _, _, _, rfl, L2, by omega⟩⟩
          · exact wpS_pure ⟨sg2, _, _, _, _, _, rfl, L2, by omega⟩
      | false =>
        dsimp only
        simp only [Bool.false_eq_true, if_false]
        refine wpS_bind (elem_at hxb ?_)
        have m2 := stepHB T m hxb (le_all o T.sA hxa hl)
        try simp only [Nat.add_sub_cancel]
        by_cases he : (n2 == 1) = true
        · rw [if_pos he]
          exact wpS_pure ⟨sg2, .inl ⟨_, _, rfl, doneHF o T m2 (by simpa using he)⟩⟩
        · rw [if_neg he]
          have he' : ¬ n2 = 1 := by simpa using he
          have L2 : LiveH lt a b (out'.push b[n2]) (n1 + 1) n2 := ⟨m2, by omega, by omega, by omega, by omega⟩
          split
          · exact wpS_pure ⟨sg2, .inr ⟨_, _, _, _, _, rfl, L2, by omega⟩⟩
          · exact wpS_pure ⟨sg2, _, _, _, _, _, rfl, L2, by omega⟩
    case ipost =>
      rintro c st2 ⟨sg2, (⟨res, r, rfl, hm⟩ | ⟨na', nb', out', ac, bc, rfl, L2, hp2⟩)⟩
      · dsimp only
        exact wpS_pure ⟨sg2, _, _, rfl, hm⟩
      · dsimp only
        refine wpS_bind (wpS_lift (wpAny_rule ⟨rfl, ?_⟩))
        refine wpS_bind (wpS_mono (wpS_forRange (I := fun y c st' => SameG st st' ∧ ∃ na2 nb2 out2 mg2 ac bc, c = (none, na2, nb2, out2, mg2, ac, bc) ∧ LiveH lt a b out2 na2 nb2 ∧ na2 + nb2 + y ≤ na' + nb')
          (Q := fun c st' => SameG st st' ∧ ((∃ res r, c = (some res, r) ∧ Merged lt a.toList b.toList res.toList) ∨ ∃ na2 nb2 out2 mg2 ac bc, c = (none, na2, nb2, out2, mg2, ac, bc) ∧ LiveH lt a b out2 na2 nb2 ∧ na2 + nb2 + 1 ≤ na' + nb')) ?jstep ?jfin ?jinit) ?jpost)
        case jinit => exact ⟨sg2, _, _, _, _, _, _, rfl, L2, Nat.le_refl _⟩
        case jfin =>
          rintro c st3 ⟨sg3, na2, nb2, out2, mg2, ac2, bc2, rfl, L3, hp3⟩
          exact ⟨sg3, .inr ⟨_, _, _, _, _, _, rfl, L3, by omega⟩⟩
        case jpost =>
          rintro c st3 ⟨sg3, (⟨res, r, rfl, hm⟩ | ⟨na2, nb2, out2, mg2, ac2, bc2, rfl, L3, hp3⟩)⟩
          · dsimp only
            exact wpS_pure ⟨sg3, _, _, rfl, hm⟩
          · dsimp only
            refine wpS_bind (gal_at ?_)
            exact wpS_pure ⟨sg3.gal _, _, _, _, _, rfl, L3, by omega⟩
        case jstep =>
          rintro y c st3 _ hy ⟨sg3, na2, nb2, out2, mg2, ac2, bc2, rfl, ⟨m3, l1, l2, l3, l4⟩, hp3⟩
          dsimp only
          have hxb : b[nb2 - 1]? = some (b[nb2 - 1]'(by omega)) := by simp
          have rest2 : ∀ (out4 : Array Keyed) (na3 nb3 mg3 k k1 : Nat) (st4 : SortSt), SameG st st4 → MidH lt a.toList b.toList out4.reverse.toList na3 nb3 → 0 < na3 → 1 < nb3 → na3 ≤ a.size → nb3 ≤ b.size → (∀ z, a[na3 - 1]? = some z → ∀ u ∈ b.toList.take nb3, lt z u = false) → na3 + nb3 + y + 1 ≤ na' + nb' →
              wpS (model prog w) A E s (do
                let z2 ← elem' a (na3 - 1)
                if (na3 - 1 == 0) = true then
                  pure (ForInStep.done (some (a.extract 0 (na3 - 1) ++ b.extract 0 nb3 ++ (out4.push z2).reverse), na3 - 1, nb3, out4.push z2, mg3, k, k1))
                else if (decide (k < 7) && decide (k1 < 7)) = true then pure (ForInStep.done (none, na3 - 1, nb3, out4.push z2, mg3, k, k1))
                else pure (ForInStep.yield (none, na3 - 1, nb3, out4.push z2, mg3, k, k1)))
              (fun r st' => match r with
                | .done c' => SameG st st' ∧ ((∃ res r, c' = (some res, r) ∧ Merged lt a.toList b.toList res.toList) ∨ ∃ na2 nb2 out2 mg2 ac bc, c' = (none, na2, nb2, out2, mg2, ac, bc) ∧ LiveH lt a b out2 na2 nb2 ∧ na2 + nb2 + 1 ≤ na' + nb')
                | .yield c' => SameG st st' ∧ ∃ na2 nb2 out2 mg2 ac bc, c' = (none, na2, nb2, out2, mg2, ac, bc) ∧ LiveH lt a b out2 na2 nb2 ∧ na2 + nb2 + (y + 1) ≤ na' + nb') st4 := by
            intro out4 na3 nb3 mg3 k k1 st4 sg4 m5 q1 q2 q3 q4 hu hp5
            have hxa : a[na3 - 1]? = some (a[na3 - 1]'(by omega)) := by simp
            refine wpS_bind (elem_at hxa ?_)
            have m6 := stepHA (na := na3 - 1) T (by rw [show na3 - 1 + 1 = na3 by omega]; exact m5) hxa (hu _ hxa)
            by_cases he : (na3 - 1 == 0) = true
            · rw [if_pos he]
              exact wpS_pure ⟨sg4, .inl ⟨_, _, rfl, doneHA T m6 (by simpa using he)⟩⟩
            · rw [if_neg he]
              have he' : ¬ na3 - 1 = 0 := by simpa using he
              have L6 : LiveH lt a b (out4.push a[na3 - 1]) (na3 - 1) nb3 := ⟨m6, by omega, by omega, by omega, by omega⟩
              split
              · exact wpS_pure ⟨sg4, .inr ⟨_, _, _, _, _, _, rfl, L6, by omega⟩⟩
              · exact wpS_pure ⟨sg4, _, _, _, _, _, _, rfl, L6, by omega⟩
          have rest : ∀ (out3 : Array Keyed) (na3 mg3 k : Nat) (st4 : SortSt), SameG st st4 → MidH lt a.toList b.toList out3.reverse.toList na3 nb2 → 0 < na3 → na3 ≤ a.size → (∀ z ∈ a.toList.take na3, lt b[nb2 - 1] z = false) → na3 + nb2 + y ≤ na' + nb' →
              wpS (model prog w) A E s (do
                let z ← elem' b (nb2 - 1)
                if (nb2 - 1 == 1) = true then
                  pure (ForInStep.done (some (b.extract 0 (nb2 - 1) ++ a.extract 0 na3 ++ (out3.push z).reverse), na3, nb2 - 1, out3.push z, mg3, k, bc2))
                else do
                  let z1 ← elem' a (na3 - 1)
                  let x ← gallop' true z1 b 0 (nb2 - 1) (nb2 - 1 - 1)
                  match x with
                  | some at1 =>
                    if nb2 - 1 - at1 > 0 then
                      if (at1 == 1) = true then
                        pure (ForInStep.done (some (b.extract 0 at1 ++ a.extract 0 na3 ++ (out3.push z ++ (b.extract at1 (nb2 - 1)).reverse).reverse), na3, at1, (out3.push z ++ (b.extract at1 (nb2 - 1)).reverse), mg3, k, nb2 - 1 - at1))
                      else if (at1 == 0) = true then
                        pure (ForInStep.done (some (a.extract 0 na3 ++ b.extract 0 at1 ++ (out3.push z ++ (b.extract at1 (nb2 - 1)).reverse).reverse), na3, at1, (out3.push z ++ (b.extract at1 (nb2 - 1)).reverse), mg3, k, nb2 - 1 - at1))
                      else do
                        let z2 ← elem' a (na3 - 1)
                        if (na3 - 1 == 0) = true then
                          pure (ForInStep.done (some (a.extract 0 (na3 - 1) ++ b.extract 0 at1 ++ ((out3.push z ++ (b.extract at1 (nb2 - 1)).reverse).push z2).reverse), na3 - 1, at1, (out3.push z ++ (b.extract at1 (nb2 - 1)).reverse).push z2, mg3, k, nb2 - 1 - at1))
                        else if (decide (k < 7) && decide (nb2 - 1 - at1 < 7)) = true then pure (ForInStep.done (none, na3 - 1, at1, (out3.push z ++ (b.extract at1 (nb2 - 1)).reverse).push z2, mg3, k, nb2 - 1 - at1))
                        else pure (ForInStep.yield (none, na3 - 1, at1, (out3.push z ++ (b.extract at1 (nb2 - 1)).reverse).push z2, mg3, k, nb2 - 1 - at1))
                    else do
                      let z2 ← elem' a (na3 - 1)
                      if (na3 - 1 == 0) = true then
                        pure (ForInStep.done (some (a.extract 0 (na3 - 1) ++ b.extract 0 (nb2 - 1) ++ ((out3.push z).push z2).reverse), na3 - 1, (nb2 - 1), (out3.push z).push z2, mg3, k, nb2 - 1 - at1))
                      else if (decide (k < 7) && decide (nb2 - 1 - at1 < 7)) = true then pure (ForInStep.done (none, na3 - 1, (nb2 - 1), (out3.push z).push z2, mg3, k, nb2 - 1 - at1))
                      else pure (ForInStep.yield (none, na3 - 1, (nb2 - 1), (out3.push z).push z2, mg3, k, nb2 - 1 - at1))
                  | _ => pure (ForInStep.done (some (a.extract 0 na3 ++ b.extract 0 (nb2 - 1) ++ (out3.push z).reverse), na3, nb2 - 1, out3.push z, mg3, k, bc2)))
              (fun r st' => match r with
                | .done c' => SameG st st' ∧ ((∃ res r, c' = (some res, r) ∧ Merged lt a.toList b.toList res.toList) ∨ ∃ na2 nb2 out2 mg2 ac bc, c' = (none, na2, nb2, out2, mg2, ac, bc) ∧ LiveH lt a b out2 na2 nb2 ∧ na2 + nb2 + 1 ≤ na' + nb')
                | .yield c' => SameG st st' ∧ ∃ na2 nb2 out2 mg2 ac bc, c' = (none, na2, nb2, out2, mg2, ac, bc) ∧ LiveH lt a b out2 na2 nb2 ∧ na2 + nb2 + (y + 1) ≤ na' + nb') st4 := by
            intro out3 na3 mg3 k st4 sg4 m4 q1 q3 hz4 hp4
            refine wpS_bind (elem_at hxb ?_)
            have m5 := stepHB (nb := nb2 - 1) T (by rw [show nb2 - 1 + 1 = nb2 by omega]; exact m4) hxb hz4
            by_cases he : (nb2 - 1 == 1) = true
            · rw [if_pos he]
              exact wpS_pure ⟨sg4, .inl ⟨_, _, rfl, doneHF o T m5 (by simpa using he)⟩⟩
            rw [if_neg he]
            have he' : ¬ nb2 - 1 = 1 := by simpa using he
            have hxa : a[na3 - 1]? = some (a[na3 - 1]'(by omega)) := by simp
            refine wpS_bind (elem_at hxa ?_)
            refine wpS_bind (wpS_galL (st := st4) (base := 0) (n := nb2 - 1) (hint := nb2 - 1 - 1) C o (sg4.1.trans hk) (memA _ _ hxa) (by omega) (fun i z hi hz => memB _ z hz) (by omega) (fun i j y z hij hj hy hz => srt_two o T.sB (show 0 + i ≤ 0 + j by omega) hy hz) fun at1 hkn h1 h2 => ?_)
            dsimp only
            have m6 := m5.pushB T.sB (i := at1) hkn fun x hx u hu => by
              have hu2 : lt u a[na3 - 1] = false := cut_mem (P := fun u => lt u a[na3 - 1] = false) (fun i z hi hn hz => h2 i z hi hn (by rw [Nat.zero_add]; exact hz)) u hu
              exact le_all o T.sA hxa hu2 x (by rw [show na3 - 1 + 1 = na3 by omega]; exact hx)
            have e6 : (out3.push b[nb2 - 1] ++ (b.extract at1 (nb2 - 1)).reverse).reverse.toList = (b.toList.take (nb2 - 1)).drop at1 ++ (out3.push b[nb2 - 1]).reverse.toList := ext_rev _ _ hkn
            rw [← e6] at m6
            have hu6 : ∀ z, a[na3 - 1]? = some z → ∀ u ∈ b.toList.take at1, lt z u = false := fun z hz => by
              rw [hxa] at hz
              cases hz
              intro u hu
              refine o.asy _ _ (low_take (base := 0) (P := fun u => lt u a[na3 - 1] = true) h1 u ?_)
              rw [List.drop_zero]
              exact hu
            by_cases hk0 : nb2 - 1 - at1 > 0
            · rw [if_pos hk0]
              by_cases he2 : (at1 == 1) = true
              · rw [if_pos he2]
                exact wpS_pure ⟨sg4, .inl ⟨_, _, rfl, doneHF o T m6 (by simpa using he2)⟩⟩
              rw [if_neg he2]
              have he3 : ¬ at1 = 1 := by simpa using he2
              by_cases he4 : (at1 == 0) = true
              · rw [if_pos he4]
                exact wpS_pure ⟨sg4, .inl ⟨_, _, rfl, doneHB T m6 (by simpa using he4)⟩⟩
              rw [if_neg he4]
              have he5 : ¬ at1 = 0 := by simpa using he4
              exact rest2 _ na3 at1 mg3 k _ st4 sg4 m6 q1 (by omega) q3 (by omega) hu6 (by omega)
            · rw [if_neg hk0]
              have e0 : at1 = nb2 - 1 := by omega
              rw [e0] at hu6
              exact rest2 _ na3 (nb2 - 1) mg3 k _ st4 sg4 m5 q1 (by omega) q3 (by omega) hu6 (by omega)
          by_cases hmg : mg2 > 1
          · rw [if_pos hmg]
            refine wpS_bind (gal_at ?_)
            have sg4 : SameG st (setGal st3 (mg2 - 1)) := sg3.gal _
            refine wpS_bind (elem_at hxb ?_)
            refine wpS_bind (wpS_galR (st := setGal st3 (mg2 - 1)) (base := 0) (n := na2) (hint := na2 - 1) C o (sg4.1.trans hk) (memB _ _ hxb) (by omega) (fun i z hi hz => memA _ z hz) (by omega) (fun i j y z hij hj hy hz => srt_two o T.sA (show 0 + i ≤ 0 + j by omega) hy hz) fun at1 hkn h1 h2 => ?_)
            have m4 := m3.pushA T.sA (i := at1) hkn fun x hx u hu => by
              have hu2 : lt b[nb2 - 1] u = true := cut_mem (P := fun u => lt b[nb2 - 1] u = true) (fun i z hi hn hz => h2 i z hi hn (by rw [Nat.zero_add]; exact hz)) u hu
              exact le_all o T.sB hxb (o.asy _ _ hu2) x (by rw [show nb2 - 1 + 1 = nb2 by omega]; exact hx)
            have e4 : (out2 ++ (a.extract at1 na2).reverse).reverse.toList = (a.toList.take na2).drop at1 ++ out2.reverse.toList := ext_rev _ _ hkn
            rw [← e4] at m4
            have hz4 : ∀ z ∈ a.toList.take at1, lt b[nb2 - 1] z = false := fun z hz => low_take (base := 0) (P := fun z => lt b[nb2 - 1] z = false) h1 z (by rw [List.drop_zero]; exact hz)
            dsimp only
            by_cases hk0 : na2 - at1 > 0
            · rw [if_pos hk0]
              by_cases he : (at1 == 0) = true
              · rw [if_pos he]
                exact wpS_pure ⟨sg4, .inl ⟨_, _, rfl, doneHA T m4 (by simpa using he)⟩⟩
              rw [if_neg he]
              have he' : ¬ at1 = 0 := by simpa using he
              refine wpS_mono (rest _ at1 (mg2 - 1) _ _ sg4 m4 (by omega) (by omega) hz4 (by omega)) fun r st' hr => ?_
              cases r <;> exact hr
            · rw [if_neg hk0]
              have e0 : at1 = na2 := by omega
              rw [e0] at hz4
              refine wpS_mono (rest out2 na2 (mg2 - 1) _ _ sg4 m3 (by omega) (by omega) hz4 hp3) fun r st' hr => ?_
              cases r <;> exact hr
          · rw [if_neg hmg]
            refine wpS_bind (gal_at ?_)
            have sg4 : SameG st (setGal st3 (mg2)) := sg3.gal _
            refine wpS_bind (elem_at hxb ?_)
            refine wpS_bind (wpS_galR (st := setGal st3 (mg2)) (base := 0) (n := na2) (hint := na2 - 1) C o (sg4.1.trans hk) (memB _ _ hxb) (by omega) (fun i z hi hz => memA _ z hz) (by omega) (fun i j y z hij hj hy hz => srt_two o T.sA (show 0 + i ≤ 0 + j by omega) hy hz) fun at1 hkn h1 h2 => ?_)
            have m4 := m3.pushA T.sA (i := at1) hkn fun x hx u hu => by
              have hu2 : lt b[nb2 - 1] u = true := cut_mem (P := fun u => lt b[nb2 - 1] u = true) (fun i z hi hn hz => h2 i z hi hn (by rw [Nat.zero_add]; exact hz)) u hu
              exact le_all o T.sB hxb (o.asy _ _ hu2) x (by rw [show nb2 - 1 + 1 = nb2 by omega]; exact hx)
            have e4 : (out2 ++ (a.extract at1 na2).reverse).reverse.toList = (a.toList.take na2).drop at1 ++ out2.reverse.toList := ext_rev _ _ hkn
            rw [← e4] at m4
            have hz4 : ∀ z ∈ a.toList.take at1, lt b[nb2 - 1] z = false := fun z hz => low_take (base := 0) (P := fun z => lt b[nb2 - 1] z = false) h1 z (by rw [List.drop_zero]; exact hz)
            dsimp only
            by_cases hk0 : na2 - at1 > 0
            · rw [if_pos hk0]
              by_cases he : (at1 == 0) = true
              · rw [if_pos he]
                exact wpS_pure ⟨sg4, .inl ⟨_, _, rfl, doneHA T m4 (by simpa using he)⟩⟩
              rw [if_neg he]
              have he' : ¬ at1 = 0 := by simpa using he
              refine wpS_mono (rest _ at1 (mg2) _ _ sg4 m4 (by omega) (by omega) hz4 (by omega)) fun r st' hr => ?_
              cases r <;> exact hr
            · rw [if_neg hk0]
              have e0 : at1 = na2 := by omega
              rw [e0] at hz4
              refine wpS_mono (rest out2 na2 (mg2) _ _ sg4 m3 (by omega) (by omega) hz4 hp3) fun r st' hr => ?_
              cases r <;> exact hr
end
end L3

set_option maxHeartbeats 4000000
namespace L3
open PySem PyProof.Rows
/-! ### runs by a number for each key, from any place on -/
def Fk (f : Keyed → Int) (xs : Array Keyed) (i : Nat) : Int := (xs[i]?.map f).getD 0
abbrev fl (f : Keyed → Int) (x y : Keyed) : Bool := decide (f x < f y)
theorem fl_ord (f : Keyed → Int) : KOrd (fl f) := ⟨fun x y h => by simp at h ⊢; omega, fun x y z h1 h2 => by simp at h1 h2 ⊢; omega⟩
/-- sorted from lo on, so many -/
def Seg (f : Keyed → Int) (xs : Array Keyed) (lo n : Nat) : Prop := ∀ i j, lo ≤ i → i ≤ j → j < lo + n → Fk f xs i ≤ Fk f xs j
def Dsc (f : Keyed → Int) (xs : Array Keyed) (lo n : Nat) : Prop := ∀ i j, lo ≤ i → i ≤ j → j < lo + n → Fk f xs j ≤ Fk f xs i
structure TB (κ : SortKind) (a₀ : Array Keyed) (st : SortSt) : Prop where
  perm : (arrOf st).Perm a₀
  kind : kindOf st = κ
  failed : failedOf st = none
/-- what a step may change: the array from lo on -/
structure Fr (lo : Nat) (st st' : SortSt) : Prop where
  pend : pendingOf st' = pendingOf st
  low : ∀ i, i < lo → (arrOf st')[i]? = (arrOf st)[i]?
theorem Fr.refl (lo : Nat) (st : SortSt) : Fr lo st st := ⟨rfl, fun _ _ => rfl⟩
theorem Fr.trans {lo : Nat} {a b c : SortSt} (h : Fr lo a b) (k : Fr lo b c) : Fr lo a c := ⟨k.pend.trans h.pend, fun i hi => (k.low i hi).trans (h.low i hi)⟩
theorem TB.size {κ : SortKind} {a₀ : Array Keyed} {st : SortSt} (h : TB κ a₀ st) : (arrOf st).size = a₀.size := h.perm.size_eq
theorem TB.set {κ : SortKind} {a₀ : Array Keyed} {st : SortSt} (h : TB κ a₀ st) {xs : Array Keyed} (hp : xs.Perm (arrOf st)) : TB κ a₀ (setArr st xs) := ⟨hp.trans h.perm, h.kind, h.failed⟩
theorem Fk_of {f : Keyed → Int} {xs ys : Array Keyed} {i j : Nat} (h : xs[i]? = ys[j]?) : Fk f xs i = Fk f ys j := by unfold Fk; rw [h]
theorem Fk_mir {f : Keyed → Int} {xs : Array Keyed} {i j : Nat} (hj : j ≤ xs.size) (k : Nat) : Fk f (mirror xs i j ((j - i) / 2)) k = if i ≤ k ∧ k < j then Fk f xs (i + j - 1 - k) else Fk f xs k := by
  have e := getElem?_mirror_all (i := i) hj k
  split
  · rename_i h; rw [if_pos h] at e; exact Fk_of e
  · rename_i h; rw [if_neg h] at e; exact Fk_of e
theorem Fk_mir_eq {f : Keyed → Int} {xs : Array Keyed} {i j : Nat} (hj : j ≤ xs.size) (he : ∀ k, i ≤ k → k < j → Fk f xs k = Fk f xs (j - 1)) (k : Nat) : Fk f (mirror xs i j ((j - i) / 2)) k = Fk f xs k := by
  rw [Fk_mir hj]
  split
  · rw [he _ (by omega) (by omega), he k (by omega) (by omega)]
  · rfl
theorem Fk_bub {f : Keyed → Int} {xs : Array Keyed} {c d : Nat} (hs : c < xs.size) (hd : d ≤ c) (k : Nat) :
    Fk f (bubble xs c d) k = if k = c - d then Fk f xs c else if c - d < k ∧ k ≤ c then Fk f xs (k - 1) else Fk f xs k := by
  have e := getElem?_bubble hs d hd k
  split
  · rename_i h; rw [if_pos h] at e; exact Fk_of e
  · rename_i h
    rw [if_neg h] at e
    split
    · rename_i h2; rw [if_pos h2] at e; exact Fk_of e
    · rename_i h2; rw [if_neg h2] at e; exact Fk_of e
theorem Fr.mir {lo : Nat} {st : SortSt} {i j : Nat} (hi : lo ≤ i) (hj : j ≤ (arrOf st).size) : Fr lo st (setArr st (mirror (arrOf st) i j ((j - i) / 2))) :=
  ⟨rfl, fun k hk => by show (mirror (arrOf st) i j ((j - i) / 2))[k]? = _; rw [getElem?_mirror_all hj, if_neg (by omega)]⟩
theorem Fr.bub {lo : Nat} {st : SortSt} {c d : Nat} (hs : c < (arrOf st).size) (hd : lo ≤ c - d) (hd2 : d ≤ c) : Fr lo st (setArr st (bubble (arrOf st) c d)) :=
  ⟨rfl, fun k hk => by show (bubble (arrOf st) c d)[k]? = _; rw [getElem?_bubble hs d hd2, if_neg (by omega), if_neg (by omega)]⟩
section
variable {prog : Program} {w : World} {A : Around} {E : Value → Shared → Prop} {s : Shared}
variable {κ : SortKind} {mem : Keyed → Prop} {f : Keyed → Int} {a₀ : Array Keyed}
theorem TB.at {st : SortSt} (h : TB κ a₀ st) (hm : ∀ x ∈ a₀.toList, mem x) {i : Nat} (hi : i < a₀.size) : ∃ x, (arrOf st)[i]? = some x ∧ mem x ∧ f x = Fk f (arrOf st) i := by
  have hi' : i < (arrOf st).size := by rw [h.size]; exact hi
  have e : (arrOf st)[i]? = some (arrOf st)[i] := getElem?_pos _ i hi'
  refine ⟨_, e, hm _ ((Array.perm_iff_toList_perm.mp h.perm).mem_iff.mp (by simp)), ?_⟩
  unfold Fk
  rw [e]
  rfl
theorem wpS_ltF (C : CmpS prog w A s κ mem (fl f)) (hm : ∀ x ∈ a₀.toList, mem x) {st : SortSt} (B : TB κ a₀ st) {i j : Nat} (hi : i < a₀.size) (hj : j < a₀.size) {Q : Option Bool → SortSt → Prop}
    (h : Q (some (decide (Fk f (arrOf st) i < Fk f (arrOf st) j))) st) : wpS (model prog w) A E s (ltAt' i j) Q st := by
  obtain ⟨x, e1, m1, k1⟩ := B.at (f := f) hm hi
  obtain ⟨y, e2, m2, k2⟩ := B.at (f := f) hm hj
  rw [ltAt'_eq]
  refine wpS_bind (wpS_get (wpS_bind (elem_at e1 (wpS_bind (elem_at e2 (wpS_lt C B.kind m1 m2 ?_))))))
  rw [← k1, ← k2] at h
  exact h
theorem revS_at {st : SortSt} {i j : Nat} {Q : Unit → SortSt → Prop} (h : Q () (setArr st (mirror (arrOf st) i j ((j - i) / 2)))) : wpS (model prog w) A E s (reverseSlice' i j) Q st := by
  rw [reverseSlice'_eq]; exact wpS_modify h
abbrev UpS := Option (Option Nat) × Nat
abbrev DnS := Option (Option Nat) × Nat × Nat
def upLoop (lo a nrem : Nat) : StateT SortSt Sem UpS := forIn [a:nrem] ((none, a) : UpS) fun _ c => do
  let q ← ltAt' (lo + c.snd) (lo + c.snd - 1)
  match q with
  | some b => if b = true then pure (.done (none, c.snd)) else pure (.yield (none, c.snd + 1))
  | _ => pure (.done (some none, c.snd))
def dnTail (lo n nrem : Nat) : StateT SortSt Sem (Option Nat) := do
  reverseSlice' lo (lo + n)
  let c ← upLoop lo n nrem
  match c.fst with
  | some r => pure r
  | none => pure (some c.snd)
def dnLoop (lo n nrem : Nat) : StateT SortSt Sem DnS := forIn [n:nrem] ((none, n, 0) : DnS) fun _ c => do
  let q ← ltAt' (lo + c.snd.fst) (lo + c.snd.fst - 1)
  match q with
  | some b =>
    if b = true then
      if c.snd.snd > 0 then do
        reverseSlice' (lo + c.snd.fst - (c.snd.snd + 1)) (lo + c.snd.fst)
        pure (.yield (none, c.snd.fst + 1, 0))
      else pure (.yield (none, c.snd.fst + 1, 0))
    else do
      let q2 ← ltAt' (lo + c.snd.fst - 1) (lo + c.snd.fst)
      match q2 with
      | some b2 => if b2 = true then pure (.done (none, c.snd.fst, c.snd.snd)) else pure (.yield (none, c.snd.fst + 1, c.snd.snd + 1))
      | _ => pure (.done (some none, c.snd.fst, c.snd.snd))
  | _ => pure (.done (some none, c.snd.fst, c.snd.snd))
def dnPart (lo n nrem : Nat) : StateT SortSt Sem (Option Nat) := do
  liftM (rule "list.sort.descending-run")
  let c ← dnLoop lo (n + 1) nrem
  match c.fst with
  | some r => pure r
  | none =>
    if c.snd.snd > 0 then do
      reverseSlice' (lo + c.snd.fst - (c.snd.snd + 1)) (lo + c.snd.fst)
      dnTail lo c.snd.fst nrem
    else dnTail lo c.snd.fst nrem
theorem count_lo (lo nrem : Nat) : countRun' lo nrem = (do
    let c ← upLoop lo 1 nrem
    match c.fst with
    | some r => pure r
    | none =>
      if (c.snd == nrem) = true then pure (some c.snd)
      else if c.snd > 1 then do
        let q ← ltAt' lo (lo + c.snd - 1)
        match q with
        | some b => if b = true then pure (some c.snd) else do
            reverseSlice' lo (lo + c.snd)
            dnPart lo c.snd nrem
        | _ => pure none
      else dnPart lo c.snd nrem) := by
  rw [countRun'_eq]
  dsimp only
  unfold dnPart dnTail dnLoop upLoop
  congr 1
  funext c
  obtain ⟨r, n⟩ := c
  cases r with
  | some r => rfl
  | none =>
    dsimp only
    split
    · rfl
    · split
      · congr 1
        funext x
        cases x with
        | none => rfl
        | some b =>
          dsimp only
          split
          · rfl
          · congr 1
            funext _r
            (congr 1; funext _u; congr 1; congr 1; funext c2; obtain ⟨r2, n2, q2⟩ := c2; cases r2 with
              | some r2 => rfl
              | none => (dsimp only; split; (congr 1; funext _v; (congr 1; funext _w; congr 1; (funext c3; obtain ⟨r3, n3⟩ := c3; cases r3 <;> rfl))); (congr 1; funext _w; congr 1; (funext c3; obtain ⟨r3, n3⟩ := c3; cases r3 <;> rfl))))
      · (congr 1; funext _u; congr 1; congr 1; funext c2; obtain ⟨r2, n2, q2⟩ := c2; cases r2 with
          | some r2 => rfl
          | none => (dsimp only; split; (congr 1; funext _v; (congr 1; funext _w; congr 1; (funext c3; obtain ⟨r3, n3⟩ := c3; cases r3 <;> rfl))); (congr 1; funext _w; congr 1; (funext c3; obtain ⟨r3, n3⟩ := c3; cases r3 <;> rfl))))
end
end L3

set_option maxHeartbeats 4000000
namespace L3
open PySem PyProof.Rows
section
variable {prog : Program} {w : World} {A : Around} {E : Value → Shared → Prop} {s : Shared}
variable {κ : SortKind} {mem : Keyed → Prop} {f : Keyed → Int} {a₀ : Array Keyed}
theorem wpS_up (C : CmpS prog w A s κ mem (fl f)) (hm : ∀ x ∈ a₀.toList, mem x) {st : SortSt} {lo a nrem : Nat} {Q : UpS → SortSt → Prop} (hn : lo + nrem ≤ a₀.size) (ha : 1 ≤ a) (han : a ≤ nrem) (B : TB κ a₀ st) (hs : Seg f (arrOf st) lo a)
    (h : ∀ n, a ≤ n → n ≤ nrem → Seg f (arrOf st) lo n → (n = nrem ∨ Fk f (arrOf st) (lo + n) < Fk f (arrOf st) (lo + n - 1)) → Q (none, n) st) : wpS (model prog w) A E s (upLoop lo a nrem) Q st := by
  unfold upLoop
  refine wpS_forRange (I := fun x c st' => st' = st ∧ c = (none, x) ∧ Seg f (arrOf st) lo x) ?step ?fin ⟨rfl, rfl, hs⟩
  case fin =>
    rintro c st' ⟨rfl, rfl, hs'⟩
    rw [show max a nrem = nrem by omega] at hs' ⊢
    exact h nrem han (Nat.le_refl _) hs' (.inl rfl)
  case step =>
    rintro x c st' hax hxn ⟨rfl, rfl, hs'⟩
    dsimp only
    refine wpS_bind (wpS_ltF C hm B (by omega) (by omega) ?_)
    by_cases hl : Fk f (arrOf st') (lo + x) < Fk f (arrOf st') (lo + x - 1)
    · simp only [hl, decide_true, if_true]
      exact wpS_pure (h x hax (by omega) hs' (.inr hl))
    · simp only [hl, decide_false, Bool.false_eq_true, if_false]
      refine wpS_pure ⟨rfl, rfl, fun i j hi hij hj => ?_⟩
      by_cases hjx : j < lo + x
      · exact hs' i j hi hij hjx
      · obtain rfl : j = lo + x := by omega
        by_cases hi' : i = lo + x
        · rw [hi']; exact Int.le_refl _
        · have := hs' i (lo + x - 1) hi (by omega) (by omega); omega
/-- what a count of a run gives -/
abbrev RunPost (f : Keyed → Int) (κ : SortKind) (a₀ : Array Keyed) (lo nrem : Nat) (st : SortSt) (Q : Option Nat → SortSt → Prop) : Prop :=
  ∀ m st', TB κ a₀ st' → Fr lo st st' → 1 ≤ m → m ≤ nrem → Seg f (arrOf st') lo m → Q (some m) st'
theorem wpS_dnTail (C : CmpS prog w A s κ mem (fl f)) (hm : ∀ x ∈ a₀.toList, mem x) {st0 st : SortSt} {lo n nrem : Nat} {Q : Option Nat → SortSt → Prop} (hn : lo + nrem ≤ a₀.size) (h1 : 1 ≤ n) (hnn : n ≤ nrem) (B : TB κ a₀ st) (F : Fr lo st0 st) (hs : Dsc f (arrOf st) lo n)
    (h : RunPost f κ a₀ lo nrem st0 Q) : wpS (model prog w) A E s (dnTail lo n nrem) Q st := by
  unfold dnTail
  have hsz : lo + n ≤ (arrOf st).size := by rw [B.size]; omega
  refine wpS_bind (revS_at ?_)
  have B' : TB κ a₀ (setArr st (mirror (arrOf st) lo (lo + n) ((lo + n - lo) / 2))) := B.set (mirror_perm _ _ _ _)
  have F' := F.trans (Fr.mir (Nat.le_refl lo) hsz)
  refine wpS_bind (wpS_up C hm hn h1 hnn B' ?_ fun m hm1 hm2 hsm _ => wpS_pure (h m _ B' F' (by omega) hm2 hsm))
  intro i j hi hij hj
  show Fk f (mirror (arrOf st) lo (lo + n) ((lo + n - lo) / 2)) i ≤ Fk f (mirror (arrOf st) lo (lo + n) ((lo + n - lo) / 2)) j
  rw [Fk_mir hsz, Fk_mir hsz, if_pos (by omega), if_pos (by omega)]
  exact hs _ _ (by omega) (by omega) (by omega)
theorem dsc_more {xs ys : Array Keyed} {lo x : Nat} (h1 : 1 ≤ x) (hs : Dsc f xs lo x) (hk : ∀ k, Fk f ys k = Fk f xs k) (hl : Fk f xs (lo + x) ≤ Fk f xs (lo + x - 1)) : Dsc f ys lo (x + 1) := by
  intro i j hi hij hj
  rw [hk, hk]
  by_cases hjx : j < lo + x
  · exact hs i j hi hij hjx
  · obtain rfl : j = lo + x := by omega
    by_cases hi' : i = lo + x
    · rw [hi']; exact Int.le_refl _
    · have := hs i (lo + x - 1) hi (by omega) (by omega); omega
theorem wpS_dnLoop (C : CmpS prog w A s κ mem (fl f)) (hm : ∀ x ∈ a₀.toList, mem x) {st0 st : SortSt} {lo n nrem : Nat} {Q : DnS → SortSt → Prop} (hn : lo + nrem ≤ a₀.size) (h1 : 1 ≤ n) (hnn : n ≤ nrem) (B : TB κ a₀ st) (F : Fr lo st0 st) (hs : Dsc f (arrOf st) lo n)
    (h : ∀ m q st', TB κ a₀ st' → Fr lo st0 st' → n ≤ m → m ≤ nrem → Dsc f (arrOf st') lo m → q + 1 ≤ m → (∀ i, lo + m - (q + 1) ≤ i → i < lo + m → Fk f (arrOf st') i = Fk f (arrOf st') (lo + m - 1)) → Q (none, m, q) st') :
    wpS (model prog w) A E s (dnLoop lo n nrem) Q st := by
  unfold dnLoop
  refine wpS_forRange (I := fun x c st' => ∃ q, c = (none, x, q) ∧ TB κ a₀ st' ∧ Fr lo st0 st' ∧ Dsc f (arrOf st') lo x ∧ q + 1 ≤ x ∧ ∀ i, lo + x - (q + 1) ≤ i → i < lo + x → Fk f (arrOf st') i = Fk f (arrOf st') (lo + x - 1)) ?step ?fin ⟨0, rfl, B, F, hs, by omega, fun i h1 h2 => by congr 1; omega⟩
  case fin =>
    rintro c st' ⟨q, rfl, B', F', hs', hq, he⟩
    rw [show max n nrem = nrem by omega] at hs' hq he ⊢
    exact h nrem q st' B' F' hnn (Nat.le_refl _) hs' hq he
  case step =>
    rintro x c st' hax hxn ⟨q, rfl, B', F', hs', hq, he⟩
    dsimp only
    have hsz : lo + x ≤ (arrOf st').size := by rw [B'.size]; omega
    refine wpS_bind (wpS_ltF C hm B' (by omega) (by omega) ?_)
    by_cases hl : Fk f (arrOf st') (lo + x) < Fk f (arrOf st') (lo + x - 1)
    · simp only [hl, decide_true, if_true]
      by_cases hq0 : q > 0
      · rw [if_pos hq0]
        exact wpS_bind (revS_at (wpS_pure ⟨0, rfl, B'.set (mirror_perm _ _ _ _), F'.trans (Fr.mir (by omega) hsz), dsc_more (by omega) hs' (Fk_mir_eq hsz he) (Int.le_of_lt hl), by omega, fun i h1 h2 => by congr 1; omega⟩))
      · rw [if_neg hq0]
        exact wpS_pure ⟨0, rfl, B', F', dsc_more (by omega) hs' (fun _ => rfl) (Int.le_of_lt hl), by omega, fun i h1 h2 => by congr 1; omega⟩
    · simp only [hl, decide_false, Bool.false_eq_true, if_false]
      refine wpS_bind (wpS_ltF C hm B' (by omega) (by omega) ?_)
      by_cases hg : Fk f (arrOf st') (lo + x - 1) < Fk f (arrOf st') (lo + x)
      · simp only [hg, decide_true, if_true]
        exact wpS_pure (h x q st' B' F' hax (by omega) hs' hq he)
      · simp only [hg, decide_false, Bool.false_eq_true, if_false]
        have hx : Fk f (arrOf st') (lo + x) = Fk f (arrOf st') (lo + x - 1) := by omega
        refine wpS_pure ⟨q + 1, rfl, B', F', dsc_more (by omega) hs' (fun _ => rfl) (by omega), by omega, fun i h1 h2 => ?_⟩
        rw [show lo + (x + 1) - 1 = lo + x by omega]
        by_cases hix : i = lo + x
        · rw [hix]
        · rw [hx]; exact he i (by omega) (by omega)
theorem wpS_dnPart (C : CmpS prog w A s κ mem (fl f)) (hm : ∀ x ∈ a₀.toList, mem x) {st0 st : SortSt} {lo n nrem : Nat} {Q : Option Nat → SortSt → Prop} (hn : lo + nrem ≤ a₀.size) (hnn : n + 1 ≤ nrem) (B : TB κ a₀ st) (F : Fr lo st0 st) (hs : Dsc f (arrOf st) lo (n + 1))
    (h : RunPost f κ a₀ lo nrem st0 Q) : wpS (model prog w) A E s (dnPart lo n nrem) Q st := by
  unfold dnPart
  refine wpS_bind (wpS_lift (wpAny_rule ⟨rfl, ?_⟩))
  refine wpS_bind (wpS_dnLoop C hm hn (by omega) hnn B F hs fun m q st' B' F' hm1 hm2 hs' hq he => ?_)
  dsimp only
  have hsz : lo + m ≤ (arrOf st').size := by rw [B'.size]; omega
  by_cases hq0 : q > 0
  · rw [if_pos hq0]
    refine wpS_bind (revS_at (wpS_dnTail C hm hn (by omega) hm2 (B'.set (mirror_perm _ _ _ _)) (F'.trans (Fr.mir (by omega) hsz)) ?_ h))
    intro i j hi hij hj
    show Fk f (mirror (arrOf st') _ _ _) j ≤ Fk f (mirror (arrOf st') _ _ _) i
    rw [Fk_mir_eq hsz he, Fk_mir_eq hsz he]
    exact hs' i j hi hij hj
  · rw [if_neg hq0]
    exact wpS_dnTail C hm hn (by omega) hm2 B' F' hs' h
theorem wpS_run (C : CmpS prog w A s κ mem (fl f)) (hm : ∀ x ∈ a₀.toList, mem x) {st : SortSt} {lo nrem : Nat} {Q : Option Nat → SortSt → Prop} (hn : lo + nrem ≤ a₀.size) (h1 : 1 ≤ nrem) (B : TB κ a₀ st) (h : RunPost f κ a₀ lo nrem st Q) :
    wpS (model prog w) A E s (countRun' lo nrem) Q st := by
  rw [count_lo]
  refine wpS_bind (wpS_up C hm hn (Nat.le_refl 1) h1 B (fun i j hi hij hj => by obtain rfl : i = j := by omega
                                                                                exact Int.le_refl _) fun n hn1 hn2 hsn hor => ?_)
  dsimp only
  by_cases hnn : n = nrem
  · rw [if_pos (by simpa using hnn)]
    exact wpS_pure (h n st B (Fr.refl _ _) hn1 hn2 hsn)
  · rw [if_neg (by simpa using hnn)]
    have hlt : Fk f (arrOf st) (lo + n) < Fk f (arrOf st) (lo + n - 1) := hor.resolve_left hnn
    by_cases hgt : n > 1
    · rw [if_pos hgt]
      refine wpS_bind (wpS_ltF C hm B (by omega) (by omega) ?_)
      by_cases hr : Fk f (arrOf st) lo < Fk f (arrOf st) (lo + n - 1)
      · simp only [hr, decide_true, if_true]
        exact wpS_pure (h n st B (Fr.refl _ _) hn1 hn2 hsn)
      · simp only [hr, decide_false, Bool.false_eq_true, if_false]
        have hsz : lo + n ≤ (arrOf st).size := by rw [B.size]; omega
        have hall : ∀ k, lo ≤ k → k < lo + n → Fk f (arrOf st) k = Fk f (arrOf st) (lo + n - 1) := by
          intro k hlk hk
          have a1 := hsn lo k (by omega) hlk hk
          have a2 := hsn k (lo + n - 1) (by omega) (by omega) (by omega)
          omega
        refine wpS_bind (revS_at (wpS_dnPart C hm hn (by omega) (B.set (mirror_perm _ _ _ _)) (Fr.mir (Nat.le_refl lo) hsz) (dsc_more (xs := arrOf st) hn1 ?_ (Fk_mir_eq hsz hall) (Int.le_of_lt hlt)) h))
        intro i j hi hij hj
        rw [hall i (by omega) (by omega), hall j (by omega) hj]
        exact Int.le_refl _
    · rw [if_neg hgt]
      obtain rfl : n = 1 := by omega
      refine wpS_dnPart C hm hn (by omega) B (Fr.refl _ _) (dsc_more (xs := arrOf st) hn1 ?_ (fun _ => rfl) (Int.le_of_lt hlt)) h
      intro i j hi hij hj
      obtain rfl : i = j := by omega
      exact Int.le_refl _
theorem wpS_ins (C : CmpS prog w A s κ mem (fl f)) (hm : ∀ x ∈ a₀.toList, mem x) {st : SortSt} {lo n ok : Nat} {Q : Bool → SortSt → Prop} (hn : lo + n ≤ a₀.size) (hok : ok ≤ n) (B : TB κ a₀ st) (hs : Seg f (arrOf st) lo ok)
    (h : ∀ st', TB κ a₀ st' → Fr lo st st' → Seg f (arrOf st') lo n → Q true st') : wpS (model prog w) A E s (binarySort' lo n ok) Q st := by
  rw [binarySort'_eq]
  refine wpS_bind (wpS_mono (wpS_forRange (I := fun k c st' => c = (none, ()) ∧ TB κ a₀ st' ∧ Fr lo st st' ∧ Seg f (arrOf st') lo (min k n)) (Q := fun c st' => c = (none, ()) ∧ TB κ a₀ st' ∧ Fr lo st st' ∧ Seg f (arrOf st') lo n) ?step ?fin ?init) ?post)
  case post =>
    rintro c st' ⟨rfl, B', F', hs'⟩
    exact wpS_pure (h st' B' F' hs')
  case init =>
    refine ⟨rfl, B, Fr.refl _ _, fun i j hi hij hj => ?_⟩
    by_cases h1 : ok = 0
    · obtain rfl : i = j := by omega
      exact Int.le_refl _
    · exact hs i j hi hij (by omega)
  case fin =>
    rintro c st' ⟨hc, B', F', hs'⟩
    refine ⟨hc, B', F', ?_⟩
    rwa [show min (max (max ok 1) n) n = n by omega] at hs'
  case step =>
    rintro k c st' hak hkn ⟨rfl, B', F', hs'⟩
    rw [show min k n = k by omega] at hs'
    have hk : lo + k < a₀.size := by omega
    refine wpS_bind (wpS_mono (wpS_forRange (I := fun x c st'' => st'' = st' ∧ ∃ l r, c = (none, l, r) ∧ l ≤ r ∧ r ≤ k ∧ r - l ≤ k - x ∧ (∀ i, i < l → Fk f (arrOf st') (lo + i) ≤ Fk f (arrOf st') (lo + k)) ∧ ∀ i, r ≤ i → i < k → Fk f (arrOf st') (lo + k) < Fk f (arrOf st') (lo + i))
      (Q := fun c st'' => st'' = st' ∧ ∃ l r, c = (none, l, r) ∧ l ≤ k ∧ (∀ i, i < l → Fk f (arrOf st') (lo + i) ≤ Fk f (arrOf st') (lo + k)) ∧ ∀ i, l ≤ i → i < k → Fk f (arrOf st') (lo + k) < Fk f (arrOf st') (lo + i)) ?istep ?ifin ?iinit) ?ipost)
    case iinit => exact ⟨rfl, 0, k, rfl, by omega, by omega, by omega, fun i hi => by omega, fun i h1 h2 => by omega⟩
    case ifin =>
      rintro c st'' ⟨rfl, l, r, rfl, hlr, hrk, hmm, hlo, hhi⟩
      obtain rfl : l = r := by omega
      exact ⟨rfl, l, l, rfl, hrk, hlo, hhi⟩
    case istep =>
      rintro x c st'' _ hxk ⟨rfl, l, r, rfl, hlr, hrk, hmm, hlo, hhi⟩
      dsimp only
      by_cases hge : l ≥ r
      · rw [if_pos hge]
        obtain rfl : l = r := by omega
        exact wpS_pure ⟨rfl, l, l, rfl, hrk, hlo, hhi⟩
      · rw [if_neg hge]
        refine wpS_bind (wpS_ltF C hm B' hk (by omega) ?_)
        by_cases hl : Fk f (arrOf st'') (lo + k) < Fk f (arrOf st'') (lo + (l + r) / 2)
        · simp only [hl, decide_true, if_true]
          refine wpS_pure ⟨rfl, l, (l + r) / 2, rfl, by omega, by omega, by omega, hlo, fun i h1 h2 => ?_⟩
          have := hs' (lo + (l + r) / 2) (lo + i) (by omega) (by omega) (by omega)
          omega
        · simp only [hl, decide_false, Bool.false_eq_true, if_false]
          refine wpS_pure ⟨rfl, (l + r) / 2 + 1, r, rfl, by omega, by omega, by omega, fun i h1 => ?_, hhi⟩
          have := hs' (lo + i) (lo + (l + r) / 2) (by omega) (by omega) (by omega)
          omega
    case ipost =>
      rintro c st'' ⟨rfl, l, r, rfl, hlk, hlo, hhi⟩
      show wpS _ _ _ _ (do moveDown' (lo + k) (lo + l); pure (ForInStep.yield (none, ()))) _ _
      rw [moveDown'_eq]
      have hks : lo + k < (arrOf st'').size := by rw [B'.size]; exact hk
      refine wpS_bind (wpS_modify (wpS_pure ⟨rfl, B'.set (bubble_perm _ _ _), F'.trans (Fr.bub hks (by omega) (by omega)), ?_⟩))
      rw [show min (k + 1) n = k + 1 by omega]
      intro i j hi hij hj
      show Fk f (bubble (arrOf st'') (lo + k) (lo + k - (lo + l))) i ≤ Fk f (bubble (arrOf st'') (lo + k) (lo + k - (lo + l))) j
      rw [Fk_bub hks (by omega), Fk_bub hks (by omega), show lo + k - (lo + k - (lo + l)) = lo + l by omega]
      have hlo' : ∀ i, lo ≤ i → i < lo + l → Fk f (arrOf st'') i ≤ Fk f (arrOf st'') (lo + k) := fun i a1 a2 => by
        have := hlo (i - lo) (by omega)
        rwa [show lo + (i - lo) = i by omega] at this
      have hhi' : ∀ i, lo + l ≤ i → i < lo + k → Fk f (arrOf st'') (lo + k) < Fk f (arrOf st'') i := fun i a1 a2 => by
        have := hhi (i - lo) (by omega) (by omega)
        rwa [show lo + (i - lo) = i by omega] at this
      repeat' split
      all_goals first
        | (exfalso; omega)
        | exact Int.le_refl _
        | exact hlo' _ (by omega) (by omega)
        | exact Int.le_of_lt (hhi' _ (by omega) (by omega))
        | exact hs' _ _ (by omega) (by omega) (by omega)
end
end L3

set_option maxHeartbeats 4000000
namespace L3
open PySem PyProof.Rows
/-- one list set into an array from a place on -/
def splice (arr : Array Keyed) (l : List (Keyed × Nat)) (sa : Nat) : Array Keyed := l.foldl (fun a q => a.setIfInBounds (sa + q.2) q.1) arr
theorem splice_size (sa : Nat) : ∀ (l : List (Keyed × Nat)) (arr : Array Keyed), (splice arr l sa).size = arr.size
  | [], arr => rfl
  | q :: l, arr => by
    show (splice (arr.setIfInBounds (sa + q.2) q.1) l sa).size = _
    rw [splice_size sa l]; simp
theorem splice_get (sa : Nat) : ∀ (l : List Keyed) (o : Nat) (arr : Array Keyed), sa + o + l.length ≤ arr.size → ∀ k, (splice arr (l.zipIdx o) sa)[k]? = if sa + o ≤ k ∧ k < sa + o + l.length then l[k - (sa + o)]? else arr[k]?
  | [], o, arr, h, k => by
    show arr[k]? = _
    rw [if_neg (by show ¬ (sa + o ≤ k ∧ k < sa + o + 0); omega)]
  | x :: l, o, arr, h, k => by
    have h' : sa + o + (l.length + 1) ≤ arr.size := by simpa using h
    show (splice (arr.setIfInBounds (sa + o) x) (l.zipIdx (o + 1)) sa)[k]? = _
    rw [splice_get sa l (o + 1) _ (by simp; omega) k]
    by_cases hk : k = sa + o
    · rw [if_neg (by omega), if_pos (by simp; omega), hk]
      simp [Array.getElem?_setIfInBounds]
      omega
    · by_cases h2 : sa + (o + 1) ≤ k ∧ k < sa + (o + 1) + l.length
      · rw [if_pos h2, if_pos (by simp; omega)]
        obtain ⟨d, hd⟩ : ∃ d, k - (sa + o) = d + 1 := ⟨k - (sa + o) - 1, by omega⟩
        rw [hd, List.getElem?_cons_succ]
        congr 1
        omega
      · rw [if_neg h2, if_neg (by simp; omega), Array.getElem?_setIfInBounds_ne (by omega)]
theorem splice_list {arr : Array Keyed} {l : List Keyed} {sa : Nat} (h : sa + l.length ≤ arr.size) : (splice arr l.zipIdx sa).toList = arr.toList.take sa ++ l ++ arr.toList.drop (sa + l.length) := by
  apply List.ext_getElem?
  intro k
  have e := splice_get sa l 0 arr (by omega) k
  rw [Array.getElem?_toList, e]
  have hs : arr.toList.length = arr.size := by simp
  by_cases h1 : k < sa
  · rw [if_neg (by omega), List.append_assoc, List.getElem?_append_left (by simp; omega), List.getElem?_take_of_lt h1, Array.getElem?_toList]
  · by_cases h2 : k < sa + l.length
    · rw [if_pos (by omega), List.append_assoc, List.getElem?_append_right (by simp; omega), List.getElem?_append_left (by simp; omega)]
      congr 1
      simp
      omega
    · rw [if_neg (by omega), List.getElem?_append_right (by simp; omega), List.getElem?_drop, Array.getElem?_toList]
      congr 1
      simp
      omega
theorem splice_perm {arr : Array Keyed} {l : List Keyed} {sa e : Nat} (he : sa ≤ e) (h : e ≤ arr.size) (hp : l.Perm (arr.extract sa e).toList) : (splice arr l.zipIdx sa).Perm arr := by
  have hl : l.length = e - sa := by rw [hp.length_eq]; simp; omega
  rw [Array.perm_iff_toList_perm, splice_list (by omega)]
  have e2 : arr.toList = arr.toList.take sa ++ (arr.extract sa e).toList ++ arr.toList.drop (sa + l.length) := by
    rw [hl, show sa + (e - sa) = e by omega]
    have : (arr.extract sa e).toList = (arr.toList.drop sa).take (e - sa) := by simp
    rw [this]
    conv => lhs; rw [← List.take_append_drop sa arr.toList, ← List.take_append_drop (e - sa) (arr.toList.drop sa), List.drop_drop, show sa + (e - sa) = e by omega]
    rw [List.append_assoc]
  refine List.Perm.trans ?_ (List.Perm.of_eq e2.symm)
  exact (List.Perm.append_left _ hp).append_right _
/-- where an item of the merged part stood -/
theorem splice_from {f : Keyed → Int} {arr : Array Keyed} {l : List Keyed} {sa e : Nat} (he : sa ≤ e) (h : e ≤ arr.size) (hp : l.Perm (arr.extract sa e).toList) {k : Nat} (h1 : sa ≤ k) (h2 : k < e) : ∃ q, sa ≤ q ∧ q < e ∧ Fk f (splice arr l.zipIdx sa) k = Fk f arr q := by
  have hl : l.length = e - sa := by rw [hp.length_eq]; simp; omega
  have e1 := splice_get sa l 0 arr (by omega) k
  rw [if_pos (by omega)] at e1
  have hk : k - (sa + 0) < l.length := by omega
  have hx : l[k - (sa + 0)] ∈ (arr.extract sa e).toList := hp.mem_iff.mp (List.getElem_mem hk)
  obtain ⟨q, hq⟩ := List.mem_iff_getElem?.mp hx
  rw [Array.getElem?_toList] at hq
  have hq2 : q < (arr.extract sa e).size := (Array.getElem?_eq_some_iff.mp hq).1
  have hq3 : q < e - sa := by have := hq2; simp at this; omega
  rw [Array.getElem?_extract, if_pos (by omega)] at hq
  refine ⟨sa + q, by omega, by omega, Fk_of ?_⟩
  rw [e1, hq, getElem?_pos l _ hk]
theorem splice_out {f : Keyed → Int} {arr : Array Keyed} {l : List Keyed} {sa e : Nat} (he : sa ≤ e) (h : e ≤ arr.size) (hl : l.length = e - sa) {k : Nat} (h1 : k < sa ∨ e ≤ k) : (splice arr l.zipIdx sa)[k]? = arr[k]? := by
  rw [splice_get sa l 0 arr (by omega) k, if_neg (by omega)]
theorem splice_srt {f : Keyed → Int} {arr : Array Keyed} {l : List Keyed} {sa e : Nat} (he : sa ≤ e) (h : e ≤ arr.size) (hl : l.length = e - sa) (hs : Srt (fl f) l) : Seg f (splice arr l.zipIdx sa) sa (e - sa) := by
  intro i j hi hij hj
  have e1 := splice_get sa l 0 arr (by omega) i
  have e2 := splice_get sa l 0 arr (by omega) j
  rw [if_pos (by omega)] at e1 e2
  have hi2 : i - (sa + 0) < l.length := by omega
  have hj2 : j - (sa + 0) < l.length := by omega
  rw [getElem?_pos l _ hi2] at e1
  rw [getElem?_pos l _ hj2] at e2
  unfold Fk
  rw [e1, e2]
  show f _ ≤ f _
  by_cases hq : i = j
  · subst hq; exact Int.le_refl _
  · have := List.pairwise_iff_getElem.mp hs (i - (sa + 0)) (j - (sa + 0)) hi2 hj2 (by omega)
    simpa using this
section
variable {prog : Program} {w : World} {A : Around} {E : Value → Shared → Prop} {s : Shared}
variable {κ : SortKind} {mem : Keyed → Prop} {f : Keyed → Int} {a₀ : Array Keyed}
theorem set_at {st st' : SortSt} {Q : PUnit → SortSt → Prop} (h : Q ⟨⟩ st') : wpS (model prog w) A E s (set st' : StateT SortSt Sem PUnit) Q st := by
  unfold wpS; rw [StateT.run_set]; exact wpAny_pure ⟨rfl, h⟩
theorem Fk_some {xs : Array Keyed} {i : Nat} {x : Keyed} (h : xs[i]? = some x) : Fk f xs i = f x := by unfold Fk; rw [h]; rfl
theorem wpS_mergeAt (C : CmpS prog w A s κ mem (fl f)) (hm : ∀ x ∈ a₀.toList, mem x) {st : SortSt} {i sa na pa sb nb pb : Nat} (B : TB κ a₀ st) (hi : (pendingOf st)[i]? = some (sa, na, pa)) (hi1 : (pendingOf st)[i + 1]? = some (sb, nb, pb)) (hsb : sb = sa + na) (hna : 1 ≤ na) (hnb : 1 ≤ nb) (hsz : sb + nb ≤ a₀.size)
    (sA : Seg f (arrOf st) sa na) (sB : Seg f (arrOf st) sb nb) {Q : Bool → SortSt → Prop}
    (h : ∀ st', TB κ a₀ st' → pendingOf st' = ((pendingOf st).setIfInBounds i (sa, na + nb, pa)).eraseIdxIfInBounds (i + 1) → (∀ k, k < sa ∨ sb + nb ≤ k → (arrOf st')[k]? = (arrOf st)[k]?) → Seg f (arrOf st') sa (na + nb) → Q true st') :
    wpS (model prog w) A E s (mergeAt' i) Q st := by
  refine wpS_bind (wpS_get ?_)
  rw [hi, hi1]
  dsimp only
  refine wpS_bind (set_at ?_)
  have B1 : TB κ a₀ (SortSt.mk' (kindOf st) (arrOf st) (((pendingOf st).setIfInBounds i (sa, na + nb, pa)).eraseIdxIfInBounds (i + 1)) (gallopOf st) (failedOf st)) := ⟨B.perm, B.kind, B.failed⟩
  have h1 := h _ B1 rfl
  have h2 : ∀ (g : Nat) (arr' : Array Keyed), arr'.Perm (arrOf st) → (∀ k, k < sa ∨ sb + nb ≤ k → arr'[k]? = (arrOf st)[k]?) → Seg f arr' sa (na + nb) → Q true (SortSt.mk' (kindOf st) arr' (((pendingOf st).setIfInBounds i (sa, na + nb, pa)).eraseIdxIfInBounds (i + 1)) g (failedOf st)) :=
    fun g arr' hp ho hs => h (SortSt.mk' (kindOf st) arr' (((pendingOf st).setIfInBounds i (sa, na + nb, pa)).eraseIdxIfInBounds (i + 1)) g (failedOf st)) ⟨hp.trans B.perm, B.kind, B.failed⟩ rfl ho hs
  have hsize := B.size
  show wpS (model prog w) A E s _ Q (SortSt.mk' (kindOf st) (arrOf st) (((pendingOf st).setIfInBounds i (sa, na + nb, pa)).eraseIdxIfInBounds (i + 1)) (gallopOf st) (failedOf st))
  generalize hst1 : SortSt.mk' (kindOf st) (arrOf st) (((pendingOf st).setIfInBounds i (sa, na + nb, pa)).eraseIdxIfInBounds (i + 1)) (gallopOf st) (failedOf st) = st1 at B1 h1 ⊢
  obtain ⟨xb, exb, mxb, fxb⟩ := B.at (f := f) hm (show sb < a₀.size by omega)
  have memA : ∀ i z, (arrOf st)[i]? = some z → mem z := fun i z hz => hm z ((Array.perm_iff_toList_perm.mp B.perm).mem_iff.mp (by obtain ⟨h1, h2⟩ := Array.getElem?_eq_some_iff.mp hz; rw [← h2]; simp))
  have isA : arrOf st1 = arrOf st := by rw [← hst1]
  refine wpS_bind (elem_at exb (wpS_bind (wpS_galR (st := st1) (base := sa) (n := na) (hint := 0) C (fl_ord f) B1.kind mxb (by omega) (fun i z hi hz => memA _ z hz) (by omega) (fun i j y z hij hj hy hz => ?_) fun k hkn g1 g2 => ?_)))
  · have := sA (sa + i) (sa + j) (by omega) (by omega) (by omega)
    rw [Fk_some hy, Fk_some hz] at this
    simpa using this
  have g1' : ∀ q, sa ≤ q → q < sa + k → Fk f (arrOf st) q ≤ Fk f (arrOf st) sb := fun q q1 q2 => by
    obtain ⟨z, ez, _, fz⟩ := B.at (f := f) hm (show q < a₀.size by omega)
    have := g1 (q - sa) z (by omega) (by rw [show sa + (q - sa) = q by omega]; exact ez)
    rw [← fxb, ← fz]
    simpa using this
  dsimp only
  by_cases hk0 : (na - k == 0) = true
  · rw [if_pos hk0]
    have hk1 : na - k = 0 := by simpa using hk0
    refine wpS_pure (h1 (fun q _ => by rw [isA]) ?_)
    rw [isA]
    intro i j hi hij hj
    by_cases hj2 : j < sb
    · exact sA i j hi hij (by omega)
    · by_cases hi2 : i < sb
      · have a1 := g1' i hi (by omega)
        have a2 := sB sb j (Nat.le_refl _) (by omega) (by omega)
        omega
      · exact sB i j (by omega) hij (by omega)
  rw [if_neg hk0]
  have hk1 : k < na := by have : ¬ na - k = 0 := by simpa using hk0
                          omega
  obtain ⟨xl, exl, mxl, fxl⟩ := B.at (f := f) hm (show sb - 1 < a₀.size by omega)
  have exl' : (arrOf st)[sa + k + (na - k) - 1]? = some xl := by rw [show sa + k + (na - k) - 1 = sb - 1 by omega]; exact exl
  refine wpS_bind (elem_at exl' (wpS_bind (wpS_galL (st := st1) (base := sb) (n := nb) (hint := nb - 1) C (fl_ord f) B1.kind mxl (by omega) (fun i z hi hz => memA _ z hz) (by omega) (fun i j y z hij hj hy hz => ?_) fun n2 hn2 g3 g4 => ?_)))
  · have := sB (sb + i) (sb + j) (by omega) (by omega) (by omega)
    rw [Fk_some hy, Fk_some hz] at this
    simpa using this
  have g4' : ∀ q, sb + n2 ≤ q → q < sb + nb → Fk f (arrOf st) (sb - 1) ≤ Fk f (arrOf st) q := fun q q1 q2 => by
    obtain ⟨z, ez, _, fz⟩ := B.at (f := f) hm (show q < a₀.size by omega)
    have := g4 (q - sb) z (by omega) (by omega) (by rw [show sb + (q - sb) = q by omega]; exact ez)
    rw [← fxl, ← fz]
    simpa using this
  dsimp only
  by_cases hn0 : (n2 == 0) = true
  · rw [if_pos hn0]
    have hn1 : n2 = 0 := by simpa using hn0
    refine wpS_pure (h1 (fun q _ => by rw [isA]) ?_)
    rw [isA]
    intro i j hi hij hj
    by_cases hj2 : j < sb
    · exact sA i j hi hij (by omega)
    · by_cases hi2 : i < sb
      · have a1 := sA i (sb - 1) hi (by omega) (by omega)
        have a2 := g4' j (by omega) (by omega)
        omega
      · exact sB i j (by omega) hij (by omega)
  rw [if_neg hn0]
  have hn1 : 1 ≤ n2 := by have : ¬ n2 = 0 := by simpa using hn0
                          omega
  have ga : ∀ q, ((arrOf st).extract (sa + k) sb)[q]? = if q < sb - (sa + k) then (arrOf st)[sa + k + q]? else none := fun q => by
    rw [Array.getElem?_extract]
    have : min sb (arrOf st).size = sb := by omega
    rw [this]
  have gb : ∀ q, ((arrOf st).extract sb (sb + n2))[q]? = if q < n2 then (arrOf st)[sb + q]? else none := fun q => by
    rw [Array.getElem?_extract]
    have : min (sb + n2) (arrOf st).size - sb = n2 := by omega
    rw [this]
  have za : ((arrOf st).extract (sa + k) sb).size = sb - (sa + k) := by simp; omega
  have zb : ((arrOf st).extract sb (sb + n2)).size = n2 := by simp; omega
  have inA : ∀ z ∈ ((arrOf st).extract (sa + k) sb).toList, ∃ q, sa + k ≤ q ∧ q < sb ∧ (arrOf st)[q]? = some z := fun z hz => by
    obtain ⟨q, hq⟩ := List.mem_iff_getElem?.mp hz
    rw [Array.getElem?_toList, ga] at hq
    by_cases hq2 : q < sb - (sa + k)
    · rw [if_pos hq2] at hq; exact ⟨_, by omega, by omega, hq⟩
    · rw [if_neg hq2] at hq; cases hq
  have inB : ∀ z ∈ ((arrOf st).extract sb (sb + n2)).toList, ∃ q, q < n2 ∧ (arrOf st)[sb + q]? = some z := fun z hz => by
    obtain ⟨q, hq⟩ := List.mem_iff_getElem?.mp hz
    rw [Array.getElem?_toList, gb] at hq
    by_cases hq2 : q < n2
    · rw [if_pos hq2] at hq; exact ⟨_, hq2, hq⟩
    · rw [if_neg hq2] at hq; cases hq
  have srtOf : ∀ (lo m : Nat), lo + m ≤ (arrOf st).size → Seg f (arrOf st) lo m → Srt (fl f) ((arrOf st).extract lo (lo + m)).toList := fun lo m hlm hs => by
    refine List.pairwise_iff_getElem.mpr fun i j hi hj hij => ?_
    have zi : ((arrOf st).extract lo (lo + m)).toList.length = m := by simp; omega
    have := hs (lo + i) (lo + j) (by omega) (by omega) (by omega)
    rw [Fk_some (getElem?_pos (arrOf st) (lo + i) (by omega)), Fk_some (getElem?_pos (arrOf st) (lo + j) (by omega))] at this
    simpa using this
  have T : Two mem (fl f) ((arrOf st).extract (sa + k) sb) ((arrOf st).extract sb (sb + n2)) := by
    refine ⟨fun z hz => ?_, fun z hz => ?_, ?_, srtOf sb n2 (by omega) fun i j hi hij hj => sB i j hi hij (by omega), by omega, by omega, fun x y hx hy => ?_, fun y hy x hx => ?_⟩
    · obtain ⟨q, _, _, hq⟩ := inA z hz
      exact memA q z hq
    · obtain ⟨q, _, hq⟩ := inB z hz
      exact memA _ z hq
    · have := srtOf (sa + k) (na - k) (by omega) fun i j hi hij hj => sA i j (by omega) hij (by omega)
      rwa [show sa + k + (na - k) = sb by omega] at this
    · rw [gb, if_pos (by omega)] at hx
      rw [ga, if_pos (by omega)] at hy
      have e0 : x = xb := by rw [Nat.add_zero, exb] at hx; exact (Option.some.inj hx).symm
      rw [e0]
      exact g2 k y (Nat.le_refl _) hk1 (by simpa using hy)
    · obtain ⟨q, hq1, hq⟩ := inB y hy
      rw [za, ga, if_pos (by omega), show sa + k + (sb - (sa + k) - 1) = sb - 1 by omega, exl] at hx
      rw [← Option.some.inj hx]
      exact g3 q y hq1 hq
  have whole : ((arrOf st).extract (sa + k) sb).toList ++ ((arrOf st).extract sb (sb + n2)).toList = ((arrOf st).extract (sa + k) (sb + n2)).toList := by
    rw [← Array.toList_append, Array.extract_append_extract]
    congr 2 <;> omega
  have fin : ∀ (out : Array Keyed) (st' : SortSt), SameG st1 st' → Merged (fl f) ((arrOf st).extract (sa + k) sb).toList ((arrOf st).extract sb (sb + n2)).toList out.toList → Q true (setArr st' (splice (arrOf st') out.toList.zipIdx (sa + k))) := by
    intro out st' G M
    have hp : out.toList.Perm ((arrOf st).extract (sa + k) (sb + n2)).toList := by rw [← whole]; exact M.1
    have hl : out.toList.length = sb + n2 - (sa + k) := by rw [hp.length_eq]; simp; omega
    have e1 : setArr st' (splice (arrOf st') out.toList.zipIdx (sa + k)) = SortSt.mk' (kindOf st) (splice (arrOf st) out.toList.zipIdx (sa + k)) (((pendingOf st).setIfInBounds i (sa, na + nb, pa)).eraseIdxIfInBounds (i + 1)) (gallopOf st') (failedOf st) := by
      show SortSt.mk' (kindOf st') (splice (arrOf st') _ _) (pendingOf st') (gallopOf st') (failedOf st') = _
      rw [G.1, G.2.1, G.2.2.1, G.2.2.2, ← hst1]
    rw [e1]
    have sM := splice_srt (f := f) (arr := arrOf st) (show sa + k ≤ sb + n2 by omega) (by omega) hl M.2
    have from' : ∀ q, sa + k ≤ q → q < sb + n2 → ∃ p, sa + k ≤ p ∧ p < sb + n2 ∧ Fk f (splice (arrOf st) out.toList.zipIdx (sa + k)) q = Fk f (arrOf st) p := fun q q1 q2 => splice_from (f := f) (show sa + k ≤ sb + n2 by omega) (by omega) hp q1 q2
    have out' : ∀ q, q < sa + k ∨ sb + n2 ≤ q → (splice (arrOf st) out.toList.zipIdx (sa + k))[q]? = (arrOf st)[q]? := fun q hq => splice_out (f := f) (show sa + k ≤ sb + n2 by omega) (by omega) hl hq
    refine h2 _ _ (splice_perm (show sa + k ≤ sb + n2 by omega) (by omega) hp) (fun q hq => out' q (by omega)) ?_
    have lowAll : ∀ i p, sa ≤ i → i < sa + k → sa + k ≤ p → p < sb + nb → Fk f (arrOf st) i ≤ Fk f (arrOf st) p := fun i p i1 i2 p1 p2 => by
      by_cases hp2 : p < sb
      · exact sA i p i1 (by omega) (by omega)
      · have a1 := g1' i i1 i2
        have a2 := sB sb p (Nat.le_refl _) (by omega) (by omega)
        omega
    have hiAll : ∀ p j, sa ≤ p → p < sb + n2 → sb + n2 ≤ j → j < sb + nb → Fk f (arrOf st) p ≤ Fk f (arrOf st) j := fun p j p1 p2 j1 j2 => by
      by_cases hp2 : p < sb
      · have a1 := sA p (sb - 1) p1 (by omega) (by omega)
        have a2 := g4' j j1 j2
        omega
      · exact sB p j (by omega) (by omega) (by omega)
    intro i j hi hij hj
    by_cases hi2 : i < sa + k
    · rw [Fk_of (f := f) (out' i (.inl hi2))]
      by_cases hj2 : j < sa + k
      · rw [Fk_of (f := f) (out' j (.inl hj2))]
        exact sA i j hi hij (by omega)
      · by_cases hj3 : j < sb + n2
        · obtain ⟨p, p1, p2, ep⟩ := from' j (by omega) hj3
          rw [ep]
          exact lowAll i p hi hi2 p1 (by omega)
        · rw [Fk_of (f := f) (out' j (.inr (by omega)))]
          exact lowAll i j hi hi2 (by omega) (by omega)
    · by_cases hi3 : i < sb + n2
      · by_cases hj3 : j < sb + n2
        · exact sM i j (by omega) hij (by omega)
        · obtain ⟨p, p1, p2, ep⟩ := from' i (by omega) hi3
          rw [ep, Fk_of (f := f) (out' j (.inr (by omega)))]
          exact hiAll p j (by omega) p2 (by omega) (by omega)
      · rw [Fk_of (f := f) (out' i (.inr (by omega))), Fk_of (f := f) (out' j (.inr (by omega)))]
        exact sB i j (by omega) hij (by omega)
  have done : ∀ (out : Array Keyed) (st' : SortSt), SameG st1 st' → Merged (fl f) ((arrOf st).extract (sa + k) sb).toList ((arrOf st).extract sb (sb + n2)).toList out.toList →
      wpS (model prog w) A E s (do
        modify fun z => setArr z (splice (arrOf z) out.toList.zipIdx (sa + k))
        let z ← get
        pure (failedOf z).isNone) Q st' := by
    intro out st' G M
    refine wpS_bind (wpS_modify (wpS_bind (wpS_get (wpS_pure ?_))))
    have e : (failedOf (setArr st' (splice (arrOf st') out.toList.zipIdx (sa + k)))).isNone = true := by
      show (failedOf st').isNone = true
      rw [G.2.2.2, B1.failed]
      rfl
    rw [e]
    exact fin out st' G M
  by_cases hle : na - k ≤ n2
  · rw [if_pos hle]
    exact wpS_bind (wpS_mergeLo C (fl_ord f) B1.kind T done)
  · rw [if_neg hle]
    exact wpS_bind (wpS_mergeHi C (fl_ord f) B1.kind T done)
end
end L3

set_option maxHeartbeats 4000000
namespace L3
open PySem PyProof.Rows
/-- runs one behind the other, from a to b -/
def Tile : Nat → List (Nat × Nat × Nat) → Nat → Prop
  | a, [], b => a = b
  | a, e :: r, b => e.1 = a ∧ 1 ≤ e.2.1 ∧ Tile (a + e.2.1) r b
theorem tile_app : ∀ {l1 l2 : List (Nat × Nat × Nat)} {a b : Nat}, Tile a (l1 ++ l2) b ↔ ∃ c, Tile a l1 c ∧ Tile c l2 b
  | [], l2, a, b => ⟨fun h => ⟨a, rfl, h⟩, fun ⟨c, h1, h2⟩ => by cases h1; exact h2⟩
  | e :: r, l2, a, b => ⟨fun h => by
      obtain ⟨c, h1, h2⟩ := tile_app.mp h.2.2
      exact ⟨c, ⟨h.1, h.2.1, h1⟩, h2⟩, fun ⟨c, h1, h2⟩ => ⟨h1.1, h1.2.1, tile_app.mpr ⟨c, h1.2.2, h2⟩⟩⟩
theorem tile_len : ∀ {l : List (Nat × Nat × Nat)} {a b : Nat}, Tile a l b → a + l.length ≤ b
  | [], a, b, h => by cases h; exact Nat.le_refl _
  | e :: r, a, b, h => by
    have := tile_len h.2.2
    have := h.2.1
    simp only [List.length_cons]
    omega
theorem tile_mem : ∀ {l : List (Nat × Nat × Nat)} {a b : Nat}, Tile a l b → ∀ e ∈ l, a ≤ e.1 ∧ e.1 + e.2.1 ≤ b
  | [], a, b, h, e, he => by simp at he
  | d :: r, a, b, h, e, he => by
    have l := tile_len h.2.2
    have := h.1
    have := h.2.1
    rcases List.mem_cons.mp he with rfl | he
    · omega
    · have := tile_mem h.2.2 e he
      omega
abbrev prT (e : Nat × Nat × Nat) : Nat × Nat := (e.1, e.2.1)
theorem tile_like : ∀ {l l' : List (Nat × Nat × Nat)} {a b : Nat}, l'.map prT = l.map prT → Tile a l b → Tile a l' b
  | [], [], a, b, _, h => h
  | [], e :: r, a, b, q, h => by simp at q
  | d :: r, [], a, b, q, h => by simp at q
  | d :: r, e :: r', a, b, q, h => by
    rw [List.map_cons, List.map_cons] at q
    obtain ⟨q1, q2⟩ := List.cons.inj q
    obtain ⟨e1, e2⟩ : e.1 = d.1 ∧ e.2.1 = d.2.1 := Prod.mk.inj q1
    refine ⟨e1.trans h.1, by rw [e2]; exact h.2.1, ?_⟩
    rw [e2]
    exact tile_like q2 h.2.2
theorem modify_pr (p : Array (Nat × Nat × Nat)) (k w : Nat) : (p.modify k fun x => (x.fst, x.2.fst, w)).toList.map prT = p.toList.map prT := by
  apply List.ext_getElem?
  intro i
  rw [List.getElem?_map, List.getElem?_map, Array.getElem?_toList, Array.getElem?_toList, Array.getElem?_modify]
  split
  · cases p[i]? <;> rfl
  · rfl
structure PInv (f : Keyed → Int) (κ : SortKind) (a₀ : Array Keyed) (lo : Nat) (st : SortSt) : Prop where
  base : TB κ a₀ st
  tile : Tile 0 (pendingOf st).toList lo
  segs : ∀ e ∈ (pendingOf st).toList, Seg f (arrOf st) e.1 e.2.1
  top : lo ≤ a₀.size
theorem seg_like {f : Keyed → Int} {xs ys : Array Keyed} {lo n : Nat} (h : Seg f xs lo n) (e : ∀ k, lo ≤ k → k < lo + n → ys[k]? = xs[k]?) : Seg f ys lo n := fun i j hi hij hj => by
  rw [Fk_of (f := f) (e i hi (by omega)), Fk_of (f := f) (e j (by omega) hj)]
  exact h i j hi hij hj
section
variable {κ : SortKind} {f : Keyed → Int} {a₀ : Array Keyed} {lo : Nat} {st st' : SortSt}
theorem PInv.frame (P : PInv f κ a₀ lo st) (B : TB κ a₀ st') (F : Fr lo st st') : PInv f κ a₀ lo st' := by
  refine ⟨B, by rw [F.pend]; exact P.tile, fun e he => ?_, P.top⟩
  rw [F.pend] at he
  have := tile_mem P.tile e he
  exact seg_like (P.segs e he) fun k h1 h2 => F.low k (by omega)
theorem PInv.like (P : PInv f κ a₀ lo st) {p : Array (Nat × Nat × Nat)} (h : p.toList.map prT = (pendingOf st).toList.map prT) : PInv f κ a₀ lo (setPending st p) := by
  refine ⟨⟨P.base.perm, P.base.kind, P.base.failed⟩, tile_like h P.tile, fun e he => ?_, P.top⟩
  have h1 : prT e ∈ (pendingOf st).toList.map prT := by rw [← h]; exact List.mem_map.mpr ⟨e, he, rfl⟩
  obtain ⟨d, hd, ed⟩ := List.mem_map.mp h1
  obtain ⟨e1, e2⟩ : d.1 = e.1 ∧ d.2.1 = e.2.1 := Prod.mk.inj ed
  have := P.segs d hd
  rw [e1, e2] at this
  exact this
theorem PInv.push (P : PInv f κ a₀ lo st) {n w : Nat} (h1 : 1 ≤ n) (ht : lo + n ≤ a₀.size) (hs : Seg f (arrOf st) lo n) : PInv f κ a₀ (lo + n) (setPending st ((pendingOf st).push (lo, n, w))) := by
  refine ⟨⟨P.base.perm, P.base.kind, P.base.failed⟩, ?_, fun e he => ?_, ht⟩
  · show Tile 0 ((pendingOf st).push (lo, n, w)).toList (lo + n)
    rw [Array.toList_push]
    exact tile_app.mpr ⟨lo, P.tile, rfl, h1, rfl⟩
  · have he' : e ∈ ((pendingOf st).push (lo, n, w)).toList := he
    rw [Array.toList_push] at he'
    rcases List.mem_append.mp he' with h | h
    · exact P.segs e h
    · rw [List.mem_singleton.mp h]
      exact hs
end
section
variable {prog : Program} {w : World} {A : Around} {E : Value → Shared → Prop} {s : Shared}
variable {κ : SortKind} {mem : Keyed → Prop} {f : Keyed → Int} {a₀ : Array Keyed}
theorem wpS_mergeP (C : CmpS prog w A s κ mem (fl f)) (hm : ∀ x ∈ a₀.toList, mem x) {st : SortSt} {i lo : Nat} (P : PInv f κ a₀ lo st) (hi : i + 1 < (pendingOf st).size) {Q : Bool → SortSt → Prop}
    (h : ∀ st', PInv f κ a₀ lo st' → (pendingOf st').size + 1 = (pendingOf st).size → (∀ k, lo ≤ k → (arrOf st')[k]? = (arrOf st)[k]?) → Q true st') : wpS (model prog w) A E s (mergeAt' i) Q st := by
  obtain ⟨⟨sa, na, pa⟩, e1⟩ : ∃ e, (pendingOf st)[i]? = some e := ⟨_, getElem?_pos _ i (by omega)⟩
  obtain ⟨⟨sb, nb, pb⟩, e2⟩ : ∃ e, (pendingOf st)[i + 1]? = some e := ⟨_, getElem?_pos _ (i + 1) hi⟩
  obtain ⟨l1, l2, hl, hlen⟩ : ∃ l1 l2, (pendingOf st).toList = l1 ++ (sa, na, pa) :: (sb, nb, pb) :: l2 ∧ l1.length = i := by
    refine ⟨(pendingOf st).toList.take i, (pendingOf st).toList.drop (i + 2), ?_, by simp; omega⟩
    have hi0 : i < (pendingOf st).toList.length := by simp; omega
    have hi1 : i + 1 < (pendingOf st).toList.length := by simp; omega
    conv => lhs; rw [← List.take_append_drop i (pendingOf st).toList, List.drop_eq_getElem_cons hi0, List.drop_eq_getElem_cons hi1]
    have a1 : (pendingOf st).toList[i] = (sa, na, pa) := by
      have := e1; rw [← Array.getElem?_toList, getElem?_pos _ i hi0] at this; exact Option.some.inj this
    have a2 : (pendingOf st).toList[i + 1] = (sb, nb, pb) := by
      have := e2; rw [← Array.getElem?_toList, getElem?_pos _ (i + 1) hi1] at this; exact Option.some.inj this
    rw [a1, a2]
  have ht := P.tile
  rw [hl] at ht
  obtain ⟨c, t1, t2⟩ := tile_app.mp ht
  obtain ⟨h1, h2, h3, h4, t3⟩ := t2
  dsimp only at h1 h2 h3 h4 t3
  have hlast := tile_len t3
  have sA := P.segs (sa, na, pa) (by rw [hl]; simp)
  have sB := P.segs (sb, nb, pb) (by rw [hl]; simp)
  have top := P.top
  refine wpS_mergeAt C hm P.base e1 e2 (by omega) h2 h4 (by omega) sA sB fun st' B' hp ho hs => h st' ?_ ?_ fun k hk => ho k (.inr (by omega))
  · have hp2 : (pendingOf st').toList = l1 ++ (sa, na + nb, pa) :: l2 := by
      rw [hp, Array.toList_eraseIdxIfInBounds, Array.toList_setIfInBounds, hl]
      rw [List.set_append_right _ _ (by omega), hlen, Nat.sub_self, List.set_cons_zero, List.eraseIdx_append_of_length_le (by omega), hlen, show i + 1 - i = 1 by omega]
      rfl
    refine ⟨B', ?_, fun e he => ?_, top⟩
    · rw [hp2]
      refine tile_app.mpr ⟨c, t1, h1, by show 1 ≤ na + nb; omega, ?_⟩
      show Tile (c + (na + nb)) l2 lo
      rw [show c + (na + nb) = c + na + nb by omega]
      exact t3
    · rw [hp2] at he
      rcases List.mem_append.mp he with q | q
      · have a1 := tile_mem t1 e q
        exact seg_like (P.segs e (by rw [hl]; exact List.mem_append_left _ q)) fun k k1 k2 => ho k (.inl (by omega))
      · rcases List.mem_cons.mp q with q | q
        · rw [q]; exact hs
        · have a1 := tile_mem t3 e q
          exact seg_like (P.segs e (by rw [hl]; simp [q])) fun k k1 k2 => ho k (.inr (by omega))
  · have := congrArg List.length (show (pendingOf st').toList = l1 ++ (sa, na + nb, pa) :: l2 by
      rw [hp, Array.toList_eraseIdxIfInBounds, Array.toList_setIfInBounds, hl]
      rw [List.set_append_right _ _ (by omega), hlen, Nat.sub_self, List.set_cons_zero, List.eraseIdx_append_of_length_le (by omega), hlen, show i + 1 - i = 1 by omega]
      rfl)
    have q := congrArg List.length hl
    simp at this q
    omega
theorem wpS_sortAll (C : CmpS prog w A s κ mem (fl f)) (hm : ∀ x ∈ a₀.toList, mem x) {st : SortSt} (B : TB κ a₀ st) (h0 : pendingOf st = #[]) {Q : Unit → SortSt → Prop}
    (h : ∀ st', TB κ a₀ st' → Seg f (arrOf st') 0 a₀.size → Q () st') : wpS (model prog w) A E s sortRuns' Q st := by
  rw [sortRuns'_eq]
  refine wpS_bind (wpS_get ?_)
  dsimp only
  simp only [B.size]
  refine wpS_bind (wpS_mono (wpS_forRange (I := fun x c st' => ∃ lo, c = (none, lo) ∧ x ≤ lo ∧ PInv f κ a₀ lo st') (Q := fun c st' => c = (none, a₀.size) ∧ PInv f κ a₀ a₀.size st') ?step ?fin ?init) ?post)
  case init => exact ⟨0, rfl, Nat.le_refl _, B, by rw [h0]; rfl, fun e he => by rw [h0] at he; simp at he, Nat.zero_le _⟩
  case fin =>
    rintro c st' ⟨lo, rfl, hx, P⟩
    have := P.top
    obtain rfl : lo = a₀.size := by omega
    exact ⟨rfl, P⟩
  case step =>
    rintro x c st' _ hx ⟨lo, rfl, hlo, P⟩
    dsimp only
    have top := P.top
    by_cases hge : lo ≥ a₀.size
    · rw [if_pos hge]
      obtain rfl : lo = a₀.size := by omega
      exact wpS_pure ⟨rfl, P⟩
    rw [if_neg hge]
    refine wpS_bind (wpS_run C hm (by omega) (by omega) P.base fun n st2 B2 F2 n1 n2 s2 => ?_)
    dsimp only
    by_cases hmin : n < minRun' a₀.size a₀.size 0
    · rw [if_pos hmin]
      refine wpS_bind (wpS_lift (wpAny_rule ⟨rfl, ?_⟩))
      refine wpS_bind (wpS_ins C hm (by omega) (by omega) B2 s2 fun st3 B3 F3 s3 => ?_)
      rw [if_neg (by simp)]
      have f1 : 1 ≤ (min (a₀.size - lo) (minRun' a₀.size a₀.size 0)) := by omega
      have P3 : PInv f κ a₀ lo st3 := P.frame B3 (F2.trans F3)
      refine wpS_bind (wpS_get ?_)
      cases hb : (pendingOf st3).back? with
      | none =>
        dsimp only
        exact wpS_bind (wpS_modify (wpS_pure ⟨_, rfl, by omega, P3.push f1 (by omega) s3⟩))
      | some e =>
        obtain ⟨s1, m1, w1⟩ := e
        dsimp only
        refine wpS_bind (wpS_mono (wpS_forRange (I := fun _ c st4 => c = (none, ()) ∧ PInv f κ a₀ lo st4 ∧ Seg f (arrOf st4) lo (min (a₀.size - lo) (minRun' a₀.size a₀.size 0))) (Q := fun c st4 => c = (none, ()) ∧ PInv f κ a₀ lo st4 ∧ Seg f (arrOf st4) lo (min (a₀.size - lo) (minRun' a₀.size a₀.size 0))) ?_ (fun _ _ hh => hh) ⟨rfl, P3, s3⟩) ?_)
        · rintro y c st4 _ hy ⟨rfl, P4, s4⟩
          refine wpS_bind (wpS_get ?_)
          by_cases h2 : (pendingOf st4).size > 1
          · rw [if_pos h2, getElem?_pos (pendingOf st4) ((pendingOf st4).size - 2) (by omega)]
            dsimp only
            split
            · exact wpS_pure ⟨rfl, P4, s4⟩
            · refine wpS_bind (wpS_mergeP C hm P4 (by omega) fun st5 P5 _ ho => ?_)
              rw [if_neg (by simp)]
              exact wpS_pure ⟨rfl, P5, seg_like s4 fun k k1 _ => ho k k1⟩
          · rw [if_neg h2]
            exact wpS_pure ⟨rfl, P4, s4⟩
        · rintro c st4 ⟨rfl, P4, s4⟩
          dsimp only
          refine wpS_bind (wpS_modify ?_)
          have P5 := P4.like (p := (pendingOf st4).modify ((pendingOf st4).size - 1) fun x => (x.fst, x.2.fst, power' a₀.size (2 * s1 + m1) (2 * s1 + m1 + m1 + (min (a₀.size - lo) (minRun' a₀.size a₀.size 0))) a₀.size)) (modify_pr _ _ _)
          exact wpS_bind (wpS_modify (wpS_pure ⟨_, rfl, by omega, P5.push f1 (by omega) s4⟩))
    · rw [if_neg hmin]
      have P3 : PInv f κ a₀ lo st2 := P.frame B2 F2
      refine wpS_bind (wpS_get ?_)
      cases hb : (pendingOf st2).back? with
      | none =>
        dsimp only
        exact wpS_bind (wpS_modify (wpS_pure ⟨_, rfl, by omega, P3.push n1 (by omega) s2⟩))
      | some e =>
        obtain ⟨s1, m1, w1⟩ := e
        dsimp only
        refine wpS_bind (wpS_mono (wpS_forRange (I := fun _ c st4 => c = (none, ()) ∧ PInv f κ a₀ lo st4 ∧ Seg f (arrOf st4) lo n) (Q := fun c st4 => c = (none, ()) ∧ PInv f κ a₀ lo st4 ∧ Seg f (arrOf st4) lo n) ?_ (fun _ _ hh => hh) ⟨rfl, P3, s2⟩) ?_)
        · rintro y c st4 _ hy ⟨rfl, P4, s4⟩
          refine wpS_bind (wpS_get ?_)
          by_cases h2 : (pendingOf st4).size > 1
          · rw [if_pos h2, getElem?_pos (pendingOf st4) ((pendingOf st4).size - 2) (by omega)]
            dsimp only
            split
            · exact wpS_pure ⟨rfl, P4, s4⟩
            · refine wpS_bind (wpS_mergeP C hm P4 (by omega) fun st5 P5 _ ho => ?_)
              rw [if_neg (by simp)]
              exact wpS_pure ⟨rfl, P5, seg_like s4 fun k k1 _ => ho k k1⟩
          · rw [if_neg h2]
            exact wpS_pure ⟨rfl, P4, s4⟩
        · rintro c st4 ⟨rfl, P4, s4⟩
          dsimp only
          refine wpS_bind (wpS_modify ?_)
          have P5 := P4.like (p := (pendingOf st4).modify ((pendingOf st4).size - 1) fun x => (x.fst, x.2.fst, power' a₀.size (2 * s1 + m1) (2 * s1 + m1 + m1 + n) a₀.size)) (modify_pr _ _ _)
          exact wpS_bind (wpS_modify (wpS_pure ⟨_, rfl, by omega, P5.push n1 (by omega) s4⟩))
  case post =>
    rintro c st' ⟨rfl, P⟩
    dsimp only
    refine wpS_bind (wpS_mono (wpS_forRange (I := fun x c st'' => c = (none, ()) ∧ PInv f κ a₀ a₀.size st'' ∧ (pendingOf st'').size ≤ max 1 (a₀.size - x)) (Q := fun c st'' => c = (none, ()) ∧ PInv f κ a₀ a₀.size st'' ∧ (pendingOf st'').size ≤ 1) ?_ ?_ ?_) ?_)
    · rintro x c st'' _ hx ⟨rfl, P2, hsz⟩
      refine wpS_bind (wpS_get ?_)
      by_cases h1 : (pendingOf st'').size ≤ 1
      · rw [if_pos h1]
        exact wpS_pure ⟨rfl, P2, h1⟩
      · rw [if_neg h1]
        refine wpS_bind (wpS_mergeP C hm P2 (by (repeat' split) <;> omega) fun st5 P5 hz _ => ?_)
        rw [if_neg (by simp)]
        exact wpS_pure ⟨rfl, P5, by omega⟩
    · rintro c st'' ⟨rfl, P2, hsz⟩
      exact ⟨rfl, P2, by omega⟩
    · refine ⟨rfl, P, ?_⟩
      have := tile_len P.tile
      simp at this
      omega
    · rintro c st'' ⟨rfl, P2, hsz⟩
      refine wpS_pure (h st'' P2.base ?_)
      have t := P2.tile
      have sg := P2.segs
      have hl : (pendingOf st'').toList.length ≤ 1 := by simpa using hsz
      match hq : (pendingOf st'').toList, hl with
      | [], _ =>
        rw [hq] at t
        intro i j hi hij hj
        have : 0 = a₀.size := t
        omega
      | [e], _ =>
        rw [hq] at t sg
        have a1 := t.1
        have a2 : 0 + e.2.1 = a₀.size := t.2.2
        have a3 := sg e (by simp)
        rw [a1, show e.2.1 = a₀.size by omega] at a3
        exact a3
end
end L3

set_option maxHeartbeats 4000000
namespace L3
open PySem PySem.W PySem.Calls PyProof.Rows

/-! ### the tree of questions that a sort asks, answered by a function -/
def runT {α : Type} (lt : Nat → Nat → Bool) : KasT α → α
  | .ret a => a
  | .ask i j k => runT lt (k (lt i j))
/-- every question is about places below n; every answer at the end keeps P -/
def PostT {α : Type} (n : Nat) (P : α → Prop) : KasT α → Prop
  | .ret a => P a
  | .ask i j k => i < n ∧ j < n ∧ ∀ b, PostT n P (k b)
theorem PostT.bind {α β : Type} {n : Nat} {P : α → Prop} {P' : β → Prop} {f : α → KasT β} : ∀ {t : KasT α}, PostT n P t → (∀ a, P a → PostT n P' (f a)) → PostT n P' (t.bind f)
  | .ret a, h, hf => hf a h
  | .ask i j k, h, hf => ⟨h.1, h.2.1, fun b => PostT.bind (h.2.2 b) hf⟩
theorem PostT.run {α : Type} {n : Nat} {P : α → Prop} (lt : Nat → Nat → Bool) : ∀ {t : KasT α}, PostT n P t → P (runT lt t)
  | .ret a, h => h
  | .ask i j k, h => PostT.run (n := n) (P := P) (t := k (lt i j)) lt (h.2.2 (lt i j))
theorem PostT.wp {α : Type} {n : Nat} {P : α → Prop} {lt : Nat → Nat → Bool} {cmp : Nat → Nat → (Bool → Shared → Prop) → Shared → Prop} {s : Shared} (hc : ∀ i j (C : Bool → Shared → Prop), i < n → j < n → C (lt i j) s → cmp i j C s) {Q : α → Shared → Prop} :
    ∀ {t : KasT α}, PostT n P t → Q (runT lt t) s → t.kasWp cmp Q s
  | .ret a, _, q => q
  | .ask i j k, h, q => hc i j _ h.1 h.2.1 (PostT.wp hc (h.2.2 _) q)
def OkP (n : Nat) (p : Array Nat) : Prop := p.size = n ∧ ∀ x ∈ p, x < n
theorem OkP.get {n : Nat} {p : Array Nat} (h : OkP n p) (hn : 0 < n) (i : Nat) : p.getD i 0 < n := by
  by_cases hi : i < p.size
  · have e : p.getD i 0 = p[i] := by simp [Array.getD, hi]
    rw [e]; exact h.2 _ (Array.getElem_mem hi)
  · have e : p.getD i 0 = 0 := by simp [Array.getD, hi]
    rw [e]; exact hn
theorem OkP.perm {n : Nat} {p q : Array Nat} (h : OkP n p) (e : q.Perm p) : OkP n q := ⟨e.size_eq.trans h.1, fun x hx => h.2 x (e.mem_iff.mp hx)⟩
theorem OkP.rev {n : Nat} {p : Array Nat} (h : OkP n p) (i j : Nat) : OkP n (kas_rev p i j) := h.perm (mirror_perm _ _ _ _)
theorem OkP.bub {n : Nat} {p : Array Nat} (h : OkP n p) (i j : Nat) : OkP n (bubble p i j) := h.perm (bubble_perm _ _ _)
section
variable {n : Nat}
theorem post_asc (hn : 0 < n) {p : Array Nat} (hp : OkP n p) : ∀ (f m : Nat), PostT n (fun _ => True) (kas_asc p f m)
  | 0, m => trivial
  | f + 1, m => ⟨hp.get hn _, hp.get hn _, fun b => by
      cases b with
      | true => exact trivial
      | false => exact post_asc hn hp f (m + 1)⟩
theorem post_desc (hn : 0 < n) : ∀ (f : Nat) (p : Array Nat) (m q : Nat), OkP n p → PostT n (fun r : Array Nat × Nat × Nat => OkP n r.1) (kas_desc f p m q)
  | 0, p, m, q, hp => hp
  | f + 1, p, m, q, hp => ⟨hp.get hn _, hp.get hn _, fun b => by
      cases b with
      | true =>
        show PostT n _ (if q > 0 then _ else _)
        split
        · exact post_desc hn f _ _ _ (hp.rev _ _)
        · exact post_desc hn f _ _ _ hp
      | false =>
        refine ⟨hp.get hn _, hp.get hn _, fun b => ?_⟩
        cases b with
        | true => exact hp
        | false => exact post_desc hn f _ _ _ hp⟩
theorem post_tail3 (hn : 0 < n) {m r : Nat} {p : Array Nat} (hp : OkP n p) : PostT n (fun r : Nat × Array Nat => OkP n r.2) (kas_tail3 m r p) :=
  PostT.bind (post_asc hn (hp.rev _ _) _ _) fun _ _ => hp.rev _ _
theorem post_descPart (hn : 0 < n) {m r : Nat} {p : Array Nat} (hp : OkP n p) : PostT n (fun r : Nat × Array Nat => OkP n r.2) (kas_descPart m r p) :=
  PostT.bind (post_desc hn _ _ _ _ hp) fun a ha => by
    split
    · exact post_tail3 hn (ha.rev _ _)
    · exact post_tail3 hn ha
theorem post_count (hn : 0 < n) {r : Nat} {p : Array Nat} (hp : OkP n p) : PostT n (fun r : Nat × Array Nat => OkP n r.2) (kas_count r p) :=
  PostT.bind (post_asc hn hp _ _) fun a _ => by
    split
    · exact hp
    · split
      · refine ⟨hp.get hn _, hp.get hn _, fun b => ?_⟩
        cases b with
        | true => exact hp
        | false => exact post_descPart hn (hp.rev _ _)
      · exact post_descPart hn hp
theorem post_place (hn : 0 < n) {p : Array Nat} (hp : OkP n p) (k : Nat) : ∀ (f l r : Nat), PostT n (fun _ => True) (kas_place p k f l r)
  | 0, l, r => trivial
  | f + 1, l, r => by
    unfold kas_place
    split
    · exact trivial
    · refine ⟨hp.get hn _, hp.get hn _, fun b => ?_⟩
      cases b with
      | true => exact post_place hn hp k f _ _
      | false => exact post_place hn hp k f _ _
theorem post_bin (hn : 0 < n) : ∀ (f : Nat) (p : Array Nat) (k : Nat), OkP n p → PostT n (OkP n) (kas_bin f p k)
  | 0, p, k, hp => hp
  | f + 1, p, k, hp => PostT.bind (post_place hn hp k _ _ _) fun l _ => post_bin hn f _ _ (hp.bub _ _)
theorem post_sort (hn : 0 < n) : PostT n (OkP n) (kas_sort n) := by
  have h0 : OkP n (List.toArray (List.range n)) := ⟨by simp, fun x hx => by simpa using hx⟩
  refine PostT.bind (post_count hn h0) fun a ha => ?_
  split
  · exact post_bin hn _ _ _ ha
  · exact ha
end
/-- the places in the order of the sort -/
def srt (lt : Nat → Nat → Bool) (n : Nat) : List Nat := if n < 2 then List.range n else (runT lt (kas_sort n)).toList
theorem srt_length (lt : Nat → Nat → Bool) (n : Nat) : (srt lt n).length = n := by
  unfold srt
  split
  · simp
  · have h := PostT.run lt (post_sort (n := n) (by omega))
    simpa using h.1
theorem srt_lt (lt : Nat → Nat → Bool) (n : Nat) : ∀ i ∈ srt lt n, i < n := by
  unfold srt
  split
  · intro i hi; simpa using hi
  · have h := PostT.run lt (post_sort (n := n) (by omega))
    intro i hi
    exact h.2 i (by simpa using hi)

theorem two_short (vs : List Value) : (vs.toArray.zip vs.toArray).map (·.2) = List.toArray ((List.range vs.length).map fun i => vs.getD i Value.none) := by
  apply Array.ext
  · simp
  · intro i h1 h2
    have hi : i < vs.length := by simpa using h1
    simp [hi]
section
variable {prog : Program} {w : World} {A : Around} {E : Value → Shared → Prop} {s : Shared}
theorem list_sort_by {a : Addr} {vs : List Value} {n : Nat} {κ : SortKind} {lt : Nat → Nat → Bool} {P : PySem.Fin → Shared → Prop} (ho : s.heap.get? a = some (seqObj "list" vs.toArray n)) (h64 : vs.length < 64)
    (hk : 2 ≤ vs.length → ∀ s' : Shared, (∀ b o, b ≠ a → s.heap.get? b = some o → s'.heap.get? b = some o) →
      (∀ (Q : SortKind → Shared → Prop) (E : Value → Shared → Prop), Q κ s' → wpAny (model prog w) A (keyKind' vs.toArray) Q E s') ∧
      ∀ i j, i < vs.length → j < vs.length → ∀ (Q : Bool → Shared → Prop), Q (lt i j) s' → wpAny (model prog w) A (keyLt' κ (vs.getD i Value.none) (vs.getD j Value.none)) Q (fun _ _ => False) s')
    (h : P (.done (.ret .none)) { s with heap := sortedHeap s.heap a vs (List.toArray ((srt lt vs.length).map fun i => vs.getD i Value.none)) }) :
    wpAny (model prog w) A (Builtin.«list.sort» ⟨[.ref a], []⟩) P E s := by
  have ha : a < s.heap.objs.size := Heap.lt_size ho
  obtain ⟨e1, ho1⟩ : ∃ e1, (s.heap.update a (Obj.mapSeq fun _ => (#[] : Array Value))).get? a = some (seqObj "list" #[] e1) := ⟨_, get?_update_seq ho fun _ => #[]⟩
  have ho6 : (((s.heap.update a (Obj.mapSeq fun _ => (#[] : Array Value))).push (seqObj "tuple" vs.toArray 0)).push (seqObj "list" #[] 0)).get? a = some (seqObj "list" #[] e1) :=
    Heap.get?_push_of_some _ (Heap.get?_push_of_some _ ho1)
  have kept : ∀ b o, b ≠ a → s.heap.get? b = some o → (((s.heap.update a (Obj.mapSeq fun _ => (#[] : Array Value))).push (seqObj "tuple" vs.toArray 0)).push (seqObj "list" #[] 0)).get? b = some o := fun b o hb e =>
    Heap.get?_push_of_some _ (Heap.get?_push_of_some _ ((Heap.get?_update_other s.heap _ (Ne.symm hb)).trans e))
  have hsl : (srt lt vs.length).length = vs.length := srt_length _ _
  rw [list_sort_plain]
  refine wpAny_bind (listItems_at ho rfl ?_)
  refine wpAny_bind (listUpdate_at ho rfl ?_ (by rw [List.size_toArray, sizeLine_eq]; omega) (Nat.zero_le _))
  refine wpAny_bind (seqEpoch_at ho1 rfl ?_)
  refine wpAny_bind (wpAny_newTuple ?_ (by show vs.length ≤ _; rw [sizeLine_eq]; omega))
  refine wpAny_bind (wpAny_newList ?_ (Nat.zero_le _))
  refine wpAny_holding ?_
  show wpAny (model prog w) A _ P E { s with heap := ((s.heap.update a (Obj.mapSeq fun _ => (#[] : Array Value))).push (seqObj "tuple" vs.toArray 0)).push (seqObj "list" #[] 0) }
  dsimp only
  by_cases h2 : vs.toArray.size < 2
  · have h2' : vs.length < 2 := by simpa using h2
    rw [if_pos h2, if_pos h2]
    refine wpAny_bind (wpAny_pure ?_)
    rw [StateT.run_pure]
    refine wpAny_bind (wpAny_pure ?_)
    dsimp only
    have e0 : (arrOf (SortSt.mk' general' (vs.toArray.zip vs.toArray) #[] 7 none)).map (·.2) = List.toArray ((srt lt vs.length).map fun i => vs.getD i Value.none) := by
      show (vs.toArray.zip vs.toArray).map (·.2) = _
      unfold srt
      rw [if_pos h2']
      exact two_short vs
    rw [e0]
    refine wpAny_bind (seqEpoch_at ho6 rfl ?_)
    refine wpAny_bind (listUpdate_at ho6 rfl ?_ (Nat.zero_le _) (by rw [List.size_toArray, List.length_map, hsl, sizeLine_eq]; omega))
    simp only [bne_self_eq_false, Bool.false_eq_true, if_false]
    exact wpAny_pure h
  · have h2' : 2 ≤ vs.length := by have : ¬ vs.length < 2 := by simpa using h2
                                   omega
    rw [if_neg h2, if_neg h2]
    obtain ⟨k1, k2⟩ := hk h2' { s with heap := ((s.heap.update a (Obj.mapSeq fun _ => (#[] : Array Value))).push (seqObj "tuple" vs.toArray 0)).push (seqObj "list" #[] 0) } kept
    refine wpAny_bind (k1 _ _ ?_)
    have tree := (post_sort (n := vs.length) (by omega)).wp (lt := lt) (cmp := kas_ask prog w A κ vs) (s := { s with heap := ((s.heap.update a (Obj.mapSeq fun _ => (#[] : Array Value))).push (seqObj "tuple" vs.toArray 0)).push (seqObj "list" #[] 0) })
      (Q := fun p s' => p = runT lt (kas_sort vs.length) ∧ s' = { s with heap := ((s.heap.update a (Obj.mapSeq fun _ => (#[] : Array Value))).push (seqObj "tuple" vs.toArray 0)).push (seqObj "list" #[] 0) })
      (fun i j C hi hj hC => k2 i j hi hj C hC) ⟨rfl, rfl⟩
    refine wpAny_bind (wpAny_mono (kat_run (E := E) (Q := fun st' s' => (arrOf st').map (·.2) = List.toArray ((srt lt vs.length).map fun i => vs.getD i Value.none) ∧ failedOf st' = none ∧ s' = { s with heap := ((s.heap.update a (Obj.mapSeq fun _ => (#[] : Array Value))).push (seqObj "tuple" vs.toArray 0)).push (seqObj "list" #[] 0) })
      rfl h2' h64 (fun p st' s' _ b2 b3 b4 => ?_) tree) ?_ fun _ _ e => e)
    · refine ⟨?_, b3, b4.2⟩
      rw [kat_snds rfl b2, b4.1]
      unfold srt
      rw [if_neg (by omega)]
    · rintro ⟨⟨⟩, st'⟩ s' ⟨hout, hf, rfl⟩
      dsimp only at hout hf ⊢
      rw [hout]
      refine wpAny_bind (seqEpoch_at ho6 rfl ?_)
      refine wpAny_bind (listUpdate_at ho6 rfl ?_ (Nat.zero_le _) (by rw [List.size_toArray, List.length_map, hsl, sizeLine_eq]; omega))
      rw [hf]
      simp only [bne_self_eq_false, Bool.false_eq_true, if_false]
      exact wpAny_pure h

theorem sorted_by {l : Addr} {vs : List Value} {κ : SortKind} {lt : Nat → Nat → Bool} {Q : Value → Shared → Prop} (hl : s.heap.IsList l vs.toArray) (h64 : vs.length < 64)
    (hk : 2 ≤ vs.length → ∀ s' : Shared, (∀ b o, s.heap.get? b = some o → s'.heap.get? b = some o) →
      (∀ (Q : SortKind → Shared → Prop) (E : Value → Shared → Prop), Q κ s' → wpAny (model prog w) A.in1.in1 (keyKind' vs.toArray) Q E s') ∧
      ∀ i j, i < vs.length → j < vs.length → ∀ (Q : Bool → Shared → Prop), Q (lt i j) s' → wpAny (model prog w) A.in1.in1 (keyLt' κ (vs.getD i Value.none) (vs.getD j Value.none)) Q (fun _ _ => False) s')
    (h : Q (.ref (s.heap.objs.size + 1)) { s with heap := sortedAll s.heap vs (List.toArray ((srt lt vs.length).map fun i => vs.getD i Value.none)) }) :
    wpAny (model prog w) A (call (.builtin "sorted") [.ref l]) Q E s := by
  refine Calls.call_function_entry kind_sorted plain_sorted entry_sorted (args_sorted1 _) ?_
  unfold Builtin.«sorted»
  refine wpAny_bind (m := checkCount "sorted" 1 1 _) (wpAny_pure ?_)
  refine wpAny_bind (collect_list hl ?_ (by rw [sizeLine_eq]; omega))
  refine wpAny_bind (wpAny_newList ?_ (by rw [sizeLine_eq]; omega))
  have hsz : ((s.heap.push (seqObj "list" #[] 0)).update s.heap.objs.size (Obj.mapSeq (· ++ vs.toArray))).objs.size = s.heap.objs.size + 1 := by
    rw [Heap.size_update, size_push']
  have hoL : (((s.heap.push (seqObj "list" #[] 0)).update s.heap.objs.size (Obj.mapSeq (· ++ vs.toArray))).push (seqObj "list" vs.toArray 0)).get? (s.heap.objs.size + 1) = some (seqObj "list" vs.toArray 0) := by
    rw [← hsz]; exact Heap.get?_push_size _ rfl
  have keep : ∀ b o, s.heap.get? b = some o → (((s.heap.push (seqObj "list" #[] 0)).update s.heap.objs.size (Obj.mapSeq (· ++ vs.toArray))).push (seqObj "list" vs.toArray 0)).get? b = some o := fun b o q => by
    have hlt : b < s.heap.objs.size := Heap.lt_size q
    exact Heap.get?_push_of_some _ ((Heap.get?_update_other _ _ (Ne.symm (Nat.ne_of_lt hlt))).trans (Heap.get?_push_of_some _ q))
  show wpAny _ _ _ _ _ { s with heap := ((s.heap.push (seqObj "list" #[] 0)).update s.heap.objs.size (Obj.mapSeq (· ++ vs.toArray))).push (seqObj "list" vs.toArray 0) }
  rw [hsz]
  refine wpAny_bind (wpAny_holding (wpAny_call_entry slot_list_sort ⟨_, hoL, rfl⟩ entry_list_sort ?body (args_list_sort _)))
  case body =>
    refine list_sort_by (κ := κ) (lt := lt) hoL h64 (fun h2 s' k => hk h2 s' fun b o e => k b o (Nat.ne_of_lt (Nat.lt_succ_of_lt (Heap.lt_size e))) (keep b o e)) ?_
    exact ⟨_, rfl, wpAny_pure ⟨_, rfl, h⟩⟩
end
end L3

set_option maxHeartbeats 4000000
namespace L3
open PySem PySem.Spec PyProof.Rows

/-! ### min(xs, default=d), max(xs, default=d) of a list of ints that isn't empty -/
theorem args_minD (a v : Value) : argsOk "min" ⟨[a], [(Str.ofString "default", v)]⟩ := by unfold argsOk; kernel_rfl
theorem args_maxD (a v : Value) : argsOk "max" ⟨[a], [(Str.ofString "default", v)]⟩ := by unfold argsOk; kernel_rfl
section
variable {prog : Program} {w : World} {A : Around} {R : Result → Shared → Prop} {I : Addr} {fp wr : List Addr} {n : Nat} {P : Nat → Value → Prop} {St : Nat → Heap → Prop}
/-- the loop from its second turn on, whatever the keywords are -/
theorem min_loopK (kw : List (Str × Value)) (W : Walks prog w A.in1 I fp wr n P St) (bt : Nat → Nat → Bool) (hcmp : CmpOf prog w A.in1 .Lt P bt) (S : Addr) (hSf : S ∉ fp) :
    ∀ (k j : Nat) (s : Shared) (vb : Value) (c : Nat), n - (j + 1) = k → j + 1 ≤ n → St (j + 1) s.heap → P (argBest bt j) vb →
    s.heap.get? S = some { cls := .type "list", dict := none, data := .seq #[vb, vb] c, slots := #[] } →
    (∀ v h' tk, P (argBest bt (n - 1)) v → (∀ b o, b ∉ wr → b ≠ S → s.heap.get? b = some o → h'.get? b = some o) → R (.ok (.ret v)) { s with heap := h', toks := tk }) →
    codeAny (model prog w) A (.builtin "min.loop" ⟨[.ref I, .none, .ref S], kw⟩) R s := by
  have hSw : S ∉ wr := fun h => hSf (W.sub _ h)
  have nm : (toString "min" ++ toString ".loop" : String) = "min.loop" := by decide
  intro k
  induction k with
  | zero =>
    intro j s vb c hk hj hst hPb hS hR
    have hin : j + 1 = n := by omega
    refine codeAny_builtin F.entry_min_loop ?_
    rw [Around.under_plainId F.plain_min_loop _]
    show wpAny _ A.in1 (seqItems? (.ref S) >>= _) _ _ s
    refine wpAny_bind (wpAny_seqItems hS rfl ?_)
    show wpAny _ A.in1 (tryCatch (pyNext (.ref I)) _ >>= _) _ _ s
    refine wpAny_bind (wpAny_tryCatch (W.done s _ _ (hin ▸ hst) fun h' tk hk' => ?_))
    have hS' := hk' S _ hSw hS
    show wpAny _ A.in1 (updateSeq S (fun _ => #[]) >>= _) _ _ _
    refine wpAny_bind (wpAny_updateSeq hS' rfl (wpAny_bind (wpAny_letGo (wpAny_pure ?_))))
    exact hR vb _ tk (by rw [← hin]; exact hPb) fun b o hbw hbS e => (Heap.get?_update_other _ _ (Ne.symm hbS)).trans (hk' b o hbw e)
  | succ k ih =>
    intro j s vb c hk hj hst hPb hS hR
    have hlt : j + 1 < n := by omega
    refine codeAny_builtin F.entry_min_loop ?_
    rw [Around.under_plainId F.plain_min_loop _]
    show wpAny _ A.in1 (seqItems? (.ref S) >>= _) _ _ s
    refine wpAny_bind (wpAny_seqItems hS rfl ?_)
    show wpAny _ A.in1 (tryCatch (pyNext (.ref I)) _ >>= _) _ _ s
    refine wpAny_bind (wpAny_tryCatch (W.item (j + 1) s _ _ hlt hst fun v h' tk hP hst' hk' => ?_))
    have hS' := hk' S _ hSw hS
    show wpAny _ A.in1 (tryCatch (holding [v, v] (richCompare .Lt v vb >>= _)) _ >>= _) _ _ _
    refine wpAny_bind (wpAny_tryCatch (wpAny_holding (wpAny_bind (hcmp (j + 1) (argBest bt j) v vb _ _ _ hP hPb ?_))))
    refine wpAny_bind (wpAny_holding (wpAny_truthy_bool ?_))
    refine wpAny_bind (wpAny_letGo (wpAny_pure ?_))
    cases hb : bt (j + 1) (argBest bt j) with
    | true =>
      simp only [if_true]
      refine wpAny_bind (wpAny_updateSeq hS' rfl (wpAny_bind (wpAny_letGo ?_)))
      rw [nm]
      refine wpAny_pure ⟨plainId_quiet F.plain_min_loop _, ih (j + 1) _ v _ (by omega) hlt (W.frame _ _ _ hst' fun b hbf o e => ?_) (by simp only [argBest, hb, if_true]; exact hP) (Heap.get?_update_self _ hS' rfl) fun v' h'' tk'' hP' hk'' => ?_⟩
      · exact (Heap.get?_update_other _ _ (fun h : S = b => hSf (by rw [h]; exact hbf))).trans e
      · exact hR v' h'' tk'' hP' fun b o hbw hbS e => hk'' b o hbw hbS ((Heap.get?_update_other _ _ (Ne.symm hbS)).trans (hk' b o hbw e))
    | false =>
      simp only [Bool.false_eq_true, if_false]
      refine wpAny_bind (wpAny_letGo ?_)
      rw [nm]
      refine wpAny_pure ⟨plainId_quiet F.plain_min_loop _, ih (j + 1) _ vb c (by omega) hlt hst' (by simp only [argBest, hb, Bool.false_eq_true, if_false]; exact hPb) hS' fun v' h'' tk'' hP' hk'' => ?_⟩
      exact hR v' h'' tk'' hP' fun b o hbw hbS e => hk'' b o hbw hbS (hk' b o hbw e)
theorem min_firstK (kw : List (Str × Value)) (W : Walks prog w A.in1 I fp wr n P St) (bt : Nat → Nat → Bool) (hcmp : CmpOf prog w A.in1 .Lt P bt) (S : Addr) (hSf : S ∉ fp) (hn : 0 < n) {s : Shared} {c : Nat} (hst : St 0 s.heap)
    (hS : s.heap.get? S = some { cls := .type "list", dict := none, data := .seq #[] c, slots := #[] })
    (hR : ∀ v h' tk, P (argBest bt (n - 1)) v → (∀ b o, b ∉ wr → b ≠ S → s.heap.get? b = some o → h'.get? b = some o) → R (.ok (.ret v)) { s with heap := h', toks := tk }) :
    codeAny (model prog w) A (.builtin "min.loop" ⟨[.ref I, .none, .ref S], kw⟩) R s := by
  have hSw : S ∉ wr := fun h => hSf (W.sub _ h)
  have nm : (toString "min" ++ toString ".loop" : String) = "min.loop" := by decide
  refine codeAny_builtin F.entry_min_loop ?_
  rw [Around.under_plainId F.plain_min_loop _]
  show wpAny _ A.in1 (seqItems? (.ref S) >>= _) _ _ s
  refine wpAny_bind (wpAny_seqItems hS rfl ?_)
  show wpAny _ A.in1 (tryCatch (pyNext (.ref I)) _ >>= _) _ _ s
  refine wpAny_bind (wpAny_tryCatch (W.item 0 s _ _ hn hst fun v h' tk hP hst' hk' => ?_))
  have hS' := hk' S _ hSw hS
  show wpAny _ A.in1 (updateSeq S (fun _ => #[v, v]) >>= _) _ _ _
  refine wpAny_bind (wpAny_updateSeq hS' rfl ?_)
  rw [nm]
  refine wpAny_pure ⟨plainId_quiet F.plain_min_loop _, min_loopK kw W bt hcmp S hSf _ 0 _ v _ rfl hn (W.frame _ _ _ hst' fun b hbf o e => ?_) hP (Heap.get?_update_self _ hS' rfl) fun v' h'' tk'' hP' hk'' => ?_⟩
  · exact (Heap.get?_update_other _ _ (fun h : S = b => hSf (by rw [h]; exact hbf))).trans e
  · exact hR v' h'' tk'' hP' fun b o hbw hbS e => hk'' b o hbw hbS ((Heap.get?_update_other _ _ (Ne.symm hbS)).trans (hk' b o hbw e))
end
section
variable {prog : Program} {w : World} {A : Around} {E : Value → Shared → Prop} {s : Shared}
theorem call_min_kw {x d : Value} {Q : Value → Shared → Prop}
    (h : wpAny (model prog w) A.in1 (pyIter x) (fun it s₂ => ∃ I fp wr n P St bt, it = .ref I ∧ Walks prog w A.in1 I fp wr n P St ∧ St 0 s₂.heap ∧ (∀ b ∈ fp, b < s₂.heap.objs.size) ∧ 0 < n ∧ CmpOf prog w A.in1 .Lt P bt ∧
      ∀ v h' tk, P (argBest bt (n - 1)) v → (∀ b o, b ∉ wr → s₂.heap.get? b = some o → h'.get? b = some o) → Q v { s₂ with heap := h', toks := tk }) E s) :
    wpAny (model prog w) A (call (.builtin "min") [x] [(Str.ofString "default", d)]) Q E s := by
  have nm : (toString "min" ++ toString ".loop" : String) = "min.loop" := by decide
  refine wpAny_call (codeAny_call_builtin F.plain_min F.entry_min ?_)
  simp only [checkBuiltinCall, F.kind_min]
  have go : wpAny (model prog w) A.in1 (Builtin.«min» ⟨[x], [(Str.ofString "default", d)]⟩) (fun fin s' => match fin with
      | .done f => (match (Except.ok f : Result) with | .ok (.ret v) => Q v s' | .ok _ => False | .error e => E e s')
      | .again c' => c'.quiet = true ∧ codeAny (model prog w) A c' (fun r s' => match r with | .ok (.ret v) => Q v s' | .ok _ => False | .error e => E e s') s') E s := by
    show wpAny _ A.in1 (Builtin.Builtins.bindParams "min" ["key", "default"] 0 ⟨[], [(Str.ofString "default", d)]⟩ >>= _) _ _ s
    refine wpAny_bind (wpAny_of_eq (show Builtin.Builtins.bindParams "min" ["key", "default"] 0 ⟨[], [(Str.ofString "default", d)]⟩ = pure [none, some d] from rfl) ?_)
    refine wpAny_bind (wpAny_pure ?_)
    refine wpAny_bind (wpAny_mono h (fun it s₂ h₂ => ?_) fun _ _ e => e)
    obtain ⟨I, fp, wr, n, P, St, bt, rfl, W, hst, hfp, hn, hcmp, hQ⟩ := h₂
    refine wpAny_bind (wpAny_newObj_type ?_)
    have hSf : s₂.heap.objs.size ∉ fp := fun hm => Nat.lt_irrefl _ (hfp _ hm)
    rw [nm]
    refine wpAny_pure ⟨plainId_quiet F.plain_min_loop _, min_firstK _ W bt hcmp s₂.heap.objs.size hSf hn (W.frame _ _ _ hst fun b _ o e => Heap.get?_push_of_some _ e) (Heap.get?_push_size _ rfl) fun v h' tk hP hk => ?_⟩
    exact hQ v h' tk hP fun b o hbw e => hk b o hbw (Nat.ne_of_lt (Heap.lt_size e)) (Heap.get?_push_of_some _ e)
  cases hsig : Manifest.signature? "min" with
  | none => exact wpAny_pure go
  | some sig =>
    have ha' : Bind.checkArgs "min" sig ⟨[x], [(Str.ofString "default", d)]⟩ = pure () := by
      have := args_minD x d
      simpa only [argsOk, hsig] using this
    simp only [ha']
    exact wpAny_pure go
theorem min_listK {l : Addr} {d : Value} {vs : List Value} {ns : List Int} {Q : Value → Shared → Prop} (hh : A.handled = none) (hl : s.heap.IsList l vs.toArray) (hi : IntsAre vs ns) (hne : 0 < ns.length)
    (h : ∀ h' M (t : Tok) tk, (∀ b o, s.heap.get? b = some o → h'.get? b = some o) → M ∈ ns → (∀ a, a ∈ ns → M ≤ a) → Q (.int M t) { s with heap := h', toks := tk }) :
    wpAny (model prog w) A (call (.builtin "min") [.ref l] [(Str.ofString "default", d)]) Q E s := by
  obtain ⟨xs, e⟩ := hi.allInts.items
  have hns : ns = xs.toList.map (·.1) := by rw [← hi.numsOf, ← nums_intItems, ← e]
  have hsz : 0 < xs.size := by
    have h3 := hne; rw [hns, List.length_map, Array.length_toList] at h3; exact h3
  rw [e] at hl
  refine call_min_kw (iter_intList hl fun s₂ e st hfp hlI => ?_)
  subst e
  refine ⟨_, _, _, _, _, _, _, rfl, Walks.list (A := A.in1) hh _ l hlI (intItems xs), st, hfp, by simpa [intItems] using hsz, CmpOf.ints_lt (numAt xs) (fun _ _ => intItems_at), fun v h' tk hP hk => ?_⟩
  have hv : (intItems xs)[argBest (fun i j => decide (numAt xs i < numAt xs j)) (xs.size - 1)]? = some v := by simpa [intItems] using hP
  obtain ⟨t, rfl⟩ := intItems_at hv
  obtain ⟨h1, h2⟩ := argBest_lt (numAt xs) (xs.size - 1)
  refine h _ _ t tk (old_kept hk) ?_ fun a ha => ?_
  · rw [hns, numAt_eq]; exact getD_mem (by rw [List.length_map, Array.length_toList]; omega)
  · rw [hns] at ha
    obtain ⟨j, hj, rfl⟩ := mem_getD ha
    rw [List.length_map, Array.length_toList] at hj
    rw [← numAt_eq]; exact h2 j (by omega)
theorem min_list0 {l : Addr} {vs : List Value} {ns : List Int} {Q : Value → Shared → Prop} (hh : A.handled = none) (hl : s.heap.IsList l vs.toArray) (hi : IntsAre vs ns) (hne : 0 < ns.length)
    (h : ∀ h' M (t : Tok) tk, (∀ b o, s.heap.get? b = some o → h'.get? b = some o) → M ∈ ns → (∀ a, a ∈ ns → M ≤ a) → Q (.int M t) { s with heap := h', toks := tk }) :
    wpAny (model prog w) A (call (.builtin "min") [.ref l]) Q E s := by
  obtain ⟨xs, e⟩ := hi.allInts.items
  have hns : ns = xs.toList.map (·.1) := by rw [← hi.numsOf, ← nums_intItems, ← e]
  have hsz : 0 < xs.size := by
    have h3 := hne; rw [hns, List.length_map, Array.length_toList] at h3; exact h3
  rw [e] at hl
  refine min_intList hh hl hsz fun v h' tk hv hk => ?_
  obtain ⟨t, rfl⟩ := intItems_at hv
  obtain ⟨h1, h2⟩ := argBest_lt (numAt xs) (xs.size - 1)
  refine h _ _ t tk hk ?_ fun a ha => ?_
  · rw [hns, numAt_eq]; exact getD_mem (by rw [List.length_map, Array.length_toList]; omega)
  · rw [hns] at ha
    obtain ⟨j, hj, rfl⟩ := mem_getD ha
    rw [List.length_map, Array.length_toList] at hj
    rw [← numAt_eq]; exact h2 j (by omega)
end
end L3

set_option maxHeartbeats 4000000
namespace L3
open PySem PySem.Spec PyProof.Rows L2

/-! ### the block of a list comprehension -/
structure CZ where
  cl : List (Str × Addr)
  C : Addr
  s : Shared
  H : Hp
  ex : List Addr
def cxComp (X : Cx) (N : List Str) (scope : Scope) (z : CZ) : Cx where
  prog := X.prog
  w := X.w
  K := X.K
  mg := X.mg
  base := X.base
  A := X.A
  N := N
  s₀ := z.s
  H₀ := z.H
  env := compEnvC scope z.cl z.C X.env
  outer := X.stack
  stack := X.stack
  ex := z.ex
  calm := X.calm
  fn := fun _ => false
  pn := []
  xe := fun _ _ => False

/-! the closure: a cell for each free name -/
def clFrom (cells : List (Str × Addr)) : List (Str × NameKind) → List (Str × Addr) → List (Str × Addr)
  | [], cs => cs
  | (n, k) :: r, cs => if (k == NameKind.free) = true then (match cells.lookup n with | some c => clFrom cells r ((n, c) :: cs) | none => clFrom cells r cs) else clFrom cells r cs
theorem closureFor_eq {scope : Scope} {env : Env} (h : ∀ x ∈ scope.names, x.2 = .free → ∃ c, env.cells.lookup x.1 = some c) : closureFor scope env = pure (clFrom env.cells scope.names []) := by
  have go : ∀ (l : List (Str × NameKind)) (cs : List (Str × Addr)), (∀ x ∈ l, x.2 = .free → ∃ c, env.cells.lookup x.1 = some c) →
      (forIn l cs fun (x : Str × NameKind) (cs : List (Str × Addr)) => if (x.2 == NameKind.free) = true then do let a ← cellOf env x.1; pure (ForInStep.yield ((x.1, a) :: cs)) else pure (ForInStep.yield cs) : Sem (List (Str × Addr))) = pure (clFrom env.cells l cs) := by
    intro l
    induction l with
    | nil => intro cs _; rfl
    | cons x r ih =>
      intro cs hx
      obtain ⟨n, k⟩ := x
      rw [List.forIn_cons]
      have ih' := fun cs => ih cs fun y hy => hx y (List.mem_cons_of_mem _ hy)
      unfold clFrom
      dsimp only
      by_cases hk : (k == NameKind.free) = true
      · obtain ⟨c, hc⟩ := hx (n, k) List.mem_cons_self (by simpa using hk)
        rw [if_pos hk, if_pos hk]
        simp only at hc
        simp only [cellOf, hc, pure_bind]
        exact ih' _
      · rw [if_neg hk, if_neg hk]
        simp only [pure_bind]
        exact ih' _
  unfold closureFor
  have e := go scope.names [] h
  simp only [bind_pure] at e ⊢
  exact e
theorem clFrom_of {cells : List (Str × Addr)} {x : Str} {c : Addr} : ∀ {l : List (Str × NameKind)} {cs : List (Str × Addr)}, (clFrom cells l cs).lookup x = some c → cells.lookup x = some c ∨ cs.lookup x = some c
  | [], cs, h => .inr h
  | (n, k) :: r, cs, h => by
    unfold clFrom at h
    split at h
    · split at h
      · rename_i c0 e
        rcases clFrom_of h with q | q
        · exact .inl q
        · rw [List.lookup_cons] at q
          split at q
          · rename_i hx
            have hx' : x = n := by simpa using hx
            cases q
            rw [hx']
            exact .inl e
          · exact .inr q
      · exact clFrom_of h
    · exact clFrom_of h
theorem clFrom_keeps {cells : List (Str × Addr)} {x : Str} : ∀ {l : List (Str × NameKind)} {cs : List (Str × Addr)}, (∃ c, cs.lookup x = some c) → ∃ c, (clFrom cells l cs).lookup x = some c
  | [], cs, h => h
  | (n, k) :: r, cs, h => by
    unfold clFrom
    split
    · split
      · refine clFrom_keeps ?_
        rw [List.lookup_cons]
        split
        · exact ⟨_, rfl⟩
        · exact h
      · exact clFrom_keeps h
    · exact clFrom_keeps h
theorem clFrom_has {cells : List (Str × Addr)} {x : Str} : ∀ {l : List (Str × NameKind)} {cs : List (Str × Addr)}, (x, NameKind.free) ∈ l → (∃ c, cells.lookup x = some c) → ∃ c, (clFrom cells l cs).lookup x = some c
  | (n, k) :: r, cs, hm, h => by
    unfold clFrom
    rcases List.mem_cons.mp hm with e | hm
    · cases e
      obtain ⟨c, hc⟩ := h
      rw [if_pos (show (NameKind.free == NameKind.free) = true from rfl), hc]
      refine clFrom_keeps ?_
      rw [List.lookup_cons]
      simp
    · split
      · split
        · exact clFrom_has hm h
        · exact clFrom_has hm h
      · exact clFrom_has hm h
theorem relabel_vis {scope : Scope} {env : Env} {x : Str} (hnc : ∀ y ∈ scope.names, y.2 ≠ .cell) (h : (relabel scope env).names.lookup x = some .cell ∨ (relabel scope env).names.lookup x = some .free) : (x, NameKind.free) ∈ scope.names := by
  rcases h with h | h
  · have hm := PySem.mem_of_lookup h
    obtain ⟨⟨n, k⟩, hy, e⟩ := List.mem_map.mp hm
    dsimp only at e
    split at e
    · rename_i hc
      simp only [Bool.and_eq_true, beq_iff_eq] at hc
      cases e
      rw [hc.1.1] at hy
      exact hy
    · cases e
      exact absurd rfl (hnc _ hy)
  · have hm := PySem.mem_of_lookup h
    obtain ⟨⟨n, k⟩, hy, e⟩ := List.mem_map.mp hm
    dsimp only at e
    split at e
    · cases e
    · cases e
      exact hy
theorem relabel_free {env : Env} : ∀ {names : List (Str × NameKind)} {x : Str}, names.lookup x = some .free →
    ((names.map fun (n, k) => if (k == NameKind.free && env.scope.kind == .function && env.kindOf n == some .cell) then (n, NameKind.cell) else (n, k)).lookup x = some .cell ∨
     (names.map fun (n, k) => if (k == NameKind.free && env.scope.kind == .function && env.kindOf n == some .cell) then (n, NameKind.cell) else (n, k)).lookup x = some .free)
  | [], _, h => by simp at h
  | (n, k) :: r, x, h => by
    have ih := @relabel_free env r x
    show (List.lookup x ((if (k == NameKind.free && env.scope.kind == .function && env.kindOf n == some .cell) = true then (n, NameKind.cell) else (n, k)) :: _) = _) ∨ (List.lookup x ((if (k == NameKind.free && env.scope.kind == .function && env.kindOf n == some .cell) = true then (n, NameKind.cell) else (n, k)) :: _) = _)
    cases hx : x == n with
    | true =>
      simp only [List.lookup_cons, hx] at h
      cases h
      by_cases hc : ((NameKind.free : NameKind) == NameKind.free && env.scope.kind == .function && env.kindOf n == some .cell) = true
      · rw [if_pos hc]; left; simp only [List.lookup_cons, hx]
      · rw [if_neg hc]; right; simp only [List.lookup_cons, hx]
    | false =>
      simp only [List.lookup_cons, hx] at h
      by_cases hc : (k == NameKind.free && env.scope.kind == .function && env.kindOf n == some .cell) = true
      · rw [if_pos hc]; simp only [List.lookup_cons, hx]; exact ih h
      · rw [if_neg hc]; simp only [List.lookup_cons, hx]; exact ih h

/-! the block's slots: its own names hold nothing, the free ones what they hold outside -/
def picks (sl : List (Option Nat)) (σ : L2.St) : L2.St := sl.map fun o => o.bind fun j => (σ[j]?).getD none
def slOk (N N' : List Str) (sl : List (Option Nat)) (sc osc : Scope) : Bool :=
  sl.length == N'.length && (List.zip N' sl).all fun p => match p.2 with
    | none => true
    | some j => N[j]? == some p.1 && sc.names.lookup p.1 == some .free && (osc.names.lookup p.1 == some .cell || osc.names.lookup p.1 == some .free)
theorem slOk.len {N N' : List Str} {sl : List (Option Nat)} {sc osc : Scope} (h : slOk N N' sl sc osc = true) : sl.length = N'.length := by
  unfold slOk at h
  rw [Bool.and_eq_true] at h
  simpa using h.1
theorem slOk.at {N N' : List Str} {sl : List (Option Nat)} {sc osc : Scope} (h : slOk N N' sl sc osc = true) {k j : Nat} {x : Str} (h1 : N'[k]? = some x) (h2 : sl[k]? = some (some j)) :
    N[j]? = some x ∧ sc.names.lookup x = some .free ∧ (osc.names.lookup x = some .cell ∨ osc.names.lookup x = some .free) := by
  unfold slOk at h
  rw [Bool.and_eq_true, List.all_eq_true] at h
  have hm : (x, some j) ∈ List.zip N' sl := by
    refine List.mem_of_getElem? (i := k) ?_
    rw [List.getElem?_zip_eq_some]
    exact ⟨h1, h2⟩
  have q := h.2 _ hm
  simp only [Bool.and_eq_true, Bool.or_eq_true, beq_iff_eq] at q
  exact ⟨q.1.1, q.1.2, q.2⟩
/-- each free name of the block is a cell or a free name outside -/
def frOk (sc osc : Scope) : Bool := sc.names.all fun x => !(x.2 == .free) || (osc.names.lookup x.1 == some .cell || osc.names.lookup x.1 == some .free)
theorem frOk.of {sc osc : Scope} (h : frOk sc osc = true) : ∀ x ∈ sc.names, x.2 = .free → osc.names.lookup x.1 = some .cell ∨ osc.names.lookup x.1 = some .free := fun x hx e => by
  have q := List.all_eq_true.mp h x hx
  rw [e] at q
  simp only [beq_self_eq_true, Bool.not_true, Bool.false_or, Bool.or_eq_true, beq_iff_eq] at q
  exact q
def Agree (σ σ' : L2.St) : Prop := σ'.length = σ.length ∧ ∀ (i : Nat) v, σ[i]? = some (some v) → σ'[i]? = some (some v)
theorem Agree.refl (σ : L2.St) : Agree σ σ := ⟨rfl, fun _ _ h => h⟩
theorem Agree.set {σ σ' : L2.St} (a : Agree σ σ') {i : Nat} {v : Option V} (h : σ[i]? = some none) : Agree σ (σ'.set i v) := by
  refine ⟨by rw [List.length_set]; exact a.1, fun j w e => ?_⟩
  by_cases hij : i = j
  · subst hij; rw [h] at e; cases e
  · rw [List.getElem?_set_ne hij]; exact a.2 j w e

section
variable {fs ex : List Addr} {H H' : Hp} {h h1 h2 : Heap} {C : Addr}
theorem Un.but (u : Un fs ex H H' h h1) (hC : h.get? C = none) (sb : ∀ b o, b ≠ C → h1.get? b = some o → h2.get? b = some o) : Un fs ex H H' h h2 where
  keep := fun b o e n hb hx => sb b o (by rintro rfl; rw [hC] at e; cases e) (u.keep b o e n hb hx)
  slot := fun b o e n hb hx => by
    obtain ⟨sl, q⟩ := u.slot b o e n hb hx
    exact ⟨sl, sb b _ (by rintro rfl; rw [hC] at e; cases e) q⟩
  free := u.free
  there := fun b o e hx => by
    obtain ⟨o', q⟩ := u.there b o e hx
    exact ⟨o', sb b o' (by rintro rfl; rw [hC] at e; cases e) q⟩
  tups := u.tups
  frzs := u.frzs
  tbls := u.tbls
theorem HOk.but {P : Program} {w : World} (x : HOk P w H h1) (hC : H C = none) (sb : ∀ b o, b ≠ C → h1.get? b = some o → h2.get? b = some o) : HOk P w H h2 := fun a o e =>
  (x a o e).stay (fun b u hc q => sb b u (by
    rintro rfl
    rcases hc with hc | hc
    · rw [← hc, hC] at e; cases e
    · rw [hC] at hc; cases hc) q) (fun _ q => q) fun _ _ q => q
end

theorem comp_start {X : Cx} {pins : List (Addr × Obj)} {σ : L2.St} {H : Hp} {s : Shared} (I : Inv X pins σ H s) {scope : Scope} {N' : List Str} {sl : List (Option Nat)} {fp : List Addr} {h₁ : Heap} {m : Str → Option Value} {tk : Nat}
    (hk : scope.kind = .function) (hnc : ∀ y ∈ scope.names, y.2 ≠ .cell) (hfree : ∀ x ∈ scope.names, x.2 = .free → X.env.scope.names.lookup x.1 = some .cell ∨ X.env.scope.names.lookup x.1 = some .free)
    (hsl : slOk X.N N' sl scope X.env.scope = true) (hfp : ∀ b ∈ fp, FpOk X pins H b) (hlt : ∀ b ∈ fp, b < s.heap.objs.size)
    (hns : h₁.Ns s.heap.objs.size m) (hkeep : ∀ b o, s.heap.get? b = some o → h₁.get? b = some o) :
    Inv (cxComp X N' scope ⟨clFrom X.env.cells scope.names [], s.heap.objs.size, s, H, fp⟩) [] (picks sl σ) H { s with heap := h₁, toks := tk } := by
  have cof : ∀ x c, (clFrom X.env.cells scope.names []).lookup x = some c → X.env.cells.lookup x = some c := fun x c e => by
    rcases clFrom_of e with q | q
    · exact q
    · cases q
  have has : ∀ x, (x, NameKind.free) ∈ scope.names → ∃ c, (clFrom X.env.cells scope.names []).lookup x = some c := fun x hx =>
    clFrom_has hx (I.ok.has x (hfree _ hx rfl))
  refine ⟨⟨I.ok.mod, hk, I.ok.glob, I.ok.blt, Nat.le_refl _, fun x y c h1 h2 => I.ok.inj x y c (cof x c h1) (cof y c h2), fun x hx => has x (relabel_vis hnc hx), fun x c hf _ => absurd hf Bool.false_ne_true, I.ok.hd, I.ok.frames, .inl rfl,
      fun b hb => ⟨Nat.ne_of_lt (hlt b hb), fun x c e => (hfp b hb).2.2.2.2.1 x c (cof x c e)⟩, I.bs, Nat.le_trans I.ok.bsz I.sz, fun b o e hb => ?_, fun b hb hz => ?_, I.stack, I.stkFree⟩,
    rfl, I.bare, Un.kept hkeep, ⟨m, hns, fun i x v h1 h2 _ => ?_⟩, fun x c e => ?_, I.hok.fresh (Nat.le_refl _), fun x c e => I.freeC x c (cof x c e), fun p hp => absurd (show p ∈ ([] : List (Addr × Obj)) from hp) (by simp), I.hok.kept hkeep, ?_⟩
  · rcases (hfp b hb).2.2.2.1 with z | z
    · exact I.ok.noex b o e z
    · exact absurd (Nat.lt_of_lt_of_le (Heap.lt_size (I.ok.bs b o e).1) z) (Nat.lt_irrefl _)
  · rcases List.mem_cons.mp (I.stkSub b hz) with z | z
    · exact (hfp b hb).2.1 z
    · exact (hfp b hb).2.2.1 z
  · have h2' : (picks sl σ)[i]? = some (some v) := h2
    unfold picks at h2'
    rw [List.getElem?_map] at h2'
    cases q : sl[i]? with
    | none => rw [q] at h2'; cases h2'
    | some o =>
      rw [q] at h2'
      cases o with
      | none => cases h2'
      | some j =>
        have e : (σ[j]?).getD none = some v := by simpa using h2'
        have e2 : σ[j]? = some (some v) := by
          cases r : σ[j]? with
          | none => rw [r] at e; cases e
          | some w => rw [r] at e; simp at e; rw [e]
        obtain ⟨a1, a2, a3⟩ := slOk.at hsl h1 q
        obtain ⟨mo, _, hl⟩ := I.loc
        obtain ⟨u, r, l⟩ := hl j x v a1 e2 (.inr a3)
        refine ⟨u, r, .inr ⟨relabel_free a2, ?_⟩⟩
        have a4 : X.env.kindOf x = some .cell ∨ X.env.kindOf x = some .free := a3
        rcases l with ⟨l, _⟩ | ⟨_, c, e3, z⟩
        · rcases a4 with a4 | a4 <;> · rw [l] at a4; cases a4
        · obtain ⟨c', e4⟩ := has x (PySem.mem_of_lookup a2)
          have e5 := cof x c' e4
          rw [e3] at e5; cases e5
          obtain ⟨o, ho, hd⟩ := z
          exact ⟨c, e4, o, hkeep _ _ ho, hd⟩
  · obtain ⟨v, o, ho, hd⟩ := I.cell x c (cof x c e)
    exact ⟨v, o, hkeep _ _ ho, hd⟩
  · show (picks sl σ).length = N'.length
    unfold picks
    rw [List.length_map]
    exact slOk.len hsl

/-! the tests of a clause -/
def PTs (X : Cx) (ifs : List Expr) (t : TT) : Prop :=
  ∀ (pins : List (Addr × Obj)) (s : Shared) (σ : L2.St) (H : Hp) (Q : Bool → Hp → Prop), Inv X pins σ H s → t σ H Q →
    wpAny (model X.prog X.w) X.A (forIn ifs true fun c r => if r = true then do let ok ← isTrue c X.env (eval c X.env); pure (ForInStep.yield ok) else pure (ForInStep.yield r)) (TP X pins σ Q) X.xe s
def tYes : TT := fun _ H Q => Q true H
theorem pts_nil {X : Cx} : PTs X [] tYes := fun _ _ _ H _ I h => wpAny_tests_nil ⟨H, I, h⟩
theorem pts_one {X : Cx} {c : Expr} {t : TT} (h : PT X c t) : PTs X [c] t := fun pins s σ H Q I q => wpAny_tests_one (h pins s σ H Q I q)

theorem compLoop_gen {prog : Program} {w : World} {A : Around} {R : Result → Shared → Prop} {s : Shared} {elt target iter : Expr} {ifs : List Expr} {scope : Scope} {pos : Pos} {it acc : Value} {env : Env} (I : Nat → Shared → Prop)
    (turn : ∀ n s, I n s → wpAny (model prog w) A (pyNext it) (fun r s₁ => match r with
      | none => R (.ok .next) s₁
      | some v => wpAny (model prog w) A (letOwnedTupleGo target it v) (fun _ s₂ => wpAny (model prog w) A (assign target env v) (fun _ s₃ =>
          wpAny (model prog w) A (forIn ifs true fun c r => if r = true then do let ok ← isTrue c env (eval c env); pure (ForInStep.yield ok) else pure (ForInStep.yield r)) (fun ok s₄ =>
            if ok = true then wpAny (model prog w) A (eval elt env) (fun x s₅ =>
              wpAny (model prog w) A (call (.builtin "list.append") [acc, x]) (fun _ s₆ => ∃ m, m < n ∧ I m s₆) (fun _ _ => False) s₅) (fun _ _ => False) s₄
            else ∃ m, m < n ∧ I m s₄) (fun _ _ => False) s₃) (fun _ _ => False) s₂) (fun _ _ => False) s₁) (fun _ _ => False) s)
    (n : Nat) (h : I n s) :
    codeAny (model prog w) A (.compLoop (.ListComp elt [⟨target, iter, ifs, 0⟩] scope pos) 0 it acc env) R s := by
  refine codeAny_loop rfl I (fun n s hI => ?_) n h
  show wpAny _ A ((compTurn (.ListComp elt [⟨target, iter, ifs, 0⟩] scope pos) 0 it acc env).onRaise (fun x => do noteFrame x env; theTreesLotGoes x)) _ _ s
  refine wpAny_noted ?_
  rw [compTurn_list]
  refine wpAny_bind (wpAny_standAt (wpAny_bind (wpAny_mono (turn n s hI) (fun r s₁ h₁ => ?_) fun _ _ h' => h'.elim)))
  cases r with
  | none => exact wpAny_pure h₁
  | some v =>
    refine wpAny_bind (wpAny_mono h₁ (fun _ s₂ h₂ => ?_) fun _ _ h' => h'.elim)
    refine wpAny_bind (wpAny_mono h₂ (fun _ s₃ h₃ => wpAny_bind (wpAny_mono h₃ (fun ok s₄ h₄ => ?_) fun _ _ h' => h'.elim)) fun _ _ h' => h'.elim)
    cases ok with
    | false => exact wpAny_pure ⟨rfl, h₄⟩
    | true =>
      exact wpAny_bind (wpAny_bind (wpAny_mono h₄ (fun x s₅ h₅ => wpAny_bind (wpAny_mono h₅ (fun _ s₆ h₆ => wpAny_pure (wpAny_pure ⟨rfl, h₆⟩)) fun _ _ h' => h'.elim)) fun _ _ h' => h'.elim))

/-- what the reading of a comprehension asks behind the walk's beginning -/
def CompR (J : It) (sl : List (Option Nat)) (g : TG) (tt : TT) (te : TE) (σ : L2.St) (H1 : Hp) (D : Addr) (Q : VK) : Prop :=
  ∃ W : Nat → Nat → Hp → Prop, (∃ m, W 0 m (upd H1 D (.lst []))) ∧ ∀ i m H, W i m H → (J.stop i H ∧ Q (.ref D) H) ∨
    (J.go i H ∧ ∃ N : Hp → Prop, (∀ H', N H' → ∃ m', m' < m ∧ W (i + 1) m' H') ∧ ∀ x H', J.yld i H x H' → g x (picks sl σ) H' fun σ2 H2 => Agree (picks sl σ) σ2 ∧ tt σ2 H2 fun b H3 =>
      if b = true then te σ2 H3 fun y H4 => ∃ xs, H4 D = some (.lst xs) ∧ xs.length < sizeLine ∧ N (upd H4 D (.lst (xs ++ [y]))) else N H3)
def tComp (wi : TI) (sl : List (Option Nat)) (g : TG) (tt : TT) (te : TE) : TE := fun σ H Q => wi σ H fun J H1 => ∀ D, H1 D = none → CompR J sl g tt te σ H1 D Q

section
variable {X : Cx} {elt target iter : Expr} {ifs : List Expr} {scope : Scope} {pos : Pos}
/-- the block itself, for a value handed on (use none) -/
theorem comp_block {N' : List Str} {sl : List (Option Nat)} {g : TG} {tt : TT} {te : TE} {pins : List (Addr × Obj)} {s₂ : Shared} {σ : L2.St} {H2 : Hp} {Q : VK} {RR : Value → Addr → Result → Shared → Prop} {E : Value → Shared → Prop}
    {it : Addr} {fp : List Addr} {tn : Nat → Heap → Prop} {J : It} (hc : X.calm = true) (hkind : scope.kind = .function)
    (hnc : ∀ y ∈ scope.names, y.2 ≠ .cell) (hfree : ∀ x ∈ scope.names, x.2 = .free → X.env.scope.names.lookup x.1 = some .cell ∨ X.env.scope.names.lookup x.1 = some .free)
    (hsl : slOk X.N N' sl scope X.env.scope = true)
    (hg : ∀ z, PG (cxComp X N' scope z) target g) (ht : ∀ z, PTs (cxComp X N' scope z) ifs tt) (he : ∀ z, PE (cxComp X N' scope z) elt te)
    (I2 : Inv X pins σ H2 s₂) (T : Turn X.prog X.w X.K target J fp it tn) (st2 : tn 0 s₂.heap) (f2 : ∀ b ∈ fp, FpOk X pins H2 b) (hw : ∀ D, H2 D = none → CompR J sl g tt te σ H2 D Q)
    (hR : ∀ D C H' s', H' C = none → (∃ m, s'.heap.Ns C m) → FpOk X pins H' C → (∀ h', Heap.SameBut C s'.heap h' → Inv X pins σ H' { s' with heap := h' }) → Inv X pins σ H' s' → Q (.ref D) H' → RR (.ref D) C (.ok .next) s') :
    wpAny (model X.prog X.w) X.A (newList []) (fun acc s₃ => wpAny (model X.prog X.w) X.A (newFunctionEnv scope X.env.globals (clFrom X.env.cells scope.names []) [] X.env.qual none .none (some X.env)) (fun cenv s₄ =>
      codeAny (model X.prog X.w) X.A (.compStart (.ListComp elt [⟨target, iter, ifs, 0⟩] scope pos) 0 (.ref it) acc { cenv with scope := relabel scope X.env }) (RR acc cenv.locals) s₄) E s₃) E s₂ := by
  have hlt2 : ∀ b ∈ fp, b < s₂.heap.objs.size := fun b hb => by
    obtain ⟨o, e, _⟩ := T.obj _ _ st2 b hb
    exact Heap.lt_size e
  have hD : H2 s₂.heap.objs.size = none := I2.hok.fresh (Nat.le_refl _)
  obtain ⟨W, ⟨m0, w0⟩, turn⟩ := hw _ hD
  refine wpAny_newList ?_ (Nat.zero_le _)
  have I3 := I2.lnew (ys := []) (its := []) (t' := s₂.toks) .nil (Nat.zero_le _)
  refine wpAny_newFunctionEnv hnc (by intro y hy; simp at hy) (fun h₁ hns₁ hsb₁ => ?_) hkind
  generalize hs3 : ({ s₂ with heap := s₂.heap.push { cls := .type "list", data := .seq ([] : List Value).toArray } } : Shared) = s₃ at *
  have hs3' : s₃.heap = s₂.heap.push { cls := .type "list", data := .seq ([] : List Value).toArray } := by rw [← hs3]
  have hC3 : s₃.heap.objs.size = s₂.heap.objs.size + 1 := by rw [hs3', Heap.size_push]
  have keep23 : ∀ b o, s₂.heap.get? b = some o → s₃.heap.get? b = some o := fun b o e => by rw [hs3']; exact Heap.get?_push_of_some _ e
  have keep3 : ∀ b o, s₃.heap.get? b = some o → h₁.get? b = some o := fun b o e => hsb₁.extBut b o (Nat.ne_of_lt (Heap.lt_size e)) (Heap.get?_push_of_some _ e)
  have hne : ∀ b ∈ fp, b ≠ s₂.heap.objs.size := fun b hb => Nat.ne_of_lt (hlt2 b hb)
  have f3 : ∀ b ∈ fp, FpOk X pins (upd H2 s₂.heap.objs.size (.lst [])) b := fun b hb => ⟨by rw [upd_ne (hne b hb)]; exact (f2 b hb).1, (f2 b hb).2⟩
  have hlt3 : ∀ b ∈ fp, b < s₃.heap.objs.size := fun b hb => by rw [hC3]; exact Nat.lt_succ_of_lt (hlt2 b hb)
  have I4 := comp_start (tk := s₃.toks + ([] : List (Str × Value)).length) I3 hkind hnc hfree hsl f3 hlt3 hns₁ keep3
  have st4 : tn 0 h₁ := T.keep _ _ _ st2 fun b _ o e => keep3 b o (keep23 b o e)
  generalize hz : (⟨clFrom X.env.cells scope.names [], s₃.heap.objs.size, s₃, upd H2 s₂.heap.objs.size (.lst []), fp⟩ : CZ) = z at I4
  have ezC : z.C = s₃.heap.objs.size := by rw [← hz]
  have ezx : z.ex = fp := by rw [← hz]
  have stat : ∀ {H' : Hp}, (∀ b ∈ fp, H' b = none) → ∀ b ∈ fp, FpOk (cxComp X _ scope z) [] H' b := fun hn b hb => by
    subst hz
    have q := I4.ok.exf b hb
    exact ⟨hn b hb, q.1, I4.ok.exfs b hb, .inl hb, q.2, fun p hp => absurd (show p ∈ ([] : List (Addr × Obj)) from hp) (by simp)⟩
  have loop : ∀ s₄ : Shared, s₄ = { s₃ with heap := h₁, toks := s₃.toks + ([] : List (Str × Value)).length } →
      codeAny (model X.prog X.w) X.A (.compLoop (.ListComp elt [⟨target, iter, ifs, 0⟩] scope pos) 0 (.ref it) (.ref s₂.heap.objs.size) (cxComp X N' scope z).env) (RR (.ref s₂.heap.objs.size) s₃.heap.objs.size) s₄ := by
    rintro s₄ rfl
    refine compLoop_gen (fun n s' => ∃ i H', Inv (cxComp X N' scope z) [] (picks sl σ) H' s' ∧ tn i s'.heap ∧ (∀ b ∈ fp, H' b = none) ∧ W i n H') ?_ m0 ⟨0, _, I4, st4, fun b hb => (f3 b hb).1, w0⟩
    rintro n s5 ⟨i, H5, I5, st5, fr5, w5⟩
    rcases turn i n H5 w5 with ⟨stop, qn⟩ | ⟨go, N, hN, step⟩
    · refine thn (T.done (cxComp X N' scope z) rfl rfl rfl hc i [] s5 _ H5 _ I5 (stat fr5) st5 stop) fun r s6 ⟨hr, I6⟩ => ?_
      subst hr
      have un : Un (frs X.stack) fp (upd H2 s₂.heap.objs.size (.lst [])) H5 s₃.heap s6.heap := by subst hz; exact I6.base
      have os6 : s6.os = s₃.os := by subst hz; exact I6.os
      have fC : H5 s₃.heap.objs.size = none := by subst hz; exact I6.free
      have hch : ∀ b ∈ fp, (b ∈ X.ex ∨ X.s₀.heap.objs.size ≤ b) ∧ b ≠ X.env.locals ∧ (∀ x c, X.env.cells.lookup x = some c → c ≠ b) ∧ ∀ p ∈ X.pn ++ pins, p.1 ≠ b := fun b hb => ⟨(f2 b hb).2.2.2.1, (f2 b hb).2.1, (f2 b hb).2.2.2.2.1, (f2 b hb).2.2.2.2.2⟩
      have nC : s₃.heap.get? s₃.heap.objs.size = none := Heap.get?_none_of_le (Nat.le_refl _)
      have ns : ∃ m, s6.heap.Ns s₃.heap.objs.size m := by
        subst hz
        obtain ⟨m, hn, _⟩ := I6.loc
        exact ⟨m, hn⟩
      refine hR _ _ H5 s6 fC ns (I3.fpOk (Nat.le_refl _) fC) (fun h' sb => ?_) (I3.call' (ch := fp) os6 un I6.hok I6.bare hch) qn
      exact I3.call' (s' := { s6 with heap := h' }) (ch := fp) os6 (Un.but un nC sb.extBut) (HOk.but I6.hok fC sb.extBut) I6.bare hch
    · refine thn (T.item (cxComp X N' scope z) rfl rfl rfl hc i [] s5 _ H5 _ I5 (stat fr5) st5 go) fun r s6 ⟨u, hr, h6⟩ => ?_
      subst hr
      refine thn h6 fun _ s7 ⟨x, H7, I7, r7, y7, st7, fr7⟩ => ?_
      have I7' := I7.pinned (stat fr7) (T.obj _ _ st7)
      refine thn (hg z _ s7 _ H7 x u _ I7' r7 (step x H7 y7)) fun _ s8 ⟨σ8, H8, I8, ag, q8⟩ => ?_
      have again : ∀ {s9 : Shared} {H9 : Hp}, Inv (cxComp X N' scope z) ([] ++ pinsAt fp s7.heap) σ8 H9 s9 → N H9 → ∃ m, m < n ∧ ∃ i H', Inv (cxComp X N' scope z) [] (picks sl σ) H' s9 ∧ tn i s9.heap ∧ (∀ b ∈ fp, H' b = none) ∧ W i m H' := fun {s9 H9} I9 n9 => by
        obtain ⟨m', hm, w9⟩ := hN H9 n9
        refine ⟨m', hm, i + 1, H9, (I9.weak ag.1.symm ag.2).unpinned, T.keep _ _ _ st7 fun b hb o e => (I9.pin (b, o) (List.mem_append_right _ (List.mem_append_right _ (mem_pinsAt hb e)))).1, fun b hb => ?_, w9⟩
        obtain ⟨o, e, d⟩ := T.obj _ _ st7 b hb
        exact (I9.pin (b, o) (List.mem_append_right _ (List.mem_append_right _ (mem_pinsAt hb e)))).2.1
      refine thn (ht z _ s8 σ8 H8 _ I8 q8) fun ok s9 ⟨H9, I9, q9⟩ => ?_
      cases ok with
      | false => exact again I9 q9
      | true =>
        refine thn (he z _ s9 σ8 H9 _ I9 q9) fun u10 s10 ⟨y, H10, I10, r10, xs, hx, hz10, n10⟩ => ?_
        exact thn (mt_append _ s10 σ8 H10 (.ref s₂.heap.objs.size) [y] (.ref s₂.heap.objs.size) [u10] (fun _ H' => N H') I10 rfl (.cons r10 .nil) ⟨_, xs, y, rfl, rfl, hx, hz10, n10⟩) fun _ s11 ⟨_, H11, I11, _, n11⟩ => again I11 n11
  have eenv : (cxComp X N' scope z).env = compEnvC scope (clFrom X.env.cells scope.names []) s₃.heap.objs.size X.env := by rw [← hz]; rfl
  rw [eenv] at loop
  exact codeAny_compStart_list (loop _ rfl) (T.self _ 0 _ _ _ st4 (loop _ rfl))

theorem pe_comp (N' : List Str) (sl : List (Option Nat)) {wi : TI} {g : TG} {tt : TT} {te : TE} (hc : X.calm = true) (hkind : scope.kind = .function)
    (hnames : ∀ x ∈ scope.names, x.2 = .local → scope.names.lookup x.1 = some .local)
    (hnc : ∀ y ∈ scope.names, y.2 ≠ .cell) (hfr : frOk scope X.env.scope = true)
    (hsl : slOk X.N N' sl scope X.env.scope = true) (hi : PI X target iter wi)
    (hg : ∀ z, PG (cxComp X N' scope z) target g) (ht : ∀ z, PTs (cxComp X N' scope z) ifs tt) (he : ∀ z, PE (cxComp X N' scope z) elt te)
    (hs : ∀ x, foldedSetIterable iter X.env x = pure x := by intro _; rfl) :
    PE X (.ListComp elt [⟨target, iter, ifs, 0⟩] scope pos) (tComp wi sl g tt te) := by
  have hfree := frOk.of hfr
  intro pins s σ H Q I h
  rw [eval_ListComp]
  have hcl : closureFor scope X.env = pure (clFrom X.env.cells scope.names []) := closureFor_eq fun x hx hk => I.ok.has x.1 (hfree x hx hk)
  refine wpAny_comprehension_free (use := none) rfl hs hcl hkind hnames (thn (hi pins s σ H _ I h) fun xv s₁ h₁ => thn h₁ fun itv s₂ h₂ => ?_)
  obtain ⟨it, fp, tn, J, H2, e, I2, T, st2, f2, hw⟩ := h₂
  subst e
  refine comp_block (RR := fun acc C => compPost (model X.prog X.w) X.A X.xe none (EP X pins σ Q) acc C) hc hkind hnc hfree hsl hg ht he I2 T st2 f2 hw ?_
  intro D C H' s' fC ns _ hI _ q
  obtain ⟨m, hn⟩ := ns
  exact ⟨m, hn, fun h' sb => ⟨.ref D, H', hI h' sb, rfl, q⟩⟩
/-- name = [..], a plain local name: stored while the comprehension's own names still are there -/
theorem ps_setC (N' : List Str) (sl : List (Option Nat)) {wi : TI} {g : TG} {tt : TT} {te : TE} {i : Nat} {y : Str} {py spos : Pos} (hN : X.N.Nodup) (hyi : X.N[i]? = some y) (hx : Loc X.env.scope y)
    (hsw : swapsWith (.ListComp elt [⟨target, iter, ifs, 0⟩] scope pos) (some (.Name y py)) spos.line X.env = pure true) (hc : X.calm = true) (hkind : scope.kind = .function)
    (hnames : ∀ x ∈ scope.names, x.2 = .local → scope.names.lookup x.1 = some .local)
    (hnc : ∀ y ∈ scope.names, y.2 ≠ .cell) (hfr : frOk scope X.env.scope = true)
    (hsl : slOk X.N N' sl scope X.env.scope = true) (hi : PI X target iter wi)
    (hg : ∀ z, PG (cxComp X N' scope z) target g) (ht : ∀ z, PTs (cxComp X N' scope z) ifs tt) (he : ∀ z, PE (cxComp X N' scope z) elt te)
    (hs : ∀ x, foldedSetIterable iter X.env x = pure x := by intro _; rfl) (hf : X.fn y = true ∨ X.env.scope.names.lookup y = some .local := by first | exact .inl rfl | exact .inr rfl | assumption) :
    PS X (.Assign [.Name y py] (.ListComp elt [⟨target, iter, ifs, 0⟩] scope pos) spos) (tAsg (tComp wi sl g tt te) (gName i)) := by
  have hfree := frOk.of hfr
  intro pins s σ H D I h
  rw [exec_Assign_Name_used _ _ _ _ hsw]
  refine wpAny_bind (wpAny_standAt (wpAny_bind ?_))
  show wpAny _ _ (do let _ ← comprehension (.ListComp elt [⟨target, iter, ifs, 0⟩] scope pos) scope X.env _ (newList []) false (eval iter X.env) (some (assign (.Name y py) X.env))) _ _ s
  have hcl : closureFor scope X.env = pure (clFrom X.env.cells scope.names []) := closureFor_eq fun x hx hk => I.ok.has x.1 (hfree x hx hk)
  refine wpAny_bind (wpAny_mono (wpAny_comprehension_free (use := some (assign (.Name y py) X.env)) (Q := fun _ s' => SP X pins D .next s') rfl hs hcl hkind hnames
    (thn (hi pins s σ H _ I h) fun xv s₁ h₁ => thn h₁ fun itv s₂ h₂ => ?_)) (fun _ s' hq => wpAny_pure (wpAny_pure hq)) fun _ _ e => e)
  obtain ⟨it, fp, tn, J, H2, e, I2, T, st2, f2, hw⟩ := h₂
  subst e
  refine comp_block (RR := fun acc C => compPost (model X.prog X.w) X.A X.xe (some (assign (.Name y py) X.env)) (fun _ s' => SP X pins D .next s') acc C) hc hkind hnc hfree hsl hg ht he I2 T st2 f2 hw ?_
  intro E C H' s' fC ns fp hI I' q
  obtain ⟨m, hn⟩ := ns
  show wpAny _ _ (assign (.Name y py) X.env (.ref E)) _ _ _
  refine wpAny_assign_Name (store_ok2 I' hN hyi hx (v := .ref E) rfl (fun s2 I2 ⟨a, sb, ha⟩ => ?_) hf)
  have hCa : C ≠ a := by
    rcases ha with ha | ha
    · rw [ha]; exact fp.2.1
    · exact fun z => fp.2.2.2.2.1 _ _ ha z.symm
  exact ⟨m, hn.sameBut sb hCa, fun h3 sb3 => ⟨_, H', I2.turned (t' := s2.toks) (fun b o hb e => (sb3.2 b hb).trans e) fp.1 fp.2.1 fp.2.2.2.1 fp.2.2.2.2.1 fp.2.2.2.2.2, q⟩⟩
end
end L3

set_option maxHeartbeats 4000000
namespace L3
open PySem PySem.Spec PyProof.Rows L2

/-! ### plain data behind a value -/
mutual
def Rep (H : Hp) : PyData → V → Prop
  | .none, v => v = .non
  | .bool b, v => v = .bl b
  | .int i, v => v = .int i
  | .str x, v => v = .str x ∧ PyData.strOk x = true
  | .tuple ds, v => ∃ a xs, v = .ref a ∧ H a = some (.tup xs) ∧ RepAll H ds xs
  | .list ds, v => ∃ a xs, v = .ref a ∧ H a = some (.lst xs) ∧ RepAll H ds xs
  | .dict _, _ => False
def RepAll (H : Hp) : List PyData → List V → Prop
  | [], xs => xs = []
  | d :: ds, xs => ∃ x r, xs = x :: r ∧ Rep H d x ∧ RepAll H ds r
end
/-! no list within -/
mutual
def imm : PyData → Bool
  | .none => true
  | .bool _ => true
  | .int _ => true
  | .str _ => true
  | .tuple ds => immAll ds
  | .list _ => false
  | .dict _ => false
def immAll : List PyData → Bool
  | [] => true
  | d :: ds => imm d && immAll ds
end
/-- tuples stay -/
def Tk (H H' : Hp) : Prop := ∀ b xs, H b = some (.tup xs) → H' b = some (.tup xs)
theorem Tk.refl (H : Hp) : Tk H H := fun _ _ h => h
theorem Tk.trans {H H1 H2 : Hp} (a : Tk H H1) (b : Tk H1 H2) : Tk H H2 := fun c o h => b c o (a c o h)
theorem Tk.of_same {H H' : Hp} (h : Same H H') : Tk H H' := fun b xs q => h b _ q
theorem Tk.fresh {H : Hp} {p : Addr} {o : HO} (h : H p = none) : Tk H (upd H p o) := fun b xs q => by rw [upd_ne (ne_of_none q h)]; exact q
theorem Tk.lst {H : Hp} {p : Addr} {xs : List V} {o : HO} (h : H p = some (.lst xs)) : Tk H (upd H p o) := fun b ys q => by rw [upd_ne (ne_of q h (by intro z; cases z))]; exact q
mutual
theorem Rep.tk {H H' : Hp} (t : Tk H H') : ∀ {d : PyData} {v : V}, imm d = true → Rep H d v → Rep H' d v
  | .none, _, _, h => h
  | .bool _, _, _, h => h
  | .int _, _, _, h => h
  | .str _, _, _, h => h
  | .tuple ds, v, hi, h => by
    obtain ⟨a, xs, e, ha, r⟩ := h
    exact ⟨a, xs, e, t _ _ ha, RepAll.tk t hi r⟩
  | .list _, _, hi, _ => absurd hi Bool.false_ne_true
  | .dict _, _, hi, _ => absurd hi Bool.false_ne_true
theorem RepAll.tk {H H' : Hp} (t : Tk H H') : ∀ {ds : List PyData} {xs : List V}, immAll ds = true → RepAll H ds xs → RepAll H' ds xs
  | [], _, _, h => h
  | d :: ds, xs, hi, h => by
    obtain ⟨x, r, e, h1, h2⟩ := h
    have hi' : (imm d && immAll ds) = true := hi
    rw [Bool.and_eq_true] at hi'
    exact ⟨x, r, e, Rep.tk t hi'.1 h1, RepAll.tk t hi'.2 h2⟩
end
mutual
theorem Rep.same {H H' : Hp} (t : Same H H') : ∀ {d : PyData} {v : V}, Rep H d v → Rep H' d v
  | .none, _, h => h
  | .bool _, _, h => h
  | .int _, _, h => h
  | .str _, _, h => h
  | .tuple ds, v, h => by
    obtain ⟨a, xs, e, ha, r⟩ := h
    exact ⟨a, xs, e, t _ _ ha, RepAll.same t r⟩
  | .list ds, v, h => by
    obtain ⟨a, xs, e, ha, r⟩ := h
    exact ⟨a, xs, e, t _ _ ha, RepAll.same t r⟩
  | .dict _, _, h => h
theorem RepAll.same {H H' : Hp} (t : Same H H') : ∀ {ds : List PyData} {xs : List V}, RepAll H ds xs → RepAll H' ds xs
  | [], _, h => h
  | d :: ds, xs, h => by
    obtain ⟨x, r, e, h1, h2⟩ := h
    exact ⟨x, r, e, Rep.same t h1, RepAll.same t h2⟩
end
theorem RepAll.length {H : Hp} : ∀ {ds : List PyData} {xs : List V}, RepAll H ds xs → xs.length = ds.length
  | [], xs, h => by have e : xs = [] := h; rw [e]; rfl
  | d :: ds, xs, h => by
    obtain ⟨x, r, e, _, h2⟩ := h
    rw [e, List.length_cons, List.length_cons, RepAll.length h2]
theorem RepAll.get {H : Hp} : ∀ {ds : List PyData} {xs : List V} {i : Nat} {d : PyData}, RepAll H ds xs → ds[i]? = some d → ∃ x, xs[i]? = some x ∧ Rep H d x
  | [], _, _, _, _, e => by simp at e
  | d :: ds, xs, 0, d', h, e => by
    obtain ⟨x, r, e1, h1, _⟩ := h
    subst e1
    simp at e; subst e
    exact ⟨x, rfl, h1⟩
  | d :: ds, xs, i + 1, d', h, e => by
    obtain ⟨x, r, e1, _, h2⟩ := h
    subst e1
    obtain ⟨y, h3, h4⟩ := RepAll.get (i := i) h2 (by simpa using e)
    exact ⟨y, by simpa using h3, h4⟩
theorem RepAll.at {H : Hp} {ds : List PyData} {xs : List V} {i : Nat} {x : V} (h : RepAll H ds xs) (e : xs[i]? = some x) : ∃ d, ds[i]? = some d ∧ Rep H d x := by
  have hi : i < xs.length := (List.getElem?_eq_some_iff.mp e).1
  have hi' : i < ds.length := by rw [← h.length]; exact hi
  obtain ⟨y, h1, h2⟩ := h.get (List.getElem?_eq_getElem hi')
  rw [e] at h1; cases h1
  exact ⟨_, List.getElem?_eq_getElem hi', h2⟩
theorem RepAll.append {H : Hp} : ∀ {ds es : List PyData} {xs ys : List V}, RepAll H ds xs → RepAll H es ys → RepAll H (ds ++ es) (xs ++ ys)
  | [], es, xs, ys, h, h' => by have e : xs = [] := h; rw [e]; exact h'
  | d :: ds, es, xs, ys, h, h' => by
    obtain ⟨x, r, e, h1, h2⟩ := h
    subst e
    exact ⟨x, r ++ ys, rfl, h1, RepAll.append h2 h'⟩
theorem RepAll.snoc {H : Hp} {ds : List PyData} {d : PyData} {xs : List V} {x : V} (h : RepAll H ds xs) (h' : Rep H d x) : RepAll H (ds ++ [d]) (xs ++ [x]) := h.append ⟨x, [], rfl, h', rfl⟩
theorem RepAll.drop {H : Hp} : ∀ {ds : List PyData} {xs : List V} (n : Nat), RepAll H ds xs → RepAll H (ds.drop n) (xs.drop n)
  | _, _, 0, h => h
  | [], xs, n + 1, h => by have e : xs = [] := h; rw [e]; rfl
  | d :: ds, xs, n + 1, h => by
    obtain ⟨x, r, e, _, h2⟩ := h
    subst e
    exact RepAll.drop n h2
theorem RepAll.take {H : Hp} : ∀ {ds : List PyData} {xs : List V} (n : Nat), RepAll H ds xs → RepAll H (ds.take n) (xs.take n)
  | _, _, 0, _ => rfl
  | [], xs, n + 1, h => by have e : xs = [] := h; rw [e]; rfl
  | d :: ds, xs, n + 1, h => by
    obtain ⟨x, r, e, h1, h2⟩ := h
    subst e
    exact ⟨x, r.take n, rfl, h1, RepAll.take n h2⟩
mutual
theorem Rep.lay {H : Hp} : ∀ {d : PyData} {v : V}, Rep H d v → d.canLay0 = true
  | .none, _, _ => rfl
  | .bool _, _, _ => rfl
  | .int _, _, _ => rfl
  | .str _, _, h => h.2
  | .tuple ds, _, h => by
    obtain ⟨_, _, _, _, r⟩ := h
    exact RepAll.lay r
  | .list ds, _, h => by
    obtain ⟨_, _, _, _, r⟩ := h
    exact RepAll.lay r
  | .dict _, _, h => h.elim
theorem RepAll.lay {H : Hp} : ∀ {ds : List PyData} {xs : List V}, RepAll H ds xs → PyData.canLayAll0 ds = true
  | [], _, _ => rfl
  | d :: ds, _, h => by
    obtain ⟨x, r, e, h1, h2⟩ := h
    show (d.canLay0 && PyData.canLayAll0 ds) = true
    rw [Rep.lay h1, RepAll.lay h2]
    rfl
end
section
variable {X : Cx} {pins : List (Addr × Obj)} {σ : L2.St} {H : Hp} {s : Shared}
mutual
theorem Rep.reads (I : Inv X pins σ H s) : ∀ {d : PyData} {v : V} {u : Value}, Rep H d v → RelV v u → ∃ as, Reads s.heap u d as
  | .none, v, u, h, r => by cases (show v = .non from h); cases (show u = Value.none from r); exact ⟨_, .none⟩
  | .bool b, v, u, h, r => by cases (show v = .bl b from h); cases (show u = Value.bool b from r); exact ⟨_, .bool b⟩
  | .int i, v, u, h, r => by
    cases (show v = .int i from h)
    obtain ⟨t, e⟩ := (show ∃ t, u = Value.int i t from r)
    cases e; exact ⟨_, .int i t⟩
  | .str x, v, u, h, r => by
    cases (show v = .str x from h.1)
    obtain ⟨t, e⟩ := (show ∃ t, u = Value.str x t from r)
    cases e; exact ⟨_, .str x t⟩
  | .tuple ds, v, u, h, r => by
    obtain ⟨a, xs, e, ha, q⟩ := h
    subst e
    cases (show u = Value.ref a from r)
    obtain ⟨its, rv, ⟨o, e1, e2, n, e3⟩, _⟩ := I.tuple (SqT.of (K := X.K) ha)
    obtain ⟨as, z⟩ := RepAll.reads I q rv
    exact ⟨as, .tuple e1 e2 e3 z⟩
  | .list ds, v, u, h, r => by
    obtain ⟨a, xs, e, ha, q⟩ := h
    subst e
    cases (show u = Value.ref a from r)
    obtain ⟨its, rv, ⟨o, n, e1, e2, _, e3⟩, _⟩ := I.list (SqL.of (K := X.K) ha)
    obtain ⟨as, z⟩ := RepAll.reads I q rv
    exact ⟨_, .list e1 e2 e3 z⟩
  | .dict _, _, _, h, _ => h.elim
theorem RepAll.reads (I : Inv X pins σ H s) : ∀ {ds : List PyData} {xs : List V} {us : List Value}, RepAll H ds xs → Vals xs us → ∃ as, ReadsAll s.heap us ds as
  | [], xs, us, h, r => by
    cases (show xs = [] from h)
    cases r
    exact ⟨_, .nil⟩
  | d :: ds, xs, us, h, r => by
    obtain ⟨x, t, e, h1, h2⟩ := h
    subst e
    cases r with
    | cons r1 r2 =>
      obtain ⟨as, z1⟩ := Rep.reads I h1 r1
      obtain ⟨bs, z2⟩ := RepAll.reads I h2 r2
      exact ⟨_, .cons z1 z2⟩
end
end

/-! ### ==, !=, in, not in over data -/
def rEqD (neg : Bool) : R2 := fun x y H Q => ∃ dx dy, Rep H dx x ∧ Rep H dy y ∧ dx.depth ≤ 60 ∧ Q (.bl (if neg then !PyData.eqv dx dy else PyData.eqv dx dy)) H
section
variable {X : Cx}
theorem op_eqD (hu : X.A.units + 64 < cLine) : OpR X (compareOp .Eq) (rEqD false) := by
  intro pins s σ H x y v u Q I rx ry h
  obtain ⟨dx, dy, hx, hy, hd, q⟩ := h
  obtain ⟨as, r1⟩ := hx.reads I rx
  obtain ⟨bs, r2⟩ := hy.reads I ry
  exact SeqAt.compareEq_reads r1 r2 hx.lay hy.lay (by have := Nat.min_le_left dx.depth dy.depth; omega) ⟨.bl _, H, I, rfl, q⟩
theorem op_neD (hu : X.A.units + 64 < cLine) : OpR X (compareOp .NotEq) (rEqD true) := by
  intro pins s σ H x y v u Q I rx ry h
  obtain ⟨dx, dy, hx, hy, hd, q⟩ := h
  obtain ⟨as, r1⟩ := hx.reads I rx
  obtain ⟨bs, r2⟩ := hy.reads I ry
  exact SeqAt.compareNe_reads r1 r2 hx.lay hy.lay (by have := Nat.min_le_left dx.depth dy.depth; omega) ⟨.bl _, H, I, rfl, q⟩
/-- x in a list or a tuple of data -/
def rInD (neg : Bool) : R2 := fun x y H Q => ∃ d p xs ds, Rep H d x ∧ y = .ref p ∧ (H p = some (.lst xs) ∨ H p = some (.tup xs)) ∧ RepAll H ds xs ∧ d.depth ≤ 60 ∧
  Q (.bl (if neg then !(ds.any fun e => PyData.eqv e d) else ds.any fun e => PyData.eqv e d)) H
theorem op_inD (hu : X.A.units + 64 < cLine) : OpR X (compareOp .In) (rInD false) := by
  intro pins s σ H x y v u Q I rx ry h
  obtain ⟨d, p, xs, ds, hx, rfl, hp, hds, hd, q⟩ := h
  cases ry
  obtain ⟨bs, r2⟩ := hx.reads I rx
  have room : X.A.units + 1 + min (PyData.depthAll ds) d.depth < cLine := by have := Nat.min_le_right (PyData.depthAll ds) d.depth; omega
  rcases hp with hp | hp
  · obtain ⟨as, r1⟩ := Rep.reads I (d := .list ds) (v := .ref p) (u := .ref p) ⟨p, xs, rfl, hp, hds⟩ rfl
    exact SeqAt.in_list_reads r1 r2 hds.lay hx.lay room ⟨.bl _, H, I, rfl, q⟩
  · obtain ⟨as, r1⟩ := Rep.reads I (d := .tuple ds) (v := .ref p) (u := .ref p) ⟨p, xs, rfl, hp, hds⟩ rfl
    exact SeqAt.in_tuple_reads r1 r2 hds.lay hx.lay room ⟨.bl _, H, I, rfl, q⟩
theorem op_notInD (hu : X.A.units + 64 < cLine) : OpR X (compareOp .NotIn) (rInD true) := by
  intro pins s σ H x y v u Q I rx ry h
  obtain ⟨d, p, xs, ds, hx, rfl, hp, hds, hd, q⟩ := h
  cases ry
  obtain ⟨bs, r2⟩ := hx.reads I rx
  have room : X.A.units + 1 + min (PyData.depthAll ds) d.depth < cLine := by have := Nat.min_le_right (PyData.depthAll ds) d.depth; omega
  rcases hp with hp | hp
  · obtain ⟨as, r1⟩ := Rep.reads I (d := .list ds) (v := .ref p) (u := .ref p) ⟨p, xs, rfl, hp, hds⟩ rfl
    exact SeqAt.notIn_list_reads r1 r2 hds.lay hx.lay room ⟨.bl _, H, I, rfl, q⟩
  · obtain ⟨as, r1⟩ := Rep.reads I (d := .tuple ds) (v := .ref p) (u := .ref p) ⟨p, xs, rfl, hp, hds⟩ rfl
    exact SeqAt.notIn_tuple_reads r1 r2 hds.lay hx.lay room ⟨.bl _, H, I, rfl, q⟩

/-! ### isinstance -/
theorem call_isinst : CallR X (.builtin "isinstance") (fun xs H Q => ∃ x T t b, xs = [x, .ty T] ∧ TyOf X.K H x t ∧ PySem.W.kitOne X.K t (.type T) = some b ∧ Q (.bl b) H) := by
  intro pins s σ H xs us Q I r h
  obtain ⟨x, T, t, b, rfl, ty, e, q⟩ := h
  obtain ⟨u, w', rfl, r1, r2⟩ := vals2 r
  cases (show w' = Value.type T from r2)
  exact isinst_ok I r1 ty e fun tk => ⟨.bl b, H, I.tok _, rfl, q⟩
end

/-! ### sorted: a list of tuples of ints and texts -/
def fltLt : PyData → PyData → Bool
  | .int a, .int b => decide (a < b)
  | .str a, .str b => decide (a.cps.toList < b.cps.toList)
  | _, _ => false
def rowLt : List PyData → List PyData → Bool
  | [], [] => false
  | [], _ :: _ => true
  | _ :: _, [] => false
  | x :: xs, y :: ys => if PyData.eqv x y = true then rowLt xs ys else fltLt x y
/-- what a row is made of: true an int, false a text -/
def Row : List Bool → List PyData → Prop
  | [], ds => ds = []
  | true :: ks, ds => ∃ i r, ds = .int i :: r ∧ Row ks r
  | false :: ks, ds => ∃ x r, ds = .str x :: r ∧ Row ks r
def rowOf : PyData → List PyData
  | .tuple ds => ds
  | _ => []
def ltAtD (ds : List PyData) (i j : Nat) : Bool := rowLt (rowOf (ds.getD i .none)) (rowOf (ds.getD j .none))
def sortD (ds : List PyData) : List PyData := (srt (ltAtD ds) ds.length).map fun i => ds.getD i .none
section
variable {prog : Program} {w : World} {A : Around} {E : Value → Shared → Prop} {s : Shared} {Q : Bool → Shared → Prop}
theorem lex_rows : ∀ {ks : List Bool} {xs ys : List PyData} {us vs : List Value} {as bs : List Addr} {i : Nat}, Row ks xs → Row ks ys → ReadsAll s.heap us xs as → ReadsAll s.heap vs ys bs → Q (rowLt xs ys) s →
    PySem.W.KatLex prog w A true false Q (us.zip vs) i s
  | [], xs, ys, us, vs, as, bs, i, h1, h2, r1, r2, q => by
    cases (show xs = [] from h1); cases (show ys = [] from h2)
    cases r1; cases r2
    exact q
  | true :: ks, xs, ys, us, vs, as, bs, i, h1, h2, r1, r2, q => by
    obtain ⟨a, xr, rfl, h1⟩ := h1
    obtain ⟨b, yr, rfl, h2⟩ := h2
    cases r1 with
    | cons ra r1 =>
      cases r2 with
      | cons rb r2 =>
        cases ra with
        | int _ t =>
          cases rb with
          | int _ u =>
            rw [List.zip_cons_cons]
            refine PySem.W.kat_cons (SeqAt.EqAt.int_int a t b u prog w _ _ ?_)
            have q' : Q (if PyData.eqv (.int a) (.int b) = true then rowLt xr yr else fltLt (.int a) (.int b)) s := q
            have e : PyData.eqv (.int a) (.int b) = (a == b) := rfl
            rw [e] at q'
            cases hb : (a == b) with
            | true => rw [hb, if_pos rfl] at q'; exact PySem.W.kat_yes (lex_rows h1 h2 r1 r2 q')
            | false =>
              rw [hb, if_neg Bool.false_ne_true] at q'
              refine PySem.W.kat_no ?_
              cases hi : (i == 0) with
              | true => exact oneLt_int q'
              | false => exact PySem.W.kat_one _ _ (lt_int q')
  | false :: ks, xs, ys, us, vs, as, bs, i, h1, h2, r1, r2, q => by
    obtain ⟨a, xr, rfl, h1⟩ := h1
    obtain ⟨b, yr, rfl, h2⟩ := h2
    cases r1 with
    | cons ra r1 =>
      cases r2 with
      | cons rb r2 =>
        cases ra with
        | str _ t =>
          cases rb with
          | str _ u =>
            rw [List.zip_cons_cons]
            refine PySem.W.kat_cons (SeqAt.EqAt.str_str a t b u prog w _ _ ?_)
            have q' : Q (if PyData.eqv (.str a) (.str b) = true then rowLt xr yr else fltLt (.str a) (.str b)) s := q
            have e : PyData.eqv (.str a) (.str b) = (a == b) := rfl
            rw [e] at q'
            cases hb : (a == b) with
            | true => rw [hb, if_pos rfl] at q'; exact PySem.W.kat_yes (lex_rows h1 h2 r1 r2 q')
            | false =>
              rw [hb, if_neg Bool.false_ne_true] at q'
              refine PySem.W.kat_no ?_
              cases hi : (i == 0) with
              | true => exact oneLt_str q'
              | false => exact PySem.W.kat_one _ _ (PyProof.Rows.lt_str q')
end
theorem Row.len {ks : List Bool} : ∀ {ds : List PyData}, Row ks ds → ds.length = ks.length := by
  induction ks with
  | nil => intro ds h; cases (show ds = [] from h); rfl
  | cons k ks ih =>
    intro ds h
    cases k with
    | true => obtain ⟨i, r, rfl, h⟩ := h; rw [List.length_cons, List.length_cons, ih h]
    | false => obtain ⟨i, r, rfl, h⟩ := h; rw [List.length_cons, List.length_cons, ih h]
/-- a list whose items are rows of one make, the first part an int -/
def Rows (ks : List Bool) (ds : List PyData) : Prop := ∀ d ∈ ds, ∃ r, d = .tuple r ∧ Row (true :: ks) r
section
variable {X : Cx}
theorem tup_of (I : Inv X pins σ H s) {ks : List Bool} {d : PyData} {v : V} {u : Value} (h : Rep H d v) (r : RelV v u) {row : List PyData} (e : d = .tuple row) (hr : Row (true :: ks) row) :
    ∃ a o vs n as i t, u = .ref a ∧ s.heap.get? a = some o ∧ o.cls = .type "tuple" ∧ o.data = .seq vs n ∧ ReadsAll s.heap vs.toList row as ∧ vs[0]? = some (.int i t) := by
  subst e
  obtain ⟨as, z⟩ := h.reads I r
  cases z with
  | @tuple a o vs n _ _ e1 e2 e3 z =>
    obtain ⟨i, rr, rfl, _⟩ := hr
    have z' := z
    generalize hv : vs.toList = vl at z
    cases z with
    | cons ra rb =>
      cases ra with
      | int _ t =>
        refine ⟨a, o, vs, n, _, i, t, rfl, e1, e2, e3, z', ?_⟩
        rw [← Array.getElem?_toList, hv]
        rfl
theorem kat_tups (I : Inv X pins σ H s) {ks : List Bool} : ∀ {ds : List PyData} {xs : List V} {us : List Value}, RepAll H ds xs → Vals xs us → Rows ks ds → ∃ fs : List Value, PySem.W.KatTups s.heap us fs ∧ fs.length = ds.length ∧ ∀ v ∈ fs, ∃ i t, v = Value.int i t
  | [], xs, us, h, r, _ => by
    cases (show xs = [] from h); cases r
    exact ⟨[], trivial, rfl, fun v hv => by cases hv⟩
  | d :: ds, xs, us, h, r, hr => by
    obtain ⟨x, t, e, h1, h2⟩ := h
    subst e
    cases r with
    | cons r1 r2 =>
      obtain ⟨row, e, hrow⟩ := hr d List.mem_cons_self
      obtain ⟨a, o, vs, n, as, i, tk, rfl, e1, e2, e3, _, e4⟩ := tup_of I h1 r1 e hrow
      obtain ⟨fs, k1, k2, k3⟩ := kat_tups I h2 r2 fun d hd => hr d (List.mem_cons_of_mem _ hd)
      refine ⟨.int i tk :: fs, PySem.W.KatTups.cons e1 e2 e3 e4 k1, by rw [List.length_cons, List.length_cons, k2], fun v hv => ?_⟩
      rcases List.mem_cons.mp hv with rfl | hv
      · exact ⟨i, tk, rfl⟩
      · exact k3 v hv
theorem KatTups.keeps {h h' : Heap} (k : ∀ b o, h.get? b = some o → h'.get? b = some o) : ∀ {vs fs : List Value}, PySem.W.KatTups h vs fs → PySem.W.KatTups h' vs fs
  | [], [], _ => trivial
  | v :: vs, f :: fs, x => by
    obtain ⟨⟨a, o, xs, n, e, e1, e2⟩, r⟩ := x
    exact ⟨⟨a, o, xs, n, e, k _ _ e1, e2⟩, KatTups.keeps k r⟩
  | [], _ :: _, x => x.elim
  | _ :: _, [], x => x.elim
theorem RepAll.pick {H : Hp} {ds : List PyData} {xs : List V} (h : RepAll H ds xs) : ∀ {is : List Nat}, (∀ i ∈ is, i < ds.length) → RepAll H (is.map fun i => ds.getD i .none) (is.map fun i => xs.getD i .non)
  | [], _ => rfl
  | i :: is, hi => by
    have h1 : i < ds.length := hi i List.mem_cons_self
    obtain ⟨x, e1, e2⟩ := h.get (List.getElem?_eq_getElem h1)
    refine ⟨xs.getD i .non, _, rfl, ?_, RepAll.pick h fun j hj => hi j (List.mem_cons_of_mem _ hj)⟩
    show Rep H (ds.getD i .none) (xs.getD i .non)
    rw [List.getD_eq_getElem?_getD, List.getD_eq_getElem?_getD, e1, List.getElem?_eq_getElem h1]
    exact e2
theorem Vals.pick {xs : List V} {us : List Value} (h : Vals xs us) : ∀ {is : List Nat}, (∀ i ∈ is, i < xs.length) → Vals (is.map fun i => xs.getD i .non) (is.map fun i => us.getD i Value.none)
  | [], _ => .nil
  | i :: is, hi => by
    have h1 : i < xs.length := hi i List.mem_cons_self
    obtain ⟨u, e1, e2⟩ := h.get (List.getElem?_eq_getElem h1)
    refine .cons ?_ (Vals.pick h fun j hj => hi j (List.mem_cons_of_mem _ hj))
    show L2.RelV (xs.getD i .non) (us.getD i Value.none)
    rw [List.getD_eq_getElem?_getD, List.getD_eq_getElem?_getD, e1, List.getElem?_eq_getElem h1]
    exact e2
theorem call_sortedD : CallR X (.builtin "sorted") (fun vs H Q => ∃ p xs ds ks, vs = [.ref p] ∧ H p = some (.lst xs) ∧ RepAll H ds xs ∧ Rows ks ds ∧ ds.length < 64 ∧
    ∀ l ys, H l = none → RepAll (upd H l (.lst ys)) (sortD ds) ys → Q (.ref l) (upd H l (.lst ys))) := by
  intro pins s σ H xs us Q I r h
  obtain ⟨p, xs, ds, ks, rfl, hp, hds, hrows, h64, q⟩ := h
  obtain ⟨u, rfl, r1⟩ := vals1 r
  cases (show u = Value.ref p from r1)
  obtain ⟨its, rv, pl, hz⟩ := I.list (SqL.of (K := X.K) hp)
  have l1 : xs.length = ds.length := hds.length
  have l2 : xs.length = its.length := rv.length
  obtain ⟨fs, kt, kf, ki⟩ := kat_tups I hds rv hrows
  obtain ⟨as, rds⟩ := RepAll.reads I hds rv
  refine sorted_by (κ := tuples' true) (lt := ltAtD ds) pl.isList (by omega) (fun h2 s' k => ⟨fun Q' E' hq => ?_, fun i j hi hj Q' hq => ?_⟩) ?_
  · refine PySem.W.kat_kind (T := Value.type "int") (KatTups.keeps k kt) (by omega) (fun v hv => ?_) rfl hq
    obtain ⟨i, t, rfl⟩ := ki v hv
    exact PySem.W.Looks.of_pure rfl
  · have tup : ∀ i, i < its.length → ∃ a o vs n bs row, its.getD i Value.none = .ref a ∧ ds.getD i .none = .tuple row ∧ Row (true :: ks) row ∧ s'.heap.get? a = some o ∧ o.data = .seq vs n ∧ ReadsAll s'.heap vs.toList row bs := fun i hi => by
      have hi' : i < ds.length := by omega
      obtain ⟨x, e1, e2⟩ := hds.get (List.getElem?_eq_getElem hi')
      obtain ⟨u, e3, e4⟩ := rv.get e1
      obtain ⟨row, e5, hrow⟩ := hrows _ (List.getElem_mem hi')
      obtain ⟨a, o, vs, n, bs, _, _, rfl, g1, _, g3, g4, _⟩ := tup_of I e2 e4 e5 hrow
      refine ⟨a, o, vs, n, bs, row, ?_, ?_, hrow, k _ _ g1, g3, ReadsAll.keeps k g4⟩
      · rw [List.getD_eq_getElem?_getD, e3]; rfl
      · rw [List.getD_eq_getElem?_getD, List.getElem?_eq_getElem hi', e5]; rfl
    obtain ⟨a, o, vs, n, as1, row, e1, e2, e3, e4, e5, e6⟩ := tup i hi
    obtain ⟨a', o', vs', n', as2, row', f1, f2, f3, f4, f5, f6⟩ := tup j hj
    rw [e1, f1]
    have hq' : Q' (rowLt row row') s' := by
      have : ltAtD ds i j = rowLt row row' := by unfold ltAtD; rw [e2, f2]; rfl
      rw [← this]; exact hq
    have z1 : vs.size = ks.length + 1 := by have q1 := SeqAt.ReadsAll.length _ _ _ e6; have q2 := e3.len; simp at q1 q2; omega
    have z2 : vs'.size = ks.length + 1 := by have q1 := SeqAt.ReadsAll.length _ _ _ f6; have q2 := f3.len; simp at q1 q2; omega
    refine PySem.W.kat_lt e4 e5 f4 f5 ?_
    rw [decide_eq_false (by omega)]
    exact lex_rows e3 f3 e6 f6 hq'
  · have hl : ∀ i ∈ srt (ltAtD ds) its.length, i < xs.length := fun i hi => by have := srt_lt _ _ i hi; omega
    obtain ⟨e, he⟩ := sortedAll_at s.heap its (List.toArray ((srt (ltAtD ds) its.length).map fun i => its.getD i Value.none))
    have hn : H (s.heap.objs.size + 1) = none := I.hok.fresh (Nat.le_succ _)
    have hv := Vals.pick rv hl
    have hz' : ((srt (ltAtD ds) its.length).map fun i => xs.getD i .non).length ≤ sizeLine := by rw [List.length_map, srt_length]; omega
    have hsame : Same H (upd H (s.heap.objs.size + 1) (.lst ((srt (ltAtD ds) its.length).map fun i => xs.getD i .non))) := fun b o q => by rw [upd_ne (ne_of_none q hn)]; exact q
    refine ⟨.ref (s.heap.objs.size + 1), _, I.laid (t' := s.toks) (o := .lst ((srt (ltAtD ds) its.length).map fun i => xs.getD i .non)) (fun b u e => sortedAll_old e) (Nat.le_succ _) ⟨hz', _, e, hv, he⟩, rfl, q _ _ hn ?_⟩
    unfold sortD
    rw [← l1, l2]
    refine (RepAll.pick hds (is := srt (ltAtD ds) its.length) fun i hi => by have := hl i hi; omega).same hsame
end
end L3

set_option maxHeartbeats 4000000
namespace L3
open PySem PySem.Spec PyProof.Rows L2

/-! ### arguments without a star: shown by the head alone -/
def notStar : Expr → Bool
  | .Starred _ _ => false
  | _ => true
theorem star_cons {e : Expr} {es : List Expr} {env : Env} (h : notStar e = true) : starEach (e :: es) env = (false, eval e env) :: starEach es env := by
  cases e <;> first | rfl | exact absurd h Bool.false_ne_true
theorem star_none {pos : Pos} {env : Env} : ∀ {es : List Expr}, es.all notStar = true → (backTo pos (starEach es env)).any (·.1) = false
  | [], _ => rfl
  | e :: es, h => by
    rw [List.all_cons, Bool.and_eq_true] at h
    rw [star_cons h.1]
    show (false || (backTo pos (starEach es env)).any (·.1)) = false
    rw [star_none h.2]
    rfl
theorem pa_c {X : Cx} {e : Expr} {es : List Expr} {te : TE} {t : TA} (ha : PE X e te) (hr : PA X es t) (h : notStar e = true := by rfl) : PA X (e :: es) (tCons te t) := pa_cons ha hr (star_cons h)
theorem pe_cB {X : Cx} {x : Str} {p pos : Pos} {e : Expr} {es : List Expr} {t : TA} {id : String} {r : List V → Hp → VK → Prop} (hc : CallR X (.builtin id) r) (hg : Gl X x) (hm : X.mg x = none) (hv : bootBuiltins x = some (.builtin id)) (ha : PA X (e :: es) t)
    (hn : x ≠ "__name__" := by decide) (hdb : (x == ("__debug__" : Str)) = false := by decide) (h1 : notStar e = true := by rfl) (h2 : es.all notStar = true := by rfl) : PE X (.Call (.Name x p) (e :: es) [] pos) (tCB r t) :=
  pe_callB hc hg hm hv ha hn hdb (star_cons h1) (star_none h2)
theorem pe_cT {X : Cx} {x : Str} {p pos : Pos} {e : Expr} {es : List Expr} {t : TA} {T : String} {r : List V → Hp → VK → Prop} (hc : CallR X (.type T) r) (hg : Gl X x) (hm : X.mg x = none) (hv : bootBuiltins x = some (.type T)) (ha : PA X (e :: es) t)
    (hn : x ≠ "__name__" := by decide) (hdb : (x == ("__debug__" : Str)) = false := by decide) (h1 : notStar e = true := by rfl) (h2 : es.all notStar = true := by rfl) : PE X (.Call (.Name x p) (e :: es) [] pos) (tCB r t) :=
  pe_callTy hc hg hm hv ha hn hdb (star_cons h1) (star_none h2)

theorem pi_r1 {X : Cx} {tg a : Expr} {ta : TA} {p pos : Pos} (hg : Gl X "range") (hm : X.mg "range" = none) (ha : PA X [a] ta) (h : notStar a = true := by rfl) : PI X tg (.Call (.Name "range" p) [a] [] pos) (iRng1 ta) :=
  pi_range1 hg hm ha (star_cons h)
theorem pi_r2 {X : Cx} {tg a b : Expr} {ta : TA} {p pos : Pos} (hg : Gl X "range") (hm : X.mg "range" = none) (ha : PA X [a, b] ta) (h : notStar a = true := by rfl) (h2 : notStar b = true := by rfl) : PI X tg (.Call (.Name "range" p) [a, b] [] pos) (iRng2 ta) :=
  pi_range2 hg hm ha (by rw [star_cons h, star_cons h2]; rfl) (by rw [star_cons h2]; rfl)
/-! ### a def by its name -/
def Fn (P : Program) (w : World) (K : PySem.W.Frag) (mg : Str → Option Value) (base : Heap) (x : Str) (k : Nat) (ps : List Str) (sp : Sp) : Prop :=
  ∃ f fd, FnOk P w K mg base CX0 k f fd ps sp ∧ mg x = some (.ref f) ∧ PySem.W.keepIn K (.ref f) = true ∧ Binds K fd ps []
section
variable {X : Cx} {k j : Nat} {ps : List Str} {sp : Sp} {x : Str} {p pos kpos : Pos} {e e2 : Expr} {es : List Expr} {t tk : TA} {te : TE}
theorem pe_fn (F : Fn X.prog X.w X.K X.mg X.base x k ps sp) (hr : Room j X.A) (hk : k ≤ j) (hg : Gl X x)
    (ha : PA X (e :: es) t) (hdb : (x == ("__debug__" : Str)) = false := by decide) (h1 : notStar e = true := by rfl) (h2 : es.all notStar = true := by rfl) :
    PE X (.Call (.Name x p) (e :: es) [] pos) (tCall sp [] E0 t) := by
  obtain ⟨f, fd, F, m, kp, b⟩ := F
  exact pe_call F (hr.mono hk) hg m kp b .nil pass0 ha hdb (star_cons h1) (star_none h2)

/-! ### min of a list of ints, with and without a default -/
def rMin : List V → Hp → VK → Prop := fun xs H Q => ∃ q, ∃ ns : List Int, xs = [.ref q] ∧ H q = some (.lst (ns.map V.int)) ∧ 0 < ns.length ∧ ∀ M, M ∈ ns → (∀ a ∈ ns, M ≤ a) → Q (.int M) H
theorem call_minL (hc : X.calm = true) : CallR X (.builtin "min") rMin := by
  intro pins s σ H xs us Q I r h
  obtain ⟨q, ns, rfl, hq, hn, h⟩ := h
  obtain ⟨u, rfl, r1⟩ := vals1 r
  cases (show u = Value.ref q from r1)
  obtain ⟨its, rv, pl, hz⟩ := I.list (SqL.of (K := X.K) hq)
  exact min_list0 (I.ok.hd hc) pl.isList (intsAre_of rv) hn fun h' M t tk k h1 h2 => ⟨.int M, H, I.kept k, ⟨_, rfl⟩, h M h1 h2⟩
def tMinD (t tk : TA) : TE := fun σ H Q => t σ H fun vs H1 => tk σ H1 fun zs H2 => zs.length = 1 ∧ rMin vs H2 Q
theorem pe_minD (hc : X.calm = true) (hg : Gl X "min") (hm : X.mg "min" = none) (ha : PA X [e] t) (hkw : PK X [⟨some "default", e2, kpos⟩] tk)
    (he : backTo pos (starEach [e] X.env) = (false, eval e X.env) :: backTo pos (starEach [] X.env) := by rfl) (hpl : (backTo pos (starEach [e] X.env)).any (·.1) = false := by rfl) :
    PE X (.Call (.Name "min" p) [e] [⟨some "default", e2, kpos⟩] pos) (tMinD t tk) := by
  intro pins s σ H Q I h
  refine wpAny_Call_Name_kw (ld_blt I hg hm boot_min ?_ (by decide) (by decide))
  refine callWith_kw (thn (ha pos pins s σ H _ I h) fun us s1 ⟨vs, H1, I1, r, q⟩ => thn (hkw pos pins s1 σ H1 _ I1 q) fun ws s2 ⟨zs, H2, I2, rz, hz1, q2⟩ => ?_) he hpl
  obtain ⟨d, rfl⟩ : ∃ d, ws = [d] := by
    have hl : ws.length = 1 := rz.length.symm.trans hz1
    match ws, hl with
    | [d], _ => exact ⟨d, rfl⟩
  obtain ⟨l, ns, rfl, hq, hn, hQ⟩ := q2
  obtain ⟨u, rfl, r1⟩ := vals1 r
  cases (show u = Value.ref l from r1)
  obtain ⟨its, rv, pl, hz⟩ := I2.list (SqL.of (K := X.K) hq)
  exact min_listK (I2.ok.hd hc) pl.isList (intsAre_of rv) hn fun h' M t tk k h1 h2 => ⟨.int M, H2, I2.kept k, ⟨_, rfl⟩, hQ M h1 h2⟩
end

theorem pg_tupC {X : Cx} {N : List Str} {scope : Scope} {z : CZ} {es : List Expr} {k : Nat} {pos : Pos} {t : TGs} {n : Nat} (hc : X.calm = true) (h : PGs (cxComp X N scope z) es t)
    (hn : (assignEach es (cxComp X N scope z).env).length = n := by rfl) (hst : (assignEach es (cxComp X N scope z).env).findIdx? (·.1) = none := by rfl) : PG (cxComp X N scope z) (.Tuple es k pos) (gTup X.K n t) :=
  pg_tup (X := cxComp X N scope z) hc h hn hst
section
variable {X : Cx} {N : List Str} {scope : Scope} {z : CZ}
theorem ix_tupC : IxR (cxComp X N scope z) (rIxT X.K) := ix_tup (X := cxComp X N scope z)
theorem ix_listC : IxR (cxComp X N scope z) (rIxL X.K) := ix_list (X := cxComp X N scope z)
theorem sl_listC : SlR (cxComp X N scope z) (rSlL X.K) := sl_list (X := cxComp X N scope z)
theorem sl_tupC : SlR (cxComp X N scope z) (rSlT X.K) := sl_tup (X := cxComp X N scope z)
theorem call_len_seqC : CallR (cxComp X N scope z) (.builtin "len") (fun xs H Q => ∃ p ys, xs = [.ref p] ∧ (SqL X.K H p ys ∨ SqT X.K H p ys) ∧ Q (.int ys.length) H) := call_len_seq (X := cxComp X N scope z)
theorem call_isinstC : CallR (cxComp X N scope z) (.builtin "isinstance") (fun xs H Q => ∃ x T t b, xs = [x, .ty T] ∧ TyOf X.K H x t ∧ PySem.W.kitOne X.K t (.type T) = some b ∧ Q (.bl b) H) := call_isinst (X := cxComp X N scope z)
end
/-! ### how a comprehension is read -/
section
variable {K : PySem.W.Frag} {a D : Addr} {xs : List V} {sl : List (Option Nat)} {g : TG} {tt : TT} {te : TE} {σ : L2.St} {H1 : Hp} {Q : VK}
/-- what is wanted behind a turn -/
def Nx (D : Addr) (i : Nat) (Pv : Nat → List V → Hp → Prop) : Hp → Prop := fun H' => ∃ ys, H' D = some (.lst ys) ∧ ys.length ≤ i + 1 ∧ Pv (i + 1) ys H'
theorem nx_put {i : Nat} {Pv : Nat → List V → Hp → Prop} {H : Hp} {ys : List V} {y : V} (hi : i < 1000) (hD : H D = some (.lst ys)) (hl : ys.length ≤ i) (h : Pv (i + 1) (ys ++ [y]) (upd H D (.lst (ys ++ [y])))) :
    ∃ xs, H D = some (.lst xs) ∧ xs.length < sizeLine ∧ Nx D i Pv (upd H D (.lst (xs ++ [y]))) :=
  ⟨ys, hD, small1000 (by omega), ys ++ [y], upd_same, by rw [List.length_append, List.length_singleton]; omega, h⟩
theorem comp_by (J : It) (n : Nat) (Pv : Nat → List V → Hp → Prop) (h0 : Pv 0 [] (upd H1 D (.lst [])))
    (hgo : ∀ i ys H, i < n → Pv i ys H → J.go i H) (hst : ∀ ys H, Pv n ys H → J.stop n H)
    (hs : ∀ i x ys H H', i < n → J.yld i H x H' → H D = some (.lst ys) → ys.length ≤ i → Pv i ys H → g x (picks sl σ) H' fun σ2 H2 => Agree (picks sl σ) σ2 ∧ tt σ2 H2 fun b H3 =>
      if b = true then te σ2 H3 fun y H4 => ∃ xs, H4 D = some (.lst xs) ∧ xs.length < sizeLine ∧ Nx D i Pv (upd H4 D (.lst (xs ++ [y]))) else Nx D i Pv H3)
    (hd : ∀ ys H, H D = some (.lst ys) → ys.length ≤ n → Pv n ys H → Q (.ref D) H) : CompR J sl g tt te σ H1 D Q := by
  refine ⟨fun i m H => m = n - i ∧ i ≤ n ∧ ∃ ys, H D = some (.lst ys) ∧ ys.length ≤ i ∧ Pv i ys H, ⟨n, by simp, Nat.zero_le _, [], upd_same, Nat.le_refl _, h0⟩, ?_⟩
  rintro i m H ⟨rfl, hi, ys, hy, hl, p⟩
  by_cases hlt : i < n
  · refine .inr ⟨hgo i ys H hlt p, Nx D i Pv, fun H' ⟨ys', e1, e2, e3⟩ => ⟨n - (i + 1), by omega, rfl, hlt, ys', e1, e2, e3⟩, fun x H' y => hs i x ys H H' hlt y hy hl p⟩
  · have e : i = n := by omega
    subst e
    exact .inl ⟨hst ys H p, hd ys H hy hl p⟩
/-- over a list that stays as it is -/
theorem comp_list (Pv : Nat → List V → Hp → Prop) (h0 : Pv 0 [] (upd H1 D (.lst []))) (hl : ∀ i ys H, Pv i ys H → SqL K H a xs)
    (hs : ∀ i x ys H, xs[i]? = some x → i < xs.length → H D = some (.lst ys) → ys.length ≤ i → Pv i ys H → g x (picks sl σ) H fun σ2 H2 => Agree (picks sl σ) σ2 ∧ tt σ2 H2 fun b H3 =>
      if b = true then te σ2 H3 fun y H4 => ∃ xs, H4 D = some (.lst xs) ∧ xs.length < sizeLine ∧ Nx D i Pv (upd H4 D (.lst (xs ++ [y]))) else Nx D i Pv H3)
    (hd : ∀ ys H, H D = some (.lst ys) → ys.length ≤ xs.length → Pv xs.length ys H → Q (.ref D) H) : CompR (Itl K a) sl g tt te σ H1 D Q := by
  refine comp_by (Itl K a) xs.length Pv h0 (fun i ys H hi p => ⟨xs, xs[i], hl i ys H p, by simp [hi]⟩) (fun ys H p => ⟨xs, hl _ ys H p, Nat.le_refl _⟩) (fun i x ys H H' hi y hD hyl p => ?_) hd
  obtain ⟨e, y⟩ := y
  subst e
  exact hs i x ys _ (y xs (hl i ys _ p)) hi hD hyl p
theorem comp_tup (Pv : Nat → List V → Hp → Prop) (h0 : Pv 0 [] (upd H1 D (.lst []))) (hl : ∀ i ys H, Pv i ys H → SqT K H a xs)
    (hs : ∀ i x ys H, xs[i]? = some x → i < xs.length → H D = some (.lst ys) → ys.length ≤ i → Pv i ys H → g x (picks sl σ) H fun σ2 H2 => Agree (picks sl σ) σ2 ∧ tt σ2 H2 fun b H3 =>
      if b = true then te σ2 H3 fun y H4 => ∃ xs, H4 D = some (.lst xs) ∧ xs.length < sizeLine ∧ Nx D i Pv (upd H4 D (.lst (xs ++ [y]))) else Nx D i Pv H3)
    (hd : ∀ ys H, H D = some (.lst ys) → ys.length ≤ xs.length → Pv xs.length ys H → Q (.ref D) H) : CompR (Itt K a) sl g tt te σ H1 D Q := by
  refine comp_by (Itt K a) xs.length Pv h0 (fun i ys H hi p => ⟨xs, xs[i], hl i ys H p, by simp [hi]⟩) (fun ys H p => ⟨xs, hl _ ys H p, Nat.le_refl _⟩) (fun i x ys H H' hi y hD hyl p => ?_) hd
  obtain ⟨e, y⟩ := y
  subst e
  exact hs i x ys _ (y xs (hl i ys _ p)) hi hD hyl p
theorem comp_range {lo : Int} {n : Nat} (Pv : Nat → List V → Hp → Prop) (h0 : Pv 0 [] (upd H1 D (.lst [])))
    (hs : ∀ i ys H, i < n → H D = some (.lst ys) → ys.length ≤ i → Pv i ys H → g (.int (lo + i)) (picks sl σ) H fun σ2 H2 => Agree (picks sl σ) σ2 ∧ tt σ2 H2 fun b H3 =>
      if b = true then te σ2 H3 fun y H4 => ∃ xs, H4 D = some (.lst xs) ∧ xs.length < sizeLine ∧ Nx D i Pv (upd H4 D (.lst (xs ++ [y]))) else Nx D i Pv H3)
    (hd : ∀ ys H, H D = some (.lst ys) → ys.length ≤ n → Pv n ys H → Q (.ref D) H) : CompR (Itr lo n) sl g tt te σ H1 D Q := by
  refine comp_by (Itr lo n) n Pv h0 (fun i ys H hi p => hi) (fun ys H p => Nat.le_refl _) (fun i x ys H H' hi y hD hyl p => ?_) hd
  obtain ⟨e, e2⟩ := y
  subst e e2
  exact hs i ys _ hi hD hyl p
end
end L3

set_option maxHeartbeats 4000000
namespace L3
open PySem PySem.Spec PyProof.Rows L2

/-! ### heaps: all but some addresses stay -/
def Ex (W : List Addr) (H H' : Hp) : Prop := ∀ b o, b ∉ W → H b = some o → H' b = some o
theorem Ex.refl (W : List Addr) (H : Hp) : Ex W H H := fun _ _ _ h => h
theorem Ex.trans {W : List Addr} {H H1 H2 : Hp} (a : Ex W H H1) (b : Ex W H1 H2) : Ex W H H2 := fun c o hc h => b c o hc (a c o hc h)
theorem Ex.of_same {W : List Addr} {H H' : Hp} (a : Same H H') : Ex W H H' := fun c o _ h => a c o h
theorem Ex.fresh {W : List Addr} {H : Hp} {p : Addr} {o : HO} (h : H p = none) : Ex W H (upd H p o) := fun b u _ q => by rw [upd_ne (ne_of_none q h)]; exact q
theorem Ex.upd {W : List Addr} {H : Hp} {p : Addr} {o : HO} (h : p ∈ W) : Ex W H (upd H p o) := fun b u hb q => by rw [upd_ne (show b ≠ p from fun e => hb (by rw [e]; exact h))]; exact q
theorem Ex.new {W : List Addr} {H H' : Hp} {p : Addr} {o : HO} (a : Ex W H H') (h : H p = none) : Ex W H (L2.upd H' p o) := fun b u hb q => by rw [upd_ne (ne_of_none q h)]; exact a b u hb q
theorem Ex.tk {W : List Addr} {H H' : Hp} (a : Ex W H H') (h : ∀ b ∈ W, ∃ xs, H b = some (.lst xs)) : Tk H H' := fun b xs q => a b _ (fun hb => by
  obtain ⟨ys, e⟩ := h b hb
  rw [q] at e; cases e) q
theorem Ex.one {st : Addr} {H H' : Hp} {xs : List V} (a : Ex [st] H H') (h : H st = some (.lst xs)) : Tk H H' := a.tk fun b hb => ⟨xs, by rw [List.mem_singleton.mp hb]; exact h⟩
theorem Ex.at {st : Addr} {H H' : Hp} {b : Addr} {o : HO} (a : Ex [st] H H') (hb : b ≠ st) (h : H b = some o) : H' b = some o := a b o (by simpa using hb) h
theorem upd_none {H : Hp} {p b : Addr} {o : HO} (h : upd H p o b = none) : b ≠ p ∧ H b = none := by
  by_cases e : b = p
  · subst e; rw [upd_same] at h; cases h
  · rw [upd_ne e] at h; exact ⟨e, h⟩
theorem _root_.L2.Same.new {H H' : Hp} {p : Addr} {o : HO} (a : Same H H') (h : H p = none) : Same H (upd H' p o) := fun b u q => by rw [upd_ne (ne_of_none q h)]; exact a b u q
theorem _root_.L2.Same.fresh {H : Hp} {p : Addr} (o : HO) (h : H p = none) : Same H (upd H p o) := (Same.refl H).new h

/-! ### cells and spots as data -/
def Cells (cs : List PyData) : Prop := ∀ d ∈ cs, ∃ r c : Int, d = .tuple [.int r, .int c]
def Spots (ds : List PyData) : Prop := ∀ d ∈ ds, ∃ (r c : Int) (x : Str), d = .tuple [.int r, .int c, .str x]
theorem immAll_of : ∀ {ds : List PyData}, (∀ d ∈ ds, imm d = true) → immAll ds = true
  | [], _ => rfl
  | d :: ds, h => by
    show (imm d && immAll ds) = true
    rw [h d List.mem_cons_self, immAll_of fun e he => h e (List.mem_cons_of_mem _ he)]
    rfl
theorem Cells.imm {cs : List PyData} (h : Cells cs) : immAll cs = true := immAll_of fun d hd => by obtain ⟨r, c, rfl⟩ := h d hd; rfl
theorem Spots.imm {ds : List PyData} (h : Spots ds) : immAll ds = true := immAll_of fun d hd => by obtain ⟨r, c, x, rfl⟩ := h d hd; rfl
theorem rep_cell {H : Hp} {r c : Int} {v : V} (h : Rep H (.tuple [.int r, .int c]) v) : ∃ a, v = .ref a ∧ H a = some (.tup [.int r, .int c]) := by
  obtain ⟨a, xs, e, ha, x1, r1, e1, h1, x2, r2, e2, h2, e3⟩ := h
  cases (show x1 = .int r from h1); cases (show x2 = .int c from h2); cases (show r2 = [] from e3)
  subst e1 e2
  exact ⟨a, e, ha⟩
theorem rep_spot {H : Hp} {r c : Int} {x : Str} {v : V} (h : Rep H (.tuple [.int r, .int c, .str x]) v) : ∃ a, v = .ref a ∧ H a = some (.tup [.int r, .int c, .str x]) ∧ PyData.strOk x = true := by
  obtain ⟨a, xs, e, ha, x1, r1, e1, h1, x2, r2, e2, h2, x3, r3, e3, h3, e4⟩ := h
  cases (show x1 = .int r from h1); cases (show x2 = .int c from h2); cases (show x3 = .str x from h3.1); cases (show r3 = [] from e4)
  subst e1 e2 e3
  exact ⟨a, e, ha, h3.2⟩
theorem cell_rep {H : Hp} {a : Addr} {r c : Int} (h : H a = some (.tup [.int r, .int c])) : Rep H (.tuple [.int r, .int c]) (.ref a) := ⟨a, _, rfl, h, _, _, rfl, rfl, _, _, rfl, rfl, rfl⟩
theorem spot_rep {H : Hp} {a : Addr} {r c : Int} {x : Str} (h : H a = some (.tup [.int r, .int c, .str x])) (hx : PyData.strOk x = true) : Rep H (.tuple [.int r, .int c, .str x]) (.ref a) :=
  ⟨a, _, rfl, h, _, _, rfl, rfl, _, _, rfl, rfl, _, _, rfl, ⟨rfl, hx⟩, rfl⟩
theorem Cells.at {H : Hp} {cs : List PyData} {xs : List V} {i : Nat} {v : V} (h : Cells cs) (r : RepAll H cs xs) (e : xs[i]? = some v) : ∃ (a : Addr) (p q : Int), v = .ref a ∧ H a = some (.tup [.int p, .int q]) := by
  obtain ⟨d, e1, e2⟩ := r.at e
  obtain ⟨p, q, rfl⟩ := h d (List.mem_of_getElem? e1)
  obtain ⟨a, e3, e4⟩ := rep_cell e2
  exact ⟨a, p, q, e3, e4⟩
theorem Spots.at {H : Hp} {ds : List PyData} {xs : List V} {i : Nat} {v : V} (h : Spots ds) (r : RepAll H ds xs) (e : xs[i]? = some v) :
    ∃ (a : Addr) (p q : Int) (x : Str), v = .ref a ∧ H a = some (.tup [.int p, .int q, .str x]) ∧ PyData.strOk x = true ∧ ds[i]? = some (.tuple [.int p, .int q, .str x]) := by
  obtain ⟨d, e1, e2⟩ := r.at e
  obtain ⟨p, q, x, rfl⟩ := h d (List.mem_of_getElem? e1)
  obtain ⟨a, e3, e4, e5⟩ := rep_spot e2
  exact ⟨a, p, q, x, e3, e4, e5, e1⟩

/-! ### the rows and columns of spots, the least one, the shift -/
def row1 : PyData → Int
  | .tuple (.int r :: _) => r
  | _ => 0
def col1 : PyData → Int
  | .tuple (_ :: .int c :: _) => c
  | _ => 0
def minI : List Int → Int
  | [] => 0
  | [a] => a
  | a :: b :: r => if a ≤ minI (b :: r) then a else minI (b :: r)
theorem minI_mem : ∀ {ns : List Int}, 0 < ns.length → minI ns ∈ ns
  | [], h => by simp at h
  | [a], _ => by simp [minI]
  | a :: b :: r, _ => by
    unfold minI
    split
    · exact List.mem_cons_self
    · exact List.mem_cons_of_mem _ (minI_mem (by simp))
theorem minI_le : ∀ {ns : List Int}, ∀ a ∈ ns, minI ns ≤ a
  | [], a, h => by cases h
  | [a], b, h => by
    have e : b = a := by simpa using h
    rw [e]; exact Int.le_refl _
  | a :: b :: r, x, h => by
    unfold minI
    rcases List.mem_cons.mp h with e | h
    · rw [e]
      split
      · exact Int.le_refl _
      · omega
    · have := minI_le (ns := b :: r) x h
      split
      · omega
      · exact this
theorem minI_eq {ns : List Int} {M : Int} (h1 : M ∈ ns) (h2 : ∀ a ∈ ns, M ≤ a) : M = minI ns := by
  have hp : 0 < ns.length := List.length_pos_of_mem h1
  have a1 := h2 _ (minI_mem hp)
  have a2 := minI_le M h1
  omega
def shift1 (t l : Int) : PyData → PyData
  | .tuple [.int r, .int c, .str x] => .tuple [.int (r - t), .int (c - l), .str x]
  | d => d
def shiftD (ds : List PyData) : List PyData := ds.map (shift1 (minI (ds.map row1)) (minI (ds.map col1)))

section
variable {K : PySem.W.Frag} {a : Addr} {xs : List V} {ds : List PyData} {σ : L2.St} {H : Hp} {Q : VK}
theorem map_take_succ {α β : Type} (f : α → β) {l : List α} {i : Nat} {x : α} (h : l[i]? = some x) : (l.take (i + 1)).map f = (l.take i).map f ++ [f x] := by
  rw [List.take_add_one, h]
  simp
/-- [spot[j] for spot in spots] -/
theorem read_proj (j : Int) (pr : PyData → Int) (hj : ∀ (r c : Int) (x : Str), atI [V.int r, .int c, .str x] j = some (.int (pr (.tuple [.int r, .int c, .str x]))))
    (hσ : σ[0]? = some (some (.ref a))) (ha : H a = some (.lst xs)) (hr : RepAll H ds xs) (hs : Spots ds) (hl : ds.length < 64)
    (q : ∀ D H', Same H H' → H' D = some (.lst ((ds.map pr).map V.int)) → Q (.ref D) H') :
    tComp (iList K (tVar 0)) [none] (gName 0) tYes (tOp (rIxT K) (tVar 0) (tC (.int j))) σ H Q := by
  have hlen := hr.length
  refine ⟨_, hσ, a, rfl, ⟨_, SqL.of ha⟩, fun D hD => ?_⟩
  refine comp_list (xs := xs) (fun i ys H' => Same H H' ∧ ys = ((ds.take i).map pr).map V.int) ⟨Same.fresh _ hD, rfl⟩ (fun i ys H' p => SqL.of (p.1 _ _ ha)) (fun i x ys H' hx hi hDy hyl p => ?_) (fun ys H' hDy hyl p => ?_)
  · obtain ⟨p1, rfl⟩ := p
    obtain ⟨b, r, c, z, rfl, hb, hz, hd⟩ := hs.at hr hx
    refine ⟨Agree.set (Agree.refl _) rfl, ?_⟩
    dsimp only [tYes]
    refine iteT ?_
    refine ⟨_, rfl, b, _, _, _, rfl, rfl, SqT.of (p1 _ _ hb), hj r c z, nx_put (by omega) hDy hyl ⟨p1.new hD, ?_⟩⟩
    rw [map_take_succ pr hd, List.map_append]
    rfl
  · obtain ⟨p1, rfl⟩ := p
    refine q D H' p1 ?_
    rw [hDy, List.take_of_length_le (by omega)]
/-- [(row - top, column - left, sign) for row, column, sign in spots] -/
theorem read_shift {t l : Int} (hσ : σ[0]? = some (some (.ref a))) (h1 : σ[1]? = some (some (.int t))) (h2 : σ[2]? = some (some (.int l))) (ha : H a = some (.lst xs)) (hr : RepAll H ds xs) (hs : Spots ds) (hl : ds.length < 64)
    (q : ∀ D ys H', Same H H' → H' D = some (.lst ys) → RepAll H' (ds.map (shift1 t l)) ys → Q (.ref D) H') :
    tComp (iList K (tVar 0)) [none, none, none, some 1, some 2] (gTup K 3 (gCons (gName 0) (gCons (gName 1) (gCons (gName 2) gNil)))) tYes
      (tTup (tCons (tOp (rI0 fun i j => .int (i - j)) (tVar 0) (tVar 3)) (tCons (tOp (rI0 fun i j => .int (i - j)) (tVar 1) (tVar 4)) (tCons (tVar 2) tNil)))) σ H Q := by
  have hlen := hr.length
  refine ⟨_, hσ, a, rfl, ⟨_, SqL.of ha⟩, fun D hD => ?_⟩
  have hp : picks [none, none, none, some 1, some 2] σ = [none, none, none, some (.int t), some (.int l)] := by
    unfold picks
    simp [h1, h2]
  refine comp_list (xs := xs) (fun i ys H' => Same H H' ∧ RepAll H' ((ds.take i).map (shift1 t l)) ys) ⟨Same.fresh _ hD, rfl⟩ (fun i ys H' p => SqL.of (p.1 _ _ ha)) (fun i x ys H' hx hi hDy hyl p => ?_) (fun ys H' hDy hyl p => ?_)
  · obtain ⟨p1, p2⟩ := p
    obtain ⟨b, r, c, z, rfl, hb, hz, hd⟩ := hs.at hr hx
    rw [hp]
    refine ⟨b, _, rfl, SqT.of (p1 _ _ hb), rfl, _, _, rfl, _, _, rfl, _, _, rfl, rfl, ?_⟩
    refine ⟨Agree.set (Agree.set (Agree.set (Agree.refl _) rfl) rfl) rfl, ?_⟩
    dsimp only [tYes]
    refine iteT ?_
    refine ⟨_, rfl, _, rfl, _, _, rfl, rfl, _, rfl, _, rfl, _, _, rfl, rfl, _, rfl, (by show 3 ≤ sizeLine; decide), fun n hn => ?_⟩
    have hnD : D ≠ n := fun e => by rw [← e, hDy] at hn; cases hn
    have hnH : H n = none := p1.free hn
    have im : immAll (((ds.take i).map (shift1 t l)) ++ [.tuple [.int (r - t), .int (c - l), .str z]]) = true := immAll_of fun d hd' => by
      rcases List.mem_append.mp hd' with h | h
      · obtain ⟨d0, h0, rfl⟩ := List.mem_map.mp h
        obtain ⟨r0, c0, x0, rfl⟩ := hs d0 (List.mem_of_mem_take h0)
        rfl
      · rw [List.mem_singleton.mp h]; rfl
    have hDn : upd H' n (.tup [.int (r - t), .int (c - l), .str z]) D = some (.lst ys) := by rw [upd_ne hnD]; exact hDy
    have hs1 : Same H' (upd H' n (.tup [.int (r - t), .int (c - l), .str z])) := Same.fresh _ hn
    have hs2 : RepAll (upd H' n (.tup [.int (r - t), .int (c - l), .str z])) (((ds.take i).map (shift1 t l)) ++ [.tuple [.int (r - t), .int (c - l), .str z]]) (ys ++ [.ref n]) := (p2.same hs1).snoc (spot_rep upd_same hz)
    refine nx_put (by omega) hDn hyl ⟨(p1.trans hs1).new hD, ?_⟩
    rw [map_take_succ (shift1 t l) hd]
    exact hs2.tk (Tk.lst hDn) im
  · obtain ⟨p1, p2⟩ := p
    rw [List.take_of_length_le (by omega)] at p2
    exact q D ys H' p1 hDy p2
end
theorem shift_rows {ds : List PyData} (hs : Spots ds) (t l : Int) : Rows [true, false] (ds.map (shift1 t l)) := fun d hd => by
  obtain ⟨e, he, rfl⟩ := List.mem_map.mp hd
  obtain ⟨r, c, x, rfl⟩ := hs e he
  exact ⟨_, rfl, _, _, rfl, _, _, rfl, _, _, rfl, rfl⟩
end L3

set_option maxHeartbeats 4000000
namespace L3
open PySem PySem.Spec PyProof.Rows L2

/-! ### the module's constants -/
section
variable {X : Cx} {x : Str} {pos : Pos}
theorem pe_globS {z : Str} (h : ∃ t, X.mg x = some (.str z t)) (hg : Gl X x) (hd : (x == ("__debug__" : Str)) = false := by decide) : PE X (.Name x pos) (tC (.str z)) := by
  obtain ⟨t, h⟩ := h
  exact pe_glob hg h ⟨t, rfl⟩ hd
theorem pe_globI {z : Int} (h : ∃ t, X.mg x = some (.int z t)) (hg : Gl X x) (hd : (x == ("__debug__" : Str)) = false := by decide) : PE X (.Name x pos) (tC (.int z)) := by
  obtain ⟨t, h⟩ := h
  exact pe_glob hg h ⟨t, rfl⟩ hd
end

/-! ### {} -/
def tDict0 : TE := fun _ H Q => ∀ p, H p = none → Q (.ref p) (upd H p (.dK []))
theorem pe_dict0 {X : Cx} {pos : Pos} : PE X (.Dict [] [] pos) tDict0 := fun pins s σ H Q I h => by
  have hb : sysModules < s.heap.objs.size := by
    have h : mainGlobals < s.heap.objs.size := (I.mod.glob.keeps I.bk).lt
    exact Nat.lt_trans (by decide) h
  refine wpAny_Dict_empty ⟨.ref s.heap.objs.size, _, I.laid (a := s.heap.objs.size) (o := .dK []) (t' := s.toks) (fun _ _ q => Heap.get?_push_of_some _ q) (Nat.le_refl _) ?_, rfl, h _ (I.hok.fresh (Nat.le_refl _))⟩
  exact ⟨Nat.zero_le _, beq_eq_false_iff_ne.mpr (Ne.symm (Nat.ne_of_lt hb)), [], .nil, Heap.DictOf.new s.heap⟩

/-! ### texts -/
section
variable {X : Cx}
theorem op_le_str : OpR X (compareOp .LtE) (fun x y H Q => ∃ i j, x = .str i ∧ y = .str j ∧ Q (.bl (!decide (j.cps.toList < i.cps.toList))) H) := by
  intro pins s σ H x y v u Q I rx ry h
  obtain ⟨i, j, rfl, rfl, q⟩ := h
  obtain ⟨t, rfl⟩ := rx
  obtain ⟨t', rfl⟩ := ry
  exact PySem.P.le_str ⟨.bl _, H, I, rfl, q⟩
/-- x[lo:hi] of a text -/
def rSlS : V → Option Int → Option Int → Hp → VK → Prop := fun x lo hi H Q => ∃ z, x = .str z ∧ z.length ≤ sizeLine ∧ Q (.str (Txt.slice z lo hi)) H
theorem sl_str : SlR X rSlS := by
  intro pins s σ H x v vl vu lo hi sl Q I rx hs pl pu h
  obtain ⟨z, rfl, hz, q⟩ := h
  obtain ⟨t, rfl⟩ := rx
  obtain ⟨o, ho, hc, hd⟩ := hs
  have fin : ∀ t' k, EP X pins σ Q (.str (Txt.slice z lo hi) t') { s with toks := k } := fun t' k => ⟨.str _, H, I.tok _, ⟨_, rfl⟩, q⟩
  refine ⟨"str", _, F.slot_str_getitem.lookup, typeIs_str _ _ _, ?_⟩
  cases pl with
  | none =>
    cases pu with
    | none => exact wpAny_getItem_str_slice (l := none) (u := none) (st := none) ⟨o, ho, hc, hd⟩ rfl (post_val_or_str ⟨Nat.le_trans (Txt.slice_le z _ _) hz, fin⟩)
    | int j uj => exact wpAny_getItem_str_slice (l := none) (u := some (j, uj)) (st := none) ⟨o, ho, hc, hd⟩ rfl (post_val_or_str ⟨Nat.le_trans (Txt.slice_le z _ _) hz, fin⟩)
  | int i ui =>
    cases pu with
    | none => exact wpAny_getItem_str_slice (l := some (i, ui)) (u := none) (st := none) ⟨o, ho, hc, hd⟩ rfl (post_val_or_str ⟨Nat.le_trans (Txt.slice_le z _ _) hz, fin⟩)
    | int j uj => exact wpAny_getItem_str_slice (l := some (i, ui)) (u := some (j, uj)) (st := none) ⟨o, ho, hc, hd⟩ rfl (post_val_or_str ⟨Nat.le_trans (Txt.slice_le z _ _) hz, fin⟩)
theorem fold_len (x : Array Nat) : ∀ (k : Nat) (acc : Array Nat), ((List.replicate k x).foldl (· ++ ·) acc).size = acc.size + k * x.size
  | 0, acc => by simp
  | k + 1, acc => by
    rw [List.replicate_succ, List.foldl_cons, fold_len x k]
    simp only [Array.size_append]
    rw [Nat.add_mul]
    omega
theorem fold_mem (x : Array Nat) : ∀ (k : Nat) (acc : Array Nat) (c : Nat), c ∈ ((List.replicate k x).foldl (· ++ ·) acc).toList → c ∈ acc.toList ∨ c ∈ x.toList
  | 0, acc, c, h => .inl (by simpa using h)
  | k + 1, acc, c, h => by
    rw [List.replicate_succ, List.foldl_cons] at h
    rcases fold_mem x k _ c h with h | h
    · simpa using h
    · exact .inr h
/-- a text times a number: only how long it is -/
def rMulS : R2 := fun x y H Q => ∃ (z : Str) (n : Int), x = .str z ∧ y = .int n ∧ 0 ≤ n ∧ n ≤ 1000 ∧ z.length ≤ 1000 ∧ ∀ w : Str, w.length = z.length * n.toNat → (∀ c ∈ w.cps.toList, c ∈ z.cps.toList) → Q (.str w) H
theorem op_mulS : OpR X (binaryOp .Mult) rMulS := by
  intro pins s σ H x y v u Q I rx ry h
  obtain ⟨z, n, rfl, rfl, h0, h1, hz, q⟩ := h
  obtain ⟨t, rfl⟩ := rx
  obtain ⟨t', rfl⟩ := ry
  have hprod : z.length * n.toNat ≤ 1000000 := by
    have a1 : n.toNat ≤ 1000 := by omega
    calc z.length * n.toNat ≤ 1000 * 1000 := Nat.mul_le_mul hz a1
      _ = 1000000 := rfl
  refine PySem.P.mul_str (by rw [decide_eq_false (by omega), decide_eq_false (by omega)]; rfl) (fun h2 _ => ?_) (fun _ _ => ?_) ?_
  · have h3 : (1 : Int) ≤ n := by omega
    have h4 : ((2 : Int) ^ 63 - 1) / n ≥ (2 ^ 63 - 1) / 1000 := by
      refine (Int.le_ediv_iff_mul_le (by omega)).mpr ?_
      calc ((2 : Int) ^ 63 - 1) / 1000 * n ≤ ((2 : Int) ^ 63 - 1) / 1000 * 1000 := Int.mul_le_mul_of_nonneg_left h1 (by decide)
        _ ≤ 2 ^ 63 - 1 := by decide
    have h5 : ((2 : Int) ^ 63 - 1) / 1000 ≥ 1000 := by decide
    omega
  · unfold PySem.Builtin.Str.tooLong
    rw [sizeLine_eq]
    exact decide_eq_false (by omega)
  · by_cases hn : n < 1
    · rw [if_pos hn]
      have e : n = 0 := by omega
      subst e
      exact ⟨by decide, .str Str.empty, H, I.tok _, ⟨_, rfl⟩, q _ (by simp [Str.empty, Str.length]) (by simp [Str.empty])⟩
    · rw [if_neg hn]
      by_cases hc : (n == 1 || z.length == 0) = true
      · rw [if_pos hc]
        refine ⟨.str z, H, I, ⟨_, rfl⟩, q _ ?_ fun c hc => hc⟩
        simp only [Bool.or_eq_true, beq_iff_eq] at hc
        rcases hc with e | e
        · rw [e]; simp
        · rw [e]; simp
      · rw [if_neg hc]
        have e : (⟨(List.replicate n.toNat z.cps).foldl (· ++ ·) #[]⟩ : Str).length = z.length * n.toNat := by
          show ((List.replicate n.toNat z.cps).foldl (· ++ ·) #[]).size = _
          rw [fold_len, Nat.mul_comm]
          simp [Str.length]
        refine ⟨by rw [e, sizeLine_eq]; omega, .str _, H, I.tok _, ⟨_, rfl⟩, q _ e fun c hc => ?_⟩
        rcases fold_mem z.cps n.toNat #[] c (by simpa using hc) with h | h
        · simp at h
        · exact h
theorem strs_of : ∀ {ys : List Str} {us : List Value}, Vals (ys.map V.str) us → StrsAre us ys
  | [], us, h => by cases h; exact .nil
  | y :: ys, us, h => by
    cases h with
    | cons r t =>
      obtain ⟨k, e⟩ := (show ∃ t, _ = Value.str y t from r)
      subst e
      exact .cons y k (strs_of t)
/-- sep.join(list of texts) -/
def rJoin : V → List V → Hp → VK → Prop := fun x vs H Q => ∃ (z : Str) (l : Addr) (ys : List Str), x = .str z ∧ vs = [.ref l] ∧ H l = some (.lst (ys.map V.str)) ∧ (ys.map (·.length)).sum + ys.length * z.length ≤ 1000000 ∧ Q (.str (Txt.join z ys)) H
theorem mt_join : MtR X "str.join" rJoin := by
  intro pins s σ H x vs v us Q I rx rv h
  obtain ⟨z, l, ys, rfl, rfl, hl, hz, q⟩ := h
  obtain ⟨t, rfl⟩ := rx
  obtain ⟨u, rfl, r1⟩ := vals1 rv
  cases (show u = Value.ref l from r1)
  obtain ⟨its, r, pl, _⟩ := I.list (SqL.of (K := X.K) hl)
  exact join_list pl.isList (by simpa using strs_of r) (by omega) fun t' k => ⟨.str _, H, I.tok _, ⟨_, rfl⟩, q⟩
/-- all(list of truths) -/
def rAll : List V → Hp → VK → Prop := fun xs H Q => ∃ (p : Addr) (bs : List Bool), xs = [.ref p] ∧ H p = some (.lst (bs.map V.bl)) ∧ Q (.bl (bs.all id)) H
theorem range_all : ∀ (bs : List Bool), ((List.range bs.length).all fun i => (bs[i]?).getD true) = bs.all id := fun bs => by
  rw [Bool.eq_iff_iff, List.all_eq_true, List.all_eq_true]
  constructor
  · intro h b hb
    obtain ⟨i, hi, rfl⟩ := List.mem_iff_getElem.mp hb
    have := h i (by simpa using hi)
    simpa [hi] using this
  · intro h i hi
    have hi' : i < bs.length := by simpa using hi
    have := h bs[i] (List.getElem_mem hi')
    simpa [hi'] using this
theorem call_all (hc : X.calm = true) : CallR X (.builtin "all") rAll := by
  intro pins s σ H xs us Q I r h
  obtain ⟨p, bs, rfl, hp, q⟩ := h
  obtain ⟨u, rfl, r1⟩ := vals1 r
  cases (show u = Value.ref p from r1)
  obtain ⟨its, rv, pl, hz⟩ := I.list (SqL.of (K := X.K) hp)
  have hlt : p < s.heap.objs.size := by obtain ⟨_, _, e, _⟩ := pl; exact Heap.lt_size e
  have hlen : its.length = bs.length := by rw [← rv.length, List.length_map]
  refine call_all_walk (wpAny_pyIter_list pl.isList ?_)
  refine ⟨s.heap.objs.size, [s.heap.objs.size, p], [s.heap.objs.size], its.toArray.size, _, _, fun i => (bs[i]?).getD true, rfl, Walks.list (A := X.A.in1) (I.ok.hd hc) _ p (Nat.ne_of_lt hlt) its.toArray,
    ⟨⟨_, Heap.get?_push_size _ rfl, rfl, rfl⟩, pl.isList.push _⟩, fun i v s' Q' E' hP hQ => ?_, fun h' tk hk => ?_⟩
  · have hi : its[i]? = some v := by simpa using hP
    have hi2 : i < bs.length := by rw [← hlen]; exact (List.getElem?_eq_some_iff.mp hi).1
    obtain ⟨u', e1, e2⟩ := rv.get (i := i) (x := .bl bs[i]) (by rw [List.getElem?_map, List.getElem?_eq_getElem hi2]; rfl)
    rw [hi] at e1; cases e1
    cases (show v = Value.bool bs[i] from e2)
    have hQ2 : Q' ((bs[i]?).getD true) s' := hQ
    rw [List.getElem?_eq_getElem hi2] at hQ2
    exact wpAny_truthy_bool hQ2
  · refine ⟨.bl _, H, I.kept (fun b o e => hk b o (fun hm => ?_) (Heap.get?_push_of_some _ e)), rfl, ?_⟩
    · rw [List.mem_singleton.mp hm] at e
      exact Nat.lt_irrefl _ (Heap.lt_size e)
    · rw [List.size_toArray, hlen, range_all]
      exact q
end

/-! ### the signs of a text, one after the other -/
def Its (x : Str) : It := ⟨fun i _ => i < x.cps.toList.length, fun i H v H' => H' = H ∧ ∃ c, x.cps.toList[i]? = some c ∧ v = .str ⟨#[c]⟩, fun i _ => x.cps.toList.length ≤ i⟩
theorem turn_ascii {P : Program} {w : World} {K : PySem.W.Frag} {tg : Expr} (x : Str) (t : Tok) (it : Addr) : Turn P w K tg (Its x) [it] it (fun i h => h.IsStrIter it "str_ascii_iterator" x t i) where
  mem := by simp
  obj := fun i h st b hb => by
    have e : b = it := by simpa using hb
    subst e
    obtain ⟨o, e, c, d⟩ := st
    exact ⟨o, e, fun v z => by rw [d] at z; cases z⟩
  keep := fun i h h' st k => by
    obtain ⟨o, e, r⟩ := st
    exact ⟨o, k it (by simp) o e, r⟩
  item := by
    intro X hP hw hK hc i pins s σ H E I hf st hg
    subst hP hw hK
    obtain ⟨f0, f1, f2, f3, f4, f5⟩ := hf it (by simp)
    have hi : i < x.cps.size := by simpa [Its] using hg
    refine wpAny_pyNext_ascii_item st (c := x.cps[i]) (by simp [hi]) fun h' st' sb => ?_
    have I1 : Inv X pins σ H { s with heap := h', toks := s.toks + 1 } := I.turned (t' := s.toks + 1) (fun b o hb e => (sb.2 b hb).trans e) f0 f1 f3 f4 f5
    obtain ⟨o, e, c, d⟩ := id st'
    exact ⟨_, rfl, go_of (s := { s with heap := h', toks := s.toks + 1 }) e c d (by decide) ⟨.str ⟨#[x.cps[i]]⟩, H, I1, ⟨_, rfl⟩, ⟨rfl, x.cps[i], by simp [hi], rfl⟩, st', fun b hb => (hf b hb).1⟩⟩
  done := by
    intro X hP hw hK hc i pins s σ H E I hf st hg
    subst hP hw hK
    obtain ⟨f0, f1, f2, f3, f4, f5⟩ := hf it (by simp)
    have hi : x.cps.size ≤ i := by simpa [Its] using hg
    exact wpAny_pyNext_ascii_end (I.ok.hd hc) st (by simp; omega) fun h' eb => ⟨rfl, I.turned (t' := s.toks) (fun b o hb e => eb b o hb e) f0 f1 f3 f4 f5⟩
  self := fun _ _ _ _ _ st h => wpAny_pyIter_striter_ascii st h
theorem turn_wide {P : Program} {w : World} {K : PySem.W.Frag} {tg : Expr} (x : Str) (t : Tok) (it : Addr) : Turn P w K tg (Its x) [it] it (fun i h => h.IsStrIter it "str_iterator" x t i) where
  mem := by simp
  obj := fun i h st b hb => by
    have e : b = it := by simpa using hb
    subst e
    obtain ⟨o, e, c, d⟩ := st
    exact ⟨o, e, fun v z => by rw [d] at z; cases z⟩
  keep := fun i h h' st k => by
    obtain ⟨o, e, r⟩ := st
    exact ⟨o, k it (by simp) o e, r⟩
  item := by
    intro X hP hw hK hc i pins s σ H E I hf st hg
    subst hP hw hK
    obtain ⟨f0, f1, f2, f3, f4, f5⟩ := hf it (by simp)
    have hi : i < x.cps.size := by simpa [Its] using hg
    refine wpAny_pyNext_wide_item st (c := x.cps[i]) (by simp [hi]) fun h' st' sb => ?_
    have I1 : Inv X pins σ H { s with heap := h', toks := s.toks + 1 } := I.turned (t' := s.toks + 1) (fun b o hb e => (sb.2 b hb).trans e) f0 f1 f3 f4 f5
    obtain ⟨o, e, c, d⟩ := id st'
    exact ⟨_, rfl, go_of (s := { s with heap := h', toks := s.toks + 1 }) e c d (by decide) ⟨.str ⟨#[x.cps[i]]⟩, H, I1, ⟨_, rfl⟩, ⟨rfl, x.cps[i], by simp [hi], rfl⟩, st', fun b hb => (hf b hb).1⟩⟩
  done := by
    intro X hP hw hK hc i pins s σ H E I hf st hg
    subst hP hw hK
    obtain ⟨f0, f1, f2, f3, f4, f5⟩ := hf it (by simp)
    have hi : x.cps.size ≤ i := by simpa [Its] using hg
    exact wpAny_pyNext_wide_end (I.ok.hd hc) st (by simp; omega) fun h' eb => ⟨rfl, I.turned (t' := s.toks) (fun b o hb e => eb b o hb e) f0 f1 f3 f4 f5⟩
  self := fun _ _ _ _ _ st h => wpAny_pyIter_striter_wide st h
def iStr (tl : TE) : TI := fun σ H R => tl σ H fun x H1 => ∃ z, x = .str z ∧ R (Its z) H1
theorem pi_str {X : Cx} {tg l : Expr} {tl : TE} (hl : PE X l tl) : PI X tg l (iStr tl) := by
  intro pins s σ H R I h
  refine thn (hl pins s σ H _ I h) fun v s1 ⟨x, H1, I1, r1, z, e, q⟩ => ?_
  subst e
  obtain ⟨t, rfl⟩ := r1
  cases ha : z.cps.all (· < 128) with
  | true =>
    refine wpAny_pyIter_ascii ha ?_
    have I2 : Inv X pins σ H1 { s1 with heap := s1.heap.push { cls := .type "str_ascii_iterator", data := .fields #[.str z t, .int 0 0] } } := I1.kept (t' := s1.toks) fun b o e => Heap.get?_push_of_some _ e
    exact ⟨_, _, _, Its z, H1, rfl, I2, turn_ascii z t s1.heap.objs.size, ⟨_, Heap.get?_push_size _ rfl, rfl, rfl⟩, fun b hb => by rw [List.mem_singleton.mp hb]; exact I1.fpOk (Nat.le_refl _) (I1.hok.fresh (Nat.le_refl _)), q⟩
  | false =>
    refine wpAny_pyIter_wide ha ?_
    have I2 : Inv X pins σ H1 { s1 with heap := s1.heap.push { cls := .type "str_iterator", data := .fields #[.str z t, .int 0 0] } } := I1.kept (t' := s1.toks) fun b o e => Heap.get?_push_of_some _ e
    exact ⟨_, _, _, Its z, H1, rfl, I2, turn_wide z t s1.heap.objs.size, ⟨_, Heap.get?_push_size _ rfl, rfl, rfl⟩, fun b hb => by rw [List.mem_singleton.mp hb]; exact I1.fpOk (Nat.le_refl _) (I1.hok.fresh (Nat.le_refl _)), q⟩
theorem for_str {x : Str} {g : TG} {tb : TS} {D : Ends} {σ : L2.St} {H : Hp} (Pv : Nat → L2.St → Hp → Prop) (h0 : Pv 0 σ H)
    (hs : ∀ i c σ H, x.cps.toList[i]? = some c → Pv i σ H → g (.str ⟨#[c]⟩) σ H fun σ2 H2 => tb { D with nx := Pv (i + 1), ct := Pv (i + 1), bk := D.nx } σ2 H2) (hd : ∀ σ H, Pv x.cps.toList.length σ H → D.nx σ H) :
    ∃ W : Nat → Nat → L2.St → Hp → Prop, (∃ m, W 0 m σ H) ∧ ∀ i m σ H, W i m σ H →
      ((Its x).stop i H ∧ D.nx σ H) ∨ ((Its x).go i H ∧ ∃ N : L2.St → Hp → Prop, (∀ σ' H', N σ' H' → ∃ m', m' < m ∧ W (i + 1) m' σ' H') ∧ ∀ v H', (Its x).yld i H v H' → g v σ H' fun σ2 H2 => tb { D with nx := N, ct := N, bk := D.nx } σ2 H2) := by
  refine ⟨fun i m σ H => m = x.cps.toList.length - i ∧ i ≤ x.cps.toList.length ∧ Pv i σ H, ⟨x.cps.toList.length, by simp, Nat.zero_le _, h0⟩, ?_⟩
  rintro i m σ H ⟨rfl, hi, p⟩
  by_cases hlt : i < x.cps.toList.length
  · refine .inr ⟨hlt, Pv (i + 1), fun σ' H' p' => ⟨x.cps.toList.length - (i + 1), by omega, rfl, hlt, p'⟩, fun v H' y => ?_⟩
    obtain ⟨e, c, hc, rfl⟩ := y
    subst e
    exact hs i c σ _ hc p
  · have e : i = x.cps.toList.length := by omega
    subst e
    exact .inl ⟨Nat.le_refl _, hd σ H p⟩
theorem comp_str {x : Str} {D : Addr} {sl : List (Option Nat)} {g : TG} {tt : TT} {te : TE} {σ : L2.St} {H1 : Hp} {Q : VK} (Pv : Nat → List V → Hp → Prop) (h0 : Pv 0 [] (upd H1 D (.lst [])))
    (hs : ∀ i c ys H, x.cps.toList[i]? = some c → i < x.cps.toList.length → H D = some (.lst ys) → ys.length ≤ i → Pv i ys H → g (.str ⟨#[c]⟩) (picks sl σ) H fun σ2 H2 => Agree (picks sl σ) σ2 ∧ tt σ2 H2 fun b H3 =>
      if b = true then te σ2 H3 fun y H4 => ∃ xs, H4 D = some (.lst xs) ∧ xs.length < sizeLine ∧ Nx D i Pv (upd H4 D (.lst (xs ++ [y]))) else Nx D i Pv H3)
    (hd : ∀ ys H, H D = some (.lst ys) → ys.length ≤ x.cps.toList.length → Pv x.cps.toList.length ys H → Q (.ref D) H) : CompR (Its x) sl g tt te σ H1 D Q := by
  refine comp_by (Its x) x.cps.toList.length Pv h0 (fun i ys H hi p => hi) (fun ys H p => Nat.le_refl _) (fun i v ys H H' hi y hD hyl p => ?_) hd
  obtain ⟨e, c, hc, rfl⟩ := y
  subst e
  exact hs i c ys _ hc hi hD hyl p

/-! ### list(text) -/
theorem vals_at : ∀ {ys : List V} {us : List Value}, ys.length = us.length → (∀ (i : Nat) (y : V) (u : Value), ys[i]? = some y → us[i]? = some u → RelV y u) → Vals ys us
  | [], [], _, _ => .nil
  | [], _ :: _, h, _ => by cases h
  | _ :: _, [], h, _ => by cases h
  | y :: ys, u :: us, h, r => .cons (r 0 y u rfl rfl) (vals_at (by simpa using h) fun i y' u' e e' => r (i + 1) y' u' (by simpa using e) (by simpa using e'))
theorem call_listS {X : Cx} (hc : X.calm = true) : CallR X (.type "list") (fun xs H Q => ∃ z : Str, xs = [.str z] ∧ z.length ≤ 1000 ∧ ∀ l, H l = none → Q (.ref l) (upd H l (.lst (z.cps.toList.map fun c => V.str ⟨#[c]⟩)))) := by
  intro pins s σ H xs us Q I r h
  obtain ⟨z, rfl, hz, q⟩ := h
  obtain ⟨u, rfl, t, rfl⟩ := vals1 r
  have hz' : z.cps.size ≤ sizeLine := Nat.le_of_lt (by have := sizeLine_eq; unfold Str.length at hz; omega)
  refine call_list_str (I.ok.hd hc) z t (fun h' tk acc' c' kp e hacc => ?_) hz'
  refine ⟨.ref s.heap.objs.size, _, I.laid (t' := tk) kp (Nat.le_refl _) (show ObjOk X.prog X.w _ h' _ (.lst (z.cps.toList.map fun c => V.str ⟨#[c]⟩)) from ⟨by simpa using hz', acc'.toList, c', vals_at (by simpa using hacc.1.symm) fun i y u' e1 e2 => ?_, by simpa using e⟩), rfl, q _ (I.hok.fresh (Nat.le_refl _))⟩
  obtain ⟨c, k, e3, e4⟩ := hacc.2 i u' (by simpa using e2)
  rw [List.getElem?_map, show z.cps.toList[i]? = some c by simpa using e3] at e1
  cases e1
  exact ⟨k, e4⟩

/-! ### values that are no texts, and no tuples; rows; things -/
def NoStr (H : Hp) (v : V) : Prop := v = .non ∨ (∃ i, v = .int i) ∨ ∃ a, v = .ref a ∧ ((∃ xs, H a = some (.lst xs)) ∨ (∃ xs, H a = some (.tup xs)) ∨ H a = some (.dK []))
def NoTup (H : Hp) (v : V) : Prop := v = .non ∨ (∃ i, v = .int i) ∨ (∃ z, v = .str z) ∨ ∃ a, v = .ref a ∧ ((∃ xs, H a = some (.lst xs)) ∨ H a = some (.dK []))
theorem NoStr.ty {K : PySem.W.Frag} {H : Hp} {v : V} (h : NoStr H v) : ∃ t, TyOf K H v t ∧ PySem.W.kitOne K t (.type "str") = some false := by
  rcases h with rfl | ⟨i, rfl⟩ | ⟨a, rfl, ⟨xs, h⟩ | ⟨xs, h⟩ | h⟩
  · exact ⟨_, .non, rfl⟩
  · exact ⟨_, .int i, rfl⟩
  · exact ⟨_, .lst h, rfl⟩
  · exact ⟨_, .tup h, rfl⟩
  · exact ⟨_, .dK h, rfl⟩
theorem NoTup.ty {K : PySem.W.Frag} {H : Hp} {v : V} (h : NoTup H v) : ∃ t, TyOf K H v t ∧ PySem.W.kitOne K t (.type "tuple") = some false := by
  rcases h with rfl | ⟨i, rfl⟩ | ⟨z, rfl⟩ | ⟨a, rfl, ⟨xs, h⟩ | h⟩
  · exact ⟨_, .non, rfl⟩
  · exact ⟨_, .int i, rfl⟩
  · exact ⟨_, .str z, rfl⟩
  · exact ⟨_, .lst h, rfl⟩
  · exact ⟨_, .dK h, rfl⟩
theorem NoStr.same {H H' : Hp} {v : V} (h : NoStr H v) (s : Same H H') : NoStr H' v := by
  rcases h with rfl | ⟨i, rfl⟩ | ⟨a, rfl, ⟨xs, h⟩ | ⟨xs, h⟩ | h⟩
  · exact .inl rfl
  · exact .inr (.inl ⟨i, rfl⟩)
  · exact .inr (.inr ⟨a, rfl, .inl ⟨xs, s _ _ h⟩⟩)
  · exact .inr (.inr ⟨a, rfl, .inr (.inl ⟨xs, s _ _ h⟩)⟩)
  · exact .inr (.inr ⟨a, rfl, .inr (.inr (s _ _ h))⟩)
theorem NoTup.same {H H' : Hp} {v : V} (h : NoTup H v) (s : Same H H') : NoTup H' v := by
  rcases h with rfl | ⟨i, rfl⟩ | ⟨z, rfl⟩ | ⟨a, rfl, ⟨xs, h⟩ | h⟩
  · exact .inl rfl
  · exact .inr (.inl ⟨i, rfl⟩)
  · exact .inr (.inr (.inl ⟨z, rfl⟩))
  · exact .inr (.inr (.inr ⟨a, rfl, .inl ⟨xs, s _ _ h⟩⟩))
  · exact .inr (.inr (.inr ⟨a, rfl, .inr (s _ _ h)⟩))
/-- a short text of plain signs -/
def Tx (z : Str) : Prop := z.length ≤ 80 ∧ ∀ c ∈ z.cps.toList, c < 128
def Itm (H : Hp) (v : V) : Option Str → Prop
  | some z => v = .str z ∧ Tx z
  | none => NoStr H v
def Itms (H : Hp) (vs : List V) (os : List (Option Str)) : Prop := vs.length = os.length ∧ ∀ (i : Nat) (v : V) (o : Option Str), vs[i]? = some v → os[i]? = some o → Itm H v o
def Thing (H : Hp) (v : V) : Option (List (Option Str)) → Prop
  | none => NoTup H v
  | some os => os.length ≤ 500 ∧ ∃ a vs, v = .ref a ∧ H a = some (.tup vs) ∧ Itms H vs os
theorem Itm.same {H H' : Hp} {v : V} {o : Option Str} (h : Itm H v o) (s : Same H H') : Itm H' v o := by
  cases o with
  | none => exact NoStr.same h s
  | some z => exact h
theorem Itms.same {H H' : Hp} {vs : List V} {os : List (Option Str)} (h : Itms H vs os) (s : Same H H') : Itms H' vs os := ⟨h.1, fun i v o e e' => (h.2 i v o e e').same s⟩
theorem Thing.same {H H' : Hp} {v : V} {T : Option (List (Option Str))} (h : Thing H v T) (s : Same H H') : Thing H' v T := by
  cases T with
  | none => exact NoTup.same h s
  | some os =>
    obtain ⟨hl, a, vs, e, ha, hi⟩ := h
    exact ⟨hl, a, vs, e, s _ _ ha, hi.same s⟩
theorem Itms.at {H : Hp} {vs : List V} {os : List (Option Str)} {i : Nat} {v : V} (h : Itms H vs os) (e : vs[i]? = some v) : ∃ o, os[i]? = some o ∧ Itm H v o := by
  have hi : i < vs.length := (List.getElem?_eq_some_iff.mp e).1
  have hi' : i < os.length := by rw [← h.1]; exact hi
  exact ⟨os[i], List.getElem?_eq_getElem hi', h.2 i v _ e (List.getElem?_eq_getElem hi')⟩
/-- items that are each a row or none: some list of rows says which -/
theorem itms_of {H : Hp} : ∀ {vs : List V}, (∀ v ∈ vs, ∃ o, Itm H v o) → ∃ os, Itms H vs os
  | [], _ => ⟨[], rfl, fun i v o e => by simp at e⟩
  | v :: vs, h => by
    obtain ⟨o, ho⟩ := h v List.mem_cons_self
    obtain ⟨os, h1, h2⟩ := itms_of (vs := vs) fun u hu => h u (List.mem_cons_of_mem _ hu)
    refine ⟨o :: os, by simp [h1], fun i v' o' e e' => ?_⟩
    cases i with
    | zero => simp at e e'; subst e e'; exact ho
    | succ i => exact h2 i v' o' (by simpa using e) (by simpa using e')
theorem Tx.ok {z : Str} (h : Tx z) : PyData.strOk z = true := by
  unfold PyData.strOk
  rw [Array.all_eq_true']
  intro c hc
  have := h.2 c (by simpa using hc)
  simp only [decide_eq_true_eq]
  omega
/-- what is told of a sign, a row, a thing -/
def sgB (c : Nat) : Bool := (c == 35 || c == 46 || c == 44) || (decide (65 ≤ c) && decide (c ≤ 90)) || (decide (97 ≤ c) && decide (c ≤ 122))
def rowB : Option Str → Bool
  | some z => decide (1 ≤ z.length) && decide (z.length ≤ 8) && z.cps.toList.all sgB
  | none => false
def lenO : Option Str → Nat
  | some z => z.length
  | none => 0
def flB : Option (List (Option Str)) → Bool
  | none => false
  | some os => decide (1 ≤ os.length) && decide (os.length ≤ 8) && os.all fun o => rowB o && (lenO o == lenO ((os[0]?).getD none))
theorem slice_mem {x : Str} {l u : Option Int} {c : Nat} (h : c ∈ (Txt.slice x l u).cps.toList) : c ∈ x.cps.toList := by
  unfold Txt.slice at h
  split at h
  · exact h
  · simp only [List.mem_filterMap] at h
    obtain ⟨i, _, e⟩ := h
    have e' : x.cps.toList[i]? = some c := by simpa using e
    exact List.mem_of_getElem? e'
theorem Tx.slice {x : Str} (h : Tx x) (l u : Option Int) : Tx (Txt.slice x l u) := ⟨Nat.le_trans (Txt.slice_le x l u) h.1, fun c hc => h.2 c (slice_mem hc)⟩
theorem len_cat (x y : Str) : (x ++ y).length = x.length + y.length := by
  show (x.cps ++ y.cps).size = _
  simp [Str.length]
theorem Tx.cat {x y : Str} (hx : Tx x) (hy : Tx y) (hl : x.length + y.length ≤ 80) : Tx (x ++ y) := ⟨by rw [len_cat]; exact hl, fun c hc => by
  have hc' : c ∈ (x.cps ++ y.cps).toList := hc
  rw [Array.toList_append, List.mem_append] at hc'
  rcases hc' with h | h
  · exact hx.2 c h
  · exact hy.2 c h⟩
theorem foldJ {g : Array Nat} (hg : g = #[]) : ∀ (l : List Str) (a : Array Nat), (l.foldl (fun acc p => acc ++ g ++ p.cps) a).toList = a.toList ++ (l.map fun p => p.cps.toList).flatten
  | [], a => by simp
  | p :: l, a => by
    rw [List.foldl_cons, foldJ hg l, hg]
    simp
theorem join_list_eq {g : Str} (hg : g.cps = #[]) : ∀ ys : List Str, (Txt.join g ys).cps.toList = (ys.map fun p => p.cps.toList).flatten
  | [] => by simp [Txt.join, PySem.Builtin.Str.glued, Str.empty]
  | y :: ys => by
    show ((ys.foldl (fun acc p => acc ++ g.cps ++ p.cps) y.cps)).toList = _
    rw [foldJ hg]
    simp
theorem flat_len : ∀ {ys : List Str}, (∀ y ∈ ys, y.length = 1) → ((ys.map fun p => p.cps.toList).flatten).length = ys.length
  | [], _ => rfl
  | y :: ys, h => by
    have h1 := h y List.mem_cons_self
    have h2 := flat_len (ys := ys) fun z hz => h z (List.mem_cons_of_mem _ hz)
    unfold Str.length at h1
    simp [h2, h1] <;> omega
/-- a text joined of single signs -/
theorem Tx.join {g : Str} {ys : List Str} (hg : g.cps = #[]) (h1 : ∀ y ∈ ys, y.length = 1) (h2 : ∀ y ∈ ys, Tx y) (hl : ys.length ≤ 80) : Tx (Txt.join g ys) ∧ (Txt.join g ys).length = ys.length := by
  have e := join_list_eq hg ys
  have l : (Txt.join g ys).length = ys.length := by
    rw [← flat_len h1, ← e]
    simp [Str.length]
  refine ⟨⟨by omega, fun c hc => ?_⟩, l⟩
  rw [e, List.mem_flatten] at hc
  obtain ⟨t, ht, hc⟩ := hc
  obtain ⟨y, hy, rfl⟩ := List.mem_map.mp ht
  exact (h2 y hy).2 c hc
end L3

set_option maxHeartbeats 4000000
namespace L3
open PySem PySem.Spec PyProof.Rows L2

/-! ### the next of a tuple's and a text's iterator, as enumerate asks for it -/
section
variable {prog : Program} {w : World} {A : Around} {E : Value → Shared → Prop} {s : Shared}
theorem nx_tup {I a : Addr} {k : Nat} {ys : Array Value} {v : Value} {R : Value → Shared → Prop} (st : s.heap.IsTupleIter I a k) (tp : s.heap.IsTuple a ys) (hv : ys[k]? = some v)
    (q : ∀ g, g.IsTupleIter I a (k + 1) → Heap.SameBut I s.heap g → R v { s with heap := g }) : wpAny (model prog w) A (Builtin.SmallTypes.nextOf (.ref I)) R E s := by
  obtain ⟨u, hu, uc, ud⟩ := id st
  obtain ⟨z, hz, _, nz, zd⟩ := tp
  unfold Builtin.SmallTypes.nextOf
  refine wpAny_bind (wpAny_callSpecial?_slot (name := Str.ofString "__next__") st.typeIs F.slot_tuple_iterator_next (wpAny_call_entry F.slot_tuple_iterator_next st.typeIs F.entry_tuple_iterator_next ?_ (F.args_tuple_iterator_next_1 _)))
  refine (wpAny_bind (wpAny_field hu ud (x := .ref a) rfl ?_) : wpAny _ _ (field (.ref I) 0 >>= _) _ _ s)
  refine (?_ : wpAny _ _ (if (Value.ref a == Value.none) = true then _ else _) _ _ s)
  rw [if_neg (show ¬ (Value.ref a == Value.none) = true from Bool.false_ne_true)]
  refine (wpAny_bind (wpAny_field hu ud (x := .int k 0) rfl ?_) : wpAny _ _ (field (.ref I) 1 >>= _) _ _ s)
  refine (wpAny_bind (wpAny_seqItems hz zd ?_) : wpAny _ _ (seqItems? (.ref a) >>= _) _ _ s)
  simp only [Int.toNat_natCast, hv]
  refine wpAny_bind (wpAny_setField hu ud (by simp) (wpAny_pure ⟨v, rfl, wpAny_pure (q _ ⟨_, Heap.get?_update_self _ hu (Obj.isFreed_of_fields (Obj.data_mapFields ud _)), ?_, ?_⟩ (Heap.SameBut.update ..))⟩))
  · exact (Obj.cls_mapFields ..).trans uc
  · rw [Obj.data_mapFields ud]; simp [rawInt]
theorem nx_asc {I : Addr} {z : Str} {t : Tok} {k c : Nat} {R : Value → Shared → Prop} (st : s.heap.IsStrIter I "str_ascii_iterator" z t k) (hv : z.cps[k]? = some c)
    (q : ∀ g, g.IsStrIter I "str_ascii_iterator" z t (k + 1) → Heap.SameBut I s.heap g → R (.str ⟨#[c]⟩ s.toks) { s with heap := g, toks := s.toks + 1 }) : wpAny (model prog w) A (Builtin.SmallTypes.nextOf (.ref I)) R E s := by
  obtain ⟨u, hu, uc, ud⟩ := id st
  unfold Builtin.SmallTypes.nextOf
  refine wpAny_bind (wpAny_callSpecial?_slot (name := Str.ofString "__next__") st.typeIs F.slot_str_ascii_iterator_next (wpAny_call_entry F.slot_str_ascii_iterator_next st.typeIs F.entry_str_ascii_iterator_next ?_ (F.args_str_ascii_iterator_next_1 _)))
  refine (wpAny_bind (wpAny_field hu ud (x := .str z t) rfl ?_) : wpAny _ _ (field (.ref I) 0 >>= _) _ _ s)
  refine (wpAny_bind (wpAny_field hu ud (x := .int k 0) rfl ?_) : wpAny _ _ (field (.ref I) 1 >>= _) _ _ s)
  simp only [Int.toNat_natCast, hv]
  refine wpAny_bind (wpAny_setField hu ud (by simp) (wpAny_bind (wpAny_mkStr (wpAny_pure ⟨_, rfl, wpAny_pure (q _ ⟨_, Heap.get?_update_self _ hu (Obj.isFreed_of_fields (Obj.data_mapFields ud _)), ?_, ?_⟩ (Heap.SameBut.update ..))⟩) (by show 1 ≤ sizeLine; decide))))
  · exact (Obj.cls_mapFields ..).trans uc
  · rw [Obj.data_mapFields ud]; simp [rawInt]
/-- the error that ends a walk -/
theorem stop_raised {X : Addr} {h1 : Heap} {k : Value → Sem Fin} (hh : A.handled = none) (keep : Heap.ExtBut X s.heap h1)
    (q : ∀ g e, Heap.ExtBut X s.heap g → (∃ o, g.get? e = some o ∧ o.cls = .type "StopIteration") → E (.ref e) { s with heap := g }) {R : Fin → Shared → Prop}
    (ek : ∀ v, k v = (raiseNew v : Sem Fin)) : wpAny (model prog w) A (newExc (.type "StopIteration") [] >>= k) R E { s with heap := h1 } := by
  refine wpAny_bind ?_
  simp only [newExc, newTuple]
  refine wpAny_bind (wpAny_newObj_type ?_ (by size_fits))
  refine wpAny_bind (m := firstArgMember _ _) (wpAny_of_eq (a := Value.none) (by first | rfl | (simp only [firstArgMember]; rfl)) (wpAny_newObj_type ?_ (by size_fits)))
  rw [ek]
  simp only [raiseNew]
  refine wpAny_bind (wpAny_handled ?_)
  rw [hh]
  exact wpAny_bind (wpAny_pure (wpAny_throw (q _ _ ((keep.push _).push _) ⟨_, Heap.get?_push_size _ rfl, rfl⟩)))
theorem nx_tup_end {I a : Addr} {k : Nat} {ys : Array Value} {R : Value → Shared → Prop} (hh : A.handled = none) (st : s.heap.IsTupleIter I a k) (tp : s.heap.IsTuple a ys) (hv : ys[k]? = none)
    (q : ∀ g e, Heap.ExtBut I s.heap g → (∃ o, g.get? e = some o ∧ o.cls = .type "StopIteration") → E (.ref e) { s with heap := g }) : wpAny (model prog w) A (Builtin.SmallTypes.nextOf (.ref I)) R E s := by
  obtain ⟨u, hu, uc, ud⟩ := id st
  obtain ⟨z, hz, _, nz, zd⟩ := tp
  unfold Builtin.SmallTypes.nextOf
  refine wpAny_bind (wpAny_callSpecial?_slot (name := Str.ofString "__next__") st.typeIs F.slot_tuple_iterator_next (wpAny_call_entry F.slot_tuple_iterator_next st.typeIs F.entry_tuple_iterator_next ?_ (F.args_tuple_iterator_next_1 _)))
  refine (wpAny_bind (wpAny_field hu ud (x := .ref a) rfl ?_) : wpAny _ _ (field (.ref I) 0 >>= _) _ _ s)
  refine (?_ : wpAny _ _ (if (Value.ref a == Value.none) = true then _ else _) _ _ s)
  rw [if_neg (show ¬ (Value.ref a == Value.none) = true from Bool.false_ne_true)]
  refine (wpAny_bind (wpAny_field hu ud (x := .int k 0) rfl ?_) : wpAny _ _ (field (.ref I) 1 >>= _) _ _ s)
  refine (wpAny_bind (wpAny_seqItems hz zd ?_) : wpAny _ _ (seqItems? (.ref a) >>= _) _ _ s)
  simp only [Int.toNat_natCast, hv]
  refine wpAny_bind (wpAny_rule (wpAny_bind (wpAny_setField hu ud (by simp) ?_)))
  exact stop_raised (A := A.in1) hh (Heap.SameBut.update ..).extBut q fun _ => rfl
theorem nx_asc_end {I : Addr} {z : Str} {t : Tok} {k : Nat} {R : Value → Shared → Prop} (hh : A.handled = none) (st : s.heap.IsStrIter I "str_ascii_iterator" z t k) (hv : z.cps[k]? = none)
    (q : ∀ g e, Heap.ExtBut I s.heap g → (∃ o, g.get? e = some o ∧ o.cls = .type "StopIteration") → E (.ref e) { s with heap := g }) : wpAny (model prog w) A (Builtin.SmallTypes.nextOf (.ref I)) R E s := by
  obtain ⟨u, hu, uc, ud⟩ := id st
  unfold Builtin.SmallTypes.nextOf
  refine wpAny_bind (wpAny_callSpecial?_slot (name := Str.ofString "__next__") st.typeIs F.slot_str_ascii_iterator_next (wpAny_call_entry F.slot_str_ascii_iterator_next st.typeIs F.entry_str_ascii_iterator_next ?_ (F.args_str_ascii_iterator_next_1 _)))
  refine (wpAny_bind (wpAny_field hu ud (x := .str z t) rfl ?_) : wpAny _ _ (field (.ref I) 0 >>= _) _ _ s)
  refine (wpAny_bind (wpAny_field hu ud (x := .int k 0) rfl ?_) : wpAny _ _ (field (.ref I) 1 >>= _) _ _ s)
  simp only [Int.toNat_natCast, hv]
  refine wpAny_bind (wpAny_rule (wpAny_bind (wpAny_setField hu ud (by simp) (wpAny_bind (wpAny_letGo ?_)))))
  exact stop_raised (A := A.in1) hh (Heap.SameBut.update ..).extBut q fun _ => rfl
/-- a turn of enumerate, over any walk that has a next one -/
theorem enum_item {e I : Addr} {i : Nat} {old : Value} {Y : Value → Prop} {N : Heap → Prop} {Q : Option Value → Shared → Prop} (he : IsEnum s.heap e I i old) (hne : e ≠ I)
    (hN : ∀ g g', N g → (∀ o, g.get? I = some o → g'.get? I = some o) → N g')
    (hnx : ∀ (A' : Around) (R : Value → Shared → Prop) (E' : Value → Shared → Prop), (∀ x g tk, Y x → N g → Heap.SameBut I s.heap g → R x { s with heap := g, toks := tk }) → wpAny (model prog w) A' (Builtin.SmallTypes.nextOf (.ref I)) R E' s)
    (hQ : ∀ x g tk tk2, Y x → IsEnumOut g e I ((i : Int) + 1) x s.heap.objs.size → N g → g.get? s.heap.objs.size = some { cls := .type "tuple", data := .seq #[.int i tk2, x] } → (∀ b o, b ≠ e → b ≠ I → s.heap.get? b = some o → g.get? b = some o) → Q (some (.ref s.heap.objs.size)) { s with heap := g, toks := tk }) :
    wpAny (model prog w) A (pyNext (.ref e)) Q E s := by
  obtain ⟨h0, ga, dr, t0, os⟩ := s
  have ty : Shared.TypeIs ⟨h0, ga, dr, t0, os⟩ (.ref e) "enumerate" := ⟨_, he, rfl⟩
  replace he : IsEnum h0 e I i old := he
  have hel : e < h0.objs.size := Heap.lt_size he
  unfold pyNext
  refine wpAny_bind (wpAny_attempt (wpAny_callSpecial?_slot (name := Str.ofString "__next__") ty F.slot_enumerate_next (wpAny_call_entry F.slot_enumerate_next ty F.entry_enumerate_next ?_ (F.args_enumerate_next_1 _))))
  show wpAny _ _ (field (.ref e) 2 >>= _) _ _ ⟨h0, ga, dr, t0, os⟩
  refine wpAny_bind (wpAny_field he rfl (x := .ref I) rfl (wpAny_bind (hnx _ _ _ fun x g1 tk yx n1 sb1 => ?_)))
  replace sb1 : Heap.SameBut I h0 g1 := sb1
  have e1 : IsEnum g1 e I i old := (sb1.2 e hne).trans he
  have z1 : g1.objs.size = h0.objs.size := sb1.1
  have k1 : ∀ b o, b ≠ e → b ≠ I → h0.get? b = some o → g1.get? b = some o := fun b o _ hb h => (sb1.2 b hb).trans h
  clear sb1
  show wpAny _ _ (field (.ref e) 3 >>= _) _ _ ⟨g1, ga, dr, tk, os⟩
  refine wpAny_bind (wpAny_field e1 rfl (x := rawInt i) rfl ?_)
  show wpAny _ _ (field (.ref e) 4 >>= _) _ _ ⟨g1, ga, dr, tk, os⟩
  refine wpAny_bind (wpAny_field e1 rfl (x := .none) rfl ?_)
  show wpAny _ _ (mkInt i >>= _) _ _ ⟨g1, ga, dr, tk, os⟩
  refine wpAny_bind (wpAny_mkInt ?_)
  show wpAny _ _ (setField (.ref e) 3 (rawInt ((i : Int) + 1)) >>= _) _ _ ⟨g1, ga, dr, tk + 1, os⟩
  refine wpAny_bind (wpAny_setField_rec e1 (by simp) fun g2 e2 sb2 => ?_)
  replace sb2 : Heap.SameBut e g1 g2 := sb2
  replace e2 : IsEnum g2 e I ((i : Int) + 1) old := e2
  have z2 : g2.objs.size = h0.objs.size := sb2.1.trans z1
  have n2 : N g2 := hN _ _ n1 fun o h => (sb2.2 I (Ne.symm hne)).trans h
  have k2 : ∀ b o, b ≠ e → b ≠ I → h0.get? b = some o → g2.get? b = some o := fun b o hb hI h => (sb2.2 b hb).trans (k1 b o hb hI h)
  clear sb2 n1 k1 e1 z1
  show wpAny _ _ (setField (.ref e) 4 .none >>= _) _ _ ⟨g2, ga, dr, tk + 1, os⟩
  refine wpAny_bind (wpAny_setField_rec e2 (by simp) fun g3 e3 sb3 => ?_)
  replace sb3 : Heap.SameBut e g2 g3 := sb3
  replace e3 : IsEnum g3 e I ((i : Int) + 1) old := e3
  have z3 : g3.objs.size = h0.objs.size := sb3.1.trans z2
  have n3 : N g3 := hN _ _ n2 fun o h => (sb3.2 I (Ne.symm hne)).trans h
  have k3 : ∀ b o, b ≠ e → b ≠ I → h0.get? b = some o → g3.get? b = some o := fun b o hb hI h => (sb3.2 b hb).trans (k2 b o hb hI h)
  clear sb3 n2 k2 e2 z2
  show wpAny _ _ (newTuple [.int i tk, x] >>= _) _ _ ⟨g3, ga, dr, tk + 1, os⟩
  refine wpAny_bind (wpAny_newTuple ?_)
  have e4 : IsEnum (g3.push { cls := .type "tuple", data := .seq #[.int i tk, x] }) e I ((i : Int) + 1) old := Heap.get?_push_of_some _ e3
  have n4 : N (g3.push { cls := .type "tuple", data := .seq #[.int i tk, x] }) := hN _ _ n3 fun o h => Heap.get?_push_of_some _ h
  have k4 : ∀ b o, b ≠ e → b ≠ I → h0.get? b = some o → (g3.push { cls := .type "tuple", data := .seq #[.int i tk, x] }).get? b = some o := fun b o hb hI h => Heap.get?_push_of_some _ (k3 b o hb hI h)
  have t4 : (g3.push { cls := .type "tuple", data := .seq #[.int i tk, x] }).get? h0.objs.size = some { cls := .type "tuple", data := .seq #[.int i tk, x] } := by
    have h := Heap.get?_push_size g3 (o := { cls := .type "tuple", data := .seq #[.int i tk, x] }) rfl
    rw [z3] at h; exact h
  generalize hg4 : g3.push { cls := .type "tuple", data := .seq #[.int i tk, x] } = g4 at *
  show wpAny _ _ (Builtin.SmallTypes.ownedTupleIsFree (.ref e) >>= _) _ _ ⟨g4, ga, dr, tk + 1, os⟩
  rw [z3]
  clear hg4 n3 k3 e3 z3 g3
  refine wpAny_bind ?_
  unfold Builtin.SmallTypes.ownedTupleIsFree
  refine wpAny_bind (wpAny_field e4 rfl (x := .none) rfl (wpAny_pure ?_))
  simp only [if_true]
  refine wpAny_bind (wpAny_rule (wpAny_bind (wpAny_field e4 rfl (x := old) rfl (wpAny_bind (wpAny_setField_rec e4 (by simp) fun g5 e5 sb5 => ?_)))))
  replace sb5 : Heap.SameBut e g4 g5 := sb5
  replace e5 : IsEnum g5 e I ((i : Int) + 1) x := e5
  show wpAny _ _ (Builtin.SmallTypes.ownedTupleHandOut (.ref e) (.ref h0.objs.size) >>= _) _ _ ⟨g5, ga, dr, tk + 1, os⟩
  refine wpAny_bind ?_
  unfold Builtin.SmallTypes.ownedTupleHandOut
  refine wpAny_bind (wpAny_setField_rec e5 (by simp) fun g6 e6 sb6 => ?_)
  replace sb6 : Heap.SameBut e g5 g6 := sb6
  replace e6 : IsEnumOut g6 e I ((i : Int) + 1) x h0.objs.size := e6
  refine wpAny_setField_rec e6 (by simp) fun g7 e7 sb7 => ?_
  replace sb7 : Heap.SameBut e g6 g7 := sb7
  replace e7 : IsEnumOut g7 e I ((i : Int) + 1) x h0.objs.size := e7
  have all : ∀ b o, b ≠ e → g4.get? b = some o → g7.get? b = some o := fun b o hb h => (sb7.2 b hb).trans ((sb6.2 b hb).trans ((sb5.2 b hb).trans h))
  exact wpAny_bind (wpAny_letGo (wpAny_pure ⟨_, rfl, wpAny_pure (hQ x g7 _ tk yx e7 (hN _ _ n4 fun o h => all I o (Ne.symm hne) h) (all _ _ (Nat.ne_of_gt hel) t4) fun b o hb hI h => all b o hb (k4 b o hb hI h))⟩))
/-- .. and over one that has none -/
theorem enum_end {e I : Addr} {i : Int} {old : Value} {Q : Option Value → Shared → Prop} (he : IsEnum s.heap e I i old)
    (hnx : ∀ (R : Value → Shared → Prop) (E' : Value → Shared → Prop), (∀ g x, Heap.ExtBut I s.heap g → (∃ o, g.get? x = some o ∧ o.cls = .type "StopIteration") → E' (.ref x) { s with heap := g }) → wpAny (model prog w) A.in1 (Builtin.SmallTypes.nextOf (.ref I)) R E' s)
    (hQ : ∀ g, Heap.ExtBut I s.heap g → Q none { s with heap := g }) : wpAny (model prog w) A (pyNext (.ref e)) Q E s := by
  have ty : s.TypeIs (.ref e) "enumerate" := ⟨_, he, rfl⟩
  unfold pyNext
  refine wpAny_bind (wpAny_attempt (wpAny_callSpecial?_slot (name := Str.ofString "__next__") ty F.slot_enumerate_next (wpAny_call_entry F.slot_enumerate_next ty F.entry_enumerate_next ?_ (F.args_enumerate_next_1 _))))
  show wpAny _ _ (field (.ref e) 2 >>= _) _ _ s
  refine wpAny_bind (wpAny_field he rfl (x := .ref I) rfl (wpAny_bind (hnx _ _ fun g x kp ⟨o, ho, hc⟩ => ?_)))
  exact wpAny_bind (wpAny_isInstance (T := "StopIteration") (b := true) ⟨o, ho, hc⟩ isSubtype_stop (wpAny_pure (hQ _ kp)))
end

/-! ### enumerate(tuple), made -/
theorem new_enumT (a : Addr) (ys : Array Value) (n : Nat) (dct : Option Addr) (sl : Array (Option Value)) :
    Meets (Builtin.«enumerate.__new__» ⟨[.type "enumerate", .ref a], []⟩) (fun _ R s => s.heap.get? a = some { cls := .type "tuple", dict := dct, data := .seq ys n, slots := sl } ∧
      R (.ok (.ret (.ref (s.heap.push { cls := .type "tuple_iterator", data := .fields #[.ref a, .int 0 0] }).objs.size)))
        { s with heap := (s.heap.push { cls := .type "tuple_iterator", data := .fields #[.ref a, .int 0 0] }).push { cls := .type "enumerate", data := .fields #[.none, .bool false, .ref s.heap.objs.size, rawInt 0, .none, .none] } }) :=
  .of_wp fun prog w A R s h => by
    obtain ⟨h0, ga, dr, tk, os⟩ := s; obtain ⟨ha, h⟩ := h
    have hsub := sub_enumerate
    have hT : Heap.IsTuple (Shared.heap ⟨h0, ga, dr, tk, os⟩) a ys := ⟨_, ha, rfl, n, rfl⟩
    wp_walk using AutoSeq1.wpAny_loadPart' ha
    refine wpAny_stack_any fun st => wpAny_pure ?_
    split
    · rename_i c _ _ _ _ _
      cases (c == Value.type "enumerate")
      · wp_walk using AutoSeq1.wpAny_loadPart' ha, wpAny_pyIter_tuple hT
        exact ⟨_, rfl, h⟩
      · wp_walk using AutoSeq1.wpAny_loadPart' ha, wpAny_pyIter_tuple hT
        exact ⟨_, rfl, h⟩
    · wp_walk using AutoSeq1.wpAny_loadPart' ha, wpAny_pyIter_tuple hT
      exact ⟨_, rfl, h⟩
section
variable {prog : Program} {w : World} {A : Around} {E : Value → Shared → Prop} {s : Shared}
theorem call_enumT {a : Addr} {ys : Array Value} {Q : Value → Shared → Prop} (hT : s.heap.IsTuple a ys)
    (h : ∀ g, IsEnum g (s.heap.objs.size + 1) s.heap.objs.size 0 .none → g.IsTupleIter s.heap.objs.size a 0 → (∀ b o, s.heap.get? b = some o → g.get? b = some o) → Q (.ref (s.heap.objs.size + 1)) { s with heap := g }) :
    wpAny (model prog w) A (call (.type "enumerate") [.ref a]) Q E s := by
  obtain ⟨⟨c, dct, dt, sl⟩, ha, hc, n, hd⟩ := hT
  replace hc : c = .type "tuple" := hc
  replace hd : dt = .seq ys n := hd
  subst hc hd
  refine callType_new F.called_enumerate (by decide) (F.typeCall_enumerate_1 _) (F.newCall_enumerate_1 _) (fun obj => F.args_object_init_2 obj _) F.entry_enumerate_new (new_enumT a ys n dct sl) ⟨ha, ?_⟩
  have hz : (s.heap.push { cls := .type "tuple_iterator", data := .fields #[.ref a, .int 0 0] }).objs.size = s.heap.objs.size + 1 := Heap.size_push ..
  refine (?_ : _ ∧ _)
  rw [hz]
  have he : IsEnum ((s.heap.push { cls := .type "tuple_iterator", data := .fields #[.ref a, .int 0 0] }).push { cls := .type "enumerate", data := .fields #[.none, .bool false, .ref s.heap.objs.size, rawInt 0, .none, .none] }) (s.heap.objs.size + 1) s.heap.objs.size 0 .none := by
    have h := Heap.get?_push_size (s.heap.push { cls := .type "tuple_iterator", data := .fields #[.ref a, .int 0 0] }) (o := { cls := .type "enumerate", data := .fields #[.none, .bool false, .ref s.heap.objs.size, rawInt 0, .none, .none] }) rfl
    rw [hz] at h; exact h
  exact ⟨⟨_, he, rfl⟩, h _ he ⟨_, Heap.get?_push_of_some _ (Heap.get?_push_size _ rfl), rfl, rfl⟩ fun b o x => Heap.get?_push_of_some _ (Heap.get?_push_of_some _ x)⟩
end

/-! ### a turn of enumerate -/
section
variable {X : Cx} {pins : List (Addr × Obj)} {σ : L2.St} {H : Hp} {s : Shared} {h' : Heap}
/-- two untracked records of ours have turned -/
theorem turned2 {t' : Nat} {e it : Addr} (I : Inv X pins σ H s) (k : ∀ b o, b ≠ e → b ≠ it → s.heap.get? b = some o → h'.get? b = some o) (fe : FpOk X pins H e) (fi : FpOk X pins H it) : Inv X pins σ H { s with heap := h', toks := t' } := by
  obtain ⟨e0, e1, e2, e3, e4, e5⟩ := fe
  obtain ⟨i0, i1, i2, i3, i4, i5⟩ := fi
  have nn : ∀ b u, H b = some u → b ≠ e ∧ b ≠ it := fun b u q => ⟨fun z => (by rw [z, e0] at q; cases q), fun z => (by rw [z, i0] at q; cases q)⟩
  have sp : ∀ b, b ∉ [e, it] → b ≠ e ∧ b ≠ it := fun b hb => by simpa using hb
  refine I.step (g' := s.gens) (d' := s.drawn) (ch := [e, it]) (fun b hb => ?_) (fun b o _ _ hc q _ => k b o (sp b hc).1 (sp b hc).2 q) (fun b o _ _ hc q _ => ⟨o.slots, k b o (sp b hc).1 (sp b hc).2 q⟩) (fun _ _ _ _ n => n)
    (fun b o hc q => ⟨o, k b o (sp b hc).1 (sp b hc).2 q⟩) (fun _ _ q => q) (fun _ _ _ q => q) (fun b ps q => ⟨#[], by rw [q]; simp⟩) (fun m hm => ?_) (fun b u q => ?_) I.bare
  · rcases List.mem_cons.mp hb with z | z
    · subst z; exact ⟨e3, e1, e4, e5⟩
    · rw [List.mem_singleton.mp z]; exact ⟨i3, i1, i4, i5⟩
  · obtain ⟨o, es, ep, ho, r⟩ := hm
    exact ⟨o, es, ep, k _ o (Ne.symm e1) (Ne.symm i1) ho, r⟩
  · refine (I.hok b u q).stay (fun c v hc r => k c v ?_ ?_ r) (fun _ r => r) fun _ _ r => r
    · rcases hc with z | z
      · rw [z]; exact (nn b u q).1
      · exact (nn c _ z).1
    · rcases hc with z | z
      · rw [z]; exact (nn b u q).2
      · exact (nn c _ z).2
end
/-- enumerate over a walk: the pairs are new tuples -/
theorem turn_enum {P : Program} {w : World} {K : PySem.W.Frag} {elts : List Expr} {x1} {pos : Pos} (J : It) (e I : Addr) (hne : e ≠ I) (M : Nat → Heap → Prop)
    (hobj : ∀ i h, M i h → ∃ o, h.get? I = some o ∧ ∀ v, o.data ≠ .cell v) (hkeep : ∀ i h h', M i h → (∀ o, h.get? I = some o → h'.get? I = some o) → M i h')
    (hitem : ∀ (X : Cx), X.prog = P → X.w = w → X.K = K → ∀ (i : Nat) pins (s : Shared) σ H, Inv X pins σ H s → M i s.heap → J.go i H → ∃ Y : Value → Prop,
      (∀ u, Y u → ∃ x, RelV x u ∧ J.yld i H (.ref s.heap.objs.size) (upd H s.heap.objs.size (.tup [.int i, x]))) ∧
      ∀ (A' : Around) (R : Value → Shared → Prop) (E' : Value → Shared → Prop), (∀ u g tk, Y u → M (i + 1) g → Heap.SameBut I s.heap g → R u { s with heap := g, toks := tk }) → wpAny (model P w) A' (Builtin.SmallTypes.nextOf (.ref I)) R E' s)
    (hdone : ∀ (X : Cx), X.prog = P → X.w = w → X.K = K → ∀ (i : Nat) pins (s : Shared) σ H, Inv X pins σ H s → M i s.heap → J.stop i H →
      ∀ (A' : Around) (R : Value → Shared → Prop) (E' : Value → Shared → Prop), A'.handled = none → (∀ g u, Heap.ExtBut I s.heap g → (∃ o, g.get? u = some o ∧ o.cls = .type "StopIteration") → E' (.ref u) { s with heap := g }) → wpAny (model P w) A' (Builtin.SmallTypes.nextOf (.ref I)) R E' s) :
    Turn P w K (.Tuple elts x1 pos) J [e, I] e (fun i h => (∃ old, IsEnum h e I i old) ∧ M i h) where
  mem := by simp
  obj := fun i h st b hb => by
    obtain ⟨⟨old, he⟩, m⟩ := st
    rcases List.mem_cons.mp hb with z | z
    · subst z
      exact ⟨_, he, fun v z => by cases z⟩
    · rw [List.mem_singleton.mp z]
      exact hobj i h m
  keep := fun i h h' st k => by
    obtain ⟨⟨old, he⟩, m⟩ := st
    exact ⟨⟨old, k e (by simp) _ he⟩, hkeep i h h' m fun o q => k I (by simp) o q⟩
  item := by
    intro X hP hw hK hc i pins s σ H E Iv hf st hg
    obtain ⟨⟨old, he⟩, m⟩ := st
    obtain ⟨Y, hY, hnx⟩ := hitem X hP hw hK i pins s σ H Iv m hg
    subst hP hw hK
    have fe := hf e (by simp)
    have fi := hf I (by simp)
    have hel : e < s.heap.objs.size := Heap.lt_size he
    obtain ⟨oi, hoi, _⟩ := hobj i _ m
    have hil : I < s.heap.objs.size := Heap.lt_size hoi
    refine enum_item he hne (N := M (i + 1)) (fun g g' n k => hkeep _ _ _ n k) hnx (fun u g tk tk2 yu eo n t4 k => ⟨_, rfl, ?_⟩)
    refine wpAny_letOwnedTupleGo_enum (s := { s with heap := g, toks := tk }) eo fun g' e' sb => ?_
    obtain ⟨v, rv, yl⟩ := hY u yu
    have I1 : Inv X pins σ (upd H s.heap.objs.size (.tup [.int i, v])) { s with heap := s.heap.push { cls := .type "tuple", data := .seq #[.int i tk2, u] }, toks := tk } :=
      Iv.laid (t' := tk) (fun b o q => Heap.get?_push_of_some _ q) (Nat.le_refl _) ⟨by show 2 ≤ sizeLine; decide, [.int i tk2, u], .cons ⟨tk2, rfl⟩ (.cons rv .nil), ⟨_, Heap.get?_push_size _ rfl, rfl, _, rfl⟩⟩
    have up : ∀ b, b < s.heap.objs.size → FpOk X pins H b → FpOk X pins (upd H s.heap.objs.size (.tup [.int i, v])) b := fun b hb q => ⟨by rw [upd_ne (Nat.ne_of_lt hb)]; exact q.1, q.2⟩
    have I2 : Inv X pins σ (upd H s.heap.objs.size (.tup [.int i, v])) { s with heap := g, toks := tk } := turned2 (s := { s with heap := s.heap.push { cls := .type "tuple", data := .seq #[.int i tk2, u] }, toks := tk }) (t' := tk) I1 (fun b o h1 h2 q => by
      rcases Heap.get?_push_cases q with ⟨z1, z2⟩ | z
      · rw [z1, z2]; exact t4
      · exact k b o h1 h2 z) (up e hel fe) (up I hil fi)
    have fe2 := up e hel fe
    have I3 : Inv X pins σ (upd H s.heap.objs.size (.tup [.int i, v])) { s with heap := g', toks := tk } := Inv.turned (s := { s with heap := g, toks := tk }) (t' := tk) I2 (fun b o hb q => (sb.2 b hb).trans q) fe2.1 fe2.2.1 fe2.2.2.2.1 fe2.2.2.2.2.1 fe2.2.2.2.2.2
    refine ⟨.ref s.heap.objs.size, _, I3, rfl, yl, ⟨⟨u, e'⟩, hkeep _ _ _ n fun o q => (sb.2 I (Ne.symm hne)).trans q⟩, fun b hb => ?_⟩
    rcases List.mem_cons.mp hb with z | z
    · subst z; exact fe2.1
    · rw [List.mem_singleton.mp z]; exact (up I hil fi).1
  done := by
    intro X hP hw hK hc i pins s σ H E Iv hf st hg
    obtain ⟨⟨old, he⟩, m⟩ := st
    have hd := hdone X hP hw hK i pins s σ H Iv m hg
    subst hP hw hK
    have fi := hf I (by simp)
    exact enum_end he (fun R E' q => hd _ R E' (Iv.ok.hd hc) q) fun g kp => ⟨rfl, Iv.turned (t' := s.toks) (fun b o hb q => kp b o hb q) fi.1 fi.2.1 fi.2.2.2.1 fi.2.2.2.2.1 fi.2.2.2.2.2⟩
  self := fun _ _ _ _ _ st h => by
    obtain ⟨⟨old, he⟩, _⟩ := st
    exact wpAny_pyIter_enum he h
end L3

set_option maxHeartbeats 4000000
namespace L3
open PySem PySem.Spec PyProof.Rows L2

/-! ### for .. in enumerate(tuple), enumerate(text) -/
def Jet (K : PySem.W.Frag) (a : Addr) : It :=
  ⟨fun i H => ∃ xs x, SqT K H a xs ∧ xs[i]? = some x, fun i H v H' => ∃ p x, H p = none ∧ v = .ref p ∧ H' = upd H p (.tup [.int i, x]) ∧ ∀ xs, SqT K H a xs → xs[i]? = some x, fun i H => ∃ xs, SqT K H a xs ∧ xs.length ≤ i⟩
def Jes (z : Str) : It :=
  ⟨fun i _ => i < z.cps.toList.length, fun i H v H' => ∃ p c, H p = none ∧ v = .ref p ∧ H' = upd H p (.tup [.int i, .str ⟨#[c]⟩]) ∧ z.cps.toList[i]? = some c, fun i _ => z.cps.toList.length ≤ i⟩
theorem turn_enumT {P : Program} {w : World} {K : PySem.W.Frag} {elts : List Expr} {x1} {pos : Pos} (a e I : Addr) (hne : e ≠ I) :
    Turn P w K (.Tuple elts x1 pos) (Jet K a) [e, I] e (fun i h => (∃ old, IsEnum h e I i old) ∧ h.IsTupleIter I a i) := by
  refine turn_enum (Jet K a) e I hne (fun i h => h.IsTupleIter I a i) (fun i h st => ?_) (fun i h h' st k => st.at k) (fun X hP hw hK i pins s σ H Iv st hg => ?_) (fun X hP hw hK i pins s σ H Iv st hg A' R E' hh q => ?_)
  · obtain ⟨o, ho, c, d⟩ := st
    exact ⟨o, ho, fun v z => by rw [d] at z; cases z⟩
  · subst hP hw hK
    obtain ⟨xs, x, hq, hx⟩ := hg
    obtain ⟨its, rv, p, hz⟩ := Iv.tuple hq
    obtain ⟨u, hu, ru⟩ := rv.get hx
    refine ⟨fun u' => u' = u, fun u' hu' => ?_, fun A' R E' q => ?_⟩
    · subst hu'
      exact ⟨x, ru, s.heap.objs.size, x, Iv.hok.fresh (Nat.le_refl _), rfl, rfl, fun ys hy => by rw [Iv.tuple_inj hy hq]; exact hx⟩
    · exact nx_tup st (show s.heap.IsTuple a its.toArray from p) (v := u) (by simpa using hu) fun g st' sb => q u g s.toks rfl st' sb
  · subst hP hw hK
    obtain ⟨xs, hq, hx⟩ := hg
    obtain ⟨its, rv, p, hz⟩ := Iv.tuple hq
    have hl := rv.length
    exact nx_tup_end hh st (show s.heap.IsTuple a its.toArray from p) (by simp; omega) q
theorem turn_enumS {P : Program} {w : World} {K : PySem.W.Frag} {elts : List Expr} {x1} {pos : Pos} (z : Str) (t : Tok) (e I : Addr) (hne : e ≠ I) :
    Turn P w K (.Tuple elts x1 pos) (Jes z) [e, I] e (fun i h => (∃ old, IsEnum h e I i old) ∧ h.IsStrIter I "str_ascii_iterator" z t i) := by
  refine turn_enum (Jes z) e I hne (fun i h => h.IsStrIter I "str_ascii_iterator" z t i) (fun i h st => ?_) (fun i h h' st k => ?_) (fun X hP hw hK i pins s σ H Iv st hg => ?_) (fun X hP hw hK i pins s σ H Iv st hg A' R E' hh q => ?_)
  · obtain ⟨o, ho, c, d⟩ := st
    exact ⟨o, ho, fun v z => by rw [d] at z; cases z⟩
  · obtain ⟨o, ho, r⟩ := st
    exact ⟨o, k o ho, r⟩
  · subst hP hw hK
    have hi : i < z.cps.size := by simpa [Jes] using hg
    refine ⟨fun u => ∃ tk, u = .str ⟨#[z.cps[i]]⟩ tk, fun u hu => ?_, fun A' R E' q => ?_⟩
    · obtain ⟨tk, rfl⟩ := hu
      exact ⟨.str ⟨#[z.cps[i]]⟩, ⟨tk, rfl⟩, s.heap.objs.size, z.cps[i], Iv.hok.fresh (Nat.le_refl _), rfl, rfl, by simp [hi]⟩
    · exact nx_asc st (c := z.cps[i]) (by simp [hi]) fun g st' sb => q _ g _ ⟨_, rfl⟩ st' sb
  · subst hP hw hK
    have hi : z.cps.size ≤ i := by simpa [Jes] using hg
    exact nx_asc_end hh st (by simp; omega) q
section
variable {X : Cx} {elts : List Expr} {x1 : Nat} {tpos p pos : Pos} {a : Expr} {ta : TA}
def iEnT (K : PySem.W.Frag) (ta : TA) : TI := fun σ H R => ta σ H fun vs H1 => ∃ a, vs = [.ref a] ∧ (∃ xs, SqT K H1 a xs) ∧ R (Jet K a) H1
def iEnS (ta : TA) : TI := fun σ H R => ta σ H fun vs H1 => ∃ z : Str, vs = [.str z] ∧ (∀ c ∈ z.cps.toList, c < 128) ∧ R (Jes z) H1
theorem pi_enT (hg : Gl X "enumerate") (hm : X.mg "enumerate" = none) (ha : PA X [a] ta) (hs : notStar a = true := by rfl) : PI X (.Tuple elts x1 tpos) (.Call (.Name "enumerate" p) [a] [] pos) (iEnT X.K ta) := by
  intro pins s σ H R I h
  refine Call_ (ld_blt I hg hm boot_enumerate (PyProof.Rows.callWith_type1 (thn (ha pos pins s σ H _ I h) fun us s1 ⟨vs, H1, I1, r1, q1⟩ => ?_) (star_cons hs) rfl))
  obtain ⟨b, e, ⟨xs, hq⟩, q⟩ := q1
  subst e
  obtain ⟨u, rfl, ru⟩ := vals1 r1
  cases (show u = Value.ref b from ru)
  obtain ⟨its, rv, pl, hz⟩ := I1.tuple hq
  refine call_enumT (show s1.heap.IsTuple b its.toArray from pl) fun g he hi kp => wpAny_pyIter_enum (s := { s1 with heap := g }) he ?_
  refine ⟨s1.heap.objs.size + 1, [s1.heap.objs.size + 1, s1.heap.objs.size], _, _, H1, rfl, I1.kept (t' := s1.toks) kp, turn_enumT b (s1.heap.objs.size + 1) s1.heap.objs.size (Nat.succ_ne_self _), ⟨⟨_, he⟩, hi⟩, fun c hc => ?_, q⟩
  rcases List.mem_cons.mp hc with z | z
  · subst z; exact I1.fpOk (by omega) (I1.hok.fresh (by omega))
  · rw [List.mem_singleton.mp z]; exact I1.fpOk (Nat.le_refl _) (I1.hok.fresh (Nat.le_refl _))
theorem pi_enS (hg : Gl X "enumerate") (hm : X.mg "enumerate" = none) (ha : PA X [a] ta) (hs : notStar a = true := by rfl) : PI X (.Tuple elts x1 tpos) (.Call (.Name "enumerate" p) [a] [] pos) (iEnS ta) := by
  intro pins s σ H R I h
  refine Call_ (ld_blt I hg hm boot_enumerate (PyProof.Rows.callWith_type1 (thn (ha pos pins s σ H _ I h) fun us s1 ⟨vs, H1, I1, r1, q1⟩ => ?_) (star_cons hs) rfl))
  obtain ⟨z, e, hz, q⟩ := q1
  subst e
  obtain ⟨u, rfl, t, rfl⟩ := vals1 r1
  have asc : strIterType z = "str_ascii_iterator" := by
    unfold strIterType
    rw [if_pos]
    rw [Array.all_eq_true']
    intro c hc
    simpa using hz c (by simpa using hc)
  refine call_enumerate_str fun g he hi _ kp => wpAny_pyIter_enum (s := { s1 with heap := g }) he ?_
  rw [asc] at hi
  refine ⟨s1.heap.objs.size + 1, [s1.heap.objs.size + 1, s1.heap.objs.size], _, _, H1, rfl, I1.kept (t' := s1.toks) kp, turn_enumS z t (s1.heap.objs.size + 1) s1.heap.objs.size (Nat.succ_ne_self _), ⟨⟨_, he⟩, hi⟩, fun c hc => ?_, q⟩
  rcases List.mem_cons.mp hc with z | z
  · subst z; exact I1.fpOk (by omega) (I1.hok.fresh (by omega))
  · rw [List.mem_singleton.mp z]; exact I1.fpOk (Nat.le_refl _) (I1.hok.fresh (Nat.le_refl _))
end
/-- a walk of n turns over anything -/
theorem for_any (J : It) (n : Nat) {g : TG} {tb : TS} {D : Ends} {σ : L2.St} {H : Hp} (Pv : Nat → L2.St → Hp → Prop) (h0 : Pv 0 σ H) (hgo : ∀ i σ H, i < n → Pv i σ H → J.go i H) (hst : ∀ σ H, Pv n σ H → J.stop n H)
    (hs : ∀ i v σ H H', i < n → Pv i σ H → J.yld i H v H' → g v σ H' fun σ2 H2 => tb { D with nx := Pv (i + 1), ct := Pv (i + 1), bk := D.nx } σ2 H2) (hd : ∀ σ H, Pv n σ H → D.nx σ H) :
    ∃ W : Nat → Nat → L2.St → Hp → Prop, (∃ m, W 0 m σ H) ∧ ∀ i m σ H, W i m σ H →
      (J.stop i H ∧ D.nx σ H) ∨ (J.go i H ∧ ∃ N : L2.St → Hp → Prop, (∀ σ' H', N σ' H' → ∃ m', m' < m ∧ W (i + 1) m' σ' H') ∧ ∀ v H', J.yld i H v H' → g v σ H' fun σ2 H2 => tb { D with nx := N, ct := N, bk := D.nx } σ2 H2) := by
  refine ⟨fun i m σ H => m = n - i ∧ i ≤ n ∧ Pv i σ H, ⟨n, by simp, Nat.zero_le _, h0⟩, ?_⟩
  rintro i m σ H ⟨rfl, hi, p⟩
  by_cases hlt : i < n
  · exact .inr ⟨hgo i σ H hlt p, Pv (i + 1), fun σ' H' p' => ⟨n - (i + 1), by omega, rfl, hlt, p'⟩, fun v H' y => hs i v σ H H' hlt p y⟩
  · have e : i = n := by omega
    subst e
    exact .inl ⟨hst σ H p, hd σ H p⟩
theorem for_enT {K : PySem.W.Frag} {a : Addr} {xs : List V} {g : TG} {tb : TS} {D : Ends} {σ : L2.St} {H : Hp} (Pv : Nat → L2.St → Hp → Prop) (h0 : Pv 0 σ H) (hl : ∀ i σ H, Pv i σ H → SqT K H a xs)
    (hs : ∀ i x p σ H, xs[i]? = some x → H p = none → Pv i σ H → g (.ref p) σ (upd H p (.tup [.int (i : Nat), x])) fun σ2 H2 => tb { D with nx := Pv (i + 1), ct := Pv (i + 1), bk := D.nx } σ2 H2) (hd : ∀ σ H, Pv xs.length σ H → D.nx σ H) :
    ∃ W : Nat → Nat → L2.St → Hp → Prop, (∃ m, W 0 m σ H) ∧ ∀ i m σ H, W i m σ H →
      ((Jet K a).stop i H ∧ D.nx σ H) ∨ ((Jet K a).go i H ∧ ∃ N : L2.St → Hp → Prop, (∀ σ' H', N σ' H' → ∃ m', m' < m ∧ W (i + 1) m' σ' H') ∧ ∀ v H', (Jet K a).yld i H v H' → g v σ H' fun σ2 H2 => tb { D with nx := N, ct := N, bk := D.nx } σ2 H2) := by
  refine for_any (Jet K a) xs.length Pv h0 (fun i σ H hi p => ⟨xs, xs[i], hl i σ H p, by simp [hi]⟩) (fun σ H p => ⟨xs, hl _ σ H p, Nat.le_refl _⟩) (fun i v σ H H' hi p y => ?_) hd
  obtain ⟨b, x, hb, rfl, rfl, hx⟩ := y
  exact hs i x b σ H (hx xs (hl i σ H p)) hb p
theorem for_enS {z : Str} {g : TG} {tb : TS} {D : Ends} {σ : L2.St} {H : Hp} (Pv : Nat → L2.St → Hp → Prop) (h0 : Pv 0 σ H)
    (hs : ∀ i c p σ H, z.cps.toList[i]? = some c → H p = none → Pv i σ H → g (.ref p) σ (upd H p (.tup [.int (i : Nat), .str ⟨#[c]⟩])) fun σ2 H2 => tb { D with nx := Pv (i + 1), ct := Pv (i + 1), bk := D.nx } σ2 H2) (hd : ∀ σ H, Pv z.cps.toList.length σ H → D.nx σ H) :
    ∃ W : Nat → Nat → L2.St → Hp → Prop, (∃ m, W 0 m σ H) ∧ ∀ i m σ H, W i m σ H →
      ((Jes z).stop i H ∧ D.nx σ H) ∨ ((Jes z).go i H ∧ ∃ N : L2.St → Hp → Prop, (∀ σ' H', N σ' H' → ∃ m', m' < m ∧ W (i + 1) m' σ' H') ∧ ∀ v H', (Jes z).yld i H v H' → g v σ H' fun σ2 H2 => tb { D with nx := N, ct := N, bk := D.nx } σ2 H2) := by
  refine for_any (Jes z) z.cps.toList.length Pv h0 (fun i σ H hi p => hi) (fun σ H p => Nat.le_refl _) (fun i v σ H H' hi p y => ?_) hd
  obtain ⟨b, c, hb, rfl, rfl, hc⟩ := y
  exact hs i c b σ H hc hb p
end L3

set_option maxHeartbeats 4000000
namespace L3
open PySem PySem.Spec PyProof.Rows L2
def big (c : Nat) : Bool := decide (65 ≤ c) && decide (c ≤ 90)
def small (c : Nat) : Bool := decide (97 ≤ c) && decide (c ≤ 122)
theorem isalpha1 : ∀ c, c < 128 → Txt.isalpha ⟨#[c]⟩ = (big c || small c) := by decide +kernel
theorem isupper1 : ∀ c, c < 128 → Txt.isupper ⟨#[c]⟩ = big c := by decide +kernel
theorem upper1 {c : Nat} (h : c < 128) : Txt.upper ⟨#[c]⟩ = ⟨#[up1 c]⟩ := by
  rw [upper_ascii (fun d hd => by have e : d = c := by simpa using hd
                                  omega)]
  simp
section
variable {X : Cx}
theorem mt_isalpha : MtR X "str.isalpha" (fun x vs H Q => ∃ c : Nat, x = .str ⟨#[c]⟩ ∧ vs = [] ∧ c < 128 ∧ Q (.bl (big c || small c)) H) := by
  intro pins s σ H x vs v us Q I rx rv h
  obtain ⟨c, rfl, rfl, hc, q⟩ := h
  obtain ⟨t, rfl⟩ := rx
  have hus := rv.zero
  subst hus
  refine SC.isalpha ⟨.bl _, H, I, rfl, ?_⟩
  rw [isalpha1 c hc]
  exact q
theorem mt_isupper : MtR X "str.isupper" (fun x vs H Q => ∃ c : Nat, x = .str ⟨#[c]⟩ ∧ vs = [] ∧ c < 128 ∧ Q (.bl (big c)) H) := by
  intro pins s σ H x vs v us Q I rx rv h
  obtain ⟨c, rfl, rfl, hc, q⟩ := h
  obtain ⟨t, rfl⟩ := rx
  have hus := rv.zero
  subst hus
  refine SC.isupper ⟨.bl _, H, I, rfl, ?_⟩
  rw [isupper1 c hc]
  exact q
theorem mt_upper : MtR X "str.upper" (fun x vs H Q => ∃ c : Nat, x = .str ⟨#[c]⟩ ∧ vs = [] ∧ c < 128 ∧ Q (.str ⟨#[up1 c]⟩) H) := by
  intro pins s σ H x vs v us Q I rx rv h
  obtain ⟨c, rfl, rfl, hc, q⟩ := h
  obtain ⟨t, rfl⟩ := rx
  have hus := rv.zero
  subst hus
  refine SC.upper (fit_upper (by show 1 ≤ 5592405; omega)) ⟨.str _, H, I.tok _, ⟨_, rfl⟩, ?_⟩
  rw [upper1 hc]
  exact q
theorem op_isnot_bl : OpR X (compareOp .IsNot) (fun x y H Q => ∃ a b : Bool, x = .bl a ∧ y = .bl b ∧ Q (.bl (!(a == b))) H) := by
  intro pins s σ H x y v u Q I rx ry h
  obtain ⟨a, b, rfl, rfl, q⟩ := h
  cases rx
  cases ry
  refine wpAny_isNot_plain rfl ⟨.bl _, H, I, rfl, ?_⟩
  have e : (Value.bool a == Value.bool b) = (a == b) := by cases a <;> cases b <;> rfl
  rw [e]
  exact q
end
end L3

set_option maxHeartbeats 4000000
namespace L3
open PySem PySem.W PySem.Calls PyProof.Rows

/-! ### the sort sorts -/
structure Ord (lt : Nat → Nat → Bool) : Prop where
  asy : ∀ a b, lt a b = true → lt b a = false
  tr : ∀ a b c, lt b a = false → lt c b = false → lt c a = false
theorem runT_bind {α β : Type} (lt : Nat → Nat → Bool) (f : α → KasT β) : ∀ t : KasT α, runT lt (t.bind f) = runT lt (f (runT lt t))
  | .ret a => rfl
  | .ask i j k => runT_bind lt f (k (lt i j))
section
variable {lt : Nat → Nat → Bool}
/-- places lo .. hi - 1 rise -/
def Up (lt : Nat → Nat → Bool) (p : Array Nat) (hi : Nat) : Prop := ∀ i j, i ≤ j → j < hi → lt (p.getD j 0) (p.getD i 0) = false
def Dn (lt : Nat → Nat → Bool) (p : Array Nat) (hi : Nat) : Prop := ∀ i j, i ≤ j → j < hi → lt (p.getD i 0) (p.getD j 0) = false
theorem Ord.irr (o : Ord lt) (a : Nat) : lt a a = false := by
  cases h : lt a a with
  | false => rfl
  | true => rw [← h]; exact o.asy a a h
theorem Up.one (o : Ord lt) (p : Array Nat) : Up lt p 1 := fun i j h1 h2 => by
  have e1 : i = 0 := by omega
  have e2 : j = 0 := by omega
  rw [e1, e2]; exact o.irr _
theorem Dn.one (o : Ord lt) (p : Array Nat) : Dn lt p 1 := fun i j h1 h2 => by
  have e1 : i = 0 := by omega
  have e2 : j = 0 := by omega
  rw [e1, e2]; exact o.irr _
theorem Up.more (o : Ord lt) {p : Array Nat} {n : Nat} (h : Up lt p n) (hn : 0 < n) (h1 : lt (p.getD n 0) (p.getD (n - 1) 0) = false) : Up lt p (n + 1) := fun i j h2 h3 => by
  by_cases e : j = n
  · subst e
    by_cases e2 : i = j
    · rw [e2]; exact o.irr _
    · exact o.tr _ _ _ (h i (j - 1) (by omega) (by omega)) h1
  · exact h i j h2 (by omega)
theorem Dn.more (o : Ord lt) {p : Array Nat} {n : Nat} (h : Dn lt p n) (hn : 0 < n) (h1 : lt (p.getD (n - 1) 0) (p.getD n 0) = false) : Dn lt p (n + 1) := fun i j h2 h3 => by
  by_cases e : j = n
  · subst e
    by_cases e2 : i = j
    · rw [e2]; exact o.irr _
    · exact o.tr _ _ _ h1 (h i (j - 1) (by omega) (by omega))
  · exact h i j h2 (by omega)
theorem run_asc (o : Ord lt) {p : Array Nat} : ∀ (f n : Nat), 0 < n → Up lt p n → n ≤ runT lt (kas_asc p f n) ∧ runT lt (kas_asc p f n) ≤ n + f ∧ Up lt p (runT lt (kas_asc p f n)) ∧ (runT lt (kas_asc p f n) < n + f → lt (p.getD (runT lt (kas_asc p f n)) 0) (p.getD (runT lt (kas_asc p f n) - 1) 0) = true)
  | 0, n, hn, h => ⟨Nat.le_refl _, Nat.le_refl _, h, fun z => absurd z (Nat.lt_irrefl _)⟩
  | f + 1, n, hn, h => by
    show n ≤ runT lt (if lt (p.getD n 0) (p.getD (n - 1) 0) = true then _ else _) ∧ runT lt (if lt (p.getD n 0) (p.getD (n - 1) 0) = true then _ else _) ≤ n + (f + 1) ∧ Up lt p (runT lt (if lt (p.getD n 0) (p.getD (n - 1) 0) = true then _ else _)) ∧ _
    cases c : lt (p.getD n 0) (p.getD (n - 1) 0) with
    | true =>
      rw [show kas_asc p (f + 1) n = .ask (p.getD n 0) (p.getD (n - 1) 0) fun c => if c = true then .ret n else kas_asc p f (n + 1) from rfl]
      simp only [runT, c, if_true]
      exact ⟨Nat.le_refl _, by omega, h, fun _ => trivial⟩
    | false =>
      rw [show kas_asc p (f + 1) n = .ask (p.getD n 0) (p.getD (n - 1) 0) fun c => if c = true then .ret n else kas_asc p f (n + 1) from rfl]
      simp only [runT, c, Bool.false_eq_true, if_false]
      have ih := run_asc o (p := p) f (n + 1) (by omega) (h.more o hn c)
      exact ⟨by omega, by omega, ih.2.2.1, fun z => ih.2.2.2 (by omega)⟩
theorem getD_eq {p q : Array Nat} {i j : Nat} (h : p[i]? = q[j]?) : p.getD i 0 = q.getD j 0 := by
  rw [Array.getD_eq_getD_getElem?, Array.getD_eq_getD_getElem?, h]
theorem rev_at {p : Array Nat} {i j : Nat} (hj : j ≤ p.size) (k : Nat) : (kas_rev p i j).getD k 0 = if i ≤ k ∧ k < j then p.getD (i + j - 1 - k) 0 else p.getD k 0 := by
  have e := getElem?_mirror_all (xs := p) (i := i) hj k
  split
  · rename_i h
    rw [if_pos h] at e
    exact getD_eq e
  · rename_i h
    rw [if_neg h] at e
    exact getD_eq e
theorem rev_size (p : Array Nat) (i j : Nat) : (kas_rev p i j).size = p.size := mirror_size _ _ _ _
/-- a falling run turned about rises -/
theorem Dn.rev {p : Array Nat} {n : Nat} (hn : n ≤ p.size) (h : Dn lt p n) : Up lt (kas_rev p 0 n) n := fun i j h1 h2 => by
  rw [rev_at hn, rev_at hn, if_pos ⟨Nat.zero_le _, h2⟩, if_pos ⟨Nat.zero_le _, by omega⟩]
  exact h _ _ (by omega) (by omega)
theorem Up.rev {p : Array Nat} {n : Nat} (hn : n ≤ p.size) (h : Up lt p n) : Dn lt (kas_rev p 0 n) n := fun i j h1 h2 => by
  rw [rev_at hn, rev_at hn, if_pos (show 0 ≤ i ∧ i < n by omega), if_pos (show 0 ≤ j ∧ j < n by omega)]
  exact h _ _ (by omega) (by omega)
/-- places lo .. hi - 1 alike -/
def Eqs (lt : Nat → Nat → Bool) (p : Array Nat) (lo hi : Nat) : Prop := ∀ i j, lo ≤ i → i < hi → lo ≤ j → j < hi → lt (p.getD i 0) (p.getD j 0) = false
theorem Dn.revEq (o : Ord lt) {p : Array Nat} {lo n : Nat} (hn : n ≤ p.size) (hl : lo < n) (h : Dn lt p n) (e : Eqs lt p lo n) : Dn lt (kas_rev p lo n) n := fun i j h1 h2 => by
  rw [rev_at hn, rev_at hn]
  split <;> split
  · exact e _ _ (by omega) (by omega) (by omega) (by omega)
  · omega
  · exact h _ _ (by omega) (by omega)
  · exact h _ _ h1 h2
theorem run_desc (o : Ord lt) {N : Nat} : ∀ (f : Nat) (p : Array Nat) (n q : Nat), p.size = N → n + f ≤ N → q < n → Dn lt p n → Eqs lt p (n - (q + 1)) n →
    (runT lt (kas_desc f p n q)).1.size = N ∧ n ≤ (runT lt (kas_desc f p n q)).2.1 ∧ (runT lt (kas_desc f p n q)).2.1 ≤ n + f ∧ (runT lt (kas_desc f p n q)).2.2 < (runT lt (kas_desc f p n q)).2.1 ∧
      Dn lt (runT lt (kas_desc f p n q)).1 (runT lt (kas_desc f p n q)).2.1 ∧ Eqs lt (runT lt (kas_desc f p n q)).1 ((runT lt (kas_desc f p n q)).2.1 - ((runT lt (kas_desc f p n q)).2.2 + 1)) (runT lt (kas_desc f p n q)).2.1
  | 0, p, n, q, hp, hf, hq, h, e => ⟨hp, Nat.le_refl _, Nat.le_refl _, hq, h, e⟩
  | f + 1, p, n, q, hp, hf, hq, h, e => by
    have one : ∀ (p' : Array Nat) (m : Nat), Eqs lt p' (m - (0 + 1)) m := fun p' m i j h1 h2 h3 h4 => by
      have : i = j := by omega
      rw [this]; exact o.irr _
    have un : kas_desc (f + 1) p n q = .ask (p.getD n 0) (p.getD (n - 1) 0) fun c => if c = true then (if q > 0 then kas_desc f (kas_rev p (n - (q + 1)) n) (n + 1) 0 else kas_desc f p (n + 1) 0)
        else .ask (p.getD (n - 1) 0) (p.getD n 0) fun d => if d = true then .ret (p, n, q) else kas_desc f p (n + 1) (q + 1) := rfl
    cases c : lt (p.getD n 0) (p.getD (n - 1) 0) with
    | true =>
      have c' := o.asy _ _ c
      by_cases hq0 : q > 0
      · have er : runT lt (kas_desc (f + 1) p n q) = runT lt (kas_desc f (kas_rev p (n - (q + 1)) n) (n + 1) 0) := by
          rw [un]; simp only [runT, c, if_true, if_pos hq0]
        rw [er]
        have h' : Dn lt (kas_rev p (n - (q + 1)) n) (n + 1) := (h.revEq o (by omega) (by omega) e).more o (by omega) (by
          rw [rev_at (by omega), rev_at (by omega), if_pos (by omega), if_neg (by omega)]
          exact o.tr _ _ _ c' (e _ _ (by omega) (by omega) (by omega) (by omega)))
        have ih := run_desc o (N := N) f (kas_rev p (n - (q + 1)) n) (n + 1) 0 (by rw [rev_size]; exact hp) (by omega) (by omega) h' (one _ _)
        exact ⟨ih.1, by omega, by omega, ih.2.2.2.1, ih.2.2.2.2.1, ih.2.2.2.2.2⟩
      · have er : runT lt (kas_desc (f + 1) p n q) = runT lt (kas_desc f p (n + 1) 0) := by
          rw [un]; simp only [runT, c, if_true, if_neg hq0]
        rw [er]
        have ih := run_desc o (N := N) f p (n + 1) 0 hp (by omega) (by omega) (h.more o (by omega) c') (one _ _)
        exact ⟨ih.1, by omega, by omega, ih.2.2.2.1, ih.2.2.2.2.1, ih.2.2.2.2.2⟩
    | false =>
      cases d : lt (p.getD (n - 1) 0) (p.getD n 0) with
      | true =>
        have er : runT lt (kas_desc (f + 1) p n q) = (p, n, q) := by
          rw [un]; simp only [runT, c, d, if_true, Bool.false_eq_true, if_false]
        rw [er]
        exact ⟨hp, Nat.le_refl _, by show n ≤ n + (f + 1); omega, hq, h, e⟩
      | false =>
        have er : runT lt (kas_desc (f + 1) p n q) = runT lt (kas_desc f p (n + 1) (q + 1)) := by
          rw [un]; simp only [runT, c, d, Bool.false_eq_true, if_false]
        rw [er]
        have e' : Eqs lt p (n + 1 - (q + 1 + 1)) (n + 1) := fun i j h1 h2 h3 h4 => by
          by_cases ei : i = n
          · by_cases ej : j = n
            · rw [ei, ej]; exact o.irr _
            · rw [ei]; exact o.tr _ _ _ (e _ _ (by omega) (by omega) (by omega) (by omega)) c
          · by_cases ej : j = n
            · rw [ej]; exact o.tr _ _ _ d (e _ _ (by omega) (by omega) (by omega) (by omega))
            · exact e _ _ (by omega) (by omega) (by omega) (by omega)
        have ih := run_desc o (N := N) f p (n + 1) (q + 1) hp (by omega) (by omega) (h.more o (by omega) d) e'
        exact ⟨ih.1, by omega, by omega, ih.2.2.2.1, ih.2.2.2.2.1, ih.2.2.2.2.2⟩
/-- what a counted run is -/
def Run (lt : Nat → Nat → Bool) (N : Nat) (r : Nat × Array Nat) : Prop := r.2.size = N ∧ 0 < r.1 ∧ r.1 ≤ N ∧ Up lt r.2 r.1
theorem run_tail3 (o : Ord lt) {N n : Nat} {p : Array Nat} (hp : p.size = N) (hn : 0 < n) (hN : n ≤ N) (h : Dn lt p n) : Run lt N (runT lt (kas_tail3 n N p)) := by
  have e : runT lt (kas_tail3 n N p) = (runT lt (kas_asc (kas_rev p 0 n) (N - n) n), kas_rev p 0 n) := by
    unfold kas_tail3
    rw [runT_bind]
    rfl
  rw [e]
  have a := run_asc o (p := kas_rev p 0 n) (N - n) n hn (h.rev (by omega))
  exact ⟨by rw [rev_size]; exact hp, by have := a.1; show 0 < _; omega, by have := a.2.1; show _ ≤ N; omega, a.2.2.1⟩
theorem run_descPart (o : Ord lt) {N n : Nat} {p : Array Nat} (hp : p.size = N) (hN : n + 1 ≤ N) (h : Dn lt p (n + 1)) : Run lt N (runT lt (kas_descPart n N p)) := by
  unfold kas_descPart
  rw [runT_bind]
  have d := run_desc o (N := N) (N - (n + 1)) p (n + 1) 0 hp (by omega) (by omega) h (fun i j h1 h2 h3 h4 => by
    have : i = j := by omega
    rw [this]; exact o.irr _)
  generalize runT lt (kas_desc (N - (n + 1)) p (n + 1) 0) = r at *
  obtain ⟨d1, d2, d3, d4, d5, d6⟩ := d
  split
  · exact run_tail3 o (by rw [rev_size]; exact d1) (by omega) (by omega) (d5.revEq o (by omega) (by omega) d6)
  · exact run_tail3 o d1 (by omega) (by omega) d5
theorem run_count (o : Ord lt) {N : Nat} {p : Array Nat} (hp : p.size = N) (hN : 0 < N) : Run lt N (runT lt (kas_count N p)) := by
  unfold kas_count
  rw [runT_bind]
  have a := run_asc o (p := p) (N - 1) 1 (by omega) (Up.one o p)
  generalize runT lt (kas_asc p (N - 1) 1) = n at *
  obtain ⟨a1, a2, a3, a4⟩ := a
  split
  · exact ⟨hp, a1, by show n ≤ N; omega, a3⟩
  · rename_i hne
    have hne' : n ≠ N := by simpa using hne
    have hlt := a4 (by omega)
    split
    · rename_i h1
      show Run lt N (runT lt (if lt (p.getD 0 0) (p.getD (n - 1) 0) = true then _ else _))
      split
      · exact ⟨hp, a1, by show n ≤ N; omega, a3⟩
      · rename_i hc
        refine run_descPart o (by rw [rev_size]; exact hp) (by omega) ((a3.rev (by omega)).more o (by omega) ?_)
        rw [rev_at (by omega), rev_at (by omega), if_pos (by omega), if_neg (by omega)]
        have e0 : 0 + n - 1 - (n - 1) = 0 := by omega
        rw [e0]
        exact o.tr _ _ _ (o.asy _ _ hlt) (by simpa using hc)
    · have e1 : n = 1 := by omega
      subst e1
      exact run_descPart o hp (by omega) ((Dn.one o p).more o (by omega) (o.asy _ _ hlt))
theorem run_place (o : Ord lt) {p : Array Nat} {k : Nat} (h : Up lt p k) : ∀ (f l r : Nat), l ≤ r → r ≤ k → r - l ≤ f → (∀ i, i < l → lt (p.getD k 0) (p.getD i 0) = false) → (∀ i, r ≤ i → i < k → lt (p.getD k 0) (p.getD i 0) = true) →
    runT lt (kas_place p k f l r) ≤ k ∧ (∀ i, i < runT lt (kas_place p k f l r) → lt (p.getD k 0) (p.getD i 0) = false) ∧ (∀ i, runT lt (kas_place p k f l r) ≤ i → i < k → lt (p.getD k 0) (p.getD i 0) = true)
  | 0, l, r, h1, h2, h3, h4, h5 => ⟨by show l ≤ k; omega, h4, fun i z => h5 i (by have : l ≤ i := z; omega)⟩
  | f + 1, l, r, h1, h2, h3, h4, h5 => by
    unfold kas_place
    split
    · exact ⟨by show l ≤ k; omega, h4, fun i z => h5 i (by have : l ≤ i := z; omega)⟩
    · rename_i hlr
      have hm1 : l ≤ (l + r) / 2 := by omega
      have hm2 : (l + r) / 2 < r := by omega
      generalize (l + r) / 2 = m at *
      cases c : lt (p.getD k 0) (p.getD m 0) with
      | true =>
        simp only [runT, c, if_true]
        refine run_place o h f l m hm1 (by omega) (by omega) h4 (fun i z1 z2 => ?_)
        cases d : lt (p.getD k 0) (p.getD i 0) with
        | true => rfl
        | false =>
          have := o.tr _ _ _ (h m i z1 z2) d
          rw [c] at this; cases this
      | false =>
        simp only [runT, c, Bool.false_eq_true, if_false]
        exact run_place o h f (m + 1) r (by omega) h2 (by omega) (fun i z => o.tr _ _ _ (h i m (by omega) (by omega)) c) h5
theorem bub_at {p : Array Nat} {k l : Nat} (hk : k < p.size) (hl : l ≤ k) (i : Nat) : (bubble p k (k - l)).getD i 0 = if i = l then p.getD k 0 else if l < i ∧ i ≤ k then p.getD (i - 1) 0 else p.getD i 0 := by
  have e := getElem?_bubble hk (k - l) (by omega) i
  have e2 : k - (k - l) = l := by omega
  rw [e2] at e
  by_cases h : i = l
  · rw [if_pos h] at e ⊢
    exact getD_eq e
  · rw [if_neg h] at e ⊢
    by_cases h2 : l < i ∧ i ≤ k
    · rw [if_pos h2] at e ⊢
      exact getD_eq e
    · rw [if_neg h2] at e ⊢
      exact getD_eq e
theorem run_bin (o : Ord lt) {N : Nat} : ∀ (f : Nat) (p : Array Nat) (k : Nat), p.size = N → k + f ≤ N → Up lt p k → (runT lt (kas_bin f p k)).size = N ∧ Up lt (runT lt (kas_bin f p k)) (k + f)
  | 0, p, k, hp, hf, h => ⟨hp, h⟩
  | f + 1, p, k, hp, hf, h => by
    have e : runT lt (kas_bin (f + 1) p k) = runT lt (kas_bin f (bubble p k (k - runT lt (kas_place p k k 0 k))) (k + 1)) := by
      show runT lt ((kas_place p k k 0 k).bind _) = _
      rw [runT_bind]
    rw [e]
    obtain ⟨l1, l2, l3⟩ := run_place o h k 0 k (by omega) (Nat.le_refl _) (by omega) (fun i z => by omega) (fun i z1 z2 => by omega)
    generalize runT lt (kas_place p k k 0 k) = l at *
    have up : Up lt (bubble p k (k - l)) (k + 1) := fun i j h1 h2 => by
      rw [bub_at (by omega) l1, bub_at (by omega) l1]
      by_cases ei : i = l
      · by_cases ej : j = l
        · rw [if_pos ej, if_pos ei]; exact o.irr _
        · rw [if_neg ej, if_pos ei, if_pos (by omega)]
          exact o.asy _ _ (l3 _ (by omega) (by omega))
      · by_cases ej : j = l
        · rw [if_pos ej, if_neg ei, if_neg (by omega)]
          exact l2 _ (by omega)
        · rw [if_neg ej, if_neg ei]
          split <;> split
          · exact h _ _ (by omega) (by omega)
          · exact h _ _ (by omega) (by omega)
          · omega
          · exact h _ _ (by omega) (by omega)
    have ih := run_bin o (N := N) f (bubble p k (k - l)) (k + 1) (by rw [bubble_size]; exact hp) (by omega) up
    have e3 : k + (f + 1) = k + 1 + f := by omega
    rw [e3]
    exact ih
theorem run_sort (o : Ord lt) {N : Nat} (hN : 0 < N) : (runT lt (kas_sort N)).size = N ∧ Up lt (runT lt (kas_sort N)) N := by
  unfold kas_sort
  rw [runT_bind]
  have c := run_count o (N := N) (p := List.toArray (List.range N)) (by simp) hN
  generalize runT lt (kas_count N (List.toArray (List.range N))) = r at *
  obtain ⟨c1, c2, c3, c4⟩ := c
  split
  · have e : max r.1 1 = r.1 := by omega
    rw [e]
    have b := run_bin o (N := N) (N - r.1) r.2 r.1 c1 (by omega) c4
    have e2 : r.1 + (N - r.1) = N := by omega
    rw [e2] at b
    exact b
  · have e : r.1 = N := by omega
    rw [e] at c4
    exact ⟨c1, c4⟩
end
end L3

set_option maxHeartbeats 4000000
namespace L3
open PySem PySem.Spec PyProof.Rows L2

/-! ### rows of ints and texts are ordered -/
def sLt (x y : Str) : Bool := decide (x.cps.toList < y.cps.toList)
theorem sLt_asy {x y : Str} (h : sLt x y = true) : sLt y x = false := by
  have h' : x.cps.toList < y.cps.toList := of_decide_eq_true h
  exact decide_eq_false (List.lt_asymm h')
theorem sLt_tr {a b c : Str} (h1 : sLt b a = false) (h2 : sLt c b = false) : sLt c a = false := by
  have h1' : a.cps.toList ≤ b.cps.toList := of_decide_eq_false h1
  have h2' : b.cps.toList ≤ c.cps.toList := of_decide_eq_false h2
  exact decide_eq_false (List.le_trans h1' h2')
theorem sLt_eq {a b : Str} (h1 : sLt a b = false) (h2 : sLt b a = false) : a = b := by
  have h1' : b.cps.toList ≤ a.cps.toList := of_decide_eq_false h1
  have h2' : a.cps.toList ≤ b.cps.toList := of_decide_eq_false h2
  have e := List.le_antisymm h2' h1'
  cases a; cases b
  simp only at e
  congr
  exact Array.ext' e
theorem sLt_irr (a : Str) : sLt a a = false := decide_eq_false (List.lt_irrefl _)
theorem rl_int (i j : Int) (r r' : List PyData) : rowLt (.int i :: r) (.int j :: r') = if i = j then rowLt r r' else decide (i < j) := by
  show (if (i == j) = true then rowLt r r' else decide (i < j)) = _
  by_cases h : i = j
  · rw [if_pos h, if_pos (by rw [h]; simp)]
  · rw [if_neg h, if_neg (by simpa using h)]
theorem rl_str (x y : Str) (r r' : List PyData) : rowLt (.str x :: r) (.str y :: r') = if x = y then rowLt r r' else sLt x y := by
  show (if (x == y) = true then rowLt r r' else decide (x.cps.toList < y.cps.toList)) = _
  by_cases h : x = y
  · rw [if_pos h, if_pos (by rw [h]; simp)]
  · rw [if_neg h, if_neg (by simpa using h)]
    rfl
theorem rl_asy : ∀ {ks : List Bool} {xs ys : List PyData}, Row ks xs → Row ks ys → rowLt xs ys = true → rowLt ys xs = false
  | [], xs, ys, h1, h2, h => by
    cases (show xs = [] from h1); cases (show ys = [] from h2)
    rfl
  | true :: ks, xs, ys, h1, h2, h => by
    obtain ⟨i, r, rfl, h1⟩ := h1
    obtain ⟨j, r', rfl, h2⟩ := h2
    rw [rl_int] at h ⊢
    by_cases e : i = j
    · rw [if_pos e] at h; rw [if_pos e.symm]; exact rl_asy h1 h2 h
    · rw [if_neg e] at h; rw [if_neg (Ne.symm e)]
      have := of_decide_eq_true h
      exact decide_eq_false (by omega)
  | false :: ks, xs, ys, h1, h2, h => by
    obtain ⟨i, r, rfl, h1⟩ := h1
    obtain ⟨j, r', rfl, h2⟩ := h2
    rw [rl_str] at h ⊢
    by_cases e : i = j
    · rw [if_pos e] at h; rw [if_pos e.symm]; exact rl_asy h1 h2 h
    · rw [if_neg e] at h; rw [if_neg (Ne.symm e)]
      exact sLt_asy h
theorem rl_tr : ∀ {ks : List Bool} {a b c : List PyData}, Row ks a → Row ks b → Row ks c → rowLt b a = false → rowLt c b = false → rowLt c a = false
  | [], a, b, c, h1, h2, h3, h4, h5 => by
    cases (show a = [] from h1); cases (show c = [] from h3)
    rfl
  | true :: ks, a, b, c, h1, h2, h3, h4, h5 => by
    obtain ⟨i, r, rfl, h1⟩ := h1
    obtain ⟨j, r', rfl, h2⟩ := h2
    obtain ⟨k, r'', rfl, h3⟩ := h3
    rw [rl_int] at h4 h5 ⊢
    by_cases e1 : j = i
    · rw [if_pos e1] at h4
      by_cases e2 : k = j
      · rw [if_pos e2] at h5; rw [if_pos (e2.trans e1)]; exact rl_tr h1 h2 h3 h4 h5
      · rw [if_neg e2] at h5; rw [if_neg (by omega)]
        have := of_decide_eq_false h5
        exact decide_eq_false (by omega)
    · rw [if_neg e1] at h4
      have q1 := of_decide_eq_false h4
      by_cases e2 : k = j
      · rw [if_neg (by omega)]; exact decide_eq_false (by omega)
      · rw [if_neg e2] at h5
        have q2 := of_decide_eq_false h5
        rw [if_neg (by omega)]; exact decide_eq_false (by omega)
  | false :: ks, a, b, c, h1, h2, h3, h4, h5 => by
    obtain ⟨i, r, rfl, h1⟩ := h1
    obtain ⟨j, r', rfl, h2⟩ := h2
    obtain ⟨k, r'', rfl, h3⟩ := h3
    rw [rl_str] at h4 h5 ⊢
    by_cases e1 : j = i
    · rw [if_pos e1] at h4
      by_cases e2 : k = j
      · rw [if_pos e2] at h5; rw [if_pos (e2.trans e1)]; exact rl_tr h1 h2 h3 h4 h5
      · rw [if_neg e2] at h5; rw [if_neg (by rw [← e1]; exact e2), ← e1]; exact h5
    · rw [if_neg e1] at h4
      by_cases e2 : k = j
      · rw [if_neg (by rw [e2]; exact e1), e2]; exact h4
      · rw [if_neg e2] at h5
        by_cases e3 : k = i
        · subst e3
          exact absurd (sLt_eq h5 h4) e2
        · rw [if_neg e3]; exact sLt_tr h4 h5
/-- an order of rows, with no row ahead of all -/
theorem row_ord {ks0 : List Bool} {ds : List PyData} (h : Rows ks0 ds) : Ord (ltAtD ds) := by
  obtain ⟨ks, hks, hk⟩ : ∃ ks, ks = true :: ks0 ∧ ks ≠ [] := ⟨_, rfl, by simp⟩
  have at' : ∀ i, rowOf (ds.getD i .none) = [] ∨ Row ks (rowOf (ds.getD i .none)) := fun i => by
    by_cases hi : i < ds.length
    · right
      have e : ds.getD i .none = ds[i] := by simp [List.getD, hi]
      obtain ⟨r, e2, hr⟩ := h ds[i] (List.getElem_mem hi)
      rw [e, e2, hks]
      exact hr
    · left
      have e : ds.getD i .none = .none := by simp [List.getD, List.getElem?_eq_none (Nat.le_of_not_lt hi)]
      rw [e]; rfl
  have ne : ∀ {r : List PyData}, Row ks r → ∃ x xs, r = x :: xs := fun {r} hr => by
    match ks, hk, hr with
    | true :: ks, _, ⟨i, r, e, _⟩ => exact ⟨_, _, e⟩
    | false :: ks, _, ⟨i, r, e, _⟩ => exact ⟨_, _, e⟩
  refine ⟨fun a b hab => ?_, fun a b c h1 h2 => ?_⟩
  · show rowLt (rowOf (ds.getD b .none)) (rowOf (ds.getD a .none)) = false
    have hab' : rowLt (rowOf (ds.getD a .none)) (rowOf (ds.getD b .none)) = true := hab
    rcases at' a with ea | ea <;> rcases at' b with eb | eb
    · rw [ea, eb]; rfl
    · obtain ⟨x, xs, e⟩ := ne eb
      rw [ea, e]; rfl
    · obtain ⟨x, xs, e⟩ := ne ea
      rw [e, eb] at hab'; cases hab'
    · exact rl_asy ea eb hab'
  · show rowLt (rowOf (ds.getD c .none)) (rowOf (ds.getD a .none)) = false
    have h1' : rowLt (rowOf (ds.getD b .none)) (rowOf (ds.getD a .none)) = false := h1
    have h2' : rowLt (rowOf (ds.getD c .none)) (rowOf (ds.getD b .none)) = false := h2
    rcases at' a with ea | ea
    · rw [ea]
      rcases at' c with ec | ec
      · rw [ec]; rfl
      · obtain ⟨x, xs, e⟩ := ne ec
        rw [e]; rfl
    · obtain ⟨x, xs, e⟩ := ne ea
      rcases at' b with eb | eb
      · rw [eb, e] at h1'; cases h1'
      · obtain ⟨y, ys, e2⟩ := ne eb
        rcases at' c with ec | ec
        · rw [ec, e2] at h2'; cases h2'
        · exact rl_tr ea eb ec h1' h2'

/-! ### the sort's outcome is the same things -/
section
open PySem.W PySem.Calls
def OkQ (n : Nat) (p : Array Nat) : Prop := OkP n p ∧ p.Perm (List.toArray (List.range n))
theorem OkQ.get {n : Nat} {p : Array Nat} (h : OkQ n p) (hn : 0 < n) (i : Nat) : p.getD i 0 < n := h.1.get hn i
theorem OkQ.perm {n : Nat} {p q : Array Nat} (h : OkQ n p) (e : q.Perm p) : OkQ n q := ⟨h.1.perm e, e.trans h.2⟩
theorem OkQ.rev {n : Nat} {p : Array Nat} (h : OkQ n p) (i j : Nat) : OkQ n (kas_rev p i j) := h.perm (mirror_perm _ _ _ _)
theorem OkQ.bub {n : Nat} {p : Array Nat} (h : OkQ n p) (i j : Nat) : OkQ n (bubble p i j) := h.perm (bubble_perm _ _ _)
section
variable {n : Nat}
theorem postQ_asc (hn : 0 < n) {p : Array Nat} (hp : OkQ n p) : ∀ (f m : Nat), PostT n (fun _ => True) (kas_asc p f m)
  | 0, m => trivial
  | f + 1, m => ⟨hp.get hn _, hp.get hn _, fun b => by
      cases b with
      | true => exact trivial
      | false => exact postQ_asc hn hp f (m + 1)⟩
theorem postQ_desc (hn : 0 < n) : ∀ (f : Nat) (p : Array Nat) (m q : Nat), OkQ n p → PostT n (fun r : Array Nat × Nat × Nat => OkQ n r.1) (kas_desc f p m q)
  | 0, p, m, q, hp => hp
  | f + 1, p, m, q, hp => ⟨hp.get hn _, hp.get hn _, fun b => by
      cases b with
      | true =>
        show PostT n _ (if q > 0 then _ else _)
        split
        · exact postQ_desc hn f _ _ _ (hp.rev _ _)
        · exact postQ_desc hn f _ _ _ hp
      | false =>
        refine ⟨hp.get hn _, hp.get hn _, fun b => ?_⟩
        cases b with
        | true => exact hp
        | false => exact postQ_desc hn f _ _ _ hp⟩
theorem postQ_tail3 (hn : 0 < n) {m r : Nat} {p : Array Nat} (hp : OkQ n p) : PostT n (fun r : Nat × Array Nat => OkQ n r.2) (kas_tail3 m r p) :=
  PostT.bind (postQ_asc hn (hp.rev _ _) _ _) fun _ _ => hp.rev _ _
theorem postQ_descPart (hn : 0 < n) {m r : Nat} {p : Array Nat} (hp : OkQ n p) : PostT n (fun r : Nat × Array Nat => OkQ n r.2) (kas_descPart m r p) :=
  PostT.bind (postQ_desc hn _ _ _ _ hp) fun a ha => by
    split
    · exact postQ_tail3 hn (ha.rev _ _)
    · exact postQ_tail3 hn ha
theorem postQ_count (hn : 0 < n) {r : Nat} {p : Array Nat} (hp : OkQ n p) : PostT n (fun r : Nat × Array Nat => OkQ n r.2) (kas_count r p) :=
  PostT.bind (postQ_asc hn hp _ _) fun a _ => by
    split
    · exact hp
    · split
      · refine ⟨hp.get hn _, hp.get hn _, fun b => ?_⟩
        cases b with
        | true => exact hp
        | false => exact postQ_descPart hn (hp.rev _ _)
      · exact postQ_descPart hn hp
theorem postQ_place (hn : 0 < n) {p : Array Nat} (hp : OkQ n p) (k : Nat) : ∀ (f l r : Nat), PostT n (fun _ => True) (kas_place p k f l r)
  | 0, l, r => trivial
  | f + 1, l, r => by
    unfold kas_place
    split
    · exact trivial
    · refine ⟨hp.get hn _, hp.get hn _, fun b => ?_⟩
      cases b with
      | true => exact postQ_place hn hp k f _ _
      | false => exact postQ_place hn hp k f _ _
theorem postQ_bin (hn : 0 < n) : ∀ (f : Nat) (p : Array Nat) (k : Nat), OkQ n p → PostT n (OkQ n) (kas_bin f p k)
  | 0, p, k, hp => hp
  | f + 1, p, k, hp => PostT.bind (postQ_place hn hp k _ _ _) fun l _ => postQ_bin hn f _ _ (hp.bub _ _)
theorem postQ_sort (hn : 0 < n) : PostT n (OkQ n) (kas_sort n) := by
  have h0 : OkQ n (List.toArray (List.range n)) := ⟨⟨by simp, fun x hx => by simpa using hx⟩, .refl _⟩
  refine PostT.bind (postQ_count hn h0) fun a ha => ?_
  split
  · exact postQ_bin hn _ _ _ ha
  · exact ha
end
theorem srt_perm (lt : Nat → Nat → Bool) (n : Nat) : (srt lt n).Perm (List.range n) := by
  unfold srt
  split
  · exact .refl _
  · have h := (PostT.run lt (postQ_sort (n := n) (by omega))).2
    simpa using h.toList
theorem srt_up {lt : Nat → Nat → Bool} (o : Ord lt) (n : Nat) {i j : Nat} (h1 : i ≤ j) (h2 : j < n) : lt ((srt lt n).getD j 0) ((srt lt n).getD i 0) = false := by
  unfold srt
  split
  · have e1 : i = 0 := by omega
    have e2 : j = 0 := by omega
    rw [e1, e2]; exact o.irr _
  · have h := (run_sort o (N := n) (by omega)).2 i j h1 h2
    have e : ∀ k, (runT lt (kas_sort n)).toList.getD k 0 = (runT lt (kas_sort n)).getD k 0 := fun k => by
      rw [Array.getD_eq_getD_getElem?, List.getD_eq_getElem?_getD]; simp
    rw [e, e]
    exact h
end
theorem map_range_getD (ds : List PyData) : ((List.range ds.length).map fun i => ds.getD i .none) = ds := by
  apply List.ext_getElem
  · simp
  · intro i h1 h2
    simp [List.getD, h2]
theorem sortD_perm (ds : List PyData) : (sortD ds).Perm ds := by
  have h := (srt_perm (ltAtD ds) ds.length).map fun i => ds.getD i .none
  rw [map_range_getD] at h
  exact h
theorem sortD_up {ks : List Bool} {ds : List PyData} (h : Rows ks ds) {i j : Nat} {x y : PyData} (hx : (sortD ds)[i]? = some x) (hy : (sortD ds)[j]? = some y) (hij : i ≤ j) : rowLt (rowOf y) (rowOf x) = false := by
  unfold sortD at hx hy
  rw [List.getElem?_map] at hx hy
  have hj : j < (srt (ltAtD ds) ds.length).length := by
    cases e : (srt (ltAtD ds) ds.length)[j]? with
    | none => rw [e] at hy; cases hy
    | some k => exact (List.getElem?_eq_some_iff.mp e).1
  have hi : i < (srt (ltAtD ds) ds.length).length := by omega
  rw [List.getElem?_eq_getElem hi] at hx
  rw [List.getElem?_eq_getElem hj] at hy
  cases hx; cases hy
  have u := srt_up (row_ord h) ds.length hij (by rw [srt_length] at hj; exact hj)
  have e1 : (srt (ltAtD ds) ds.length).getD i 0 = (srt (ltAtD ds) ds.length)[i] := by simp [List.getD, hi]
  have e2 : (srt (ltAtD ds) ds.length).getD j 0 = (srt (ltAtD ds) ds.length)[j] := by simp [List.getD, hj]
  rw [e1, e2] at u
  exact u
end L3

set_option maxHeartbeats 4000000
namespace L3
open PySem PySem.Spec PyProof.Rows
section
variable {prog : Program} {w : World} {A : Around} {R : Result → Shared → Prop} {I : Addr} {fp wr : List Addr} {n : Nat} {P : Nat → Value → Prop} {St : Nat → Heap → Prop}
/-- the loop from its second turn on, whatever the keywords are -/
theorem max_loopK (kw : List (Str × Value)) (W : Walks prog w A.in1 I fp wr n P St) (bt : Nat → Nat → Bool) (hcmp : CmpOf prog w A.in1 .Gt P bt) (S : Addr) (hSf : S ∉ fp) :
    ∀ (k j : Nat) (s : Shared) (vb : Value) (c : Nat), n - (j + 1) = k → j + 1 ≤ n → St (j + 1) s.heap → P (argBest bt j) vb →
    s.heap.get? S = some { cls := .type "list", dict := none, data := .seq #[vb, vb] c, slots := #[] } →
    (∀ v h' tk, P (argBest bt (n - 1)) v → (∀ b o, b ∉ wr → b ≠ S → s.heap.get? b = some o → h'.get? b = some o) → R (.ok (.ret v)) { s with heap := h', toks := tk }) →
    codeAny (model prog w) A (.builtin "max.loop" ⟨[.ref I, .none, .ref S], kw⟩) R s := by
  have hSw : S ∉ wr := fun h => hSf (W.sub _ h)
  have nm : (toString "max" ++ toString ".loop" : String) = "max.loop" := by decide
  intro k
  induction k with
  | zero =>
    intro j s vb c hk hj hst hPb hS hR
    have hin : j + 1 = n := by omega
    refine codeAny_builtin F.entry_max_loop ?_
    rw [Around.under_plainId F.plain_max_loop _]
    show wpAny _ A.in1 (seqItems? (.ref S) >>= _) _ _ s
    refine wpAny_bind (wpAny_seqItems hS rfl ?_)
    show wpAny _ A.in1 (tryCatch (pyNext (.ref I)) _ >>= _) _ _ s
    refine wpAny_bind (wpAny_tryCatch (W.done s _ _ (hin ▸ hst) fun h' tk hk' => ?_))
    have hS' := hk' S _ hSw hS
    show wpAny _ A.in1 (updateSeq S (fun _ => #[]) >>= _) _ _ _
    refine wpAny_bind (wpAny_updateSeq hS' rfl (wpAny_bind (wpAny_letGo (wpAny_pure ?_))))
    exact hR vb _ tk (by rw [← hin]; exact hPb) fun b o hbw hbS e => (Heap.get?_update_other _ _ (Ne.symm hbS)).trans (hk' b o hbw e)
  | succ k ih =>
    intro j s vb c hk hj hst hPb hS hR
    have hlt : j + 1 < n := by omega
    refine codeAny_builtin F.entry_max_loop ?_
    rw [Around.under_plainId F.plain_max_loop _]
    show wpAny _ A.in1 (seqItems? (.ref S) >>= _) _ _ s
    refine wpAny_bind (wpAny_seqItems hS rfl ?_)
    show wpAny _ A.in1 (tryCatch (pyNext (.ref I)) _ >>= _) _ _ s
    refine wpAny_bind (wpAny_tryCatch (W.item (j + 1) s _ _ hlt hst fun v h' tk hP hst' hk' => ?_))
    have hS' := hk' S _ hSw hS
    show wpAny _ A.in1 (tryCatch (holding [v, v] (richCompare .Gt v vb >>= _)) _ >>= _) _ _ _
    refine wpAny_bind (wpAny_tryCatch (wpAny_holding (wpAny_bind (hcmp (j + 1) (argBest bt j) v vb _ _ _ hP hPb ?_))))
    refine wpAny_bind (wpAny_holding (wpAny_truthy_bool ?_))
    refine wpAny_bind (wpAny_letGo (wpAny_pure ?_))
    cases hb : bt (j + 1) (argBest bt j) with
    | true =>
      simp only [if_true]
      refine wpAny_bind (wpAny_updateSeq hS' rfl (wpAny_bind (wpAny_letGo ?_)))
      rw [nm]
      refine wpAny_pure ⟨plainId_quiet F.plain_max_loop _, ih (j + 1) _ v _ (by omega) hlt (W.frame _ _ _ hst' fun b hbf o e => ?_) (by simp only [argBest, hb, if_true]; exact hP) (Heap.get?_update_self _ hS' rfl) fun v' h'' tk'' hP' hk'' => ?_⟩
      · exact (Heap.get?_update_other _ _ (fun h : S = b => hSf (by rw [h]; exact hbf))).trans e
      · exact hR v' h'' tk'' hP' fun b o hbw hbS e => hk'' b o hbw hbS ((Heap.get?_update_other _ _ (Ne.symm hbS)).trans (hk' b o hbw e))
    | false =>
      simp only [Bool.false_eq_true, if_false]
      refine wpAny_bind (wpAny_letGo ?_)
      rw [nm]
      refine wpAny_pure ⟨plainId_quiet F.plain_max_loop _, ih (j + 1) _ vb c (by omega) hlt hst' (by simp only [argBest, hb, Bool.false_eq_true, if_false]; exact hPb) hS' fun v' h'' tk'' hP' hk'' => ?_⟩
      exact hR v' h'' tk'' hP' fun b o hbw hbS e => hk'' b o hbw hbS (hk' b o hbw e)
theorem max_firstK (kw : List (Str × Value)) (W : Walks prog w A.in1 I fp wr n P St) (bt : Nat → Nat → Bool) (hcmp : CmpOf prog w A.in1 .Gt P bt) (S : Addr) (hSf : S ∉ fp) (hn : 0 < n) {s : Shared} {c : Nat} (hst : St 0 s.heap)
    (hS : s.heap.get? S = some { cls := .type "list", dict := none, data := .seq #[] c, slots := #[] })
    (hR : ∀ v h' tk, P (argBest bt (n - 1)) v → (∀ b o, b ∉ wr → b ≠ S → s.heap.get? b = some o → h'.get? b = some o) → R (.ok (.ret v)) { s with heap := h', toks := tk }) :
    codeAny (model prog w) A (.builtin "max.loop" ⟨[.ref I, .none, .ref S], kw⟩) R s := by
  have hSw : S ∉ wr := fun h => hSf (W.sub _ h)
  have nm : (toString "max" ++ toString ".loop" : String) = "max.loop" := by decide
  refine codeAny_builtin F.entry_max_loop ?_
  rw [Around.under_plainId F.plain_max_loop _]
  show wpAny _ A.in1 (seqItems? (.ref S) >>= _) _ _ s
  refine wpAny_bind (wpAny_seqItems hS rfl ?_)
  show wpAny _ A.in1 (tryCatch (pyNext (.ref I)) _ >>= _) _ _ s
  refine wpAny_bind (wpAny_tryCatch (W.item 0 s _ _ hn hst fun v h' tk hP hst' hk' => ?_))
  have hS' := hk' S _ hSw hS
  show wpAny _ A.in1 (updateSeq S (fun _ => #[v, v]) >>= _) _ _ _
  refine wpAny_bind (wpAny_updateSeq hS' rfl ?_)
  rw [nm]
  refine wpAny_pure ⟨plainId_quiet F.plain_max_loop _, max_loopK kw W bt hcmp S hSf _ 0 _ v _ rfl hn (W.frame _ _ _ hst' fun b hbf o e => ?_) hP (Heap.get?_update_self _ hS' rfl) fun v' h'' tk'' hP' hk'' => ?_⟩
  · exact (Heap.get?_update_other _ _ (fun h : S = b => hSf (by rw [h]; exact hbf))).trans e
  · exact hR v' h'' tk'' hP' fun b o hbw hbS e => hk'' b o hbw hbS ((Heap.get?_update_other _ _ (Ne.symm hbS)).trans (hk' b o hbw e))
end
section
variable {prog : Program} {w : World} {A : Around} {E : Value → Shared → Prop} {s : Shared}
theorem call_max_kw {x d : Value} {Q : Value → Shared → Prop}
    (h : wpAny (model prog w) A.in1 (pyIter x) (fun it s₂ => ∃ I fp wr n P St bt, it = .ref I ∧ Walks prog w A.in1 I fp wr n P St ∧ St 0 s₂.heap ∧ (∀ b ∈ fp, b < s₂.heap.objs.size) ∧ 0 < n ∧ CmpOf prog w A.in1 .Gt P bt ∧
      ∀ v h' tk, P (argBest bt (n - 1)) v → (∀ b o, b ∉ wr → s₂.heap.get? b = some o → h'.get? b = some o) → Q v { s₂ with heap := h', toks := tk }) E s) :
    wpAny (model prog w) A (call (.builtin "max") [x] [(Str.ofString "default", d)]) Q E s := by
  have nm : (toString "max" ++ toString ".loop" : String) = "max.loop" := by decide
  refine wpAny_call (codeAny_call_builtin F.plain_max F.entry_max ?_)
  simp only [checkBuiltinCall, F.kind_max]
  have go : wpAny (model prog w) A.in1 (Builtin.«max» ⟨[x], [(Str.ofString "default", d)]⟩) (fun fin s' => match fin with
      | .done f => (match (Except.ok f : Result) with | .ok (.ret v) => Q v s' | .ok _ => False | .error e => E e s')
      | .again c' => c'.quiet = true ∧ codeAny (model prog w) A c' (fun r s' => match r with | .ok (.ret v) => Q v s' | .ok _ => False | .error e => E e s') s') E s := by
    show wpAny _ A.in1 (Builtin.Builtins.bindParams "max" ["key", "default"] 0 ⟨[], [(Str.ofString "default", d)]⟩ >>= _) _ _ s
    refine wpAny_bind (wpAny_of_eq (show Builtin.Builtins.bindParams "max" ["key", "default"] 0 ⟨[], [(Str.ofString "default", d)]⟩ = pure [none, some d] from rfl) ?_)
    refine wpAny_bind (wpAny_pure ?_)
    refine wpAny_bind (wpAny_mono h (fun it s₂ h₂ => ?_) fun _ _ e => e)
    obtain ⟨I, fp, wr, n, P, St, bt, rfl, W, hst, hfp, hn, hcmp, hQ⟩ := h₂
    refine wpAny_bind (wpAny_newObj_type ?_)
    have hSf : s₂.heap.objs.size ∉ fp := fun hm => Nat.lt_irrefl _ (hfp _ hm)
    rw [nm]
    refine wpAny_pure ⟨plainId_quiet F.plain_max_loop _, max_firstK _ W bt hcmp s₂.heap.objs.size hSf hn (W.frame _ _ _ hst fun b _ o e => Heap.get?_push_of_some _ e) (Heap.get?_push_size _ rfl) fun v h' tk hP hk => ?_⟩
    exact hQ v h' tk hP fun b o hbw e => hk b o hbw (Nat.ne_of_lt (Heap.lt_size e)) (Heap.get?_push_of_some _ e)
  cases hsig : Manifest.signature? "max" with
  | none => exact wpAny_pure go
  | some sig =>
    have ha' : Bind.checkArgs "max" sig ⟨[x], [(Str.ofString "default", d)]⟩ = pure () := by
      have := args_maxD x d
      simpa only [argsOk, hsig] using this
    simp only [ha']
    exact wpAny_pure go
theorem max_listK {l : Addr} {d : Value} {vs : List Value} {ns : List Int} {Q : Value → Shared → Prop} (hh : A.handled = none) (hl : s.heap.IsList l vs.toArray) (hi : IntsAre vs ns) (hne : 0 < ns.length)
    (h : ∀ h' M (t : Tok) tk, (∀ b o, s.heap.get? b = some o → h'.get? b = some o) → M ∈ ns → (∀ a, a ∈ ns → a ≤ M) → Q (.int M t) { s with heap := h', toks := tk }) :
    wpAny (model prog w) A (call (.builtin "max") [.ref l] [(Str.ofString "default", d)]) Q E s := by
  obtain ⟨xs, e⟩ := hi.allInts.items
  have hns : ns = xs.toList.map (·.1) := by rw [← hi.numsOf, ← nums_intItems, ← e]
  have hsz : 0 < xs.size := by
    have h3 := hne; rw [hns, List.length_map, Array.length_toList] at h3; exact h3
  rw [e] at hl
  refine call_max_kw (iter_intList hl fun s₂ e st hfp hlI => ?_)
  subst e
  refine ⟨_, _, _, _, _, _, _, rfl, Walks.list (A := A.in1) hh _ l hlI (intItems xs), st, hfp, by simpa [intItems] using hsz, CmpOf.ints_gt (numAt xs) (fun _ _ => intItems_at), fun v h' tk hP hk => ?_⟩
  have hv : (intItems xs)[argBest (fun i j => decide (numAt xs i > numAt xs j)) (xs.size - 1)]? = some v := by simpa [intItems] using hP
  obtain ⟨t, rfl⟩ := intItems_at hv
  obtain ⟨h1, h2⟩ := argBest_gt (numAt xs) (xs.size - 1)
  refine h _ _ t tk (old_kept hk) ?_ fun a ha => ?_
  · rw [hns, numAt_eq]; exact getD_mem (by rw [List.length_map, Array.length_toList]; omega)
  · rw [hns] at ha
    obtain ⟨j, hj, rfl⟩ := mem_getD ha
    rw [List.length_map, Array.length_toList] at hj
    rw [← numAt_eq]; exact h2 j (by omega)
theorem max_list0 {l : Addr} {vs : List Value} {ns : List Int} {Q : Value → Shared → Prop} (hh : A.handled = none) (hl : s.heap.IsList l vs.toArray) (hi : IntsAre vs ns) (hne : 0 < ns.length)
    (h : ∀ h' M (t : Tok) tk, (∀ b o, s.heap.get? b = some o → h'.get? b = some o) → M ∈ ns → (∀ a, a ∈ ns → a ≤ M) → Q (.int M t) { s with heap := h', toks := tk }) :
    wpAny (model prog w) A (call (.builtin "max") [.ref l]) Q E s := by
  obtain ⟨xs, e⟩ := hi.allInts.items
  have hns : ns = xs.toList.map (·.1) := by rw [← hi.numsOf, ← nums_intItems, ← e]
  have hsz : 0 < xs.size := by
    have h3 := hne; rw [hns, List.length_map, Array.length_toList] at h3; exact h3
  rw [e] at hl
  refine max_intList hh hl hsz fun v h' tk hv hk => ?_
  obtain ⟨t, rfl⟩ := intItems_at hv
  obtain ⟨h1, h2⟩ := argBest_gt (numAt xs) (xs.size - 1)
  refine h _ _ t tk hk ?_ fun a ha => ?_
  · rw [hns, numAt_eq]; exact getD_mem (by rw [List.length_map, Array.length_toList]; omega)
  · rw [hns] at ha
    obtain ⟨j, hj, rfl⟩ := mem_getD ha
    rw [List.length_map, Array.length_toList] at hj
    rw [← numAt_eq]; exact h2 j (by omega)
end
end L3

/-! cells that hang together: plain mathematics, no program -/
namespace L3
abbrev Cl := Int × Int
def Tch (a b : Cl) : Prop := (a.1 = b.1 ∧ (b.2 = a.2 + 1 ∨ a.2 = b.2 + 1)) ∨ (a.2 = b.2 ∧ (b.1 = a.1 + 1 ∨ a.1 = b.1 + 1))
theorem Tch.symm {a b : Cl} (h : Tch a b) : Tch b a := by
  unfold Tch at *
  omega
/-- whatever is so of one cell, and goes over from cell to cell that touch, is so of all -/
def Conn (S : List Cl) : Prop := ∀ T : Cl → Prop, (∃ a, a ∈ S ∧ T a) → (∀ a b, a ∈ S → b ∈ S → T a → Tch a b → T b) → ∀ a, a ∈ S → T a
theorem Conn.one (a : Cl) : Conn [a] := fun T ⟨b, hb, tb⟩ _ c hc => by
  rw [List.mem_singleton.mp hc, ← List.mem_singleton.mp hb]
  exact tb
theorem Conn.snoc {S : List Cl} {a b : Cl} (h : Conn S) (ha : a ∈ S) (t : Tch a b) : Conn (S ++ [b]) := fun T ⟨c, hc, tc⟩ go d hd => by
  have mS : ∀ {x}, x ∈ S → x ∈ S ++ [b] := fun hx => List.mem_append_left _ hx
  have mb : b ∈ S ++ [b] := List.mem_append_right _ (List.mem_singleton.mpr rfl)
  have inS : ∃ x, x ∈ S ∧ T x := by
    rcases List.mem_append.mp hc with h1 | h1
    · exact ⟨c, h1, tc⟩
    · rw [List.mem_singleton.mp h1] at tc
      exact ⟨a, ha, go b a mb (mS ha) tc t.symm⟩
  have all := h T inS fun x y hx hy tx txy => go x y (mS hx) (mS hy) tx txy
  rcases List.mem_append.mp hd with h1 | h1
  · exact all d h1
  · rw [List.mem_singleton.mp h1]
    exact go a b (mS ha) mb (all a ha) t
theorem Conn.map {S : List Cl} {f : Cl → Cl} (h : Conn S) (hf : ∀ a b, Tch a b → Tch (f a) (f b)) : Conn (S.map f) := fun T ⟨c, hc, tc⟩ go d hd => by
  obtain ⟨x, hx, rfl⟩ := List.mem_map.mp hc
  obtain ⟨y, hy, rfl⟩ := List.mem_map.mp hd
  exact h (fun a => T (f a)) ⟨x, hx, tc⟩ (fun a b ha hb ta tab => go _ _ (List.mem_map_of_mem ha) (List.mem_map_of_mem hb) ta (hf a b tab)) y hy
theorem Conn.congr {S S' : List Cl} (h : Conn S) (e : ∀ a, a ∈ S' ↔ a ∈ S) : Conn S' := fun T ⟨c, hc, tc⟩ go d hd =>
  h T ⟨c, (e c).mp hc, tc⟩ (fun a b ha hb => go a b ((e a).mpr ha) ((e b).mpr hb)) d ((e d).mp hd)
/-- what is closed under touching is all -/
theorem Conn.closed {S R : List Cl} (h : Conn S) (hs : ∀ a, a ∈ R → a ∈ S) (hne : ∃ a, a ∈ R) (hc : ∀ a, a ∈ R → ∀ b, b ∈ S → Tch a b → b ∈ R) : ∀ a, a ∈ S → a ∈ R := by
  obtain ⟨a, ha⟩ := hne
  exact h (fun x => x ∈ R) ⟨a, hs a ha, ha⟩ fun x y hx hy tx txy => hc x tx y hy txy
theorem nodup_len {α : Type} [DecidableEq α] {S R : List α} (hS : S.Nodup) (hR : R.Nodup) (e : ∀ a, a ∈ R ↔ a ∈ S) : R.length = S.length := by
  apply Nat.le_antisymm
  · exact List.Nodup.length_le_of_subset hR fun a ha => (e a).mp ha
  · exact List.Nodup.length_le_of_subset hS fun a ha => (e a).mpr ha
/-- the turnings keep touching -/
theorem Tch.mirror (m : Int) {a b : Cl} (h : Tch a b) : Tch (a.1, m - a.2) (b.1, m - b.2) := by
  unfold Tch at *
  simp only
  omega
theorem Tch.turn (m : Int) {a b : Cl} (h : Tch a b) : Tch (a.2, m - a.1) (b.2, m - b.1) := by
  unfold Tch at *
  simp only
  omega
theorem Tch.shift (r c : Int) {a b : Cl} (h : Tch a b) : Tch (a.1 - r, a.2 - c) (b.1 - r, b.2 - c) := by
  unfold Tch at *
  simp only
  omega
end L3

set_option maxHeartbeats 4000000
namespace L3
open PySem PySem.Spec PyProof.Rows L2

/-! ### max of a list of ints, with and without a default -/
section
variable {X : Cx} {x : Str} {p pos kpos : Pos} {e e2 : Expr} {es : List Expr} {t tk : TA} {te : TE}
def rMax : List V → Hp → VK → Prop := fun xs H Q => ∃ q, ∃ ns : List Int, xs = [.ref q] ∧ H q = some (.lst (ns.map V.int)) ∧ 0 < ns.length ∧ ∀ M, M ∈ ns → (∀ a ∈ ns, a ≤ M) → Q (.int M) H
theorem call_maxL (hc : X.calm = true) : CallR X (.builtin "max") rMax := by
  intro pins s σ H xs us Q I r h
  obtain ⟨q, ns, rfl, hq, hn, h⟩ := h
  obtain ⟨u, rfl, r1⟩ := vals1 r
  cases (show u = Value.ref q from r1)
  obtain ⟨its, rv, pl, hz⟩ := I.list (SqL.of (K := X.K) hq)
  exact max_list0 (I.ok.hd hc) pl.isList (intsAre_of rv) hn fun h' M t tk k h1 h2 => ⟨.int M, H, I.kept k, ⟨_, rfl⟩, h M h1 h2⟩
def tMaxD (t tk : TA) : TE := fun σ H Q => t σ H fun vs H1 => tk σ H1 fun zs H2 => zs.length = 1 ∧ rMax vs H2 Q
theorem pe_maxD (hc : X.calm = true) (hg : Gl X "max") (hm : X.mg "max" = none) (ha : PA X [e] t) (hkw : PK X [⟨some "default", e2, kpos⟩] tk)
    (he : backTo pos (starEach [e] X.env) = (false, eval e X.env) :: backTo pos (starEach [] X.env) := by rfl) (hpl : (backTo pos (starEach [e] X.env)).any (·.1) = false := by rfl) :
    PE X (.Call (.Name "max" p) [e] [⟨some "default", e2, kpos⟩] pos) (tMaxD t tk) := by
  intro pins s σ H Q I h
  refine wpAny_Call_Name_kw (ld_blt I hg hm boot_max ?_ (by decide) (by decide))
  refine callWith_kw (thn (ha pos pins s σ H _ I h) fun us s1 ⟨vs, H1, I1, r, q⟩ => thn (hkw pos pins s1 σ H1 _ I1 q) fun ws s2 ⟨zs, H2, I2, rz, hz1, q2⟩ => ?_) he hpl
  obtain ⟨d, rfl⟩ : ∃ d, ws = [d] := by
    have hl : ws.length = 1 := rz.length.symm.trans hz1
    match ws, hl with
    | [d], _ => exact ⟨d, rfl⟩
  obtain ⟨l, ns, rfl, hq, hn, hQ⟩ := q2
  obtain ⟨u, rfl, r1⟩ := vals1 r
  cases (show u = Value.ref l from r1)
  obtain ⟨its, rv, pl, hz⟩ := I2.list (SqL.of (K := X.K) hq)
  exact max_listK (I2.ok.hd hc) pl.isList (intsAre_of rv) hn fun h' M t tk k h1 h2 => ⟨.int M, H2, I2.kept k, ⟨_, rfl⟩, hQ M h1 h2⟩
end
def maxI : List Int → Int
  | [] => 0
  | [a] => a
  | a :: b :: r => if maxI (b :: r) ≤ a then a else maxI (b :: r)
theorem maxI_mem : ∀ {ns : List Int}, 0 < ns.length → maxI ns ∈ ns
  | [], h => by simp at h
  | [a], _ => by simp [maxI]
  | a :: b :: r, _ => by
    unfold maxI
    split
    · exact List.mem_cons_self
    · exact List.mem_cons_of_mem _ (maxI_mem (by simp))
theorem le_maxI : ∀ {ns : List Int}, ∀ a ∈ ns, a ≤ maxI ns
  | [], a, h => by cases h
  | [a], b, h => by
    have e : b = a := by simpa using h
    rw [e]; exact Int.le_refl _
  | a :: b :: r, x, h => by
    unfold maxI
    rcases List.mem_cons.mp h with e | h
    · rw [e]
      split
      · exact Int.le_refl _
      · omega
    · have := le_maxI (ns := b :: r) x h
      split
      · omega
      · exact this
theorem maxI_eq {ns : List Int} {M : Int} (h1 : M ∈ ns) (h2 : ∀ a ∈ ns, a ≤ M) : M = maxI ns := by
  have hp : 0 < ns.length := List.length_pos_of_mem h1
  have a1 := h2 _ (maxI_mem hp)
  have a2 := le_maxI M h1
  omega

/-! ### spots mirrored, turned to the right -/
def mir1 (m : Int) : PyData → PyData
  | .tuple [.int r, .int c, .str x] => .tuple [.int r, .int (m - c), .str x]
  | d => d
def tur1 (m : Int) : PyData → PyData
  | .tuple [.int r, .int c, .str x] => .tuple [.int c, .int (m - r), .str x]
  | d => d
def mirD (ds : List PyData) : List PyData := ds.map (mir1 (maxI (ds.map col1)))
def turD (ds : List PyData) : List PyData := ds.map (tur1 (maxI (ds.map row1)))
/-- turned by t, spot by spot, before it is sorted -/
def spotsD (t : Nat) (ds : List PyData) : List PyData := (List.range (t % 4)).foldl (fun a _ => turD a) (if 4 ≤ t then mirD ds else ds)
theorem mir_spots {ds : List PyData} (h : Spots ds) (m : Int) : Spots (ds.map (mir1 m)) := fun d hd => by
  obtain ⟨e, he, rfl⟩ := List.mem_map.mp hd
  obtain ⟨r, c, x, rfl⟩ := h e he
  exact ⟨_, _, _, rfl⟩
theorem tur_spots {ds : List PyData} (h : Spots ds) (m : Int) : Spots (ds.map (tur1 m)) := fun d hd => by
  obtain ⟨e, he, rfl⟩ := List.mem_map.mp hd
  obtain ⟨r, c, x, rfl⟩ := h e he
  exact ⟨_, _, _, rfl⟩
theorem spots_rows {ds : List PyData} (h : Spots ds) : Rows [true, false] ds := fun d hd => by
  obtain ⟨r, c, x, rfl⟩ := h d hd
  exact ⟨_, rfl, _, _, rfl, _, _, rfl, _, _, rfl, rfl⟩
section
variable {K : PySem.W.Frag} {a : Addr} {xs : List V} {ds : List PyData} {σ : L2.St} {H : Hp} {Q : VK}
/-- [spot[j] for spot in spots] -/
theorem read_projI {i0 : Nat} (j : Int) (pr : PyData → Int) (hj : ∀ (r c : Int) (x : Str), atI [V.int r, .int c, .str x] j = some (.int (pr (.tuple [.int r, .int c, .str x]))))
    (hσ : σ[i0]? = some (some (.ref a))) (ha : H a = some (.lst xs)) (hr : RepAll H ds xs) (hs : Spots ds) (hl : ds.length ≤ 64)
    (q : ∀ D H', Same H H' → H' D = some (.lst ((ds.map pr).map V.int)) → Q (.ref D) H') :
    tComp (iList K (tVar i0)) [none] (gName 0) tYes (tOp (rIxT K) (tVar 0) (tC (.int j))) σ H Q := by
  have hlen := hr.length
  refine ⟨_, hσ, a, rfl, ⟨_, SqL.of ha⟩, fun D hD => ?_⟩
  refine comp_list (xs := xs) (fun i ys H' => Same H H' ∧ ys = ((ds.take i).map pr).map V.int) ⟨Same.fresh _ hD, rfl⟩ (fun i ys H' p => SqL.of (p.1 _ _ ha)) (fun i x ys H' hx hi hDy hyl p => ?_) (fun ys H' hDy hyl p => ?_)
  · obtain ⟨p1, rfl⟩ := p
    obtain ⟨b, r, c, z, rfl, hb, hz, hd⟩ := hs.at hr hx
    refine ⟨Agree.set (Agree.refl _) rfl, ?_⟩
    dsimp only [tYes]
    refine iteT ?_
    refine ⟨_, rfl, b, _, _, _, rfl, rfl, SqT.of (p1 _ _ hb), hj r c z, nx_put (by omega) hDy hyl ⟨p1.new hD, ?_⟩⟩
    rw [map_take_succ pr hd, List.map_append]
    rfl
  · obtain ⟨p1, rfl⟩ := p
    refine q D H' p1 ?_
    rw [hDy, List.take_of_length_le (by omega)]
theorem row_at (r c : Int) (x : Str) : atI [V.int r, .int c, .str x] 0 = some (.int (row1 (.tuple [.int r, .int c, .str x]))) := rfl
theorem col_at (r c : Int) (x : Str) : atI [V.int r, .int c, .str x] 1 = some (.int (col1 (.tuple [.int r, .int c, .str x]))) := rfl
/-- [(f, g, sign) for row, column, sign in spots], f and g made of row, column and one outer number -/
theorem read_each {m : Int} {i0 j : Nat} {ta tb : TE} (f : Int → PyData → PyData) (hσ : σ[i0]? = some (some (.ref a))) (h1 : σ[j]? = some (some (.int m))) (ha : H a = some (.lst xs)) (hr : RepAll H ds xs) (hs : Spots ds) (hl : ds.length ≤ 64)
    (hread : ∀ (r c : Int) (z : Str) (H' : Hp) (Q' : VK), (∃ u v : Int, f m (.tuple [.int r, .int c, .str z]) = .tuple [.int u, .int v, .str z] ∧ ∀ n, H' n = none → Q' (.ref n) (upd H' n (.tup [.int u, .int v, .str z]))) →
      tTup (tCons ta (tCons tb (tCons (tVar 2) tNil))) [some (.int r), some (.int c), some (.str z), some (.int m)] H' Q')
    (q : ∀ D ys H', H D = none → Same H H' → H' D = some (.lst ys) → RepAll H' (ds.map (f m)) ys → Q (.ref D) H')
    (hsp : ∀ (r c : Int) (z : Str), ∃ u v : Int, f m (.tuple [.int r, .int c, .str z]) = .tuple [.int u, .int v, .str z]) :
    tComp (iList K (tVar i0)) [none, none, none, some j] (gTup K 3 (gCons (gName 0) (gCons (gName 1) (gCons (gName 2) gNil)))) tYes (tTup (tCons ta (tCons tb (tCons (tVar 2) tNil)))) σ H Q := by
  have hlen := hr.length
  refine ⟨_, hσ, a, rfl, ⟨_, SqL.of ha⟩, fun D hD => ?_⟩
  have hp : picks [none, none, none, some j] σ = [none, none, none, some (.int m)] := by
    unfold picks
    simp [h1]
  have im : ∀ es : List PyData, (∀ d ∈ es, d ∈ ds) → Spots (es.map (f m)) := fun es he d hd => by
    obtain ⟨d0, h0, rfl⟩ := List.mem_map.mp hd
    obtain ⟨r0, c0, x0, rfl⟩ := hs d0 (he d0 h0)
    obtain ⟨u, v, e⟩ := hsp r0 c0 x0
    exact ⟨u, v, x0, e⟩
  refine comp_list (xs := xs) (fun i ys H' => Same H H' ∧ RepAll H' ((ds.take i).map (f m)) ys) ⟨Same.fresh _ hD, rfl⟩ (fun i ys H' p => SqL.of (p.1 _ _ ha)) (fun i x ys H' hx hi hDy hyl p => ?_) (fun ys H' hDy hyl p => ?_)
  · obtain ⟨p1, p2⟩ := p
    obtain ⟨b, r, c, z, rfl, hb, hz, hd⟩ := hs.at hr hx
    rw [hp]
    refine ⟨b, _, rfl, SqT.of (p1 _ _ hb), rfl, _, _, rfl, _, _, rfl, _, _, rfl, rfl, ?_⟩
    refine ⟨Agree.set (Agree.set (Agree.set (Agree.refl _) rfl) rfl) rfl, ?_⟩
    dsimp only [tYes]
    refine iteT ?_
    obtain ⟨u, v, ef⟩ := hsp r c z
    refine hread r c z H' _ ⟨u, v, ef, fun n hn => ?_⟩
    have s2 : Same H' (upd H' n (.tup [.int u, .int v, .str z])) := Same.fresh _ hn
    have n2 : upd H' n (.tup [.int u, .int v, .str z]) n = some (.tup [.int u, .int v, .str z]) := upd_same
    generalize upd H' n (.tup [.int u, .int v, .str z]) = H2 at *
    have hD2 := s2 _ _ hDy
    refine nx_put (by omega) hD2 hyl ⟨(p1.trans s2).new hD, ?_⟩
    have rep : RepAll H2 ((ds.take i).map (f m) ++ [f m (.tuple [.int r, .int c, .str z])]) (ys ++ [.ref n]) := by
      rw [ef]
      exact (p2.same s2).snoc (spot_rep n2 hz)
    rw [← map_take_succ (f m) hd] at rep
    exact rep.tk (Tk.lst hD2) (Spots.imm (im _ fun d hd' => List.mem_of_mem_take hd'))
  · obtain ⟨p1, p2⟩ := p
    rw [List.take_of_length_le (by omega)] at p2
    exact q D ys H' hD p1 hDy p2
end
end L3

set_option maxHeartbeats 4000000
namespace L3
open PySem PySem.W PySem.Calls PyProof.Rows
theorem zip_two {vs : List Value} {p : Keyed} (h : p ∈ (vs.toArray.zip vs.toArray).toList) : p.1 = p.2 ∧ p.1 ∈ vs := mem_zip_self (by simpa using h)
theorem out_perm {vs : List Value} {arr : Array Keyed} (h : arr.Perm (vs.toArray.zip vs.toArray)) : (arr.map (·.2)).toList.Perm vs := by
  have h1 := (Array.perm_iff_toList_perm.mp h).map (·.2)
  have e : (vs.toArray.zip vs.toArray).toList.map (·.2) = vs := by
    rw [show (vs.toArray.zip vs.toArray).toList = vs.zip vs by simp]
    exact List.map_snd_zip (Nat.le_refl _)
  rw [e] at h1
  rw [Array.toList_map]
  exact h1
theorem out_up {g : Value → Int} {vs : List Value} {arr : Array Keyed} (h : arr.Perm (vs.toArray.zip vs.toArray)) (hs : Seg (fun p => g p.1) arr 0 (vs.toArray.zip vs.toArray).size) : (arr.map (·.2)).toList.Pairwise fun x y => g x ≤ g y := by
  have hsz := h.size_eq
  rw [Array.toList_map, List.pairwise_map]
  refine List.pairwise_iff_getElem.mpr fun i j hi hj hij => ?_
  have hi' : i < arr.size := by simpa using hi
  have hj' : j < arr.size := by simpa using hj
  have q := hs i j (Nat.zero_le _) (by omega) (by omega)
  rw [Fk_some (getElem?_pos arr i hi'), Fk_some (getElem?_pos arr j hj')] at q
  have two : ∀ k (hk : k < arr.size), arr[k].1 = arr[k].2 := fun k hk => (zip_two ((Array.perm_iff_toList_perm.mp h).mem_iff.mp (by simp))).1
  rw [two i hi', two j hj'] at q
  simpa using q
section
variable {prog : Program} {w : World} {A : Around} {E : Value → Shared → Prop} {s : Shared}
theorem list_sort_any {a : Addr} {vs : List Value} {n : Nat} {κ : SortKind} {g : Value → Int} {P : PySem.Fin → Shared → Prop} (ho : s.heap.get? a = some (seqObj "list" vs.toArray n)) (hz : vs.length ≤ sizeLine)
    (hk : 2 ≤ vs.length → ∀ s' : Shared, (∀ b o, b ≠ a → s.heap.get? b = some o → s'.heap.get? b = some o) →
      (∀ (Q : SortKind → Shared → Prop) (E : Value → Shared → Prop), Q κ s' → wpAny (model prog w) A (keyKind' vs.toArray) Q E s') ∧
      ∀ x y, x ∈ vs → y ∈ vs → ∀ (Q : Bool → Shared → Prop), Q (decide (g x < g y)) s' → wpAny (model prog w) A (keyLt' κ x y) Q (fun _ _ => False) s')
    (h : ∀ us : List Value, us.Perm vs → us.Pairwise (fun x y => g x ≤ g y) → P (.done (.ret .none)) { s with heap := sortedHeap s.heap a vs us.toArray }) :
    wpAny (model prog w) A (Builtin.«list.sort» ⟨[.ref a], []⟩) P E s := by
  have ha : a < s.heap.objs.size := Heap.lt_size ho
  obtain ⟨e1, ho1⟩ : ∃ e1, (s.heap.update a (Obj.mapSeq fun _ => (#[] : Array Value))).get? a = some (seqObj "list" #[] e1) := ⟨_, get?_update_seq ho fun _ => #[]⟩
  have ho6 : (((s.heap.update a (Obj.mapSeq fun _ => (#[] : Array Value))).push (seqObj "tuple" vs.toArray 0)).push (seqObj "list" #[] 0)).get? a = some (seqObj "list" #[] e1) :=
    Heap.get?_push_of_some _ (Heap.get?_push_of_some _ ho1)
  have kept : ∀ b o, b ≠ a → s.heap.get? b = some o → (((s.heap.update a (Obj.mapSeq fun _ => (#[] : Array Value))).push (seqObj "tuple" vs.toArray 0)).push (seqObj "list" #[] 0)).get? b = some o := fun b o hb e =>
    Heap.get?_push_of_some _ (Heap.get?_push_of_some _ ((Heap.get?_update_other s.heap _ (Ne.symm hb)).trans e))
  rw [list_sort_plain]
  refine wpAny_bind (listItems_at ho rfl ?_)
  refine wpAny_bind (listUpdate_at ho rfl ?_ (by rw [List.size_toArray]; exact hz) (Nat.zero_le _))
  refine wpAny_bind (seqEpoch_at ho1 rfl ?_)
  refine wpAny_bind (wpAny_newTuple ?_ (by show vs.length ≤ _; exact hz))
  refine wpAny_bind (wpAny_newList ?_ (Nat.zero_le _))
  refine wpAny_holding ?_
  show wpAny (model prog w) A _ P E { s with heap := ((s.heap.update a (Obj.mapSeq fun _ => (#[] : Array Value))).push (seqObj "tuple" vs.toArray 0)).push (seqObj "list" #[] 0) }
  dsimp only
  have rest : ∀ (st' : SortSt), (arrOf st').Perm (vs.toArray.zip vs.toArray) → failedOf st' = none → Seg (fun p => g p.1) (arrOf st') 0 (vs.toArray.zip vs.toArray).size → ∃ us : List Value, us.Perm vs ∧ us.Pairwise (fun x y => g x ≤ g y) ∧ (arrOf st').map (·.2) = us.toArray := fun st' hp hf hs =>
    ⟨_, out_perm hp, out_up hp hs, Array.toArray_toList.symm⟩
  by_cases h2 : vs.toArray.size < 2
  · have h2' : vs.length < 2 := by simpa using h2
    rw [if_pos h2, if_pos h2]
    refine wpAny_bind (wpAny_pure ?_)
    rw [StateT.run_pure]
    refine wpAny_bind (wpAny_pure ?_)
    dsimp only
    obtain ⟨us, u1, u2, e0⟩ := rest (SortSt.mk' general' (vs.toArray.zip vs.toArray) #[] 7 none) (Array.Perm.refl _) rfl (fun i j hi hij hj => by
      have hz2 : (vs.toArray.zip vs.toArray).size = vs.length := by simp
      obtain rfl : i = j := by omega
      exact Int.le_refl _)
    have hul := u1.length_eq
    rw [e0]
    refine wpAny_bind (seqEpoch_at ho6 rfl ?_)
    refine wpAny_bind (listUpdate_at ho6 rfl ?_ (Nat.zero_le _) (by rw [List.size_toArray, hul]; exact Nat.le_succ_of_le hz))
    simp only [bne_self_eq_false, Bool.false_eq_true, if_false]
    exact wpAny_pure (h us u1 u2)
  · have h2' : 2 ≤ vs.length := by have : ¬ vs.length < 2 := by simpa using h2
                                   omega
    rw [if_neg h2, if_neg h2]
    obtain ⟨k1, k2⟩ := hk h2' { s with heap := ((s.heap.update a (Obj.mapSeq fun _ => (#[] : Array Value))).push (seqObj "tuple" vs.toArray 0)).push (seqObj "list" #[] 0) } kept
    refine wpAny_bind (k1 _ _ ?_)
    refine wpAny_bind (wpAny_mono (wpS_sortAll (E := E) (κ := κ) (a₀ := vs.toArray.zip vs.toArray) (f := fun p => g p.1) (mem := fun p => p.1 ∈ vs) (Q := fun _ st' => ∃ us : List Value, us.Perm vs ∧ us.Pairwise (fun x y => g x ≤ g y) ∧ (arrOf st').map (·.2) = us.toArray ∧ failedOf st' = none)
      (fun x y hx hy Q hq => k2 x.1 y.1 hx hy Q hq) (fun x hx => (zip_two hx).2) ⟨Array.Perm.refl _, rfl, rfl⟩ rfl (fun st' B hs => ?_)) ?_ fun _ _ e => e)
    · obtain ⟨us, u1, u2, e0⟩ := rest st' B.perm B.failed hs
      exact ⟨us, u1, u2, e0, B.failed⟩
    · rintro ⟨⟨⟩, st'⟩ s' ⟨rfl, us, u1, u2, hout, hf⟩
      have hul := u1.length_eq
      dsimp only at hout hf ⊢
      rw [hout]
      refine wpAny_bind (seqEpoch_at ho6 rfl ?_)
      refine wpAny_bind (listUpdate_at ho6 rfl ?_ (Nat.zero_le _) (by rw [List.size_toArray, hul]; exact Nat.le_succ_of_le hz))
      rw [hf]
      simp only [bne_self_eq_false, Bool.false_eq_true, if_false]
      exact wpAny_pure (h us u1 u2)
theorem sorted_any {l : Addr} {vs : List Value} {κ : SortKind} {g : Value → Int} {Q : Value → Shared → Prop} (hl : s.heap.IsList l vs.toArray) (hz : vs.length ≤ sizeLine)
    (hk : 2 ≤ vs.length → ∀ s' : Shared, (∀ b o, s.heap.get? b = some o → s'.heap.get? b = some o) →
      (∀ (Q : SortKind → Shared → Prop) (E : Value → Shared → Prop), Q κ s' → wpAny (model prog w) A.in1.in1 (keyKind' vs.toArray) Q E s') ∧
      ∀ x y, x ∈ vs → y ∈ vs → ∀ (Q : Bool → Shared → Prop), Q (decide (g x < g y)) s' → wpAny (model prog w) A.in1.in1 (keyLt' κ x y) Q (fun _ _ => False) s')
    (h : ∀ us : List Value, us.Perm vs → us.Pairwise (fun x y => g x ≤ g y) → Q (.ref (s.heap.objs.size + 1)) { s with heap := sortedAll s.heap vs us.toArray }) :
    wpAny (model prog w) A (call (.builtin "sorted") [.ref l]) Q E s := by
  refine Calls.call_function_entry kind_sorted plain_sorted entry_sorted (args_sorted1 _) ?_
  unfold Builtin.«sorted»
  refine wpAny_bind (m := checkCount "sorted" 1 1 _) (wpAny_pure ?_)
  refine wpAny_bind (collect_list hl ?_ hz)
  refine wpAny_bind (wpAny_newList ?_ hz)
  have hsz : ((s.heap.push (seqObj "list" #[] 0)).update s.heap.objs.size (Obj.mapSeq (· ++ vs.toArray))).objs.size = s.heap.objs.size + 1 := by
    rw [Heap.size_update, size_push']
  have hoL : (((s.heap.push (seqObj "list" #[] 0)).update s.heap.objs.size (Obj.mapSeq (· ++ vs.toArray))).push (seqObj "list" vs.toArray 0)).get? (s.heap.objs.size + 1) = some (seqObj "list" vs.toArray 0) := by
    rw [← hsz]; exact Heap.get?_push_size _ rfl
  have keep : ∀ b o, s.heap.get? b = some o → (((s.heap.push (seqObj "list" #[] 0)).update s.heap.objs.size (Obj.mapSeq (· ++ vs.toArray))).push (seqObj "list" vs.toArray 0)).get? b = some o := fun b o q => by
    have hlt : b < s.heap.objs.size := Heap.lt_size q
    exact Heap.get?_push_of_some _ ((Heap.get?_update_other _ _ (Ne.symm (Nat.ne_of_lt hlt))).trans (Heap.get?_push_of_some _ q))
  show wpAny _ _ _ _ _ { s with heap := ((s.heap.push (seqObj "list" #[] 0)).update s.heap.objs.size (Obj.mapSeq (· ++ vs.toArray))).push (seqObj "list" vs.toArray 0) }
  rw [hsz]
  refine wpAny_bind (wpAny_holding (wpAny_call_entry slot_list_sort ⟨_, hoL, rfl⟩ entry_list_sort ?body (args_list_sort _)))
  case body =>
    refine list_sort_any (κ := κ) (g := g) hoL hz (fun h2 s' k => hk h2 s' fun b o e => k b o (Nat.ne_of_lt (Nat.lt_succ_of_lt (Heap.lt_size e))) (keep b o e)) fun us u1 u2 => ?_
    exact ⟨_, rfl, wpAny_pure ⟨_, rfl, h us u1 u2⟩⟩
end
end L3

set_option maxHeartbeats 4000000
namespace L3
open PySem PySem.Spec PyProof.Rows L2
/-! ### sorted of data, however many -/
theorem perm_lift {α β : Type} (g : α → β) {us vs : List β} (p : us.Perm vs) : ∀ {l : List α}, l.map g = vs → ∃ l' : List α, l'.Perm l ∧ l'.map g = us := by
  induction p with
  | nil => intro l e; exact ⟨l, List.Perm.refl _, e⟩
  | cons x p ih =>
    intro l e
    match l, e with
    | a :: l, e =>
      rw [List.map_cons] at e
      obtain ⟨e1, e2⟩ := List.cons.inj e
      obtain ⟨l', p1, e3⟩ := ih e2
      exact ⟨a :: l', p1.cons a, by rw [List.map_cons, e1, e3]⟩
  | swap x y r =>
    intro l e
    match l, e with
    | a :: b :: l, e =>
      rw [List.map_cons, List.map_cons] at e
      obtain ⟨e1, e'⟩ := List.cons.inj e
      obtain ⟨e2, e3⟩ := List.cons.inj e'
      exact ⟨b :: a :: l, List.Perm.swap _ _ _, by rw [List.map_cons, List.map_cons, e1, e2, e3]⟩
  | trans p q ih1 ih2 =>
    intro l e
    obtain ⟨l1, p1, e1⟩ := ih2 e
    obtain ⟨l2, p2, e2⟩ := ih1 e1
    exact ⟨l2, p2.trans p1, e2⟩
theorem countP_less {α : Type} {p q : α → Bool} : ∀ {l : List α}, (∀ e ∈ l, p e = true → q e = true) → (∃ e ∈ l, q e = true ∧ p e = false) → l.countP p < l.countP q
  | [], _, ⟨e, he, _⟩ => by simp at he
  | a :: l, h, ⟨e, he, h1, h2⟩ => by
    have hl : ∀ e ∈ l, p e = true → q e = true := fun e he => h e (List.mem_cons_of_mem _ he)
    have mono : l.countP p ≤ l.countP q := List.countP_mono_left hl
    rcases List.mem_cons.mp he with rfl | he
    · rw [List.countP_cons_of_neg (by simp [h2]), List.countP_cons_of_pos h1]
      omega
    · have ih := countP_less hl ⟨e, he, h1, h2⟩
      cases hp : p a with
      | true => rw [List.countP_cons_of_pos hp, List.countP_cons_of_pos (h a List.mem_cons_self hp)]; omega
      | false =>
        rw [List.countP_cons_of_neg (by simp [hp])]
        have := List.countP_le_length (p := q) (l := l)
        cases hq : q a with
        | true => rw [List.countP_cons_of_pos hq]; omega
        | false => rw [List.countP_cons_of_neg (by simp [hq])]; exact ih
/-- an order among these -/
structure OrdD (lt : PyData → PyData → Bool) (ds : List PyData) : Prop where
  asy : ∀ x ∈ ds, ∀ y ∈ ds, lt x y = true → lt y x = false
  tr : ∀ x ∈ ds, ∀ y ∈ ds, ∀ z ∈ ds, lt y x = false → lt z y = false → lt z x = false
def rankD (lt : PyData → PyData → Bool) (ds : List PyData) (d : PyData) : Int := ((ds.countP fun e => lt e d : Nat) : Int)
theorem rank_lt {lt : PyData → PyData → Bool} {ds : List PyData} (o : OrdD lt ds) {d e : PyData} (hd : d ∈ ds) (he : e ∈ ds) : decide (rankD lt ds d < rankD lt ds e) = lt d e := by
  have irr : ∀ x ∈ ds, lt x x = false := fun x hx => by
    cases q : lt x x with
    | false => rfl
    | true => have := o.asy x hx x hx q; rw [q] at this; exact this
  unfold rankD
  cases h : lt d e with
  | true =>
    refine decide_eq_true ?_
    have := countP_less (p := fun z => lt z d) (q := fun z => lt z e) (l := ds) (fun z hz h1 => ?_) ⟨d, hd, h, irr d hd⟩
    · omega
    · show lt z e = true
      cases q : lt z e with
      | true => rfl
      | false => rw [o.tr d hd e he z hz (o.asy d hd e he h) q] at h1; exact h1
  | false =>
    refine decide_eq_false ?_
    have := List.countP_mono_left (p := fun z => lt z e) (q := fun z => lt z d) (l := ds) fun z hz h1 => ?_
    · omega
    · show lt z d = true
      cases q : lt z d with
      | true => rfl
      | false => rw [o.tr e he d hd z hz h q] at h1; exact h1
theorem repAll_map {α : Type} {H : Hp} {f : α → PyData} {g : α → V} : ∀ {l : List α}, (∀ t ∈ l, Rep H (f t) (g t)) → RepAll H (l.map f) (l.map g)
  | [], _ => rfl
  | t :: l, h => ⟨_, _, rfl, h t List.mem_cons_self, repAll_map fun t ht => h t (List.mem_cons_of_mem _ ht)⟩
theorem vals_map {α : Type} {f : α → V} {g : α → Value} : ∀ {l : List α}, (∀ t ∈ l, RelV (f t) (g t)) → Vals (l.map f) (l.map g)
  | [], _ => .nil
  | t :: l, h => .cons (h t List.mem_cons_self) (vals_map fun t ht => h t (List.mem_cons_of_mem _ ht))
section
variable {X : Cx} {pins : List (Addr × Obj)} {σ : L2.St} {H : Hp} {s : Shared} {A : Around} {E : Value → Shared → Prop}
open Classical in
theorem sorted_data (I : Inv X pins σ H s) {p : Addr} {ds : List PyData} {xs : List V} {its : List Value} {κ : SortKind} {lt : PyData → PyData → Bool} {Q : V → Hp → Prop} (hp : H p = some (.lst xs)) (hds : RepAll H ds xs) (rv : Vals xs its) (pl : s.heap.IsList p its.toArray) (hz : xs.length ≤ sizeLine) (o : OrdD lt ds)
    (hk : 2 ≤ its.length → ∀ s' : Shared, (∀ b o, s.heap.get? b = some o → s'.heap.get? b = some o) → ∀ (Q : SortKind → Shared → Prop) (E : Value → Shared → Prop), Q κ s' → wpAny (model X.prog X.w) A.in1.in1 (keyKind' its.toArray) Q E s')
    (hc : ∀ s' : Shared, (∀ b o, s.heap.get? b = some o → s'.heap.get? b = some o) → ∀ (i j : Nat) (d e : PyData) (u v : Value), ds[i]? = some d → its[i]? = some u → ds[j]? = some e → its[j]? = some v → ∀ (Q : Bool → Shared → Prop), Q (lt d e) s' → wpAny (model X.prog X.w) A.in1.in1 (keyLt' κ u v) Q (fun _ _ => False) s')
    (q : ∀ l ys es, H l = none → es.Perm ds → es.Pairwise (fun x y => lt y x = false) → RepAll (upd H l (.lst ys)) es ys → Q (.ref l) (upd H l (.lst ys))) :
    wpAny (model X.prog X.w) A (call (.builtin "sorted") [.ref p]) (fun u s' => ∃ v H', Inv X pins σ H' s' ∧ RelV v u ∧ Q v H') E s := by
  have l1 : xs.length = ds.length := hds.length
  have l2 : xs.length = its.length := rv.length
  obtain ⟨g, hg⟩ : ∃ g : Value → Int, ∀ (i : Nat) (d : PyData) (u : Value), ds[i]? = some d → its[i]? = some u → g u = rankD lt ds d := by
    refine ⟨fun u => if h : ∃ d, ∃ as, Reads s.heap u d as ∧ d ∈ ds then rankD lt ds h.choose else 0, fun i d u h1 h2 => ?_⟩
    obtain ⟨x, e1, r1⟩ := hds.get h1
    obtain ⟨u', e2, r2⟩ := rv.get e1
    rw [h2] at e2; cases e2
    obtain ⟨as, rd⟩ := r1.reads I r2
    have hx : ∃ d, ∃ as, Reads s.heap u d as ∧ d ∈ ds := ⟨d, as, rd, List.mem_of_getElem? h1⟩
    show (if h : ∃ d, ∃ as, Reads s.heap u d as ∧ d ∈ ds then rankD lt ds h.choose else 0) = _
    rw [dif_pos hx]
    obtain ⟨bs, rb, _⟩ := hx.choose_spec
    rw [SeqAt.Reads.unique d hx.choose u as bs r1.lay rd rb]
  refine sorted_any (κ := κ) (g := g) pl (by omega) (fun h2 s' k => ⟨hk h2 s' k, fun x y hx hy Q' hq => ?_⟩) fun us u1 u2 => ?_
  · obtain ⟨i, hi⟩ := List.mem_iff_getElem?.mp hx
    obtain ⟨j, hj⟩ := List.mem_iff_getElem?.mp hy
    have hi' : i < ds.length := by have := (List.getElem?_eq_some_iff.mp hi).1; omega
    have hj' : j < ds.length := by have := (List.getElem?_eq_some_iff.mp hj).1; omega
    have di := List.getElem?_eq_getElem hi'
    have dj := List.getElem?_eq_getElem hj'
    rw [hg i _ x di hi, hg j _ y dj hj, rank_lt o (List.getElem_mem hi') (List.getElem_mem hj')] at hq
    exact hc s' k i j _ _ x y di hi dj hj Q' hq
  · have third : (ds.zip (xs.zip its)).map (fun t => t.2.2) = its := by
      have : (ds.zip (xs.zip its)).map (fun t => t.2.2) = ((ds.zip (xs.zip its)).map Prod.snd).map Prod.snd := by rw [List.map_map]; rfl
      rw [this, List.map_snd_zip (by rw [List.length_zip]; omega), List.map_snd_zip (by omega)]
    have first : (ds.zip (xs.zip its)).map (fun t => t.1) = ds := List.map_fst_zip (by rw [List.length_zip]; omega)
    obtain ⟨T, tp, te⟩ := perm_lift (fun t : PyData × V × Value => t.2.2) u1 third
    have tm : ∀ t ∈ T, ∃ i : Nat, ds[i]? = some t.1 ∧ xs[i]? = some t.2.1 ∧ its[i]? = some t.2.2 := fun t ht => by
      obtain ⟨i, hi⟩ := List.mem_iff_getElem?.mp (tp.mem_iff.mp ht)
      obtain ⟨a1, a2⟩ := List.getElem?_zip_eq_some.mp hi
      obtain ⟨a3, a4⟩ := List.getElem?_zip_eq_some.mp a2
      exact ⟨i, a1, a3, a4⟩
    have tl : T.length = its.length := by rw [tp.length_eq]; have := congrArg List.length third; simpa using this
    obtain ⟨e, he⟩ := sortedAll_at s.heap its us.toArray
    have hn : H (s.heap.objs.size + 1) = none := I.hok.fresh (Nat.le_succ _)
    have hv : Vals (T.map fun t => t.2.1) us := by
      rw [← te]
      exact vals_map fun t ht => by
        obtain ⟨i, _, a2, a3⟩ := tm t ht
        obtain ⟨u, b1, b2⟩ := rv.get a2
        rw [a3] at b1; cases b1
        exact b2
    have hz' : (T.map fun t => t.2.1).length ≤ sizeLine := by rw [List.length_map]; omega
    have hsame : Same H (upd H (s.heap.objs.size + 1) (.lst (T.map fun t => t.2.1))) := fun b o q => by rw [upd_ne (ne_of_none q hn)]; exact q
    refine ⟨.ref (s.heap.objs.size + 1), _, I.laid (t' := s.toks) (o := .lst (T.map fun t => t.2.1)) (fun b u e => sortedAll_old e) (Nat.le_succ _) ⟨hz', _, e, hv, he⟩, rfl, q _ _ (T.map fun t => t.1) hn ?_ ?_ ?_⟩
    · rw [← first]
      exact tp.map _
    · rw [List.pairwise_map]
      have u3 := u2
      rw [← te, List.pairwise_map] at u3
      refine List.Pairwise.imp_of_mem (fun {a b} ha hb hab => ?_) u3
      obtain ⟨i, a1, _, a3⟩ := tm a ha
      obtain ⟨j, b1, _, b3⟩ := tm b hb
      rw [hg i _ _ a1 a3, hg j _ _ b1 b3] at hab
      rw [← rank_lt o (List.mem_of_getElem? b1) (List.mem_of_getElem? a1)]
      exact decide_eq_false (by omega)
    · refine RepAll.same hsame (repAll_map fun t ht => ?_)
      obtain ⟨i, a1, a2, _⟩ := tm t ht
      obtain ⟨x, b1, b2⟩ := hds.get a1
      rw [a2] at b1; cases b1
      exact b2
end
def ltR (x y : PyData) : Bool := rowLt (rowOf x) (rowOf y)
theorem rows_ord {ks : List Bool} {ds : List PyData} (h : Rows ks ds) : OrdD ltR ds := by
  have at' : ∀ d ∈ ds, Row (true :: ks) (rowOf d) := fun d hd => by
    obtain ⟨r, e, hr⟩ := h d hd
    rw [e]; exact hr
  exact ⟨fun x hx y hy q => rl_asy (at' x hx) (at' y hy) q, fun x hx y hy z hz q1 q2 => rl_tr (at' x hx) (at' y hy) (at' z hz) q1 q2⟩
section
variable {X : Cx}
theorem call_sortedN : CallR X (.builtin "sorted") (fun vs H Q => ∃ p xs ds ks, vs = [.ref p] ∧ H p = some (.lst xs) ∧ RepAll H ds xs ∧ Rows ks ds ∧
    ∀ l ys es, H l = none → es.Perm ds → es.Pairwise (fun x y => ltR y x = false) → RepAll (upd H l (.lst ys)) es ys → Q (.ref l) (upd H l (.lst ys))) := by
  intro pins s σ H xs us Q I r h
  obtain ⟨p, xs, ds, ks, rfl, hp, hds, hrows, q⟩ := h
  obtain ⟨u, rfl, r1⟩ := vals1 r
  cases (show u = Value.ref p from r1)
  obtain ⟨its, rv, pl, hz⟩ := I.list (SqL.of (K := X.K) hp)
  have l1 : xs.length = ds.length := hds.length
  have l2 : xs.length = its.length := rv.length
  obtain ⟨fs, kt, kf, ki⟩ := kat_tups I hds rv hrows
  refine sorted_data (κ := tuples' true) (lt := ltR) I hp hds rv pl.isList (by omega) (rows_ord hrows) (fun h2 s' k Q' E' hq => ?_) (fun s' k i j d e u v di ui dj vj Q' hq => ?_) q
  · refine PySem.W.kat_kind (T := Value.type "int") (KatTups.keeps k kt) (by omega) (fun v hv => ?_) rfl hq
    obtain ⟨i, t, rfl⟩ := ki v hv
    exact PySem.W.Looks.of_pure rfl
  · have tup : ∀ (i : Nat) (d : PyData) (u : Value), ds[i]? = some d → its[i]? = some u → ∃ a o vs n bs row, u = .ref a ∧ d = .tuple row ∧ Row (true :: ks) row ∧ s'.heap.get? a = some o ∧ o.data = .seq vs n ∧ ReadsAll s'.heap vs.toList row bs := fun i d u hd hu => by
      obtain ⟨x, e1, e2⟩ := hds.get hd
      obtain ⟨u', e3, e4⟩ := rv.get e1
      rw [hu] at e3; cases e3
      obtain ⟨row, e5, hrow⟩ := hrows _ (List.mem_of_getElem? hd)
      obtain ⟨a, o, vs, n, bs, _, _, rfl, g1, _, g3, g4, _⟩ := tup_of I e2 e4 e5 hrow
      exact ⟨a, o, vs, n, bs, row, rfl, e5, hrow, k _ _ g1, g3, ReadsAll.keeps k g4⟩
    obtain ⟨a, o, vs, n, as1, row, rfl, rfl, e3, e4, e5, e6⟩ := tup i d u di ui
    obtain ⟨a', o', vs', n', as2, row', rfl, rfl, f3, f4, f5, f6⟩ := tup j e v dj vj
    have hq' : Q' (rowLt row row') s' := hq
    have z1 : vs.size = ks.length + 1 := by have q1 := SeqAt.ReadsAll.length _ _ _ e6; have q2 := e3.len; simp at q1 q2; omega
    have z2 : vs'.size = ks.length + 1 := by have q1 := SeqAt.ReadsAll.length _ _ _ f6; have q2 := f3.len; simp at q1 q2; omega
    refine PySem.W.kat_lt e4 e5 f4 f5 ?_
    rw [decide_eq_false (by omega)]
    exact lex_rows e3 f3 e6 f6 hq'
end
end L3

namespace L2
open PySem PySem.Spec PyProof.Rows

section
variable {κ : Type} [DecidableEq κ]
def valV (kvs : List (κ × V)) (k : κ) : Option V := (kvs.find? fun kv => decide (kv.1 = k)).map (·.2)
/-- in its place, or at the end -/
def putK (kvs : List (κ × V)) (k : κ) (v : V) : List (κ × V) :=
  if (kvs.any fun kv => decide (kv.1 = k)) = true then kvs.map (fun kv => if kv.1 = k then (kv.1, v) else kv) else kvs ++ [(k, v)]
def dropK (kvs : List (κ × V)) (k : κ) : List (κ × V) := kvs.filter fun kv => decide (kv.1 ≠ k)

theorem valV_nil {k : κ} : valV ([] : List (κ × V)) k = none := rfl
theorem valV_pos {p : κ × V} {r : List (κ × V)} {k : κ} (e : p.1 = k) : valV (p :: r) k = some p.2 := by simp [valV, List.find?_cons, e]
theorem valV_neg {p : κ × V} {r : List (κ × V)} {k : κ} (e : ¬ p.1 = k) : valV (p :: r) k = valV r k := by simp [valV, List.find?_cons, e]
theorem valV_any (k : κ) : ∀ kvs : List (κ × V), (kvs.any fun kv => decide (kv.1 = k)) = (valV kvs k).isSome
  | [] => rfl
  | p :: r => by
    rw [List.any_cons]
    by_cases e : p.1 = k
    · simp only [valV_pos e, decide_eq_true e, Bool.true_or, Option.isSome_some]
    · rw [valV_neg e, decide_eq_false e, Bool.false_or]; exact valV_any k r
theorem valV_map (k j : κ) (y : V) : ∀ kvs : List (κ × V), valV (kvs.map fun kv => if kv.1 = k then (kv.1, y) else kv) j = (valV kvs j).map fun x => if j = k then y else x
  | [] => rfl
  | p :: r => by
    have ih := valV_map k j y r
    rw [List.map_cons]
    by_cases h : p.1 = k
    · rw [if_pos h]
      by_cases e : p.1 = j
      · rw [valV_pos (p := (p.1, y)) e, valV_pos e, Option.map_some, if_pos (e.symm.trans h)]
      · rw [valV_neg (p := (p.1, y)) e, valV_neg e, ih]
    · rw [if_neg h]
      by_cases e : p.1 = j
      · rw [valV_pos (p := p) e, valV_pos e, Option.map_some, if_neg (fun z => h (e.trans z))]
      · rw [valV_neg (p := p) e, valV_neg e, ih]
theorem valV_snoc (k j : κ) (y : V) : ∀ kvs : List (κ × V), valV kvs k = none → valV (kvs ++ [(k, y)]) j = if j = k then some y else valV kvs j
  | [], _ => by
    by_cases e : k = j
    · rw [if_pos e.symm]; exact valV_pos (p := (k, y)) e
    · rw [if_neg (fun z => e z.symm)]; exact valV_neg (p := (k, y)) e
  | p :: r, hn => by
    rw [List.cons_append]
    have hk : ¬ p.1 = k := fun z => by rw [valV_pos z] at hn; cases hn
    rw [valV_neg hk] at hn
    have ih := valV_snoc k j y r hn
    by_cases e : p.1 = j
    · rw [valV_pos e, valV_pos e, if_neg (fun z => hk (e.trans z))]
    · rw [valV_neg e, valV_neg e, ih]
theorem valV_put (kvs : List (κ × V)) (k j : κ) (y : V) : valV (putK kvs k y) j = if j = k then some y else valV kvs j := by
  unfold putK
  by_cases a : (kvs.any fun kv => decide (kv.1 = k)) = true
  · rw [if_pos a, valV_map]
    rw [valV_any] at a
    by_cases e : j = k
    · obtain ⟨x, hx⟩ := Option.isSome_iff_exists.mp a
      rw [if_pos e, e, hx, Option.map_some, if_pos rfl]
    · rw [if_neg e]
      cases valV kvs j with
      | none => rfl
      | some x => rw [Option.map_some, if_neg e]
  · rw [if_neg a]
    refine valV_snoc k j y kvs ?_
    rw [valV_any] at a
    cases q : valV kvs k with
    | none => rfl
    | some x => rw [q] at a; exact (a rfl).elim
theorem length_putK (kvs : List (κ × V)) (k : κ) (v : V) : (putK kvs k v).length ≤ kvs.length + 1 := by
  unfold putK
  split
  · rw [List.length_map]; omega
  · rw [List.length_append, List.length_cons, List.length_nil]; omega
theorem putK_new {kvs : List (κ × V)} {k : κ} (v : V) (h : valV kvs k = none) : putK kvs k v = kvs ++ [(k, v)] := by
  unfold putK
  rw [valV_any, h]
  exact if_neg (by decide)

theorem RelO.isSome_eq {o : Option V} {u : Option Value} (r : RelO o u) : o.isSome = u.isSome := by
  cases o with
  | none => cases u with
    | none => rfl
    | some _ => exact (show False from r).elim
  | some _ => cases u with
    | none => exact (show False from r).elim
    | some _ => rfl
theorem RelO.getD {o : Option V} {u : Option Value} {d : V} {d' : Value} (r : RelO o u) (rd : RelV d d') : RelV (o.getD d) (u.getD d') := by
  cases o with
  | none => cases u with
    | none => exact rd
    | some _ => exact (show False from r).elim
  | some _ => cases u with
    | none => exact (show False from r).elim
    | some _ => exact r

/-- raw tables of the same keys -/
theorem KV.val {kvs : List (κ × V)} {vs : List (κ × Value)} (r : KV kvs vs) (k : κ) : RelO (valV kvs k) (valueAt vs k) := by
  unfold KV at r
  induction r with
  | nil => exact True.intro
  | @cons p q ps qs h t ih =>
    obtain ⟨h1, h2⟩ := h
    by_cases e : p.1 = k
    · have e' : q.1 = k := h1.symm.trans e
      have b : valueAt (q :: qs) k = some q.2 := by simp [valueAt, List.find?_cons, e']
      rw [valV_pos e, b]; exact h2
    · have e' : ¬ q.1 = k := fun z => e (h1.trans z)
      have b : valueAt (q :: qs) k = valueAt qs k := by simp [valueAt, List.find?_cons, e']
      rw [valV_neg e, b]; exact ih
theorem KV.any {kvs : List (κ × V)} {vs : List (κ × Value)} (r : KV kvs vs) (k : κ) : (kvs.any fun kv => decide (kv.1 = k)) = vs.any fun kv => decide (kv.1 = k) := by
  unfold KV at r
  induction r with
  | nil => rfl
  | cons h t ih => rw [List.any_cons, List.any_cons, ih, h.1]
theorem KV.repl {kvs : List (κ × V)} {vs : List (κ × Value)} (r : KV kvs vs) (k : κ) {y : V} {u : Value} (ry : RelV y u) :
    KV (kvs.map fun kv => if kv.1 = k then (kv.1, y) else kv) (vs.map fun kv => if kv.1 = k then (kv.1, u) else kv) := by
  unfold KV at r ⊢
  induction r with
  | nil => exact .nil
  | @cons p q ps qs h t ih =>
    rw [List.map_cons, List.map_cons]
    refine .cons ?_ ih
    obtain ⟨h1, h2⟩ := h
    by_cases e : p.1 = k
    · rw [if_pos e, if_pos (h1.symm.trans e)]; exact ⟨h1, ry⟩
    · rw [if_neg e, if_neg (fun z => e (h1.trans z))]; exact ⟨h1, h2⟩
theorem KV.put {kvs : List (κ × V)} {vs : List (κ × Value)} (r : KV kvs vs) (k : κ) {y : V} {u : Value} (ry : RelV y u) : KV (putK kvs k y) (stored vs k u) := by
  unfold putK stored
  rw [r.any k]
  by_cases e : (vs.any fun kv => decide (kv.1 = k)) = true
  · rw [if_pos e, if_pos e]; exact r.repl k ry
  · rw [if_neg e, if_neg e]; exact Paired.snoc r ⟨rfl, ry⟩
theorem KV.keys {kvs : List (κ × V)} {vs : List (κ × Value)} (r : KV kvs vs) : kvs.map (·.1) = vs.map (·.1) := by
  unfold KV at r
  induction r with
  | nil => rfl
  | cons h t ih => rw [List.map_cons, List.map_cons, ih, h.1]
theorem KV.length {kvs : List (κ × V)} {vs : List (κ × Value)} (r : KV kvs vs) : kvs.length = vs.length := Paired.length r
theorem dropK_le (kvs : List (κ × V)) (k : κ) : (dropK kvs k).length ≤ kvs.length := List.length_filter_le _ _
end


theorem kV_is {P : Program} {w : World} {k : Key} {u : Value} (r : RelV (kV k) u) : (mixKind P w).is k u = true := by
  cases k with
  | inl i => obtain ⟨t, e⟩ := (show ∃ t, u = Value.int i t from r); subst e; exact mixKind_int P w i t
  | inr x => obtain ⟨t, e⟩ := (show ∃ t, u = Value.str x t from r); subst e; exact mixKind_str P w x t
theorem kV_inj {a b : Key} (e : kV a = kV b) : a = b := by
  cases a with
  | inl i => cases b with
    | inl j => have e' : V.int i = V.int j := e; injection e' with e'; rw [e']
    | inr y => exact nomatch (show V.int i = V.str y from e)
  | inr x => cases b with
    | inl j => exact nomatch (show V.str x = V.int j from e)
    | inr y => have e' : V.str x = V.str y := e; injection e' with e'; rw [e']
theorem kVs_inj : ∀ {a b : List Key}, a.map kV = b.map kV → a = b
  | [], [], _ => rfl
  | [], _ :: _, e => by simp at e
  | _ :: _, [], e => by simp at e
  | x :: xs, y :: ys, e => by
    rw [List.map_cons, List.map_cons] at e
    injection e with e1 e2
    rw [kV_inj e1, kVs_inj e2]
theorem items_are {P : Program} {w : World} : ∀ {ks : List Key} {us : List Value}, Vals (ks.map kV) us → ItemsAre (mixKind P w) ks us
  | [], _, r => by rw [List.map_nil] at r; cases r; exact .nil
  | k :: ks, _, r => by
    rw [List.map_cons] at r
    cases r with
    | cons h t => exact .cons (kV_is h) (items_are t)

/-- raw entries of a dict with tuple keys -/
abbrev KT (H : Hp) : List (List Key × V) → List (List Key × Addr × Value) → Prop := Paired fun p q => p.1 = q.1 ∧ H q.2.1 = some (.tup (p.1.map kV)) ∧ RelV p.2 q.2.2
theorem KT.val {H : Hp} {kvs : List (List Key × V)} {xs : List (List Key × Addr × Value)} (r : KT H kvs xs) (k : List Key) : RelO (valV kvs k) ((atKey xs k).map (·.2)) := by
  induction r with
  | nil => exact True.intro
  | @cons p q ps qs h t ih =>
    obtain ⟨h1, _, h2⟩ := h
    by_cases e : p.1 = k
    · have e' : q.1 = k := h1.symm.trans e
      have b : atKey (q :: qs) k = some q.2 := by simp [atKey, List.find?_cons, e']
      rw [valV_pos e, b]; exact h2
    · have e' : ¬ q.1 = k := fun z => e (h1.trans z)
      have b : atKey (q :: qs) k = atKey qs k := by simp [atKey, List.find?_cons, e']
      rw [valV_neg e, b]; exact ih
theorem KT.repl {H : Hp} {kvs : List (List Key × V)} {xs : List (List Key × Addr × Value)} (r : KT H kvs xs) (k : List Key) {y : V} {u : Value} (ry : RelV y u) :
    KT H (kvs.map fun kv => if kv.1 = k then (kv.1, y) else kv) (xs.map (putAt k u)) := by
  induction r with
  | nil => exact .nil
  | @cons p q ps qs h t ih =>
    rw [List.map_cons, List.map_cons]
    refine .cons ?_ ih
    obtain ⟨h1, h2, h3⟩ := h
    unfold putAt
    by_cases e : p.1 = k
    · rw [if_pos e, if_pos (h1.symm.trans e)]; exact ⟨h1, h2, ry⟩
    · rw [if_neg e, if_neg (fun z => e (h1.trans z))]; exact ⟨h1, h2, h3⟩
theorem KT.put {H : Hp} {kvs : List (List Key × V)} {xs : List (List Key × Addr × Value)} (r : KT H kvs xs) (k : List Key) {b : Addr} {y : V} {u : Value} (hb : H b = some (.tup (k.map kV))) (ry : RelV y u) :
    KT H (putK kvs k y) (storedH xs k b u) := by
  have e : (kvs.any fun kv => decide (kv.1 = k)) = (atKey xs k).isSome := by
    rw [valV_any, (r.val k).isSome_eq, Option.isSome_map]
  unfold putK storedH
  rw [e]
  by_cases q : (atKey xs k).isSome = true
  · rw [if_pos q, if_pos q]; exact r.repl k ry
  · rw [if_neg q, if_neg q]; exact Paired.snoc r ⟨rfl, hb, ry⟩
theorem KT.keeps {H H' : Hp} {kvs : List (List Key × V)} {xs : List (List Key × Addr × Value)} (r : KT H kvs xs) (ht : ∀ b ys, H b = some (.tup ys) → H' b = some (.tup ys)) : KT H' kvs xs :=
  Paired.mapP r fun _ _ z => ⟨z.1, ht _ _ z.2.1, z.2.2⟩

section
variable {P : Program} {w : World} {H : Hp} {h : Heap} {a : Addr}
theorem rd_of {u : HO} (ok : HOk P w H h) (e : Rd H a u) : ObjOk P w H h a u := e.ok ok
theorem dk_rd {kvs : List (Key × V)} (ok : HOk P w H h) (e : Rd H a (.dK kvs)) : kvs.length ≤ sizeLine ∧ (a == sysModules) = false ∧ ∃ vs, KV kvs vs ∧ h.DictOf (mixKind P w) a vs :=
  show ObjOk P w H h a (.dK kvs) from rd_of ok e
theorem dk_of {kvs : List (Key × V)} (ok : HOk P w H h) (e : H a = some (.dK kvs)) : kvs.length ≤ sizeLine ∧ (a == sysModules) = false ∧ ∃ vs, KV kvs vs ∧ h.DictOf (mixKind P w) a vs := dk_rd ok (.inl e)
/-- a tracked tuple of ints and texts is a key -/
theorem key_of {ks : List Key} (ok : HOk P w H h) (e : H a = some (.tup (ks.map kV))) : (tupleKind (mixKind P w)).is h ks a := by
  obtain ⟨_, its, r, o, h1, h2, n, h3⟩ := (show ObjOk P w H h a (.tup (ks.map kV)) from ok a _ e)
  exact ⟨o, its.toArray, n, h1, h2, h3, by simpa using items_are r⟩
theorem dt_rd {kvs : List (List Key × V)} (ok : HOk P w H h) (e : Rd H a (.dT kvs)) : kvs.length ≤ sizeLine ∧ (a == sysModules) = false ∧
    ∃ xs, KT H kvs xs ∧ h.DictOfH (tupleKind (mixKind P w)) a xs := by
  obtain ⟨z, y, xs, r, o, es, ep, h1, h2, h3, h4, h5⟩ := (show ObjOk P w H h a (.dT kvs) from rd_of ok e)
  refine ⟨z, y, xs, r, o, es, ep, h1, h2, h3, h4, fun x hx => ?_, h5⟩
  have all : ∀ {l : List (List Key × V)} {m : List (List Key × Addr × Value)}, KT H l m → ∀ x ∈ m, (tupleKind (mixKind P w)).is h x.1 x.2.1 := by
    intro l m q
    induction q with
    | nil => intro x hx; exact nomatch hx
    | @cons p q ps qs hq t ih =>
      intro x hx
      rcases List.mem_cons.mp hx with e | hx
      · subst e
        exact key_of ok (by rw [← hq.1]; exact hq.2.1)
      · exact ih x hx
  exact all r x hx
theorem dt_of {kvs : List (List Key × V)} (ok : HOk P w H h) (e : H a = some (.dT kvs)) : kvs.length ≤ sizeLine ∧ (a == sysModules) = false ∧
    ∃ xs, KT H kvs xs ∧ h.DictOfH (tupleKind (mixKind P w)) a xs := dt_rd ok (.inl e)
end

/-- what the dict at a holds at the key y -/
def DGet (H : Hp) (a : Addr) (y : V) (r : Option V) : Prop :=
  (∃ kvs k, Rd H a (.dK kvs) ∧ y = kV k ∧ r = valV kvs k) ∨ ∃ kvs k b, Rd H a (.dT kvs) ∧ y = .ref b ∧ H b = some (.tup (k.map kV)) ∧ r = valV kvs k
/-- the heap behind a[y] = v -/
def DPut (H : Hp) (a : Addr) (y v : V) (H' : Hp) : Prop :=
  (∃ kvs k, H a = some (.dK kvs) ∧ y = kV k ∧ kvs.length < sizeLine ∧ H' = upd H a (.dK (putK kvs k v))) ∨
  ∃ kvs k b, H a = some (.dT kvs) ∧ y = .ref b ∧ H b = some (.tup (k.map kV)) ∧ kvs.length < sizeLine ∧ H' = upd H a (.dT (putK kvs k v))
theorem DGet.k {H : Hp} {a : Addr} {kvs : List (Key × V)} {k : Key} (e : H a = some (.dK kvs)) : DGet H a (kV k) (valV kvs k) := .inl ⟨kvs, k, .inl e, rfl, rfl⟩
theorem DGet.t {H : Hp} {a b : Addr} {kvs : List (List Key × V)} {k : List Key} (e : H a = some (.dT kvs)) (eb : H b = some (.tup (k.map kV))) : DGet H a (.ref b) (valV kvs k) := .inr ⟨kvs, k, b, .inl e, rfl, eb, rfl⟩
theorem DPut.k {H : Hp} {a : Addr} {kvs : List (Key × V)} {k : Key} {v : V} (e : H a = some (.dK kvs)) (hl : kvs.length < sizeLine) : DPut H a (kV k) v (upd H a (.dK (putK kvs k v))) := .inl ⟨kvs, k, e, rfl, hl, rfl⟩
theorem DPut.t {H : Hp} {a b : Addr} {kvs : List (List Key × V)} {k : List Key} {v : V} (e : H a = some (.dT kvs)) (eb : H b = some (.tup (k.map kV))) (hl : kvs.length < sizeLine) :
    DPut H a (.ref b) v (upd H a (.dT (putK kvs k v))) := .inr ⟨kvs, k, b, e, rfl, eb, hl, rfl⟩


section
variable {X : Cx} {pins : List (Addr × Obj)} {σ : St} {H : Hp} {s : Shared} {a : Addr} {y v : V} {u r : Value} {o : Option V} {A : Around} {E : Value → Shared → Prop}

theorem Inv.big (I : Inv X pins σ H s) : sysModules < s.heap.objs.size := by
  have h : mainGlobals < s.heap.objs.size := (I.mod.glob.keeps I.bk).lt
  exact Nat.lt_trans (by decide) h

/-- d[y], there -/
theorem d_getItem {Q : Value → Shared → Prop} (hu : A.units + 1 < cLine) (I : Inv X pins σ H s) (g : DGet H a y (some v)) (ry : RelV y u) (h : ∀ w' s', Inv X pins σ H s' → RelV v w' → Q w' s') :
    wpAny (model X.prog X.w) A (getItem (.ref a) u) Q E s := by
  rcases g with ⟨kvs, k, e, ey, l⟩ | ⟨kvs, k, b, e, ey, eb, l⟩
  · subst ey
    obtain ⟨z, hd, vs, rel, dd⟩ := dk_rd I.hok e
    obtain ⟨w', hw, rw'⟩ := RelO.some_of (v := v) (o := valueAt vs k) (by rw [l]; exact rel.val k)
    exact wpAny_getItem_of (kV_is ry) dd.mapOf hw (h w' _ (I.tok _) rw')
  · subst ey
    cases (show u = Value.ref b from ry)
    obtain ⟨z, hd, xs, rel, dd⟩ := dt_rd I.hok e
    obtain ⟨w', hw, rw'⟩ := RelO.some_of (v := v) (o := (atKey xs k).map (·.2)) (by rw [l]; exact rel.val k)
    obtain ⟨p, hp, hp2⟩ := Option.map_eq_some_iff.mp hw
    refine wpAny_getItem_heap (tupleKind_room_in1 hu) (key_of I.hok eb) dd hp ?_
    rw [hp2]
    exact h w' _ (I.tok _) rw'
/-- y in d -/
theorem d_in {Q : Value → Shared → Prop} (hu : A.units + 1 < cLine) (I : Inv X pins σ H s) (g : DGet H a y o) (ry : RelV y u) (h : ∀ s', Inv X pins σ H s' → Q (.bool o.isSome) s') :
    wpAny (model X.prog X.w) A (compareOp .In u (.ref a)) Q E s := by
  rcases g with ⟨kvs, k, e, ey, l⟩ | ⟨kvs, k, b, e, ey, eb, l⟩
  · subst ey
    obtain ⟨z, hd, vs, rel, dd⟩ := dk_rd I.hok e
    refine wpAny_in_of (kV_is ry) hd dd.mapOf ?_
    rw [← (rel.val k).isSome_eq, ← l]
    exact h _ (I.tok _)
  · subst ey
    cases (show u = Value.ref b from ry)
    obtain ⟨z, hd, xs, rel, dd⟩ := dt_rd I.hok e
    refine wpAny_in_heap (tupleKind_room_in1 hu) (key_of I.hok eb) hd dd ?_
    have q := (rel.val k).isSome_eq
    rw [Option.isSome_map] at q
    rw [← q, ← l]
    exact h _ (I.tok _)
theorem d_notIn {Q : Value → Shared → Prop} (hu : A.units + 1 < cLine) (I : Inv X pins σ H s) (g : DGet H a y o) (ry : RelV y u) (h : ∀ s', Inv X pins σ H s' → Q (.bool (!o.isSome)) s') :
    wpAny (model X.prog X.w) A (compareOp .NotIn u (.ref a)) Q E s := by
  rcases g with ⟨kvs, k, e, ey, l⟩ | ⟨kvs, k, b, e, ey, eb, l⟩
  · subst ey
    obtain ⟨z, hd, vs, rel, dd⟩ := dk_rd I.hok e
    refine wpAny_notIn_of (kV_is ry) hd dd.mapOf ?_
    rw [← (rel.val k).isSome_eq, ← l]
    exact h _ (I.tok _)
  · subst ey
    cases (show u = Value.ref b from ry)
    obtain ⟨z, hd, xs, rel, dd⟩ := dt_rd I.hok e
    refine wpAny_notIn_heap (tupleKind_room_in1 hu) (key_of I.hok eb) hd dd ?_
    have q := (rel.val k).isSome_eq
    rw [Option.isSome_map] at q
    rw [← q, ← l]
    exact h _ (I.tok _)
/-- a dict's object is replaced -/
theorem d_write {h' : Heap} {t' : Nat} {ob : HO} (I : Inv X pins σ H s) (mu : Mut (H a)) (hs : Heap.SameBut a s.heap h') (he : ∃ q, h'.get? a = some q) (new : ObjOk X.prog X.w (upd H a ob) h' a ob) :
    Inv X pins σ (upd H a ob) { s with heap := h', toks := t' } :=
  I.write (x := a) (e := a) mu (.inl rfl) (fun b q hb z => (hs.2 b hb).trans z) he new
theorem dk_new {P : Program} {w : World} {H' : Hp} {h' : Heap} {kvs : List (Key × V)} {vs : List (Key × Value)} (z : kvs.length ≤ sizeLine) (hd : (a == sysModules) = false) (rel : KV kvs vs) (dd : h'.DictOf (mixKind P w) a vs) :
    ObjOk P w H' h' a (.dK kvs) := ⟨z, hd, vs, rel, dd⟩
/-- d[y] = v -/
theorem d_setItem {H' : Hp} {Q : Unit → Shared → Prop} (hu : A.units + 1 < cLine) (I : Inv X pins σ H s) (g : DPut H a y v H') (ry : RelV y u) (rv : RelV v r) (h : ∀ s', Inv X pins σ H' s' → Q () s') :
    wpAny (model X.prog X.w) A (setItem (.ref a) u r) Q E s := by
  rcases g with ⟨kvs, k, e, ey, l, eH⟩ | ⟨kvs, k, b, e, ey, eb, l, eH⟩
  · subst ey eH
    obtain ⟨z, hd, vs, rel, dd⟩ := dk_of I.hok e
    have hz : vs.length ≤ sizeLine := by rw [← rel.length]; exact z
    have hl : (putK kvs k v).length ≤ sizeLine := by have := length_putK kvs k v; omega
    refine wpAny_setItem_pairs (hsz := hz) (kV_is ry) dd fun h' dd' hs => h _ ?_
    have he : ∃ q, h'.get? a = some q := let ⟨q, _, _, hq, _⟩ := dd'; ⟨q, hq⟩
    exact d_write I (by rw [e]; exact True.intro) hs he (dk_new hl hd (rel.put k rv) dd')
  · subst ey eH
    cases (show u = Value.ref b from ry)
    obtain ⟨z, hd, xs, rel, dd⟩ := dt_of I.hok e
    have hz : xs.length ≤ sizeLine := by rw [← Paired.length rel]; exact z
    have hl : (putK kvs k v).length ≤ sizeLine := by have := length_putK kvs k v; omega
    refine wpAny_setItem_heap (hsz := hz) (tupleKind_room_in1 hu) (key_of I.hok eb) dd fun h' dd' hs => h _ ?_
    obtain ⟨q, es, ep, hq, h2, h3, h4, _, h5⟩ := dd'
    refine d_write I (by rw [e]; exact True.intro) hs ⟨q, hq⟩ ⟨hl, hd, _, (rel.put k eb rv).keeps fun c ys ec => ?_, q, es, ep, hq, h2, h3, h4, h5⟩
    rw [upd_ne (ne_of ec e (fun z => nomatch z))]
    exact ec
end

/-- the element of a subscription, not a slice -/
def NoSl (i : Expr) : Prop := ∀ ov iv, subscripted i false ov iv = operate [ov, iv] (getItem ov iv)
theorem subD_of {prog : Program} {w : World} {A : Around} {E : Value → Shared → Prop} {s : Shared} {env : Env} {value slice : Expr} {pos : Pos} {T id : String} {Q : Value → Shared → Prop}
    (hl : typeLookup (.type T) "__getitem__" = pure (some (.builtin id))) (hs : NoSl slice)
    (h : wpAny (model prog w) A (eval value env) (fun o s₁ => wpAny (model prog w) A (eval slice env) (fun i s₂ => s₂.TypeIs o T ∧ wpAny (model prog w) A (getItem o i) Q E s₂) E s₁) E s) :
    wpAny (model prog w) A (eval (.Subscript value slice pos) env) Q E s := by
  refine Subscript_ (wpAny_mono h (fun o s₁ h₁ => wpAny_mono h₁ (fun i s₂ h₂ => ?_) fun _ _ x => x) fun _ _ x => x)
  obtain ⟨hT, h₂⟩ := h₂
  unfold subscriptTail
  refine wpAny_bind ?_
  rw [getitemInPython_of_ne hT.not_modules]
  refine wpAny_bind (wpAny_specialOf hT hl ?_)
  have fin : wpAny (model prog w) A (subscripted slice false o i) (fun r s₃ => wpAny (model prog w) A (letTemporaryGo value o r >>= fun _ => pure r) Q E s₃) E s₂ := by
    rw [hs o i]
    exact wpAny_operating (wpAny_mono h₂ (fun r s₃ h₃ => wpAny_bind (wpAny_letTemporaryGo (wpAny_pure h₃))) fun _ _ x => x)
  first
    | exact wpAny_pure (wpAny_bind fin)
    | exact wpAny_bind (wpAny_pure (wpAny_bind fin))
    | exact wpAny_bind fin

theorem dict_typeIs {X : Cx} {pins : List (Addr × Obj)} {σ : St} {H : Hp} {s : Shared} {a : Addr} {y : V} {o : Option V} (I : Inv X pins σ H s) (g : DGet H a y o) : s.TypeIs (.ref a) "dict" := by
  rcases g with ⟨kvs, k, e, _, _⟩ | ⟨kvs, k, b, e, _, _, _⟩
  · obtain ⟨_, _, vs, _, dd⟩ := dk_rd I.hok e
    exact dd.typeIs
  · obtain ⟨_, _, xs, _, dd⟩ := dt_rd I.hok e
    exact dd.typeIs
theorem dict_noDict {X : Cx} {pins : List (Addr × Obj)} {σ : St} {H : Hp} {s : Shared} {a : Addr} {y : V} {o : Option V} (I : Inv X pins σ H s) (g : DGet H a y o) :
    ∀ b, Value.ref a = .ref b → ∃ ob, s.heap.get? b = some ob ∧ ob.dict = none := fun b q => by
  cases q
  rcases g with ⟨kvs, k, e, _, _⟩ | ⟨kvs, k, b, e, _, _, _⟩
  · obtain ⟨_, _, vs, _, ob, _, _, h1, h2, _⟩ := dk_rd I.hok e
    exact ⟨ob, h1, h2.2.1⟩
  · obtain ⟨_, _, xs, _, ob, _, _, h1, h2, _⟩ := dt_rd I.hok e
    exact ⟨ob, h1, h2.2.1⟩

/-- d[y] -/
def tDGet (td ty : TE) : TE := fun σ H Q => td σ H fun x H1 => ty σ H1 fun y H2 => ∃ a v, x = .ref a ∧ DGet H2 a y (some v) ∧ Q v H2
/-- y in d, y not in d -/
def tDIn (ty td : TE) : TE := fun σ H Q => ty σ H fun y H1 => td σ H1 fun x H2 => ∃ a o, x = .ref a ∧ DGet H2 a y o ∧ Q (.bl o.isSome) H2
def tDNotIn (ty td : TE) : TE := fun σ H Q => ty σ H fun y H1 => td σ H1 fun x H2 => ∃ a o, x = .ref a ∧ DGet H2 a y o ∧ Q (.bl (!o.isSome)) H2
/-- d[y] = v -/
def sDPut (td ty tv : TE) : TS := fun D σ H => tv σ H fun v H1 => td σ H1 fun x H2 => ty σ H2 fun y H3 => ∃ a H4, x = .ref a ∧ DPut H3 a y v H4 ∧ D.nx σ H4
section
variable {X : Cx} {o i e value : Expr} {pos pos' tpos : Pos} {td ty tv : TE}
theorem pe_dget (hu : X.A.units + 1 < cLine) (ho : PE X o td) (hi : PE X i ty) (hs : NoSl i) : PE X (.Subscript o i pos) (tDGet td ty) := by
  intro pins s σ H Q I h
  refine subD_of PySem.F.slot_dict_getitem.lookup hs (thn (ho pins s σ H _ I h) fun u s1 ⟨x, H1, I1, rx, q1⟩ => thn (hi pins s1 σ H1 _ I1 q1) fun iv s2 ⟨y, H2, I2, ry, a, v, ex, g, q2⟩ => ?_)
  subst ex
  obtain rfl : u = Value.ref a := rx
  exact ⟨dict_typeIs I2 g, d_getItem hu I2 g ry fun w' s3 I3 rw' => ⟨v, H2, I3, rw', q2⟩⟩
theorem pc_din (hu : X.A.units + 1 < cLine) (hi : PE X i ty) (ho : PE X o td) : PC X .In i o (tDIn ty td) := by
  intro pins s σ H Q I h
  refine thn (hi pins s σ H _ I h) fun iv s1 ⟨y, H1, I1, ry, q1⟩ => thn (ho pins s1 σ H1 _ I1 q1) fun u s2 ⟨x, H2, I2, rx, a, ov, ex, g, q2⟩ => ?_
  subst ex
  obtain rfl : u = Value.ref a := rx
  exact d_in hu I2 g ry fun s3 I3 => ⟨.bl ov.isSome, H2, I3, rfl, q2⟩
theorem pc_dnotin (hu : X.A.units + 1 < cLine) (hi : PE X i ty) (ho : PE X o td) : PC X .NotIn i o (tDNotIn ty td) := by
  intro pins s σ H Q I h
  refine thn (hi pins s σ H _ I h) fun iv s1 ⟨y, H1, I1, ry, q1⟩ => thn (ho pins s1 σ H1 _ I1 q1) fun u s2 ⟨x, H2, I2, rx, a, ov, ex, g, q2⟩ => ?_
  subst ex
  obtain rfl : u = Value.ref a := rx
  exact d_notIn hu I2 g ry fun s3 I3 => ⟨.bl (!ov.isSome), H2, I3, rfl, q2⟩
theorem ps_dput (hu : X.A.units + 1 < cLine) (ho : PE X o td) (hi : PE X i ty) (hv : PE X value tv) (hs : swapsWith value (some (.Subscript o i pos')) pos.line X.env = pure false) :
    PS X (.Assign [.Subscript o i pos'] value pos) (sDPut td ty tv) := by
  intro pins s σ H D I h
  refine wpAny_Assign_Subscript (thn (hv pins s σ H _ I h) fun r s1 ⟨v, H1, I1, rv, q1⟩ => thn (ho pins s1 σ H1 _ I1 q1) fun u s2 ⟨x, H2, I2, rx, q2⟩ => thn (hi pins s2 σ H2 _ I2 q2) fun iv s3 ⟨y, H3, I3, ry, a, H4, ex, g, q3⟩ => ?_) hs
  subst ex
  obtain rfl : u = Value.ref a := rx
  exact d_setItem hu I3 g ry rv fun s4 I4 => ⟨σ, H4, I4, q3⟩
end


theorem dk_empty {P : Program} {w : World} {H : Hp} (h : Heap) (hb : sysModules < h.objs.size) : ObjOk P w H (h.push { cls := .type "dict", data := .dict #[] }) h.objs.size (.dK []) :=
  ⟨Nat.zero_le _, beq_eq_false_iff_ne.mpr (Ne.symm (Nat.ne_of_lt hb)), [], .nil, Heap.DictOf.new h⟩
/-- {}, to be a dict of the kind that is wanted -/
def tDNewK : TE := fun _ H Q => ∀ p, H p = none → Q (.ref p) (upd H p (.dK []))
section
variable {X : Cx} {pos : Pos}
theorem pe_dnewK : PE X (.Dict [] [] pos) tDNewK := fun pins s σ H Q I h =>
  wpAny_Dict_empty ⟨.ref s.heap.objs.size, _, I.laid (a := s.heap.objs.size) (o := .dK []) (t' := s.toks) (fun _ _ q => Heap.get?_push_of_some _ q) (Nat.le_refl _) (dk_empty s.heap I.big), rfl, h _ (I.hok.fresh (Nat.le_refl _))⟩
end

/-- a method call o.m(e) of a built-in, with one argument: what must be seen of the text -/
structure M1 (X : Cx) (o : Expr) (m : Str) (apos : Pos) (e : Expr) (cpos : Pos) : Prop where
  base : attributeBase o m X.env (eval o X.env) = eval o X.env
  few : ((backTo cpos (starEach [e] X.env)).all (fun x => !x.1) && (backToKw cpos (keywordEach [] X.env)).all (fun x => x.1.isSome)
    && decide (([e] : List Expr).length + ([] : List Keyword).length + (if ([] : List Keyword).isEmpty then 0 else 1) < 30)) = true
  line : (apos.endLine == cpos.line) = true
  trees : backTo cpos (starEach [e] X.env) = [(false, eval e X.env)]
structure M2 (X : Cx) (o : Expr) (m : Str) (apos : Pos) (e f : Expr) (cpos : Pos) : Prop where
  base : attributeBase o m X.env (eval o X.env) = eval o X.env
  few : ((backTo cpos (starEach [e, f] X.env)).all (fun x => !x.1) && (backToKw cpos (keywordEach [] X.env)).all (fun x => x.1.isSome)
    && decide (([e, f] : List Expr).length + ([] : List Keyword).length + (if ([] : List Keyword).isEmpty then 0 else 1) < 30)) = true
  line : (apos.endLine == cpos.line) = true
  trees : backTo cpos (starEach [e, f] X.env) = [(false, eval e X.env), (false, eval f X.env)]

/-- a is a dict, whatever its keys -/
def IsD (H : Hp) (a : Addr) : Prop := (∃ kvs, Rd H a (.dK kvs)) ∨ ∃ kvs, Rd H a (.dT kvs)
theorem isD_at {X : Cx} {pins : List (Addr × Obj)} {σ : St} {H : Hp} {s : Shared} {a : Addr} (I : Inv X pins σ H s) (d : IsD H a) :
    s.TypeIs (.ref a) "dict" ∧ (∀ b, Value.ref a = .ref b → ∃ ob, s.heap.get? b = some ob ∧ ob.dict = none) ∧ (a == sysModules) = false := by
  rcases d with ⟨kvs, e⟩ | ⟨kvs, e⟩
  · obtain ⟨_, hd, vs, _, dd⟩ := dk_rd I.hok e
    refine ⟨dd.typeIs, fun b q => ?_, hd⟩
    cases q
    obtain ⟨ob, _, _, h1, h2, _⟩ := dd
    exact ⟨ob, h1, h2.2.1⟩
  · obtain ⟨_, hd, xs, _, dd⟩ := dt_rd I.hok e
    refine ⟨dd.typeIs, fun b q => ?_, hd⟩
    cases q
    obtain ⟨ob, _, _, h1, h2, _⟩ := dd
    exact ⟨ob, h1, h2.2.1⟩

section
variable {X : Cx} {pins : List (Addr × Obj)} {σ : St} {H : Hp} {s : Shared} {a : Addr} {y d : V} {u r : Value} {o : Option V} {A : Around} {E : Value → Shared → Prop}
/-- d.get(y) -/
theorem d_get1 {Q : Value → Shared → Prop} (hu : A.units + 1 < cLine) (I : Inv X pins σ H s) (g : DGet H a y o) (ry : RelV y u) (h : ∀ w' s', Inv X pins σ H s' → RelV (o.getD .non) w' → Q w' s') :
    wpAny (model X.prog X.w) A (call (.builtin "dict.get") [.ref a, u]) Q E s := by
  rcases g with ⟨kvs, k, e, ey, l⟩ | ⟨kvs, k, b, e, ey, eb, l⟩
  · subst ey
    obtain ⟨z, hd, vs, rel, dd⟩ := dk_rd I.hok e
    refine call_meetsIn PySem.F.slot_dict_get dd.typeIs PySem.F.entry_dict_get (PySem.F.args_dict_get_2 _ _) (meets_dict_get (mixKind X.prog X.w) a (kV_is ry) hd) ⟨_, dd.mapOf, h _ _ (I.tok _) ?_⟩
    rw [l]
    exact (rel.val k).getD rfl
  · subst ey
    cases (show u = Value.ref b from ry)
    obtain ⟨z, hd, xs, rel, dd⟩ := dt_rd I.hok e
    refine call_meetsIn PySem.F.slot_dict_get dd.typeIs PySem.F.entry_dict_get (PySem.F.args_dict_get_2 _ _) (meetsH_dict_get (tupleKind (mixKind X.prog X.w)) a b hd) ⟨tupleKind_room_in1 hu, k, xs, key_of I.hok eb, dd, h _ _ (I.tok _) ?_⟩
    rw [l]
    exact (rel.val k).getD rfl
/-- d.get(y, x) -/
theorem d_get2 {Q : Value → Shared → Prop} (hu : A.units + 1 < cLine) (I : Inv X pins σ H s) (g : DGet H a y o) (ry : RelV y u) (rd : RelV d r) (h : ∀ w' s', Inv X pins σ H s' → RelV (o.getD d) w' → Q w' s') :
    wpAny (model X.prog X.w) A (call (.builtin "dict.get") [.ref a, u, r]) Q E s := by
  rcases g with ⟨kvs, k, e, ey, l⟩ | ⟨kvs, k, b, e, ey, eb, l⟩
  · subst ey
    obtain ⟨z, hd, vs, rel, dd⟩ := dk_rd I.hok e
    refine call_meetsIn PySem.F.slot_dict_get dd.typeIs PySem.F.entry_dict_get (PySem.F.args_dict_get_3 _ _ _) (meets_dict_get_default (mixKind X.prog X.w) a (kV_is ry) hd r) ⟨_, dd.mapOf, h _ _ (I.tok _) ?_⟩
    rw [l]
    exact (rel.val k).getD rd
  · subst ey
    cases (show u = Value.ref b from ry)
    obtain ⟨z, hd, xs, rel, dd⟩ := dt_rd I.hok e
    refine call_meetsIn PySem.F.slot_dict_get dd.typeIs PySem.F.entry_dict_get (PySem.F.args_dict_get_3 _ _ _) (meetsH_dict_get_default (tupleKind (mixKind X.prog X.w)) a b hd r) ⟨tupleKind_room_in1 hu, k, xs, key_of I.hok eb, dd, h _ _ (I.tok _) ?_⟩
    rw [l]
    exact (rel.val k).getD rd
end

def tDGet1 (td ty : TE) : TE := fun σ H Q => td σ H fun x H1 => ∃ a, x = .ref a ∧ IsD H1 a ∧ ty σ H1 fun y H2 => ∃ o, DGet H2 a y o ∧ Q (o.getD .non) H2
def tDGet2 (td ty tx : TE) : TE := fun σ H Q => td σ H fun x H1 => ∃ a, x = .ref a ∧ IsD H1 a ∧ ty σ H1 fun y H2 => tx σ H2 fun z H3 => ∃ o, DGet H3 a y o ∧ Q (o.getD z) H3
section
variable {X : Cx} {o e f : Expr} {apos cpos : Pos} {td ty tx : TE}
theorem pe_dget1 (hu : X.A.units + 1 < cLine) (ho : PE X o td) (he : PE X e ty) (m : M1 X o "get" apos e cpos) : PE X (.Call (.Attribute o "get" apos) [e] [] cpos) (tDGet1 td ty) := by
  intro pins s σ H Q I h
  refine wpAny_Call_method m.base m.few m.line PySem.F.plainAttrs_dict PySem.F.slot_dict_get PySem.F.type_dict_get (thn (ho pins s σ H _ I h) fun u s1 ⟨x, H1, I1, rx, a, ex, d, q1⟩ => ?_)
  subst ex
  obtain rfl : u = Value.ref a := rx
  obtain ⟨t1, t2, _⟩ := isD_at I1 d
  refine ⟨t1, t2, ?_⟩
  rw [m.trees]
  refine Calls.callWith_builtin rfl (Calls.evalArgs_plain (Calls.spliced_cons (thn (he pins s1 σ H1 _ I1 q1) fun iv s2 ⟨y, H2, I2, ry, ov, g, q2⟩ => Calls.spliced_nil ?_)))
  exact d_get1 hu I2 g ry fun w' s3 I3 rw' => ⟨_, H2, I3, rw', q2⟩
theorem pe_dget2 (hu : X.A.units + 1 < cLine) (ho : PE X o td) (he : PE X e ty) (hf : PE X f tx) (m : M2 X o "get" apos e f cpos) : PE X (.Call (.Attribute o "get" apos) [e, f] [] cpos) (tDGet2 td ty tx) := by
  intro pins s σ H Q I h
  refine wpAny_Call_method m.base m.few m.line PySem.F.plainAttrs_dict PySem.F.slot_dict_get PySem.F.type_dict_get (thn (ho pins s σ H _ I h) fun u s1 ⟨x, H1, I1, rx, a, ex, d, q1⟩ => ?_)
  subst ex
  obtain rfl : u = Value.ref a := rx
  obtain ⟨t1, t2, _⟩ := isD_at I1 d
  refine ⟨t1, t2, ?_⟩
  rw [m.trees]
  refine Calls.callWith_builtin rfl (Calls.evalArgs_plain (Calls.spliced_cons (thn (he pins s1 σ H1 _ I1 q1) fun iv s2 ⟨y, H2, I2, ry, q2⟩ =>
    Calls.spliced_cons (thn (hf pins s2 σ H2 _ I2 q2) fun fv s3 ⟨z, H3, I3, rz, ov, g, q3⟩ => Calls.spliced_nil ?_))))
  exact d_get2 hu I3 g ry rz fun w' s4 I4 rw' => ⟨_, H3, I4, rw', q3⟩
end

/-! ### dict(d): a copy -/
end L2

set_option maxHeartbeats 1600000
namespace L3
open PySem
open AutoSeq1 (wpAny_loadPart')
/-! ### tuple(d.values()) -/
theorem vals_lenD : typeLookup (.type "dict_values") "__len__" = pure (some (.builtin "dict_values.__len__")) := by rw [typeLookup_type, builtinLookup_eq_fast]; kernel_rfl
section
variable {prog : Program} {w : World} {K : Type} [DecidableEq K] {knd : KeyKind prog w K} {A : Around} {E : Value → Shared → Prop} {s : Shared} {v d : Addr} {kvs : List (K × Value)}
theorem collect_vals {Q : List Value → Shared → Prop} (hh : A.handled = none) (hv : s.heap.IsValuesView v d) (hd : s.heap.DictOf knd d kvs) (hz : kvs.length ≤ sizeLine)
    (hQ : ∀ s', (∀ b o, s.heap.get? b = some o → s'.heap.get? b = some o) → s'.gens = s.gens → s'.drawn = s.drawn → s'.os = s.os → Q (kvs.map (·.2)) s') : wpAny (model prog w) A (collect (.ref v)) Q E s := by
  obtain ⟨ep, hm⟩ := hd.dictAt
  obtain ⟨ov, hov, hcv, hdv⟩ := id hv
  have hvl := Heap.lt_size hov
  have hdl := hm.lt_size
  unfold collect
  refine wpAny_bind (wpAny_runValue (codeAny_builtin PySem.F.entry_proto_collect ?_))
  rw [Around.under_plainId PySem.F.plain_proto_collect _]
  show wpAny _ A.in1 (newList [] >>= fun l => again (.builtin "list.__iadd__" ⟨[l, .ref v], []⟩)) _ _ s
  refine wpAny_bind (wpAny_newObj_type ?_)
  refine wpAny_pure ⟨plainId_quiet PySem.F.plain_list_iadd _, codeAny_builtin PySem.F.entry_list_iadd ?_⟩
  rw [Around.under_plainId PySem.F.plain_list_iadd _]
  show wpAny _ A.in1 (Builtin.List.listExtendWith (.ref s.heap.objs.size) (.ref v) (.ref s.heap.objs.size)) _ _ _
  unfold Builtin.List.listExtendWith
  generalize hH : s.heap.push { cls := .type "list", data := .seq ([] : List Value).toArray } = H
  have hHs : H.objs.size = s.heap.objs.size + 1 := by rw [← hH, Heap.size_push]
  have kp : ∀ b ob, s.heap.get? b = some ob → H.get? b = some ob := fun b ob e => hH ▸ Heap.get?_push_of_some _ e
  have hHS : H.get? s.heap.objs.size = some { cls := .type "list", data := .seq ([] : List Value).toArray } := hH ▸ Heap.get?_push_size _ rfl
  have hT : ∀ (s' : Shared), s'.heap.get? v = some ov → s'.TypeIs (.ref v) "dict_values" := fun s' e => ⟨ov, e, hcv⟩
  refine wpAny_bind (wpAny_typeOf (T := "dict_values") (hT _ (kp _ _ hov)) ?_)
  have h1 : Builtin.List.listSameRef (.ref s.heap.objs.size) (.ref v) = false := by show (s.heap.objs.size == v) = false; exact beq_false_of_ne (Nat.ne_of_gt hvl)
  have h2 : (Value.type "dict_values" == Value.type "list") = false := by decide
  have h3 : (Value.type "dict_values" == Value.type "tuple") = false := by decide
  simp only [h1, h2, h3, Bool.or_false, Bool.false_eq_true, if_false]
  refine wpAny_bind (wpAny_pyIter_values (s := { s with heap := H }) (d := d) ⟨ov, kp _ _ hov, hcv, hdv⟩ (hm.keep kp) ?_)
  show wpAny _ A.in1 _ _ _ { s with heap := H.push { cls := .type "dict_valueiterator", data := .fields #[.ref d, .int 0 0, .int kvs.length 0, .int ep 0] } }
  generalize hG : H.push { cls := .type "dict_valueiterator", data := .fields #[.ref d, .int 0 0, .int kvs.length 0, .int ep 0] } = G
  have kg : ∀ b ob, H.get? b = some ob → G.get? b = some ob := fun b ob e => hG ▸ Heap.get?_push_of_some _ e
  have hit : G.IsValIter H.objs.size d 0 kvs.length ep := ⟨_, hG ▸ Heap.get?_push_size _ rfl, rfl, rfl⟩
  show wpAny _ A.in1 (holding [.ref H.objs.size] _ >>= _) _ _ _
  refine wpAny_bind (wpAny_holding ?_)
  unfold Builtin.List.listLengthHint
  have ho1 : G.get? v = some ov := kg _ _ (kp _ _ hov)
  refine wpAny_bind (wpAny_specialOf (T := "dict_values") (v := .ref v) (hT _ ho1) vals_lenD ?_)
  wp_delta
  refine wpAny_bind (wpAny_isInstance (T := "dict_values") (v := .ref v) (b := true) (hT _ ho1) (by rw [isSubtype_type]; kernel_rfl) ?_)
  show wpAny _ A.in1 (typeOf (Value.ref v) >>= _) _ _ _
  refine wpAny_bind (wpAny_typeOf (T := "dict_values") (v := .ref v) (hT _ ho1) ?_)
  refine wpAny_pure ?_
  rw [if_pos (by decide)]
  show wpAny _ A.in1 (rule "list.extend.makes-room" >>= fun _ => Builtin.List.listTouch (.ref s.heap.objs.size) >>= fun _ =>
    again (.builtin "list.extend.loop" ⟨[.ref s.heap.objs.size, .ref H.objs.size, .ref s.heap.objs.size], []⟩)) _ _ _
  refine wpAny_bind (wpAny_rule ?_)
  refine wpAny_bind ?_
  show wpAny _ A.in1 (updateSeq s.heap.objs.size (·.push .none) >>= fun _ => updateSeq s.heap.objs.size (·.pop)) _ _ _
  have hS : G.get? s.heap.objs.size = some { cls := .type "list", data := .seq ([] : List Value).toArray } := kg _ _ hHS
  refine wpAny_bind (wpAny_updateSeq hS rfl ?_)
  have hS₂ := Heap.get?_update_self (Obj.mapSeq (·.push Value.none)) hS rfl
  refine wpAny_updateSeq (hz := by seq_fits) hS₂ rfl ?_
  have hS₃ := Heap.get?_update_self (Obj.mapSeq (·.pop)) hS₂ rfl
  have oth : ∀ b ob, b ≠ s.heap.objs.size → G.get? b = some ob → ((G.update s.heap.objs.size (Obj.mapSeq (·.push Value.none))).update s.heap.objs.size (Obj.mapSeq (·.pop))).get? b = some ob :=
    fun b ob hb e => (Heap.get?_update_other _ _ (Ne.symm hb)).trans ((Heap.get?_update_other _ _ (Ne.symm hb)).trans e)
  have nI : H.objs.size ≠ s.heap.objs.size := by omega
  have nd : d ≠ s.heap.objs.size := Nat.ne_of_lt hdl
  have W := (Walks.dictValues (prog := prog) (w := w) (knd := knd) (A := A.in1) hh H.objs.size d (Nat.ne_of_lt (by rw [hHs]; exact Nat.lt_succ_of_lt hdl)) kvs ep).toS
  refine wpAny_pure ⟨plainId_quiet PySem.F.plain_extend_loop _, codeAny_extend_loopS W hz s.heap.objs.size (fun z => by rcases List.mem_cons.mp z with z | z; exact nI z.symm; exact nd (List.mem_singleton.mp z).symm) _ kvs.length 0 _ _ _ rfl (Nat.zero_le _)
    ⟨hit.at fun o e => oth _ o nI e, ((hm.keep kp).keep kg).at' fun o e => oth _ o nd e⟩ hS₃ (ItemsOf.nil _) fun s' acc' c' hmv hS' hacc => ?_⟩
  show wpAny _ A (load s.heap.objs.size >>= _) _ _ s'
  refine wpAny_bind (wpAny_load hS' ?_)
  have e : acc'.toList = kvs.map (·.2) := by
    apply List.ext_getElem?
    intro i
    have hl : acc'.size = kvs.length := hacc.1
    by_cases hi : i < kvs.length
    · have ea : acc'[i]? = some (acc'[i]'(by omega)) := getElem?_pos acc' i (by omega)
      obtain ⟨k, hk⟩ := hacc.2 i _ ea
      rw [Array.getElem?_toList, ea, List.getElem?_map, hk]
      rfl
    · rw [List.getElem?_eq_none (by simp; omega), List.getElem?_eq_none (by simp; omega)]
  have kept : ∀ b o, s.heap.get? b = some o → s'.heap.get? b = some o := fun b o eb => by
    have hb := Heap.lt_size eb
    have n1 : b ≠ s.heap.objs.size := Nat.ne_of_lt hb
    have n2 : b ≠ H.objs.size := Nat.ne_of_lt (by rw [hHs]; exact Nat.lt_succ_of_lt hb)
    exact hmv.heap b o (fun z => by rcases List.mem_cons.mp z with z | z; exact n1 z; exact n2 (List.mem_singleton.mp z)) (oth b o n1 (kg _ _ (kp _ _ eb)))
  refine wpAny_pure ?_
  show Q acc'.toList s'
  rw [e]
  exact hQ s' kept hmv.gens hmv.drawn hmv.os
theorem meets_tuple_vals (knd : KeyKind prog w K) (v d : Addr) (kvs : List (K × Value)) (hz : kvs.length ≤ sizeLine) :
    MeetsIn prog w (Builtin.«tuple.__new__» ⟨[.type "tuple", .ref v], []⟩)
      (fun A R s => A.handled = none ∧ s.heap.IsValuesView v d ∧ s.heap.DictOf knd d kvs ∧ ∀ (s' : Shared), (∀ b o, s.heap.get? b = some o → s'.heap.get? b = some o) → s'.gens = s.gens → s'.drawn = s.drawn → s'.os = s.os →
        R (.ok (.ret (.ref s'.heap.objs.size))) { s' with heap := s'.heap.push { cls := .type "tuple", data := .seq (kvs.map (·.2)).toArray } }) :=
  .of_wp fun A R s h => by
    obtain ⟨hh, hv, hd, h⟩ := h
    have hsub := sub_tuple_self
    have hinit := init_tuple_lookup
    have hmh := madeHere_tuple
    have hT : s.TypeIs (.ref v) "dict_values" := hv.typeIs
    have hh1 : A.in1.handled = none := hh
    wp_walk using wpAny_typeOf hT, collect_vals (knd := knd) hh1 hv hd hz
    intro s' hk hg hdr hos
    show wpAny _ _ (Builtin.Tuple.tupleExact (kvs.map (·.2)).toArray >>= fun v => ret v) _ _ _
    unfold Builtin.Tuple.tupleExact
    refine wpAny_bind (wpAny_newObj_type ?_ (show (kvs.map (·.2)).toArray.size ≤ sizeLine by simpa using hz))
    refine wpAny_pure ⟨_, rfl, ?_⟩
    exact h s' hk hg hdr hos
theorem call_tuple_vals {Q : Value → Shared → Prop} (hh : A.handled = none) (hv : s.heap.IsValuesView v d) (hd : s.heap.DictOf knd d kvs) (hz : kvs.length ≤ sizeLine)
    (h : ∀ (h' : Heap) (tk : Nat), (∀ b o, s.heap.get? b = some o → h'.get? b = some o) → Q (.ref h'.objs.size) { s with heap := h'.push { cls := .type "tuple", data := .seq (kvs.map (·.2)).toArray }, toks := tk }) :
    wpAny (model prog w) A (call (.type "tuple") [.ref v]) Q E s := by
  refine callType_newIn F.called_tuple (by decide) (F.typeCall_tuple_1 _) (F.newCall_tuple_1 _) (fun obj => F.args_object_init_2 obj _) F.entry_tuple_new
    (meets_tuple_vals knd v d kvs hz) ⟨hh, hv, hd, fun s' hk hg hdr hos => ⟨⟨_, Heap.get?_push_size _ rfl, rfl⟩, ?_⟩⟩
  obtain ⟨h', g', d', tk', os'⟩ := s'
  have e1 : g' = s.gens := hg
  have e2 : d' = s.drawn := hdr
  have e3 : os' = s.os := hos
  subst e1 e2 e3
  exact h h' tk' hk
end
end L3

set_option maxHeartbeats 4000000
namespace L3
open PySem PySem.Spec PyProof.Rows L2
/-! ### a list comprehension one of whose own names is a cell (a further comprehension within reads it) -/
def cxK (X : Cx) (N : List Str) (scope : Scope) (y : Str) (z : CZ) : Cx := { cxComp X N scope z with fn := fun x => x == y }
theorem wpAny_envK {M : Model} {A : Around} {E : Value → Shared → Prop} {s : Shared} {scope : Scope} {globals : Addr} {cl : List (Str × Addr)} {qual : Str} {env : Env} {y : Str} {Q : Env → Shared → Prop}
    (hcf : ∀ n acc, cellsFrom n scope.names acc = (y, n) :: acc) (hpc : ∀ h, pushCells h scope.names = h.push { cls := .type "cell", data := .cell none })
    (hQ : Q { scope, locals := s.heap.objs.size, globals, cells := (y, s.heap.objs.size + 1) :: cl, qual, func := none, code := env.code, frame := env.frame, builtins := env.builtins }
      { s with heap := (s.heap.push { cls := .type "dict", data := .dict #[] }).push { cls := .type "cell", data := .cell none } }) :
    wpAny M A (newFunctionEnv scope globals cl [] qual none .none (some env)) Q E s := by
  simp only [newFunctionEnv, Option.isSome_some, if_true]
  refine wpAny_bind (wpAny_alloc ?_)
  refine wpAny_bind (wpAny_layCells _ (fun name kind cells => by cases hkc : kind == NameKind.cell <;> simp [hkc]) _ _ _ _ ?_)
  rw [hcf, hpc, show ({ s with heap := s.heap.push { cls := .type "dict", data := .dict #[] } } : Shared).heap.objs.size = s.heap.objs.size + 1 from Heap.size_push ..]
  refine wpAny_bind ?_
  rw [List.forIn_nil]
  exact wpAny_pure (wpAny_pure hQ)
/-- y is the only cell among the names -/
def oneCell (scope : Scope) (y : Str) : Bool := scope.names.all (fun p => p.2 != .cell || p.1 == y) && scope.names.lookup y == some .cell
theorem oneCell.only {scope : Scope} {y : Str} (h : oneCell scope y = true) : (∀ p ∈ scope.names, p.2 = .cell → p.1 = y) ∧ scope.names.lookup y = some .cell := by
  unfold oneCell at h
  rw [Bool.and_eq_true, List.all_eq_true] at h
  refine ⟨fun p hp e => ?_, by simpa using h.2⟩
  have := h.1 p hp
  rw [e] at this
  simpa using this
theorem relabel_visK {scope : Scope} {env : Env} {x y : Str} (hy : ∀ p ∈ scope.names, p.2 = .cell → p.1 = y) (h : (relabel scope env).names.lookup x = some .cell ∨ (relabel scope env).names.lookup x = some .free) : x = y ∨ (x, NameKind.free) ∈ scope.names := by
  rcases h with h | h
  · have hm := PySem.mem_of_lookup h
    obtain ⟨⟨n, k⟩, hn, e⟩ := List.mem_map.mp hm
    dsimp only at e
    split at e
    · rename_i hc
      simp only [Bool.and_eq_true, beq_iff_eq] at hc
      cases e
      rw [hc.1.1] at hn
      exact .inr hn
    · cases e
      exact .inl (hy _ hn rfl)
  · have hm := PySem.mem_of_lookup h
    obtain ⟨⟨n, k⟩, hn, e⟩ := List.mem_map.mp hm
    dsimp only at e
    split at e
    · cases e
    · cases e
      exact .inr hn
theorem comp_startK {X : Cx} {pins : List (Addr × Obj)} {σ : L2.St} {H : Hp} {s : Shared} (I : Inv X pins σ H s) {scope : Scope} {N' : List Str} {sl : List (Option Nat)} {fp : List Addr} {h₁ : Heap} {m : Str → Option Value} {tk : Nat}
    (hk : scope.kind = .function) {y : Str} (hone : oneCell scope y = true) (hfree : ∀ x ∈ scope.names, x.2 = .free → X.env.scope.names.lookup x.1 = some .cell ∨ X.env.scope.names.lookup x.1 = some .free)
    (hsl : slOk X.N N' sl scope X.env.scope = true) (hfp : ∀ b ∈ fp, FpOk X pins H b) (hlt : ∀ b ∈ fp, b < s.heap.objs.size)
    (hns : h₁.Ns s.heap.objs.size m) (hcell : h₁.IsCell (s.heap.objs.size + 1) none) (hkeep : ∀ b o, s.heap.get? b = some o → h₁.get? b = some o) :
    Inv (cxK X N' scope y ⟨(y, s.heap.objs.size + 1) :: clFrom X.env.cells scope.names [], s.heap.objs.size, s, H, fp⟩) [] (picks sl σ) H { s with heap := h₁, toks := tk } := by
  have cof : ∀ x c, (clFrom X.env.cells scope.names []).lookup x = some c → X.env.cells.lookup x = some c := fun x c e => by
    rcases clFrom_of e with q | q
    · exact q
    · cases q
  have has : ∀ x, (x, NameKind.free) ∈ scope.names → ∃ c, (clFrom X.env.cells scope.names []).lookup x = some c := fun x hx =>
    clFrom_has hx (I.ok.has x (hfree _ hx rfl))
  obtain ⟨hyo, hyl⟩ := oneCell.only hone
  have two : ∀ x c, ((y, s.heap.objs.size + 1) :: clFrom X.env.cells scope.names []).lookup x = some c → (x = y ∧ c = s.heap.objs.size + 1) ∨ (x ≠ y ∧ X.env.cells.lookup x = some c) := fun x c e => by
    rw [List.lookup_cons] at e
    cases hb : x == y with
    | true => rw [hb] at e; cases e; exact .inl ⟨by simpa using hb, rfl⟩
    | false => rw [hb] at e; exact .inr ⟨by simpa using hb, cof x c e⟩
  have old : ∀ x c, X.env.cells.lookup x = some c → c < s.heap.objs.size := fun x c e => by
    obtain ⟨v, o, ho, _⟩ := I.cell x c e
    exact Heap.lt_size ho
  refine ⟨⟨I.ok.mod, hk, I.ok.glob, I.ok.blt, Nat.le_refl _, fun x x' c h1 h2 => ?_, fun x hx => ?_, fun x c hf h1 => ?_, I.ok.hd, I.ok.frames, .inl rfl,
      fun b hb => ⟨Nat.ne_of_lt (hlt b hb), fun x c e => ?_⟩, I.bs, Nat.le_trans I.ok.bsz I.sz, fun b o e hb => ?_, fun b hb hz => ?_, I.stack, I.stkFree⟩,
    rfl, I.bare, Un.kept hkeep, ⟨m, hns, fun i x v h1 h2 _ => ?_⟩, fun x c e => ?_, I.hok.fresh (Nat.le_refl _), fun x c e => ?_, fun p hp => absurd (show p ∈ ([] : List (Addr × Obj)) from hp) (by simp), I.hok.kept hkeep, ?_⟩
  · rcases two x c h1 with ⟨e1, e2⟩ | ⟨e1, e2⟩ <;> rcases two x' c h2 with ⟨f1, f2⟩ | ⟨f1, f2⟩
    · rw [e1, f1]
    · have := old x' c f2; rw [e2] at this; exact absurd this (Nat.not_lt.mpr (Nat.le_succ _))
    · have := old x c e2; rw [f2] at this; exact absurd this (Nat.not_lt.mpr (Nat.le_succ _))
    · exact I.ok.inj x x' c e2 f2
  · rcases relabel_visK hyo hx with e | e
    · exact ⟨s.heap.objs.size + 1, by subst e; show List.lookup x ((x, _) :: _) = _; rw [List.lookup_cons]; simp⟩
    · obtain ⟨c, hc⟩ := has x e
      show ∃ c, List.lookup x ((y, s.heap.objs.size + 1) :: clFrom X.env.cells scope.names []) = some c
      rw [List.lookup_cons]
      cases hb : x == y with
      | true => exact ⟨_, rfl⟩
      | false => exact ⟨c, hc⟩
  · rcases two x c h1 with ⟨e1, e2⟩ | ⟨e1, e2⟩
    · rw [e2]; exact Nat.le_succ _
    · exact absurd (show (x == y) = true from hf) (by simpa using e1)
  · rcases two x c e with ⟨_, e2⟩ | ⟨_, e2⟩
    · intro z; have := hlt b hb; rw [← z, e2] at this; exact absurd this (Nat.not_lt.mpr (Nat.le_succ _))
    · exact (hfp b hb).2.2.2.2.1 x c e2
  · rcases (hfp b hb).2.2.2.1 with z | z
    · exact I.ok.noex b o e z
    · exact absurd (Nat.lt_of_lt_of_le (Heap.lt_size (I.ok.bs b o e).1) z) (Nat.lt_irrefl _)
  · rcases List.mem_cons.mp (I.stkSub b hz) with z | z
    · exact (hfp b hb).2.1 z
    · exact (hfp b hb).2.2.1 z
  · have h2' : (picks sl σ)[i]? = some (some v) := h2
    unfold picks at h2'
    rw [List.getElem?_map] at h2'
    cases q : sl[i]? with
    | none => rw [q] at h2'; cases h2'
    | some o =>
      rw [q] at h2'
      cases o with
      | none => cases h2'
      | some j =>
        have e : (σ[j]?).getD none = some v := by simpa using h2'
        have e2 : σ[j]? = some (some v) := by
          cases r : σ[j]? with
          | none => rw [r] at e; cases e
          | some w => rw [r] at e; simp at e; rw [e]
        obtain ⟨a1, a2, a3⟩ := slOk.at hsl h1 q
        obtain ⟨mo, _, hl⟩ := I.loc
        obtain ⟨u, r, l⟩ := hl j x v a1 e2 (.inr a3)
        refine ⟨u, r, .inr ⟨relabel_free a2, ?_⟩⟩
        have a4 : X.env.kindOf x = some .cell ∨ X.env.kindOf x = some .free := a3
        rcases l with ⟨l, _⟩ | ⟨_, c, e3, z⟩
        · rcases a4 with a4 | a4 <;> · rw [l] at a4; cases a4
        · obtain ⟨c', e4⟩ := has x (PySem.mem_of_lookup a2)
          have e5 := cof x c' e4
          rw [e3] at e5; cases e5
          obtain ⟨o, ho, hd⟩ := z
          refine ⟨c, ?_, o, hkeep _ _ ho, hd⟩
          show List.lookup x ((y, s.heap.objs.size + 1) :: clFrom X.env.cells scope.names []) = some c
          have hxy : (x == y) = false := by
            cases hb : x == y with
            | false => rfl
            | true => rw [show x = y by simpa using hb, hyl] at a2; cases a2
          rw [List.lookup_cons, hxy]
          exact e4
  · rcases two x c e with ⟨_, e2⟩ | ⟨_, e2⟩
    · rw [e2]; exact ⟨none, hcell⟩
    · obtain ⟨v, o, ho, hd⟩ := I.cell x c e2
      exact ⟨v, o, hkeep _ _ ho, hd⟩
  · rcases two x c e with ⟨_, e2⟩ | ⟨_, e2⟩
    · rw [e2]; exact I.hok.fresh (Nat.le_succ _)
    · exact I.freeC x c e2
  · show (picks sl σ).length = N'.length
    unfold picks
    rw [List.length_map]
    exact slOk.len hsl

section
variable {X : Cx} {elt target iter : Expr} {ifs : List Expr} {scope : Scope} {pos : Pos}
theorem comp_blockK {N' : List Str} {sl : List (Option Nat)} {g : TG} {tt : TT} {te : TE} {pins : List (Addr × Obj)} {s₂ : Shared} {σ : L2.St} {H2 : Hp} {Q : VK} {RR : Value → Addr → Result → Shared → Prop} {E : Value → Shared → Prop}
    {it : Addr} {fp : List Addr} {tn : Nat → Heap → Prop} {J : It} (hc : X.calm = true) (hkind : scope.kind = .function)
    {y : Str} (hone : oneCell scope y = true) (hcf : ∀ n acc, cellsFrom n scope.names acc = (y, n) :: acc) (hpc : ∀ h, pushCells h scope.names = h.push { cls := .type "cell", data := .cell none }) (hfree : ∀ x ∈ scope.names, x.2 = .free → X.env.scope.names.lookup x.1 = some .cell ∨ X.env.scope.names.lookup x.1 = some .free)
    (hsl : slOk X.N N' sl scope X.env.scope = true)
    (hg : ∀ z, PG (cxK X N' scope y z) target g) (ht : ∀ z, PTs (cxK X N' scope y z) ifs tt) (he : ∀ z, PE (cxK X N' scope y z) elt te)
    (I2 : Inv X pins σ H2 s₂) (T : Turn X.prog X.w X.K target J fp it tn) (st2 : tn 0 s₂.heap) (f2 : ∀ b ∈ fp, FpOk X pins H2 b) (hw : ∀ D, H2 D = none → CompR J sl g tt te σ H2 D Q)
    (hR : ∀ D C H' s', H' C = none → (∃ m, s'.heap.Ns C m) → FpOk X pins H' C → (∀ h', Heap.SameBut C s'.heap h' → Inv X pins σ H' { s' with heap := h' }) → Inv X pins σ H' s' → Q (.ref D) H' → RR (.ref D) C (.ok .next) s') :
    wpAny (model X.prog X.w) X.A (newList []) (fun acc s₃ => wpAny (model X.prog X.w) X.A (newFunctionEnv scope X.env.globals (clFrom X.env.cells scope.names []) [] X.env.qual none .none (some X.env)) (fun cenv s₄ =>
      codeAny (model X.prog X.w) X.A (.compStart (.ListComp elt [⟨target, iter, ifs, 0⟩] scope pos) 0 (.ref it) acc { cenv with scope := relabel scope X.env }) (RR acc cenv.locals) s₄) E s₃) E s₂ := by
  have hlt2 : ∀ b ∈ fp, b < s₂.heap.objs.size := fun b hb => by
    obtain ⟨o, e, _⟩ := T.obj _ _ st2 b hb
    exact Heap.lt_size e
  have hD : H2 s₂.heap.objs.size = none := I2.hok.fresh (Nat.le_refl _)
  obtain ⟨W, ⟨m0, w0⟩, turn⟩ := hw _ hD
  refine wpAny_newList ?_ (Nat.zero_le _)
  have I3 := I2.lnew (ys := []) (its := []) (t' := s₂.toks) .nil (Nat.zero_le _)
  refine wpAny_envK hcf hpc ?_
  generalize hs3 : ({ s₂ with heap := s₂.heap.push { cls := .type "list", data := .seq ([] : List Value).toArray } } : Shared) = s₃ at *
  generalize hh1 : (s₃.heap.push { cls := .type "dict", data := .dict #[] }).push { cls := .type "cell", data := .cell none } = h₁
  have hns₁ : h₁.Ns s₃.heap.objs.size (fun _ => none) := hh1 ▸ (Heap.Ns.new s₃.heap (.type "dict")).keeps fun b o e => Heap.get?_push_of_some _ e
  have hcell₁ : h₁.IsCell (s₃.heap.objs.size + 1) none := by
    have e : (s₃.heap.push { cls := .type "dict", data := .dict #[] }).objs.size = s₃.heap.objs.size + 1 := Heap.size_push ..
    rw [← hh1, ← e]
    exact ⟨_, Heap.get?_push_size _ rfl, rfl⟩
  have hs3' : s₃.heap = s₂.heap.push { cls := .type "list", data := .seq ([] : List Value).toArray } := by rw [← hs3]
  have hC3 : s₃.heap.objs.size = s₂.heap.objs.size + 1 := by rw [hs3', Heap.size_push]
  have keep23 : ∀ b o, s₂.heap.get? b = some o → s₃.heap.get? b = some o := fun b o e => by rw [hs3']; exact Heap.get?_push_of_some _ e
  have keep3 : ∀ b o, s₃.heap.get? b = some o → h₁.get? b = some o := fun b o e => hh1 ▸ Heap.get?_push_of_some _ (Heap.get?_push_of_some _ e)
  have hne : ∀ b ∈ fp, b ≠ s₂.heap.objs.size := fun b hb => Nat.ne_of_lt (hlt2 b hb)
  have f3 : ∀ b ∈ fp, FpOk X pins (upd H2 s₂.heap.objs.size (.lst [])) b := fun b hb => ⟨by rw [upd_ne (hne b hb)]; exact (f2 b hb).1, (f2 b hb).2⟩
  have hlt3 : ∀ b ∈ fp, b < s₃.heap.objs.size := fun b hb => by rw [hC3]; exact Nat.lt_succ_of_lt (hlt2 b hb)
  have I4 := comp_startK (tk := s₃.toks) I3 hkind hone hfree hsl f3 hlt3 hns₁ hcell₁ keep3
  have st4 : tn 0 h₁ := T.keep _ _ _ st2 fun b _ o e => keep3 b o (keep23 b o e)
  generalize hz : (⟨(y, s₃.heap.objs.size + 1) :: clFrom X.env.cells scope.names [], s₃.heap.objs.size, s₃, upd H2 s₂.heap.objs.size (.lst []), fp⟩ : CZ) = z at I4
  have ezC : z.C = s₃.heap.objs.size := by rw [← hz]
  have ezx : z.ex = fp := by rw [← hz]
  have stat : ∀ {H' : Hp}, (∀ b ∈ fp, H' b = none) → ∀ b ∈ fp, FpOk (cxK X _ scope y z) [] H' b := fun hn b hb => by
    subst hz
    have q := I4.ok.exf b hb
    exact ⟨hn b hb, q.1, I4.ok.exfs b hb, .inl hb, q.2, fun p hp => absurd (show p ∈ ([] : List (Addr × Obj)) from hp) (by simp)⟩
  have loop : ∀ s₄ : Shared, s₄ = { s₃ with heap := h₁, toks := s₃.toks } →
      codeAny (model X.prog X.w) X.A (.compLoop (.ListComp elt [⟨target, iter, ifs, 0⟩] scope pos) 0 (.ref it) (.ref s₂.heap.objs.size) (cxK X N' scope y z).env) (RR (.ref s₂.heap.objs.size) s₃.heap.objs.size) s₄ := by
    rintro s₄ rfl
    refine compLoop_gen (fun n s' => ∃ i H', Inv (cxK X N' scope y z) [] (picks sl σ) H' s' ∧ tn i s'.heap ∧ (∀ b ∈ fp, H' b = none) ∧ W i n H') ?_ m0 ⟨0, _, I4, st4, fun b hb => (f3 b hb).1, w0⟩
    rintro n s5 ⟨i, H5, I5, st5, fr5, w5⟩
    rcases turn i n H5 w5 with ⟨stop, qn⟩ | ⟨go, N, hN, step⟩
    · refine thn (T.done (cxK X N' scope y z) rfl rfl rfl hc i [] s5 _ H5 _ I5 (stat fr5) st5 stop) fun r s6 ⟨hr, I6⟩ => ?_
      subst hr
      have un : Un (frs X.stack) fp (upd H2 s₂.heap.objs.size (.lst [])) H5 s₃.heap s6.heap := by subst hz; exact I6.base
      have os6 : s6.os = s₃.os := by subst hz; exact I6.os
      have fC : H5 s₃.heap.objs.size = none := by subst hz; exact I6.free
      have hch : ∀ b ∈ fp, (b ∈ X.ex ∨ X.s₀.heap.objs.size ≤ b) ∧ b ≠ X.env.locals ∧ (∀ x c, X.env.cells.lookup x = some c → c ≠ b) ∧ ∀ p ∈ X.pn ++ pins, p.1 ≠ b := fun b hb => ⟨(f2 b hb).2.2.2.1, (f2 b hb).2.1, (f2 b hb).2.2.2.2.1, (f2 b hb).2.2.2.2.2⟩
      have nC : s₃.heap.get? s₃.heap.objs.size = none := Heap.get?_none_of_le (Nat.le_refl _)
      have ns : ∃ m, s6.heap.Ns s₃.heap.objs.size m := by
        subst hz
        obtain ⟨m, hn, _⟩ := I6.loc
        exact ⟨m, hn⟩
      refine hR _ _ H5 s6 fC ns (I3.fpOk (Nat.le_refl _) fC) (fun h' sb => ?_) (I3.call' (ch := fp) os6 un I6.hok I6.bare hch) qn
      exact I3.call' (s' := { s6 with heap := h' }) (ch := fp) os6 (Un.but un nC sb.extBut) (HOk.but I6.hok fC sb.extBut) I6.bare hch
    · refine thn (T.item (cxK X N' scope y z) rfl rfl rfl hc i [] s5 _ H5 _ I5 (stat fr5) st5 go) fun r s6 ⟨u, hr, h6⟩ => ?_
      subst hr
      refine thn h6 fun _ s7 ⟨x, H7, I7, r7, y7, st7, fr7⟩ => ?_
      have I7' := I7.pinned (stat fr7) (T.obj _ _ st7)
      refine thn (hg z _ s7 _ H7 x u _ I7' r7 (step x H7 y7)) fun _ s8 ⟨σ8, H8, I8, ag, q8⟩ => ?_
      have again : ∀ {s9 : Shared} {H9 : Hp}, Inv (cxK X N' scope y z) ([] ++ pinsAt fp s7.heap) σ8 H9 s9 → N H9 → ∃ m, m < n ∧ ∃ i H', Inv (cxK X N' scope y z) [] (picks sl σ) H' s9 ∧ tn i s9.heap ∧ (∀ b ∈ fp, H' b = none) ∧ W i m H' := fun {s9 H9} I9 n9 => by
        obtain ⟨m', hm, w9⟩ := hN H9 n9
        refine ⟨m', hm, i + 1, H9, (I9.weak ag.1.symm ag.2).unpinned, T.keep _ _ _ st7 fun b hb o e => (I9.pin (b, o) (List.mem_append_right _ (List.mem_append_right _ (mem_pinsAt hb e)))).1, fun b hb => ?_, w9⟩
        obtain ⟨o, e, d⟩ := T.obj _ _ st7 b hb
        exact (I9.pin (b, o) (List.mem_append_right _ (List.mem_append_right _ (mem_pinsAt hb e)))).2.1
      refine thn (ht z _ s8 σ8 H8 _ I8 q8) fun ok s9 ⟨H9, I9, q9⟩ => ?_
      cases ok with
      | false => exact again I9 q9
      | true =>
        refine thn (he z _ s9 σ8 H9 _ I9 q9) fun u10 s10 ⟨y, H10, I10, r10, xs, hx, hz10, n10⟩ => ?_
        exact thn (mt_append _ s10 σ8 H10 (.ref s₂.heap.objs.size) [y] (.ref s₂.heap.objs.size) [u10] (fun _ H' => N H') I10 rfl (.cons r10 .nil) ⟨_, xs, y, rfl, rfl, hx, hz10, n10⟩) fun _ s11 ⟨_, H11, I11, _, n11⟩ => again I11 n11
  have eenv : (cxK X N' scope y z).env = compEnvC scope ((y, s₃.heap.objs.size + 1) :: clFrom X.env.cells scope.names []) s₃.heap.objs.size X.env := by rw [← hz]; rfl
  rw [eenv] at loop
  exact codeAny_compStart_list (loop _ rfl) (T.self _ 0 _ _ _ st4 (loop _ rfl))

theorem pe_compK (y : Str) (N' : List Str) (sl : List (Option Nat)) {wi : TI} {g : TG} {tt : TT} {te : TE} (hc : X.calm = true) (hkind : scope.kind = .function)
    (hnames : ∀ x ∈ scope.names, x.2 = .local → scope.names.lookup x.1 = some .local)
    (hone : oneCell scope y = true) (hcf : ∀ n acc, cellsFrom n scope.names acc = (y, n) :: acc) (hpc : ∀ h, pushCells h scope.names = h.push { cls := .type "cell", data := .cell none }) (hfr : frOk scope X.env.scope = true)
    (hsl : slOk X.N N' sl scope X.env.scope = true) (hi : PI X target iter wi)
    (hg : ∀ z, PG (cxK X N' scope y z) target g) (ht : ∀ z, PTs (cxK X N' scope y z) ifs tt) (he : ∀ z, PE (cxK X N' scope y z) elt te)
    (hs : ∀ x, foldedSetIterable iter X.env x = pure x := by intro _; rfl) :
    PE X (.ListComp elt [⟨target, iter, ifs, 0⟩] scope pos) (tComp wi sl g tt te) := by
  have hfree := frOk.of hfr
  intro pins s σ H Q I h
  rw [eval_ListComp]
  have hcl : closureFor scope X.env = pure (clFrom X.env.cells scope.names []) := closureFor_eq fun x hx hk => I.ok.has x.1 (hfree x hx hk)
  refine wpAny_comprehension_free (use := none) rfl hs hcl hkind hnames (thn (hi pins s σ H _ I h) fun xv s₁ h₁ => thn h₁ fun itv s₂ h₂ => ?_)
  obtain ⟨it, fp, tn, J, H2, e, I2, T, st2, f2, hw⟩ := h₂
  subst e
  refine comp_blockK (RR := fun acc C => compPost (model X.prog X.w) X.A X.xe none (EP X pins σ Q) acc C) hc hkind hone hcf hpc hfree hsl hg ht he I2 T st2 f2 hw ?_
  intro D C H' s' fC ns _ hI _ q
  obtain ⟨m, hn⟩ := ns
  exact ⟨m, hn, fun h' sb => ⟨.ref D, H', hI h' sb, rfl, q⟩⟩
end
end L3

set_option maxHeartbeats 4000000
namespace L3
open PySem PySem.Spec PyProof.Rows L2
/-! ### x[::-1] -/
section
variable {X : Cx} {e st : Expr} {te ts : TE} {p2 pos : Pos}
def RvR (X : Cx) (r : V → Hp → VK → Prop) : Prop :=
  ∀ (pins : List (Addr × Obj)) (s : Shared) (σ : L2.St) (H : Hp) (x : V) (v vk : Value) (sl : Addr) (Q : VK), Inv X pins σ H s → RelV x v → s.heap.IsSliceOf sl .none .none vk → (∃ t, vk = .int (-1) t) → r x H Q →
    ∃ T id, typeLookup (.type T) "__getitem__" = pure (some (.builtin id)) ∧ s.TypeIs v T ∧ wpAny (model X.prog X.w) X.A (getItem v (.ref sl)) (EP X pins σ Q) X.xe s
def tRev (r : V → Hp → VK → Prop) (te ts : TE) : TE := fun σ H Q => te σ H fun x H1 => ts σ H1 fun y H2 => y = .int (-1) ∧ r x H2 Q
theorem pe_rev {r : V → Hp → VK → Prop} (hr : RvR X r) (he : PE X e te) (hst : PE X st ts) : PE X (.Subscript e (.Slice none none (some st) p2) pos) (tRev r te ts) := by
  intro pins s σ H Q I h
  refine Subscript_ (thn (he pins s σ H _ I h) fun v s1 ⟨x, H1, I1, r1, q1⟩ => ?_)
  refine wpAny_Slice ?_
  rw [evalPart_none]
  refine wpAny_pure ?_
  refine wpAny_pure ?_
  rw [evalPart_some]
  refine thn (hst pins s1 σ H1 _ I1 q1) fun vk s2 ⟨y, H2, I2, ry, ey, q2⟩ => ?_
  subst ey
  obtain ⟨tk, rfl⟩ := (show ∃ t, vk = Value.int (-1) t from ry)
  have I4 : Inv X pins σ H2 { s2 with heap := s2.heap.push { cls := .type "slice", data := .fields #[.none, .none, .int (-1) tk] } } := I2.kept (t' := s2.toks) fun b ob q => Heap.get?_push_of_some _ q
  obtain ⟨T, id, hT, ht, hg⟩ := hr pins { s2 with heap := s2.heap.push { cls := .type "slice", data := .fields #[.none, .none, .int (-1) tk] } } σ H2 x v (.int (-1) tk) s2.heap.objs.size Q I4 r1 (Heap.IsSliceOf.new ..) ⟨tk, rfl⟩ q2
  show wpAny (model X.prog X.w) X.A (subscriptTail e (.Slice none none (some st) p2) v (.ref s2.heap.objs.size)) (EP X pins σ Q) X.xe { s2 with heap := s2.heap.push { cls := .type "slice", data := .fields #[.none, .none, .int (-1) tk] } }
  exact tail_any (ops := [v, .ref s2.heap.objs.size]) ht hT hg (by with_unfolding_all rfl)
def rRvL (K : PySem.W.Frag) : V → Hp → VK → Prop := fun x H Q => ∃ a xs, x = .ref a ∧ SqL K H a xs ∧ ∀ p, H p = none → Q (.ref p) (upd H p (.lst xs.reverse))
theorem vals_rev : ∀ {xs : List V} {us : List Value}, Vals xs us → Vals xs.reverse us.reverse
  | _, _, .nil => .nil
  | _, _, .cons r1 r2 => by
    rw [List.reverse_cons, List.reverse_cons]
    exact (vals_rev r2).append (.cons r1 .nil)
theorem rv_list : RvR X (rRvL X.K) := by
  intro pins s σ H x v vk sl Q I rx hs hk h
  obtain ⟨a, xs, rfl, hx, q⟩ := h
  obtain ⟨t, rfl⟩ := hk
  cases rx
  obtain ⟨its, r, ht, hz⟩ := I.list hx
  have hlen := r.length
  refine ⟨"list", _, slot_list_getitem.lookup, ht.isList.typeIs, ?_⟩
  refine wpAny_getItem_list_slice ht.isList hs .none .none (.int (-1) t) (by decide) ?_ (by rw [List.size_toArray] <;> omega)
  rw [PySem.W.krv_pick]
  refine ⟨.ref s.heap.objs.size, _, I.laid (t' := s.toks) (o := .lst xs.reverse) (fun b ob q => Heap.get?_push_of_some _ q) (Nat.le_refl _) ?_, rfl, q _ (I.hok.fresh (Nat.le_refl _))⟩
  exact ⟨by rw [List.length_reverse]; exact hz, _, 0, vals_rev r, Heap.get?_push_size _ rfl⟩
def rRvS : V → Hp → VK → Prop := fun x H Q => ∃ z : Str, x = .str z ∧ z.length ≤ sizeLine ∧ Q (.str ⟨z.cps.toList.reverse.toArray⟩) H
theorem rv_pick (z : Str) (t : Tok) : slicePicked z none none (some (-1, t)) = (List.range z.length).reverse := by
  show Builtin.Str.strSliceIndices none none (-1) z.length = _
  rw [← PySem.W.krv_range, ← PySem.W.krv_sliceRange]
  rfl
theorem rv_all (z : Str) : ((List.range z.length).reverse.filterMap (z.cps[·]?)) = z.cps.toList.reverse := by
  rw [List.filterMap_reverse]
  congr 1
  exact PySem.W.krv_all z.cps
theorem rv_str : RvR X rRvS := by
  intro pins s σ H x v vk sl Q I rx hs hk h
  obtain ⟨z, rfl, hz, q⟩ := h
  obtain ⟨t, rfl⟩ := hk
  obtain ⟨t', rfl⟩ := rx
  obtain ⟨o, ho, hc, hd⟩ := hs
  refine ⟨"str", _, F.slot_str_getitem.lookup, typeIs_str _ _ _, ?_⟩
  refine wpAny_getItem_str_slice (l := none) (u := none) (st := some (-1, t)) ⟨o, ho, hc, hd⟩ rfl ?_
  have e : sliceMade z t' none none (some (-1, t)) = .str ⟨z.cps.toList.reverse.toArray⟩ := by
    unfold sliceMade
    rw [if_neg (by simp), rv_pick, rv_all]
  rw [e]
  refine ⟨?_, .str _, H, I.tok _, ⟨_, rfl⟩, q⟩
  show (z.cps.toList.reverse.toArray).size ≤ sizeLine
  simpa [Str.length] using hz
end
section
variable {X : Cx} {N : List Str} {scope : Scope} {y : Str} {z : CZ}
theorem rv_listC : RvR (cxComp X N scope z) (rRvL X.K) := rv_list (X := cxComp X N scope z)
theorem rv_listK : RvR (cxK X N scope y z) (rRvL X.K) := rv_list (X := cxK X N scope y z)
theorem pi_listK {tg l : Expr} {tl : TE} (hl : PE (cxK X N scope y z) l tl) : PI (cxK X N scope y z) tg l (iList X.K tl) := pi_list hl
theorem pe_bmK {o e : Expr} {es : List Expr} {to : TE} {t : TA} {name : Str} {apos cpos : Pos} {T id : String} {r : V → List V → Hp → VK → Prop} (pa : PlainAttrs T) (slot : Slot T name id) (hty : typeOf (.builtin id) = pure (.type "method_descriptor")) (hm : MtR (cxK X N scope y z) id r) (ho : PE (cxK X N scope y z) o to) (ha : PA (cxK X N scope y z) (e :: es) t)
    (hbase : attributeBase o name (cxK X N scope y z).env (eval o (cxK X N scope y z).env) = eval o (cxK X N scope y z).env := by rfl)
    (hfew : ((backTo cpos (starEach (e :: es) (cxK X N scope y z).env)).all (fun x => !x.1) && (backToKw cpos (keywordEach [] (cxK X N scope y z).env)).all (fun x => x.1.isSome)
      && decide ((e :: es).length + ([] : List Keyword).length + (if ([] : List Keyword).isEmpty then 0 else 1) < 30)) = true := by rfl)
    (hline : (apos.endLine == cpos.line) = true := by rfl) (hs : starEach (e :: es) (cxK X N scope y z).env = (false, eval e (cxK X N scope y z).env) :: starEach es (cxK X N scope y z).env := by rfl) (hplain : (backTo cpos (starEach es (cxK X N scope y z).env)).any (·.1) = false := by rfl) :
    PE (cxK X N scope y z) (.Call (.Attribute o name apos) (e :: es) [] cpos) (tBM X.K T r to t) := pe_bm (X := cxK X N scope y z) pa slot hty hm ho ha hbase hfew hline hs hplain
end
/-! ### tuple(d.values()) -/
section
variable {X : Cx} {o : Expr} {p apos pos pos2 : Pos} {td : TE}
def tTupVals (td : TE) : TE := fun σ H Q => td σ H fun x H1 => ∃ a kvs, x = .ref a ∧ H1 a = some (.dK kvs) ∧ ∀ r, H1 r = none → Q (.ref r) (upd H1 r (.tup (kvs.map (·.2))))
theorem kv_snd {kvs : List (Key × V)} {vs : List (Key × Value)} (r : KV kvs vs) : Vals (kvs.map (·.2)) (vs.map (·.2)) := by
  induction r with
  | nil => exact .nil
  | cons h _ ih => exact .cons h.2 ih
theorem pe_tupvals (hc : X.calm = true) (hg : Gl X "tuple") (hm : X.mg "tuple" = none) (ho : PE X o td)
    (hbase : attributeBase o "values" X.env (eval o X.env) = eval o X.env := by rfl) (hline : (apos.endLine == pos2.line) = true := by rfl) : PE X (.Call (.Name "tuple" p) [.Call (.Attribute o "values" apos) [] [] pos2] [] pos) (tTupVals td) := by
  intro pins s σ H Q I h
  refine wpAny_Call_Name_kw (ld_blt I hg hm boot_tuple ?_ (by decide) (by decide))
  refine PyProof.Rows.callWith_type1 ?_ (star_cons rfl) rfl
  rw [star_cons rfl]
  show wpAny _ _ (spliced ((false, eval (.Call (.Attribute o "values" apos) [] [] pos2) X.env) :: backTo pos (starEach [] X.env))) _ _ s
  refine Calls.spliced_cons ?_
  refine wpAny_Call_method0_late hbase hline (thn (ho pins s σ H _ I h) fun v s1 ⟨x, H1, I1, r1, a, kvs, ex, ha, q1⟩ => ?_)
  subst ex
  obtain rfl : v = Value.ref a := r1
  obtain ⟨t1, t2, _⟩ := isD_at I1 (.inl ⟨kvs, .inl ha⟩)
  obtain ⟨z, hd, vs, rel, dd⟩ := dk_of I1.hok ha
  have hlen := rel.length
  refine ⟨"dict", _, PySem.F.plainAttrs_dict, PySem.F.slot_dict_values, PySem.F.type_dict_values, t1, t2, Calls.callWith_builtin rfl (PySem.evalArgs_none ?_)⟩
  refine call_meetsIn PySem.F.slot_dict_values t1 PySem.F.entry_dict_values (PySem.F.args_dict_values_1 _) (meets_dict_values (mixKind X.prog X.w) a hd) ⟨⟨vs, dd⟩, ?_⟩
  refine Calls.spliced_nil ?_
  refine call_tuple_vals (knd := mixKind X.prog X.w) (d := a) (kvs := vs) (I1.ok.hd hc) ⟨_, Heap.get?_push_size _ rfl, rfl, rfl⟩ (dd.push _) (by omega) fun h' tk hk => ?_
  have hk' : ∀ b ob, s1.heap.get? b = some ob → h'.get? b = some ob := fun b ob e => hk b ob (Heap.get?_push_of_some _ e)
  have hsz : s1.heap.objs.size ≤ h'.objs.size := by
    rcases Nat.lt_or_ge h'.objs.size s1.heap.objs.size with q | q
    · exfalso
      have e0 := hk s1.heap.objs.size _ (Heap.get?_push_size _ rfl)
      exact absurd (Nat.lt_trans (Heap.lt_size e0) q) (Nat.lt_irrefl _)
    · exact q
  refine ⟨.ref h'.objs.size, _, I1.laid (t' := tk) (a := h'.objs.size) (o := .tup (kvs.map (·.2))) (fun b ob q => Heap.get?_push_of_some _ (hk' b ob q)) hsz ?_, rfl, q1 _ (I1.hok.fresh hsz)⟩
  exact ⟨by rw [List.length_map]; exact z, _, kv_snd rel, IsTup.new _ _⟩
end
end L3

set_option maxHeartbeats 4000000
namespace L3
/-! ### a floor as a matrix of signs, mirrored and turned -/
structure Mat where
  h : Nat
  w : Nat
  g : Nat → Nat → Nat
def mirM (M : Mat) : Mat := ⟨M.h, M.w, fun r c => M.g r (M.w - 1 - c)⟩
def rotM (M : Mat) : Mat := ⟨M.w, M.h, fun r c => M.g (M.h - 1 - c) r⟩
def rotsM : Nat → Mat → Mat
  | 0, M => M
  | n + 1, M => rotM (rotsM n M)
def turM (t : Nat) (M : Mat) : Mat := rotsM (t % 4) (if 4 ≤ t then mirM M else M)
def lineM (M : Mat) (r : Nat) : List Nat := (List.range M.w).map (M.g r)
def linesM (M : Mat) : List (List Nat) := (List.range M.h).map (lineM M)
structure SameM (M N : Mat) : Prop where
  h : M.h = N.h
  w : M.w = N.w
  g : ∀ r c, r < M.h → c < M.w → M.g r c = N.g r c
theorem SameM.refl (M : Mat) : SameM M M := ⟨rfl, rfl, fun _ _ _ _ => rfl⟩
theorem SameM.symm {M N : Mat} (a : SameM M N) : SameM N M := ⟨a.h.symm, a.w.symm, fun r c h1 h2 => (a.g r c (by rw [a.h]; exact h1) (by rw [a.w]; exact h2)).symm⟩
theorem SameM.trans {M N O : Mat} (a : SameM M N) (b : SameM N O) : SameM M O := ⟨a.h.trans b.h, a.w.trans b.w, fun r c h1 h2 => (a.g r c h1 h2).trans (b.g r c (by rw [← a.h]; exact h1) (by rw [← a.w]; exact h2))⟩
theorem SameM.line {M N : Mat} (a : SameM M N) {r : Nat} (h : r < M.h) : lineM M r = lineM N r := by
  unfold lineM
  rw [← a.w]
  exact List.map_congr_left fun c hc => a.g r c h (by simpa using hc)
theorem SameM.lines {M N : Mat} (a : SameM M N) : linesM M = linesM N := by
  unfold linesM
  rw [← a.h]
  exact List.map_congr_left fun r hr => a.line (by simpa using hr)
theorem SameM.mir {M N : Mat} (a : SameM M N) : SameM (mirM M) (mirM N) := ⟨a.h, a.w, fun r c h1 h2 => by
  show M.g r (M.w - 1 - c) = N.g r (N.w - 1 - c)
  have h2' : c < M.w := h2
  rw [← a.w]
  exact a.g r _ h1 (by omega)⟩
theorem SameM.rot {M N : Mat} (a : SameM M N) : SameM (rotM M) (rotM N) := ⟨a.w, a.h, fun r c h1 h2 => by
  show M.g (M.h - 1 - c) r = N.g (N.h - 1 - c) r
  have h2' : c < M.h := h2
  rw [← a.h]
  exact a.g _ r (by omega) h1⟩
theorem SameM.rots {M N : Mat} (a : SameM M N) : ∀ n, SameM (rotsM n M) (rotsM n N)
  | 0 => a
  | n + 1 => (SameM.rots a n).rot
theorem SameM.tur {M N : Mat} (a : SameM M N) (t : Nat) : SameM (turM t M) (turM t N) := by
  unfold turM
  split
  · exact a.mir.rots _
  · exact a.rots _
theorem rot4 (M : Mat) : SameM (rotM (rotM (rotM (rotM M)))) M := ⟨rfl, rfl, fun r c h1 h2 => by
  have h1' : r < M.h := h1
  have h2' : c < M.w := h2
  show M.g (M.h - 1 - (M.h - 1 - r)) (M.w - 1 - (M.w - 1 - c)) = M.g r c
  congr 1 <;> omega⟩
theorem mir2 (M : Mat) : SameM (mirM (mirM M)) M := ⟨rfl, rfl, fun r c h1 h2 => by
  have h2' : c < M.w := h2
  show M.g r (M.w - 1 - (M.w - 1 - c)) = M.g r c
  congr 1; omega⟩
theorem mir_rot (M : Mat) : SameM (mirM (rotM M)) (rotM (rotM (rotM (mirM M)))) := ⟨rfl, rfl, fun r c h1 h2 => by
  have h1' : r < M.w := h1
  have h2' : c < M.h := h2
  show M.g (M.h - 1 - (M.h - 1 - c)) r = M.g (M.h - 1 - (M.h - 1 - c)) (M.w - 1 - (M.w - 1 - r))
  congr 1; omega⟩
theorem rots_add (a b : Nat) (M : Mat) : rotsM a (rotsM b M) = rotsM (a + b) M := by
  induction a with
  | zero => rw [Nat.zero_add]; rfl
  | succ a ih => rw [Nat.succ_add]; show rotM (rotsM a (rotsM b M)) = rotM (rotsM (a + b) M); rw [ih]
theorem rots_four (n : Nat) (M : Mat) : SameM (rotsM (n + 4) M) (rotsM n M) := by
  rw [← rots_add n 4]
  exact SameM.rots (rot4 M) n
theorem rots_mod (n : Nat) (M : Mat) : SameM (rotsM n M) (rotsM (n % 4) M) := by
  induction n using Nat.strongRecOn with
  | ind n ih =>
    by_cases h : n < 4
    · rw [Nat.mod_eq_of_lt h]; exact SameM.refl _
    · have e : n = (n - 4) + 4 := by omega
      rw [e, Nat.add_mod_right]
      exact (rots_four _ M).trans (ih (n - 4) (by omega))
theorem mir_rots (M : Mat) : ∀ n, SameM (mirM (rotsM n M)) (rotsM (3 * n) (mirM M))
  | 0 => SameM.refl _
  | n + 1 => by
    have a := mir_rot (rotsM n M)
    have b : SameM (rotM (rotM (rotM (mirM (rotsM n M))))) (rotsM 3 (rotsM (3 * n) (mirM M))) := (SameM.rots (mir_rots M n) 3)
    rw [rots_add, show 3 + 3 * n = 3 * (n + 1) by omega] at b
    exact a.trans b
def thenM (t s : Nat) : Nat := (if 4 ≤ s then s + 3 * t else s + t) % 4 + (if (4 ≤ t) = (4 ≤ s) then 0 else 4)
theorem tur_same {m m' : Bool} {n n' : Nat} (M : Mat) (hm : m = m') (hn : n % 4 = n' % 4) : SameM (rotsM n (if m then mirM M else M)) (rotsM n' (if m' then mirM M else M)) := by
  subst hm
  have a := rots_mod n (if m then mirM M else M)
  have b := rots_mod n' (if m then mirM M else M)
  rw [hn] at a
  exact a.trans b.symm
theorem tur_then (M : Mat) {t s : Nat} : SameM (turM s (turM t M)) (turM (thenM t s) M) := by
  by_cases hs : 4 ≤ s
  · have e1 : turM s (turM t M) = rotsM (s % 4) (mirM (turM t M)) := by unfold turM; rw [if_pos hs]
    rw [e1]
    have b : SameM (mirM (turM t M)) (rotsM (3 * (t % 4)) (mirM (if 4 ≤ t then mirM M else M))) := mir_rots _ _
    have c := SameM.rots b (s % 4)
    rw [rots_add] at c
    by_cases ht : 4 ≤ t
    · rw [if_pos ht] at c
      have d := SameM.rots (mir2 M) (s % 4 + 3 * (t % 4))
      refine (c.trans d).trans ?_
      have e : thenM t s = (s + 3 * t) % 4 := by unfold thenM; rw [if_pos hs, if_pos (by simp [ht, hs])]; rfl
      unfold turM
      rw [e, if_neg (by omega)]
      exact tur_same (m := false) (m' := false) M rfl (by omega)
    · rw [if_neg ht] at c
      refine c.trans ?_
      have e : thenM t s = (s + 3 * t) % 4 + 4 := by unfold thenM; rw [if_pos hs, if_neg (by simp [ht, hs])]
      unfold turM
      rw [e, if_pos (by omega)]
      exact tur_same (m := true) (m' := true) M rfl (by omega)
  · have e1 : turM s (turM t M) = rotsM (s % 4) (turM t M) := by unfold turM; rw [if_neg hs]
    rw [e1]
    unfold turM
    rw [rots_add]
    by_cases ht : 4 ≤ t
    · have e : thenM t s = (s + t) % 4 + 4 := by unfold thenM; rw [if_neg hs, if_neg (by simp [ht, hs])]
      rw [e, if_pos ht, if_pos (by omega)]
      exact tur_same (m := true) (m' := true) M rfl (by omega)
    · have e : thenM t s = (s + t) % 4 := by unfold thenM; rw [if_neg hs, if_pos (by simp [ht, hs])]; rfl
      rw [e, if_neg ht, if_neg (by omega)]
      exact tur_same (m := false) (m' := false) M rfl (by omega)
theorem tur_zero (M : Mat) : turM 0 M = M := rfl
/-- its size, and its signs -/
structure OkM (P : Nat → Prop) (M : Mat) : Prop where
  h1 : 0 < M.h
  h8 : M.h ≤ 8
  w1 : 0 < M.w
  w8 : M.w ≤ 8
  sg : ∀ r c, r < M.h → c < M.w → P (M.g r c)
theorem OkM.mir {P : Nat → Prop} {M : Mat} (a : OkM P M) : OkM P (mirM M) := ⟨a.h1, a.h8, a.w1, a.w8, fun r c h1 h2 => a.sg r _ h1 (by have h2' : c < M.w := h2; show M.w - 1 - c < M.w; omega)⟩
theorem OkM.rot {P : Nat → Prop} {M : Mat} (a : OkM P M) : OkM P (rotM M) := ⟨a.w1, a.w8, a.h1, a.h8, fun r c h1 h2 => a.sg _ r (by have h2' : c < M.h := h2; show M.h - 1 - c < M.h; omega) h1⟩
theorem OkM.rots {P : Nat → Prop} {M : Mat} (a : OkM P M) : ∀ n, OkM P (rotsM n M)
  | 0 => a
  | n + 1 => (OkM.rots a n).rot
theorem OkM.tur {P : Nat → Prop} {M : Mat} (a : OkM P M) (t : Nat) : OkM P (turM t M) := by
  unfold turM
  split
  · exact a.mir.rots _
  · exact a.rots _
theorem line_mir (M : Mat) (r : Nat) : lineM (mirM M) r = (lineM M r).reverse := by
  apply List.ext_getElem?
  intro i
  unfold lineM mirM
  by_cases hi : i < M.w
  · rw [List.getElem?_reverse (by simpa using hi)]
    simp [hi]
    rw [List.getElem?_range (by omega)]
    rfl
  · rw [List.getElem?_eq_none (by simpa using Nat.le_of_not_lt hi), List.getElem?_eq_none (by simpa using Nat.le_of_not_lt hi)]
/-- a list in strict order is told by its members -/
theorem strict_uniq {α : Type} {R : α → α → Prop} (as : ∀ x y, R x y → ¬ R y x) : ∀ {xs ys : List α}, xs.Pairwise R → ys.Pairwise R → (∀ z, z ∈ xs ↔ z ∈ ys) → xs = ys
  | [], [], _, _, _ => rfl
  | [], y :: ys, _, _, h => absurd ((h y).mpr List.mem_cons_self) (by simp)
  | x :: xs, [], _, _, h => absurd ((h x).mp List.mem_cons_self) (by simp)
  | x :: xs, y :: ys, p, q, h => by
    obtain ⟨p1, p2⟩ := List.pairwise_cons.mp p
    obtain ⟨q1, q2⟩ := List.pairwise_cons.mp q
    have e : x = y := by
      rcases List.mem_cons.mp ((h x).mp List.mem_cons_self) with e | a
      · exact e
      · rcases List.mem_cons.mp ((h y).mpr List.mem_cons_self) with e | b
        · exact e.symm
        · exact absurd (q1 x a) (as _ _ (p1 y b))
    subst e
    refine congrArg _ (strict_uniq as p2 q2 fun z => ⟨fun hz => ?_, fun hz => ?_⟩)
    · rcases List.mem_cons.mp ((h z).mp (List.mem_cons_of_mem _ hz)) with e | a
      · subst e; exact absurd (p1 z hz) (fun k => as _ _ k k)
      · exact a
    · rcases List.mem_cons.mp ((h z).mpr (List.mem_cons_of_mem _ hz)) with e | a
      · subst e; exact absurd (q1 z hz) (fun k => as _ _ k k)
      · exact a
end L3

set_option maxHeartbeats 4000000
namespace L3
open PySem PySem.Spec PyProof.Rows L2
/-! ### a floor's spots as data, its rows as texts -/
def spotM (M : Mat) (r c : Nat) : PyData := .tuple [.int (r : Nat), .int (c : Nat), .str ⟨#[M.g r c]⟩]
def readM (M : Mat) : List PyData := (List.range (M.h * M.w)).map fun i => spotM M (i / M.w) (i % M.w)
def strsM (M : Mat) : List Str := (List.range M.h).map fun r => ⟨(lineM M r).toArray⟩
/-- these spots, in any order -/
structure Cov (M : Mat) (L : List PyData) : Prop where
  mem : ∀ d, d ∈ L ↔ ∃ r c, r < M.h ∧ c < M.w ∧ d = spotM M r c
  nd : L.Nodup
theorem spotM_inj {M N : Mat} {r c r' c' : Nat} (h : spotM M r c = spotM N r' c') : r = r' ∧ c = c' := by
  unfold spotM at h
  injection h with h
  injection h with h1 h2
  injection h2 with h2 h3
  injection h1 with h1
  injection h2 with h2
  exact ⟨Int.ofNat.inj h1, Int.ofNat.inj h2⟩
theorem idx_lt {h w r c : Nat} (hr : r < h) (hc : c < w) : r * w + c < h * w := by
  have : (r + 1) * w ≤ h * w := Nat.mul_le_mul_right w hr
  rw [Nat.add_mul] at this
  omega
theorem div_at {w r c : Nat} (hc : c < w) : (r * w + c) / w = r := by
  rw [Nat.mul_comm, Nat.mul_add_div (by omega), Nat.div_eq_of_lt hc, Nat.add_zero]
theorem mod_at {w r c : Nat} (hc : c < w) : (r * w + c) % w = c := by
  rw [Nat.mul_comm, Nat.mul_add_mod, Nat.mod_eq_of_lt hc]
theorem read_mem (M : Mat) (d : PyData) : d ∈ readM M ↔ ∃ r c, r < M.h ∧ c < M.w ∧ d = spotM M r c := by
  unfold readM
  rw [List.mem_map]
  constructor
  · rintro ⟨i, hi, rfl⟩
    have hi' : i < M.h * M.w := by simpa using hi
    have hw : 0 < M.w := by
      rcases Nat.eq_zero_or_pos M.w with e | e
      · rw [e, Nat.mul_zero] at hi'; omega
      · exact e
    exact ⟨i / M.w, i % M.w, (Nat.div_lt_iff_lt_mul hw).mpr hi', Nat.mod_lt _ hw, rfl⟩
  · rintro ⟨r, c, hr, hc, rfl⟩
    exact ⟨r * M.w + c, by simpa using idx_lt hr hc, by rw [div_at hc, mod_at hc]⟩
def lt2 (x y : PyData) : Prop := row1 x < row1 y ∨ row1 x = row1 y ∧ col1 x < col1 y
theorem lt2_asy (x y : PyData) (h : lt2 x y) : ¬ lt2 y x := by
  unfold lt2 at *
  omega
theorem read_up (M : Mat) : (readM M).Pairwise lt2 := by
  unfold readM
  rw [List.pairwise_map]
  refine List.Pairwise.imp_of_mem (fun {i j} hi hj hij => ?_) (List.pairwise_lt_range (n := M.h * M.w))
  have d1 := Nat.div_add_mod i M.w
  have d2 := Nat.div_add_mod j M.w
  have hle : i / M.w ≤ j / M.w := Nat.div_le_div_right (Nat.le_of_lt hij)
  show ((i / M.w : Nat) : Int) < ((j / M.w : Nat) : Int) ∨ ((i / M.w : Nat) : Int) = ((j / M.w : Nat) : Int) ∧ ((i % M.w : Nat) : Int) < ((j % M.w : Nat) : Int)
  rcases Nat.lt_or_ge (i / M.w) (j / M.w) with h | h
  · left; omega
  · right
    have e : i / M.w = j / M.w := Nat.le_antisymm hle h
    rw [e] at d1
    constructor
    · omega
    · omega
theorem nodup_of {α : Type} {R : α → α → Prop} (irr : ∀ x, ¬ R x x) {l : List α} (h : l.Pairwise R) : l.Nodup := by
  unfold List.Nodup
  exact List.Pairwise.imp (fun {a b} (hab : R a b) (e : a = b) => irr a (by rw [← e] at hab; exact hab)) h
theorem read_cov (M : Mat) : Cov M (readM M) := ⟨read_mem M, nodup_of (fun x h => lt2_asy x x h h) (read_up M)⟩
theorem Cov.spots {M : Mat} {L : List PyData} (h : Cov M L) : Spots L := fun d hd => by
  obtain ⟨r, c, _, _, rfl⟩ := (h.mem d).mp hd
  exact ⟨_, _, _, rfl⟩
theorem nodup_map {α β : Type} {f : α → β} : ∀ {l : List α}, (∀ a ∈ l, ∀ b ∈ l, f a = f b → a = b) → l.Nodup → (l.map f).Nodup
  | [], _, _ => List.nodup_nil
  | a :: l, h, hn => by
    obtain ⟨h1, h2⟩ := List.nodup_cons.mp hn
    rw [List.map_cons]
    refine List.nodup_cons.mpr ⟨fun hm => ?_, nodup_map (fun x hx y hy => h x (List.mem_cons_of_mem _ hx) y (List.mem_cons_of_mem _ hy)) h2⟩
    obtain ⟨b, hb, e⟩ := List.mem_map.mp hm
    exact h1 (h b (List.mem_cons_of_mem _ hb) a List.mem_cons_self e ▸ hb)
theorem Cov.maxc {M : Mat} {L : List PyData} (h : Cov M L) (h1 : 0 < M.h) (w1 : 0 < M.w) : maxI (L.map col1) = ((M.w - 1 : Nat) : Int) := by
  refine (maxI_eq (ns := L.map col1) ?_ fun a ha => ?_).symm
  · exact List.mem_map.mpr ⟨spotM M 0 (M.w - 1), (h.mem _).mpr ⟨0, M.w - 1, h1, by omega, rfl⟩, rfl⟩
  · obtain ⟨d, hd, rfl⟩ := List.mem_map.mp ha
    obtain ⟨r, c, _, hc, rfl⟩ := (h.mem d).mp hd
    show ((c : Nat) : Int) ≤ _
    omega
theorem Cov.maxr {M : Mat} {L : List PyData} (h : Cov M L) (h1 : 0 < M.h) (w1 : 0 < M.w) : maxI (L.map row1) = ((M.h - 1 : Nat) : Int) := by
  refine (maxI_eq (ns := L.map row1) ?_ fun a ha => ?_).symm
  · exact List.mem_map.mpr ⟨spotM M (M.h - 1) 0, (h.mem _).mpr ⟨M.h - 1, 0, by omega, w1, rfl⟩, rfl⟩
  · obtain ⟨d, hd, rfl⟩ := List.mem_map.mp ha
    obtain ⟨r, c, hr, _, rfl⟩ := (h.mem d).mp hd
    show ((r : Nat) : Int) ≤ _
    omega
theorem mir_spot {M : Mat} {r c : Nat} (hc : c < M.w) : mir1 ((M.w - 1 : Nat) : Int) (spotM M r c) = spotM (mirM M) r (M.w - 1 - c) := by
  show PyData.tuple [.int (r : Nat), .int (((M.w - 1 : Nat) : Int) - (c : Nat)), .str ⟨#[M.g r c]⟩] = PyData.tuple [.int (r : Nat), .int ((M.w - 1 - c : Nat) : Int), .str ⟨#[M.g r (M.w - 1 - (M.w - 1 - c))]⟩]
  rw [show M.w - 1 - (M.w - 1 - c) = c by omega, show (((M.w - 1 : Nat) : Int) - (c : Nat)) = ((M.w - 1 - c : Nat) : Int) by omega]
theorem tur_spot {M : Mat} {r c : Nat} (hr : r < M.h) : tur1 ((M.h - 1 : Nat) : Int) (spotM M r c) = spotM (rotM M) c (M.h - 1 - r) := by
  show PyData.tuple [.int (c : Nat), .int (((M.h - 1 : Nat) : Int) - (r : Nat)), .str ⟨#[M.g r c]⟩] = PyData.tuple [.int (c : Nat), .int ((M.h - 1 - r : Nat) : Int), .str ⟨#[M.g (M.h - 1 - (M.h - 1 - r)) c]⟩]
  rw [show M.h - 1 - (M.h - 1 - r) = r by omega, show (((M.h - 1 : Nat) : Int) - (r : Nat)) = ((M.h - 1 - r : Nat) : Int) by omega]
theorem Cov.mir {M : Mat} {L : List PyData} (h : Cov M L) (h1 : 0 < M.h) (w1 : 0 < M.w) : Cov (mirM M) (mirD L) := by
  unfold mirD
  rw [h.maxc h1 w1]
  refine ⟨fun d => ?_, nodup_map (fun a ha b hb e => ?_) h.nd⟩
  · rw [List.mem_map]
    constructor
    · rintro ⟨e, he, rfl⟩
      obtain ⟨r, c, hr, hc, rfl⟩ := (h.mem e).mp he
      exact ⟨r, M.w - 1 - c, hr, by show M.w - 1 - c < M.w; omega, mir_spot hc⟩
    · rintro ⟨r, c, hr, hc, rfl⟩
      have hc' : c < M.w := hc
      refine ⟨spotM M r (M.w - 1 - c), (h.mem _).mpr ⟨r, _, hr, by omega, rfl⟩, ?_⟩
      rw [mir_spot (by omega), show M.w - 1 - (M.w - 1 - c) = c by omega]
  · obtain ⟨r, c, _, hc, rfl⟩ := (h.mem a).mp ha
    obtain ⟨r', c', _, hc', rfl⟩ := (h.mem b).mp hb
    rw [mir_spot hc, mir_spot hc'] at e
    obtain ⟨e1, e2⟩ := spotM_inj e
    rw [e1, show c = c' by omega]
theorem Cov.rot {M : Mat} {L : List PyData} (h : Cov M L) (h1 : 0 < M.h) (w1 : 0 < M.w) : Cov (rotM M) (turD L) := by
  unfold turD
  rw [h.maxr h1 w1]
  refine ⟨fun d => ?_, nodup_map (fun a ha b hb e => ?_) h.nd⟩
  · rw [List.mem_map]
    constructor
    · rintro ⟨e, he, rfl⟩
      obtain ⟨r, c, hr, hc, rfl⟩ := (h.mem e).mp he
      exact ⟨c, M.h - 1 - r, hc, by show M.h - 1 - r < M.h; omega, tur_spot hr⟩
    · rintro ⟨r, c, hr, hc, rfl⟩
      have hc' : c < M.h := hc
      have hr' : r < M.w := hr
      refine ⟨spotM M (M.h - 1 - c) r, (h.mem _).mpr ⟨_, r, by omega, hr', rfl⟩, ?_⟩
      rw [tur_spot (by omega), show M.h - 1 - (M.h - 1 - c) = c by omega]
  · obtain ⟨r, c, hr, _, rfl⟩ := (h.mem a).mp ha
    obtain ⟨r', c', hr', _, rfl⟩ := (h.mem b).mp hb
    rw [tur_spot hr, tur_spot hr'] at e
    obtain ⟨e1, e2⟩ := spotM_inj e
    rw [e1, show r = r' by omega]
theorem Cov.rots {P : Nat → Prop} {M : Mat} {L : List PyData} (o : OkM P M) (h : Cov M L) : ∀ n, Cov (rotsM n M) ((List.range n).foldl (fun a _ => turD a) L)
  | 0 => h
  | n + 1 => by
    rw [List.range_succ, List.foldl_append]
    have o2 := o.rots n
    exact (Cov.rots o h n).rot o2.h1 o2.w1
theorem Cov.tur {P : Nat → Prop} {M : Mat} {L : List PyData} (o : OkM P M) (h : Cov M L) (t : Nat) : Cov (turM t M) (spotsD t L) := by
  unfold turM spotsD
  split
  · exact Cov.rots o.mir (h.mir o.h1 o.w1) _
  · exact Cov.rots o h _
/-- sorted, they stand in reading order -/
theorem Cov.sorted {M : Mat} {L es : List PyData} (h : Cov M L) (p : es.Perm L) (u : es.Pairwise fun x y => ltR y x = false) : es = readM M := by
  refine strict_uniq (R := lt2) lt2_asy ?_ (read_up M) fun z => by rw [p.mem_iff, h.mem, read_mem]
  have nd : es.Nodup := p.nodup_iff.mpr h.nd
  have both := u.and nd
  refine List.Pairwise.imp_of_mem (fun {a b} ha hb hab => ?_) both
  obtain ⟨r, c, _, _, rfl⟩ := (h.mem a).mp (p.mem_iff.mp ha)
  obtain ⟨r', c', _, _, rfl⟩ := (h.mem b).mp (p.mem_iff.mp hb)
  obtain ⟨h1, h2⟩ := hab
  have h1' : rowLt [.int (r' : Nat), .int (c' : Nat), .str ⟨#[M.g r' c']⟩] [.int (r : Nat), .int (c : Nat), .str ⟨#[M.g r c]⟩] = false := h1
  rw [rl_int, rl_int] at h1'
  show ((r : Nat) : Int) < ((r' : Nat) : Int) ∨ ((r : Nat) : Int) = ((r' : Nat) : Int) ∧ ((c : Nat) : Int) < ((c' : Nat) : Int)
  by_cases er : ((r' : Nat) : Int) = ((r : Nat) : Int)
  · rw [if_pos er] at h1'
    right
    refine ⟨er.symm, ?_⟩
    by_cases ec : ((c' : Nat) : Int) = ((c : Nat) : Int)
    · exfalso
      obtain rfl : r' = r := Int.ofNat.inj er
      obtain rfl : c' = c := Int.ofNat.inj ec
      exact h2 rfl
    · rw [if_neg ec] at h1'
      have := of_decide_eq_false h1'
      omega
  · rw [if_neg er] at h1'
    have := of_decide_eq_false h1'
    left
    omega
/-! the dict of rows, as it grows -/
def lineS (M : Mat) (r c : Nat) : Str := ⟨((List.range c).map (M.g r)).toArray⟩
def fullK (M : Mat) (r : Nat) : List (Key × V) := (List.range r).map fun k => (Sum.inl ((k : Nat) : Int), V.str (lineS M k M.w))
def partK (M : Mat) (r c : Nat) : List (Key × V) := fullK M r ++ (if c = 0 then [] else [(Sum.inl ((r : Nat) : Int), V.str (lineS M r c))])
theorem full_succ (M : Mat) (r : Nat) : fullK M (r + 1) = fullK M r ++ [(Sum.inl ((r : Nat) : Int), V.str (lineS M r M.w))] := by
  unfold fullK
  rw [List.range_succ, List.map_append]
  rfl
theorem inl_ne {a b : Nat} (h : a ≠ b) : ¬ (Sum.inl ((a : Nat) : Int) : Key) = Sum.inl ((b : Nat) : Int) := fun e => h (Int.ofNat.inj (Sum.inl.inj e))
theorem val_full (M : Mat) : ∀ (r j : Nat), r ≤ j → valV (fullK M r) (Sum.inl ((j : Nat) : Int)) = none
  | 0, j, _ => rfl
  | r + 1, j, h => by
    rw [full_succ, valV_snoc _ _ _ _ (val_full M r r (Nat.le_refl _)), if_neg (inl_ne (by omega))]
    exact val_full M r j (by omega)
theorem val_part (M : Mat) (r c : Nat) : valV (partK M r c) (Sum.inl ((r : Nat) : Int)) = if c = 0 then none else some (V.str (lineS M r c)) := by
  unfold partK
  by_cases h : c = 0
  · rw [if_pos h, if_pos h, List.append_nil]
    exact val_full M r r (Nat.le_refl _)
  · rw [if_neg h, if_neg h, valV_snoc _ _ _ _ (val_full M r r (Nat.le_refl _)), if_pos rfl]
theorem full_map (M : Mat) (y : V) : ∀ (r j : Nat), r ≤ j → (fullK M r).map (fun kv => if kv.1 = (Sum.inl ((j : Nat) : Int) : Key) then (kv.1, y) else kv) = fullK M r
  | 0, j, _ => rfl
  | r + 1, j, h => by
    rw [full_succ, List.map_append, full_map M y r j (by omega)]
    congr 1
    rw [List.map_cons, List.map_nil, if_neg (inl_ne (by omega))]
theorem put_part (M : Mat) (r c : Nat) (y : V) : putK (partK M r c) (Sum.inl ((r : Nat) : Int)) y = fullK M r ++ [(Sum.inl ((r : Nat) : Int), y)] := by
  by_cases h : c = 0
  · rw [putK_new y (by rw [val_part, if_pos h])]
    unfold partK
    rw [if_pos h, List.append_nil]
  · unfold putK
    rw [valV_any, val_part, if_neg h]
    unfold partK
    rw [if_neg h, List.map_append, full_map M y r r (Nat.le_refl _)]
    simp
theorem line_succ (M : Mat) (r c : Nat) : lineS M r (c + 1) = lineS M r c ++ (⟨#[M.g r c]⟩ : Str) := by
  unfold lineS
  rw [List.range_succ, List.map_append]
  show _ = (⟨((List.range c).map (M.g r)).toArray ++ #[M.g r c]⟩ : Str)
  simp
def kvsI (M : Mat) (i : Nat) : List (Key × V) := partK M (i / M.w) (i % M.w)
theorem kvs_succ (M : Mat) (w1 : 0 < M.w) (i : Nat) : putK (kvsI M i) (Sum.inl (((i / M.w : Nat) : Nat) : Int)) (V.str (lineS M (i / M.w) (i % M.w) ++ (⟨#[M.g (i / M.w) (i % M.w)]⟩ : Str))) = kvsI M (i + 1) := by
  unfold kvsI
  rw [put_part, ← line_succ]
  have d1 := Nat.div_add_mod i M.w
  have m1 := Nat.mod_lt i w1
  by_cases h : i % M.w + 1 < M.w
  · have e : i + 1 = (i / M.w) * M.w + (i % M.w + 1) := by rw [Nat.mul_comm]; omega
    rw [e, div_at h, mod_at h]
    unfold partK
    rw [if_neg (by omega)]
  · have e : i + 1 = (i / M.w + 1) * M.w + 0 := by rw [Nat.add_mul, Nat.mul_comm]; omega
    rw [e, div_at w1, mod_at w1]
    unfold partK
    rw [if_pos rfl, List.append_nil, full_succ]
    rw [show i % M.w + 1 = M.w by omega]
theorem kvs_end (M : Mat) (w1 : 0 < M.w) : kvsI M (M.h * M.w) = fullK M M.h := by
  unfold kvsI
  have e : M.h * M.w = M.h * M.w + 0 := rfl
  rw [e, div_at w1, mod_at w1]
  unfold partK
  rw [if_pos rfl, List.append_nil]
theorem full_vals (M : Mat) : (fullK M M.h).map (·.2) = (strsM M).map V.str := by
  unfold fullK strsM
  rw [List.map_map, List.map_map]
  rfl
theorem kvs_len (M : Mat) (i : Nat) : (kvsI M i).length ≤ i / M.w + 1 := by
  unfold kvsI partK fullK
  rw [List.length_append, List.length_map, List.length_range]
  split <;> simp
theorem read_at (M : Mat) {i : Nat} (h : i < M.h * M.w) : (readM M)[i]? = some (spotM M (i / M.w) (i % M.w)) := by
  unfold readM
  rw [List.getElem?_map, List.getElem?_range h]
  rfl
theorem read_len (M : Mat) : (readM M).length = M.h * M.w := by unfold readM; simp
/-! ### floors -/
def SgP (c : Nat) : Prop := sgB c = true
theorem sg128 {c : Nat} (h : SgP c) : c < 128 := by
  unfold SgP sgB at h
  simp at h
  omega
def FlM (H : Hp) (a : Addr) (M : Mat) : Prop := H a = some (.tup ((strsM M).map V.str)) ∧ OkM SgP M
theorem FlM.same {H H' : Hp} {a : Addr} {M : Mat} (h : FlM H a M) (s : Same H H') : FlM H' a M := ⟨s _ _ h.1, h.2⟩
theorem strs_len (M : Mat) : (strsM M).length = M.h := by unfold strsM; simp
theorem strs_at {M : Mat} {r : Nat} (h : r < M.h) : (strsM M)[r]? = some ⟨(lineM M r).toArray⟩ := by
  unfold strsM
  rw [List.getElem?_map, List.getElem?_range h]
  rfl
theorem line_len (M : Mat) (r : Nat) : (lineM M r).length = M.w := by unfold lineM; simp
theorem line_at {M : Mat} {r c : Nat} (h : c < M.w) : (lineM M r)[c]? = some (M.g r c) := by
  unfold lineM
  rw [List.getElem?_map, List.getElem?_range h]
  rfl
theorem line_sg {M : Mat} (o : OkM SgP M) {r : Nat} (hr : r < M.h) : ∀ c ∈ lineM M r, SgP c := fun c hc => by
  unfold lineM at hc
  obtain ⟨k, hk, rfl⟩ := List.mem_map.mp hc
  exact o.sg r k hr (by simpa using hk)
theorem strs_mem {M : Mat} {z : Str} (h : z ∈ strsM M) : ∃ r, r < M.h ∧ z = ⟨(lineM M r).toArray⟩ := by
  unfold strsM at h
  obtain ⟨r, hr, rfl⟩ := List.mem_map.mp h
  exact ⟨r, by simpa using hr, rfl⟩
theorem SameM.strs {M N : Mat} (a : SameM M N) : strsM M = strsM N := by
  unfold strsM
  rw [← a.h]
  exact List.map_congr_left fun r hr => by rw [a.line (by simpa using hr)]
end L3

set_option maxHeartbeats 4000000
namespace K08
open PySem PyProof.Rows L2 L3
def top (i : Nat) : Stmt := PySem.Challenge.pw_coverpieces_k08_floors_turned.main.body.getD i (.Pass ⟨0, 0, 0, 0⟩)
abbrev sBig : Stmt := top 1
abbrev sSmall : Stmt := top 2
abbrev sTd : Stmt := top 4
abbrev sMir : Stmt := top 5
abbrev sTr : Stmt := top 6
abbrev sThen : Stmt := top 7
abbrev sUndo : Stmt := top 8
abbrev sNumb : Stmt := top 9
abbrev sIsf : Stmt := top 15
abbrev sRow : Stmt := top 16
abbrev sSg : Stmt := top 17
abbrev sSpots : Stmt := top 18
abbrev sTf : Stmt := top 19
abbrev sCell : Stmt := top 21
abbrev sState : Stmt := top 22
abbrev sNext : Stmt := top 23
abbrev sFloor : Stmt := top 24
abbrev sTurn : Stmt := top 25
abbrev sLaw : Stmt := top 26
def blts : List Str := ["len", "min", "max", "sorted", "tuple", "list", "isinstance", "bool", "range", "str", "enumerate", "all"]
section
variable {P : Program} {w : World} {K : PySem.W.Frag} {mg : Str → Option Value} {base : Heap} {f : Addr} {fd : FuncData}

theorem pw60 : (0 : Int) < 10 ^ (Int.toNat 60) := by decide
theorem pwM : (0 : Int) < 2305843009213693951 := by decide
/-! ### the script's cell -/
def spCell (K : PySem.W.Frag) : Sp := fun vs H Q _ => ∃ (a : Addr) (ns : List Int) (k : Int), vs = [.ref a, .int k] ∧ SqL K H a (ns.map V.int) ∧ 0 ≤ k ∧ ∀ c : Int, Q (.int c) H
theorem scCell : FnScope ["_law_script", "_law_k"] ["_law_script", "_law_k"] (defScope sCell) := ⟨rfl, rfl, rfl, by decide +kernel, rfl, by decide +kernel, by decide +kernel⟩
theorem ok_cell (B : ∀ x ∈ blts, mg x = none) (F : Fun K "_law_cell_at" "_law_cell_at" sCell f fd) : FnOk P w K mg base CX0 1 f fd ["_law_script", "_law_k"] (spCell K) := by
  refine F.ok (k := 0) scCell (fun vs H Q E h => ?_) (fun cdv A outer s H vs Q E hr h => ?_)
  · obtain ⟨a, ns, k, rfl, _⟩ := h
    rfl
  obtain ⟨a, ns, k, rfl, ha, hk, q⟩ := h
  refine ⟨_, (pss_cons (ps_if (pt_cmpR op_lt (pv 1) (pe_cB call_len_seq rfl (B "len" (by decide)) PySem.boot_len (pa_c (pv 0) pa_nil)) (nomark _)) (pss_one (ps_ret (pe_op op_mod (pe_ix ix_list (pv 0) (pv 1) (fun _ _ => rfl)) (pe_op op_pow pe_int pe_int)))) pss_nil)
    (pss_one (ps_ret pe_int))), ?_⟩
  refine ⟨_, rfl, _, rfl, a, _, rfl, .inl ha, _, _, rfl, rfl, _, rfl, ?_⟩
  refine ite2 (fun c => ?_) (fun c => ?_)
  · have c' : k < (((ns.map V.int).length : Nat) : Int) := of_decide_eq_true c
    rw [List.length_map] at c'
    obtain ⟨j, rfl⟩ := Int.eq_ofNat_of_zero_le hk
    have hj : j < ns.length := by omega
    have hv : atI (ns.map V.int) (j : Int) = some (.int ns[j]) := atI_nat (by rw [List.getElem?_map, List.getElem?_eq_getElem hj]; rfl)
    refine ⟨_, rfl, _, rfl, a, _, _, _, rfl, rfl, ha, hv, _, _, rfl, rfl, ⟨by decide, by decide, by decide⟩, _, _, rfl, rfl, pw60, q _⟩
  · exact q _

/-! ### the draws' state -/
def spState : Sp := fun vs H Q _ => ∃ c k : Int, vs = [.int c, .int k] ∧ ∀ p n, H p = none → Q (.ref p) (upd H p (.lst [.int n]))
theorem scState : FnScope ["_law_cell", "_law_k"] ["_law_cell", "_law_k"] (defScope sState) := ⟨rfl, rfl, rfl, by decide +kernel, rfl, by decide +kernel, by decide +kernel⟩
theorem ok_state (F : Fun K "_law_state" "_law_state" sState f fd) : FnOk P w K mg base CX0 1 f fd ["_law_cell", "_law_k"] spState := by
  refine F.ok (k := 0) scState (fun vs H Q E h => ?_) (fun cdv A outer s H vs Q E hr h => ?_)
  · obtain ⟨c, k, rfl, _⟩ := h
    rfl
  obtain ⟨c, k, rfl, q⟩ := h
  refine ⟨_, (pss_one (ps_ret (pe_lst (pa_c (pe_op op_mod (pe_op op_add (pe_op op_add (pe_op op_mul (pe_op op_mod (pv 0) (pe_op op_pow pe_int pe_int)) pe_int) (pe_op op_mul pe_int (pv 1))) pe_int) pe_int) pa_nil)))), ?_⟩
  refine ⟨_, rfl, _, _, rfl, rfl, ⟨by decide, by decide, by decide⟩, _, _, rfl, rfl, pw60, _, _, rfl, rfl, .inr ⟨by decide, by decide⟩, _, rfl, _, _, rfl, rfl, .inl ⟨by decide, by decide⟩, _, _, rfl, rfl, _, _, rfl, rfl, _, _, rfl, rfl, pwM,
    (by show 1 ≤ sizeLine; decide), fun p hp => q p _ hp⟩

/-! ### a draw -/
def spNext : Sp := fun vs H Q _ => ∃ (st : Addr) (n m : Int), vs = [.ref st, .int m] ∧ H st = some (.lst [.int n]) ∧ 0 < m ∧ ∀ n' i : Int, 0 ≤ i → i < m → Q (.int i) (upd H st (.lst [.int n']))
theorem scNext : FnScope ["_law_state_here", "_law_many"] ["_law_state_here", "_law_many"] (defScope sNext) := ⟨rfl, rfl, rfl, by decide +kernel, rfl, by decide +kernel, by decide +kernel⟩
theorem ok_next (F : Fun K "_law_next" "_law_next" sNext f fd) : FnOk P w K mg base CX0 1 f fd ["_law_state_here", "_law_many"] spNext := by
  refine F.ok (k := 0) scNext (fun vs H Q E h => ?_) (fun cdv A outer s H vs Q E hr h => ?_)
  · obtain ⟨st, n, m, rfl, _⟩ := h
    rfl
  obtain ⟨st, n, m, rfl, hst, hm, q⟩ := h
  refine ⟨_, (pss_cons (ps_asg (pe_op op_mod (pe_op op_add (pe_op op_mul (pe_ix ix_list (pv 0) pe_int (fun _ _ => rfl)) pe_int) pe_int) pe_int) (pg_sub (pv 0) pe_int set_list))
    (pss_one (ps_ret (pe_op op_mod (pe_op op_fdiv (pe_ix ix_list (pv 0) pe_int (fun _ _ => rfl)) pe_int) (pv 1))))), ?_⟩
  refine ⟨_, rfl, st, _, _, _, rfl, rfl, SqL.of hst, rfl, _, _, rfl, rfl, .inr ⟨by decide, by decide⟩, _, _, rfl, rfl, _, _, rfl, rfl, pwM, ?_⟩
  refine ⟨_, rfl, st, _, _, 0, rfl, rfl, hst, rfl, ?_⟩
  refine ⟨_, rfl, st, _, _, _, rfl, rfl, SqL.of upd_same, rfl, _, _, rfl, rfl, ⟨by decide, by decide⟩, _, rfl, _, _, rfl, rfl, hm, ?_⟩
  exact q _ _ (Int.emod_nonneg _ (by omega)) (Int.emod_lt_of_pos _ hm)

/-! ### a sign -/
def spBig : Sp := fun vs H Q _ => ∃ c : Nat, vs = [.str ⟨#[c]⟩] ∧ Q (.bl (decide (65 ≤ c) && decide (c ≤ 90))) H
def spSmall : Sp := fun vs H Q _ => ∃ c : Nat, vs = [.str ⟨#[c]⟩] ∧ Q (.bl (decide (97 ≤ c) && decide (c ≤ 122))) H
theorem scBig : FnScope ["found"] ["found"] (defScope sBig) := ⟨rfl, rfl, rfl, by decide +kernel, rfl, by decide +kernel, by decide +kernel⟩
theorem scSmall : FnScope ["found"] ["found"] (defScope sSmall) := ⟨rfl, rfl, rfl, by decide +kernel, rfl, by decide +kernel, by decide +kernel⟩
theorem le1 (a b : Nat) : (!decide ([b] < [a])) = decide (a ≤ b) := by
  have h : ([b] < [a]) ↔ b < a := by simp [List.cons_lt_cons_iff]
  rw [decide_eq_decide.mpr h]
  by_cases c : b < a
  · rw [decide_eq_true c, decide_eq_false (by omega)]; rfl
  · rw [decide_eq_false c, decide_eq_true (by omega)]; rfl
theorem between {c lo hi : Nat} {a z : Str} {R : V → Prop} {A B : Prop} (ha : a.cps.toList = [lo]) (hz : z.cps.toList = [hi]) (q : R (.bl (decide (lo ≤ c) && decide (c ≤ hi))))
    (hA : R (.bl (!decide (z.cps.toList < [c]))) → A) (hB : R (.bl false) → B) : if (!decide ((⟨#[c]⟩ : Str).cps.toList < a.cps.toList)) = true then A else B := by
  have e : (⟨#[c]⟩ : Str).cps.toList = [c] := rfl
  rw [e, ha, le1]
  rw [hz, le1] at hA
  by_cases h : lo ≤ c
  · rw [decide_eq_true h] at *
    rw [if_pos rfl]
    exact hA q
  · rw [decide_eq_false h] at *
    rw [if_neg Bool.false_ne_true]
    exact hB q
theorem len1 (c : Nat) : (⟨#[c]⟩ : Str).length ≤ sizeLine := by show 1 ≤ sizeLine; decide
theorem ok_big (B : ∀ x ∈ blts, mg x = none) (F : Fun K "is_sign" "is_sign" sBig f fd) : FnOk P w K mg base CX0 1 f fd ["found"] spBig := by
  refine F.ok (k := 0) scBig (fun vs H Q E h => ?_) (fun cdv A outer s H vs Q E hr h => ?_)
  · obtain ⟨c, rfl, _⟩ := h
    rfl
  obtain ⟨c, rfl, q⟩ := h
  refine ⟨_, (pss_one (ps_ret (pe_and (pe_cB call_isinst rfl (B "isinstance" (by decide)) boot_isinstance (pa_c (pv 0) (pa_c (pe_bltn (v := .ty "str") rfl (B "str" (by decide)) boot_str rfl) pa_nil))) (pe_and (pe_cmpR op_eq (pe_cB call_len_str rfl (B "len" (by decide)) PySem.boot_len (pa_c (pv 0) pa_nil)) pe_int (nomark _)) (pe_one (pe_chain op_le_str op_le_str pe_str (pv 0) pe_str)))))), ?_⟩
  refine ⟨_, rfl, _, _, _, true, rfl, .str _, rfl, true, rfl, ?_⟩
  refine iteT ?_
  refine ⟨_, rfl, _, rfl, len1 c, rfl, true, rfl, ?_⟩
  refine iteT ?_
  exact ⟨_, rfl, _, _, rfl, rfl, _, rfl, between (a := Str.ofString "A") (z := Str.ofString "Z") (R := fun v => Q v H) (by decide +kernel) (by decide +kernel) q (fun h => ⟨_, _, rfl, rfl, h⟩) (fun h => h)⟩
theorem ok_small (B : ∀ x ∈ blts, mg x = none) (F : Fun K "is_small" "is_small" sSmall f fd) : FnOk P w K mg base CX0 1 f fd ["found"] spSmall := by
  refine F.ok (k := 0) scSmall (fun vs H Q E h => ?_) (fun cdv A outer s H vs Q E hr h => ?_)
  · obtain ⟨c, rfl, _⟩ := h
    rfl
  obtain ⟨c, rfl, q⟩ := h
  refine ⟨_, (pss_one (ps_ret (pe_and (pe_cB call_isinst rfl (B "isinstance" (by decide)) boot_isinstance (pa_c (pv 0) (pa_c (pe_bltn (v := .ty "str") rfl (B "str" (by decide)) boot_str rfl) pa_nil))) (pe_and (pe_cmpR op_eq (pe_cB call_len_str rfl (B "len" (by decide)) PySem.boot_len (pa_c (pv 0) pa_nil)) pe_int (nomark _)) (pe_one (pe_chain op_le_str op_le_str pe_str (pv 0) pe_str)))))), ?_⟩
  refine ⟨_, rfl, _, _, _, true, rfl, .str _, rfl, true, rfl, ?_⟩
  refine iteT ?_
  refine ⟨_, rfl, _, rfl, len1 c, rfl, true, rfl, ?_⟩
  refine iteT ?_
  exact ⟨_, rfl, _, _, rfl, rfl, _, rfl, between (a := Str.ofString "a") (z := Str.ofString "z") (R := fun v => Q v H) (by decide +kernel) (by decide +kernel) q (fun h => ⟨_, _, rfl, rfl, h⟩) (fun h => h)⟩
end
end K08

set_option maxHeartbeats 8000000
namespace K08
open PySem PyProof.Rows L2 L3
section
variable {P : Program} {w : World} {K : PySem.W.Frag} {mg : Str → Option Value} {base : Heap} {f : Addr} {fd : FuncData}
theorem tx_line {z : Str} (h : Tx z) : z.length ≤ sizeLine := Nat.le_of_lt (small1000 (by have := h.1; omega))
theorem lenL (z : Str) : z.cps.toList.length = z.length := by simp [Str.length]
theorem atI0 {α : Type} {xs : List α} {x : α} (h : xs[0]? = some x) : atI xs 0 = some x := by
  have := atI_nat h
  exact this
def GS (mg : Str → Option Value) (x z : Str) : Prop := ∃ t, mg x = some (.str z t)
abbrev FnNext (P : Program) (w : World) (K : PySem.W.Frag) (mg : Str → Option Value) (base : Heap) : Prop := Fn P w K mg base "_law_next" 1 ["_law_state_here", "_law_many"] spNext
/-! ### a floor drawn -/
def Rw (zs : List Str) : Prop := 0 < zs.length ∧ zs.length ≤ 8 ∧ ∃ wd, 0 < wd ∧ wd ≤ 8 ∧ ∀ z ∈ zs, (Tx z ∧ ∀ c ∈ z.cps.toList, sgB c = true) ∧ z.length = wd
def spFloor : Sp := fun vs H Q _ => ∃ (st : Addr) (n : Int) (sg : Str), vs = [.ref st, .int 8, .str sg] ∧ H st = some (.lst [.int n]) ∧ Tx sg ∧ (∀ c ∈ sg.cps.toList, sgB c = true) ∧ 0 < sg.length ∧
  ∀ (p : Addr) (zs : List Str) (H' : Hp) (n' : Int), H p = none → Ex [st] H H' → H' st = some (.lst [.int n']) → H' p = some (.tup (zs.map V.str)) → Rw zs → Q (.ref p) H'
theorem scFloor : FnScope ["_law_state_here", "_law_most", "_law_signs", "_law_high", "_law_wide", "_law_rows", "_law_row"] ["_law_state_here", "_law_most", "_law_signs"] (defScope sFloor) := ⟨rfl, rfl, rfl, by decide +kernel, rfl, by decide +kernel, by decide +kernel⟩
theorem ok_floor (B : ∀ x ∈ blts, mg x = none) (Fnext : FnNext P w K mg base) (F : Fun K "_law_floor" "_law_floor" sFloor f fd) : FnOk P w K mg base CX0 2 f fd ["_law_state_here", "_law_most", "_law_signs"] spFloor := by
  refine F.ok (k := 1) scFloor (fun vs H Q E h => ?_) (fun cdv A outer s H vs Q E hr h => ?_)
  · obtain ⟨st, n, sg, rfl, _⟩ := h
    rfl
  obtain ⟨st, n, sg, rfl, hst, hsg, hsgB, hsg0, q⟩ := h
  refine ⟨_, (pss_cons (ps_set (i := 3) scFloor.nd rfl (Or.inl rfl) (pe_op op_add pe_int (pe_fn Fnext hr (by decide) rfl (pa_c (pv 0) (pa_c (pv 1) pa_nil)))))
    (pss_cons (ps_set (i := 4) scFloor.nd rfl (Or.inl rfl) (pe_op op_add pe_int (pe_fn Fnext hr (by decide) rfl (pa_c (pv 0) (pa_c (pv 1) pa_nil)))))
    (pss_cons (ps_set (i := 5) scFloor.nd rfl (Or.inl rfl) (pe_lst pa_nil))
    (pss_cons (ps_for PassesOwn.never rfl (pi_r1 rfl (B "range" (by decide)) (pa_c (pv 3) pa_nil)) (pg_name (i := 6) scFloor.nd rfl (Or.inl rfl)) (pss_one (ps_expr (pe_bm PySem.F.plainAttrs_list PySem.F.slot_list_append PySem.F.type_list_append mt_append (pv 5) (pa_c (pe_bm PySem.F.plainAttrs_str PySem.F.slot_str_join PySem.F.type_str_join mt_join pe_str (pa_c (pe_comp ["_law_column", "_law_signs", "_law_state_here"] [none, some 2, some 0] rfl rfl (by decide +kernel) (by decide +kernel) rfl rfl (pi_r1 rfl (B "range" (by decide)) (pa_c (pv 4) pa_nil)) (fun _ => (pg_name (i := 0) (show (["_law_column", "_law_signs", "_law_state_here"] : List PySem.Str).Nodup by decide +kernel) rfl (Or.inl rfl))) (fun _ => pts_nil) (fun _ => (pe_ix ix_str (pv 1) (pe_fn Fnext hr (by decide) rfl (pa_c (pv 2) (pa_c (pe_cB call_len_str rfl (B "len" (by decide)) PySem.boot_len (pa_c (pv 1) pa_nil)) pa_nil))) (fun _ _ => rfl)))) pa_nil)) pa_nil)))))
    (pss_one (ps_ret (pe_cT call_tuple_of rfl (B "tuple" (by decide)) boot_tuple (pa_c (pv 5) pa_nil)))))))), ?_⟩
  refine ⟨_, rfl, _, rfl, st, n, 8, rfl, hst, by decide, fun n1 i1 h10 h11 => ⟨_, _, rfl, rfl, ?_⟩⟩
  have st1 : upd H st (.lst [.int n1]) st = some (.lst [.int n1]) := upd_same
  have ex1 : Ex [st] H (upd H st (.lst [.int n1])) := Ex.upd (by simp)
  generalize upd H st (.lst [.int n1]) = H1 at *
  refine ⟨_, rfl, _, rfl, st, n1, 8, rfl, st1, by decide, fun n2 i2 h20 h21 => ⟨_, _, rfl, rfl, ?_⟩⟩
  have st2 : upd H1 st (.lst [.int n2]) st = some (.lst [.int n2]) := upd_same
  have ex2 : Ex [st] H (upd H1 st (.lst [.int n2])) := ex1.trans (Ex.upd (by simp))
  generalize upd H1 st (.lst [.int n2]) = H2 at *
  refine ⟨(by show 0 ≤ sizeLine; decide), fun r hr0 => ?_⟩
  have nr : r ≠ st := fun e => by rw [e, st2] at hr0; cases hr0
  have hrH : H r = none := by
    cases z : H r with
    | none => rfl
    | some o => have z' := ex2 r o (by simpa using nr) z; rw [z'] at hr0; cases hr0
  have st3 : upd H2 r (.lst []) st = some (.lst [.int n2]) := by rw [upd_ne (Ne.symm nr)]; exact st2
  have r3 : upd H2 r (.lst []) r = some (.lst []) := upd_same
  have ex3 : Ex [st] H (upd H2 r (.lst [])) := ex2.trans (Ex.fresh hr0)
  generalize upd H2 r (.lst []) = H3 at *
  obtain ⟨hi, rfl⟩ : ∃ hi : Nat, i1 = hi := Int.eq_ofNat_of_zero_le h10
  obtain ⟨wi, rfl⟩ : ∃ wi : Nat, i2 = wi := Int.eq_ofNat_of_zero_le h20
  refine ⟨_, rfl, _, rfl, ?_, ?_, ?_⟩
  · omega
  · omega
  refine for_range (lo := 0) (fun i σ' H' => ∃ (y6 : Option V) (n : Int) (zs : List Str), σ' = [some (.ref st), some (.int 8), some (.str sg), some (.int (1 + hi)), some (.int (1 + wi)), some (.ref r), y6] ∧ Ex [st, r] H H' ∧ H' st = some (.lst [.int n]) ∧ H' r = some (.lst (zs.map V.str)) ∧ zs.length = i ∧ ∀ z ∈ zs, (Tx z ∧ ∀ c ∈ z.cps.toList, sgB c = true) ∧ z.length = 1 + wi) ?_ (fun i σ' H' hi' h => ?_) (fun σ' H' h => ?_)
  · exact ⟨_, n2, [], rfl, fun b o hb h0 => ex3 b o (fun z => hb (by simp [List.mem_singleton.mp z])) h0, st3, r3, rfl, fun z hz => by cases hz⟩
  · obtain ⟨y6, n4, zs, rfl, ex4, st4, r4, hl4, hz4⟩ := h
    refine ⟨_, rfl, .inl ⟨rfl, _, SqL.of r4⟩, rfl, ?_⟩
    refine ⟨_, rfl, _, rfl, ?_, ?_, ?_⟩
    · omega
    · omega
    intro D hD
    have nD : D ≠ st := fun e => by rw [e, st4] at hD; cases hD
    have nDr : D ≠ r := fun e => by rw [e, r4] at hD; cases hD
    refine comp_range (lo := 0) (fun j ys H5 => ∃ (n5 : Int) (ws : List Str), Ex [st, D] H' H5 ∧ H5 st = some (.lst [.int n5]) ∧ ys = ws.map V.str ∧ ws.length = j ∧ ∀ w ∈ ws, w.length = 1 ∧ Tx w ∧ ∀ c ∈ w.cps.toList, sgB c = true) ?_ (fun j ys H5 hj hDy hyl p => ?_) (fun ys H5 hDy hyl p => ?_)
    · exact ⟨n4, [], Ex.fresh hD, by rw [upd_ne (Ne.symm nD)]; exact st4, rfl, rfl, fun w hw => by cases hw⟩
    · obtain ⟨n5, ws, ex5, st5, rfl, hl5, hw5⟩ := p
      refine ⟨Agree.set (Agree.refl _) rfl, ?_⟩
      dsimp only [tYes]
      refine iteT ?_
      refine ⟨_, rfl, _, rfl, _, rfl, sg, rfl, tx_line hsg, st, n5, _, rfl, st5, by omega, fun n6 i6 h60 h61 => ?_⟩
      obtain ⟨j6, rfl⟩ := Int.eq_ofNat_of_zero_le h60
      have hj6 : j6 < sg.cps.toList.length := by
        have := lenL sg
        omega
      refine ⟨sg, _, sg.cps.toList[j6], rfl, rfl, tx_line hsg, atI_nat (List.getElem?_eq_getElem hj6), ?_⟩
      refine nx_put (by omega) (by rw [upd_ne nD]; exact hDy) hyl ⟨n6, ws ++ [⟨#[sg.cps.toList[j6]]⟩], (ex5.trans (Ex.upd (by simp))).trans (Ex.upd (by simp)), ?_, by rw [List.map_append]; rfl, by simp [hl5], fun w hw => ?_⟩
      · rw [upd_ne (Ne.symm nD)]; exact upd_same
      · rcases List.mem_append.mp hw with h | h
        · exact hw5 w h
        · rw [List.mem_singleton.mp h]
          refine ⟨rfl, ⟨by show 1 ≤ 80; omega, fun c hc => ?_⟩, fun c hc => ?_⟩
          · have e : c = sg.cps.toList[j6] := by simpa using hc
            rw [e]
            exact hsg.2 _ (List.getElem_mem hj6)
          · have e : c = sg.cps.toList[j6] := by simpa using hc
            rw [e]
            exact hsgB _ (List.getElem_mem hj6)
    · obtain ⟨n5, ws, ex5, st5, rfl, hl5, hw5⟩ := p
      have hsum := PySem.StrLaws.sumLen_le (B := 1) ws fun y hy => Nat.le_of_eq (hw5 y hy).1
      obtain ⟨tj, lj⟩ := Tx.join (g := Str.ofString "") (by decide +kernel) (fun y hy => (hw5 y hy).1) (fun y hy => (hw5 y hy).2.1) (by omega)
      have e0 : (Str.ofString "").length = 0 := by decide +kernel
      refine ⟨_, D, ws, rfl, rfl, hDy, by rw [e0]; omega, ?_⟩
      have r5 : H5 r = some (.lst (zs.map V.str)) := ex5 _ _ (by simp [nr, Ne.symm nDr]) r4
      refine ⟨r, zs.map V.str, _, rfl, rfl, r5, small1000 (by rw [List.length_map]; omega), ?_⟩
      refine ⟨_, n5, zs ++ [Txt.join (Str.ofString "") ws], rfl, ?_, ?_, ?_, by simp [hl4], fun z hz => ?_⟩
      · intro b o hb h0
        have h1 := ex4 b o hb h0
        have nb : b ≠ D := fun e => by rw [e, hD] at h1; cases h1
        have hb' : b ≠ st ∧ b ≠ r := by simpa using hb
        have h2 := ex5 b o (by simp [hb'.1, nb]) h1
        rw [upd_ne hb'.2]
        exact h2
      · rw [upd_ne (Ne.symm nr)]; exact st5
      · rw [List.map_append]; exact upd_same
      · rcases List.mem_append.mp hz with h | h
        · exact hz4 z h
        · rw [List.mem_singleton.mp h]
          refine ⟨⟨tj, fun c hc => ?_⟩, by omega⟩
          rw [join_list_eq (by decide +kernel), List.mem_flatten] at hc
          obtain ⟨t, ht, hc⟩ := hc
          obtain ⟨y, hy, rfl⟩ := List.mem_map.mp ht
          exact (hw5 y hy).2.2 c hc
  · obtain ⟨y6, n4, zs, rfl, ex4, st4, r4, hl4, hz4⟩ := h
    refine ⟨_, rfl, r, zs.map V.str, rfl, .inl ⟨SqL.of r4, fun p hp => ?_⟩⟩
    have np : p ≠ st := fun e => by rw [e, st4] at hp; cases hp
    have npr : p ≠ r := fun e => by rw [e, r4] at hp; cases hp
    refine q p zs _ n4 ?_ ?_ ?_ upd_same ⟨by omega, by omega, 1 + wi, by omega, by omega, hz4⟩
    · cases z : H p with
      | none => rfl
      | some o => have z' := ex4 p o (by simp [np, npr]) z; rw [z'] at hp; cases hp
    · intro b o hb h0
      have nb : b ≠ r := fun e => by rw [e, hrH] at h0; cases h0
      have nbs : b ≠ st := by simpa using hb
      have h1 := ex4 b o (by simp [nb, nbs]) h0
      rw [upd_ne (ne_of_none h1 hp)]
      exact h1
    · rw [upd_ne (Ne.symm np)]; exact st4
end
end K08

set_option maxHeartbeats 4000000
namespace K08
open PySem PyProof.Rows L2 L3
section
variable {P : Program} {w : World} {K : PySem.W.Frag} {mg : Str → Option Value} {base : Heap} {f : Addr} {fd : FuncData}
def spSg : Sp := fun vs H Q _ => ∃ c : Nat, vs = [.str ⟨#[c]⟩] ∧ c < 128 ∧ ∀ H', Same H H' → Q (.bl (sgB c)) H'
theorem scSg : FnScope ["sign"] ["sign"] (defScope sSg) := ⟨rfl, rfl, rfl, by decide +kernel, rfl, by decide +kernel, by decide +kernel⟩
theorem ok1 {c : Nat} (h : c < 128) : PyData.strOk (⟨#[c]⟩ : Str) = true := Tx.ok ⟨by show 1 ≤ 80; omega, fun x hx => by
  have : x = c := by simpa using hx
  omega⟩
theorem str1_eq (c d : Nat) : PyData.eqv (.str ⟨#[d]⟩) (.str ⟨#[c]⟩) = (c == d) := by
  show ((⟨#[d]⟩ : Str) == ⟨#[c]⟩) = _
  rw [Bool.eq_iff_iff, beq_iff_eq, beq_iff_eq]
  constructor
  · intro h
    injection h with h
    injection h with h
    injection h with h
    exact h.symm
  · intro h
    rw [h]
theorem three (c : Nat) : (if false = true then !([PyData.str (Str.ofString "#"), .str (Str.ofString "."), .str (Str.ofString ",")].any fun e => PyData.eqv e (.str ⟨#[c]⟩)) else [PyData.str (Str.ofString "#"), .str (Str.ofString "."), .str (Str.ofString ",")].any fun e => PyData.eqv e (.str ⟨#[c]⟩)) = (c == 35 || c == 46 || c == 44) := by
  have e1 : Str.ofString "#" = ⟨#[35]⟩ := by decide +kernel
  have e2 : Str.ofString "." = ⟨#[46]⟩ := by decide +kernel
  have e3 : Str.ofString "," = ⟨#[44]⟩ := by decide +kernel
  rw [if_neg Bool.false_ne_true, e1, e2, e3]
  simp only [List.any_cons, List.any_nil, str1_eq, Bool.or_false, Bool.or_assoc]
def G8 (mg : Str → Option Value) : Prop := ∃ t, mg "MOST_LINES" = some (.int 8 t)
theorem ok_sg (gC : GS mg "CLOSED" "#") (gP : GS mg "COVERED" ".") (gF : GS mg "FREE" ",") (Fbig : Fn P w K mg base "is_sign" 1 ["found"] spBig) (Fsmall : Fn P w K mg base "is_small" 1 ["found"] spSmall) (F : Fun K "is_floor_sign" "is_floor_sign" sSg f fd) : FnOk P w K mg base CX0 2 f fd ["sign"] spSg := by
  refine F.ok (k := 1) scSg (fun vs H Q E h => ?_) (fun cdv A outer s H vs Q E hr h => ?_)
  · obtain ⟨c, rfl, _⟩ := h
    rfl
  obtain ⟨c, rfl, hc, q⟩ := h
  have hu := hr.units
  refine ⟨_, (pss_one (ps_ret (pe_or (pe_cmpR (op_inD hu) (pv 0) (pe_tup (pa_c (pe_globS gC rfl) (pa_c (pe_globS gP rfl) (pa_c (pe_globS gF rfl) pa_nil)))) rfl) (pe_or (pe_fn Fbig hr (by decide) rfl (pa_c (pv 0) pa_nil)) (pe_one (pe_fn Fsmall hr (by decide) rfl (pa_c (pv 0) pa_nil))))))), ?_⟩
  refine ⟨_, rfl, (by show 3 ≤ sizeLine; decide), fun p hp => ?_⟩
  refine ⟨.str ⟨#[c]⟩, p, _, [.str "#", .str ".", .str ","], ⟨rfl, ok1 hc⟩, rfl, .inr upd_same, ⟨_, _, rfl, ⟨rfl, by decide +kernel⟩, _, _, rfl, ⟨rfl, by decide +kernel⟩, _, _, rfl, ⟨rfl, by decide +kernel⟩, rfl⟩, by simp [PyData.depth], _, rfl, ?_⟩
  have s1 : Same H (upd H p (.tup [.str "#", .str ".", .str ","])) := Same.fresh _ hp
  rw [three]
  have q1 := q _ s1
  unfold sgB at q1
  refine ite2 (fun h1 => ?_) (fun h1 => ?_)
  · rw [h1] at q1
    simpa using q1
  · rw [Bool.eq_false_iff.mpr h1] at q1
    refine ⟨_, rfl, c, rfl, _, rfl, ?_⟩
    refine ite2 (fun h2 => ?_) (fun h2 => ?_)
    · rw [h2] at q1
      simpa using q1
    · rw [Bool.eq_false_iff.mpr h2] at q1
      refine ⟨_, rfl, c, rfl, ?_⟩
      simpa using q1

/-! ### a row -/
theorem row_eq (z : Str) : rowB (some z) = (decide (1 ≤ z.length) && decide (z.length ≤ 8) && z.cps.toList.all sgB) := rfl
theorem fl_eq (os : List (Option Str)) : flB (some os) = (decide (1 ≤ os.length) && decide (os.length ≤ 8) && os.all fun o => rowB o && (lenO o == lenO ((os[0]?).getD none))) := rfl
def spRow : Sp := fun vs H Q _ => ∃ (v : V) (o : Option Str), vs = [v] ∧ Itm H v o ∧ ∀ H', Same H H' → Q (.bl (rowB o)) H'
theorem scRow : FnScope ["found"] ["found"] (defScope sRow) := ⟨rfl, rfl, rfl, by decide +kernel, rfl, by decide +kernel, by decide +kernel⟩
theorem ok_row (B : ∀ x ∈ blts, mg x = none) (g8 : G8 mg) (Fsg : Fn P w K mg base "is_floor_sign" 2 ["sign"] spSg) (F : Fun K "is_floor_row" "is_floor_row" sRow f fd) : FnOk P w K mg base CX0 3 f fd ["found"] spRow := by
  refine F.ok (k := 2) scRow (fun vs H Q E h => ?_) (fun cdv A outer s H vs Q E hr h => ?_)
  · obtain ⟨v, o, rfl, _⟩ := h
    rfl
  obtain ⟨v, o, rfl, hv, q⟩ := h
  refine ⟨_, (pss_cons (ps_if (PW.pt (pw_or (pt_not (pt_val (pe_cB call_isinst rfl (B "isinstance" (by decide)) boot_isinstance (pa_c (pv 0) (pa_c (pe_bltn (v := .ty "str") rfl (B "str" (by decide)) boot_str rfl) pa_nil))))) (pw_or1 (pt_not (pt_chain op_le op_le pe_int (pe_cB call_len_str rfl (B "len" (by decide)) PySem.boot_len (pa_c (pv 0) pa_nil)) (pe_globI g8 rfl)))))) (pss_one (ps_ret pe_bl)) pss_nil)
    (pss_one (ps_ret (pe_cB (call_all rfl) rfl (B "all" (by decide)) boot_all (pa_c (pe_comp ["sign"] [none] rfl rfl (by decide +kernel) (by decide +kernel) rfl rfl (pi_str (pv 0)) (fun _ => (pg_name (i := 0) (show (["sign"] : List PySem.Str).Nodup by decide +kernel) rfl (Or.inl rfl))) (fun _ => pts_nil) (fun _ => (pe_fn Fsg hr (by decide) rfl (pa_c (pv 0) pa_nil)))) pa_nil))))), ?_⟩
  cases o with
  | none =>
    obtain ⟨t, ty, kt⟩ := NoStr.ty (K := K) hv
    refine ⟨_, rfl, v, "str", t, false, rfl, ty, kt, false, rfl, ?_⟩
    refine iteT ?_
    refine iteT ?_
    exact q H (Same.refl H)
  | some z =>
    obtain ⟨rfl, hz⟩ := hv
    refine ⟨_, rfl, .str z, "str", .type "str", true, rfl, .str z, rfl, true, rfl, ?_⟩
    refine iteF ?_
    refine ⟨_, rfl, z, rfl, tx_line hz, ?_⟩
    refine ⟨_, _, rfl, rfl, _, rfl, ?_⟩
    refine ite2 (fun c1 => ?_) (fun c1 => ?_)
    · have c1' : (1 : Int) ≤ (z.length : Int) := of_decide_eq_true c1
      refine ⟨_, _, rfl, rfl, _, rfl, ?_⟩
      refine ite2 (fun c2 => ?_) (fun c2 => ?_)
      · have c2' : ¬ ((z.length : Int) ≤ 8) := by simpa using c2
        have e : rowB (some z) = false := by
          rw [row_eq]
          rw [decide_eq_false (show ¬ z.length ≤ 8 by omega), Bool.and_false, Bool.false_and]
        rw [← e]
        exact q H (Same.refl H)
      · have c2' : (z.length : Int) ≤ 8 := by simpa using c2
        have hl := lenL z
        refine ⟨_, rfl, z, rfl, fun D hD => ?_⟩
        refine comp_str (fun i ys H' => Same H H' ∧ ys = ((z.cps.toList.take i).map sgB).map V.bl) ⟨Same.fresh _ hD, rfl⟩ (fun i c ys H' hx hi hDy hyl p => ?_) (fun ys H' hDy hyl p => ?_)
        · obtain ⟨p1, rfl⟩ := p
          refine ⟨Agree.set (Agree.refl _) rfl, ?_⟩
          dsimp only [tYes]
          refine iteT ?_
          refine ⟨_, rfl, c, rfl, hz.2 c (List.mem_of_getElem? hx), fun H2 s2 => ?_⟩
          refine nx_put (by omega) (s2 _ _ hDy) hyl ⟨(p1.trans s2).new hD, ?_⟩
          rw [map_take_succ sgB hx, List.map_append]
          rfl
        · obtain ⟨p1, rfl⟩ := p
          refine ⟨D, z.cps.toList.map sgB, rfl, ?_, ?_⟩
          · rw [hDy, List.take_length]
          · have e : rowB (some z) = (z.cps.toList.map sgB).all id := by
              rw [row_eq]
              rw [decide_eq_true (show 1 ≤ z.length by omega), decide_eq_true (show z.length ≤ 8 by omega), List.all_map]
              rfl
            rw [← e]
            exact q H' p1
    · have c1' : ¬ ((1 : Int) ≤ (z.length : Int)) := by simpa using c1
      refine ⟨_, rfl, ?_⟩
      refine iteT ?_
      have e : rowB (some z) = false := by
        rw [row_eq]
        rw [decide_eq_false (show ¬ 1 ≤ z.length by omega), Bool.false_and, Bool.false_and]
      rw [← e]
      exact q H (Same.refl H)

/-! ### a floor -/
def spFl : Sp := fun vs H Q _ => ∃ (v : V) (T : Option (List (Option Str))), vs = [v] ∧ Thing H v T ∧ ∀ H', Same H H' → Q (.bl (flB T)) H'
theorem scIsf : FnScope ["found"] ["found"] (defScope sIsf) := ⟨rfl, rfl, rfl, by decide +kernel, rfl, by decide +kernel, by decide +kernel⟩
theorem all_and {α : Type} (f g : α → Bool) : ∀ l : List α, (l.all fun x => f x && g x) = (l.all f && l.all g)
  | [] => rfl
  | x :: l => by
    simp only [List.all_cons, all_and f g l]
    cases f x <;> cases g x <;> cases l.all f <;> rfl
theorem row_some {o : Option Str} (h : rowB o = true) : ∃ z, o = some z := by
  cases o with
  | none => cases h
  | some z => exact ⟨z, rfl⟩
theorem ok_isf (B : ∀ x ∈ blts, mg x = none) (g8 : G8 mg) (Frow : Fn P w K mg base "is_floor_row" 3 ["found"] spRow) (F : Fun K "is_floor" "is_floor" sIsf f fd) : FnOk P w K mg base CX0 4 f fd ["found"] spFl := by
  refine F.ok (k := 3) scIsf (fun vs H Q E h => ?_) (fun cdv A outer s H vs Q E hr h => ?_)
  · obtain ⟨v, T, rfl, _⟩ := h
    rfl
  obtain ⟨v, T, rfl, hv, q⟩ := h
  refine ⟨_, (pss_cons (ps_if (PW.pt (pw_or (pt_not (pt_val (pe_cB call_isinst rfl (B "isinstance" (by decide)) boot_isinstance (pa_c (pv 0) (pa_c (pe_bltn (v := .ty "tuple") rfl (B "tuple" (by decide)) boot_tuple rfl) pa_nil))))) (pw_or1 (pt_not (pt_chain op_le op_le pe_int (pe_cB call_len_seq rfl (B "len" (by decide)) PySem.boot_len (pa_c (pv 0) pa_nil)) (pe_globI g8 rfl)))))) (pss_one (ps_ret pe_bl)) pss_nil)
    (pss_cons (ps_if (pt_not (pt_val (pe_cB (call_all rfl) rfl (B "all" (by decide)) boot_all (pa_c (pe_comp ["row"] [none] rfl rfl (by decide +kernel) (by decide +kernel) rfl rfl (pi_tup (pv 0)) (fun _ => (pg_name (i := 0) (show (["row"] : List PySem.Str).Nodup by decide +kernel) rfl (Or.inl rfl))) (fun _ => pts_nil) (fun _ => (pe_fn Frow hr (by decide) rfl (pa_c (pv 0) pa_nil)))) pa_nil)))) (pss_one (ps_ret pe_bl)) pss_nil)
    (pss_one (ps_ret (pe_cB (call_all rfl) rfl (B "all" (by decide)) boot_all (pa_c (pe_comp ["row", "found"] [none, some 0] rfl rfl (by decide +kernel) (by decide +kernel) rfl rfl (pi_tup (pv 0)) (fun _ => (pg_name (i := 0) (show (["row", "found"] : List PySem.Str).Nodup by decide +kernel) rfl (Or.inl rfl))) (fun _ => pts_nil) (fun _ => (pe_cmpR op_eq (pe_cB call_len_str rfl (B "len" (by decide)) PySem.boot_len (pa_c (pv 0) pa_nil)) (pe_cB call_len_str rfl (B "len" (by decide)) PySem.boot_len (pa_c (pe_ix ix_tupC (pv 1) pe_int (fun _ _ => rfl)) pa_nil)) (nomark _)))) pa_nil)))))), ?_⟩
  cases T with
  | none =>
    obtain ⟨t, ty, kt⟩ := NoTup.ty (K := K) hv
    refine ⟨_, rfl, v, "tuple", t, false, rfl, ty, kt, false, rfl, ?_⟩
    refine iteT ?_
    refine iteT ?_
    exact q H (Same.refl H)
  | some os =>
    obtain ⟨h100, a, xs, rfl, ha, hi⟩ := hv
    have hl := hi.1
    refine ⟨_, rfl, .ref a, "tuple", .type "tuple", true, rfl, .tup ha, rfl, true, rfl, ?_⟩
    refine iteF ?_
    refine ⟨_, rfl, a, xs, rfl, .inr (SqT.of ha), ?_⟩
    refine ⟨_, _, rfl, rfl, _, rfl, ?_⟩
    refine ite2 (fun c1 => ?_) (fun c1 => ?_)
    · have c1' : (1 : Int) ≤ (xs.length : Int) := of_decide_eq_true c1
      refine ⟨_, _, rfl, rfl, _, rfl, ?_⟩
      refine ite2 (fun c2 => ?_) (fun c2 => ?_)
      · have c2' : ¬ ((xs.length : Int) ≤ 8) := by simpa using c2
        have e : flB (some os) = false := by
          rw [fl_eq]
          rw [decide_eq_false (show ¬ os.length ≤ 8 by omega), Bool.and_false, Bool.false_and]
        rw [← e]
        exact q H (Same.refl H)
      · have c2' : (xs.length : Int) ≤ 8 := by simpa using c2
        have ef : flB (some os) = (os.all rowB && os.all fun o => lenO o == lenO ((os[0]?).getD none)) := by
          rw [fl_eq]
          rw [decide_eq_true (show 1 ≤ os.length by omega), decide_eq_true (show os.length ≤ 8 by omega), all_and]
          rfl
        -- the rows
        refine ⟨_, rfl, a, rfl, ⟨_, SqT.of ha⟩, fun D hD => ?_⟩
        refine comp_tup (xs := xs) (fun i ys H' => Same H H' ∧ ys = ((os.take i).map rowB).map V.bl) ⟨Same.fresh _ hD, rfl⟩ (fun i ys H' p => SqT.of (p.1 _ _ ha)) (fun i x ys H' hx hil hDy hyl p => ?_) (fun ys H' hDy hyl p => ?_)
        · obtain ⟨p1, rfl⟩ := p
          obtain ⟨o, ho, hit⟩ := hi.at hx
          refine ⟨Agree.set (Agree.refl _) rfl, ?_⟩
          dsimp only [tYes]
          refine iteT ?_
          refine ⟨_, rfl, x, o, rfl, hit.same p1, fun H2 s2 => ?_⟩
          refine nx_put (by omega) (s2 _ _ hDy) hyl ⟨(p1.trans s2).new hD, ?_⟩
          rw [map_take_succ rowB ho, List.map_append]
          rfl
        · obtain ⟨p1, rfl⟩ := p
          refine ⟨D, os.map rowB, rfl, ?_, ?_⟩
          · rw [hDy, List.take_of_length_le (by omega)]
          refine ⟨_, rfl, ?_⟩
          have ea : (os.map rowB).all id = os.all rowB := by rw [List.all_map]; rfl
          rw [ea]
          refine ite2 (fun c3 => ?_) (fun c3 => ?_)
          · have c3' : os.all rowB = false := by simpa using c3
            have e : flB (some os) = false := by rw [ef, c3']; rfl
            rw [← e]
            exact q H' p1
          · have c3' : os.all rowB = true := by simpa using c3
            -- all of one length
            have i1 := hi.same p1
            refine ⟨_, rfl, a, rfl, ⟨_, SqT.of (p1 _ _ ha)⟩, fun D2 hD2 => ?_⟩
            refine comp_tup (xs := xs) (fun i ys H2 => Same H' H2 ∧ ys = ((os.take i).map fun o => lenO o == lenO ((os[0]?).getD none)).map V.bl) ⟨Same.fresh _ hD2, rfl⟩ (fun i ys H2 p => SqT.of (p.1 _ _ (p1 _ _ ha))) (fun i x ys H2 hx hil hDy2 hyl2 p => ?_) (fun ys H2 hDy2 hyl2 p => ?_)
            · obtain ⟨p2, rfl⟩ := p
              obtain ⟨o, ho, hit⟩ := i1.at hx
              obtain ⟨z, rfl⟩ := row_some (List.all_eq_true.mp c3' o (List.mem_of_getElem? ho))
              obtain ⟨rfl, hz⟩ := hit
              have h0 : 0 < xs.length := by omega
              obtain ⟨o0, ho0, hit0⟩ := i1.at (List.getElem?_eq_getElem h0)
              obtain ⟨z0, rfl⟩ := row_some (List.all_eq_true.mp c3' o0 (List.mem_of_getElem? ho0))
              obtain ⟨e0, hz0⟩ := hit0
              refine ⟨Agree.set (Agree.refl _) rfl, ?_⟩
              dsimp only [tYes]
              refine iteT ?_
              refine ⟨_, rfl, z, rfl, tx_line hz, ?_⟩
              refine ⟨_, rfl, a, xs, _, .str z0, rfl, rfl, SqT.of (p2 _ _ (p1 _ _ ha)), atI0 (by rw [List.getElem?_eq_getElem h0, e0]), z0, rfl, tx_line hz0, ?_⟩
              refine ⟨rfl, nx_put (by omega) hDy2 hyl2 ⟨p2.new hD2, ?_⟩⟩
              rw [map_take_succ _ ho, List.map_append, ho0]
              have ee : decide (V.int (z.length : Int) = V.int (z0.length : Int)) = (lenO (some z) == lenO ((some (some z0)).getD none)) := by
                show _ = (z.length == z0.length)
                rw [Bool.eq_iff_iff, decide_eq_true_eq, beq_iff_eq]
                constructor
                · intro h
                  injection h with h
                  omega
                · intro h
                  rw [h]
              rw [ee]
              rfl
            · obtain ⟨p2, rfl⟩ := p
              refine ⟨D2, os.map fun o => lenO o == lenO ((os[0]?).getD none), rfl, ?_, ?_⟩
              · rw [hDy2, List.take_of_length_le (by omega)]
              · have e : flB (some os) = (os.map fun o => lenO o == lenO ((os[0]?).getD none)).all id := by
                  rw [ef, c3', List.all_map]
                  rfl
                rw [← e]
                exact q H2 (p1.trans p2)
    · have c1' : ¬ ((1 : Int) ≤ (xs.length : Int)) := by simpa using c1
      refine ⟨_, rfl, ?_⟩
      refine iteT ?_
      have e : flB (some os) = false := by
        rw [fl_eq]
        rw [decide_eq_false (show ¬ 1 ≤ os.length by omega), Bool.false_and, Bool.false_and]
      rw [← e]
      exact q H (Same.refl H)

/-! ### the law's own walk -/
end
end K08

set_option maxHeartbeats 8000000
namespace K08
open PySem PyProof.Rows L2 L3
section
variable {P : Program} {w : World} {K : PySem.W.Frag} {mg : Str → Option Value} {base : Heap} {f : Addr} {fd : FuncData}
def spMap (g : List PyData → List PyData) : Sp := fun vs H Q _ => ∃ (a : Addr) (xs : List V) (ds : List PyData), vs = [.ref a] ∧ H a = some (.lst xs) ∧ RepAll H ds xs ∧ Spots ds ∧ 0 < ds.length ∧ ds.length ≤ 64 ∧
  ∀ (D : Addr) (ys : List V) (H' : Hp), Same H H' → H' D = some (.lst ys) → RepAll H' (g ds) ys → Q (.ref D) H'
theorem scMir : FnScope ["spots", "last"] ["spots"] (defScope sMir) := ⟨rfl, rfl, rfl, by decide +kernel, rfl, by decide +kernel, by decide +kernel⟩
theorem scTr : FnScope ["spots", "last"] ["spots"] (defScope sTr) := ⟨rfl, rfl, rfl, by decide +kernel, rfl, by decide +kernel, by decide +kernel⟩
theorem hmir (m : Int) (r c : Int) (z : Str) (H' : Hp) (Q' : VK) (h : ∃ u v : Int, mir1 m (.tuple [.int r, .int c, .str z]) = .tuple [.int u, .int v, .str z] ∧ ∀ n, H' n = none → Q' (.ref n) (upd H' n (.tup [.int u, .int v, .str z]))) :
    tTup (tCons (tVar 0) (tCons (tOp (rI0 fun i j => .int (i - j)) (tVar 3) (tVar 1)) (tCons (tVar 2) tNil))) [some (.int r), some (.int c), some (.str z), some (.int m)] H' Q' := by
  obtain ⟨u, v, e, q⟩ := h
  cases (show PyData.tuple [.int r, .int (m - c), .str z] = .tuple [.int u, .int v, .str z] from e)
  exact ⟨_, rfl, _, rfl, _, rfl, _, _, rfl, rfl, _, rfl, (by show 3 ≤ sizeLine; decide), q⟩
theorem htur (m : Int) (r c : Int) (z : Str) (H' : Hp) (Q' : VK) (h : ∃ u v : Int, tur1 m (.tuple [.int r, .int c, .str z]) = .tuple [.int u, .int v, .str z] ∧ ∀ n, H' n = none → Q' (.ref n) (upd H' n (.tup [.int u, .int v, .str z]))) :
    tTup (tCons (tVar 1) (tCons (tOp (rI0 fun i j => .int (i - j)) (tVar 3) (tVar 0)) (tCons (tVar 2) tNil))) [some (.int r), some (.int c), some (.str z), some (.int m)] H' Q' := by
  obtain ⟨u, v, e, q⟩ := h
  cases (show PyData.tuple [.int c, .int (m - r), .str z] = .tuple [.int u, .int v, .str z] from e)
  exact ⟨_, rfl, _, rfl, _, rfl, _, _, rfl, rfl, _, rfl, (by show 3 ≤ sizeLine; decide), q⟩
theorem ok_mir (B : ∀ x ∈ blts, mg x = none) (F : Fun K "mirrored" "mirrored" sMir f fd) : FnOk P w K mg base CX0 1 f fd ["spots"] (spMap mirD) := by
  refine F.ok (k := 0) scMir (fun vs H Q E h => ?_) (fun cdv A outer s H vs Q E hr h => ?_)
  · obtain ⟨a, xs, ds, rfl, _⟩ := h
    rfl
  obtain ⟨a, xs, ds, rfl, ha, hrep, hs, hpos, h64, q⟩ := h
  refine ⟨_, (pss_cons (ps_set (i := 1) scMir.nd rfl (Or.inr rfl) (pe_maxD rfl rfl (B "max" (by decide)) (pa_c (pe_comp ["spot"] [none] rfl rfl (by decide +kernel) (by decide +kernel) rfl rfl (pi_list (pv 0)) (fun _ => (pg_name (i := 0) (show (["spot"] : List PySem.Str).Nodup by decide +kernel) rfl (Or.inl rfl))) (fun _ => pts_nil) (fun _ => (pe_ix ix_tupC (pv 0) pe_int (fun _ _ => rfl)))) pa_nil) (pk_cons pe_int pk_nil)))
    (pss_one (ps_ret (pe_comp ["row", "column", "sign", "last"] [none, none, none, some 1] rfl rfl (by decide +kernel) (by decide +kernel) rfl rfl (pi_list (pv 0)) (fun _ => (pg_tupC (n := 3) rfl (pgs_cons (pg_name (i := 0) (show (["row", "column", "sign", "last"] : List PySem.Str).Nodup by decide +kernel) rfl (Or.inl rfl)) (pgs_cons (pg_name (i := 1) (show (["row", "column", "sign", "last"] : List PySem.Str).Nodup by decide +kernel) rfl (Or.inl rfl)) (pgs_cons (pg_name (i := 2) (show (["row", "column", "sign", "last"] : List PySem.Str).Nodup by decide +kernel) rfl (Or.inl rfl)) pgs_nil))))) (fun _ => pts_nil) (fun _ => (pe_tup (pa_c (pv 0) (pa_c (pe_op op_sub (pv 3) (pv 1)) (pa_c (pv 2) pa_nil))))))))), ?_⟩
  refine read_projI 1 col1 col_at rfl ha hrep hs h64 fun D1 H1 s1 hD1 => ?_
  refine ⟨rfl, D1, _, rfl, hD1, by rw [List.length_map]; exact hpos, fun M1 m1 m1' => ?_⟩
  have em := maxI_eq m1 m1'
  refine read_each mir1 rfl rfl (s1 _ _ ha) (hrep.same s1) hs h64 (hmir M1) (fun D ys H' hD s2 hDy rep => q D ys H' (s1.trans s2) hDy (by unfold mirD; rw [← em]; exact rep)) (fun r c z => ⟨_, _, rfl⟩)
theorem ok_tr (B : ∀ x ∈ blts, mg x = none) (F : Fun K "turned_right" "turned_right" sTr f fd) : FnOk P w K mg base CX0 1 f fd ["spots"] (spMap turD) := by
  refine F.ok (k := 0) scTr (fun vs H Q E h => ?_) (fun cdv A outer s H vs Q E hr h => ?_)
  · obtain ⟨a, xs, ds, rfl, _⟩ := h
    rfl
  obtain ⟨a, xs, ds, rfl, ha, hrep, hs, hpos, h64, q⟩ := h
  refine ⟨_, (pss_cons (ps_set (i := 1) scTr.nd rfl (Or.inr rfl) (pe_maxD rfl rfl (B "max" (by decide)) (pa_c (pe_comp ["spot"] [none] rfl rfl (by decide +kernel) (by decide +kernel) rfl rfl (pi_list (pv 0)) (fun _ => (pg_name (i := 0) (show (["spot"] : List PySem.Str).Nodup by decide +kernel) rfl (Or.inl rfl))) (fun _ => pts_nil) (fun _ => (pe_ix ix_tupC (pv 0) pe_int (fun _ _ => rfl)))) pa_nil) (pk_cons pe_int pk_nil)))
    (pss_one (ps_ret (pe_comp ["row", "column", "sign", "last"] [none, none, none, some 1] rfl rfl (by decide +kernel) (by decide +kernel) rfl rfl (pi_list (pv 0)) (fun _ => (pg_tupC (n := 3) rfl (pgs_cons (pg_name (i := 0) (show (["row", "column", "sign", "last"] : List PySem.Str).Nodup by decide +kernel) rfl (Or.inl rfl)) (pgs_cons (pg_name (i := 1) (show (["row", "column", "sign", "last"] : List PySem.Str).Nodup by decide +kernel) rfl (Or.inl rfl)) (pgs_cons (pg_name (i := 2) (show (["row", "column", "sign", "last"] : List PySem.Str).Nodup by decide +kernel) rfl (Or.inl rfl)) pgs_nil))))) (fun _ => pts_nil) (fun _ => (pe_tup (pa_c (pv 1) (pa_c (pe_op op_sub (pv 3) (pv 0)) (pa_c (pv 2) pa_nil))))))))), ?_⟩
  refine read_projI 0 row1 row_at rfl ha hrep hs h64 fun D1 H1 s1 hD1 => ?_
  refine ⟨rfl, D1, _, rfl, hD1, by rw [List.length_map]; exact hpos, fun M1 m1 m1' => ?_⟩
  have em := maxI_eq m1 m1'
  refine read_each tur1 rfl rfl (s1 _ _ ha) (hrep.same s1) hs h64 (htur M1) (fun D ys H' hD s2 hDy rep => q D ys H' (s1.trans s2) hDy (by unfold turD; rw [← em]; exact rep)) (fun r c z => ⟨_, _, rfl⟩)
end
end K08

set_option maxHeartbeats 8000000
namespace K08
open PySem PyProof.Rows L2 L3
def iter (i : Nat) (ds : List PyData) : List PyData := (List.range i).foldl (fun a _ => turD a) ds
theorem iter_succ (i : Nat) (ds : List PyData) : iter (i + 1) ds = turD (iter i ds) := by
  unfold iter
  rw [List.range_succ, List.foldl_append]
  rfl
section
variable {P : Program} {w : World} {K : PySem.W.Frag} {mg : Str → Option Value} {base : Heap} {f : Addr} {fd : FuncData}
def spTd : Sp := fun vs H Q _ => ∃ (a : Addr) (t : Nat) (xs : List V) (ds : List PyData), vs = [.ref a, .int (t : Nat)] ∧ H a = some (.lst xs) ∧ RepAll H ds xs ∧ Spots ds ∧ 0 < ds.length ∧ ds.length ≤ 64 ∧ t < 8 ∧
  ∀ (r : Addr) (H' : Hp) (es : List PyData), Same H H' → es.Perm (spotsD t ds) → es.Pairwise (fun x y => ltR y x = false) → Rep H' (.tuple es) (.ref r) → Q (.ref r) H'
theorem scTd : FnScope ["form", "t", "spots", "step"] ["form", "t"] (defScope sTd) := ⟨rfl, rfl, rfl, by decide +kernel, rfl, by decide +kernel, by decide +kernel⟩
theorem ok_td (B : ∀ x ∈ blts, mg x = none) (Fmir : Fn P w K mg base "mirrored" 1 ["spots"] (spMap mirD)) (Ftr : Fn P w K mg base "turned_right" 1 ["spots"] (spMap turD)) (F : Fun K "turned" "turned" sTd f fd) : FnOk P w K mg base CX0 2 f fd ["form", "t"] spTd := by
  refine F.ok (k := 1) scTd (fun vs H Q E h => ?_) (fun cdv A outer s H vs Q E hr h => ?_)
  · obtain ⟨a, t, xs, ds, rfl, _⟩ := h
    rfl
  obtain ⟨a, t, ys, ds, rfl, ha, rep0, hs0, hpos, h64, ht, q⟩ := h
  refine ⟨_, (pss_cons (ps_set (i := 2) scTd.nd rfl (Or.inl rfl) (pe_cT call_list_of rfl (B "list" (by decide)) boot_list (pa_c (pv 0) pa_nil)))
    (pss_cons (ps_if (pt_cmpR op_ge (pv 1) pe_int (nomark _)) (pss_one (ps_set (i := 2) scTd.nd rfl (Or.inl rfl) (pe_fn Fmir hr (by decide) rfl (pa_c (pv 2) pa_nil)))) pss_nil)
    (pss_cons (ps_for PassesOwn.never rfl (pi_r1 rfl (B "range" (by decide)) (pa_c (pe_op op_mod (pv 1) pe_int) pa_nil)) (pg_name (i := 3) scTd.nd rfl (Or.inl rfl)) (pss_one (ps_set (i := 2) scTd.nd rfl (Or.inl rfl) (pe_fn Ftr hr (by decide) rfl (pa_c (pv 2) pa_nil)))))
    (pss_one (ps_ret (pe_cT call_tuple_of rfl (B "tuple" (by decide)) boot_tuple (pa_c (pe_cB call_sortedN rfl (B "sorted" (by decide)) boot_sorted (pa_c (pv 2) pa_nil)) pa_nil))))))), ?_⟩
  refine ⟨_, rfl, a, ys, rfl, .inl (SqL.of ha), fun D hD0 => ?_⟩
  have sm : Same H (upd H D (.lst ys)) := Same.fresh _ hD0
  have hDy : upd H D (.lst ys) D = some (.lst ys) := upd_same
  have rep := rep0.same sm
  generalize upd H D (.lst ys) = H2 at *
  refine ⟨_, rfl, _, _, rfl, rfl, _, rfl, ?_⟩
  refine ite2 (fun h4 => ?ga) (fun h4 => ?gb)
  case' ga =>
    have h4' : 4 ≤ t := by have : (t : Int) ≥ 4 := of_decide_eq_true h4
                           omega
    refine ⟨_, rfl, D, ys, ds, rfl, hDy, rep, hs0, hpos, h64, fun D ys H3 s3 hDy rep => ?_⟩
    replace sm := sm.trans s3
    obtain ⟨ds1, e1⟩ : ∃ d, d = (if 4 ≤ t then mirD ds else ds) := ⟨_, rfl⟩
    have e2 : ds1 = mirD ds := by rw [e1, if_pos h4']
    rw [← e2] at rep
    have sp1 : Spots ds1 := by rw [e2]; exact mir_spots hs0 _
    have l1 : ds1.length = ds.length := by rw [e2]; simp [mirD]
    generalize H3 = H2 at *
  case' gb =>
    have h4' : ¬ 4 ≤ t := by have : ¬ (t : Int) ≥ 4 := by simpa using h4
                             omega
    obtain ⟨ds1, e1⟩ : ∃ d, d = (if 4 ≤ t then mirD ds else ds) := ⟨_, rfl⟩
    have e2 : ds1 = ds := by rw [e1, if_neg h4']
    rw [← e2] at rep
    have sp1 : Spots ds1 := by rw [e2]; exact hs0
    have l1 : ds1.length = ds.length := by rw [e2]
  all_goals
    refine ⟨_, rfl, _, _, rfl, rfl, (by show (0 : Int) < 4; decide), _, rfl, by omega, by omega, ?_⟩
    refine for_range (lo := 0) (fun i σ' H' => ∃ (y3 : Option V) (D : Addr) (ys : List V), σ' = [some (.ref a), some (.int (t : Nat)), some (.ref D), y3] ∧ Same H H' ∧ H' D = some (.lst ys) ∧ RepAll H' (iter i ds1) ys ∧ Spots (iter i ds1) ∧ (iter i ds1).length = ds.length) ?_ (fun i σ' H' hi h => ?_) (fun σ' H' h => ?_)
    · exact ⟨_, D, ys, rfl, sm, hDy, rep, sp1, l1⟩
    · obtain ⟨y3, D, ys, rfl, sm, hDy, rep, sp, hl⟩ := h
      refine ⟨_, rfl, D, ys, _, rfl, hDy, rep, sp, by omega, by omega, fun D2 ys2 H3 s3 hD3 rep3 => ?_⟩
      refine ⟨_, D2, ys2, rfl, sm.trans s3, hD3, by rw [iter_succ]; exact rep3, by rw [iter_succ]; exact tur_spots sp _, by rw [iter_succ]; simp [turD, hl]⟩
    · obtain ⟨y3, D, ys, rfl, sm, hDy, rep, sp, hl⟩ := h
      have et : (((t : Nat) : Int) % 4).toNat = t % 4 := by omega
      rw [et] at rep sp hl
      refine ⟨_, rfl, D, ys, _, [true, false], rfl, hDy, rep, spots_rows sp, fun l zs es hl1 pe ue hz => ?_⟩
      refine ⟨l, zs, rfl, .inl ⟨SqL.of upd_same, fun l2 hl2 => ?_⟩⟩
      have s1 : Same H' (upd H' l (.lst zs)) := Same.fresh _ hl1
      have s2 : Same (upd H' l (.lst zs)) (upd (upd H' l (.lst zs)) l2 (.tup zs)) := Same.fresh _ hl2
      refine q l2 _ es ((sm.trans s1).trans s2) ?_ ue ⟨l2, zs, rfl, upd_same, hz.same s2⟩
      rw [show spotsD t ds = iter (t % 4) ds1 by rw [e1]; rfl]
      exact pe
end
end K08

set_option maxHeartbeats 8000000
namespace K08
open PySem PyProof.Rows L2 L3
def thenN (t s : Nat) : Nat := (if 4 ≤ s then s + 3 * t else s + t) % 4 + (if (4 ≤ t) = (4 ≤ s) then 0 else 4)
def undoN (t : Nat) : Nat := if 4 ≤ t then t else (4 - t) % 4
theorem then_lt : ∀ t < 8, ∀ s < 8, thenN t s < 8 := by decide
theorem undo_lt : ∀ t < 8, undoN t < 8 := by decide
theorem then_undo : ∀ t < 8, thenN t (undoN t) = 0 := by decide
theorem undo_then : ∀ t < 8, thenN (undoN t) t = 0 := by decide
theorem then_zero : ∀ t < 8, thenN t 0 = t := by decide
theorem zero_then : ∀ t < 8, thenN 0 t = t := by decide
theorem then_assoc : ∀ t < 8, ∀ s < 8, ∀ r < 8, thenN (thenN t s) r = thenN t (thenN s r) := by decide +kernel
def numI (m : Bool) (n : Int) : Int := n % 4 + (if m = true then 4 else 0)
theorem then_num1 : ∀ t < 8, ∀ s < 8, 4 ≤ s → numI (!(decide ((4 : Int) ≤ (t : Nat)) == decide ((4 : Int) ≤ (s : Nat)))) (((s : Nat) : Int) - ((t : Nat) : Int)) = ((thenN t s : Nat) : Int) := by decide +kernel
theorem then_num2 : ∀ t < 8, ∀ s < 8, ¬ 4 ≤ s → numI (!(decide ((4 : Int) ≤ (t : Nat)) == decide ((4 : Int) ≤ (s : Nat)))) (((s : Nat) : Int) + ((t : Nat) : Int)) = ((thenN t s : Nat) : Int) := by decide +kernel
theorem undo_num1 : ∀ t < 8, 4 ≤ t → numI true ((t : Nat) : Int) = ((undoN t : Nat) : Int) := by decide +kernel
theorem undo_num2 : ∀ t < 8, ¬ 4 ≤ t → numI false (-((t : Nat) : Int)) = ((undoN t : Nat) : Int) := by decide +kernel
section
variable {P : Program} {w : World} {K : PySem.W.Frag} {mg : Str → Option Value} {base : Heap} {f : Addr} {fd : FuncData}
def spNumb : Sp := fun vs H Q _ => ∃ (m : Bool) (n : Int), vs = [.bl m, .int n] ∧ Q (.int (numI m n)) H
theorem scNumb : FnScope ["mirrors", "turns"] ["mirrors", "turns"] (defScope sNumb) := ⟨rfl, rfl, rfl, by decide +kernel, rfl, by decide +kernel, by decide +kernel⟩
theorem ok_numb (F : Fun K "numbered" "numbered" sNumb f fd) : FnOk P w K mg base CX0 1 f fd ["mirrors", "turns"] spNumb := by
  refine F.ok (k := 0) scNumb (fun vs H Q E h => ?_) (fun cdv A outer s H vs Q E hr h => ?_)
  · obtain ⟨m, n, rfl, _⟩ := h
    rfl
  obtain ⟨m, n, rfl, q⟩ := h
  refine ⟨_, (pss_one (ps_ret (pe_op op_add (pe_op op_mod (pv 1) pe_int) (pe_ifExp (pt_val (pv 0)) pe_int pe_int)))), ?_⟩
  cases m with
  | true => exact ⟨_, rfl, _, _, rfl, rfl, (by show (0 : Int) < 4; decide), _, rfl, true, rfl, iteT ⟨_, _, rfl, rfl, q⟩⟩
  | false => exact ⟨_, rfl, _, _, rfl, rfl, (by show (0 : Int) < 4; decide), _, rfl, false, rfl, iteF ⟨_, _, rfl, rfl, q⟩⟩
def spThen : Sp := fun vs H Q _ => ∃ (t s : Nat), vs = [.int (t : Nat), .int (s : Nat)] ∧ t < 8 ∧ s < 8 ∧ Q (.int ((thenN t s : Nat) : Int)) H
theorem scThen : FnScope ["t", "s", "turns"] ["t", "s"] (defScope sThen) := ⟨rfl, rfl, rfl, by decide +kernel, rfl, by decide +kernel, by decide +kernel⟩
theorem ok_then (Fnumb : Fn P w K mg base "numbered" 1 ["mirrors", "turns"] spNumb) (F : Fun K "then" "then" sThen f fd) : FnOk P w K mg base CX0 2 f fd ["t", "s"] spThen := by
  refine F.ok (k := 1) scThen (fun vs H Q E h => ?_) (fun cdv A outer s H vs Q E hr h => ?_)
  · obtain ⟨t, s, rfl, _⟩ := h
    rfl
  obtain ⟨t, s, rfl, ht, hs, q⟩ := h
  refine ⟨_, (pss_cons (ps_set (i := 2) scThen.nd rfl (Or.inl rfl) (pe_ifExp (pt_cmpR op_ge (pv 1) pe_int (nomark _)) (pe_op op_sub (pv 1) (pv 0)) (pe_op op_add (pv 1) (pv 0))))
    (pss_one (ps_ret (pe_fn Fnumb hr (by decide) rfl (pa_c (pe_cmpR op_ne (pe_cmpR op_ge (pv 0) pe_int (nomark _)) (pe_cmpR op_ge (pv 1) pe_int (nomark _)) (nomark _)) (pa_c (pv 2) pa_nil)))))), ?_⟩
  refine ⟨_, rfl, _, _, rfl, rfl, _, rfl, ?_⟩
  refine ite2 (fun c => ?_) (fun c => ?_)
  · have c' : 4 ≤ s := by have : (4 : Int) ≤ (s : Nat) := of_decide_eq_true c
                          omega
    refine ⟨_, rfl, _, rfl, _, _, rfl, rfl, ?_⟩
    refine ⟨_, rfl, _, _, rfl, rfl, _, rfl, _, _, rfl, rfl, rfl, _, rfl, _, _, rfl, ?_⟩
    rw [dec_bl, then_num1 t ht s hs c']
    exact q
  · have c' : ¬ 4 ≤ s := by have : ¬ (4 : Int) ≤ (s : Nat) := by simpa using c
                            omega
    refine ⟨_, rfl, _, rfl, _, _, rfl, rfl, ?_⟩
    refine ⟨_, rfl, _, _, rfl, rfl, _, rfl, _, _, rfl, rfl, rfl, _, rfl, _, _, rfl, ?_⟩
    rw [dec_bl, then_num2 t ht s hs c']
    exact q
def spUndo : Sp := fun vs H Q _ => ∃ (t : Nat), vs = [.int (t : Nat)] ∧ t < 8 ∧ Q (.int ((undoN t : Nat) : Int)) H
theorem scUndo : FnScope ["t"] ["t"] (defScope sUndo) := ⟨rfl, rfl, rfl, by decide +kernel, rfl, by decide +kernel, by decide +kernel⟩
theorem ok_undo (Fnumb : Fn P w K mg base "numbered" 1 ["mirrors", "turns"] spNumb) (F : Fun K "undoing" "undoing" sUndo f fd) : FnOk P w K mg base CX0 2 f fd ["t"] spUndo := by
  refine F.ok (k := 1) scUndo (fun vs H Q E h => ?_) (fun cdv A outer s H vs Q E hr h => ?_)
  · obtain ⟨t, rfl, _⟩ := h
    rfl
  obtain ⟨t, rfl, ht, q⟩ := h
  refine ⟨_, (pss_one (ps_ret (pe_ifExp (pt_cmpR op_ge (pv 0) pe_int (nomark _)) (pe_fn Fnumb hr (by decide) rfl (pa_c pe_bl (pa_c (pv 0) pa_nil))) (pe_fn Fnumb hr (by decide) rfl (pa_c pe_bl (pa_c (pe_un un_neg (pv 0)) pa_nil)))))), ?_⟩
  refine ⟨_, rfl, _, _, rfl, rfl, _, rfl, ?_⟩
  refine ite2 (fun c => ?_) (fun c => ?_)
  · have c' : 4 ≤ t := by have : (4 : Int) ≤ (t : Nat) := of_decide_eq_true c
                          omega
    refine ⟨_, rfl, true, _, rfl, ?_⟩
    rw [undo_num1 t ht c']
    exact q
  · have c' : ¬ 4 ≤ t := by have : ¬ (4 : Int) ≤ (t : Nat) := by simpa using c
                            omega
    refine ⟨_, rfl, _, rfl, false, _, rfl, ?_⟩
    rw [undo_num2 t ht c']
    exact q
end
end K08

set_option maxHeartbeats 8000000
namespace K08
open PySem PyProof.Rows L2 L3
def Fl (H : Hp) (a : Addr) (zs : List Str) : Prop := H a = some (.tup (zs.map V.str)) ∧ Rw zs
theorem Fl.same {H H' : Hp} {a : Addr} {zs : List Str} (h : Fl H a zs) (s : Same H H') : Fl H' a zs := ⟨s _ _ h.1, h.2⟩
theorem Fl.tx {H : Hp} {a : Addr} {zs : List Str} (h : Fl H a zs) : ∀ z ∈ zs, Tx z := fun z hz => by
  obtain ⟨_, _, _, wd, _, _, hw⟩ := h
  exact (hw z hz).1.1
def rowSp (r : Nat) (cs : List Nat) : Nat → List PyData
  | 0 => []
  | k + 1 => rowSp r cs k ++ (match cs[k]? with | some c => [.tuple [.int r, .int k, .str ⟨#[c]⟩]] | none => [])
def allSp (zs : List Str) : Nat → List PyData
  | 0 => []
  | k + 1 => allSp zs k ++ (match zs[k]? with | some z => rowSp k z.cps.toList z.cps.toList.length | none => [])
theorem rowSp_spots (r : Nat) (cs : List Nat) : ∀ k, Spots (rowSp r cs k)
  | 0, d, h => by cases h
  | k + 1, d, h => by
    unfold rowSp at h
    rcases List.mem_append.mp h with h | h
    · exact rowSp_spots r cs k d h
    · cases e : cs[k]? with
      | none => rw [e] at h; cases h
      | some c => rw [e] at h; rw [List.mem_singleton.mp h]; exact ⟨_, _, _, rfl⟩
theorem allSp_spots (zs : List Str) : ∀ k, Spots (allSp zs k)
  | 0, d, h => by cases h
  | k + 1, d, h => by
    unfold allSp at h
    rcases List.mem_append.mp h with h | h
    · exact allSp_spots zs k d h
    · cases e : zs[k]? with
      | none => rw [e] at h; cases h
      | some z => rw [e] at h; exact rowSp_spots _ _ _ d h
theorem Spots.app {a b : List PyData} (h : Spots a) (k : Spots b) : Spots (a ++ b) := fun d hd => (List.mem_append.mp hd).elim (h d) (k d)
theorem rowSp_succ {r : Nat} {cs : List Nat} {k c : Nat} (h : cs[k]? = some c) : rowSp r cs (k + 1) = rowSp r cs k ++ [.tuple [.int r, .int k, .str ⟨#[c]⟩]] := by
  show rowSp r cs k ++ _ = _
  rw [h]
theorem allSp_succ {zs : List Str} {k : Nat} {z : Str} (h : zs[k]? = some z) : allSp zs (k + 1) = allSp zs k ++ rowSp k z.cps.toList z.cps.toList.length := by
  show allSp zs k ++ _ = _
  rw [h]
section
variable {P : Program} {w : World} {K : PySem.W.Frag} {mg : Str → Option Value} {base : Heap} {f : Addr} {fd : FuncData}
def spSpots : Sp := fun vs H Q _ => ∃ (a : Addr) (zs : List Str), vs = [.ref a] ∧ Fl H a zs ∧ ∀ (D : Addr) (ys : List V) (H' : Hp), Same H H' → H' D = some (.lst ys) → ys.length ≤ 64 → RepAll H' (allSp zs zs.length) ys → Q (.ref D) H'
theorem scSpots : FnScope ["floor", "spots", "row", "signs", "column", "sign"] ["floor"] (defScope sSpots) := ⟨rfl, rfl, rfl, by decide +kernel, rfl, by decide +kernel, by decide +kernel⟩
theorem ok_spots (B : ∀ x ∈ blts, mg x = none) (F : Fun K "floor_spots" "floor_spots" sSpots f fd) : FnOk P w K mg base CX0 1 f fd ["floor"] spSpots := by
  refine F.ok (k := 0) scSpots (fun vs H Q E h => ?_) (fun cdv A outer s H vs Q E hr h => ?_)
  · obtain ⟨a, zs, rfl, _⟩ := h
    rfl
  obtain ⟨a, zs, rfl, hf, q⟩ := h
  have htx := hf.tx
  obtain ⟨ha, hz0, hz8, wd, hw0, hw8, hw⟩ := hf
  refine ⟨_, (pss_cons (ps_set (i := 1) scSpots.nd rfl (Or.inl rfl) (pe_lst pa_nil))
    (pss_cons (ps_for PassesOwn.never rfl (pi_enT rfl (B "enumerate" (by decide)) (pa_c (pv 0) pa_nil)) (pg_tup (n := 2) rfl (pgs_cons (pg_name (i := 2) scSpots.nd rfl (Or.inl rfl)) (pgs_cons (pg_name (i := 3) scSpots.nd rfl (Or.inl rfl)) pgs_nil))) (pss_one (ps_for PassesOwn.never rfl (pi_enS rfl (B "enumerate" (by decide)) (pa_c (pv 3) pa_nil)) (pg_tup (n := 2) rfl (pgs_cons (pg_name (i := 4) scSpots.nd rfl (Or.inl rfl)) (pgs_cons (pg_name (i := 5) scSpots.nd rfl (Or.inl rfl)) pgs_nil))) (pss_one (ps_expr (pe_bm PySem.F.plainAttrs_list PySem.F.slot_list_append PySem.F.type_list_append mt_append (pv 1) (pa_c (pe_tup (pa_c (pv 2) (pa_c (pv 4) (pa_c (pv 5) pa_nil)))) pa_nil)))))))
    (pss_one (ps_ret (pv 1))))), ?_⟩
  refine ⟨(by show 0 ≤ sizeLine; decide), fun D hD => ?_⟩
  refine ⟨_, rfl, a, rfl, ⟨_, SqT.of (by rw [upd_ne (ne_of_none ha hD)]; exact ha)⟩, ?_⟩
  refine for_enT (xs := zs.map V.str) (fun i σ' H' => ∃ (y2 y3 y4 y5 : Option V) (ys : List V), σ' = [some (.ref a), some (.ref D), y2, y3, y4, y5] ∧ Same H H' ∧ H' D = some (.lst ys) ∧ RepAll H' (allSp zs i) ys ∧ ys.length ≤ 8 * i) ?_ (fun i σ' H' h => ?_) (fun i x p σ' H' hx hp h => ?_) (fun σ' H' h => ?_)
  · exact ⟨_, _, _, _, [], rfl, Same.fresh _ hD, upd_same, rfl, Nat.zero_le _⟩
  · obtain ⟨_, _, _, _, _, _, s1, _⟩ := h
    exact SqT.of (s1 _ _ ha)
  · obtain ⟨y2, y3, y4, y5, ys, rfl, s1, hDy, rep, hyl⟩ := h
    rw [List.getElem?_map] at hx
    cases hz : zs[i]? with
    | none => rw [hz] at hx; cases hx
    | some z =>
      rw [hz] at hx
      cases hx
      have hzm := List.mem_of_getElem? hz
      have hil : i < zs.length := (List.getElem?_eq_some_iff.mp hz).1
      have hzl := (hw z hzm).2
      have hL := lenL z
      refine ⟨p, _, rfl, SqT.of upd_same, rfl, _, _, rfl, _, _, rfl, rfl, ?_⟩
      have s2 : Same H' (upd H' p (.tup [.int (i : Nat), .str z])) := Same.fresh _ hp
      generalize upd H' p (.tup [.int (i : Nat), .str z]) = H2 at *
      refine ⟨_, rfl, z, rfl, (htx z hzm).2, ?_⟩
      refine for_enS (z := z) (fun j σ' H3 => ∃ (y4 y5 : Option V) (ys : List V), σ' = [some (.ref a), some (.ref D), some (.int (i : Nat)), some (.str z), y4, y5] ∧ Same H H3 ∧ H3 D = some (.lst ys) ∧ RepAll H3 (allSp zs i ++ rowSp i z.cps.toList j) ys ∧ ys.length ≤ 8 * i + j) ?_ (fun j c p3 σ' H3 hc hp3 h => ?_) (fun σ' H3 h => ?_)
      · refine ⟨_, _, ys, rfl, s1.trans s2, s2 _ _ hDy, ?_, by omega⟩
        show RepAll H2 (allSp zs i ++ []) ys
        rw [List.append_nil]
        exact rep.same s2
      · obtain ⟨y4, y5, ys3, rfl, s3, hD3, rep3, hl3⟩ := h
        have hjl : j < z.cps.toList.length := (List.getElem?_eq_some_iff.mp hc).1
        have hc128 : c < 128 := (htx z hzm).2 c (List.mem_of_getElem? hc)
        refine ⟨p3, _, rfl, SqT.of upd_same, rfl, _, _, rfl, _, _, rfl, rfl, ?_⟩
        have s4 : Same H3 (upd H3 p3 (.tup [.int (j : Nat), .str ⟨#[c]⟩])) := Same.fresh _ hp3
        generalize upd H3 p3 (.tup [.int (j : Nat), .str ⟨#[c]⟩]) = H4 at *
        have hD4 := s4 _ _ hD3
        refine ⟨_, rfl, .inl ⟨rfl, _, SqL.of hD4⟩, _, rfl, _, rfl, _, rfl, (by show 3 ≤ sizeLine; decide), fun t ht => ?_⟩
        have s5 : Same H4 (upd H4 t (.tup [.int (i : Nat), .int (j : Nat), .str ⟨#[c]⟩])) := Same.fresh _ ht
        have t5 : upd H4 t (.tup [.int (i : Nat), .int (j : Nat), .str ⟨#[c]⟩]) t = some (.tup [.int (i : Nat), .int (j : Nat), .str ⟨#[c]⟩]) := upd_same
        generalize upd H4 t (.tup [.int (i : Nat), .int (j : Nat), .str ⟨#[c]⟩]) = H5 at *
        have hD5 := s5 _ _ hD4
        refine ⟨D, ys3, .ref t, rfl, rfl, hD5, small1000 (by omega), ?_⟩
        have rep5 : RepAll H5 ((allSp zs i ++ rowSp i z.cps.toList j) ++ [.tuple [.int (i : Nat), .int (j : Nat), .str ⟨#[c]⟩]]) (ys3 ++ [.ref t]) := ((rep3.same s4).same s5).snoc (spot_rep t5 (ok1 hc128))
        rw [List.append_assoc, ← rowSp_succ hc] at rep5
        refine ⟨_, _, ys3 ++ [.ref t], rfl, ((s3.trans s4).trans s5).new hD, upd_same, rep5.tk (Tk.lst hD5) (Spots.imm (Spots.app (allSp_spots _ _) (rowSp_spots _ _ _))), ?_⟩
        rw [List.length_append, List.length_singleton]
        omega
      · obtain ⟨y4, y5, ys3, rfl, s3, hD3, rep3, hl3⟩ := h
        rw [← allSp_succ hz] at rep3
        exact ⟨_, _, _, _, ys3, rfl, s3, hD3, rep3, by omega⟩
  · obtain ⟨y2, y3, y4, y5, ys, rfl, s1, hDy, rep, hyl⟩ := h
    rw [List.length_map] at rep hyl
    exact ⟨_, rfl, q D ys H' s1 hDy (by omega) rep⟩
end
end K08

set_option maxHeartbeats 8000000
namespace K08
open PySem PyProof.Rows L2 L3
theorem rowSp_line (M : Mat) (r : Nat) : ∀ c, c ≤ M.w → rowSp r (lineM M r) c = (List.range c).map fun k => spotM M r k
  | 0, _ => rfl
  | c + 1, h => by
    rw [rowSp_succ (line_at (M := M) (r := r) (c := c) (by omega)), rowSp_line M r c (by omega), List.range_succ, List.map_append]
    rfl
theorem allSp_read (M : Mat) : ∀ k, k ≤ M.h → allSp (strsM M) k = (List.range (k * M.w)).map fun i => spotM M (i / M.w) (i % M.w)
  | 0, _ => by simp [allSp]
  | k + 1, h => by
    rw [allSp_succ (strs_at (M := M) (r := k) (by omega)), allSp_read M k (by omega)]
    have e : ((⟨(lineM M k).toArray⟩ : Str).cps.toList) = lineM M k := by simp
    rw [e, line_len, rowSp_line M k M.w (Nat.le_refl _), Nat.add_mul, Nat.one_mul, List.range_add, List.map_append, List.map_map]
    congr 1
    refine List.map_congr_left fun c hc => ?_
    have hc' : c < M.w := by simpa using hc
    show spotM M k c = spotM M ((k * M.w + c) / M.w) ((k * M.w + c) % M.w)
    rw [div_at hc', mod_at hc']
theorem strs_tx {M : Mat} (o : OkM SgP M) {z : Str} (h : z ∈ strsM M) : (Tx z ∧ ∀ c ∈ z.cps.toList, sgB c = true) ∧ z.length = M.w := by
  obtain ⟨r, hr, rfl⟩ := strs_mem h
  have hs := line_sg o hr
  have hl : (⟨(lineM M r).toArray⟩ : Str).length = M.w := by show (lineM M r).toArray.size = _; rw [List.size_toArray, line_len]
  have hw := o.w8
  have e : ((⟨(lineM M r).toArray⟩ : Str).cps.toList) = lineM M r := by simp
  refine ⟨⟨⟨by omega, fun c hc => ?_⟩, fun c hc => ?_⟩, hl⟩
  · rw [e] at hc; exact sg128 (hs c hc)
  · rw [e] at hc; exact hs c hc
theorem FlM.fl {H : Hp} {a : Addr} {M : Mat} (h : FlM H a M) : Fl H a (strsM M) :=
  ⟨h.1, by rw [strs_len]; exact h.2.h1, by rw [strs_len]; exact h.2.h8, M.w, h.2.w1, h.2.w8, fun z hz => strs_tx h.2 hz⟩
/-- rows of one length are a matrix -/
theorem mat_of {zs : List Str} (h : Rw zs) : ∃ M : Mat, zs = strsM M ∧ OkM SgP M := by
  obtain ⟨h1, h8, wd, w1, w8, hz⟩ := h
  refine ⟨⟨zs.length, wd, fun r c => ((zs[r]?.map fun z => z.cps.toList).getD []).getD c 0⟩, ?_, ⟨h1, h8, w1, w8, fun r c hr hc => ?_⟩⟩
  · apply List.ext_getElem?
    intro r
    by_cases hr : r < zs.length
    · rw [strs_at (M := ⟨zs.length, wd, _⟩) hr, List.getElem?_eq_getElem hr]
      have hz' := hz _ (List.getElem_mem hr)
      have hl : zs[r].cps.toList.length = wd := by rw [lenL]; exact hz'.2
      have e : lineM ⟨zs.length, wd, fun r c => ((zs[r]?.map fun z => z.cps.toList).getD []).getD c 0⟩ r = zs[r].cps.toList := by
        apply List.ext_getElem?
        intro c
        by_cases hc : c < wd
        · rw [line_at (M := ⟨zs.length, wd, fun r c => ((zs[r]?.map fun z => z.cps.toList).getD []).getD c 0⟩) hc]
          show some (((zs[r]?.map fun z => z.cps.toList).getD []).getD c 0) = _
          rw [List.getElem?_eq_getElem hr]
          show some (zs[r].cps.toList.getD c 0) = _
          rw [List.getD_eq_getElem?_getD, List.getElem?_eq_getElem (by omega)]
          rfl
        · rw [List.getElem?_eq_none (by rw [line_len]; exact Nat.le_of_not_lt hc), List.getElem?_eq_none (by omega)]
      rw [e]
    · rw [List.getElem?_eq_none (by omega), List.getElem?_eq_none (by rw [strs_len]; exact Nat.le_of_not_lt hr)]
  · have hr' : r < zs.length := hr
    have hc' : c < wd := hc
    have hz' := hz _ (List.getElem_mem hr')
    have hl : zs[r].cps.toList.length = wd := by rw [lenL]; exact hz'.2
    show sgB (((zs[r]?.map fun z => z.cps.toList).getD []).getD c 0) = true
    rw [List.getElem?_eq_getElem hr']
    show sgB (zs[r].cps.toList.getD c 0) = true
    rw [List.getD_eq_getElem?_getD, List.getElem?_eq_getElem (by omega)]
    exact hz'.1.2 _ (List.getElem_mem _)
section
variable {P : Program} {w : World} {K : PySem.W.Frag} {mg : Str → Option Value} {base : Heap} {f : Addr} {fd : FuncData}
def spTf : Sp := fun vs H Q _ => ∃ (a : Addr) (M : Mat) (t : Nat), vs = [.ref a, .int (t : Nat)] ∧ FlM H a M ∧ t < 8 ∧ ∀ (r : Addr) (H' : Hp), Same H H' → FlM H' r (turM t M) → Q (.ref r) H'
theorem scTf : FnScope ["floor", "t", "rows", "row", "column", "sign"] ["floor", "t"] (defScope sTf) := ⟨rfl, rfl, rfl, by decide +kernel, rfl, by decide +kernel, by decide +kernel⟩
theorem ok_tf (B : ∀ x ∈ blts, mg x = none) (Fspots : Fn P w K mg base "floor_spots" 1 ["floor"] spSpots) (Ftd : Fn P w K mg base "turned" 2 ["form", "t"] spTd) (F : Fun K "turned_floor" "turned_floor" sTf f fd) : FnOk P w K mg base CX0 3 f fd ["floor", "t"] spTf := by
  refine F.ok (k := 2) scTf (fun vs H Q E h => ?_) (fun cdv A outer s H vs Q E hr h => ?_)
  · obtain ⟨a, M, t, rfl, _⟩ := h
    rfl
  obtain ⟨a, M, t, rfl, hf, ht, q⟩ := h
  have hu := hr.units
  refine ⟨_, (pss_cons (ps_set (i := 2) scTf.nd rfl (Or.inl rfl) pe_dict0)
    (pss_cons (ps_for PassesOwn.never rfl (pi_tup (pe_fn Ftd hr (by decide) rfl (pa_c (pe_fn Fspots hr (by decide) rfl (pa_c (pv 0) pa_nil)) (pa_c (pv 1) pa_nil)))) (pg_tup (n := 3) rfl (pgs_cons (pg_name (i := 3) scTf.nd rfl (Or.inl rfl)) (pgs_cons (pg_name (i := 4) scTf.nd rfl (Or.inl rfl)) (pgs_cons (pg_name (i := 5) scTf.nd rfl (Or.inl rfl)) pgs_nil)))) (pss_one (ps_dput (Nat.lt_of_le_of_lt (Nat.add_le_add_left (by decide) _) hu) (pv 2) (pv 3) (pe_op op_add_str (pe_dget2 (Nat.lt_of_le_of_lt (Nat.add_le_add_left (by decide) _) hu) (pv 2) (pv 3) pe_str ⟨rfl, rfl, rfl, rfl⟩) (pv 5)) rfl)))
    (pss_one (ps_ret (pe_tupvals rfl rfl (B "tuple" (by decide)) (pv 2)))))), ?_⟩
  intro D hD
  have s1 : Same H (upd H D (.dK [])) := Same.fresh _ hD
  have d1 : upd H D (.dK []) D = some (.dK []) := upd_same
  generalize upd H D (.dK []) = H1 at *
  obtain ⟨hfa, okM⟩ := id hf
  have okN := okM.tur t
  refine ⟨_, rfl, a, strsM M, rfl, FlM.fl (hf.same s1), fun D2 ys H2 s2 hD2 hl2 rep2 => ?_⟩
  rw [strs_len, allSp_read M M.h (Nat.le_refl _)] at rep2
  have rep2 : RepAll H2 (readM M) ys := rep2
  have lr := rep2.length
  have ll := read_len M
  have lpos : 0 < M.h * M.w := Nat.mul_pos okM.h1 okM.w1
  refine ⟨_, rfl, D2, t, ys, readM M, rfl, hD2, rep2, (read_cov M).spots, by omega, by omega, ht, fun r H3 es s3 pe ue rep3 => ?_⟩
  have ees : es = readM (turM t M) := ((read_cov M).tur okM t).sorted pe ue
  subst ees
  obtain ⟨N, hN⟩ : ∃ N, N = turM t M := ⟨_, rfl⟩
  rw [← hN] at rep3 okN
  have w1 := okN.w1
  obtain ⟨r', xs3, e3, hr3, rall⟩ := rep3
  cases e3
  have lx := rall.length
  rw [read_len] at lx
  have d3 : H3 D = some (.dK []) := s3 _ _ (s2 _ _ d1)
  have nrD : r ≠ D := fun e => by rw [e, d3] at hr3; cases hr3
  refine ⟨r, rfl, ⟨_, SqT.of hr3⟩, ?_⟩
  refine for_tup (xs := xs3) (fun i σ' H' => ∃ y3 y4 y5, σ' = [some (.ref a), some (.int (t : Nat)), some (.ref D), y3, y4, y5] ∧ Ex [D] H3 H' ∧ H' D = some (.dK (kvsI N i))) ?_ (fun i σ' H' hi h => ?_) (fun i x σ' H' hx h => ?_) (fun σ' H' h => ?_)
  · exact ⟨_, _, _, rfl, Ex.refl _ _, by rw [d3]; unfold kvsI; rw [Nat.zero_div, Nat.zero_mod]; rfl⟩
  · obtain ⟨_, _, _, _, ex, _⟩ := h
    exact SqT.of (ex.at nrD hr3)
  · obtain ⟨y3, y4, y5, rfl, ex, hD'⟩ := h
    have hi : i < xs3.length := (List.getElem?_eq_some_iff.mp hx).1
    obtain ⟨d, hd, rd⟩ := rall.at hx
    rw [read_at N (by omega)] at hd
    cases hd
    obtain ⟨b, rfl, hb, _⟩ := rep_spot rd
    have nb : b ≠ D := fun e => by rw [e, d3] at hb; cases hb
    have hb' := ex.at nb hb
    have hdiv : i / N.w < N.h := (Nat.div_lt_iff_lt_mul w1).mpr (by omega)
    have hmod := Nat.mod_lt i w1
    have h8 := okN.h8
    have w8 := okN.w8
    refine ⟨b, _, rfl, SqT.of hb', rfl, _, _, rfl, _, _, rfl, _, _, rfl, rfl, ?_⟩
    have key : (valV (kvsI N i) (Sum.inl (((i / N.w : Nat) : Nat) : Int))).getD (V.str (Str.ofString "")) = V.str (lineS N (i / N.w) (i % N.w)) := by
      unfold kvsI
      rw [val_part]
      by_cases hc : i % N.w = 0
      · rw [if_pos hc, hc]; rfl
      · rw [if_neg hc]; rfl
    refine ⟨_, rfl, D, rfl, .inl ⟨_, .inl hD'⟩, _, rfl, _, DGet.k (k := Sum.inl (((i / N.w : Nat) : Nat) : Int)) hD', _, rfl, _, _, key, rfl, ?_, ?_⟩
    · show (lineS N (i / N.w) (i % N.w)).length + 1 ≤ sizeLine
      have : (lineS N (i / N.w) (i % N.w)).length = i % N.w := by unfold lineS; show (List.toArray _).size = _; simp
      rw [this]
      exact Nat.le_of_lt (small1000 (by omega))
    refine ⟨_, rfl, _, rfl, D, _, rfl, DPut.k (k := Sum.inl (((i / N.w : Nat) : Nat) : Int)) hD' (small1000 (by have := kvs_len N i; omega)), ?_⟩
    refine ⟨_, _, _, rfl, ex.trans (Ex.upd (by simp)), ?_⟩
    rw [upd_same, kvs_succ N w1 i]
  · obtain ⟨y3, y4, y5, rfl, ex, hD'⟩ := h
    rw [lx, kvs_end N w1] at hD'
    refine ⟨_, rfl, D, _, rfl, hD', fun r2 hr2 => ?_⟩
    have sm : Same H H' := fun b o e => ex.at (fun z => by rw [z, hD] at e; cases e) (s3 _ _ (s2 _ _ (s1 _ _ e)))
    refine q r2 _ (sm.new (?_ : H r2 = none)) ?_
    · cases z : H r2 with
      | none => rfl
      | some o => have z' := sm r2 o z; rw [z'] at hr2; cases hr2
    · rw [← hN]
      refine ⟨?_, okN⟩
      rw [upd_same, full_vals]
end
end K08

set_option maxHeartbeats 8000000
namespace K08
open PySem PyProof.Rows L2 L3
def LM (H : Hp) (D : Addr) (M : Mat) : Prop := H D = some (.lst ((strsM M).map V.str))
theorem strs_ati {M : Mat} {r : Nat} (h : r < M.h) : ((strsM M).map V.str)[r]? = some (V.str ⟨(lineM M r).toArray⟩) := by rw [List.getElem?_map, strs_at h]; rfl
theorem take_str {N : Mat} {i : Nat} (h : i < N.h) : ((strsM N).take (i + 1)).map V.str = ((strsM N).take i).map V.str ++ [V.str ⟨(lineM N i).toArray⟩] := map_take_succ V.str (strs_at h)
theorem take_all (N : Mat) {n : Nat} (h : N.h ≤ n) : ((strsM N).take n).map V.str = (strsM N).map V.str := by rw [List.take_of_length_le (by rw [strs_len]; exact h)]
theorem line_str_len (N : Mat) (r : Nat) : (⟨(lineM N r).toArray⟩ : Str).length = N.w := by show (lineM N r).toArray.size = _; rw [List.size_toArray, line_len]
theorem w_line {N : Mat} (o : OkM SgP N) : N.w ≤ sizeLine := Nat.le_of_lt (small1000 (by have := o.w8; omega))
theorem join_line (l : List Nat) : Txt.join (Str.ofString "") (l.map fun c => (⟨#[c]⟩ : Str)) = ⟨l.toArray⟩ := by
  have e := join_list_eq (g := Str.ofString "") (by decide +kernel) (l.map fun c => (⟨#[c]⟩ : Str))
  have e2 : ((l.map fun c => (⟨#[c]⟩ : Str)).map fun p => p.cps.toList).flatten = l := by
    clear e
    rw [List.map_map]
    induction l with
    | nil => rfl
    | cons a t ih => rw [List.map_cons, List.flatten_cons]; exact congrArg (a :: ·) ih
  rw [e2] at e
  have e3 : (Txt.join (Str.ofString "") (l.map fun c => (⟨#[c]⟩ : Str))).cps = l.toArray := Array.toList_inj.mp (by rw [e])
  calc Txt.join (Str.ofString "") (l.map fun c => (⟨#[c]⟩ : Str)) = ⟨(Txt.join (Str.ofString "") (l.map fun c => (⟨#[c]⟩ : Str))).cps⟩ := rfl
    _ = ⟨l.toArray⟩ := by rw [e3]
section
variable {P : Program} {w : World} {K : PySem.W.Frag} {mg : Str → Option Value} {base : Heap} {f : Addr} {fd : FuncData}
theorem scTurn : FnScope ["_law_floor_here", "_law_t", "_law_rows", "_law_quarter"] ["_law_floor_here", "_law_t"] (defScope sTurn) := ⟨rfl, rfl, rfl, by decide +kernel, rfl, by decide +kernel, by decide +kernel⟩
theorem ok_turn (B : ∀ x ∈ blts, mg x = none) (F : Fun K "_law_turned" "_law_turned" sTurn f fd) : FnOk P w K mg base CX0 1 f fd ["_law_floor_here", "_law_t"] spTf := by
  refine F.ok (k := 0) scTurn (fun vs H Q E h => ?_) (fun cdv A outer s H vs Q E hr h => ?_)
  · obtain ⟨a, M, t, rfl, _⟩ := h
    rfl
  obtain ⟨a, M, t, rfl, hf, ht, q⟩ := h
  have hu := hr.units
  refine ⟨_, (pss_cons (ps_set (i := 2) scTurn.nd rfl (Or.inr rfl) (pe_cT call_list_of rfl (B "list" (by decide)) boot_list (pa_c (pv 0) pa_nil)))
    (pss_cons (ps_if (pt_cmpR op_ge (pv 1) pe_int (nomark _)) (pss_one (ps_set (i := 2) scTurn.nd rfl (Or.inr rfl) (pe_comp ["_law_row"] [none] rfl rfl (by decide +kernel) (by decide +kernel) rfl rfl (pi_list (pv 2)) (fun _ => (pg_name (i := 0) (show (["_law_row"] : List PySem.Str).Nodup by decide +kernel) rfl (Or.inl rfl))) (fun _ => pts_nil) (fun _ => (pe_rev rv_str (pv 0) (pe_un un_neg pe_int)))))) pss_nil)
    (pss_cons (ps_for PassesOwn.never rfl (pi_r1 rfl (B "range" (by decide)) (pa_c (pe_op op_mod (pv 1) pe_int) pa_nil)) (pg_name (i := 3) scTurn.nd rfl (Or.inl rfl)) (pss_one (ps_set (i := 2) scTurn.nd rfl (Or.inr rfl) (pe_compK "_law_column" ["_law_column", "_law_rows"] [none, some 2] rfl rfl (by decide +kernel) (by decide +kernel) (fun _ _ => rfl) (fun _ => rfl) rfl rfl (pi_r1 rfl (B "range" (by decide)) (pa_c (pe_cB call_len_str rfl (B "len" (by decide)) PySem.boot_len (pa_c (pe_ix ix_list (pv 2) pe_int (fun _ _ => rfl)) pa_nil)) pa_nil)) (fun _ => (pg_name (i := 0) (show (["_law_column", "_law_rows"] : List PySem.Str).Nodup by decide +kernel) rfl (Or.inr rfl))) (fun _ => pts_nil) (fun _ => (pe_bmK PySem.F.plainAttrs_str PySem.F.slot_str_join PySem.F.type_str_join mt_join pe_str (pa_c (pe_comp ["_law_row", "_law_column"] [none, some 0] rfl rfl (by decide +kernel) (by decide +kernel) rfl rfl (pi_listK (pe_rev rv_listK (pv 1) (pe_un un_neg pe_int))) (fun _ => (pg_name (i := 0) (show (["_law_row", "_law_column"] : List PySem.Str).Nodup by decide +kernel) rfl (Or.inl rfl))) (fun _ => pts_nil) (fun _ => (pe_ix ix_str (pv 0) (pv 1) (fun _ _ => rfl)))) pa_nil)))))))
    (pss_one (ps_ret (pe_cT call_tuple_of rfl (B "tuple" (by decide)) boot_tuple (pa_c (pv 2) pa_nil))))))), ?_⟩
  refine ⟨_, rfl, a, _, rfl, .inr (SqT.of hf.1), fun D hD => ?_⟩
  have sm : Same H (upd H D (.lst ((strsM M).map V.str))) := Same.fresh _ hD
  have hL : LM (upd H D (.lst ((strsM M).map V.str))) D M := upd_same
  generalize upd H D (.lst ((strsM M).map V.str)) = H1 at *
  obtain ⟨hfa, okM⟩ := id hf
  refine ⟨_, rfl, _, _, rfl, rfl, _, rfl, ?_⟩
  refine ite2 (fun h4 => ?ga) (fun h4 => ?gb)
  case' ga =>
    have h4' : 4 ≤ t := by have : (t : Int) ≥ 4 := of_decide_eq_true h4
                           omega
    refine ⟨_, rfl, D, rfl, ⟨_, SqL.of hL⟩, fun D2 hD2 => ?_⟩
    refine comp_list (xs := (strsM M).map V.str) (fun i ys H' => Same H1 H' ∧ ys = ((strsM (mirM M)).take i).map V.str) ⟨Same.fresh _ hD2, rfl⟩ (fun i ys H' p => SqL.of (p.1 _ _ hL)) (fun i x ys H' hx hi hDy hyl p => ?_) (fun ys H' hDy hyl p => ?ge)
    · obtain ⟨p1, rfl⟩ := p
      rw [List.length_map, strs_len] at hi
      rw [strs_ati hi] at hx
      cases hx
      refine ⟨Agree.set (Agree.refl _) rfl, ?_⟩
      dsimp only [tYes]
      refine iteT ?_
      refine ⟨_, rfl, _, rfl, rfl, _, rfl, by rw [line_str_len]; exact w_line okM, ?_⟩
      have h8 := okM.h8
      refine nx_put (by omega) hDy hyl ⟨p1.new hD2, ?_⟩
      rw [take_str (N := mirM M) hi, line_mir]
    case' ge =>
      obtain ⟨p1, rfl⟩ := p
      replace hL : LM H' D2 (mirM M) := by
        unfold LM
        rw [hDy, take_all (mirM M) (by rw [List.length_map, strs_len]; exact Nat.le_refl _)]
      replace sm := sm.trans p1
      obtain ⟨M1, e1⟩ : ∃ d, d = (if 4 ≤ t then mirM M else M) := ⟨_, rfl⟩
      have e2 : M1 = mirM M := by rw [e1, if_pos h4']
      rw [← e2] at hL
      have ok1 : OkM SgP M1 := by rw [e2]; exact okM.mir
      clear hDy hyl p1 hD2 hD
      generalize H' = H1 at *
      generalize D2 = D at *
  case' gb =>
    have h4' : ¬ 4 ≤ t := by have : ¬ (t : Int) ≥ 4 := by simpa using h4
                             omega
    obtain ⟨M1, e1⟩ : ∃ d, d = (if 4 ≤ t then mirM M else M) := ⟨_, rfl⟩
    have e2 : M1 = M := by rw [e1, if_neg h4']
    rw [← e2] at hL
    have ok1 : OkM SgP M1 := by rw [e2]; exact okM
  all_goals
    refine ⟨_, rfl, _, _, rfl, rfl, (by show (0 : Int) < 4; decide), _, rfl, by omega, by omega, ?_⟩
    refine for_range (lo := 0) (fun i σ' H' => ∃ (y3 : Option V) (D : Addr), σ' = [some (.ref a), some (.int (t : Nat)), some (.ref D), y3] ∧ Same H H' ∧ LM H' D (rotsM i M1)) ?_ (fun i σ' H' hi h => ?_) (fun σ' H' h => ?_)
    · exact ⟨_, D, rfl, sm, hL⟩
    · obtain ⟨y3, D, rfl, sm, hL⟩ := h
      have okN := ok1.rots i
      obtain ⟨N, hN⟩ : ∃ N, N = rotsM i M1 := ⟨_, rfl⟩
      have hN2 : rotsM (i + 1) M1 = rotM N := by rw [hN]; rfl
      rw [← hN] at okN hL
      rw [hN2]
      have okR := okN.rot
      have h1 := okN.h1
      have h8 := okN.h8
      have w8 := okN.w8
      refine ⟨_, rfl, D, _, _, _, rfl, rfl, SqL.of hL, atI0 (strs_ati h1), _, rfl, by rw [line_str_len]; exact w_line okN, _, rfl, ?_, ?_, ?_⟩
      · rw [line_str_len]; omega
      · rw [line_str_len]; omega
      intro D2 hD2
      have nD2 : D2 ≠ D := fun e => by rw [e, show H' D = _ from hL] at hD2; cases hD2
      refine comp_range (lo := 0) (fun j ys H5 => Same H' H5 ∧ ys = ((strsM (rotM N)).take j).map V.str) ⟨Same.fresh _ hD2, rfl⟩ (fun j ys H5 hj hDy hyl p => ?_) (fun ys H5 hDy hyl p => ?_)
      · obtain ⟨p1, rfl⟩ := p
        rw [line_str_len] at hj
        have hj : j < N.w := by omega
        refine ⟨Agree.set (Agree.refl _) rfl, ?_⟩
        dsimp only [tYes]
        refine iteT ?_
        refine ⟨rfl, _, rfl, _, rfl, rfl, D, _, rfl, SqL.of (p1 _ _ hL), fun p5 hp5 => ?_⟩
        have s6 : Same H5 (upd H5 p5 (.lst ((strsM N).map V.str).reverse)) := Same.fresh _ hp5
        have l6 : upd H5 p5 (.lst ((strsM N).map V.str).reverse) p5 = some (.lst ((strsM N).map V.str).reverse) := upd_same
        generalize upd H5 p5 (.lst ((strsM N).map V.str).reverse) = H6 at *
        refine ⟨p5, rfl, ⟨_, SqL.of l6⟩, fun D3 hD3 => ?_⟩
        have hlr : ((strsM N).map V.str).reverse.length = N.h := by rw [List.length_reverse, List.length_map, strs_len]
        refine comp_list (xs := ((strsM N).map V.str).reverse) (fun k ys H7 => Same H6 H7 ∧ ys = (((lineM (rotM N) j).take k).map fun c => (⟨#[c]⟩ : Str)).map V.str) ⟨Same.fresh _ hD3, rfl⟩ (fun k ys H7 p => SqL.of (p.1 _ _ l6)) (fun k x ys H7 hx hk hDy7 hyl7 p => ?_) (fun ys H7 hDy7 hyl7 p => ?_)
        · obtain ⟨p7, rfl⟩ := p
          rw [hlr] at hk
          rw [List.getElem?_reverse (by rw [List.length_map, strs_len]; exact hk), List.length_map, strs_len, strs_ati (by omega)] at hx
          cases hx
          refine ⟨Agree.set (Agree.refl _) rfl, ?_⟩
          dsimp only [tYes]
          refine iteT ?_
          refine ⟨_, rfl, _, rfl, _, _, N.g (N.h - 1 - k) j, rfl, rfl, by rw [line_str_len]; exact w_line okN, ?_, ?_⟩
          · rw [Int.zero_add]
            refine atI_nat ?_
            show (lineM N (N.h - 1 - k)).toArray.toList[j]? = _
            rw [List.toList_toArray]
            exact line_at hj
          · refine nx_put (by omega) hDy7 hyl7 ⟨p7.new hD3, ?_⟩
            have hat : (lineM (rotM N) j)[k]? = some (N.g (N.h - 1 - k) j) := line_at (M := rotM N) (r := j) (c := k) hk
            rw [map_take_succ (fun c => (⟨#[c]⟩ : Str)) hat, List.map_append]
            rfl
        · obtain ⟨p7, rfl⟩ := p
          rw [hlr, List.take_of_length_le (by rw [line_len]; exact Nat.le_refl _)] at hDy7
          have hsum := PySem.StrLaws.sumLen_le (B := 1) ((lineM (rotM N) j).map fun c => (⟨#[c]⟩ : Str)) fun y hy => by
            obtain ⟨c, _, rfl⟩ := List.mem_map.mp hy
            exact Nat.le_refl _
          have e0 : (Str.ofString "").length = 0 := by decide +kernel
          rw [List.length_map, line_len] at hsum
          have hw2 : (rotM N).w = N.h := rfl
          refine ⟨_, D3, (lineM (rotM N) j).map fun c => (⟨#[c]⟩ : Str), rfl, rfl, hDy7, by rw [e0, List.length_map, line_len]; omega, ?_⟩
          rw [join_line]
          refine nx_put (by omega) (p7 _ _ (s6 _ _ hDy)) hyl ⟨((p1.trans s6).trans p7).new hD2, ?_⟩
          rw [take_str (N := rotM N) hj]
      · obtain ⟨p1, rfl⟩ := p
        refine ⟨_, D2, rfl, sm.trans p1, ?_⟩
        unfold LM
        rw [hDy, take_all (rotM N) (by rw [line_str_len]; show N.w ≤ _; omega)]
    · obtain ⟨y3, D, rfl, sm, hL⟩ := h
      have et : (((t : Nat) : Int) % 4).toNat = t % 4 := by omega
      rw [et] at hL
      have eT : rotsM (t % 4) M1 = turM t M := by rw [e1]; rfl
      rw [eT] at hL
      refine ⟨_, rfl, D, _, rfl, .inl ⟨SqL.of hL, fun l hl => ?_⟩⟩
      exact q l _ (sm.trans (Same.fresh _ hl)) ⟨upd_same, okM.tur t⟩
end
end K08

set_option maxHeartbeats 8000000
namespace K08
open PySem PyProof.Rows L2 L3
theorem seq_keep {K : PySem.W.Frag} {H H' : Hp} {a : Addr} {xs : List V} (h : SqL K H a xs) (k : ∀ o, H a = some o → H' a = some o) : SqL K H' a xs := by
  rcases h with (h | ⟨o, h⟩) | h
  · exact .inl (.inl (k _ h))
  · exact .inl (.inr ⟨o, k _ h⟩)
  · exact .inr h
abbrev SG : Str := Str.ofString "...,,#ABCDEFGHIJKLMNOPQRSTUVWXYZabcdefghijklmnopqrstuvwxyz"
theorem txL {z : Str} (h : z.length ≤ 80 ∧ z.cps.toList.all (· < 128) = true) : Tx z := ⟨h.1, fun c hc => by simpa using List.all_eq_true.mp h.2 c hc⟩
theorem sg_tx : Tx SG := txL (by decide +kernel)
theorem sg_sg : ∀ c ∈ SG.cps.toList, sgB c = true := fun c hc => List.all_eq_true.mp (show SG.cps.toList.all sgB = true by decide +kernel) c hc
theorem depth_strs (zs : List Str) : PyData.depthAll (zs.map PyData.str) ≤ 1 := by
  induction zs with
  | nil => simp [PyData.depthAll]
  | cons z t ih => simp [PyData.depthAll, PyData.depth] at ih ⊢; omega
theorem rep_strs {H : Hp} {M : Mat} (o : OkM SgP M) : ∀ {zs : List Str}, (∀ z ∈ zs, z ∈ strsM M) → RepAll H (zs.map PyData.str) (zs.map V.str)
  | [], _ => rfl
  | z :: zs, h => ⟨_, _, rfl, ⟨rfl, Tx.ok (strs_tx o (h z List.mem_cons_self)).1.1⟩, rep_strs o fun y hy => h y (List.mem_cons_of_mem _ hy)⟩
def dM (M : Mat) : PyData := .tuple ((strsM M).map PyData.str)
theorem FlM.rep {H : Hp} {a : Addr} {M : Mat} (h : FlM H a M) : Rep H (dM M) (.ref a) := ⟨a, _, rfl, h.1, rep_strs h.2 fun _ hz => hz⟩
theorem depth_M (M : Mat) : (dM M).depth ≤ 60 := by
  have := depth_strs (strsM M)
  simp [dM, PyData.depth]
  omega
theorem SameM.dM {M N : Mat} (a : SameM M N) : dM M = dM N := by unfold K08.dM; rw [a.strs]
theorem FlM.thing {H : Hp} {a : Addr} {M : Mat} (h : FlM H a M) : Thing H (.ref a) (some ((strsM M).map some)) := by
  refine ⟨by rw [List.length_map, strs_len]; have := h.2.h8; omega, a, _, rfl, h.1, by simp, fun i v o e1 e2 => ?_⟩
  rw [List.getElem?_map] at e1 e2
  cases hz : (strsM M)[i]? with
  | none => rw [hz] at e1; cases e1
  | some z =>
    rw [hz] at e1 e2
    cases e1; cases e2
    exact ⟨rfl, (strs_tx h.2 (List.mem_of_getElem? hz)).1.1⟩
theorem FlM.isf {H : Hp} {a : Addr} {M : Mat} (h : FlM H a M) : flB (some ((strsM M).map some)) = true := by
  rw [fl_eq]
  have h1 := h.2.h1
  have h8 := h.2.h8
  simp only [Bool.and_eq_true, decide_eq_true_eq, List.length_map, strs_len, List.all_eq_true]
  refine ⟨⟨h1, h8⟩, fun o ho => ?_⟩
  obtain ⟨z, hz, rfl⟩ := List.mem_map.mp ho
  obtain ⟨⟨tx, sg⟩, hl⟩ := strs_tx h.2 hz
  have w1 := h.2.w1
  have w8 := h.2.w8
  refine ⟨?_, ?_⟩
  · rw [row_eq]
    simp only [Bool.and_eq_true, decide_eq_true_eq, List.all_eq_true]
    exact ⟨⟨by omega, by omega⟩, sg⟩
  · have e0 : ((List.map some (strsM M))[0]?).getD none = some (⟨(lineM M 0).toArray⟩ : Str) := by
      rw [List.getElem?_map, strs_at h1]; rfl
    rw [e0]
    have hl0 := (strs_tx h.2 (List.mem_of_getElem? (strs_at h1))).2
    show (z.length == (⟨(lineM M 0).toArray⟩ : Str).length) = true
    rw [hl, hl0]
    simp
theorem ne_selfD {H : Hp} {d : PyData} {v : V} (h : Rep H d v) : (if true = true then !PyData.eqv d d else PyData.eqv d d) = false := by
  rw [if_pos rfl, SeqAt.eqv_refl _ h.lay]
  rfl
theorem then_undoM : ∀ t < 8, thenM t (undoN t) = 0 := by decide
theorem thenN_M (t s : Nat) : thenN t s = thenM t s := rfl
section
variable {P : Program} {w : World} {K : PySem.W.Frag} {mg : Str → Option Value} {base : Heap} {f : Addr} {fd : FuncData}
def spLaw (K : PySem.W.Frag) : Sp := fun vs H Q _ => ∃ (a : Addr) (ns : List Int), vs = [.ref a] ∧ SqL K H a (ns.map V.int) ∧ ns.length ≤ 63 ∧ ∀ H', Q (.bl true) H'
theorem scLaw : FnScope ["_law_script", "_law_signs", "_law_k", "_law_state_here", "_law_floor_here", "_law_t", "_law_found", "_law_s"] ["_law_script"] (defScope sLaw) := ⟨rfl, rfl, rfl, by decide +kernel, rfl, by decide +kernel, by decide +kernel⟩
theorem ok_law (B : ∀ x ∈ blts, mg x = none) (Fnext : FnNext P w K mg base) (Fcell : Fn P w K mg base "_law_cell_at" 1 ["_law_script", "_law_k"] (spCell K)) (Fstate : Fn P w K mg base "_law_state" 1 ["_law_cell", "_law_k"] spState)
    (Ffloor : Fn P w K mg base "_law_floor" 2 ["_law_state_here", "_law_most", "_law_signs"] spFloor) (Ftf : Fn P w K mg base "turned_floor" 3 ["floor", "t"] spTf) (Fturn : Fn P w K mg base "_law_turned" 1 ["_law_floor_here", "_law_t"] spTf) (Fisf : Fn P w K mg base "is_floor" 4 ["found"] spFl)
    (Fundo : Fn P w K mg base "undoing" 2 ["t"] spUndo) (Fthen : Fn P w K mg base "then" 2 ["t", "s"] spThen)
    (F : Fun K "law" "law" sLaw f fd) : FnOk P w K mg base CX0 5 f fd ["_law_script"] (spLaw K) := by
  refine F.ok (k := 4) scLaw (fun vs H Q E h => ?_) (fun cdv A outer s H vs Q E hr h => ?_)
  · obtain ⟨a, ns, rfl, _⟩ := h
    rfl
  obtain ⟨a, ns, rfl, hS, h63, q⟩ := h
  have hu := hr.units
  refine ⟨_, (pss_cons (ps_set (i := 1) scLaw.nd rfl (Or.inl rfl) pe_str)
    (pss_cons (ps_for PassesOwn.never rfl (pi_r1 rfl (B "range" (by decide)) (pa_c (pe_cB (call_max2 rfl) rfl (B "max" (by decide)) boot_max (pa_c pe_int (pa_c (pe_cB (call_min2 rfl) rfl (B "min" (by decide)) boot_min (pa_c (pe_cB call_len_seq rfl (B "len" (by decide)) PySem.boot_len (pa_c (pv 0) pa_nil)) (pa_c pe_int pa_nil))) pa_nil))) pa_nil)) (pg_name (i := 2) scLaw.nd rfl (Or.inl rfl)) (pss_cons (ps_set (i := 3) scLaw.nd rfl (Or.inl rfl) (pe_fn Fstate hr (by decide) rfl (pa_c (pe_fn Fcell hr (by decide) rfl (pa_c (pv 0) (pa_c (pv 2) pa_nil))) (pa_c (pv 2) pa_nil))))
    (pss_cons (ps_set (i := 4) scLaw.nd rfl (Or.inl rfl) (pe_fn Ffloor hr (by decide) rfl (pa_c (pv 3) (pa_c pe_int (pa_c (pe_slice sl_str (pv 1) po_none (po_some (pe_ix ix_list (pe_lst (pa_c pe_int (pa_c pe_int pa_nil))) (pe_fn Fnext hr (by decide) rfl (pa_c (pv 3) (pa_c pe_int pa_nil))) (fun _ _ => rfl)))) pa_nil)))))
    (pss_one (ps_for PassesOwn.never rfl (pi_r1 rfl (B "range" (by decide)) (pa_c pe_int pa_nil)) (pg_name (i := 5) scLaw.nd rfl (Or.inl rfl)) (pss_cons (ps_set (i := 6) scLaw.nd rfl (Or.inl rfl) (pe_fn Ftf hr (by decide) rfl (pa_c (pv 4) (pa_c (pv 5) pa_nil))))
    (pss_cons (ps_if (PW.pt (pw_or (pt_not (pt_val (pe_cB call_isinst rfl (B "isinstance" (by decide)) boot_isinstance (pa_c (pv 6) (pa_c (pe_bltn (v := .ty "tuple") rfl (B "tuple" (by decide)) boot_tuple rfl) pa_nil))))) (pw_or (pt_cmpR (op_neD hu) (pv 6) (pe_fn Fturn hr (by decide) rfl (pa_c (pv 4) (pa_c (pv 5) pa_nil))) (nomark _)) (pw_or1 (pt_not (pt_val (pe_fn Fisf hr (by decide) rfl (pa_c (pv 6) pa_nil)))))))) (pss_one (ps_ret pe_bl)) pss_nil)
    (pss_cons (ps_if (pt_cmpR (op_neD hu) (pe_fn Ftf hr (by decide) rfl (pa_c (pv 6) (pa_c (pe_fn Fundo hr (by decide) rfl (pa_c (pv 5) pa_nil)) pa_nil))) (pv 4) (nomark _)) (pss_one (ps_ret pe_bl)) pss_nil)
    (pss_cons (ps_set (i := 7) scLaw.nd rfl (Or.inl rfl) (pe_fn Fnext hr (by decide) rfl (pa_c (pv 3) (pa_c pe_int pa_nil))))
    (pss_one (ps_if (pt_cmpR (op_neD hu) (pe_fn Ftf hr (by decide) rfl (pa_c (pv 6) (pa_c (pv 7) pa_nil))) (pe_fn Ftf hr (by decide) rfl (pa_c (pv 4) (pa_c (pe_fn Fthen hr (by decide) rfl (pa_c (pv 5) (pa_c (pv 7) pa_nil))) pa_nil))) (nomark _)) (pss_one (ps_ret pe_bl)) pss_nil)))))))))))
    (pss_one (ps_ret pe_bl)))), ?_⟩
  refine ⟨_, rfl, a, _, rfl, .inl hS, _, _, rfl, _, _, rfl, _, rfl, ?_, ?_, ?_⟩
  · split <;> split <;> omega
  · split <;> split <;> omega
  refine for_range (lo := 0) (fun i σ' H' => ∃ x2 x3 x4 x5 x6 x7, σ' = [some (.ref a), some (.str SG), x2, x3, x4, x5, x6, x7] ∧ SqL K H' a (ns.map V.int)) ?_ (fun i σ' G hi h => ?_) (fun σ' H' h => ?_)
  · exact ⟨_, _, _, _, _, _, rfl, hS⟩
  · obtain ⟨x2, x3, x4, x5, x6, x7, rfl, hG⟩ := h
    refine ⟨_, rfl, _, rfl, a, ns, _, rfl, hG, by omega, fun c => ⟨_, rfl, c, _, rfl, fun st n0 hst0 => ?_⟩⟩
    have s0 : Same G (upd G st (.lst [.int n0])) := Same.fresh _ hst0
    have st0 : upd G st (.lst [.int n0]) st = some (.lst [.int n0]) := upd_same
    generalize upd G st (.lst [.int n0]) = G0 at *
    refine ⟨_, rfl, _, rfl, (by show 2 ≤ sizeLine; decide), fun l hl => ?_⟩
    have nl : l ≠ st := fun e => by rw [e, st0] at hl; cases hl
    have s1 : Same G0 (upd G0 l (.lst [.int 6, .int 58])) := Same.fresh _ hl
    have l1 : upd G0 l (.lst [.int 6, .int 58]) l = some (.lst [.int 6, .int 58]) := upd_same
    have st1 := s1 _ _ st0
    generalize upd G0 l (.lst [.int 6, .int 58]) = G1 at *
    refine ⟨_, rfl, st, n0, 2, rfl, st1, by decide, fun n2 i2 h20 h21 => ?_⟩
    have ex2 : Ex [st] G0 (upd G1 st (.lst [.int n2])) := (Ex.of_same s1).trans (Ex.upd (by simp))
    have st2 : upd G1 st (.lst [.int n2]) st = some (.lst [.int n2]) := upd_same
    have l2 : upd G1 st (.lst [.int n2]) l = some (.lst [.int 6, .int 58]) := by rw [upd_ne nl]; exact l1
    generalize upd G1 st (.lst [.int n2]) = G2 at *
    have hm : ∃ m : Int, atI [V.int 6, V.int 58] i2 = some (.int m) ∧ 0 < (Txt.slice SG none (some m)).length := by
      have : i2 = 0 ∨ i2 = 1 := by omega
      rcases this with rfl | rfl
      · exact ⟨6, rfl, by decide +kernel⟩
      · exact ⟨58, rfl, by decide +kernel⟩
    obtain ⟨m, hat, hm0⟩ := hm
    refine ⟨l, _, i2, _, rfl, rfl, SqL.of l2, hat, _, rfl, SG, rfl, tx_line sg_tx, ?_⟩
    refine ⟨st, n2, _, rfl, st2, sg_tx.slice _ _, fun c hc => sg_sg c (slice_mem hc), hm0, fun p zs G3 n3 hp3 ex3 st3 p3 hrw => ?_⟩
    have ex3' := ex2.trans ex3
    have keep : ∀ G', Ex [st] G0 G' → ∀ o, G a = some o → G' a = some o := fun G' ex o ho => by
      refine ex a o (fun z => ?_) (s0 _ _ ho)
      rw [List.mem_singleton.mp z, hst0] at ho; cases ho
    obtain ⟨M, rfl, okM⟩ := mat_of hrw
    have np : p ≠ st := fun e => by rw [e, st3] at p3; cases p3
    have hf3 : FlM G3 p M := ⟨p3, okM⟩
    refine ⟨_, rfl, by omega, by omega, ?_⟩
    refine for_range (lo := 0) (fun t σ' H' => ∃ (x5 x6 x7 : Option V) (n : Int), σ' = [some (.ref a), some (.str SG), some (.int (0 + (i : Int))), some (.ref st), some (.ref p), x5, x6, x7] ∧ Ex [st] G0 H' ∧ H' st = some (.lst [.int n]) ∧ FlM H' p M) ?_ (fun t σ' H4 ht h => ?_) (fun σ' H4 h => ?_)
    · exact ⟨_, _, _, n3, rfl, ex3', st3, hf3⟩
    · obtain ⟨y5, y6, y7, n4, rfl, ex4, st4, hf4⟩ := h
      have ht8 : t < 8 := by omega
      rw [Int.zero_add]
      refine ⟨_, rfl, _, rfl, p, M, t, rfl, hf4, ht8, fun r1 H5 s5 f5 => ?_⟩
      refine ⟨_, rfl, .ref r1, "tuple", .type "tuple", true, rfl, .tup f5.1, rfl, true, rfl, ?_⟩
      refine iteF ?_
      refine ⟨_, rfl, _, rfl, _, rfl, p, M, t, rfl, hf4.same s5, ht8, fun r2 H6 s6 f6 => ?_⟩
      refine ⟨_, _, FlM.rep (f5.same s6), FlM.rep f6, depth_M _, _, rfl, ?_⟩
      rw [ne_selfD (FlM.rep f6)]
      refine iteF ?_
      have f6' := f5.same s6
      refine ⟨_, rfl, .ref r1, _, rfl, FlM.thing f6', fun H7 s7 => ?_⟩
      rw [FlM.isf f6']
      refine ⟨true, rfl, ?_⟩
      refine iteF ?_
      have s47 := (s5.trans s6).trans s7
      have f7 := f6'.same s7
      refine ⟨_, rfl, _, rfl, t, rfl, ht8, r1, turM t M, undoN t, rfl, f7, undo_lt t ht8, fun r3 H8 s8 f8 => ?_⟩
      have eU : dM (turM (undoN t) (turM t M)) = dM M := by
        rw [SameM.dM (tur_then M), then_undoM t ht8]
        rfl
      have rep8 := FlM.rep f8
      rw [eU] at rep8
      have s48 := s47.trans s8
      have hf8 := hf4.same s48
      refine ⟨_, rfl, _, _, rep8, FlM.rep hf8, depth_M _, _, rfl, ?_⟩
      rw [ne_selfD (FlM.rep hf8)]
      refine iteF ?_
      have ex8 := ex4.trans (Ex.of_same s48)
      have st8 := s48 _ _ st4
      refine ⟨_, rfl, st, n4, 8, rfl, st8, by decide, fun n9 i9 h90 h91 => ?_⟩
      have ex9 : Ex [st] G0 (upd H8 st (.lst [.int n9])) := ex8.trans (Ex.upd (by simp))
      have st9 : upd H8 st (.lst [.int n9]) st = some (.lst [.int n9]) := upd_same
      have fr8 := f7.same s8
      have nr : r1 ≠ st := fun e => by have z := fr8.1; rw [e, st8] at z; cases z
      have fr9 : FlM (upd H8 st (.lst [.int n9])) r1 (turM t M) := ⟨by rw [upd_ne nr]; exact fr8.1, fr8.2⟩
      have hf9 : FlM (upd H8 st (.lst [.int n9])) p M := ⟨by rw [upd_ne np]; exact hf8.1, hf8.2⟩
      generalize upd H8 st (.lst [.int n9]) = H9 at *
      obtain ⟨s9, rfl⟩ := Int.eq_ofNat_of_zero_le h90
      have hs8 : s9 < 8 := by omega
      refine ⟨_, rfl, _, rfl, r1, turM t M, s9, rfl, fr9, hs8, fun ra Ha sa fa => ?_⟩
      refine ⟨_, rfl, _, rfl, _, rfl, t, s9, rfl, ht8, hs8, p, M, thenN t s9, rfl, hf9.same sa, then_lt t ht8 s9 hs8, fun rb Hb sb fb => ?_⟩
      have repA := FlM.rep (fa.same sb)
      rw [SameM.dM (tur_then M)] at repA
      refine ⟨_, _, repA, FlM.rep fb, depth_M _, _, rfl, ?_⟩
      rw [show dM (turM (thenM t s9) M) = dM (turM (thenN t s9) M) from rfl, ne_selfD (FlM.rep fb)]
      refine iteF ?_
      have sAB := sa.trans sb
      exact ⟨_, _, _, n9, rfl, ex9.trans (Ex.of_same sAB), sAB _ _ st9, hf9.same sAB⟩
    · obtain ⟨y5, y6, y7, n4, rfl, ex4, st4, hf4⟩ := h
      exact ⟨_, _, _, _, _, _, rfl, seq_keep hG (keep H4 ex4)⟩
  · exact q H'
end
end K08

set_option maxHeartbeats 4000000
namespace K08
open PySem PyProof.Rows L2 L3
theorem all_mk {l : PySem.W.OpenLaw} {w : World} {K : PySem.W.Frag} {h : Heap} {mg : Str → Option Value} {fa f1 f2 f3 f4 f5 f6 f7 f8 f9 f10 f11 f12 f13 f14 f15 f16 f17 f18 f19 : Addr} (X : K.In h) (G : h.Ns mainGlobals mg) (hfa : mg "law" = some (.ref fa))
    {od1 an1 od2 an2 od3 an3 od4 an4 od5 an5 od6 an6 od7 an7 od8 an8 od9 an9 od10 an10 od11 an11 od12 an12 od13 an13 od14 an14 od15 an15 od16 an16 od17 an17 od18 an18 od19 an19 : Option Addr} {sl1 sl2 sl3 sl4 sl5 sl6 sl7 sl8 sl9 sl10 sl11 sl12 sl13 sl14 sl15 sl16 sl17 sl18 sl19 : Array (Option Value)} {oc1 kV1 dc1 pm1 cd1 ct1 oc2 kV2 dc2 pm2 cd2 ct2 oc3 kV3 dc3 pm3 cd3 ct3 oc4 kV4 dc4 pm4 cd4 ct4 oc5 kV5 dc5 pm5 cd5 ct5 oc6 kV6 dc6 pm6 cd6 ct6 oc7 kV7 dc7 pm7 cd7 ct7 oc8 kV8 dc8 pm8 cd8 ct8 oc9 kV9 dc9 pm9 cd9 ct9 oc10 kV10 dc10 pm10 cd10 ct10 oc11 kV11 dc11 pm11 cd11 ct11 oc12 kV12 dc12 pm12 cd12 ct12 oc13 kV13 dc13 pm13 cd13 ct13 oc14 kV14 dc14 pm14 cd14 ct14 oc15 kV15 dc15 pm15 cd15 ct15 oc16 kV16 dc16 pm16 cd16 ct16 oc17 kV17 dc17 pm17 cd17 ct17 oc18 kV18 dc18 pm18 cd18 ct18 oc19 kV19 dc19 pm19 cd19 ct19 : Value}
    (a1 : PySem.W.nsIn K mainGlobals "is_sign" = some (some (.ref f1))) (l1 : K.lookup f1 = some ⟨oc1, od1, .func (PySem.W.fnOf "is_sign" "is_sign" (defArgs sBig) (defBody sBig) (defScope sBig) .none kV1 dc1 pm1 an1 cd1 ct1), sl1⟩) (c1 : PySem.W.codeIn K cd1 "is_sign" = true) (k1 : PySem.W.keepIn K (.ref f1) = true)
    (a2 : PySem.W.nsIn K mainGlobals "is_small" = some (some (.ref f2))) (l2 : K.lookup f2 = some ⟨oc2, od2, .func (PySem.W.fnOf "is_small" "is_small" (defArgs sSmall) (defBody sSmall) (defScope sSmall) .none kV2 dc2 pm2 an2 cd2 ct2), sl2⟩) (c2 : PySem.W.codeIn K cd2 "is_small" = true) (k2 : PySem.W.keepIn K (.ref f2) = true)
    (a3 : PySem.W.nsIn K mainGlobals "turned" = some (some (.ref f3))) (l3 : K.lookup f3 = some ⟨oc3, od3, .func (PySem.W.fnOf "turned" "turned" (defArgs sTd) (defBody sTd) (defScope sTd) .none kV3 dc3 pm3 an3 cd3 ct3), sl3⟩) (c3 : PySem.W.codeIn K cd3 "turned" = true) (k3 : PySem.W.keepIn K (.ref f3) = true)
    (a4 : PySem.W.nsIn K mainGlobals "mirrored" = some (some (.ref f4))) (l4 : K.lookup f4 = some ⟨oc4, od4, .func (PySem.W.fnOf "mirrored" "mirrored" (defArgs sMir) (defBody sMir) (defScope sMir) .none kV4 dc4 pm4 an4 cd4 ct4), sl4⟩) (c4 : PySem.W.codeIn K cd4 "mirrored" = true) (k4 : PySem.W.keepIn K (.ref f4) = true)
    (a5 : PySem.W.nsIn K mainGlobals "turned_right" = some (some (.ref f5))) (l5 : K.lookup f5 = some ⟨oc5, od5, .func (PySem.W.fnOf "turned_right" "turned_right" (defArgs sTr) (defBody sTr) (defScope sTr) .none kV5 dc5 pm5 an5 cd5 ct5), sl5⟩) (c5 : PySem.W.codeIn K cd5 "turned_right" = true) (k5 : PySem.W.keepIn K (.ref f5) = true)
    (a6 : PySem.W.nsIn K mainGlobals "then" = some (some (.ref f6))) (l6 : K.lookup f6 = some ⟨oc6, od6, .func (PySem.W.fnOf "then" "then" (defArgs sThen) (defBody sThen) (defScope sThen) .none kV6 dc6 pm6 an6 cd6 ct6), sl6⟩) (c6 : PySem.W.codeIn K cd6 "then" = true) (k6 : PySem.W.keepIn K (.ref f6) = true)
    (a7 : PySem.W.nsIn K mainGlobals "undoing" = some (some (.ref f7))) (l7 : K.lookup f7 = some ⟨oc7, od7, .func (PySem.W.fnOf "undoing" "undoing" (defArgs sUndo) (defBody sUndo) (defScope sUndo) .none kV7 dc7 pm7 an7 cd7 ct7), sl7⟩) (c7 : PySem.W.codeIn K cd7 "undoing" = true) (k7 : PySem.W.keepIn K (.ref f7) = true)
    (a8 : PySem.W.nsIn K mainGlobals "numbered" = some (some (.ref f8))) (l8 : K.lookup f8 = some ⟨oc8, od8, .func (PySem.W.fnOf "numbered" "numbered" (defArgs sNumb) (defBody sNumb) (defScope sNumb) .none kV8 dc8 pm8 an8 cd8 ct8), sl8⟩) (c8 : PySem.W.codeIn K cd8 "numbered" = true) (k8 : PySem.W.keepIn K (.ref f8) = true)
    (a9 : PySem.W.nsIn K mainGlobals "is_floor" = some (some (.ref f9))) (l9 : K.lookup f9 = some ⟨oc9, od9, .func (PySem.W.fnOf "is_floor" "is_floor" (defArgs sIsf) (defBody sIsf) (defScope sIsf) .none kV9 dc9 pm9 an9 cd9 ct9), sl9⟩) (c9 : PySem.W.codeIn K cd9 "is_floor" = true) (k9 : PySem.W.keepIn K (.ref f9) = true)
    (a10 : PySem.W.nsIn K mainGlobals "is_floor_row" = some (some (.ref f10))) (l10 : K.lookup f10 = some ⟨oc10, od10, .func (PySem.W.fnOf "is_floor_row" "is_floor_row" (defArgs sRow) (defBody sRow) (defScope sRow) .none kV10 dc10 pm10 an10 cd10 ct10), sl10⟩) (c10 : PySem.W.codeIn K cd10 "is_floor_row" = true) (k10 : PySem.W.keepIn K (.ref f10) = true)
    (a11 : PySem.W.nsIn K mainGlobals "is_floor_sign" = some (some (.ref f11))) (l11 : K.lookup f11 = some ⟨oc11, od11, .func (PySem.W.fnOf "is_floor_sign" "is_floor_sign" (defArgs sSg) (defBody sSg) (defScope sSg) .none kV11 dc11 pm11 an11 cd11 ct11), sl11⟩) (c11 : PySem.W.codeIn K cd11 "is_floor_sign" = true) (k11 : PySem.W.keepIn K (.ref f11) = true)
    (a12 : PySem.W.nsIn K mainGlobals "floor_spots" = some (some (.ref f12))) (l12 : K.lookup f12 = some ⟨oc12, od12, .func (PySem.W.fnOf "floor_spots" "floor_spots" (defArgs sSpots) (defBody sSpots) (defScope sSpots) .none kV12 dc12 pm12 an12 cd12 ct12), sl12⟩) (c12 : PySem.W.codeIn K cd12 "floor_spots" = true) (k12 : PySem.W.keepIn K (.ref f12) = true)
    (a13 : PySem.W.nsIn K mainGlobals "turned_floor" = some (some (.ref f13))) (l13 : K.lookup f13 = some ⟨oc13, od13, .func (PySem.W.fnOf "turned_floor" "turned_floor" (defArgs sTf) (defBody sTf) (defScope sTf) .none kV13 dc13 pm13 an13 cd13 ct13), sl13⟩) (c13 : PySem.W.codeIn K cd13 "turned_floor" = true) (k13 : PySem.W.keepIn K (.ref f13) = true)
    (a14 : PySem.W.nsIn K mainGlobals "_law_cell_at" = some (some (.ref f14))) (l14 : K.lookup f14 = some ⟨oc14, od14, .func (PySem.W.fnOf "_law_cell_at" "_law_cell_at" (defArgs sCell) (defBody sCell) (defScope sCell) .none kV14 dc14 pm14 an14 cd14 ct14), sl14⟩) (c14 : PySem.W.codeIn K cd14 "_law_cell_at" = true) (k14 : PySem.W.keepIn K (.ref f14) = true)
    (a15 : PySem.W.nsIn K mainGlobals "_law_state" = some (some (.ref f15))) (l15 : K.lookup f15 = some ⟨oc15, od15, .func (PySem.W.fnOf "_law_state" "_law_state" (defArgs sState) (defBody sState) (defScope sState) .none kV15 dc15 pm15 an15 cd15 ct15), sl15⟩) (c15 : PySem.W.codeIn K cd15 "_law_state" = true) (k15 : PySem.W.keepIn K (.ref f15) = true)
    (a16 : PySem.W.nsIn K mainGlobals "_law_next" = some (some (.ref f16))) (l16 : K.lookup f16 = some ⟨oc16, od16, .func (PySem.W.fnOf "_law_next" "_law_next" (defArgs sNext) (defBody sNext) (defScope sNext) .none kV16 dc16 pm16 an16 cd16 ct16), sl16⟩) (c16 : PySem.W.codeIn K cd16 "_law_next" = true) (k16 : PySem.W.keepIn K (.ref f16) = true)
    (a17 : PySem.W.nsIn K mainGlobals "_law_floor" = some (some (.ref f17))) (l17 : K.lookup f17 = some ⟨oc17, od17, .func (PySem.W.fnOf "_law_floor" "_law_floor" (defArgs sFloor) (defBody sFloor) (defScope sFloor) .none kV17 dc17 pm17 an17 cd17 ct17), sl17⟩) (c17 : PySem.W.codeIn K cd17 "_law_floor" = true) (k17 : PySem.W.keepIn K (.ref f17) = true)
    (a18 : PySem.W.nsIn K mainGlobals "_law_turned" = some (some (.ref f18))) (l18 : K.lookup f18 = some ⟨oc18, od18, .func (PySem.W.fnOf "_law_turned" "_law_turned" (defArgs sTurn) (defBody sTurn) (defScope sTurn) .none kV18 dc18 pm18 an18 cd18 ct18), sl18⟩) (c18 : PySem.W.codeIn K cd18 "_law_turned" = true) (k18 : PySem.W.keepIn K (.ref f18) = true)
    (a19 : PySem.W.nsIn K mainGlobals "law" = some (some (.ref f19))) (l19 : K.lookup f19 = some ⟨oc19, od19, .func (PySem.W.fnOf "law" "law" (defArgs sLaw) (defBody sLaw) (defScope sLaw) .none kV19 dc19 pm19 an19 cd19 ct19), sl19⟩) (c19 : PySem.W.codeIn K cd19 "law" = true) (k19 : PySem.W.keepIn K (.ref f19) = true)
    {u1 u2 u3 u4 : Tok} (y1 : PySem.W.nsIn K mainGlobals "MOST_LINES" = some (some (.int 8 u1))) (y2 : PySem.W.nsIn K mainGlobals "CLOSED" = some (some (.str "#" u2))) (y3 : PySem.W.nsIn K mainGlobals "COVERED" = some (some (.str "." u3))) (y4 : PySem.W.nsIn K mainGlobals "FREE" = some (some (.str "," u4))) (z1 : PySem.W.nsIn K mainGlobals "len" = some none) (z2 : PySem.W.nsIn K mainGlobals "min" = some none) (z3 : PySem.W.nsIn K mainGlobals "max" = some none) (z4 : PySem.W.nsIn K mainGlobals "sorted" = some none) (z5 : PySem.W.nsIn K mainGlobals "tuple" = some none) (z6 : PySem.W.nsIn K mainGlobals "list" = some none) (z7 : PySem.W.nsIn K mainGlobals "isinstance" = some none) (z8 : PySem.W.nsIn K mainGlobals "bool" = some none) (z9 : PySem.W.nsIn K mainGlobals "range" = some none) (z10 : PySem.W.nsIn K mainGlobals "str" = some none) (z11 : PySem.W.nsIn K mainGlobals "enumerate" = some none) (z12 : PySem.W.nsIn K mainGlobals "all" = some none) :
    ∃ fd : FuncData, (∀ (s : Shared) (v : Value), BindsTo s fd ⟨[v], []⟩ [("_law_script", v)]) ∧ ∀ base : Heap, K.In base → base.Ns mainGlobals mg → FnOk l.prog w K mg base CX0 5 fa fd ["_law_script"] (spLaw K) := by
  have e := hfa.symm.trans (PySem.W.mg_of X G a19)
  cases e
  have F1 := fun_mk (st := sBig) l1 c1 k1
  have F2 := fun_mk (st := sSmall) l2 c2 k2
  have F3 := fun_mk (st := sTd) l3 c3 k3
  have F4 := fun_mk (st := sMir) l4 c4 k4
  have F5 := fun_mk (st := sTr) l5 c5 k5
  have F6 := fun_mk (st := sThen) l6 c6 k6
  have F7 := fun_mk (st := sUndo) l7 c7 k7
  have F8 := fun_mk (st := sNumb) l8 c8 k8
  have F9 := fun_mk (st := sIsf) l9 c9 k9
  have F10 := fun_mk (st := sRow) l10 c10 k10
  have F11 := fun_mk (st := sSg) l11 c11 k11
  have F12 := fun_mk (st := sSpots) l12 c12 k12
  have F13 := fun_mk (st := sTf) l13 c13 k13
  have F14 := fun_mk (st := sCell) l14 c14 k14
  have F15 := fun_mk (st := sState) l15 c15 k15
  have F16 := fun_mk (st := sNext) l16 c16 k16
  have F17 := fun_mk (st := sFloor) l17 c17 k17
  have F18 := fun_mk (st := sTurn) l18 c18 k18
  have F19 := fun_mk (st := sLaw) l19 c19 k19
  have b1 := F1.binds (ps := ["found"]) fun _ _ _ _ _ _ us hl => match us, hl with | [_], _ => rfl
  have b2 := F2.binds (ps := ["found"]) fun _ _ _ _ _ _ us hl => match us, hl with | [_], _ => rfl
  have b3 := F3.binds (ps := ["form", "t"]) fun _ _ _ _ _ _ us hl => match us, hl with | [_, _], _ => rfl
  have b4 := F4.binds (ps := ["spots"]) fun _ _ _ _ _ _ us hl => match us, hl with | [_], _ => rfl
  have b5 := F5.binds (ps := ["spots"]) fun _ _ _ _ _ _ us hl => match us, hl with | [_], _ => rfl
  have b6 := F6.binds (ps := ["t", "s"]) fun _ _ _ _ _ _ us hl => match us, hl with | [_, _], _ => rfl
  have b7 := F7.binds (ps := ["t"]) fun _ _ _ _ _ _ us hl => match us, hl with | [_], _ => rfl
  have b8 := F8.binds (ps := ["mirrors", "turns"]) fun _ _ _ _ _ _ us hl => match us, hl with | [_, _], _ => rfl
  have b9 := F9.binds (ps := ["found"]) fun _ _ _ _ _ _ us hl => match us, hl with | [_], _ => rfl
  have b10 := F10.binds (ps := ["found"]) fun _ _ _ _ _ _ us hl => match us, hl with | [_], _ => rfl
  have b11 := F11.binds (ps := ["sign"]) fun _ _ _ _ _ _ us hl => match us, hl with | [_], _ => rfl
  have b12 := F12.binds (ps := ["floor"]) fun _ _ _ _ _ _ us hl => match us, hl with | [_], _ => rfl
  have b13 := F13.binds (ps := ["floor", "t"]) fun _ _ _ _ _ _ us hl => match us, hl with | [_, _], _ => rfl
  have b14 := F14.binds (ps := ["_law_script", "_law_k"]) fun _ _ _ _ _ _ us hl => match us, hl with | [_, _], _ => rfl
  have b15 := F15.binds (ps := ["_law_cell", "_law_k"]) fun _ _ _ _ _ _ us hl => match us, hl with | [_, _], _ => rfl
  have b16 := F16.binds (ps := ["_law_state_here", "_law_many"]) fun _ _ _ _ _ _ us hl => match us, hl with | [_, _], _ => rfl
  have b17 := F17.binds (ps := ["_law_state_here", "_law_most", "_law_signs"]) fun _ _ _ _ _ _ us hl => match us, hl with | [_, _, _], _ => rfl
  have b18 := F18.binds (ps := ["_law_floor_here", "_law_t"]) fun _ _ _ _ _ _ us hl => match us, hl with | [_, _], _ => rfl
  have B : ∀ x ∈ blts, mg x = none := by
    intro x hx
    unfold blts at hx
    rcases List.mem_cons.mp hx with rfl | hx
    · exact PySem.W.mg_none_of X G z1
    rcases List.mem_cons.mp hx with rfl | hx
    · exact PySem.W.mg_none_of X G z2
    rcases List.mem_cons.mp hx with rfl | hx
    · exact PySem.W.mg_none_of X G z3
    rcases List.mem_cons.mp hx with rfl | hx
    · exact PySem.W.mg_none_of X G z4
    rcases List.mem_cons.mp hx with rfl | hx
    · exact PySem.W.mg_none_of X G z5
    rcases List.mem_cons.mp hx with rfl | hx
    · exact PySem.W.mg_none_of X G z6
    rcases List.mem_cons.mp hx with rfl | hx
    · exact PySem.W.mg_none_of X G z7
    rcases List.mem_cons.mp hx with rfl | hx
    · exact PySem.W.mg_none_of X G z8
    rcases List.mem_cons.mp hx with rfl | hx
    · exact PySem.W.mg_none_of X G z9
    rcases List.mem_cons.mp hx with rfl | hx
    · exact PySem.W.mg_none_of X G z10
    rcases List.mem_cons.mp hx with rfl | hx
    · exact PySem.W.mg_none_of X G z11
    rcases List.mem_cons.mp hx with rfl | hx
    · exact PySem.W.mg_none_of X G z12
    cases hx
  refine ⟨PySem.W.fnOf "law" "law" (defArgs sLaw) (defBody sLaw) (defScope sLaw) .none kV19 dc19 pm19 an19 cd19 ct19, fun s v => .of_eq rfl, fun base _ _ => ?_⟩
  have g8 : G8 mg := ⟨_, PySem.W.mg_of X G y1⟩
  have gC : GS mg "CLOSED" "#" := ⟨_, PySem.W.mg_of X G y2⟩
  have gP : GS mg "COVERED" "." := ⟨_, PySem.W.mg_of X G y3⟩
  have gF : GS mg "FREE" "," := ⟨_, PySem.W.mg_of X G y4⟩
  have nx : FnNext l.prog w K mg base := ⟨f16, _, ok_next F16, PySem.W.mg_of X G a16, k16, b16⟩
  have sg : Fn l.prog w K mg base "is_floor_sign" 2 ["sign"] spSg := ⟨f11, _, ok_sg gC gP gF ⟨f1, _, ok_big B F1, PySem.W.mg_of X G a1, k1, b1⟩ ⟨f2, _, ok_small B F2, PySem.W.mg_of X G a2, k2, b2⟩ F11, PySem.W.mg_of X G a11, k11, b11⟩
  have row : Fn l.prog w K mg base "is_floor_row" 3 ["found"] spRow := ⟨f10, _, ok_row B g8 sg F10, PySem.W.mg_of X G a10, k10, b10⟩
  have mi : Fn l.prog w K mg base "mirrored" 1 ["spots"] (spMap mirD) := ⟨f4, _, ok_mir B F4, PySem.W.mg_of X G a4, k4, b4⟩
  have tu : Fn l.prog w K mg base "turned_right" 1 ["spots"] (spMap turD) := ⟨f5, _, ok_tr B F5, PySem.W.mg_of X G a5, k5, b5⟩
  have nb : Fn l.prog w K mg base "numbered" 1 ["mirrors", "turns"] spNumb := ⟨f8, _, ok_numb F8, PySem.W.mg_of X G a8, k8, b8⟩
  have td : Fn l.prog w K mg base "turned" 2 ["form", "t"] spTd := ⟨f3, _, ok_td B mi tu F3, PySem.W.mg_of X G a3, k3, b3⟩
  exact ok_law B nx ⟨f14, _, ok_cell B F14, PySem.W.mg_of X G a14, k14, b14⟩ ⟨f15, _, ok_state F15, PySem.W.mg_of X G a15, k15, b15⟩ ⟨f17, _, ok_floor B nx F17, PySem.W.mg_of X G a17, k17, b17⟩ ⟨f13, _, ok_tf B ⟨f12, _, ok_spots B F12, PySem.W.mg_of X G a12, k12, b12⟩ td F13, PySem.W.mg_of X G a13, k13, b13⟩ ⟨f18, _, ok_turn B F18, PySem.W.mg_of X G a18, k18, b18⟩ ⟨f9, _, ok_isf B g8 row F9, PySem.W.mg_of X G a9, k9, b9⟩ ⟨f7, _, ok_undo nb F7, PySem.W.mg_of X G a7, k7, b7⟩ ⟨f6, _, ok_then nb F6, PySem.W.mg_of X G a6, k6, b6⟩ F19
theorem walk {l : PySem.W.OpenLaw} {q : Program} {loose : List Str} {XP : (Str → Option Value) → Heap → Prop} {YP : World → Heap → Prop} {d : DefRec} {K : Params → PySem.W.Frag} (hn : l.most = some 63) (hdf : d.params.defaults = [])
    (hY : ∀ (w : World) (h : Heap), YP w h → (K w.params).In h)
    (F : ∀ (w : World) (mg : Str → Option Value) (fa : Addr) (h : Heap), (K w.params).In h → h.Ns mainGlobals mg → mg d.name = some (.ref fa) →
      ∃ fd : FuncData, (∀ (s : Shared) (u : Value), BindsTo s fd ⟨[u], []⟩ [("_law_script", u)]) ∧ ∀ base : Heap, (K w.params).In base → base.Ns mainGlobals mg → FnOk l.prog w (K w.params) mg base CX0 5 fa fd ["_law_script"] (spLaw (K w.params))) :
    PySem.W.WalkO q loose XP YP l.row.toRowW d [] (fun f vs => PySem.call f vs) :=
  L2.walk_of (n := 63) (k := 5) (x := "_law_script") (CX := fun _ => CX0) (sp := fun w => spLaw (K w.params)) hn (by decide) hdf ⟨rfl, by decide, by decide⟩ hY F (fun _ _ a ns hl _ hS => ⟨a, ns, rfl, hS, hl, fun _ => rfl⟩) fun _ _ _ _ _ z => z
end K08
open PySem PySem.W PyProof.Rows
set_option maxRecDepth 100000 in
set_option maxHeartbeats 0 in
theorem PySem.Challenge.cw_coverpieces_k08_floors_turned_holds : PySem.Challenge.rw_coverpieces_k08_floors_turned.Holds := by
  w_on; o_law; k_head; (case hw => w_witness2)
  k_fill
  refine K08.walk (l := PySem.Challenge.rw_coverpieces_k08_floors_turned) rfl rfl (fun w h Y => PySem.W.kIn_of Y) ?F
  case F =>
    intro w mg fa h KX G hmg
    refine' K08.all_mk KX G hmg ?a1 ?l1 ?c1 ?k1 ?a2 ?l2 ?c2 ?k2 ?a3 ?l3 ?c3 ?k3 ?a4 ?l4 ?c4 ?k4 ?a5 ?l5 ?c5 ?k5 ?a6 ?l6 ?c6 ?k6 ?a7 ?l7 ?c7 ?k7 ?a8 ?l8 ?c8 ?k8 ?a9 ?l9 ?c9 ?k9 ?a10 ?l10 ?c10 ?k10 ?a11 ?l11 ?c11 ?k11 ?a12 ?l12 ?c12 ?k12 ?a13 ?l13 ?c13 ?k13 ?a14 ?l14 ?c14 ?k14 ?a15 ?l15 ?c15 ?k15 ?a16 ?l16 ?c16 ?k16 ?a17 ?l17 ?c17 ?k17 ?a18 ?l18 ?c18 ?k18 ?a19 ?l19 ?c19 ?k19 ?y1 ?y2 ?y3 ?y4 ?z1 ?z2 ?z3 ?z4 ?z5 ?z6 ?z7 ?z8 ?z9 ?z10 ?z11 ?z12
    (case a1 => k_is); (case l1 => k_is); (case c1 => k_is); (case k1 => k_is)
    (case a2 => k_is); (case l2 => k_is); (case c2 => k_is); (case k2 => k_is)
    (case a3 => k_is); (case l3 => k_is); (case c3 => k_is); (case k3 => k_is)
    (case a4 => k_is); (case l4 => k_is); (case c4 => k_is); (case k4 => k_is)
    (case a5 => k_is); (case l5 => k_is); (case c5 => k_is); (case k5 => k_is)
    (case a6 => k_is); (case l6 => k_is); (case c6 => k_is); (case k6 => k_is)
    (case a7 => k_is); (case l7 => k_is); (case c7 => k_is); (case k7 => k_is)
    (case a8 => k_is); (case l8 => k_is); (case c8 => k_is); (case k8 => k_is)
    (case a9 => k_is); (case l9 => k_is); (case c9 => k_is); (case k9 => k_is)
    (case a10 => k_is); (case l10 => k_is); (case c10 => k_is); (case k10 => k_is)
    (case a11 => k_is); (case l11 => k_is); (case c11 => k_is); (case k11 => k_is)
    (case a12 => k_is); (case l12 => k_is); (case c12 => k_is); (case k12 => k_is)
    (case a13 => k_is); (case l13 => k_is); (case c13 => k_is); (case k13 => k_is)
    (case a14 => k_is); (case l14 => k_is); (case c14 => k_is); (case k14 => k_is)
    (case a15 => k_is); (case l15 => k_is); (case c15 => k_is); (case k15 => k_is)
    (case a16 => k_is); (case l16 => k_is); (case c16 => k_is); (case k16 => k_is)
    (case a17 => k_is); (case l17 => k_is); (case c17 => k_is); (case k17 => k_is)
    (case a18 => k_is); (case l18 => k_is); (case c18 => k_is); (case k18 => k_is)
    (case a19 => k_is); (case l19 => k_is); (case c19 => k_is); (case k19 => k_is)
    (case y1 => k_is); (case y2 => k_is); (case y3 => k_is); (case y4 => k_is)
    (case z1 => k_is)
    (case z2 => k_is)
    (case z3 => k_is)
    (case z4 => k_is)
    (case z5 => k_is)
    (case z6 => k_is)
    (case z7 => k_is)
    (case z8 => k_is)
    (case z9 => k_is)
    (case z10 => k_is)
    (case z11 => k_is)
    (case z12 => k_is)
