import PyProof.Rows.All
import Wide.All
import OpenK.AllK
import Wide.FinOn
import Lean
import PyProof.EqAt
import PyProof.EqKinds
import PyProof.TupleCall
import KE.KSortTup
import PyProof.WalkInts
import PyProof.Rows.MinMaxN
import PyProof.CompFree
import PyProof.P3Eq
import PyProof.P3In
import PyProof.NeData
import PyProof.StrWalks
import PyProof.StrBlockH
import PyProof.StrLawsIn
import PyProof.FString5
import PyProof.StrOps2
import PyProof.ListStr
import PyProof.ConsumeWalk
import PyProof.Rows.StrJoin2
import PySem.SetTable
import PySem.SetOps
import PyProof.SetKind
import PyProof.TupleKey
import PyProof.DictKinds
import PyProof.IsRules
import PyProof.Rows.SetFrom
import PyProof.CollectWalk
import PyProof.Seq
import PyProof.SetRoads
import PyProof.Walk
import PyProof.WalkLemmas
import PySem.Challenge.RW_coverpieces_k05_forms_of_modes
set_option Elab.async false
set_option linter.all false
set_option maxRecDepth 100000
/-! THE HAND LAYER, for ints, bools, texts, own classes, LISTS and tuples (index, slices, in, append, pop ..), calls, loops. Paste it whole ahead of your own text; what your proof does not reach may be deleted. -/
namespace L2
open PySem PySem.Spec PyProof.Rows

/-- a key: an int or a str -/
abbrev Key := Sum Int Str
def keyIs : Key → Value → Bool
  | .inl k, v => Value.isInt k v
  | .inr x, v => Value.isStrOf x v
def keyH (w : World) : Key → Int
  | .inl k => hashInt k
  | .inr x => hashStr w x
theorem keyIs_shape : ∀ {k : Key} {v : Value}, keyIs k v = true → (∃ i t, k = Sum.inl i ∧ v = Value.int i t) ∨ (∃ x t, k = Sum.inr x ∧ v = Value.str x t)
  | .inl i, v, h => by
    obtain ⟨t, e⟩ := Value.isInt_shape (k := i) (v := v) h
    exact .inl ⟨i, t, rfl, e⟩
  | .inr x, v, h => by
    obtain ⟨t, e⟩ := Value.isStrOf_shape (x := x) (v := v) h
    exact .inr ⟨x, t, rfl, e⟩
theorem keyIs_int (i : Int) (t : Tok) : keyIs (.inl i) (.int i t) = true := by simp [keyIs, Value.isInt]
theorem keyIs_str (x : Str) (t : Tok) : keyIs (.inr x) (.str x t) = true := by simp [keyIs, Value.isStrOf]
theorem key_ll (a b : Int) : decide ((Sum.inl a : Key) = Sum.inl b) = (a == b) := by
  by_cases e : a = b
  · subst e; simp
  · have h : ¬ (Sum.inl a : Key) = Sum.inl b := fun q => e (Sum.inl.inj q)
    rw [decide_eq_false h]
    exact (beq_eq_false_iff_ne.mpr e).symm
theorem key_rr (a b : Str) : decide ((Sum.inr a : Key) = Sum.inr b) = decide (a = b) := by
  by_cases e : a = b
  · subst e; simp
  · have h : ¬ (Sum.inr a : Key) = Sum.inr b := fun q => e (Sum.inr.inj q)
    rw [decide_eq_false h, decide_eq_false e]
theorem key_lr (a : Int) (b : Str) : decide ((Sum.inl a : Key) = Sum.inr b) = false := decide_eq_false (fun q => nomatch q)
theorem key_rl (a : Str) (b : Int) : decide ((Sum.inr a : Key) = Sum.inl b) = false := decide_eq_false (fun q => nomatch q)

def mixKind (prog : Program) (w : World) : PySem.KeyKind prog w Key where
  is := keyIs
  hash := keyH w
  inj := fun v a b ha hb => by
    rcases keyIs_shape ha with ⟨i, t, rfl, rfl⟩ | ⟨x, t, rfl, rfl⟩
    · rcases keyIs_shape hb with ⟨j, u, rfl, e⟩ | ⟨y, u, rfl, e⟩
      · injection e with e1 _; rw [e1]
      · exact nomatch e
    · rcases keyIs_shape hb with ⟨j, u, rfl, e⟩ | ⟨y, u, rfl, e⟩
      · exact nomatch e
      · injection e with e1 _; rw [e1]
  byValue := fun k v h => by
    rcases keyIs_shape h with ⟨i, t, rfl, rfl⟩ | ⟨x, t, rfl, rfl⟩ <;> rfl
  pyHash := fun hv h => by
    rcases keyIs_shape hv with ⟨i, t, rfl, rfl⟩ | ⟨x, t, rfl, rfl⟩
    · exact wpAny_pyHash_int h
    · exact wpAny_pyHash_str h
  eqBool := fun hu hv h => by
    rcases keyIs_shape hu with ⟨i, t, rfl, rfl⟩ | ⟨x, t, rfl, rfl⟩
    · rcases keyIs_shape hv with ⟨j, u, rfl, rfl⟩ | ⟨y, u, rfl, rfl⟩
      · rw [key_ll] at h; exact wpAny_eqBool_int h
      · rw [key_lr] at h; exact SeqAt.EqAt.int_str i t y u _ _ _ _ h
    · rcases keyIs_shape hv with ⟨j, u, rfl, rfl⟩ | ⟨y, u, rfl, rfl⟩
      · rw [key_rl] at h; exact SeqAt.EqAt.str_int x t j u _ _ _ _ h
      · rw [key_rr] at h; exact wpAny_eqBool_str h
  «strs» := fun k x t v h => by
    rcases keyIs_shape h with ⟨i, u, rfl, e⟩ | ⟨y, u, rfl, e⟩
    · exact nomatch e
    · injection e with e1 _
      subst e1
      cases v <;> rfl

theorem mixKind_is (prog : Program) (w : World) (k : Key) (v : Value) : (mixKind prog w).is k v = keyIs k v := rfl
theorem mixKind_int (prog : Program) (w : World) (i : Int) (t : Tok) : (mixKind prog w).is (.inl i) (.int i t) = true := keyIs_int i t
theorem mixKind_str (prog : Program) (w : World) (x : Str) (t : Tok) : (mixKind prog w).is (.inr x) (.str x t) = true := keyIs_str x t
end L2

namespace L2
open PySem PySem.Spec PyProof.Rows

/-- a value, without the heap -/
inductive V where
  | non | bl (b : Bool) | int (i : Int) | str (x : Str) | byt (b : Array UInt8) | flt (b : UInt64) | ref (a : Addr) | ty (n : String)
  deriving DecidableEq

def RelV : V → Value → Prop
  | .non, u => u = Value.none
  | .bl b, u => u = Value.bool b
  | .int i, u => ∃ t, u = Value.int i t
  | .str x, u => ∃ t, u = Value.str x t
  | .byt b, u => ∃ t, u = Value.bytes b t
  | .flt b, u => ∃ t, u = Value.float b t
  | .ref a, u => u = Value.ref a
  | .ty n, u => u = Value.type n

abbrev Vals : List V → List Value → Prop := Paired RelV
theorem Vals.length {xs : List V} {us : List Value} (r : Vals xs us) : xs.length = us.length := Paired.length r
theorem Vals.get : ∀ {xs : List V} {us : List Value} {i : Nat} {x : V}, Vals xs us → xs[i]? = some x → ∃ u, us[i]? = some u ∧ RelV x u
  | _, _, _, _, .nil, e => by simp at e
  | _, _, 0, _, .cons r _, e => by simp at e; subst e; exact ⟨_, rfl, r⟩
  | _, _, i + 1, x, .cons _ t, e => by
    obtain ⟨u, h1, h2⟩ := Vals.get (i := i) (x := x) t (by simpa using e)
    exact ⟨u, by simpa using h1, h2⟩
theorem Vals.set {x : V} {u : Value} (r : RelV x u) : ∀ {xs : List V} {us : List Value} (i : Nat), Vals xs us → Vals (xs.set i x) (us.set i u)
  | _, _, _, .nil => .nil
  | _, _, 0, .cons _ t => .cons r t
  | _, _, i + 1, .cons q t => .cons q (Vals.set r i t)
theorem Vals.append : ∀ {xs ys : List V} {us ws : List Value}, Vals xs us → Vals ys ws → Vals (xs ++ ys) (us ++ ws)
  | _, _, _, _, .nil, s => s
  | _, _, _, _, .cons r t, s => .cons r (Vals.append t s)
theorem Vals.take : ∀ {xs : List V} {us : List Value} (n : Nat), Vals xs us → Vals (xs.take n) (us.take n)
  | _, _, 0, _ => .nil
  | _, _, _ + 1, .nil => .nil
  | _, _, n + 1, .cons r t => .cons r (Vals.take n t)
theorem Vals.drop : ∀ {xs : List V} {us : List Value} (n : Nat), Vals xs us → Vals (xs.drop n) (us.drop n)
  | _, _, 0, r => r
  | _, _, _ + 1, .nil => .nil
  | _, _, n + 1, .cons _ t => Vals.drop n t
theorem Vals.none_of : ∀ {xs : List V} {us : List Value} {i : Nat}, Vals xs us → xs[i]? = none → us[i]? = none := fun {xs us i} r e => by
  have h1 := r.length
  have h2 : xs.length ≤ i := List.getElem?_eq_none_iff.mp e
  exact List.getElem?_eq_none_iff.mpr (by omega)

def RelO : Option V → Option Value → Prop
  | some v, some u => RelV v u
  | none, none => True
  | _, _ => False
def KV {κ : Type} : List (κ × V) → List (κ × Value) → Prop := Paired fun (p : κ × V) (q : κ × Value) => p.1 = q.1 ∧ RelV p.2 q.2

/-- a key of a dict (00_mix): an int or a text -/
def kV : Key → V
  | .inl i => .int i
  | .inr x => .str x

/-- what stands at a tracked address -/
inductive HO where
  /-- a list -/
  | lst (xs : List V)
  /-- a tuple (never changes) -/
  | tup (xs : List V)
  /-- a dict whose keys are ints and texts; one whose keys are tuples of ints and texts (the empty one is both) -/
  | dK (kvs : List (Key × V)) | dT (kvs : List (List Key × V))
  /-- a set of ints: its members, its size -/
  | set (S : Int → Bool) (n : Nat)
  /-- an instance of the class at C, its dict at dx, its attributes -/
  | ins (C dx : Addr) (fs : List (Str × V))
  /-- the dict of the instance at x -/
  | own (x : Addr)
  /-- the dict of an exception -/
  | xd (fs : List (Str × V))
  /-- a bound method, f of x -/
  | met (f x : Addr)
  /-- a range object lo, lo + 1, .. below hi -/
  | rng (lo hi : Int)
  /-- a thing that is known to the object (the script; a dict while a loop walks it): read, never written while it is so -/
  | frz (o : Obj) (u : HO)
  /-- a code object's table -/
  | tbl (ps : Array Value)
  /-- any other thing, by what is true of its one object (a def of one's own: SetO a S n := HO.ext fun h => ..) -/
  | ext (φ : Heap → Prop)

abbrev Hp := Addr → Option HO
def upd (H : Hp) (a : Addr) (o : HO) : Hp := fun b => if b = a then some o else H b
theorem upd_same {H : Hp} {a : Addr} {o : HO} : upd H a o a = some o := by unfold upd; rw [if_pos rfl]
theorem upd_ne {H : Hp} {a b : Addr} {o : HO} (h : b ≠ a) : upd H a o b = H b := by unfold upd; rw [if_neg h]
theorem upd_upd {H : Hp} {a : Addr} {o u : HO} : upd (upd H a o) a u = upd H a u := by
  funext b; unfold upd; split <;> rfl
/-- two objects of different content stand apart -/
theorem ne_of {H : Hp} {a b : Addr} {o u : HO} (h : H a = some o) (h' : H b = some u) (d : o ≠ u) : a ≠ b := by
  intro e; subst e; rw [h] at h'; exact d (Option.some.inj h')
theorem ne_of_none {H : Hp} {a b : Addr} {o : HO} (h : H a = some o) (h' : H b = none) : a ≠ b := by
  intro e; subst e; rw [h] at h'; cases h'

section
variable (P : Program) (w : World)
def ObjOk (H : Hp) (h : Heap) (a : Addr) : HO → Prop
  | .lst xs => xs.length ≤ sizeLine ∧ ∃ (its : List Value) (n : Nat), Vals xs its ∧ h.get? a = some { cls := .type "list", data := .seq its.toArray n }
  | .tup xs => xs.length ≤ sizeLine ∧ ∃ its : List Value, Vals xs its ∧ IsTup h a its.toArray
  | .dK kvs => kvs.length ≤ sizeLine ∧ (a == sysModules) = false ∧ ∃ vs, KV kvs vs ∧ h.DictOf (mixKind P w) a vs
  | .dT kvs => kvs.length ≤ sizeLine ∧ (a == sysModules) = false ∧ ∃ xs : List (List Key × Addr × Value),
      Paired (fun (p : List Key × V) (q : List Key × Addr × Value) => p.1 = q.1 ∧ H q.2.1 = some (.tup (p.1.map kV)) ∧ RelV p.2 q.2.2) kvs xs ∧
      ∃ o es ep, h.get? a = some o ∧ o.ExactDict ∧ o.data = .dict es ep ∧ es.toList = xs.map (entryOfKey (tupleKind (mixKind P w))) ∧ (xs.map (·.1)).Nodup
  | .set S n => h.SetOf (intKind P w) a S n
  | .ins C dx fs => H dx = some (.own a) ∧ fs.length ≤ 1000 ∧ dx ≠ a ∧ h.get? a = some (PySem.W.instObj C dx) ∧
      ∃ mA, h.Ns1 dx mA ∧ (∀ f, RelO (fs.lookup f) (mA f)) ∧ PySem.Within mA (fs.map (·.1))
  | .own _ => ∃ o, h.get? a = some o
  | .xd fs => ∃ mA, h.Ns1 a mA ∧ ∀ f, RelO (fs.lookup f) (mA f)
  | .rng lo hi => ∃ t u v, h.get? a = some { cls := .type "range", data := .fields #[.int lo t, .int hi u, .int 1 v] }
  | .frz o u => h.get? a = some o ∧ ObjOk H h a u
  | .tbl ps => h.get? a = some { cls := .none, data := .fields ps }
  | .met f x => h.get? a = some (PySem.W.methodObj (.ref f) (.ref x))
  | .ext φ => φ h ∧ (∃ o, h.get? a = some o) ∧ ∀ h1 h2 : Heap, φ h1 → (∀ o, h1.get? a = some o → h2.get? a = some o) → φ h2
/-- the abstract heap is held -/
def HOk (H : Hp) (h : Heap) : Prop := ∀ a o, H a = some o → ObjOk P w H h a o
end

section
variable {P : Program} {w : World} {H H' : Hp} {h h' : Heap} {a : Addr} {o : HO}
theorem ObjOk.lt (x : ObjOk P w H h a o) : a < h.objs.size := by
  cases o with
  | lst xs => obtain ⟨_, _, _, _, e⟩ := x; exact Heap.lt_size e
  | tup xs => obtain ⟨_, _, _, p⟩ := x; exact p.lt
  | dK kvs => obtain ⟨_, _, _, _, o, _, _, e, _⟩ := x; exact Heap.lt_size e
  | dT kvs => obtain ⟨_, _, _, _, o, _, _, e, _⟩ := x; exact Heap.lt_size e
  | set S n => obtain ⟨o, _, _, _, e, _⟩ := x; exact Heap.lt_size e
  | ins C dx fs => obtain ⟨_, _, _, e, _⟩ := x; exact Heap.lt_size e
  | own y => obtain ⟨_, e⟩ := x; exact Heap.lt_size e
  | xd fs => obtain ⟨_, ⟨_, _, _, e, _⟩, _⟩ := x; exact Heap.lt_size e
  | rng lo hi => obtain ⟨_, _, _, e⟩ := x; exact Heap.lt_size e
  | frz ob u => obtain ⟨e, _⟩ := x; exact Heap.lt_size e
  | tbl ps => exact Heap.lt_size (show h.get? a = some _ from x)
  | met f y => exact Heap.lt_size (show h.get? a = some _ from x)
  | ext φ => obtain ⟨_, ⟨_, e⟩, _⟩ := x; exact Heap.lt_size e
theorem Paired.mapP {α β : Type} {F G : α → β → Prop} : ∀ {l₁ : List α} {l₂ : List β}, Paired F l₁ l₂ → (∀ a b, F a b → G a b) → Paired G l₁ l₂
  | _, _, .nil, _ => .nil
  | _, _, .cons r t, f => .cons (f _ _ r) (Paired.mapP t f)
theorem Paired.imp' {α β : Type} {F G : α → β → Prop} (f : ∀ a b, F a b → G a b) {l₁ : List α} {l₂ : List β} (r : Paired F l₁ l₂) : Paired G l₁ l₂ := Paired.mapP r f
/-- what an object's description leans on: its own object, its own dict, the tuples -/
theorem ObjOk.stay (x : ObjOk P w H h a o) (k : ∀ b u, (b = a ∨ H b = some (.own a)) → h.get? b = some u → h'.get? b = some u)
    (ho : ∀ b, H b = some (.own a) → H' b = some (.own a)) (ht : ∀ b xs, H b = some (.tup xs) → H' b = some (.tup xs)) : ObjOk P w H' h' a o := by
  induction o with
  | lst xs => obtain ⟨z, its, n, r, e⟩ := x; exact ⟨z, its, n, r, k _ _ (.inl rfl) e⟩
  | tup xs => obtain ⟨z, its, r, ob, e, c⟩ := x; exact ⟨z, its, r, ob, k _ _ (.inl rfl) e, c⟩
  | dK kvs => obtain ⟨z, y, vs, r, ob, es, ep, e, c⟩ := x; exact ⟨z, y, vs, r, ob, es, ep, k _ _ (.inl rfl) e, c⟩
  | dT kvs =>
    obtain ⟨z, y, xs, r, ob, es, ep, e, c⟩ := x
    exact ⟨z, y, xs, Paired.mapP r fun p q z => ⟨z.1, ht _ _ z.2.1, z.2.2⟩, ob, es, ep, k _ _ (.inl rfl) e, c⟩
  | set S n => obtain ⟨ob, es, ep, t, e, c⟩ := x; exact ⟨ob, es, ep, t, k _ _ (.inl rfl) e, c⟩
  | ins C dx fs =>
    obtain ⟨d, z, ne, e, mA, ⟨od, es, ep, e2, c⟩, r⟩ := x
    exact ⟨ho _ d, z, ne, k _ _ (.inl rfl) e, mA, ⟨od, es, ep, k _ _ (.inr d) e2, c⟩, r⟩
  | own y => obtain ⟨ob, e⟩ := x; exact ⟨ob, k _ _ (.inl rfl) e⟩
  | xd fs => obtain ⟨mA, ⟨od, es, ep, e, c⟩, r⟩ := x; exact ⟨mA, ⟨od, es, ep, k _ _ (.inl rfl) e, c⟩, r⟩
  | rng lo hi => obtain ⟨t, u, v, e⟩ := x; exact ⟨t, u, v, k _ _ (.inl rfl) e⟩
  | frz ob u ih => obtain ⟨e, q⟩ := x; exact ⟨k _ _ (.inl rfl) e, ih q⟩
  | tbl ps =>
    have e : h.get? a = some { cls := .none, data := .fields ps } := x
    show h'.get? a = some { cls := .none, data := .fields ps }
    exact k a _ (.inl rfl) e
  | met f y =>
    have e : h.get? a = some (PySem.W.methodObj (.ref f) (.ref y)) := x
    show h'.get? a = some (PySem.W.methodObj (.ref f) (.ref y))
    exact k a _ (.inl rfl) e
  | ext φ => obtain ⟨p, ⟨o, e⟩, st⟩ := x; exact ⟨st _ _ p fun o q => k _ _ (.inl rfl) q, ⟨o, k _ _ (.inl rfl) e⟩, st⟩
theorem HOk.lt (x : HOk P w H h) (e : H a = some o) : a < h.objs.size := (x a o e).lt
theorem HOk.fresh (x : HOk P w H h) (e : h.objs.size ≤ a) : H a = none := by
  cases q : H a with
  | none => rfl
  | some u => exact absurd (Nat.lt_of_lt_of_le (x.lt q) e) (Nat.lt_irrefl _)
/-- every object of the heap is kept -/
theorem HOk.kept (x : HOk P w H h) (k : ∀ b u, h.get? b = some u → h'.get? b = some u) : HOk P w H h' := fun a o e =>
  (x a o e).stay (fun b u _ q => k b u q) (fun _ q => q) fun _ _ q => q
/-- a new object is laid and tracked -/
theorem HOk.laid (x : HOk P w H h) (k : ∀ b u, h.get? b = some u → h'.get? b = some u) (hp : h.objs.size ≤ a) (new : ObjOk P w (upd H a o) h' a o) : HOk P w (upd H a o) h' := fun b u e => by
  have hn := x.fresh hp
  by_cases hb : b = a
  · subst hb; rw [upd_same] at e; cases e; exact new
  · rw [upd_ne hb] at e
    exact (x b u e).stay (fun c v _ q => k c v q) (fun c q => by rw [upd_ne (ne_of_none q hn)]; exact q) fun c xs q => by rw [upd_ne (ne_of_none q hn)]; exact q
end

/-- what may be read as u: it is u, or a known u -/
def Rd (H : Hp) (a : Addr) (u : HO) : Prop := H a = some u ∨ ∃ o, H a = some (.frz o u)
theorem Rd.of {H : Hp} {a : Addr} {u : HO} (h : H a = some u) : Rd H a u := .inl h
theorem Rd.ok {P : Program} {w : World} {H : Hp} {h : Heap} {a : Addr} {u : HO} (r : Rd H a u) (x : HOk P w H h) : ObjOk P w H h a u := by
  rcases r with r | ⟨o, r⟩
  · exact x a u r
  · obtain ⟨_, q⟩ := x a _ r
    exact q
/-- what may be written -/
def Mut : Option HO → Prop
  | some (.lst _) => True
  | some (.dK _) => True
  | some (.dT _) => True
  | some (.set _ _) => True
  | some (.ins _ _ _) => True
  | some (.ext _) => True
  | _ => False
section
variable {P : Program} {w : World} {H : Hp} {h h' : Heap} {x e : Addr} {o' : HO}
/-- the object at e is changed: x itself, or the dict of the instance x -/
theorem HOk.write (ok : HOk P w H h) (mu : Mut (H x)) (he : e = x ∨ H e = some (.own x)) (k : ∀ b u, b ≠ e → h.get? b = some u → h'.get? b = some u) (heo : ∃ u, h'.get? e = some u)
    (new : ObjOk P w (upd H x o') h' x o') : HOk P w (upd H x o') h' := fun b u q => by
  have nown : ∀ c y, H c = some (.own y) → c ≠ x := fun c y r z => by subst z; rw [r] at mu; exact mu
  have ntup : ∀ c xs, H c = some (.tup xs) → c ≠ x := fun c xs r z => by subst z; rw [r] at mu; exact mu
  by_cases hb : b = x
  · subst hb; rw [upd_same] at q; cases q; exact new
  · rw [upd_ne hb] at q
    by_cases hbe : b = e
    · have q' : H b = some (.own x) := by
        rcases he with z | z
        · exact absurd (hbe.trans z) hb
        · rw [hbe]; exact z
      rw [q] at q'; cases q'
      obtain ⟨v, hv⟩ := heo
      exact ⟨v, by rw [hbe]; exact hv⟩
    · refine (ok b u q).stay (fun c v hc r => k c v ?_ r) (fun c r => by rw [upd_ne (nown c b r)]; exact r) fun c xs r => by rw [upd_ne (ntup c xs r)]; exact r
      rcases hc with rfl | hc
      · exact hbe
      · rintro rfl
        rcases he with z | z
        · exact nown c b hc z
        · rw [hc] at z; cases z; exact hb rfl
end

/-! ### kept unless tracked; of the frames at fs (the callers') the slots may change (an exception that passes writes there); of the records at ex (iterators) nothing is said -/
structure Un (fs ex : List Addr) (H H' : Hp) (h h' : Heap) : Prop where
  keep : ∀ b o, h.get? b = some o → H b = none → b ∉ fs → b ∉ ex → h'.get? b = some o
  slot : ∀ b o, h.get? b = some o → H b = none → b ∈ fs → b ∉ ex → ∃ sl, h'.get? b = some { o with slots := sl }
  free : ∀ b o, h.get? b = some o → H b = none → b ∉ ex → H' b = none
  there : ∀ b o, h.get? b = some o → b ∉ ex → ∃ o', h'.get? b = some o'
  tups : ∀ b xs, H b = some (.tup xs) → H' b = some (.tup xs)
  frzs : ∀ b o u, H b = some (.frz o u) → H' b = some (.frz o u)
  tbls : ∀ b ps, H b = some (.tbl ps) → ∃ more, H' b = some (.tbl (ps ++ more))
section
variable {fs fs' ex ex' : List Addr} {H H1 H2 : Hp} {h h1 h2 h' : Heap} {a x e : Addr} {o : HO}
theorem Un.any (u : Un fs ex H H1 h h1) {b : Addr} {ob : Obj} (q : h.get? b = some ob) (n : H b = none) (hx : b ∉ ex) : ∃ sl, h1.get? b = some { ob with slots := sl } := by
  by_cases hb : b ∈ fs
  · exact u.slot b ob q n hb hx
  · exact ⟨ob.slots, u.keep b ob q n hb hx⟩
theorem Un.trans (a : Un fs ex H H1 h h1) (b : Un fs ex H1 H2 h1 h2) : Un fs ex H H2 h h2 where
  keep := fun c ob q n hc hx => b.keep c ob (a.keep c ob q n hc hx) (a.free c ob q n hx) hc hx
  slot := fun c ob q n hc hx => by
    obtain ⟨sl, e1⟩ := a.slot c ob q n hc hx
    obtain ⟨sl', e2⟩ := b.slot c _ e1 (a.free c ob q n hx) hc hx
    exact ⟨sl', e2⟩
  free := fun c ob q n hx => by
    obtain ⟨o', e1⟩ := a.there c ob q hx
    exact b.free c o' e1 (a.free c ob q n hx) hx
  there := fun c ob q hx => by
    obtain ⟨o', e1⟩ := a.there c ob q hx
    exact b.there c o' e1 hx
  tups := fun c xs q => b.tups c xs (a.tups c xs q)
  frzs := fun c ob xs q => b.frzs c ob xs (a.frzs c ob xs q)
  tbls := fun c ps q => by
    obtain ⟨m1, e1⟩ := a.tbls c ps q
    obtain ⟨m2, e2⟩ := b.tbls c _ e1
    exact ⟨m1 ++ m2, by rw [e2, Array.append_assoc]⟩
theorem Un.kept (k : ∀ b u, h.get? b = some u → h'.get? b = some u) : Un fs ex H H h h' :=
  ⟨fun b ob q _ _ _ => k b ob q, fun b ob q _ _ _ => ⟨ob.slots, k b ob q⟩, fun _ _ _ n _ => n, fun b ob q _ => ⟨ob, k b ob q⟩, fun _ _ q => q, fun _ _ _ q => q, fun _ ps q => ⟨#[], by rw [q]; simp⟩⟩
theorem Un.refl : Un fs ex H H h h := Un.kept fun _ _ q => q
theorem Un.laid (k : ∀ b u, h.get? b = some u → h'.get? b = some u) (hp : h.objs.size ≤ a) (hn : H a = none) : Un fs ex H (upd H a o) h h' where
  keep := fun b u q _ _ _ => k b u q
  slot := fun b u q _ _ _ => ⟨u.slots, k b u q⟩
  free := fun b u q n _ => by rw [upd_ne (Nat.ne_of_lt (Nat.lt_of_lt_of_le (Heap.lt_size q) hp))]; exact n
  there := fun b u q _ => ⟨u, k b u q⟩
  tups := fun b xs q => by rw [upd_ne (ne_of_none q hn)]; exact q
  frzs := fun b u xs q => by rw [upd_ne (ne_of_none q hn)]; exact q
  tbls := fun b ps q => ⟨#[], by rw [upd_ne (ne_of_none q hn), q]; simp⟩
theorem Un.write (mu : Mut (H x)) (he : e = x ∨ H e = some (.own x)) (k : ∀ b u, b ≠ e → h.get? b = some u → h'.get? b = some u) (heo : ∃ u, h'.get? e = some u) : Un fs ex H (upd H x o) h h' := by
  have hx : ∀ b, H b = none → b ≠ x := fun b n z => by subst z; rw [n] at mu; exact mu
  have hb : ∀ b, H b = none → b ≠ e := fun b n z => by
    subst z
    rcases he with r | r
    · exact hx b n r
    · rw [n] at r; cases r
  have hm : ∀ b u, H b = some u → ¬ Mut (some u) → b ≠ x := fun b u q nm z => by subst z; rw [q] at mu; exact nm mu
  refine ⟨fun b u q n _ _ => k b u (hb b n) q, fun b u q n _ _ => ⟨u.slots, k b u (hb b n) q⟩, fun b u q n _ => by rw [upd_ne (hx b n)]; exact n, fun b u q _ => ?_,
    fun b xs q => by rw [upd_ne (hm b _ q fun z => z)]; exact q, fun b u xs q => by rw [upd_ne (hm b _ q fun z => z)]; exact q, fun b ps q => ⟨#[], by rw [upd_ne (hm b _ q fun z => z), q]; simp⟩⟩
  by_cases hbe : b = e
  · subst hbe; exact heo
  · exact ⟨u, k b u hbe q⟩
theorem Un.mono (u : Un fs ex H H1 h h1) (hs : ∀ b ∈ fs, b ∈ fs') (hx : ∀ b ∈ ex, b ∈ ex') : Un fs' ex' H H1 h h1 :=
  ⟨fun b ob q n hb he => u.keep b ob q n (fun z => hb (hs b z)) fun z => he (hx b z), fun _ _ q n _ he => u.any q n fun z => he (hx _ z), fun b ob q n he => u.free b ob q n fun z => he (hx b z), fun b ob q he => u.there b ob q fun z => he (hx b z), u.tups, u.frzs, u.tbls⟩
end

/-! ### the heap without what is tracked -/
def trk (h : Heap) (H : Hp) : List Addr := (List.range h.objs.size).filter fun a => (H a).isSome
def hidT (h : Heap) (H : Hp) : Heap := PySem.W.hideAll h (trk h H)
theorem hidT_size (h : Heap) (H : Hp) : (hidT h H).objs.size = h.objs.size := PySem.W.hideAll_size _ _
theorem hidT_get {h : Heap} {H : Hp} {b : Addr} {o : Obj} (e : h.get? b = some o) (n : H b = none) : (hidT h H).get? b = some o :=
  PySem.W.hideAll_get _ e fun hm => by
    have q : (H b).isSome = true := (List.mem_filter.mp hm).2
    rw [n] at q; simp at q
theorem of_hidT {h : Heap} {H : Hp} {b : Addr} {o : Obj} (e : (hidT h H).get? b = some o) : h.get? b = some o ∧ H b = none := by
  have e' : h.get? b = some o := PySem.W.of_hideAll (trk h H) e
  refine ⟨e', ?_⟩
  cases q : H b with
  | none => rfl
  | some x =>
    have hm : b ∈ trk h H := List.mem_filter.mpr ⟨List.mem_range.mpr (Heap.lt_size e'), by simp [q]⟩
    have z : (hidT h H).get? b = none := PySem.W.hideAll_none (trk h H) hm
    rw [z] at e; cases e

/-! ### OpenK's ledger, filled with every new object but one -/
def allNews (g h : Heap) (L : Addr) : List (Addr × Obj) := (List.range h.objs.size).filterMap fun a => if a = L ∨ (g.get? a).isSome = true then none else (h.get? a).map fun o => (a, o)
theorem mem_allNews {g h : Heap} {L a : Addr} {o : Obj} (h1 : a ≠ L) (h2 : g.get? a = none) (h3 : h.get? a = some o) : (a, o) ∈ allNews g h L :=
  List.mem_filterMap.mpr ⟨a, List.mem_range.mpr (Heap.lt_size h3), by simp [h1, h2, h3]⟩
theorem of_mem_allNews {g h : Heap} {L : Addr} {p : Addr × Obj} (hp : p ∈ allNews g h L) : p.1 ≠ L ∧ g.get? p.1 = none ∧ h.get? p.1 = some p.2 := by
  obtain ⟨b, _, e⟩ := List.mem_filterMap.mp hp
  split at e
  · cases e
  · rename_i hn
    cases q : h.get? b with
    | none => rw [q] at e; simp at e
    | some u =>
      rw [q] at e
      simp only [Option.map_some, Option.some.injEq] at e
      subst e
      refine ⟨fun z => hn (.inl z), ?_, q⟩
      show g.get? b = none
      cases r : g.get? b with
      | none => rfl
      | some v => exact (hn (.inr (by simp [r]))).elim
def rest (g h : Heap) (L d : Addr) : List (Addr × Obj) := (allNews g h L).filter fun p => decide (p.1 ≠ d)
theorem rest_ne {g h : Heap} {L d : Addr} : ∀ p ∈ rest g h L d, p.1 ≠ d := fun p hp => of_decide_eq_true (List.mem_filter.mp hp).2
theorem mem_rest {g h : Heap} {L d a : Addr} {o : Obj} (h1 : a ≠ L) (h2 : g.get? a = none) (h3 : h.get? a = some o) (h4 : a ≠ d) : (a, o) ∈ rest g h L d :=
  List.mem_filter.mpr ⟨mem_allNews h1 h2 h3, decide_eq_true h4⟩
theorem news_all {g h : Heap} {L : Addr} : News g L h (allNews g h L) := fun p hp => let ⟨a, b, c⟩ := of_mem_allNews hp; ⟨c, a, b⟩
theorem news_at {g h : Heap} {L d : Addr} {o : Obj} (h1 : d ≠ L) (h2 : g.get? d = none) (h3 : h.get? d = some o) : News g L h ((d, o) :: rest g h L d) := fun p hp => by
  rcases List.mem_cons.mp hp with rfl | hp
  · exact ⟨h3, h1, h2⟩
  · exact news_all p (List.mem_filter.mp hp).1
/-- behind a rule that changed d alone: all else but the frame is kept -/
theorem kept_of_news {g h h' : Heap} {L d : Addr} {m : Str → Option Value} (k : ∀ b o, g.get? b = some o → h.get? b = some o) (F : Fr g L h' m) (N : News g L h' (rest g h L d)) :
    ∀ b o, b ≠ L → b ≠ d → h.get? b = some o → h'.get? b = some o := fun b o h1 h2 e => by
  cases q : g.get? b with
  | some u =>
    have := k b u q
    rw [e] at this; cases this
    exact F.keep b _ q
  | none => exact (N (b, o) (mem_rest h1 q e h2)).1
end L2

namespace L2
open PySem PySem.Spec PyProof.Rows

/-- the module's facts, over the base: the heap at the law's entry without what is tracked there -/
structure Mod (K : PySem.W.Frag) (mg : Str → Option Value) (base : Heap) : Prop where
  kin : K.In base
  glob : base.Ns mainGlobals mg
  blt : ∃ mb, base.Ns builtinsNs mb ∧ ∀ x : Str, x ≠ "__name__" → mb x = bootBuiltins x
  nolimit : base.NoLimit

/-- the context: a def's body (or a comprehension's block) running. base: fixed through the whole law; s₀, H₀: the entry; outer: the frames whose slots others may change (a def's callers); stack: all frames that run;
   ex: iterators that were made ahead of the entry and are walked here (a comprehension's); fn: the names whose cells were made at the entry (a def: all; a comprehension's block: its own); calm: not within an except suite; pn: pins that every state bears; xe: what is wanted of an exception that leaves the code -/
structure Cx where
  prog : Program
  w : World
  K : PySem.W.Frag
  mg : Str → Option Value
  base : Heap
  A : Around
  N : List Str
  s₀ : Shared
  H₀ : Hp
  env : Env
  outer : List Env
  stack : List Env
  ex : List Addr
  fn : Str → Bool
  calm : Bool
  pn : List (Addr × Obj)
  xe : Value → Shared → Prop
/-- the callers' frames -/
def frs (l : List Env) : List Addr := l.filterMap (·.frame)
abbrev Cx.fs (X : Cx) : List Addr := frs X.outer

def Vis (sc : Scope) (x : Str) : Prop := sc.names.lookup x = some .local ∨ sc.names.lookup x = some .cell ∨ sc.names.lookup x = some .free
def Loc (sc : Scope) (x : Str) : Prop := sc.names.lookup x = some .local ∨ sc.names.lookup x = some .cell
def Look (env : Env) (h : Heap) (m : Str → Option Value) (x : Str) (u : Value) : Prop :=
  (env.kindOf x = some .local ∧ m x = some u) ∨ ((env.kindOf x = some .cell ∨ env.kindOf x = some .free) ∧ ∃ c, env.cells.lookup x = some c ∧ h.IsCell c (some u))

structure Cx.Ok (X : Cx) : Prop where
  mod : Mod X.K X.mg X.base
  kind : X.env.scope.kind = .function
  glob : X.env.globals = mainGlobals
  blt : X.env.builtins = builtinsNs
  above : X.s₀.heap.objs.size ≤ X.env.locals
  inj : ∀ x y c, X.env.cells.lookup x = some c → X.env.cells.lookup y = some c → x = y
  has : ∀ x, (X.env.kindOf x = some .cell ∨ X.env.kindOf x = some .free) → ∃ c, X.env.cells.lookup x = some c
  cab : ∀ x c, X.fn x = true → X.env.cells.lookup x = some c → X.s₀.heap.objs.size ≤ c
  hd : X.calm = true → X.A.handled = none
  frames : X.A.frames = some X.stack
  stk : X.stack = X.outer ∨ (X.stack = X.env :: X.outer ∧ X.env.frame = some X.env.locals)
  exf : ∀ b ∈ X.ex, b ≠ X.env.locals ∧ ∀ x c, X.env.cells.lookup x = some c → c ≠ b
  bs : ∀ b o, X.base.get? b = some o → X.s₀.heap.get? b = some o ∧ X.H₀ b = none
  bsz : X.base.objs.size ≤ X.s₀.heap.objs.size
  noex : ∀ b o, X.base.get? b = some o → b ∉ X.ex
  exfs : ∀ b ∈ X.ex, b ∉ X.fs
  funs : X.s₀.heap.FunFrames X.base X.outer
  frf : ∀ b ∈ X.fs, X.H₀ b = none

structure Inv (X : Cx) (pins : List (Addr × Obj)) (σ : List (Option V)) (H : Hp) (s : Shared) : Prop where
  ok : X.Ok
  os : s.os = X.s₀.os
  bare : AllBare s.gens
  base : Un X.fs X.ex X.H₀ H X.s₀.heap s.heap
  loc : ∃ m, s.heap.Ns X.env.locals m ∧ ∀ (i : Nat) (x : Str) (v : V), X.N[i]? = some x → σ[i]? = some (some v) → Vis X.env.scope x → ∃ u, RelV v u ∧ Look X.env s.heap m x u
  cell : ∀ x c, X.env.cells.lookup x = some c → ∃ v, s.heap.IsCell c v
  free : H X.env.locals = none
  freeC : ∀ x c, X.env.cells.lookup x = some c → H c = none
  pin : ∀ p ∈ X.pn ++ pins, s.heap.get? p.1 = some p.2 ∧ H p.1 = none ∧ p.1 ≠ X.env.locals ∧ p.1 ∉ X.fs ∧ ∀ v, p.2.data ≠ .cell v
  hok : HOk X.prog X.w H s.heap
  len : σ.length = X.N.length

section
variable {X : Cx} {pins : List (Addr × Obj)} {σ : List (Option V)} {H H' : Hp} {s : Shared} {h' : Heap}

theorem Cx.Ok.nofr (ok : X.Ok) {b : Addr} {o : Obj} (e : X.base.get? b = some o) : b ∉ X.fs := fun hb => by
  have := (ok.funs.mem hb).1
  rw [e] at this; cases this
theorem Inv.bs (I : Inv X pins σ H s) : ∀ b o, X.base.get? b = some o → s.heap.get? b = some o ∧ H b = none := fun b o e =>
  ⟨I.base.keep b o (I.ok.bs b o e).1 (I.ok.bs b o e).2 (I.ok.nofr e) (I.ok.noex b o e), I.base.free b o (I.ok.bs b o e).1 (I.ok.bs b o e).2 (I.ok.noex b o e)⟩
theorem Inv.bk (I : Inv X pins σ H s) : ∀ b o, X.base.get? b = some o → s.heap.get? b = some o := fun b o e => (I.bs b o e).1
theorem Inv.mod (I : Inv X pins σ H s) : Mod X.K X.mg X.base := I.ok.mod
theorem Inv.kIn (I : Inv X pins σ H s) : X.K.In s.heap := I.ok.mod.kin.keeps I.bk
theorem Inv.nolimit (I : Inv X pins σ H s) : s.heap.NoLimit := I.ok.mod.nolimit.keeps I.bk
/-- the frame over the base: for OpenK's rules (K.In X.base is I.mod.kin) -/
theorem Inv.fr (I : Inv X pins σ H s) : ∃ m, Fr X.base X.env.locals s.heap m :=
  let ⟨m, hn, _⟩ := I.loc
  ⟨m, hn, I.bk, Nat.le_trans I.ok.bsz I.ok.above⟩
theorem Inv.lt (I : Inv X pins σ H s) : X.env.locals < s.heap.objs.size := let ⟨_, hn, _⟩ := I.loc; hn.lt
theorem Inv.sz (I : Inv X pins σ H s) : X.s₀.heap.objs.size ≤ s.heap.objs.size := Nat.le_trans I.ok.above (Nat.le_of_lt I.lt)
theorem Inv.nofs (I : Inv X pins σ H s) {a : Addr} (h : s.heap.objs.size ≤ a) : a ∉ X.fs := fun hb => by
  obtain ⟨_, o, ho, _⟩ := I.ok.funs.mem hb
  exact absurd (Nat.lt_of_lt_of_le (Heap.lt_size ho) (Nat.le_trans I.sz h)) (Nat.lt_irrefl _)
theorem Inv.cne (I : Inv X pins σ H s) : ∀ x c, X.env.cells.lookup x = some c → c ≠ X.env.locals := fun x c e z => by
  obtain ⟨v, o, ho, hd⟩ := I.cell x c e
  obtain ⟨m, ⟨o', es, ep, ho', hd', _⟩, _⟩ := I.loc
  rw [z, ho'] at ho; cases ho; rw [hd'] at hd; cases hd
theorem Inv.funs (I : Inv X pins σ H s) : s.heap.FunFrames X.base X.outer := by
  have all : ∀ (l : List Env), (∀ b ∈ frs l, b ∈ X.fs) → X.s₀.heap.FunFrames X.base l → s.heap.FunFrames X.base l := by
    intro l
    induction l with
    | nil => intro _ _; trivial
    | cons env r ih =>
      intro hs hl
      obtain ⟨hk, ⟨L, o, hf, hn, ho, hd⟩, hr⟩ := hl
      have hL : L ∈ X.fs := hs L (by unfold frs; rw [List.filterMap_cons, hf]; exact List.mem_cons_self)
      obtain ⟨sl, e⟩ := I.base.slot L o ho (I.ok.frf L hL) hL fun z => I.ok.exfs L z hL
      exact ⟨hk, ⟨L, _, hf, hn, e, hd⟩, ih (fun b hb => hs b (by unfold frs; rw [List.filterMap_cons, hf]; exact List.mem_cons_of_mem _ hb)) hr⟩
  exact all X.outer (fun _ hb => hb) I.ok.funs

/-- the frames that run, for a call -/
theorem Inv.stack (I : Inv X pins σ H s) : s.heap.FunFrames X.base X.stack := by
  rcases I.ok.stk with e | ⟨e, hf⟩
  · rw [e]; exact I.funs
  · rw [e]
    obtain ⟨m, hn, _⟩ := I.loc
    refine .cons (by rw [I.ok.kind]; decide) hf hn ?_ I.funs
    exact Heap.get?_none_of_le (Nat.le_trans I.ok.bsz I.ok.above)
theorem Inv.stkSub (I : Inv X pins σ H s) : ∀ b ∈ frs X.stack, b ∈ X.env.locals :: X.fs := fun b hb => by
  rcases I.ok.stk with e | ⟨e, hf⟩
  · rw [e] at hb; exact List.mem_cons_of_mem _ hb
  · rw [e] at hb
    unfold frs at hb
    rw [List.filterMap_cons, hf] at hb
    exact hb
theorem Inv.stkFree (I : Inv X pins σ H s) : ∀ b ∈ frs X.stack, H b = none := fun b hb => by
  rcases List.mem_cons.mp (I.stkSub b hb) with e | hb
  · rw [e]; exact I.free
  · obtain ⟨_, o, ho, _⟩ := I.ok.funs.mem hb
    exact I.base.free b o ho (I.ok.frf b hb) fun z => I.ok.exfs b z hb

/-- THE STEP: the untracked objects but the frame and the records at ch are kept (the callers' frames up to slots), the frame's map is kept, the new abstract heap is held -/
theorem Inv.step {g' : Array GenState} {t' : Nat} {d' : Drawn} {ch : List Addr} (I : Inv X pins σ H s)
    (hch : ∀ b ∈ ch, (b ∈ X.ex ∨ X.s₀.heap.objs.size ≤ b) ∧ b ≠ X.env.locals ∧ (∀ x c, X.env.cells.lookup x = some c → c ≠ b) ∧ ∀ p ∈ X.pn ++ pins, p.1 ≠ b)
    (keep : ∀ b o, b ≠ X.env.locals → b ∉ X.fs → b ∉ ch → s.heap.get? b = some o → H b = none → h'.get? b = some o)
    (slot : ∀ b o, b ≠ X.env.locals → b ∈ X.fs → b ∉ ch → s.heap.get? b = some o → H b = none → ∃ sl, h'.get? b = some { o with slots := sl }) (free : ∀ b o, b ∉ ch → s.heap.get? b = some o → H b = none → H' b = none)
    (there : ∀ b o, b ∉ ch → s.heap.get? b = some o → ∃ o', h'.get? b = some o')
    (tups : ∀ b xs, H b = some (.tup xs) → H' b = some (.tup xs)) (frzs : ∀ b o u, H b = some (.frz o u) → H' b = some (.frz o u)) (tbls : ∀ b ps, H b = some (.tbl ps) → ∃ more, H' b = some (.tbl (ps ++ more)))
    (ns : ∀ m, s.heap.Ns X.env.locals m → h'.Ns X.env.locals m) (hok : HOk X.prog X.w H' h') (hg : AllBare g') :
    Inv X pins σ H' { s with heap := h', gens := g', drawn := d', toks := t' } := by
  have neL : ∀ b o, X.s₀.heap.get? b = some o → b ≠ X.env.locals := fun b o e => Nat.ne_of_lt (Nat.lt_of_lt_of_le (Heap.lt_size e) I.ok.above)
  have neC : ∀ b o, X.s₀.heap.get? b = some o → b ∉ X.ex → b ∉ ch := fun b o e hx hb => by
    rcases (hch b hb).1 with z | z
    · exact hx z
    · exact absurd (Nat.lt_of_lt_of_le (Heap.lt_size e) z) (Nat.lt_irrefl _)
  have cellK : ∀ x c, X.env.cells.lookup x = some c → ∀ v, s.heap.IsCell c v → h'.IsCell c v := fun x c e v ⟨o, ho, hd⟩ => by
    have nch : c ∉ ch := fun z => (hch c z).2.2.1 x c e rfl
    by_cases hc : c ∈ X.fs
    · obtain ⟨sl, q⟩ := slot c o (I.cne x c e) hc nch ho (I.freeC x c e)
      exact ⟨_, q, hd⟩
    · exact ⟨o, keep c o (I.cne x c e) hc nch ho (I.freeC x c e), hd⟩
  refine ⟨I.ok, I.os, hg, ⟨fun b o e n hb hx => ?_, fun b o e n hb hx => ?_, fun b o e n hx => ?_, fun b o e hx => ?_, fun b xs e => tups b xs (I.base.tups b xs e), fun b o xs e => frzs b o xs (I.base.frzs b o xs e), fun b ps e => ?_⟩, ?_, fun x c e => ?_, ?_, fun x c e => ?_, fun p hp => ?_, hok, I.len⟩
  · exact keep b o (neL b o e) hb (neC b o e hx) (I.base.keep b o e n hb hx) (I.base.free b o e n hx)
  · obtain ⟨sl, e1⟩ := I.base.slot b o e n hb hx
    obtain ⟨sl', e2⟩ := slot b _ (neL b o e) hb (neC b o e hx) e1 (I.base.free b o e n hx)
    exact ⟨sl', e2⟩
  · obtain ⟨o', e1⟩ := I.base.there b o e hx
    exact free b o' (neC b o e hx) e1 (I.base.free b o e n hx)
  · obtain ⟨o', e1⟩ := I.base.there b o e hx
    exact there b o' (neC b o e hx) e1
  · obtain ⟨m1, e1⟩ := I.base.tbls b ps e
    obtain ⟨m2, e2⟩ := tbls b _ e1
    exact ⟨m1 ++ m2, by rw [e2, Array.append_assoc]⟩
  · obtain ⟨m, hn, hl⟩ := I.loc
    refine ⟨m, ns m hn, fun i x v e1 e2 e3 => ?_⟩
    obtain ⟨u, r, l⟩ := hl i x v e1 e2 e3
    refine ⟨u, r, ?_⟩
    rcases l with l | ⟨k, c, e, z⟩
    · exact .inl l
    · exact .inr ⟨k, c, e, cellK x c e _ z⟩
  · obtain ⟨v, z⟩ := I.cell x c e
    exact ⟨v, cellK x c e v z⟩
  · obtain ⟨m, ⟨o, _, _, ho, _⟩, _⟩ := I.loc
    exact free _ o (fun z => (hch _ z).2.1 rfl) ho I.free
  · obtain ⟨v, o, ho, hd⟩ := I.cell x c e
    exact free c o (fun z => (hch c z).2.2.1 x c e rfl) ho (I.freeC x c e)
  · obtain ⟨e, n, ne, nf, d⟩ := I.pin p hp
    have nch : p.1 ∉ ch := fun z => (hch p.1 z).2.2.2 p hp rfl
    exact ⟨keep p.1 p.2 ne nf nch e n, free p.1 p.2 nch e n, ne, nf, d⟩
/-- .. where the frame's own object is kept too -/
theorem Inv.un {t' : Nat} (I : Inv X pins σ H s) (u : Un X.fs [] H H' s.heap h') (hok : HOk X.prog X.w H' h') : Inv X pins σ H' { s with heap := h', toks := t' } := by
  obtain ⟨m, ⟨o, es, ep, ho, r⟩, _⟩ := id I.loc
  obtain ⟨sl, hL⟩ := u.any ho I.free (by simp)
  exact I.step (g' := s.gens) (d' := s.drawn) (ch := []) (fun _ z => nomatch z) (fun b o _ hb _ e n => u.keep b o e n hb (by simp)) (fun b o _ hb _ e n => u.slot b o e n hb (by simp)) (fun b o _ e n => u.free b o e n (by simp)) (fun b o _ e => u.there b o e (by simp)) u.tups u.frzs u.tbls (fun m' hm => by
    obtain ⟨o', es', ep', ho', r'⟩ := hm
    rw [ho] at ho'; cases ho'
    exact ⟨_, es', ep', hL, r'⟩) hok I.bare
/-- behind a call (or a comprehension's block): the slots of this frame may have changed too, the records at ch may have turned -/
theorem Inv.call {g' : Array GenState} {t' : Nat} {d' : Drawn} {ch : List Addr} (I : Inv X pins σ H s) (u : Un (frs X.stack) ch H H' s.heap h') (hok : HOk X.prog X.w H' h') (hg : AllBare g')
    (hch : ∀ b ∈ ch, (b ∈ X.ex ∨ X.s₀.heap.objs.size ≤ b) ∧ b ≠ X.env.locals ∧ (∀ x c, X.env.cells.lookup x = some c → c ≠ b) ∧ ∀ p ∈ X.pn ++ pins, p.1 ≠ b) :
    Inv X pins σ H' { s with heap := h', gens := g', drawn := d', toks := t' } := by
  obtain ⟨m, ⟨o, es, ep, ho, r⟩, _⟩ := id I.loc
  obtain ⟨sl, hL⟩ := u.any ho I.free fun z => (hch _ z).2.1 rfl
  exact I.step (ch := ch) hch (fun b o hL hb hc e n => u.keep b o e n (fun z => (List.mem_cons.mp (I.stkSub b z)).elim hL hb) hc) (fun b o _ _ hc e n => u.any e n hc) (fun b o hc e n => u.free b o e n hc) (fun b o hc e => u.there b o e hc) u.tups u.frzs u.tbls (fun m' hm => by
    obtain ⟨o', es', ep', ho', r'⟩ := hm
    rw [ho] at ho'; cases ho'
    exact ⟨_, es', ep', hL, r'⟩) hok hg
/-- an untracked record of ours (an iterator) has turned -/
theorem Inv.turned {t' : Nat} {it : Addr} (I : Inv X pins σ H s) (k : ∀ b o, b ≠ it → s.heap.get? b = some o → h'.get? b = some o) (hn : H it = none) (hL : it ≠ X.env.locals)
    (h1 : it ∈ X.ex ∨ X.s₀.heap.objs.size ≤ it) (h2 : ∀ x c, X.env.cells.lookup x = some c → c ≠ it) (h3 : ∀ p ∈ X.pn ++ pins, p.1 ≠ it) : Inv X pins σ H { s with heap := h', toks := t' } := by
  have nit : ∀ b u, H b = some u → b ≠ it := fun b u e z => by rw [z, hn] at e; cases e
  refine I.step (g' := s.gens) (d' := s.drawn) (ch := [it]) (fun b hb => ?_) (fun b o _ _ hc e _ => k b o (fun z => hc (by simp [z])) e) (fun b o _ _ hc e _ => ⟨o.slots, k b o (fun z => hc (by simp [z])) e⟩) (fun _ _ _ _ n => n)
    (fun b o hc e => ⟨o, k b o (fun z => hc (by simp [z])) e⟩) (fun _ _ e => e) (fun _ _ _ e => e) (fun b ps e => ⟨#[], by rw [e]; simp⟩) (fun m hm => ?_) (fun b u e => ?_) I.bare
  · have e : b = it := by simpa using hb
    subst e
    exact ⟨h1, hL, h2, h3⟩
  · obtain ⟨o, es, ep, ho, r⟩ := hm
    exact ⟨o, es, ep, k _ o (Ne.symm hL) ho, r⟩
  · refine (I.hok b u e).stay (fun c v hc q => k c v ?_ q) (fun _ q => q) fun _ _ q => q
    rcases hc with z | z
    · rw [z]; exact nit b u e
    · exact nit c _ z
theorem Inv.tok (I : Inv X pins σ H s) (t : Nat) : Inv X pins σ H { s with toks := t } := I.un (h' := s.heap) (t' := t) Un.refl I.hok
/-- all objects kept -/
theorem Inv.kept {t' : Nat} (I : Inv X pins σ H s) (k : ∀ b u, s.heap.get? b = some u → h'.get? b = some u) : Inv X pins σ H { s with heap := h', toks := t' } := I.un (Un.kept k) (I.hok.kept k)
/-- a new object laid and tracked -/
theorem Inv.laid {a : Addr} {o : HO} {t' : Nat} (I : Inv X pins σ H s) (k : ∀ b u, s.heap.get? b = some u → h'.get? b = some u) (hp : s.heap.objs.size ≤ a) (new : ObjOk X.prog X.w (upd H a o) h' a o) :
    Inv X pins σ (upd H a o) { s with heap := h', toks := t' } := I.un (Un.laid k hp (I.hok.fresh hp)) (I.hok.laid k hp new)
/-- an object written -/
theorem Inv.write {x e : Addr} {o : HO} {t' : Nat} (I : Inv X pins σ H s) (mu : Mut (H x)) (he : e = x ∨ H e = some (.own x)) (k : ∀ b u, b ≠ e → s.heap.get? b = some u → h'.get? b = some u) (heo : ∃ u, h'.get? e = some u)
    (new : ObjOk X.prog X.w (upd H x o) h' x o) : Inv X pins σ (upd H x o) { s with heap := h', toks := t' } := I.un (Un.write mu he k heo) (I.hok.write mu he k heo new)
/-- forgetting slots, pins -/
theorem Inv.weak {σ' : List (Option V)} (I : Inv X pins σ H s) (hl : σ'.length = σ.length) (w : ∀ (i : Nat) v, σ'[i]? = some (some v) → σ[i]? = some (some v)) : Inv X pins σ' H s :=
  ⟨I.ok, I.os, I.bare, I.base, let ⟨m, hn, hl'⟩ := I.loc; ⟨m, hn, fun i x v e1 e2 e3 => hl' i x v e1 (w i v e2) e3⟩, I.cell, I.free, I.freeC, I.pin, I.hok, hl.trans I.len⟩
theorem Inv.pins_of {pins' : List (Addr × Obj)} (I : Inv X pins σ H s) (h : ∀ p ∈ pins', s.heap.get? p.1 = some p.2 ∧ H p.1 = none ∧ p.1 ≠ X.env.locals ∧ p.1 ∉ X.fs ∧ ∀ v, p.2.data ≠ .cell v) : Inv X pins' σ H s :=
  ⟨I.ok, I.os, I.bare, I.base, I.loc, I.cell, I.free, I.freeC, fun p hp => (List.mem_append.mp hp).elim (fun z => I.pin p (List.mem_append_left _ z)) (h p), I.hok, I.len⟩

theorem nodup_ix {N : List Str} (hN : N.Nodup) {i j : Nat} {x : Str} (a : N[i]? = some x) (b : N[j]? = some x) : i = j := by
  obtain ⟨h1, e1⟩ := List.getElem?_eq_some_iff.mp a
  obtain ⟨h2, e2⟩ := List.getElem?_eq_some_iff.mp b
  exact (List.getElem_inj hN).mp (e1.trans e2.symm)

/-- a name is stored; what changed -/
theorem store_ok2 {M : Model} {A : Around} {E : Value → Shared → Prop} {i : Nat} {x : Str} {v : V} {u : Value} {Q : Unit → Shared → Prop} (I : Inv X pins σ H s) (hN : X.N.Nodup) (hi : X.N[i]? = some x) (hx : Loc X.env.scope x) (r : RelV v u)
    (h : ∀ s', Inv X pins (σ.set i (some v)) H s' → (∃ a, Heap.SameBut a s.heap s'.heap ∧ (a = X.env.locals ∨ X.env.cells.lookup x = some a)) → Q () s') (hf : X.fn x = true ∨ X.env.scope.names.lookup x = some .local := by first | exact .inl rfl | exact .inr rfl | assumption) : wpAny M A (storeName X.env x u) Q E s := by
  obtain ⟨m, hn, hl⟩ := id I.loc
  have hcls : (X.env.scope.kind == .class || (X.env.scope.kind == .module && X.env.locals != X.env.globals)) = false := by rw [I.ok.kind]; rfl
  have hiσ : i < σ.length := by rw [I.len]; exact (List.getElem?_eq_some_iff.mp hi).1
  have cne := I.cne
  have tracked : ∀ {a : Addr} {h' : Heap}, (∃ o, s.heap.get? a = some o ∧ H a = none) → Heap.SameBut a s.heap h' → HOk X.prog X.w H h' := fun {a h'} ha hs b ob e => by
    obtain ⟨_, _, hfree⟩ := ha
    refine (I.hok b ob e).stay (fun c w' hc q => (hs.2 c ?_).trans q) (fun _ q => q) fun _ _ q => q
    rintro rfl
    rcases hc with rfl | hc
    · rw [hfree] at e; cases e
    · rw [hfree] at hc; cases hc
  rcases hx with hk | hk
  · refine wpAny_storeName_local hk hn (fun h' hn' hs => ?_) hcls
    obtain ⟨oL, _, _, hoL, _⟩ := id hn
    refine h _ ⟨I.ok, I.os, I.bare, ⟨fun b o e n hb hx => ?_, fun b o e n hb hx => ?_, I.base.free, fun b o e hx => ?_, I.base.tups, I.base.frzs, I.base.tbls⟩, ⟨_, hn', fun j y v' e1 e2 e3 => ?_⟩, fun y c e => ?_, I.free, I.freeC, fun p hp => ?_, tracked ⟨oL, hoL, I.free⟩ hs, by simpa using I.len⟩ ⟨_, hs, .inl rfl⟩
    · exact (hs.2 b (Nat.ne_of_lt (Nat.lt_of_lt_of_le (Heap.lt_size e) I.ok.above))).trans (I.base.keep b o e n hb hx)
    · obtain ⟨sl, e1⟩ := I.base.slot b o e n hb hx
      exact ⟨sl, (hs.2 b (Nat.ne_of_lt (Nat.lt_of_lt_of_le (Heap.lt_size e) I.ok.above))).trans e1⟩
    · obtain ⟨o', e1⟩ := I.base.there b o e hx
      exact ⟨o', (hs.2 b (Nat.ne_of_lt (Nat.lt_of_lt_of_le (Heap.lt_size e) I.ok.above))).trans e1⟩
    · by_cases hj : j = i
      · subst hj
        rw [hi] at e1; cases e1
        rw [List.getElem?_set_self hiσ] at e2
        cases e2
        exact ⟨u, r, .inl ⟨hk, by simp⟩⟩
      · rw [List.getElem?_set_ne (Ne.symm hj)] at e2
        obtain ⟨u', r', q⟩ := hl j y v' e1 e2 e3
        refine ⟨u', r', ?_⟩
        rcases q with ⟨k, e⟩ | ⟨k, c, e, z⟩
        · refine .inl ⟨k, ?_⟩
          have : y ≠ x := fun e => hj (nodup_ix hN e1 (e ▸ hi))
          simp [this, e]
        · exact .inr ⟨k, c, e, z.sameBut hs (cne y c e)⟩
    · obtain ⟨w', z⟩ := I.cell y c e
      exact ⟨w', z.sameBut hs (cne y c e)⟩
    · obtain ⟨e, n, ne, nf, d⟩ := I.pin p hp
      exact ⟨(hs.2 p.1 ne).trans e, n, ne, nf, d⟩
  · have hfn : X.fn x = true := by
      rcases hf with z | z
      · exact z
      · rw [z] at hk; cases hk
    obtain ⟨c, hc⟩ := I.ok.has x (.inl hk)
    obtain ⟨w', z⟩ := I.cell x c hc
    refine wpAny_storeName_cell I.ok.kind hk hc z (fun h' hc' hs => ?_)
    obtain ⟨oc, hoc, hocd⟩ := id z
    refine h { s with heap := h' } ⟨I.ok, I.os, I.bare, ⟨fun b o e n hb hx => ?_, fun b o e n hb hx => ?_, I.base.free, fun b o e hx => ?_, I.base.tups, I.base.frzs, I.base.tbls⟩, ⟨m, hn.sameBut hs (Ne.symm (cne x c hc)), fun j y v' e1 e2 e3 => ?_⟩, fun y c' e => ?_, I.free, I.freeC, fun p hp => ?_, tracked ⟨oc, hoc, I.freeC x c hc⟩ hs, by simpa using I.len⟩ ⟨c, hs, .inr hc⟩
    · exact (hs.2 b (Nat.ne_of_lt (Nat.lt_of_lt_of_le (Heap.lt_size e) (I.ok.cab x c hfn hc)))).trans (I.base.keep b o e n hb hx)
    · obtain ⟨sl, e1⟩ := I.base.slot b o e n hb hx
      exact ⟨sl, (hs.2 b (Nat.ne_of_lt (Nat.lt_of_lt_of_le (Heap.lt_size e) (I.ok.cab x c hfn hc)))).trans e1⟩
    · obtain ⟨o', e1⟩ := I.base.there b o e hx
      exact ⟨o', (hs.2 b (Nat.ne_of_lt (Nat.lt_of_lt_of_le (Heap.lt_size e) (I.ok.cab x c hfn hc)))).trans e1⟩
    · by_cases hj : j = i
      · subst hj
        rw [hi] at e1; cases e1
        rw [List.getElem?_set_self hiσ] at e2
        cases e2
        exact ⟨u, r, .inr ⟨.inl hk, c, hc, hc'⟩⟩
      · rw [List.getElem?_set_ne (Ne.symm hj)] at e2
        obtain ⟨u', r', q⟩ := hl j y v' e1 e2 e3
        refine ⟨u', r', ?_⟩
        rcases q with q | ⟨k, c', e, z'⟩
        · exact .inl q
        · refine .inr ⟨k, c', e, z'.sameBut hs ?_⟩
          rintro rfl
          exact hj (nodup_ix hN e1 (I.ok.inj _ _ _ e hc ▸ hi))
    · by_cases hcc : c' = c
      · subst hcc; exact ⟨_, hc'⟩
      · obtain ⟨w2, z2⟩ := I.cell y c' e
        exact ⟨w2, z2.sameBut hs hcc⟩
    · obtain ⟨e, n, ne, nf, d⟩ := I.pin p hp
      refine ⟨(hs.2 p.1 ?_).trans e, n, ne, nf, d⟩
      intro q
      rw [q, hoc] at e
      have q' : oc = p.2 := Option.some.inj e
      exact d w' (by rw [← q']; exact hocd)
theorem store_ok {M : Model} {A : Around} {E : Value → Shared → Prop} {i : Nat} {x : Str} {v : V} {u : Value} {Q : Unit → Shared → Prop} (I : Inv X pins σ H s) (hN : X.N.Nodup) (hi : X.N[i]? = some x) (hx : Loc X.env.scope x) (r : RelV v u)
    (h : ∀ s', Inv X pins (σ.set i (some v)) H s' → Q () s') (hf : X.fn x = true ∨ X.env.scope.names.lookup x = some .local := by first | exact .inl rfl | exact .inr rfl | assumption) : wpAny M A (storeName X.env x u) Q E s :=
  store_ok2 I hN hi hx r (fun s' I' _ => h s' I') hf
/-- behind a call or a block, the state as it is -/
theorem Inv.call' {s' : Shared} {ch : List Addr} (I : Inv X pins σ H s) (ho : s'.os = s.os) (u : Un (frs X.stack) ch H H' s.heap s'.heap) (hok : HOk X.prog X.w H' s'.heap) (hg : AllBare s'.gens)
    (hch : ∀ b ∈ ch, (b ∈ X.ex ∨ X.s₀.heap.objs.size ≤ b) ∧ b ≠ X.env.locals ∧ (∀ x c, X.env.cells.lookup x = some c → c ≠ b) ∧ ∀ p ∈ X.pn ++ pins, p.1 ≠ b) : Inv X pins σ H' s' := by
  obtain ⟨h', g', d', t', o'⟩ := s'
  have e : o' = s.os := ho
  subst e
  exact I.call (g' := g') (t' := t') (d' := d') u hok hg hch
end

/-! ### the judgements -/
/-- an exception: its class, its own dict's address (where it has one), the abstract heap behind it -/
abbrev XK := Value → Option Addr → Hp → Prop
abbrev St := List (Option V)
abbrev VK := V → Hp → Prop
/-- an expression's reading; a test's; an argument list's -/
abbrev TE := St → Hp → VK → Prop
abbrev TT := St → Hp → (Bool → Hp → Prop) → Prop
abbrev TA := St → Hp → (List V → Hp → Prop) → Prop
/-- what is wanted behind a statement -/
structure Ends where
  nx : St → Hp → Prop
  rt : VK
  bk : St → Hp → Prop := fun _ _ => False
  ct : St → Hp → Prop := fun _ _ => False
abbrev TS := Ends → St → Hp → Prop

def EP (X : Cx) (pins : List (Addr × Obj)) (σ : St) (Q : VK) (u : Value) (s' : Shared) : Prop := ∃ v H', Inv X pins σ H' s' ∧ RelV v u ∧ Q v H'
def TP (X : Cx) (pins : List (Addr × Obj)) (σ : St) (Q : Bool → Hp → Prop) (b : Bool) (s' : Shared) : Prop := ∃ H', Inv X pins σ H' s' ∧ Q b H'
def AP (X : Cx) (pins : List (Addr × Obj)) (σ : St) (Q : List V → Hp → Prop) (us : List Value) (s' : Shared) : Prop := ∃ vs H', Inv X pins σ H' s' ∧ Vals vs us ∧ Q vs H'
def SP (X : Cx) (pins : List (Addr × Obj)) (D : Ends) (f : Flow) (s' : Shared) : Prop :=
  match f with
  | .next => ∃ σ' H', Inv X pins σ' H' s' ∧ D.nx σ' H'
  | .brk => ∃ σ' H', Inv X pins σ' H' s' ∧ D.bk σ' H'
  | .cont => ∃ σ' H', Inv X pins σ' H' s' ∧ D.ct σ' H'
  | .ret u => ∃ v σ' H', Inv X pins σ' H' s' ∧ RelV v u ∧ D.rt v H'

def PE (X : Cx) (e : Expr) (t : TE) : Prop :=
  ∀ (pins : List (Addr × Obj)) (s : Shared) (σ : St) (H : Hp) (Q : VK), Inv X pins σ H s → t σ H Q → wpAny (model X.prog X.w) X.A (eval e X.env) (EP X pins σ Q) X.xe s
def PT (X : Cx) (e : Expr) (t : TT) : Prop :=
  ∀ (pins : List (Addr × Obj)) (s : Shared) (σ : St) (H : Hp) (Q : Bool → Hp → Prop), Inv X pins σ H s → t σ H Q → wpAny (model X.prog X.w) X.A (isTrue e X.env (eval e X.env)) (TP X pins σ Q) X.xe s
/-- a test whatever its 'whole' is (and, or) -/
def PW (X : Cx) (e : Expr) (t : TT) : Prop :=
  ∀ (whole : Sem Value) (pins : List (Addr × Obj)) (s : Shared) (σ : St) (H : Hp) (Q : Bool → Hp → Prop), Inv X pins σ H s → t σ H Q → wpAny (model X.prog X.w) X.A (isTrue e X.env whole) (TP X pins σ Q) X.xe s
theorem PW.pt {X : Cx} {e : Expr} {t : TT} (h : PW X e t) : PT X e t := h _
/-- an argument list (no star), from the left -/
def PA (X : Cx) (es : List Expr) (t : TA) : Prop :=
  ∀ (pos : Pos) (pins : List (Addr × Obj)) (s : Shared) (σ : St) (H : Hp) (Q : List V → Hp → Prop), Inv X pins σ H s → t σ H Q → wpAny (model X.prog X.w) X.A (spliced (backTo pos (starEach es X.env))) (AP X pins σ Q) X.xe s
def PS (X : Cx) (st : Stmt) (t : TS) : Prop :=
  ∀ (pins : List (Addr × Obj)) (s : Shared) (σ : St) (H : Hp) (D : Ends), Inv X pins σ H s → t D σ H → wpAny (model X.prog X.w) X.A (exec st X.env) (SP X pins D) X.xe s
def PSs (X : Cx) (st : List Stmt) (t : TS) : Prop :=
  ∀ (pins : List (Addr × Obj)) (s : Shared) (σ : St) (H : Hp) (D : Ends), Inv X pins σ H s → t D σ H → wpAny (model X.prog X.w) X.A (execs st X.env) (SP X pins D) X.xe s
/-- weaken the end -/
theorem thn {α : Type} {t : Sem α} {Q Q' : α → Shared → Prop} {M : Model} {A : Around} {E : Value → Shared → Prop} {s : Shared} (h : wpAny M A t Q E s) (hQ : ∀ a s, Q a s → Q' a s) : wpAny M A t Q' E s := wpAny_mono h hQ fun _ _ x => x
end L2

namespace L2
open PySem PySem.Spec PyProof.Rows
section
variable {X : Cx}

/-- two expressions in a row -/
theorem bin {a b : Expr} {ta tb : TE} (ha : PE X a ta) (hb : PE X b tb) {pins : List (Addr × Obj)} {s : Shared} {σ : St} {H : Hp} {R : V → V → Hp → Prop} (I : Inv X pins σ H s) (h : ta σ H fun x H1 => tb σ H1 fun y H2 => R x y H2)
    {α : Type} {Q : α → Shared → Prop} {f : Value → Value → Sem α}
    (hf : ∀ v u s2 x y H2, Inv X pins σ H2 s2 → RelV x v → RelV y u → R x y H2 → wpAny (model X.prog X.w) X.A (f v u) Q X.xe s2) :
    wpAny (model X.prog X.w) X.A (eval a X.env) (fun v s₁ => wpAny (model X.prog X.w) X.A (eval b X.env) (fun u s₂ => wpAny (model X.prog X.w) X.A (f v u) Q X.xe s₂) X.xe s₁) X.xe s := by
  refine thn (ha pins s σ H _ I h) fun v s1 ⟨x, H1, I1, r1, q1⟩ => ?_
  refine thn (hb pins s1 σ H1 _ I1 q1) fun u s2 ⟨y, H2, I2, r2, q2⟩ => ?_
  exact hf v u s2 x y H2 I2 r1 r2 q2

/-! ### names and constants -/
def tVar (i : Nat) : TE := fun σ H Q => ∃ v, σ[i]? = some (some v) ∧ Q v H
def tC (v : V) : TE := fun _ H Q => Q v H
theorem pe_var {i : Nat} {x : Str} {pos : Pos} (hN : X.N[i]? = some x) (hv : Vis X.env.scope x) (hd : (x == ("__debug__" : Str)) = false := by decide) (hcd : (x == ("__classdict__" : Str)) = false := by decide) : PE X (.Name x pos) (tVar i) := by
  intro pins s σ H Q I h
  obtain ⟨v, e, h⟩ := h
  obtain ⟨m, hn, hl⟩ := I.loc
  obtain ⟨u, r, l⟩ := hl i x v hN e hv
  have fin : EP X pins σ Q u s := ⟨v, H, I, r, h⟩
  rcases l with ⟨hk, hm⟩ | ⟨hk, c, hc, hcell⟩
  · exact wpAny_Name (wpAny_loadName_local I.ok.kind hk hn hm fin) hd
  · rcases hk with hk | hk
    · exact wpAny_Name (wpAny_loadName_cell I.ok.kind hk hc hcell fin) hd
    · exact wpAny_Name (wpAny_loadName_free I.ok.kind hk hc hcell fin hcd) hd
theorem pe_int {i j pos} : PE X (.Constant (.int i) j pos) (tC (.int i)) := fun _ _ _ H _ I h => wpAny_Constant_int ⟨.int i, H, I.tok _, ⟨_, rfl⟩, h⟩
theorem pe_bl {b j pos} : PE X (.Constant (.bool b) j pos) (tC (.bl b)) := fun _ _ _ H _ I h => Constant_bool ⟨.bl b, H, I, rfl, h⟩
theorem pe_non {j pos} : PE X (.Constant .none j pos) (tC .non) := fun _ _ _ H _ I h => Constant_none ⟨.non, H, I, rfl, h⟩
theorem pe_str {x j pos} : PE X (.Constant (.str x) j pos) (tC (.str x)) := fun _ _ _ H _ I h => Calls.Constant_str ⟨.str x, H, I.tok _, ⟨_, rfl⟩, h⟩

/-- a global name of the def -/
def Gl (X : Cx) (x : Str) : Prop := X.env.kindOf x = some .globalImplicit
theorem ld_glob {E : Value → Shared → Prop} {pins : List (Addr × Obj)} {s : Shared} {σ : St} {H : Hp} {x : Str} {u : Value} {pos : Pos} {Q : Value → Shared → Prop} (I : Inv X pins σ H s) (hg : Gl X x) (hm : X.mg x = some u) (h : Q u s)
    (hd : (x == ("__debug__" : Str)) = false := by decide) : wpAny (model X.prog X.w) X.A (eval (.Name x pos) X.env) Q E s :=
  Calls.Name_function_global I.ok.kind hg (Calls.loadGlobal_global (by rw [I.ok.glob]; exact I.mod.glob.keeps I.bk) hm h) hd
theorem ld_blt {E : Value → Shared → Prop} {pins : List (Addr × Obj)} {s : Shared} {σ : St} {H : Hp} {x : Str} {u : Value} {pos : Pos} {Q : Value → Shared → Prop} (I : Inv X pins σ H s) (hg : Gl X x) (hm : X.mg x = none) (hv : bootBuiltins x = some u) (h : Q u s)
    (hn : x ≠ "__name__" := by decide) (hd : (x == ("__debug__" : Str)) = false := by decide) : wpAny (model X.prog X.w) X.A (eval (.Name x pos) X.env) Q E s := by
  obtain ⟨mb, h1, h2⟩ := I.mod.blt
  exact Calls.Name_function_global I.ok.kind hg (Calls.loadGlobal_builtin (by rw [I.ok.glob]; exact I.mod.glob.keeps I.bk) hm (by rw [I.ok.blt]; exact h1.keeps I.bk) ((h2 x hn).trans hv) h) hd
/-- a module's constant, a class, a function, as a value -/
theorem pe_glob {x : Str} {v : V} {u : Value} {pos : Pos} (hg : Gl X x) (hm : X.mg x = some u) (r : RelV v u) (hd : (x == ("__debug__" : Str)) = false := by decide) : PE X (.Name x pos) (tC v) :=
  fun _ _ _ H _ I h => ld_glob I hg hm ⟨v, H, I, r, h⟩ hd
theorem pe_bltn {x : Str} {v : V} {u : Value} {pos : Pos} (hg : Gl X x) (hm : X.mg x = none) (hv : bootBuiltins x = some u) (r : RelV v u) (hn : x ≠ "__name__" := by decide) (hd : (x == ("__debug__" : Str)) = false := by decide) : PE X (.Name x pos) (tC v) :=
  fun _ _ _ H _ I h => ld_blt I hg hm hv ⟨v, H, I, r, h⟩ hn hd

/-! ### arithmetic -/
/-- two ints -/
def t2I (ta tb : TE) (k : Int → Int → Hp → Prop) : St → Hp → Prop := fun σ H => ta σ H fun x H1 => tb σ H1 fun y H2 => ∃ i j, x = .int i ∧ y = .int j ∧ k i j H2
def tAdd (ta tb : TE) : TE := fun σ H Q => t2I ta tb (fun i j H2 => Q (.int (i + j)) H2) σ H
def tSub (ta tb : TE) : TE := fun σ H Q => t2I ta tb (fun i j H2 => Q (.int (i - j)) H2) σ H
/-- the left factor below 2^64 -/
def tMul (ta tb : TE) : TE := fun σ H Q => t2I ta tb (fun i j H2 => (-(2 ^ 64) < i ∧ i < 2 ^ 64) ∧ Q (.int (i * j)) H2) σ H
variable {a b : Expr} {ta tb : TE} {pos : Pos}
theorem pe_add (ha : PE X a ta) (hb : PE X b tb) : PE X (.BinOp a .Add b pos) (tAdd ta tb) := by
  intro pins s σ H Q I h
  refine wpAny_BinOp (bin ha hb I h fun v u s2 x y H2 I2 rx ry q => ?_)
  obtain ⟨i, j, rfl, rfl, q⟩ := q
  obtain ⟨t, rfl⟩ := rx
  obtain ⟨t', rfl⟩ := ry
  exact add_int ⟨.int _, H2, I2.tok _, ⟨_, rfl⟩, q⟩
theorem pe_sub (ha : PE X a ta) (hb : PE X b tb) : PE X (.BinOp a .Sub b pos) (tSub ta tb) := by
  intro pins s σ H Q I h
  refine wpAny_BinOp (bin ha hb I h fun v u s2 x y H2 I2 rx ry q => ?_)
  obtain ⟨i, j, rfl, rfl, q⟩ := q
  obtain ⟨t, rfl⟩ := rx
  obtain ⟨t', rfl⟩ := ry
  exact sub_int ⟨.int _, H2, I2.tok _, ⟨_, rfl⟩, q⟩
theorem pe_mul (ha : PE X a ta) (hb : PE X b tb) : PE X (.BinOp a .Mult b pos) (tMul ta tb) := by
  intro pins s σ H Q I h
  refine wpAny_BinOp (bin ha hb I h fun v u s2 x y H2 I2 rx ry q => ?_)
  obtain ⟨i, j, rfl, rfl, ⟨q1, q2⟩, q⟩ := q
  obtain ⟨t, rfl⟩ := rx
  obtain ⟨t', rfl⟩ := ry
  exact mul_int ⟨.int _, H2, I2.tok _, ⟨_, rfl⟩, q⟩ (.of_left (intBits_le_64 q1 q2))

/-! ### comparisons -/
def PC (X : Cx) (op : CmpOp) (a b : Expr) (t : TE) : Prop :=
  ∀ (pins : List (Addr × Obj)) (s : Shared) (σ : St) (H : Hp) (Q : VK), Inv X pins σ H s → t σ H Q →
    wpAny (model X.prog X.w) X.A (eval a X.env) (fun v s₁ => wpAny (model X.prog X.w) X.A (eval b X.env) (fun u s₂ => wpAny (model X.prog X.w) X.A (compareOp op v u) (EP X pins σ Q) X.xe s₂) X.xe s₁) X.xe s
theorem nobehind (b : Expr) {op : CmpOp} (h : op ≠ .In) (h2 : op ≠ .NotIn) : behindInMarks op b = false := by
  have e1 : (op == CmpOp.In) = false := by cases op <;> first | rfl | exact absurd rfl h
  have e2 : (op == CmpOp.NotIn) = false := by cases op <;> first | rfl | exact absurd rfl h2
  cases b <;> simp [behindInMarks, e1, e2]
def tCmp (p : Int → Int → Bool) (ta tb : TE) : TE := fun σ H Q => t2I ta tb (fun i j H2 => Q (.bl (p i j)) H2) σ H
abbrev tLt : TE → TE → TE := tCmp fun i j => decide (i < j)
abbrev tLe : TE → TE → TE := tCmp fun i j => decide (i ≤ j)
abbrev tGt : TE → TE → TE := tCmp fun i j => decide (j < i)
abbrev tGe : TE → TE → TE := tCmp fun i j => decide (j ≤ i)
abbrev tEqI : TE → TE → TE := tCmp fun i j => decide (i = j)
abbrev tNeI : TE → TE → TE := tCmp fun i j => !decide (i = j)
/-- a comparison of two ints, by its rule -/
theorem pc_int {op : CmpOp} {p : Int → Int → Bool} (ha : PE X a ta) (hb : PE X b tb)
    (rule : ∀ (i j : Int) (t u : Tok) (Q : Value → Shared → Prop) (s : Shared), Q (.bool (p i j)) s → wpAny (model X.prog X.w) X.A (compareOp op (.int i t) (.int j u)) Q X.xe s) : PC X op a b (tCmp p ta tb) := by
  intro pins s σ H Q I h
  refine bin ha hb I h fun v u s2 x y H2 I2 rx ry q => ?_
  obtain ⟨i, j, rfl, rfl, q⟩ := q
  obtain ⟨t, rfl⟩ := rx
  obtain ⟨t', rfl⟩ := ry
  exact rule i j t t' _ s2 ⟨.bl _, H2, I2, rfl, q⟩
theorem pc_lt (ha : PE X a ta) (hb : PE X b tb) : PC X .Lt a b (tLt ta tb) := pc_int ha hb fun _ _ _ _ _ _ h => lt_int h
theorem pc_le (ha : PE X a ta) (hb : PE X b tb) : PC X .LtE a b (tLe ta tb) := pc_int ha hb fun _ _ _ _ _ _ h => le_int h
theorem pc_gt (ha : PE X a ta) (hb : PE X b tb) : PC X .Gt a b (tGt ta tb) := pc_int ha hb fun _ _ _ _ _ _ h => gt_int h
theorem pc_ge (ha : PE X a ta) (hb : PE X b tb) : PC X .GtE a b (tGe ta tb) := pc_int ha hb fun _ _ _ _ _ _ h => ge_int h
theorem pc_eqI (ha : PE X a ta) (hb : PE X b tb) : PC X .Eq a b (tEqI ta tb) := pc_int ha hb fun _ _ _ _ _ _ h => eq_int (by rw [Bool.beq_eq_decide_eq]; exact h)
theorem pc_neI (ha : PE X a ta) (hb : PE X b tb) : PC X .NotEq a b (tNeI ta tb) := pc_int ha hb fun _ _ _ _ _ _ h => ne_int (by rw [bne, Bool.beq_eq_decide_eq]; exact h)
/-- is None -/
def tIsN (ta : TE) : TE := fun σ H Q => ta σ H fun x H1 => Q (.bl (decide (x = .non))) H1
def tNotN (ta : TE) : TE := fun σ H Q => ta σ H fun x H1 => Q (.bl (!decide (x = .non))) H1
theorem RelV.none_iff {x : V} {v : Value} (r : RelV x v) : (v == Value.none) = decide (x = .non) := by
  cases x with
  | non => cases r; rfl
  | bl _ => cases r; rfl
  | int _ => obtain ⟨t, rfl⟩ := r; rfl
  | str _ => obtain ⟨t, rfl⟩ := r; rfl
  | byt _ => obtain ⟨t, rfl⟩ := r; rfl
  | flt _ => obtain ⟨t, rfl⟩ := r; rfl
  | ref _ => cases r; rfl
  | ty _ => cases r; rfl
theorem pc_isN {j pos'} (ha : PE X a ta) : PC X .Is a (.Constant .none j pos') (tIsN ta) := by
  intro pins s σ H Q I h
  refine thn (ha pins s σ H _ I h) fun v s1 ⟨x, H1, I1, r1, q1⟩ => ?_
  exact Constant_none (is_none_gen ⟨.bl _, H1, I1, by rw [r1.none_iff]; rfl, q1⟩)
theorem pc_notN {j pos'} (ha : PE X a ta) : PC X .IsNot a (.Constant .none j pos') (tNotN ta) := by
  intro pins s σ H Q I h
  refine thn (ha pins s σ H _ I h) fun v s1 ⟨x, H1, I1, r1, q1⟩ => ?_
  exact Constant_none (isnot_none_gen ⟨.bl _, H1, I1, by rw [r1.none_iff]; rfl, q1⟩)
/-- a comparison as a value, as a test -/
def tB (t : TE) : TT := fun σ H Q => t σ H fun x H1 => ∃ c, x = .bl c ∧ Q c H1
theorem pe_cmp {op : CmpOp} {t : TE} (h : PC X op a b t) (h1 : behindInMarks op b = false := by first | exact nobehind _ (by decide) (by decide) | rfl) : PE X (.Compare a [op] [b] pos) t := fun pins s σ H Q I hw => wpAny_Compare1 (h pins s σ H Q I hw) h1
theorem pt_cmp {op : CmpOp} {t : TE} (h : PC X op a b t) (h1 : behindInMarks op b = false := by first | exact nobehind _ (by decide) (by decide) | rfl) : PT X (.Compare a [op] [b] pos) (tB t) := by
  intro pins s σ H Q I hw
  refine wpAny_isTrue_Compare1 (thn (h pins s σ H _ I hw) fun v s1 h1 => thn h1 fun u s2 h2 => thn h2 fun c s3 ⟨x, H1, I1, r1, q1⟩ => ?_) h1
  obtain ⟨d, rfl, q⟩ := q1
  cases r1
  exact wpAny_truthy_bool ⟨H1, I1, q⟩
/-- an expression whose value is a bool, as a test -/
theorem pt_val {e : Expr} {t : TE} (h : PE X e t) (he : ∀ whole, isTrue e X.env whole = (do let v ← whole; standAt e.pos; holding [v] (truthy v)) := by intro _; rfl) : PT X e (tB t) := by
  intro pins s σ H Q I hw
  refine isTrue_plain (thn (h pins s σ H _ I hw) fun v s1 ⟨x, H1, I1, r1, q1⟩ => ?_) (he _)
  obtain ⟨d, rfl, q⟩ := q1
  cases r1
  exact wpAny_truthy_bool ⟨H1, I1, q⟩

/-! ### and, or, not -/
variable {tA tB' : TT} {rest : List Expr}
def tAnd (t u : TT) : TT := fun σ H Q => t σ H fun c H1 => if c = true then u σ H1 Q else Q false H1
def tOr (t u : TT) : TT := fun σ H Q => t σ H fun c H1 => if c = true then Q true H1 else u σ H1 Q
def tNot (t : TT) : TT := fun σ H Q => t σ H fun c H1 => Q (!c) H1
theorem pw_and1 (ha : PT X a tA) : PW X (.BoolOp .And [a] pos) tA := by
  intro wh pins s σ H Q I h
  refine isTrue_and (thn (ha pins s σ H Q I h) fun c s1 e => ?_)
  cases c with
  | true => exact isTrue_and_nil e
  | false => exact e
theorem pw_or1 (ha : PT X a tA) : PW X (.BoolOp .Or [a] pos) tA := by
  intro wh pins s σ H Q I h
  refine isTrue_or (thn (ha pins s σ H Q I h) fun c s1 e => ?_)
  cases c with
  | false => exact isTrue_or_nil e
  | true => exact e
theorem pw_and (ha : PT X a tA) (hb : PW X (.BoolOp .And (b :: rest) pos) tB') : PW X (.BoolOp .And (a :: b :: rest) pos) (tAnd tA tB') := by
  intro wh pins s σ H Q I h
  refine isTrue_and (thn (ha pins s σ H _ I h) fun c s1 ⟨H1, I1, q1⟩ => ?_)
  cases c with
  | true => exact hb wh pins s1 σ H1 Q I1 q1
  | false => exact ⟨H1, I1, q1⟩
theorem pw_or (ha : PT X a tA) (hb : PW X (.BoolOp .Or (b :: rest) pos) tB') : PW X (.BoolOp .Or (a :: b :: rest) pos) (tOr tA tB') := by
  intro wh pins s σ H Q I h
  refine isTrue_or (thn (ha pins s σ H _ I h) fun c s1 ⟨H1, I1, q1⟩ => ?_)
  cases c with
  | true => exact ⟨H1, I1, q1⟩
  | false => exact hb wh pins s1 σ H1 Q I1 q1
theorem pt_not (ha : PT X a tA) : PT X (.UnaryOp .Not a pos) (tNot tA) := by
  intro pins s σ H Q I h
  exact isTrue_not (ha pins s σ H (fun c H1 => Q (!c) H1) I h)
/-- .. as values (bools) -/
def tAndV (ta tb : TE) : TE := fun σ H Q => ta σ H fun x H1 => ∃ c, x = .bl c ∧ if c = true then tb σ H1 Q else Q (.bl false) H1
def tOrV (ta tb : TE) : TE := fun σ H Q => ta σ H fun x H1 => ∃ c, x = .bl c ∧ if c = true then Q (.bl true) H1 else tb σ H1 Q
def tNotV (ta : TE) : TE := fun σ H Q => ta σ H fun x H1 => ∃ c, x = .bl c ∧ Q (.bl (!c)) H1
theorem pe_one {op} {t : TE} (h : PE X a t) : PE X (.BoolOp op [a] pos) t := fun pins s σ H Q I hw => BoolOp_one (h pins s σ H Q I hw)
theorem pe_and (ha : PE X a ta) (hb : PE X (.BoolOp .And (b :: rest) pos) tb) : PE X (.BoolOp .And (a :: b :: rest) pos) (tAndV ta tb) := by
  intro pins s σ H Q I h
  refine BoolOp_and (thn (ha pins s σ H _ I h) fun v s1 ⟨x, H1, I1, r1, q1⟩ => ?_)
  obtain ⟨c, rfl, q1⟩ := q1
  cases r1
  refine wpAny_truthy_bool ?_
  cases c with
  | true => exact hb pins s1 σ H1 Q I1 q1
  | false => exact ⟨.bl false, H1, I1, rfl, q1⟩
theorem pe_or (ha : PE X a ta) (hb : PE X (.BoolOp .Or (b :: rest) pos) tb) : PE X (.BoolOp .Or (a :: b :: rest) pos) (tOrV ta tb) := by
  intro pins s σ H Q I h
  refine BoolOp_or (thn (ha pins s σ H _ I h) fun v s1 ⟨x, H1, I1, r1, q1⟩ => ?_)
  obtain ⟨c, rfl, q1⟩ := q1
  cases r1
  refine wpAny_truthy_bool ?_
  cases c with
  | false => exact hb pins s1 σ H1 Q I1 q1
  | true => exact ⟨.bl true, H1, I1, rfl, q1⟩
theorem pe_not (ha : PE X a ta) : PE X (.UnaryOp .Not a pos) (tNotV ta) := by
  intro pins s σ H Q I h
  refine UnaryOp_ (thn (ha pins s σ H _ I h) fun v s1 ⟨x, H1, I1, r1, q1⟩ => ?_)
  obtain ⟨c, rfl, q1⟩ := q1
  cases r1
  exact not_of (wpAny_truthy_bool ⟨.bl (!c), H1, I1, rfl, q1⟩)
/-- a if t else b -/
def tIf (t : TT) (ta tb : TE) : TE := fun σ H Q => t σ H fun c H1 => if c = true then ta σ H1 Q else tb σ H1 Q
theorem pe_ifExp {c : Expr} (hc : PT X c tA) (ha : PE X a ta) (hb : PE X b tb) : PE X (.IfExp c a b pos) (tIf tA ta tb) := by
  intro pins s σ H Q I h
  refine wpAny_IfExp (thn (hc pins s σ H _ I h) fun d s1 ⟨H1, I1, q1⟩ => ?_)
  cases d with
  | true => exact ha pins s1 σ H1 Q I1 q1
  | false => exact hb pins s1 σ H1 Q I1 q1
end
end L2

namespace L2
open PySem PySem.Spec PyProof.Rows

/-! ### a list, a tuple that is read: tracked, frozen, or an object of the module -/
def SqL (K : PySem.W.Frag) (H : Hp) (a : Addr) (xs : List V) : Prop :=
  Rd H a (.lst xs) ∨
    ∃ (o : Obj) (its : Array Value) (n : Nat), K.lookup a = some o ∧ o.cls = .type "list" ∧ o.dict = none ∧ o.data = .seq its n ∧ its.size ≤ sizeLine ∧ Vals xs its.toList
def SqT (K : PySem.W.Frag) (H : Hp) (a : Addr) (xs : List V) : Prop :=
  Rd H a (.tup xs) ∨
    ∃ (o : Obj) (its : Array Value) (n : Nat), K.lookup a = some o ∧ o.cls = .type "tuple" ∧ o.data = .seq its n ∧ its.size ≤ sizeLine ∧ Vals xs its.toList
def absV : Value → Option V
  | .none => some .non
  | .bool b => some (.bl b)
  | .int i _ => some (.int i)
  | .str x _ => some (.str x)
  | .bytes b _ => some (.byt b)
  | .float b _ => some (.flt b)
  | .ref a => some (.ref a)
  | .type n => some (.ty n)
  | _ => none
theorem RelV.abs {x : V} {u : Value} (r : RelV x u) : absV u = some x := by
  cases x with
  | non => cases r; rfl
  | bl _ => cases r; rfl
  | int _ => obtain ⟨t, rfl⟩ := r; rfl
  | str _ => obtain ⟨t, rfl⟩ := r; rfl
  | byt _ => obtain ⟨t, rfl⟩ := r; rfl
  | flt _ => obtain ⟨t, rfl⟩ := r; rfl
  | ref _ => cases r; rfl
  | ty _ => cases r; rfl
theorem RelV.inj {x y : V} {u : Value} (r : RelV x u) (q : RelV y u) : x = y := Option.some.inj (r.abs.symm.trans q.abs)
theorem Vals.inj : ∀ {xs ys : List V} {us : List Value}, Vals xs us → Vals ys us → xs = ys
  | _, _, _, .nil, .nil => rfl
  | _, _, _, .cons r t, .cons r' t' => by rw [r.inj r', Vals.inj t t']
section
variable {X : Cx} {pins : List (Addr × Obj)} {σ : St} {H : Hp} {s : Shared} {a : Addr} {xs ys : List V}
theorem SqL.of {K : PySem.W.Frag} (h : H a = some (.lst xs)) : SqL K H a xs := .inl (.inl h)
theorem SqT.of {K : PySem.W.Frag} (h : H a = some (.tup xs)) : SqT K H a xs := .inl (.inl h)
theorem Inv.list (I : Inv X pins σ H s) (h : SqL X.K H a xs) : ∃ its : List Value, Vals xs its ∧ PlainL s.heap a its.toArray ∧ xs.length ≤ sizeLine := by
  rcases h with h | ⟨o, its, n, hk, hc, hd, hs, hz, r⟩
  · obtain ⟨z, its, n, r, e⟩ := h.ok I.hok
    exact ⟨its, r, ⟨_, n, e, rfl, rfl, rfl⟩, z⟩
  · refine ⟨its.toList, r, ⟨o, n, I.kIn a o hk, hc, hd, by simpa using hs⟩, ?_⟩
    have e := r.length
    simp only [Array.length_toList] at e
    omega
theorem Inv.tuple (I : Inv X pins σ H s) (h : SqT X.K H a xs) : ∃ its : List Value, Vals xs its ∧ IsTup s.heap a its.toArray ∧ xs.length ≤ sizeLine := by
  rcases h with h | ⟨o, its, n, hk, hc, hs, hz, r⟩
  · obtain ⟨z, its, r, p⟩ := h.ok I.hok
    exact ⟨its, r, p, z⟩
  · refine ⟨its.toList, r, ⟨o, I.kIn a o hk, hc, n, by simpa using hs⟩, ?_⟩
    have e := r.length
    simp only [Array.length_toList] at e
    omega
theorem Inv.list_inj (I : Inv X pins σ H s) (h : SqL X.K H a xs) (h' : SqL X.K H a ys) : xs = ys := by
  obtain ⟨its, r, ⟨o, n, e, _, _, d⟩, _⟩ := I.list h
  obtain ⟨its', r', ⟨o', n', e', _, _, d'⟩, _⟩ := I.list h'
  rw [e] at e'; cases e'
  rw [d] at d'
  injection d' with d1 _
  have : its = its' := by simpa using congrArg Array.toList d1
  subst this
  exact r.inj r'
theorem Inv.tuple_inj (I : Inv X pins σ H s) (h : SqT X.K H a xs) (h' : SqT X.K H a ys) : xs = ys := by
  obtain ⟨its, r, ⟨o, e, _, n, d⟩, _⟩ := I.tuple h
  obtain ⟨its', r', ⟨o', e', _, n', d'⟩, _⟩ := I.tuple h'
  rw [e] at e'; cases e'
  rw [d] at d'
  injection d' with d1 _
  have : its = its' := by simpa using congrArg Array.toList d1
  subst this
  exact r.inj r'
end

/-! ### another wish about exceptions -/
abbrev Cx.wish (X : Cx) (E : Value → Shared → Prop) : Cx := { X with xe := E }
/-- no exception leaves -/
abbrev Cx.nox (X : Cx) : Cx := X.wish fun _ _ => False
theorem Cx.Ok.wish {X : Cx} (ok : X.Ok) (E : Value → Shared → Prop) : (X.wish E).Ok :=
  ⟨ok.mod, ok.kind, ok.glob, ok.blt, ok.above, ok.inj, ok.has, ok.cab, ok.hd, ok.frames, ok.stk, ok.exf, ok.bs, ok.bsz, ok.noex, ok.exfs, ok.funs, ok.frf⟩
theorem Cx.Ok.unwish {X : Cx} {E : Value → Shared → Prop} (ok : (X.wish E).Ok) : X.Ok :=
  ⟨ok.mod, ok.kind, ok.glob, ok.blt, ok.above, ok.inj, ok.has, ok.cab, ok.hd, ok.frames, ok.stk, ok.exf, ok.bs, ok.bsz, ok.noex, ok.exfs, ok.funs, ok.frf⟩
section
variable {X : Cx} {pins : List (Addr × Obj)} {σ : St} {H : Hp} {s : Shared} {E : Value → Shared → Prop}
theorem Inv.wish (I : Inv X pins σ H s) (E : Value → Shared → Prop) : Inv (X.wish E) pins σ H s := ⟨I.ok.wish E, I.os, I.bare, I.base, I.loc, I.cell, I.free, I.freeC, I.pin, I.hok, I.len⟩
theorem Inv.unwish (I : Inv (X.wish E) pins σ H s) : Inv X pins σ H s := ⟨I.ok.unwish, I.os, I.bare, I.base, I.loc, I.cell, I.free, I.freeC, I.pin, I.hok, I.len⟩
theorem SP.unwish {D : Ends} {f : Flow} {s' : Shared} (h : SP (X.wish E) pins D f s') : SP X pins D f s' := by
  cases f with
  | next => obtain ⟨σ', H', I, q⟩ := h; exact ⟨σ', H', I.unwish, q⟩
  | brk => obtain ⟨σ', H', I, q⟩ := h; exact ⟨σ', H', I.unwish, q⟩
  | cont => obtain ⟨σ', H', I, q⟩ := h; exact ⟨σ', H', I.unwish, q⟩
  | ret u => obtain ⟨v, σ', H', I, r, q⟩ := h; exact ⟨v, σ', H', I.unwish, r, q⟩
theorem PE.nox {e : Expr} {t : TE} (h : PE X.nox e t) : PE X e t := fun pins s σ H Q I hw =>
  wpAny_mono (h pins s σ H Q (I.wish _) hw) (fun _ _ ⟨v, H', I', r, q⟩ => ⟨v, H', I'.unwish, r, q⟩) fun _ _ z => False.elim z
theorem PT.nox {e : Expr} {t : TT} (h : PT X.nox e t) : PT X e t := fun pins s σ H Q I hw =>
  wpAny_mono (h pins s σ H Q (I.wish _) hw) (fun _ _ ⟨H', I', q⟩ => ⟨H', I'.unwish, q⟩) fun _ _ z => False.elim z
theorem PSs.nox {st : List Stmt} {t : TS} (h : PSs X.nox st t) : PSs X st t := fun pins s σ H D I hw =>
  wpAny_mono (h pins s σ H D (I.wish _) hw) (fun _ _ q => q.unwish) fun _ _ z => False.elim z
end

/-! ### blocks and small statements -/
section
variable {X : Cx} {st : Stmt} {rest : List Stmt} {t u : TS} {e : Expr} {te : TE} {pos : Pos}
def tNext : TS := fun D σ H => D.nx σ H
def tSeq (t u : TS) : TS := fun D σ H => t { D with nx := u D } σ H
theorem pss_nil : PSs X [] tNext := fun _ _ σ H _ I h => wpAny_execs_nil ⟨σ, H, I, h⟩
theorem pss_cons (h1 : PS X st t) (h2 : PSs X rest u) : PSs X (st :: rest) (tSeq t u) := by
  intro pins s σ H D I h
  refine wpAny_execs_cons (thn (h1 pins s σ H { D with nx := u D } I h) fun f s1 q => ?_)
  cases f with
  | next =>
    obtain ⟨σ', H', I', q⟩ := q
    exact h2 pins s1 σ' H' D I' q
  | ret v => exact q
  | brk => exact q
  | cont => exact q
theorem pss_one (h1 : PS X st t) : PSs X [st] t := by
  intro pins s σ H D I h
  refine wpAny_execs_cons (thn (h1 pins s σ H D I h) fun f s1 q => ?_)
  cases f with
  | next => exact wpAny_execs_nil q
  | ret v => exact q
  | brk => exact q
  | cont => exact q
def tBreak : TS := fun D σ H => D.bk σ H
def tCont : TS := fun D σ H => D.ct σ H
theorem ps_pass : PS X (.Pass pos) tNext := fun _ _ σ H _ I h => wpAny_Pass ⟨σ, H, I, h⟩
theorem ps_break : PS X (.Break pos) tBreak := fun _ _ σ H _ I h => wpAny_Break ⟨σ, H, I, h⟩
theorem ps_continue : PS X (.Continue pos) tCont := fun _ _ σ H _ I h => wpAny_Continue ⟨σ, H, I, h⟩
/-- in a def's body nothing is shown -/
theorem Inv.quiet {pins : List (Addr × Obj)} {σ : St} {H : Hp} {s : Shared} (I : Inv X pins σ H s) : interactive X.env = false := by simp [interactive, I.ok.kind]
/-- a docstring -/
theorem ps_doc {x j pos pos'} : PS X (.Expr (.Constant (.str x) j pos) pos') tNext := fun _ s σ H _ I h => wpAny_Expr (Calls.Constant_str (show SP X _ _ .next { s with toks := s.toks + 1 } from ⟨σ, H, I.tok _, h⟩)) I.quiet
/-- an expression whose value is dropped -/
def tDrop (te : TE) : TS := fun D σ H => te σ H fun _ H1 => D.nx σ H1
theorem ps_expr (he : PE X e te) (hs : swapsWith e none pos.line X.env = pure false := by rfl) : PS X (.Expr e pos) (tDrop te) := by
  intro pins s σ H D I h
  exact wpAny_Expr_any (thn (he pins s σ H _ I h) fun v s1 ⟨x, H1, I1, r1, q1⟩ => ⟨σ, H1, I1, q1⟩) I.quiet hs
def tRet (te : TE) : TS := fun D σ H => te σ H D.rt
theorem ps_ret (he : PE X e te) : PS X (.Return (some e) pos) (tRet te) := by
  intro pins s σ H D I h
  exact wpAny_Return_some (thn (he pins s σ H _ I h) fun v s1 ⟨x, H1, I1, r1, q1⟩ => ⟨x, σ, H1, I1, r1, q1⟩)
def tRetN : TS := fun D _ H => D.rt .non H
theorem ps_retN : PS X (.Return none pos) tRetN := fun _ _ σ H _ I h => wpAny_Return_none ⟨.non, σ, H, I, rfl, h⟩
def tIfS (c : TT) (t u : TS) : TS := fun D σ H => c σ H fun b H1 => if b = true then t D σ H1 else u D σ H1
theorem ps_if {c : Expr} {a b : List Stmt} {tc : TT} (hc : PT X c tc) (ha : PSs X a t) (hb : PSs X b u) : PS X (.If c a b pos) (tIfS tc t u) := by
  intro pins s σ H D I h
  refine wpAny_If (thn (hc pins s σ H _ I h) fun d s1 ⟨H1, I1, q1⟩ => ?_)
  cases d with
  | true => exact ha pins s1 σ H1 D I1 q1
  | false => exact hb pins s1 σ H1 D I1 q1
/-- code that the proof never comes to -/
def tNever : TS := fun _ _ _ => False
theorem ps_never : PS X st tNever := fun _ _ _ _ _ _ h => h.elim
theorem pss_never {sts : List Stmt} : PSs X sts tNever := fun _ _ _ _ _ _ h => h.elim
end

/-! ### targets -/
abbrev TG := V → St → Hp → (St → Hp → Prop) → Prop
abbrev TGs := List V → St → Hp → (St → Hp → Prop) → Prop
def PG (X : Cx) (target : Expr) (t : TG) : Prop :=
  ∀ (pins : List (Addr × Obj)) (s : Shared) (σ : St) (H : Hp) (v : V) (u : Value) (Q : St → Hp → Prop), Inv X pins σ H s → RelV v u → t v σ H Q →
    wpAny (model X.prog X.w) X.A (assign target X.env u) (fun _ s' => ∃ σ' H', Inv X pins σ' H' s' ∧ Q σ' H') X.xe s
/-- several targets, one after another -/
def PGs (X : Cx) (ts : List Expr) (t : TGs) : Prop :=
  ∀ (pins : List (Addr × Obj)) (s : Shared) (σ : St) (H : Hp) (vs : List V) (us : List Value) (Q : St → Hp → Prop), Inv X pins σ H s → Vals vs us → t vs σ H Q →
    wpAny (model X.prog X.w) X.A (assignInOrder ((assignEach ts X.env).map (·.2)) us) (fun _ s' => ∃ σ' H', Inv X pins σ' H' s' ∧ Q σ' H') X.xe s
/-- o[i] = v, by values -/
abbrev TSet := V → V → V → Hp → (Hp → Prop) → Prop
def PSet (X : Cx) (t : TSet) : Prop :=
  ∀ (pins : List (Addr × Obj)) (s : Shared) (σ : St) (H : Hp) (o i v : V) (ov iv u : Value) (Q : Hp → Prop), Inv X pins σ H s → RelV o ov → RelV i iv → RelV v u → t o i v H Q →
    wpAny (model X.prog X.w) X.A (setItem ov iv u) (fun _ s' => ∃ H', Inv X pins σ H' s' ∧ Q H') X.xe s
/-- a op= b, by values -/
abbrev TIp := V → V → Hp → VK → Prop
def PIp (X : Cx) (op : Operator) (t : TIp) : Prop :=
  ∀ (pins : List (Addr × Obj)) (s : Shared) (σ : St) (H : Hp) (x y : V) (v u : Value) (Q : VK), Inv X pins σ H s → RelV x v → RelV y u → t x y H Q →
    wpAny (model X.prog X.w) X.A (inplaceOp op v u) (EP X pins σ Q) X.xe s
section
variable {X : Cx} {pos : Pos}
def gName (i : Nat) : TG := fun v σ H Q => Q (σ.set i (some v)) H
theorem pg_name {i : Nat} {x : Str} (hN : X.N.Nodup) (hi : X.N[i]? = some x) (hx : Loc X.env.scope x) (hf : X.fn x = true ∨ X.env.scope.names.lookup x = some .local := by first | exact .inl rfl | exact .inr rfl | assumption) : PG X (.Name x pos) (gName i) := by
  intro pins s σ H v u Q I r h
  exact wpAny_assign_Name (store_ok I hN hi hx r (fun s' I' => ⟨_, H, I', h⟩) hf)
def gNil : TGs := fun vs σ H Q => vs = [] ∧ Q σ H
def gCons (t : TG) (u : TGs) : TGs := fun vs σ H Q => ∃ v r, vs = v :: r ∧ t v σ H fun σ' H' => u r σ' H' Q
theorem pgs_nil : PGs X [] gNil := by
  intro pins s σ H vs us Q I r h
  obtain ⟨e, h⟩ := h
  subst e
  cases r
  exact assignInOrder_nil ⟨σ, H, I, h⟩
theorem pgs_cons {e : Expr} {es : List Expr} {t : TG} {u : TGs} (h1 : PG X e t) (h2 : PGs X es u)
    (hs : (assignEach (e :: es) X.env).map (·.2) = assign e X.env :: (assignEach es X.env).map (·.2) := by rfl) : PGs X (e :: es) (gCons t u) := by
  intro pins s σ H vs us Q I r h
  obtain ⟨v, vr, e1, h⟩ := h
  subst e1
  cases r with
  | cons r rr =>
    rw [hs]
    refine assignInOrder_cons (thn (h1 pins s σ H _ _ _ I r h) fun _ s1 ⟨σ1, H1, I1, q1⟩ => ?_)
    exact h2 pins s1 σ1 H1 _ _ Q I1 rr q1
/-- (a, b, ..) = a tuple of that length -/
def gTup (K : PySem.W.Frag) (n : Nat) (t : TGs) : TG := fun v σ H Q => ∃ a xs, v = .ref a ∧ SqT K H a xs ∧ xs.length = n ∧ t xs σ H Q
theorem pg_tup {es : List Expr} {k : Nat} {t : TGs} {n : Nat} (hc : X.calm = true) (h : PGs X es t)
    (hn : (assignEach es X.env).length = n := by rfl) (hst : (assignEach es X.env).findIdx? (·.1) = none := by rfl) : PG X (.Tuple es k pos) (gTup X.K n t) := by
  intro pins s σ H v u Q I r hw
  obtain ⟨a, xs, e1, hq, hl, hw⟩ := hw
  subst e1
  cases r
  obtain ⟨its, rv, ht, hz⟩ := I.tuple hq
  refine assign_Tuple_tuple (I.ok.hd hc) ht (by simp [hn, ← hl, rv.length]) hst fun h' hx => ?_
  have I1 : Inv X pins σ H { s with heap := h' } := I.kept (t' := s.toks) fun b o e => hx b o (Nat.ne_of_lt (Heap.lt_size e)) e
  exact h pins _ σ H xs _ Q I1 (by simpa using rv) hw
/-- o[i] = .. -/
def gSub (to ti : TE) (t : TSet) : TG := fun v σ H Q => to σ H fun o H1 => ti σ H1 fun i H2 => t o i v H2 fun H3 => Q σ H3
theorem pg_sub {o i : Expr} {to ti : TE} {t : TSet} (ho : PE X o to) (hi : PE X i ti) (hs : PSet X t)
    (ha : ∀ v, assign (.Subscript o i pos) X.env v = (do
      let ov ← holding [v] (eval o X.env)
      let iv ← holding [v, ov] (eval i X.env)
      standAt pos
      holding [v, ov, iv] (setItem ov iv v)
      release [v, ov, iv] []) := by intro _; rfl) : PG X (.Subscript o i pos) (gSub to ti t) := by
  intro pins s σ H v u Q I r h
  rw [ha]
  refine wpAny_bind (wpAny_holding (thn (ho pins s σ H _ I h) fun ov s1 ⟨x, H1, I1, r1, q1⟩ => ?_))
  refine wpAny_bind (wpAny_holding (thn (hi pins s1 σ H1 _ I1 q1) fun iv s2 ⟨y, H2, I2, r2, q2⟩ => ?_))
  refine wpAny_bind (wpAny_standAt (wpAny_bind (wpAny_holding (thn (hs pins s2 σ H2 x y v ov iv u _ I2 r1 r2 r q2) fun _ s3 ⟨H3, I3, q3⟩ => ?_))))
  exact wpAny_release ⟨σ, H3, I3, q3⟩
/-- target = value -/
def tAsg (te : TE) (g : TG) : TS := fun D σ H => te σ H fun x H1 => g x σ H1 D.nx
theorem ps_asg {tg e : Expr} {te : TE} {g : TG} (he : PE X e te) (hg : PG X tg g) (hs : swapsWithSole [tg] e pos.line X.env = pure false := by rfl) (hw : swappedStores [tg] e X.env = pure none := by rfl)
    (h1 : (assignEach [tg] X.env).map (·.2) = [assign tg X.env] := by rfl) : PS X (.Assign [tg] e pos) (tAsg te g) := by
  intro pins s σ H D I h
  refine wpAny_Assign_stores (thn (he pins s σ H _ I h) fun v s1 ⟨x, H1, I1, r1, q1⟩ => ?_) hs hw
  rw [h1]
  exact thn (hg pins s1 σ H1 x v _ I1 r1 q1) fun _ s2 q => q
/-- name = value -/
theorem ps_set {i : Nat} {x : Str} {e : Expr} {te : TE} {pos' : Pos} (hN : X.N.Nodup) (hi : X.N[i]? = some x) (hx : Loc X.env.scope x) (he : PE X e te) (hs : swapsWith e (some (.Name x pos')) pos.line X.env = pure false := by rfl) (hf : X.fn x = true ∨ X.env.scope.names.lookup x = some .local := by first | exact .inl rfl | exact .inr rfl | assumption) :
    PS X (.Assign [.Name x pos'] e pos) (tAsg te (gName i)) := by
  intro pins s σ H D I h
  refine wpAny_Assign_Name (thn (he pins s σ H _ I h) fun v s1 ⟨y, H1, I1, r1, q1⟩ => ?_) hs
  exact store_ok I1 hN hi hx r1 (fun s2 I2 => ⟨_, H1, I2, q1⟩) hf
/-- a, b = x, y with plain local names: stored from the right; the pair itself is not tracked (the opening rows as in PyProof/Rows/TupAssign.lean:23) -/
def tPar (i j : Nat) (ta : TA) : TS := fun D σ H => ta σ H fun vs H1 => ∃ v w, vs = [v, w] ∧ D.nx ((σ.set i (some v)).set j (some w)) H1
theorem ps_par {i j : Nat} {x y : Str} {a b : Expr} {ta : TA} {px py pt : Pos} {kt k2 pt2} (hc : X.calm = true) (hN : X.N.Nodup) (hi : X.N[i]? = some x) (hj : X.N[j]? = some y) (hij : i ≠ j)
    (hx : X.env.scope.names.lookup x = some .local) (hy : X.env.scope.names.lookup y = some .local) (ha : PA X [a, b] ta)
    (hw : swappedStores [.Tuple [.Name x px, .Name y py] kt pt] (.Tuple [a, b] k2 pt2) X.env = pure (some [x, y]))
    (hs : swapsWithSole [.Tuple [.Name x px, .Name y py] kt pt] (.Tuple [a, b] k2 pt2) pos.line X.env = pure false := by rfl) :
    PS X (.Assign [.Tuple [.Name x px, .Name y py] kt pt] (.Tuple [a, b] k2 pt2) pos) (tPar i j ta) := by
  intro pins s σ H D I h
  rw [exec_Assign_arm]
  refine wpAny_bind (wpAny_standAt ?_)
  rw [hs]
  refine wpAny_bind (wpAny_pure ?_)
  rw [if_neg (by decide)]
  refine wpAny_bind (Tuple_ (thn (ha _ pins s σ H _ I h) fun us s1 ⟨vs, H1, I1, r1, q1⟩ => ?_))
  obtain ⟨v, w, e1, q1⟩ := q1
  subst e1
  obtain ⟨u1, u2, rfl, rv, rw'⟩ : ∃ u1 u2, us = [u1, u2] ∧ RelV v u1 ∧ RelV w u2 := by
    cases r1 with
    | cons p q =>
      cases q with
      | cons p' q' =>
        cases q'
        exact ⟨_, _, rfl, p, p'⟩
  refine wpAny_newObj_type ?_ (by show 2 ≤ sizeLine; decide)
  have I2 : Inv X pins σ H1 { s1 with heap := s1.heap.push { cls := .type "tuple", data := .seq [u1, u2].toArray } } := I1.kept (t' := s1.toks) fun b o e => Heap.get?_push_of_some _ e
  rw [hw]
  refine wpAny_bind (wpAny_pure ?_)
  show wpAny (model X.prog X.w) X.A (do rule "assign.swapped-stores"; let items ← unpackItems (.ref s1.heap.objs.size) 2 none; assignInOrder [fun v => bindName X.env y v, fun v => bindName X.env x v] items.reverse; pure Flow.next) _ _ _
  refine wpAny_bind (wpAny_rule (wpAny_bind (unpackItems_tuple (items := #[u1, u2]) (I.ok.hd hc) (IsTup.new s1.heap _) fun h' hx' => ?_)))
  have I3 := I2.kept (h' := h') (t' := s1.toks) fun b o e => hx' b o (Nat.ne_of_lt (Heap.lt_size e)) e
  show wpAny _ _ (assignInOrder [fun v => bindName X.env y v, fun v => bindName X.env x v] [u2, u1] >>= fun _ => pure Flow.next) _ _ _
  refine wpAny_bind (assignInOrder_cons (wpAny_bindName (store_ok I3 hN hj (.inl hy) rw' (fun s2 I4 => ?_) (.inr hy))))
  refine assignInOrder_cons (wpAny_bindName (store_ok I4 hN hi (.inl hx) rv (fun s3 I5 => assignInOrder_nil (wpAny_pure ?_)) (.inr hx)))
  rw [List.set_comm _ _ (Ne.symm hij)] at I5
  exact ⟨_, H1, I5, q1⟩
/-- name op= e -/
def tAug (i : Nat) (te : TE) (ti : TIp) : TS := fun D σ H => ∃ x, σ[i]? = some (some x) ∧ te σ H fun y H1 => ti x y H1 fun z H2 => D.nx (σ.set i (some z)) H2
theorem ps_aug {i : Nat} {x : Str} {e : Expr} {te : TE} {op : Operator} {ti : TIp} {pos' : Pos} (hN : X.N.Nodup) (hi : X.N[i]? = some x) (hx : Loc X.env.scope x) (he : PE X e te) (ho : PIp X op ti) (hf : X.fn x = true ∨ X.env.scope.names.lookup x = some .local := by first | exact .inl rfl | exact .inr rfl | assumption) :
    PS X (.AugAssign (.Name x pos') op e pos) (tAug i te ti) := by
  intro pins s σ H D I h
  obtain ⟨v, e1, h⟩ := h
  obtain ⟨m, hn, hl⟩ := I.loc
  have vis : Vis X.env.scope x := by rcases hx with k | k; exact .inl k; exact .inr (.inl k)
  obtain ⟨u, r, l⟩ := hl i x v hi e1 vis
  refine wpAny_AugAssign_Name ?_
  have go : wpAny (model X.prog X.w) X.A (eval e X.env) (fun w s₂ => wpAny (model X.prog X.w) X.A (inplaceOp op u w) (fun r s₃ => wpAny (model X.prog X.w) X.A (storeName X.env x r) (fun _ => SP X pins D .next) X.xe s₃) X.xe s₂) X.xe s := by
    refine thn (he pins s σ H _ I h) fun w s1 ⟨y, H1, I1, r1, q1⟩ => ?_
    refine thn (ho pins s1 σ H1 v y u w _ I1 r r1 q1) fun z s2 ⟨zv, H2, I2, r2, q2⟩ => ?_
    exact store_ok I2 hN hi hx r2 (fun s3 I3 => ⟨_, H2, I3, q2⟩) hf
  rcases l with ⟨hk, hm⟩ | ⟨hk, c, hc, hcell⟩
  · exact wpAny_loadName_local I.ok.kind hk hn hm go
  · rcases hk with hk | hk
    · exact wpAny_loadName_cell I.ok.kind hk hc hcell go
    · rcases hx with k | k
      · have : X.env.scope.names.lookup x = some .free := hk
        rw [k] at this; cases this
      · have : X.env.scope.names.lookup x = some .free := hk
        rw [k] at this; cases this
/-- o[i] op= e -/
def tAugS (to ti te : TE) (tget : V → V → Hp → VK → Prop) (tip : TIp) (tset : TSet) : TS := fun D σ H => to σ H fun o H1 => ti σ H1 fun i H2 => tget o i H2 fun x H3 => te σ H3 fun y H4 => tip x y H4 fun z H5 => tset o i z H5 fun H6 => D.nx σ H6
/-- o[i], by values -/
def PGet (X : Cx) (t : V → V → Hp → VK → Prop) : Prop :=
  ∀ (pins : List (Addr × Obj)) (s : Shared) (σ : St) (H : Hp) (o i : V) (ov iv : Value) (Q : VK), Inv X pins σ H s → RelV o ov → RelV i iv → t o i H Q →
    wpAny (model X.prog X.w) X.A (getItem ov iv) (EP X pins σ Q) X.xe s
theorem ps_augS {o i e : Expr} {to ti te : TE} {tget : V → V → Hp → VK → Prop} {tip : TIp} {tset : TSet} {op : Operator} {tpos : Pos} (ho : PE X o to) (hi : PE X i ti) (hg : PGet X tget) (he : PE X e te) (hp : PIp X op tip) (hs : PSet X tset)
    (ha : ∀ ov iv new, augStore i ov iv new = (do holding [new, ov, iv] (setItem ov iv new); release [new, ov, iv] []; pure .next) := by intros; rfl) : PS X (.AugAssign (.Subscript o i tpos) op e pos) (tAugS to ti te tget tip tset) := by
  intro pins s σ H D I h
  refine wpAny_AugAssign_SubscriptAny (thn (ho pins s σ H _ I h) fun ov s1 ⟨x1, H1, I1, r1, q1⟩ => ?_) ha
  refine thn (hi pins s1 σ H1 _ I1 q1) fun iv s2 ⟨x2, H2, I2, r2, q2⟩ => ?_
  refine thn (hg pins s2 σ H2 x1 x2 ov iv _ I2 r1 r2 q2) fun old s3 ⟨x3, H3, I3, r3, q3⟩ => ?_
  refine thn (he pins s3 σ H3 _ I3 q3) fun v s4 ⟨x4, H4, I4, r4, q4⟩ => ?_
  refine thn (hp pins s4 σ H4 x3 x4 old v _ I4 r3 r4 q4) fun new s5 ⟨x5, H5, I5, r5, q5⟩ => ?_
  exact thn (hs pins s5 σ H5 x1 x2 x5 ov iv new _ I5 r1 r2 r5 q5) fun _ s6 ⟨H6, I6, q6⟩ => ⟨σ, H6, I6, q6⟩
/-- ints -/
def ipI (f : Int → Int → Int) : TIp := fun x y H Q => ∃ i j, x = .int i ∧ y = .int j ∧ Q (.int (f i j)) H
theorem ip_add : PIp X .Add (ipI fun i j => i + j) := by
  intro pins s σ H x y v u Q I r1 r2 h
  obtain ⟨i, j, e1, e2, q⟩ := h
  subst e1; subst e2
  obtain ⟨t, rfl⟩ := r1
  obtain ⟨t', rfl⟩ := r2
  exact iadd_int ⟨.int _, H, I.tok _, ⟨_, rfl⟩, q⟩
theorem ip_sub : PIp X .Sub (ipI fun i j => i - j) := by
  intro pins s σ H x y v u Q I r1 r2 h
  obtain ⟨i, j, e1, e2, q⟩ := h
  subst e1; subst e2
  obtain ⟨t, rfl⟩ := r1
  obtain ⟨t', rfl⟩ := r2
  exact isub_int ⟨.int _, H, I.tok _, ⟨_, rfl⟩, q⟩
end

/-! ### while -/
section
variable {X : Cx} {pos : Pos}
/-- the invariant W with its measure -/
def tWhile (c : TT) (tb : TS) : TS := fun D σ H => ∃ W : Nat → St → Hp → Prop, (∃ m, W m σ H) ∧ ∀ m σ H, W m σ H →
  c σ H fun b H1 => if b = true then ∃ N : St → Hp → Prop, (∀ σ' H', N σ' H' → ∃ m', m' < m ∧ W m' σ' H') ∧ tb { D with nx := N, ct := N, bk := D.nx } σ H1 else D.nx σ H1
theorem ps_while {c : Expr} {body : List Stmt} {tc : TT} {tb : TS} (hp : PassesOwn (model X.prog X.w) X.A X.env X.xe) (hc : PT X c tc) (hb : PSs X body tb) : PS X (.While c body [] pos) (tWhile tc tb) := by
  intro pins s σ H D I h
  obtain ⟨W, ⟨m0, w0⟩, turn⟩ := h
  refine wpAny_While (codeAny_whileLoop (fun n s' => ∃ σ' H', Inv X pins σ' H' s' ∧ W n σ' H') ?_ m0 ⟨σ, H, I, w0⟩)
  rintro n s1 ⟨σ1, H1, I1, w1⟩
  refine wpAny_passesOwn hp (thn (hc pins s1 σ1 H1 _ I1 (turn n σ1 H1 w1)) fun b s2 ⟨H2, I2, q2⟩ => ?_)
  cases b with
  | true =>
    obtain ⟨N, hN, q2⟩ := q2
    rw [if_pos rfl]
    refine wpAny_passesOwn hp (thn (hb pins s2 σ1 H2 _ I2 q2) fun f s3 q3 => ?_)
    cases f with
    | next =>
      obtain ⟨σ3, H3, I3, n3⟩ := q3
      obtain ⟨m', hm, w3⟩ := hN σ3 H3 n3
      exact ⟨m', hm, σ3, H3, I3, w3⟩
    | cont =>
      obtain ⟨σ3, H3, I3, n3⟩ := q3
      obtain ⟨m', hm, w3⟩ := hN σ3 H3 n3
      exact ⟨m', hm, σ3, H3, I3, w3⟩
    | brk => exact q3
    | ret v => exact q3
  | false =>
    rw [if_neg Bool.false_ne_true]
    exact wpAny_execs_nil ⟨σ1, H2, I2, q2⟩
end

/-! ### what a loop or a comprehension walks -/
/-- at turn i: it yields x (the heap may grow), or it stops -/
structure It where
  go : Nat → Hp → Prop
  yld : Nat → Hp → V → Hp → Prop
  stop : Nat → Hp → Prop
/-- the iterator's own objects may turn: they are not the frame's, not pinned, younger than the entry (or a comprehension's own) -/
def FpOk (X : Cx) (pins : List (Addr × Obj)) (H : Hp) (b : Addr) : Prop :=
  H b = none ∧ b ≠ X.env.locals ∧ b ∉ X.fs ∧ (b ∈ X.ex ∨ X.s₀.heap.objs.size ≤ b) ∧ (∀ x c, X.env.cells.lookup x = some c → c ≠ b) ∧ ∀ p ∈ X.pn ++ pins, p.1 ≠ b
theorem Inv.fpOk {X : Cx} {pins : List (Addr × Obj)} {σ : St} {H H' : Hp} {s : Shared} {b : Addr} (I : Inv X pins σ H s) (hb : s.heap.objs.size ≤ b) (hn : H' b = none) : FpOk X pins H' b := by
  refine ⟨hn, Nat.ne_of_gt (Nat.lt_of_lt_of_le I.lt hb), I.nofs hb, .inr (Nat.le_trans I.sz hb), fun x c e z => ?_, fun p hp z => ?_⟩
  · obtain ⟨v, q⟩ := I.cell x c e
    exact absurd (Nat.lt_of_lt_of_le q.lt (by rw [z]; exact hb)) (Nat.lt_irrefl _)
  · exact absurd (Nat.lt_of_lt_of_le (Heap.lt_size (I.pin p hp).1) (by rw [z]; exact hb)) (Nat.lt_irrefl _)
structure Turn (P : Program) (w : World) (K : PySem.W.Frag) (tg : Expr) (J : It) (fp : List Addr) (it : Addr) (tn : Nat → Heap → Prop) : Prop where
  mem : it ∈ fp
  obj : ∀ i h, tn i h → ∀ b ∈ fp, ∃ o, h.get? b = some o ∧ ∀ v, o.data ≠ .cell v
  keep : ∀ i h h', tn i h → (∀ b ∈ fp, ∀ o, h.get? b = some o → h'.get? b = some o) → tn i h'
  item : ∀ (X : Cx), X.prog = P → X.w = w → X.K = K → X.calm = true → ∀ (i : Nat) (pins : List (Addr × Obj)) (s : Shared) (σ : St) (H : Hp) (E : Value → Shared → Prop), Inv X pins σ H s → (∀ b ∈ fp, FpOk X pins H b) → tn i s.heap → J.go i H →
    wpAny (model P w) X.A (pyNext (.ref it)) (fun r s1 => ∃ u, r = some u ∧
      wpAny (model P w) X.A (letOwnedTupleGo tg (.ref it) u) (fun _ s2 => ∃ x H', Inv X pins σ H' s2 ∧ RelV x u ∧ J.yld i H x H' ∧ tn (i + 1) s2.heap ∧ ∀ b ∈ fp, H' b = none) E s1) E s
  done : ∀ (X : Cx), X.prog = P → X.w = w → X.K = K → X.calm = true → ∀ (i : Nat) (pins : List (Addr × Obj)) (s : Shared) (σ : St) (H : Hp) (E : Value → Shared → Prop), Inv X pins σ H s → (∀ b ∈ fp, FpOk X pins H b) → tn i s.heap → J.stop i H →
    wpAny (model P w) X.A (pyNext (.ref it)) (fun r s1 => r = none ∧ Inv X pins σ H s1) E s
  self : ∀ (A : Around) (i : Nat) (s : Shared) (Q : Value → Shared → Prop) (E : Value → Shared → Prop), tn i s.heap → Q (.ref it) s → wpAny (model P w) A (pyIter (.ref it)) Q E s
abbrev TI := St → Hp → (It → Hp → Prop) → Prop
/-- an iterator has come -/
def PIE (X : Cx) (pins : List (Addr × Obj)) (σ : St) (tg : Expr) (R : It → Hp → Prop) (itv : Value) (s2 : Shared) : Prop :=
  ∃ (it : Addr) (fp : List Addr) (tn : Nat → Heap → Prop) (J : It) (H' : Hp), itv = .ref it ∧ Inv X pins σ H' s2 ∧ Turn X.prog X.w X.K tg J fp it tn ∧ tn 0 s2.heap ∧ (∀ b ∈ fp, FpOk X pins H' b) ∧ R J H'
def PI (X : Cx) (tg iter : Expr) (wi : TI) : Prop :=
  ∀ (pins : List (Addr × Obj)) (s : Shared) (σ : St) (H : Hp) (R : It → Hp → Prop), Inv X pins σ H s → wi σ H R →
    wpAny (model X.prog X.w) X.A (eval iter X.env) (fun v s1 => wpAny (model X.prog X.w) X.A (pyIter v) (PIE X pins σ tg R) X.xe s1) X.xe s

/-- the step ahead of the store is nothing for an iterator that keeps no tuple -/
theorem go_of {M : Model} {A : Around} {E : Value → Shared → Prop} {s : Shared} {tg : Expr} {it : Addr} {u : Value} {o : Obj} {n : String} {vs : Array Value} {Q : Unit → Shared → Prop} (ho : s.heap.get? it = some o) (hc : o.cls = .type n) (hd : o.data = .fields vs)
    (hn : ["enumerate", "zip", "dict_itemiterator", "dict_reverseitemiterator", "odict_iterator", "itertools.zip_longest", "itertools.pairwise"].contains n = false) (hQ : Q () s) : wpAny M A (letOwnedTupleGo tg (.ref it) u) Q E s := by
  unfold letOwnedTupleGo
  cases tg <;> first
    | exact wpAny_pure hQ
    | (cases u <;> first
        | exact wpAny_pure hQ
        | (refine wpAny_bind (wpAny_load ho ?_)
           rw [hc, hd]
           show wpAny M A (if (["enumerate", "zip", "dict_itemiterator", "dict_reverseitemiterator", "odict_iterator", "itertools.zip_longest", "itertools.pairwise"].contains n && vs[0]? == some (rawInt _)) = true then _ else _) Q E s
           rw [if_neg (by intro h; rw [hn, Bool.false_and] at h; cases h)]
           exact wpAny_pure hQ))

/-- the list at a, as it stands at each turn (a loop may append to it) -/
def Itl (K : PySem.W.Frag) (a : Addr) : It :=
  ⟨fun i H => ∃ xs x, SqL K H a xs ∧ xs[i]? = some x, fun i H x H' => H' = H ∧ ∀ xs, SqL K H a xs → xs[i]? = some x, fun i H => ∃ xs, SqL K H a xs ∧ xs.length ≤ i⟩
def Itt (K : PySem.W.Frag) (a : Addr) : It :=
  ⟨fun i H => ∃ xs x, SqT K H a xs ∧ xs[i]? = some x, fun i H x H' => H' = H ∧ ∀ xs, SqT K H a xs → xs[i]? = some x, fun i H => ∃ xs, SqT K H a xs ∧ xs.length ≤ i⟩
/-- lo, lo + 1, .. (n of them) -/
def Itr (lo : Int) (n : Nat) : It := ⟨fun i _ => i < n, fun i H x H' => H' = H ∧ x = .int (lo + i), fun i _ => n ≤ i⟩
theorem turn_list {P : Program} {w : World} {K : PySem.W.Frag} {tg : Expr} (a it : Addr) : Turn P w K tg (Itl K a) [it] it (fun i h => h.IsListIter it a i) where
  mem := by simp
  obj := fun i h st b hb => by
    have e : b = it := by simpa using hb
    subst e
    obtain ⟨o, e, c, d⟩ := st
    exact ⟨o, e, fun v z => by rw [d] at z; cases z⟩
  keep := fun i h h' st k => st.at fun o e => k it (by simp) o e
  item := by
    intro X hP hw hK hc i pins s σ H E I hf st hg
    subst hP hw hK
    obtain ⟨xs, x, hq, hx⟩ := hg
    obtain ⟨its, rv, p, hz⟩ := I.list hq
    obtain ⟨u, hu, ru⟩ := rv.get hx
    obtain ⟨f0, f1, f2, f3, f4, f5⟩ := hf it (by simp)
    refine wpAny_pyNext_list_item st p.isList (x := u) (by simpa using hu) fun h' st' sb => ?_
    have I1 : Inv X pins σ H { s with heap := h' } := I.turned (t' := s.toks) (fun b o hb e => (sb.2 b hb).trans e) f0 f1 f3 f4 f5
    obtain ⟨o, e, c, d⟩ := id st'
    exact ⟨u, rfl, go_of (s := { s with heap := h' }) e c d (by decide) ⟨x, H, I1, ru, ⟨rfl, fun ys hy => by rw [I.list_inj hy hq]; exact hx⟩, st', fun b hb => (hf b hb).1⟩⟩
  done := by
    intro X hP hw hK hc i pins s σ H E I hf st hg
    subst hP hw hK
    obtain ⟨xs, hq, hx⟩ := hg
    obtain ⟨its, rv, p, hz⟩ := I.list hq
    obtain ⟨f0, f1, f2, f3, f4, f5⟩ := hf it (by simp)
    have hl := rv.length
    exact wpAny_pyNext_list_end (I.ok.hd hc) st p.isList (by simp; omega) fun h' eb => ⟨rfl, I.turned (t' := s.toks) (fun b o hb e => eb b o hb e) f0 f1 f3 f4 f5⟩
  self := fun _ _ _ _ _ st h => wpAny_pyIter_listiter st h
theorem turn_tuple {P : Program} {w : World} {K : PySem.W.Frag} {tg : Expr} (a it : Addr) : Turn P w K tg (Itt K a) [it] it (fun i h => h.IsTupleIter it a i) where
  mem := by simp
  obj := fun i h st b hb => by
    have e : b = it := by simpa using hb
    subst e
    obtain ⟨o, e, c, d⟩ := st
    exact ⟨o, e, fun v z => by rw [d] at z; cases z⟩
  keep := fun i h h' st k => st.at fun o e => k it (by simp) o e
  item := by
    intro X hP hw hK hc i pins s σ H E I hf st hg
    subst hP hw hK
    obtain ⟨xs, x, hq, hx⟩ := hg
    obtain ⟨its, rv, p, hz⟩ := I.tuple hq
    obtain ⟨u, hu, ru⟩ := rv.get hx
    obtain ⟨f0, f1, f2, f3, f4, f5⟩ := hf it (by simp)
    refine wpAny_pyNext_tuple_item st (show s.heap.IsTuple a its.toArray from p) (x := u) (by simpa using hu) fun h' st' sb => ?_
    have I1 : Inv X pins σ H { s with heap := h' } := I.turned (t' := s.toks) (fun b o hb e => (sb.2 b hb).trans e) f0 f1 f3 f4 f5
    obtain ⟨o, e, c, d⟩ := id st'
    exact ⟨u, rfl, go_of (s := { s with heap := h' }) e c d (by decide) ⟨x, H, I1, ru, ⟨rfl, fun ys hy => by rw [I.tuple_inj hy hq]; exact hx⟩, st', fun b hb => (hf b hb).1⟩⟩
  done := by
    intro X hP hw hK hc i pins s σ H E I hf st hg
    subst hP hw hK
    obtain ⟨xs, hq, hx⟩ := hg
    obtain ⟨its, rv, p, hz⟩ := I.tuple hq
    obtain ⟨f0, f1, f2, f3, f4, f5⟩ := hf it (by simp)
    have hl := rv.length
    exact wpAny_pyNext_tuple_end (I.ok.hd hc) st (show s.heap.IsTuple a its.toArray from p) (by simp; omega) fun h' eb => ⟨rfl, I.turned (t' := s.toks) (fun b o hb e => eb b o hb e) f0 f1 f3 f4 f5⟩
  self := fun _ _ _ _ _ st h => wpAny_pyIter_tupleiter st h
theorem turn_range {P : Program} {w : World} {K : PySem.W.Frag} {tg : Expr} (it : Addr) (lo : Int) (n : Nat) : Turn P w K tg (Itr lo n) [it] it (fun i h => IsRangeIter h it (lo + (i : Nat) * 1) ((n : Int) - (i : Nat)) 1) where
  mem := by simp
  obj := fun i h st b hb => by
    have e : b = it := by simpa using hb
    subst e
    exact ⟨_, st, fun v z => by
      have z' : Data.fields _ = Data.cell v := z
      cases z'⟩
  keep := fun i h h' st k => k it (by simp) _ st
  item := by
    intro X hP hw hK hc i pins s σ H E I hf st hg
    subst hP hw hK
    obtain ⟨f0, f1, f2, f3, f4, f5⟩ := hf it (by simp)
    have W := Walks.range (prog := X.prog) (w := X.w) (I.ok.hd hc) it lo 1 n
    refine W.item i s _ _ hg st fun v h' tk hv st' kk => ?_
    obtain ⟨t, rfl⟩ := hv
    have I1 : Inv X pins σ H { s with heap := h', toks := tk } := I.turned (fun b o hb e => kk b o (by simpa using hb) e) f0 f1 f3 f4 f5
    refine ⟨_, rfl, go_of (s := { s with heap := h', toks := tk }) (n := "range_iterator") st' rfl rfl (by decide) ⟨.int (lo + i), H, I1, ⟨t, ?_⟩, ⟨rfl, rfl⟩, st', fun b hb => (hf b hb).1⟩⟩
    rw [Int.mul_one]
  done := by
    intro X hP hw hK hc i pins s σ H E I hf st hg
    subst hP hw hK
    obtain ⟨f0, f1, f2, f3, f4, f5⟩ := hf it (by simp)
    exact wpAny_pyNext_range_end (I.ok.hd hc) st (by have : n ≤ i := hg; omega) fun h' eb => ⟨rfl, I.turned (t' := s.toks) (fun b o hb e => eb b o hb e) f0 f1 f3 f4 f5⟩
  self := fun _ _ _ _ _ st h => wpAny_pyIter_rangeiter st h
end L2

namespace L2
open PySem PySem.Spec PyProof.Rows
section
variable {X : Cx} {tg : Expr}
def iList (K : PySem.W.Frag) (tl : TE) : TI := fun σ H R => tl σ H fun x H1 => ∃ a, x = .ref a ∧ (∃ xs, SqL K H1 a xs) ∧ R (Itl K a) H1
def iTup (K : PySem.W.Frag) (tl : TE) : TI := fun σ H R => tl σ H fun x H1 => ∃ a, x = .ref a ∧ (∃ xs, SqT K H1 a xs) ∧ R (Itt K a) H1
theorem pi_list {l : Expr} {tl : TE} (hl : PE X l tl) : PI X tg l (iList X.K tl) := by
  intro pins s σ H R I h
  refine thn (hl pins s σ H _ I h) fun v s1 ⟨x, H1, I1, r1, q1⟩ => ?_
  obtain ⟨a, e, ⟨xs, hq⟩, q⟩ := q1
  subst e
  cases r1
  obtain ⟨its, rv, p, hz⟩ := I1.list hq
  refine wpAny_pyIter_list p.isList ?_
  refine ⟨s1.heap.objs.size, [s1.heap.objs.size], _, _, H1, rfl, I1.kept (t' := s1.toks) fun b o e => Heap.get?_push_of_some _ e, turn_list a _, ⟨_, Heap.get?_push_size _ rfl, rfl, rfl⟩, fun b hb => ?_, q⟩
  have e : b = s1.heap.objs.size := by simpa using hb
  subst e
  exact I1.fpOk (Nat.le_refl _) (I1.hok.fresh (Nat.le_refl _))
theorem pi_tup {l : Expr} {tl : TE} (hl : PE X l tl) : PI X tg l (iTup X.K tl) := by
  intro pins s σ H R I h
  refine thn (hl pins s σ H _ I h) fun v s1 ⟨x, H1, I1, r1, q1⟩ => ?_
  obtain ⟨a, e, ⟨xs, hq⟩, q⟩ := q1
  subst e
  cases r1
  obtain ⟨its, rv, p, hz⟩ := I1.tuple hq
  refine wpAny_pyIter_tuple (show s1.heap.IsTuple a its.toArray from p) ?_
  refine ⟨s1.heap.objs.size, [s1.heap.objs.size], _, _, H1, rfl, I1.kept (t' := s1.toks) fun b o e => Heap.get?_push_of_some _ e, turn_tuple a _, ⟨_, Heap.get?_push_size _ rfl, rfl, rfl⟩, fun b hb => ?_, q⟩
  have e : b = s1.heap.objs.size := by simpa using hb
  subst e
  exact I1.fpOk (Nat.le_refl _) (I1.hok.fresh (Nat.le_refl _))
/-- a range object just made, walked -/
theorem range_it {pins : List (Addr × Obj)} {σ : St} {H : Hp} {s : Shared} {R : It → Hp → Prop} {E : Value → Shared → Prop} {lo hi : Int} {t u v : Tok} {tk : Nat} (I : Inv X pins σ H s) (h1 : -(2 ^ 62) ≤ lo) (h2 : lo < 2 ^ 62) (h3 : -(2 ^ 62) ≤ hi) (h4 : hi < 2 ^ 62)
    (q : R (Itr lo (hi - lo).toNat) H) : wpAny (model X.prog X.w) X.A (pyIter (.ref s.heap.objs.size)) (PIE X pins σ tg R) E { s with heap := s.heap.push { cls := .type "range", data := .fields #[.int lo t, .int hi u, .int 1 v] }, toks := tk } := by
  refine wpAny_pyIter_range (IsRange.new ..) (small_one h1 h2 h3 h4) ?_
  have I1 : Inv X pins σ H { s with heap := s.heap.push { cls := .type "range", data := .fields #[.int lo t, .int hi u, .int 1 v] }, toks := tk } := I.kept fun b o e => Heap.get?_push_of_some _ e
  refine ⟨(s.heap.push { cls := .type "range", data := .fields #[.int lo t, .int hi u, .int 1 v] }).objs.size, [(s.heap.push { cls := .type "range", data := .fields #[.int lo t, .int hi u, .int 1 v] }).objs.size], _, _, H, rfl,
    I1.kept (t' := tk) fun b o e => Heap.get?_push_of_some _ e, turn_range _ lo (hi - lo).toNat, ?_, fun b hb => ?_, q⟩
  · have e1 : lo + ((0 : Nat) : Int) * 1 = lo := by simp
    have e2 : (((hi - lo).toNat : Nat) : Int) - ((0 : Nat) : Int) = Builtin.Range.rangeSize lo hi 1 := by rw [rangeSize_one]; split <;> omega
    show IsRangeIter _ _ (lo + ((0 : Nat) : Int) * 1) ((((hi - lo).toNat : Nat) : Int) - ((0 : Nat) : Int)) 1
    rw [e1, e2]
    exact Heap.get?_push_size _ rfl
  · have e : b = (s.heap.push { cls := .type "range", data := .fields #[.int lo t, .int hi u, .int 1 v] }).objs.size := by simpa using hb
    subst e
    exact I1.fpOk (Nat.le_refl _) (I1.hok.fresh (Nat.le_refl _))
def iRng1 (ta : TA) : TI := fun σ H R => ta σ H fun vs H1 => ∃ j : Int, vs = [.int j] ∧ -(2 ^ 62) ≤ j ∧ j < 2 ^ 62 ∧ R (Itr 0 j.toNat) H1
def iRng2 (ta : TA) : TI := fun σ H R => ta σ H fun vs H1 => ∃ i j : Int, vs = [.int i, .int j] ∧ (-(2 ^ 62) ≤ i ∧ i < 2 ^ 62 ∧ -(2 ^ 62) ≤ j ∧ j < 2 ^ 62) ∧ R (Itr i (j - i).toNat) H1
theorem pi_range1 {a : Expr} {ta : TA} {p pos : Pos} (hg : Gl X "range") (hm : X.mg "range" = none) (ha : PA X [a] ta) (hs : starEach [a] X.env = [(false, eval a X.env)] := by rfl) : PI X tg (.Call (.Name "range" p) [a] [] pos) (iRng1 ta) := by
  intro pins s σ H R I h
  refine Call_ (ld_blt I hg hm boot_range (PyProof.Rows.callWith_type1 (thn (ha pos pins s σ H _ I h) fun us s1 ⟨vs, H1, I1, r1, q1⟩ => ?_) hs rfl))
  obtain ⟨j, e, q1, q2, q⟩ := q1
  subst e
  cases r1 with
  | cons r rr =>
    cases rr
    obtain ⟨t, rfl⟩ := r
    exact call_range_1 (range_it I1 (by omega) (by omega) q1 q2 (by simpa using q))
theorem pi_range2 {a b : Expr} {ta : TA} {p pos : Pos} (hg : Gl X "range") (hm : X.mg "range" = none) (ha : PA X [a, b] ta) (hs : starEach [a, b] X.env = [(false, eval a X.env), (false, eval b X.env)] := by rfl) (hs2 : starEach [b] X.env = [(false, eval b X.env)] := by rfl) :
    PI X tg (.Call (.Name "range" p) [a, b] [] pos) (iRng2 ta) := by
  intro pins s σ H R I h
  refine Call_ (ld_blt I hg hm boot_range (PyProof.Rows.callWith_type1 (thn (ha pos pins s σ H _ I h) fun us s1 ⟨vs, H1, I1, r1, q1⟩ => ?_) (by rw [hs, hs2]) (by rw [hs2]; rfl)))
  obtain ⟨i, j, e, ⟨q1, q2, q3, q4⟩, q⟩ := q1
  subst e
  cases r1 with
  | cons r rr =>
    cases rr with
    | cons r' rr =>
      cases rr
      obtain ⟨t, rfl⟩ := r
      obtain ⟨t', rfl⟩ := r'
      exact call_range_2 (range_it I1 q1 q2 q3 q4 q)

/-! ### for -/
/-- W: the invariant by the turn and a measure; N: what the body is to reach -/
def tFor (wi : TI) (g : TG) (tb : TS) : TS := fun D σ H => wi σ H fun J H1 => ∃ W : Nat → Nat → St → Hp → Prop, (∃ m, W 0 m σ H1) ∧ ∀ i m σ H, W i m σ H →
  (J.stop i H ∧ D.nx σ H) ∨ (J.go i H ∧ ∃ N : St → Hp → Prop, (∀ σ' H', N σ' H' → ∃ m', m' < m ∧ W (i + 1) m' σ' H') ∧ ∀ x H', J.yld i H x H' → g x σ H' fun σ2 H2 => tb { D with nx := N, ct := N, bk := D.nx } σ2 H2)
/-- the records at fp as they stand -/
def pinsAt (fp : List Addr) (h : Heap) : List (Addr × Obj) := fp.filterMap fun b => (h.get? b).map fun o => (b, o)
theorem mem_pinsAt {fp : List Addr} {h : Heap} {b : Addr} {o : Obj} (hb : b ∈ fp) (e : h.get? b = some o) : (b, o) ∈ pinsAt fp h := List.mem_filterMap.mpr ⟨b, hb, by rw [e]; rfl⟩
theorem of_pinsAt {fp : List Addr} {h : Heap} {p : Addr × Obj} (hp : p ∈ pinsAt fp h) : p.1 ∈ fp ∧ h.get? p.1 = some p.2 := by
  obtain ⟨b, hb, e⟩ := List.mem_filterMap.mp hp
  cases q : h.get? b with
  | none => rw [q] at e; cases e
  | some o =>
    rw [q] at e
    have e' : (b, o) = p := Option.some.inj e
    subst e'
    exact ⟨hb, q⟩
theorem Inv.pinned {pins : List (Addr × Obj)} {σ : St} {H : Hp} {s : Shared} {fp : List Addr} (I : Inv X pins σ H s) (hf : ∀ b ∈ fp, FpOk X pins H b) (ho : ∀ b ∈ fp, ∃ o, s.heap.get? b = some o ∧ ∀ v, o.data ≠ .cell v) : Inv X (pins ++ pinsAt fp s.heap) σ H s :=
  I.pins_of fun p hp => (List.mem_append.mp hp).elim (fun z => I.pin p (List.mem_append_right _ z)) fun z => by
    obtain ⟨hb, e⟩ := of_pinsAt z
    obtain ⟨f0, f1, f2, _⟩ := hf p.1 hb
    obtain ⟨o, e', d⟩ := ho p.1 hb
    rw [e] at e'; cases e'
    exact ⟨e, f0, f1, f2, d⟩
theorem Inv.unpinned {pins pl : List (Addr × Obj)} {σ : St} {H : Hp} {s : Shared} (I : Inv X (pins ++ pl) σ H s) : Inv X pins σ H s := I.pins_of fun p hp => I.pin p (List.mem_append_right _ (List.mem_append_left _ hp))
theorem ps_for {iter : Expr} {body : List Stmt} {wi : TI} {g : TG} {tb : TS} {pos : Pos} (hp : PassesOwn (model X.prog X.w) X.A X.env X.xe) (hc : X.calm = true) (hi : PI X tg iter wi) (hg : PG X tg g) (hb : PSs X body tb)
    (hs : ∀ x, foldedSetIterable iter X.env x = pure x := by intro _; rfl) : PS X (.For tg iter body [] pos) (tFor wi g tb) := by
  intro pins s σ H D I h
  refine wpAny_For (thn (hi pins s σ H _ I h) fun v s1 h1 => thn h1 fun itv s2 h2 => ?_) hs
  obtain ⟨it, fp, tn, J, H2, e, I2, T, st2, f2, W, ⟨m0, w0⟩, turn⟩ := h2
  subst e
  -- what stays true of the iterator's objects through the loop
  have stat : ∀ {H' : Hp}, (∀ b ∈ fp, H' b = none) → ∀ b ∈ fp, FpOk X pins H' b := fun hn b hb => ⟨hn b hb, (f2 b hb).2⟩
  refine codeAny_forLoop_any (fun n s' => ∃ i σ' H', Inv X pins σ' H' s' ∧ tn i s'.heap ∧ (∀ b ∈ fp, H' b = none) ∧ W i n σ' H') ?_ m0 ⟨0, σ, H2, I2, st2, fun b hb => (f2 b hb).1, w0⟩
  rintro n s3 ⟨i, σ3, H3, I3, st3, fr3, w3⟩
  rcases turn i n σ3 H3 w3 with ⟨stop, qn⟩ | ⟨go, N, hN, step⟩
  · refine wpAny_passesOwn hp (thn (T.done X rfl rfl rfl hc i pins s3 σ3 H3 X.xe I3 (stat fr3) st3 stop) fun r s4 ⟨hr, I4⟩ => ?_)
    subst hr
    exact wpAny_execs_nil ⟨σ3, H3, I4, qn⟩
  · refine wpAny_passesOwn hp (thn (T.item X rfl rfl rfl hc i pins s3 σ3 H3 X.xe I3 (stat fr3) st3 go) fun r s4 ⟨u, hr, h4⟩ => ?_)
    subst hr
    refine wpAny_passesOwn hp (thn h4 fun _ s5 ⟨x, H5, I5, r5, y5, st5, fr5⟩ => ?_)
    have I5' := I5.pinned (stat fr5) (T.obj _ _ st5)
    refine wpAny_passesOwn hp (thn (hg _ s5 σ3 H5 x u _ I5' r5 (step x H5 y5)) fun _ s6 ⟨σ6, H6, I6, q6⟩ => ?_)
    refine wpAny_passesOwn hp (thn (hb _ s6 σ6 H6 _ I6 q6) fun f s7 q7 => ?_)
    have again : ∀ {σ7 : St} {H7 : Hp}, Inv X (pins ++ pinsAt fp s5.heap) σ7 H7 s7 → N σ7 H7 → ∃ m, m < n ∧ ∃ i σ' H', Inv X pins σ' H' s7 ∧ tn i s7.heap ∧ (∀ b ∈ fp, H' b = none) ∧ W i m σ' H' := fun {σ7 H7} I7 n7 => by
      obtain ⟨m', hm, w7⟩ := hN σ7 H7 n7
      refine ⟨m', hm, i + 1, σ7, H7, I7.unpinned, T.keep _ _ _ st5 fun b hb o e => (I7.pin (b, o) (List.mem_append_right _ (List.mem_append_right _ (mem_pinsAt hb e)))).1, fun b hb => ?_, w7⟩
      obtain ⟨o, e, d⟩ := T.obj _ _ st5 b hb
      exact (I7.pin (b, o) (List.mem_append_right _ (List.mem_append_right _ (mem_pinsAt hb e)))).2.1
    cases f with
    | next => obtain ⟨σ7, H7, I7, n7⟩ := q7; exact again I7 n7
    | cont => obtain ⟨σ7, H7, I7, n7⟩ := q7; exact again I7 n7
    | brk => obtain ⟨σ7, H7, I7, q7⟩ := q7; exact ⟨σ7, H7, I7.unpinned, q7⟩
    | ret v => obtain ⟨x7, σ7, H7, I7, r7, q7⟩ := q7; exact ⟨x7, σ7, H7, I7.unpinned, r7, q7⟩
end

/-! ### the forms one uses -/
/-- over a list that the body leaves as it is -/
theorem for_list {K : PySem.W.Frag} {a : Addr} {xs : List V} {g : TG} {tb : TS} {D : Ends} {σ : St} {H : Hp} (Pv : Nat → St → Hp → Prop) (h0 : Pv 0 σ H) (hl : ∀ i σ H, i ≤ xs.length → Pv i σ H → SqL K H a xs)
    (hs : ∀ i x σ H, xs[i]? = some x → Pv i σ H → g x σ H fun σ2 H2 => tb { D with nx := Pv (i + 1), ct := Pv (i + 1), bk := D.nx } σ2 H2) (hd : ∀ σ H, Pv xs.length σ H → D.nx σ H) :
    ∃ W : Nat → Nat → St → Hp → Prop, (∃ m, W 0 m σ H) ∧ ∀ i m σ H, W i m σ H →
      ((Itl K a).stop i H ∧ D.nx σ H) ∨ ((Itl K a).go i H ∧ ∃ N : St → Hp → Prop, (∀ σ' H', N σ' H' → ∃ m', m' < m ∧ W (i + 1) m' σ' H') ∧ ∀ x H', (Itl K a).yld i H x H' → g x σ H' fun σ2 H2 => tb { D with nx := N, ct := N, bk := D.nx } σ2 H2) := by
  refine ⟨fun i m σ H => m = xs.length - i ∧ i ≤ xs.length ∧ Pv i σ H, ⟨xs.length, by simp, Nat.zero_le _, h0⟩, ?_⟩
  rintro i m σ H ⟨rfl, hi, p⟩
  have q := hl i σ H hi p
  by_cases hlt : i < xs.length
  · refine .inr ⟨⟨xs, xs[i], q, by simp [hlt]⟩, Pv (i + 1), fun σ' H' p' => ⟨xs.length - (i + 1), by omega, rfl, hlt, p'⟩, fun x H' y => ?_⟩
    obtain ⟨e, y⟩ := y
    subst e
    exact hs i x σ _ (y xs q) p
  · have e : i = xs.length := by omega
    subst e
    exact .inl ⟨⟨xs, q, Nat.le_refl _⟩, hd σ H p⟩
theorem for_tup {K : PySem.W.Frag} {a : Addr} {xs : List V} {g : TG} {tb : TS} {D : Ends} {σ : St} {H : Hp} (Pv : Nat → St → Hp → Prop) (h0 : Pv 0 σ H) (hl : ∀ i σ H, i ≤ xs.length → Pv i σ H → SqT K H a xs)
    (hs : ∀ i x σ H, xs[i]? = some x → Pv i σ H → g x σ H fun σ2 H2 => tb { D with nx := Pv (i + 1), ct := Pv (i + 1), bk := D.nx } σ2 H2) (hd : ∀ σ H, Pv xs.length σ H → D.nx σ H) :
    ∃ W : Nat → Nat → St → Hp → Prop, (∃ m, W 0 m σ H) ∧ ∀ i m σ H, W i m σ H →
      ((Itt K a).stop i H ∧ D.nx σ H) ∨ ((Itt K a).go i H ∧ ∃ N : St → Hp → Prop, (∀ σ' H', N σ' H' → ∃ m', m' < m ∧ W (i + 1) m' σ' H') ∧ ∀ x H', (Itt K a).yld i H x H' → g x σ H' fun σ2 H2 => tb { D with nx := N, ct := N, bk := D.nx } σ2 H2) := by
  refine ⟨fun i m σ H => m = xs.length - i ∧ i ≤ xs.length ∧ Pv i σ H, ⟨xs.length, by simp, Nat.zero_le _, h0⟩, ?_⟩
  rintro i m σ H ⟨rfl, hi, p⟩
  have q := hl i σ H hi p
  by_cases hlt : i < xs.length
  · refine .inr ⟨⟨xs, xs[i], q, by simp [hlt]⟩, Pv (i + 1), fun σ' H' p' => ⟨xs.length - (i + 1), by omega, rfl, hlt, p'⟩, fun x H' y => ?_⟩
    obtain ⟨e, y⟩ := y
    subst e
    exact hs i x σ _ (y xs q) p
  · have e : i = xs.length := by omega
    subst e
    exact .inl ⟨⟨xs, q, Nat.le_refl _⟩, hd σ H p⟩
theorem for_range {lo : Int} {n : Nat} {g : TG} {tb : TS} {D : Ends} {σ : St} {H : Hp} (Pv : Nat → St → Hp → Prop) (h0 : Pv 0 σ H)
    (hs : ∀ i σ H, i < n → Pv i σ H → g (.int (lo + i)) σ H fun σ2 H2 => tb { D with nx := Pv (i + 1), ct := Pv (i + 1), bk := D.nx } σ2 H2) (hd : ∀ σ H, Pv n σ H → D.nx σ H) :
    ∃ W : Nat → Nat → St → Hp → Prop, (∃ m, W 0 m σ H) ∧ ∀ i m σ H, W i m σ H →
      ((Itr lo n).stop i H ∧ D.nx σ H) ∨ ((Itr lo n).go i H ∧ ∃ N : St → Hp → Prop, (∀ σ' H', N σ' H' → ∃ m', m' < m ∧ W (i + 1) m' σ' H') ∧ ∀ x H', (Itr lo n).yld i H x H' → g x σ H' fun σ2 H2 => tb { D with nx := N, ct := N, bk := D.nx } σ2 H2) := by
  refine ⟨fun i m σ H => m = n - i ∧ i ≤ n ∧ Pv i σ H, ⟨n, by simp, Nat.zero_le _, h0⟩, ?_⟩
  rintro i m σ H ⟨rfl, hi, p⟩
  by_cases hlt : i < n
  · refine .inr ⟨hlt, Pv (i + 1), fun σ' H' p' => ⟨n - (i + 1), by omega, rfl, hlt, p'⟩, fun x H' y => ?_⟩
    obtain ⟨e, y⟩ := y
    subst e y
    exact hs i σ _ hlt p
  · have e : i = n := by omega
    subst e
    exact .inl ⟨Nat.le_refl _, hd σ H p⟩
/-- while, by a word and a measure of the state -/
theorem while_by {c : TT} {tb : TS} {D : Ends} {σ : St} {H : Hp} (Pv : St → Hp → Prop) (μ : St → Hp → Nat) (h0 : Pv σ H)
    (hs : ∀ σ H, Pv σ H → c σ H fun b H1 => if b = true then tb { D with nx := fun σ' H' => Pv σ' H' ∧ μ σ' H' < μ σ H, ct := fun σ' H' => Pv σ' H' ∧ μ σ' H' < μ σ H, bk := D.nx } σ H1 else D.nx σ H1)
    (mono : ∀ σ H Q Q', (∀ b H1, Q b H1 → Q' b H1) → c σ H Q → c σ H Q') : tWhile c tb D σ H := by
  refine ⟨fun m σ H => m = μ σ H ∧ Pv σ H, ⟨_, rfl, h0⟩, ?_⟩
  rintro m σ H ⟨rfl, p⟩
  refine mono σ H _ _ (fun b H1 q => ?_) (hs σ H p)
  cases b with
  | true => exact ⟨_, fun σ' H' ⟨p', l⟩ => ⟨_, l, rfl, p'⟩, q⟩
  | false => exact q
end L2

namespace L2
open PySem PySem.Spec PyProof.Rows

abbrev R2 := V → V → Hp → VK → Prop
/-- a two-place operation on values: f is binaryOp op, inplaceOp op or compareOp op -/
def OpR (X : Cx) (f : Value → Value → Sem Value) (r : R2) : Prop :=
  ∀ (pins : List (Addr × Obj)) (s : Shared) (σ : St) (H : Hp) (x y : V) (v u : Value) (Q : VK), Inv X pins σ H s → RelV x v → RelV y u → r x y H Q →
    wpAny (model X.prog X.w) X.A (f v u) (EP X pins σ Q) X.xe s
/-- a one-place operation -/
def UnR (X : Cx) (f : Value → Sem Value) (r : V → Hp → VK → Prop) : Prop :=
  ∀ (pins : List (Addr × Obj)) (s : Shared) (σ : St) (H : Hp) (x : V) (v : Value) (Q : VK), Inv X pins σ H s → RelV x v → r x H Q →
    wpAny (model X.prog X.w) X.A (f v) (EP X pins σ Q) X.xe s
/-- a call of a value that is known (a builtin, a type) with values -/
def CallR (X : Cx) (f : Value) (r : List V → Hp → VK → Prop) : Prop :=
  ∀ (pins : List (Addr × Obj)) (s : Shared) (σ : St) (H : Hp) (xs : List V) (us : List Value) (Q : VK), Inv X pins σ H s → Vals xs us → r xs H Q →
    wpAny (model X.prog X.w) X.A (call f us) (EP X pins σ Q) X.xe s
/-- a value's truth -/
def TruR (X : Cx) (r : V → Hp → (Bool → Hp → Prop) → Prop) : Prop :=
  ∀ (pins : List (Addr × Obj)) (s : Shared) (σ : St) (H : Hp) (x : V) (v : Value) (Q : Bool → Hp → Prop), Inv X pins σ H s → RelV x v → r x H Q →
    wpAny (model X.prog X.w) X.A (truthy v) (TP X pins σ Q) X.xe s

def tOp (r : R2) (ta tb : TE) : TE := fun σ H Q => ta σ H fun x H1 => tb σ H1 fun y H2 => r x y H2 Q
def tUn (r : V → Hp → VK → Prop) (ta : TE) : TE := fun σ H Q => ta σ H fun x H1 => r x H1 Q
/-- ints in, under C, and a value out -/
def rI (C : Int → Int → Prop) (g : Int → Int → V) : R2 := fun x y H Q => ∃ i j, x = .int i ∧ y = .int j ∧ C i j ∧ Q (g i j) H
def rI0 (g : Int → Int → V) : R2 := fun x y H Q => ∃ i j, x = .int i ∧ y = .int j ∧ Q (g i j) H
def rU (g : Int → V) : V → Hp → VK → Prop := fun x H Q => ∃ i, x = .int i ∧ Q (g i) H

section
variable {X : Cx} {a b c : Expr} {ta tb tc : TE} {pos : Pos}

theorem binT (ha : PE X a ta) (hb : PE X b tb) {pins : List (Addr × Obj)} {s : Shared} {σ : St} {H : Hp} {R : V → V → Hp → Prop} (I : Inv X pins σ H s)
    (h : ta σ H fun x H1 => tb σ H1 fun y H2 => R x y H2) {Q : Value → Shared → Prop} {f : Value → Value → Sem Value}
    (hf : ∀ v u s2 x y H2, Inv X pins σ H2 s2 → RelV x v → RelV y u → R x y H2 → wpAny (model X.prog X.w) X.A (f v u) Q X.xe s2) :
    wpAny (model X.prog X.w) X.A (eval a X.env) (fun v s₁ => wpAny (model X.prog X.w) X.A (eval b X.env) (fun u s₂ => wpAny (model X.prog X.w) X.A (f v u) Q X.xe s₂) X.xe s₁) X.xe s := by
  refine thn (ha pins s σ H _ I h) fun v s1 ⟨x, H1, I1, r1, q1⟩ => ?_
  refine thn (hb pins s1 σ H1 _ I1 q1) fun u s2 ⟨y, H2, I2, r2, q2⟩ => ?_
  exact hf v u s2 x y H2 I2 r1 r2 q2

theorem pe_op {op : Operator} {r : R2} (ho : OpR X (binaryOp op) r) (ha : PE X a ta) (hb : PE X b tb) : PE X (.BinOp a op b pos) (tOp r ta tb) := by
  intro pins s σ H Q I h
  exact wpAny_BinOp (binT ha hb I h fun v u s2 x y H2 I2 rx ry q => ho pins s2 σ H2 x y v u Q I2 rx ry q)
theorem pe_un {op : UnaryOp} {r : V → Hp → VK → Prop} (ho : UnR X (unaryOp op) r) (ha : PE X a ta) : PE X (.UnaryOp op a pos) (tUn r ta) := by
  intro pins s σ H Q I h
  exact UnaryOp_ (thn (ha pins s σ H _ I h) fun v s1 ⟨x, H1, I1, r1, q1⟩ => ho pins s1 σ H1 x v Q I1 r1 q1)
/-- a op= e at a name: the name's slot i -/
theorem augR {op : Operator} {r : R2} (ho : OpR X (inplaceOp op) r) {pins : List (Addr × Obj)} {s : Shared} {σ : St} {H : Hp} {x y : V} {v u : Value} {Q : VK} (I : Inv X pins σ H s)
    (rx : RelV x v) (ry : RelV y u) (q : r x y H Q) : wpAny (model X.prog X.w) X.A (inplaceOp op v u) (EP X pins σ Q) X.xe s := ho pins s σ H x y v u Q I rx ry q

/-! ### ints -/
theorem opI {f : Value → Value → Sem Value} {C : Int → Int → Prop} {g : Int → Int → Int}
    (rule : ∀ (i j : Int) (t u : Tok) (s : Shared) (Q : Value → Shared → Prop) (E : Value → Shared → Prop), C i j → Q (.int (g i j) s.toks) { s with toks := s.toks + 1 } → wpAny (model X.prog X.w) X.A (f (.int i t) (.int j u)) Q E s) :
    OpR X f (rI C fun i j => .int (g i j)) := by
  intro pins s σ H x y v u Q I rx ry h
  obtain ⟨i, j, rfl, rfl, hc, q⟩ := h
  obtain ⟨t, rfl⟩ := rx
  obtain ⟨t', rfl⟩ := ry
  exact rule i j t t' s _ _ hc ⟨.int (g i j), H, I.tok _, ⟨_, rfl⟩, q⟩
theorem opI0 {f : Value → Value → Sem Value} {g : Int → Int → Int}
    (rule : ∀ (i j : Int) (t u : Tok) (s : Shared) (Q : Value → Shared → Prop) (E : Value → Shared → Prop), Q (.int (g i j) s.toks) { s with toks := s.toks + 1 } → wpAny (model X.prog X.w) X.A (f (.int i t) (.int j u)) Q E s) :
    OpR X f (rI0 fun i j => .int (g i j)) := by
  intro pins s σ H x y v u Q I rx ry h
  obtain ⟨i, j, rfl, rfl, q⟩ := h
  obtain ⟨t, rfl⟩ := rx
  obtain ⟨t', rfl⟩ := ry
  exact rule i j t t' s _ _ ⟨.int (g i j), H, I.tok _, ⟨_, rfl⟩, q⟩
theorem opB0 {f : Value → Value → Sem Value} {g : Int → Int → Bool}
    (rule : ∀ (i j : Int) (t u : Tok) (s : Shared) (Q : Value → Shared → Prop) (E : Value → Shared → Prop), Q (.bool (g i j)) s → wpAny (model X.prog X.w) X.A (f (.int i t) (.int j u)) Q E s) :
    OpR X f (rI0 fun i j => .bl (g i j)) := by
  intro pins s σ H x y v u Q I rx ry h
  obtain ⟨i, j, rfl, rfl, q⟩ := h
  obtain ⟨t, rfl⟩ := rx
  obtain ⟨t', rfl⟩ := ry
  exact rule i j t t' s _ _ ⟨.bl (g i j), H, I, rfl, q⟩

def CDiv (i j : Int) : Prop := 0 < j ∧ j < 1073741824
def CDivN (i j : Int) : Prop := j ≠ 0 ∧ j.natAbs < 1073741824
def CPow (i j : Int) : Prop := 0 ≤ j ∧ j ≤ 1000000 ∧ i.natAbs < 2 ^ 64
def CMul (i j : Int) : Prop := (-(2 ^ 64) < i ∧ i < 2 ^ 64) ∨ (-(2 ^ 64) < j ∧ j < 2 ^ 64)
theorem CMul.ok {i j : Int} (h : CMul i j) : IntMulOk i j := by
  rcases h with ⟨h1, h2⟩ | ⟨h1, h2⟩
  · exact .of_left (intBits_le_64 h1 h2)
  · exact .of_right (intBits_le_64 h1 h2)
theorem two_pow_nn (k : Nat) : (0 : Int) ≤ 2 ^ k := by
  rw [two_pow_cast]
  exact Int.natCast_nonneg _

theorem op_add : OpR X (binaryOp .Add) (rI0 fun i j => .int (i + j)) := opI0 fun _ _ _ _ _ _ _ q => add_int q
theorem op_sub : OpR X (binaryOp .Sub) (rI0 fun i j => .int (i - j)) := opI0 fun _ _ _ _ _ _ _ q => sub_int q
theorem op_mul : OpR X (binaryOp .Mult) (rI CMul fun i j => .int (i * j)) := opI fun _ _ _ _ _ _ _ hc q => mul_int q hc.ok
/-- // by a positive divisor -/
theorem op_fdiv : OpR X (binaryOp .FloorDiv) (rI CDiv fun i j => .int (i / j)) := opI fun i j _ _ _ _ _ hc q => by
  have h1 : (0 : Int) < j := hc.1
  have h2 : j < 1073741824 := hc.2
  exact floordiv_int (by omega) (by rw [Int.fdiv_eq_ediv_of_nonneg i (by omega)]; exact q) (.inl (PyProof.noPylong_small (by omega)))
theorem op_fdivN : OpR X (binaryOp .FloorDiv) (rI CDivN fun i j => .int (i.fdiv j)) := opI fun _ _ _ _ _ _ _ hc q => floordiv_int hc.1 q (.inl (PyProof.noPylong_small hc.2))
/-- % by a positive divisor of any size -/
theorem op_mod : OpR X (binaryOp .Mod) (rI (fun _ j => 0 < j) fun i j => .int (i % j)) := opI fun i j _ _ _ _ _ hc q => by
  have h1 : (0 : Int) < j := hc
  exact mod_int' (by omega) (by rw [Int.fmod_eq_emod_of_nonneg i (by omega)]; exact q)
theorem op_modN : OpR X (binaryOp .Mod) (rI (fun _ j => j ≠ 0) fun i j => .int (i.fmod j)) := opI fun _ _ _ _ _ _ _ hc q => mod_int' hc q
theorem op_pow : OpR X (binaryOp .Pow) (rI CPow fun i j => .int (i ^ j.toNat)) := opI fun _ _ _ _ _ _ _ hc q => pow_int_small hc.1 hc.2.1 hc.2.2 q
theorem op_shl : OpR X (binaryOp .LShift) (rI CPow fun i j => .int (i * 2 ^ j.toNat)) := opI fun _ _ _ _ _ _ _ hc q => lshift_int_small hc.1 hc.2.1 hc.2.2 q
theorem op_shr : OpR X (binaryOp .RShift) (rI (fun _ j => 0 ≤ j) fun i j => .int (i / 2 ^ j.toNat)) := opI fun i j _ _ _ _ _ hc q =>
  rshift_int hc (by rw [Int.fdiv_eq_ediv_of_nonneg i (two_pow_nn _)]; exact q)
theorem op_and : OpR X (binaryOp .BitAnd) (rI0 fun i j => .int (Builtin.bitAnd i j)) := opI0 fun _ _ _ _ _ _ _ q => and_int q
theorem op_or : OpR X (binaryOp .BitOr) (rI0 fun i j => .int (Builtin.bitOr i j)) := opI0 fun _ _ _ _ _ _ _ q => or_int q
theorem op_xor : OpR X (binaryOp .BitXor) (rI0 fun i j => .int (Builtin.bitXor i j)) := opI0 fun _ _ _ _ _ _ _ q => xor_int q

theorem iop_add : OpR X (inplaceOp .Add) (rI0 fun i j => .int (i + j)) := opI0 fun _ _ _ _ _ _ _ q => iadd_int q
theorem iop_sub : OpR X (inplaceOp .Sub) (rI0 fun i j => .int (i - j)) := opI0 fun _ _ _ _ _ _ _ q => isub_int q
theorem iop_mul : OpR X (inplaceOp .Mult) (rI CMul fun i j => .int (i * j)) := opI fun _ _ _ _ _ _ _ hc q => imul_int q hc.ok
theorem iop_fdiv : OpR X (inplaceOp .FloorDiv) (rI CDiv fun i j => .int (i / j)) := opI fun i j _ _ _ _ _ hc q => by
  have h1 : (0 : Int) < j := hc.1
  have h2 : j < 1073741824 := hc.2
  exact ifloordiv_int (by omega) (by rw [Int.fdiv_eq_ediv_of_nonneg i (by omega)]; exact q) (.inl (PyProof.noPylong_small (by omega)))
theorem iop_mod : OpR X (inplaceOp .Mod) (rI (fun _ j => 0 < j) fun i j => .int (i % j)) := opI fun i j _ _ _ _ _ hc q => by
  have h1 : (0 : Int) < j := hc
  exact imod_int (by omega) (by rw [Int.fmod_eq_emod_of_nonneg i (by omega)]; exact q)
theorem iop_shl : OpR X (inplaceOp .LShift) (rI CPow fun i j => .int (i * 2 ^ j.toNat)) := opI fun _ _ _ _ _ _ _ hc q => ilshift_int_small hc.1 hc.2.1 hc.2.2 q
theorem iop_shr : OpR X (inplaceOp .RShift) (rI (fun _ j => 0 ≤ j) fun i j => .int (i / 2 ^ j.toNat)) := opI fun i j _ _ _ _ _ hc q =>
  irshift_int hc (by rw [Int.fdiv_eq_ediv_of_nonneg i (two_pow_nn _)]; exact q)
theorem iop_and : OpR X (inplaceOp .BitAnd) (rI0 fun i j => .int (Builtin.bitAnd i j)) := opI0 fun _ _ _ _ _ _ _ q => iand_int q
theorem iop_or : OpR X (inplaceOp .BitOr) (rI0 fun i j => .int (Builtin.bitOr i j)) := opI0 fun _ _ _ _ _ _ _ q => ior_int q
theorem iop_xor : OpR X (inplaceOp .BitXor) (rI0 fun i j => .int (Builtin.bitXor i j)) := opI0 fun _ _ _ _ _ _ _ q => ixor_int q

theorem unI {f : Value → Sem Value} {g : Int → Int}
    (rule : ∀ (i : Int) (t : Tok) (s : Shared) (Q : Value → Shared → Prop) (E : Value → Shared → Prop), Q (.int (g i) s.toks) { s with toks := s.toks + 1 } → wpAny (model X.prog X.w) X.A (f (.int i t)) Q E s) :
    UnR X f (rU fun i => .int (g i)) := by
  intro pins s σ H x v Q I rx h
  obtain ⟨i, rfl, q⟩ := h
  obtain ⟨t, rfl⟩ := rx
  exact rule i t s _ _ ⟨.int (g i), H, I.tok _, ⟨_, rfl⟩, q⟩
theorem un_neg : UnR X (unaryOp .USub) (rU fun i => .int (-i)) := unI fun _ _ _ _ _ q => neg_int q
theorem un_inv : UnR X (unaryOp .Invert) (rU fun i => .int (Builtin.bitNot i)) := unI fun _ _ _ _ _ q => invert_int q

/-! ### bools among ints: n += (a < b) -/
theorem op_add_ib : OpR X (binaryOp .Add) (fun x y H Q => ∃ i k, x = .int i ∧ y = .bl k ∧ Q (.int (i + b2i k)) H) := by
  intro pins s σ H x y v u Q I rx ry h
  obtain ⟨i, k, rfl, rfl, q⟩ := h
  obtain ⟨t, rfl⟩ := rx
  cases ry
  exact add_int_bool ⟨.int (i + b2i k), H, I.tok _, ⟨_, rfl⟩, q⟩
end

/-! ### comparisons -/
/-- the scalars that == tells apart as data does -/
def scal : V → V → Bool
  | .non, .non => true | .non, .int _ => true | .int _, .non => true | .non, .bl _ => true | .bl _, .non => true | .non, .str _ => true | .str _, .non => true
  | .int _, .int _ => true | .bl _, .bl _ => true | .str _, .str _ => true | .byt _, .byt _ => true
  | .int _, .str _ => true | .str _, .int _ => true | .bl _, .str _ => true | .str _, .bl _ => true
  | _, _ => false
def rEq : R2 := fun x y H Q => scal x y = true ∧ Q (.bl (decide (x = y))) H
def rNe : R2 := fun x y H Q => scal x y = true ∧ Q (.bl (!decide (x = y))) H

theorem dec_int {i j : Int} : decide (V.int i = V.int j) = (i == j) := by
  rw [Bool.eq_iff_iff]
  simp
theorem dec_bl {i j : Bool} : decide (V.bl i = V.bl j) = (i == j) := by
  rw [Bool.eq_iff_iff]
  simp
theorem dec_str {i j : Str} : decide (V.str i = V.str j) = (i == j) := by
  rw [Bool.eq_iff_iff]
  simp
theorem dec_byt {i j : Array UInt8} : decide (V.byt i = V.byt j) = (i.toList == j.toList) := by
  rw [Bool.eq_iff_iff]
  cases i
  cases j
  simp

section
variable {X : Cx} {a b c : Expr} {ta tb tc : TE} {pos : Pos}
theorem fin_bl {pins : List (Addr × Obj)} {σ : St} {H : Hp} {s : Shared} {Q : VK} {k k' : Bool} (I : Inv X pins σ H s) (q : Q (.bl k) H) (e : k = k') : EP X pins σ Q (.bool k') s := by
  subst e
  exact ⟨.bl k, H, I, rfl, q⟩
theorem op_eq : OpR X (compareOp .Eq) rEq := by
  intro pins s σ H x y v u Q I rx ry h
  obtain ⟨hs, q⟩ := h
  cases x with
  | non =>
    cases rx
    cases y with
    | non => cases ry; exact PySem.EqNone.eq_none_none (fin_bl I q (by simp))
    | bl j => cases ry; exact PySem.EqNone.eq_none_bool (fin_bl I q (by simp))
    | int j => obtain ⟨t', rfl⟩ := ry; exact PySem.EqNone.eq_none_int (fin_bl I q (by simp))
    | str j => obtain ⟨t', rfl⟩ := ry; exact PySem.EqNone.eq_none_str (fin_bl I q (by simp))
    | _ => exact absurd (show false = true from hs) Bool.false_ne_true
  | bl i =>
    cases rx
    cases y with
    | non => cases ry; exact PySem.EqNone.eq_bool_none (fin_bl I q (by simp))
    | bl j => cases ry; exact eq_bool (fin_bl I q dec_bl)
    | str j => obtain ⟨t', rfl⟩ := ry; exact PySem.EqMixed.eq_bool_str (fin_bl I q (by simp))
    | _ => exact absurd (show false = true from hs) Bool.false_ne_true
  | int i =>
    obtain ⟨t, rfl⟩ := rx
    cases y with
    | non => cases ry; exact PySem.EqNone.eq_int_none (fin_bl I q (by simp))
    | int j => obtain ⟨t', rfl⟩ := ry; exact eq_int (fin_bl I q dec_int)
    | str j => obtain ⟨t', rfl⟩ := ry; exact PySem.EqMixed.eq_int_str (fin_bl I q (by simp))
    | _ => exact absurd (show false = true from hs) Bool.false_ne_true
  | str i =>
    obtain ⟨t, rfl⟩ := rx
    cases y with
    | non => cases ry; exact PySem.EqNone.eq_str_none (fin_bl I q (by simp))
    | bl j => cases ry; exact PySem.EqMixed.eq_str_bool (fin_bl I q (by simp))
    | int j => obtain ⟨t', rfl⟩ := ry; exact PySem.EqMixed.eq_str_int (fin_bl I q (by simp))
    | str j => obtain ⟨t', rfl⟩ := ry; exact eq_str (fin_bl I q dec_str)
    | _ => exact absurd (show false = true from hs) Bool.false_ne_true
  | byt i =>
    obtain ⟨t, rfl⟩ := rx
    cases y with
    | byt j => obtain ⟨t', rfl⟩ := ry; exact PySem.W.eq_bytes (fin_bl I q dec_byt)
    | _ => exact absurd (show false = true from hs) Bool.false_ne_true
  | _ => cases y <;> exact absurd (show false = true from hs) Bool.false_ne_true
theorem op_ne : OpR X (compareOp .NotEq) rNe := by
  intro pins s σ H x y v u Q I rx ry h
  obtain ⟨hs, q⟩ := h
  cases x with
  | non =>
    cases rx
    cases y with
    | non => cases ry; exact PySem.EqNone.ne_none_none (fin_bl I q (by simp))
    | bl j => cases ry; exact PySem.EqNone.ne_none_bool (fin_bl I q (by simp))
    | int j => obtain ⟨t', rfl⟩ := ry; exact PySem.EqNone.ne_none_int (fin_bl I q (by simp))
    | str j => obtain ⟨t', rfl⟩ := ry; exact PySem.EqNone.ne_none_str (fin_bl I q (by simp))
    | _ => exact absurd (show false = true from hs) Bool.false_ne_true
  | bl i =>
    cases rx
    cases y with
    | non => cases ry; exact PySem.EqNone.ne_bool_none (fin_bl I q (by simp))
    | bl j => cases ry; exact ne_bool (fin_bl I q (congrArg not dec_bl))
    | str j => obtain ⟨t', rfl⟩ := ry; exact PySem.EqMixed.ne_bool_str (fin_bl I q (by simp))
    | _ => exact absurd (show false = true from hs) Bool.false_ne_true
  | int i =>
    obtain ⟨t, rfl⟩ := rx
    cases y with
    | non => cases ry; exact PySem.EqNone.ne_int_none (fin_bl I q (by simp))
    | int j => obtain ⟨t', rfl⟩ := ry; exact ne_int (fin_bl I q (congrArg not dec_int))
    | str j => obtain ⟨t', rfl⟩ := ry; exact PySem.EqMixed.ne_int_str (fin_bl I q (by simp))
    | _ => exact absurd (show false = true from hs) Bool.false_ne_true
  | str i =>
    obtain ⟨t, rfl⟩ := rx
    cases y with
    | non => cases ry; exact PySem.EqNone.ne_str_none (fin_bl I q (by simp))
    | bl j => cases ry; exact PySem.EqMixed.ne_str_bool (fin_bl I q (by simp))
    | int j => obtain ⟨t', rfl⟩ := ry; exact PySem.EqMixed.ne_str_int (fin_bl I q (by simp))
    | str j => obtain ⟨t', rfl⟩ := ry; exact ne_str (fin_bl I q (congrArg not dec_str))
    | _ => exact absurd (show false = true from hs) Bool.false_ne_true
  | byt i =>
    obtain ⟨t, rfl⟩ := rx
    cases y with
    | byt j => obtain ⟨t', rfl⟩ := ry; exact PySem.W.ne_bytes (fin_bl I q (congrArg not dec_byt))
    | _ => exact absurd (show false = true from hs) Bool.false_ne_true
  | _ => cases y <;> exact absurd (show false = true from hs) Bool.false_ne_true

theorem op_lt : OpR X (compareOp .Lt) (rI0 fun i j => .bl (decide (i < j))) := opB0 fun _ _ _ _ _ _ _ q => lt_int q
theorem op_le : OpR X (compareOp .LtE) (rI0 fun i j => .bl (decide (i ≤ j))) := opB0 fun _ _ _ _ _ _ _ q => le_int q
theorem op_gt : OpR X (compareOp .Gt) (rI0 fun i j => .bl (decide (j < i))) := opB0 fun _ _ _ _ _ _ _ q => gt_int q
theorem op_ge : OpR X (compareOp .GtE) (rI0 fun i j => .bl (decide (j ≤ i))) := opB0 fun _ _ _ _ _ _ _ q => ge_int q
theorem op_lt_str : OpR X (compareOp .Lt) (fun x y H Q => ∃ i j, x = .str i ∧ y = .str j ∧ Q (.bl (decide (i.cps.toList < j.cps.toList))) H) := by
  intro pins s σ H x y v u Q I rx ry h
  obtain ⟨i, j, rfl, rfl, q⟩ := h
  obtain ⟨t, rfl⟩ := rx
  obtain ⟨t', rfl⟩ := ry
  exact lt_str (fin_bl I q rfl)
/-- the one string within the other -/
theorem op_in_str : OpR X (compareOp .In) (fun x y H Q => ∃ i j, x = .str i ∧ y = .str j ∧ Q (.bl (!(Builtin.Str.occurrences j i 0 j.length 1).isEmpty)) H) := by
  intro pins s σ H x y v u Q I rx ry h
  obtain ⟨i, j, rfl, rfl, q⟩ := h
  obtain ⟨t, rfl⟩ := rx
  obtain ⟨t', rfl⟩ := ry
  exact in_str (fin_bl I q rfl)

/-- is None, is not None: the right side a value none -/
theorem op_isN : OpR X (compareOp .Is) (fun x y H Q => y = .non ∧ Q (.bl (decide (x = .non))) H) := by
  intro pins s σ H x y v u Q I rx ry h
  obtain ⟨rfl, q⟩ := h
  cases ry
  refine is_none_gen (fin_bl I q ?_)
  cases x <;> first
    | (cases rx; rfl)
    | (obtain ⟨t, rfl⟩ := rx; rfl)
theorem op_notN : OpR X (compareOp .IsNot) (fun x y H Q => y = .non ∧ Q (.bl (!decide (x = .non))) H) := by
  intro pins s σ H x y v u Q I rx ry h
  obtain ⟨rfl, q⟩ := h
  cases ry
  refine isnot_none_gen (fin_bl I q ?_)
  cases x <;> first
    | (cases rx; rfl)
    | (obtain ⟨t, rfl⟩ := rx; rfl)

theorem op_notin_str : OpR X (compareOp .NotIn) (fun x y H Q => ∃ i j, x = .str i ∧ y = .str j ∧ Q (.bl (!(!(Builtin.Str.occurrences j i 0 j.length 1).isEmpty))) H) := by
  intro pins s σ H x y v u Q I rx ry h
  obtain ⟨i, j, rfl, rfl, q⟩ := h
  obtain ⟨t, rfl⟩ := rx
  obtain ⟨t', rfl⟩ := ry
  exact notIn_str (fin_bl I q rfl)
/-- is, is not of two objects that are tracked lists or instances -/
def isObj : HO → Bool
  | .lst _ => true
  | .ins _ _ _ => true
  | _ => false
theorem obj_there {pins : List (Addr × Obj)} {s : Shared} {σ : St} {H : Hp} {a : Addr} {o : HO} (I : Inv X pins σ H s) (h : H a = some o) (p : isObj o = true) : ∃ ob, s.heap.get? a = some ob ∧ ob.cls ≠ .type "tuple" := by
  cases o with
  | lst xs =>
    obtain ⟨_, its, n, _, e⟩ : xs.length ≤ sizeLine ∧ ∃ (its : List Value) (n : Nat), Vals xs its ∧ s.heap.get? a = some { cls := .type "list", data := .seq its.toArray n } := I.hok a _ h
    exact ⟨_, e, (by show Value.type "list" ≠ .type "tuple"; decide +kernel)⟩
  | ins C dx fs =>
    have x := I.hok a _ h
    obtain ⟨_, _, _, e, _⟩ := x
    exact ⟨_, e, (by show Value.ref C ≠ .type "tuple"; exact fun z => by cases z)⟩
  | _ => exact absurd (show false = true from p) Bool.false_ne_true
theorem op_is_ref : OpR X (compareOp .Is) (fun x y H Q => ∃ a b oa ob, x = .ref a ∧ y = .ref b ∧ H a = some oa ∧ isObj oa = true ∧ H b = some ob ∧ isObj ob = true ∧ Q (.bl (decide (a = b))) H) := by
  intro pins s σ H x y v u Q I rx ry h
  obtain ⟨a, b, oa, ob, rfl, rfl, ha, pa, hb, pb, q⟩ := h
  cases rx
  cases ry
  obtain ⟨o1, e1, n1⟩ := obj_there I ha pa
  obtain ⟨o2, e2, _⟩ := obj_there I hb pb
  by_cases z : a = b
  · subst z
    exact wpAny_is_ref_self (fin_bl I q (by simp))
  · exact wpAny_is_ref_other z e1 e2 n1 (fin_bl I q (by simp [z]))
theorem op_isnot_ref : OpR X (compareOp .IsNot) (fun x y H Q => ∃ a b oa ob, x = .ref a ∧ y = .ref b ∧ H a = some oa ∧ isObj oa = true ∧ H b = some ob ∧ isObj ob = true ∧ Q (.bl (!decide (a = b))) H) := by
  intro pins s σ H x y v u Q I rx ry h
  obtain ⟨a, b, oa, ob, rfl, rfl, ha, pa, hb, pb, q⟩ := h
  cases rx
  cases ry
  obtain ⟨o1, e1, n1⟩ := obj_there I ha pa
  obtain ⟨o2, e2, _⟩ := obj_there I hb pb
  by_cases z : a = b
  · subst z
    exact wpAny_isNot_ref_self (fin_bl I q (by simp))
  · exact wpAny_isNot_ref_other z e1 e2 n1 (fin_bl I q (by simp [z]))

/-- two rules for one operation: by cases -/
theorem OpR.or {f : Value → Value → Sem Value} {r r' : R2} (h : OpR X f r) (h' : OpR X f r') : OpR X f (fun x y H Q => r x y H Q ∨ r' x y H Q) := by
  intro pins s σ H x y v u Q I rx ry q
  rcases q with q | q
  · exact h pins s σ H x y v u Q I rx ry q
  · exact h' pins s σ H x y v u Q I rx ry q

theorem nomark (b : Expr) {op : CmpOp} (h : op ≠ .In := by decide) (h2 : op ≠ .NotIn := by decide) : behindInMarks op b = false := by
  have e1 : (op == CmpOp.In) = false := by cases op <;> first | rfl | exact absurd rfl h
  have e2 : (op == CmpOp.NotIn) = false := by cases op <;> first | rfl | exact absurd rfl h2
  cases b <;> simp [behindInMarks, e1, e2]
/-- a comparison as a value; hm: nomark b, or (for in, not in) by with_unfolding_all rfl -/
theorem pe_cmpR {op : CmpOp} {r : R2} (ho : OpR X (compareOp op) r) (ha : PE X a ta) (hb : PE X b tb) (hm : behindInMarks op b = false) : PE X (.Compare a [op] [b] pos) (tOp r ta tb) := by
  intro pins s σ H Q I h
  exact wpAny_Compare1 (binT ha hb I h fun v u s2 x y H2 I2 rx ry q => ho pins s2 σ H2 x y v u Q I2 rx ry q) hm
/-- a reading of a value as a test -/
def tTest (t : TE) : TT := fun σ H Q => t σ H fun x H' => ∃ k, x = .bl k ∧ Q k H'
theorem pt_cmpR {op : CmpOp} {r : R2} (ho : OpR X (compareOp op) r) (ha : PE X a ta) (hb : PE X b tb) (hm : behindInMarks op b = false) : PT X (.Compare a [op] [b] pos) (tTest (tOp r ta tb)) := by
  intro pins s σ H Q I h
  refine wpAny_isTrue_Compare1 (thn (ha pins s σ H _ I h) fun v s1 ⟨x, H1, I1, r1, q1⟩ => thn (hb pins s1 σ H1 _ I1 q1) fun u s2 ⟨y, H2, I2, r2, q2⟩ =>
    thn (ho pins s2 σ H2 x y v u _ I2 r1 r2 q2) fun c s3 ⟨z, H3, I3, r3, k, e, q3⟩ => ?_) hm
  subst e
  cases r3
  exact wpAny_truthy_bool ⟨H3, I3, q3⟩
/-- a op1 b op2 c -/
def tChain (r r' : R2) (ta tb tc : TE) : TE := fun σ H Q => ta σ H fun x H1 => tb σ H1 fun y H2 => r x y H2 fun z H3 => ∃ k, z = .bl k ∧
  (if k = true then tc σ H3 fun w' H4 => r' y w' H4 Q else Q (.bl false) H3)
theorem pe_chain {op op' : CmpOp} {r r' : R2} (ho : OpR X (compareOp op) r) (ho' : OpR X (compareOp op') r') (ha : PE X a ta) (hb : PE X b tb) (hc : PE X c tc)
    (hm : lastMarks [op, op'] [b, c] = false := by with_unfolding_all rfl) : PE X (.Compare a [op, op'] [b, c] pos) (tChain r r' ta tb tc) := by
  intro pins s σ H Q I h
  refine Compare_chain (thn (ha pins s σ H _ I h) fun v s1 ⟨x, H1, I1, r1, q1⟩ => chain_link (thn (hb pins s1 σ H1 _ I1 q1) fun u s2 ⟨y, H2, I2, r2, q2⟩ =>
    thn (ho pins s2 σ H2 x y v u _ I2 r1 r2 q2) fun d s3 ⟨z, H3, I3, r3, k, e, q3⟩ => ?_)) hm
  subst e
  cases r3
  refine wpAny_truthy_bool ?_
  cases k with
  | false => exact ite_ff ⟨.bl false, H3, I3, rfl, q3⟩
  | true => exact ite_tt (chain_last (thn (hc pins s3 σ H3 _ I3 q3) fun w' s4 ⟨z', H4, I4, r4, q4⟩ => ho' pins s4 σ H4 y z' u w' Q I4 r2 r4 q4))
theorem pt_chain {op op' : CmpOp} {r r' : R2} (ho : OpR X (compareOp op) r) (ho' : OpR X (compareOp op') r') (ha : PE X a ta) (hb : PE X b tb) (hc : PE X c tc)
    (hm : lastMarks [op, op'] [b, c] = false := by with_unfolding_all rfl) : PT X (.Compare a [op, op'] [b, c] pos) (tTest (tChain r r' ta tb tc)) := by
  intro pins s σ H Q I h
  refine isTrue_chain (thn (ha pins s σ H _ I h) fun v s1 ⟨x, H1, I1, r1, q1⟩ => test_link (thn (hb pins s1 σ H1 _ I1 q1) fun u s2 ⟨y, H2, I2, r2, q2⟩ =>
    thn (ho pins s2 σ H2 x y v u _ I2 r1 r2 q2) fun d s3 ⟨z, H3, I3, r3, k, e, q3⟩ => ?_)) hm
  subst e
  cases r3
  refine wpAny_truthy_bool ?_
  cases k with
  | false =>
    obtain ⟨k', e', q'⟩ := q3
    cases e'
    exact ite_ff ⟨H3, I3, q'⟩
  | true =>
    refine ite_tt (test_last (thn (hc pins s3 σ H3 _ I3 q3) fun w' s4 ⟨z', H4, I4, r4, q4⟩ => thn (ho' pins s4 σ H4 y z' u w' _ I4 r2 r4 q4) fun d' s5 ⟨z2, H5, I5, r5, k2, e2, q5⟩ => ?_))
    subst e2
    cases r5
    exact wpAny_truthy_bool ⟨H5, I5, q5⟩

/-! ### truth -/
/-- a value's truth by the abstract heap -/
def TruV (K : PySem.W.Frag) (x : V) (H : Hp) (k : Bool) : Prop :=
  match x with
  | .non => k = false
  | .bl b => k = b
  | .int i => k = (i != 0)
  | .str y => y.length ≤ sizeLine ∧ k = ((y.length : Int) != 0)
  | .byt y => y.size ≤ sizeLine ∧ k = ((y.size : Int) != 0)
  | .ref p => (∃ xs, SqL K H p xs ∧ k = !xs.isEmpty) ∨ (∃ xs, SqT K H p xs ∧ k = !xs.isEmpty) ∨ ∃ kvs, H p = some (.dK kvs) ∧ k = !kvs.isEmpty
  | _ => False
theorem isEmpty_kv {κ : Type} {kvs : List (κ × V)} {vs : List (κ × Value)} (r : KV kvs vs) : (!vs.isEmpty) = !kvs.isEmpty := by
  cases r <;> rfl
theorem isEmpty_of {xs : List V} {its : List Value} (r : Vals xs its) : (!its.toArray.isEmpty) = !xs.isEmpty := by
  cases r <;> simp
theorem line63 : (sizeLine : Nat) < 2 ^ 63 := by rw [sizeLine_eq]; decide
theorem tru_ok : TruR X (fun x H Q => ∃ k, TruV X.K x H k ∧ Q k H) := by
  intro pins s σ H x v Q I rx h
  obtain ⟨k, e, q⟩ := h
  have hl := line63
  have hs : sizeLine = 16777216 := sizeLine_eq
  cases x with
  | non =>
    cases rx
    have e' : k = false := e
    subst e'
    exact truthy_none ⟨H, I, q⟩
  | bl b =>
    cases rx
    have e' : k = b := e
    subst e'
    exact wpAny_truthy_bool ⟨H, I, q⟩
  | int i =>
    obtain ⟨t, rfl⟩ := rx
    have e' : k = (i != 0) := e
    subst e'
    exact PySem.P.truthy_int ⟨H, I, q⟩
  | str y =>
    obtain ⟨t, rfl⟩ := rx
    obtain ⟨hy, e'⟩ : y.length ≤ sizeLine ∧ k = ((y.length : Int) != 0) := e
    subst e'
    exact PySem.P.truthy_str (by omega) ⟨H, I.tok _, q⟩
  | byt y =>
    obtain ⟨t, rfl⟩ := rx
    obtain ⟨hy, e'⟩ : y.size ≤ sizeLine ∧ k = ((y.size : Int) != 0) := e
    subst e'
    exact PySem.W.truthy_bytes (by omega) ⟨H, I.tok _, q⟩
  | ref p =>
    cases rx
    have e' : (∃ xs, SqL X.K H p xs ∧ k = !xs.isEmpty) ∨ (∃ xs, SqT X.K H p xs ∧ k = !xs.isEmpty) ∨ ∃ kvs, H p = some (.dK kvs) ∧ k = !kvs.isEmpty := e
    rcases e' with ⟨xs, hx, e'⟩ | ⟨xs, hx, e'⟩ | ⟨kvs, hx, e'⟩
    · subst e'
      obtain ⟨its, r, pl, hz⟩ := I.list hx
      have hlen := r.length
      exact wpAny_truthy_list pl.isList (by simp only [List.size_toArray]; omega) ⟨H, I.tok _, by rw [isEmpty_of r]; exact q⟩
    · subst e'
      obtain ⟨its, r, pl, hz⟩ := I.tuple hx
      have hlen := r.length
      exact truthy_tuple pl (by simp only [List.size_toArray]; omega) ⟨H, I.tok _, by rw [isEmpty_of r]; exact q⟩
    · subst e'
      obtain ⟨hz, hS, vs, r, m⟩ : kvs.length ≤ sizeLine ∧ (p == sysModules) = false ∧ ∃ vs, KV kvs vs ∧ s.heap.DictOf (mixKind X.prog X.w) p vs := I.hok p _ hx
      have hlen : kvs.length = vs.length := Paired.length r
      exact wpAny_truthy_dict hS m (by omega) ⟨H, I.tok _, by rw [isEmpty_kv r]; exact q⟩
  | _ => exact (show False from e).elim
/-- any expression whose test is its value's truth (a name, a call, a subscript, a field ..: he by fun _ => rfl) -/
theorem pt_truth (ha : PE X a ta) (he : ∀ whole, isTrue a X.env whole = (do let v ← whole; standAt a.pos; holding [v] (truthy v))) :
    PT X a (fun σ H Q => ta σ H fun x H' => ∃ k, TruV X.K x H' k ∧ Q k H') := by
  intro pins s σ H Q I h
  exact isTrue_plain (thn (ha pins s σ H _ I h) fun v s1 ⟨x, H1, I1, r1, q1⟩ => tru_ok pins s1 σ H1 x v Q I1 r1 q1) (he _)

/-! ### strs and bytes -/
theorem pe_byt {x : List UInt8} {k : Nat} : PE X (.Constant (.bytes x) k pos) (fun _ H Q => Q (.byt x.toArray) H) := fun _ _ _ H _ I h => PySem.W.Constant_bytes ⟨.byt x.toArray, H, I.tok _, ⟨_, rfl⟩, h⟩
theorem op_add_str : OpR X (binaryOp .Add) (fun x y H Q => ∃ i j, x = .str i ∧ y = .str j ∧ i.length + j.length ≤ sizeLine ∧ Q (.str (i ++ j)) H) := by
  intro pins s σ H x y v u Q I rx ry h
  obtain ⟨i, j, rfl, rfl, hz, q⟩ := h
  obtain ⟨t, rfl⟩ := rx
  obtain ⟨t', rfl⟩ := ry
  exact add_str (fun t' tk => ⟨.str (i ++ j), H, I.tok _, ⟨_, rfl⟩, q⟩) hz
theorem iop_add_str : OpR X (inplaceOp .Add) (fun x y H Q => ∃ i j, x = .str i ∧ y = .str j ∧ i.length + j.length ≤ sizeLine ∧ Q (.str (i ++ j)) H) := by
  intro pins s σ H x y v u Q I rx ry h
  obtain ⟨i, j, rfl, rfl, hz, q⟩ := h
  obtain ⟨t, rfl⟩ := rx
  obtain ⟨t', rfl⟩ := ry
  exact iadd_str (fun t' tk => ⟨.str (i ++ j), H, I.tok _, ⟨_, rfl⟩, q⟩) hz
theorem op_add_byt : OpR X (binaryOp .Add) (fun x y H Q => ∃ i j, x = .byt i ∧ y = .byt j ∧ i.size + j.size ≤ 16777216 ∧ Q (.byt (i ++ j)) H) := by
  intro pins s σ H x y v u Q I rx ry h
  obtain ⟨i, j, rfl, rfl, hz, q⟩ := h
  obtain ⟨t, rfl⟩ := rx
  obtain ⟨t', rfl⟩ := ry
  exact PySem.W.KBy.add_bytes hz (fun t' tk => ⟨.byt (i ++ j), H, I.tok _, ⟨_, rfl⟩, q⟩)

def PlainIxT (b : Expr) : Prop := ∀ o i, subscripted b false o i = operate [o, i] (getItem o i)
/-- s[i], 0 ≤ i < len -/
theorem pe_item_str (ha : PE X a ta) (hb : PE X b tb) (hs : PlainIxT b) :
    PE X (.Subscript a b pos) (tOp (fun x y H Q => ∃ z i c, x = .str z ∧ y = .int i ∧ 0 ≤ i ∧ i < 2 ^ 63 ∧ i < z.length ∧ z.cps[i.toNat]? = some c ∧ Q (.str ⟨#[c]⟩) H) ta tb) := by
  intro pins s σ H Q I h
  refine Subscript_ (binT ha hb I h fun v u s2 x y H2 I2 rx ry q => ?_)
  obtain ⟨z, i, c, rfl, rfl, h0, h63, h1, hc, q⟩ := q
  obtain ⟨t, rfl⟩ := rx
  obtain ⟨t', rfl⟩ := ry
  have e : seqIndex? i z.length = some i.toNat := PySem.StrLaws.seqIndex_nonneg h0 h1
  exact tail_any (typeIs_str s2 z t) slot_str_getitem.lookup (getItem_str (c := c) (by
    have e1 : decide (i < -(2 ^ 63 : Int)) = false := decide_eq_false (by omega)
    have e2 : decide (i ≥ 2 ^ 63) = false := decide_eq_false (by omega)
    rw [e1, e2] <;> rfl) (by rw [e]; exact hc) ⟨.str ⟨#[c]⟩, H2, I2.tok _, ⟨_, rfl⟩, q⟩) (hs _ _)
/-- b[i], 0 ≤ i < len -/
theorem pe_item_byt (ha : PE X a ta) (hb : PE X b tb) (hs : PlainIxT b) :
    PE X (.Subscript a b pos) (tOp (fun x y H Q => ∃ (z : List UInt8) (i : Int), x = .byt z.toArray ∧ y = .int i ∧ z.length ≤ sizeLine ∧ 0 ≤ i ∧ i < z.length ∧ Q (.int ((z.getD i.toNat 0).toNat : Nat)) H) ta tb) := by
  intro pins s σ H Q I h
  refine Subscript_ (binT ha hb I h fun v u s2 x y H2 I2 rx ry q => ?_)
  obtain ⟨z, i, rfl, rfl, hz, h0, h1, q⟩ := q
  obtain ⟨t, rfl⟩ := rx
  obtain ⟨t', rfl⟩ := ry
  have hl : sizeLine = 16777216 := sizeLine_eq
  exact tail_any (PySem.W.typeIs_bytes s2 z.toArray t) PySem.W.FB.slot_bytes_getitem.lookup (PySem.W.getItem_bytes (by omega) h0 h1 ⟨.int ((z.getD i.toNat 0).toNat : Nat), H2, I2.tok _, ⟨_, rfl⟩, q⟩) (hs _ _)

/-! ### scalar builtins, by CallR -/
theorem vals1 {x : V} {us : List Value} (r : Vals [x] us) : ∃ u, us = [u] ∧ RelV x u := by
  cases r with
  | cons r1 r2 => cases r2; exact ⟨_, rfl, r1⟩
theorem vals2 {x y : V} {us : List Value} (r : Vals [x, y] us) : ∃ u w', us = [u, w'] ∧ RelV x u ∧ RelV y w' := by
  cases r with
  | cons r1 r2 =>
    cases r2 with
    | cons r3 r4 => cases r4; exact ⟨_, _, rfl, r1, r3⟩
theorem call_abs : CallR X (.builtin "abs") (fun xs H Q => ∃ i, xs = [.int i] ∧ Q (.int (if i < 0 then -i else i)) H) := by
  intro pins s σ H xs us Q I r h
  obtain ⟨i, rfl, q⟩ := h
  obtain ⟨u, rfl, t, rfl⟩ := vals1 r
  exact call_abs_int fun u tk => ⟨.int (if i < 0 then -i else i), H, I.tok _, ⟨_, rfl⟩, q⟩
theorem call_max2 (hc : X.calm = true) : CallR X (.builtin "max") (fun xs H Q => ∃ i j, xs = [.int i, .int j] ∧ Q (.int (if j > i then j else i)) H) := by
  intro pins s σ H xs us Q I r h
  obtain ⟨i, j, rfl, q⟩ := h
  obtain ⟨u, w', rfl, ⟨t, rfl⟩, ⟨t', rfl⟩⟩ := vals2 r
  refine max_two_ints (I.ok.hd hc) fun h' tk k => ⟨_, H, I.kept k, ?_, q⟩
  by_cases hj : j > i
  · rw [if_pos hj, if_pos hj]; exact ⟨_, rfl⟩
  · rw [if_neg hj, if_neg hj]; exact ⟨_, rfl⟩
theorem call_min2 (hc : X.calm = true) : CallR X (.builtin "min") (fun xs H Q => ∃ i j, xs = [.int i, .int j] ∧ Q (.int (if j < i then j else i)) H) := by
  intro pins s σ H xs us Q I r h
  obtain ⟨i, j, rfl, q⟩ := h
  obtain ⟨u, w', rfl, ⟨t, rfl⟩, ⟨t', rfl⟩⟩ := vals2 r
  refine min_two_ints (I.ok.hd hc) fun h' tk k => ⟨_, H, I.kept k, ?_, q⟩
  by_cases hj : j < i
  · rw [if_pos hj, if_pos hj]; exact ⟨_, rfl⟩
  · rw [if_neg hj, if_neg hj]; exact ⟨_, rfl⟩
theorem call_int1 : CallR X (.type "int") (fun xs H Q => (∃ i, xs = [.int i] ∧ Q (.int i) H) ∨ ∃ k, xs = [.bl k] ∧ Q (.int (if k then 1 else 0)) H) := by
  intro pins s σ H xs us Q I r h
  rcases h with ⟨i, rfl, q⟩ | ⟨k, rfl, q⟩
  · obtain ⟨u, rfl, t, rfl⟩ := vals1 r
    exact call_int_int ⟨.int i, H, I, ⟨_, rfl⟩, q⟩
  · obtain ⟨u, rfl, r1⟩ := vals1 r
    cases r1
    exact call_int_bool ⟨.int (if k then 1 else 0), H, I.tok _, ⟨_, rfl⟩, q⟩
theorem call_bool1 : CallR X (.type "bool") (fun xs H Q => (∃ i, xs = [.int i] ∧ Q (.bl (i != 0)) H) ∨ ∃ k, xs = [.bl k] ∧ Q (.bl k) H) := by
  intro pins s σ H xs us Q I r h
  rcases h with ⟨i, rfl, q⟩ | ⟨k, rfl, q⟩
  · obtain ⟨u, rfl, t, rfl⟩ := vals1 r
    exact call_bool_int ⟨.bl (i != 0), H, I, rfl, q⟩
  · obtain ⟨u, rfl, r1⟩ := vals1 r
    cases r1
    exact call_bool_bool ⟨.bl k, H, I, rfl, q⟩
theorem call_str_int : CallR X (.type "str") (fun xs H Q => ∃ i, xs = [.int i] ∧ i.natAbs.log2 < 1920 ∧ Q (.str (toString i)) H) := by
  intro pins s σ H xs us Q I r h
  obtain ⟨i, rfl, hz, q⟩ := h
  obtain ⟨u, rfl, t, rfl⟩ := vals1 r
  exact PySem.P.str_of_int hz ⟨.str _, H, I.tok _, ⟨_, rfl⟩, q⟩
theorem call_ord : CallR X (.builtin "ord") (fun xs H Q => ∃ x, xs = [.str x] ∧ x.length = 1 ∧ Q (.int (x.cps.getD 0 0 : Nat)) H) := by
  intro pins s σ H xs us Q I r h
  obtain ⟨x, rfl, hz, q⟩ := h
  obtain ⟨u, rfl, t, rfl⟩ := vals1 r
  exact ord_of_one hz ⟨.int _, H, I.tok _, ⟨_, rfl⟩, q⟩
theorem call_chr : CallR X (.builtin "chr") (fun xs H Q => ∃ i, xs = [.int i] ∧ 0 ≤ i ∧ i ≤ 1114111 ∧ Q (.str ⟨#[i.toNat]⟩) H) := by
  intro pins s σ H xs us Q I r h
  obtain ⟨i, rfl, h0, h1, q⟩ := h
  obtain ⟨u, rfl, t, rfl⟩ := vals1 r
  exact chr_of_range h0 h1 ⟨.str _, H, I.tok _, ⟨_, rfl⟩, q⟩
/-- len of a str, a bytes, a list, a tuple -/
def LenV (K : PySem.W.Frag) (x : V) (H : Hp) (n : Nat) : Prop :=
  match x with
  | .str y => y.length ≤ sizeLine ∧ n = y.length
  | .byt y => y.size ≤ sizeLine ∧ n = y.size
  | .ref p => (∃ xs, SqL K H p xs ∧ n = xs.length) ∨ ∃ xs, SqT K H p xs ∧ n = xs.length
  | _ => False
theorem call_len : CallR X (.builtin "len") (fun xs H Q => ∃ x n, xs = [x] ∧ LenV X.K x H n ∧ Q (.int n) H) := by
  intro pins s σ H xs us Q I r h
  obtain ⟨x, n, rfl, e, q⟩ := h
  obtain ⟨u, rfl, rx⟩ := vals1 r
  have hl := line63
  have hs : sizeLine = 16777216 := sizeLine_eq
  cases x with
  | str y =>
    obtain ⟨t, rfl⟩ := rx
    obtain ⟨hy, e'⟩ : y.length ≤ sizeLine ∧ n = y.length := e
    subst e'
    exact len_str (by omega) ⟨.int _, H, I.tok _, ⟨_, rfl⟩, q⟩
  | byt y =>
    obtain ⟨t, rfl⟩ := rx
    obtain ⟨hy, e'⟩ : y.size ≤ sizeLine ∧ n = y.size := e
    subst e'
    exact PySem.W.len_bytes (by omega) ⟨.int _, H, I.tok _, ⟨_, rfl⟩, q⟩
  | ref p =>
    cases rx
    have e' : (∃ xs, SqL X.K H p xs ∧ n = xs.length) ∨ ∃ xs, SqT X.K H p xs ∧ n = xs.length := e
    rcases e' with ⟨xs, hx, e'⟩ | ⟨xs, hx, e'⟩
    · subst e'
      obtain ⟨its, r', pl, hz⟩ := I.list hx
      have hlen := r'.length
      exact Calls.call_len_list pl.isList (by simp only [List.size_toArray]; omega) ⟨.int xs.length, H, I.tok _, ⟨_, by simp only [List.size_toArray]; rw [hlen]⟩, q⟩
    · subst e'
      obtain ⟨its, r', pl, hz⟩ := I.tuple hx
      have hlen := r'.length
      exact len_tuple pl (by simp only [List.size_toArray]; omega) ⟨.int xs.length, H, I.tok _, ⟨_, by simp only [List.size_toArray]; rw [hlen]⟩, q⟩
  | _ => exact (show False from e).elim
/-- divmod: a new tuple -/
theorem call_divmod : CallR X (.builtin "divmod") (fun xs H Q => ∃ i j, xs = [.int i, .int j] ∧ CDiv i j ∧ ∀ p, H p = none → Q (.ref p) (upd H p (.tup [.int (i / j), .int (i % j)]))) := by
  intro pins s σ H xs us Q I r h
  obtain ⟨i, j, rfl, ⟨h1, h2⟩, q⟩ := h
  obtain ⟨u, w', rfl, ⟨t, rfl⟩, ⟨t', rfl⟩⟩ := vals2 r
  refine divmod_int (by omega) ?_ (.inl (PyProof.noPylong_small (by omega)))
  rw [Int.fdiv_eq_ediv_of_nonneg i (by omega), Int.fmod_eq_emod_of_nonneg i (by omega)]
  have hn : H s.heap.objs.size = none := I.hok.fresh (Nat.le_refl _)
  refine ⟨.ref s.heap.objs.size, _, ?_, rfl, q _ hn⟩
  refine I.laid (fun b o e => Heap.get?_push_of_some _ e) (Nat.le_refl _) ⟨by simp only [List.length_cons, List.length_nil]; rw [sizeLine_eq]; decide, [.int (i / j) s.toks, .int (i % j) (s.toks + 1)], .cons ⟨_, rfl⟩ (.cons ⟨_, rfl⟩ .nil), ?_⟩
  exact ⟨_, Heap.get?_push_size s.heap rfl, rfl, 0, rfl⟩
end
end L2

namespace L2
open PySem PySem.Spec PyProof.Rows

/-! ### an instance, its attributes a map -/
structure ObjM (h : Heap) (x dx C : Addr) (mA : Str → Option Value) : Prop where
  obj : h.get? x = some (PySem.W.instObj C dx)
  ns : h.Ns1 dx mA
  ne : dx ≠ x

theorem lookIn_ns {h : Heap} {dx : Addr} {mA : Str → Option Value} (n : h.Ns1 dx mA) : ∃ od, h.get? dx = some od ∧ ∀ name, PySem.W.lookIn name od = some (mA name) := by
  obtain ⟨o, es, ep, ho, hd, hk, _, hm⟩ := n
  refine ⟨o, ho, fun name => ?_⟩
  have e := hm name
  unfold nsFind findBy at e
  rw [← Array.find?_toList] at e
  unfold PySem.W.lookIn
  rw [hd]
  dsimp only
  split
  · rename_i y q
    rw [q] at e
    exact congrArg some e
  · rename_i q
    rw [q] at e
    have a : es.toList.any (·.refKey) = false := by
      rw [List.any_eq_false]
      intro y hy
      obtain ⟨z, t, hkey⟩ := hk y (Array.mem_toList_iff.mp hy)
      simp [DictEntry.refKey, hkey]
    have a' : ¬ es.toList.any (·.refKey) = true := by rw [a]; exact Bool.false_ne_true
    rw [if_neg a']
    exact congrArg some e

theorem ObjM.look {h : Heap} {x dx C : Addr} {mA : Str → Option Value} (I : ObjM h x dx C mA) : ∃ od, PySem.W.InstAt h x (PySem.W.instObj C dx) C (some od) ∧ ∀ name, PySem.W.lookIn name od = some (mA name) :=
  let ⟨od, ho, hl⟩ := lookIn_ns I.ns
  ⟨od, ⟨I.obj, rfl, rfl, ho⟩, hl⟩

section
variable {prog : Program} {w : World} {A : Around} {E : Value → Shared → Prop} {s : Shared} {K : PySem.W.Frag} {x dx C f : Addr} {mA : Str → Option Value} {name : Str} {v : Value}

theorem get_map {expr : Bool} {Q : Value → Shared → Prop} (X : K.In s.heap) (I : ObjM s.heap x dx C mA) (hg : PySem.W.plainGet K C name = true) (hh : PySem.W.hasDictIn K C = true)
    (ha : PySem.W.findIn K (.ref C) name = some none) (hv : mA name = some v) (hv' : PySem.W.handedIn v = true) (h : Q v { s with toks := s.toks + 1 }) :
    wpAny (model prog w) A (getAttr (.ref x) name expr) Q E s := by
  obtain ⟨od, J, hl⟩ := I.look
  exact PySem.W.get_value X J (PySem.W.plainGet_of hg).1 (PySem.W.findObj_own hh ha rfl (by rw [hl, hv])) hv' h

theorem get_const {expr : Bool} {a : Value} {Q : Value → Shared → Prop} (X : K.In s.heap) (I : ObjM s.heap x dx C mA) (hg : PySem.W.plainGet K C name = true) (hh : PySem.W.hasDictIn K C = true)
    (ha : PySem.W.findIn K (.ref C) name = some (some a)) (hn : PySem.W.specialIn K a "__get__" = some none) (hc : PySem.W.copiedNames.contains name = false) (hv : mA name = none) (hv' : PySem.W.handedIn a = true)
    (h : Q a { s with toks := s.toks + 1 }) : wpAny (model prog w) A (getAttr (.ref x) name expr) Q E s := by
  obtain ⟨od, J, hl⟩ := I.look
  exact PySem.W.get_value X J (PySem.W.plainGet_of hg).1 (PySem.W.findObj_cls hh ha hn hv' hc (by rw [hl, hv])) hv' h

theorem get_meth {pl : Sem Bool} {Q : Value × List Value → Shared → Prop} (X : K.In s.heap) (I : ObjM s.heap x dx C mA) (hg : PySem.W.plainGet K C name = true)
    (hf : PySem.W.findIn K (.ref C) name = some (some (.ref f))) (ht : PySem.W.isFn K (.ref f) = true) (hv : mA name = none) (h : Q (.ref f, [.ref x]) s) :
    wpAny (model prog w) A (getMethod (.ref x) name pl) Q E s := by
  obtain ⟨od, J, hl⟩ := I.look
  exact PySem.W.method_fn X J (PySem.W.plainGet_of hg).1 (PySem.W.plainGet_of hg).2 hf (beq_iff_eq.mp ht) (by show (PySem.W.lookIn name od).map (·.isSome) = some false; rw [hl, hv]; rfl) h

theorem set_map {ns : List Str} {Q : Unit → Shared → Prop} (X : K.In s.heap) (I : ObjM s.heap x dx C mA)
    (hs : PySem.W.findIn K (.ref C) "__setattr__" = some (some (.builtin "object.__setattr__"))) (hp : PySem.W.plainOver K C = true) (ht : PySem.W.takerIn K C name = some none) (hh : PySem.W.hasDictIn K C = true)
    (hw : PySem.Within mA ns) (hsz : ns.length ≤ sizeLine)
    (h : ∀ h', ObjM h' x dx C (fun y => if y = name then some v else mA y) → Heap.SameBut dx s.heap h' → Q () { s with heap := h', toks := s.toks + 2 }) :
    wpAny (model prog w) A (setAttr (.ref x) name v) Q E s := by
  obtain ⟨od, J, hl⟩ := I.look
  refine PySem.W.set_plain X J hs (PySem.W.osa_open (s := { s with toks := s.toks + 1 }) (r := none) X J hp ht fun b => ?_)
  obtain ⟨cd, hc, hd'⟩ := PySem.W.any_some hh
  have hx : s.heap.get? x = some ⟨.ref C, some dx, .plain, #[]⟩ := I.obj
  refine wpAny_bind (wpAny_pure (wpAny_bind (wpAny_bind (wpAny_loadPart hx (wpAny_bind (PySem.W.Looks.here (s := { s with toks := s.toks + 1 }) (PySem.W.looks_clsIn X hc) ?_))))))
  rw [hd']
  refine wpAny_pure (a := some dx) (wpAny_bind (wpAny_pure (wpAny_bind ?_)))
  refine wpAny_nsSet1 (s := { s with toks := s.toks + 1 }) I.ns fun h' hn2 hs2 => ?_
  obtain ⟨oD, esD, epD, hoD, hdD, hcD⟩ := hn2.count (PySem.Within.cons name v hw)
  refine wpAny_bind (wpAny_lookBehind hoD (by rw [hdD]; exact pastItsLine_dict (Nat.le_trans hcD (by rw [List.length_cons]; omega))) ?_)
  exact wpAny_pure (h _ ⟨(hs2.2 _ (Ne.symm I.ne)).trans I.obj, hn2, I.ne⟩ hs2)

/-- C(..): the dict at the heap's end, the instance behind it; then its __init__ -/
theorem make_map {R : Result → Shared → Prop} {vs : List Value} {kw : List (Str × Value)} (X : K.In s.heap) (hm : PySem.W.makesIn K C = true)
    (hi : PySem.W.findIn K (.ref C) "__init__" = some (some (.ref f))) (hf : PySem.W.typeIn K (.ref f) = some (.type "function"))
    (h : codeAny (model prog w) (A.under (.builtin "type.__call__" ⟨.ref C :: vs, kw⟩)) (.call (.ref f) ⟨.ref (s.heap.objs.size + 1) :: vs, kw⟩) (PySem.W.InitBack (s.heap.objs.size + 1) R)
      { s with heap := (s.heap.push PySem.W.emptyDict).push (PySem.W.instObj C s.heap.objs.size) }) :
    codeAny (model prog w) A (.call (.ref C) ⟨vs, kw⟩) R s := by
  obtain ⟨hh, g, d, t, os⟩ := s
  exact PySem.W.make_core (PySem.W.makes_of X hm) (PySem.W.looks_findIn X hi) (fun self => PySem.W.bind_fn X self hf) (.inl rfl) h
/-- C() where there is no __init__ but object's -/
theorem make_map0 {R : Result → Shared → Prop} (X : K.In s.heap) (hm : PySem.W.makesIn K C = true)
    (hi : PySem.W.findIn K (.ref C) "__init__" = some (some (.builtin "object.__init__")))
    (hb : ∀ self, PySem.W.Looks (model prog w) s.heap (bindSpecial (.builtin "object.__init__") self) (.builtin "object.__init__", [self]))
    (h : codeAny (model prog w) (A.under (.builtin "type.__call__" ⟨[.ref C], []⟩)) (.call (.builtin "object.__init__") ⟨[.ref (s.heap.objs.size + 1)], []⟩) (PySem.W.InitBack (s.heap.objs.size + 1) R)
      { s with heap := (s.heap.push PySem.W.emptyDict).push (PySem.W.instObj C s.heap.objs.size) }) :
    codeAny (model prog w) A (.call (.ref C) ⟨[], []⟩) R s := by
  obtain ⟨hh, g, d, t, os⟩ := s
  exact PySem.W.make_core (PySem.W.makes_of X hm) (PySem.W.looks_findIn X hi) hb (.inr ⟨rfl, rfl⟩) h
end

/-! ### the attributes as a list of pairs -/
def putF (f : Str) (v : V) : List (Str × V) → List (Str × V)
  | [] => [(f, v)]
  | (g, x) :: r => if g = f then (g, v) :: r else (g, x) :: putF f v r
theorem lookup_putF (f g : Str) (v : V) : ∀ fs : List (Str × V), (putF f v fs).lookup g = if g = f then some v else fs.lookup g
  | [] => by
    show List.lookup g [(f, v)] = _
    by_cases h : g = f
    · have hb : (g == f) = true := beq_iff_eq.mpr h
      simp only [List.lookup, hb, if_pos h]
    · have hb : (g == f) = false := beq_eq_false_iff_ne.mpr h
      simp only [List.lookup, hb, if_neg h]
  | (k, x) :: r => by
    have ih := lookup_putF f g v r
    rw [show putF f v ((k, x) :: r) = (if k = f then (k, v) :: r else (k, x) :: putF f v r) from rfl]
    by_cases hk : k = f
    · rw [if_pos hk]
      by_cases h : g = k
      · have hb : (g == k) = true := beq_iff_eq.mpr h
        simp only [List.lookup, hb, if_pos (h.trans hk)]
      · have hb : (g == k) = false := beq_eq_false_iff_ne.mpr h
        simp only [List.lookup, hb, if_neg (fun e : g = f => h (e.trans hk.symm))]
    · rw [if_neg hk]
      by_cases h : g = k
      · have hb : (g == k) = true := beq_iff_eq.mpr h
        simp only [List.lookup, hb, if_neg (fun e : g = f => hk (h.symm.trans e))]
      · have hb : (g == k) = false := beq_eq_false_iff_ne.mpr h
        simp only [List.lookup, hb]
        exact ih
theorem keys_putF (f : Str) (v : V) : ∀ fs : List (Str × V), f ∈ (putF f v fs).map (·.1) ∧ ∀ g, g ∈ fs.map (·.1) → g ∈ (putF f v fs).map (·.1)
  | [] => ⟨by simp [putF], fun g h => by simp at h⟩
  | (k, x) :: r => by
    obtain ⟨i1, i2⟩ := keys_putF f v r
    rw [show putF f v ((k, x) :: r) = (if k = f then (k, v) :: r else (k, x) :: putF f v r) from rfl]
    by_cases hk : k = f
    · rw [if_pos hk]
      subst hk
      exact ⟨by simp, fun g h => by simpa using h⟩
    · rw [if_neg hk]
      refine ⟨?_, fun g h => ?_⟩
      · rw [List.map_cons]
        exact List.mem_cons_of_mem _ i1
      · rw [List.map_cons] at h ⊢
        rcases List.mem_cons.mp h with e | e
        · exact List.mem_cons.mpr (.inl e)
        · exact List.mem_cons_of_mem _ (i2 g e)
theorem length_putF (f : Str) (v : V) : ∀ fs : List (Str × V), (putF f v fs).length ≤ fs.length + 1
  | [] => by simp [putF]
  | (k, x) :: r => by
    have ih := length_putF f v r
    rw [show putF f v ((k, x) :: r) = (if k = f then (k, v) :: r else (k, x) :: putF f v r) from rfl]
    by_cases hk : k = f
    · rw [if_pos hk, List.length_cons, List.length_cons]; omega
    · rw [if_neg hk, List.length_cons, List.length_cons]; omega

theorem RelO.some_of {v : V} {o : Option Value} (r : RelO (some v) o) : ∃ u, o = some u ∧ RelV v u := by
  cases o with
  | none => exact (show False from r).elim
  | some u => exact ⟨u, rfl, r⟩
theorem RelO.none_of {o : Option Value} (r : RelO none o) : o = none := by
  cases o with
  | none => rfl
  | some u => exact (show False from r).elim
theorem handed_of {v : V} {u : Value} (r : RelV v u) : PySem.W.handedIn u = true := by
  cases v with
  | non => cases (show u = Value.none from r); rfl
  | bl b => cases (show u = Value.bool b from r); rfl
  | int i => obtain ⟨t, e⟩ := (show ∃ t, u = Value.int i t from r); cases e; rfl
  | str x => obtain ⟨t, e⟩ := (show ∃ t, u = Value.str x t from r); cases e; rfl
  | byt b => obtain ⟨t, e⟩ := (show ∃ t, u = Value.bytes b t from r); cases e; rfl
  | flt b => obtain ⟨t, e⟩ := (show ∃ t, u = Value.float b t from r); cases e; rfl
  | ref a => cases (show u = Value.ref a from r); rfl
  | ty n => cases (show u = Value.type n from r); rfl

section
variable {P : Program} {w : World} {H H' : Hp} {h h' : Heap} {a C dx : Addr} {fs fs' : List (Str × V)}
theorem ins_get (hok : HOk P w H h) (e : H a = some (.ins C dx fs)) : ∃ mA, ObjM h a dx C mA ∧ (∀ f, RelO (fs.lookup f) (mA f)) ∧ PySem.Within mA (fs.map (·.1)) ∧ fs.length ≤ 1000 ∧ H dx = some (.own a) := by
  obtain ⟨d, z, ne, ob, mA, n, r, q⟩ := (show ObjOk P w H h a (.ins C dx fs) from hok a _ e)
  exact ⟨mA, ⟨ob, n, ne⟩, r, q, z, d⟩
end

/-! ### what of the text a class must have -/
structure Cls (K : PySem.W.Frag) (C : Addr) : Prop where
  pg : PySem.W.plainGet K C Str.empty = true
  hd : PySem.W.hasDictIn K C = true
  po : PySem.W.plainOver K C = true
  sa : PySem.W.findIn K (.ref C) "__setattr__" = some (some (.builtin "object.__setattr__"))
theorem Cls.get {K : PySem.W.Frag} {C : Addr} (c : Cls K C) (f : Str) : PySem.W.plainGet K C f = true := c.pg
/-- no class of it has the name -/
def NoAttr (K : PySem.W.Frag) (C : Addr) (f : Str) : Prop := PySem.W.findIn K (.ref C) f = some none
theorem NoAttr.taker {K : PySem.W.Frag} {C : Addr} {f : Str} (n : NoAttr K C f) : PySem.W.takerIn K C f = some none := by
  unfold PySem.W.takerIn
  rw [show PySem.W.findIn K (.ref C) f = some none from n]
  rfl
/-- a constant of the class -/
structure Con (K : PySem.W.Frag) (C : Addr) (f : Str) (v : V) (u : Value) : Prop where
  at_ : PySem.W.findIn K (.ref C) f = some (some u)
  rel : RelV v u
  get : PySem.W.specialIn K u "__get__" = some none
  cp : PySem.W.copiedNames.contains f = false
/-- a method: a plain def of the class or of one above it -/
structure Meth (K : PySem.W.Frag) (C : Addr) (m : Str) (f : Addr) : Prop where
  at_ : PySem.W.findIn K (.ref C) m = some (some (.ref f))
  fn : PySem.W.isFn K (.ref f) = true
  kp : PySem.W.keepIn K (.ref f) = true

section
variable {X : Cx} {pins : List (Addr × Obj)} {σ : St} {H : Hp} {s : Shared} {a C dx : Addr} {fs : List (Str × V)} {f : Str} {v : V} {A : Around} {E : Value → Shared → Prop}

theorem getattr_ok {b : Bool} {Q : Value → Shared → Prop} (I : Inv X pins σ H s) (e : H a = some (.ins C dx fs)) (c : Cls X.K C) (n : NoAttr X.K C f) (l : fs.lookup f = some v)
    (h : ∀ u s', Inv X pins σ H s' → RelV v u → Q u s') : wpAny (model X.prog X.w) A (getAttr (.ref a) f b) Q E s := by
  obtain ⟨mA, O, r, _, _, _⟩ := ins_get I.hok e
  obtain ⟨u, hu, ru⟩ := RelO.some_of (v := v) (o := mA f) (by rw [← l]; exact r f)
  exact get_map I.kIn O (c.get f) c.hd n hu (handed_of ru) (h u _ (I.tok _) ru)

theorem getcon_ok {b : Bool} {u : Value} {Q : Value → Shared → Prop} (I : Inv X pins σ H s) (e : H a = some (.ins C dx fs)) (c : Cls X.K C) (k : Con X.K C f v u) (l : fs.lookup f = none)
    (h : ∀ s', Inv X pins σ H s' → Q u s') : wpAny (model X.prog X.w) A (getAttr (.ref a) f b) Q E s := by
  obtain ⟨mA, O, r, _, _, _⟩ := ins_get I.hok e
  have hn : mA f = none := RelO.none_of (by rw [← l]; exact r f)
  exact get_const I.kIn O (c.get f) c.hd k.at_ k.get k.cp hn (handed_of k.rel) (h _ (I.tok _))

theorem getmeth_ok {m : Str} {g : Addr} {pl : Sem Bool} {Q : Value × List Value → Shared → Prop} (I : Inv X pins σ H s) (e : H a = some (.ins C dx fs)) (c : Cls X.K C) (k : Meth X.K C m g) (l : fs.lookup m = none)
    (h : Q (.ref g, [.ref a]) s) : wpAny (model X.prog X.w) A (getMethod (.ref a) m pl) Q E s := by
  obtain ⟨mA, O, r, _, _, _⟩ := ins_get I.hok e
  have hn : mA m = none := RelO.none_of (by rw [← l]; exact r m)
  exact get_meth I.kIn O (c.get m) k.at_ k.fn hn h

theorem setattr_ok {y : V} {u : Value} {Q : Unit → Shared → Prop} (I : Inv X pins σ H s) (e : H a = some (.ins C dx fs)) (c : Cls X.K C) (n : NoAttr X.K C f) (hl : fs.length < 1000) (ry : RelV y u)
    (h : ∀ s', Inv X pins σ (upd H a (.ins C dx (putF f y fs))) s' → Q () s') : wpAny (model X.prog X.w) A (setAttr (.ref a) f u) Q E s := by
  obtain ⟨mA, O, r, wi, _, ho⟩ := ins_get I.hok e
  have hz : (fs.map (·.1)).length ≤ sizeLine := by rw [List.length_map, sizeLine_eq]; omega
  refine set_map I.kIn O c.sa c.po n.taker c.hd wi hz fun h' O' sb => h _ ?_
  have hd : ∃ o, h'.get? dx = some o := let ⟨o, _, _, e', _⟩ := O'.ns; ⟨o, e'⟩
  refine I.write (x := a) (e := dx) (by rw [e]; exact True.intro) (.inr ho) (fun b q hb z => (sb.2 b hb).trans z) hd ?_
  refine ⟨by rw [upd_ne O.ne]; exact ho, ?_, O.ne, O'.obj, _, O'.ns, fun g => ?_, fun g hg => ?_⟩
  · have := length_putF f y fs; omega
  · show RelO ((putF f y fs).lookup g) (if g = f then some u else mA g)
    rw [lookup_putF]
    by_cases q : g = f
    · rw [if_pos q, if_pos q]; exact ry
    · rw [if_neg q, if_neg q]; exact r g
  · by_cases q : g = f
    · rw [q]; exact (keys_putF f y fs).1
    · refine (keys_putF f y fs).2 g (wi g fun z => hg ?_)
      show (if g = f then some u else mA g) = none
      rw [if_neg q]; exact z

/-- a new instance, tracked, without attributes -/
theorem Inv.made (I : Inv X pins σ H s) : Inv X pins σ (upd (upd H s.heap.objs.size (.own (s.heap.objs.size + 1))) (s.heap.objs.size + 1) (.ins C s.heap.objs.size []))
    { s with heap := (s.heap.push PySem.W.emptyDict).push (PySem.W.instObj C s.heap.objs.size) } := by
  have e1 : (s.heap.push PySem.W.emptyDict).get? s.heap.objs.size = some PySem.W.emptyDict := Heap.get?_push_size s.heap rfl
  have e2 : ((s.heap.push PySem.W.emptyDict).push (PySem.W.instObj C s.heap.objs.size)).get? (s.heap.objs.size + 1) = some (PySem.W.instObj C s.heap.objs.size) := by
    have := Heap.get?_push_size (s.heap.push PySem.W.emptyDict) (o := PySem.W.instObj C s.heap.objs.size) rfl
    rwa [Heap.size_push] at this
  have e3 : (s.heap.push PySem.W.emptyDict).Ns s.heap.objs.size (fun _ => none) := ⟨PySem.W.emptyDict, #[], _, e1, rfl, (fun e he => absurd he (by simp)), fun _ => rfl⟩
  have I1 := I.laid (a := s.heap.objs.size) (o := .own (s.heap.objs.size + 1)) (h' := s.heap.push PySem.W.emptyDict) (t' := s.toks) (fun b u q => Heap.get?_push_of_some _ q) (Nat.le_refl _) ⟨_, e1⟩
  refine I1.laid (a := s.heap.objs.size + 1) (o := .ins C s.heap.objs.size []) (t' := s.toks) (fun b u q => Heap.get?_push_of_some _ q) (Nat.le_of_eq (Heap.size_push _ _)) ?_
  have ne : s.heap.objs.size ≠ s.heap.objs.size + 1 := Nat.ne_of_lt (Nat.lt_succ_self _)
  refine ⟨by rw [upd_ne ne, upd_same], Nat.zero_le _, ne, e2, fun _ => none, (Heap.Ns1.of_empty e3).at fun o q => Heap.get?_push_of_some _ q, fun _ => True.intro, fun y hy => absurd rfl hy⟩

/-- e.f where nothing but the object is asked: through attributeBase (super) and the last hold -/
theorem attr_of {prog : Program} {w : World} {env : Env} {e : Expr} {f : Str} {pos : Pos} {s : Shared} {Q : Value → Shared → Prop} (hb : attributeBase e f env (eval e env) = eval e env)
    (h : wpAny (model prog w) A (eval e env) (fun o s₁ => wpAny (model prog w) A (getAttr o f true) Q E s₁) E s) : wpAny (model prog w) A (eval (.Attribute e f pos) env) Q E s :=
  Attribute_any_ h (by rw [arm_eval_Attribute, hb])
end

/-! ### readings and rules -/
/-- e.f, an attribute of the instance -/
def tFld (K : PySem.W.Frag) (ta : TE) (f : Str) : TE := fun σ H Q => ta σ H fun x H1 => ∃ a C dx fs v, x = .ref a ∧ H1 a = some (.ins C dx fs) ∧ Cls K C ∧ NoAttr K C f ∧ fs.lookup f = some v ∧ Q v H1
/-- e.f, a constant of the class -/
def tCon (K : PySem.W.Frag) (ta : TE) (f : Str) : TE := fun σ H Q => ta σ H fun x H1 => ∃ a C dx fs v u, x = .ref a ∧ H1 a = some (.ins C dx fs) ∧ Cls K C ∧ Con K C f v u ∧ fs.lookup f = none ∧ Q v H1
/-- e.f = value -/
def sFld (K : PySem.W.Frag) (ta tv : TE) (f : Str) : TS := fun D σ H => tv σ H fun y H1 => ta σ H1 fun x H2 => ∃ a C dx fs, x = .ref a ∧ H2 a = some (.ins C dx fs) ∧ Cls K C ∧ NoAttr K C f ∧ fs.length < 1000 ∧
  D.nx σ (upd H2 a (.ins C dx (putF f y fs)))
/-- an augmented operator on two values -/
def InOp (X : Cx) (op : Operator) (rd : V → V → Hp → VK → Prop) : Prop :=
  ∀ (pins : List (Addr × Obj)) (s : Shared) (σ : St) (H : Hp) (x y : V) (u v : Value) (Q : VK), Inv X pins σ H s → RelV x u → RelV y v → rd x y H Q → wpAny (model X.prog X.w) X.A (inplaceOp op u v) (EP X pins σ Q) X.xe s
/-- e.f op= value -/
def sFldAug (K : PySem.W.Frag) (ta tv : TE) (rd : V → V → Hp → VK → Prop) (f : Str) : TS := fun D σ H => ta σ H fun x H1 => ∃ a C dx fs v, x = .ref a ∧ H1 a = some (.ins C dx fs) ∧ Cls K C ∧ NoAttr K C f ∧ fs.lookup f = some v ∧
  tv σ H1 fun y H2 => rd v y H2 fun z H3 => ∃ dx' fs', H3 a = some (.ins C dx' fs') ∧ fs'.length < 1000 ∧ D.nx σ (upd H3 a (.ins C dx' (putF f z fs')))

section
variable {X : Cx} {o e value : Expr} {f : Str} {pos pos' tpos : Pos} {ta tv : TE}
theorem pe_fld (he : PE X e ta) (hb : attributeBase e f X.env (eval e X.env) = eval e X.env) : PE X (.Attribute e f pos) (tFld X.K ta f) := by
  intro pins s σ H Q I h
  refine attr_of hb (thn (he pins s σ H _ I h) fun u s1 ⟨x, H1, I1, rx, a, C, dx, fs, v, ex, ea, c, n, l, q⟩ => ?_)
  subst ex
  obtain rfl : u = Value.ref a := rx
  exact getattr_ok I1 ea c n l fun u' s2 I2 ru => ⟨v, H1, I2, ru, q⟩
theorem pe_con (he : PE X e ta) (hb : attributeBase e f X.env (eval e X.env) = eval e X.env) : PE X (.Attribute e f pos) (tCon X.K ta f) := by
  intro pins s σ H Q I h
  refine attr_of hb (thn (he pins s σ H _ I h) fun u s1 ⟨x, H1, I1, rx, a, C, dx, fs, v, u0, ex, ea, c, k, l, q⟩ => ?_)
  subst ex
  obtain rfl : u = Value.ref a := rx
  exact getcon_ok I1 ea c k l fun s2 I2 => ⟨v, H1, I2, k.rel, q⟩
theorem ps_fld (ha : PE X o ta) (hv : PE X value tv) (hs : swapsWith value (some (.Attribute o f pos')) pos.line X.env = pure false) : PS X (.Assign [.Attribute o f pos'] value pos) (sFld X.K ta tv f) := by
  intro pins s σ H D I h
  refine plainObj_wpAny_Assign_Attribute (thn (hv pins s σ H _ I h) fun u s1 ⟨y, H1, I1, ry, q⟩ => thn (ha pins s1 σ H1 _ I1 q) fun ov s2 ⟨x, H2, I2, rx, a, C, dx, fs, ex, ea, c, n, l, q2⟩ => ?_) hs
  subst ex
  obtain rfl : ov = Value.ref a := rx
  exact setattr_ok I2 ea c n l ry fun s3 I3 => ⟨σ, _, I3, q2⟩
theorem ps_fldaug {op : Operator} {rd : V → V → Hp → VK → Prop} (ha : PE X o ta) (hv : PE X value tv) (hop : InOp X op rd) : PS X (.AugAssign (.Attribute o f tpos) op value pos) (sFldAug X.K ta tv rd f) := by
  intro pins s σ H D I h
  refine wpAny_AugAssign_AttributeAny (thn (ha pins s σ H _ I h) fun ov s1 ⟨x, H1, I1, rx, a, C, dx, fs, v, ex, ea, c, n, l, q⟩ => ?_)
  subst ex
  obtain rfl : ov = Value.ref a := rx
  refine getattr_ok I1 ea c n l fun u s2 I2 ru => thn (hv pins s2 σ H1 _ I2 q) fun w3 s3 ⟨y, H2, I3, ry, q3⟩ => thn (hop pins s3 σ H2 v y u w3 _ I3 ru ry q3) fun w4 s4 ⟨z, H3, I4, rz, dx', fs', ea', l', q4⟩ => ?_
  exact setattr_ok I4 ea' c n l' rz fun s5 I5 => ⟨σ, _, I5, q4⟩
def rAdd : V → V → Hp → VK → Prop := fun x y H Q => ∃ i j, x = .int i ∧ y = .int j ∧ Q (.int (i + j)) H
def rSub : V → V → Hp → VK → Prop := fun x y H Q => ∃ i j, x = .int i ∧ y = .int j ∧ Q (.int (i - j)) H
theorem in_add : InOp X .Add rAdd := by
  rintro pins s σ H x y u v Q I rx ry ⟨i, j, rfl, rfl, q⟩
  obtain ⟨t, rfl⟩ := (show ∃ t, u = Value.int i t from rx)
  obtain ⟨t', rfl⟩ := (show ∃ t', v = Value.int j t' from ry)
  exact PyProof.Rows.iadd_int ⟨.int (i + j), H, I.tok _, ⟨_, rfl⟩, q⟩
theorem in_sub : InOp X .Sub rSub := by
  rintro pins s σ H x y u v Q I rx ry ⟨i, j, rfl, rfl, q⟩
  obtain ⟨t, rfl⟩ := (show ∃ t, u = Value.int i t from rx)
  obtain ⟨t', rfl⟩ := (show ∃ t', v = Value.int j t' from ry)
  exact PyProof.Rows.isub_int ⟨.int (i - j), H, I.tok _, ⟨_, rfl⟩, q⟩

/-- what is between an instance and its method: the tree of a method call -/
theorem methcall_of {pl : Sem Bool} {m : Str} {apos : Pos} {args : List Expr} {pins : List (Addr × Obj)} {s : Shared} {σ : St} {H : Hp} {Q : Value → Shared → Prop} {te : TE} (he : PE X e te) (I : Inv X pins σ H s)
    (h : te σ H fun x H1 => ∃ a C dx fs g, x = .ref a ∧ H1 a = some (.ins C dx fs) ∧ Cls X.K C ∧ Meth X.K C m g ∧ fs.lookup m = none ∧
      ∀ s1, Inv X pins σ H1 s1 → wpAny (model X.prog X.w) X.A (callWith pos (.ref g) [.ref a] (backTo pos (starEach args X.env)) (backToKw pos (keywordEach [] X.env))) Q X.xe s1)
    (ht : eval (.Call (.Attribute e m apos) args [] pos) X.env = (do
      let ov ← eval e X.env
      standAt apos.atName
      let (f, first) ← holding [ov] (getMethod ov m pl)
      callWith pos f first (backTo pos (starEach args X.env)) (backToKw pos (keywordEach [] X.env)))) :
    wpAny (model X.prog X.w) X.A (eval (.Call (.Attribute e m apos) args [] pos) X.env) Q X.xe s := by
  refine PySem.W.methodCall_KW (pl := pl) (thn (he pins s σ H _ I h) fun u s1 ⟨x, H1, I1, rx, a, C, dx, fs, g, ex, ea, c, k, l, q⟩ => ?_) ht
  subst ex
  obtain rfl : u = Value.ref a := rx
  exact getmeth_ok I1 ea c k l (q s1 I1)
end

/-! ### isinstance -/
section
variable {X : Cx} {pins : List (Addr × Obj)} {σ : St} {H : Hp} {s : Shared} {A : Around} {E : Value → Shared → Prop} {Q : Value → Shared → Prop} {c : Value} {b : Bool}
/-- the type of a value, as the fragment's deciders take it; for an instance its class -/
inductive TyOf (K : PySem.W.Frag) (H : Hp) : V → Value → Prop where
  | non : TyOf K H .non (.type "NoneType")
  | bl (x : Bool) : TyOf K H (.bl x) (.type "bool")
  | int (i : Int) : TyOf K H (.int i) (.type "int")
  | str (x : Str) : TyOf K H (.str x) (.type "str")
  | flt (x : UInt64) : TyOf K H (.flt x) (.type "float")
  | lst {a : Addr} {xs : List V} (e : H a = some (.lst xs)) : TyOf K H (.ref a) (.type "list")
  | frz {a : Addr} {o : Obj} {xs : List V} (e : H a = some (.frz o (.lst xs))) : TyOf K H (.ref a) (.type "list")
  | tup {a : Addr} {xs : List V} (e : H a = some (.tup xs)) : TyOf K H (.ref a) (.type "tuple")
  | dK {a : Addr} {kvs : List (Key × V)} (e : H a = some (.dK kvs)) : TyOf K H (.ref a) (.type "dict")
  | dT {a : Addr} {kvs : List (List Key × V)} (e : H a = some (.dT kvs)) : TyOf K H (.ref a) (.type "dict")
  | ins {a C dx : Addr} {fs : List (Str × V)} (e : H a = some (.ins C dx fs)) (cl : Cls K C) (ha : PySem.W.findIn K (.ref C) "__class__" = some (some (.builtin "object.__class__")))
      (hn : PySem.W.specialIn K (.builtin "object.__class__") "__get__" = some (some (.builtin "getset_descriptor.__get__"))) (htk : PySem.W.takesIn K (.builtin "object.__class__") = some true)
      (hm : PySem.W.mroIn K C (.type "object") = some true) : TyOf K H (.ref a) (.ref C)
/-- isinstance(x, c) for one class c, a built-in or an own one: kitOne's answer -/
theorem isinst_ok {x : V} {u t : Value} (I : Inv X pins σ H s) (rx : RelV x u) (ty : TyOf X.K H x t) (e : PySem.W.kitOne X.K t c = some b) (h : ∀ tk, Q (.bool b) { s with toks := tk }) :
    wpAny (model X.prog X.w) A (call (.builtin "isinstance") [u, c]) Q E s := by
  cases ty with
  | non => cases (show u = Value.none from rx); exact PySem.W.kia_one PySem.W.kitx_none I.kIn True.intro e (fun z => nomatch z) h
  | bl y => cases (show u = Value.bool y from rx); exact PySem.W.kia_one PySem.W.kitx_bool I.kIn True.intro e (fun z => nomatch z) h
  | int i => obtain ⟨t, q⟩ := (show ∃ t, u = Value.int i t from rx); cases q; exact PySem.W.kia_one PySem.W.kitx_int I.kIn True.intro e (fun z => nomatch z) h
  | str y => obtain ⟨t, q⟩ := (show ∃ t, u = Value.str y t from rx); cases q; exact PySem.W.kia_one PySem.W.kitx_str I.kIn True.intro e (fun z => nomatch z) h
  | flt y => obtain ⟨t, q⟩ := (show ∃ t, u = Value.float y t from rx); cases q; exact PySem.W.kia_one PySem.W.kitx_float I.kIn True.intro e (fun z => nomatch z) h
  | @lst a xs ea =>
    cases (show u = Value.ref a from rx)
    obtain ⟨_, _, n, _, h1⟩ := (show ObjOk X.prog X.w H s.heap a (.lst xs) from I.hok a _ ea)
    exact PySem.W.kia_one PySem.W.kitx_list I.kIn ⟨_, h1, rfl⟩ e (fun z => nomatch z) h
  | @frz a ob xs ea =>
    cases (show u = Value.ref a from rx)
    obtain ⟨_, _, _, n, _, h1⟩ := (show ObjOk X.prog X.w H s.heap a (.frz ob (.lst xs)) from I.hok a _ ea)
    exact PySem.W.kia_one PySem.W.kitx_list I.kIn ⟨_, h1, rfl⟩ e (fun z => nomatch z) h
  | @tup a xs ea =>
    cases (show u = Value.ref a from rx)
    obtain ⟨_, _, _, p⟩ := (show ObjOk X.prog X.w H s.heap a (.tup xs) from I.hok a _ ea)
    obtain ⟨o, h1, h2, _⟩ := p
    exact PySem.W.kia_one PySem.W.kitx_tuple I.kIn ⟨o, h1, h2⟩ e (fun z => nomatch z) h
  | @dK a kvs ea =>
    cases (show u = Value.ref a from rx)
    obtain ⟨_, _, vs, _, p⟩ := (show ObjOk X.prog X.w H s.heap a (.dK kvs) from I.hok a _ ea)
    obtain ⟨o, es, ep, h1, h2, _⟩ := p
    exact PySem.W.kia_one PySem.W.kitx_dict I.kIn ⟨o, h1, h2.1⟩ e (fun z => nomatch z) h
  | @dT a kvs ea =>
    cases (show u = Value.ref a from rx)
    obtain ⟨_, _, xs, _, o, es, ep, h1, h2, _⟩ := (show ObjOk X.prog X.w H s.heap a (.dT kvs) from I.hok a _ ea)
    exact PySem.W.kia_one PySem.W.kitx_dict I.kIn ⟨o, h1, h2.1⟩ e (fun z => nomatch z) h
  | @ins a C dx fs ea cl ha hn htk hm =>
    cases (show u = Value.ref a from rx)
    obtain ⟨mA, O, _⟩ := ins_get I.hok ea
    obtain ⟨od, J, _⟩ := O.look
    exact PySem.W.kia_one (PySem.W.kitx_own (cl.get _) cl.hd ha hn htk hm) I.kIn J e (fun z => nomatch z) h
end
end L2

namespace L2
open PySem PySem.Spec PyProof.Rows

/-! ### room -/
structure Room (k : Nat) (A : Around) : Prop where
  hd : A.handled = none
  dp : A.depth + 3 * k + 5 < recursionLimit
  un : A.units + 16 * k + 200 < cLine
theorem Room.mono {j k : Nat} {A : Around} (r : Room k A) (h : j ≤ k) : Room j A := ⟨r.hd, by have := r.dp; omega, by have := r.un; omega⟩
theorem Room.deeper {k : Nat} {A : Around} (r : Room (k + 1) A) (env : Env) : Room k (A.deeper env) :=
  ⟨r.hd, by have := r.dp; show A.depth + 1 + 3 * k + 5 < _; omega, by have := r.un; show A.units + 3 + 16 * k + 200 < _; omega⟩
theorem Room.in1 {k : Nat} {A : Around} (r : Room (k + 1) A) : Room k A.in1 :=
  ⟨r.hd, by have := r.dp; show A.depth + 3 * k + 5 < _; omega, by have := r.un; show A.units + 1 + 16 * k + 200 < _; omega⟩
theorem make_depth {A : Around} {C : Addr} {us : List Value} {kw : List (Str × Value)} : (A.under (.builtin "type.__call__" ⟨.ref C :: us, kw⟩)).depth = A.depth + 1 := by
  first | rfl | simp [Around.under, Code.weight, Code.isCreation, Code.isGuard, Code.isCaller, Code.frames, Code.isFrame, guardIds]
theorem make_units {A : Around} {C : Addr} {us : List Value} {kw : List (Str × Value)} : (A.under (.builtin "type.__call__" ⟨.ref C :: us, kw⟩)).units = A.units + 1 := by
  first | rfl | simp [Around.under, Code.cUnits, Code.frames, Code.isFrame]
theorem Room.make {k : Nat} {A : Around} (r : Room (k + 1) A) (C : Addr) (us : List Value) (kw : List (Str × Value)) : Room k (A.under (.builtin "type.__call__" ⟨.ref C :: us, kw⟩)) :=
  ⟨r.hd, by have := r.dp; rw [make_depth]; omega, by have := r.un; rw [make_units]; omega⟩
theorem Room.depth {k : Nat} {A : Around} (r : Room k A) : A.depth < recursionLimit := by have := r.dp; omega
theorem Room.units {k : Nat} {A : Around} (r : Room k A) : A.units + 64 < cLine := by have := r.un; omega
theorem Room.units0 {k : Nat} {A : Around} (r : Room k A) : A.units < cLine := by have := r.un; omega

/-! ### argument lists and displays -/
def tNil : TA := fun _ H Q => Q [] H
def tCons (ta : TE) (tr : TA) : TA := fun σ H Q => ta σ H fun x H1 => tr σ H1 fun xs H2 => Q (x :: xs) H2
section
variable {X : Cx} {e : Expr} {es : List Expr} {te : TE} {t : TA} {pos : Pos}
theorem pa_nil : PA X [] tNil := fun _ _ _ _ H Q I h => Calls.spliced_nil ⟨[], H, I, .nil, h⟩
theorem pa_cons (ha : PE X e te) (hr : PA X es t) (hs : starEach (e :: es) X.env = (false, eval e X.env) :: starEach es X.env := by rfl) : PA X (e :: es) (tCons te t) := by
  intro pos pins s σ H Q I h
  rw [hs]
  show wpAny _ _ (spliced ((false, eval e X.env) :: backTo pos (starEach es X.env))) _ _ s
  refine Calls.spliced_cons (thn (ha pins s σ H _ I h) fun u s1 ⟨x, H1, I1, r1, q1⟩ => ?_)
  exact thn (hr pos pins s1 σ H1 _ I1 q1) fun us s2 ⟨xs, H2, I2, r2, q2⟩ => ⟨x :: xs, H2, I2, .cons r1 r2, q2⟩

/-- a tuple, a list of written items -/
def tTup (t : TA) : TE := fun σ H Q => t σ H fun xs H1 => xs.length ≤ sizeLine ∧ ∀ p, H1 p = none → Q (.ref p) (upd H1 p (.tup xs))
def tLst (t : TA) : TE := fun σ H Q => t σ H fun xs H1 => xs.length ≤ sizeLine ∧ ∀ p, H1 p = none → Q (.ref p) (upd H1 p (.lst xs))
theorem pe_tup {x1} (h : PA X es t) : PE X (.Tuple es x1 pos) (tTup t) := by
  intro pins s σ H Q I hq
  refine wpAny_Tuple_spliced (thn (h pos pins s σ H _ I hq) fun us s1 ⟨xs, H1, I1, r, z, q⟩ => ⟨by rw [← r.length]; exact z, ?_⟩)
  have hf : H1 s1.heap.objs.size = none := I1.hok.fresh (Nat.le_refl _)
  refine ⟨.ref s1.heap.objs.size, upd H1 s1.heap.objs.size (.tup xs), I1.laid (t' := s1.toks) (fun b u e => Heap.get?_push_of_some _ e) (Nat.le_refl _) ?_, rfl, q _ hf⟩
  exact ⟨z, us, r, ⟨_, Heap.get?_push_size _ rfl, rfl, _, rfl⟩⟩
theorem pe_lst (h : PA X es t) : PE X (.List es pos) (tLst t) := by
  intro pins s σ H Q I hq
  refine wpAny_List_spliced (thn (h pos pins s σ H _ I hq) fun us s1 ⟨xs, H1, I1, r, z, q⟩ => ⟨by rw [← r.length]; exact z, ?_⟩)
  have hf : H1 s1.heap.objs.size = none := I1.hok.fresh (Nat.le_refl _)
  refine ⟨.ref s1.heap.objs.size, upd H1 s1.heap.objs.size (.lst xs), I1.laid (t' := s1.toks) (fun b u e => Heap.get?_push_of_some _ e) (Nat.le_refl _) ?_, rfl, q _ hf⟩
  exact ⟨z, us, 0, r, Heap.get?_push_size _ rfl⟩
end

/-! ### what a def promises -/
/-- a def's promise: the bound arguments in the parameters' order, the heap, the wanted end, the wanted exception -/
abbrev Sp := List V → Hp → VK → XK → Prop
/-- how an exception lies behind a call (file 08 gives it): the callers' frames, abstract heap and state ahead of the call, the wish, the exception, the state -/
abbrev CXT := List Env → Hp → Shared → XK → Value → Shared → Prop

/-- the state at a call -/
structure Env0 (P : Program) (w : World) (K : PySem.W.Frag) (mg : Str → Option Value) (base : Heap) (A : Around) (outer : List Env) (s : Shared) (H : Hp) : Prop where
  frames : A.frames = some outer
  mod : Mod K mg base
  bs : ∀ b o, base.get? b = some o → s.heap.get? b = some o ∧ H b = none
  bsz : base.objs.size ≤ s.heap.objs.size
  funs : s.heap.FunFrames base outer
  frf : ∀ b ∈ frs outer, H b = none
  hok : HOk P w H s.heap
  bare : AllBare s.gens
/-- a call's end -/
def CE (outer : List Env) (P : Program) (w : World) (H : Hp) (s : Shared) (Q : VK) (u : Value) (s' : Shared) : Prop :=
  ∃ v H', s'.os = s.os ∧ AllBare s'.gens ∧ Un (frs outer) [] H H' s.heap s'.heap ∧ HOk P w H' s'.heap ∧ RelV v u ∧ Q v H'
def CR (CX : CXT) (outer : List Env) (P : Program) (w : World) (H : Hp) (s : Shared) (Q : VK) (E : XK) (r : Result) (s' : Shared) : Prop :=
  match r with
  | .ok (.ret u) => CE outer P w H s Q u s'
  | .ok _ => False
  | .error e => CX outer H s E e s'
structure FnOk (P : Program) (w : World) (K : PySem.W.Frag) (mg : Str → Option Value) (base : Heap) (CX : CXT) (k : Nat) (f : Addr) (fd : FuncData) (ps : List Str) (sp : Sp) : Prop where
  len : ∀ vs H Q E, sp vs H Q E → vs.length = ps.length
  run : ∀ (A : Around) (outer : List Env) (s : Shared) (H : Hp) (args : Args) (us : List Value) (vs : List V) (Q : VK) (E : XK), Room k A → Env0 P w K mg base A outer s H → BindsTo s fd args (ps.zip us) → Vals vs us → sp vs H Q E →
    codeAny (model P w) A (.call (.ref f) args) (CR CX outer P w H s Q E) s
theorem FnOk.mono {P : Program} {w : World} {K : PySem.W.Frag} {mg : Str → Option Value} {base : Heap} {CX : CXT} {j k : Nat} {f : Addr} {fd : FuncData} {ps : List Str} {sp : Sp} (F : FnOk P w K mg base CX j f fd ps sp) (h : j ≤ k) :
    FnOk P w K mg base CX k f fd ps sp := ⟨F.len, fun A outer s H args us vs Q E hr => F.run A outer s H args us vs Q E (hr.mono h)⟩
/-- a weaker promise -/
theorem FnOk.imp {P : Program} {w : World} {K : PySem.W.Frag} {mg : Str → Option Value} {base : Heap} {CX : CXT} {k : Nat} {f : Addr} {fd : FuncData} {ps : List Str} {sp sp' : Sp} (F : FnOk P w K mg base CX k f fd ps sp)
    (h : ∀ vs H Q E, sp' vs H Q E → sp vs H Q E) : FnOk P w K mg base CX k f fd ps sp' :=
  ⟨fun vs H Q E q => F.len vs H Q E (h _ _ _ _ q), fun A outer s H args us vs Q E hr he hb hv hs => F.run A outer s H args us vs Q E hr he hb hv (h _ _ _ _ hs)⟩

theorem Env0.make {P : Program} {w : World} {K : PySem.W.Frag} {mg : Str → Option Value} {base : Heap} {A : Around} {outer : List Env} {s : Shared} {H : Hp} (e : Env0 P w K mg base A outer s H) (C : Addr) (us : List Value) (kw : List (Str × Value)) :
    Env0 P w K mg base (A.under (.builtin "type.__call__" ⟨.ref C :: us, kw⟩)) outer s H := ⟨by first | exact e.frames | (simpa [Around.under, Code.envs, Code.isFrame, pushEnvs] using e.frames), e.mod, e.bs, e.bsz, e.funs, e.frf, e.hok, e.bare⟩
theorem Env0.in1 {P : Program} {w : World} {K : PySem.W.Frag} {mg : Str → Option Value} {base : Heap} {A : Around} {outer : List Env} {s : Shared} {H : Hp} (e : Env0 P w K mg base A outer s H) :
    Env0 P w K mg base A.in1 outer s H := ⟨e.frames, e.mod, e.bs, e.bsz, e.funs, e.frf, e.hok, e.bare⟩

section
variable {X : Cx} {pins : List (Addr × Obj)} {σ : St} {H : Hp} {s s' : Shared}
/-- from a body: what a callee wants -/
theorem Inv.env0 (I : Inv X pins σ H s) : Env0 X.prog X.w X.K X.mg X.base X.A X.stack s H :=
  ⟨I.ok.frames, I.ok.mod, I.bs, Nat.le_trans I.ok.bsz I.sz, I.stack, I.stkFree, I.hok, I.bare⟩
/-- behind a call -/
theorem Inv.after {Q : VK} {u : Value} (I : Inv X pins σ H s) (h : CE X.stack X.prog X.w H s Q u s') : EP X pins σ Q u s' := by
  obtain ⟨v, H', os, bare, un, hok, r, q⟩ := h
  obtain ⟨hh, g, d, t, os'⟩ := s'
  obtain rfl : os' = s.os := os
  exact ⟨v, H', I.call (h' := hh) (g' := g) (d' := d) (t' := t) (ch := []) un hok bare (fun b z => absurd z (by simp)), r, q⟩
end

/-! ### calls -/
/-- f(..): the written arguments, then the defaults dvs; E: what is wanted of an exception -/
def tCall (sp : Sp) (dvs : List V) (E : XK) (t : TA) : TE := fun σ H Q => t σ H fun vs H1 => sp (vs ++ dvs) H1 Q E
/-- o.m(..) of an instance of the class at C -/
def tMeth (C : Addr) (m : Str) (sp : Sp) (dvs : List V) (E : XK) (ta : TE) (t : TA) : TE := fun σ H Q => ta σ H fun x H1 => ∃ a dx fs, x = .ref a ∧ H1 a = some (.ins C dx fs) ∧ fs.lookup m = none ∧
  t σ H1 fun vs H2 => sp (x :: (vs ++ dvs)) H2 Q E
/-- C(..): a new instance and its dict, then __init__ -/
def tMake (C : Addr) (sp : Sp) (dvs : List V) (E : XK) (t : TA) : TE := fun σ H Q => t σ H fun vs H1 => ∀ x dx, H1 x = none → H1 dx = none → dx ≠ x →
  sp (.ref x :: (vs ++ dvs)) (upd (upd H1 dx (.own x)) x (.ins C dx [])) (fun v H2 => v = .non ∧ Q (.ref x) H2) E

/-- how the parameters are bound: us the positional arguments, kw the keywords' values by name, ds the defaults that fill up -/
def Binds (K : PySem.W.Frag) (fd : FuncData) (ps : List Str) (ds : List Value) : Prop :=
  ∀ (s : Shared) (us : List Value), K.In s.heap → (us ++ ds).length = ps.length → BindsTo s fd ⟨us, []⟩ (ps.zip (us ++ ds))
/-- every parameter is given -/
theorem Binds.all {K : PySem.W.Frag} {fd : FuncData} {ps : List Str} (h : ∀ us : List Value, us.length = ps.length → bindArgs fd ⟨us, []⟩ = pure (ps.zip us)) : Binds K fd ps [] := fun s us _ hl => by
  rw [List.append_nil] at hl ⊢
  exact .of_eq (h us hl)

/-- an exception of a callee reaches what this body wants of exceptions -/
def Passes (CX : CXT) (X : Cx) (E : XK) : Prop := ∀ (pins : List (Addr × Obj)) (σ : St) (H : Hp) (s : Shared) (e : Value) (s' : Shared), Inv X pins σ H s → CX X.stack H s E e s' → X.xe e s'

section
variable {X : Cx} {CX : CXT} {k : Nat} {f C : Addr} {fd : FuncData} {ps : List Str} {sp : Sp} {dvs : List V} {ds : List Value} {E : XK} {x m : Str} {p pos apos : Pos} {e o : Expr} {es : List Expr} {ta : TE} {t : TA}

/-- the callee runs -/
theorem run_fn {pins : List (Addr × Obj)} {σ : St} {H : Hp} {s : Shared} {Q : VK} {us : List Value} {vs : List V} (F : FnOk X.prog X.w X.K X.mg X.base CX k f fd ps sp) (hr : Room k X.A) (hb : Binds X.K fd ps ds) (hd : Vals dvs ds) (hx : Passes CX X E)
    (I : Inv X pins σ H s) (r : Vals vs us) (h : sp (vs ++ dvs) H Q E) : wpAny (model X.prog X.w) X.A (call (.ref f) us) (EP X pins σ Q) X.xe s := by
  have r2 : Vals (vs ++ dvs) (us ++ ds) := r.append hd
  have hl : (us ++ ds).length = ps.length := by rw [← r2.length]; exact F.len _ _ _ _ h
  refine wpAny_call (codeAny_mono (F.run X.A X.stack s H ⟨us, []⟩ (us ++ ds) (vs ++ dvs) Q E hr I.env0 (hb s us I.kIn hl) r2 h) fun r s' hq => ?_)
  cases r with
  | error e => exact hx pins σ H s e s' I hq
  | ok fl =>
    cases fl with
    | ret u => exact I.after hq
    | next => exact False.elim hq
    | brk => exact False.elim hq
    | cont => exact False.elim hq

theorem pe_call (F : FnOk X.prog X.w X.K X.mg X.base CX k f fd ps sp) (hr : Room k X.A) (hg : Gl X x) (hm : X.mg x = some (.ref f)) (hk : PySem.W.keepIn X.K (.ref f) = true) (hb : Binds X.K fd ps ds) (hd : Vals dvs ds) (hx : Passes CX X E)
    (ha : PA X (e :: es) t) (hdb : (x == ("__debug__" : Str)) = false := by decide) (he : starEach (e :: es) X.env = (false, eval e X.env) :: starEach es X.env := by rfl) (hpl : (backTo pos (starEach es X.env)).any (·.1) = false := by rfl) :
    PE X (.Call (.Name x p) (e :: es) [] pos) (tCall sp dvs E t) := by
  intro pins s σ H Q I h
  refine wpAny_Call_Name_kw (ld_glob I hg hm ?_ hdb)
  refine PySem.W.callWith_K (h₀ := X.base) I.ok.mod.kin hk (thn (ha pos pins s σ H _ I h) fun us s1 ⟨vs, H1, I1, r, q⟩ => ⟨I1.kIn, ?_⟩) he hpl
  exact run_fn F hr hb hd hx I1 r q
theorem pe_call0 (F : FnOk X.prog X.w X.K X.mg X.base CX k f fd ps sp) (hr : Room k X.A) (hg : Gl X x) (hm : X.mg x = some (.ref f)) (hk : PySem.W.keepIn X.K (.ref f) = true) (hb : Binds X.K fd ps ds) (hd : Vals dvs ds) (hx : Passes CX X E)
    (hdb : (x == ("__debug__" : Str)) = false := by decide) : PE X (.Call (.Name x p) [] [] pos) (tCall sp dvs E tNil) := by
  intro pins s σ H Q I h
  refine wpAny_Call_Name_kw (ld_glob I hg hm ?_ hdb)
  exact PySem.W.callWith_K0 I.kIn hk (run_fn (us := []) F hr hb hd hx I .nil h)

/-- o.m(e, ..) -/
theorem pe_meth {pl : Sem Bool} (he : PE X o ta) (c : Cls X.K C) (hm : Meth X.K C m f) (F : FnOk X.prog X.w X.K X.mg X.base CX k f fd ps sp) (hr : Room k X.A) (hb : Binds X.K fd ps ds) (hd : Vals dvs ds) (hx : Passes CX X E) (ha : PA X (e :: es) t)
    (hst : starEach (e :: es) X.env = (false, eval e X.env) :: starEach es X.env := by rfl) (hpl : (backTo pos (starEach es X.env)).any (·.1) = false := by rfl)
    (ht : eval (.Call (.Attribute o m apos) (e :: es) [] pos) X.env = (do
      let ov ← eval o X.env
      standAt apos.atName
      let (f, first) ← holding [ov] (getMethod ov m pl)
      callWith pos f first (backTo pos (starEach (e :: es) X.env)) (backToKw pos (keywordEach [] X.env))) := by rfl) :
    PE X (.Call (.Attribute o m apos) (e :: es) [] pos) (tMeth C m sp dvs E ta t) := by
  intro pins s σ H Q I h
  refine PySem.W.methodCall_KW (pl := pl) (thn (he pins s σ H _ I h) fun u s1 ⟨x, H1, I1, rx, a, dx, fs, ex, ea, l, q⟩ => ?_) ht
  subst ex
  obtain rfl : u = Value.ref a := rx
  refine getmeth_ok I1 ea c hm l ?_
  refine PySem.W.callWith_K (first := [.ref a]) (h₀ := X.base) I.ok.mod.kin hm.kp (thn (ha pos pins s1 σ H1 _ I1 q) fun us s2 ⟨vs, H2, I2, r, q2⟩ => ⟨I2.kIn, ?_⟩) hst hpl
  exact run_fn (us := .ref a :: us) (vs := .ref a :: vs) F hr hb hd hx I2 (.cons rfl r) q2
/-- o.m() -/
theorem pe_meth0 {pl : Sem Bool} (he : PE X o ta) (c : Cls X.K C) (hm : Meth X.K C m f) (F : FnOk X.prog X.w X.K X.mg X.base CX k f fd ps sp) (hr : Room k X.A) (hb : Binds X.K fd ps ds) (hd : Vals dvs ds) (hx : Passes CX X E)
    (ht : eval (.Call (.Attribute o m apos) [] [] pos) X.env = (do
      let ov ← eval o X.env
      standAt apos.atName
      let (f, first) ← holding [ov] (getMethod ov m pl)
      callWith pos f first (backTo pos (starEach [] X.env)) (backToKw pos (keywordEach [] X.env))) := by rfl) :
    PE X (.Call (.Attribute o m apos) [] [] pos) (tMeth C m sp dvs E ta tNil) := by
  intro pins s σ H Q I h
  refine PySem.W.methodCall_KW (pl := pl) (thn (he pins s σ H _ I h) fun u s1 ⟨x, H1, I1, rx, a, dx, fs, ex, ea, l, q⟩ => ?_) ht
  subst ex
  obtain rfl : u = Value.ref a := rx
  refine getmeth_ok I1 ea c hm l ?_
  exact PySem.W.callWith_K0 (first := [.ref a]) I1.kIn hm.kp (run_fn (us := [.ref a]) (vs := [.ref a]) F hr hb hd hx I1 (.cons rfl .nil) q)

/-- what a class must have to be made -/
structure Mk (K : PySem.W.Frag) (C f : Addr) : Prop where
  makes : PySem.W.makesIn K C = true
  init : PySem.W.findIn K (.ref C) "__init__" = some (some (.ref f))
  fn : PySem.W.isFn K (.ref f) = true
  kp : PySem.W.keepIn K (.ref C) = true

theorem run_make {pins : List (Addr × Obj)} {σ : St} {H : Hp} {s : Shared} {Q : VK} {us : List Value} {vs : List V} (M : Mk X.K C f) (F : FnOk X.prog X.w X.K X.mg X.base CX k f fd ps sp) (hr : Room (k + 1) X.A) (hb : Binds X.K fd ps ds) (hd : Vals dvs ds)
    (hx : Passes CX X E) (I : Inv X pins σ H s) (r : Vals vs us)
    (h : ∀ x dx, H x = none → H dx = none → dx ≠ x → sp (.ref x :: (vs ++ dvs)) (upd (upd H dx (.own x)) x (.ins C dx [])) (fun v H2 => v = .non ∧ Q (.ref x) H2) E) :
    wpAny (model X.prog X.w) X.A (call (.ref C) us) (EP X pins σ Q) X.xe s := by
  have hq := h (s.heap.objs.size + 1) s.heap.objs.size (I.hok.fresh (Nat.le_succ _)) (I.hok.fresh (Nat.le_refl _)) (Nat.ne_of_lt (Nat.lt_succ_self _))
  have I2 := Inv.made (C := C) I
  have r2 : Vals (V.ref (s.heap.objs.size + 1) :: (vs ++ dvs)) (Value.ref (s.heap.objs.size + 1) :: (us ++ ds)) := .cons rfl (r.append hd)
  have hl : (Value.ref (s.heap.objs.size + 1) :: us ++ ds).length = ps.length := by
    have e := r2.length
    rw [F.len _ _ _ _ hq] at e
    exact e.symm
  refine wpAny_call (make_map (f := f) I.kIn M.makes M.init (beq_iff_eq.mp M.fn) (codeAny_mono (F.run _ X.stack _ _ ⟨Value.ref (s.heap.objs.size + 1) :: us, []⟩ (Value.ref (s.heap.objs.size + 1) :: (us ++ ds)) _ _ E (hr.make C us [])
    (I2.env0.make C us []) (hb _ (Value.ref (s.heap.objs.size + 1) :: us) I2.kIn hl) r2 hq) fun r s' hq' => ?_))
  cases r with
  | error e => exact hx pins σ _ _ e s' I2 hq'
  | ok fl =>
    cases fl with
    | ret u =>
      obtain ⟨v, H', I3, rv, ev, q3⟩ := I2.after hq'
      subst ev
      exact ⟨rv, ⟨V.ref (s.heap.objs.size + 1), H', I3, rfl, q3⟩⟩
    | next => exact False.elim hq'
    | brk => exact False.elim hq'
    | cont => exact False.elim hq'
theorem pe_make (M : Mk X.K C f) (F : FnOk X.prog X.w X.K X.mg X.base CX k f fd ps sp) (hr : Room (k + 1) X.A) (hg : Gl X x) (hm : X.mg x = some (.ref C)) (hb : Binds X.K fd ps ds) (hd : Vals dvs ds) (hx : Passes CX X E)
    (ha : PA X (e :: es) t) (hdb : (x == ("__debug__" : Str)) = false := by decide) (he : starEach (e :: es) X.env = (false, eval e X.env) :: starEach es X.env := by rfl) (hpl : (backTo pos (starEach es X.env)).any (·.1) = false := by rfl) :
    PE X (.Call (.Name x p) (e :: es) [] pos) (tMake C sp dvs E t) := by
  intro pins s σ H Q I h
  refine wpAny_Call_Name_kw (ld_glob I hg hm ?_ hdb)
  refine PySem.W.callWith_K (h₀ := X.base) I.ok.mod.kin M.kp (thn (ha pos pins s σ H _ I h) fun us s1 ⟨vs, H1, I1, r, q⟩ => ⟨I1.kIn, ?_⟩) he hpl
  exact run_make M F hr hb hd hx I1 r q
theorem pe_make0 (M : Mk X.K C f) (F : FnOk X.prog X.w X.K X.mg X.base CX k f fd ps sp) (hr : Room (k + 1) X.A) (hg : Gl X x) (hm : X.mg x = some (.ref C)) (hb : Binds X.K fd ps ds) (hd : Vals dvs ds) (hx : Passes CX X E)
    (hdb : (x == ("__debug__" : Str)) = false := by decide) : PE X (.Call (.Name x p) [] [] pos) (tMake C sp dvs E tNil) := by
  intro pins s σ H Q I h
  refine wpAny_Call_Name_kw (ld_glob I hg hm ?_ hdb)
  exact PySem.W.callWith_K0 I.kIn M.kp (run_make (us := []) M F hr hb hd hx I .nil h)
end

/-! ### keywords -/
/-- the values of the keywords, from the left -/
def PK (X : Cx) (kws : List Keyword) (t : TA) : Prop :=
  ∀ (pos : Pos) (pins : List (Addr × Obj)) (s : Shared) (σ : St) (H : Hp) (Q : List V → Hp → Prop), Inv X pins σ H s → t σ H Q → wpAny (model X.prog X.w) X.A (evalAll ((backToKw pos (keywordEach kws X.env)).map (·.2))) (AP X pins σ Q) X.xe s
section
variable {X : Cx} {CX : CXT} {k : Nat} {f C : Addr} {fd : FuncData} {ps ks : List Str} {sp : Sp} {E : XK} {x m : Str} {p pos apos kpos : Pos} {e o : Expr} {es : List Expr} {kws : List Keyword} {te ta : TE} {t tk : TA} {nm : Option Str}
theorem pk_nil : PK X [] tNil := fun _ _ _ _ H Q I h => wpAny_evalAll_nil ⟨[], H, I, .nil, h⟩
theorem pk_cons (ha : PE X e te) (hr : PK X kws t) : PK X (⟨nm, e, kpos⟩ :: kws) (tCons te t) := by
  intro pos pins s σ H Q I h
  show wpAny _ _ (evalAll ((do let v ← eval e X.env; standAt pos; pure v) :: (backToKw pos (keywordEach kws X.env)).map (·.2))) _ _ s
  refine wpAny_evalAll_cons (wpAny_bind (thn (ha pins s σ H _ I h) fun u s1 ⟨x, H1, I1, r1, q1⟩ => wpAny_bind (wpAny_standAt (wpAny_pure ?_))))
  exact thn (hr pos pins s1 σ H1 _ I1 q1) fun us s2 ⟨xs, H2, I2, r2, q2⟩ => ⟨x :: xs, H2, I2, .cons r1 r2, q2⟩

/-- how a call with keywords binds: g puts the positional values us and the keywords' values ws (names ks) in the parameters' order, defaults among them -/
structure KBinds (K : PySem.W.Frag) (fd : FuncData) (ps ks : List Str) (g : List Value → List Value → List Value) (gV : List V → List V → List V) : Prop where
  to : ∀ (s : Shared) (us ws : List Value), K.In s.heap → (g us ws).length = ps.length → BindsTo s fd ⟨us, ks.zip ws⟩ (ps.zip (g us ws))
  rel : ∀ {vs : List V} {us : List Value} {zs : List V} {ws : List Value}, Vals vs us → Vals zs ws → Vals (gV vs zs) (g us ws)
def tCallK (sp : Sp) (gV : List V → List V → List V) (E : XK) (t tk : TA) : TE := fun σ H Q => t σ H fun vs H1 => tk σ H1 fun zs H2 => sp (gV vs zs) H2 Q E
variable {g : List Value → List Value → List Value} {gV : List V → List V → List V}
theorem run_fnk {pins : List (Addr × Obj)} {σ : St} {H : Hp} {s : Shared} {Q : VK} {us ws : List Value} {vs zs : List V} (F : FnOk X.prog X.w X.K X.mg X.base CX k f fd ps sp) (hr : Room k X.A) (hb : KBinds X.K fd ps ks g gV) (hx : Passes CX X E)
    (I : Inv X pins σ H s) (r : Vals vs us) (rz : Vals zs ws) (h : sp (gV vs zs) H Q E) : wpAny (model X.prog X.w) X.A (call (.ref f) us (ks.zip ws)) (EP X pins σ Q) X.xe s := by
  have r2 := hb.rel r rz
  have hl : (g us ws).length = ps.length := by rw [← r2.length]; exact F.len _ _ _ _ h
  refine wpAny_call (codeAny_mono (F.run X.A X.stack s H ⟨us, ks.zip ws⟩ (g us ws) (gV vs zs) Q E hr I.env0 (hb.to s us ws I.kIn hl) r2 h) fun r s' hq => ?_)
  cases r with
  | error e => exact hx pins σ H s e s' I hq
  | ok fl =>
    cases fl with
    | ret u => exact I.after hq
    | next => exact False.elim hq
    | brk => exact False.elim hq
    | cont => exact False.elim hq
/-- f(e, .., k = v, ..) -/
theorem pe_callK (F : FnOk X.prog X.w X.K X.mg X.base CX k f fd ps sp) (hr : Room k X.A) (hg : Gl X x) (hm : X.mg x = some (.ref f)) (hk : PySem.W.keepIn X.K (.ref f) = true) (hb : KBinds X.K fd ps ks g gV) (hx : Passes CX X E)
    (ha : PA X (e :: es) t) (hkw : PK X kws tk) (hall : (backToKw pos (keywordEach kws X.env)).all (·.1.isSome) = true := by rfl) (hks : (backToKw pos (keywordEach kws X.env)).filterMap (·.1) = ks := by rfl)
    (hdb : (x == ("__debug__" : Str)) = false := by decide) (he : starEach (e :: es) X.env = (false, eval e X.env) :: starEach es X.env := by rfl)
    (hpl : ((backTo pos (starEach (e :: es) X.env)).any (·.1) || (backToKw pos (keywordEach kws X.env)).any (·.1.isNone)) = false := by rfl) :
    PE X (.Call (.Name x p) (e :: es) kws pos) (tCallK sp gV E t tk) := by
  intro pins s σ H Q I h
  refine wpAny_Call_Name_kw (ld_glob I hg hm ?_ hdb)
  refine PySem.W.callWith_KW (h₀ := X.base) I.ok.mod.kin hk hall (thn (ha pos pins s σ H _ I h) fun us s1 ⟨vs, H1, I1, r, q⟩ => ?_) hpl he
  refine thn (hkw pos pins s1 σ H1 _ I1 q) fun ws s2 ⟨zs, H2, I2, rz, q2⟩ => ⟨I2.kIn, ?_⟩
  rw [hks]
  exact run_fnk F hr hb hx I2 r rz q2
end

/-! ### a def's body keeps its promise -/
/-- names: the parameters first -/
structure FnScope (N P : List Str) (sc : Scope) : Prop where
  kind : sc.kind = .function
  co : sc.isCoroutine = false
  gen : sc.isGenerator = false
  nd : N.Nodup
  pre : N.take P.length = P
  par : ∀ x ∈ P, sc.names.lookup x = some .local ∨ sc.names.lookup x = some .cell
  nofree : ∀ y ∈ sc.names, y.2 ≠ .free

theorem bindL_out {kindOf : Str → Option NameKind} {x : Str} : ∀ {binds : List (Str × Value)} {m : Str → Option Value}, (∀ v, (x, v) ∉ binds) → bindL kindOf binds m x = m x
  | [], _, _ => rfl
  | (n, v) :: r, m, h => by
    unfold bindL
    rw [bindL_out fun w hw => h w (List.mem_cons_of_mem _ hw)]
    split
    · have : x ≠ n := by rintro rfl; exact h v List.mem_cons_self
      simp [this]
    · rfl
theorem bindC_out {kindOf : Str → Option NameKind} {x : Str} : ∀ {binds : List (Str × Value)} {m : Str → Option Value}, (∀ v, (x, v) ∉ binds) → bindC kindOf binds m x = m x
  | [], _, _ => rfl
  | (n, v) :: r, m, h => by
    unfold bindC
    rw [bindC_out fun w hw => h w (List.mem_cons_of_mem _ hw)]
    split
    · rfl
    · have : x ≠ n := by rintro rfl; exact h v List.mem_cons_self
      simp [this]
theorem bindL_get {kindOf : Str → Option NameKind} {x : Str} {v : Value} : ∀ {P : List Str} {vs : List Value} {i : Nat} {m : Str → Option Value}, P.Nodup → P[i]? = some x → vs[i]? = some v → kindOf x = some .local →
    bindL kindOf (P.zip vs) m x = some v
  | [], _, _, _, _, h, _, _ => by simp at h
  | _ :: _, [], _, _, _, _, h, _ => by simp at h
  | p :: P, w :: vs, 0, m, nd, h1, h2, hk => by
    simp at h1 h2; subst h1; subst h2
    show bindL kindOf ((p, w) :: P.zip vs) m p = _
    unfold bindL
    rw [bindL_out fun v hv => (List.nodup_cons.mp nd).1 (List.of_mem_zip hv).1, if_pos hk]
    simp
  | p :: P, w :: vs, i + 1, m, nd, h1, h2, hk => by
    show bindL kindOf ((p, w) :: P.zip vs) m x = _
    unfold bindL
    exact bindL_get (i := i) (List.nodup_cons.mp nd).2 (by simpa using h1) (by simpa using h2) hk
theorem bindC_get {kindOf : Str → Option NameKind} {x : Str} {v : Value} : ∀ {P : List Str} {vs : List Value} {i : Nat} {m : Str → Option Value}, P.Nodup → P[i]? = some x → vs[i]? = some v → kindOf x ≠ some .local →
    bindC kindOf (P.zip vs) m x = some v
  | [], _, _, _, _, h, _, _ => by simp at h
  | _ :: _, [], _, _, _, _, h, _ => by simp at h
  | p :: P, w :: vs, 0, m, nd, h1, h2, hk => by
    simp at h1 h2; subst h1; subst h2
    show bindC kindOf ((p, w) :: P.zip vs) m p = _
    unfold bindC
    rw [bindC_out fun v hv => (List.nodup_cons.mp nd).1 (List.of_mem_zip hv).1, if_neg hk]
    simp
  | p :: P, w :: vs, i + 1, m, nd, h1, h2, hk => by
    show bindC kindOf ((p, w) :: P.zip vs) m x = _
    unfold bindC
    exact bindC_get (i := i) (List.nodup_cons.mp nd).2 (by simpa using h1) (by simpa using h2) hk

/-- the names' values at the entry -/
def start (N : List Str) (vs : List V) : St := vs.map some ++ List.replicate (N.length - vs.length) none

/-- the context of a def's body, at its entry; an exception leaves the frame, then lies as CX says -/
def cxOf (CX : CXT) (P : Program) (w : World) (K : PySem.W.Frag) (mg : Str → Option Value) (base : Heap) (N : List Str) (qual : Str) (scope : Scope) (f : Addr) (cd : Value) (A : Around) (outer : List Env) (s : Shared) (H : Hp) (E : XK) : Cx where
  prog := P
  w := w
  K := K
  mg := mg
  base := base
  A := A.deeper (envOfC qual scope s.heap.objs.size f cd)
  N := N
  s₀ := s
  H₀ := H
  env := envOfC qual scope s.heap.objs.size f cd
  outer := outer
  stack := envOfC qual scope s.heap.objs.size f cd :: outer
  ex := []
  calm := true
  fn := fun _ => true
  pn := []
  xe := fun e s' => wpAny (model P w) (A.deeper (envOfC qual scope s.heap.objs.size f cd)) (leaving (envOfC qual scope s.heap.objs.size f cd) e) (fun _ s'' => CX outer H s E e s'') (fun e' s'' => CX outer H s E e' s'') s'

theorem cell_has {sc : Scope} {n : Nat} {x : Str} (h : sc.names.lookup x = some .cell) : ∃ c, (cellsFrom n sc.names []).lookup x = some c := by
  have q := PySem.W.cellsFrom_some sc.names n [] (.inl h)
  exact Option.isSome_iff_exists.mp q

theorem inv_start {CX : CXT} {P : Program} {w : World} {K : PySem.W.Frag} {mg : Str → Option Value} {base : Heap} {N ps : List Str} {qual : Str} {scope : Scope} {f : Addr} {cd : Value} {A : Around} {outer : List Env} {s s1 : Shared} {H : Hp} {E : XK} {us : List Value} {vs : List V}
    (S : FnScope N ps scope) (hd : A.handled = none) (e0 : Env0 P w K mg base A outer s H) (hl : vs.length = ps.length) (r : Vals vs us)
    (x : InCallC s s.heap.objs.size (bindL (envOfC qual scope s.heap.objs.size f cd).kindOf (ps.zip us) fun _ => none) (cellsFrom (s.heap.objs.size + 1) scope.names []) (bindC (envOfC qual scope s.heap.objs.size f cd).kindOf (ps.zip us) fun _ => none) s1) :
    Inv (cxOf CX P w K mg base N qual scope f cd A outer s H E) [] (start N vs) H s1 := by
  have hpl : ps.length ≤ N.length := by have := congrArg List.length S.pre; rw [List.length_take] at this; omega
  obtain ⟨h1, tk, rfl, hk⟩ := x.done
  have noA : ∀ b : Addr, b ∉ (cxOf CX P w K mg base N qual scope f cd A outer s H E).ex := fun b z => absurd (show b ∈ ([] : List Addr) from z) (by simp)
  refine ⟨⟨e0.mod, S.kind, rfl, rfl, Nat.le_refl _, fun y z c h1 h2 => ?_, fun y hy => ?_, fun y c _ h => ?_, fun _ => hd, Around.frames_deeper e0.frames, .inr ⟨rfl, rfl⟩, fun b z => absurd z (noA b), e0.bs, e0.bsz, fun b _ _ => noA b, fun b z => absurd z (noA b), e0.funs, e0.frf⟩,
    rfl, e0.bare, Un.kept hk, ⟨_, x.toInCall.ns, fun i y v h1 h2 h3 => ?_⟩, fun y c h => ⟨_, x.cell y c h⟩, e0.hok.fresh (Nat.le_refl _), fun y c h => ?_, fun p hp => absurd (show p ∈ ([] : List (Addr × Obj)) from hp) (by simp), e0.hok.kept hk, ?_⟩
  · exact name_of_addr x.apart (PySem.mem_of_lookup h1) (PySem.mem_of_lookup h2)
  · have hy : scope.names.lookup y = some .cell ∨ scope.names.lookup y = some .free := hy
    rcases hy with hy | hy
    · exact cell_has hy
    · exact absurd rfl (S.nofree _ (PySem.mem_of_lookup hy))
  · exact Nat.le_of_lt (x.above y c (PySem.mem_of_lookup h))
  · have hi : i < vs.length := by
      unfold start at h2
      by_cases hi : i < vs.length
      · exact hi
      · rw [List.getElem?_append_right (by simpa using hi)] at h2
        rw [List.getElem?_replicate] at h2
        split at h2 <;> cases h2
    have ha : vs[i]? = some v := by
      unfold start at h2
      rw [List.getElem?_append_left (by simpa using hi), List.getElem?_map] at h2
      cases e : vs[i]? with
      | none => rw [e] at h2; cases h2
      | some a => rw [e] at h2; cases h2; rfl
    obtain ⟨u, hu, rv⟩ := r.get ha
    have hp : ps[i]? = some y := by
      rw [← S.pre, List.getElem?_take_of_lt (by omega)]; exact h1
    have ndP : ps.Nodup := by rw [← S.pre]; exact S.nd.sublist (List.take_sublist _ _)
    refine ⟨u, rv, ?_⟩
    rcases S.par y (List.mem_of_getElem? hp) with k | k
    · exact .inl ⟨k, bindL_get ndP hp hu k⟩
    · obtain ⟨c, e⟩ := cell_has (n := s.heap.objs.size + 1) k
      refine .inr ⟨.inl k, c, e, ?_⟩
      have q := x.cell y c e
      rw [bindC_get ndP hp hu (by show scope.names.lookup y ≠ _; rw [k]; decide)] at q
      exact q
  · exact e0.hok.fresh (Nat.le_of_lt (x.above y c (PySem.mem_of_lookup h)))
  · unfold start
    show _ = N.length
    rw [List.length_append, List.length_map, List.length_replicate]
    omega

/-- THE RULE: a def (or a method) of the text, by its body. The body's reading t is chosen for each entry; it is run at the parameters' values -/
theorem fn_of {CX : CXT} {P : Program} {w : World} {K : PySem.W.Frag} {mg : Str → Option Value} {base : Heap} {k : Nat} {f : Addr} {name qual : Str} {params : Arguments} {body : List Stmt} {scope : Scope} {dV kV doc pm cdv ct oc : Value} {an od : Option Addr}
    {osl : Array (Option Value)} {N ps : List Str} {sp : Sp} (lk : K.lookup f = some ⟨oc, od, .func (PySem.W.fnOf name qual params body scope dV kV doc pm an cdv ct), osl⟩) (hcd : PySem.W.codeIn K cdv qual = true) (S : FnScope N ps scope)
    (len : ∀ vs H Q E, sp vs H Q E → vs.length = ps.length)
    (hbody : ∀ (A : Around) (outer : List Env) (s : Shared) (H : Hp) (vs : List V) (Q : VK) (E : XK), Room k (A.deeper (envOfC qual scope s.heap.objs.size f cdv)) → sp vs H Q E →
      ∃ t, PSs (cxOf CX P w K mg base N qual scope f cdv A outer s H E) body t ∧ t { nx := fun _ H' => Q .non H', rt := Q } (start N vs) H) :
    FnOk P w K mg base CX (k + 1) f (PySem.W.fnOf name qual params body scope dV kV doc pm an cdv ct) ps sp := by
  refine ⟨len, fun A outer s H args us vs Q E hr e0 hb r hsp => ?_⟩
  have hl := len _ _ _ _ hsp
  have KX : K.In s.heap := e0.mod.kin.keeps fun b o e => (e0.bs b o e).1
  have lim : s.heap.NoLimit := e0.mod.nolimit.keeps fun b o e => (e0.bs b o e).1
  have hkind : ∀ y ∈ ps.zip us, scope.names.lookup y.1 = some .local ∨ (scope.names.lookup y.1 = some .cell ∧ ((cellsFrom (s.heap.objs.size + 1) scope.names []).lookup y.1).isSome = true) := fun ⟨n, v⟩ hy => by
    rcases S.par n (List.of_mem_zip hy).1 with q | q
    · exact .inl q
    · exact .inr ⟨q, PySem.W.cellsFrom_some _ _ _ (.inl q)⟩
  refine codeAny_call_function hr.depth (KX _ _ lk) rfl S.co S.gen rfl (PySem.W.codeRec_of KX hcd) (hb _ _ _ _ ?_)
  refine wpAny_newFunctionEnv_cells S.kind hkind fun env he s1 x => ?_
  subst he
  refine ⟨lim.keeps x.toInCall.keep, codeAny_func ?_⟩
  obtain ⟨t, ht, hq⟩ := hbody A outer s H vs Q E (hr.deeper _) hsp
  have I : Inv (cxOf CX P w K mg base N qual scope f cdv A outer s H E) [] (start N vs) H s1 := inv_start S hr.hd e0 hl r x
  refine wpAny_mono (ht [] s1 (start N vs) H _ I hq) (fun fl s' hs => ?_) fun e s' hs => hs
  have fin : ∀ {σ' : St} {H' : Hp} {v : V} {u : Value}, Inv (cxOf CX P w K mg base N qual scope f cdv A outer s H E) [] σ' H' s' → RelV v u → Q v H' → CE outer P w H s Q u s' :=
    fun {σ' H' v u} J rv q => ⟨v, H', J.os, J.bare, J.base, J.hok, rv, q⟩
  cases fl with
  | ret u =>
    obtain ⟨v, σ', H', J, rv, q⟩ := hs
    exact fin J rv q
  | next =>
    obtain ⟨σ', H', J, q⟩ := hs
    exact fin (v := V.non) (u := Value.none) J rfl q
  | brk =>
    obtain ⟨_, _, _, q⟩ := hs
    exact False.elim q
  | cont =>
    obtain ⟨_, _, _, q⟩ := hs
    exact False.elim q
end L2

namespace L2
open PySem PySem.Spec PyProof.Rows
section
variable {X : Cx} {x : Str} {p pos : Pos} {e : Expr} {es : List Expr} {t : TA} {id T : String} {r : List V → Hp → VK → Prop}

def tCB (r : List V → Hp → VK → Prop) (t : TA) : TE := fun σ H Q => t σ H fun vs H1 => r vs H1 Q
/-- f(e, ..), f a built-in function -/
theorem pe_callB (hc : CallR X (.builtin id) r) (hg : Gl X x) (hm : X.mg x = none) (hv : bootBuiltins x = some (.builtin id)) (ha : PA X (e :: es) t) (hn : x ≠ "__name__" := by decide) (hdb : (x == ("__debug__" : Str)) = false := by decide)
    (he : starEach (e :: es) X.env = (false, eval e X.env) :: starEach es X.env := by rfl) (hpl : (backTo pos (starEach es X.env)).any (·.1) = false := by rfl) : PE X (.Call (.Name x p) (e :: es) [] pos) (tCB r t) := by
  intro pins s σ H Q I h
  refine wpAny_Call_Name_kw (ld_blt I hg hm hv ?_ hn hdb)
  exact PyProof.Rows.callWith_builtin1 (thn (ha pos pins s σ H _ I h) fun us s1 ⟨vs, H1, I1, r1, q1⟩ => hc pins s1 σ H1 vs us Q I1 r1 q1) he hpl
/-- T(e, ..), T a built-in type -/
theorem pe_callTy (hc : CallR X (.type T) r) (hg : Gl X x) (hm : X.mg x = none) (hv : bootBuiltins x = some (.type T)) (ha : PA X (e :: es) t) (hn : x ≠ "__name__" := by decide) (hdb : (x == ("__debug__" : Str)) = false := by decide)
    (he : starEach (e :: es) X.env = (false, eval e X.env) :: starEach es X.env := by rfl) (hpl : (backTo pos (starEach es X.env)).any (·.1) = false := by rfl) : PE X (.Call (.Name x p) (e :: es) [] pos) (tCB r t) := by
  intro pins s σ H Q I h
  refine wpAny_Call_Name_kw (ld_blt I hg hm hv ?_ hn hdb)
  exact PyProof.Rows.callWith_type1 (thn (ha pos pins s σ H _ I h) fun us s1 ⟨vs, H1, I1, r1, q1⟩ => hc pins s1 σ H1 vs us Q I1 r1 q1) he hpl
/-- T() -/
theorem pe_callTy0 (hc : CallR X (.type T) r) (hg : Gl X x) (hm : X.mg x = none) (hv : bootBuiltins x = some (.type T)) (hn : x ≠ "__name__" := by decide) (hdb : (x == ("__debug__" : Str)) = false := by decide) :
    PE X (.Call (.Name x p) [] [] pos) (tCB r tNil) := by
  intro pins s σ H Q I h
  refine wpAny_Call_Name_kw (ld_blt I hg hm hv ?_ hn hdb)
  exact PyProof.Rows.callWith_type0 (hc pins s σ H [] [] Q I .nil h)
end
end L2

namespace HT
open PySem PyProof.Rows

/-- t < u of tuples of ints -/
def lexLt : List Int → List Int → Bool
  | [], [] => false
  | [], _ :: _ => true
  | _ :: _, [] => false
  | x :: xs, y :: ys => if x = y then lexLt xs ys else decide (x < y)
theorem lexLt_cons (x y : Int) (xs ys : List Int) : lexLt (x :: xs) (y :: ys) = if x = y then lexLt xs ys else decide (x < y) := rfl
theorem lexLt_nil_nil : lexLt [] [] = false := rfl
theorem lexLt_nil_cons (y : Int) (ys : List Int) : lexLt [] (y :: ys) = true := rfl
theorem lexLt_cons_nil (x : Int) (xs : List Int) : lexLt (x :: xs) [] = false := rfl

theorem eqAt_int (A : Around) (s : Shared) (a : Int) (t : Tok) (c : Int) (u : Tok) : ∃ e, SeqAt.EqAt A s (.int a t) (.int c u) e ∧ (e = true ↔ a = c) :=
  ⟨(a == c), SeqAt.EqAt.int_int a t c u, by simp⟩
theorem rcLt_int (A : Around) (s : Shared) (a : Int) (t : Tok) (c : Int) (u : Tok) (prog : Program) (w : World) (E : Value → Shared → Prop) (Q : Value → Shared → Prop) (h : Q (.bool (decide (a < c))) s) :
    wpAny (model prog w) A (richCompare .Lt (.int a t) (.int c u)) Q E s :=
  (PyProof.Rows.lt_int h : wpAny (model prog w) A (compareOp .Lt (.int a t) (.int c u)) Q E s)

section
open PySem.SeqAt
open PySem.AutoSeq1 (wpAny_loadPart')
open PySem.MeetsSeq PySem.MeetsSeq2 PySem.MeetsSeq3

theorem tuple_lt_ints (l b : Addr) (items items2 : Array Value) (n n2 : Nat) (dd dd2 : Option Addr) (sl sl2 : Array (Option Value)) (ns ms : List Int) (hi : IntsAre items.toList ns) (hj : IntsAre items2.toList ms) :
    Meets (Builtin.«tuple.__lt__» ⟨[.ref l, .ref b], []⟩)
      (fun _ R s => s.heap.get? l = some { cls := .type "tuple", dict := dd, data := .seq items n, slots := sl } ∧ s.heap.get? b = some { cls := .type "tuple", dict := dd2, data := .seq items2 n2, slots := sl2 } ∧
        R (.ok (.ret (.bool (lexLt ns ms)))) s) :=
  .of_wp fun prog w A R s h => by
    obtain ⟨hp, g, d, tk, os⟩ := s; obtain ⟨hl, hb, h⟩ := h
    have f2 := AutoSeq1.sub_tuple_tuple
    have z1 : items.size = ns.length := by rw [← hi.length]; simp
    have z2 : items2.size = ms.length := by rw [← hj.length]; simp
    wp_walk using wpAny_loadPart' hl, wpAny_loadPart' hb, wpAny_forIn_list _ (fun rest b s' => b.1 = none ∧ s' = ⟨hp, g, d, tk, os⟩ ∧ ∃ (vs ws : List Value) (ns' ms' : List Int), rest = vs.zip ws ∧
      IntsAre vs ns' ∧ IntsAre ws ms' ∧ ns'.length + items2.size = ms'.length + items.size ∧ R (.ok (.ret (.bool (lexLt ns' ms')))) ⟨hp, g, d, tk, os⟩) _
    case turn =>
      rintro ⟨y, x⟩ rest b s' ⟨hb', rfl, vs, ws, ns', ms', hz, hvi, hwi, hlen, hR⟩
      cases hvi with
      | nil => rw [List.zip_nil_left] at hz; cases hz
      | cons a t hvi' =>
        cases hwi with
        | nil => rw [List.zip_nil_right] at hz; cases hz
        | cons c u hwi' =>
          rw [List.zip_cons_cons] at hz
          injection hz with hyx hrest
          injection hyx with hy hx
          subst hy hx
          rw [lexLt_cons] at hR
          simp only [List.length_cons] at hlen
          obtain ⟨e, he, hiff⟩ := eqAt_int A.in1 ⟨hp, g, d, tk, os⟩ a t c u
          refine wpAny_bind (he prog w _ _ ?_)
          cases e with
          | true =>
            rw [if_pos (hiff.mp rfl)] at hR
            wp_walk
            exact ⟨rfl, rfl, _, _, _, _, hrest, hvi', hwi', by omega, hR⟩
          | false =>
            rw [if_neg (fun q => absurd (hiff.mpr q) Bool.false_ne_true)] at hR
            have hri := rcLt_int A.in1 ⟨hp, g, d, tk, os⟩ a t c u prog w
            wp_walk using hri
            exact ⟨_, rfl, by simpa using hR⟩
    case fin =>
      rintro ⟨b1, b2⟩ s' ⟨hb', rfl, vs, ws, ns', ms', hz, hvi, hwi, hlen, hR⟩
      simp only at hb'
      subst hb'
      have hv : lexLt ns' ms' = decide (items.size < items2.size) := by
        cases hvi with
        | nil =>
          cases hwi with
          | nil =>
            simp only [List.length_nil] at hlen
            rw [lexLt_nil_nil]
            exact (decide_eq_false (by omega)).symm
          | cons c u hw =>
            simp only [List.length_nil, List.length_cons] at hlen
            rw [lexLt_nil_cons]
            exact (decide_eq_true (by omega)).symm
        | cons a t hv =>
          cases hwi with
          | nil =>
            simp only [List.length_nil, List.length_cons] at hlen
            rw [lexLt_cons_nil]
            exact (decide_eq_false (by omega)).symm
          | cons c u hw =>
            rw [List.zip_cons_cons] at hz
            cases hz
      rw [hv] at hR
      wp_walk
      exact ⟨_, rfl, by simpa [Builtin.Tuple.tupleCompareSizes] using hR⟩
    case h =>
      exact ⟨rfl, rfl, items.toList, items2.toList, ns, ms, rfl, hi, hj, by omega, h⟩
end

section
variable {prog : Program} {w : World} {A : Around} {E : Value → Shared → Prop} {s : Shared}

theorem lt_tupInts {l b : Addr} {items items2 : Array Value} {ns ms : List Int} {Q : Value → Shared → Prop} (hl : IsTup s.heap l items) (hb : IsTup s.heap b items2) (hi : IntsAre items.toList ns) (hj : IntsAre items2.toList ms)
    (hu : A.units < cLine) (h : Q (.bool (lexLt ns ms)) s) : wpAny (model prog w) A (compareOp .Lt (.ref l) (.ref b)) Q E s := by
  obtain ⟨⟨cls, dd, data, sl⟩, ho, hc, n, hd⟩ := id hl
  obtain ⟨⟨cls2, dd2, data2, sl2⟩, ho2, hc2, n2, hd2⟩ := id hb
  simp only at hc hd hc2 hd2
  subst hc hd hc2 hd2
  exact richCompare_meets_room (op := .Lt) ⟨_, ho, rfl⟩ ⟨_, ho2, rfl⟩ PySem.F.slot_tuple_lt PySem.F.entry_tuple_lt (PySem.F.args_tuple_lt_2 _ _) (tuple_lt_ints l b items items2 n n2 dd dd2 sl sl2 ns ms hi hj)
    ⟨ho, ho2, show Value.bool (lexLt ns ms) ≠ Value.notImplemented ∧ Q (.bool (lexLt ns ms)) s from ⟨(fun x => nomatch x), h⟩⟩ hu

/-- t + u, t not empty -/
theorem cat_tup {t b : Addr} {vs ws : List Value} {Q : Value → Shared → Prop} (ht : IsTup s.heap t vs.toArray) (hb : IsTup s.heap b ws.toArray) (hv : vs ≠ [])
    (h1 : ws = [] → Q (.ref t) s) (h2 : ws ≠ [] → Q (.ref s.heap.objs.size) { s with heap := s.heap.push { cls := .type "tuple", data := .seq (vs ++ ws).toArray } })
    (hsz : vs.length + ws.length ≤ sizeLine) : wpAny (model prog w) A (binaryOp .Add (.ref t) (.ref b)) Q E s := by
  obtain ⟨⟨cls, dd, data, sl⟩, ho, hc, n, hd⟩ := id ht
  obtain ⟨⟨cls2, dd2, data2, sl2⟩, ho2, hc2, n2, hd2⟩ := id hb
  simp only at hc hd hc2 hd2
  subst hc hd hc2 hd2
  have e : vs.toArray ++ ws.toArray = (vs ++ ws).toArray := by simp
  by_cases hw : ws = []
  · exact concat_meets ⟨_, ho, rfl⟩ ⟨_, ho2, rfl⟩ noFill_tuple_add seq_tuple_add PySem.F.slot_tuple_add PySem.F.entry_tuple_add (PySem.F.args_tuple_add_2 _ _)
      (tuple_addW1 t b vs.toArray ws.toArray n n2 dd dd2 sl sl2 (by simpa using hv) (by simp [hw])) ⟨ho, ho2, h1 hw⟩
  · refine concat_meets ⟨_, ho, rfl⟩ ⟨_, ho2, rfl⟩ noFill_tuple_add seq_tuple_add PySem.F.slot_tuple_add PySem.F.entry_tuple_add (PySem.F.args_tuple_add_2 _ _)
      (tuple_addW2 t b vs.toArray ws.toArray n n2 dd dd2 sl sl2 (by simpa using hv) (by simpa using hw) (by rw [List.size_toArray, List.size_toArray]; exact hsz)) ⟨ho, ho2, ?_⟩
    rw [e]
    exact h2 hw

/-! ### t[a:b], not the whole -/
/-- a slice's bound as a place among n (d where it is left out) -/
def sIx (n d : Nat) : Option Int → Nat
  | none => d
  | some v => if v < 0 then (v + (n : Int)).toNat else min v.toNat n
theorem sIx_none (n d : Nat) : sIx n d none = d := rfl
theorem sIx_nat (n d k : Nat) : sIx n d (some (k : Int)) = min k n := by
  show (if (k : Int) < 0 then ((k : Int) + (n : Int)).toNat else min (k : Int).toNat n) = min k n
  rw [if_neg (by omega), Int.toNat_natCast]
theorem sIx_le (n d : Nat) (hd : d ≤ n) (o : Option Int) : sIx n d o ≤ n := by
  cases o with
  | none => exact hd
  | some v =>
    show (if v < 0 then (v + (n : Int)).toNat else min v.toNat n) ≤ n
    by_cases hv : v < 0
    · rw [if_pos hv]; omega
    · rw [if_neg hv]; exact Nat.min_le_right _ _
theorem clip_eq (v : Int) (n d : Nat) : (if v < 0 then max (v + (n : Int)) 0 else min v (n : Int)) = ((sIx n d (some v) : Nat) : Int) := by
  show (if v < 0 then max (v + (n : Int)) 0 else min v (n : Int)) = (((if v < 0 then (v + (n : Int)).toNat else min v.toNat n) : Nat) : Int)
  by_cases hv : v < 0
  · simp only [if_pos hv]; omega
  · simp only [if_neg hv]; omega
theorem adjust_gen (lo hi : Option Int) (n : Nat) : Builtin.Slice.sliceAdjust lo hi 1 (n : Int) = (((sIx n 0 lo : Nat) : Int), ((sIx n n hi : Nat) : Int)) := by
  have h1 : ¬ ((1 : Int) < 0) := by omega
  unfold Builtin.Slice.sliceAdjust
  simp only [h1, if_false]
  refine Prod.ext ?_ ?_
  · cases lo with
    | none => rfl
    | some v => exact clip_eq v n 0
  · cases hi with
    | none => rfl
    | some v => exact clip_eq v n n
theorem places_gen (i j : Nat) : Builtin.Slice.slicePlaces (i : Int) (j : Int) 1 = j - i := by
  unfold Builtin.Slice.slicePlaces
  have h1 : (1 : Int) > 0 := by omega
  simp only [h1, if_true, Int.ediv_one]
  split <;> omega
theorem slicePart_ {v : Value} {o : Option Int} {Q : Option Int → Shared → Prop} (p : IsPart v o) (h : Q o s) : wpAny (model prog w) A (Builtin.Slice.slicePartIndex v) Q E s := by
  cases p with
  | none => exact slicePart_none h
  | int i t => exact slicePart_int h
theorem sliceApplied_gen {sl : Addr} {vl vu : Value} {lo hi : Option Int} {n : Nat} {Q : Int × Int × Nat → Shared → Prop} (hs : s.heap.IsSliceOf sl vl vu .none) (pl : IsPart vl lo) (pu : IsPart vu hi)
    (h : Q (((sIx n 0 lo : Nat) : Int), 1, sIx n n hi - sIx n 0 lo) s) : wpAny (model prog w) A (Builtin.Slice.sliceApplied (.ref sl) (pure (n : Int))) Q E s := by
  obtain ⟨os, hos, hcs, hds⟩ := id hs
  unfold Builtin.Slice.sliceApplied Builtin.Slice.sliceFields
  refine wpAny_bind (wpAny_bind (wpAny_field hos hds (x := vl) rfl (wpAny_bind (wpAny_field hos hds (x := vu) rfl (wpAny_bind (wpAny_field hos hds (x := .none) rfl (wpAny_pure ?_)))))))
  refine wpAny_bind (slicePart_none ?_)
  show wpAny _ _ (if ((1 : Int) == 0) = true then _ else _) _ _ s
  rw [if_neg (by decide)]
  refine wpAny_bind (slicePart_ pl (wpAny_bind (slicePart_ pu (wpAny_bind (wpAny_pure ?_)))))
  show wpAny _ _ (match Builtin.Slice.sliceAdjust lo hi 1 (n : Int) with | (lo, hi) => pure (lo, (1 : Int), Builtin.Slice.slicePlaces lo hi 1)) _ _ s
  rw [adjust_gen lo hi n]
  show wpAny _ _ (pure (((sIx n 0 lo : Nat) : Int), (1 : Int), Builtin.Slice.slicePlaces ((sIx n 0 lo : Nat) : Int) ((sIx n n hi : Nat) : Int) 1)) _ _ s
  rw [places_gen]
  exact wpAny_pure h
theorem pick_gen (xs : Array Value) (i k : Nat) : ((List.range k).filterMap fun (m : Nat) => xs[((i : Int) + (m : Int) * 1).toNat]?).toArray = ((xs.toList.drop i).take k).toArray := by
  have e : (fun (m : Nat) => xs[((i : Int) + (m : Int) * 1).toNat]?) = fun m => xs[i + m]? := by
    funext m
    have : ((i : Int) + (m : Int) * 1).toNat = i + m := by omega
    rw [this]
  rw [e]
  have := pick_run xs i k
  rw [List.filterMap_map] at this
  have e2 : ((fun x => xs[x]?) ∘ fun x => i + x) = fun m => xs[i + m]? := rfl
  rw [e2] at this
  rw [this]

theorem getItem_tuple_cut {t sl : Addr} {items : Array Value} {vl vu : Value} {lo hi : Option Int} {Q : Value → Shared → Prop} (ht : IsTup s.heap t items) (hs : s.heap.IsSliceOf sl vl vu .none) (pl : IsPart vl lo) (pu : IsPart vu hi)
    (hw : ¬ (sIx items.size 0 lo = 0 ∧ sIx items.size items.size hi = items.size))
    (h : Q (.ref s.heap.objs.size) { s with heap := s.heap.push { cls := .type "tuple", data := .seq ((items.toList.drop (sIx items.size 0 lo)).take (sIx items.size items.size hi - sIx items.size 0 lo)).toArray } })
    (hsz : items.size ≤ sizeLine) : wpAny (model prog w) A (getItem (.ref t) (.ref sl)) Q E s := by
  have htake : sizeOk (.seq ((items.toList.drop (sIx items.size 0 lo)).take (sIx items.size items.size hi - sIx items.size 0 lo)).toArray) := by
    show ((items.toList.drop (sIx items.size 0 lo)).take (sIx items.size items.size hi - sIx items.size 0 lo)).toArray.size ≤ sizeLine
    rw [List.size_toArray, List.length_take, List.length_drop, Array.length_toList]
    omega
  have hj : sIx items.size items.size hi ≤ items.size := sIx_le _ _ (Nat.le_refl _) hi
  obtain ⟨os, hos, hcs, hds⟩ := id hs
  have hTs : s.TypeIs (.ref sl) "slice" := ⟨os, hos, hcs⟩
  unfold getItem
  try with_reducible refine wpAny_holding ?_
  first | refine wpAny_bind (wpAny_pure ?_) | skip
  refine wpAny_bind (wpAny_sequenceKey ht.typeIs (by decide) ?_)
  refine wpAny_bind (wpAny_callSpecial?_slot (name := Str.ofString "__getitem__") ht.typeIs PyProof.Rows.slot_tuple_getitem
    (wpAny_call_entry PyProof.Rows.slot_tuple_getitem ht.typeIs entry_tuple_getitem ?_ (args_tuple_getitem _ _)))
  show wpAny _ _ (Builtin.Tuple.tupleItemsOf (.ref t) >>= _) _ _ s
  refine wpAny_bind (tupleItemsOf_ ht ?_)
  refine wpAny_bind (wpAny_typeOf hTs ?_)
  rw [if_pos (by decide)]
  refine wpAny_bind (sliceApplied_gen hs pl pu ?_)
  have hno : ¬ ((((sIx items.size 0 lo : Nat) : Int) == 0 && (1 : Int) == 1 && (sIx items.size items.size hi - sIx items.size 0 lo) == items.size) = true) := by
    intro q
    rw [Bool.and_eq_true, Bool.and_eq_true] at q
    have q1 : ((sIx items.size 0 lo : Nat) : Int) = 0 := eq_of_beq q.1.1
    have q2 : sIx items.size items.size hi - sIx items.size 0 lo = items.size := eq_of_beq q.2
    exact hw ⟨by omega, by omega⟩
  show wpAny _ _ (if (((sIx items.size 0 lo : Nat) : Int) == 0 && (1 : Int) == 1 && (sIx items.size items.size hi - sIx items.size 0 lo) == items.size) = true then _ else _) _ _ s
  rw [if_neg hno, pick_gen]
  first
    | exact wpAny_bind (m := Builtin.Tuple.tupleExact _) (wpAny_newObj_type (wpAny_pure ⟨_, rfl, wpAny_pure h⟩) htake)
    | exact wpAny_bind (m := Builtin.Tuple.tupleExact _) (wpAny_newObj_type (wpAny_bind (wpAny_pure (wpAny_pure ⟨_, rfl, wpAny_pure h⟩))) htake)
    | exact wpAny_bind (wpAny_bind (m := Builtin.Tuple.tupleExact _) (wpAny_newObj_type (wpAny_pure (wpAny_pure ⟨_, rfl, wpAny_pure h⟩)) htake))
    | exact wpAny_bind (wpAny_bind (m := Builtin.Tuple.tupleExact _) (wpAny_newObj_type (wpAny_pure ⟨_, rfl, wpAny_pure h⟩) htake))
end
end HT

namespace L2
open PySem PySem.Spec PyProof.Rows

/-! ### the parts of a slice -/
abbrev TO := St → Hp → (Option Int → Hp → Prop) → Prop
/-- a slice's part (left out, or an int) -/
def PO (X : Cx) (e : Option Expr) (t : TO) : Prop :=
  ∀ (pins : List (Addr × Obj)) (s : Shared) (σ : St) (H : Hp) (Q : Option Int → Hp → Prop), Inv X pins σ H s → t σ H Q →
    wpAny (model X.prog X.w) X.A (evalPart e X.env) (fun u s' => ∃ o H', Inv X pins σ H' s' ∧ IsPart u o ∧ Q o H') X.xe s
def tNoPart : TO := fun _ H Q => Q none H
def tPart (t : TE) : TO := fun σ H Q => t σ H fun x H1 => ∃ i, x = .int i ∧ Q (some i) H1

theorem intsAre_of {ns : List Int} : ∀ {us : List Value}, Vals (ns.map V.int) us → IntsAre us ns := by
  induction ns with
  | nil => intro us r; rw [List.map_nil] at r; cases r; exact .nil
  | cons n ns ih =>
    intro us r
    rw [List.map_cons] at r
    cases r with
    | cons r1 r2 =>
      obtain ⟨t, e⟩ := r1
      subst e
      exact .cons n t (ih r2)

section
variable {X : Cx} {e : Expr} {te : TE} {lo hi : Option Expr} {tl th : TO} {pos p2 : Pos}

theorem po_none : PO X none tNoPart := by
  intro pins s σ H Q I h
  rw [evalPart_none]
  exact wpAny_pure ⟨none, H, I, .none, h⟩
theorem po_some (h : PE X e te) : PO X (some e) (tPart te) := by
  intro pins s σ H Q I hw
  rw [evalPart_some]
  refine thn (h pins s σ H _ I hw) fun u s1 ⟨x, H1, I1, r1, q1⟩ => ?_
  obtain ⟨i, rfl, q⟩ := q1
  obtain ⟨t, rfl⟩ := r1
  exact ⟨some i, H1, I1, .int i t, q⟩

/-- what a slice of a value is, by values: the slice object stands at sl -/
def SlR (X : Cx) (r : V → Option Int → Option Int → Hp → VK → Prop) : Prop :=
  ∀ (pins : List (Addr × Obj)) (s : Shared) (σ : St) (H : Hp) (x : V) (v vl vu : Value) (lo hi : Option Int) (sl : Addr) (Q : VK), Inv X pins σ H s → RelV x v → s.heap.IsSliceOf sl vl vu .none → IsPart vl lo → IsPart vu hi → r x lo hi H Q →
    ∃ T id, typeLookup (.type T) "__getitem__" = pure (some (.builtin id)) ∧ s.TypeIs v T ∧ wpAny (model X.prog X.w) X.A (getItem v (.ref sl)) (EP X pins σ Q) X.xe s
theorem SlR.or {r r' : V → Option Int → Option Int → Hp → VK → Prop} (h : SlR X r) (h' : SlR X r') : SlR X (fun x lo hi H Q => r x lo hi H Q ∨ r' x lo hi H Q) := by
  intro pins s σ H x v vl vu lo hi sl Q I rx hs pl pu q
  rcases q with q | q
  · exact h pins s σ H x v vl vu lo hi sl Q I rx hs pl pu q
  · exact h' pins s σ H x v vl vu lo hi sl Q I rx hs pl pu q
def tSl (r : V → Option Int → Option Int → Hp → VK → Prop) (te : TE) (tl th : TO) : TE := fun σ H Q => te σ H fun x H1 => tl σ H1 fun l H2 => th σ H2 fun u H3 => r x l u H3 Q
/-- a[lo:hi], any a -/
theorem pe_slice {r : V → Option Int → Option Int → Hp → VK → Prop} (hr : SlR X r) (he : PE X e te) (hl : PO X lo tl) (hu : PO X hi th) : PE X (.Subscript e (.Slice lo hi none p2) pos) (tSl r te tl th) := by
  intro pins s σ H Q I h
  refine Subscript_ (thn (he pins s σ H _ I h) fun v s1 ⟨x, H1, I1, r1, q1⟩ => ?_)
  refine wpAny_Slice (thn (hl pins s1 σ H1 _ I1 q1) fun vl s2 ⟨l, H2, I2, pl, q2⟩ => thn (hu pins s2 σ H2 _ I2 q2) fun vu s3 ⟨u, H3, I3, pu, q3⟩ => ?_)
  rw [evalPart_none]
  refine wpAny_pure ?_
  have I4 : Inv X pins σ H3 { s3 with heap := s3.heap.push { cls := .type "slice", data := .fields #[vl, vu, .none] } } := I3.kept (t' := s3.toks) fun b ob q => Heap.get?_push_of_some _ q
  obtain ⟨T, id, hT, ht, hg⟩ := hr pins { s3 with heap := s3.heap.push { cls := .type "slice", data := .fields #[vl, vu, .none] } } σ H3 x v vl vu l u s3.heap.objs.size Q I4 r1 (Heap.IsSliceOf.new ..) pl pu q3
  show wpAny (model X.prog X.w) X.A (subscriptTail e (.Slice lo hi none p2) v (.ref s3.heap.objs.size)) (EP X pins σ Q) X.xe { s3 with heap := s3.heap.push { cls := .type "slice", data := .fields #[vl, vu, .none] } }
  exact tail_any (ops := [.ref s3.heap.objs.size, v]) ht hT hg (by with_unfolding_all rfl)

/-- the items of xs[lo:hi] -/
def cutV (xs : List V) (lo hi : Option Int) : List V := (xs.drop (HT.sIx xs.length 0 lo)).take (HT.sIx xs.length xs.length hi - HT.sIx xs.length 0 lo)
theorem cutV_length (xs : List V) (lo hi : Option Int) : (cutV xs lo hi).length ≤ xs.length := by
  unfold cutV
  rw [List.length_take, List.length_drop]
  omega
/-- t[lo:hi], not the whole of it (the whole would be t itself) -/
def rSlT (K : PySem.W.Frag) : V → Option Int → Option Int → Hp → VK → Prop := fun x lo hi H Q => ∃ a xs, x = .ref a ∧ SqT K H a xs ∧
  ¬ (HT.sIx xs.length 0 lo = 0 ∧ HT.sIx xs.length xs.length hi = xs.length) ∧ ∀ p, H p = none → Q (.ref p) (upd H p (.tup (cutV xs lo hi)))
theorem sl_tup : SlR X (rSlT X.K) := by
  intro pins s σ H x v vl vu lo hi sl Q I rx hs pl pu h
  obtain ⟨a, xs, rfl, hx, hw, q⟩ := h
  cases rx
  obtain ⟨its, r, ht, hz⟩ := I.tuple hx
  have hlen : its.toArray.size = xs.length := by rw [List.size_toArray]; exact r.length.symm
  refine ⟨"tuple", _, PyProof.Rows.slot_tuple_getitem.lookup, ht.typeIs, ?_⟩
  refine HT.getItem_tuple_cut ht hs pl pu (by rw [hlen]; exact hw) ?_ (by rw [hlen]; exact hz)
  rw [hlen]
  refine ⟨.ref s.heap.objs.size, _, I.laid (t' := s.toks) (o := .tup (cutV xs lo hi)) (fun b ob q => Heap.get?_push_of_some _ q) (Nat.le_refl _) ?_, rfl, q _ (I.hok.fresh (Nat.le_refl _))⟩
  exact ⟨Nat.le_trans (cutV_length xs lo hi) hz, _, (r.drop (HT.sIx xs.length 0 lo)).take (HT.sIx xs.length xs.length hi - HT.sIx xs.length 0 lo), IsTup.new _ _⟩

/-! ### t < u, t + u -/
def rLtT (K : PySem.W.Frag) : R2 := fun x y H Q => ∃ a b ns ms, x = .ref a ∧ y = .ref b ∧ SqT K H a (ns.map V.int) ∧ SqT K H b (ms.map V.int) ∧ Q (.bl (HT.lexLt ns ms)) H
theorem op_ltT (hu : X.A.units < cLine) : OpR X (compareOp .Lt) (rLtT X.K) := by
  intro pins s σ H x y v u Q I rx ry h
  obtain ⟨a, b, ns, ms, rfl, rfl, ha, hb, q⟩ := h
  cases rx
  cases ry
  obtain ⟨its, r1, p1, _⟩ := I.tuple ha
  obtain ⟨its2, r2, p2, _⟩ := I.tuple hb
  have i1 : IntsAre its.toArray.toList ns := intsAre_of r1
  have i2 : IntsAre its2.toArray.toList ms := intsAre_of r2
  exact HT.lt_tupInts p1 p2 i1 i2 hu ⟨.bl (HT.lexLt ns ms), H, I, rfl, q⟩
/-- t + u, t not empty: u empty gives t itself -/
def rCatT (K : PySem.W.Frag) : R2 := fun x y H Q => ∃ a b xs ys, x = .ref a ∧ y = .ref b ∧ SqT K H a xs ∧ SqT K H b ys ∧ xs ≠ [] ∧ xs.length + ys.length ≤ sizeLine ∧
  (ys = [] → Q (.ref a) H) ∧ (ys ≠ [] → ∀ p, H p = none → Q (.ref p) (upd H p (.tup (xs ++ ys))))
theorem Vals.nil_iff {xs : List V} {us : List Value} (r : Vals xs us) : us = [] ↔ xs = [] := by
  cases r with
  | nil => simp
  | cons _ _ => simp
theorem op_catT : OpR X (binaryOp .Add) (rCatT X.K) := by
  intro pins s σ H x y v u Q I rx ry h
  obtain ⟨a, b, xs, ys, rfl, rfl, ha, hb, hx, hz, q1, q2⟩ := h
  cases rx
  cases ry
  obtain ⟨its, r1, p1, _⟩ := I.tuple ha
  obtain ⟨its2, r2, p2, _⟩ := I.tuple hb
  refine HT.cat_tup p1 p2 (fun z => hx (r1.nil_iff.mp z)) (fun z => ⟨.ref a, H, I, rfl, q1 (r2.nil_iff.mp z)⟩) (fun z => ?_) (by rw [← r1.length, ← r2.length]; exact hz)
  refine ⟨.ref s.heap.objs.size, _, I.laid (t' := s.toks) (o := .tup (xs ++ ys)) (fun b ob q => Heap.get?_push_of_some _ q) (Nat.le_refl _) ?_, rfl, q2 (fun w => z (r2.nil_iff.mpr w)) _ (I.hok.fresh (Nat.le_refl _))⟩
  exact ⟨by rw [List.length_append]; exact hz, _, r1.append r2, IsTup.new _ _⟩
/-- tuple(t) -/
theorem call_tupleT : CallR X (.type "tuple") (fun xs H Q => ∃ a ys, xs = [.ref a] ∧ SqT X.K H a ys ∧ Q (.ref a) H) := by
  intro pins s σ H xs us Q I r h
  obtain ⟨a, ys, rfl, ha, q⟩ := h
  obtain ⟨u, rfl, ru⟩ := vals1 r
  cases ru
  obtain ⟨its, _, p1, _⟩ := I.tuple ha
  exact call_tuple_same (items := its.toArray) p1 ⟨.ref a, H, I, rfl, q⟩
end
end L2

namespace L2
open PySem PySem.Spec PyProof.Rows

/-! ### places -/
/-- the place that an index of any sign means -/
def ixN (n : Nat) (i : Int) : Option Nat := if 0 ≤ i then (if i < n then some i.toNat else none) else if -(n : Int) ≤ i then some (i + n).toNat else none
def atI {α : Type} (xs : List α) (i : Int) : Option α := (ixN xs.length i).bind fun j => xs[j]?
theorem ixN_seq {n : Nat} {i : Int} {j : Nat} (h : ixN n i = some j) : seqIndex? i n = some j ∧ j < n ∧ -(n : Int) ≤ i ∧ i < n := by
  unfold ixN at h
  by_cases h0 : 0 ≤ i
  · rw [if_pos h0] at h
    by_cases h1 : i < n
    · rw [if_pos h1] at h
      have e : i.toNat = j := Option.some.inj h
      exact ⟨by rw [seqIndex_of h0 h1, e], by omega, by omega, h1⟩
    · rw [if_neg h1] at h; cases h
  · rw [if_neg h0] at h
    by_cases h1 : -(n : Int) ≤ i
    · rw [if_pos h1] at h
      have e : (i + n).toNat = j := Option.some.inj h
      exact ⟨by rw [seqIndex_neg (by omega) h1, e], by omega, h1, by omega⟩
    · rw [if_neg h1] at h; cases h
theorem atI_get {α : Type} {xs : List α} {i : Int} {v : α} (h : atI xs i = some v) : ∃ j, seqIndex? i xs.length = some j ∧ xs[j]? = some v ∧ j < xs.length ∧ -(xs.length : Int) ≤ i ∧ i < xs.length := by
  unfold atI at h
  cases e : ixN xs.length i with
  | none => rw [e] at h; cases h
  | some j =>
    rw [e] at h
    obtain ⟨h1, h2, h3, h4⟩ := ixN_seq e
    exact ⟨j, h1, h, h2, h3, h4⟩
theorem atI_nat {α : Type} {xs : List α} {j : Nat} {v : α} (h : xs[j]? = some v) : atI xs (j : Int) = some v := by
  have hj : j < xs.length := (List.getElem?_eq_some_iff.mp h).1
  have e : ixN xs.length (j : Int) = some j := by
    unfold ixN
    rw [if_pos (by omega), if_pos (by omega)]; simp
  unfold atI; rw [e]; exact h
theorem atI_last {α : Type} (xs : List α) (v : α) : atI (xs ++ [v]) (-1) = some v := by
  have hl : (xs ++ [v]).length = xs.length + 1 := by simp
  have e : ixN (xs ++ [v]).length (-1) = some xs.length := by
    unfold ixN
    rw [hl, if_neg (by decide), if_pos (by omega)]
    congr 1
    omega
  unfold atI
  rw [e]
  show (xs ++ [v])[xs.length]? = some v
  simp

/-! ### what may be subscripted -/
/-- what stands as an index of a plain subscript -/
def PlainIx (b : Expr) : Prop := ∀ o i, subscripted b false o i = operate [o, i] (getItem o i)
/-- a subscript by values -/
def IxR (X : Cx) (r : R2) : Prop :=
  ∀ (value slice : Expr) (pins : List (Addr × Obj)) (s : Shared) (σ : St) (H : Hp) (x y : V) (v u : Value) (Q : VK), Inv X pins σ H s → RelV x v → RelV y u → r x y H Q →
    subscripted slice false v u = operate [v, u] (getItem v u) → wpAny (model X.prog X.w) X.A (subscriptTail value slice v u) (EP X pins σ Q) X.xe s
/-- a call of a builtin's method by values: the receiver, the arguments -/
def MtR (X : Cx) (id : String) (r : V → List V → Hp → VK → Prop) : Prop :=
  ∀ (pins : List (Addr × Obj)) (s : Shared) (σ : St) (H : Hp) (x : V) (xs : List V) (v : Value) (us : List Value) (Q : VK), Inv X pins σ H s → RelV x v → Vals xs us → r x xs H Q →
    wpAny (model X.prog X.w) X.A (call (.builtin id) (v :: us)) (EP X pins σ Q) X.xe s
section
variable {X : Cx} {a b : Expr} {ta tb : TE} {pos : Pos}
theorem IxR.or {r r' : R2} (h : IxR X r) (h' : IxR X r') : IxR X (fun x y H Q => r x y H Q ∨ r' x y H Q) := by
  intro value slice pins s σ H x y v u Q I rx ry q hs
  rcases q with q | q
  · exact h value slice pins s σ H x y v u Q I rx ry q hs
  · exact h' value slice pins s σ H x y v u Q I rx ry q hs
theorem MtR.or {id : String} {r r' : V → List V → Hp → VK → Prop} (h : MtR X id r) (h' : MtR X id r') : MtR X id (fun x xs H Q => r x xs H Q ∨ r' x xs H Q) := by
  intro pins s σ H x xs v us Q I rx rs q
  rcases q with q | q
  · exact h pins s σ H x xs v us Q I rx rs q
  · exact h' pins s σ H x xs v us Q I rx rs q
/-- a[b] -/
theorem pe_ix {r : R2} (hr : IxR X r) (ha : PE X a ta) (hb : PE X b tb) (hs : PlainIx b) : PE X (.Subscript a b pos) (tOp r ta tb) := by
  intro pins s σ H Q I h
  exact Subscript_ (binT ha hb I h fun v u s2 x y H2 I2 rx ry q => hr a b pins s2 σ H2 x y v u Q I2 rx ry q (hs _ _))

def rIxL (K : PySem.W.Frag) : R2 := fun x y H Q => ∃ p xs i v, x = .ref p ∧ y = .int i ∧ SqL K H p xs ∧ atI xs i = some v ∧ Q v H
def rIxT (K : PySem.W.Frag) : R2 := fun x y H Q => ∃ p xs i v, x = .ref p ∧ y = .int i ∧ SqT K H p xs ∧ atI xs i = some v ∧ Q v H
def rIxS : R2 := fun x y H Q => ∃ z i c, x = .str z ∧ y = .int i ∧ z.length ≤ sizeLine ∧ atI z.cps.toList i = some c ∧ Q (.str ⟨#[c]⟩) H
theorem ix_list : IxR X (rIxL X.K) := by
  intro value slice pins s σ H x y v u Q I rx ry h hs
  obtain ⟨p, xs, i, z, rfl, rfl, hq, he, q⟩ := h
  cases rx
  obtain ⟨t, rfl⟩ := ry
  obtain ⟨its, r, pl, hz⟩ := I.list hq
  obtain ⟨j, h1, h2, h3, h4, h5⟩ := atI_get he
  obtain ⟨w, ew, rw'⟩ := r.get h2
  have hl := r.length
  have hn := line63
  have fin : EP X pins σ Q w s := ⟨z, H, I, rw', q⟩
  by_cases h0 : 0 ≤ i
  · have hj : i.toNat = j := by
      rw [seqIndex_of h0 h5] at h1
      exact Option.some.inj h1
    exact item_listR pl.isList h0 (by omega) (by rw [hj]; simpa using ew) fin hs
  · have hj : (i + (its.toArray.size : Int)).toNat = j := by
      rw [seqIndex_neg (by omega) h4] at h1
      rw [List.size_toArray, ← hl]
      exact Option.some.inj h1
    exact subscriptTail_builtinR (x := w) pl.isList.typeIs slot_list_getitem.lookup
      (wpAny_getItem_list_neg (Q := fun r s' => r = w ∧ EP X pins σ Q r s') pl.isList (by omega) (by rw [List.size_toArray] <;> omega) (by omega) (by rw [hj]; simpa using ew) ⟨rfl, fin⟩) hs
theorem ix_tup : IxR X (rIxT X.K) := by
  intro value slice pins s σ H x y v u Q I rx ry h hs
  obtain ⟨p, xs, i, z, rfl, rfl, hq, he, q⟩ := h
  cases rx
  obtain ⟨t, rfl⟩ := ry
  obtain ⟨its, r, pl, hz⟩ := I.tuple hq
  obtain ⟨j, h1, h2, h3, h4, h5⟩ := atI_get he
  obtain ⟨w, ew, rw'⟩ := r.get h2
  have hl := r.length
  have hn := line63
  have fin : EP X pins σ Q w s := ⟨z, H, I, rw', q⟩
  exact subscriptTail_builtinR (x := w) pl.typeIs slot_tuple_getitem.lookup
    (getItem_tuple (j := j) (Q := fun r s' => r = w ∧ EP X pins σ Q r s') pl (by omega) (by omega) (by rw [List.size_toArray, ← hl]; exact h1) (by simpa using ew) ⟨rfl, fin⟩) hs
theorem ix_str : IxR X rIxS := by
  intro value slice pins s σ H x y v u Q I rx ry h hs
  obtain ⟨z, i, c, rfl, rfl, hz, he, q⟩ := h
  obtain ⟨t, rfl⟩ := rx
  obtain ⟨t', rfl⟩ := ry
  obtain ⟨j, h1, h2, h3, h4, h5⟩ := atI_get he
  have hl : z.cps.toList.length = z.length := by simp [Str.length]
  rw [hl] at h1 h4 h5
  have hn := line63
  exact tail_any (typeIs_str s z t) slot_str_getitem.lookup (getItem_str (c := c) (by
    have e1 : decide (i < -(2 ^ 63 : Int)) = false := decide_eq_false (by omega)
    have e2 : decide (i ≥ 2 ^ 63) = false := decide_eq_false (by omega)
    rw [e1, e2, Bool.or_false]) (by rw [h1]; simpa using h2) ⟨.str ⟨#[c]⟩, H, I.tok _, ⟨_, rfl⟩, q⟩) hs
/-- list, tuple or str -/
def rIx (K : PySem.W.Frag) : R2 := fun x y H Q => rIxL K x y H Q ∨ rIxT K x y H Q ∨ rIxS x y H Q
theorem ix_seq : IxR X (rIx X.K) := ix_list.or (ix_tup.or ix_str)

/-! ### xs[i] = v, any sign -/
/-- the list's object behind a store -/
theorem mapSeq_set (its : List Value) (n j : Nat) (u : Value) : Obj.mapSeq (·.setIfInBounds j u) { cls := .type "list", data := .seq its.toArray n } = { cls := .type "list", data := .seq (its.set j u).toArray n } := by
  simp [Obj.mapSeq]
theorem Inv.lst {pins : List (Addr × Obj)} {σ : St} {H : Hp} {s : Shared} {p : Addr} {xs : List V} (I : Inv X pins σ H s) (h : H p = some (.lst xs)) :
    ∃ (its : List Value) (n : Nat), Vals xs its ∧ s.heap.get? p = some { cls := .type "list", data := .seq its.toArray n } ∧ xs.length ≤ sizeLine := by
  obtain ⟨z, its, n, r, e⟩ := I.hok p _ h
  exact ⟨its, n, r, e, z⟩
/-- the list at p is written by an update of its object -/
theorem Inv.lstUpd {pins : List (Addr × Obj)} {σ : St} {H : Hp} {s : Shared} {p : Addr} {xs ys : List V} {its its' : List Value} {n n' : Nat} {f : Obj → Obj} (I : Inv X pins σ H s) (h : H p = some (.lst xs))
    (ho : s.heap.get? p = some { cls := .type "list", data := .seq its.toArray n }) (hf : f { cls := .type "list", data := .seq its.toArray n } = { cls := .type "list", data := .seq its'.toArray n' }) (r : Vals ys its') (hz : ys.length ≤ sizeLine) (t : Nat) :
    Inv X pins σ (upd H p (.lst ys)) { s with heap := s.heap.update p f, toks := t } := by
  have e : (s.heap.update p f).get? p = some { cls := .type "list", data := .seq its'.toArray n' } := by
    rw [Heap.get?_update_self f ho (by rw [hf] <;> rfl), hf]
  refine I.write (x := p) (e := p) (by rw [h]; trivial) (.inl rfl) (fun b u hb q => (Heap.get?_update_other _ _ (Ne.symm hb)).trans q) ⟨_, e⟩ ?_
  exact ⟨hz, its', n', r, e⟩
def rSetL : V → V → V → Hp → (Hp → Prop) → Prop := fun o i v H Q => ∃ p xs k j, o = .ref p ∧ i = .int k ∧ H p = some (.lst xs) ∧ ixN xs.length k = some j ∧ Q (upd H p (.lst (xs.set j v)))
theorem set_list : PSet X rSetL := by
  intro pins s σ H o i v ov iv u Q I ro ri rv h
  obtain ⟨p, xs, k, j, rfl, rfl, hp, hj, q⟩ := h
  cases ro
  obtain ⟨t, rfl⟩ := ri
  obtain ⟨its, n, r, ho, hz⟩ := I.lst hp
  obtain ⟨h1, h2, h3, h4⟩ := ixN_seq hj
  have hl := r.length
  have hn := line63
  have I' : Inv X pins σ (upd H p (.lst (xs.set j v))) { s with heap := s.heap.update p (Obj.mapSeq (·.setIfInBounds j u)) } :=
    I.lstUpd hp ho (mapSeq_set its n j u) (r.set rv j) (by rw [List.length_set]; exact hz) s.toks
  by_cases h0 : 0 ≤ k
  · have hk : k.toNat = j := by
      rw [seqIndex_of h0 h4] at h1
      exact Option.some.inj h1
    exact PySem.W.ki_setAt ho h0 (by omega) (by rw [List.size_toArray, ← hl]; exact h4) (by rw [hk]; exact ⟨_, I', q⟩)
  · have hk : (k + (its.toArray.size : Int)).toNat = j := by
      rw [seqIndex_neg (by omega) h3] at h1
      rw [List.size_toArray, ← hl]
      exact Option.some.inj h1
    exact PySem.W.ki_setBack ho (by omega) (by rw [List.size_toArray, ← hl]; exact h3) (by omega) (by rw [hk]; exact ⟨_, I', q⟩)

/-! ### slices -/
theorem slice_bounds (lo hi : Option Int) (n : Nat) : (sliceBounds lo hi none n).1 = ((HT.sIx n 0 lo : Nat) : Int) ∧ (sliceBounds lo hi none n).2.1 = ((HT.sIx n n hi : Nat) : Int) ∧ (sliceBounds lo hi none n).2.2 = 1 := by
  refine ⟨?_, ?_, rfl⟩
  · cases lo with
    | none => simp [sliceBounds, HT.sIx]
    | some i =>
      simp only [sliceBounds, HT.sIx, Option.getD_none, show (1 : Int) > 0 by decide, if_true]
      by_cases h : i < 0
      · simp only [h, if_true] <;> omega
      · simp only [h, if_false] <;> omega
  · cases hi with
    | none => simp [sliceBounds, HT.sIx]
    | some i =>
      simp only [sliceBounds, HT.sIx, Option.getD_none, show (1 : Int) > 0 by decide, if_true]
      by_cases h : i < 0
      · simp only [h, if_true] <;> omega
      · simp only [h, if_false] <;> omega
theorem slicePick_cut (its : List Value) (lo hi : Option Int) : slicePick its.toArray lo hi none = ((its.drop (HT.sIx its.length 0 lo)).take (HT.sIx its.length its.length hi - HT.sIx its.length 0 lo)).toArray := by
  obtain ⟨h1, h2, h3⟩ := slice_bounds lo hi its.toArray.size
  unfold slicePick
  rw [h1, h2, h3]
  simp only [sliceRange_one, pick_run, List.size_toArray] <;> rfl
/-- xs[lo:hi] of a list: a new list -/
def rSlL (K : PySem.W.Frag) : V → Option Int → Option Int → Hp → VK → Prop := fun x lo hi H Q => ∃ a xs, x = .ref a ∧ SqL K H a xs ∧ ∀ p, H p = none → Q (.ref p) (upd H p (.lst (cutV xs lo hi)))
theorem sl_list : SlR X (rSlL X.K) := by
  intro pins s σ H x v vl vu lo hi sl Q I rx hs pl pu h
  obtain ⟨a, xs, rfl, hx, q⟩ := h
  cases rx
  obtain ⟨its, r, ht, hz⟩ := I.list hx
  have hlen := r.length
  refine ⟨"list", _, slot_list_getitem.lookup, ht.isList.typeIs, ?_⟩
  refine wpAny_getItem_list_slice ht.isList hs pl pu .none (by simp) ?_ (by rw [List.size_toArray] <;> omega)
  rw [slicePick_cut, ← hlen]
  refine ⟨.ref s.heap.objs.size, _, I.laid (t' := s.toks) (o := .lst (cutV xs lo hi)) (fun b ob q => Heap.get?_push_of_some _ q) (Nat.le_refl _) ?_, rfl, q _ (I.hok.fresh (Nat.le_refl _))⟩
  exact ⟨Nat.le_trans (cutV_length xs lo hi) hz, _, 0, (r.drop (HT.sIx xs.length 0 lo)).take (HT.sIx xs.length xs.length hi - HT.sIx xs.length 0 lo), Heap.get?_push_size _ rfl⟩

/-! ### in, not in: flat items -/
def flatV : V → Bool
  | .non => true
  | .bl _ => true
  | .int _ => true
  | .str _ => true
  | _ => false
/-- == of flat values -/
def eqV : V → V → Bool
  | .non, .non => true
  | .bl a, .bl b => a == b
  | .bl a, .int b => (if a then 1 else 0) == b
  | .int a, .bl b => a == (if b then 1 else 0)
  | .int a, .int b => a == b
  | .str a, .str b => a == b
  | _, _ => false
theorem eqAt_V {A : Around} {s : Shared} {y x : V} {u v : Value} (ry : RelV y u) (rx : RelV x v) (fy : flatV y = true) (fx : flatV x = true) : SeqAt.EqAt A s u v (eqV y x) := by
  cases y with
  | non =>
    cases ry
    cases x with
    | non => cases rx; exact SeqAt.EqAt.same _
    | bl b => cases rx; exact SeqAt.EqAt.none_bool b
    | int b => obtain ⟨t, rfl⟩ := rx; exact SeqAt.EqAt.none_int b t
    | str b => obtain ⟨t, rfl⟩ := rx; exact SeqAt.EqAt.none_str b t
    | _ => exact absurd (show false = true from fx) Bool.false_ne_true
  | bl a =>
    cases ry
    cases x with
    | non => cases rx; exact SeqAt.EqAt.bool_none a
    | bl b => cases rx; exact SeqAt.EqAt.bool_bool a b
    | int b => obtain ⟨t, rfl⟩ := rx; exact SeqAt.EqAt.bool_int a b t
    | str b => obtain ⟨t, rfl⟩ := rx; exact SeqAt.EqAt.bool_str a b t
    | _ => exact absurd (show false = true from fx) Bool.false_ne_true
  | int a =>
    obtain ⟨t', rfl⟩ := ry
    cases x with
    | non => cases rx; exact SeqAt.EqAt.int_none a t'
    | bl b => cases rx; exact SeqAt.EqAt.int_bool a t' b
    | int b => obtain ⟨t, rfl⟩ := rx; exact SeqAt.EqAt.int_int a t' b t
    | str b => obtain ⟨t, rfl⟩ := rx; exact SeqAt.EqAt.int_str a t' b t
    | _ => exact absurd (show false = true from fx) Bool.false_ne_true
  | str a =>
    obtain ⟨t', rfl⟩ := ry
    cases x with
    | non => cases rx; exact SeqAt.EqAt.str_none a t'
    | bl b => cases rx; exact SeqAt.EqAt.str_bool a t' b
    | int b => obtain ⟨t, rfl⟩ := rx; exact SeqAt.EqAt.str_int a t' b t
    | str b => obtain ⟨t, rfl⟩ := rx; exact SeqAt.EqAt.str_str a t' b t
    | _ => exact absurd (show false = true from fx) Bool.false_ne_true
  | _ => exact absurd (show false = true from fy) Bool.false_ne_true
/-- the items' answers, read off the values (a value's own answer does not lean on its token) -/
def eqU (x : V) (u : Value) : Bool := match u with
  | .none => eqV .non x
  | .bool b => eqV (.bl b) x
  | .int i _ => eqV (.int i) x
  | .str z _ => eqV (.str z) x
  | _ => false
theorem eqU_of {x y : V} {u : Value} (r : RelV y u) (f : flatV y = true) : eqU x u = eqV y x := by
  cases y with
  | non => cases r; rfl
  | bl b => cases r; rfl
  | int i => obtain ⟨t, rfl⟩ := r; rfl
  | str z => obtain ⟨t, rfl⟩ := r; rfl
  | _ => exact absurd (show false = true from f) Bool.false_ne_true
theorem any_eqU {x : V} : ∀ {xs : List V} {us : List Value}, Vals xs us → xs.all flatV = true → us.any (eqU x) = xs.any fun y => eqV y x
  | _, _, .nil, _ => rfl
  | y :: xs, u :: us, .cons r t, f => by
    rw [List.all_cons, Bool.and_eq_true] at f
    rw [List.any_cons, List.any_cons, eqU_of r f.1, any_eqU t f.2]
theorem mem_eqAt {A : Around} {s : Shared} {x : V} {v : Value} (rx : RelV x v) (fx : flatV x = true) : ∀ {xs : List V} {us : List Value}, Vals xs us → xs.all flatV = true → ∀ u ∈ us, SeqAt.EqAt A s u v (eqU x u)
  | _, _, .nil, _ => fun u hu => by cases hu
  | y :: xs, u :: us, .cons r t, f => fun u' hu => by
    rw [List.all_cons, Bool.and_eq_true] at f
    rcases List.mem_cons.mp hu with rfl | hu
    · rw [eqU_of r f.1]; exact eqAt_V r rx f.1 fx
    · exact mem_eqAt rx fx t f.2 u' hu
def inV (x : V) (xs : List V) : Bool := xs.any fun y => eqV y x
/-- x in a list or tuple of flat items -/
def rIn (K : PySem.W.Frag) (neg : Bool) : R2 := fun x y H Q => ∃ p xs, y = .ref p ∧ (SqL K H p xs ∨ SqT K H p xs) ∧ flatV x = true ∧ xs.all flatV = true ∧ Q (.bl (if neg then !inV x xs else inV x xs)) H
theorem op_in_seq : OpR X (compareOp .In) (rIn X.K false) := by
  intro pins s σ H x y v u Q I rx ry h
  obtain ⟨p, xs, rfl, hq, fx, fs, q⟩ := h
  cases ry
  rcases hq with hq | hq
  · obtain ⟨its, r, pl, hz⟩ := I.list hq
    refine SeqAt.in_listAt (eqU x) pl.isList (fun w hw => mem_eqAt rx fx r fs w (by simpa using hw)) ⟨.bl _, H, I, rfl, ?_⟩
    rw [show its.toArray.any (eqU x) = its.any (eqU x) by simp, any_eqU r fs]
    exact q
  · obtain ⟨its, r, pl, hz⟩ := I.tuple hq
    refine SeqAt.in_tupleAt (eqU x) pl (fun w hw => mem_eqAt rx fx r fs w (by simpa using hw)) ⟨.bl _, H, I, rfl, ?_⟩
    rw [show its.toArray.any (eqU x) = its.any (eqU x) by simp, any_eqU r fs]
    exact q
theorem op_notIn_seq : OpR X (compareOp .NotIn) (rIn X.K true) := by
  intro pins s σ H x y v u Q I rx ry h
  obtain ⟨p, xs, rfl, hq, fx, fs, q⟩ := h
  cases ry
  rcases hq with hq | hq
  · obtain ⟨its, r, pl, hz⟩ := I.list hq
    refine SeqAt.notIn_listAt (eqU x) pl.isList (fun w hw => mem_eqAt rx fx r fs w (by simpa using hw)) ⟨.bl _, H, I, rfl, ?_⟩
    rw [show its.toArray.any (eqU x) = its.any (eqU x) by simp, any_eqU r fs]
    exact q
  · obtain ⟨its, r, pl, hz⟩ := I.tuple hq
    refine SeqAt.notIn_tupleAt (eqU x) pl (fun w hw => mem_eqAt rx fx r fs w (by simpa using hw)) ⟨.bl _, H, I, rfl, ?_⟩
    rw [show its.toArray.any (eqU x) = its.any (eqU x) by simp, any_eqU r fs]
    exact q
theorem op_notIn_str : OpR X (compareOp .NotIn) (fun x y H Q => ∃ i j, x = .str i ∧ y = .str j ∧ Q (.bl (!(!(Builtin.Str.occurrences j i 0 j.length 1).isEmpty))) H) := by
  intro pins s σ H x y v u Q I rx ry h
  obtain ⟨i, j, rfl, rfl, q⟩ := h
  obtain ⟨t, rfl⟩ := rx
  obtain ⟨t', rfl⟩ := ry
  exact notIn_str ⟨.bl _, H, I, rfl, q⟩

/-! ### len, list(x), tuple(x) of any list or tuple that is read -/
theorem call_len_seq : CallR X (.builtin "len") (fun xs H Q => ∃ p ys, xs = [.ref p] ∧ (SqL X.K H p ys ∨ SqT X.K H p ys) ∧ Q (.int ys.length) H) := by
  intro pins s σ H xs us Q I r h
  obtain ⟨p, ys, rfl, hq, q⟩ := h
  obtain ⟨u, rfl, rx⟩ := vals1 r
  cases rx
  have hn := line63
  rcases hq with hq | hq
  · obtain ⟨its, r', pl, hz⟩ := I.list hq
    have hlen := r'.length
    exact Calls.call_len_list pl.isList (by simp only [List.size_toArray] <;> omega) ⟨.int ys.length, H, I.tok _, ⟨s.toks + 1, by rw [List.size_toArray, hlen]⟩, q⟩
  · obtain ⟨its, r', pl, hz⟩ := I.tuple hq
    have hlen := r'.length
    exact len_tuple pl (by simp only [List.size_toArray] <;> omega) ⟨.int ys.length, H, I.tok _, ⟨s.toks + 1, by rw [List.size_toArray, hlen]⟩, q⟩
theorem call_len_str : CallR X (.builtin "len") (fun xs H Q => ∃ z, xs = [.str z] ∧ z.length ≤ sizeLine ∧ Q (.int z.length) H) := by
  intro pins s σ H xs us Q I r h
  obtain ⟨z, rfl, hz, q⟩ := h
  obtain ⟨u, rfl, t, rfl⟩ := vals1 r
  have hn := line63
  exact len_str (by omega) ⟨.int z.length, H, I.tok _, ⟨_, rfl⟩, q⟩
theorem CallR.or {f : Value} {r r' : List V → Hp → VK → Prop} (h : CallR X f r) (h' : CallR X f r') : CallR X f (fun xs H Q => r xs H Q ∨ r' xs H Q) := by
  intro pins s σ H xs us Q I rs q
  rcases q with q | q
  · exact h pins s σ H xs us Q I rs q
  · exact h' pins s σ H xs us Q I rs q
theorem call_list_of : CallR X (.type "list") (fun xs H Q => ∃ p ys, xs = [.ref p] ∧ (SqL X.K H p ys ∨ SqT X.K H p ys) ∧ ∀ l, H l = none → Q (.ref l) (upd H l (.lst ys))) := by
  intro pins s σ H xs us Q I r h
  obtain ⟨p, ys, rfl, hq, q⟩ := h
  obtain ⟨u, rfl, rx⟩ := vals1 r
  cases rx
  have fin : ∀ (its : List Value), Vals ys its → ys.length ≤ sizeLine → ∀ (h' : Heap) (c' : Nat), (∀ b o', s.heap.get? b = some o' → h'.get? b = some o') →
      h'.get? s.heap.objs.size = some { cls := .type "list", dict := none, data := .seq its.toArray c', slots := #[] } → EP X pins σ Q (.ref s.heap.objs.size) { s with heap := h' } := fun its r' hz h' c' kp e =>
    ⟨.ref s.heap.objs.size, _, I.laid (t' := s.toks) kp (Nat.le_refl _) (show ObjOk X.prog X.w _ h' _ (.lst ys) from ⟨hz, its, c', r', e⟩), rfl, q _ (I.hok.fresh (Nat.le_refl _))⟩
  rcases hq with hq | hq
  · obtain ⟨its, r', pl, hz⟩ := I.list hq
    have hlen := r'.length
    obtain ⟨o, ho, hc, n, hd⟩ := pl.isList
    exact call_list_seq p (.inl rfl) ho hc hd (fun h' c' kp e => fin its r' hz h' c' kp e) (by simp only [List.size_toArray] <;> omega)
  · obtain ⟨its, r', pl, hz⟩ := I.tuple hq
    have hlen := r'.length
    obtain ⟨o, ho, hc, n, hd⟩ := pl
    exact call_list_seq p (.inr rfl) ho hc hd (fun h' c' kp e => fin its r' hz h' c' kp e) (by simp only [List.size_toArray] <;> omega)
theorem call_tuple_of : CallR X (.type "tuple") (fun xs H Q => ∃ p ys, xs = [.ref p] ∧ ((SqL X.K H p ys ∧ ∀ l, H l = none → Q (.ref l) (upd H l (.tup ys))) ∨ (SqT X.K H p ys ∧ Q (.ref p) H))) := by
  intro pins s σ H xs us Q I r h
  obtain ⟨p, ys, rfl, h⟩ := h
  obtain ⟨u, rfl, rx⟩ := vals1 r
  cases rx
  rcases h with ⟨hq, q⟩ | ⟨hq, q⟩
  · obtain ⟨its, r', pl, hz⟩ := I.list hq
    have hlen := r'.length
    refine call_tuple_list pl.isList (fun h' kp => ?_) (by simp only [List.size_toArray] <;> omega)
    have I1 : Inv X pins σ H { s with heap := h' } := I.kept (t' := s.toks) kp
    have I2 : Inv X pins σ (upd H h'.objs.size (.tup ys)) { s with heap := h'.push { cls := .type "tuple", data := .seq its.toArray } } :=
      I1.laid (t' := s.toks) (fun b o e => Heap.get?_push_of_some _ e) (Nat.le_refl _) (show ObjOk X.prog X.w _ _ _ (.tup ys) from ⟨hz, its, r', IsTup.new _ _⟩)
    exact ⟨.ref h'.objs.size, _, I2, rfl, q _ (I1.hok.fresh (Nat.le_refl _))⟩
  · obtain ⟨its, r', pl, hz⟩ := I.tuple hq
    exact call_tuple_same pl ⟨.ref p, H, I, rfl, q⟩

/-! ### the call of a builtin's method: o.m(..) -/
/-- the value is of that builtin type -/
def tyV (K : PySem.W.Frag) (T : String) (x : V) (H : Hp) : Prop := match x with
  | .str _ => T = "str"
  | .int _ => T = "int"
  | .ref p => (T = "list" ∧ ∃ xs, SqL K H p xs) ∨ (T = "tuple" ∧ ∃ o, K.lookup p = some o ∧ o.cls = .type "tuple" ∧ o.dict = none) ∨
      (T = "dict" ∧ ((∃ kvs, H p = some (.dK kvs)) ∨ ∃ kvs, H p = some (.dT kvs))) ∨ (T = "set" ∧ ∃ S n, H p = some (.set S n))
  | _ => False
theorem tyV_is {pins : List (Addr × Obj)} {σ : St} {H : Hp} {s : Shared} {T : String} {x : V} {v : Value} (I : Inv X pins σ H s) (r : RelV x v) (ty : tyV X.K T x H) :
    s.TypeIs v T ∧ ∀ a, v = .ref a → ∃ ob, s.heap.get? a = some ob ∧ ob.dict = none := by
  cases x with
  | str z =>
    obtain ⟨t, rfl⟩ := r
    cases (show T = "str" from ty)
    exact ⟨typeIs_str s z t, fun _ e => nomatch e⟩
  | int i =>
    obtain ⟨t, rfl⟩ := r
    cases (show T = "int" from ty)
    exact ⟨typeIs_int s i t, fun _ e => nomatch e⟩
  | ref p =>
    cases r
    rcases ty with ⟨rfl, xs, hq⟩ | ⟨rfl, o, hk, hc, hd⟩ | ⟨rfl, hk⟩ | ⟨rfl, S, n, hk⟩
    · obtain ⟨its, _, pl, _⟩ := I.list hq
      refine ⟨pl.isList.typeIs, fun a e => ?_⟩
      cases e
      obtain ⟨o, n, e, c, hd, _⟩ := pl
      exact ⟨o, e, hd⟩
    · refine ⟨⟨o, I.kIn p o hk, hc⟩, fun a e => ?_⟩
      cases e
      exact ⟨o, I.kIn _ o hk, hd⟩
    · have z : ∃ o, s.heap.get? p = some o ∧ o.ExactDict := by
        rcases hk with ⟨kvs, hk⟩ | ⟨kvs, hk⟩
        · obtain ⟨_, _, _, _, o, _, _, e, ex, _⟩ := I.hok p _ hk
          exact ⟨o, e, ex⟩
        · obtain ⟨_, _, _, _, o, _, _, e, ex, _⟩ := I.hok p _ hk
          exact ⟨o, e, ex⟩
      obtain ⟨o, e, ex⟩ := z
      refine ⟨⟨o, e, ex.1⟩, fun a e2 => ?_⟩
      cases e2
      exact ⟨o, e, ex.2.1⟩
    · obtain ⟨o, _, _, _, e, ex, _⟩ := I.hok p _ hk
      refine ⟨⟨o, e, ex.1⟩, fun a e2 => ?_⟩
      cases e2
      exact ⟨o, e, ex.2.1⟩
  | _ => exact False.elim ty
def tBM0 (K : PySem.W.Frag) (T : String) (r : V → List V → Hp → VK → Prop) (to : TE) : TE := fun σ H Q => to σ H fun x H1 => tyV K T x H1 ∧ r x [] H1 Q
def tBM (K : PySem.W.Frag) (T : String) (r : V → List V → Hp → VK → Prop) (to : TE) (t : TA) : TE := fun σ H Q => to σ H fun x H1 => tyV K T x H1 ∧ t σ H1 fun xs H2 => r x xs H2 Q
variable {o e : Expr} {es : List Expr} {to : TE} {t : TA} {name : Str} {apos cpos : Pos} {T id : String} {r : V → List V → Hp → VK → Prop}
theorem pe_bm0 (pa : PlainAttrs T) (slot : Slot T name id) (hty : typeOf (.builtin id) = pure (.type "method_descriptor")) (hm : MtR X id r) (ho : PE X o to)
    (hbase : attributeBase o name X.env (eval o X.env) = eval o X.env := by rfl) (hline : (apos.endLine == cpos.line) = true := by rfl) : PE X (.Call (.Attribute o name apos) [] [] cpos) (tBM0 X.K T r to) := by
  intro pins s σ H Q I h
  refine wpAny_Call_method0_late hbase hline (thn (ho pins s σ H _ I h) fun v s1 ⟨x, H1, I1, r1, ty, q1⟩ => ?_)
  obtain ⟨h1, h2⟩ := tyV_is I1 r1 ty
  exact ⟨T, id, pa, slot, hty, h1, h2, Calls.callWith_builtin rfl (PySem.evalArgs_none (hm pins s1 σ H1 x [] v [] Q I1 r1 .nil q1))⟩
theorem pe_bm (pa : PlainAttrs T) (slot : Slot T name id) (hty : typeOf (.builtin id) = pure (.type "method_descriptor")) (hm : MtR X id r) (ho : PE X o to) (ha : PA X (e :: es) t)
    (hbase : attributeBase o name X.env (eval o X.env) = eval o X.env := by rfl)
    (hfew : ((backTo cpos (starEach (e :: es) X.env)).all (fun x => !x.1) && (backToKw cpos (keywordEach [] X.env)).all (fun x => x.1.isSome)
      && decide ((e :: es).length + ([] : List Keyword).length + (if ([] : List Keyword).isEmpty then 0 else 1) < 30)) = true := by rfl)
    (hline : (apos.endLine == cpos.line) = true := by rfl) (hs : starEach (e :: es) X.env = (false, eval e X.env) :: starEach es X.env := by rfl) (hplain : (backTo cpos (starEach es X.env)).any (·.1) = false := by rfl) :
    PE X (.Call (.Attribute o name apos) (e :: es) [] cpos) (tBM X.K T r to t) := by
  intro pins s σ H Q I h
  refine wpAny_Call_method_late hbase hfew hline rfl (thn (ho pins s σ H _ I h) fun v s1 ⟨x, H1, I1, r1, ty, q1⟩ => ?_)
  obtain ⟨h1, h2⟩ := tyV_is I1 r1 ty
  refine ⟨T, id, pa, slot, hty, h1, h2, ?_⟩
  have hA := ha cpos pins s1 σ H1 _ I1 q1
  rw [hs] at hA ⊢
  refine Calls.callWith_builtin (by show (false || (backTo cpos (starEach es X.env)).any (·.1)) = false; rw [hplain] <;> rfl) (Calls.evalArgs_plain ?_)
  exact thn hA fun us s2 ⟨vs, H2, I2, r2, q2⟩ => hm pins s2 σ H2 x vs v us Q I2 r1 r2 q2
/- xs.append(e), list.index on a module's tuple .. are MtR facts of 06m -/
end
end L2

namespace L2
open PySem PySem.Spec PyProof.Rows

def MtM (X : Cx) (id : String) (r : V → List V → Hp → VK → Prop) : Prop :=
  ∀ (pins : List (Addr × Obj)) (s : Shared) (σ : St) (H : Hp) (x : V) (xs : List V) (v : Value) (us : List Value) (Q : VK), Inv X pins σ H s → RelV x v → Vals xs us → r x xs H Q →
    wpAny (model X.prog X.w) X.A (call (.builtin id) (v :: us)) (EP X pins σ Q) X.xe s

/-! ### lists of values -/
theorem Vals.one : ∀ {x : V} {us : List Value}, Vals [x] us → ∃ u, us = [u] ∧ RelV x u
  | _, _, .cons r .nil => ⟨_, rfl, r⟩
theorem Vals.two : ∀ {x y : V} {us : List Value}, Vals [x, y] us → ∃ u v, us = [u, v] ∧ RelV x u ∧ RelV y v
  | _, _, _, .cons r (.cons q .nil) => ⟨_, _, rfl, r, q⟩
theorem Vals.zero : ∀ {us : List Value}, Vals [] us → us = []
  | _, .nil => rfl
theorem Vals.dropLast {xs : List V} {us : List Value} (h : Vals xs us) : Vals xs.dropLast us.dropLast := by
  induction h with
  | nil => exact .nil
  | cons r t ih =>
    cases t with
    | nil => exact .nil
    | cons q t' => exact .cons r ih
theorem Vals.eraseIdx : ∀ {xs : List V} {us : List Value} (i : Nat), Vals xs us → Vals (xs.eraseIdx i) (us.eraseIdx i)
  | _, _, _, .nil => .nil
  | _, _, 0, .cons _ t => t
  | _, _, i + 1, .cons r t => .cons r (Vals.eraseIdx i t)
theorem Vals.reverse {xs : List V} {us : List Value} (h : Vals xs us) : Vals xs.reverse us.reverse := by
  induction h with
  | nil => exact .nil
  | cons r t ih => rw [List.reverse_cons, List.reverse_cons]; exact Vals.append ih (.cons r .nil)
theorem Vals.rep {xs : List V} {us : List Value} (h : Vals xs us) : ∀ k : Nat, Vals (List.replicate k xs).flatten (List.replicate k us).flatten
  | 0 => .nil
  | k + 1 => by
    rw [List.replicate_succ, List.replicate_succ, List.flatten_cons, List.flatten_cons]
    exact Vals.append h (Vals.rep h k)
theorem erase_last {α : Type} (l : List α) : l.eraseIdx (l.length - 1) = l.dropLast := by
  induction l with
  | nil => rfl
  | cons a r ih =>
    cases r with
    | nil => rfl
    | cons b r =>
      have e : (a :: b :: r).length - 1 = ((b :: r).length - 1) + 1 := by
        have h1 : (a :: b :: r).length = r.length + 2 := rfl
        have h2 : (b :: r).length = r.length + 1 := rfl
        omega
      rw [e, List.eraseIdx_cons_succ, ih]
      all_goals rfl
theorem len_erase {α : Type} : ∀ (l : List α) (i : Nat), (l.eraseIdx i).length ≤ l.length
  | [], _ => Nat.le_refl _
  | _ :: _, 0 => Nat.le_succ _
  | _ :: r, i + 1 => Nat.succ_le_succ (len_erase r i)
theorem foldl_rep (its : List Value) : ∀ (k : Nat) (acc : List Value),
    List.foldl (fun x1 x2 => x1 ++ x2) acc.toArray (List.replicate k its.toArray) = (acc ++ (List.replicate k its).flatten).toArray
  | 0, acc => by simp
  | k + 1, acc => by
    have e : acc.toArray ++ its.toArray = (acc ++ its).toArray := by simp
    have e2 : (acc ++ its) ++ (List.replicate k its).flatten = acc ++ (List.replicate (k + 1) its).flatten := by
      rw [List.replicate_succ, List.flatten_cons, List.append_assoc]
    rw [← e2, ← foldl_rep its k (acc ++ its), ← e, List.replicate_succ, List.foldl_cons]

section
variable {X : Cx} {pins : List (Addr × Obj)} {σ : St} {H : Hp} {s : Shared} {l b : Addr} {xs ys zs : List V}

/-! ### the two steps: a tracked list is rewritten, a new list is laid -/
theorem Inv.lset {its its' : List Value} {n : Nat} {f : Array Value → Array Value} {t' : Nat} (I : Inv X pins σ H s) (hH : H l = some (.lst xs))
    (e : s.heap.get? l = some { cls := .type "list", data := .seq its.toArray n }) (hf : f its.toArray = its'.toArray) (hv : Vals ys its') (hz : ys.length ≤ sizeLine) :
    Inv X pins σ (upd H l (.lst ys)) { s with heap := s.heap.update l (Obj.mapSeq f), toks := t' } := by
  have q := PySem.IsL.update e f
  rw [hf] at q
  refine I.write (x := l) (e := l) (by rw [hH]; exact trivial) (.inl rfl) (fun b' u hb hu => (Heap.get?_update_other s.heap (Obj.mapSeq f) (Ne.symm hb)).trans hu) ⟨_, q⟩ ?_
  exact ⟨hz, its', _, hv, q⟩
theorem Inv.lnew {its : List Value} {t' : Nat} (I : Inv X pins σ H s) (hv : Vals ys its) (hz : ys.length ≤ sizeLine) :
    Inv X pins σ (upd H s.heap.objs.size (.lst ys)) { s with heap := s.heap.push { cls := .type "list", data := .seq its.toArray }, toks := t' } :=
  I.laid (fun _ _ q => Heap.get?_push_of_some _ q) (Nat.le_refl _) ⟨hz, its, 0, hv, Heap.get?_push_size _ rfl⟩
theorem Inv.fresh (I : Inv X pins σ H s) : H s.heap.objs.size = none := I.hok.fresh (Nat.le_refl _)
theorem Inv.lstM (I : Inv X pins σ H s) (hH : H l = some (.lst xs)) : xs.length ≤ sizeLine ∧ ∃ (its : List Value) (n : Nat), Vals xs its ∧ xs.length = its.length ∧ s.heap.get? l = some { cls := .type "list", data := .seq its.toArray n } := by
  obtain ⟨z, its, n, r, e⟩ := I.hok l _ hH
  exact ⟨z, its, n, r, r.length, e⟩

theorem notLongL {n : Nat} (h : n ≤ sizeLine) : Builtin.List.listTooLong n = false := by
  unfold Builtin.List.listTooLong
  exact decide_eq_false (by omega)
end

section
variable {X : Cx}

/-! ### methods -/
def rAppend : V → List V → Hp → VK → Prop := fun x vs H Q => ∃ l xs y, x = .ref l ∧ vs = [y] ∧ H l = some (.lst xs) ∧ xs.length < sizeLine ∧ Q .non (upd H l (.lst (xs ++ [y])))
theorem mt_append : MtM X "list.append" rAppend := by
  intro pins s σ H x vs v us Q I rx rv h
  obtain ⟨l, xs, y, rfl, rfl, hH, hz, q⟩ := h
  cases rx
  obtain ⟨u, rfl, ru⟩ := rv.one
  obtain ⟨z, its, n, r, hl, e⟩ := I.lstM hH
  refine call_meets F.slot_list_append ⟨_, e, rfl⟩ F.entry_list_append (F.args_list_append_2 _ _) (PySem.list_append l its.toArray n u (by rw [List.size_toArray]; omega)) ⟨e, ?_⟩
  refine ⟨.non, _, I.lset (its' := its ++ [u]) hH e (by simp) (r.append (.cons ru .nil)) ?_, rfl, q⟩
  rw [List.length_append, List.length_singleton]
  omega

def rExtend : V → List V → Hp → VK → Prop := fun x vs H Q => ∃ l b xs zs, x = .ref l ∧ vs = [.ref b] ∧ H l = some (.lst xs) ∧ H b = some (.lst zs) ∧ xs.length + zs.length ≤ sizeLine ∧ Q .non (upd H l (.lst (xs ++ zs)))
theorem mt_extend : MtM X "list.extend" rExtend := by
  intro pins s σ H x vs v us Q I rx rv h
  obtain ⟨l, b, xs, zs, rfl, rfl, hH, hB, hz, q⟩ := h
  cases rx
  obtain ⟨u, rfl, ru⟩ := rv.one
  cases ru
  obtain ⟨z, its, n, r, hl, e⟩ := I.lstM hH
  obtain ⟨z2, its2, n2, r2, hl2, e2⟩ := I.lstM hB
  have hsz : its.toArray.size + its2.toArray.size ≤ sizeLine := by rw [List.size_toArray, List.size_toArray]; omega
  have hlong : ¬ (!its.toArray.isEmpty && Builtin.List.listTooLong (its.toArray.size + its2.toArray.size)) = true := by
    rw [notLongL hsz, Bool.and_false]
    exact Bool.false_ne_true
  refine call_meets F.slot_list_extend ⟨_, e, rfl⟩ F.entry_list_extend (F.args_list_extend_2 _ _)
    (AutoSeq1.list_extend_list_list_0 l its.toArray n b its2.toArray n2 hlong (by rw [List.size_toArray]; omega) (by omega)) ⟨e, e2, ?_⟩
  refine ⟨.non, _, I.lset (its' := its ++ its2) hH e (by simp) (r.append r2) ?_, rfl, q⟩
  rw [List.length_append]
  omega

def rPop : V → List V → Hp → VK → Prop := fun x vs H Q => ∃ l xs y, x = .ref l ∧ vs = [] ∧ H l = some (.lst xs) ∧ xs[xs.length - 1]? = some y ∧ Q y (upd H l (.lst xs.dropLast))
theorem mt_pop : MtM X "list.pop" rPop := by
  intro pins s σ H x vs v us Q I rx rv h
  obtain ⟨l, xs, y, rfl, rfl, hH, hy, q⟩ := h
  cases rx
  have hus := rv.zero
  subst hus
  obtain ⟨z, its, n, r, hl, e⟩ := I.lstM hH
  obtain ⟨u, hu, ru⟩ := r.get hy
  have hy' : its.toArray[its.toArray.size - 1]? = some u := by
    show its.toArray[its.length - 1]? = some u
    rw [← Array.getElem?_toList, ← hl]
    exact hu
  refine call_meets F.slot_list_pop ⟨_, e, rfl⟩ F.entry_list_pop (F.args_list_pop_1 _) (MeetsSeq.list_pop_last l its.toArray n u hy' (by rw [List.size_toArray]; omega)) ⟨e, ?_⟩
  refine ⟨y, _, I.lset (its' := its.dropLast) hH e ?_ r.dropLast ?_, ru, q⟩
  · show its.toArray.eraseIdxIfInBounds (its.toArray.size - 1) = its.dropLast.toArray
    rw [List.size_toArray, List.eraseIdxIfInBounds_toArray, erase_last]
  · rw [List.length_dropLast]
    omega

def rPopAt : V → List V → Hp → VK → Prop := fun x vs H Q => ∃ l xs i k y, x = .ref l ∧ vs = [.int i] ∧ H l = some (.lst xs) ∧ -(2 ^ 63) ≤ i ∧ i < 2 ^ 63 ∧ seqIndex? i xs.length = some k ∧ xs[k]? = some y ∧ Q y (upd H l (.lst (xs.eraseIdx k)))
theorem mt_popAt : MtM X "list.pop" rPopAt := by
  intro pins s σ H x vs v us Q I rx rv h
  obtain ⟨l, xs, i, k, y, rfl, rfl, hH, h1, h2, hk, hy, q⟩ := h
  cases rx
  obtain ⟨u, rfl, ru⟩ := rv.one
  obtain ⟨t, rfl⟩ := ru
  obtain ⟨z, its, n, r, hl, e⟩ := I.lstM hH
  obtain ⟨w, hw, rw'⟩ := r.get hy
  refine call_meets F.slot_list_pop ⟨_, e, rfl⟩ F.entry_list_pop (F.args_list_pop_2 _ _)
    (MeetsSeq.list_pop_at l its.toArray n i t k w (fitsIndex_both h1 h2) (by rw [List.size_toArray, ← hl]; exact hk) (by rw [← Array.getElem?_toList]; exact hw) (by rw [List.size_toArray]; omega)) ⟨e, ?_⟩
  refine ⟨y, _, I.lset (its' := its.eraseIdx k) hH e ?_ (r.eraseIdx k) ?_, rw', q⟩
  · show its.toArray.eraseIdxIfInBounds k = (its.eraseIdx k).toArray
    rw [List.eraseIdxIfInBounds_toArray]
  · have := len_erase xs k
    omega

def rReverse : V → List V → Hp → VK → Prop := fun x vs H Q => ∃ l xs, x = .ref l ∧ vs = [] ∧ H l = some (.lst xs) ∧ Q .non (upd H l (.lst xs.reverse))
theorem mt_reverse : MtM X "list.reverse" rReverse := by
  intro pins s σ H x vs v us Q I rx rv h
  obtain ⟨l, xs, rfl, rfl, hH, q⟩ := h
  cases rx
  have hus := rv.zero
  subst hus
  obtain ⟨z, its, n, r, hl, e⟩ := I.lstM hH
  refine call_meets F.slot_list_reverse ⟨_, e, rfl⟩ F.entry_list_reverse (F.args_list_reverse_1 _) (AutoSeq1.list_reverse_list_0 l its.toArray n (by rw [List.size_toArray]; omega)) ⟨e, ?_⟩
  refine ⟨.non, _, I.lset (its' := its.reverse) hH e (by simp) r.reverse ?_, rfl, q⟩
  rw [List.length_reverse]
  omega

def rClear : V → List V → Hp → VK → Prop := fun x vs H Q => ∃ l xs, x = .ref l ∧ vs = [] ∧ H l = some (.lst xs) ∧ Q .non (upd H l (.lst []))
theorem mt_clear : MtM X "list.clear" rClear := by
  intro pins s σ H x vs v us Q I rx rv h
  obtain ⟨l, xs, rfl, rfl, hH, q⟩ := h
  cases rx
  have hus := rv.zero
  subst hus
  obtain ⟨z, its, n, r, hl, e⟩ := I.lstM hH
  refine call_meets F.slot_list_clear ⟨_, e, rfl⟩ F.entry_list_clear (F.args_list_clear_1 _) (AutoSeq1.list_clear_list_0 l its.toArray n (by rw [List.size_toArray]; omega)) ⟨e, ?_⟩
  exact ⟨.non, _, I.lset (its' := []) (ys := []) hH e rfl .nil (Nat.zero_le _), rfl, q⟩

/-! ### list + list, list += list, list * int -/
def rCat : R2 := fun x y H Q => ∃ l b xs zs, x = .ref l ∧ y = .ref b ∧ H l = some (.lst xs) ∧ H b = some (.lst zs) ∧ xs.length + zs.length ≤ sizeLine ∧ ∀ p, H p = none → Q (.ref p) (upd H p (.lst (xs ++ zs)))
theorem op_cat : OpR X (binaryOp .Add) rCat := by
  intro pins s σ H x y v u Q I rx ry h
  obtain ⟨l, b, xs, zs, rfl, rfl, hH, hB, hz, q⟩ := h
  cases rx
  cases ry
  obtain ⟨z, its, n, r, hl, e⟩ := I.lstM hH
  obtain ⟨z2, its2, n2, r2, hl2, e2⟩ := I.lstM hB
  refine PySem.P.add_list e e2 ?_ (by rw [List.size_toArray, List.size_toArray]; omega)
  have ea : its.toArray ++ its2.toArray = (its ++ its2).toArray := by simp
  rw [ea]
  exact ⟨.ref _, _, I.lnew (t' := s.toks) (r.append r2) (by rw [List.length_append]; omega), rfl, q _ I.fresh⟩
/-- a list times an int (a negative one is nothing) -/
def rRep : R2 := fun x y H Q => ∃ l k xs, x = .ref l ∧ y = .int k ∧ H l = some (.lst xs) ∧ -(2 ^ 63) ≤ k ∧ k < 2 ^ 63 ∧ xs.length * k.toNat ≤ sizeLine ∧
  ∀ p, H p = none → Q (.ref p) (upd H p (.lst (List.replicate k.toNat xs).flatten))
theorem len_rep {α : Type} (xs : List α) (k : Nat) : (List.replicate k xs).flatten.length = k * xs.length := by
  induction k with
  | zero => simp
  | succ k ih => rw [List.replicate_succ, List.flatten_cons, List.length_append, ih, Nat.succ_mul, Nat.add_comm]
theorem op_rep : OpR X (binaryOp .Mult) rRep := by
  intro pins s σ H x y v u Q I rx ry h
  obtain ⟨l, k, xs, rfl, rfl, hH, h1, h2, hz, q⟩ := h
  cases rx
  obtain ⟨t, rfl⟩ := ry
  obtain ⟨z, its, n, r, hl, e⟩ := I.lstM hH
  have hlen : its.toArray.size * k.toNat ≤ sizeLine := by rw [List.size_toArray, ← hl]; exact hz
  have hcap : ¬ its.toArray.size * k.toNat > (2 ^ 63 - 1) / 8 := by
    have : (sizeLine : Nat) ≤ (2 ^ 63 - 1) / 8 := by decide
    omega
  have hfit : ¬ (!Builtin.List.listFitsIndex k) = true := by
    rw [fitsIndex_both h1 h2]
    exact Bool.false_ne_true
  have hlong : ¬ Builtin.List.listTooLong (its.toArray.size * k.toNat) = true := by
    rw [notLongL hlen]
    exact Bool.false_ne_true
  have hnew : List.foldl (fun x1 x2 => x1 ++ x2) #[] (List.replicate (if its.toArray.isEmpty = true then 0 else k.toNat) its.toArray) = (List.replicate k.toNat its).flatten.toArray := by
    have f0 : ∀ m : Nat, List.foldl (fun x1 x2 => x1 ++ x2) #[] (List.replicate m its.toArray) = (List.replicate m its).flatten.toArray := fun m => by
      have := foldl_rep its m []
      rw [List.nil_append] at this
      exact this
    rw [f0]
    cases its with
    | nil => simp
    | cons a r' => rw [if_neg (by simp)]
  refine wpAny_binaryOp_repeat_ref (T := "list") (U := "int") (by decide) ⟨_, e, rfl⟩ (fun s' => typeIs_int s' k t) noFill_list_mul F.fills_int_mul F.slot_int_rmul repeat_list F.slot_int_index.lookup
    (call_meets F.slot_int_rmul (typeIs_int s k t) F.entry_int_rmul (F.args_int_rmul_2 _ _) (int___rmul___int_list k t l its.toArray n)
      ⟨e, rfl, ⟨_, e, rfl⟩, call_meets F.slot_list_mul ⟨_, e, rfl⟩ F.entry_list_mul (F.args_list_mul_2 _ _) (AutoListH.list___mul___list_int_3 l its.toArray n k t hfit hcap hlong) ⟨e, ?_⟩⟩)
  rw [hnew]
  exact ⟨.ref _, _, I.lnew (t' := s.toks) (r.rep k.toNat) (by rw [len_rep, Nat.mul_comm]; exact hz), rfl, q _ I.fresh⟩

/-! ### del xs[i] -/
theorem del_list {pins : List (Addr × Obj)} {s : Shared} {σ : St} {H : Hp} {l : Addr} {xs : List V} {i : Int} {t : Tok} {k : Nat} {Q : Unit → Shared → Prop} (I : Inv X pins σ H s) (hH : H l = some (.lst xs))
    (h1 : -(2 ^ 63) ≤ i) (h2 : i < 2 ^ 63) (hk : seqIndex? i xs.length = some k) (h : ∀ s', Inv X pins σ (upd H l (.lst (xs.eraseIdx k))) s' → Q () s') :
    wpAny (model X.prog X.w) X.A (delItem (.ref l) (.int i t)) Q X.xe s := by
  obtain ⟨z, its, n, r, hl, e⟩ := I.lstM hH
  refine PySem.P.delItem_list (k := k) e (fitsIndex_both h1 h2) (by rw [List.size_toArray, ← hl]; exact hk) (h _ ?_) (by rw [List.size_toArray]; omega)
  refine I.lset (its' := its.eraseIdx k) (t' := s.toks) hH e ?_ (r.eraseIdx k) ?_
  · show its.toArray.eraseIdxIfInBounds k = (its.eraseIdx k).toArray
    rw [List.eraseIdxIfInBounds_toArray]
  · have := len_erase xs k
    omega
end

/-! ### xs[a:b] = ys -/
section
variable {prog : Program} {w : World} {A : Around} {E : Value → Shared → Prop} {s : Shared}
theorem splice_eq (its its2 : List Value) (a c : Nat) : its.toArray.extract 0 a ++ its2.toArray ++ its.toArray.extract c its.toArray.size = (its.take a ++ its2 ++ its.drop c).toArray := by
  apply Array.toList_inj.mp
  first
    | (simp
       exact List.take_of_length_le (by simp))
    | simp [List.take_of_length_le]
    | simp
theorem bounds_run {a c n : Nat} (hac : a ≤ c) (hc : c ≤ n) : sliceBounds (some (a : Int)) (some (c : Int)) none n = ((a : Int), (c : Int), 1) := by
  simp only [sliceBounds, Option.getD_none]
  have h1 : ¬ ((a : Int) < 0) := by omega
  have h2 : ¬ ((c : Int) < 0) := by omega
  simp only [h1, h2, if_false, show (1 : Int) > 0 by decide, if_true]
  congr 1
  · omega
  · congr 1; omega
set_option maxRecDepth 100000 in
/-- list.__setitem__ with a slice of step one and another list -/
theorem setItem_slice {l b sl : Addr} {items new : Array Value} {n n2 : Nat} {vl vu : Value} {a c : Nat} {Q : Unit → Shared → Prop}
    (e : s.heap.get? l = some { cls := .type "list", data := .seq items n }) (e2 : s.heap.get? b = some { cls := .type "list", data := .seq new n2 }) (hne : l ≠ b)
    (hs : s.heap.IsSliceOf sl vl vu .none) (pl : IsPart vl (some (a : Int))) (pu : IsPart vu (some (c : Int))) (hac : a ≤ c) (hc : c ≤ items.size)
    (hsz : items.size + new.size ≤ sizeLine) (h : Q () { s with heap := s.heap.update l (Obj.mapSeq fun xs => xs.extract 0 a ++ new ++ xs.extract c xs.size) }) :
    wpAny (model prog w) A (setItem (.ref l) (.ref sl) (.ref b)) Q E s := by
  have hl : s.heap.IsList l items := PySem.IsL.isList e
  have hb : s.heap.IsList b new := PySem.IsL.isList e2
  obtain ⟨os, hos, hcs, hds⟩ := id hs
  have hTs : s.TypeIs (.ref sl) "slice" := ⟨os, hos, hcs⟩
  have hstep : ¬ ((rawPart none == rawInt 0) = true) := Bool.false_ne_true
  have hsame : Builtin.List.listSameRef (.ref l) (.ref b) = false := by
    unfold Builtin.List.listSameRef
    exact beq_eq_false_iff_ne.mpr hne
  have hmax : (max (a : Int) (c : Int)).toNat = c := by omega
  have hz' : ((fun xs : Array Value => xs.extract 0 a ++ new ++ xs.extract c xs.size) items).size ≤ sizeLine + 1 := by
    simp only [Array.size_append, Array.size_extract]
    omega
  unfold setItem
  try with_reducible refine wpAny_holding ?_
  first | refine wpAny_bind (wpAny_pure ?_) | skip
  refine wpAny_bind (wpAny_sequenceKey hl.typeIs (by decide) ?_)
  refine wpAny_bind (wpAny_callSpecial?_slot (name := Str.ofString "__setitem__") hl.typeIs slot_list_setitem
    (wpAny_call_entry slot_list_setitem hl.typeIs entry_list_setitem ?_ (args_list_setitem _ _ _)))
  show wpAny _ _ (Builtin.List.listSubscript? (.ref sl) >>= _) _ _ s
  refine wpAny_bind ?_
  unfold Builtin.List.listSubscript?
  refine wpAny_bind (wpAny_specialOf hTs slice_no_index ?_)
  simp only [Option.isNone_none, if_true]
  refine wpAny_pure ?_
  show wpAny _ _ (typeOf (.ref sl) >>= _) _ _ s
  refine wpAny_bind (wpAny_typeOf hTs ?_)
  first
    | rw [if_neg (by decide)]
    | refine PySem.W.KFB.if_not (by decide) ?_
  rw [listSliceParts_eq]
  refine wpAny_bind (wpAny_bind (wpAny_field hos hds (x := .none) rfl (wpAny_bind (wpAny_listPart .none ?_))))
  rw [if_neg hstep]
  refine wpAny_bind (wpAny_field hos hds (x := vl) rfl (wpAny_bind (wpAny_listPart pl ?_)))
  refine wpAny_bind (wpAny_field hos hds (x := vu) rfl (wpAny_bind (wpAny_listPart pu (wpAny_pure ?_))))
  first
    | simp only [hsame, Bool.false_eq_true, if_false]
    | refine PySem.W.KFB.if_not hsame ?_
    | (dsimp only
       rw [if_neg (by rw [hsame]; exact Bool.false_ne_true)])
  refine wpAny_bind (m := Builtin.List.listAllItems (.ref b) "must assign iterable to extended slice") ?_
  unfold Builtin.List.listAllItems
  refine wpAny_bind (wpAny_typeOf hb.typeIs ?_)
  first
    | refine PySem.W.KFB.if_so (by decide) ?_
    | rw [if_pos (by decide)]
    | simp only [beq_self_eq_true, Bool.true_or, if_true]
  unfold Builtin.List.listItems
  refine wpAny_bind (wpAny_seqItems e2 rfl (wpAny_pure ?_))
  refine wpAny_bind (wpAny_bind (wpAny_seqItems e rfl (wpAny_pure ?_)))
  refine wpAny_bind (wpAny_of_eq ((sliceIndices_raw (some (a : Int)) (some (c : Int)) none items.size (by simp)).trans (congrArg (pure : Int × Int × Int → Sem (Int × Int × Int)) (bounds_run hac hc))) ?_)
  show wpAny _ _ (if ((1 : Int) == 1) = true then _ else _) _ _ s
  rw [if_pos (by decide)]
  refine wpAny_bind (wpAny_rule ?_)
  first
    | simp only [notLongL hsz, Bool.false_eq_true, if_false]
    | refine PySem.W.KFB.if_not (notLongL hsz) ?_
  first | refine wpAny_bind (wpAny_pure ?_) | skip
  show wpAny _ _ (updateSeq l (fun xs => xs.extract 0 ((a : Int)).toNat ++ new ++ xs.extract (max (a : Int) (c : Int)).toNat xs.size) >>= _) _ _ s
  rw [hmax, Int.toNat_natCast]
  refine wpAny_bind (wpAny_updateSeq (hz := Nat.le_trans (Nat.le_add_right _ _) hsz) (_hz' := hz') e rfl ?_)
  refine wpAny_bind (wpAny_letGo ?_)
  first
    | exact wpAny_bind (wpAny_pure (wpAny_pure ⟨.none, rfl, wpAny_pure h⟩))
    | exact wpAny_pure ⟨.none, rfl, wpAny_pure h⟩
end

section
variable {X : Cx}
/-- xs[a:c] = ys of another list, at the value level: sl is the slice object that was just made -/
theorem set_slice {pins : List (Addr × Obj)} {s : Shared} {σ : St} {H : Hp} {l b sl : Addr} {xs ys : List V} {a c : Int} {vl vu : Value} {Q : Unit → Shared → Prop} (I : Inv X pins σ H s)
    (hH : H l = some (.lst xs)) (hB : H b = some (.lst ys)) (hne : l ≠ b) (hs : s.heap.IsSliceOf sl vl vu .none) (ra : RelV (.int a) vl) (rc : RelV (.int c) vu) (h0 : 0 ≤ a) (hac : a ≤ c) (hc : c ≤ xs.length)
    (hz : xs.length + ys.length ≤ sizeLine) (h : ∀ s', Inv X pins σ (upd H l (.lst (xs.take a.toNat ++ ys ++ xs.drop c.toNat))) s' → Q () s') :
    wpAny (model X.prog X.w) X.A (setItem (.ref l) (.ref sl) (.ref b)) Q X.xe s := by
  obtain ⟨ta, rfl⟩ := ra
  obtain ⟨tc, rfl⟩ := rc
  obtain ⟨z, its, n, r, hl, e⟩ := I.lstM hH
  obtain ⟨z2, its2, n2, r2, hl2, e2⟩ := I.lstM hB
  obtain ⟨a', rfl⟩ := Int.eq_ofNat_of_zero_le h0
  obtain ⟨c', rfl⟩ := Int.eq_ofNat_of_zero_le (Int.le_trans h0 hac)
  simp only [Int.toNat_natCast] at h
  refine setItem_slice (a := a') (c := c') e e2 hne hs (.int _ _) (.int _ _) (by omega) (by rw [List.size_toArray]; omega) (by rw [List.size_toArray, List.size_toArray]; omega) (h _ ?_)
  refine I.lset (its' := its.take a' ++ its2 ++ its.drop c') (t' := s.toks) hH e ?_ (Vals.append (Vals.append (r.take _) r2) (r.drop _)) ?_
  · exact splice_eq its its2 a' c'
  · rw [List.length_append, List.length_append, List.length_take, List.length_drop]
    omega
end
end L2

namespace Att
open PySem PySem.W PySem.Calls PyProof.Rows

/-! ### the script -/
theorem ints_of_wellAll {P : Params} {h : Heap} : ∀ (ns : List Int) (vs : List Value), WellAll P h vs (ns.map WData.int) → IntsAre vs ns := by
  intro ns
  induction ns with
  | nil =>
    intro vs w
    rw [List.map_nil] at w
    cases w
    exact .nil
  | cons n ns ih =>
    intro vs w
    rw [List.map_cons] at w
    cases w with
    | cons a b =>
      cases a
      exact .cons _ _ (ih _ b)

theorem script_of {l : OpenLaw} {n : Nat} (hn : l.most = some n) {P : Params} {h : Heap} {args : List WData} {vals : List Value}
    (hpre : l.row.toRowW.claim.pre args = true) (hwl : WellAll P h vals args) :
    ∃ a vs ns, vals = [Value.ref a] ∧ args = [WData.list (ns.map WData.int)] ∧ h.get? a = some { cls := .type "list", data := .seq vs.toArray } ∧ IntsAre vs ns ∧ ns.length ≤ n := by
  have hsh : WShape.hasAll [] args [.list .int] = true := (pre_splitW hpre).1
  have hc : l.pre.holds [] { args := args } = true := (pre_splitW hpre).2
  obtain ⟨d, r, rfl, h1, h2⟩ := hasAllW_cons hsh
  obtain rfl := hasAllW_nil h2
  obtain ⟨xs, rfl, h3⟩ := hasW_list h1
  obtain ⟨ns, rfl⟩ := items_int h3
  have hlen : ns.length ≤ n := by
    unfold OpenLaw.pre at hc
    have h4 : (WTm.not (.lt (.lit (.int (n : Int))) (.len (.arg 0)))).holds [] { args := [.list (ns.map .int)] } = true := by
      have h4 := (holds_andW hc).1
      rw [hn] at h4
      exact h4
    have h5 := condW_of h4 (w_not (w_lt w_lit (w_len_list (w_arg rfl))))
    rw [List.length_map] at h5
    refine Nat.le_of_not_lt fun q => ?_
    have q' : (n : Int) < ((ns.length : Nat) : Int) := by omega
    first
      | (rw [decide_eq_true q'] at h5; exact absurd h5 (by decide))
      | (simp at h5; omega)
  cases hwl with
  | cons w1 w2 =>
    cases w2
    cases w1 with
    | list ho hall => exact ⟨_, _, ns, rfl, rfl, ho, ints_of_wellAll ns _ hall, hlen⟩

theorem post_true (l : OpenLaw) (args : List WData) : l.row.toRowW.claim.post args (.bool true) args = true :=
  postW_of (r := l.row.toRowW) (X := (true == true))
    (show WShape.has [] (.bool true) .bool = true by first | rfl | decide | simp [WShape.has, WShape.arms, WShape.armsAll])
    (show (WTm.eq .res (.lit (.bool true))).value [] { args := args, res := some (.bool true), after := args } = some (.bool (true == true)) from w_eq_bool (w_res rfl) w_lit) rfl

/-! ### the attachment: holds_open's last premise (the goal 'hc' behind k_head) from a wpAny of the law's body -/
theorem attach {l : OpenLaw} {n : Nat} {q : Program} {loose : List Str} {XP : (Str → Option Value) → Heap → Prop} {YP : World → Heap → Prop} {d : DefRec} {x : Str}
    (hn : l.most = some n) (hdf : d.params.defaults = [])
    (hbind : ∀ pm cd doc v : Value, bindArgs (docDef d.name d.params d.body d.scope pm cd doc) ⟨[v], []⟩ = pure [(x, v)])
    (hx : d.scope.names.lookup x = some .local ∨ d.scope.names.lookup x = some .cell)
    (hk : d.scope.kind = .function) (hco : d.scope.isCoroutine = false) (hgen : d.scope.isGenerator = false)
    (body : ∀ (w : World) (s₀ s₁ s : Shared) (mg mb : Str → Option Value) (fa : Addr) (o : Obj) (pm cd doc : Value) (a : Addr) (vs : List Value) (ns : List Int),
      Ground q loose [] XP w s₀ mg mb s₁.heap → YP w s₁.heap →
      s₁.heap.get? fa = some o → o.data = .func (docDef d.name d.params d.body d.scope pm cd doc) → s₁.heap.CodeRec cd d.name → mg d.name = some (.ref fa) →
      s₁.heap.get? a = some { cls := .type "list", data := .seq vs.toArray } → IntsAre vs ns → ns.length ≤ n →
      s.gens = #[] → s.os = s₁.os →
      Fr s₁.heap s₁.heap.objs.size s.heap (bindL (envOfC d.name d.scope s₁.heap.objs.size fa cd).kindOf [(x, .ref a)] fun _ => none) →
      Cl s₁.heap.objs.size (cellsFrom (s₁.heap.objs.size + 1) d.scope.names []) s.heap (bindC (envOfC d.name d.scope s₁.heap.objs.size fa cd).kindOf [(x, .ref a)] fun _ => none) →
      wpAny (model l.prog w) (callerA.deeper (envOfC d.name d.scope s₁.heap.objs.size fa cd)) (execs d.body (envOfC d.name d.scope s₁.heap.objs.size fa cd))
        (fun f s' => f = .ret (.bool true) ∧ OldK s₁.heap s'.heap ∧ s'.os = s₁.os ∧ AllBare s'.gens) (fun _ _ => False) s) :
    WalkO q loose XP YP l.row.toRowW d [] (fun f vs => PySem.call f vs) := by
  intro w s₀ s₁ mg mb G Y fa o pm cd doc dV kV ho hd hcd hD hmg hg args vals as hpre hlay hrd hwl hlo
  obtain rfl : dV = .none := Dflts.none hD hdf
  obtain rfl : kV = .none := Dflts.noKw hD
  obtain ⟨a, vs, ns, rfl, rfl, hobj, hints, hlen⟩ := script_of hn hpre hwl
  refine enter_call ?_
  refine call_cells_ret (o := o) (by rw [depth_caller]; decide) ho (fd_plain hd) G.T.nolimit hcd (hbind pm cd doc (.ref a)) (fun y hy => ?_) (fun h₁ tk F X => ?_) hco hgen hk
  · obtain rfl : y = (x, Value.ref a) := List.mem_singleton.mp hy
    rcases hx with e | e
    · exact .inl e
    · exact .inr ⟨e, cellsFrom_some _ _ _ (.inl e)⟩
  · refine wpAny_mono (body w s₀ s₁ { s₁ with heap := h₁, toks := tk } mg mb fa o pm cd doc a vs ns G Y ho (fd_plain hd) hcd hmg hobj hints hlen hg rfl F X) (fun f s' hq => ?_) (fun _ _ hq => hq)
    obtain ⟨rfl, h2, h3, h4⟩ := hq
    exact ⟨.inl ⟨.bool true, .bool true, [], rfl, fun _ => rfl, .bool true, post_true l _, fun _ => ⟨List.Pairwise.nil, fun _ hm => (nomatch hm)⟩⟩, h2, h3, h4⟩

/-- the same from a codeAny of the CALL (for a layer whose function contracts speak of calls) -/
theorem attach_call {l : OpenLaw} {n : Nat} {q : Program} {loose : List Str} {XP : (Str → Option Value) → Heap → Prop} {YP : World → Heap → Prop} {d : DefRec}
    (hn : l.most = some n) (hdf : d.params.defaults = [])
    (call : ∀ (w : World) (s₀ s₁ : Shared) (mg mb : Str → Option Value) (fa : Addr) (o : Obj) (pm cd doc : Value) (a : Addr) (vs : List Value) (ns : List Int),
      Ground q loose [] XP w s₀ mg mb s₁.heap → YP w s₁.heap →
      s₁.heap.get? fa = some o → o.data = .func (docDef d.name d.params d.body d.scope pm cd doc) → s₁.heap.CodeRec cd d.name → mg d.name = some (.ref fa) →
      s₁.heap.get? a = some { cls := .type "list", data := .seq vs.toArray } → IntsAre vs ns → ns.length ≤ n → s₁.gens = #[] →
      codeAny (model l.prog w) callerA (.call (.ref fa) ⟨[.ref a], []⟩) (fun r s' => r = .ok (.ret (.bool true)) ∧ OldK s₁.heap s'.heap ∧ s'.os = s₁.os ∧ AllBare s'.gens) s₁) :
    WalkO q loose XP YP l.row.toRowW d [] (fun f vs => PySem.call f vs) := by
  intro w s₀ s₁ mg mb G Y fa o pm cd doc dV kV ho hd hcd hD hmg hg args vals as hpre hlay hrd hwl hlo
  obtain rfl : dV = .none := Dflts.none hD hdf
  obtain rfl : kV = .none := Dflts.noKw hD
  obtain ⟨a, vs, ns, rfl, rfl, hobj, hints, hlen⟩ := script_of hn hpre hwl
  refine enter_call (codeAny_mono (call w s₀ s₁ mg mb fa o pm cd doc a vs ns G Y ho (fd_plain hd) hcd hmg hobj hints hlen hg) fun r s' hq => ?_)
  obtain ⟨rfl, h2, h3, h4⟩ := hq
  exact ⟨.inl ⟨.bool true, .bool true, [], rfl, fun _ => rfl, .bool true, post_true l _, fun _ => ⟨List.Pairwise.nil, fun _ hm => (nomatch hm)⟩⟩, h2, h3, h4⟩

/-- the same where the top left finished generators (o_head chose holds_openN): nothing may have changed at all and no generator may be left -/
theorem attachN {l : OpenLaw} {n : Nat} {q : Program} {loose : List Str} {XP : (Str → Option Value) → Heap → Prop} {YP : World → Heap → Prop} {d : DefRec} {x : Str}
    (hn : l.most = some n) (hdf : d.params.defaults = [])
    (hbind : ∀ pm cd doc v : Value, bindArgs (docDef d.name d.params d.body d.scope pm cd doc) ⟨[v], []⟩ = pure [(x, v)])
    (hx : d.scope.names.lookup x = some .local ∨ d.scope.names.lookup x = some .cell)
    (hk : d.scope.kind = .function) (hco : d.scope.isCoroutine = false) (hgen : d.scope.isGenerator = false)
    (body : ∀ (w : World) (s₀ s₁ s : Shared) (mg mb : Str → Option Value) (fa : Addr) (o : Obj) (pm cd doc : Value) (a : Addr) (vs : List Value) (ns : List Int),
      Ground q loose [] XP w s₀ mg mb s₁.heap → YP w s₁.heap →
      s₁.heap.get? fa = some o → o.data = .func (docDef d.name d.params d.body d.scope pm cd doc) → s₁.heap.CodeRec cd d.name → mg d.name = some (.ref fa) →
      s₁.heap.get? a = some { cls := .type "list", data := .seq vs.toArray } → IntsAre vs ns → ns.length ≤ n →
      s.gens = #[] → s.os = s₁.os →
      Fr s₁.heap s₁.heap.objs.size s.heap (bindL (envOfC d.name d.scope s₁.heap.objs.size fa cd).kindOf [(x, .ref a)] fun _ => none) →
      Cl s₁.heap.objs.size (cellsFrom (s₁.heap.objs.size + 1) d.scope.names []) s.heap (bindC (envOfC d.name d.scope s₁.heap.objs.size fa cd).kindOf [(x, .ref a)] fun _ => none) →
      wpAny (model l.prog w) (callerA.deeper (envOfC d.name d.scope s₁.heap.objs.size fa cd)) (execs d.body (envOfC d.name d.scope s₁.heap.objs.size fa cd))
        (fun f s' => f = .ret (.bool true) ∧ (∀ b o, s₁.heap.get? b = some o → s'.heap.get? b = some o) ∧ s'.os = s₁.os ∧ s'.gens = #[]) (fun _ _ => False) s) :
    WalkN q loose XP YP l.row.toRowW d [] (fun f vs => PySem.call f vs) := by
  intro w s₀ s₁ mg mb G Y fa o pm cd doc dV kV ho hd hcd hD hmg hg args vals as hpre hlay hrd hwl hlo
  obtain rfl : dV = .none := Dflts.none hD hdf
  obtain rfl : kV = .none := Dflts.noKw hD
  obtain ⟨a, vs, ns, rfl, rfl, hobj, hints, hlen⟩ := script_of hn hpre hwl
  refine enter_callW ?_
  refine call_cells_ret (o := o) (by rw [depth_caller]; decide) ho (fd_plain hd) G.T.nolimit hcd (hbind pm cd doc (.ref a)) (fun y hy => ?_) (fun h₁ tk F X => ?_) hco hgen hk
  · obtain rfl : y = (x, Value.ref a) := List.mem_singleton.mp hy
    rcases hx with e | e
    · exact .inl e
    · exact .inr ⟨e, cellsFrom_some _ _ _ (.inl e)⟩
  · refine wpAny_mono (body w s₀ s₁ { s₁ with heap := h₁, toks := tk } mg mb fa o pm cd doc a vs ns G Y ho (fd_plain hd) hcd hmg hobj hints hlen hg rfl F X) (fun f s' hq => ?_) (fun _ _ hq => hq)
    obtain ⟨rfl, h2, h3, h4⟩ := hq
    exact ⟨.inl ⟨.bool true, .bool true, [], rfl, fun _ => rfl, .bool true, post_true l _, fun _ => ⟨List.Pairwise.nil, fun _ hm => (nomatch hm)⟩⟩, h2, h3, h4⟩

/-! ### rules over ANY heap (no ledger) from facts about the written part K: the library's own take a ledger (News) for what they write -/
section
variable {prog : Program} {w : World} {A : Around} {E : Value → Shared → Prop} {s : Shared} {K : Frag}

/-- a def of the module, or a method (qual 'C.m'), entered: the frame is the next address; cells behind it -/
theorem call_fn {R : Result → Shared → Prop} {name qual : Str} {params : Arguments} {body : List Stmt} {scope : Scope} {dV kV doc pm cdv ct oc : Value} {an od : Option Addr} {osl : Array (Option Value)} {f : Addr} {args : Args} {binds : List (Str × Value)}
    (X : K.In s.heap) (hlim : s.heap.NoLimit) (ho : K.lookup f = some ⟨oc, od, .func (fnOf name qual params body scope dV kV doc pm an cdv ct), osl⟩) (hcd : codeIn K cdv qual = true) (hroom : A.depth < recursionLimit)
    (hbind : BindsTo s (fnOf name qual params body scope dV kV doc pm an cdv ct) args binds)
    (hkind : (binds.all fun y => scope.names.lookup y.1 == some .local || scope.names.lookup y.1 == some .cell) = true)
    (h : ∀ s₁, InCallC s s.heap.objs.size (bindL (envOfC qual scope s.heap.objs.size f cdv).kindOf binds fun _ => none) (cellsFrom (s.heap.objs.size + 1) scope.names [])
        (bindC (envOfC qual scope s.heap.objs.size f cdv).kindOf binds fun _ => none) s₁ →
      wpAny (model prog w) (A.deeper (envOfC qual scope s.heap.objs.size f cdv)) (execs body (envOfC qual scope s.heap.objs.size f cdv))
        (fun fl s' => R (.ok (.ret (match fl with | .ret v => v | _ => .none))) s')
        (fun e s' => wpAny (model prog w) (A.deeper (envOfC qual scope s.heap.objs.size f cdv)) (leaving (envOfC qual scope s.heap.objs.size f cdv) e) (fun _ s'' => R (.error e) s'') (fun e' s'' => R (.error e') s'') s') s₁)
    (hco : scope.isCoroutine = false) (hgen : scope.isGenerator = false) (hk : scope.kind = .function) : codeAny (model prog w) A (.call (.ref f) args) R s := by
  refine codeAny_call_function hroom (X _ _ ho) rfl hco hgen rfl (codeRec_of X hcd) (hbind _ _ _ _ ?_)
  refine wpAny_newFunctionEnv_cells hk (kindsX hkind _) fun env he s₁ x => ?_
  subst he
  exact ⟨hlim.keeps x.toInCall.keep, codeAny_func (h s₁ x)⟩

/-- C(..): dict at size, instance at size + 1, then __init__ -/
theorem make_obj {R : Result → Shared → Prop} {C fI : Addr} {rest : List Value} {kw : List (Str × Value)}
    (X : K.In s.heap) (hm : makesIn K C = true) (hi : findIn K (.ref C) "__init__" = some (some (.ref fI))) (hf : isFn K (.ref fI) = true)
    (h : codeAny (model prog w) (A.under (.builtin "type.__call__" ⟨.ref C :: rest, kw⟩)) (.call (.ref fI) ⟨.ref (s.heap.objs.size + 1) :: rest, kw⟩) (InitBack (s.heap.objs.size + 1) R)
      { s with heap := (s.heap.push emptyDict).push (instObj C s.heap.objs.size) }) : codeAny (model prog w) A (.call (.ref C) ⟨rest, kw⟩) R s := by
  obtain ⟨hh, g, d, t, os⟩ := s
  exact make_core (makes_of X hm) (looks_findIn X hi) (fun self => bind_fn X self (beq_iff_eq.mp hf)) (.inl rfl) h

/-- x.name where the instance's dict holds the name and the class does not -/
theorem get_field {x C : Addr} {ox : Obj} {es : List DictEntry} {n : Nat} {name : Str} {expr : Bool} {v : Value} {Q : Value → Shared → Prop}
    (X : K.In s.heap) (I : PySem.W.InstAt s.heap x ox C (some (dictOf es n))) (hg : plainGet K C name = true) (hh : hasDictIn K C = true) (ha : findIn K (.ref C) name = some none)
    (hl : getL name es = some (some v)) (hv : handedIn v = true) (h : Q v { s with toks := s.toks + 1 }) : wpAny (model prog w) A (getAttr (.ref x) name expr) Q E s :=
  get_value X I (plainGet_of hg).1 (findObj_own hh ha rfl hl) hv h

/-- x.m(..): the method found in the class -/
theorem get_method {x C f : Addr} {ox : Obj} {es : List DictEntry} {n : Nat} {name : Str} {pl : Sem Bool} {Q : Value × List Value → Shared → Prop}
    (X : K.In s.heap) (I : PySem.W.InstAt s.heap x ox C (some (dictOf es n))) (hg : plainGet K C name = true) (hf : findIn K (.ref C) name = some (some (.ref f))) (ht : isFn K (.ref f) = true)
    (hl : getL name es = some none) (h : Q (.ref f, [.ref x]) s) : wpAny (model prog w) A (getMethod (.ref x) name pl) Q E s :=
  method_fn X I (plainGet_of hg).1 (plainGet_of hg).2 hf (beq_iff_eq.mp ht) (by show (lookIn name (dictOf es n)).map _ = _; rw [lookIn_dict, hl]; rfl) h

/-! the whole heap as the ledger: makes every rule that writes through a ledger a rule over any heap -/
def noObjs (h : Heap) : Heap := { h with objs := #[] }
theorem noObjs_get (h : Heap) (b : Addr) : (noObjs h).get? b = none := by
  cases e : (noObjs h).get? b with
  | none => rfl
  | some o => exact absurd (Heap.lt_size e) (Nat.not_lt_zero _)
def ledger (h : Heap) (L d : Addr) : List (Addr × Obj) := (List.range h.objs.size).filterMap fun a => if a = L ∨ a = d then none else (h.get? a).map fun o => (a, o)
theorem mem_ledger {h : Heap} {L d a : Addr} {o : Obj} : (a, o) ∈ ledger h L d ↔ a ≠ L ∧ a ≠ d ∧ h.get? a = some o := by
  unfold ledger
  rw [List.mem_filterMap]
  constructor
  · rintro ⟨b, _, e⟩
    split at e
    · cases e
    · rename_i hb
      obtain ⟨o', ho, e'⟩ := Option.map_eq_some_iff.mp e
      cases e'
      exact ⟨fun q => hb (.inl q), fun q => hb (.inr q), ho⟩
  · rintro ⟨n1, n2, ho⟩
    refine ⟨a, List.mem_range.mpr (Heap.lt_size ho), ?_⟩
    rw [if_neg (show ¬ (a = L ∨ a = d) from fun q => q.elim n1 n2), ho] <;> rfl
theorem news_ledger {h : Heap} {L d : Addr} {od : Obj} (hne : d ≠ L) (ho : h.get? d = some od) : News (noObjs h) L h ([] ++ (d, od) :: ledger h L d) := by
  rintro ⟨a, o⟩ hp
  rcases List.mem_cons.mp hp with e | hp
  · cases e
    exact ⟨ho, hne, noObjs_get _ _⟩
  · obtain ⟨n1, n2, e⟩ := mem_ledger.mp hp
    exact ⟨e, n1, noObjs_get _ _⟩
theorem fr_all {h : Heap} {L : Addr} {m : Str → Option Value} (n : h.Ns L m) : Fr (noObjs h) L h m :=
  ⟨n, fun b o e => (by rw [noObjs_get] at e; cases e), Nat.zero_le _⟩
/-- Upd of the head entry (for append_K, setItem_K ..) -/
theorem upd_ledger {h : Heap} {L d : Addr} {o o' : Obj} : Upd d o o' ((d, o) :: ledger h L d) ((d, o') :: ledger h L d) :=
  .head fun ⟨_, _⟩ hp => (mem_ledger.mp hp).2.1

/-- x.name = v over any heap: L is any namespace of the heap (the frame's, say): its map stays, its object is not told; all else but the dict stays -/
theorem set_field {x C dx L : Addr} {ox : Obj} {m : Str → Option Value} {es es' : List DictEntry} {n n' : Nat} {name : Str} {v : Value} {Q : Unit → Shared → Prop}
    (X : K.In s.heap) (I : PySem.W.InstAt s.heap x ox C (some (dictOf es n))) (hd : ox.dict = some dx) (hL : s.heap.Ns L m) (hne : dx ≠ L)
    (hs : findIn K (.ref C) "__setattr__" = some (some (.builtin "object.__setattr__"))) (hp : plainOver K C = true) (ht : takerIn K C name = some none) (hh : hasDictIn K C = true) (hl : (getL name es).isSome = true)
    (e : (putL name (PyData.keyHash w.params name) (.str name (s.toks + 1)) v es, putN name es n) = (es', n')) (hz : es'.length ≤ 1000)
    (h : ∀ h' : Heap, h'.Ns L m → h'.get? dx = some (dictOf es' n') → (∀ b o, b ≠ dx → b ≠ L → s.heap.get? b = some o → h'.get? b = some o) → Q () { s with heap := h', toks := s.toks + 2 }) :
    wpAny (model prog w) A (setAttr (.ref x) name v) Q E s := by
  obtain ⟨e1, e2⟩ := Prod.mk.inj e
  have hdx : s.heap.get? dx = some (dictOf es n) := by
    have := I.dict
    rw [hd] at this
    exact this
  refine set_plain X I hs (osa_dict (s := { s with toks := s.toks + 1 }) (h₀ := noObjs s.heap) (L := L) (m := m) (od := dictOf es n) (od' := dictOf es' n') (es := es') (n := n') (pre := []) (post := ledger s.heap L dx)
    (fr_all hL) (news_ledger hne hdx) X I hd hp ht hh hl (fun _ q => nomatch q) (fun ⟨_, _⟩ q => (mem_ledger.mp q).2.1) (by rw [putName_dict, e1, e2]) rfl hz fun h' F' N' => ?_)
  exact h h' F'.ns (N'.get (List.Mem.head _)) fun b o n1 n2 ho => N'.get (List.Mem.tail _ (mem_ledger.mpr ⟨n2, n1, ho⟩))
end
end Att

namespace L2
open PySem PySem.Spec PyProof.Rows

theorem vals_ints : ∀ {vs : List Value} {ns : List Int}, IntsAre vs ns → Vals (ns.map V.int) vs
  | _, _, .nil => .nil
  | _, _, .cons n t h => .cons ⟨t, rfl⟩ (vals_ints h)

/-- nothing is tracked but the script, known to the object (or it is an object of the module) -/
def Only (H : Hp) : Prop := ∀ b, H b = none ∨ ∃ o xs, H b = some (.frz o (.lst xs))

/-- THE HEAD: the law's promise, at the heap behind the top. F, the promise of the law's def, may use that base is part of the heap (so K.In base, base.Ns mainGlobals mg stand in Mod) -/
theorem law_call {P : Program} {w : World} {K : PySem.W.Frag} {mg mb : Str → Option Value} {CX : CXT} {k : Nat} {fa a : Addr} {fd : FuncData} {x : Str} {sp : Sp} {s₁ : Shared} {vs : List Value} {ns : List Int}
    (KX : K.In s₁.heap) (hns : s₁.heap.Ns mainGlobals mg) (hb : s₁.heap.Ns builtinsNs mb) (hbb : ∀ x : Str, x ≠ "__name__" → mb x = bootBuiltins x) (hlim : s₁.heap.NoLimit) (hg : s₁.gens = #[])
    (ha : s₁.heap.get? a = some { cls := .type "list", data := .seq vs.toArray }) (hi : IntsAre vs ns) (hl : ns.length ≤ sizeLine) (hr : Room k callerA)
    (F : ∀ base : Heap, K.In base → base.Ns mainGlobals mg → FnOk P w K mg base CX k fa fd [x] sp) (hbind : ∀ (s : Shared) (u : Value), BindsTo s fd ⟨[u], []⟩ [(x, u)])
    (hsp : ∀ H : Hp, Only H → SqL K H a (ns.map V.int) → sp [.ref a] H (fun v _ => v = .bl true) fun _ _ _ => False)
    (hCX : ∀ H e s', CX [] H s₁ (fun _ _ _ => False) e s' → False) :
    codeAny (model P w) callerA (.call (.ref fa) ⟨[.ref a], []⟩) (fun r s' => r = .ok (.ret (.bool true)) ∧ OldK s₁.heap s'.heap ∧ s'.os = s₁.os ∧ AllBare s'.gens) s₁ := by
  have rv := vals_ints hi
  have lenV := hi.length
  -- from an abstract heap in which nothing but the script may be tracked
  have core : ∀ H : Hp, Only H → SqL K H a (ns.map V.int) → HOk P w H s₁.heap → (∀ b, H b ≠ none → b = a) → (H a ≠ none → K.lookup a = none) →
      codeAny (model P w) callerA (.call (.ref fa) ⟨[.ref a], []⟩) (fun r s' => r = .ok (.ret (.bool true)) ∧ OldK s₁.heap s'.heap ∧ s'.os = s₁.os ∧ AllBare s'.gens) s₁ := by
    intro H hO hS hok hA hK
    have base_of : ∀ {b : Addr} {o : Obj}, s₁.heap.get? b = some o → H b = none → (hidT s₁.heap H).get? b = some o := fun e n => hidT_get e n
    have noA : ∀ {b : Addr} {o : Obj} {es : Array DictEntry} {ep : Nat}, s₁.heap.get? b = some o → o.data = .dict es ep → H b = none := fun {b o es ep} e d => by
      cases q : H b with
      | none => rfl
      | some u =>
        have e' : b = a := hA b (by rw [q]; simp)
        subst e'
        rw [ha] at e; cases e
        have d' : Data.seq vs.toArray _ = Data.dict es ep := d
        cases d'
    have nsK : ∀ {b : Addr} {m : Str → Option Value}, s₁.heap.Ns b m → (hidT s₁.heap H).Ns b m := fun {b m} ⟨o, es, ep, e, d, r⟩ => ⟨o, es, ep, base_of e (noA e d), d, r⟩
    have hKb : K.In (hidT s₁.heap H) := fun b o e => base_of (KX b o e) (by
      cases q : H b with
      | none => rfl
      | some u =>
        have e' : b = a := hA b (by rw [q]; simp)
        subst e'
        rw [hK (by rw [q]; simp)] at e; cases e)
    have hM : Mod K mg (hidT s₁.heap H) := ⟨hKb, nsK hns, ⟨mb, nsK hb, hbb⟩, let ⟨mc, h1, h2⟩ := hlim; ⟨mc, nsK h1, h2⟩⟩
    have e0 : Env0 P w K mg (hidT s₁.heap H) callerA [] s₁ H := ⟨rfl, hM, fun b o e => of_hidT e, Nat.le_of_eq (hidT_size _ _), trivial, fun b hb => absurd (show b ∈ ([] : List Addr) from hb) (by simp), hok, .of_eq hg⟩
    refine codeAny_mono ((F _ hKb (nsK hns)).run callerA [] s₁ H ⟨[.ref a], []⟩ [.ref a] [.ref a] _ _ hr e0 (hbind s₁ (.ref a)) (.cons rfl .nil) (hsp H hO hS)) fun r s' h => ?_
    cases r with
    | error e => exact (hCX H e s' h).elim
    | ok fl =>
      cases fl with
      | next => exact False.elim h
      | brk => exact False.elim h
      | cont => exact False.elim h
      | ret u =>
        obtain ⟨v, H', os, bare, un, hok', r', q⟩ := h
        have q' : v = .bl true := q
        subst q'
        obtain rfl : u = Value.bool true := r'
        refine ⟨rfl, OldK.of_keep fun b o e => ?_, os, bare⟩
        cases q : H b with
        | none => exact un.keep b o e q (by intro z; exact absurd (show b ∈ ([] : List Addr) from z) (by simp)) (by simp)
        | some u =>
          rcases hO b with z | ⟨ob, xs, z⟩
          · rw [q] at z; cases z
          · have z2 := un.frzs b ob _ z
            obtain ⟨e1, _⟩ := hok b _ z
            obtain ⟨e2, _⟩ := hok' b _ z2
            rw [e] at e1; cases e1
            exact e2
  cases hk : K.lookup a with
  | some o =>
    -- the script is one of the module's own objects
    have e := KX a o hk
    rw [ha] at e
    cases e
    refine core (fun _ => none) (fun _ => .inl rfl) (.inr ⟨_, vs.toArray, _, hk, rfl, rfl, rfl, by rw [List.size_toArray, lenV]; exact hl, by simpa using rv⟩) (fun b u z => by have z' : (none : Option HO) = some u := z; cases z') (fun b z => absurd rfl z) fun z => absurd rfl z
  | none =>
    refine core (fun b => if b = a then some (.frz { cls := .type "list", data := .seq vs.toArray } (.lst (ns.map V.int))) else none) (fun b => ?_) (.inl (.inr ⟨{ cls := .type "list", data := .seq vs.toArray }, if_pos rfl⟩)) (fun b u z => ?_) (fun b z => ?_) fun _ => hk
    · by_cases hb : b = a
      · exact .inr ⟨_, _, if_pos hb⟩
      · exact .inl (if_neg hb)
    · by_cases hb : b = a
      · have z' := (if_pos hb).symm.trans z
        cases z'
        subst hb
        exact ⟨ha, by rw [List.length_map]; exact hl, vs, _, rv, ha⟩
      · have z' := (if_neg hb).symm.trans z
        cases z'
    · by_cases hb : b = a
      · exact hb
      · exact absurd (if_neg hb) z
end L2

namespace L2
open PySem PySem.Spec PyProof.Rows

abbrev KOf {K : PySem.W.Frag} {h : Heap} (_ : K.In h) : PySem.W.Frag := K

/-- the goal that k_head leaves (case hc), from the law's promise. F gives the function object fd (K's own) once, then the promise over every base -/
theorem walk_of {l : PySem.W.OpenLaw} {n k : Nat} {q : Program} {loose : List Str} {XP : (Str → Option Value) → Heap → Prop} {YP : World → Heap → Prop} {d : DefRec} {K : Params → PySem.W.Frag} {CX : World → CXT} {sp : World → Sp} {x : Str}
    (hn : l.most = some n) (hn2 : n ≤ sizeLine) (hdf : d.params.defaults = []) (hr : Room k callerA)
    (hY : ∀ (w : World) (h : Heap), YP w h → (K w.params).In h)
    (F : ∀ (w : World) (mg : Str → Option Value) (fa : Addr) (h : Heap), (K w.params).In h → h.Ns mainGlobals mg → mg d.name = some (.ref fa) →
      ∃ fd : FuncData, (∀ (s : Shared) (u : Value), BindsTo s fd ⟨[u], []⟩ [(x, u)]) ∧
        ∀ base : Heap, (K w.params).In base → base.Ns mainGlobals mg → FnOk l.prog w (K w.params) mg base (CX w) k fa fd [x] (sp w))
    (hsp : ∀ (w : World) (H : Hp) (a : Addr) (ns : List Int), ns.length ≤ n → Only H → SqL (K w.params) H a (ns.map V.int) → sp w [.ref a] H (fun v _ => v = .bl true) fun _ _ _ => False)
    (hCX : ∀ (w : World) (H : Hp) (s : Shared) (e : Value) (s' : Shared), CX w [] H s (fun _ _ _ => False) e s' → False) :
    PySem.W.WalkO q loose XP YP l.row.toRowW d [] (fun f vs => PySem.call f vs) := by
  refine Att.attach_call hn hdf fun w s₀ s₁ mg mb fa o pm cd doc a vs ns G Y ho hd hcd hmg hobj hints hlen hg => ?_
  have KX := hY w _ Y
  obtain ⟨fd, hb, hF⟩ := F w mg fa _ KX G.T.g hmg
  exact law_call KX G.T.g G.T.b G.T.builtins G.T.nolimit hg hobj hints (Nat.le_trans hlen hn2) hr hF hb (fun H hO hS => hsp w H a ns hlen hO hS) fun H e s' => hCX w H s₁ e s'
/-- the same where the promise hangs on the written part alone: (sp := My.sp_law), no hole under a binder -/
theorem walk_ofK {l : PySem.W.OpenLaw} {n k : Nat} {q : Program} {loose : List Str} {XP : (Str → Option Value) → Heap → Prop} {YP : World → Heap → Prop} {d : DefRec} {K : Params → PySem.W.Frag} {CX : CXT} {sp : PySem.W.Frag → Sp} {x : Str}
    (hn : l.most = some n) (hn2 : n ≤ sizeLine) (hdf : d.params.defaults = []) (hr : Room k callerA)
    (hY : ∀ (w : World) (h : Heap), YP w h → (K w.params).In h)
    (F : ∀ (w : World) (mg : Str → Option Value) (fa : Addr) (h : Heap), (K w.params).In h → h.Ns mainGlobals mg → mg d.name = some (.ref fa) →
      ∃ fd : FuncData, (∀ (s : Shared) (u : Value), BindsTo s fd ⟨[u], []⟩ [(x, u)]) ∧
        ∀ base : Heap, (K w.params).In base → base.Ns mainGlobals mg → FnOk l.prog w (K w.params) mg base CX k fa fd [x] (sp (K w.params)))
    (hsp : ∀ (K : PySem.W.Frag) (H : Hp) (a : Addr) (ns : List Int), ns.length ≤ n → Only H → SqL K H a (ns.map V.int) → sp K [.ref a] H (fun v _ => v = .bl true) fun _ _ _ => False)
    (hCX : ∀ (H : Hp) (s : Shared) (e : Value) (s' : Shared), CX [] H s (fun _ _ _ => False) e s' → False) :
    PySem.W.WalkO q loose XP YP l.row.toRowW d [] (fun f vs => PySem.call f vs) :=
  walk_of (K := K) (CX := fun _ => CX) (sp := fun w => sp (K w.params)) hn hn2 hdf hr hY F (fun w H a ns h1 h2 h3 => hsp (K w.params) H a ns h1 h2 h3) fun _ H s e s' => hCX H s e s'
end L2

/- THE LAST THEOREM (shape; LID, My.* are yours):
   My.Adr: a structure of the addresses that your layer names (classes, functions); My.Txt K t: a structure (Prop) of the equations over K;
   My.txt_mk : {K} {implicit addresses ..} (e1 : nsIn K mainGlobals "law" = some (some (.ref f))) (e2 : K.lookup f = some ⟨oc, od, .func (fnOf "law" "law" params body scope dV kV doc pm an cdv ct), sl⟩) (e3 : codeIn K cdv "law" = true) .. : ∃ t, My.Txt K t

set_option maxRecDepth 100000 in
set_option maxHeartbeats 0 in
theorem PySem.Challenge.cw_LID_holds : PySem.Challenge.rw_LID.Holds := by
  w_on; o_law; k_head; (case hw => w_witness2)
  k_fill
  refine L2.walk_of (l := PySem.Challenge.rw_LID) (n := 63) (k := 40) (x := "script") (CX := fun w => ..) (sp := fun _ => My.sp_law) rfl (by decide) rfl ⟨rfl, by decide, by decide⟩ (fun w h Y => PySem.W.kIn_of Y) ?F ?S ?C
  case F =>
    intro w mg fa h KX G hmg
    have T : ∃ t, My.Txt (L2.KOf KX) t := by
      dsimp only [L2.KOf]                          -- K must stand as «<heap const> w.params» for k_is
      refine' My.txt_mk ?e1 ?e2 ?e3 ..
      (case e1 => PySem.W.k_is)                    -- in the order: a name -> its address -> its object -> its parts
      (case e2 => PySem.W.k_is)
      ..
    obtain ⟨t, T⟩ := T
    have e0 := hmg.symm.trans (PySem.W.mg_of KX G T.law)
    cases e0                                       -- fa is the law's own address
    exact ⟨_, fun s u => .of_eq rfl, fun base kb nb => My.law_fn T kb nb⟩     -- if «.of_eq rfl» comes too early: refine' ⟨_, ?b, fun base kb nb => My.law_fn T kb nb⟩; exact fun s u => .of_eq rfl
  case S => exact fun w H a ns hl hO hS => ..
  case C => exact ..
(the tactic k_is has no namespace: write k_is) -/

/-! SHORT WORDS over the layer: a def of the text, its body, what a loop and a test want. -/
namespace L2
open PySem PySem.Spec PyProof.Rows

/-! ### the text by places -/
/-- the j-th statement of a class's body -/
def inClass (s : Stmt) (j : Nat) : Stmt := match s with
  | .ClassDef _ _ _ body _ _ _ _ _ _ _ => body.getD j (.Pass ⟨0, 0, 0, 0⟩)
  | _ => .Pass ⟨0, 0, 0, 0⟩
def defArgs (s : Stmt) : Arguments := match s with
  | .FunctionDef _ a _ _ _ _ _ _ _ _ => a
  | _ => { posonlyargs := [], args := [], vararg := none, kwonlyargs := [], kw_defaults := [], kwarg := none, defaults := [] }
def defBody (s : Stmt) : List Stmt := match s with
  | .FunctionDef _ _ b _ _ _ _ _ _ _ => b
  | _ => []
def defScope (s : Stmt) : Scope := match s with
  | .FunctionDef _ _ _ _ _ _ sc _ _ _ => sc
  | _ => { kind := .function, names := [], isGenerator := false, isCoroutine := false }

/-! ### no exception leaves a def -/
abbrev CX0 : CXT := fun _ _ _ _ _ _ => False
abbrev E0 : XK := fun _ _ _ => False
theorem pass0 {X : Cx} : Passes CX0 X E0 := fun _ _ _ _ _ _ _ h => h.elim

/-! ### a def (or method) of the text as it stands behind the top -/
structure Fun (K : PySem.W.Frag) (x qual : Str) (st : Stmt) (f : Addr) (fd : FuncData) : Prop where
  ex : ∃ (oc : Value) (od : Option Addr) (kV doc pm : Value) (an : Option Addr) (cdv ct : Value) (osl : Array (Option Value)),
    fd = PySem.W.fnOf x qual (defArgs st) (defBody st) (defScope st) .none kV doc pm an cdv ct ∧ K.lookup f = some ⟨oc, od, .func fd, osl⟩ ∧ PySem.W.codeIn K cdv qual = true
  kp : PySem.W.keepIn K (.ref f) = true
section
variable {P : Program} {w : World} {K : PySem.W.Frag} {mg : Str → Option Value} {base : Heap}
/-- THE RULE for a def: its body as a term of rules, and the reading of that term -/
theorem Fun.ok {x qual : Str} {st : Stmt} {f : Addr} {fd : FuncData} {N ps : List Str} {k : Nat} {sp : Sp} (F : Fun K x qual st f fd) (S : FnScope N ps (defScope st)) (len : ∀ vs H Q E, sp vs H Q E → vs.length = ps.length)
    (hbody : ∀ (cdv : Value) (A : Around) (outer : List Env) (s : Shared) (H : Hp) (vs : List V) (Q : VK) (E : XK), Room k (A.deeper (envOfC qual (defScope st) s.heap.objs.size f cdv)) → sp vs H Q E →
      ∃ t, PSs (cxOf CX0 P w K mg base N qual (defScope st) f cdv A outer s H E).nox (defBody st) t ∧ t { nx := fun _ H' => Q .non H', rt := Q } (start N vs) H) : FnOk P w K mg base CX0 (k + 1) f fd ps sp := by
  obtain ⟨oc, od, kV, doc, pm, an, cdv, ct, osl, rfl, lk, hcd⟩ := F.ex
  refine fn_of lk hcd S len fun A outer s H vs Q E hr hsp => ?_
  obtain ⟨t, h, q⟩ := hbody cdv A outer s H vs Q E hr hsp
  exact ⟨t, h.nox, q⟩
/-- how its arguments bind (no defaults): h is «fun _ _ _ _ _ _ us hl => match us, hl with | [_, _], _ => rfl», one _ a parameter -/
theorem Fun.binds {x qual : Str} {st : Stmt} {f : Addr} {fd : FuncData} {ps : List Str} (F : Fun K x qual st f fd)
    (h : ∀ (kV doc pm : Value) (an : Option Addr) (cdv ct : Value) (us : List Value), us.length = ps.length → bindArgs (PySem.W.fnOf x qual (defArgs st) (defBody st) (defScope st) .none kV doc pm an cdv ct) ⟨us, []⟩ = pure (ps.zip us)) : Binds K fd ps [] := by
  obtain ⟨oc, od, kV, doc, pm, an, cdv, ct, osl, rfl, lk, hcd⟩ := F.ex
  exact .all (h kV doc pm an cdv ct)
theorem fun_mk {x qual : Str} {st : Stmt} {f : Addr} {oc : Value} {od an : Option Addr} {osl : Array (Option Value)} {kV doc pm cdv ct : Value} (l : K.lookup f = some ⟨oc, od, .func (PySem.W.fnOf x qual (defArgs st) (defBody st) (defScope st) .none kV doc pm an cdv ct), osl⟩)
    (c : PySem.W.codeIn K cdv qual = true) (k : PySem.W.keepIn K (.ref f) = true) : Fun K x qual st f (PySem.W.fnOf x qual (defArgs st) (defBody st) (defScope st) .none kV doc pm an cdv ct) := ⟨⟨oc, od, kV, doc, pm, an, cdv, ct, osl, rfl, l, c⟩, k⟩
end
theorem hu_of {A : Around} {k : Nat} (hr : Room k A) : A.units + 1 < cLine := Nat.lt_of_le_of_lt (Nat.add_le_add_left (by decide : 1 ≤ 64) _) hr.units
theorem small1000 {n : Nat} (h : n ≤ 1000) : n < sizeLine := Nat.lt_of_le_of_lt h (by decide)

/-! ### expressions in short: the name that stands in the i-th slot -/
section
variable {X : Cx}
theorem pv (i : Nat) {x : Str} {pos : Pos} (hN : X.N[i]? = some x := by rfl) (hv : Vis X.env.scope x := by first | exact Or.inl rfl | exact Or.inr (Or.inl rfl) | exact Or.inr (Or.inr rfl)) (hd : (x == ("__debug__" : Str)) = false := by decide)
    (hcd : (x == ("__classdict__" : Str)) = false := by decide) : PE X (.Name x pos) (tVar i) := pe_var hN hv hd hcd
end

/-! ### tests -/
theorem iteF {A B : Prop} (h : B) : if false = true then A else B := by
  rw [if_neg Bool.false_ne_true]
  exact h
theorem iteT {A B : Prop} (h : A) : if true = true then A else B := by
  rw [if_pos rfl]
  exact h
theorem ite2 {c A B : Prop} [Decidable c] (h1 : c → A) (h2 : ¬ c → B) : if c then A else B := by
  by_cases h : c
  · rw [if_pos h]
    exact h1 h
  · rw [if_neg h]
    exact h2 h
theorem iteNS {c A B : Prop} [Decidable c] (hc : c) (h : B) : if (!decide c) = true then A else B := by
  rw [decide_eq_true hc]
  exact iteF h

/-! ### heaps -/
/-- all that was tracked is as it was -/
def Same (H H' : Hp) : Prop := ∀ b o, H b = some o → H' b = some o
theorem Same.refl (H : Hp) : Same H H := fun _ _ h => h
theorem Same.trans {H H1 H2 : Hp} (a : Same H H1) (b : Same H1 H2) : Same H H2 := fun c o h => b c o (a c o h)
theorem Same.free {H H' : Hp} (e : Same H H') {l : Addr} (h : H' l = Option.none) : H l = Option.none := by
  cases q : H l with
  | none => rfl
  | some o =>
    rw [e l o q] at h
    cases h
theorem Same.seq {K : PySem.W.Frag} {H H' : Hp} {a : Addr} {xs : List V} (e : Same H H') (h : SqL K H a xs) : SqL K H' a xs := by
  rcases h with (h | ⟨o, h⟩) | h
  · exact .inl (.inl (e _ _ h))
  · exact .inl (.inr ⟨o, e _ _ h⟩)
  · exact .inr h

end L2

set_option maxHeartbeats 4000000
namespace L3
open PySem PySem.W PySem.Calls PyProof.Rows

/-! ### the tree of questions that a sort asks, answered by a function -/
def runT {α : Type} (lt : Nat → Nat → Bool) : KasT α → α
  | .ret a => a
  | .ask i j k => runT lt (k (lt i j))
/-- every question is about places below n; every answer at the end keeps P -/
def PostT {α : Type} (n : Nat) (P : α → Prop) : KasT α → Prop
  | .ret a => P a
  | .ask i j k => i < n ∧ j < n ∧ ∀ b, PostT n P (k b)
theorem PostT.bind {α β : Type} {n : Nat} {P : α → Prop} {P' : β → Prop} {f : α → KasT β} : ∀ {t : KasT α}, PostT n P t → (∀ a, P a → PostT n P' (f a)) → PostT n P' (t.bind f)
  | .ret a, h, hf => hf a h
  | .ask i j k, h, hf => ⟨h.1, h.2.1, fun b => PostT.bind (h.2.2 b) hf⟩
theorem PostT.run {α : Type} {n : Nat} {P : α → Prop} (lt : Nat → Nat → Bool) : ∀ {t : KasT α}, PostT n P t → P (runT lt t)
  | .ret a, h => h
  | .ask i j k, h => PostT.run (n := n) (P := P) (t := k (lt i j)) lt (h.2.2 (lt i j))
theorem PostT.wp {α : Type} {n : Nat} {P : α → Prop} {lt : Nat → Nat → Bool} {cmp : Nat → Nat → (Bool → Shared → Prop) → Shared → Prop} {s : Shared} (hc : ∀ i j (C : Bool → Shared → Prop), i < n → j < n → C (lt i j) s → cmp i j C s) {Q : α → Shared → Prop} :
    ∀ {t : KasT α}, PostT n P t → Q (runT lt t) s → t.kasWp cmp Q s
  | .ret a, _, q => q
  | .ask i j k, h, q => hc i j _ h.1 h.2.1 (PostT.wp hc (h.2.2 _) q)
def OkP (n : Nat) (p : Array Nat) : Prop := p.size = n ∧ ∀ x ∈ p, x < n
theorem OkP.get {n : Nat} {p : Array Nat} (h : OkP n p) (hn : 0 < n) (i : Nat) : p.getD i 0 < n := by
  by_cases hi : i < p.size
  · have e : p.getD i 0 = p[i] := by simp [Array.getD, hi]
    rw [e]; exact h.2 _ (Array.getElem_mem hi)
  · have e : p.getD i 0 = 0 := by simp [Array.getD, hi]
    rw [e]; exact hn
theorem OkP.perm {n : Nat} {p q : Array Nat} (h : OkP n p) (e : q.Perm p) : OkP n q := ⟨e.size_eq.trans h.1, fun x hx => h.2 x (e.mem_iff.mp hx)⟩
theorem OkP.rev {n : Nat} {p : Array Nat} (h : OkP n p) (i j : Nat) : OkP n (kas_rev p i j) := h.perm (mirror_perm _ _ _ _)
theorem OkP.bub {n : Nat} {p : Array Nat} (h : OkP n p) (i j : Nat) : OkP n (bubble p i j) := h.perm (bubble_perm _ _ _)
section
variable {n : Nat}
theorem post_asc (hn : 0 < n) {p : Array Nat} (hp : OkP n p) : ∀ (f m : Nat), PostT n (fun _ => True) (kas_asc p f m)
  | 0, m => trivial
  | f + 1, m => ⟨hp.get hn _, hp.get hn _, fun b => by
      cases b with
      | true => exact trivial
      | false => exact post_asc hn hp f (m + 1)⟩
theorem post_desc (hn : 0 < n) : ∀ (f : Nat) (p : Array Nat) (m q : Nat), OkP n p → PostT n (fun r : Array Nat × Nat × Nat => OkP n r.1) (kas_desc f p m q)
  | 0, p, m, q, hp => hp
  | f + 1, p, m, q, hp => ⟨hp.get hn _, hp.get hn _, fun b => by
      cases b with
      | true =>
        show PostT n _ (if q > 0 then _ else _)
        split
        · exact post_desc hn f _ _ _ (hp.rev _ _)
        · exact post_desc hn f _ _ _ hp
      | false =>
        refine ⟨hp.get hn _, hp.get hn _, fun b => ?_⟩
        cases b with
        | true => exact hp
        | false => exact post_desc hn f _ _ _ hp⟩
theorem post_tail3 (hn : 0 < n) {m r : Nat} {p : Array Nat} (hp : OkP n p) : PostT n (fun r : Nat × Array Nat => OkP n r.2) (kas_tail3 m r p) :=
  PostT.bind (post_asc hn (hp.rev _ _) _ _) fun _ _ => hp.rev _ _
theorem post_descPart (hn : 0 < n) {m r : Nat} {p : Array Nat} (hp : OkP n p) : PostT n (fun r : Nat × Array Nat => OkP n r.2) (kas_descPart m r p) :=
  PostT.bind (post_desc hn _ _ _ _ hp) fun a ha => by
    split
    · exact post_tail3 hn (ha.rev _ _)
    · exact post_tail3 hn ha
theorem post_count (hn : 0 < n) {r : Nat} {p : Array Nat} (hp : OkP n p) : PostT n (fun r : Nat × Array Nat => OkP n r.2) (kas_count r p) :=
  PostT.bind (post_asc hn hp _ _) fun a _ => by
    split
    · exact hp
    · split
      · refine ⟨hp.get hn _, hp.get hn _, fun b => ?_⟩
        cases b with
        | true => exact hp
        | false => exact post_descPart hn (hp.rev _ _)
      · exact post_descPart hn hp
theorem post_place (hn : 0 < n) {p : Array Nat} (hp : OkP n p) (k : Nat) : ∀ (f l r : Nat), PostT n (fun _ => True) (kas_place p k f l r)
  | 0, l, r => trivial
  | f + 1, l, r => by
    unfold kas_place
    split
    · exact trivial
    · refine ⟨hp.get hn _, hp.get hn _, fun b => ?_⟩
      cases b with
      | true => exact post_place hn hp k f _ _
      | false => exact post_place hn hp k f _ _
theorem post_bin (hn : 0 < n) : ∀ (f : Nat) (p : Array Nat) (k : Nat), OkP n p → PostT n (OkP n) (kas_bin f p k)
  | 0, p, k, hp => hp
  | f + 1, p, k, hp => PostT.bind (post_place hn hp k _ _ _) fun l _ => post_bin hn f _ _ (hp.bub _ _)
theorem post_sort (hn : 0 < n) : PostT n (OkP n) (kas_sort n) := by
  have h0 : OkP n (List.toArray (List.range n)) := ⟨by simp, fun x hx => by simpa using hx⟩
  refine PostT.bind (post_count hn h0) fun a ha => ?_
  split
  · exact post_bin hn _ _ _ ha
  · exact ha
end
/-- the places in the order of the sort -/
def srt (lt : Nat → Nat → Bool) (n : Nat) : List Nat := if n < 2 then List.range n else (runT lt (kas_sort n)).toList
theorem srt_length (lt : Nat → Nat → Bool) (n : Nat) : (srt lt n).length = n := by
  unfold srt
  split
  · simp
  · have h := PostT.run lt (post_sort (n := n) (by omega))
    simpa using h.1
theorem srt_lt (lt : Nat → Nat → Bool) (n : Nat) : ∀ i ∈ srt lt n, i < n := by
  unfold srt
  split
  · intro i hi; simpa using hi
  · have h := PostT.run lt (post_sort (n := n) (by omega))
    intro i hi
    exact h.2 i (by simpa using hi)

theorem two_short (vs : List Value) : (vs.toArray.zip vs.toArray).map (·.2) = List.toArray ((List.range vs.length).map fun i => vs.getD i Value.none) := by
  apply Array.ext
  · simp
  · intro i h1 h2
    have hi : i < vs.length := by simpa using h1
    simp [hi]
section
variable {prog : Program} {w : World} {A : Around} {E : Value → Shared → Prop} {s : Shared}
theorem list_sort_by {a : Addr} {vs : List Value} {n : Nat} {κ : SortKind} {lt : Nat → Nat → Bool} {P : PySem.Fin → Shared → Prop} (ho : s.heap.get? a = some (seqObj "list" vs.toArray n)) (h64 : vs.length < 64)
    (hk : 2 ≤ vs.length → ∀ s' : Shared, (∀ b o, b ≠ a → s.heap.get? b = some o → s'.heap.get? b = some o) →
      (∀ (Q : SortKind → Shared → Prop) (E : Value → Shared → Prop), Q κ s' → wpAny (model prog w) A (keyKind' vs.toArray) Q E s') ∧
      ∀ i j, i < vs.length → j < vs.length → ∀ (Q : Bool → Shared → Prop), Q (lt i j) s' → wpAny (model prog w) A (keyLt' κ (vs.getD i Value.none) (vs.getD j Value.none)) Q (fun _ _ => False) s')
    (h : P (.done (.ret .none)) { s with heap := sortedHeap s.heap a vs (List.toArray ((srt lt vs.length).map fun i => vs.getD i Value.none)) }) :
    wpAny (model prog w) A (Builtin.«list.sort» ⟨[.ref a], []⟩) P E s := by
  have ha : a < s.heap.objs.size := Heap.lt_size ho
  obtain ⟨e1, ho1⟩ : ∃ e1, (s.heap.update a (Obj.mapSeq fun _ => (#[] : Array Value))).get? a = some (seqObj "list" #[] e1) := ⟨_, get?_update_seq ho fun _ => #[]⟩
  have ho6 : (((s.heap.update a (Obj.mapSeq fun _ => (#[] : Array Value))).push (seqObj "tuple" vs.toArray 0)).push (seqObj "list" #[] 0)).get? a = some (seqObj "list" #[] e1) :=
    Heap.get?_push_of_some _ (Heap.get?_push_of_some _ ho1)
  have kept : ∀ b o, b ≠ a → s.heap.get? b = some o → (((s.heap.update a (Obj.mapSeq fun _ => (#[] : Array Value))).push (seqObj "tuple" vs.toArray 0)).push (seqObj "list" #[] 0)).get? b = some o := fun b o hb e =>
    Heap.get?_push_of_some _ (Heap.get?_push_of_some _ ((Heap.get?_update_other s.heap _ (Ne.symm hb)).trans e))
  have hsl : (srt lt vs.length).length = vs.length := srt_length _ _
  rw [list_sort_plain]
  refine wpAny_bind (listItems_at ho rfl ?_)
  refine wpAny_bind (listUpdate_at ho rfl ?_ (by rw [List.size_toArray, sizeLine_eq]; omega) (Nat.zero_le _))
  refine wpAny_bind (seqEpoch_at ho1 rfl ?_)
  refine wpAny_bind (wpAny_newTuple ?_ (by show vs.length ≤ _; rw [sizeLine_eq]; omega))
  refine wpAny_bind (wpAny_newList ?_ (Nat.zero_le _))
  refine wpAny_holding ?_
  show wpAny (model prog w) A _ P E { s with heap := ((s.heap.update a (Obj.mapSeq fun _ => (#[] : Array Value))).push (seqObj "tuple" vs.toArray 0)).push (seqObj "list" #[] 0) }
  dsimp only
  by_cases h2 : vs.toArray.size < 2
  · have h2' : vs.length < 2 := by simpa using h2
    rw [if_pos h2, if_pos h2]
    refine wpAny_bind (wpAny_pure ?_)
    rw [StateT.run_pure]
    refine wpAny_bind (wpAny_pure ?_)
    dsimp only
    have e0 : (arrOf (SortSt.mk' general' (vs.toArray.zip vs.toArray) #[] 7 none)).map (·.2) = List.toArray ((srt lt vs.length).map fun i => vs.getD i Value.none) := by
      show (vs.toArray.zip vs.toArray).map (·.2) = _
      unfold srt
      rw [if_pos h2']
      exact two_short vs
    rw [e0]
    refine wpAny_bind (seqEpoch_at ho6 rfl ?_)
    refine wpAny_bind (listUpdate_at ho6 rfl ?_ (Nat.zero_le _) (by rw [List.size_toArray, List.length_map, hsl, sizeLine_eq]; omega))
    simp only [bne_self_eq_false, Bool.false_eq_true, if_false]
    exact wpAny_pure h
  · have h2' : 2 ≤ vs.length := by have : ¬ vs.length < 2 := by simpa using h2
                                   omega
    rw [if_neg h2, if_neg h2]
    obtain ⟨k1, k2⟩ := hk h2' { s with heap := ((s.heap.update a (Obj.mapSeq fun _ => (#[] : Array Value))).push (seqObj "tuple" vs.toArray 0)).push (seqObj "list" #[] 0) } kept
    refine wpAny_bind (k1 _ _ ?_)
    have tree := (post_sort (n := vs.length) (by omega)).wp (lt := lt) (cmp := kas_ask prog w A κ vs) (s := { s with heap := ((s.heap.update a (Obj.mapSeq fun _ => (#[] : Array Value))).push (seqObj "tuple" vs.toArray 0)).push (seqObj "list" #[] 0) })
      (Q := fun p s' => p = runT lt (kas_sort vs.length) ∧ s' = { s with heap := ((s.heap.update a (Obj.mapSeq fun _ => (#[] : Array Value))).push (seqObj "tuple" vs.toArray 0)).push (seqObj "list" #[] 0) })
      (fun i j C hi hj hC => k2 i j hi hj C hC) ⟨rfl, rfl⟩
    refine wpAny_bind (wpAny_mono (kat_run (E := E) (Q := fun st' s' => (arrOf st').map (·.2) = List.toArray ((srt lt vs.length).map fun i => vs.getD i Value.none) ∧ failedOf st' = none ∧ s' = { s with heap := ((s.heap.update a (Obj.mapSeq fun _ => (#[] : Array Value))).push (seqObj "tuple" vs.toArray 0)).push (seqObj "list" #[] 0) })
      rfl h2' h64 (fun p st' s' _ b2 b3 b4 => ?_) tree) ?_ fun _ _ e => e)
    · refine ⟨?_, b3, b4.2⟩
      rw [kat_snds rfl b2, b4.1]
      unfold srt
      rw [if_neg (by omega)]
    · rintro ⟨⟨⟩, st'⟩ s' ⟨hout, hf, rfl⟩
      dsimp only at hout hf ⊢
      rw [hout]
      refine wpAny_bind (seqEpoch_at ho6 rfl ?_)
      refine wpAny_bind (listUpdate_at ho6 rfl ?_ (Nat.zero_le _) (by rw [List.size_toArray, List.length_map, hsl, sizeLine_eq]; omega))
      rw [hf]
      simp only [bne_self_eq_false, Bool.false_eq_true, if_false]
      exact wpAny_pure h

theorem sorted_by {l : Addr} {vs : List Value} {κ : SortKind} {lt : Nat → Nat → Bool} {Q : Value → Shared → Prop} (hl : s.heap.IsList l vs.toArray) (h64 : vs.length < 64)
    (hk : 2 ≤ vs.length → ∀ s' : Shared, (∀ b o, s.heap.get? b = some o → s'.heap.get? b = some o) →
      (∀ (Q : SortKind → Shared → Prop) (E : Value → Shared → Prop), Q κ s' → wpAny (model prog w) A.in1.in1 (keyKind' vs.toArray) Q E s') ∧
      ∀ i j, i < vs.length → j < vs.length → ∀ (Q : Bool → Shared → Prop), Q (lt i j) s' → wpAny (model prog w) A.in1.in1 (keyLt' κ (vs.getD i Value.none) (vs.getD j Value.none)) Q (fun _ _ => False) s')
    (h : Q (.ref (s.heap.objs.size + 1)) { s with heap := sortedAll s.heap vs (List.toArray ((srt lt vs.length).map fun i => vs.getD i Value.none)) }) :
    wpAny (model prog w) A (call (.builtin "sorted") [.ref l]) Q E s := by
  refine Calls.call_function_entry kind_sorted plain_sorted entry_sorted (args_sorted1 _) ?_
  unfold Builtin.«sorted»
  refine wpAny_bind (m := checkCount "sorted" 1 1 _) (wpAny_pure ?_)
  refine wpAny_bind (collect_list hl ?_ (by rw [sizeLine_eq]; omega))
  refine wpAny_bind (wpAny_newList ?_ (by rw [sizeLine_eq]; omega))
  have hsz : ((s.heap.push (seqObj "list" #[] 0)).update s.heap.objs.size (Obj.mapSeq (· ++ vs.toArray))).objs.size = s.heap.objs.size + 1 := by
    rw [Heap.size_update, size_push']
  have hoL : (((s.heap.push (seqObj "list" #[] 0)).update s.heap.objs.size (Obj.mapSeq (· ++ vs.toArray))).push (seqObj "list" vs.toArray 0)).get? (s.heap.objs.size + 1) = some (seqObj "list" vs.toArray 0) := by
    rw [← hsz]; exact Heap.get?_push_size _ rfl
  have keep : ∀ b o, s.heap.get? b = some o → (((s.heap.push (seqObj "list" #[] 0)).update s.heap.objs.size (Obj.mapSeq (· ++ vs.toArray))).push (seqObj "list" vs.toArray 0)).get? b = some o := fun b o q => by
    have hlt : b < s.heap.objs.size := Heap.lt_size q
    exact Heap.get?_push_of_some _ ((Heap.get?_update_other _ _ (Ne.symm (Nat.ne_of_lt hlt))).trans (Heap.get?_push_of_some _ q))
  show wpAny _ _ _ _ _ { s with heap := ((s.heap.push (seqObj "list" #[] 0)).update s.heap.objs.size (Obj.mapSeq (· ++ vs.toArray))).push (seqObj "list" vs.toArray 0) }
  rw [hsz]
  refine wpAny_bind (wpAny_holding (wpAny_call_entry slot_list_sort ⟨_, hoL, rfl⟩ entry_list_sort ?body (args_list_sort _)))
  case body =>
    refine list_sort_by (κ := κ) (lt := lt) hoL h64 (fun h2 s' k => hk h2 s' fun b o e => k b o (Nat.ne_of_lt (Nat.lt_succ_of_lt (Heap.lt_size e))) (keep b o e)) ?_
    exact ⟨_, rfl, wpAny_pure ⟨_, rfl, h⟩⟩
end
end L3

set_option maxHeartbeats 4000000
namespace L3
open PySem PySem.Spec PyProof.Rows

/-! ### min(xs, default=d), max(xs, default=d) of a list of ints that isn't empty -/
theorem args_minD (a v : Value) : argsOk "min" ⟨[a], [(Str.ofString "default", v)]⟩ := by unfold argsOk; kernel_rfl
theorem args_maxD (a v : Value) : argsOk "max" ⟨[a], [(Str.ofString "default", v)]⟩ := by unfold argsOk; kernel_rfl
section
variable {prog : Program} {w : World} {A : Around} {R : Result → Shared → Prop} {I : Addr} {fp wr : List Addr} {n : Nat} {P : Nat → Value → Prop} {St : Nat → Heap → Prop}
/-- the loop from its second turn on, whatever the keywords are -/
theorem min_loopK (kw : List (Str × Value)) (W : Walks prog w A.in1 I fp wr n P St) (bt : Nat → Nat → Bool) (hcmp : CmpOf prog w A.in1 .Lt P bt) (S : Addr) (hSf : S ∉ fp) :
    ∀ (k j : Nat) (s : Shared) (vb : Value) (c : Nat), n - (j + 1) = k → j + 1 ≤ n → St (j + 1) s.heap → P (argBest bt j) vb →
    s.heap.get? S = some { cls := .type "list", dict := none, data := .seq #[vb, vb] c, slots := #[] } →
    (∀ v h' tk, P (argBest bt (n - 1)) v → (∀ b o, b ∉ wr → b ≠ S → s.heap.get? b = some o → h'.get? b = some o) → R (.ok (.ret v)) { s with heap := h', toks := tk }) →
    codeAny (model prog w) A (.builtin "min.loop" ⟨[.ref I, .none, .ref S], kw⟩) R s := by
  have hSw : S ∉ wr := fun h => hSf (W.sub _ h)
  have nm : (toString "min" ++ toString ".loop" : String) = "min.loop" := by decide
  intro k
  induction k with
  | zero =>
    intro j s vb c hk hj hst hPb hS hR
    have hin : j + 1 = n := by omega
    refine codeAny_builtin F.entry_min_loop ?_
    rw [Around.under_plainId F.plain_min_loop _]
    show wpAny _ A.in1 (seqItems? (.ref S) >>= _) _ _ s
    refine wpAny_bind (wpAny_seqItems hS rfl ?_)
    show wpAny _ A.in1 (tryCatch (pyNext (.ref I)) _ >>= _) _ _ s
    refine wpAny_bind (wpAny_tryCatch (W.done s _ _ (hin ▸ hst) fun h' tk hk' => ?_))
    have hS' := hk' S _ hSw hS
    show wpAny _ A.in1 (updateSeq S (fun _ => #[]) >>= _) _ _ _
    refine wpAny_bind (wpAny_updateSeq hS' rfl (wpAny_bind (wpAny_letGo (wpAny_pure ?_))))
    exact hR vb _ tk (by rw [← hin]; exact hPb) fun b o hbw hbS e => (Heap.get?_update_other _ _ (Ne.symm hbS)).trans (hk' b o hbw e)
  | succ k ih =>
    intro j s vb c hk hj hst hPb hS hR
    have hlt : j + 1 < n := by omega
    refine codeAny_builtin F.entry_min_loop ?_
    rw [Around.under_plainId F.plain_min_loop _]
    show wpAny _ A.in1 (seqItems? (.ref S) >>= _) _ _ s
    refine wpAny_bind (wpAny_seqItems hS rfl ?_)
    show wpAny _ A.in1 (tryCatch (pyNext (.ref I)) _ >>= _) _ _ s
    refine wpAny_bind (wpAny_tryCatch (W.item (j + 1) s _ _ hlt hst fun v h' tk hP hst' hk' => ?_))
    have hS' := hk' S _ hSw hS
    show wpAny _ A.in1 (tryCatch (holding [v, v] (richCompare .Lt v vb >>= _)) _ >>= _) _ _ _
    refine wpAny_bind (wpAny_tryCatch (wpAny_holding (wpAny_bind (hcmp (j + 1) (argBest bt j) v vb _ _ _ hP hPb ?_))))
    refine wpAny_bind (wpAny_holding (wpAny_truthy_bool ?_))
    refine wpAny_bind (wpAny_letGo (wpAny_pure ?_))
    cases hb : bt (j + 1) (argBest bt j) with
    | true =>
      simp only [if_true]
      refine wpAny_bind (wpAny_updateSeq hS' rfl (wpAny_bind (wpAny_letGo ?_)))
      rw [nm]
      refine wpAny_pure ⟨plainId_quiet F.plain_min_loop _, ih (j + 1) _ v _ (by omega) hlt (W.frame _ _ _ hst' fun b hbf o e => ?_) (by simp only [argBest, hb, if_true]; exact hP) (Heap.get?_update_self _ hS' rfl) fun v' h'' tk'' hP' hk'' => ?_⟩
      · exact (Heap.get?_update_other _ _ (fun h : S = b => hSf (by rw [h]; exact hbf))).trans e
      · exact hR v' h'' tk'' hP' fun b o hbw hbS e => hk'' b o hbw hbS ((Heap.get?_update_other _ _ (Ne.symm hbS)).trans (hk' b o hbw e))
    | false =>
      simp only [Bool.false_eq_true, if_false]
      refine wpAny_bind (wpAny_letGo ?_)
      rw [nm]
      refine wpAny_pure ⟨plainId_quiet F.plain_min_loop _, ih (j + 1) _ vb c (by omega) hlt hst' (by simp only [argBest, hb, Bool.false_eq_true, if_false]; exact hPb) hS' fun v' h'' tk'' hP' hk'' => ?_⟩
      exact hR v' h'' tk'' hP' fun b o hbw hbS e => hk'' b o hbw hbS (hk' b o hbw e)
theorem min_firstK (kw : List (Str × Value)) (W : Walks prog w A.in1 I fp wr n P St) (bt : Nat → Nat → Bool) (hcmp : CmpOf prog w A.in1 .Lt P bt) (S : Addr) (hSf : S ∉ fp) (hn : 0 < n) {s : Shared} {c : Nat} (hst : St 0 s.heap)
    (hS : s.heap.get? S = some { cls := .type "list", dict := none, data := .seq #[] c, slots := #[] })
    (hR : ∀ v h' tk, P (argBest bt (n - 1)) v → (∀ b o, b ∉ wr → b ≠ S → s.heap.get? b = some o → h'.get? b = some o) → R (.ok (.ret v)) { s with heap := h', toks := tk }) :
    codeAny (model prog w) A (.builtin "min.loop" ⟨[.ref I, .none, .ref S], kw⟩) R s := by
  have hSw : S ∉ wr := fun h => hSf (W.sub _ h)
  have nm : (toString "min" ++ toString ".loop" : String) = "min.loop" := by decide
  refine codeAny_builtin F.entry_min_loop ?_
  rw [Around.under_plainId F.plain_min_loop _]
  show wpAny _ A.in1 (seqItems? (.ref S) >>= _) _ _ s
  refine wpAny_bind (wpAny_seqItems hS rfl ?_)
  show wpAny _ A.in1 (tryCatch (pyNext (.ref I)) _ >>= _) _ _ s
  refine wpAny_bind (wpAny_tryCatch (W.item 0 s _ _ hn hst fun v h' tk hP hst' hk' => ?_))
  have hS' := hk' S _ hSw hS
  show wpAny _ A.in1 (updateSeq S (fun _ => #[v, v]) >>= _) _ _ _
  refine wpAny_bind (wpAny_updateSeq hS' rfl ?_)
  rw [nm]
  refine wpAny_pure ⟨plainId_quiet F.plain_min_loop _, min_loopK kw W bt hcmp S hSf _ 0 _ v _ rfl hn (W.frame _ _ _ hst' fun b hbf o e => ?_) hP (Heap.get?_update_self _ hS' rfl) fun v' h'' tk'' hP' hk'' => ?_⟩
  · exact (Heap.get?_update_other _ _ (fun h : S = b => hSf (by rw [h]; exact hbf))).trans e
  · exact hR v' h'' tk'' hP' fun b o hbw hbS e => hk'' b o hbw hbS ((Heap.get?_update_other _ _ (Ne.symm hbS)).trans (hk' b o hbw e))
end
section
variable {prog : Program} {w : World} {A : Around} {E : Value → Shared → Prop} {s : Shared}
theorem call_min_kw {x d : Value} {Q : Value → Shared → Prop}
    (h : wpAny (model prog w) A.in1 (pyIter x) (fun it s₂ => ∃ I fp wr n P St bt, it = .ref I ∧ Walks prog w A.in1 I fp wr n P St ∧ St 0 s₂.heap ∧ (∀ b ∈ fp, b < s₂.heap.objs.size) ∧ 0 < n ∧ CmpOf prog w A.in1 .Lt P bt ∧
      ∀ v h' tk, P (argBest bt (n - 1)) v → (∀ b o, b ∉ wr → s₂.heap.get? b = some o → h'.get? b = some o) → Q v { s₂ with heap := h', toks := tk }) E s) :
    wpAny (model prog w) A (call (.builtin "min") [x] [(Str.ofString "default", d)]) Q E s := by
  have nm : (toString "min" ++ toString ".loop" : String) = "min.loop" := by decide
  refine wpAny_call (codeAny_call_builtin F.plain_min F.entry_min ?_)
  simp only [checkBuiltinCall, F.kind_min]
  have go : wpAny (model prog w) A.in1 (Builtin.«min» ⟨[x], [(Str.ofString "default", d)]⟩) (fun fin s' => match fin with
      | .done f => (match (Except.ok f : Result) with | .ok (.ret v) => Q v s' | .ok _ => False | .error e => E e s')
      | .again c' => c'.quiet = true ∧ codeAny (model prog w) A c' (fun r s' => match r with | .ok (.ret v) => Q v s' | .ok _ => False | .error e => E e s') s') E s := by
    show wpAny _ A.in1 (Builtin.Builtins.bindParams "min" ["key", "default"] 0 ⟨[], [(Str.ofString "default", d)]⟩ >>= _) _ _ s
    refine wpAny_bind (wpAny_of_eq (show Builtin.Builtins.bindParams "min" ["key", "default"] 0 ⟨[], [(Str.ofString "default", d)]⟩ = pure [none, some d] from rfl) ?_)
    refine wpAny_bind (wpAny_pure ?_)
    refine wpAny_bind (wpAny_mono h (fun it s₂ h₂ => ?_) fun _ _ e => e)
    obtain ⟨I, fp, wr, n, P, St, bt, rfl, W, hst, hfp, hn, hcmp, hQ⟩ := h₂
    refine wpAny_bind (wpAny_newObj_type ?_)
    have hSf : s₂.heap.objs.size ∉ fp := fun hm => Nat.lt_irrefl _ (hfp _ hm)
    rw [nm]
    refine wpAny_pure ⟨plainId_quiet F.plain_min_loop _, min_firstK _ W bt hcmp s₂.heap.objs.size hSf hn (W.frame _ _ _ hst fun b _ o e => Heap.get?_push_of_some _ e) (Heap.get?_push_size _ rfl) fun v h' tk hP hk => ?_⟩
    exact hQ v h' tk hP fun b o hbw e => hk b o hbw (Nat.ne_of_lt (Heap.lt_size e)) (Heap.get?_push_of_some _ e)
  cases hsig : Manifest.signature? "min" with
  | none => exact wpAny_pure go
  | some sig =>
    have ha' : Bind.checkArgs "min" sig ⟨[x], [(Str.ofString "default", d)]⟩ = pure () := by
      have := args_minD x d
      simpa only [argsOk, hsig] using this
    simp only [ha']
    exact wpAny_pure go
theorem min_listK {l : Addr} {d : Value} {vs : List Value} {ns : List Int} {Q : Value → Shared → Prop} (hh : A.handled = none) (hl : s.heap.IsList l vs.toArray) (hi : IntsAre vs ns) (hne : 0 < ns.length)
    (h : ∀ h' M (t : Tok) tk, (∀ b o, s.heap.get? b = some o → h'.get? b = some o) → M ∈ ns → (∀ a, a ∈ ns → M ≤ a) → Q (.int M t) { s with heap := h', toks := tk }) :
    wpAny (model prog w) A (call (.builtin "min") [.ref l] [(Str.ofString "default", d)]) Q E s := by
  obtain ⟨xs, e⟩ := hi.allInts.items
  have hns : ns = xs.toList.map (·.1) := by rw [← hi.numsOf, ← nums_intItems, ← e]
  have hsz : 0 < xs.size := by
    have h3 := hne; rw [hns, List.length_map, Array.length_toList] at h3; exact h3
  rw [e] at hl
  refine call_min_kw (iter_intList hl fun s₂ e st hfp hlI => ?_)
  subst e
  refine ⟨_, _, _, _, _, _, _, rfl, Walks.list (A := A.in1) hh _ l hlI (intItems xs), st, hfp, by simpa [intItems] using hsz, CmpOf.ints_lt (numAt xs) (fun _ _ => intItems_at), fun v h' tk hP hk => ?_⟩
  have hv : (intItems xs)[argBest (fun i j => decide (numAt xs i < numAt xs j)) (xs.size - 1)]? = some v := by simpa [intItems] using hP
  obtain ⟨t, rfl⟩ := intItems_at hv
  obtain ⟨h1, h2⟩ := argBest_lt (numAt xs) (xs.size - 1)
  refine h _ _ t tk (old_kept hk) ?_ fun a ha => ?_
  · rw [hns, numAt_eq]; exact getD_mem (by rw [List.length_map, Array.length_toList]; omega)
  · rw [hns] at ha
    obtain ⟨j, hj, rfl⟩ := mem_getD ha
    rw [List.length_map, Array.length_toList] at hj
    rw [← numAt_eq]; exact h2 j (by omega)
theorem min_list0 {l : Addr} {vs : List Value} {ns : List Int} {Q : Value → Shared → Prop} (hh : A.handled = none) (hl : s.heap.IsList l vs.toArray) (hi : IntsAre vs ns) (hne : 0 < ns.length)
    (h : ∀ h' M (t : Tok) tk, (∀ b o, s.heap.get? b = some o → h'.get? b = some o) → M ∈ ns → (∀ a, a ∈ ns → M ≤ a) → Q (.int M t) { s with heap := h', toks := tk }) :
    wpAny (model prog w) A (call (.builtin "min") [.ref l]) Q E s := by
  obtain ⟨xs, e⟩ := hi.allInts.items
  have hns : ns = xs.toList.map (·.1) := by rw [← hi.numsOf, ← nums_intItems, ← e]
  have hsz : 0 < xs.size := by
    have h3 := hne; rw [hns, List.length_map, Array.length_toList] at h3; exact h3
  rw [e] at hl
  refine min_intList hh hl hsz fun v h' tk hv hk => ?_
  obtain ⟨t, rfl⟩ := intItems_at hv
  obtain ⟨h1, h2⟩ := argBest_lt (numAt xs) (xs.size - 1)
  refine h _ _ t tk hk ?_ fun a ha => ?_
  · rw [hns, numAt_eq]; exact getD_mem (by rw [List.length_map, Array.length_toList]; omega)
  · rw [hns] at ha
    obtain ⟨j, hj, rfl⟩ := mem_getD ha
    rw [List.length_map, Array.length_toList] at hj
    rw [← numAt_eq]; exact h2 j (by omega)
end
end L3

set_option maxHeartbeats 4000000
namespace L3
open PySem PySem.Spec PyProof.Rows L2

/-! ### the block of a list comprehension -/
structure CZ where
  cl : List (Str × Addr)
  C : Addr
  s : Shared
  H : Hp
  ex : List Addr
def cxComp (X : Cx) (N : List Str) (scope : Scope) (z : CZ) : Cx where
  prog := X.prog
  w := X.w
  K := X.K
  mg := X.mg
  base := X.base
  A := X.A
  N := N
  s₀ := z.s
  H₀ := z.H
  env := compEnvC scope z.cl z.C X.env
  outer := X.stack
  stack := X.stack
  ex := z.ex
  calm := X.calm
  fn := fun _ => false
  pn := []
  xe := fun _ _ => False

/-! the closure: a cell for each free name -/
def clFrom (cells : List (Str × Addr)) : List (Str × NameKind) → List (Str × Addr) → List (Str × Addr)
  | [], cs => cs
  | (n, k) :: r, cs => if (k == NameKind.free) = true then (match cells.lookup n with | some c => clFrom cells r ((n, c) :: cs) | none => clFrom cells r cs) else clFrom cells r cs
theorem closureFor_eq {scope : Scope} {env : Env} (h : ∀ x ∈ scope.names, x.2 = .free → ∃ c, env.cells.lookup x.1 = some c) : closureFor scope env = pure (clFrom env.cells scope.names []) := by
  have go : ∀ (l : List (Str × NameKind)) (cs : List (Str × Addr)), (∀ x ∈ l, x.2 = .free → ∃ c, env.cells.lookup x.1 = some c) →
      (forIn l cs fun (x : Str × NameKind) (cs : List (Str × Addr)) => if (x.2 == NameKind.free) = true then do let a ← cellOf env x.1; pure (ForInStep.yield ((x.1, a) :: cs)) else pure (ForInStep.yield cs) : Sem (List (Str × Addr))) = pure (clFrom env.cells l cs) := by
    intro l
    induction l with
    | nil => intro cs _; rfl
    | cons x r ih =>
      intro cs hx
      obtain ⟨n, k⟩ := x
      rw [List.forIn_cons]
      have ih' := fun cs => ih cs fun y hy => hx y (List.mem_cons_of_mem _ hy)
      unfold clFrom
      dsimp only
      by_cases hk : (k == NameKind.free) = true
      · obtain ⟨c, hc⟩ := hx (n, k) List.mem_cons_self (by simpa using hk)
        rw [if_pos hk, if_pos hk]
        simp only at hc
        simp only [cellOf, hc, pure_bind]
        exact ih' _
      · rw [if_neg hk, if_neg hk]
        simp only [pure_bind]
        exact ih' _
  unfold closureFor
  have e := go scope.names [] h
  simp only [bind_pure] at e ⊢
  exact e
theorem clFrom_of {cells : List (Str × Addr)} {x : Str} {c : Addr} : ∀ {l : List (Str × NameKind)} {cs : List (Str × Addr)}, (clFrom cells l cs).lookup x = some c → cells.lookup x = some c ∨ cs.lookup x = some c
  | [], cs, h => .inr h
  | (n, k) :: r, cs, h => by
    unfold clFrom at h
    split at h
    · split at h
      · rename_i c0 e
        rcases clFrom_of h with q | q
        · exact .inl q
        · rw [List.lookup_cons] at q
          split at q
          · rename_i hx
            have hx' : x = n := by simpa using hx
            cases q
            rw [hx']
            exact .inl e
          · exact .inr q
      · exact clFrom_of h
    · exact clFrom_of h
theorem clFrom_keeps {cells : List (Str × Addr)} {x : Str} : ∀ {l : List (Str × NameKind)} {cs : List (Str × Addr)}, (∃ c, cs.lookup x = some c) → ∃ c, (clFrom cells l cs).lookup x = some c
  | [], cs, h => h
  | (n, k) :: r, cs, h => by
    unfold clFrom
    split
    · split
      · refine clFrom_keeps ?_
        rw [List.lookup_cons]
        split
        · exact ⟨_, rfl⟩
        · exact h
      · exact clFrom_keeps h
    · exact clFrom_keeps h
theorem clFrom_has {cells : List (Str × Addr)} {x : Str} : ∀ {l : List (Str × NameKind)} {cs : List (Str × Addr)}, (x, NameKind.free) ∈ l → (∃ c, cells.lookup x = some c) → ∃ c, (clFrom cells l cs).lookup x = some c
  | (n, k) :: r, cs, hm, h => by
    unfold clFrom
    rcases List.mem_cons.mp hm with e | hm
    · cases e
      obtain ⟨c, hc⟩ := h
      rw [if_pos (show (NameKind.free == NameKind.free) = true from rfl), hc]
      refine clFrom_keeps ?_
      rw [List.lookup_cons]
      simp
    · split
      · split
        · exact clFrom_has hm h
        · exact clFrom_has hm h
      · exact clFrom_has hm h
theorem relabel_vis {scope : Scope} {env : Env} {x : Str} (hnc : ∀ y ∈ scope.names, y.2 ≠ .cell) (h : (relabel scope env).names.lookup x = some .cell ∨ (relabel scope env).names.lookup x = some .free) : (x, NameKind.free) ∈ scope.names := by
  rcases h with h | h
  · have hm := PySem.mem_of_lookup h
    obtain ⟨⟨n, k⟩, hy, e⟩ := List.mem_map.mp hm
    dsimp only at e
    split at e
    · rename_i hc
      simp only [Bool.and_eq_true, beq_iff_eq] at hc
      cases e
      rw [hc.1.1] at hy
      exact hy
    · cases e
      exact absurd rfl (hnc _ hy)
  · have hm := PySem.mem_of_lookup h
    obtain ⟨⟨n, k⟩, hy, e⟩ := List.mem_map.mp hm
    dsimp only at e
    split at e
    · cases e
    · cases e
      exact hy
theorem relabel_free {env : Env} : ∀ {names : List (Str × NameKind)} {x : Str}, names.lookup x = some .free →
    ((names.map fun (n, k) => if (k == NameKind.free && env.scope.kind == .function && env.kindOf n == some .cell) then (n, NameKind.cell) else (n, k)).lookup x = some .cell ∨
     (names.map fun (n, k) => if (k == NameKind.free && env.scope.kind == .function && env.kindOf n == some .cell) then (n, NameKind.cell) else (n, k)).lookup x = some .free)
  | [], _, h => by simp at h
  | (n, k) :: r, x, h => by
    have ih := @relabel_free env r x
    show (List.lookup x ((if (k == NameKind.free && env.scope.kind == .function && env.kindOf n == some .cell) = true then (n, NameKind.cell) else (n, k)) :: _) = _) ∨ (List.lookup x ((if (k == NameKind.free && env.scope.kind == .function && env.kindOf n == some .cell) = true then (n, NameKind.cell) else (n, k)) :: _) = _)
    cases hx : x == n with
    | true =>
      simp only [List.lookup_cons, hx] at h
      cases h
      by_cases hc : ((NameKind.free : NameKind) == NameKind.free && env.scope.kind == .function && env.kindOf n == some .cell) = true
      · rw [if_pos hc]; left; simp only [List.lookup_cons, hx]
      · rw [if_neg hc]; right; simp only [List.lookup_cons, hx]
    | false =>
      simp only [List.lookup_cons, hx] at h
      by_cases hc : (k == NameKind.free && env.scope.kind == .function && env.kindOf n == some .cell) = true
      · rw [if_pos hc]; simp only [List.lookup_cons, hx]; exact ih h
      · rw [if_neg hc]; simp only [List.lookup_cons, hx]; exact ih h

/-! the block's slots: its own names hold nothing, the free ones what they hold outside -/
def picks (sl : List (Option Nat)) (σ : L2.St) : L2.St := sl.map fun o => o.bind fun j => (σ[j]?).getD none
def slOk (N N' : List Str) (sl : List (Option Nat)) (sc osc : Scope) : Bool :=
  sl.length == N'.length && (List.zip N' sl).all fun p => match p.2 with
    | none => true
    | some j => N[j]? == some p.1 && sc.names.lookup p.1 == some .free && (osc.names.lookup p.1 == some .cell || osc.names.lookup p.1 == some .free)
theorem slOk.len {N N' : List Str} {sl : List (Option Nat)} {sc osc : Scope} (h : slOk N N' sl sc osc = true) : sl.length = N'.length := by
  unfold slOk at h
  rw [Bool.and_eq_true] at h
  simpa using h.1
theorem slOk.at {N N' : List Str} {sl : List (Option Nat)} {sc osc : Scope} (h : slOk N N' sl sc osc = true) {k j : Nat} {x : Str} (h1 : N'[k]? = some x) (h2 : sl[k]? = some (some j)) :
    N[j]? = some x ∧ sc.names.lookup x = some .free ∧ (osc.names.lookup x = some .cell ∨ osc.names.lookup x = some .free) := by
  unfold slOk at h
  rw [Bool.and_eq_true, List.all_eq_true] at h
  have hm : (x, some j) ∈ List.zip N' sl := by
    refine List.mem_of_getElem? (i := k) ?_
    rw [List.getElem?_zip_eq_some]
    exact ⟨h1, h2⟩
  have q := h.2 _ hm
  simp only [Bool.and_eq_true, Bool.or_eq_true, beq_iff_eq] at q
  exact ⟨q.1.1, q.1.2, q.2⟩
/-- each free name of the block is a cell or a free name outside -/
def frOk (sc osc : Scope) : Bool := sc.names.all fun x => !(x.2 == .free) || (osc.names.lookup x.1 == some .cell || osc.names.lookup x.1 == some .free)
theorem frOk.of {sc osc : Scope} (h : frOk sc osc = true) : ∀ x ∈ sc.names, x.2 = .free → osc.names.lookup x.1 = some .cell ∨ osc.names.lookup x.1 = some .free := fun x hx e => by
  have q := List.all_eq_true.mp h x hx
  rw [e] at q
  simp only [beq_self_eq_true, Bool.not_true, Bool.false_or, Bool.or_eq_true, beq_iff_eq] at q
  exact q
def Agree (σ σ' : L2.St) : Prop := σ'.length = σ.length ∧ ∀ (i : Nat) v, σ[i]? = some (some v) → σ'[i]? = some (some v)
theorem Agree.refl (σ : L2.St) : Agree σ σ := ⟨rfl, fun _ _ h => h⟩
theorem Agree.set {σ σ' : L2.St} (a : Agree σ σ') {i : Nat} {v : Option V} (h : σ[i]? = some none) : Agree σ (σ'.set i v) := by
  refine ⟨by rw [List.length_set]; exact a.1, fun j w e => ?_⟩
  by_cases hij : i = j
  · subst hij; rw [h] at e; cases e
  · rw [List.getElem?_set_ne hij]; exact a.2 j w e

section
variable {fs ex : List Addr} {H H' : Hp} {h h1 h2 : Heap} {C : Addr}
theorem Un.but (u : Un fs ex H H' h h1) (hC : h.get? C = none) (sb : ∀ b o, b ≠ C → h1.get? b = some o → h2.get? b = some o) : Un fs ex H H' h h2 where
  keep := fun b o e n hb hx => sb b o (by rintro rfl; rw [hC] at e; cases e) (u.keep b o e n hb hx)
  slot := fun b o e n hb hx => by
    obtain ⟨sl, q⟩ := u.slot b o e n hb hx
    exact ⟨sl, sb b _ (by rintro rfl; rw [hC] at e; cases e) q⟩
  free := u.free
  there := fun b o e hx => by
    obtain ⟨o', q⟩ := u.there b o e hx
    exact ⟨o', sb b o' (by rintro rfl; rw [hC] at e; cases e) q⟩
  tups := u.tups
  frzs := u.frzs
  tbls := u.tbls
theorem HOk.but {P : Program} {w : World} (x : HOk P w H h1) (hC : H C = none) (sb : ∀ b o, b ≠ C → h1.get? b = some o → h2.get? b = some o) : HOk P w H h2 := fun a o e =>
  (x a o e).stay (fun b u hc q => sb b u (by
    rintro rfl
    rcases hc with hc | hc
    · rw [← hc, hC] at e; cases e
    · rw [hC] at hc; cases hc) q) (fun _ q => q) fun _ _ q => q
end

theorem comp_start {X : Cx} {pins : List (Addr × Obj)} {σ : L2.St} {H : Hp} {s : Shared} (I : Inv X pins σ H s) {scope : Scope} {N' : List Str} {sl : List (Option Nat)} {fp : List Addr} {h₁ : Heap} {m : Str → Option Value} {tk : Nat}
    (hk : scope.kind = .function) (hnc : ∀ y ∈ scope.names, y.2 ≠ .cell) (hfree : ∀ x ∈ scope.names, x.2 = .free → X.env.scope.names.lookup x.1 = some .cell ∨ X.env.scope.names.lookup x.1 = some .free)
    (hsl : slOk X.N N' sl scope X.env.scope = true) (hfp : ∀ b ∈ fp, FpOk X pins H b) (hlt : ∀ b ∈ fp, b < s.heap.objs.size)
    (hns : h₁.Ns s.heap.objs.size m) (hkeep : ∀ b o, s.heap.get? b = some o → h₁.get? b = some o) :
    Inv (cxComp X N' scope ⟨clFrom X.env.cells scope.names [], s.heap.objs.size, s, H, fp⟩) [] (picks sl σ) H { s with heap := h₁, toks := tk } := by
  have cof : ∀ x c, (clFrom X.env.cells scope.names []).lookup x = some c → X.env.cells.lookup x = some c := fun x c e => by
    rcases clFrom_of e with q | q
    · exact q
    · cases q
  have has : ∀ x, (x, NameKind.free) ∈ scope.names → ∃ c, (clFrom X.env.cells scope.names []).lookup x = some c := fun x hx =>
    clFrom_has hx (I.ok.has x (hfree _ hx rfl))
  refine ⟨⟨I.ok.mod, hk, I.ok.glob, I.ok.blt, Nat.le_refl _, fun x y c h1 h2 => I.ok.inj x y c (cof x c h1) (cof y c h2), fun x hx => has x (relabel_vis hnc hx), fun x c hf _ => absurd hf Bool.false_ne_true, I.ok.hd, I.ok.frames, .inl rfl,
      fun b hb => ⟨Nat.ne_of_lt (hlt b hb), fun x c e => (hfp b hb).2.2.2.2.1 x c (cof x c e)⟩, I.bs, Nat.le_trans I.ok.bsz I.sz, fun b o e hb => ?_, fun b hb hz => ?_, I.stack, I.stkFree⟩,
    rfl, I.bare, Un.kept hkeep, ⟨m, hns, fun i x v h1 h2 _ => ?_⟩, fun x c e => ?_, I.hok.fresh (Nat.le_refl _), fun x c e => I.freeC x c (cof x c e), fun p hp => absurd (show p ∈ ([] : List (Addr × Obj)) from hp) (by simp), I.hok.kept hkeep, ?_⟩
  · rcases (hfp b hb).2.2.2.1 with z | z
    · exact I.ok.noex b o e z
    · exact absurd (Nat.lt_of_lt_of_le (Heap.lt_size (I.ok.bs b o e).1) z) (Nat.lt_irrefl _)
  · rcases List.mem_cons.mp (I.stkSub b hz) with z | z
    · exact (hfp b hb).2.1 z
    · exact (hfp b hb).2.2.1 z
  · have h2' : (picks sl σ)[i]? = some (some v) := h2
    unfold picks at h2'
    rw [List.getElem?_map] at h2'
    cases q : sl[i]? with
    | none => rw [q] at h2'; cases h2'
    | some o =>
      rw [q] at h2'
      cases o with
      | none => cases h2'
      | some j =>
        have e : (σ[j]?).getD none = some v := by simpa using h2'
        have e2 : σ[j]? = some (some v) := by
          cases r : σ[j]? with
          | none => rw [r] at e; cases e
          | some w => rw [r] at e; simp at e; rw [e]
        obtain ⟨a1, a2, a3⟩ := slOk.at hsl h1 q
        obtain ⟨mo, _, hl⟩ := I.loc
        obtain ⟨u, r, l⟩ := hl j x v a1 e2 (.inr a3)
        refine ⟨u, r, .inr ⟨relabel_free a2, ?_⟩⟩
        have a4 : X.env.kindOf x = some .cell ∨ X.env.kindOf x = some .free := a3
        rcases l with ⟨l, _⟩ | ⟨_, c, e3, z⟩
        · rcases a4 with a4 | a4 <;> · rw [l] at a4; cases a4
        · obtain ⟨c', e4⟩ := has x (PySem.mem_of_lookup a2)
          have e5 := cof x c' e4
          rw [e3] at e5; cases e5
          obtain ⟨o, ho, hd⟩ := z
          exact ⟨c, e4, o, hkeep _ _ ho, hd⟩
  · obtain ⟨v, o, ho, hd⟩ := I.cell x c (cof x c e)
    exact ⟨v, o, hkeep _ _ ho, hd⟩
  · show (picks sl σ).length = N'.length
    unfold picks
    rw [List.length_map]
    exact slOk.len hsl

/-! the tests of a clause -/
def PTs (X : Cx) (ifs : List Expr) (t : TT) : Prop :=
  ∀ (pins : List (Addr × Obj)) (s : Shared) (σ : L2.St) (H : Hp) (Q : Bool → Hp → Prop), Inv X pins σ H s → t σ H Q →
    wpAny (model X.prog X.w) X.A (forIn ifs true fun c r => if r = true then do let ok ← isTrue c X.env (eval c X.env); pure (ForInStep.yield ok) else pure (ForInStep.yield r)) (TP X pins σ Q) X.xe s
def tYes : TT := fun _ H Q => Q true H
theorem pts_nil {X : Cx} : PTs X [] tYes := fun _ _ _ H _ I h => wpAny_tests_nil ⟨H, I, h⟩
theorem pts_one {X : Cx} {c : Expr} {t : TT} (h : PT X c t) : PTs X [c] t := fun pins s σ H Q I q => wpAny_tests_one (h pins s σ H Q I q)

theorem compLoop_gen {prog : Program} {w : World} {A : Around} {R : Result → Shared → Prop} {s : Shared} {elt target iter : Expr} {ifs : List Expr} {scope : Scope} {pos : Pos} {it acc : Value} {env : Env} (I : Nat → Shared → Prop)
    (turn : ∀ n s, I n s → wpAny (model prog w) A (pyNext it) (fun r s₁ => match r with
      | none => R (.ok .next) s₁
      | some v => wpAny (model prog w) A (letOwnedTupleGo target it v) (fun _ s₂ => wpAny (model prog w) A (assign target env v) (fun _ s₃ =>
          wpAny (model prog w) A (forIn ifs true fun c r => if r = true then do let ok ← isTrue c env (eval c env); pure (ForInStep.yield ok) else pure (ForInStep.yield r)) (fun ok s₄ =>
            if ok = true then wpAny (model prog w) A (eval elt env) (fun x s₅ =>
              wpAny (model prog w) A (call (.builtin "list.append") [acc, x]) (fun _ s₆ => ∃ m, m < n ∧ I m s₆) (fun _ _ => False) s₅) (fun _ _ => False) s₄
            else ∃ m, m < n ∧ I m s₄) (fun _ _ => False) s₃) (fun _ _ => False) s₂) (fun _ _ => False) s₁) (fun _ _ => False) s)
    (n : Nat) (h : I n s) :
    codeAny (model prog w) A (.compLoop (.ListComp elt [⟨target, iter, ifs, 0⟩] scope pos) 0 it acc env) R s := by
  refine codeAny_loop rfl I (fun n s hI => ?_) n h
  show wpAny _ A ((compTurn (.ListComp elt [⟨target, iter, ifs, 0⟩] scope pos) 0 it acc env).onRaise (fun x => do noteFrame x env; theTreesLotGoes x)) _ _ s
  refine wpAny_noted ?_
  rw [compTurn_list]
  refine wpAny_bind (wpAny_standAt (wpAny_bind (wpAny_mono (turn n s hI) (fun r s₁ h₁ => ?_) fun _ _ h' => h'.elim)))
  cases r with
  | none => exact wpAny_pure h₁
  | some v =>
    refine wpAny_bind (wpAny_mono h₁ (fun _ s₂ h₂ => ?_) fun _ _ h' => h'.elim)
    refine wpAny_bind (wpAny_mono h₂ (fun _ s₃ h₃ => wpAny_bind (wpAny_mono h₃ (fun ok s₄ h₄ => ?_) fun _ _ h' => h'.elim)) fun _ _ h' => h'.elim)
    cases ok with
    | false => exact wpAny_pure ⟨rfl, h₄⟩
    | true =>
      exact wpAny_bind (wpAny_bind (wpAny_mono h₄ (fun x s₅ h₅ => wpAny_bind (wpAny_mono h₅ (fun _ s₆ h₆ => wpAny_pure (wpAny_pure ⟨rfl, h₆⟩)) fun _ _ h' => h'.elim)) fun _ _ h' => h'.elim))

/-- what the reading of a comprehension asks behind the walk's beginning -/
def CompR (J : It) (sl : List (Option Nat)) (g : TG) (tt : TT) (te : TE) (σ : L2.St) (H1 : Hp) (D : Addr) (Q : VK) : Prop :=
  ∃ W : Nat → Nat → Hp → Prop, (∃ m, W 0 m (upd H1 D (.lst []))) ∧ ∀ i m H, W i m H → (J.stop i H ∧ Q (.ref D) H) ∨
    (J.go i H ∧ ∃ N : Hp → Prop, (∀ H', N H' → ∃ m', m' < m ∧ W (i + 1) m' H') ∧ ∀ x H', J.yld i H x H' → g x (picks sl σ) H' fun σ2 H2 => Agree (picks sl σ) σ2 ∧ tt σ2 H2 fun b H3 =>
      if b = true then te σ2 H3 fun y H4 => ∃ xs, H4 D = some (.lst xs) ∧ xs.length < sizeLine ∧ N (upd H4 D (.lst (xs ++ [y]))) else N H3)
def tComp (wi : TI) (sl : List (Option Nat)) (g : TG) (tt : TT) (te : TE) : TE := fun σ H Q => wi σ H fun J H1 => ∀ D, H1 D = none → CompR J sl g tt te σ H1 D Q

section
variable {X : Cx} {elt target iter : Expr} {ifs : List Expr} {scope : Scope} {pos : Pos}
/-- the block itself, for a value handed on (use none) -/
theorem comp_block {N' : List Str} {sl : List (Option Nat)} {g : TG} {tt : TT} {te : TE} {pins : List (Addr × Obj)} {s₂ : Shared} {σ : L2.St} {H2 : Hp} {Q : VK} {RR : Value → Addr → Result → Shared → Prop} {E : Value → Shared → Prop}
    {it : Addr} {fp : List Addr} {tn : Nat → Heap → Prop} {J : It} (hc : X.calm = true) (hkind : scope.kind = .function)
    (hnc : ∀ y ∈ scope.names, y.2 ≠ .cell) (hfree : ∀ x ∈ scope.names, x.2 = .free → X.env.scope.names.lookup x.1 = some .cell ∨ X.env.scope.names.lookup x.1 = some .free)
    (hsl : slOk X.N N' sl scope X.env.scope = true)
    (hg : ∀ z, PG (cxComp X N' scope z) target g) (ht : ∀ z, PTs (cxComp X N' scope z) ifs tt) (he : ∀ z, PE (cxComp X N' scope z) elt te)
    (I2 : Inv X pins σ H2 s₂) (T : Turn X.prog X.w X.K target J fp it tn) (st2 : tn 0 s₂.heap) (f2 : ∀ b ∈ fp, FpOk X pins H2 b) (hw : ∀ D, H2 D = none → CompR J sl g tt te σ H2 D Q)
    (hR : ∀ D C H' s', H' C = none → (∃ m, s'.heap.Ns C m) → FpOk X pins H' C → (∀ h', Heap.SameBut C s'.heap h' → Inv X pins σ H' { s' with heap := h' }) → Inv X pins σ H' s' → Q (.ref D) H' → RR (.ref D) C (.ok .next) s') :
    wpAny (model X.prog X.w) X.A (newList []) (fun acc s₃ => wpAny (model X.prog X.w) X.A (newFunctionEnv scope X.env.globals (clFrom X.env.cells scope.names []) [] X.env.qual none .none (some X.env)) (fun cenv s₄ =>
      codeAny (model X.prog X.w) X.A (.compStart (.ListComp elt [⟨target, iter, ifs, 0⟩] scope pos) 0 (.ref it) acc { cenv with scope := relabel scope X.env }) (RR acc cenv.locals) s₄) E s₃) E s₂ := by
  have hlt2 : ∀ b ∈ fp, b < s₂.heap.objs.size := fun b hb => by
    obtain ⟨o, e, _⟩ := T.obj _ _ st2 b hb
    exact Heap.lt_size e
  have hD : H2 s₂.heap.objs.size = none := I2.hok.fresh (Nat.le_refl _)
  obtain ⟨W, ⟨m0, w0⟩, turn⟩ := hw _ hD
  refine wpAny_newList ?_ (Nat.zero_le _)
  have I3 := I2.lnew (ys := []) (its := []) (t' := s₂.toks) .nil (Nat.zero_le _)
  refine wpAny_newFunctionEnv hnc (by intro y hy; simp at hy) (fun h₁ hns₁ hsb₁ => ?_) hkind
  generalize hs3 : ({ s₂ with heap := s₂.heap.push { cls := .type "list", data := .seq ([] : List Value).toArray } } : Shared) = s₃ at *
  have hs3' : s₃.heap = s₂.heap.push { cls := .type "list", data := .seq ([] : List Value).toArray } := by rw [← hs3]
  have hC3 : s₃.heap.objs.size = s₂.heap.objs.size + 1 := by rw [hs3', Heap.size_push]
  have keep23 : ∀ b o, s₂.heap.get? b = some o → s₃.heap.get? b = some o := fun b o e => by rw [hs3']; exact Heap.get?_push_of_some _ e
  have keep3 : ∀ b o, s₃.heap.get? b = some o → h₁.get? b = some o := fun b o e => hsb₁.extBut b o (Nat.ne_of_lt (Heap.lt_size e)) (Heap.get?_push_of_some _ e)
  have hne : ∀ b ∈ fp, b ≠ s₂.heap.objs.size := fun b hb => Nat.ne_of_lt (hlt2 b hb)
  have f3 : ∀ b ∈ fp, FpOk X pins (upd H2 s₂.heap.objs.size (.lst [])) b := fun b hb => ⟨by rw [upd_ne (hne b hb)]; exact (f2 b hb).1, (f2 b hb).2⟩
  have hlt3 : ∀ b ∈ fp, b < s₃.heap.objs.size := fun b hb => by rw [hC3]; exact Nat.lt_succ_of_lt (hlt2 b hb)
  have I4 := comp_start (tk := s₃.toks + ([] : List (Str × Value)).length) I3 hkind hnc hfree hsl f3 hlt3 hns₁ keep3
  have st4 : tn 0 h₁ := T.keep _ _ _ st2 fun b _ o e => keep3 b o (keep23 b o e)
  generalize hz : (⟨clFrom X.env.cells scope.names [], s₃.heap.objs.size, s₃, upd H2 s₂.heap.objs.size (.lst []), fp⟩ : CZ) = z at I4
  have ezC : z.C = s₃.heap.objs.size := by rw [← hz]
  have ezx : z.ex = fp := by rw [← hz]
  have stat : ∀ {H' : Hp}, (∀ b ∈ fp, H' b = none) → ∀ b ∈ fp, FpOk (cxComp X _ scope z) [] H' b := fun hn b hb => by
    subst hz
    have q := I4.ok.exf b hb
    exact ⟨hn b hb, q.1, I4.ok.exfs b hb, .inl hb, q.2, fun p hp => absurd (show p ∈ ([] : List (Addr × Obj)) from hp) (by simp)⟩
  have loop : ∀ s₄ : Shared, s₄ = { s₃ with heap := h₁, toks := s₃.toks + ([] : List (Str × Value)).length } →
      codeAny (model X.prog X.w) X.A (.compLoop (.ListComp elt [⟨target, iter, ifs, 0⟩] scope pos) 0 (.ref it) (.ref s₂.heap.objs.size) (cxComp X N' scope z).env) (RR (.ref s₂.heap.objs.size) s₃.heap.objs.size) s₄ := by
    rintro s₄ rfl
    refine compLoop_gen (fun n s' => ∃ i H', Inv (cxComp X N' scope z) [] (picks sl σ) H' s' ∧ tn i s'.heap ∧ (∀ b ∈ fp, H' b = none) ∧ W i n H') ?_ m0 ⟨0, _, I4, st4, fun b hb => (f3 b hb).1, w0⟩
    rintro n s5 ⟨i, H5, I5, st5, fr5, w5⟩
    rcases turn i n H5 w5 with ⟨stop, qn⟩ | ⟨go, N, hN, step⟩
    · refine thn (T.done (cxComp X N' scope z) rfl rfl rfl hc i [] s5 _ H5 _ I5 (stat fr5) st5 stop) fun r s6 ⟨hr, I6⟩ => ?_
      subst hr
      have un : Un (frs X.stack) fp (upd H2 s₂.heap.objs.size (.lst [])) H5 s₃.heap s6.heap := by subst hz; exact I6.base
      have os6 : s6.os = s₃.os := by subst hz; exact I6.os
      have fC : H5 s₃.heap.objs.size = none := by subst hz; exact I6.free
      have hch : ∀ b ∈ fp, (b ∈ X.ex ∨ X.s₀.heap.objs.size ≤ b) ∧ b ≠ X.env.locals ∧ (∀ x c, X.env.cells.lookup x = some c → c ≠ b) ∧ ∀ p ∈ X.pn ++ pins, p.1 ≠ b := fun b hb => ⟨(f2 b hb).2.2.2.1, (f2 b hb).2.1, (f2 b hb).2.2.2.2.1, (f2 b hb).2.2.2.2.2⟩
      have nC : s₃.heap.get? s₃.heap.objs.size = none := Heap.get?_none_of_le (Nat.le_refl _)
      have ns : ∃ m, s6.heap.Ns s₃.heap.objs.size m := by
        subst hz
        obtain ⟨m, hn, _⟩ := I6.loc
        exact ⟨m, hn⟩
      refine hR _ _ H5 s6 fC ns (I3.fpOk (Nat.le_refl _) fC) (fun h' sb => ?_) (I3.call' (ch := fp) os6 un I6.hok I6.bare hch) qn
      exact I3.call' (s' := { s6 with heap := h' }) (ch := fp) os6 (Un.but un nC sb.extBut) (HOk.but I6.hok fC sb.extBut) I6.bare hch
    · refine thn (T.item (cxComp X N' scope z) rfl rfl rfl hc i [] s5 _ H5 _ I5 (stat fr5) st5 go) fun r s6 ⟨u, hr, h6⟩ => ?_
      subst hr
      refine thn h6 fun _ s7 ⟨x, H7, I7, r7, y7, st7, fr7⟩ => ?_
      have I7' := I7.pinned (stat fr7) (T.obj _ _ st7)
      refine thn (hg z _ s7 _ H7 x u _ I7' r7 (step x H7 y7)) fun _ s8 ⟨σ8, H8, I8, ag, q8⟩ => ?_
      have again : ∀ {s9 : Shared} {H9 : Hp}, Inv (cxComp X N' scope z) ([] ++ pinsAt fp s7.heap) σ8 H9 s9 → N H9 → ∃ m, m < n ∧ ∃ i H', Inv (cxComp X N' scope z) [] (picks sl σ) H' s9 ∧ tn i s9.heap ∧ (∀ b ∈ fp, H' b = none) ∧ W i m H' := fun {s9 H9} I9 n9 => by
        obtain ⟨m', hm, w9⟩ := hN H9 n9
        refine ⟨m', hm, i + 1, H9, (I9.weak ag.1.symm ag.2).unpinned, T.keep _ _ _ st7 fun b hb o e => (I9.pin (b, o) (List.mem_append_right _ (List.mem_append_right _ (mem_pinsAt hb e)))).1, fun b hb => ?_, w9⟩
        obtain ⟨o, e, d⟩ := T.obj _ _ st7 b hb
        exact (I9.pin (b, o) (List.mem_append_right _ (List.mem_append_right _ (mem_pinsAt hb e)))).2.1
      refine thn (ht z _ s8 σ8 H8 _ I8 q8) fun ok s9 ⟨H9, I9, q9⟩ => ?_
      cases ok with
      | false => exact again I9 q9
      | true =>
        refine thn (he z _ s9 σ8 H9 _ I9 q9) fun u10 s10 ⟨y, H10, I10, r10, xs, hx, hz10, n10⟩ => ?_
        exact thn (mt_append _ s10 σ8 H10 (.ref s₂.heap.objs.size) [y] (.ref s₂.heap.objs.size) [u10] (fun _ H' => N H') I10 rfl (.cons r10 .nil) ⟨_, xs, y, rfl, rfl, hx, hz10, n10⟩) fun _ s11 ⟨_, H11, I11, _, n11⟩ => again I11 n11
  have eenv : (cxComp X N' scope z).env = compEnvC scope (clFrom X.env.cells scope.names []) s₃.heap.objs.size X.env := by rw [← hz]; rfl
  rw [eenv] at loop
  exact codeAny_compStart_list (loop _ rfl) (T.self _ 0 _ _ _ st4 (loop _ rfl))

theorem pe_comp (N' : List Str) (sl : List (Option Nat)) {wi : TI} {g : TG} {tt : TT} {te : TE} (hc : X.calm = true) (hkind : scope.kind = .function)
    (hnames : ∀ x ∈ scope.names, x.2 = .local → scope.names.lookup x.1 = some .local)
    (hnc : ∀ y ∈ scope.names, y.2 ≠ .cell) (hfr : frOk scope X.env.scope = true)
    (hsl : slOk X.N N' sl scope X.env.scope = true) (hi : PI X target iter wi)
    (hg : ∀ z, PG (cxComp X N' scope z) target g) (ht : ∀ z, PTs (cxComp X N' scope z) ifs tt) (he : ∀ z, PE (cxComp X N' scope z) elt te)
    (hs : ∀ x, foldedSetIterable iter X.env x = pure x := by intro _; rfl) :
    PE X (.ListComp elt [⟨target, iter, ifs, 0⟩] scope pos) (tComp wi sl g tt te) := by
  have hfree := frOk.of hfr
  intro pins s σ H Q I h
  rw [eval_ListComp]
  have hcl : closureFor scope X.env = pure (clFrom X.env.cells scope.names []) := closureFor_eq fun x hx hk => I.ok.has x.1 (hfree x hx hk)
  refine wpAny_comprehension_free (use := none) rfl hs hcl hkind hnames (thn (hi pins s σ H _ I h) fun xv s₁ h₁ => thn h₁ fun itv s₂ h₂ => ?_)
  obtain ⟨it, fp, tn, J, H2, e, I2, T, st2, f2, hw⟩ := h₂
  subst e
  refine comp_block (RR := fun acc C => compPost (model X.prog X.w) X.A X.xe none (EP X pins σ Q) acc C) hc hkind hnc hfree hsl hg ht he I2 T st2 f2 hw ?_
  intro D C H' s' fC ns _ hI _ q
  obtain ⟨m, hn⟩ := ns
  exact ⟨m, hn, fun h' sb => ⟨.ref D, H', hI h' sb, rfl, q⟩⟩
/-- name = [..], a plain local name: stored while the comprehension's own names still are there -/
theorem ps_setC (N' : List Str) (sl : List (Option Nat)) {wi : TI} {g : TG} {tt : TT} {te : TE} {i : Nat} {y : Str} {py spos : Pos} (hN : X.N.Nodup) (hyi : X.N[i]? = some y) (hx : Loc X.env.scope y)
    (hsw : swapsWith (.ListComp elt [⟨target, iter, ifs, 0⟩] scope pos) (some (.Name y py)) spos.line X.env = pure true) (hc : X.calm = true) (hkind : scope.kind = .function)
    (hnames : ∀ x ∈ scope.names, x.2 = .local → scope.names.lookup x.1 = some .local)
    (hnc : ∀ y ∈ scope.names, y.2 ≠ .cell) (hfr : frOk scope X.env.scope = true)
    (hsl : slOk X.N N' sl scope X.env.scope = true) (hi : PI X target iter wi)
    (hg : ∀ z, PG (cxComp X N' scope z) target g) (ht : ∀ z, PTs (cxComp X N' scope z) ifs tt) (he : ∀ z, PE (cxComp X N' scope z) elt te)
    (hs : ∀ x, foldedSetIterable iter X.env x = pure x := by intro _; rfl) (hf : X.fn y = true ∨ X.env.scope.names.lookup y = some .local := by first | exact .inl rfl | exact .inr rfl | assumption) :
    PS X (.Assign [.Name y py] (.ListComp elt [⟨target, iter, ifs, 0⟩] scope pos) spos) (tAsg (tComp wi sl g tt te) (gName i)) := by
  have hfree := frOk.of hfr
  intro pins s σ H D I h
  rw [exec_Assign_Name_used _ _ _ _ hsw]
  refine wpAny_bind (wpAny_standAt (wpAny_bind ?_))
  show wpAny _ _ (do let _ ← comprehension (.ListComp elt [⟨target, iter, ifs, 0⟩] scope pos) scope X.env _ (newList []) false (eval iter X.env) (some (assign (.Name y py) X.env))) _ _ s
  have hcl : closureFor scope X.env = pure (clFrom X.env.cells scope.names []) := closureFor_eq fun x hx hk => I.ok.has x.1 (hfree x hx hk)
  refine wpAny_bind (wpAny_mono (wpAny_comprehension_free (use := some (assign (.Name y py) X.env)) (Q := fun _ s' => SP X pins D .next s') rfl hs hcl hkind hnames
    (thn (hi pins s σ H _ I h) fun xv s₁ h₁ => thn h₁ fun itv s₂ h₂ => ?_)) (fun _ s' hq => wpAny_pure (wpAny_pure hq)) fun _ _ e => e)
  obtain ⟨it, fp, tn, J, H2, e, I2, T, st2, f2, hw⟩ := h₂
  subst e
  refine comp_block (RR := fun acc C => compPost (model X.prog X.w) X.A X.xe (some (assign (.Name y py) X.env)) (fun _ s' => SP X pins D .next s') acc C) hc hkind hnc hfree hsl hg ht he I2 T st2 f2 hw ?_
  intro E C H' s' fC ns fp hI I' q
  obtain ⟨m, hn⟩ := ns
  show wpAny _ _ (assign (.Name y py) X.env (.ref E)) _ _ _
  refine wpAny_assign_Name (store_ok2 I' hN hyi hx (v := .ref E) rfl (fun s2 I2 ⟨a, sb, ha⟩ => ?_) hf)
  have hCa : C ≠ a := by
    rcases ha with ha | ha
    · rw [ha]; exact fp.2.1
    · exact fun z => fp.2.2.2.2.1 _ _ ha z.symm
  exact ⟨m, hn.sameBut sb hCa, fun h3 sb3 => ⟨_, H', I2.turned (t' := s2.toks) (fun b o hb e => (sb3.2 b hb).trans e) fp.1 fp.2.1 fp.2.2.2.1 fp.2.2.2.2.1 fp.2.2.2.2.2, q⟩⟩
end
end L3

set_option maxHeartbeats 4000000
namespace L3
open PySem PySem.Spec PyProof.Rows L2

/-! ### plain data behind a value -/
mutual
def Rep (H : Hp) : PyData → V → Prop
  | .none, v => v = .non
  | .bool b, v => v = .bl b
  | .int i, v => v = .int i
  | .str x, v => v = .str x ∧ PyData.strOk x = true
  | .tuple ds, v => ∃ a xs, v = .ref a ∧ H a = some (.tup xs) ∧ RepAll H ds xs
  | .list ds, v => ∃ a xs, v = .ref a ∧ H a = some (.lst xs) ∧ RepAll H ds xs
  | .dict _, _ => False
def RepAll (H : Hp) : List PyData → List V → Prop
  | [], xs => xs = []
  | d :: ds, xs => ∃ x r, xs = x :: r ∧ Rep H d x ∧ RepAll H ds r
end
/-! no list within -/
mutual
def imm : PyData → Bool
  | .none => true
  | .bool _ => true
  | .int _ => true
  | .str _ => true
  | .tuple ds => immAll ds
  | .list _ => false
  | .dict _ => false
def immAll : List PyData → Bool
  | [] => true
  | d :: ds => imm d && immAll ds
end
/-- tuples stay -/
def Tk (H H' : Hp) : Prop := ∀ b xs, H b = some (.tup xs) → H' b = some (.tup xs)
theorem Tk.refl (H : Hp) : Tk H H := fun _ _ h => h
theorem Tk.trans {H H1 H2 : Hp} (a : Tk H H1) (b : Tk H1 H2) : Tk H H2 := fun c o h => b c o (a c o h)
theorem Tk.of_same {H H' : Hp} (h : Same H H') : Tk H H' := fun b xs q => h b _ q
theorem Tk.fresh {H : Hp} {p : Addr} {o : HO} (h : H p = none) : Tk H (upd H p o) := fun b xs q => by rw [upd_ne (ne_of_none q h)]; exact q
theorem Tk.lst {H : Hp} {p : Addr} {xs : List V} {o : HO} (h : H p = some (.lst xs)) : Tk H (upd H p o) := fun b ys q => by rw [upd_ne (ne_of q h (by intro z; cases z))]; exact q
mutual
theorem Rep.tk {H H' : Hp} (t : Tk H H') : ∀ {d : PyData} {v : V}, imm d = true → Rep H d v → Rep H' d v
  | .none, _, _, h => h
  | .bool _, _, _, h => h
  | .int _, _, _, h => h
  | .str _, _, _, h => h
  | .tuple ds, v, hi, h => by
    obtain ⟨a, xs, e, ha, r⟩ := h
    exact ⟨a, xs, e, t _ _ ha, RepAll.tk t hi r⟩
  | .list _, _, hi, _ => absurd hi Bool.false_ne_true
  | .dict _, _, hi, _ => absurd hi Bool.false_ne_true
theorem RepAll.tk {H H' : Hp} (t : Tk H H') : ∀ {ds : List PyData} {xs : List V}, immAll ds = true → RepAll H ds xs → RepAll H' ds xs
  | [], _, _, h => h
  | d :: ds, xs, hi, h => by
    obtain ⟨x, r, e, h1, h2⟩ := h
    have hi' : (imm d && immAll ds) = true := hi
    rw [Bool.and_eq_true] at hi'
    exact ⟨x, r, e, Rep.tk t hi'.1 h1, RepAll.tk t hi'.2 h2⟩
end
mutual
theorem Rep.same {H H' : Hp} (t : Same H H') : ∀ {d : PyData} {v : V}, Rep H d v → Rep H' d v
  | .none, _, h => h
  | .bool _, _, h => h
  | .int _, _, h => h
  | .str _, _, h => h
  | .tuple ds, v, h => by
    obtain ⟨a, xs, e, ha, r⟩ := h
    exact ⟨a, xs, e, t _ _ ha, RepAll.same t r⟩
  | .list ds, v, h => by
    obtain ⟨a, xs, e, ha, r⟩ := h
    exact ⟨a, xs, e, t _ _ ha, RepAll.same t r⟩
  | .dict _, _, h => h
theorem RepAll.same {H H' : Hp} (t : Same H H') : ∀ {ds : List PyData} {xs : List V}, RepAll H ds xs → RepAll H' ds xs
  | [], _, h => h
  | d :: ds, xs, h => by
    obtain ⟨x, r, e, h1, h2⟩ := h
    exact ⟨x, r, e, Rep.same t h1, RepAll.same t h2⟩
end
theorem RepAll.length {H : Hp} : ∀ {ds : List PyData} {xs : List V}, RepAll H ds xs → xs.length = ds.length
  | [], xs, h => by have e : xs = [] := h; rw [e]; rfl
  | d :: ds, xs, h => by
    obtain ⟨x, r, e, _, h2⟩ := h
    rw [e, List.length_cons, List.length_cons, RepAll.length h2]
theorem RepAll.get {H : Hp} : ∀ {ds : List PyData} {xs : List V} {i : Nat} {d : PyData}, RepAll H ds xs → ds[i]? = some d → ∃ x, xs[i]? = some x ∧ Rep H d x
  | [], _, _, _, _, e => by simp at e
  | d :: ds, xs, 0, d', h, e => by
    obtain ⟨x, r, e1, h1, _⟩ := h
    subst e1
    simp at e; subst e
    exact ⟨x, rfl, h1⟩
  | d :: ds, xs, i + 1, d', h, e => by
    obtain ⟨x, r, e1, _, h2⟩ := h
    subst e1
    obtain ⟨y, h3, h4⟩ := RepAll.get (i := i) h2 (by simpa using e)
    exact ⟨y, by simpa using h3, h4⟩
theorem RepAll.at {H : Hp} {ds : List PyData} {xs : List V} {i : Nat} {x : V} (h : RepAll H ds xs) (e : xs[i]? = some x) : ∃ d, ds[i]? = some d ∧ Rep H d x := by
  have hi : i < xs.length := (List.getElem?_eq_some_iff.mp e).1
  have hi' : i < ds.length := by rw [← h.length]; exact hi
  obtain ⟨y, h1, h2⟩ := h.get (List.getElem?_eq_getElem hi')
  rw [e] at h1; cases h1
  exact ⟨_, List.getElem?_eq_getElem hi', h2⟩
theorem RepAll.append {H : Hp} : ∀ {ds es : List PyData} {xs ys : List V}, RepAll H ds xs → RepAll H es ys → RepAll H (ds ++ es) (xs ++ ys)
  | [], es, xs, ys, h, h' => by have e : xs = [] := h; rw [e]; exact h'
  | d :: ds, es, xs, ys, h, h' => by
    obtain ⟨x, r, e, h1, h2⟩ := h
    subst e
    exact ⟨x, r ++ ys, rfl, h1, RepAll.append h2 h'⟩
theorem RepAll.snoc {H : Hp} {ds : List PyData} {d : PyData} {xs : List V} {x : V} (h : RepAll H ds xs) (h' : Rep H d x) : RepAll H (ds ++ [d]) (xs ++ [x]) := h.append ⟨x, [], rfl, h', rfl⟩
theorem RepAll.drop {H : Hp} : ∀ {ds : List PyData} {xs : List V} (n : Nat), RepAll H ds xs → RepAll H (ds.drop n) (xs.drop n)
  | _, _, 0, h => h
  | [], xs, n + 1, h => by have e : xs = [] := h; rw [e]; rfl
  | d :: ds, xs, n + 1, h => by
    obtain ⟨x, r, e, _, h2⟩ := h
    subst e
    exact RepAll.drop n h2
theorem RepAll.take {H : Hp} : ∀ {ds : List PyData} {xs : List V} (n : Nat), RepAll H ds xs → RepAll H (ds.take n) (xs.take n)
  | _, _, 0, _ => rfl
  | [], xs, n + 1, h => by have e : xs = [] := h; rw [e]; rfl
  | d :: ds, xs, n + 1, h => by
    obtain ⟨x, r, e, h1, h2⟩ := h
    subst e
    exact ⟨x, r.take n, rfl, h1, RepAll.take n h2⟩
mutual
theorem Rep.lay {H : Hp} : ∀ {d : PyData} {v : V}, Rep H d v → d.canLay0 = true
  | .none, _, _ => rfl
  | .bool _, _, _ => rfl
  | .int _, _, _ => rfl
  | .str _, _, h => h.2
  | .tuple ds, _, h => by
    obtain ⟨_, _, _, _, r⟩ := h
    exact RepAll.lay r
  | .list ds, _, h => by
    obtain ⟨_, _, _, _, r⟩ := h
    exact RepAll.lay r
  | .dict _, _, h => h.elim
theorem RepAll.lay {H : Hp} : ∀ {ds : List PyData} {xs : List V}, RepAll H ds xs → PyData.canLayAll0 ds = true
  | [], _, _ => rfl
  | d :: ds, _, h => by
    obtain ⟨x, r, e, h1, h2⟩ := h
    show (d.canLay0 && PyData.canLayAll0 ds) = true
    rw [Rep.lay h1, RepAll.lay h2]
    rfl
end
section
variable {X : Cx} {pins : List (Addr × Obj)} {σ : L2.St} {H : Hp} {s : Shared}
mutual
theorem Rep.reads (I : Inv X pins σ H s) : ∀ {d : PyData} {v : V} {u : Value}, Rep H d v → RelV v u → ∃ as, Reads s.heap u d as
  | .none, v, u, h, r => by cases (show v = .non from h); cases (show u = Value.none from r); exact ⟨_, .none⟩
  | .bool b, v, u, h, r => by cases (show v = .bl b from h); cases (show u = Value.bool b from r); exact ⟨_, .bool b⟩
  | .int i, v, u, h, r => by
    cases (show v = .int i from h)
    obtain ⟨t, e⟩ := (show ∃ t, u = Value.int i t from r)
    cases e; exact ⟨_, .int i t⟩
  | .str x, v, u, h, r => by
    cases (show v = .str x from h.1)
    obtain ⟨t, e⟩ := (show ∃ t, u = Value.str x t from r)
    cases e; exact ⟨_, .str x t⟩
  | .tuple ds, v, u, h, r => by
    obtain ⟨a, xs, e, ha, q⟩ := h
    subst e
    cases (show u = Value.ref a from r)
    obtain ⟨its, rv, ⟨o, e1, e2, n, e3⟩, _⟩ := I.tuple (SqT.of (K := X.K) ha)
    obtain ⟨as, z⟩ := RepAll.reads I q rv
    exact ⟨as, .tuple e1 e2 e3 z⟩
  | .list ds, v, u, h, r => by
    obtain ⟨a, xs, e, ha, q⟩ := h
    subst e
    cases (show u = Value.ref a from r)
    obtain ⟨its, rv, ⟨o, n, e1, e2, _, e3⟩, _⟩ := I.list (SqL.of (K := X.K) ha)
    obtain ⟨as, z⟩ := RepAll.reads I q rv
    exact ⟨_, .list e1 e2 e3 z⟩
  | .dict _, _, _, h, _ => h.elim
theorem RepAll.reads (I : Inv X pins σ H s) : ∀ {ds : List PyData} {xs : List V} {us : List Value}, RepAll H ds xs → Vals xs us → ∃ as, ReadsAll s.heap us ds as
  | [], xs, us, h, r => by
    cases (show xs = [] from h)
    cases r
    exact ⟨_, .nil⟩
  | d :: ds, xs, us, h, r => by
    obtain ⟨x, t, e, h1, h2⟩ := h
    subst e
    cases r with
    | cons r1 r2 =>
      obtain ⟨as, z1⟩ := Rep.reads I h1 r1
      obtain ⟨bs, z2⟩ := RepAll.reads I h2 r2
      exact ⟨_, .cons z1 z2⟩
end
end

/-! ### ==, !=, in, not in over data -/
def rEqD (neg : Bool) : R2 := fun x y H Q => ∃ dx dy, Rep H dx x ∧ Rep H dy y ∧ dx.depth ≤ 60 ∧ Q (.bl (if neg then !PyData.eqv dx dy else PyData.eqv dx dy)) H
section
variable {X : Cx}
theorem op_eqD (hu : X.A.units + 64 < cLine) : OpR X (compareOp .Eq) (rEqD false) := by
  intro pins s σ H x y v u Q I rx ry h
  obtain ⟨dx, dy, hx, hy, hd, q⟩ := h
  obtain ⟨as, r1⟩ := hx.reads I rx
  obtain ⟨bs, r2⟩ := hy.reads I ry
  exact SeqAt.compareEq_reads r1 r2 hx.lay hy.lay (by have := Nat.min_le_left dx.depth dy.depth; omega) ⟨.bl _, H, I, rfl, q⟩
theorem op_neD (hu : X.A.units + 64 < cLine) : OpR X (compareOp .NotEq) (rEqD true) := by
  intro pins s σ H x y v u Q I rx ry h
  obtain ⟨dx, dy, hx, hy, hd, q⟩ := h
  obtain ⟨as, r1⟩ := hx.reads I rx
  obtain ⟨bs, r2⟩ := hy.reads I ry
  exact SeqAt.compareNe_reads r1 r2 hx.lay hy.lay (by have := Nat.min_le_left dx.depth dy.depth; omega) ⟨.bl _, H, I, rfl, q⟩
/-- x in a list or a tuple of data -/
def rInD (neg : Bool) : R2 := fun x y H Q => ∃ d p xs ds, Rep H d x ∧ y = .ref p ∧ (H p = some (.lst xs) ∨ H p = some (.tup xs)) ∧ RepAll H ds xs ∧ d.depth ≤ 60 ∧
  Q (.bl (if neg then !(ds.any fun e => PyData.eqv e d) else ds.any fun e => PyData.eqv e d)) H
theorem op_inD (hu : X.A.units + 64 < cLine) : OpR X (compareOp .In) (rInD false) := by
  intro pins s σ H x y v u Q I rx ry h
  obtain ⟨d, p, xs, ds, hx, rfl, hp, hds, hd, q⟩ := h
  cases ry
  obtain ⟨bs, r2⟩ := hx.reads I rx
  have room : X.A.units + 1 + min (PyData.depthAll ds) d.depth < cLine := by have := Nat.min_le_right (PyData.depthAll ds) d.depth; omega
  rcases hp with hp | hp
  · obtain ⟨as, r1⟩ := Rep.reads I (d := .list ds) (v := .ref p) (u := .ref p) ⟨p, xs, rfl, hp, hds⟩ rfl
    exact SeqAt.in_list_reads r1 r2 hds.lay hx.lay room ⟨.bl _, H, I, rfl, q⟩
  · obtain ⟨as, r1⟩ := Rep.reads I (d := .tuple ds) (v := .ref p) (u := .ref p) ⟨p, xs, rfl, hp, hds⟩ rfl
    exact SeqAt.in_tuple_reads r1 r2 hds.lay hx.lay room ⟨.bl _, H, I, rfl, q⟩
theorem op_notInD (hu : X.A.units + 64 < cLine) : OpR X (compareOp .NotIn) (rInD true) := by
  intro pins s σ H x y v u Q I rx ry h
  obtain ⟨d, p, xs, ds, hx, rfl, hp, hds, hd, q⟩ := h
  cases ry
  obtain ⟨bs, r2⟩ := hx.reads I rx
  have room : X.A.units + 1 + min (PyData.depthAll ds) d.depth < cLine := by have := Nat.min_le_right (PyData.depthAll ds) d.depth; omega
  rcases hp with hp | hp
  · obtain ⟨as, r1⟩ := Rep.reads I (d := .list ds) (v := .ref p) (u := .ref p) ⟨p, xs, rfl, hp, hds⟩ rfl
    exact SeqAt.notIn_list_reads r1 r2 hds.lay hx.lay room ⟨.bl _, H, I, rfl, q⟩
  · obtain ⟨as, r1⟩ := Rep.reads I (d := .tuple ds) (v := .ref p) (u := .ref p) ⟨p, xs, rfl, hp, hds⟩ rfl
    exact SeqAt.notIn_tuple_reads r1 r2 hds.lay hx.lay room ⟨.bl _, H, I, rfl, q⟩

/-! ### isinstance -/
theorem call_isinst : CallR X (.builtin "isinstance") (fun xs H Q => ∃ x T t b, xs = [x, .ty T] ∧ TyOf X.K H x t ∧ PySem.W.kitOne X.K t (.type T) = some b ∧ Q (.bl b) H) := by
  intro pins s σ H xs us Q I r h
  obtain ⟨x, T, t, b, rfl, ty, e, q⟩ := h
  obtain ⟨u, w', rfl, r1, r2⟩ := vals2 r
  cases (show w' = Value.type T from r2)
  exact isinst_ok I r1 ty e fun tk => ⟨.bl b, H, I.tok _, rfl, q⟩
end

/-! ### sorted: a list of tuples of ints and texts -/
def fltLt : PyData → PyData → Bool
  | .int a, .int b => decide (a < b)
  | .str a, .str b => decide (a.cps.toList < b.cps.toList)
  | _, _ => false
def rowLt : List PyData → List PyData → Bool
  | [], [] => false
  | [], _ :: _ => true
  | _ :: _, [] => false
  | x :: xs, y :: ys => if PyData.eqv x y = true then rowLt xs ys else fltLt x y
/-- what a row is made of: true an int, false a text -/
def Row : List Bool → List PyData → Prop
  | [], ds => ds = []
  | true :: ks, ds => ∃ i r, ds = .int i :: r ∧ Row ks r
  | false :: ks, ds => ∃ x r, ds = .str x :: r ∧ Row ks r
def rowOf : PyData → List PyData
  | .tuple ds => ds
  | _ => []
def ltAtD (ds : List PyData) (i j : Nat) : Bool := rowLt (rowOf (ds.getD i .none)) (rowOf (ds.getD j .none))
def sortD (ds : List PyData) : List PyData := (srt (ltAtD ds) ds.length).map fun i => ds.getD i .none
section
variable {prog : Program} {w : World} {A : Around} {E : Value → Shared → Prop} {s : Shared} {Q : Bool → Shared → Prop}
theorem lex_rows : ∀ {ks : List Bool} {xs ys : List PyData} {us vs : List Value} {as bs : List Addr} {i : Nat}, Row ks xs → Row ks ys → ReadsAll s.heap us xs as → ReadsAll s.heap vs ys bs → Q (rowLt xs ys) s →
    PySem.W.KatLex prog w A true false Q (us.zip vs) i s
  | [], xs, ys, us, vs, as, bs, i, h1, h2, r1, r2, q => by
    cases (show xs = [] from h1); cases (show ys = [] from h2)
    cases r1; cases r2
    exact q
  | true :: ks, xs, ys, us, vs, as, bs, i, h1, h2, r1, r2, q => by
    obtain ⟨a, xr, rfl, h1⟩ := h1
    obtain ⟨b, yr, rfl, h2⟩ := h2
    cases r1 with
    | cons ra r1 =>
      cases r2 with
      | cons rb r2 =>
        cases ra with
        | int _ t =>
          cases rb with
          | int _ u =>
            rw [List.zip_cons_cons]
            refine PySem.W.kat_cons (SeqAt.EqAt.int_int a t b u prog w _ _ ?_)
            have q' : Q (if PyData.eqv (.int a) (.int b) = true then rowLt xr yr else fltLt (.int a) (.int b)) s := q
            have e : PyData.eqv (.int a) (.int b) = (a == b) := rfl
            rw [e] at q'
            cases hb : (a == b) with
            | true => rw [hb, if_pos rfl] at q'; exact PySem.W.kat_yes (lex_rows h1 h2 r1 r2 q')
            | false =>
              rw [hb, if_neg Bool.false_ne_true] at q'
              refine PySem.W.kat_no ?_
              cases hi : (i == 0) with
              | true => exact oneLt_int q'
              | false => exact PySem.W.kat_one _ _ (lt_int q')
  | false :: ks, xs, ys, us, vs, as, bs, i, h1, h2, r1, r2, q => by
    obtain ⟨a, xr, rfl, h1⟩ := h1
    obtain ⟨b, yr, rfl, h2⟩ := h2
    cases r1 with
    | cons ra r1 =>
      cases r2 with
      | cons rb r2 =>
        cases ra with
        | str _ t =>
          cases rb with
          | str _ u =>
            rw [List.zip_cons_cons]
            refine PySem.W.kat_cons (SeqAt.EqAt.str_str a t b u prog w _ _ ?_)
            have q' : Q (if PyData.eqv (.str a) (.str b) = true then rowLt xr yr else fltLt (.str a) (.str b)) s := q
            have e : PyData.eqv (.str a) (.str b) = (a == b) := rfl
            rw [e] at q'
            cases hb : (a == b) with
            | true => rw [hb, if_pos rfl] at q'; exact PySem.W.kat_yes (lex_rows h1 h2 r1 r2 q')
            | false =>
              rw [hb, if_neg Bool.false_ne_true] at q'
              refine PySem.W.kat_no ?_
              cases hi : (i == 0) with
              | true => exact oneLt_str q'
              | false => exact PySem.W.kat_one _ _ (PyProof.Rows.lt_str q')
end
theorem Row.len {ks : List Bool} : ∀ {ds : List PyData}, Row ks ds → ds.length = ks.length := by
  induction ks with
  | nil => intro ds h; cases (show ds = [] from h); rfl
  | cons k ks ih =>
    intro ds h
    cases k with
    | true => obtain ⟨i, r, rfl, h⟩ := h; rw [List.length_cons, List.length_cons, ih h]
    | false => obtain ⟨i, r, rfl, h⟩ := h; rw [List.length_cons, List.length_cons, ih h]
/-- a list whose items are rows of one make, the first part an int -/
def Rows (ks : List Bool) (ds : List PyData) : Prop := ∀ d ∈ ds, ∃ r, d = .tuple r ∧ Row (true :: ks) r
section
variable {X : Cx}
theorem tup_of (I : Inv X pins σ H s) {ks : List Bool} {d : PyData} {v : V} {u : Value} (h : Rep H d v) (r : RelV v u) {row : List PyData} (e : d = .tuple row) (hr : Row (true :: ks) row) :
    ∃ a o vs n as i t, u = .ref a ∧ s.heap.get? a = some o ∧ o.cls = .type "tuple" ∧ o.data = .seq vs n ∧ ReadsAll s.heap vs.toList row as ∧ vs[0]? = some (.int i t) := by
  subst e
  obtain ⟨as, z⟩ := h.reads I r
  cases z with
  | @tuple a o vs n _ _ e1 e2 e3 z =>
    obtain ⟨i, rr, rfl, _⟩ := hr
    have z' := z
    generalize hv : vs.toList = vl at z
    cases z with
    | cons ra rb =>
      cases ra with
      | int _ t =>
        refine ⟨a, o, vs, n, _, i, t, rfl, e1, e2, e3, z', ?_⟩
        rw [← Array.getElem?_toList, hv]
        rfl
theorem kat_tups (I : Inv X pins σ H s) {ks : List Bool} : ∀ {ds : List PyData} {xs : List V} {us : List Value}, RepAll H ds xs → Vals xs us → Rows ks ds → ∃ fs : List Value, PySem.W.KatTups s.heap us fs ∧ fs.length = ds.length ∧ ∀ v ∈ fs, ∃ i t, v = Value.int i t
  | [], xs, us, h, r, _ => by
    cases (show xs = [] from h); cases r
    exact ⟨[], trivial, rfl, fun v hv => by cases hv⟩
  | d :: ds, xs, us, h, r, hr => by
    obtain ⟨x, t, e, h1, h2⟩ := h
    subst e
    cases r with
    | cons r1 r2 =>
      obtain ⟨row, e, hrow⟩ := hr d List.mem_cons_self
      obtain ⟨a, o, vs, n, as, i, tk, rfl, e1, e2, e3, _, e4⟩ := tup_of I h1 r1 e hrow
      obtain ⟨fs, k1, k2, k3⟩ := kat_tups I h2 r2 fun d hd => hr d (List.mem_cons_of_mem _ hd)
      refine ⟨.int i tk :: fs, PySem.W.KatTups.cons e1 e2 e3 e4 k1, by rw [List.length_cons, List.length_cons, k2], fun v hv => ?_⟩
      rcases List.mem_cons.mp hv with rfl | hv
      · exact ⟨i, tk, rfl⟩
      · exact k3 v hv
theorem KatTups.keeps {h h' : Heap} (k : ∀ b o, h.get? b = some o → h'.get? b = some o) : ∀ {vs fs : List Value}, PySem.W.KatTups h vs fs → PySem.W.KatTups h' vs fs
  | [], [], _ => trivial
  | v :: vs, f :: fs, x => by
    obtain ⟨⟨a, o, xs, n, e, e1, e2⟩, r⟩ := x
    exact ⟨⟨a, o, xs, n, e, k _ _ e1, e2⟩, KatTups.keeps k r⟩
  | [], _ :: _, x => x.elim
  | _ :: _, [], x => x.elim
theorem RepAll.pick {H : Hp} {ds : List PyData} {xs : List V} (h : RepAll H ds xs) : ∀ {is : List Nat}, (∀ i ∈ is, i < ds.length) → RepAll H (is.map fun i => ds.getD i .none) (is.map fun i => xs.getD i .non)
  | [], _ => rfl
  | i :: is, hi => by
    have h1 : i < ds.length := hi i List.mem_cons_self
    obtain ⟨x, e1, e2⟩ := h.get (List.getElem?_eq_getElem h1)
    refine ⟨xs.getD i .non, _, rfl, ?_, RepAll.pick h fun j hj => hi j (List.mem_cons_of_mem _ hj)⟩
    show Rep H (ds.getD i .none) (xs.getD i .non)
    rw [List.getD_eq_getElem?_getD, List.getD_eq_getElem?_getD, e1, List.getElem?_eq_getElem h1]
    exact e2
theorem Vals.pick {xs : List V} {us : List Value} (h : Vals xs us) : ∀ {is : List Nat}, (∀ i ∈ is, i < xs.length) → Vals (is.map fun i => xs.getD i .non) (is.map fun i => us.getD i Value.none)
  | [], _ => .nil
  | i :: is, hi => by
    have h1 : i < xs.length := hi i List.mem_cons_self
    obtain ⟨u, e1, e2⟩ := h.get (List.getElem?_eq_getElem h1)
    refine .cons ?_ (Vals.pick h fun j hj => hi j (List.mem_cons_of_mem _ hj))
    show L2.RelV (xs.getD i .non) (us.getD i Value.none)
    rw [List.getD_eq_getElem?_getD, List.getD_eq_getElem?_getD, e1, List.getElem?_eq_getElem h1]
    exact e2
theorem call_sortedD : CallR X (.builtin "sorted") (fun vs H Q => ∃ p xs ds ks, vs = [.ref p] ∧ H p = some (.lst xs) ∧ RepAll H ds xs ∧ Rows ks ds ∧ ds.length < 64 ∧
    ∀ l ys, H l = none → RepAll (upd H l (.lst ys)) (sortD ds) ys → Q (.ref l) (upd H l (.lst ys))) := by
  intro pins s σ H xs us Q I r h
  obtain ⟨p, xs, ds, ks, rfl, hp, hds, hrows, h64, q⟩ := h
  obtain ⟨u, rfl, r1⟩ := vals1 r
  cases (show u = Value.ref p from r1)
  obtain ⟨its, rv, pl, hz⟩ := I.list (SqL.of (K := X.K) hp)
  have l1 : xs.length = ds.length := hds.length
  have l2 : xs.length = its.length := rv.length
  obtain ⟨fs, kt, kf, ki⟩ := kat_tups I hds rv hrows
  obtain ⟨as, rds⟩ := RepAll.reads I hds rv
  refine sorted_by (κ := tuples' true) (lt := ltAtD ds) pl.isList (by omega) (fun h2 s' k => ⟨fun Q' E' hq => ?_, fun i j hi hj Q' hq => ?_⟩) ?_
  · refine PySem.W.kat_kind (T := Value.type "int") (KatTups.keeps k kt) (by omega) (fun v hv => ?_) rfl hq
    obtain ⟨i, t, rfl⟩ := ki v hv
    exact PySem.W.Looks.of_pure rfl
  · have tup : ∀ i, i < its.length → ∃ a o vs n bs row, its.getD i Value.none = .ref a ∧ ds.getD i .none = .tuple row ∧ Row (true :: ks) row ∧ s'.heap.get? a = some o ∧ o.data = .seq vs n ∧ ReadsAll s'.heap vs.toList row bs := fun i hi => by
      have hi' : i < ds.length := by omega
      obtain ⟨x, e1, e2⟩ := hds.get (List.getElem?_eq_getElem hi')
      obtain ⟨u, e3, e4⟩ := rv.get e1
      obtain ⟨row, e5, hrow⟩ := hrows _ (List.getElem_mem hi')
      obtain ⟨a, o, vs, n, bs, _, _, rfl, g1, _, g3, g4, _⟩ := tup_of I e2 e4 e5 hrow
      refine ⟨a, o, vs, n, bs, row, ?_, ?_, hrow, k _ _ g1, g3, ReadsAll.keeps k g4⟩
      · rw [List.getD_eq_getElem?_getD, e3]; rfl
      · rw [List.getD_eq_getElem?_getD, List.getElem?_eq_getElem hi', e5]; rfl
    obtain ⟨a, o, vs, n, as1, row, e1, e2, e3, e4, e5, e6⟩ := tup i hi
    obtain ⟨a', o', vs', n', as2, row', f1, f2, f3, f4, f5, f6⟩ := tup j hj
    rw [e1, f1]
    have hq' : Q' (rowLt row row') s' := by
      have : ltAtD ds i j = rowLt row row' := by unfold ltAtD; rw [e2, f2]; rfl
      rw [← this]; exact hq
    have z1 : vs.size = ks.length + 1 := by have q1 := SeqAt.ReadsAll.length _ _ _ e6; have q2 := e3.len; simp at q1 q2; omega
    have z2 : vs'.size = ks.length + 1 := by have q1 := SeqAt.ReadsAll.length _ _ _ f6; have q2 := f3.len; simp at q1 q2; omega
    refine PySem.W.kat_lt e4 e5 f4 f5 ?_
    rw [decide_eq_false (by omega)]
    exact lex_rows e3 f3 e6 f6 hq'
  · have hl : ∀ i ∈ srt (ltAtD ds) its.length, i < xs.length := fun i hi => by have := srt_lt _ _ i hi; omega
    obtain ⟨e, he⟩ := sortedAll_at s.heap its (List.toArray ((srt (ltAtD ds) its.length).map fun i => its.getD i Value.none))
    have hn : H (s.heap.objs.size + 1) = none := I.hok.fresh (Nat.le_succ _)
    have hv := Vals.pick rv hl
    have hz' : ((srt (ltAtD ds) its.length).map fun i => xs.getD i .non).length ≤ sizeLine := by rw [List.length_map, srt_length]; omega
    have hsame : Same H (upd H (s.heap.objs.size + 1) (.lst ((srt (ltAtD ds) its.length).map fun i => xs.getD i .non))) := fun b o q => by rw [upd_ne (ne_of_none q hn)]; exact q
    refine ⟨.ref (s.heap.objs.size + 1), _, I.laid (t' := s.toks) (o := .lst ((srt (ltAtD ds) its.length).map fun i => xs.getD i .non)) (fun b u e => sortedAll_old e) (Nat.le_succ _) ⟨hz', _, e, hv, he⟩, rfl, q _ _ hn ?_⟩
    unfold sortD
    rw [← l1, l2]
    refine (RepAll.pick hds (is := srt (ltAtD ds) its.length) fun i hi => by have := hl i hi; omega).same hsame
end
end L3

set_option maxHeartbeats 4000000
namespace L3
open PySem PySem.Spec PyProof.Rows L2

/-! ### arguments without a star: shown by the head alone -/
def notStar : Expr → Bool
  | .Starred _ _ => false
  | _ => true
theorem star_cons {e : Expr} {es : List Expr} {env : Env} (h : notStar e = true) : starEach (e :: es) env = (false, eval e env) :: starEach es env := by
  cases e <;> first | rfl | exact absurd h Bool.false_ne_true
theorem star_none {pos : Pos} {env : Env} : ∀ {es : List Expr}, es.all notStar = true → (backTo pos (starEach es env)).any (·.1) = false
  | [], _ => rfl
  | e :: es, h => by
    rw [List.all_cons, Bool.and_eq_true] at h
    rw [star_cons h.1]
    show (false || (backTo pos (starEach es env)).any (·.1)) = false
    rw [star_none h.2]
    rfl
theorem pa_c {X : Cx} {e : Expr} {es : List Expr} {te : TE} {t : TA} (ha : PE X e te) (hr : PA X es t) (h : notStar e = true := by rfl) : PA X (e :: es) (tCons te t) := pa_cons ha hr (star_cons h)
theorem pe_cB {X : Cx} {x : Str} {p pos : Pos} {e : Expr} {es : List Expr} {t : TA} {id : String} {r : List V → Hp → VK → Prop} (hc : CallR X (.builtin id) r) (hg : Gl X x) (hm : X.mg x = none) (hv : bootBuiltins x = some (.builtin id)) (ha : PA X (e :: es) t)
    (hn : x ≠ "__name__" := by decide) (hdb : (x == ("__debug__" : Str)) = false := by decide) (h1 : notStar e = true := by rfl) (h2 : es.all notStar = true := by rfl) : PE X (.Call (.Name x p) (e :: es) [] pos) (tCB r t) :=
  pe_callB hc hg hm hv ha hn hdb (star_cons h1) (star_none h2)
theorem pe_cT {X : Cx} {x : Str} {p pos : Pos} {e : Expr} {es : List Expr} {t : TA} {T : String} {r : List V → Hp → VK → Prop} (hc : CallR X (.type T) r) (hg : Gl X x) (hm : X.mg x = none) (hv : bootBuiltins x = some (.type T)) (ha : PA X (e :: es) t)
    (hn : x ≠ "__name__" := by decide) (hdb : (x == ("__debug__" : Str)) = false := by decide) (h1 : notStar e = true := by rfl) (h2 : es.all notStar = true := by rfl) : PE X (.Call (.Name x p) (e :: es) [] pos) (tCB r t) :=
  pe_callTy hc hg hm hv ha hn hdb (star_cons h1) (star_none h2)

theorem pi_r1 {X : Cx} {tg a : Expr} {ta : TA} {p pos : Pos} (hg : Gl X "range") (hm : X.mg "range" = none) (ha : PA X [a] ta) (h : notStar a = true := by rfl) : PI X tg (.Call (.Name "range" p) [a] [] pos) (iRng1 ta) :=
  pi_range1 hg hm ha (star_cons h)
theorem pi_r2 {X : Cx} {tg a b : Expr} {ta : TA} {p pos : Pos} (hg : Gl X "range") (hm : X.mg "range" = none) (ha : PA X [a, b] ta) (h : notStar a = true := by rfl) (h2 : notStar b = true := by rfl) : PI X tg (.Call (.Name "range" p) [a, b] [] pos) (iRng2 ta) :=
  pi_range2 hg hm ha (by rw [star_cons h, star_cons h2]; rfl) (by rw [star_cons h2]; rfl)
/-! ### a def by its name -/
def Fn (P : Program) (w : World) (K : PySem.W.Frag) (mg : Str → Option Value) (base : Heap) (x : Str) (k : Nat) (ps : List Str) (sp : Sp) : Prop :=
  ∃ f fd, FnOk P w K mg base CX0 k f fd ps sp ∧ mg x = some (.ref f) ∧ PySem.W.keepIn K (.ref f) = true ∧ Binds K fd ps []
section
variable {X : Cx} {k j : Nat} {ps : List Str} {sp : Sp} {x : Str} {p pos kpos : Pos} {e e2 : Expr} {es : List Expr} {t tk : TA} {te : TE}
theorem pe_fn (F : Fn X.prog X.w X.K X.mg X.base x k ps sp) (hr : Room j X.A) (hk : k ≤ j) (hg : Gl X x)
    (ha : PA X (e :: es) t) (hdb : (x == ("__debug__" : Str)) = false := by decide) (h1 : notStar e = true := by rfl) (h2 : es.all notStar = true := by rfl) :
    PE X (.Call (.Name x p) (e :: es) [] pos) (tCall sp [] E0 t) := by
  obtain ⟨f, fd, F, m, kp, b⟩ := F
  exact pe_call F (hr.mono hk) hg m kp b .nil pass0 ha hdb (star_cons h1) (star_none h2)

/-! ### min of a list of ints, with and without a default -/
def rMin : List V → Hp → VK → Prop := fun xs H Q => ∃ q, ∃ ns : List Int, xs = [.ref q] ∧ H q = some (.lst (ns.map V.int)) ∧ 0 < ns.length ∧ ∀ M, M ∈ ns → (∀ a ∈ ns, M ≤ a) → Q (.int M) H
theorem call_minL (hc : X.calm = true) : CallR X (.builtin "min") rMin := by
  intro pins s σ H xs us Q I r h
  obtain ⟨q, ns, rfl, hq, hn, h⟩ := h
  obtain ⟨u, rfl, r1⟩ := vals1 r
  cases (show u = Value.ref q from r1)
  obtain ⟨its, rv, pl, hz⟩ := I.list (SqL.of (K := X.K) hq)
  exact min_list0 (I.ok.hd hc) pl.isList (intsAre_of rv) hn fun h' M t tk k h1 h2 => ⟨.int M, H, I.kept k, ⟨_, rfl⟩, h M h1 h2⟩
def tMinD (t tk : TA) : TE := fun σ H Q => t σ H fun vs H1 => tk σ H1 fun zs H2 => zs.length = 1 ∧ rMin vs H2 Q
theorem pe_minD (hc : X.calm = true) (hg : Gl X "min") (hm : X.mg "min" = none) (ha : PA X [e] t) (hkw : PK X [⟨some "default", e2, kpos⟩] tk)
    (he : backTo pos (starEach [e] X.env) = (false, eval e X.env) :: backTo pos (starEach [] X.env) := by rfl) (hpl : (backTo pos (starEach [e] X.env)).any (·.1) = false := by rfl) :
    PE X (.Call (.Name "min" p) [e] [⟨some "default", e2, kpos⟩] pos) (tMinD t tk) := by
  intro pins s σ H Q I h
  refine wpAny_Call_Name_kw (ld_blt I hg hm boot_min ?_ (by decide) (by decide))
  refine callWith_kw (thn (ha pos pins s σ H _ I h) fun us s1 ⟨vs, H1, I1, r, q⟩ => thn (hkw pos pins s1 σ H1 _ I1 q) fun ws s2 ⟨zs, H2, I2, rz, hz1, q2⟩ => ?_) he hpl
  obtain ⟨d, rfl⟩ : ∃ d, ws = [d] := by
    have hl : ws.length = 1 := rz.length.symm.trans hz1
    match ws, hl with
    | [d], _ => exact ⟨d, rfl⟩
  obtain ⟨l, ns, rfl, hq, hn, hQ⟩ := q2
  obtain ⟨u, rfl, r1⟩ := vals1 r
  cases (show u = Value.ref l from r1)
  obtain ⟨its, rv, pl, hz⟩ := I2.list (SqL.of (K := X.K) hq)
  exact min_listK (I2.ok.hd hc) pl.isList (intsAre_of rv) hn fun h' M t tk k h1 h2 => ⟨.int M, H2, I2.kept k, ⟨_, rfl⟩, hQ M h1 h2⟩
end

theorem pg_tupC {X : Cx} {N : List Str} {scope : Scope} {z : CZ} {es : List Expr} {k : Nat} {pos : Pos} {t : TGs} {n : Nat} (hc : X.calm = true) (h : PGs (cxComp X N scope z) es t)
    (hn : (assignEach es (cxComp X N scope z).env).length = n := by rfl) (hst : (assignEach es (cxComp X N scope z).env).findIdx? (·.1) = none := by rfl) : PG (cxComp X N scope z) (.Tuple es k pos) (gTup X.K n t) :=
  pg_tup (X := cxComp X N scope z) hc h hn hst
section
variable {X : Cx} {N : List Str} {scope : Scope} {z : CZ}
theorem ix_tupC : IxR (cxComp X N scope z) (rIxT X.K) := ix_tup (X := cxComp X N scope z)
theorem ix_listC : IxR (cxComp X N scope z) (rIxL X.K) := ix_list (X := cxComp X N scope z)
theorem sl_listC : SlR (cxComp X N scope z) (rSlL X.K) := sl_list (X := cxComp X N scope z)
theorem sl_tupC : SlR (cxComp X N scope z) (rSlT X.K) := sl_tup (X := cxComp X N scope z)
theorem call_len_seqC : CallR (cxComp X N scope z) (.builtin "len") (fun xs H Q => ∃ p ys, xs = [.ref p] ∧ (SqL X.K H p ys ∨ SqT X.K H p ys) ∧ Q (.int ys.length) H) := call_len_seq (X := cxComp X N scope z)
theorem call_isinstC : CallR (cxComp X N scope z) (.builtin "isinstance") (fun xs H Q => ∃ x T t b, xs = [x, .ty T] ∧ TyOf X.K H x t ∧ PySem.W.kitOne X.K t (.type T) = some b ∧ Q (.bl b) H) := call_isinst (X := cxComp X N scope z)
end
/-! ### how a comprehension is read -/
section
variable {K : PySem.W.Frag} {a D : Addr} {xs : List V} {sl : List (Option Nat)} {g : TG} {tt : TT} {te : TE} {σ : L2.St} {H1 : Hp} {Q : VK}
/-- what is wanted behind a turn -/
def Nx (D : Addr) (i : Nat) (Pv : Nat → List V → Hp → Prop) : Hp → Prop := fun H' => ∃ ys, H' D = some (.lst ys) ∧ ys.length ≤ i + 1 ∧ Pv (i + 1) ys H'
theorem nx_put {i : Nat} {Pv : Nat → List V → Hp → Prop} {H : Hp} {ys : List V} {y : V} (hi : i < 1000) (hD : H D = some (.lst ys)) (hl : ys.length ≤ i) (h : Pv (i + 1) (ys ++ [y]) (upd H D (.lst (ys ++ [y])))) :
    ∃ xs, H D = some (.lst xs) ∧ xs.length < sizeLine ∧ Nx D i Pv (upd H D (.lst (xs ++ [y]))) :=
  ⟨ys, hD, small1000 (by omega), ys ++ [y], upd_same, by rw [List.length_append, List.length_singleton]; omega, h⟩
theorem comp_by (J : It) (n : Nat) (Pv : Nat → List V → Hp → Prop) (h0 : Pv 0 [] (upd H1 D (.lst [])))
    (hgo : ∀ i ys H, i < n → Pv i ys H → J.go i H) (hst : ∀ ys H, Pv n ys H → J.stop n H)
    (hs : ∀ i x ys H H', i < n → J.yld i H x H' → H D = some (.lst ys) → ys.length ≤ i → Pv i ys H → g x (picks sl σ) H' fun σ2 H2 => Agree (picks sl σ) σ2 ∧ tt σ2 H2 fun b H3 =>
      if b = true then te σ2 H3 fun y H4 => ∃ xs, H4 D = some (.lst xs) ∧ xs.length < sizeLine ∧ Nx D i Pv (upd H4 D (.lst (xs ++ [y]))) else Nx D i Pv H3)
    (hd : ∀ ys H, H D = some (.lst ys) → ys.length ≤ n → Pv n ys H → Q (.ref D) H) : CompR J sl g tt te σ H1 D Q := by
  refine ⟨fun i m H => m = n - i ∧ i ≤ n ∧ ∃ ys, H D = some (.lst ys) ∧ ys.length ≤ i ∧ Pv i ys H, ⟨n, by simp, Nat.zero_le _, [], upd_same, Nat.le_refl _, h0⟩, ?_⟩
  rintro i m H ⟨rfl, hi, ys, hy, hl, p⟩
  by_cases hlt : i < n
  · refine .inr ⟨hgo i ys H hlt p, Nx D i Pv, fun H' ⟨ys', e1, e2, e3⟩ => ⟨n - (i + 1), by omega, rfl, hlt, ys', e1, e2, e3⟩, fun x H' y => hs i x ys H H' hlt y hy hl p⟩
  · have e : i = n := by omega
    subst e
    exact .inl ⟨hst ys H p, hd ys H hy hl p⟩
/-- over a list that stays as it is -/
theorem comp_list (Pv : Nat → List V → Hp → Prop) (h0 : Pv 0 [] (upd H1 D (.lst []))) (hl : ∀ i ys H, Pv i ys H → SqL K H a xs)
    (hs : ∀ i x ys H, xs[i]? = some x → i < xs.length → H D = some (.lst ys) → ys.length ≤ i → Pv i ys H → g x (picks sl σ) H fun σ2 H2 => Agree (picks sl σ) σ2 ∧ tt σ2 H2 fun b H3 =>
      if b = true then te σ2 H3 fun y H4 => ∃ xs, H4 D = some (.lst xs) ∧ xs.length < sizeLine ∧ Nx D i Pv (upd H4 D (.lst (xs ++ [y]))) else Nx D i Pv H3)
    (hd : ∀ ys H, H D = some (.lst ys) → ys.length ≤ xs.length → Pv xs.length ys H → Q (.ref D) H) : CompR (Itl K a) sl g tt te σ H1 D Q := by
  refine comp_by (Itl K a) xs.length Pv h0 (fun i ys H hi p => ⟨xs, xs[i], hl i ys H p, by simp [hi]⟩) (fun ys H p => ⟨xs, hl _ ys H p, Nat.le_refl _⟩) (fun i x ys H H' hi y hD hyl p => ?_) hd
  obtain ⟨e, y⟩ := y
  subst e
  exact hs i x ys _ (y xs (hl i ys _ p)) hi hD hyl p
theorem comp_tup (Pv : Nat → List V → Hp → Prop) (h0 : Pv 0 [] (upd H1 D (.lst []))) (hl : ∀ i ys H, Pv i ys H → SqT K H a xs)
    (hs : ∀ i x ys H, xs[i]? = some x → i < xs.length → H D = some (.lst ys) → ys.length ≤ i → Pv i ys H → g x (picks sl σ) H fun σ2 H2 => Agree (picks sl σ) σ2 ∧ tt σ2 H2 fun b H3 =>
      if b = true then te σ2 H3 fun y H4 => ∃ xs, H4 D = some (.lst xs) ∧ xs.length < sizeLine ∧ Nx D i Pv (upd H4 D (.lst (xs ++ [y]))) else Nx D i Pv H3)
    (hd : ∀ ys H, H D = some (.lst ys) → ys.length ≤ xs.length → Pv xs.length ys H → Q (.ref D) H) : CompR (Itt K a) sl g tt te σ H1 D Q := by
  refine comp_by (Itt K a) xs.length Pv h0 (fun i ys H hi p => ⟨xs, xs[i], hl i ys H p, by simp [hi]⟩) (fun ys H p => ⟨xs, hl _ ys H p, Nat.le_refl _⟩) (fun i x ys H H' hi y hD hyl p => ?_) hd
  obtain ⟨e, y⟩ := y
  subst e
  exact hs i x ys _ (y xs (hl i ys _ p)) hi hD hyl p
theorem comp_range {lo : Int} {n : Nat} (Pv : Nat → List V → Hp → Prop) (h0 : Pv 0 [] (upd H1 D (.lst [])))
    (hs : ∀ i ys H, i < n → H D = some (.lst ys) → ys.length ≤ i → Pv i ys H → g (.int (lo + i)) (picks sl σ) H fun σ2 H2 => Agree (picks sl σ) σ2 ∧ tt σ2 H2 fun b H3 =>
      if b = true then te σ2 H3 fun y H4 => ∃ xs, H4 D = some (.lst xs) ∧ xs.length < sizeLine ∧ Nx D i Pv (upd H4 D (.lst (xs ++ [y]))) else Nx D i Pv H3)
    (hd : ∀ ys H, H D = some (.lst ys) → ys.length ≤ n → Pv n ys H → Q (.ref D) H) : CompR (Itr lo n) sl g tt te σ H1 D Q := by
  refine comp_by (Itr lo n) n Pv h0 (fun i ys H hi p => hi) (fun ys H p => Nat.le_refl _) (fun i x ys H H' hi y hD hyl p => ?_) hd
  obtain ⟨e, e2⟩ := y
  subst e e2
  exact hs i ys _ hi hD hyl p
end
end L3

set_option maxHeartbeats 4000000
namespace L3
open PySem PySem.Spec PyProof.Rows L2

/-! ### heaps: all but some addresses stay -/
def Ex (W : List Addr) (H H' : Hp) : Prop := ∀ b o, b ∉ W → H b = some o → H' b = some o
theorem Ex.refl (W : List Addr) (H : Hp) : Ex W H H := fun _ _ _ h => h
theorem Ex.trans {W : List Addr} {H H1 H2 : Hp} (a : Ex W H H1) (b : Ex W H1 H2) : Ex W H H2 := fun c o hc h => b c o hc (a c o hc h)
theorem Ex.of_same {W : List Addr} {H H' : Hp} (a : Same H H') : Ex W H H' := fun c o _ h => a c o h
theorem Ex.fresh {W : List Addr} {H : Hp} {p : Addr} {o : HO} (h : H p = none) : Ex W H (upd H p o) := fun b u _ q => by rw [upd_ne (ne_of_none q h)]; exact q
theorem Ex.upd {W : List Addr} {H : Hp} {p : Addr} {o : HO} (h : p ∈ W) : Ex W H (upd H p o) := fun b u hb q => by rw [upd_ne (show b ≠ p from fun e => hb (by rw [e]; exact h))]; exact q
theorem Ex.new {W : List Addr} {H H' : Hp} {p : Addr} {o : HO} (a : Ex W H H') (h : H p = none) : Ex W H (L2.upd H' p o) := fun b u hb q => by rw [upd_ne (ne_of_none q h)]; exact a b u hb q
theorem Ex.tk {W : List Addr} {H H' : Hp} (a : Ex W H H') (h : ∀ b ∈ W, ∃ xs, H b = some (.lst xs)) : Tk H H' := fun b xs q => a b _ (fun hb => by
  obtain ⟨ys, e⟩ := h b hb
  rw [q] at e; cases e) q
theorem Ex.one {st : Addr} {H H' : Hp} {xs : List V} (a : Ex [st] H H') (h : H st = some (.lst xs)) : Tk H H' := a.tk fun b hb => ⟨xs, by rw [List.mem_singleton.mp hb]; exact h⟩
theorem Ex.at {st : Addr} {H H' : Hp} {b : Addr} {o : HO} (a : Ex [st] H H') (hb : b ≠ st) (h : H b = some o) : H' b = some o := a b o (by simpa using hb) h
theorem upd_none {H : Hp} {p b : Addr} {o : HO} (h : upd H p o b = none) : b ≠ p ∧ H b = none := by
  by_cases e : b = p
  · subst e; rw [upd_same] at h; cases h
  · rw [upd_ne e] at h; exact ⟨e, h⟩
theorem _root_.L2.Same.new {H H' : Hp} {p : Addr} {o : HO} (a : Same H H') (h : H p = none) : Same H (upd H' p o) := fun b u q => by rw [upd_ne (ne_of_none q h)]; exact a b u q
theorem _root_.L2.Same.fresh {H : Hp} {p : Addr} (o : HO) (h : H p = none) : Same H (upd H p o) := (Same.refl H).new h

/-! ### cells and spots as data -/
def Cells (cs : List PyData) : Prop := ∀ d ∈ cs, ∃ r c : Int, d = .tuple [.int r, .int c]
def Spots (ds : List PyData) : Prop := ∀ d ∈ ds, ∃ (r c : Int) (x : Str), d = .tuple [.int r, .int c, .str x]
theorem immAll_of : ∀ {ds : List PyData}, (∀ d ∈ ds, imm d = true) → immAll ds = true
  | [], _ => rfl
  | d :: ds, h => by
    show (imm d && immAll ds) = true
    rw [h d List.mem_cons_self, immAll_of fun e he => h e (List.mem_cons_of_mem _ he)]
    rfl
theorem Cells.imm {cs : List PyData} (h : Cells cs) : immAll cs = true := immAll_of fun d hd => by obtain ⟨r, c, rfl⟩ := h d hd; rfl
theorem Spots.imm {ds : List PyData} (h : Spots ds) : immAll ds = true := immAll_of fun d hd => by obtain ⟨r, c, x, rfl⟩ := h d hd; rfl
theorem rep_cell {H : Hp} {r c : Int} {v : V} (h : Rep H (.tuple [.int r, .int c]) v) : ∃ a, v = .ref a ∧ H a = some (.tup [.int r, .int c]) := by
  obtain ⟨a, xs, e, ha, x1, r1, e1, h1, x2, r2, e2, h2, e3⟩ := h
  cases (show x1 = .int r from h1); cases (show x2 = .int c from h2); cases (show r2 = [] from e3)
  subst e1 e2
  exact ⟨a, e, ha⟩
theorem rep_spot {H : Hp} {r c : Int} {x : Str} {v : V} (h : Rep H (.tuple [.int r, .int c, .str x]) v) : ∃ a, v = .ref a ∧ H a = some (.tup [.int r, .int c, .str x]) ∧ PyData.strOk x = true := by
  obtain ⟨a, xs, e, ha, x1, r1, e1, h1, x2, r2, e2, h2, x3, r3, e3, h3, e4⟩ := h
  cases (show x1 = .int r from h1); cases (show x2 = .int c from h2); cases (show x3 = .str x from h3.1); cases (show r3 = [] from e4)
  subst e1 e2 e3
  exact ⟨a, e, ha, h3.2⟩
theorem cell_rep {H : Hp} {a : Addr} {r c : Int} (h : H a = some (.tup [.int r, .int c])) : Rep H (.tuple [.int r, .int c]) (.ref a) := ⟨a, _, rfl, h, _, _, rfl, rfl, _, _, rfl, rfl, rfl⟩
theorem spot_rep {H : Hp} {a : Addr} {r c : Int} {x : Str} (h : H a = some (.tup [.int r, .int c, .str x])) (hx : PyData.strOk x = true) : Rep H (.tuple [.int r, .int c, .str x]) (.ref a) :=
  ⟨a, _, rfl, h, _, _, rfl, rfl, _, _, rfl, rfl, _, _, rfl, ⟨rfl, hx⟩, rfl⟩
theorem Cells.at {H : Hp} {cs : List PyData} {xs : List V} {i : Nat} {v : V} (h : Cells cs) (r : RepAll H cs xs) (e : xs[i]? = some v) : ∃ (a : Addr) (p q : Int), v = .ref a ∧ H a = some (.tup [.int p, .int q]) := by
  obtain ⟨d, e1, e2⟩ := r.at e
  obtain ⟨p, q, rfl⟩ := h d (List.mem_of_getElem? e1)
  obtain ⟨a, e3, e4⟩ := rep_cell e2
  exact ⟨a, p, q, e3, e4⟩
theorem Spots.at {H : Hp} {ds : List PyData} {xs : List V} {i : Nat} {v : V} (h : Spots ds) (r : RepAll H ds xs) (e : xs[i]? = some v) :
    ∃ (a : Addr) (p q : Int) (x : Str), v = .ref a ∧ H a = some (.tup [.int p, .int q, .str x]) ∧ PyData.strOk x = true ∧ ds[i]? = some (.tuple [.int p, .int q, .str x]) := by
  obtain ⟨d, e1, e2⟩ := r.at e
  obtain ⟨p, q, x, rfl⟩ := h d (List.mem_of_getElem? e1)
  obtain ⟨a, e3, e4, e5⟩ := rep_spot e2
  exact ⟨a, p, q, x, e3, e4, e5, e1⟩

/-! ### the rows and columns of spots, the least one, the shift -/
def row1 : PyData → Int
  | .tuple (.int r :: _) => r
  | _ => 0
def col1 : PyData → Int
  | .tuple (_ :: .int c :: _) => c
  | _ => 0
def minI : List Int → Int
  | [] => 0
  | [a] => a
  | a :: b :: r => if a ≤ minI (b :: r) then a else minI (b :: r)
theorem minI_mem : ∀ {ns : List Int}, 0 < ns.length → minI ns ∈ ns
  | [], h => by simp at h
  | [a], _ => by simp [minI]
  | a :: b :: r, _ => by
    unfold minI
    split
    · exact List.mem_cons_self
    · exact List.mem_cons_of_mem _ (minI_mem (by simp))
theorem minI_le : ∀ {ns : List Int}, ∀ a ∈ ns, minI ns ≤ a
  | [], a, h => by cases h
  | [a], b, h => by
    have e : b = a := by simpa using h
    rw [e]; exact Int.le_refl _
  | a :: b :: r, x, h => by
    unfold minI
    rcases List.mem_cons.mp h with e | h
    · rw [e]
      split
      · exact Int.le_refl _
      · omega
    · have := minI_le (ns := b :: r) x h
      split
      · omega
      · exact this
theorem minI_eq {ns : List Int} {M : Int} (h1 : M ∈ ns) (h2 : ∀ a ∈ ns, M ≤ a) : M = minI ns := by
  have hp : 0 < ns.length := List.length_pos_of_mem h1
  have a1 := h2 _ (minI_mem hp)
  have a2 := minI_le M h1
  omega
def shift1 (t l : Int) : PyData → PyData
  | .tuple [.int r, .int c, .str x] => .tuple [.int (r - t), .int (c - l), .str x]
  | d => d
def shiftD (ds : List PyData) : List PyData := ds.map (shift1 (minI (ds.map row1)) (minI (ds.map col1)))

section
variable {K : PySem.W.Frag} {a : Addr} {xs : List V} {ds : List PyData} {σ : L2.St} {H : Hp} {Q : VK}
theorem map_take_succ {α β : Type} (f : α → β) {l : List α} {i : Nat} {x : α} (h : l[i]? = some x) : (l.take (i + 1)).map f = (l.take i).map f ++ [f x] := by
  rw [List.take_add_one, h]
  simp
/-- [spot[j] for spot in spots] -/
theorem read_proj (j : Int) (pr : PyData → Int) (hj : ∀ (r c : Int) (x : Str), atI [V.int r, .int c, .str x] j = some (.int (pr (.tuple [.int r, .int c, .str x]))))
    (hσ : σ[0]? = some (some (.ref a))) (ha : H a = some (.lst xs)) (hr : RepAll H ds xs) (hs : Spots ds) (hl : ds.length < 64)
    (q : ∀ D H', Same H H' → H' D = some (.lst ((ds.map pr).map V.int)) → Q (.ref D) H') :
    tComp (iList K (tVar 0)) [none] (gName 0) tYes (tOp (rIxT K) (tVar 0) (tC (.int j))) σ H Q := by
  have hlen := hr.length
  refine ⟨_, hσ, a, rfl, ⟨_, SqL.of ha⟩, fun D hD => ?_⟩
  refine comp_list (xs := xs) (fun i ys H' => Same H H' ∧ ys = ((ds.take i).map pr).map V.int) ⟨Same.fresh _ hD, rfl⟩ (fun i ys H' p => SqL.of (p.1 _ _ ha)) (fun i x ys H' hx hi hDy hyl p => ?_) (fun ys H' hDy hyl p => ?_)
  · obtain ⟨p1, rfl⟩ := p
    obtain ⟨b, r, c, z, rfl, hb, hz, hd⟩ := hs.at hr hx
    refine ⟨Agree.set (Agree.refl _) rfl, ?_⟩
    dsimp only [tYes]
    refine iteT ?_
    refine ⟨_, rfl, b, _, _, _, rfl, rfl, SqT.of (p1 _ _ hb), hj r c z, nx_put (by omega) hDy hyl ⟨p1.new hD, ?_⟩⟩
    rw [map_take_succ pr hd, List.map_append]
    rfl
  · obtain ⟨p1, rfl⟩ := p
    refine q D H' p1 ?_
    rw [hDy, List.take_of_length_le (by omega)]
/-- [(row - top, column - left, sign) for row, column, sign in spots] -/
theorem read_shift {t l : Int} (hσ : σ[0]? = some (some (.ref a))) (h1 : σ[1]? = some (some (.int t))) (h2 : σ[2]? = some (some (.int l))) (ha : H a = some (.lst xs)) (hr : RepAll H ds xs) (hs : Spots ds) (hl : ds.length < 64)
    (q : ∀ D ys H', Same H H' → H' D = some (.lst ys) → RepAll H' (ds.map (shift1 t l)) ys → Q (.ref D) H') :
    tComp (iList K (tVar 0)) [none, none, none, some 1, some 2] (gTup K 3 (gCons (gName 0) (gCons (gName 1) (gCons (gName 2) gNil)))) tYes
      (tTup (tCons (tOp (rI0 fun i j => .int (i - j)) (tVar 0) (tVar 3)) (tCons (tOp (rI0 fun i j => .int (i - j)) (tVar 1) (tVar 4)) (tCons (tVar 2) tNil)))) σ H Q := by
  have hlen := hr.length
  refine ⟨_, hσ, a, rfl, ⟨_, SqL.of ha⟩, fun D hD => ?_⟩
  have hp : picks [none, none, none, some 1, some 2] σ = [none, none, none, some (.int t), some (.int l)] := by
    unfold picks
    simp [h1, h2]
  refine comp_list (xs := xs) (fun i ys H' => Same H H' ∧ RepAll H' ((ds.take i).map (shift1 t l)) ys) ⟨Same.fresh _ hD, rfl⟩ (fun i ys H' p => SqL.of (p.1 _ _ ha)) (fun i x ys H' hx hi hDy hyl p => ?_) (fun ys H' hDy hyl p => ?_)
  · obtain ⟨p1, p2⟩ := p
    obtain ⟨b, r, c, z, rfl, hb, hz, hd⟩ := hs.at hr hx
    rw [hp]
    refine ⟨b, _, rfl, SqT.of (p1 _ _ hb), rfl, _, _, rfl, _, _, rfl, _, _, rfl, rfl, ?_⟩
    refine ⟨Agree.set (Agree.set (Agree.set (Agree.refl _) rfl) rfl) rfl, ?_⟩
    dsimp only [tYes]
    refine iteT ?_
    refine ⟨_, rfl, _, rfl, _, _, rfl, rfl, _, rfl, _, rfl, _, _, rfl, rfl, _, rfl, (by show 3 ≤ sizeLine; decide), fun n hn => ?_⟩
    have hnD : D ≠ n := fun e => by rw [← e, hDy] at hn; cases hn
    have hnH : H n = none := p1.free hn
    have im : immAll (((ds.take i).map (shift1 t l)) ++ [.tuple [.int (r - t), .int (c - l), .str z]]) = true := immAll_of fun d hd' => by
      rcases List.mem_append.mp hd' with h | h
      · obtain ⟨d0, h0, rfl⟩ := List.mem_map.mp h
        obtain ⟨r0, c0, x0, rfl⟩ := hs d0 (List.mem_of_mem_take h0)
        rfl
      · rw [List.mem_singleton.mp h]; rfl
    have hDn : upd H' n (.tup [.int (r - t), .int (c - l), .str z]) D = some (.lst ys) := by rw [upd_ne hnD]; exact hDy
    have hs1 : Same H' (upd H' n (.tup [.int (r - t), .int (c - l), .str z])) := Same.fresh _ hn
    have hs2 : RepAll (upd H' n (.tup [.int (r - t), .int (c - l), .str z])) (((ds.take i).map (shift1 t l)) ++ [.tuple [.int (r - t), .int (c - l), .str z]]) (ys ++ [.ref n]) := (p2.same hs1).snoc (spot_rep upd_same hz)
    refine nx_put (by omega) hDn hyl ⟨(p1.trans hs1).new hD, ?_⟩
    rw [map_take_succ (shift1 t l) hd]
    exact hs2.tk (Tk.lst hDn) im
  · obtain ⟨p1, p2⟩ := p
    rw [List.take_of_length_le (by omega)] at p2
    exact q D ys H' p1 hDy p2
end
theorem shift_rows {ds : List PyData} (hs : Spots ds) (t l : Int) : Rows [true, false] (ds.map (shift1 t l)) := fun d hd => by
  obtain ⟨e, he, rfl⟩ := List.mem_map.mp hd
  obtain ⟨r, c, x, rfl⟩ := hs e he
  exact ⟨_, rfl, _, _, rfl, _, _, rfl, _, _, rfl, rfl⟩
end L3

set_option maxHeartbeats 4000000
namespace L3
open PySem PySem.Spec PyProof.Rows L2

/-! ### the module's constants -/
section
variable {X : Cx} {x : Str} {pos : Pos}
theorem pe_globS {z : Str} (h : ∃ t, X.mg x = some (.str z t)) (hg : Gl X x) (hd : (x == ("__debug__" : Str)) = false := by decide) : PE X (.Name x pos) (tC (.str z)) := by
  obtain ⟨t, h⟩ := h
  exact pe_glob hg h ⟨t, rfl⟩ hd
theorem pe_globI {z : Int} (h : ∃ t, X.mg x = some (.int z t)) (hg : Gl X x) (hd : (x == ("__debug__" : Str)) = false := by decide) : PE X (.Name x pos) (tC (.int z)) := by
  obtain ⟨t, h⟩ := h
  exact pe_glob hg h ⟨t, rfl⟩ hd
end

/-! ### {} -/
def tDict0 : TE := fun _ H Q => ∀ p, H p = none → Q (.ref p) (upd H p (.dK []))
theorem pe_dict0 {X : Cx} {pos : Pos} : PE X (.Dict [] [] pos) tDict0 := fun pins s σ H Q I h => by
  have hb : sysModules < s.heap.objs.size := by
    have h : mainGlobals < s.heap.objs.size := (I.mod.glob.keeps I.bk).lt
    exact Nat.lt_trans (by decide) h
  refine wpAny_Dict_empty ⟨.ref s.heap.objs.size, _, I.laid (a := s.heap.objs.size) (o := .dK []) (t' := s.toks) (fun _ _ q => Heap.get?_push_of_some _ q) (Nat.le_refl _) ?_, rfl, h _ (I.hok.fresh (Nat.le_refl _))⟩
  exact ⟨Nat.zero_le _, beq_eq_false_iff_ne.mpr (Ne.symm (Nat.ne_of_lt hb)), [], .nil, Heap.DictOf.new s.heap⟩

/-! ### texts -/
section
variable {X : Cx}
theorem op_le_str : OpR X (compareOp .LtE) (fun x y H Q => ∃ i j, x = .str i ∧ y = .str j ∧ Q (.bl (!decide (j.cps.toList < i.cps.toList))) H) := by
  intro pins s σ H x y v u Q I rx ry h
  obtain ⟨i, j, rfl, rfl, q⟩ := h
  obtain ⟨t, rfl⟩ := rx
  obtain ⟨t', rfl⟩ := ry
  exact PySem.P.le_str ⟨.bl _, H, I, rfl, q⟩
/-- x[lo:hi] of a text -/
def rSlS : V → Option Int → Option Int → Hp → VK → Prop := fun x lo hi H Q => ∃ z, x = .str z ∧ z.length ≤ sizeLine ∧ Q (.str (Txt.slice z lo hi)) H
theorem sl_str : SlR X rSlS := by
  intro pins s σ H x v vl vu lo hi sl Q I rx hs pl pu h
  obtain ⟨z, rfl, hz, q⟩ := h
  obtain ⟨t, rfl⟩ := rx
  obtain ⟨o, ho, hc, hd⟩ := hs
  have fin : ∀ t' k, EP X pins σ Q (.str (Txt.slice z lo hi) t') { s with toks := k } := fun t' k => ⟨.str _, H, I.tok _, ⟨_, rfl⟩, q⟩
  refine ⟨"str", _, F.slot_str_getitem.lookup, typeIs_str _ _ _, ?_⟩
  cases pl with
  | none =>
    cases pu with
    | none => exact wpAny_getItem_str_slice (l := none) (u := none) (st := none) ⟨o, ho, hc, hd⟩ rfl (post_val_or_str ⟨Nat.le_trans (Txt.slice_le z _ _) hz, fin⟩)
    | int j uj => exact wpAny_getItem_str_slice (l := none) (u := some (j, uj)) (st := none) ⟨o, ho, hc, hd⟩ rfl (post_val_or_str ⟨Nat.le_trans (Txt.slice_le z _ _) hz, fin⟩)
  | int i ui =>
    cases pu with
    | none => exact wpAny_getItem_str_slice (l := some (i, ui)) (u := none) (st := none) ⟨o, ho, hc, hd⟩ rfl (post_val_or_str ⟨Nat.le_trans (Txt.slice_le z _ _) hz, fin⟩)
    | int j uj => exact wpAny_getItem_str_slice (l := some (i, ui)) (u := some (j, uj)) (st := none) ⟨o, ho, hc, hd⟩ rfl (post_val_or_str ⟨Nat.le_trans (Txt.slice_le z _ _) hz, fin⟩)
theorem fold_len (x : Array Nat) : ∀ (k : Nat) (acc : Array Nat), ((List.replicate k x).foldl (· ++ ·) acc).size = acc.size + k * x.size
  | 0, acc => by simp
  | k + 1, acc => by
    rw [List.replicate_succ, List.foldl_cons, fold_len x k]
    simp only [Array.size_append]
    rw [Nat.add_mul]
    omega
theorem fold_mem (x : Array Nat) : ∀ (k : Nat) (acc : Array Nat) (c : Nat), c ∈ ((List.replicate k x).foldl (· ++ ·) acc).toList → c ∈ acc.toList ∨ c ∈ x.toList
  | 0, acc, c, h => .inl (by simpa using h)
  | k + 1, acc, c, h => by
    rw [List.replicate_succ, List.foldl_cons] at h
    rcases fold_mem x k _ c h with h | h
    · simpa using h
    · exact .inr h
/-- a text times a number: only how long it is -/
def rMulS : R2 := fun x y H Q => ∃ (z : Str) (n : Int), x = .str z ∧ y = .int n ∧ 0 ≤ n ∧ n ≤ 1000 ∧ z.length ≤ 1000 ∧ ∀ w : Str, w.length = z.length * n.toNat → (∀ c ∈ w.cps.toList, c ∈ z.cps.toList) → Q (.str w) H
theorem op_mulS : OpR X (binaryOp .Mult) rMulS := by
  intro pins s σ H x y v u Q I rx ry h
  obtain ⟨z, n, rfl, rfl, h0, h1, hz, q⟩ := h
  obtain ⟨t, rfl⟩ := rx
  obtain ⟨t', rfl⟩ := ry
  have hprod : z.length * n.toNat ≤ 1000000 := by
    have a1 : n.toNat ≤ 1000 := by omega
    calc z.length * n.toNat ≤ 1000 * 1000 := Nat.mul_le_mul hz a1
      _ = 1000000 := rfl
  refine PySem.P.mul_str (by rw [decide_eq_false (by omega), decide_eq_false (by omega)]; rfl) (fun h2 _ => ?_) (fun _ _ => ?_) ?_
  · have h3 : (1 : Int) ≤ n := by omega
    have h4 : ((2 : Int) ^ 63 - 1) / n ≥ (2 ^ 63 - 1) / 1000 := by
      refine (Int.le_ediv_iff_mul_le (by omega)).mpr ?_
      calc ((2 : Int) ^ 63 - 1) / 1000 * n ≤ ((2 : Int) ^ 63 - 1) / 1000 * 1000 := Int.mul_le_mul_of_nonneg_left h1 (by decide)
        _ ≤ 2 ^ 63 - 1 := by decide
    have h5 : ((2 : Int) ^ 63 - 1) / 1000 ≥ 1000 := by decide
    omega
  · unfold PySem.Builtin.Str.tooLong
    rw [sizeLine_eq]
    exact decide_eq_false (by omega)
  · by_cases hn : n < 1
    · rw [if_pos hn]
      have e : n = 0 := by omega
      subst e
      exact ⟨by decide, .str Str.empty, H, I.tok _, ⟨_, rfl⟩, q _ (by simp [Str.empty, Str.length]) (by simp [Str.empty])⟩
    · rw [if_neg hn]
      by_cases hc : (n == 1 || z.length == 0) = true
      · rw [if_pos hc]
        refine ⟨.str z, H, I, ⟨_, rfl⟩, q _ ?_ fun c hc => hc⟩
        simp only [Bool.or_eq_true, beq_iff_eq] at hc
        rcases hc with e | e
        · rw [e]; simp
        · rw [e]; simp
      · rw [if_neg hc]
        have e : (⟨(List.replicate n.toNat z.cps).foldl (· ++ ·) #[]⟩ : Str).length = z.length * n.toNat := by
          show ((List.replicate n.toNat z.cps).foldl (· ++ ·) #[]).size = _
          rw [fold_len, Nat.mul_comm]
          simp [Str.length]
        refine ⟨by rw [e, sizeLine_eq]; omega, .str _, H, I.tok _, ⟨_, rfl⟩, q _ e fun c hc => ?_⟩
        rcases fold_mem z.cps n.toNat #[] c (by simpa using hc) with h | h
        · simp at h
        · exact h
theorem strs_of : ∀ {ys : List Str} {us : List Value}, Vals (ys.map V.str) us → StrsAre us ys
  | [], us, h => by cases h; exact .nil
  | y :: ys, us, h => by
    cases h with
    | cons r t =>
      obtain ⟨k, e⟩ := (show ∃ t, _ = Value.str y t from r)
      subst e
      exact .cons y k (strs_of t)
/-- sep.join(list of texts) -/
def rJoin : V → List V → Hp → VK → Prop := fun x vs H Q => ∃ (z : Str) (l : Addr) (ys : List Str), x = .str z ∧ vs = [.ref l] ∧ H l = some (.lst (ys.map V.str)) ∧ (ys.map (·.length)).sum + ys.length * z.length ≤ 1000000 ∧ Q (.str (Txt.join z ys)) H
theorem mt_join : MtR X "str.join" rJoin := by
  intro pins s σ H x vs v us Q I rx rv h
  obtain ⟨z, l, ys, rfl, rfl, hl, hz, q⟩ := h
  obtain ⟨t, rfl⟩ := rx
  obtain ⟨u, rfl, r1⟩ := vals1 rv
  cases (show u = Value.ref l from r1)
  obtain ⟨its, r, pl, _⟩ := I.list (SqL.of (K := X.K) hl)
  exact join_list pl.isList (by simpa using strs_of r) (by omega) fun t' k => ⟨.str _, H, I.tok _, ⟨_, rfl⟩, q⟩
/-- all(list of truths) -/
def rAll : List V → Hp → VK → Prop := fun xs H Q => ∃ (p : Addr) (bs : List Bool), xs = [.ref p] ∧ H p = some (.lst (bs.map V.bl)) ∧ Q (.bl (bs.all id)) H
theorem range_all : ∀ (bs : List Bool), ((List.range bs.length).all fun i => (bs[i]?).getD true) = bs.all id := fun bs => by
  rw [Bool.eq_iff_iff, List.all_eq_true, List.all_eq_true]
  constructor
  · intro h b hb
    obtain ⟨i, hi, rfl⟩ := List.mem_iff_getElem.mp hb
    have := h i (by simpa using hi)
    simpa [hi] using this
  · intro h i hi
    have hi' : i < bs.length := by simpa using hi
    have := h bs[i] (List.getElem_mem hi')
    simpa [hi'] using this
theorem call_all (hc : X.calm = true) : CallR X (.builtin "all") rAll := by
  intro pins s σ H xs us Q I r h
  obtain ⟨p, bs, rfl, hp, q⟩ := h
  obtain ⟨u, rfl, r1⟩ := vals1 r
  cases (show u = Value.ref p from r1)
  obtain ⟨its, rv, pl, hz⟩ := I.list (SqL.of (K := X.K) hp)
  have hlt : p < s.heap.objs.size := by obtain ⟨_, _, e, _⟩ := pl; exact Heap.lt_size e
  have hlen : its.length = bs.length := by rw [← rv.length, List.length_map]
  refine call_all_walk (wpAny_pyIter_list pl.isList ?_)
  refine ⟨s.heap.objs.size, [s.heap.objs.size, p], [s.heap.objs.size], its.toArray.size, _, _, fun i => (bs[i]?).getD true, rfl, Walks.list (A := X.A.in1) (I.ok.hd hc) _ p (Nat.ne_of_lt hlt) its.toArray,
    ⟨⟨_, Heap.get?_push_size _ rfl, rfl, rfl⟩, pl.isList.push _⟩, fun i v s' Q' E' hP hQ => ?_, fun h' tk hk => ?_⟩
  · have hi : its[i]? = some v := by simpa using hP
    have hi2 : i < bs.length := by rw [← hlen]; exact (List.getElem?_eq_some_iff.mp hi).1
    obtain ⟨u', e1, e2⟩ := rv.get (i := i) (x := .bl bs[i]) (by rw [List.getElem?_map, List.getElem?_eq_getElem hi2]; rfl)
    rw [hi] at e1; cases e1
    cases (show v = Value.bool bs[i] from e2)
    have hQ2 : Q' ((bs[i]?).getD true) s' := hQ
    rw [List.getElem?_eq_getElem hi2] at hQ2
    exact wpAny_truthy_bool hQ2
  · refine ⟨.bl _, H, I.kept (fun b o e => hk b o (fun hm => ?_) (Heap.get?_push_of_some _ e)), rfl, ?_⟩
    · rw [List.mem_singleton.mp hm] at e
      exact Nat.lt_irrefl _ (Heap.lt_size e)
    · rw [List.size_toArray, hlen, range_all]
      exact q
end

/-! ### the signs of a text, one after the other -/
def Its (x : Str) : It := ⟨fun i _ => i < x.cps.toList.length, fun i H v H' => H' = H ∧ ∃ c, x.cps.toList[i]? = some c ∧ v = .str ⟨#[c]⟩, fun i _ => x.cps.toList.length ≤ i⟩
theorem turn_ascii {P : Program} {w : World} {K : PySem.W.Frag} {tg : Expr} (x : Str) (t : Tok) (it : Addr) : Turn P w K tg (Its x) [it] it (fun i h => h.IsStrIter it "str_ascii_iterator" x t i) where
  mem := by simp
  obj := fun i h st b hb => by
    have e : b = it := by simpa using hb
    subst e
    obtain ⟨o, e, c, d⟩ := st
    exact ⟨o, e, fun v z => by rw [d] at z; cases z⟩
  keep := fun i h h' st k => by
    obtain ⟨o, e, r⟩ := st
    exact ⟨o, k it (by simp) o e, r⟩
  item := by
    intro X hP hw hK hc i pins s σ H E I hf st hg
    subst hP hw hK
    obtain ⟨f0, f1, f2, f3, f4, f5⟩ := hf it (by simp)
    have hi : i < x.cps.size := by simpa [Its] using hg
    refine wpAny_pyNext_ascii_item st (c := x.cps[i]) (by simp [hi]) fun h' st' sb => ?_
    have I1 : Inv X pins σ H { s with heap := h', toks := s.toks + 1 } := I.turned (t' := s.toks + 1) (fun b o hb e => (sb.2 b hb).trans e) f0 f1 f3 f4 f5
    obtain ⟨o, e, c, d⟩ := id st'
    exact ⟨_, rfl, go_of (s := { s with heap := h', toks := s.toks + 1 }) e c d (by decide) ⟨.str ⟨#[x.cps[i]]⟩, H, I1, ⟨_, rfl⟩, ⟨rfl, x.cps[i], by simp [hi], rfl⟩, st', fun b hb => (hf b hb).1⟩⟩
  done := by
    intro X hP hw hK hc i pins s σ H E I hf st hg
    subst hP hw hK
    obtain ⟨f0, f1, f2, f3, f4, f5⟩ := hf it (by simp)
    have hi : x.cps.size ≤ i := by simpa [Its] using hg
    exact wpAny_pyNext_ascii_end (I.ok.hd hc) st (by simp; omega) fun h' eb => ⟨rfl, I.turned (t' := s.toks) (fun b o hb e => eb b o hb e) f0 f1 f3 f4 f5⟩
  self := fun _ _ _ _ _ st h => wpAny_pyIter_striter_ascii st h
theorem turn_wide {P : Program} {w : World} {K : PySem.W.Frag} {tg : Expr} (x : Str) (t : Tok) (it : Addr) : Turn P w K tg (Its x) [it] it (fun i h => h.IsStrIter it "str_iterator" x t i) where
  mem := by simp
  obj := fun i h st b hb => by
    have e : b = it := by simpa using hb
    subst e
    obtain ⟨o, e, c, d⟩ := st
    exact ⟨o, e, fun v z => by rw [d] at z; cases z⟩
  keep := fun i h h' st k => by
    obtain ⟨o, e, r⟩ := st
    exact ⟨o, k it (by simp) o e, r⟩
  item := by
    intro X hP hw hK hc i pins s σ H E I hf st hg
    subst hP hw hK
    obtain ⟨f0, f1, f2, f3, f4, f5⟩ := hf it (by simp)
    have hi : i < x.cps.size := by simpa [Its] using hg
    refine wpAny_pyNext_wide_item st (c := x.cps[i]) (by simp [hi]) fun h' st' sb => ?_
    have I1 : Inv X pins σ H { s with heap := h', toks := s.toks + 1 } := I.turned (t' := s.toks + 1) (fun b o hb e => (sb.2 b hb).trans e) f0 f1 f3 f4 f5
    obtain ⟨o, e, c, d⟩ := id st'
    exact ⟨_, rfl, go_of (s := { s with heap := h', toks := s.toks + 1 }) e c d (by decide) ⟨.str ⟨#[x.cps[i]]⟩, H, I1, ⟨_, rfl⟩, ⟨rfl, x.cps[i], by simp [hi], rfl⟩, st', fun b hb => (hf b hb).1⟩⟩
  done := by
    intro X hP hw hK hc i pins s σ H E I hf st hg
    subst hP hw hK
    obtain ⟨f0, f1, f2, f3, f4, f5⟩ := hf it (by simp)
    have hi : x.cps.size ≤ i := by simpa [Its] using hg
    exact wpAny_pyNext_wide_end (I.ok.hd hc) st (by simp; omega) fun h' eb => ⟨rfl, I.turned (t' := s.toks) (fun b o hb e => eb b o hb e) f0 f1 f3 f4 f5⟩
  self := fun _ _ _ _ _ st h => wpAny_pyIter_striter_wide st h
def iStr (tl : TE) : TI := fun σ H R => tl σ H fun x H1 => ∃ z, x = .str z ∧ R (Its z) H1
theorem pi_str {X : Cx} {tg l : Expr} {tl : TE} (hl : PE X l tl) : PI X tg l (iStr tl) := by
  intro pins s σ H R I h
  refine thn (hl pins s σ H _ I h) fun v s1 ⟨x, H1, I1, r1, z, e, q⟩ => ?_
  subst e
  obtain ⟨t, rfl⟩ := r1
  cases ha : z.cps.all (· < 128) with
  | true =>
    refine wpAny_pyIter_ascii ha ?_
    have I2 : Inv X pins σ H1 { s1 with heap := s1.heap.push { cls := .type "str_ascii_iterator", data := .fields #[.str z t, .int 0 0] } } := I1.kept (t' := s1.toks) fun b o e => Heap.get?_push_of_some _ e
    exact ⟨_, _, _, Its z, H1, rfl, I2, turn_ascii z t s1.heap.objs.size, ⟨_, Heap.get?_push_size _ rfl, rfl, rfl⟩, fun b hb => by rw [List.mem_singleton.mp hb]; exact I1.fpOk (Nat.le_refl _) (I1.hok.fresh (Nat.le_refl _)), q⟩
  | false =>
    refine wpAny_pyIter_wide ha ?_
    have I2 : Inv X pins σ H1 { s1 with heap := s1.heap.push { cls := .type "str_iterator", data := .fields #[.str z t, .int 0 0] } } := I1.kept (t' := s1.toks) fun b o e => Heap.get?_push_of_some _ e
    exact ⟨_, _, _, Its z, H1, rfl, I2, turn_wide z t s1.heap.objs.size, ⟨_, Heap.get?_push_size _ rfl, rfl, rfl⟩, fun b hb => by rw [List.mem_singleton.mp hb]; exact I1.fpOk (Nat.le_refl _) (I1.hok.fresh (Nat.le_refl _)), q⟩
theorem for_str {x : Str} {g : TG} {tb : TS} {D : Ends} {σ : L2.St} {H : Hp} (Pv : Nat → L2.St → Hp → Prop) (h0 : Pv 0 σ H)
    (hs : ∀ i c σ H, x.cps.toList[i]? = some c → Pv i σ H → g (.str ⟨#[c]⟩) σ H fun σ2 H2 => tb { D with nx := Pv (i + 1), ct := Pv (i + 1), bk := D.nx } σ2 H2) (hd : ∀ σ H, Pv x.cps.toList.length σ H → D.nx σ H) :
    ∃ W : Nat → Nat → L2.St → Hp → Prop, (∃ m, W 0 m σ H) ∧ ∀ i m σ H, W i m σ H →
      ((Its x).stop i H ∧ D.nx σ H) ∨ ((Its x).go i H ∧ ∃ N : L2.St → Hp → Prop, (∀ σ' H', N σ' H' → ∃ m', m' < m ∧ W (i + 1) m' σ' H') ∧ ∀ v H', (Its x).yld i H v H' → g v σ H' fun σ2 H2 => tb { D with nx := N, ct := N, bk := D.nx } σ2 H2) := by
  refine ⟨fun i m σ H => m = x.cps.toList.length - i ∧ i ≤ x.cps.toList.length ∧ Pv i σ H, ⟨x.cps.toList.length, by simp, Nat.zero_le _, h0⟩, ?_⟩
  rintro i m σ H ⟨rfl, hi, p⟩
  by_cases hlt : i < x.cps.toList.length
  · refine .inr ⟨hlt, Pv (i + 1), fun σ' H' p' => ⟨x.cps.toList.length - (i + 1), by omega, rfl, hlt, p'⟩, fun v H' y => ?_⟩
    obtain ⟨e, c, hc, rfl⟩ := y
    subst e
    exact hs i c σ _ hc p
  · have e : i = x.cps.toList.length := by omega
    subst e
    exact .inl ⟨Nat.le_refl _, hd σ H p⟩
theorem comp_str {x : Str} {D : Addr} {sl : List (Option Nat)} {g : TG} {tt : TT} {te : TE} {σ : L2.St} {H1 : Hp} {Q : VK} (Pv : Nat → List V → Hp → Prop) (h0 : Pv 0 [] (upd H1 D (.lst [])))
    (hs : ∀ i c ys H, x.cps.toList[i]? = some c → i < x.cps.toList.length → H D = some (.lst ys) → ys.length ≤ i → Pv i ys H → g (.str ⟨#[c]⟩) (picks sl σ) H fun σ2 H2 => Agree (picks sl σ) σ2 ∧ tt σ2 H2 fun b H3 =>
      if b = true then te σ2 H3 fun y H4 => ∃ xs, H4 D = some (.lst xs) ∧ xs.length < sizeLine ∧ Nx D i Pv (upd H4 D (.lst (xs ++ [y]))) else Nx D i Pv H3)
    (hd : ∀ ys H, H D = some (.lst ys) → ys.length ≤ x.cps.toList.length → Pv x.cps.toList.length ys H → Q (.ref D) H) : CompR (Its x) sl g tt te σ H1 D Q := by
  refine comp_by (Its x) x.cps.toList.length Pv h0 (fun i ys H hi p => hi) (fun ys H p => Nat.le_refl _) (fun i v ys H H' hi y hD hyl p => ?_) hd
  obtain ⟨e, c, hc, rfl⟩ := y
  subst e
  exact hs i c ys _ hc hi hD hyl p

/-! ### list(text) -/
theorem vals_at : ∀ {ys : List V} {us : List Value}, ys.length = us.length → (∀ (i : Nat) (y : V) (u : Value), ys[i]? = some y → us[i]? = some u → RelV y u) → Vals ys us
  | [], [], _, _ => .nil
  | [], _ :: _, h, _ => by cases h
  | _ :: _, [], h, _ => by cases h
  | y :: ys, u :: us, h, r => .cons (r 0 y u rfl rfl) (vals_at (by simpa using h) fun i y' u' e e' => r (i + 1) y' u' (by simpa using e) (by simpa using e'))
theorem call_listS {X : Cx} (hc : X.calm = true) : CallR X (.type "list") (fun xs H Q => ∃ z : Str, xs = [.str z] ∧ z.length ≤ 1000 ∧ ∀ l, H l = none → Q (.ref l) (upd H l (.lst (z.cps.toList.map fun c => V.str ⟨#[c]⟩)))) := by
  intro pins s σ H xs us Q I r h
  obtain ⟨z, rfl, hz, q⟩ := h
  obtain ⟨u, rfl, t, rfl⟩ := vals1 r
  have hz' : z.cps.size ≤ sizeLine := Nat.le_of_lt (by have := sizeLine_eq; unfold Str.length at hz; omega)
  refine call_list_str (I.ok.hd hc) z t (fun h' tk acc' c' kp e hacc => ?_) hz'
  refine ⟨.ref s.heap.objs.size, _, I.laid (t' := tk) kp (Nat.le_refl _) (show ObjOk X.prog X.w _ h' _ (.lst (z.cps.toList.map fun c => V.str ⟨#[c]⟩)) from ⟨by simpa using hz', acc'.toList, c', vals_at (by simpa using hacc.1.symm) fun i y u' e1 e2 => ?_, by simpa using e⟩), rfl, q _ (I.hok.fresh (Nat.le_refl _))⟩
  obtain ⟨c, k, e3, e4⟩ := hacc.2 i u' (by simpa using e2)
  rw [List.getElem?_map, show z.cps.toList[i]? = some c by simpa using e3] at e1
  cases e1
  exact ⟨k, e4⟩

/-! ### values that are no texts, and no tuples; rows; things -/
def NoStr (H : Hp) (v : V) : Prop := v = .non ∨ (∃ i, v = .int i) ∨ ∃ a, v = .ref a ∧ ((∃ xs, H a = some (.lst xs)) ∨ (∃ xs, H a = some (.tup xs)) ∨ H a = some (.dK []))
def NoTup (H : Hp) (v : V) : Prop := v = .non ∨ (∃ i, v = .int i) ∨ (∃ z, v = .str z) ∨ ∃ a, v = .ref a ∧ ((∃ xs, H a = some (.lst xs)) ∨ H a = some (.dK []))
theorem NoStr.ty {K : PySem.W.Frag} {H : Hp} {v : V} (h : NoStr H v) : ∃ t, TyOf K H v t ∧ PySem.W.kitOne K t (.type "str") = some false := by
  rcases h with rfl | ⟨i, rfl⟩ | ⟨a, rfl, ⟨xs, h⟩ | ⟨xs, h⟩ | h⟩
  · exact ⟨_, .non, rfl⟩
  · exact ⟨_, .int i, rfl⟩
  · exact ⟨_, .lst h, rfl⟩
  · exact ⟨_, .tup h, rfl⟩
  · exact ⟨_, .dK h, rfl⟩
theorem NoTup.ty {K : PySem.W.Frag} {H : Hp} {v : V} (h : NoTup H v) : ∃ t, TyOf K H v t ∧ PySem.W.kitOne K t (.type "tuple") = some false := by
  rcases h with rfl | ⟨i, rfl⟩ | ⟨z, rfl⟩ | ⟨a, rfl, ⟨xs, h⟩ | h⟩
  · exact ⟨_, .non, rfl⟩
  · exact ⟨_, .int i, rfl⟩
  · exact ⟨_, .str z, rfl⟩
  · exact ⟨_, .lst h, rfl⟩
  · exact ⟨_, .dK h, rfl⟩
theorem NoStr.same {H H' : Hp} {v : V} (h : NoStr H v) (s : Same H H') : NoStr H' v := by
  rcases h with rfl | ⟨i, rfl⟩ | ⟨a, rfl, ⟨xs, h⟩ | ⟨xs, h⟩ | h⟩
  · exact .inl rfl
  · exact .inr (.inl ⟨i, rfl⟩)
  · exact .inr (.inr ⟨a, rfl, .inl ⟨xs, s _ _ h⟩⟩)
  · exact .inr (.inr ⟨a, rfl, .inr (.inl ⟨xs, s _ _ h⟩)⟩)
  · exact .inr (.inr ⟨a, rfl, .inr (.inr (s _ _ h))⟩)
theorem NoTup.same {H H' : Hp} {v : V} (h : NoTup H v) (s : Same H H') : NoTup H' v := by
  rcases h with rfl | ⟨i, rfl⟩ | ⟨z, rfl⟩ | ⟨a, rfl, ⟨xs, h⟩ | h⟩
  · exact .inl rfl
  · exact .inr (.inl ⟨i, rfl⟩)
  · exact .inr (.inr (.inl ⟨z, rfl⟩))
  · exact .inr (.inr (.inr ⟨a, rfl, .inl ⟨xs, s _ _ h⟩⟩))
  · exact .inr (.inr (.inr ⟨a, rfl, .inr (s _ _ h)⟩))
/-- a short text of plain signs -/
def Tx (z : Str) : Prop := z.length ≤ 80 ∧ ∀ c ∈ z.cps.toList, c < 128
def Itm (H : Hp) (v : V) : Option Str → Prop
  | some z => v = .str z ∧ Tx z
  | none => NoStr H v
def Itms (H : Hp) (vs : List V) (os : List (Option Str)) : Prop := vs.length = os.length ∧ ∀ (i : Nat) (v : V) (o : Option Str), vs[i]? = some v → os[i]? = some o → Itm H v o
def Thing (H : Hp) (v : V) : Option (List (Option Str)) → Prop
  | none => NoTup H v
  | some os => os.length ≤ 500 ∧ ∃ a vs, v = .ref a ∧ H a = some (.tup vs) ∧ Itms H vs os
theorem Itm.same {H H' : Hp} {v : V} {o : Option Str} (h : Itm H v o) (s : Same H H') : Itm H' v o := by
  cases o with
  | none => exact NoStr.same h s
  | some z => exact h
theorem Itms.same {H H' : Hp} {vs : List V} {os : List (Option Str)} (h : Itms H vs os) (s : Same H H') : Itms H' vs os := ⟨h.1, fun i v o e e' => (h.2 i v o e e').same s⟩
theorem Thing.same {H H' : Hp} {v : V} {T : Option (List (Option Str))} (h : Thing H v T) (s : Same H H') : Thing H' v T := by
  cases T with
  | none => exact NoTup.same h s
  | some os =>
    obtain ⟨hl, a, vs, e, ha, hi⟩ := h
    exact ⟨hl, a, vs, e, s _ _ ha, hi.same s⟩
theorem Itms.at {H : Hp} {vs : List V} {os : List (Option Str)} {i : Nat} {v : V} (h : Itms H vs os) (e : vs[i]? = some v) : ∃ o, os[i]? = some o ∧ Itm H v o := by
  have hi : i < vs.length := (List.getElem?_eq_some_iff.mp e).1
  have hi' : i < os.length := by rw [← h.1]; exact hi
  exact ⟨os[i], List.getElem?_eq_getElem hi', h.2 i v _ e (List.getElem?_eq_getElem hi')⟩
/-- items that are each a row or none: some list of rows says which -/
theorem itms_of {H : Hp} : ∀ {vs : List V}, (∀ v ∈ vs, ∃ o, Itm H v o) → ∃ os, Itms H vs os
  | [], _ => ⟨[], rfl, fun i v o e => by simp at e⟩
  | v :: vs, h => by
    obtain ⟨o, ho⟩ := h v List.mem_cons_self
    obtain ⟨os, h1, h2⟩ := itms_of (vs := vs) fun u hu => h u (List.mem_cons_of_mem _ hu)
    refine ⟨o :: os, by simp [h1], fun i v' o' e e' => ?_⟩
    cases i with
    | zero => simp at e e'; subst e e'; exact ho
    | succ i => exact h2 i v' o' (by simpa using e) (by simpa using e')
theorem Tx.ok {z : Str} (h : Tx z) : PyData.strOk z = true := by
  unfold PyData.strOk
  rw [Array.all_eq_true']
  intro c hc
  have := h.2 c (by simpa using hc)
  simp only [decide_eq_true_eq]
  omega
/-- what is told of a sign, a row, a thing -/
def sgB (c : Nat) : Bool := (c == 35 || c == 46 || c == 44) || (decide (65 ≤ c) && decide (c ≤ 90)) || (decide (97 ≤ c) && decide (c ≤ 122))
def rowB : Option Str → Bool
  | some z => decide (1 ≤ z.length) && decide (z.length ≤ 8) && z.cps.toList.all sgB
  | none => false
def lenO : Option Str → Nat
  | some z => z.length
  | none => 0
def flB : Option (List (Option Str)) → Bool
  | none => false
  | some os => decide (1 ≤ os.length) && decide (os.length ≤ 8) && os.all fun o => rowB o && (lenO o == lenO ((os[0]?).getD none))
theorem slice_mem {x : Str} {l u : Option Int} {c : Nat} (h : c ∈ (Txt.slice x l u).cps.toList) : c ∈ x.cps.toList := by
  unfold Txt.slice at h
  split at h
  · exact h
  · simp only [List.mem_filterMap] at h
    obtain ⟨i, _, e⟩ := h
    have e' : x.cps.toList[i]? = some c := by simpa using e
    exact List.mem_of_getElem? e'
theorem Tx.slice {x : Str} (h : Tx x) (l u : Option Int) : Tx (Txt.slice x l u) := ⟨Nat.le_trans (Txt.slice_le x l u) h.1, fun c hc => h.2 c (slice_mem hc)⟩
theorem len_cat (x y : Str) : (x ++ y).length = x.length + y.length := by
  show (x.cps ++ y.cps).size = _
  simp [Str.length]
theorem Tx.cat {x y : Str} (hx : Tx x) (hy : Tx y) (hl : x.length + y.length ≤ 80) : Tx (x ++ y) := ⟨by rw [len_cat]; exact hl, fun c hc => by
  have hc' : c ∈ (x.cps ++ y.cps).toList := hc
  rw [Array.toList_append, List.mem_append] at hc'
  rcases hc' with h | h
  · exact hx.2 c h
  · exact hy.2 c h⟩
theorem foldJ {g : Array Nat} (hg : g = #[]) : ∀ (l : List Str) (a : Array Nat), (l.foldl (fun acc p => acc ++ g ++ p.cps) a).toList = a.toList ++ (l.map fun p => p.cps.toList).flatten
  | [], a => by simp
  | p :: l, a => by
    rw [List.foldl_cons, foldJ hg l, hg]
    simp
theorem join_list_eq {g : Str} (hg : g.cps = #[]) : ∀ ys : List Str, (Txt.join g ys).cps.toList = (ys.map fun p => p.cps.toList).flatten
  | [] => by simp [Txt.join, PySem.Builtin.Str.glued, Str.empty]
  | y :: ys => by
    show ((ys.foldl (fun acc p => acc ++ g.cps ++ p.cps) y.cps)).toList = _
    rw [foldJ hg]
    simp
theorem flat_len : ∀ {ys : List Str}, (∀ y ∈ ys, y.length = 1) → ((ys.map fun p => p.cps.toList).flatten).length = ys.length
  | [], _ => rfl
  | y :: ys, h => by
    have h1 := h y List.mem_cons_self
    have h2 := flat_len (ys := ys) fun z hz => h z (List.mem_cons_of_mem _ hz)
    unfold Str.length at h1
    simp [h2, h1] <;> omega
/-- a text joined of single signs -/
theorem Tx.join {g : Str} {ys : List Str} (hg : g.cps = #[]) (h1 : ∀ y ∈ ys, y.length = 1) (h2 : ∀ y ∈ ys, Tx y) (hl : ys.length ≤ 80) : Tx (Txt.join g ys) ∧ (Txt.join g ys).length = ys.length := by
  have e := join_list_eq hg ys
  have l : (Txt.join g ys).length = ys.length := by
    rw [← flat_len h1, ← e]
    simp [Str.length]
  refine ⟨⟨by omega, fun c hc => ?_⟩, l⟩
  rw [e, List.mem_flatten] at hc
  obtain ⟨t, ht, hc⟩ := hc
  obtain ⟨y, hy, rfl⟩ := List.mem_map.mp ht
  exact (h2 y hy).2 c hc
end L3

set_option maxHeartbeats 4000000
namespace L3
open PySem PySem.W PySem.Calls PyProof.Rows

/-! ### the sort sorts -/
structure Ord (lt : Nat → Nat → Bool) : Prop where
  asy : ∀ a b, lt a b = true → lt b a = false
  tr : ∀ a b c, lt b a = false → lt c b = false → lt c a = false
theorem runT_bind {α β : Type} (lt : Nat → Nat → Bool) (f : α → KasT β) : ∀ t : KasT α, runT lt (t.bind f) = runT lt (f (runT lt t))
  | .ret a => rfl
  | .ask i j k => runT_bind lt f (k (lt i j))
section
variable {lt : Nat → Nat → Bool}
/-- places lo .. hi - 1 rise -/
def Up (lt : Nat → Nat → Bool) (p : Array Nat) (hi : Nat) : Prop := ∀ i j, i ≤ j → j < hi → lt (p.getD j 0) (p.getD i 0) = false
def Dn (lt : Nat → Nat → Bool) (p : Array Nat) (hi : Nat) : Prop := ∀ i j, i ≤ j → j < hi → lt (p.getD i 0) (p.getD j 0) = false
theorem Ord.irr (o : Ord lt) (a : Nat) : lt a a = false := by
  cases h : lt a a with
  | false => rfl
  | true => rw [← h]; exact o.asy a a h
theorem Up.one (o : Ord lt) (p : Array Nat) : Up lt p 1 := fun i j h1 h2 => by
  have e1 : i = 0 := by omega
  have e2 : j = 0 := by omega
  rw [e1, e2]; exact o.irr _
theorem Dn.one (o : Ord lt) (p : Array Nat) : Dn lt p 1 := fun i j h1 h2 => by
  have e1 : i = 0 := by omega
  have e2 : j = 0 := by omega
  rw [e1, e2]; exact o.irr _
theorem Up.more (o : Ord lt) {p : Array Nat} {n : Nat} (h : Up lt p n) (hn : 0 < n) (h1 : lt (p.getD n 0) (p.getD (n - 1) 0) = false) : Up lt p (n + 1) := fun i j h2 h3 => by
  by_cases e : j = n
  · subst e
    by_cases e2 : i = j
    · rw [e2]; exact o.irr _
    · exact o.tr _ _ _ (h i (j - 1) (by omega) (by omega)) h1
  · exact h i j h2 (by omega)
theorem Dn.more (o : Ord lt) {p : Array Nat} {n : Nat} (h : Dn lt p n) (hn : 0 < n) (h1 : lt (p.getD (n - 1) 0) (p.getD n 0) = false) : Dn lt p (n + 1) := fun i j h2 h3 => by
  by_cases e : j = n
  · subst e
    by_cases e2 : i = j
    · rw [e2]; exact o.irr _
    · exact o.tr _ _ _ h1 (h i (j - 1) (by omega) (by omega))
  · exact h i j h2 (by omega)
theorem run_asc (o : Ord lt) {p : Array Nat} : ∀ (f n : Nat), 0 < n → Up lt p n → n ≤ runT lt (kas_asc p f n) ∧ runT lt (kas_asc p f n) ≤ n + f ∧ Up lt p (runT lt (kas_asc p f n)) ∧ (runT lt (kas_asc p f n) < n + f → lt (p.getD (runT lt (kas_asc p f n)) 0) (p.getD (runT lt (kas_asc p f n) - 1) 0) = true)
  | 0, n, hn, h => ⟨Nat.le_refl _, Nat.le_refl _, h, fun z => absurd z (Nat.lt_irrefl _)⟩
  | f + 1, n, hn, h => by
    show n ≤ runT lt (if lt (p.getD n 0) (p.getD (n - 1) 0) = true then _ else _) ∧ runT lt (if lt (p.getD n 0) (p.getD (n - 1) 0) = true then _ else _) ≤ n + (f + 1) ∧ Up lt p (runT lt (if lt (p.getD n 0) (p.getD (n - 1) 0) = true then _ else _)) ∧ _
    cases c : lt (p.getD n 0) (p.getD (n - 1) 0) with
    | true =>
      rw [show kas_asc p (f + 1) n = .ask (p.getD n 0) (p.getD (n - 1) 0) fun c => if c = true then .ret n else kas_asc p f (n + 1) from rfl]
      simp only [runT, c, if_true]
      exact ⟨Nat.le_refl _, by omega, h, fun _ => trivial⟩
    | false =>
      rw [show kas_asc p (f + 1) n = .ask (p.getD n 0) (p.getD (n - 1) 0) fun c => if c = true then .ret n else kas_asc p f (n + 1) from rfl]
      simp only [runT, c, Bool.false_eq_true, if_false]
      have ih := run_asc o (p := p) f (n + 1) (by omega) (h.more o hn c)
      exact ⟨by omega, by omega, ih.2.2.1, fun z => ih.2.2.2 (by omega)⟩
theorem getD_eq {p q : Array Nat} {i j : Nat} (h : p[i]? = q[j]?) : p.getD i 0 = q.getD j 0 := by
  rw [Array.getD_eq_getD_getElem?, Array.getD_eq_getD_getElem?, h]
theorem rev_at {p : Array Nat} {i j : Nat} (hj : j ≤ p.size) (k : Nat) : (kas_rev p i j).getD k 0 = if i ≤ k ∧ k < j then p.getD (i + j - 1 - k) 0 else p.getD k 0 := by
  have e := getElem?_mirror_all (xs := p) (i := i) hj k
  split
  · rename_i h
    rw [if_pos h] at e
    exact getD_eq e
  · rename_i h
    rw [if_neg h] at e
    exact getD_eq e
theorem rev_size (p : Array Nat) (i j : Nat) : (kas_rev p i j).size = p.size := mirror_size _ _ _ _
/-- a falling run turned about rises -/
theorem Dn.rev {p : Array Nat} {n : Nat} (hn : n ≤ p.size) (h : Dn lt p n) : Up lt (kas_rev p 0 n) n := fun i j h1 h2 => by
  rw [rev_at hn, rev_at hn, if_pos ⟨Nat.zero_le _, h2⟩, if_pos ⟨Nat.zero_le _, by omega⟩]
  exact h _ _ (by omega) (by omega)
theorem Up.rev {p : Array Nat} {n : Nat} (hn : n ≤ p.size) (h : Up lt p n) : Dn lt (kas_rev p 0 n) n := fun i j h1 h2 => by
  rw [rev_at hn, rev_at hn, if_pos (show 0 ≤ i ∧ i < n by omega), if_pos (show 0 ≤ j ∧ j < n by omega)]
  exact h _ _ (by omega) (by omega)
/-- places lo .. hi - 1 alike -/
def Eqs (lt : Nat → Nat → Bool) (p : Array Nat) (lo hi : Nat) : Prop := ∀ i j, lo ≤ i → i < hi → lo ≤ j → j < hi → lt (p.getD i 0) (p.getD j 0) = false
theorem Dn.revEq (o : Ord lt) {p : Array Nat} {lo n : Nat} (hn : n ≤ p.size) (hl : lo < n) (h : Dn lt p n) (e : Eqs lt p lo n) : Dn lt (kas_rev p lo n) n := fun i j h1 h2 => by
  rw [rev_at hn, rev_at hn]
  split <;> split
  · exact e _ _ (by omega) (by omega) (by omega) (by omega)
  · omega
  · exact h _ _ (by omega) (by omega)
  · exact h _ _ h1 h2
theorem run_desc (o : Ord lt) {N : Nat} : ∀ (f : Nat) (p : Array Nat) (n q : Nat), p.size = N → n + f ≤ N → q < n → Dn lt p n → Eqs lt p (n - (q + 1)) n →
    (runT lt (kas_desc f p n q)).1.size = N ∧ n ≤ (runT lt (kas_desc f p n q)).2.1 ∧ (runT lt (kas_desc f p n q)).2.1 ≤ n + f ∧ (runT lt (kas_desc f p n q)).2.2 < (runT lt (kas_desc f p n q)).2.1 ∧
      Dn lt (runT lt (kas_desc f p n q)).1 (runT lt (kas_desc f p n q)).2.1 ∧ Eqs lt (runT lt (kas_desc f p n q)).1 ((runT lt (kas_desc f p n q)).2.1 - ((runT lt (kas_desc f p n q)).2.2 + 1)) (runT lt (kas_desc f p n q)).2.1
  | 0, p, n, q, hp, hf, hq, h, e => ⟨hp, Nat.le_refl _, Nat.le_refl _, hq, h, e⟩
  | f + 1, p, n, q, hp, hf, hq, h, e => by
    have one : ∀ (p' : Array Nat) (m : Nat), Eqs lt p' (m - (0 + 1)) m := fun p' m i j h1 h2 h3 h4 => by
      have : i = j := by omega
      rw [this]; exact o.irr _
    have un : kas_desc (f + 1) p n q = .ask (p.getD n 0) (p.getD (n - 1) 0) fun c => if c = true then (if q > 0 then kas_desc f (kas_rev p (n - (q + 1)) n) (n + 1) 0 else kas_desc f p (n + 1) 0)
        else .ask (p.getD (n - 1) 0) (p.getD n 0) fun d => if d = true then .ret (p, n, q) else kas_desc f p (n + 1) (q + 1) := rfl
    cases c : lt (p.getD n 0) (p.getD (n - 1) 0) with
    | true =>
      have c' := o.asy _ _ c
      by_cases hq0 : q > 0
      · have er : runT lt (kas_desc (f + 1) p n q) = runT lt (kas_desc f (kas_rev p (n - (q + 1)) n) (n + 1) 0) := by
          rw [un]; simp only [runT, c, if_true, if_pos hq0]
        rw [er]
        have h' : Dn lt (kas_rev p (n - (q + 1)) n) (n + 1) := (h.revEq o (by omega) (by omega) e).more o (by omega) (by
          rw [rev_at (by omega), rev_at (by omega), if_pos (by omega), if_neg (by omega)]
          exact o.tr _ _ _ c' (e _ _ (by omega) (by omega) (by omega) (by omega)))
        have ih := run_desc o (N := N) f (kas_rev p (n - (q + 1)) n) (n + 1) 0 (by rw [rev_size]; exact hp) (by omega) (by omega) h' (one _ _)
        exact ⟨ih.1, by omega, by omega, ih.2.2.2.1, ih.2.2.2.2.1, ih.2.2.2.2.2⟩
      · have er : runT lt (kas_desc (f + 1) p n q) = runT lt (kas_desc f p (n + 1) 0) := by
          rw [un]; simp only [runT, c, if_true, if_neg hq0]
        rw [er]
        have ih := run_desc o (N := N) f p (n + 1) 0 hp (by omega) (by omega) (h.more o (by omega) c') (one _ _)
        exact ⟨ih.1, by omega, by omega, ih.2.2.2.1, ih.2.2.2.2.1, ih.2.2.2.2.2⟩
    | false =>
      cases d : lt (p.getD (n - 1) 0) (p.getD n 0) with
      | true =>
        have er : runT lt (kas_desc (f + 1) p n q) = (p, n, q) := by
          rw [un]; simp only [runT, c, d, if_true, Bool.false_eq_true, if_false]
        rw [er]
        exact ⟨hp, Nat.le_refl _, by show n ≤ n + (f + 1); omega, hq, h, e⟩
      | false =>
        have er : runT lt (kas_desc (f + 1) p n q) = runT lt (kas_desc f p (n + 1) (q + 1)) := by
          rw [un]; simp only [runT, c, d, Bool.false_eq_true, if_false]
        rw [er]
        have e' : Eqs lt p (n + 1 - (q + 1 + 1)) (n + 1) := fun i j h1 h2 h3 h4 => by
          by_cases ei : i = n
          · by_cases ej : j = n
            · rw [ei, ej]; exact o.irr _
            · rw [ei]; exact o.tr _ _ _ (e _ _ (by omega) (by omega) (by omega) (by omega)) c
          · by_cases ej : j = n
            · rw [ej]; exact o.tr _ _ _ d (e _ _ (by omega) (by omega) (by omega) (by omega))
            · exact e _ _ (by omega) (by omega) (by omega) (by omega)
        have ih := run_desc o (N := N) f p (n + 1) (q + 1) hp (by omega) (by omega) (h.more o (by omega) d) e'
        exact ⟨ih.1, by omega, by omega, ih.2.2.2.1, ih.2.2.2.2.1, ih.2.2.2.2.2⟩
/-- what a counted run is -/
def Run (lt : Nat → Nat → Bool) (N : Nat) (r : Nat × Array Nat) : Prop := r.2.size = N ∧ 0 < r.1 ∧ r.1 ≤ N ∧ Up lt r.2 r.1
theorem run_tail3 (o : Ord lt) {N n : Nat} {p : Array Nat} (hp : p.size = N) (hn : 0 < n) (hN : n ≤ N) (h : Dn lt p n) : Run lt N (runT lt (kas_tail3 n N p)) := by
  have e : runT lt (kas_tail3 n N p) = (runT lt (kas_asc (kas_rev p 0 n) (N - n) n), kas_rev p 0 n) := by
    unfold kas_tail3
    rw [runT_bind]
    rfl
  rw [e]
  have a := run_asc o (p := kas_rev p 0 n) (N - n) n hn (h.rev (by omega))
  exact ⟨by rw [rev_size]; exact hp, by have := a.1; show 0 < _; omega, by have := a.2.1; show _ ≤ N; omega, a.2.2.1⟩
theorem run_descPart (o : Ord lt) {N n : Nat} {p : Array Nat} (hp : p.size = N) (hN : n + 1 ≤ N) (h : Dn lt p (n + 1)) : Run lt N (runT lt (kas_descPart n N p)) := by
  unfold kas_descPart
  rw [runT_bind]
  have d := run_desc o (N := N) (N - (n + 1)) p (n + 1) 0 hp (by omega) (by omega) h (fun i j h1 h2 h3 h4 => by
    have : i = j := by omega
    rw [this]; exact o.irr _)
  generalize runT lt (kas_desc (N - (n + 1)) p (n + 1) 0) = r at *
  obtain ⟨d1, d2, d3, d4, d5, d6⟩ := d
  split
  · exact run_tail3 o (by rw [rev_size]; exact d1) (by omega) (by omega) (d5.revEq o (by omega) (by omega) d6)
  · exact run_tail3 o d1 (by omega) (by omega) d5
theorem run_count (o : Ord lt) {N : Nat} {p : Array Nat} (hp : p.size = N) (hN : 0 < N) : Run lt N (runT lt (kas_count N p)) := by
  unfold kas_count
  rw [runT_bind]
  have a := run_asc o (p := p) (N - 1) 1 (by omega) (Up.one o p)
  generalize runT lt (kas_asc p (N - 1) 1) = n at *
  obtain ⟨a1, a2, a3, a4⟩ := a
  split
  · exact ⟨hp, a1, by show n ≤ N; omega, a3⟩
  · rename_i hne
    have hne' : n ≠ N := by simpa using hne
    have hlt := a4 (by omega)
    split
    · rename_i h1
      show Run lt N (runT lt (if lt (p.getD 0 0) (p.getD (n - 1) 0) = true then _ else _))
      split
      · exact ⟨hp, a1, by show n ≤ N; omega, a3⟩
      · rename_i hc
        refine run_descPart o (by rw [rev_size]; exact hp) (by omega) ((a3.rev (by omega)).more o (by omega) ?_)
        rw [rev_at (by omega), rev_at (by omega), if_pos (by omega), if_neg (by omega)]
        have e0 : 0 + n - 1 - (n - 1) = 0 := by omega
        rw [e0]
        exact o.tr _ _ _ (o.asy _ _ hlt) (by simpa using hc)
    · have e1 : n = 1 := by omega
      subst e1
      exact run_descPart o hp (by omega) ((Dn.one o p).more o (by omega) (o.asy _ _ hlt))
theorem run_place (o : Ord lt) {p : Array Nat} {k : Nat} (h : Up lt p k) : ∀ (f l r : Nat), l ≤ r → r ≤ k → r - l ≤ f → (∀ i, i < l → lt (p.getD k 0) (p.getD i 0) = false) → (∀ i, r ≤ i → i < k → lt (p.getD k 0) (p.getD i 0) = true) →
    runT lt (kas_place p k f l r) ≤ k ∧ (∀ i, i < runT lt (kas_place p k f l r) → lt (p.getD k 0) (p.getD i 0) = false) ∧ (∀ i, runT lt (kas_place p k f l r) ≤ i → i < k → lt (p.getD k 0) (p.getD i 0) = true)
  | 0, l, r, h1, h2, h3, h4, h5 => ⟨by show l ≤ k; omega, h4, fun i z => h5 i (by have : l ≤ i := z; omega)⟩
  | f + 1, l, r, h1, h2, h3, h4, h5 => by
    unfold kas_place
    split
    · exact ⟨by show l ≤ k; omega, h4, fun i z => h5 i (by have : l ≤ i := z; omega)⟩
    · rename_i hlr
      have hm1 : l ≤ (l + r) / 2 := by omega
      have hm2 : (l + r) / 2 < r := by omega
      generalize (l + r) / 2 = m at *
      cases c : lt (p.getD k 0) (p.getD m 0) with
      | true =>
        simp only [runT, c, if_true]
        refine run_place o h f l m hm1 (by omega) (by omega) h4 (fun i z1 z2 => ?_)
        cases d : lt (p.getD k 0) (p.getD i 0) with
        | true => rfl
        | false =>
          have := o.tr _ _ _ (h m i z1 z2) d
          rw [c] at this; cases this
      | false =>
        simp only [runT, c, Bool.false_eq_true, if_false]
        exact run_place o h f (m + 1) r (by omega) h2 (by omega) (fun i z => o.tr _ _ _ (h i m (by omega) (by omega)) c) h5
theorem bub_at {p : Array Nat} {k l : Nat} (hk : k < p.size) (hl : l ≤ k) (i : Nat) : (bubble p k (k - l)).getD i 0 = if i = l then p.getD k 0 else if l < i ∧ i ≤ k then p.getD (i - 1) 0 else p.getD i 0 := by
  have e := getElem?_bubble hk (k - l) (by omega) i
  have e2 : k - (k - l) = l := by omega
  rw [e2] at e
  by_cases h : i = l
  · rw [if_pos h] at e ⊢
    exact getD_eq e
  · rw [if_neg h] at e ⊢
    by_cases h2 : l < i ∧ i ≤ k
    · rw [if_pos h2] at e ⊢
      exact getD_eq e
    · rw [if_neg h2] at e ⊢
      exact getD_eq e
theorem run_bin (o : Ord lt) {N : Nat} : ∀ (f : Nat) (p : Array Nat) (k : Nat), p.size = N → k + f ≤ N → Up lt p k → (runT lt (kas_bin f p k)).size = N ∧ Up lt (runT lt (kas_bin f p k)) (k + f)
  | 0, p, k, hp, hf, h => ⟨hp, h⟩
  | f + 1, p, k, hp, hf, h => by
    have e : runT lt (kas_bin (f + 1) p k) = runT lt (kas_bin f (bubble p k (k - runT lt (kas_place p k k 0 k))) (k + 1)) := by
      show runT lt ((kas_place p k k 0 k).bind _) = _
      rw [runT_bind]
    rw [e]
    obtain ⟨l1, l2, l3⟩ := run_place o h k 0 k (by omega) (Nat.le_refl _) (by omega) (fun i z => by omega) (fun i z1 z2 => by omega)
    generalize runT lt (kas_place p k k 0 k) = l at *
    have up : Up lt (bubble p k (k - l)) (k + 1) := fun i j h1 h2 => by
      rw [bub_at (by omega) l1, bub_at (by omega) l1]
      by_cases ei : i = l
      · by_cases ej : j = l
        · rw [if_pos ej, if_pos ei]; exact o.irr _
        · rw [if_neg ej, if_pos ei, if_pos (by omega)]
          exact o.asy _ _ (l3 _ (by omega) (by omega))
      · by_cases ej : j = l
        · rw [if_pos ej, if_neg ei, if_neg (by omega)]
          exact l2 _ (by omega)
        · rw [if_neg ej, if_neg ei]
          split <;> split
          · exact h _ _ (by omega) (by omega)
          · exact h _ _ (by omega) (by omega)
          · omega
          · exact h _ _ (by omega) (by omega)
    have ih := run_bin o (N := N) f (bubble p k (k - l)) (k + 1) (by rw [bubble_size]; exact hp) (by omega) up
    have e3 : k + (f + 1) = k + 1 + f := by omega
    rw [e3]
    exact ih
theorem run_sort (o : Ord lt) {N : Nat} (hN : 0 < N) : (runT lt (kas_sort N)).size = N ∧ Up lt (runT lt (kas_sort N)) N := by
  unfold kas_sort
  rw [runT_bind]
  have c := run_count o (N := N) (p := List.toArray (List.range N)) (by simp) hN
  generalize runT lt (kas_count N (List.toArray (List.range N))) = r at *
  obtain ⟨c1, c2, c3, c4⟩ := c
  split
  · have e : max r.1 1 = r.1 := by omega
    rw [e]
    have b := run_bin o (N := N) (N - r.1) r.2 r.1 c1 (by omega) c4
    have e2 : r.1 + (N - r.1) = N := by omega
    rw [e2] at b
    exact b
  · have e : r.1 = N := by omega
    rw [e] at c4
    exact ⟨c1, c4⟩
end
end L3

set_option maxHeartbeats 4000000
namespace L3
open PySem PySem.Spec PyProof.Rows L2

/-! ### rows of ints and texts are ordered -/
def sLt (x y : Str) : Bool := decide (x.cps.toList < y.cps.toList)
theorem sLt_asy {x y : Str} (h : sLt x y = true) : sLt y x = false := by
  have h' : x.cps.toList < y.cps.toList := of_decide_eq_true h
  exact decide_eq_false (List.lt_asymm h')
theorem sLt_tr {a b c : Str} (h1 : sLt b a = false) (h2 : sLt c b = false) : sLt c a = false := by
  have h1' : a.cps.toList ≤ b.cps.toList := of_decide_eq_false h1
  have h2' : b.cps.toList ≤ c.cps.toList := of_decide_eq_false h2
  exact decide_eq_false (List.le_trans h1' h2')
theorem sLt_eq {a b : Str} (h1 : sLt a b = false) (h2 : sLt b a = false) : a = b := by
  have h1' : b.cps.toList ≤ a.cps.toList := of_decide_eq_false h1
  have h2' : a.cps.toList ≤ b.cps.toList := of_decide_eq_false h2
  have e := List.le_antisymm h2' h1'
  cases a; cases b
  simp only at e
  congr
  exact Array.ext' e
theorem sLt_irr (a : Str) : sLt a a = false := decide_eq_false (List.lt_irrefl _)
theorem rl_int (i j : Int) (r r' : List PyData) : rowLt (.int i :: r) (.int j :: r') = if i = j then rowLt r r' else decide (i < j) := by
  show (if (i == j) = true then rowLt r r' else decide (i < j)) = _
  by_cases h : i = j
  · rw [if_pos h, if_pos (by rw [h]; simp)]
  · rw [if_neg h, if_neg (by simpa using h)]
theorem rl_str (x y : Str) (r r' : List PyData) : rowLt (.str x :: r) (.str y :: r') = if x = y then rowLt r r' else sLt x y := by
  show (if (x == y) = true then rowLt r r' else decide (x.cps.toList < y.cps.toList)) = _
  by_cases h : x = y
  · rw [if_pos h, if_pos (by rw [h]; simp)]
  · rw [if_neg h, if_neg (by simpa using h)]
    rfl
theorem rl_asy : ∀ {ks : List Bool} {xs ys : List PyData}, Row ks xs → Row ks ys → rowLt xs ys = true → rowLt ys xs = false
  | [], xs, ys, h1, h2, h => by
    cases (show xs = [] from h1); cases (show ys = [] from h2)
    rfl
  | true :: ks, xs, ys, h1, h2, h => by
    obtain ⟨i, r, rfl, h1⟩ := h1
    obtain ⟨j, r', rfl, h2⟩ := h2
    rw [rl_int] at h ⊢
    by_cases e : i = j
    · rw [if_pos e] at h; rw [if_pos e.symm]; exact rl_asy h1 h2 h
    · rw [if_neg e] at h; rw [if_neg (Ne.symm e)]
      have := of_decide_eq_true h
      exact decide_eq_false (by omega)
  | false :: ks, xs, ys, h1, h2, h => by
    obtain ⟨i, r, rfl, h1⟩ := h1
    obtain ⟨j, r', rfl, h2⟩ := h2
    rw [rl_str] at h ⊢
    by_cases e : i = j
    · rw [if_pos e] at h; rw [if_pos e.symm]; exact rl_asy h1 h2 h
    · rw [if_neg e] at h; rw [if_neg (Ne.symm e)]
      exact sLt_asy h
theorem rl_tr : ∀ {ks : List Bool} {a b c : List PyData}, Row ks a → Row ks b → Row ks c → rowLt b a = false → rowLt c b = false → rowLt c a = false
  | [], a, b, c, h1, h2, h3, h4, h5 => by
    cases (show a = [] from h1); cases (show c = [] from h3)
    rfl
  | true :: ks, a, b, c, h1, h2, h3, h4, h5 => by
    obtain ⟨i, r, rfl, h1⟩ := h1
    obtain ⟨j, r', rfl, h2⟩ := h2
    obtain ⟨k, r'', rfl, h3⟩ := h3
    rw [rl_int] at h4 h5 ⊢
    by_cases e1 : j = i
    · rw [if_pos e1] at h4
      by_cases e2 : k = j
      · rw [if_pos e2] at h5; rw [if_pos (e2.trans e1)]; exact rl_tr h1 h2 h3 h4 h5
      · rw [if_neg e2] at h5; rw [if_neg (by omega)]
        have := of_decide_eq_false h5
        exact decide_eq_false (by omega)
    · rw [if_neg e1] at h4
      have q1 := of_decide_eq_false h4
      by_cases e2 : k = j
      · rw [if_neg (by omega)]; exact decide_eq_false (by omega)
      · rw [if_neg e2] at h5
        have q2 := of_decide_eq_false h5
        rw [if_neg (by omega)]; exact decide_eq_false (by omega)
  | false :: ks, a, b, c, h1, h2, h3, h4, h5 => by
    obtain ⟨i, r, rfl, h1⟩ := h1
    obtain ⟨j, r', rfl, h2⟩ := h2
    obtain ⟨k, r'', rfl, h3⟩ := h3
    rw [rl_str] at h4 h5 ⊢
    by_cases e1 : j = i
    · rw [if_pos e1] at h4
      by_cases e2 : k = j
      · rw [if_pos e2] at h5; rw [if_pos (e2.trans e1)]; exact rl_tr h1 h2 h3 h4 h5
      · rw [if_neg e2] at h5; rw [if_neg (by rw [← e1]; exact e2), ← e1]; exact h5
    · rw [if_neg e1] at h4
      by_cases e2 : k = j
      · rw [if_neg (by rw [e2]; exact e1), e2]; exact h4
      · rw [if_neg e2] at h5
        by_cases e3 : k = i
        · subst e3
          exact absurd (sLt_eq h5 h4) e2
        · rw [if_neg e3]; exact sLt_tr h4 h5
/-- an order of rows, with no row ahead of all -/
theorem row_ord {ks0 : List Bool} {ds : List PyData} (h : Rows ks0 ds) : Ord (ltAtD ds) := by
  obtain ⟨ks, hks, hk⟩ : ∃ ks, ks = true :: ks0 ∧ ks ≠ [] := ⟨_, rfl, by simp⟩
  have at' : ∀ i, rowOf (ds.getD i .none) = [] ∨ Row ks (rowOf (ds.getD i .none)) := fun i => by
    by_cases hi : i < ds.length
    · right
      have e : ds.getD i .none = ds[i] := by simp [List.getD, hi]
      obtain ⟨r, e2, hr⟩ := h ds[i] (List.getElem_mem hi)
      rw [e, e2, hks]
      exact hr
    · left
      have e : ds.getD i .none = .none := by simp [List.getD, List.getElem?_eq_none (Nat.le_of_not_lt hi)]
      rw [e]; rfl
  have ne : ∀ {r : List PyData}, Row ks r → ∃ x xs, r = x :: xs := fun {r} hr => by
    match ks, hk, hr with
    | true :: ks, _, ⟨i, r, e, _⟩ => exact ⟨_, _, e⟩
    | false :: ks, _, ⟨i, r, e, _⟩ => exact ⟨_, _, e⟩
  refine ⟨fun a b hab => ?_, fun a b c h1 h2 => ?_⟩
  · show rowLt (rowOf (ds.getD b .none)) (rowOf (ds.getD a .none)) = false
    have hab' : rowLt (rowOf (ds.getD a .none)) (rowOf (ds.getD b .none)) = true := hab
    rcases at' a with ea | ea <;> rcases at' b with eb | eb
    · rw [ea, eb]; rfl
    · obtain ⟨x, xs, e⟩ := ne eb
      rw [ea, e]; rfl
    · obtain ⟨x, xs, e⟩ := ne ea
      rw [e, eb] at hab'; cases hab'
    · exact rl_asy ea eb hab'
  · show rowLt (rowOf (ds.getD c .none)) (rowOf (ds.getD a .none)) = false
    have h1' : rowLt (rowOf (ds.getD b .none)) (rowOf (ds.getD a .none)) = false := h1
    have h2' : rowLt (rowOf (ds.getD c .none)) (rowOf (ds.getD b .none)) = false := h2
    rcases at' a with ea | ea
    · rw [ea]
      rcases at' c with ec | ec
      · rw [ec]; rfl
      · obtain ⟨x, xs, e⟩ := ne ec
        rw [e]; rfl
    · obtain ⟨x, xs, e⟩ := ne ea
      rcases at' b with eb | eb
      · rw [eb, e] at h1'; cases h1'
      · obtain ⟨y, ys, e2⟩ := ne eb
        rcases at' c with ec | ec
        · rw [ec, e2] at h2'; cases h2'
        · exact rl_tr ea eb ec h1' h2'

/-! ### the sort's outcome is the same things -/
section
open PySem.W PySem.Calls
def OkQ (n : Nat) (p : Array Nat) : Prop := OkP n p ∧ p.Perm (List.toArray (List.range n))
theorem OkQ.get {n : Nat} {p : Array Nat} (h : OkQ n p) (hn : 0 < n) (i : Nat) : p.getD i 0 < n := h.1.get hn i
theorem OkQ.perm {n : Nat} {p q : Array Nat} (h : OkQ n p) (e : q.Perm p) : OkQ n q := ⟨h.1.perm e, e.trans h.2⟩
theorem OkQ.rev {n : Nat} {p : Array Nat} (h : OkQ n p) (i j : Nat) : OkQ n (kas_rev p i j) := h.perm (mirror_perm _ _ _ _)
theorem OkQ.bub {n : Nat} {p : Array Nat} (h : OkQ n p) (i j : Nat) : OkQ n (bubble p i j) := h.perm (bubble_perm _ _ _)
section
variable {n : Nat}
theorem postQ_asc (hn : 0 < n) {p : Array Nat} (hp : OkQ n p) : ∀ (f m : Nat), PostT n (fun _ => True) (kas_asc p f m)
  | 0, m => trivial
  | f + 1, m => ⟨hp.get hn _, hp.get hn _, fun b => by
      cases b with
      | true => exact trivial
      | false => exact postQ_asc hn hp f (m + 1)⟩
theorem postQ_desc (hn : 0 < n) : ∀ (f : Nat) (p : Array Nat) (m q : Nat), OkQ n p → PostT n (fun r : Array Nat × Nat × Nat => OkQ n r.1) (kas_desc f p m q)
  | 0, p, m, q, hp => hp
  | f + 1, p, m, q, hp => ⟨hp.get hn _, hp.get hn _, fun b => by
      cases b with
      | true =>
        show PostT n _ (if q > 0 then _ else _)
        split
        · exact postQ_desc hn f _ _ _ (hp.rev _ _)
        · exact postQ_desc hn f _ _ _ hp
      | false =>
        refine ⟨hp.get hn _, hp.get hn _, fun b => ?_⟩
        cases b with
        | true => exact hp
        | false => exact postQ_desc hn f _ _ _ hp⟩
theorem postQ_tail3 (hn : 0 < n) {m r : Nat} {p : Array Nat} (hp : OkQ n p) : PostT n (fun r : Nat × Array Nat => OkQ n r.2) (kas_tail3 m r p) :=
  PostT.bind (postQ_asc hn (hp.rev _ _) _ _) fun _ _ => hp.rev _ _
theorem postQ_descPart (hn : 0 < n) {m r : Nat} {p : Array Nat} (hp : OkQ n p) : PostT n (fun r : Nat × Array Nat => OkQ n r.2) (kas_descPart m r p) :=
  PostT.bind (postQ_desc hn _ _ _ _ hp) fun a ha => by
    split
    · exact postQ_tail3 hn (ha.rev _ _)
    · exact postQ_tail3 hn ha
theorem postQ_count (hn : 0 < n) {r : Nat} {p : Array Nat} (hp : OkQ n p) : PostT n (fun r : Nat × Array Nat => OkQ n r.2) (kas_count r p) :=
  PostT.bind (postQ_asc hn hp _ _) fun a _ => by
    split
    · exact hp
    · split
      · refine ⟨hp.get hn _, hp.get hn _, fun b => ?_⟩
        cases b with
        | true => exact hp
        | false => exact postQ_descPart hn (hp.rev _ _)
      · exact postQ_descPart hn hp
theorem postQ_place (hn : 0 < n) {p : Array Nat} (hp : OkQ n p) (k : Nat) : ∀ (f l r : Nat), PostT n (fun _ => True) (kas_place p k f l r)
  | 0, l, r => trivial
  | f + 1, l, r => by
    unfold kas_place
    split
    · exact trivial
    · refine ⟨hp.get hn _, hp.get hn _, fun b => ?_⟩
      cases b with
      | true => exact postQ_place hn hp k f _ _
      | false => exact postQ_place hn hp k f _ _
theorem postQ_bin (hn : 0 < n) : ∀ (f : Nat) (p : Array Nat) (k : Nat), OkQ n p → PostT n (OkQ n) (kas_bin f p k)
  | 0, p, k, hp => hp
  | f + 1, p, k, hp => PostT.bind (postQ_place hn hp k _ _ _) fun l _ => postQ_bin hn f _ _ (hp.bub _ _)
theorem postQ_sort (hn : 0 < n) : PostT n (OkQ n) (kas_sort n) := by
  have h0 : OkQ n (List.toArray (List.range n)) := ⟨⟨by simp, fun x hx => by simpa using hx⟩, .refl _⟩
  refine PostT.bind (postQ_count hn h0) fun a ha => ?_
  split
  · exact postQ_bin hn _ _ _ ha
  · exact ha
end
theorem srt_perm (lt : Nat → Nat → Bool) (n : Nat) : (srt lt n).Perm (List.range n) := by
  unfold srt
  split
  · exact .refl _
  · have h := (PostT.run lt (postQ_sort (n := n) (by omega))).2
    simpa using h.toList
theorem srt_up {lt : Nat → Nat → Bool} (o : Ord lt) (n : Nat) {i j : Nat} (h1 : i ≤ j) (h2 : j < n) : lt ((srt lt n).getD j 0) ((srt lt n).getD i 0) = false := by
  unfold srt
  split
  · have e1 : i = 0 := by omega
    have e2 : j = 0 := by omega
    rw [e1, e2]; exact o.irr _
  · have h := (run_sort o (N := n) (by omega)).2 i j h1 h2
    have e : ∀ k, (runT lt (kas_sort n)).toList.getD k 0 = (runT lt (kas_sort n)).getD k 0 := fun k => by
      rw [Array.getD_eq_getD_getElem?, List.getD_eq_getElem?_getD]; simp
    rw [e, e]
    exact h
end
theorem map_range_getD (ds : List PyData) : ((List.range ds.length).map fun i => ds.getD i .none) = ds := by
  apply List.ext_getElem
  · simp
  · intro i h1 h2
    simp [List.getD, h2]
theorem sortD_perm (ds : List PyData) : (sortD ds).Perm ds := by
  have h := (srt_perm (ltAtD ds) ds.length).map fun i => ds.getD i .none
  rw [map_range_getD] at h
  exact h
theorem sortD_up {ks : List Bool} {ds : List PyData} (h : Rows ks ds) {i j : Nat} {x y : PyData} (hx : (sortD ds)[i]? = some x) (hy : (sortD ds)[j]? = some y) (hij : i ≤ j) : rowLt (rowOf y) (rowOf x) = false := by
  unfold sortD at hx hy
  rw [List.getElem?_map] at hx hy
  have hj : j < (srt (ltAtD ds) ds.length).length := by
    cases e : (srt (ltAtD ds) ds.length)[j]? with
    | none => rw [e] at hy; cases hy
    | some k => exact (List.getElem?_eq_some_iff.mp e).1
  have hi : i < (srt (ltAtD ds) ds.length).length := by omega
  rw [List.getElem?_eq_getElem hi] at hx
  rw [List.getElem?_eq_getElem hj] at hy
  cases hx; cases hy
  have u := srt_up (row_ord h) ds.length hij (by rw [srt_length] at hj; exact hj)
  have e1 : (srt (ltAtD ds) ds.length).getD i 0 = (srt (ltAtD ds) ds.length)[i] := by simp [List.getD, hi]
  have e2 : (srt (ltAtD ds) ds.length).getD j 0 = (srt (ltAtD ds) ds.length)[j] := by simp [List.getD, hj]
  rw [e1, e2] at u
  exact u
end L3

set_option maxHeartbeats 4000000
namespace L3
open PySem PySem.Spec PyProof.Rows
section
variable {prog : Program} {w : World} {A : Around} {R : Result → Shared → Prop} {I : Addr} {fp wr : List Addr} {n : Nat} {P : Nat → Value → Prop} {St : Nat → Heap → Prop}
/-- the loop from its second turn on, whatever the keywords are -/
theorem max_loopK (kw : List (Str × Value)) (W : Walks prog w A.in1 I fp wr n P St) (bt : Nat → Nat → Bool) (hcmp : CmpOf prog w A.in1 .Gt P bt) (S : Addr) (hSf : S ∉ fp) :
    ∀ (k j : Nat) (s : Shared) (vb : Value) (c : Nat), n - (j + 1) = k → j + 1 ≤ n → St (j + 1) s.heap → P (argBest bt j) vb →
    s.heap.get? S = some { cls := .type "list", dict := none, data := .seq #[vb, vb] c, slots := #[] } →
    (∀ v h' tk, P (argBest bt (n - 1)) v → (∀ b o, b ∉ wr → b ≠ S → s.heap.get? b = some o → h'.get? b = some o) → R (.ok (.ret v)) { s with heap := h', toks := tk }) →
    codeAny (model prog w) A (.builtin "max.loop" ⟨[.ref I, .none, .ref S], kw⟩) R s := by
  have hSw : S ∉ wr := fun h => hSf (W.sub _ h)
  have nm : (toString "max" ++ toString ".loop" : String) = "max.loop" := by decide
  intro k
  induction k with
  | zero =>
    intro j s vb c hk hj hst hPb hS hR
    have hin : j + 1 = n := by omega
    refine codeAny_builtin F.entry_max_loop ?_
    rw [Around.under_plainId F.plain_max_loop _]
    show wpAny _ A.in1 (seqItems? (.ref S) >>= _) _ _ s
    refine wpAny_bind (wpAny_seqItems hS rfl ?_)
    show wpAny _ A.in1 (tryCatch (pyNext (.ref I)) _ >>= _) _ _ s
    refine wpAny_bind (wpAny_tryCatch (W.done s _ _ (hin ▸ hst) fun h' tk hk' => ?_))
    have hS' := hk' S _ hSw hS
    show wpAny _ A.in1 (updateSeq S (fun _ => #[]) >>= _) _ _ _
    refine wpAny_bind (wpAny_updateSeq hS' rfl (wpAny_bind (wpAny_letGo (wpAny_pure ?_))))
    exact hR vb _ tk (by rw [← hin]; exact hPb) fun b o hbw hbS e => (Heap.get?_update_other _ _ (Ne.symm hbS)).trans (hk' b o hbw e)
  | succ k ih =>
    intro j s vb c hk hj hst hPb hS hR
    have hlt : j + 1 < n := by omega
    refine codeAny_builtin F.entry_max_loop ?_
    rw [Around.under_plainId F.plain_max_loop _]
    show wpAny _ A.in1 (seqItems? (.ref S) >>= _) _ _ s
    refine wpAny_bind (wpAny_seqItems hS rfl ?_)
    show wpAny _ A.in1 (tryCatch (pyNext (.ref I)) _ >>= _) _ _ s
    refine wpAny_bind (wpAny_tryCatch (W.item (j + 1) s _ _ hlt hst fun v h' tk hP hst' hk' => ?_))
    have hS' := hk' S _ hSw hS
    show wpAny _ A.in1 (tryCatch (holding [v, v] (richCompare .Gt v vb >>= _)) _ >>= _) _ _ _
    refine wpAny_bind (wpAny_tryCatch (wpAny_holding (wpAny_bind (hcmp (j + 1) (argBest bt j) v vb _ _ _ hP hPb ?_))))
    refine wpAny_bind (wpAny_holding (wpAny_truthy_bool ?_))
    refine wpAny_bind (wpAny_letGo (wpAny_pure ?_))
    cases hb : bt (j + 1) (argBest bt j) with
    | true =>
      simp only [if_true]
      refine wpAny_bind (wpAny_updateSeq hS' rfl (wpAny_bind (wpAny_letGo ?_)))
      rw [nm]
      refine wpAny_pure ⟨plainId_quiet F.plain_max_loop _, ih (j + 1) _ v _ (by omega) hlt (W.frame _ _ _ hst' fun b hbf o e => ?_) (by simp only [argBest, hb, if_true]; exact hP) (Heap.get?_update_self _ hS' rfl) fun v' h'' tk'' hP' hk'' => ?_⟩
      · exact (Heap.get?_update_other _ _ (fun h : S = b => hSf (by rw [h]; exact hbf))).trans e
      · exact hR v' h'' tk'' hP' fun b o hbw hbS e => hk'' b o hbw hbS ((Heap.get?_update_other _ _ (Ne.symm hbS)).trans (hk' b o hbw e))
    | false =>
      simp only [Bool.false_eq_true, if_false]
      refine wpAny_bind (wpAny_letGo ?_)
      rw [nm]
      refine wpAny_pure ⟨plainId_quiet F.plain_max_loop _, ih (j + 1) _ vb c (by omega) hlt hst' (by simp only [argBest, hb, Bool.false_eq_true, if_false]; exact hPb) hS' fun v' h'' tk'' hP' hk'' => ?_⟩
      exact hR v' h'' tk'' hP' fun b o hbw hbS e => hk'' b o hbw hbS (hk' b o hbw e)
theorem max_firstK (kw : List (Str × Value)) (W : Walks prog w A.in1 I fp wr n P St) (bt : Nat → Nat → Bool) (hcmp : CmpOf prog w A.in1 .Gt P bt) (S : Addr) (hSf : S ∉ fp) (hn : 0 < n) {s : Shared} {c : Nat} (hst : St 0 s.heap)
    (hS : s.heap.get? S = some { cls := .type "list", dict := none, data := .seq #[] c, slots := #[] })
    (hR : ∀ v h' tk, P (argBest bt (n - 1)) v → (∀ b o, b ∉ wr → b ≠ S → s.heap.get? b = some o → h'.get? b = some o) → R (.ok (.ret v)) { s with heap := h', toks := tk }) :
    codeAny (model prog w) A (.builtin "max.loop" ⟨[.ref I, .none, .ref S], kw⟩) R s := by
  have hSw : S ∉ wr := fun h => hSf (W.sub _ h)
  have nm : (toString "max" ++ toString ".loop" : String) = "max.loop" := by decide
  refine codeAny_builtin F.entry_max_loop ?_
  rw [Around.under_plainId F.plain_max_loop _]
  show wpAny _ A.in1 (seqItems? (.ref S) >>= _) _ _ s
  refine wpAny_bind (wpAny_seqItems hS rfl ?_)
  show wpAny _ A.in1 (tryCatch (pyNext (.ref I)) _ >>= _) _ _ s
  refine wpAny_bind (wpAny_tryCatch (W.item 0 s _ _ hn hst fun v h' tk hP hst' hk' => ?_))
  have hS' := hk' S _ hSw hS
  show wpAny _ A.in1 (updateSeq S (fun _ => #[v, v]) >>= _) _ _ _
  refine wpAny_bind (wpAny_updateSeq hS' rfl ?_)
  rw [nm]
  refine wpAny_pure ⟨plainId_quiet F.plain_max_loop _, max_loopK kw W bt hcmp S hSf _ 0 _ v _ rfl hn (W.frame _ _ _ hst' fun b hbf o e => ?_) hP (Heap.get?_update_self _ hS' rfl) fun v' h'' tk'' hP' hk'' => ?_⟩
  · exact (Heap.get?_update_other _ _ (fun h : S = b => hSf (by rw [h]; exact hbf))).trans e
  · exact hR v' h'' tk'' hP' fun b o hbw hbS e => hk'' b o hbw hbS ((Heap.get?_update_other _ _ (Ne.symm hbS)).trans (hk' b o hbw e))
end
section
variable {prog : Program} {w : World} {A : Around} {E : Value → Shared → Prop} {s : Shared}
theorem call_max_kw {x d : Value} {Q : Value → Shared → Prop}
    (h : wpAny (model prog w) A.in1 (pyIter x) (fun it s₂ => ∃ I fp wr n P St bt, it = .ref I ∧ Walks prog w A.in1 I fp wr n P St ∧ St 0 s₂.heap ∧ (∀ b ∈ fp, b < s₂.heap.objs.size) ∧ 0 < n ∧ CmpOf prog w A.in1 .Gt P bt ∧
      ∀ v h' tk, P (argBest bt (n - 1)) v → (∀ b o, b ∉ wr → s₂.heap.get? b = some o → h'.get? b = some o) → Q v { s₂ with heap := h', toks := tk }) E s) :
    wpAny (model prog w) A (call (.builtin "max") [x] [(Str.ofString "default", d)]) Q E s := by
  have nm : (toString "max" ++ toString ".loop" : String) = "max.loop" := by decide
  refine wpAny_call (codeAny_call_builtin F.plain_max F.entry_max ?_)
  simp only [checkBuiltinCall, F.kind_max]
  have go : wpAny (model prog w) A.in1 (Builtin.«max» ⟨[x], [(Str.ofString "default", d)]⟩) (fun fin s' => match fin with
      | .done f => (match (Except.ok f : Result) with | .ok (.ret v) => Q v s' | .ok _ => False | .error e => E e s')
      | .again c' => c'.quiet = true ∧ codeAny (model prog w) A c' (fun r s' => match r with | .ok (.ret v) => Q v s' | .ok _ => False | .error e => E e s') s') E s := by
    show wpAny _ A.in1 (Builtin.Builtins.bindParams "max" ["key", "default"] 0 ⟨[], [(Str.ofString "default", d)]⟩ >>= _) _ _ s
    refine wpAny_bind (wpAny_of_eq (show Builtin.Builtins.bindParams "max" ["key", "default"] 0 ⟨[], [(Str.ofString "default", d)]⟩ = pure [none, some d] from rfl) ?_)
    refine wpAny_bind (wpAny_pure ?_)
    refine wpAny_bind (wpAny_mono h (fun it s₂ h₂ => ?_) fun _ _ e => e)
    obtain ⟨I, fp, wr, n, P, St, bt, rfl, W, hst, hfp, hn, hcmp, hQ⟩ := h₂
    refine wpAny_bind (wpAny_newObj_type ?_)
    have hSf : s₂.heap.objs.size ∉ fp := fun hm => Nat.lt_irrefl _ (hfp _ hm)
    rw [nm]
    refine wpAny_pure ⟨plainId_quiet F.plain_max_loop _, max_firstK _ W bt hcmp s₂.heap.objs.size hSf hn (W.frame _ _ _ hst fun b _ o e => Heap.get?_push_of_some _ e) (Heap.get?_push_size _ rfl) fun v h' tk hP hk => ?_⟩
    exact hQ v h' tk hP fun b o hbw e => hk b o hbw (Nat.ne_of_lt (Heap.lt_size e)) (Heap.get?_push_of_some _ e)
  cases hsig : Manifest.signature? "max" with
  | none => exact wpAny_pure go
  | some sig =>
    have ha' : Bind.checkArgs "max" sig ⟨[x], [(Str.ofString "default", d)]⟩ = pure () := by
      have := args_maxD x d
      simpa only [argsOk, hsig] using this
    simp only [ha']
    exact wpAny_pure go
theorem max_listK {l : Addr} {d : Value} {vs : List Value} {ns : List Int} {Q : Value → Shared → Prop} (hh : A.handled = none) (hl : s.heap.IsList l vs.toArray) (hi : IntsAre vs ns) (hne : 0 < ns.length)
    (h : ∀ h' M (t : Tok) tk, (∀ b o, s.heap.get? b = some o → h'.get? b = some o) → M ∈ ns → (∀ a, a ∈ ns → a ≤ M) → Q (.int M t) { s with heap := h', toks := tk }) :
    wpAny (model prog w) A (call (.builtin "max") [.ref l] [(Str.ofString "default", d)]) Q E s := by
  obtain ⟨xs, e⟩ := hi.allInts.items
  have hns : ns = xs.toList.map (·.1) := by rw [← hi.numsOf, ← nums_intItems, ← e]
  have hsz : 0 < xs.size := by
    have h3 := hne; rw [hns, List.length_map, Array.length_toList] at h3; exact h3
  rw [e] at hl
  refine call_max_kw (iter_intList hl fun s₂ e st hfp hlI => ?_)
  subst e
  refine ⟨_, _, _, _, _, _, _, rfl, Walks.list (A := A.in1) hh _ l hlI (intItems xs), st, hfp, by simpa [intItems] using hsz, CmpOf.ints_gt (numAt xs) (fun _ _ => intItems_at), fun v h' tk hP hk => ?_⟩
  have hv : (intItems xs)[argBest (fun i j => decide (numAt xs i > numAt xs j)) (xs.size - 1)]? = some v := by simpa [intItems] using hP
  obtain ⟨t, rfl⟩ := intItems_at hv
  obtain ⟨h1, h2⟩ := argBest_gt (numAt xs) (xs.size - 1)
  refine h _ _ t tk (old_kept hk) ?_ fun a ha => ?_
  · rw [hns, numAt_eq]; exact getD_mem (by rw [List.length_map, Array.length_toList]; omega)
  · rw [hns] at ha
    obtain ⟨j, hj, rfl⟩ := mem_getD ha
    rw [List.length_map, Array.length_toList] at hj
    rw [← numAt_eq]; exact h2 j (by omega)
theorem max_list0 {l : Addr} {vs : List Value} {ns : List Int} {Q : Value → Shared → Prop} (hh : A.handled = none) (hl : s.heap.IsList l vs.toArray) (hi : IntsAre vs ns) (hne : 0 < ns.length)
    (h : ∀ h' M (t : Tok) tk, (∀ b o, s.heap.get? b = some o → h'.get? b = some o) → M ∈ ns → (∀ a, a ∈ ns → a ≤ M) → Q (.int M t) { s with heap := h', toks := tk }) :
    wpAny (model prog w) A (call (.builtin "max") [.ref l]) Q E s := by
  obtain ⟨xs, e⟩ := hi.allInts.items
  have hns : ns = xs.toList.map (·.1) := by rw [← hi.numsOf, ← nums_intItems, ← e]
  have hsz : 0 < xs.size := by
    have h3 := hne; rw [hns, List.length_map, Array.length_toList] at h3; exact h3
  rw [e] at hl
  refine max_intList hh hl hsz fun v h' tk hv hk => ?_
  obtain ⟨t, rfl⟩ := intItems_at hv
  obtain ⟨h1, h2⟩ := argBest_gt (numAt xs) (xs.size - 1)
  refine h _ _ t tk hk ?_ fun a ha => ?_
  · rw [hns, numAt_eq]; exact getD_mem (by rw [List.length_map, Array.length_toList]; omega)
  · rw [hns] at ha
    obtain ⟨j, hj, rfl⟩ := mem_getD ha
    rw [List.length_map, Array.length_toList] at hj
    rw [← numAt_eq]; exact h2 j (by omega)
end
end L3

/-! cells that hang together: plain mathematics, no program -/
namespace L3
abbrev Cl := Int × Int
def Tch (a b : Cl) : Prop := (a.1 = b.1 ∧ (b.2 = a.2 + 1 ∨ a.2 = b.2 + 1)) ∨ (a.2 = b.2 ∧ (b.1 = a.1 + 1 ∨ a.1 = b.1 + 1))
theorem Tch.symm {a b : Cl} (h : Tch a b) : Tch b a := by
  unfold Tch at *
  omega
/-- whatever is so of one cell, and goes over from cell to cell that touch, is so of all -/
def Conn (S : List Cl) : Prop := ∀ T : Cl → Prop, (∃ a, a ∈ S ∧ T a) → (∀ a b, a ∈ S → b ∈ S → T a → Tch a b → T b) → ∀ a, a ∈ S → T a
theorem Conn.one (a : Cl) : Conn [a] := fun T ⟨b, hb, tb⟩ _ c hc => by
  rw [List.mem_singleton.mp hc, ← List.mem_singleton.mp hb]
  exact tb
theorem Conn.snoc {S : List Cl} {a b : Cl} (h : Conn S) (ha : a ∈ S) (t : Tch a b) : Conn (S ++ [b]) := fun T ⟨c, hc, tc⟩ go d hd => by
  have mS : ∀ {x}, x ∈ S → x ∈ S ++ [b] := fun hx => List.mem_append_left _ hx
  have mb : b ∈ S ++ [b] := List.mem_append_right _ (List.mem_singleton.mpr rfl)
  have inS : ∃ x, x ∈ S ∧ T x := by
    rcases List.mem_append.mp hc with h1 | h1
    · exact ⟨c, h1, tc⟩
    · rw [List.mem_singleton.mp h1] at tc
      exact ⟨a, ha, go b a mb (mS ha) tc t.symm⟩
  have all := h T inS fun x y hx hy tx txy => go x y (mS hx) (mS hy) tx txy
  rcases List.mem_append.mp hd with h1 | h1
  · exact all d h1
  · rw [List.mem_singleton.mp h1]
    exact go a b (mS ha) mb (all a ha) t
theorem Conn.map {S : List Cl} {f : Cl → Cl} (h : Conn S) (hf : ∀ a b, Tch a b → Tch (f a) (f b)) : Conn (S.map f) := fun T ⟨c, hc, tc⟩ go d hd => by
  obtain ⟨x, hx, rfl⟩ := List.mem_map.mp hc
  obtain ⟨y, hy, rfl⟩ := List.mem_map.mp hd
  exact h (fun a => T (f a)) ⟨x, hx, tc⟩ (fun a b ha hb ta tab => go _ _ (List.mem_map_of_mem ha) (List.mem_map_of_mem hb) ta (hf a b tab)) y hy
theorem Conn.congr {S S' : List Cl} (h : Conn S) (e : ∀ a, a ∈ S' ↔ a ∈ S) : Conn S' := fun T ⟨c, hc, tc⟩ go d hd =>
  h T ⟨c, (e c).mp hc, tc⟩ (fun a b ha hb => go a b ((e a).mpr ha) ((e b).mpr hb)) d ((e d).mp hd)
/-- what is closed under touching is all -/
theorem Conn.closed {S R : List Cl} (h : Conn S) (hs : ∀ a, a ∈ R → a ∈ S) (hne : ∃ a, a ∈ R) (hc : ∀ a, a ∈ R → ∀ b, b ∈ S → Tch a b → b ∈ R) : ∀ a, a ∈ S → a ∈ R := by
  obtain ⟨a, ha⟩ := hne
  exact h (fun x => x ∈ R) ⟨a, hs a ha, ha⟩ fun x y hx hy tx txy => hc x tx y hy txy
theorem nodup_len {α : Type} [DecidableEq α] {S R : List α} (hS : S.Nodup) (hR : R.Nodup) (e : ∀ a, a ∈ R ↔ a ∈ S) : R.length = S.length := by
  apply Nat.le_antisymm
  · exact List.Nodup.length_le_of_subset hR fun a ha => (e a).mp ha
  · exact List.Nodup.length_le_of_subset hS fun a ha => (e a).mpr ha
/-- the turnings keep touching -/
theorem Tch.mirror (m : Int) {a b : Cl} (h : Tch a b) : Tch (a.1, m - a.2) (b.1, m - b.2) := by
  unfold Tch at *
  simp only
  omega
theorem Tch.turn (m : Int) {a b : Cl} (h : Tch a b) : Tch (a.2, m - a.1) (b.2, m - b.1) := by
  unfold Tch at *
  simp only
  omega
theorem Tch.shift (r c : Int) {a b : Cl} (h : Tch a b) : Tch (a.1 - r, a.2 - c) (b.1 - r, b.2 - c) := by
  unfold Tch at *
  simp only
  omega
end L3

set_option maxHeartbeats 4000000
namespace L3
open PySem PySem.Spec PyProof.Rows L2

/-! ### max of a list of ints, with and without a default -/
section
variable {X : Cx} {x : Str} {p pos kpos : Pos} {e e2 : Expr} {es : List Expr} {t tk : TA} {te : TE}
def rMax : List V → Hp → VK → Prop := fun xs H Q => ∃ q, ∃ ns : List Int, xs = [.ref q] ∧ H q = some (.lst (ns.map V.int)) ∧ 0 < ns.length ∧ ∀ M, M ∈ ns → (∀ a ∈ ns, a ≤ M) → Q (.int M) H
theorem call_maxL (hc : X.calm = true) : CallR X (.builtin "max") rMax := by
  intro pins s σ H xs us Q I r h
  obtain ⟨q, ns, rfl, hq, hn, h⟩ := h
  obtain ⟨u, rfl, r1⟩ := vals1 r
  cases (show u = Value.ref q from r1)
  obtain ⟨its, rv, pl, hz⟩ := I.list (SqL.of (K := X.K) hq)
  exact max_list0 (I.ok.hd hc) pl.isList (intsAre_of rv) hn fun h' M t tk k h1 h2 => ⟨.int M, H, I.kept k, ⟨_, rfl⟩, h M h1 h2⟩
def tMaxD (t tk : TA) : TE := fun σ H Q => t σ H fun vs H1 => tk σ H1 fun zs H2 => zs.length = 1 ∧ rMax vs H2 Q
theorem pe_maxD (hc : X.calm = true) (hg : Gl X "max") (hm : X.mg "max" = none) (ha : PA X [e] t) (hkw : PK X [⟨some "default", e2, kpos⟩] tk)
    (he : backTo pos (starEach [e] X.env) = (false, eval e X.env) :: backTo pos (starEach [] X.env) := by rfl) (hpl : (backTo pos (starEach [e] X.env)).any (·.1) = false := by rfl) :
    PE X (.Call (.Name "max" p) [e] [⟨some "default", e2, kpos⟩] pos) (tMaxD t tk) := by
  intro pins s σ H Q I h
  refine wpAny_Call_Name_kw (ld_blt I hg hm boot_max ?_ (by decide) (by decide))
  refine callWith_kw (thn (ha pos pins s σ H _ I h) fun us s1 ⟨vs, H1, I1, r, q⟩ => thn (hkw pos pins s1 σ H1 _ I1 q) fun ws s2 ⟨zs, H2, I2, rz, hz1, q2⟩ => ?_) he hpl
  obtain ⟨d, rfl⟩ : ∃ d, ws = [d] := by
    have hl : ws.length = 1 := rz.length.symm.trans hz1
    match ws, hl with
    | [d], _ => exact ⟨d, rfl⟩
  obtain ⟨l, ns, rfl, hq, hn, hQ⟩ := q2
  obtain ⟨u, rfl, r1⟩ := vals1 r
  cases (show u = Value.ref l from r1)
  obtain ⟨its, rv, pl, hz⟩ := I2.list (SqL.of (K := X.K) hq)
  exact max_listK (I2.ok.hd hc) pl.isList (intsAre_of rv) hn fun h' M t tk k h1 h2 => ⟨.int M, H2, I2.kept k, ⟨_, rfl⟩, hQ M h1 h2⟩
end
def maxI : List Int → Int
  | [] => 0
  | [a] => a
  | a :: b :: r => if maxI (b :: r) ≤ a then a else maxI (b :: r)
theorem maxI_mem : ∀ {ns : List Int}, 0 < ns.length → maxI ns ∈ ns
  | [], h => by simp at h
  | [a], _ => by simp [maxI]
  | a :: b :: r, _ => by
    unfold maxI
    split
    · exact List.mem_cons_self
    · exact List.mem_cons_of_mem _ (maxI_mem (by simp))
theorem le_maxI : ∀ {ns : List Int}, ∀ a ∈ ns, a ≤ maxI ns
  | [], a, h => by cases h
  | [a], b, h => by
    have e : b = a := by simpa using h
    rw [e]; exact Int.le_refl _
  | a :: b :: r, x, h => by
    unfold maxI
    rcases List.mem_cons.mp h with e | h
    · rw [e]
      split
      · exact Int.le_refl _
      · omega
    · have := le_maxI (ns := b :: r) x h
      split
      · omega
      · exact this
theorem maxI_eq {ns : List Int} {M : Int} (h1 : M ∈ ns) (h2 : ∀ a ∈ ns, a ≤ M) : M = maxI ns := by
  have hp : 0 < ns.length := List.length_pos_of_mem h1
  have a1 := h2 _ (maxI_mem hp)
  have a2 := le_maxI M h1
  omega

/-! ### spots mirrored, turned to the right -/
def mir1 (m : Int) : PyData → PyData
  | .tuple [.int r, .int c, .str x] => .tuple [.int r, .int (m - c), .str x]
  | d => d
def tur1 (m : Int) : PyData → PyData
  | .tuple [.int r, .int c, .str x] => .tuple [.int c, .int (m - r), .str x]
  | d => d
def mirD (ds : List PyData) : List PyData := ds.map (mir1 (maxI (ds.map col1)))
def turD (ds : List PyData) : List PyData := ds.map (tur1 (maxI (ds.map row1)))
/-- turned by t, spot by spot, before it is sorted -/
def spotsD (t : Nat) (ds : List PyData) : List PyData := (List.range (t % 4)).foldl (fun a _ => turD a) (if 4 ≤ t then mirD ds else ds)
theorem mir_spots {ds : List PyData} (h : Spots ds) (m : Int) : Spots (ds.map (mir1 m)) := fun d hd => by
  obtain ⟨e, he, rfl⟩ := List.mem_map.mp hd
  obtain ⟨r, c, x, rfl⟩ := h e he
  exact ⟨_, _, _, rfl⟩
theorem tur_spots {ds : List PyData} (h : Spots ds) (m : Int) : Spots (ds.map (tur1 m)) := fun d hd => by
  obtain ⟨e, he, rfl⟩ := List.mem_map.mp hd
  obtain ⟨r, c, x, rfl⟩ := h e he
  exact ⟨_, _, _, rfl⟩
theorem spots_rows {ds : List PyData} (h : Spots ds) : Rows [true, false] ds := fun d hd => by
  obtain ⟨r, c, x, rfl⟩ := h d hd
  exact ⟨_, rfl, _, _, rfl, _, _, rfl, _, _, rfl, rfl⟩
section
variable {K : PySem.W.Frag} {a : Addr} {xs : List V} {ds : List PyData} {σ : L2.St} {H : Hp} {Q : VK}
/-- [spot[j] for spot in spots] -/
theorem read_projI {i0 : Nat} (j : Int) (pr : PyData → Int) (hj : ∀ (r c : Int) (x : Str), atI [V.int r, .int c, .str x] j = some (.int (pr (.tuple [.int r, .int c, .str x]))))
    (hσ : σ[i0]? = some (some (.ref a))) (ha : H a = some (.lst xs)) (hr : RepAll H ds xs) (hs : Spots ds) (hl : ds.length ≤ 64)
    (q : ∀ D H', Same H H' → H' D = some (.lst ((ds.map pr).map V.int)) → Q (.ref D) H') :
    tComp (iList K (tVar i0)) [none] (gName 0) tYes (tOp (rIxT K) (tVar 0) (tC (.int j))) σ H Q := by
  have hlen := hr.length
  refine ⟨_, hσ, a, rfl, ⟨_, SqL.of ha⟩, fun D hD => ?_⟩
  refine comp_list (xs := xs) (fun i ys H' => Same H H' ∧ ys = ((ds.take i).map pr).map V.int) ⟨Same.fresh _ hD, rfl⟩ (fun i ys H' p => SqL.of (p.1 _ _ ha)) (fun i x ys H' hx hi hDy hyl p => ?_) (fun ys H' hDy hyl p => ?_)
  · obtain ⟨p1, rfl⟩ := p
    obtain ⟨b, r, c, z, rfl, hb, hz, hd⟩ := hs.at hr hx
    refine ⟨Agree.set (Agree.refl _) rfl, ?_⟩
    dsimp only [tYes]
    refine iteT ?_
    refine ⟨_, rfl, b, _, _, _, rfl, rfl, SqT.of (p1 _ _ hb), hj r c z, nx_put (by omega) hDy hyl ⟨p1.new hD, ?_⟩⟩
    rw [map_take_succ pr hd, List.map_append]
    rfl
  · obtain ⟨p1, rfl⟩ := p
    refine q D H' p1 ?_
    rw [hDy, List.take_of_length_le (by omega)]
theorem row_at (r c : Int) (x : Str) : atI [V.int r, .int c, .str x] 0 = some (.int (row1 (.tuple [.int r, .int c, .str x]))) := rfl
theorem col_at (r c : Int) (x : Str) : atI [V.int r, .int c, .str x] 1 = some (.int (col1 (.tuple [.int r, .int c, .str x]))) := rfl
/-- [(f, g, sign) for row, column, sign in spots], f and g made of row, column and one outer number -/
theorem read_each {m : Int} {i0 j : Nat} {ta tb : TE} (f : Int → PyData → PyData) (hσ : σ[i0]? = some (some (.ref a))) (h1 : σ[j]? = some (some (.int m))) (ha : H a = some (.lst xs)) (hr : RepAll H ds xs) (hs : Spots ds) (hl : ds.length ≤ 64)
    (hread : ∀ (r c : Int) (z : Str) (H' : Hp) (Q' : VK), (∃ u v : Int, f m (.tuple [.int r, .int c, .str z]) = .tuple [.int u, .int v, .str z] ∧ ∀ n, H' n = none → Q' (.ref n) (upd H' n (.tup [.int u, .int v, .str z]))) →
      tTup (tCons ta (tCons tb (tCons (tVar 2) tNil))) [some (.int r), some (.int c), some (.str z), some (.int m)] H' Q')
    (q : ∀ D ys H', H D = none → Same H H' → H' D = some (.lst ys) → RepAll H' (ds.map (f m)) ys → Q (.ref D) H')
    (hsp : ∀ (r c : Int) (z : Str), ∃ u v : Int, f m (.tuple [.int r, .int c, .str z]) = .tuple [.int u, .int v, .str z]) :
    tComp (iList K (tVar i0)) [none, none, none, some j] (gTup K 3 (gCons (gName 0) (gCons (gName 1) (gCons (gName 2) gNil)))) tYes (tTup (tCons ta (tCons tb (tCons (tVar 2) tNil)))) σ H Q := by
  have hlen := hr.length
  refine ⟨_, hσ, a, rfl, ⟨_, SqL.of ha⟩, fun D hD => ?_⟩
  have hp : picks [none, none, none, some j] σ = [none, none, none, some (.int m)] := by
    unfold picks
    simp [h1]
  have im : ∀ es : List PyData, (∀ d ∈ es, d ∈ ds) → Spots (es.map (f m)) := fun es he d hd => by
    obtain ⟨d0, h0, rfl⟩ := List.mem_map.mp hd
    obtain ⟨r0, c0, x0, rfl⟩ := hs d0 (he d0 h0)
    obtain ⟨u, v, e⟩ := hsp r0 c0 x0
    exact ⟨u, v, x0, e⟩
  refine comp_list (xs := xs) (fun i ys H' => Same H H' ∧ RepAll H' ((ds.take i).map (f m)) ys) ⟨Same.fresh _ hD, rfl⟩ (fun i ys H' p => SqL.of (p.1 _ _ ha)) (fun i x ys H' hx hi hDy hyl p => ?_) (fun ys H' hDy hyl p => ?_)
  · obtain ⟨p1, p2⟩ := p
    obtain ⟨b, r, c, z, rfl, hb, hz, hd⟩ := hs.at hr hx
    rw [hp]
    refine ⟨b, _, rfl, SqT.of (p1 _ _ hb), rfl, _, _, rfl, _, _, rfl, _, _, rfl, rfl, ?_⟩
    refine ⟨Agree.set (Agree.set (Agree.set (Agree.refl _) rfl) rfl) rfl, ?_⟩
    dsimp only [tYes]
    refine iteT ?_
    obtain ⟨u, v, ef⟩ := hsp r c z
    refine hread r c z H' _ ⟨u, v, ef, fun n hn => ?_⟩
    have s2 : Same H' (upd H' n (.tup [.int u, .int v, .str z])) := Same.fresh _ hn
    have n2 : upd H' n (.tup [.int u, .int v, .str z]) n = some (.tup [.int u, .int v, .str z]) := upd_same
    generalize upd H' n (.tup [.int u, .int v, .str z]) = H2 at *
    have hD2 := s2 _ _ hDy
    refine nx_put (by omega) hD2 hyl ⟨(p1.trans s2).new hD, ?_⟩
    have rep : RepAll H2 ((ds.take i).map (f m) ++ [f m (.tuple [.int r, .int c, .str z])]) (ys ++ [.ref n]) := by
      rw [ef]
      exact (p2.same s2).snoc (spot_rep n2 hz)
    rw [← map_take_succ (f m) hd] at rep
    exact rep.tk (Tk.lst hD2) (Spots.imm (im _ fun d hd' => List.mem_of_mem_take hd'))
  · obtain ⟨p1, p2⟩ := p
    rw [List.take_of_length_le (by omega)] at p2
    exact q D ys H' hD p1 hDy p2
end
end L3

/-! the road of a hash over a set's table: every slot is met. Plain mathematics. -/
namespace L3
open PySem
/-! ### i -> 5 i + 1 meets all numbers below 2 ^ k -/
def sm5 : Nat → Nat
  | 0 => 0
  | m + 1 => 5 * sm5 m + 1
def g5 (m i : Nat) : Nat := 5 ^ m * i + sm5 m
theorem g5_succ (m i : Nat) : g5 (m + 1) i = 5 * g5 m i + 1 := by
  show 5 ^ (m + 1) * i + (5 * sm5 m + 1) = 5 * (5 ^ m * i + sm5 m) + 1
  rw [Nat.pow_succ, Nat.mul_add, Nat.mul_comm (5 ^ m) 5, Nat.mul_assoc, Nat.add_assoc]
theorem g5_add (m n i : Nat) : g5 (m + n) i = g5 m (g5 n i) := by
  induction m with
  | zero => rw [Nat.zero_add]; unfold g5 sm5; simp
  | succ m ih => rw [Nat.succ_add, g5_succ, ih, g5_succ]
theorem sm5_add (m n : Nat) : sm5 (m + n) = 5 ^ m * sm5 n + sm5 m := by
  have h := g5_add m n 0
  unfold g5 at h
  simpa using h
theorem five_two : ∀ k, ∃ c d : Nat, 5 ^ (2 ^ k) = 1 + 2 ^ (k + 2) * c ∧ sm5 (2 ^ k) = 2 ^ k * (2 * d + 1)
  | 0 => ⟨1, 0, rfl, rfl⟩
  | k + 1 => by
    obtain ⟨c, d, h1, h2⟩ := five_two k
    have e : 2 ^ (k + 1) = 2 ^ k + 2 ^ k := by rw [Nat.pow_succ]; omega
    refine ⟨c + 2 ^ (k + 1) * c * c, d + 2 ^ k * c * (2 * d + 1), ?_, ?_⟩
    · rw [e, Nat.pow_add, h1, show 2 ^ (k + 1 + 2) = 8 * 2 ^ k by rw [Nat.pow_add, Nat.pow_add]; omega, show 2 ^ (k + 2) = 4 * 2 ^ k by rw [Nat.pow_add]; omega]
      generalize 2 ^ k = A
      grind
    · rw [e, sm5_add, h1, h2, show 2 ^ (k + 2) = 4 * 2 ^ k by rw [Nat.pow_add]; omega]
      generalize 2 ^ k = A
      grind
theorem g5_half (k i : Nat) : g5 (2 ^ k) i % 2 ^ (k + 1) = (i + 2 ^ k) % 2 ^ (k + 1) := by
  obtain ⟨c, d, h1, h2⟩ := five_two k
  unfold g5
  rw [h1, h2]
  have e3 : 2 ^ (k + 2) = 2 ^ (k + 1) * 2 := by rw [show k + 2 = (k + 1) + 1 by omega, Nat.pow_succ]
  have e : (1 + 2 ^ (k + 2) * c) * i + 2 ^ k * (2 * d + 1) = (i + 2 ^ k) + 2 ^ (k + 1) * (2 * (c * i) + d) := by
    rw [e3, Nat.pow_succ]
    generalize 2 ^ k = A
    simp only [Nat.add_mul, Nat.mul_add, Nat.one_mul, Nat.mul_one, Nat.mul_assoc, Nat.mul_comm, Nat.mul_left_comm]
    omega
  rw [e, Nat.add_mul_mod_self_left]
theorem g5_all : ∀ (k i j : Nat), ∃ m, m < 2 ^ k ∧ g5 m i % 2 ^ k = j % 2 ^ k
  | 0, i, j => ⟨0, by decide, by simp [Nat.mod_one]⟩
  | k + 1, i, j => by
    obtain ⟨m, hm, e⟩ := g5_all k i j
    have e2 : 2 ^ (k + 1) = 2 * 2 ^ k := by rw [Nat.pow_succ]; omega
    by_cases h : g5 m i % 2 ^ (k + 1) = j % 2 ^ (k + 1)
    · exact ⟨m, by omega, h⟩
    · refine ⟨2 ^ k + m, by omega, ?_⟩
      rw [g5_add, g5_half]
      have a := Nat.mod_add_div (g5 m i) (2 ^ (k + 1))
      have l1 : g5 m i % 2 ^ (k + 1) < 2 ^ (k + 1) := Nat.mod_lt _ (by rw [e2]; have := Nat.two_pow_pos k; omega)
      have l2 : j % 2 ^ (k + 1) < 2 ^ (k + 1) := Nat.mod_lt _ (by rw [e2]; have := Nat.two_pow_pos k; omega)
      have m1 : g5 m i % 2 ^ (k + 1) % 2 ^ k = g5 m i % 2 ^ k := Nat.mod_mod_of_dvd _ ⟨2, by rw [e2]; omega⟩
      have m2 : j % 2 ^ (k + 1) % 2 ^ k = j % 2 ^ k := Nat.mod_mod_of_dvd _ ⟨2, by rw [e2]; omega⟩
      rw [Nat.add_mod, Nat.mod_eq_of_lt (show 2 ^ k < 2 ^ (k + 1) by have := Nat.two_pow_pos k; omega)]
      generalize g5 m i % 2 ^ (k + 1) = x at *
      generalize j % 2 ^ (k + 1) = y at *
      rw [← m1, ← m2] at e
      generalize 2 ^ (k + 1) = A at *
      generalize 2 ^ k = B at *
      subst e2
      have hx : x % B = if x < B then x else x - B := by
        split
        · exact Nat.mod_eq_of_lt (by assumption)
        · rw [Nat.mod_eq_sub_mod (by omega), Nat.mod_eq_of_lt (by omega)]
      have hy : y % B = if y < B then y else y - B := by
        split
        · exact Nat.mod_eq_of_lt (by assumption)
        · rw [Nat.mod_eq_sub_mod (by omega), Nat.mod_eq_of_lt (by omega)]
      rw [hx, hy] at e
      have hz : (x + B) % (2 * B) = if x + B < 2 * B then x + B else x + B - 2 * B := by
        split
        · exact Nat.mod_eq_of_lt (by assumption)
        · rw [Nat.mod_eq_sub_mod (by omega), Nat.mod_eq_of_lt (by omega)]
      rw [hz]
      split at e <;> split at e <;> split <;> omega
/-! ### the road -/
open SetTable
def itn {α : Type} (f : α → α) : Nat → α → α
  | 0, x => x
  | n + 1, x => itn f n (f x)
theorem itn_add {α : Type} (f : α → α) : ∀ (m n : Nat) (x : α), itn f (m + n) x = itn f n (itn f m x)
  | 0, n, x => by rw [Nat.zero_add]; rfl
  | m + 1, n, x => by rw [Nat.succ_add]; exact itn_add f m n (f x)
theorem itn_succ {α : Type} (f : α → α) (n : Nat) (x : α) : itn f (n + 1) x = f (itn f n x) := by
  rw [itn_add f n 1 x]; rfl
/-- one step, of the mask alone -/
def adv (mask : Nat) (p : Probe) : Probe :=
  if p.more > 0 then { p with j := p.j + 1, more := p.more - 1 } else
  { p with j := (leap mask p.i p.perturb).1, more := runEnd mask (leap mask p.i p.perturb).1 - (leap mask p.i p.perturb).1, i := (leap mask p.i p.perturb).1, perturb := (leap mask p.i p.perturb).2 }
theorem advance_eq (t : SetTable) (p : Probe) : t.advance p = adv t.mask p := rfl
def lp (mask : Nat) (x : Nat × Nat) : Nat × Nat := leap mask x.1 x.2
def at0 (mask : Nat) (x : Nat × Nat) (d : Option Nat) : Probe := ⟨x.1, runEnd mask x.1 - x.1, x.1, x.2, d⟩
theorem run_le (mask i : Nat) : runEnd mask i - i ≤ 9 := by unfold runEnd; split <;> omega
/-- to the end of a run, and the leap -/
theorem to_leap (mask : Nat) : ∀ (m : Nat) (p : Probe), p.more = m → itn (adv mask) (m + 1) p = at0 mask (lp mask (p.i, p.perturb)) p.dummy
  | 0, p, h => by
    show adv mask p = _
    unfold adv
    rw [if_neg (by omega)]
    rfl
  | m + 1, p, h => by
    show itn (adv mask) (m + 1) (adv mask p) = _
    have e : adv mask p = { p with j := p.j + 1, more := p.more - 1 } := by unfold adv; rw [if_pos (by omega)]
    rw [e, to_leap mask m _ (by show p.more - 1 = m; omega)]
theorem leaps (mask : Nat) : ∀ (m : Nat) (x : Nat × Nat) (d : Option Nat), ∃ n, n ≤ 10 * m ∧ itn (adv mask) n (at0 mask x d) = at0 mask (itn (lp mask) m x) d
  | 0, x, d => ⟨0, Nat.le_refl _, rfl⟩
  | m + 1, x, d => by
    have h := to_leap mask _ (at0 mask x d) rfl
    obtain ⟨n, hn, e⟩ := leaps mask m (lp mask x) d
    refine ⟨((at0 mask x d).more + 1) + n, ?_, ?_⟩
    · have : (at0 mask x d).more ≤ 9 := run_le mask x.1
      omega
    · rw [itn_add, h]
      exact e
theorem per_small (mask : Nat) : ∀ (m : Nat) (x : Nat × Nat) (b : Nat), x.2 < 32 ^ b → (itn (lp mask) m x).2 < 32 ^ (b - m)
  | 0, x, b, h => by simpa [itn] using h
  | m + 1, x, b, h => by
    have h' : (lp mask x).2 < 32 ^ (b - 1) := by
      show x.2 / 32 < 32 ^ (b - 1)
      cases b with
      | zero => simp at h; simp [h]
      | succ b =>
        rw [Nat.pow_succ] at h
        simpa using Nat.div_lt_of_lt_mul (by omega)
    have := per_small mask m (lp mask x) (b - 1) h'
    rw [show b - (m + 1) = b - 1 - m by omega]
    exact this
theorem plain_leaps {mask k : Nat} (hk : mask + 1 = 2 ^ k) : ∀ (m i : Nat), i < 2 ^ k → itn (lp mask) m (i, 0) = (g5 m i % 2 ^ k, 0)
  | 0, i, h => by
    have e : g5 0 i = i := by unfold g5 sm5; simp
    rw [e, Nat.mod_eq_of_lt h]
    rfl
  | m + 1, i, h => by
    rw [itn_succ, plain_leaps hk m i h]
    show ((g5 m i % 2 ^ k * 5 + 1 + 0 / 32) % (mask + 1), 0 / 32) = _
    rw [hk, g5_succ]
    have e : (g5 m i % 2 ^ k * 5 + 1 + 0 / 32) % 2 ^ k = (5 * g5 m i + 1) % 2 ^ k := by
      rw [show 0 / 32 = 0 from rfl, Nat.add_zero, Nat.mul_comm, Nat.add_mod, Nat.mul_mod, Nat.mod_mod, ← Nat.mul_mod, ← Nat.add_mod]
    rw [e]
theorem lp_lt {mask k : Nat} (hk : mask + 1 = 2 ^ k) (x : Nat × Nat) : (lp mask x).1 < 2 ^ k := by
  show (x.1 * 5 + 1 + x.2 / 32) % (mask + 1) < 2 ^ k
  rw [hk]
  exact Nat.mod_lt _ (Nat.two_pow_pos k)
/-- every slot is met, soon, from wherever one stands -/
theorem reach {mask k : Nat} (hk : mask + 1 = 2 ^ k) (p : Probe) (hm : p.more ≤ 9) (hp : p.perturb < 2 ^ 64) (j : Nat) (hj : j ≤ mask) : ∃ n, n < 10 * turns mask ∧ (itn (adv mask) n p).j = j := by
  have h1 := to_leap mask p.more p rfl
  obtain ⟨n2, hn2, e2⟩ := leaps mask 12 (lp mask (p.i, p.perturb)) p.dummy
  have hz : (itn (lp mask) 12 (lp mask (p.i, p.perturb))).2 < 32 ^ (13 - 13) := by
    have := per_small mask 13 (p.i, p.perturb) 13 (by show p.perturb < 32 ^ 13; exact Nat.lt_of_lt_of_le hp (by decide))
    exact this
  have hz0 : (itn (lp mask) 12 (lp mask (p.i, p.perturb))).2 = 0 := by simpa using hz
  have hi : (itn (lp mask) 12 (lp mask (p.i, p.perturb))).1 < 2 ^ k := by
    rw [itn_succ]
    exact lp_lt hk _
  generalize itn (lp mask) 12 (lp mask (p.i, p.perturb)) = y at *
  obtain ⟨y1, y2⟩ := y
  simp only at hz0 hi
  subst hz0
  obtain ⟨m, hm2, e3⟩ := g5_all k y1 j
  obtain ⟨n3, hn3, e4⟩ := leaps mask m (y1, 0) p.dummy
  rw [plain_leaps hk m y1 hi, e3, Nat.mod_eq_of_lt (by omega)] at e4
  refine ⟨(p.more + 1) + (n2 + n3), ?_, ?_⟩
  · unfold turns
    omega
  · rw [itn_add, h1, itn_add, e2, e4]
    rfl
end L3

/-! a set's table: where what lies, and how it is found again. Plain mathematics. -/
namespace L3
open PySem SetTable
/-! ### binary search in a rising row -/
def Low (xs : Array Nat) (j b : Nat) : Prop := b ≤ xs.size ∧ (∀ i v, i < b → xs[i]? = some v → v < j) ∧ (∀ i v, b ≤ i → xs[i]? = some v → j ≤ v)
theorem rise_at {xs : Array Nat} (h : xs.toList.Pairwise (· < ·)) {i k v u : Nat} (hi : xs[i]? = some v) (hk : xs[k]? = some u) (hik : i < k) : v < u := by
  rw [← Array.getElem?_toList] at hi hk
  obtain ⟨h1, rfl⟩ := List.getElem?_eq_some_iff.mp hi
  obtain ⟨h2, rfl⟩ := List.getElem?_eq_some_iff.mp hk
  exact List.pairwise_iff_getElem.mp h i k h1 h2 hik
theorem below_go {xs : Array Nat} (h : xs.toList.Pairwise (· < ·)) (j : Nat) : ∀ (fuel lo hi : Nat), hi - lo ≤ fuel → lo ≤ hi → hi ≤ xs.size → (∀ i v, i < lo → xs[i]? = some v → v < j) → (∀ i v, hi ≤ i → xs[i]? = some v → j ≤ v) →
    Low xs j (below.go xs j fuel lo hi)
  | 0, lo, hi, h1, h2, h3, a, b => by
    have e : lo = hi := by omega
    subst e
    exact ⟨h3, a, b⟩
  | fuel + 1, lo, hi, h1, h2, h3, a, b => by
    unfold below.go
    by_cases hlt : lo < hi
    · rw [if_pos hlt]
      have hm : (lo + hi) / 2 < xs.size := by omega
      have e : xs.getD ((lo + hi) / 2) j = xs[(lo + hi) / 2] := by simp [Array.getD, hm]
      have e' : xs[(lo + hi) / 2]? = some xs[(lo + hi) / 2] := by simp [hm]
      dsimp only
      rw [e]
      by_cases hc : xs[(lo + hi) / 2] < j
      · rw [if_pos hc]
        refine below_go h j fuel _ _ (by omega) (by omega) h3 (fun i v hi' hv => ?_) b
        by_cases q : i = (lo + hi) / 2
        · subst q; rw [e'] at hv; cases hv; exact hc
        · have := rise_at h hv e' (by omega)
          omega
      · rw [if_neg hc]
        refine below_go h j fuel _ _ (by omega) (by omega) (by omega) a (fun i v hi' hv => ?_)
        by_cases q : i = (lo + hi) / 2
        · subst q; rw [e'] at hv; cases hv; omega
        · have := rise_at h e' hv (by omega)
          omega
    · rw [if_neg hlt]
      have e : lo = hi := by omega
      subst e
      exact ⟨h3, a, b⟩
theorem below_low {xs : Array Nat} (h : xs.toList.Pairwise (· < ·)) (j : Nat) : Low xs j (below xs j) :=
  below_go h j xs.size 0 xs.size (by omega) (by omega) (Nat.le_refl _) (fun i v hi => by omega) (fun i v hi hv => by
    have := (Array.getElem?_eq_some_iff.mp hv).1
    omega)
theorem below_at {xs : Array Nat} (h : xs.toList.Pairwise (· < ·)) {i j : Nat} (hi : xs[i]? = some j) : below xs j = i := by
  obtain ⟨a, b, c⟩ := below_low h j
  by_cases q : i < below xs j
  · have := b i j q hi; omega
  by_cases q2 : below xs j < i
  · have hl := (Array.getElem?_eq_some_iff.mp hi).1
    have e' : xs[below xs j]? = some xs[below xs j] := by simp
    have := rise_at h e' hi q2
    have := c _ _ (Nat.le_refl _) e'
    omega
  · omega
theorem slot_live {t : SetTable} (h : t.place.toList.Pairwise (· < ·)) {i j : Nat} (hi : t.place[i]? = some j) : t.slot j = .live i := by
  unfold slot
  rw [below_at h hi]
  dsimp only
  rw [hi, if_pos (by simp)]
theorem slot_empty {t : SetTable} (h : t.place.toList.Pairwise (· < ·)) (hd : t.dummies = #[]) {j : Nat} (hj : j ∉ t.place.toList) : t.slot j = .empty := by
  unfold slot
  dsimp only
  rw [if_neg, if_neg]
  · rw [hd]; unfold has; simp
  · intro e
    have e' : t.place[below t.place j]? = some j := by simpa using e
    apply hj
    rw [← Array.getElem?_toList] at e'
    exact List.mem_of_getElem? e'
theorem place_at {t : SetTable} {j : Nat} (hj : j ∈ t.place.toList) : ∃ i : Nat, t.place[i]? = some j := by
  obtain ⟨i, h⟩ := List.getElem?_of_mem hj
  exact ⟨i, by rw [← Array.getElem?_toList]; exact h⟩
/-! ### what is put in -/
theorem insertAt_list {α : Type} (xs : Array α) (p : Nat) (x : α) : (insertAt xs p x).toList = xs.toList.take p ++ x :: xs.toList.drop p := by
  unfold insertAt
  simp [Array.toList_extract]
  rw [List.take_of_length_le (by simp)]
theorem insert_rise {xs : Array Nat} (h : xs.toList.Pairwise (· < ·)) {j : Nat} (hj : j ∉ xs.toList) : (insertAt xs (below xs j) j).toList.Pairwise (· < ·) := by
  obtain ⟨a, b, c⟩ := below_low h j
  rw [insertAt_list, List.pairwise_append]
  refine ⟨h.sublist (List.take_sublist _ _), ?_, ?_⟩
  · rw [List.pairwise_cons]
    refine ⟨fun v hv => ?_, h.sublist (List.drop_sublist _ _)⟩
    obtain ⟨i, hi⟩ := List.getElem?_of_mem hv
    rw [List.getElem?_drop, Array.getElem?_toList] at hi
    have := c _ v (by omega) hi
    have : v ≠ j := fun e => hj (by rw [← e]; rw [← Array.getElem?_toList] at hi; exact List.mem_of_getElem? hi)
    omega
  · intro u hu v hv
    obtain ⟨i, hi⟩ := List.getElem?_of_mem hu
    have hi2 : i < below xs j := by
      have := (List.getElem?_eq_some_iff.mp hi).1
      rw [List.length_take] at this
      omega
    rw [List.getElem?_take_of_lt hi2, Array.getElem?_toList] at hi
    have h1 := b i u hi2 hi
    rcases List.mem_cons.mp hv with rfl | hv
    · exact h1
    · obtain ⟨i', hi'⟩ := List.getElem?_of_mem hv
      rw [List.getElem?_drop, Array.getElem?_toList] at hi'
      have := c _ v (by omega) hi'
      omega
/-- the two rows, side by side -/
def Side (ps : List Nat) (es : List (Int × Value)) (j : Nat) (e : Int × Value) : Prop := ∃ i : Nat, ps[i]? = some j ∧ es[i]? = some e
theorem side_insert {ps : List Nat} {es : List (Int × Value)} (hl : ps.length = es.length) (p j0 : Nat) (hp : p ≤ ps.length) (e0 : Int × Value) {j : Nat} {e : Int × Value} :
    Side (ps.take p ++ j0 :: ps.drop p) (es.take p ++ e0 :: es.drop p) j e ↔ (j = j0 ∧ e = e0) ∨ Side ps es j e := by
  have l1 : (ps.take p).length = p := by rw [List.length_take]; omega
  have l2 : (es.take p).length = p := by rw [List.length_take]; omega
  constructor
  · rintro ⟨i, h1, h2⟩
    by_cases hi : i < p
    · rw [List.getElem?_append_left (by omega), List.getElem?_take_of_lt hi] at h1 h2
      exact .inr ⟨i, h1, h2⟩
    · rw [List.getElem?_append_right (by omega), l1] at h1
      rw [List.getElem?_append_right (by omega), l2] at h2
      cases hq : i - p with
      | zero => rw [hq] at h1 h2; cases h1; cases h2; exact .inl ⟨rfl, rfl⟩
      | succ q =>
        rw [hq, List.getElem?_cons_succ, List.getElem?_drop] at h1 h2
        exact .inr ⟨p + q, h1, h2⟩
  · rintro (⟨rfl, rfl⟩ | ⟨i, h1, h2⟩)
    · exact ⟨p, by rw [List.getElem?_append_right (by omega), l1, Nat.sub_self]; rfl, by rw [List.getElem?_append_right (by omega), l2, Nat.sub_self]; rfl⟩
    · by_cases hi : i < p
      · exact ⟨i, by rw [List.getElem?_append_left (by omega), List.getElem?_take_of_lt hi]; exact h1, by rw [List.getElem?_append_left (by omega), List.getElem?_take_of_lt hi]; exact h2⟩
      · refine ⟨i + 1, ?_, ?_⟩
        · rw [List.getElem?_append_right (by omega), l1, show i + 1 - p = (i - p) + 1 by omega, List.getElem?_cons_succ, List.getElem?_drop, show p + (i - p) = i by omega]; exact h1
        · rw [List.getElem?_append_right (by omega), l2, show i + 1 - p = (i - p) + 1 by omega, List.getElem?_cons_succ, List.getElem?_drop, show p + (i - p) = i by omega]; exact h2
/-! ### the road of a hash -/
def st0 (mask : Nat) (h : Int) : Probe := at0 mask (bits h % (mask + 1), bits h) none
theorem start_eq (t : SetTable) (h : Int) : t.probeStart h = st0 t.mask h := rfl
def road (mask : Nat) (h : Int) (n : Nat) : Nat := (itn (adv mask) n (st0 mask h)).j
theorem bits_lt (h : Int) : bits h < 2 ^ 64 := by unfold bits; omega
/-- one stands well: the run is short, it stays in the table -/
def Stand (mask : Nat) (p : Probe) : Prop := p.more ≤ 9 ∧ p.perturb < 2 ^ 64 ∧ p.j + p.more ≤ mask
theorem at0_stand (mask : Nat) (x : Nat × Nat) (d : Option Nat) (h1 : x.1 ≤ mask) (h2 : x.2 < 2 ^ 64) : Stand mask (at0 mask x d) := by
  refine ⟨run_le mask x.1, h2, ?_⟩
  show x.1 + (runEnd mask x.1 - x.1) ≤ mask
  unfold runEnd
  split <;> omega
theorem adv_stand {mask : Nat} {p : Probe} (h : Stand mask p) : Stand mask (adv mask p) := by
  obtain ⟨h1, h2, h3⟩ := h
  unfold adv
  split
  · exact ⟨by simp only; omega, h2, by simp only; omega⟩
  · refine at0_stand mask (leap mask p.i p.perturb) p.dummy ?_ ?_
    · show (p.i * 5 + 1 + p.perturb / 32) % (mask + 1) ≤ mask
      have := Nat.mod_lt (p.i * 5 + 1 + p.perturb / 32) (show 0 < mask + 1 by omega)
      omega
    · show p.perturb / 32 < 2 ^ 64
      omega
theorem itn_stand {mask : Nat} : ∀ (n : Nat) {p : Probe}, Stand mask p → Stand mask (itn (adv mask) n p)
  | 0, _, h => h
  | n + 1, _, h => itn_stand n (adv_stand h)
theorem st0_stand (mask : Nat) (h : Int) : Stand mask (st0 mask h) := at0_stand mask _ _ (by
  have := Nat.mod_lt (bits h) (show 0 < mask + 1 by omega)
  show bits h % (mask + 1) ≤ mask
  omega) (bits_lt h)
theorem road_le (mask : Nat) (h : Int) (n : Nat) : road mask h n ≤ mask := by
  have := (itn_stand n (st0_stand mask h)).2.2
  unfold road
  omega
/-! ### a table in order -/
structure TOk (t : SetTable) (es : Array (Int × Value)) : Prop where
  two : ∃ k, t.mask + 1 = 2 ^ k ∧ 3 ≤ k ∧ k ≤ 13
  dm : t.dummies = #[]
  rise : t.place.toList.Pairwise (· < ·)
  bd : ∀ j ∈ t.place.toList, j ≤ t.mask
  sz : t.place.size = es.size
  fit : t.place.size ≤ t.mask
  onroad : ∀ j e, Side t.place.toList es.toList j e → ∃ n, road t.mask e.1 n = j ∧ ∀ n', n' < n → road t.mask e.1 n' ∈ t.place.toList
/-- some slot is free -/
theorem pigeon {ps : List Nat} {m : Nat} (h : ps.length ≤ m) : ∃ j, j ≤ m ∧ j ∉ ps := by
  apply Classical.byContradiction
  intro hn
  have hall : ∀ j, j ≤ m → j ∈ ps := fun j hj => Classical.byContradiction fun q => hn ⟨j, hj, q⟩
  have := List.Nodup.length_le_of_subset (l₁ := List.range (m + 1)) (l₂ := ps) List.nodup_range (fun j hj => hall j (by have := List.mem_range.mp hj; omega))
  rw [List.length_range] at this
  omega
theorem go_spec {t : SetTable} {es : Array (Int × Value)} (ok : TOk t es) (hashAt : Nat → Int) (h : Int) : ∀ (fuel : Nat) (p : Probe), (∃ n, n < fuel ∧ (itn (adv t.mask) n p).j ∉ t.place.toList) →
    (∃ n, probe.go t hashAt h fuel p = some (.empty (itn (adv t.mask) n p).j p.dummy) ∧ (itn (adv t.mask) n p).j ∉ t.place.toList ∧ ∀ n', n' < n → ∃ i : Nat, t.place[i]? = some (itn (adv t.mask) n' p).j ∧ hashAt i ≠ h) ∨
    (∃ n i, probe.go t hashAt h fuel p = some (.candidate (itn (adv t.mask) n p).j i (itn (adv t.mask) (n + 1) p)) ∧ t.place[i]? = some (itn (adv t.mask) n p).j ∧ hashAt i = h ∧ ∀ n', n' < n → ∃ i' : Nat, t.place[i']? = some (itn (adv t.mask) n' p).j ∧ hashAt i' ≠ h)
  | 0, p, ⟨n, hn, _⟩ => by omega
  | fuel + 1, p, ⟨n, hn, hfree⟩ => by
    by_cases hp : p.j ∈ t.place.toList
    · obtain ⟨i, hi⟩ := place_at hp
      have hs := slot_live ok.rise hi
      by_cases hh : hashAt i = h
      · refine .inr ⟨0, i, ?_, hi, hh, fun n' hn' => by omega⟩
        unfold probe.go
        rw [hs]
        dsimp only
        rw [if_pos (by simp [hh])]
        rfl
      · have hrest : ∃ n, n < fuel ∧ (itn (adv t.mask) n (adv t.mask p)).j ∉ t.place.toList := by
          cases n with
          | zero => exact absurd hp hfree
          | succ n => exact ⟨n, by omega, hfree⟩
        have hgo : probe.go t hashAt h (fuel + 1) p = probe.go t hashAt h fuel (adv t.mask p) := by
          rw [probe.go, hs]
          dsimp only
          rw [if_neg (by simp [hh])]
          rfl
        have hd : (adv t.mask p).dummy = p.dummy := by unfold adv; split <;> rfl
        have lift : ∀ {n : Nat}, (∀ n', n' < n → ∃ i' : Nat, t.place[i']? = some (itn (adv t.mask) n' (adv t.mask p)).j ∧ hashAt i' ≠ h) → ∀ n', n' < n + 1 → ∃ i' : Nat, t.place[i']? = some (itn (adv t.mask) n' p).j ∧ hashAt i' ≠ h := fun H n' hn' => by
          cases n' with
          | zero => exact ⟨i, hi, hh⟩
          | succ n' => exact H n' (by omega)
        rcases go_spec ok hashAt h fuel (adv t.mask p) hrest with ⟨m, e, f, g⟩ | ⟨m, i', e, f, g, g'⟩
        · exact .inl ⟨m + 1, by rw [hgo, e, hd]; rfl, f, lift g⟩
        · exact .inr ⟨m + 1, i', by rw [hgo, e]; rfl, f, g, lift g'⟩
    · refine .inl ⟨0, ?_, hp, fun n' hn' => by omega⟩
      unfold probe.go
      rw [slot_empty ok.rise ok.dm hp]
      rfl
theorem probe_spec {t : SetTable} {es : Array (Int × Value)} (ok : TOk t es) (hashAt : Nat → Int) (h : Int) {p : Probe} (st : Stand t.mask p) :
    (∃ n, t.probe hashAt h p = some (.empty (itn (adv t.mask) n p).j p.dummy) ∧ (itn (adv t.mask) n p).j ∉ t.place.toList ∧ ∀ n', n' < n → ∃ i : Nat, t.place[i]? = some (itn (adv t.mask) n' p).j ∧ hashAt i ≠ h) ∨
    (∃ n i, t.probe hashAt h p = some (.candidate (itn (adv t.mask) n p).j i (itn (adv t.mask) (n + 1) p)) ∧ t.place[i]? = some (itn (adv t.mask) n p).j ∧ hashAt i = h ∧ ∀ n', n' < n → ∃ i' : Nat, t.place[i']? = some (itn (adv t.mask) n' p).j ∧ hashAt i' ≠ h) := by
  obtain ⟨k, hk, _, _⟩ := ok.two
  obtain ⟨j, hj, hn⟩ := pigeon (ps := t.place.toList) (m := t.mask) (by rw [Array.length_toList]; exact ok.fit)
  obtain ⟨n, hl, e⟩ := reach hk p st.1 st.2.1 j hj
  exact go_spec ok hashAt h _ p ⟨n, hl, by rw [e]; exact hn⟩
/-- what is there lies on its road ahead of the first free slot -/
theorem TOk.ahead {t : SetTable} {es : Array (Int × Value)} (ok : TOk t es) {j : Nat} {e : Int × Value} (hs : Side t.place.toList es.toList j e) {n : Nat} (hf : road t.mask e.1 n ∉ t.place.toList) : ∃ m, m < n ∧ road t.mask e.1 m = j := by
  obtain ⟨m, h1, h2⟩ := ok.onroad j e hs
  refine ⟨m, ?_, h1⟩
  apply Classical.byContradiction
  intro hm
  by_cases q : n < m
  · exact hf (h2 n q)
  · have : m = n := by omega
    subst this
    rw [h1] at hf
    obtain ⟨i, hi, _⟩ := hs
    exact hf (List.mem_of_getElem? hi)
/-- put at the first free slot of its road -/
theorem TOk.put {t : SetTable} {es : Array (Int × Value)} (ok : TOk t es) {h : Int} {x : Value} {n : Nat} (hf : road t.mask h n ∉ t.place.toList) (hr : ∀ n', n' < n → road t.mask h n' ∈ t.place.toList) (hroom : t.place.size + 1 ≤ t.mask) :
    TOk (t.put (road t.mask h n)).1 (insertAt es (t.put (road t.mask h n)).2 (h, x)) ∧ (t.put (road t.mask h n)).1.mask = t.mask ∧ (t.put (road t.mask h n)).2 ≤ es.size ∧ (t.put (road t.mask h n)).1.place.size = t.place.size + 1 := by
  have hlow := below_low ok.rise (road t.mask h n)
  have hnod : has t.dummies (road t.mask h n) = false := by rw [ok.dm]; unfold has; simp
  have hput : t.put (road t.mask h n) = ({ t with place := insertAt t.place (below t.place (road t.mask h n)) (road t.mask h n), dummies := #[] }, below t.place (road t.mask h n)) := by
    unfold SetTable.put
    rw [hnod, ok.dm]
    rfl
  rw [hput]
  have hsize : (insertAt t.place (below t.place (road t.mask h n)) (road t.mask h n)).size = t.place.size + 1 := by
    rw [← Array.length_toList, insertAt_list, List.length_append, List.length_cons, List.length_take, List.length_drop, Array.length_toList]
    have := hlow.1
    omega
  have hsz := ok.sz
  have hmem : ∀ j, j ∈ (insertAt t.place (below t.place (road t.mask h n)) (road t.mask h n)).toList ↔ j = road t.mask h n ∨ j ∈ t.place.toList := fun j => by
    rw [insertAt_list]
    constructor
    · intro hj
      rcases List.mem_append.mp hj with q | q
      · exact .inr (List.mem_of_mem_take q)
      · rcases List.mem_cons.mp q with q | q
        · exact .inl q
        · exact .inr (List.mem_of_mem_drop q)
    · rintro (rfl | hj)
      · exact List.mem_append_right _ List.mem_cons_self
      · rw [← List.take_append_drop (below t.place (road t.mask h n)) t.place.toList] at hj
        rcases List.mem_append.mp hj with q | q
        · exact List.mem_append_left _ q
        · exact List.mem_append_right _ (List.mem_cons_of_mem _ q)
  refine ⟨⟨ok.two, rfl, insert_rise ok.rise hf, ?_, ?_, ?_, ?_⟩, rfl, ?_, hsize⟩
  · intro j hj
    rcases (hmem j).mp hj with rfl | q
    · exact road_le _ _ _
    · exact ok.bd j q
  · show (insertAt t.place _ _).size = (insertAt es (below t.place (road t.mask h n)) (h, x)).size
    rw [hsize, ← Array.length_toList (xs := insertAt es _ _), insertAt_list, List.length_append, List.length_cons, List.length_take, List.length_drop, Array.length_toList]
    have := hlow.1
    omega
  · show (insertAt t.place _ _).size ≤ t.mask
    rw [hsize]; exact hroom
  · intro j e hs
    have hs' : Side (t.place.toList.take (below t.place (road t.mask h n)) ++ road t.mask h n :: t.place.toList.drop (below t.place (road t.mask h n))) (es.toList.take (below t.place (road t.mask h n)) ++ (h, x) :: es.toList.drop (below t.place (road t.mask h n))) j e := by
      have hs2 : Side (insertAt t.place (below t.place (road t.mask h n)) (road t.mask h n)).toList (insertAt es (below t.place (road t.mask h n)) (h, x)).toList j e := hs
      rw [insertAt_list, insertAt_list] at hs2
      exact hs2
    rcases (side_insert (by rw [Array.length_toList, Array.length_toList]; exact hsz) _ _ (by rw [Array.length_toList]; exact hlow.1) _).mp hs' with ⟨rfl, rfl⟩ | q
    · exact ⟨n, rfl, fun n' hn' => (hmem _).mpr (.inr (hr n' hn'))⟩
    · obtain ⟨m, h1, h2⟩ := ok.onroad j e q
      exact ⟨m, h1, fun n' hn' => (hmem _).mpr (.inr (h2 n' hn'))⟩
  · show below t.place _ ≤ es.size
    have := hlow.1
    omega
theorem TOk.fits {t : SetTable} {es : Array (Int × Value)} (ok : TOk t es) : t.fits es.size = true := by
  unfold SetTable.fits SetTable.fill
  rw [ok.dm]
  simp [ok.sz]
  have := ok.fit
  have := ok.sz
  omega
theorem TOk.noway {t : SetTable} {es : Array (Int × Value)} (ok : TOk t es) : t.gaveWay = false := by
  obtain ⟨k, hk, h3, _⟩ := ok.two
  unfold SetTable.gaveWay
  have : 2 ^ k % 2 = 0 := by
    rw [show k = (k - 1) + 1 by omega, Nat.pow_succ]
    omega
  simp
  omega
theorem TOk.fresh (finger moves : Nat) (led : Bool) : TOk (.fresh finger moves led) #[] :=
  ⟨⟨3, rfl, by decide, by decide⟩, rfl, List.Pairwise.nil, (fun j hj => by cases hj), rfl, (by show 0 ≤ 7; decide), (fun j e ⟨i, h, _⟩ => by simp [SetTable.fresh] at h)⟩
end L3

/-! a set's table laid anew. Plain mathematics. -/
namespace L3
open PySem SetTable
theorem reachL {mask k : Nat} (hk : mask + 1 = 2 ^ k) (x : Nat × Nat) (hp : x.2 < 2 ^ 64) (j : Nat) (hj : j ≤ mask) : ∃ m, m < turns mask ∧ (itn (lp mask) m x).1 = j := by
  have hz : (itn (lp mask) 13 x).2 < 32 ^ (13 - 13) := per_small mask 13 x 13 (Nat.lt_of_lt_of_le hp (by decide))
  have hz0 : (itn (lp mask) 13 x).2 = 0 := by simpa using hz
  have hi : (itn (lp mask) 13 x).1 < 2 ^ k := by
    rw [itn_succ]
    exact lp_lt hk _
  have e0 : ∀ m, itn (lp mask) (13 + m) x = itn (lp mask) m (itn (lp mask) 13 x) := fun m => itn_add _ _ _ _
  generalize itn (lp mask) 13 x = y at *
  obtain ⟨y1, y2⟩ := y
  simp only at hz0 hi
  subst hz0
  obtain ⟨m, hm2, e3⟩ := g5_all k y1 j
  refine ⟨13 + m, ?_, ?_⟩
  · unfold turns
    omega
  · rw [e0, plain_leaps hk m y1 hi]
    show g5 m y1 % 2 ^ k = j
    rw [e3, Nat.mod_eq_of_lt (by omega)]
theorem in_run (mask : Nat) : ∀ (q : Nat) (p : Probe), q ≤ p.more → (itn (adv mask) q p).j = p.j + q
  | 0, p, _ => rfl
  | q + 1, p, h => by
    show (itn (adv mask) q (adv mask p)).j = _
    have e : adv mask p = { p with j := p.j + 1, more := p.more - 1 } := by unfold adv; rw [if_pos (by omega)]
    rw [e, in_run mask q _ (by show q ≤ p.more - 1; omega)]
    show p.j + 1 + q = p.j + (q + 1)
    omega
def Taken (owner : Array (Option Nat)) (j : Nat) : Prop := ∃ q, owner[j]? = some (some q)
theorem free_spec {mask k : Nat} (hk : mask + 1 = 2 ^ k) {owner : Array (Option Nat)} (hs : owner.size = mask + 1) {f : Nat} (hf : owner[f]? = some none) : ∀ (fuel : Nat) (x : Nat × Nat), x.1 ≤ mask → x.2 < 2 ^ 64 → (∃ m, m < fuel ∧ (itn (lp mask) m x).1 = f) →
    ∃ j n, layClean.free mask owner fuel x.1 x.2 = some j ∧ (itn (adv mask) n (at0 mask x none)).j = j ∧ owner[j]? = some none ∧ ∀ n', n' < n → Taken owner (itn (adv mask) n' (at0 mask x none)).j
  | 0, x, _, _, ⟨m, hm, _⟩ => by omega
  | fuel + 1, x, h1, h2, ⟨m, hm, em⟩ => by
    have hrun : (at0 mask x none).more = runEnd mask x.1 - x.1 := rfl
    have hend : runEnd mask x.1 ≤ mask ∧ x.1 ≤ runEnd mask x.1 := by
      unfold runEnd
      split <;> omega
    have get : ∀ q, (hq : q < runEnd mask x.1 + 1 - x.1) → owner.getD (x.1 + q) (some 0) = owner[x.1 + q]'(by omega) := fun q hq => by
      simp only [Array.getD]
      rw [dif_pos (show x.1 + q < owner.size by omega)]
      rfl
    have pos : ∀ q, q < runEnd mask x.1 + 1 - x.1 → (itn (adv mask) q (at0 mask x none)).j = x.1 + q := fun q hq => in_run mask q _ (by rw [hrun]; omega)
    have occ : ∀ q (hq : q < runEnd mask x.1 + 1 - x.1), (owner.getD (x.1 + q) (some 0)).isNone = false → Taken owner (x.1 + q) := fun q hq hn => by
      rw [get q hq] at hn
      cases hv : owner[x.1 + q]'(by omega) with
      | none => rw [hv] at hn; cases hn
      | some v => exact ⟨v, by rw [Array.getElem?_eq_getElem (by omega), hv]⟩
    unfold layClean.free
    cases hfd : (List.range (runEnd mask x.1 + 1 - x.1)).find? fun k => (owner.getD (x.1 + k) (some 0)).isNone with
    | some q =>
      rw [List.find?_range_eq_some] at hfd
      obtain ⟨a, b, c⟩ := hfd
      have hq : q < runEnd mask x.1 + 1 - x.1 := List.mem_range.mp b
      refine ⟨x.1 + q, q, rfl, pos q hq, ?_, fun n' hn' => ?_⟩
      · rw [get q hq] at a
        rw [Array.getElem?_eq_getElem (by omega)]
        cases hv : owner[x.1 + q]'(by omega) with
        | none => rfl
        | some v => rw [hv] at a; cases a
      · rw [pos n' (by omega)]
        exact occ n' (by omega) (by simpa using c n' hn')
    | none =>
      rw [List.find?_range_eq_none] at hfd
      dsimp only
      cases m with
      | zero =>
        have e0 : x.1 = f := em
        have := hfd 0 (by omega)
        rw [Nat.add_zero] at this
        have g := get 0 (by omega)
        simp only [Nat.add_zero] at g
        rw [g] at this
        subst e0
        rw [Array.getElem?_eq_getElem (by omega)] at hf
        injection hf with hf
        rw [hf] at this
        cases this
      | succ m =>
        have hl1 : (lp mask x).1 ≤ mask := by have := lp_lt hk x; omega
        have hl2 : (lp mask x).2 < 2 ^ 64 := by show x.2 / 32 < 2 ^ 64; omega
        obtain ⟨j, n, e1, e2, e3, e4⟩ := free_spec hk hs hf fuel (lp mask x) hl1 hl2 ⟨m, by omega, em⟩
        have tl := to_leap mask _ (at0 mask x none) rfl
        refine ⟨j, (at0 mask x none).more + 1 + n, e1, ?_, e3, fun n' hn' => ?_⟩
        · rw [itn_add, tl]; exact e2
        · by_cases hq : n' < (at0 mask x none).more + 1
          · have hq' : n' < runEnd mask x.1 + 1 - x.1 := by rw [hrun] at hq; omega
            rw [pos n' hq']
            exact occ n' hq' (by simpa using hfd n' hq')
          · have := e4 (n' - ((at0 mask x none).more + 1)) (by omega)
            rw [show n' = (at0 mask x none).more + 1 + (n' - ((at0 mask x none).more + 1)) by omega, itn_add, tl]
            exact this
structure Own (mask : Nat) (hs : List Int) (owner : Array (Option Nat)) (k : Nat) : Prop where
  size : owner.size = mask + 1
  o1 : ∀ j q : Nat, owner[j]? = some (some q) → q < k ∧ ∃ h, hs[q]? = some h ∧ ∃ n, road mask h n = j ∧ ∀ n', n' < n → Taken owner (road mask h n')
  o2 : ∀ q : Nat, q < k → ∃ j : Nat, owner[j]? = some (some q)
  o3 : ∀ j j' q : Nat, owner[j]? = some (some q) → owner[j']? = some (some q) → j = j'
theorem Own.free {mask : Nat} {hs : List Int} {owner : Array (Option Nat)} {k : Nat} (o : Own mask hs owner k) (hk : k ≤ mask) : ∃ f, f ≤ mask ∧ owner[f]? = some none := by
  apply Classical.byContradiction
  intro hn
  have hall : ∀ j, j ≤ mask → ∃ q, owner[j]? = some (some q) := fun j hj => by
    have hj' : j < owner.size := by rw [o.size]; omega
    cases hv : owner[j] with
    | none => exact absurd ⟨j, hj, by rw [Array.getElem?_eq_getElem hj', hv]⟩ hn
    | some q => exact ⟨q, by rw [Array.getElem?_eq_getElem hj', hv]⟩
  have val : ∀ (j q : Nat), owner[j]? = some (some q) → ((owner[j]?).getD none).getD 0 = q := fun j q h => by rw [h]; rfl
  have nd : ((List.range (mask + 1)).map fun j => ((owner[j]?).getD none).getD 0).Nodup := by
    show List.Pairwise _ _
    rw [List.pairwise_map]
    refine List.Pairwise.imp_of_mem ?_ (List.nodup_range (n := mask + 1))
    intro a b ha hb hab e
    obtain ⟨q, hq⟩ := hall a (by have := List.mem_range.mp ha; omega)
    obtain ⟨q', hq'⟩ := hall b (by have := List.mem_range.mp hb; omega)
    rw [val a q hq, val b q' hq'] at e
    subst e
    exact hab (o.o3 a b q hq hq')
  have := List.Nodup.length_le_of_subset (l₂ := List.range k) nd (fun v hv => by
    obtain ⟨j, hj, rfl⟩ := List.mem_map.mp hv
    obtain ⟨q, hq⟩ := hall j (by have := List.mem_range.mp hj; omega)
    rw [val j q hq]
    exact List.mem_range.mpr (o.o1 j q hq).1)
  rw [List.length_map, List.length_range, List.length_range] at this
  omega
def layStep (mask : Nat) (acc : Option (Array (Option Nat) × Nat)) (h : Int) : Option (Array (Option Nat) × Nat) := do
  let (owner, k) ← acc
  let j ← layClean.free mask owner (turns mask) (bits h % (mask + 1)) (bits h)
  pure (owner.setIfInBounds j (some k), k + 1)
theorem layClean_eq (mask : Nat) (hs : Array Int) : layClean mask hs = (hs.toList.foldl (layStep mask) (some (Array.replicate (mask + 1) none, 0))).map (·.1) := by
  unfold layClean
  rw [← Array.foldl_toList]
  rfl
theorem set_get {owner : Array (Option Nat)} {j : Nat} {v : Option Nat} (hj : j < owner.size) (i : Nat) : (owner.setIfInBounds j v)[i]? = if i = j then some v else owner[i]? := by
  rw [Array.getElem?_setIfInBounds]
  by_cases e : j = i
  · subst e; rw [if_pos rfl, if_pos hj, if_pos rfl]
  · rw [if_neg e, if_neg (Ne.symm e)]
theorem lay_fold {mask k0 : Nat} (hk0 : mask + 1 = 2 ^ k0) (hs : List Int) (hle : hs.length ≤ mask) : ∀ (rest : List Int) (k : Nat) (owner : Array (Option Nat)), hs.drop k = rest → k ≤ hs.length → Own mask hs owner k →
    ∃ owner', rest.foldl (layStep mask) (some (owner, k)) = some (owner', hs.length) ∧ Own mask hs owner' hs.length
  | [], k, owner, hd, hk, o => by
    have : hs.length ≤ k := by
      have := congrArg List.length hd
      rw [List.length_drop] at this
      simp at this
      omega
    have e : k = hs.length := by omega
    subst e
    exact ⟨owner, rfl, o⟩
  | h :: rest, k, owner, hd, hk, o => by
    have hkl : k < hs.length := by
      have := congrArg List.length hd
      rw [List.length_drop] at this
      simp at this
      omega
    have hat : hs[k]? = some h := by
      have : (hs.drop k)[0]? = some h := by rw [hd]; rfl
      rw [List.getElem?_drop] at this
      simpa using this
    obtain ⟨f, hfm, hf⟩ := o.free (by omega)
    obtain ⟨m, hm, em⟩ := reachL hk0 (bits h % (mask + 1), bits h) (bits_lt h) f hfm
    have hb : bits h % (mask + 1) ≤ mask := by have := Nat.mod_lt (bits h) (show 0 < mask + 1 by omega); omega
    obtain ⟨j, n, e1, e2, e3, e4⟩ := free_spec hk0 o.size hf (turns mask) (bits h % (mask + 1), bits h) hb (bits_lt h) ⟨m, hm, em⟩
    have ej : road mask h n = j := e2
    have hjs : j < owner.size := by
      have := (Array.getElem?_eq_some_iff.mp e3).1
      exact this
    have hstep : layStep mask (some (owner, k)) h = some (owner.setIfInBounds j (some k), k + 1) := by
      show (layClean.free mask owner (turns mask) (bits h % (mask + 1)) (bits h)).bind _ = _
      rw [e1]
      rfl
    have tk : ∀ i, Taken owner i → Taken (owner.setIfInBounds j (some k)) i := fun i ⟨q, hq⟩ => by
      by_cases e : i = j
      · exact ⟨k, by rw [set_get hjs, if_pos e]⟩
      · exact ⟨q, by rw [set_get hjs, if_neg e]; exact hq⟩
    have o' : Own mask hs (owner.setIfInBounds j (some k)) (k + 1) := by
      refine ⟨by rw [Array.size_setIfInBounds]; exact o.size, fun i q hq => ?_, fun q hq => ?_, fun i i' q hq hq' => ?_⟩
      · rw [set_get hjs] at hq
        by_cases e : i = j
        · rw [if_pos e] at hq
          cases hq
          exact ⟨by omega, h, hat, n, by rw [ej, e], fun n' hn' => tk _ (e4 n' hn')⟩
        · rw [if_neg e] at hq
          obtain ⟨a, h', b, n', c, d⟩ := o.o1 i q hq
          exact ⟨by omega, h', b, n', c, fun n'' hn'' => tk _ (d n'' hn'')⟩
      · by_cases e : q = k
        · exact ⟨j, by rw [set_get hjs, if_pos rfl, e]⟩
        · obtain ⟨i, hi⟩ := o.o2 q (by omega)
          have : i ≠ j := fun e' => by rw [e', e3] at hi; cases hi
          exact ⟨i, by rw [set_get hjs, if_neg this]; exact hi⟩
      · rw [set_get hjs] at hq hq'
        by_cases e : i = j <;> by_cases e' : i' = j
        · rw [e, e']
        · rw [if_pos e] at hq; rw [if_neg e'] at hq'
          cases hq
          have := (o.o1 i' k hq').1
          omega
        · rw [if_neg e] at hq; rw [if_pos e'] at hq'
          cases hq'
          have := (o.o1 i k hq).1
          omega
        · rw [if_neg e] at hq; rw [if_neg e'] at hq'
          exact o.o3 i i' q hq hq'
    rw [List.foldl_cons, hstep]
    refine lay_fold hk0 hs hle rest (k + 1) _ ?_ (by omega) o'
    rw [← List.drop_drop, hd]
    rfl
theorem layClean_spec {mask k0 : Nat} (hk0 : mask + 1 = 2 ^ k0) (hs : Array Int) (hle : hs.size ≤ mask) : ∃ owner, layClean mask hs = some owner ∧ Own mask hs.toList owner hs.size := by
  rw [layClean_eq]
  obtain ⟨o, e, ok⟩ := lay_fold hk0 hs.toList (by rw [Array.length_toList]; exact hle) hs.toList 0 (Array.replicate (mask + 1) none) rfl (Nat.zero_le _) (by
    refine ⟨by simp, fun j q hq => ?_, fun q hq => by omega, fun j j' q hq hq' => ?_⟩
    · rw [Array.getElem?_replicate] at hq
      split at hq <;> cases hq
    · rw [Array.getElem?_replicate] at hq
      split at hq <;> cases hq)
  rw [e]
  exact ⟨o, rfl, by rw [Array.length_toList] at ok; exact ok⟩
theorem sizeAbove_go : ∀ (fuel k n : Nat), ∃ k', sizeAbove.go n fuel (2 ^ k) = 2 ^ k' ∧ k ≤ k' ∧ k' ≤ k + fuel ∧ (n < 2 ^ (k + fuel) → n < 2 ^ k') ∧ (k' = k ∨ 2 ^ k' ≤ 2 * n)
  | 0, k, n => ⟨k, rfl, Nat.le_refl _, Nat.le_refl _, id, .inl rfl⟩
  | fuel + 1, k, n => by
    unfold sizeAbove.go
    by_cases h : 2 ^ k ≤ n
    · rw [if_pos h, show 2 ^ k * 2 = 2 ^ (k + 1) from (Nat.pow_succ ..).symm]
      obtain ⟨k', a, b, c, d, e⟩ := sizeAbove_go fuel (k + 1) n
      refine ⟨k', a, by omega, by omega, fun q => d (by rw [show k + 1 + fuel = k + (fuel + 1) by omega]; exact q), ?_⟩
      rcases e with e | e
      · rw [e, Nat.pow_succ]; omega
      · exact .inr e
    · rw [if_neg h]
      exact ⟨k, rfl, Nat.le_refl _, by omega, fun _ => by omega, .inl rfl⟩
theorem sizeAbove_spec (n : Nat) (hn : n < 2 ^ 13) : ∃ k, sizeAbove n = 2 ^ k ∧ 3 ≤ k ∧ k ≤ 13 ∧ n < 2 ^ k := by
  obtain ⟨k, a, b, c, d, e⟩ := sizeAbove_go 64 3 n
  refine ⟨k, a, b, ?_, d (Nat.lt_trans hn (Nat.pow_lt_pow_right (by decide) (by decide))), ⟩
  rcases e with e | e
  · omega
  · apply Classical.byContradiction
    intro h
    have : 2 ^ 14 ≤ 2 ^ k := Nat.pow_le_pow_right (by decide) (by omega)
    have e14 : 2 ^ 14 = 2 * 2 ^ 13 := by decide
    omega
theorem filterMap_all {α β : Type} {f : α → Option β} {g : α → β} : ∀ (l : List α), (∀ x ∈ l, f x = some (g x)) → l.filterMap f = l.map g
  | [], _ => rfl
  | a :: l, h => by
    rw [List.filterMap_cons, h a List.mem_cons_self, List.map_cons, filterMap_all l fun x hx => h x (List.mem_cons_of_mem _ hx)]
/-- laid anew: the table is in order, and what it holds is the same -/
theorem relaid_spec {t : SetTable} {es : Array (Int × Value)} {wanted : Nat} (hw : es.size * 4 ≤ wanted) (hw2 : wanted < 2 ^ 13) (hpos : 0 < es.size) :
    ∃ t' order, t.relaid (es.map (·.1)) wanted = some (t', order) ∧ TOk t' (order.filterMap (es[·]?)) ∧ (order.filterMap (es[·]?)).toList.Perm es.toList ∧ t'.place.size * 5 < t'.mask * 3 ∧ t'.led = t.led := by
  obtain ⟨k, ek, k3, k13, hn⟩ := sizeAbove_spec wanted hw2
  have hmask : sizeAbove wanted - 1 + 1 = 2 ^ k := by rw [ek]; have := Nat.two_pow_pos k; omega
  have hle : (es.map (·.1)).size ≤ sizeAbove wanted - 1 := by rw [Array.size_map, ek]; omega
  obtain ⟨owner, eo, ok⟩ := layClean_spec hmask (es.map (·.1)) hle
  rw [Array.size_map] at ok
  generalize hm : sizeAbove wanted - 1 = mask at *
  let live := (List.range (mask + 1)).filterMap fun j => (owner.getD j none).map fun q => (j, q)
  have hlive : ∀ j q, (j, q) ∈ live ↔ owner[j]? = some (some q) := fun j q => by
    show (j, q) ∈ (List.range (mask + 1)).filterMap _ ↔ _
    rw [List.mem_filterMap]
    constructor
    · rintro ⟨a, ha, e⟩
      have hs : a < owner.size := by rw [ok.size]; exact List.mem_range.mp ha
      simp only [Array.getD, dif_pos hs] at e
      cases hv : owner[a] with
      | none =>
        have e' : (owner[a]).map (fun q => (a, q)) = some (j, q) := e
        rw [hv] at e'; cases e'
      | some v =>
        have e' : (owner[a]).map (fun q => (a, q)) = some (j, q) := e
        rw [hv] at e'; cases e'
        rw [Array.getElem?_eq_getElem hs, hv]
    · intro h
      obtain ⟨hs, hv⟩ := Array.getElem?_eq_some_iff.mp h
      refine ⟨j, List.mem_range.mpr (by rw [← ok.size]; exact hs), ?_⟩
      simp only [Array.getD, dif_pos hs]
      show (owner[j]).map (fun q => (j, q)) = some (j, q)
      rw [hv]; rfl
  have hrise : (live.map (·.1)).Pairwise (· < ·) := by
    rw [List.pairwise_map]
    show ((List.range (mask + 1)).filterMap _).Pairwise _
    rw [List.pairwise_filterMap]
    refine List.Pairwise.imp ?_ (List.pairwise_lt_range (n := mask + 1))
    intro a b hab x hx y hy
    obtain ⟨q, _, rfl⟩ := Option.map_eq_some_iff.mp hx
    obtain ⟨q', _, rfl⟩ := Option.map_eq_some_iff.mp hy
    exact hab
  have hnd : (live.map (·.2)).Nodup := by
    show List.Pairwise _ _
    rw [List.pairwise_map]
    have h1 : live.Pairwise fun a b => a.1 < b.1 := by rw [List.pairwise_map] at hrise; exact hrise
    refine List.Pairwise.imp_of_mem ?_ h1
    intro a b ha hb hab e
    have := ok.o3 a.1 b.1 a.2 ((hlive _ _).mp ha) (by rw [e]; exact (hlive _ _).mp hb)
    omega
  have hperm : (live.map (·.2)).Perm (List.range es.size) := by
    rw [List.perm_ext_iff_of_nodup hnd List.nodup_range]
    intro q
    rw [List.mem_map, List.mem_range]
    constructor
    · rintro ⟨⟨j, q'⟩, h, rfl⟩
      exact (ok.o1 j q' ((hlive _ _).mp h)).1
    · intro h
      obtain ⟨j, hj⟩ := ok.o2 q h
      exact ⟨(j, q), (hlive _ _).mpr hj, rfl⟩
  have hlen : live.length = es.size := by have := hperm.length_eq; rw [List.length_map, List.length_range] at this; exact this
  have hfm : ((live.map (·.2)).toArray.filterMap (es[·]?)).toList = live.map fun x => es[x.2]?.getD (0, .none) := by
    rw [Array.toList_filterMap]
    show List.filterMap _ (live.map (·.2)) = _
    rw [List.filterMap_map]
    have : ∀ x ∈ live, es[x.2]? = some (es[x.2]?.getD (0, .none)) := fun x hx => by
      have hlt := (ok.o1 x.1 x.2 ((hlive x.1 x.2).mp hx)).1
      rw [Array.getElem?_eq_getElem hlt]; rfl
    exact filterMap_all live this
  have hesl : (live.map fun x => es[x.2]?.getD (0, .none)).Perm es.toList := by
    have h1 := hperm.map fun q => es[q]?.getD (0, .none)
    rw [List.map_map] at h1
    have h2 : (List.range es.size).map (fun q => es[q]?.getD (0, .none)) = es.toList := by
      apply List.ext_getElem
      · simp
      · intro i a b
        simp
        rw [Array.getElem?_eq_getElem (by simpa using b)]
        rfl
    rw [h2] at h1
    exact h1
  refine ⟨⟨mask, (live.map (·.1)).toArray, #[], t.finger, t.led, t.movedTo mask, t.plain⟩, (live.map (·.2)).toArray, ?_, ?_, ?_, ?_, rfl⟩
  · unfold SetTable.relaid SetTable.laid
    rw [hm, eo]
    rfl
  · refine ⟨⟨k, hmask, k3, k13⟩, rfl, by simpa using hrise, ?_, ?_, ?_, ?_⟩
    · intro j hj
      have hj' : j ∈ live.map (·.1) := by simpa using hj
      obtain ⟨⟨j', q⟩, h, rfl⟩ := List.mem_map.mp hj'
      have := (Array.getElem?_eq_some_iff.mp ((hlive _ _).mp h)).1
      rw [ok.size] at this
      show j' ≤ mask
      omega
    · rw [← Array.length_toList (xs := Array.filterMap _ _), hfm]
      simp
    · show (live.map (·.1)).toArray.size ≤ mask
      simp
      rw [Array.size_map] at hle
      omega
    · intro j e hs
      rw [hfm] at hs
      obtain ⟨i, h1, h2⟩ := hs
      have h1' : (live.map (·.1))[i]? = some j := by simpa using h1
      rw [List.getElem?_map] at h1' h2
      cases hl : live[i]? with
      | none => rw [hl] at h1'; cases h1'
      | some x =>
        rw [hl] at h1' h2
        obtain ⟨j', q⟩ := x
        cases h1'
        obtain ⟨hq, h, a, n, b, c⟩ := ok.o1 j' q ((hlive _ _).mp (List.mem_of_getElem? hl))
        have e2 : es[q]?.getD (0, .none) = e := by cases h2; rfl
        have e3 : e.1 = h := by
          rw [← e2, Array.getElem?_eq_getElem hq]
          have a' : (es.map (·.1))[q]? = some h := by rw [← Array.getElem?_toList]; exact a
          rw [Array.getElem?_map, Array.getElem?_eq_getElem hq] at a'
          simpa using a'
        rw [e3]
        refine ⟨n, b, fun n' hn' => ?_⟩
        obtain ⟨q', hq'⟩ := c n' hn'
        have : road mask h n' ∈ live.map (·.1) := List.mem_map.mpr ⟨(road mask h n', q'), (hlive _ _).mpr hq', rfl⟩
        simpa using this
  · rw [hfm]; exact hesl
  · show (live.map (·.1)).toArray.size * 5 < mask * 3
    simp
    rw [hlen]
    omega
end L3

namespace L3
open PySem
variable {Pv : Value → PyData → Prop}
/-! ### data that a set may hold: ints, texts, tuples of such -/
mutual
def kd : PyData → Bool
  | .int _ => true
  | .str _ => true
  | .tuple ds => kdAll ds
  | .none => false
  | .bool _ => false
  | .list _ => false
  | .dict _ => false
def kdAll : List PyData → Bool
  | [] => true
  | d :: ds => kd d && kdAll ds
end
mutual
def hashD (w : World) : PyData → Int
  | .int i => hashInt i
  | .str x => hashStr w x
  | .tuple ds => reduceHash (Builtin.Tuple.tupleHashOf (hashAll w ds))
  | .none => 0
  | .bool _ => 0
  | .list _ => 0
  | .dict _ => 0
def hashAll (w : World) : List PyData → List Int
  | [] => []
  | d :: ds => hashD w d :: hashAll w ds
end
/-! ### their hash -/
def Hashes (d : PyData) : Prop := ∀ (prog : Program) (w : World) (A : Around) (E : Value → Shared → Prop) (s : Shared) (v : Value) (as : List Addr) (Q : Int → Shared → Prop), Reads s.heap v d as → A.units + d.depth < cLine → (∀ tk, s.toks ≤ tk → Q (hashD w d) { s with toks := tk }) → wpAny (model prog w) A (pyHash v) Q E s
theorem hash_tuple {ds : List PyData} (H : ∀ d ∈ ds, Hashes d) : Hashes (.tuple ds) := fun prog w A E s v as Q r hu h => by
  cases r with
  | @tuple a o vs n _ _ ho hc hd hi =>
  have hT : s.TypeIs (.ref a) "tuple" := ⟨o, ho, hc⟩
  have hu' : A.units + (PyData.depthAll ds + 1) < cLine := hu
  unfold pyHash
  first | unfold pyHashByItsType | skip
  first | refine wpAny_bind (wpAny_cRoomFor_or (.inr (show A.units < cLine by omega)) ?_) | skip
  refine wpAny_bind (wpAny_specialOf (name := "__hash__") hT F.slot_tuple_hash.lookup ?_)
  show wpAny _ _ (if (some (Value.builtin "tuple.__hash__") == some Value.none) = true then _ else _) _ _ _
  rw [if_neg (show ¬ _ by rw [beq_builtin_none]; exact Bool.false_ne_true)]
  refine wpAny_bind (wpAny_specialOf (name := "__hash__") hT F.slot_tuple_hash.lookup ?_)
  show wpAny _ _ (callSpecialIfBoundUnlessNone? (.ref a) "__hash__" _ >>= _) _ _ _
  refine wpAny_bind (wpAny_callSpecialIfBoundUnlessNone?_slot (name := "__hash__") hT F.slot_tuple_hash (wpAny_call_entry (name := "__hash__") F.slot_tuple_hash hT F.entry_tuple_hash ?_ (F.args_tuple_hash_1 _)))
  show wpAny _ _ (Builtin.Tuple.tupleItemsOf (.ref a) >>= _) _ _ _
  refine wpAny_bind (wpAny_tupleItemsOf (n := n) ho hd ?_)
  refine wpAny_bind ?_
  rw [← Array.forIn_toList]
  refine wpAny_forIn_list _
    (fun rest (b : Array Int) s' => ∃ done left bs tk, ds = done ++ left ∧ ReadsAll s.heap rest left bs ∧ b.toList = hashAll w done ∧ s' = { s with toks := tk } ∧ s.toks ≤ tk)
    _ (fun x rest b s' hI => ?_) (fun b s' hI => ?_) _ _ ⟨[], ds, as, s.toks, rfl, hi, rfl, rfl, Nat.le_refl _⟩
  · obtain ⟨done, left, bs, tk, e, hl, hb, rfl, hk⟩ := hI
    cases hl with
    | @cons _ _ d ds' _ _ h1 hl' =>
      have hmem : d ∈ ds := by rw [e]; simp
      have hdep : ∀ (l : List PyData), d ∈ l → d.depth ≤ PyData.depthAll l := fun l => by
        induction l with
        | nil => intro q; cases q
        | cons y l ih =>
          intro q
          show _ ≤ max y.depth (PyData.depthAll l)
          rcases List.mem_cons.mp q with rfl | q
          · exact Nat.le_max_left _ _
          · exact Nat.le_trans (ih q) (Nat.le_max_right _ _)
      have hd1 := hdep ds hmem
      refine wpAny_bind (H d hmem prog w _ E { s with toks := tk } x _ _ h1 (by show A.units + 1 + d.depth < cLine; omega) fun tk' hk' => ?_)
      have hap : ∀ (l : List PyData), hashAll w (l ++ [d]) = hashAll w l ++ [hashD w d] := fun l => by
        induction l with
        | nil => rfl
        | cons y l ih => show hashD w y :: hashAll w (l ++ [d]) = _; rw [ih]; rfl
      first
        | exact wpAny_pure ⟨done ++ [d], ds', _, tk', by simp [e], hl', by simp [hb, hap], rfl, Nat.le_trans hk hk'⟩
        | exact wpAny_bind (wpAny_pure (wpAny_pure ⟨done ++ [d], ds', _, tk', by simp [e], hl', by simp [hb, hap], rfl, Nat.le_trans hk hk'⟩))
  · obtain ⟨done, left, bs, tk, e, hl, hb, rfl, hk⟩ := hI
    cases hl
    rw [List.append_nil] at e
    subst e
    show wpAny _ _ (retInt (Builtin.Tuple.tupleHashOf b.toList)) _ _ _
    rw [hb]
    refine wpAny_ret_mkInt ?_
    show wpAny _ _ (if (decide (-(2 : Int) ^ 63 ≤ Builtin.Tuple.tupleHashOf (hashAll w ds)) && decide (Builtin.Tuple.tupleHashOf (hashAll w ds) < 2 ^ 63)) = true then _ else _) _ _ _
    have h' : ∀ tk, s.toks ≤ tk → Q (reduceHash (Builtin.Tuple.tupleHashOf (hashAll w ds))) { s with toks := tk } := h
    unfold reduceHash at h'
    split
    · rename_i hr
      rw [if_pos hr] at h'
      exact wpAny_pure (h' _ (by simp only; omega))
    · rename_i hr
      rw [if_neg hr] at h'
      exact wpAny_bind (wpAny_rule (wpAny_pure (h' _ (by simp only; omega))))
mutual
theorem hash_reads : ∀ (d : PyData), kd d = true → Hashes d
  | .int i, _ => fun prog w A E s v as Q r hu h => by
    cases r with
    | int => exact wpAny_pyHash_int (h _ (by omega))
  | .str x, _ => fun prog w A E s v as Q r hu h => by
    cases r with
    | str => exact wpAny_pyHash_str (h _ (by omega))
  | .tuple ds, hk => hash_tuple (hash_readsAll ds hk)
  | .none, hk => absurd hk Bool.false_ne_true
  | .bool _, hk => absurd hk Bool.false_ne_true
  | .list _, hk => absurd hk Bool.false_ne_true
  | .dict _, hk => absurd hk Bool.false_ne_true
theorem hash_readsAll : ∀ (ds : List PyData), kdAll ds = true → ∀ d ∈ ds, Hashes d
  | [], _, d, hd => by cases hd
  | e :: ds, hk, d, hd => by
    have hk' : (kd e && kdAll ds) = true := hk
    rw [Bool.and_eq_true] at hk'
    rcases List.mem_cons.mp hd with h | hd
    · rw [h]; exact hash_reads e hk'.1
    · exact hash_readsAll ds hk'.2 d hd
end
/-! ### equal means the same -/
mutual
theorem eqv_kd : ∀ (d e : PyData), kd d = true → kd e = true → PyData.eqv d e = true → d = e
  | .int i, e, _, he, h => by
    cases e <;> simp [PyData.eqv, kd] at h he ⊢
    exact h
  | .str x, e, _, he, h => by
    cases e <;> simp [PyData.eqv, kd] at h he ⊢
    exact h
  | .tuple ds, e, hd, he, h => by
    cases e with
    | tuple es =>
      have := eqv_kdAll ds es hd he (by simpa [PyData.eqv] using h)
      rw [this]
    | _ => simp [PyData.eqv, kd] at h he
  | .none, _, hd, _, _ => absurd hd Bool.false_ne_true
  | .bool _, _, hd, _, _ => absurd hd Bool.false_ne_true
  | .list _, _, hd, _, _ => absurd hd Bool.false_ne_true
  | .dict _, _, hd, _, _ => absurd hd Bool.false_ne_true
theorem eqv_kdAll : ∀ (ds es : List PyData), kdAll ds = true → kdAll es = true → PyData.eqvAll ds es = true → ds = es
  | [], [], _, _, _ => rfl
  | [], _ :: _, _, _, h => by simp [PyData.eqvAll] at h
  | _ :: _, [], _, _, h => by simp [PyData.eqvAll] at h
  | d :: ds, e :: es, hd, he, h => by
    have hd' : (kd d && kdAll ds) = true := hd
    have he' : (kd e && kdAll es) = true := he
    rw [Bool.and_eq_true] at hd' he'
    have h' : PyData.eqv d e = true ∧ PyData.eqvAll ds es = true := by simpa [PyData.eqvAll] using h
    rw [eqv_kd d e hd'.1 he'.1 h'.1, eqv_kdAll ds es hd'.2 he'.2 h'.2]
end
/-! ### what the search asks of them besides -/
theorem reads_all_mem {h : Heap} : ∀ {vs : List Value} {ds : List PyData} {as : List Addr}, ReadsAll h vs ds as → ∀ v ∈ vs, ∃ d bs, d ∈ ds ∧ Reads h v d bs
  | _, _, _, .nil, v, hv => by cases hv
  | _, _, _, .cons h1 h2, v, hv => by
    rcases List.mem_cons.mp hv with e | hv
    · rw [e]; exact ⟨_, _, List.mem_cons_self, h1⟩
    · obtain ⟨d, bs, q1, q2⟩ := reads_all_mem h2 v hv
      exact ⟨d, bs, List.mem_cons_of_mem _ q1, q2⟩
theorem kd_mem : ∀ {ds : List PyData}, kdAll ds = true → ∀ d ∈ ds, kd d = true
  | [], _, d, hd => by cases hd
  | e :: ds, hk, d, hd => by
    have hk' : (kd e && kdAll ds) = true := hk
    rw [Bool.and_eq_true] at hk'
    rcases List.mem_cons.mp hd with h | hd
    · rw [h]; exact hk'.1
    · exact kd_mem hk'.2 d hd
theorem dep_mem : ∀ {ds : List PyData}, ∀ d ∈ ds, d.depth ≤ PyData.depthAll ds
  | [], d, hd => by cases hd
  | e :: ds, d, hd => by
    show _ ≤ max e.depth (PyData.depthAll ds)
    rcases List.mem_cons.mp hd with h | hd
    · rw [h]; exact Nat.le_max_left _ _
    · exact Nat.le_trans (dep_mem d hd) (Nat.le_max_right _ _)
section
variable {prog : Program} {w : World} {A : Around} {E : Value → Shared → Prop} {s : Shared}
theorem quiet_reads : ∀ (n : Nat) {v : Value} {d : PyData} {as : List Addr} {Q : Bool → Shared → Prop}, kd d = true → Reads s.heap v d as → d.depth < n → Q true s → wpAny (model prog w) A (eqIsQuiet n v) Q E s
  | n, v, .int i, as, Q, hk, r, hn, q => by
    cases r with | int => rw [eqIsQuiet_byValue _ rfl]; exact wpAny_pure q
  | n, v, .str x, as, Q, hk, r, hn, q => by
    cases r with | str => rw [eqIsQuiet_byValue _ rfl]; exact wpAny_pure q
  | n + 1, v, .tuple ds, as, Q, hk, r, hn, q => by
    cases r with
    | @tuple a o vs m _ _ ho hc hd hi =>
    have hT : s.TypeIs (.ref a) "tuple" := ⟨o, ho, hc⟩
    have hn' : PyData.depthAll ds + 1 < n + 1 := hn
    unfold eqIsQuiet
    refine wpAny_bind (wpAny_specialOf (name := "__eq__") hT F.slot_tuple_eq.lookup ?_)
    show wpAny _ _ (isInstance (.ref a) (.type "tuple") >>= _) _ _ _
    refine wpAny_bind (wpAny_isInstance (T := "tuple") hT isSubtype_tuple_tuple ?_)
    simp only [Bool.not_true, Bool.false_eq_true, if_false]
    refine wpAny_bind (wpAny_seqItems (n := m) ho hd ?_)
    refine wpAny_bind ?_
    show wpAny _ _ (forIn vs _ _) _ _ _
    rw [← Array.forIn_toList]
    refine wpAny_forIn_list _ (fun rest r s' => r.1 = none ∧ s' = s ∧ ∀ v ∈ rest, v ∈ vs.toList) _ (fun v rest r s' hI => ?_) (fun r s' hI => ?_) _ _ ⟨rfl, rfl, fun v hv => hv⟩
    · obtain ⟨hr, es, hall⟩ := hI
      rw [es]
      obtain ⟨d, bs, hd1, hd2⟩ := reads_all_mem hi v (hall v List.mem_cons_self)
      refine wpAny_bind (quiet_reads n (kd_mem hk d hd1) hd2 (by have := dep_mem d hd1; omega) ?_)
      simp only [Bool.not_true, Bool.false_eq_true, if_false]
      exact wpAny_pure ⟨rfl, rfl, fun u hu => hall u (List.mem_cons_of_mem _ hu)⟩
    · obtain ⟨r1, r2⟩ := r
      obtain ⟨hr, rfl, _⟩ := hI
      simp only at hr
      subst hr
      exact wpAny_pure q
  | _, _, .none, _, _, hk, _, _, _ => absurd hk Bool.false_ne_true
  | _, _, .bool _, _, _, hk, _, _, _ => absurd hk Bool.false_ne_true
  | _, _, .list _, _, _, hk, _, _, _ => absurd hk Bool.false_ne_true
  | _, _, .dict _, _, _, hk, _, _, _ => absurd hk Bool.false_ne_true
theorem plain_reads : ∀ (n : Nat) {v : Value} {d : PyData} {as : List Addr} {Q : Bool → Shared → Prop}, kd d = true → Reads s.heap v d as → d.depth < n → Q false s → wpAny (model prog w) A (ofAClassStatement n v) Q E s
  | n, v, .int i, as, Q, hk, r, hn, q => by
    cases r with | int => unfold ofAClassStatement; exact wpAny_pure q
  | n, v, .str x, as, Q, hk, r, hn, q => by
    cases r with | str => unfold ofAClassStatement; exact wpAny_pure q
  | n + 1, v, .tuple ds, as, Q, hk, r, hn, q => by
    cases r with
    | @tuple a o vs m _ _ ho hc hd hi =>
    have hT : s.TypeIs (.ref a) "tuple" := ⟨o, ho, hc⟩
    have hn' : PyData.depthAll ds + 1 < n + 1 := hn
    unfold ofAClassStatement
    refine wpAny_bind (wpAny_typeOf (T := "tuple") hT ?_)
    dsimp only
    rw [if_pos (by decide)]
    refine wpAny_bind (wpAny_pure ?_)
    simp only [Bool.not_true, Bool.false_eq_true, if_false]
    refine wpAny_bind (wpAny_seqItems (n := m) ho hd ?_)
    dsimp only
    refine wpAny_bind ?_
    rw [← Array.forIn_toList]
    refine wpAny_forIn_list _ (fun rest r s' => r.1 = none ∧ s' = s ∧ ∀ v ∈ rest, v ∈ vs.toList) _ (fun v rest r s' hI => ?_) (fun r s' hI => ?_) _ _ ⟨rfl, rfl, fun v hv => hv⟩
    · obtain ⟨hr, es, hall⟩ := hI
      rw [es]
      obtain ⟨d, bs, hd1, hd2⟩ := reads_all_mem hi v (hall v List.mem_cons_self)
      refine wpAny_bind (plain_reads n (kd_mem hk d hd1) hd2 (by have := dep_mem d hd1; omega) ?_)
      simp only [Bool.false_eq_true, if_false]
      exact wpAny_pure ⟨rfl, rfl, fun u hu => hall u (List.mem_cons_of_mem _ hu)⟩
    · obtain ⟨r1, r2⟩ := r
      obtain ⟨hr, rfl, _⟩ := hI
      simp only at hr
      subst hr
      exact wpAny_pure q
  | _, _, .none, _, _, hk, _, _, _ => absurd hk Bool.false_ne_true
  | _, _, .bool _, _, _, hk, _, _, _ => absurd hk Bool.false_ne_true
  | _, _, .list _, _, _, hk, _, _, _ => absurd hk Bool.false_ne_true
  | _, _, .dict _, _, _, hk, _, _, _ => absurd hk Bool.false_ne_true
theorem byval_reads : ∀ (n : Nat) {v : Value} {d : PyData} {as : List Addr} {Q : Bool → Shared → Prop}, kd d = true → Reads s.heap v d as → (∀ b, Q b s) → wpAny (model prog w) A (hashByValue n v) Q E s
  | n, v, .int i, as, Q, hk, r, q => by
    cases r with | int => unfold hashByValue; exact wpAny_pure (q _)
  | n, v, .str x, as, Q, hk, r, q => by
    cases r with | str => unfold hashByValue; exact wpAny_pure (q _)
  | 0, v, .tuple ds, as, Q, hk, r, q => by
    cases r with | tuple => unfold hashByValue; exact wpAny_pure (q _)
  | n + 1, v, .tuple ds, as, Q, hk, r, q => by
    cases r with
    | @tuple a o vs m _ _ ho hc hd hi =>
    have hT : s.TypeIs (.ref a) "tuple" := ⟨o, ho, hc⟩
    unfold hashByValue
    refine wpAny_bind (wpAny_specialOf (name := "__hash__") hT F.slot_tuple_hash.lookup ?_)
    dsimp only
    refine wpAny_bind (wpAny_seqItems (n := m) ho hd ?_)
    refine wpAny_bind ?_
    show wpAny _ _ (forIn vs _ _) _ _ _
    rw [← Array.forIn_toList]
    refine wpAny_forIn_list _ (fun rest r s' => r.1 = none ∧ s' = s ∧ ∀ v ∈ rest, v ∈ vs.toList) _ (fun v rest r s' hI => ?_) (fun r s' hI => ?_) _ _ ⟨rfl, rfl, fun v hv => hv⟩
    · obtain ⟨hr, es, hall⟩ := hI
      rw [es]
      obtain ⟨d, bs, hd1, hd2⟩ := reads_all_mem hi v (hall v List.mem_cons_self)
      refine wpAny_bind (byval_reads n (kd_mem hk d hd1) hd2 fun b => ?_)
      cases b with
      | true =>
        simp only [Bool.not_true, Bool.false_eq_true, if_false]
        exact wpAny_pure ⟨rfl, rfl, fun u hu => hall u (List.mem_cons_of_mem _ hu)⟩
      | false =>
        simp only [Bool.not_false, if_true]
        exact wpAny_pure (wpAny_pure (q _))
    · obtain ⟨r1, r2⟩ := r
      obtain ⟨hr, rfl, _⟩ := hI
      simp only at hr
      subst hr
      exact wpAny_pure (q _)
  | _, _, .none, _, _, hk, _, _ => absurd hk Bool.false_ne_true
  | _, _, .bool _, _, _, hk, _, _ => absurd hk Bool.false_ne_true
  | _, _, .list _, _, _, hk, _, _ => absurd hk Bool.false_ne_true
  | _, _, .dict _, _, _, hk, _, _ => absurd hk Bool.false_ne_true
/-! ### what a set holds -/
structure El (Pv : Value → PyData → Prop) (w : World) (h : Heap) (e : Int × Value) (d : PyData) : Prop where
  own : Pv e.2 d
  hash : e.1 = hashD w d
  key : kd d = true
  tup : ∃ ds, d = .tuple ds
  lay : d.canLay0 = true
  deep : d.depth < 8
  reads : ∃ as, Reads h e.2 d as
theorem El.ref {w : World} {h : Heap} {e : Int × Value} {d : PyData} (x : El Pv w h e d) : ∃ a, e.2 = .ref a := by
  obtain ⟨ds, rfl⟩ := x.tup
  obtain ⟨as, r⟩ := x.reads
  generalize e.2 = v at r
  cases r with
  | tuple => exact ⟨_, rfl⟩
theorem El.eq {h : Heap} {A : Around} {e e' : Int × Value} {d d' : PyData} (hs : s.heap = h) (x : El Pv w h e d) (y : El Pv w h e' d') (hu : A.units + 8 < cLine) {Q : Bool → Shared → Prop} (q : ∀ b : Bool, (b = true ↔ d = d') → Q b s) : wpAny (model prog w) A (eqBool e.2 e'.2) Q E s := by
  subst hs
  obtain ⟨as, r⟩ := x.reads
  obtain ⟨bs, r'⟩ := y.reads
  refine SeqAt.eqBoolOverData prog w A E s _ _ d d' as bs Q r r' x.lay y.lay (by have := x.deep; have := Nat.min_le_left d.depth d'.depth; omega) ?_
  refine q _ ⟨fun z => eqv_kd d d' x.key y.key z, fun z => ?_⟩
  rw [← z]
  exact SeqAt.eqv_refl _ x.lay
theorem seen_no {x : Int × Value} {d : PyData} (hx : El Pv w s.heap x d) : ∀ (ys : List Value) {Q : Bool → Shared → Prop}, (∀ y ∈ ys, ∃ h e, El Pv w s.heap (h, y) e) → Q false s → wpAny (model prog w) A (searchCouldBeSeen x.2 ys) Q E s := by
  intro ys Q hy q
  unfold searchCouldBeSeen
  refine wpAny_bind ?_
  refine wpAny_forIn_list _ (fun rest r s' => r.1 = none ∧ s' = s ∧ ∀ v ∈ rest, v ∈ ys) _ (fun v rest r s' hI => ?_) (fun r s' hI => ?_) _ _ ⟨rfl, rfl, fun v hv => hv⟩
  · obtain ⟨hr, rfl, hall⟩ := hI
    obtain ⟨h, e, hE⟩ := hy v (hall v List.mem_cons_self)
    obtain ⟨a, ea⟩ := hx.ref
    obtain ⟨b, eb⟩ := hE.ref
    obtain ⟨as, r1⟩ := hx.reads
    obtain ⟨bs, r2⟩ := hE.reads
    have nxt : ∀ u ∈ rest, u ∈ ys := fun u hu => hall u (List.mem_cons_of_mem _ hu)
    simp only at eb r2
    have stay : wpAny (model prog w) A (pure (ForInStep.yield ((none : Option Bool), ())) : Sem (ForInStep (Option Bool × Unit))) (fun r s'_1 => match r with
      | ForInStep.yield b' => b'.fst = none ∧ s'_1 = s' ∧ ∀ (v : Value), v ∈ rest → v ∈ ys
      | ForInStep.done b' => wpAny (model prog w) A (match b'.fst with | some r => pure r | none => pure false) Q E s'_1) E s' := wpAny_pure ⟨rfl, rfl, nxt⟩
    subst eb
    rw [ea] at r1 ⊢
    dsimp only
    split
    · exact stay
    · refine wpAny_bind (quiet_reads 8 hx.key r1 hx.deep ?_)
      simp only [Bool.not_true, Bool.false_eq_true, if_false]
      refine wpAny_bind (quiet_reads 8 hE.key r2 hE.deep ?_)
      simp only [Bool.not_true, Bool.false_eq_true, if_false]
      refine wpAny_bind (plain_reads 8 hx.key r1 hx.deep ?_)
      simp only [Bool.false_eq_true, if_false]
      refine wpAny_bind (plain_reads 8 hE.key r2 hE.deep ?_)
      simp only [Bool.false_eq_true, if_false]
      exact stay
  · obtain ⟨r1, r2⟩ := r
    obtain ⟨hr, rfl, _⟩ := hI
    simp only at hr
    subst hr
    exact wpAny_pure q
/-- the elements, in the table's order, and their data -/
def Els (Pv : Value → PyData → Prop) (w : World) (h : Heap) (es : List (Int × Value)) (ds : List PyData) : Prop := es.length = ds.length ∧ ∀ (i : Nat) e d, es[i]? = some e → ds[i]? = some d → El Pv w h e d
theorem Els.at {h : Heap} {es : List (Int × Value)} {ds : List PyData} (x : Els Pv w h es ds) {i : Nat} {e : Int × Value} (he : es[i]? = some e) : ∃ d, ds[i]? = some d ∧ El Pv w h e d := by
  have hl := (List.getElem?_eq_some_iff.mp he).1
  have hd : ds[i]? = some (ds[i]'(by rw [← x.1]; exact hl)) := List.getElem?_eq_getElem _
  exact ⟨_, hd, x.2 i e _ he hd⟩
theorem probe_met {t : SetTable} {es : Array (Int × Value)} (ok : TOk t es) {f : Nat → Int} {h : Int} {p : SetTable.Probe} (st : Stand t.mask p) :
    ∃ met, t.probe f h p = some met ∧ ((∃ n, met = .empty (itn (adv t.mask) n p).j p.dummy ∧ (itn (adv t.mask) n p).j ∉ t.place.toList ∧ ∀ n', n' < n → ∃ i : Nat, t.place[i]? = some (itn (adv t.mask) n' p).j ∧ f i ≠ h) ∨
    (∃ n i, met = .candidate (itn (adv t.mask) n p).j i (itn (adv t.mask) (n + 1) p) ∧ t.place[i]? = some (itn (adv t.mask) n p).j ∧ f i = h ∧ ∀ n', n' < n → ∃ i' : Nat, t.place[i']? = some (itn (adv t.mask) n' p).j ∧ f i' ≠ h)) := by
  rcases probe_spec ok f h st with ⟨n, e, r⟩ | ⟨n, i, e, r⟩
  · exact ⟨_, e, .inl ⟨n, rfl, r⟩⟩
  · exact ⟨_, e, .inr ⟨n, i, rfl, r⟩⟩
theorem dummy_itn (mask : Nat) : ∀ (n : Nat) (p : SetTable.Probe), (itn (adv mask) n p).dummy = p.dummy
  | 0, _ => rfl
  | n + 1, p => by
    show (itn (adv mask) n (adv mask p)).dummy = _
    rw [dummy_itn mask n]
    unfold adv
    split <;> rfl
/-- the search for a place: found, or the first free slot of the road -/
theorem search_add {a : Addr} {o : Obj} {es : Array (Int × Value)} {ep : Nat} {t : SetTable} {ds : List PyData} {x : Int × Value} {d : PyData} {Q : SetFound → Shared → Prop}
    (ho : s.heap.get? a = some o) (hd : o.data = .set es ep t) (ok : TOk t es) (els : Els Pv w s.heap es.toList ds) (hx : El Pv w s.heap x d) (hu : A.units + 8 < cLine)
    (q1 : d ∈ ds → Q (.there none) s) (q2 : ∀ n, d ∉ ds → road t.mask x.1 n ∉ t.place.toList → (∀ n', n' < n → road t.mask x.1 n' ∈ t.place.toList) → Q (.free (road t.mask x.1 n) false) s) :
    ∀ (fuel m N : Nat) (stand : Option SetTable.Probe), stand.getD (st0 t.mask x.1) = itn (adv t.mask) m (st0 t.mask x.1) → road t.mask x.1 N ∉ t.place.toList → N < m + fuel →
      (∀ n', n' < m → ∃ i : Nat, t.place[i]? = some (road t.mask x.1 n') ∧ ds[i]? ≠ some d) → wpAny (model prog w) A (setSearchFrom a x.2 x.1 true fuel stand) Q E s
  | 0, m, N, stand, hst, hN, hf, hm => by
    exfalso
    obtain ⟨i, h1, h2⟩ := hm N (by omega)
    exact hN (by rw [← Array.getElem?_toList] at h1; exact List.mem_of_getElem? h1)
  | fuel + 1, m, N, stand, hst, hN, hf, hm => by
    unfold setSearchFrom
    refine wpAny_bind (wpAny_setState_of ho hd ok.fits ?_)
    dsimp only
    rw [ok.noway]
    simp only [Bool.false_eq_true, if_false]
    rw [start_eq, hst]
    have hstand : Stand t.mask (itn (adv t.mask) m (st0 t.mask x.1)) := itn_stand m (st0_stand _ _)
    have roadm : ∀ n, (itn (adv t.mask) n (itn (adv t.mask) m (st0 t.mask x.1))).j = road t.mask x.1 (m + n) := fun n => by unfold road; rw [itn_add]
    have inj : ∀ {i i' j : Nat}, t.place[i]? = some j → t.place[i']? = some j → i = i' := fun {i i' j} h1 h2 => by rw [← below_at ok.rise h1, below_at ok.rise h2]
    have entry : ∀ {i j : Nat}, t.place[i]? = some j → ∃ e di, es[i]? = some e ∧ ds[i]? = some di ∧ El Pv w s.heap e di := fun {i j} h1 => by
      have hl := (Array.getElem?_eq_some_iff.mp h1).1
      have he : es[i]? = some (es[i]'(by rw [← ok.sz]; exact hl)) := Array.getElem?_eq_getElem _
      obtain ⟨di, h2, h3⟩ := els.at (by rw [Array.getElem?_toList]; exact he)
      exact ⟨_, di, he, h2, h3⟩
    obtain ⟨met, hp, hmet⟩ := probe_met ok (f := _) (h := x.1) hstand
    rw [hp]
    have away : ∀ {n i : Nat}, t.place[i]? = some (itn (adv t.mask) n (itn (adv t.mask) m (st0 t.mask x.1))).j → (es[i]?.map (·.1)).getD 0 ≠ x.1 → ds[i]? ≠ some d := fun {n i} h1 h2 h3 => by
      obtain ⟨e, di, g1, g2, g3⟩ := entry h1
      rw [g2] at h3
      cases h3
      apply h2
      rw [g1]
      show e.1 = x.1
      rw [g3.hash, hx.hash]
    rcases hmet with ⟨n, rfl, hfree, hbef⟩ | ⟨n, i, rfl, hpl, hfi, hbef⟩
    · have hbef' : ∀ n', n' < n → ∃ i : Nat, t.place[i]? = some (itn (adv t.mask) n' (itn (adv t.mask) m (st0 t.mask x.1))).j ∧ ds[i]? ≠ some d := fun n' hn' => by
        obtain ⟨i', h1, h2⟩ := hbef n' hn'
        exact ⟨i', h1, away h1 h2⟩
      dsimp only
      rw [dummy_itn]
      show wpAny _ _ (pure _) _ _ _
      rw [roadm] at hfree ⊢
      have before : ∀ n', n' < m + n → ∃ i : Nat, t.place[i]? = some (road t.mask x.1 n') ∧ ds[i]? ≠ some d := fun n' hn' => by
        by_cases hq : n' < m
        · exact hm n' hq
        · obtain ⟨i', h1, h2⟩ := hbef' (n' - m) (by omega)
          rw [roadm, show m + (n' - m) = n' by omega] at h1
          exact ⟨i', h1, h2⟩
      refine wpAny_pure (q2 (m + n) (fun hin => ?_) hfree fun n' hn' => ?_)
      · obtain ⟨k, hk⟩ := List.getElem?_of_mem hin
        have hkl := (List.getElem?_eq_some_iff.mp hk).1
        have hke : es.toList[k]? = some (es.toList[k]'(by rw [els.1]; exact hkl)) := List.getElem?_eq_getElem _
        have hel := els.2 k _ d hke hk
        have hkp : t.place[k]? = some (t.place[k]'(by rw [ok.sz, ← Array.length_toList, els.1]; exact hkl)) := Array.getElem?_eq_getElem _
        obtain ⟨n', hn', hr⟩ := ok.ahead (j := t.place[k]'(by rw [ok.sz, ← Array.length_toList, els.1]; exact hkl)) (e := es.toList[k]'(by rw [els.1]; exact hkl)) ⟨k, by rw [Array.getElem?_toList]; exact hkp, hke⟩ (n := m + n) (by rw [hel.hash, ← hx.hash]; exact hfree)
        rw [hel.hash, ← hx.hash] at hr
        obtain ⟨i', g1, g2⟩ := before n' hn'
        rw [hr] at g1
        have e := inj hkp g1
        rw [← e] at g2
        exact g2 hk
      · obtain ⟨i', g1, _⟩ := before n' hn'
        rw [← Array.getElem?_toList] at g1
        exact List.mem_of_getElem? g1
    · obtain ⟨e, di, g1, g2, g3⟩ := entry hpl
      obtain ⟨eh, y⟩ := e
      obtain ⟨ya, ey⟩ := g3.ref
      have ey' : y = .ref ya := ey
      subst ey'
      dsimp only
      have fin : wpAny (model prog w) A (setSearchFrom a x.2 x.1 true fuel (some (itn (adv t.mask) (n + 1) (itn (adv t.mask) m (st0 t.mask x.1))))) Q E s ∨ di = d := by
        by_cases hq : di = d
        · exact .inr hq
        · refine .inl (search_add ho hd ok els hx hu q1 q2 fuel (m + n + 1) N _ ?_ hN (by omega) fun n' hn' => ?_)
          · show itn (adv t.mask) (n + 1) (itn (adv t.mask) m (st0 t.mask x.1)) = _
            rw [← itn_add]; rfl
          · by_cases hq1 : n' < m
            · exact hm n' hq1
            · by_cases hq2 : n' - m < n
              · obtain ⟨i', h1, h2⟩ := hbef (n' - m) hq2
                have h3 := away h1 h2
                rw [roadm, show m + (n' - m) = n' by omega] at h1
                exact ⟨i', h1, h3⟩
              · rw [roadm, show m + n = n' by omega] at hpl
                exact ⟨i, hpl, by rw [g2]; intro z; cases z; exact hq rfl⟩
      have cand : ∀ (b : Bool), (b = true ↔ di = d) → (b = true → wpAny (model prog w) A (pure (SetFound.there none)) Q E s) := fun b hb hbt => wpAny_pure (q1 (by
        rw [← hb.mp hbt]
        exact List.mem_of_getElem? g2))
      rw [g1]
      dsimp only
      have sm : t.sameMemory t.moves t.mask = some true := by unfold SetTable.sameMemory; simp
      cases hled : t.led with
      | true =>
        simp only [Bool.not_true, Bool.false_eq_true, if_false]
        refine wpAny_bind (wpAny_holding (El.eq rfl g3 hx hu fun b hb => ?_))
        refine wpAny_bind (wpAny_setState_of ho hd ok.fits ?_)
        cases b with
        | true =>
          simp only [Bool.and_self, if_true]
          exact cand true hb rfl
        | false =>
          simp only [Bool.and_false, Bool.false_eq_true, if_false]
          rw [sm]
          dsimp only
          rw [if_pos rfl, slot_live ok.rise hpl]
          dsimp only
          rw [g1]
          dsimp only
          refine wpAny_bind (wpAny_isSame_ref_self ?_)
          refine wpAny_bind (wpAny_pure ?_)
          simp only [if_true, Bool.false_eq_true, if_false]
          rcases fin with f | f
          · exact f
          · exact absurd (hb.mpr f) (by simp)
      | false =>
        simp only [Bool.not_false, if_true]
        refine wpAny_bind (seen_no hx _ (fun y hy => ?_) ?_)
        · obtain ⟨e, he, rfl⟩ := List.mem_map.mp hy
          have he' : e ∈ es.toList := by
            rw [Array.toList_filter] at he
            exact (List.mem_filter.mp he).1
          obtain ⟨k, hk⟩ := List.getElem?_of_mem he'
          obtain ⟨dk, _, hE⟩ := els.at hk
          exact ⟨e.1, dk, hE⟩
        simp only [Bool.false_eq_true, if_false]
        refine wpAny_bind (wpAny_holding (El.eq rfl g3 hx hu fun b hb => ?_))
        refine wpAny_bind (wpAny_setState_of ho hd ok.fits ?_)
        cases b with
        | true =>
          simp only [Bool.and_self, if_true]
          exact cand true hb rfl
        | false =>
          simp only [Bool.and_false, Bool.false_eq_true, if_false]
          rw [sm]
          dsimp only
          rw [if_pos rfl, slot_live ok.rise hpl]
          dsimp only
          rw [g1]
          dsimp only
          refine wpAny_bind (wpAny_isSame_ref_self ?_)
          refine wpAny_bind (wpAny_pure ?_)
          simp only [if_true, Bool.false_eq_true, if_false]
          rcases fin with f | f
          · exact f
          · exact absurd (hb.mpr f) (by simp)
end
end L3

namespace L3
open PySem
variable {Pv : Value → PyData → Prop}
theorem els_nil {w : World} {h : Heap} {ds : List PyData} (x : Els Pv w h [] ds) : ds = [] := List.length_eq_zero_iff.mp x.1.symm
theorem els_cons {w : World} {h : Heap} {e : Int × Value} {es : List (Int × Value)} {ds : List PyData} (x : Els Pv w h (e :: es) ds) : ∃ d ds', ds = d :: ds' ∧ El Pv w h e d ∧ Els Pv w h es ds' := by
  match ds, x with
  | [], x => exact absurd x.1 (by simp)
  | d :: ds', x => exact ⟨d, ds', rfl, x.2 0 e d rfl rfl, by have := x.1; simpa using this, fun i e' d' h1 h2 => x.2 (i + 1) e' d' h1 h2⟩
theorem Els.cons {w : World} {h : Heap} {e : Int × Value} {d : PyData} {es : List (Int × Value)} {ds : List PyData} (hd : El Pv w h e d) (x : Els Pv w h es ds) : Els Pv w h (e :: es) (d :: ds) := by
  refine ⟨by rw [List.length_cons, List.length_cons, x.1], fun i e' d' h1 h2 => ?_⟩
  cases i with
  | zero => cases h1; cases h2; exact hd
  | succ i => exact x.2 i e' d' h1 h2
theorem Els.nil {w : World} {h : Heap} : Els Pv w h [] [] := ⟨rfl, fun i e d h1 _ => by simp at h1⟩
theorem Els.append {w : World} {h : Heap} : ∀ {es fs : List (Int × Value)} {ds gs : List PyData}, Els Pv w h es ds → Els Pv w h fs gs → Els Pv w h (es ++ fs) (ds ++ gs)
  | [], fs, ds, gs, x, y => by rw [els_nil x]; exact y
  | e :: es, fs, ds, gs, x, y => by
    obtain ⟨d, ds', rfl, h1, h2⟩ := els_cons x
    exact Els.cons h1 (h2.append y)
theorem Els.take {w : World} {h : Heap} {es : List (Int × Value)} {ds : List PyData} (x : Els Pv w h es ds) (n : Nat) : Els Pv w h (es.take n) (ds.take n) := by
  refine ⟨by rw [List.length_take, List.length_take, x.1], fun i e d h1 h2 => ?_⟩
  have hi : i < n := by
    have := (List.getElem?_eq_some_iff.mp h1).1
    rw [List.length_take] at this
    omega
  rw [List.getElem?_take_of_lt hi] at h1 h2
  exact x.2 i e d h1 h2
theorem Els.drop {w : World} {h : Heap} {es : List (Int × Value)} {ds : List PyData} (x : Els Pv w h es ds) (n : Nat) : Els Pv w h (es.drop n) (ds.drop n) := by
  refine ⟨by rw [List.length_drop, List.length_drop, x.1], fun i e d h1 h2 => ?_⟩
  rw [List.getElem?_drop] at h1 h2
  exact x.2 _ e d h1 h2
theorem Els.perm {w : World} {h : Heap} {es fs : List (Int × Value)} (p : es.Perm fs) : ∀ {ds : List PyData}, Els Pv w h fs ds → ∃ ds', ds'.Perm ds ∧ Els Pv w h es ds' := by
  induction p with
  | nil => intro ds x; exact ⟨ds, List.Perm.refl _, x⟩
  | cons e p ih =>
    intro ds x
    obtain ⟨d, ds1, rfl, h1, h2⟩ := els_cons x
    obtain ⟨ds2, p2, x2⟩ := ih h2
    exact ⟨d :: ds2, p2.cons d, x2.cons h1⟩
  | swap a b l =>
    intro ds x
    obtain ⟨d, ds1, rfl, h1, h2⟩ := els_cons x
    obtain ⟨d', ds2, rfl, h3, h4⟩ := els_cons h2
    exact ⟨d' :: d :: ds2, List.Perm.swap _ _ _, (h4.cons h1).cons h3⟩
  | trans p1 p2 ih1 ih2 =>
    intro ds x
    obtain ⟨ds1, q1, x1⟩ := ih2 x
    obtain ⟨ds2, q2, x2⟩ := ih1 x1
    exact ⟨ds2, q2.trans q1, x2⟩
/-! ### tuples stay: so do the elements -/
def TupsStay (h h' : Heap) : Prop := ∀ b ob, h.get? b = some ob → ob.cls = .type "tuple" → h'.get? b = some ob
mutual
theorem reads_stay {h h' : Heap} (t : TupsStay h h') : ∀ (d : PyData) {v : Value} {as : List Addr}, kd d = true → Reads h v d as → Reads h' v d as
  | .int i, v, as, _, r => by cases r with | int => exact .int _ _
  | .str x, v, as, _, r => by cases r with | str => exact .str _ _
  | .tuple ds, v, as, hk, r => by
    cases r with
    | tuple ho hc hd hi => exact .tuple (t _ _ ho hc) hc hd (reads_stayAll t ds hk hi)
  | .none, _, _, hk, _ => absurd hk Bool.false_ne_true
  | .bool _, _, _, hk, _ => absurd hk Bool.false_ne_true
  | .list _, _, _, hk, _ => absurd hk Bool.false_ne_true
  | .dict _, _, _, hk, _ => absurd hk Bool.false_ne_true
theorem reads_stayAll {h h' : Heap} (t : TupsStay h h') : ∀ (ds : List PyData) {vs : List Value} {as : List Addr}, kdAll ds = true → ReadsAll h vs ds as → ReadsAll h' vs ds as
  | [], vs, as, _, r => by cases r; exact .nil
  | d :: ds, vs, as, hk, r => by
    have hk' : (kd d && kdAll ds) = true := hk
    rw [Bool.and_eq_true] at hk'
    cases r with
    | cons h1 h2 => exact .cons (reads_stay t d hk'.1 h1) (reads_stayAll t ds hk'.2 h2)
end
theorem El.stay {w : World} {h h' : Heap} (t : TupsStay h h') {e : Int × Value} {d : PyData} (x : El Pv w h e d) : El Pv w h' e d :=
  ⟨x.own, x.hash, x.key, x.tup, x.lay, x.deep, let ⟨as, r⟩ := x.reads; ⟨as, reads_stay t d x.key r⟩⟩
theorem Els.stay {w : World} {h h' : Heap} (t : TupsStay h h') {es : List (Int × Value)} {ds : List PyData} (x : Els Pv w h es ds) : Els Pv w h' es ds := ⟨x.1, fun i e d h1 h2 => (x.2 i e d h1 h2).stay t⟩
theorem stay_but {h h' : Heap} {a : Addr} {o : Obj} (ho : h.get? a = some o) (hc : o.cls = .type "set") (hs : Heap.SameBut a h h') : TupsStay h h' := fun b ob hb ht => by
  have : b ≠ a := fun e => by
    subst e
    rw [ho] at hb
    cases hb
    rw [hc] at ht
    exact absurd ht (by decide)
  rw [hs.2 b this]
  exact hb
/-! ### a set of tuples in the heap -/
def byT (w : World) : Bool := w.params.followText "set-order"
def SetD (Pv : Value → PyData → Prop) (w : World) (h : Heap) (a : Addr) (ds : List PyData) : Prop :=
  ∃ o es ep t, h.get? a = some o ∧ o.ExactSet ∧ o.data = .set es ep t ∧ TOk t es ∧ t.place.size * 5 < t.mask * 3 ∧ Els Pv w h es.toList ds ∧ ds.Nodup ∧ t.led = !byT w
theorem SetD.fresh {w : World} {h : Heap} {led : Bool} (hled : led = !byT w) : SetD Pv w (h.push { cls := .type "set", dict := none, data := .set #[] 0 (.fresh 0 0 led) }) h.objs.size [] :=
  ⟨_, #[], 0, _, Heap.get?_push_size _ rfl, ⟨rfl, rfl, rfl⟩, rfl, TOk.fresh 0 0 led, (by show 0 * 5 < 7 * 3; decide), Els.nil, List.nodup_nil, hled⟩
theorem TOk.withPlain {t : SetTable} {es : Array (Int × Value)} (ok : TOk t es) (b : Bool) : TOk { t with plain := b } es := ⟨ok.two, ok.dm, ok.rise, ok.bd, ok.sz, ok.fit, ok.onroad⟩
section
variable {prog : Program} {w : World} {A : Around} {E : Value → Shared → Prop} {s : Shared}
/-- laid anew, on the heap -/
theorem relay_ok {a : Addr} {o : Obj} {es : Array (Int × Value)} {ep : Nat} {t : SetTable} {ds : List PyData} {wanted : Nat} {Q : Unit → Shared → Prop}
    (ho : s.heap.get? a = some o) (hex : o.ExactSet) (hd : o.data = .set es ep t) (ok : TOk t es) (els : Els Pv w s.heap es.toList ds) (hnd : ds.Nodup) (hled : t.led = !byT w) (hw : es.size * 4 ≤ wanted) (hw2 : wanted < 2 ^ 13) (hpos : 0 < es.size)
    (q : ∀ h' ds', Heap.SameBut a s.heap h' → SetD Pv w h' a ds' → ds'.Perm ds → Q () { s with heap := h' }) : wpAny (model prog w) A (setRelay a wanted) Q E s := by
  obtain ⟨t', order, e, ok', pm, few, eled⟩ := relaid_spec (t := t) hw hw2 hpos
  obtain ⟨k, ek, k3, k13, hn⟩ := sizeAbove_spec wanted hw2
  have hline : ¬ SetTable.sizeAbove wanted > sizeLine := by
    rw [ek, sizeLine_eq]
    have : 2 ^ k ≤ 2 ^ 13 := Nat.pow_le_pow_right (by decide) k13
    omega
  have hsz : (order.filterMap (es[·]?)).size = es.size := by have := pm.length_eq; rw [Array.length_toList, Array.length_toList] at this; exact this
  obtain ⟨ds', pd, els'⟩ := els.perm pm
  unfold setRelay
  refine wpAny_bind (wpAny_setState_of ho hd ok.fits ?_)
  dsimp only
  rw [if_neg hline, e]
  refine wpAny_bind ?_
  show wpAny _ _ (ite _ _ _) _ _ _
  rw [if_neg (by simp [hsz])]
  refine wpAny_pure ?_
  have hs13 : es.size ≤ sizeLine := by rw [sizeLine_eq]; omega
  refine wpAny_storeSet_of ho hd ?_ (by rw [hsz]; exact hs13)
  have hg : (s.heap.update a (Obj.putSet (order.filterMap (es[·]?)) t')).get? a = some { o with data := .set (order.filterMap (es[·]?)) (ep + 1) t' } := by
    have := Heap.get?_update_self (Obj.putSet (order.filterMap (es[·]?)) t') ho (by rw [putSet_of _ t' hd]; rfl)
    rw [putSet_of _ t' hd] at this; exact this
  have hsb := Heap.SameBut.update s.heap a (Obj.putSet (order.filterMap (es[·]?)) t')
  exact q _ ds' hsb ⟨_, _, _, _, hg, hex, rfl, ok', few, els'.stay (stay_but ho hex.1 hsb), (pd.nodup_iff).mpr hnd, eled.trans hled⟩ pd
theorem add_hashed {a : Addr} {ds : List PyData} {x : Int × Value} {d : PyData} {Q : Bool → Shared → Prop} (hS : SetD Pv w s.heap a ds) (hx : El Pv w s.heap x d) (hu : A.units + 8 < cLine) (hroom : ds.length < 2000)
    (q : ∀ h' ds' b, Heap.SameBut a s.heap h' → SetD Pv w h' a ds' → (d ∈ ds → ds' = ds) → (d ∉ ds → ds'.Perm (d :: ds)) → Q b { s with heap := h' }) :
    wpAny (model prog w) A (setAddHashed a x.2 x.1) Q E s := by
  obtain ⟨o, es, ep, t, ho, hex, hd, ok, few, els, hnd, hled⟩ := hS
  obtain ⟨xa, ex⟩ := hx.ref
  obtain ⟨k, hk, k3, k13⟩ := ok.two
  have hel := els.1
  rw [Array.length_toList] at hel
  have hsz := ok.sz
  obtain ⟨j, hj, hfree⟩ := pigeon (ps := t.place.toList) (m := t.mask) (by rw [Array.length_toList]; exact ok.fit)
  unfold setAddHashed setAddHashedIn
  refine wpAny_holding (wpAny_bind (wpAny_setState_of ho hd ok.fits ?_))
  dsimp only
  have hns : byScan x.2 es = false := by rw [ex]; rfl
  rw [hns]
  simp only [Bool.false_eq_true, if_false]
  unfold setSearch
  obtain ⟨N, hN, eN⟩ := reach hk (st0 t.mask x.1) (st0_stand _ _).1 (st0_stand _ _).2.1 j hj
  have hmask : 10 * SetTable.turns t.mask ≤ 100000 := by
    unfold SetTable.turns
    have : 2 ^ k ≤ 2 ^ 13 := Nat.pow_le_pow_right (by decide) k13
    omega
  refine wpAny_bind (search_add ho hd ok els hx hu (fun hin => ?_) (fun n hnin hf hr => ?_) 100000 0 N none rfl (by unfold road; rw [eN]; exact hfree) (by omega) (fun n' hn' => by omega))
  · dsimp only
    refine wpAny_pure ?_
    have e : s = { s with heap := s.heap } := by cases s; rfl
    rw [e]
    exact q s.heap ds false (Heap.SameBut.refl a s.heap) ⟨o, es, ep, t, ho, hex, hd, ok, few, els, hnd, hled⟩ (fun _ => rfl) (fun z => absurd hin z)
  · dsimp only
    have hm7 : 7 ≤ t.mask := by
      have : 2 ^ 3 ≤ 2 ^ k := Nat.pow_le_pow_right (by decide) k3
      omega
    obtain ⟨ok1, em, hp1, hs1⟩ := ok.put (x := x.2) hf hr (by omega)
    have els1 : Els Pv w s.heap (SetTable.insertAt es (t.put (road t.mask x.1 n)).2 (x.1, x.2)).toList (ds.take (t.put (road t.mask x.1 n)).2 ++ d :: ds.drop (t.put (road t.mask x.1 n)).2) := by
      rw [insertAt_list]
      exact (els.take _).append ((els.drop _).cons hx)
    have pm1 : (ds.take (t.put (road t.mask x.1 n)).2 ++ d :: ds.drop (t.put (road t.mask x.1 n)).2).Perm (d :: ds) := by
      have := List.perm_middle (a := d) (l₁ := ds.take (t.put (road t.mask x.1 n)).2) (l₂ := ds.drop (t.put (road t.mask x.1 n)).2)
      rw [List.take_append_drop] at this
      exact this
    have nd1 : (ds.take (t.put (road t.mask x.1 n)).2 ++ d :: ds.drop (t.put (road t.mask x.1 n)).2).Nodup := by
      rw [pm1.nodup_iff, List.nodup_cons]
      exact ⟨hnin, hnd⟩
    have es1 : (SetTable.insertAt es (t.put (road t.mask x.1 n)).2 (x.1, x.2)).size = es.size + 1 := by rw [← ok1.sz, hs1, hsz]
    refine wpAny_bind (wpAny_setState_of ho hd ok.fits ?_)
    dsimp only
    have hled1 : (t.put (road t.mask x.1 n)).1.led = t.led := rfl
    generalize hpt : t.put (road t.mask x.1 n) = pt at *
    obtain ⟨t1, p⟩ := pt
    simp only at ok1 em hp1 hs1 els1 pm1 nd1 es1 hled1 ⊢
    have fin : ∀ t2 : SetTable, TOk t2 (SetTable.insertAt es p (x.1, x.2)) → t2.mask = t1.mask → t2.place = t1.place → t2.led = t1.led → wpAny (model prog w) A (storeSet a (SetTable.insertAt es p (x.1, x.2)) t2 >>= fun _ => if (!false && t2.tooFull) = true then setRelay a (SetTable.grown (es.size + 1)) >>= fun _ => pure true else pure true) Q E s := fun t2 ok2 e1 e2 e3 => by
      have hled2 : t2.led = !byT w := e3.trans (hled1.trans hled)
      have hline : (SetTable.insertAt es p (x.1, x.2)).size ≤ sizeLine := by rw [es1, sizeLine_eq]; omega
      refine wpAny_bind (wpAny_storeSet_of ho hd ?_ hline)
      have hg : (s.heap.update a (Obj.putSet (SetTable.insertAt es p (x.1, x.2)) t2)).get? a = some { o with data := .set (SetTable.insertAt es p (x.1, x.2)) (ep + 1) t2 } := by
        have := Heap.get?_update_self (Obj.putSet (SetTable.insertAt es p (x.1, x.2)) t2) ho (by rw [putSet_of _ t2 hd]; rfl)
        rw [putSet_of _ t2 hd] at this; exact this
      have hsb := Heap.SameBut.update s.heap a (Obj.putSet (SetTable.insertAt es p (x.1, x.2)) t2)
      have els2 := els1.stay (stay_but ho hex.1 hsb)
      by_cases hfull : t2.tooFull = true
      · rw [if_pos (by rw [hfull]; rfl)]
        refine wpAny_bind (relay_ok (s := { s with heap := s.heap.update a (Obj.putSet (SetTable.insertAt es p (x.1, x.2)) t2) }) hg hex rfl ok2 els2 nd1 hled2 ?_ ?_ (by rw [es1]; omega) fun h' ds' hsb' hS' pd' => ?_)
        · rw [es1]; unfold SetTable.grown; split <;> omega
        · unfold SetTable.grown
          rw [if_neg (by omega)]
          have : es.size < 2000 := by rw [hel]; exact hroom
          have : (2 : Nat) ^ 13 = 8192 := by decide
          omega
        · exact wpAny_pure (q h' ds' true (hsb.trans hsb') hS' (fun z => absurd z hnin) (fun _ => pd'.trans pm1))
      · rw [if_neg (by simpa using hfull)]
        have few2 : t2.place.size * 5 < t2.mask * 3 := by
          unfold SetTable.tooFull SetTable.fill at hfull
          rw [ok2.dm] at hfull
          simpa using hfull
        exact wpAny_pure (q _ _ true hsb ⟨_, _, _, _, hg, hex, rfl, ok2, few2, els2, nd1, hled2⟩ (fun z => absurd z hnin) (fun _ => pm1))
    obtain ⟨as, rx⟩ := hx.reads
    split
    · refine wpAny_bind (byval_reads 8 hx.key rx fun b => ?_)
      cases b with
      | true =>
        simp only [if_true]
        exact fin t1 ok1 rfl rfl rfl
      | false =>
        simp only [Bool.false_eq_true, if_false]
        exact fin _ (ok1.withPlain false) rfl rfl rfl
    · refine wpAny_bind (wpAny_pure ?_)
      simp only [if_true]
      exact fin t1 ok1 rfl rfl rfl
end
end L3

set_option maxHeartbeats 3200000
namespace L3
open PySem PyProof.Rows
variable {Pv : Value → PyData → Prop}
def Keep (h0 h : Heap) : Prop := ∀ b o, h0.get? b = some o → h.get? b = some o
theorem Keep.tups {h0 h : Heap} (k : Keep h0 h) : TupsStay h0 h := fun b o e _ => k b o e
theorem SetD.moved {w : World} {h h' : Heap} {S : Addr} {ds : List PyData} (x : SetD Pv w h S ds) (hS : ∀ o, h.get? S = some o → h'.get? S = some o) (t : TupsStay h h') : SetD Pv w h' S ds := by
  obtain ⟨o, es, ep, tb, ho, hex, hd, ok, few, els, nd, hled⟩ := x
  exact ⟨o, es, ep, tb, hS o ho, hex, hd, ok, few, els.stay t, nd, hled⟩
section
variable {prog : Program} {w : World} {A : Around} {R : Result → Shared → Prop} {I : Addr} {fp wr : List Addr} {G : Array GenState → Array GenState → Prop} {n : Nat} {P : Nat → Value → Prop} {St : Nat → Shared → Prop}
theorem update_loopD (W : WalksS prog w A.in1 I fp wr G n P St) (S : Addr) (hSf : S ∉ fp) (h0 : Heap) (hwr : ∀ b ∈ wr, h0.get? b = none) (hS0 : h0.get? S = none) (hwt : ∀ i s, St i s → ∀ b ∈ wr, ∀ ob, s.heap.get? b = some ob → ob.cls ≠ .type "tuple")
    (val : Nat → PyData) (hval : ∀ i v, P i v → El Pv w h0 (hashD w (val i), v) (val i)) (hu : A.units + 9 < cLine) (hb : n < 2000) :
    ∀ (k i : Nat) (s : Shared) (ds : List PyData), n - i = k → i ≤ n → St i s → Keep h0 s.heap → SetD Pv w s.heap S ds → (∀ d, d ∈ ds ↔ ∃ j, j < i ∧ val j = d) → ds.length ≤ i →
      (∀ s' ds', Moved (S :: wr) G s s' → Keep h0 s'.heap → SetD Pv w s'.heap S ds' → (∀ d, d ∈ ds' ↔ ∃ j, j < n ∧ val j = d) → ds'.length ≤ n → R (.ok (.ret .none)) s') →
      codeAny (model prog w) A (.builtin "set.update.loop" ⟨[.ref S, .ref I], []⟩) R s := by
  have hSw : S ∉ wr := fun h => hSf (W.sub _ h)
  have mono : ∀ b ∈ wr, b ∈ S :: wr := fun b hb => List.mem_cons_of_mem _ hb
  have mv : ∀ {i : Nat} {s s' : Shared} {ds : List PyData}, St i s → Moved wr G s s' → Keep h0 s.heap → SetD Pv w s.heap S ds → Keep h0 s'.heap ∧ SetD Pv w s'.heap S ds := fun {i s s' ds} hst hm hk hS => by
    refine ⟨fun b o e => hm.heap b o (fun z => by rw [hwr b z] at e; cases e) (hk b o e), hS.moved (fun o e => hm.heap S o hSw e) fun b o e ht => hm.heap b o (fun z => hwt i s hst b z o e ht) e⟩
  intro k
  induction k with
  | zero =>
    intro i s ds hk hi hst hkp hS hmem hlen hR
    have hin : i = n := by omega
    subst hin
    refine codeAny_builtin F.entry_set_update_loop (show _ from ?_)
    rw [Around.under_plainId F.plain_set_update_loop (_ : Args)]
    show wpAny _ A.in1 (pyNext (.ref I) >>= _) _ _ _
    refine wpAny_bind (W.done s _ _ hst fun s' hm => ?_)
    obtain ⟨k1, S1⟩ := mv hst hm hkp hS
    exact wpAny_pure (hR s' ds (hm.mono mono) k1 S1 hmem hlen)
  | succ k ih =>
    intro i s ds hk hi hst hkp hS hmem hlen hR
    have hlt : i < n := by omega
    refine codeAny_builtin F.entry_set_update_loop (show _ from ?_)
    rw [Around.under_plainId F.plain_set_update_loop (_ : Args)]
    show wpAny _ A.in1 (pyNext (.ref I) >>= _) _ _ _
    refine wpAny_bind (W.item i s _ _ hlt hst fun v s' hP hst' hm => ?_)
    obtain ⟨k1, S1⟩ := mv hst hm hkp hS
    have hE := (hval i v hP).stay k1.tups
    obtain ⟨as, rv⟩ := hE.reads
    show wpAny _ A.in1 (holding [v] (setAdd S v) >>= _) _ _ _
    refine wpAny_bind (wpAny_holding ?_)
    unfold setAdd
    refine wpAny_holding ?_
    refine wpAny_bind (hash_reads (val i) hE.key prog w A.in1 _ s' v as _ rv (by show A.units + 1 + _ < cLine; have := hE.deep; omega) fun tk htk => ?_)
    refine add_hashed (s := { s' with toks := tk }) (x := (hashD w (val i), v)) S1 hE (by show A.units + 1 + 8 < cLine; omega) (by omega) fun h' ds' b hsb hS' e1 e2 => ?_
    have k2 : Keep h0 h' := fun b o e => by
      rw [hsb.2 b (fun z => by rw [z, hS0] at e; cases e)]
      exact k1 b o e
    have hmem' : ∀ d, d ∈ ds' ↔ ∃ j, j < i + 1 ∧ val j = d := fun d => by
      have base : (∃ j, j < i + 1 ∧ val j = d) ↔ (d ∈ ds ∨ val i = d) := by
        rw [hmem d]
        constructor
        · rintro ⟨j, hj, e⟩
          by_cases q : j = i
          · subst q; exact .inr e
          · exact .inl ⟨j, by omega, e⟩
        · rintro (⟨j, hj, e⟩ | e)
          · exact ⟨j, by omega, e⟩
          · exact ⟨i, by omega, e⟩
      rw [base]
      by_cases q : val i ∈ ds
      · rw [e1 q]
        exact ⟨.inl, fun z => z.elim id fun e => e ▸ q⟩
      · rw [(e2 q).mem_iff, List.mem_cons]
        exact ⟨fun z => z.elim (fun e => .inr e.symm) .inl, fun z => z.elim .inr fun e => .inl e.symm⟩
    have hlen' : ds'.length ≤ i + 1 := by
      by_cases q : val i ∈ ds
      · rw [e1 q]; omega
      · rw [(e2 q).length_eq, List.length_cons]; omega
    refine wpAny_pure ⟨plainId_quiet F.plain_set_update_loop _, ih (i + 1) _ ds' (by omega) hlt (W.frame _ s' _ _ hst' htk fun b hb o e => ?_) k2 hS' hmem' hlen' fun s'' ds'' hm'' k'' S'' m'' l'' => ?_⟩
    · rw [hsb.2 b (fun h : b = S => hSf (by rw [← h]; exact hb))]; exact e
    · refine hR s'' ds'' (Moved.trans W.gtrans ((hm.mono mono).then_heap htk fun b o hb e => ?_) hm'') k'' S'' m'' l''
      rw [hsb.2 b (fun h : b = S => hb (by rw [h]; exact List.mem_cons_self))]; exact e
end
section
variable {prog : Program} {w : World} {A : Around} {E : Value → Shared → Prop} {s : Shared}
theorem code_set_newD (a : Value) {Q₁ : Value → Shared → Prop}
    (h : Q₁ (.ref s.heap.objs.size) { s with heap := s.heap.push { cls := .type "set", dict := none, data := .set #[] 0 (.fresh 0 0 (!byT w)) } }) :
    codeAny (model prog w) A (.call (.builtin "set.__new__") ⟨[.type "set", a], []⟩) (wants Q₁ E) s := by
  refine codeAny_of_tree (show _ from ?_)
  show wpAny _ A.in1 (do checkBuiltinCall "set.__new__" ⟨[.type "set", a], []⟩; again (.builtin "set.__new__" ⟨[.type "set", a], []⟩)) _ _ _
  refine wpAny_bind (wpAny_of_eq (PySem.F.newCall_set_1 a) (wpAny_pure ⟨plainId_quiet PySem.F.plain_set_new _, codeAny_builtin PySem.F.entry_set_new (show _ from ?_)⟩))
  rw [Around.under_plainId PySem.F.plain_set_new (_ : Args)]
  unfold Builtin.«set.__new__» Builtin.Frozenset.newClass
  have hsub := sub_set_self
  obtain ⟨hp, g, d, tk, os⟩ := s
  dsimp only
  wp_walk
  refine wpAny_askSetting (wpAny_pure ?_)
  dsimp only
  simp only [newObj]
  refine wpAny_bind (wpAny_alloc (wpAny_pure ?_))
  exact wpAny_pure h
theorem call_setD {l : Addr} {items : Array Value} {ds : List PyData} {Q : Value → Shared → Prop}
    (hh : A.handled = none) (hl : s.heap.IsList l items) (hi : items.size = ds.length) (hE : ∀ (i : Nat) v d, items[i]? = some v → ds[i]? = some d → El Pv w s.heap (hashD w d, v) d) (hb : ds.length < 2000) (hu : A.units + 20 < cLine)
    (h : ∀ (h' : Heap) (tk : Nat) (ds' : List PyData), SetD Pv w h' s.heap.objs.size ds' → (∀ d, d ∈ ds' ↔ d ∈ ds) → ds'.length ≤ ds.length → Keep s.heap h' → s.toks ≤ tk → Q (.ref s.heap.objs.size) { s with heap := h', toks := tk }) :
    wpAny (model prog w) A (call (.type "set") [.ref l]) Q E s := by
  obtain ⟨c, tl, hmro⟩ := PySem.F.called_set.mro
  have hmade := PySem.F.called_set.made
  have hsub := PySem.F.called_set.sub
  refine wpAny_call (codeAny_of_tree (show _ from ?_))
  show wpAny _ _ (callAny (.type "set") _) _ _ s
  refine wpAny_pure ⟨Code.quiet_builtin _ (by decide +kernel), codeAny_builtin F.entry_type_call (show _ from ?_)⟩
  rw [Around.under_plain (weight_type_call_type "set" [.ref l] []) (rfl : _ = _)]
  have h1 := PySem.F.called_set.notType
  have h2 := PySem.F.called_set.canCreate
  have hct := PySem.F.typeCall_set_1 (.ref l)
  repeat (any_goals (first | assumption | (wp_step)))
  refine codeAny_mono (code_set_newD (.ref l) (E := E) (Q₁ := fun obj s₁ => ∃ led : Bool, led = (!byT w) ∧ obj = .ref s.heap.objs.size ∧ s₁ = { s with heap := s.heap.push { cls := .type "set", dict := none, data := .set #[] 0 (.fresh 0 0 led) } }) ⟨_, rfl, rfl, rfl⟩) fun r s₁ hr => ?_
  match r, hr with
  | .error e, hr => exact hr
  | .ok (.ret obj), hr =>
      obtain ⟨led, hled, rfl, rfl⟩ := hr
      obtain ⟨emp, hemp⟩ : ∃ ob : Obj, ob = { cls := .type "set", dict := none, data := .set #[] 0 (.fresh 0 0 led) } := ⟨_, rfl⟩
      have hS : (s.heap.push emp).get? s.heap.objs.size = some emp := Heap.get?_push_size _ (by rw [hemp]; rfl)
      have hT : Shared.TypeIs { s with heap := s.heap.push emp } (.ref s.heap.objs.size) "set" := ⟨_, hS, by rw [hemp]⟩
      have hSD : SetD Pv w (s.heap.push emp) s.heap.objs.size [] := by rw [hemp]; exact SetD.fresh hled
      rw [← hemp]
      have hli := PySem.F.called_set.init.lookup
      have hbi := PySem.F.called_set.init.bind (.ref s.heap.objs.size)
      repeat (any_goals (first | assumption | (wp_step)))
      refine codeAny_mono (codeAny_call_builtin (R := wants (fun r s₂ => r = .none ∧ ∃ h' tk ds', s₂ = { s with heap := h', toks := tk } ∧ SetD Pv w h' s.heap.objs.size ds' ∧ (∀ d, d ∈ ds' ↔ d ∈ ds) ∧ ds'.length ≤ ds.length ∧ Keep s.heap h' ∧ s.toks ≤ tk) E) PySem.F.called_set.init.plain F.entry_set_init (check_set_init_1 hT ?_)) fun r₂ s₂ hr₂ => ?_
      · obtain ⟨ol, hol, hcl, nl, hdl⟩ := hl
        obtain ⟨ocls, odict, odata, oslots⟩ := ol
        simp only at hcl hdl
        subst hcl; subst hdl
        have hol' : (s.heap.push emp).get? l = some { cls := .type "list", dict := odict, data := .seq items nl, slots := oslots } := Heap.get?_push_of_some _ hol
        have hsls := PySem.F.sub_list_set
        have hslf := PySem.F.sub_list_frozenset
        have hne : (Value.type "list" == Value.type "dict") = false := by decide
        have hl1 : (s.heap.push emp).IsList l items := ⟨_, hol', rfl, nl, rfl⟩
        unfold Builtin.«set.__init__» noKeywords Builtin.Frozenset.updateFrom
        generalize hPI : pyIter = PI
        subst hemp
        wp_walk
        subst hPI
        refine wpAny_pyIter_list hl1 ?_
        refine wpAny_bind (wpAny_runValue ?_)
        have none_at : ∀ b, s.heap.objs.size ≤ b → s.heap.get? b = none := fun b hb' => by
          cases hq : s.heap.get? b with
          | none => rfl
          | some ob => exact absurd (Heap.lt_size hq) (Nat.not_lt.mpr hb')
        have hlS : l < s.heap.objs.size := Heap.lt_size hol
        have hh3 : A.in1.in1.in1.handled = none := by simp [hh]
        have hIs : (s.heap.push { cls := .type "set", dict := none, data := .set #[] 0 (.fresh 0 0 led) }).objs.size = s.heap.objs.size + 1 := Heap.size_push _ _
        have hneI : l ≠ (s.heap.push { cls := .type "set", dict := none, data := .set #[] 0 (.fresh 0 0 led) }).objs.size := by rw [hIs]; exact Nat.ne_of_lt (Nat.lt_succ_of_lt hlS)
        have hSf : s.heap.objs.size ∉ [(s.heap.push { cls := .type "set", dict := none, data := .set #[] 0 (.fresh 0 0 led) }).objs.size, l] := by
          rw [hIs]; simp only [List.mem_cons, List.not_mem_nil, or_false, not_or]
          exact ⟨Nat.ne_of_lt (Nat.lt_succ_self _), Nat.ne_of_gt hlS⟩
        have hval : ∀ (i : Nat) (v : Value), items[i]? = some v → El Pv w s.heap (hashD w (ds.getD i .none), v) (ds.getD i .none) := fun i v hv => by
          have hlt := (Array.getElem?_eq_some_iff.mp hv).1
          have hd : ds[i]? = some (ds.getD i .none) := by
            rw [List.getD_eq_getElem?_getD, List.getElem?_eq_getElem (by omega)]; rfl
          exact hE i v _ hv hd
        refine update_loopD (A := A.in1.in1) ((Walks.list hh3 _ l hneI items).toS) s.heap.objs.size hSf s.heap (fun b hb' => none_at b (by rw [List.mem_singleton.mp hb', hIs]; exact Nat.le_succ _)) (none_at _ (Nat.le_refl _)) (fun i s' hst b hb' ob e => ?hwt)
          (fun i => ds.getD i .none) hval (by show A.units + 1 + 1 + 9 < cLine; omega) (by omega) (items.size - 0) 0 _ [] (by omega) (Nat.zero_le _)
          ⟨⟨_, Heap.get?_push_size _ rfl, rfl, rfl⟩, (hl1.push _)⟩ ?hK0 ?hS0 (fun d => by simp) (by simp) ?hR
        case hwt =>
          obtain ⟨⟨oi, ho, hc, _⟩, _⟩ := hst
          rw [List.mem_singleton.mp hb', ho] at e
          cases e
          rw [hc]
          decide
        case hK0 => exact fun b o e => Heap.get?_push_of_some _ (Heap.get?_push_of_some _ e)
        case hS0 => exact hSD.moved (fun o e => Heap.get?_push_of_some _ e) fun b o e _ => Heap.get?_push_of_some _ e
        case hR =>
          intro s' ds' hm k' S' m' l'
          obtain ⟨h', g', d', tk', os'⟩ := s'
          have eg : g' = s.gens := hm.gens
          have ed : d' = s.drawn := hm.drawn
          have eo : os' = s.os := hm.os
          subst eg; subst ed; subst eo
          show wpAny _ _ _ _ _ _
          refine wpAny_pure ?_
          show wpAny _ _ (ret Value.none) _ _ _
          refine wpAny_pure ⟨rfl, h', tk', ds', rfl, S', fun d => ?_, by omega, k', hm.toks⟩
          rw [m' d]
          constructor
          · rintro ⟨j, hj, rfl⟩
            rw [List.getD_eq_getElem?_getD, List.getElem?_eq_getElem (by omega)]
            exact List.getElem_mem _
          · intro hd
            obtain ⟨j, hj⟩ := List.getElem?_of_mem hd
            have hjl := (List.getElem?_eq_some_iff.mp hj).1
            exact ⟨j, by omega, by rw [List.getD_eq_getElem?_getD, hj]; rfl⟩
      · match r₂, hr₂ with
        | .error e, hr₂ => exact hr₂
        | .ok (.ret r), hr₂ =>
            obtain ⟨rfl, h', tk, ds', rfl, hS', hm', hl', hk', ht'⟩ := hr₂
            repeat (any_goals (first | assumption | (wp_step)))
            exact h _ _ ds' hS' hm' hl' hk' ht'
        | .ok .next, hr₂ => exact hr₂.elim
        | .ok .brk, hr₂ => exact hr₂.elim
        | .ok .cont, hr₂ => exact hr₂.elim
  | .ok .next, hr => exact hr.elim
  | .ok .brk, hr => exact hr.elim
  | .ok .cont, hr => exact hr.elim
end
end L3

set_option maxHeartbeats 1600000
namespace L3
open PySem
/-! ### the walk over a set -/
theorem slot_setit_next : Slot "set_iterator" "__next__" "set_iterator.__next__" :=
  .of (owner := "set_iterator") (n := "__next__") (by rw [typeLookup_type, builtinLookup_eq_fast]; kernel_rfl) (by decide +kernel) (by decide +kernel) (by decide +kernel) (by first | exact .inl (by decide +kernel) | exact .inr (by decide +kernel)) (by rw [isSubtype_type]; kernel_rfl)
theorem entry_setit_next : entryFor table "set_iterator.__next__" = some Builtin.«set_iterator.__next__» := entryFor_of_tree (by kernel_rfl)
theorem args_setit_next (a : Value) : argsOk "set_iterator.__next__" ⟨[a], []⟩ := by unfold argsOk; kernel_rfl
theorem entry_set_iterD : entryFor table "set.__iter__" = some Builtin.«frozenset.__iter__» := entryFor_alias (id' := "frozenset.__iter__") (by kernel_rfl) rfl (by decide +kernel) (by kernel_rfl)
theorem erase_perm {α : Type} : ∀ (l : List α) (i : Nat) (h : i < l.length), (l[i] :: l.eraseIdx i).Perm l
  | a :: l, 0, h => List.Perm.refl _
  | a :: l, i + 1, h => by
    have h' : i < l.length := by simpa using h
    show (l[i] :: a :: l.eraseIdx i).Perm (a :: l)
    exact (List.Perm.swap _ _ _).trans ((erase_perm l i h').cons a)
/-- an order drawn: a permutation -/
theorem pick_go {α : Type} (next : Nat → Nat) : ∀ (fuel k : Nat) (left : List α) (out : Array α), left.length = fuel → ((pickOrder.go next fuel k left out).toList).Perm (out.toList ++ left)
  | 0, k, left, out, h => by
    have : left = [] := List.length_eq_zero_iff.mp h
    subst this
    rw [List.append_nil]
    exact List.Perm.refl _
  | fuel + 1, k, left, out, h => by
    unfold pickOrder.go
    have hl : next k % left.length < left.length := Nat.mod_lt _ (by omega)
    rw [List.getElem?_eq_getElem hl]
    dsimp only
    refine (pick_go next fuel (k + 1) _ _ (by rw [List.length_eraseIdx_of_lt hl]; omega)).trans ?_
    rw [Array.toList_push, List.append_assoc]
    refine List.Perm.append_left _ ?_
    exact (erase_perm _ _ hl)
theorem pick_perm {α : Type} (next : Nat → Nat) (xs : Array α) : (pickOrder next xs).toList.Perm xs.toList := by
  unfold pickOrder
  have := pick_go next xs.size 0 xs.toList #[] (by simp)
  simpa using this
section
variable {prog : Program} {w : World} {A : Around} {E : Value → Shared → Prop} {s : Shared}
theorem wpAny_chooseD {src : Source} {n : Nat} {Q : Nat → Shared → Prop} (hn : 0 < n) (h : ∀ i dr, i < n → Q i { s with drawn := dr }) : wpAny (model prog w) A (choose src n) Q E s := fun Γ p hΓ => by
  show n ≠ 0 ∧ _
  exact ⟨by omega, h _ _ (Nat.mod_lt _ hn)⟩
theorem draw_perm {α : Type} : ∀ (n : Nat) (xs : List α) (s : Shared) {Q : List α → Shared → Prop}, xs.length = n → (∀ ys dr, ys.Perm xs → Q ys { s with drawn := dr }) → wpAny (model prog w) A (drawOrder n xs) Q E s
  | 0, xs, s, Q, h, q => by
    have : xs = [] := List.length_eq_zero_iff.mp h
    subst this
    unfold drawOrder
    exact wpAny_pure (q [] s.drawn (List.Perm.refl _))
  | n + 1, [], s, Q, h, q => by simp at h
  | n + 1, x :: xs, s, Q, h, q => by
    unfold drawOrder
    refine wpAny_bind (wpAny_chooseD (by simp) fun i dr hi => ?_)
    rw [List.getElem?_eq_getElem hi]
    dsimp only
    refine wpAny_bind (draw_perm n _ { s with drawn := dr } (by rw [List.length_eraseIdx_of_lt hi]; omega) fun ys dr' p => ?_)
    exact wpAny_pure (q _ dr' ((List.Perm.cons _ p).trans (erase_perm _ _ hi)))
def itObj (first : Value) (i : Nat) (a : Addr) (n ep : Nat) : Obj := { cls := .type "set_iterator", data := .fields #[first, .int i 0, .ref a, .int n 0, .int ep 0] }
theorem next_int {I a : Addr} {slot slot' i ep : Nat} {o : Obj} {es : Array (Int × Value)} {t : SetTable} {x : Value} {Q : Option Value → Shared → Prop} (hit : s.heap.get? I = some (itObj (.int slot 0) i a es.size ep)) (ho : s.heap.get? a = some o) (hd : o.data = .set es ep t) (hf : t.fits es.size = true)
    (hnx : ∀ {A : Around} {E : Value → Shared → Prop} {Q : Option (Value × Nat) → Shared → Prop}, Q (some (x, slot')) s → wpAny (model prog w) A (setNext a slot i ep) Q E s)
    (hQ : ∀ h', h'.get? I = some (itObj (.int slot' 0) (i + 1) a es.size ep) → Heap.SameBut I s.heap h' → Q (some x) { s with heap := h' }) : wpAny (model prog w) A (pyNext (.ref I)) Q E s := by
  have hT : s.TypeIs (.ref I) "set_iterator" := ⟨_, hit, rfl⟩
  unfold pyNext
  refine wpAny_bind (wpAny_attempt (wpAny_callSpecial?_slot (name := Str.ofString "__next__") hT slot_setit_next (wpAny_call_entry slot_setit_next hT entry_setit_next ?_ (args_setit_next _))))
  unfold Builtin.«set_iterator.__next__» slotArgs
  simp only [List.isEmpty_nil, Bool.not_true, Bool.false_eq_true, ↓reduceIte, bind_assoc, List.length_nil, bne_self_eq_false]
  refine wpAny_bind (wpAny_pure ?_)
  dsimp only
  refine wpAny_bind (wpAny_fieldsOf hit rfl ?_)
  show wpAny _ _ (setEntries a >>= _) _ _ _
  refine wpAny_bind (wpAny_setEntries_of ho hd hf ?_)
  rw [if_neg (by simp)]
  show wpAny _ _ (setNext a (slot : Int).toNat (i : Int).toNat (ep : Int).toNat >>= _) _ _ _
  simp only [Int.toNat_natCast]
  refine wpAny_bind (hnx ?_)
  dsimp only
  refine wpAny_bind (wpAny_setField hit rfl (by show 0 < 5; decide) ?_)
  have g1 := Heap.get?_update_self (Obj.mapFields (·.setIfInBounds 0 (rawInt slot'))) hit rfl
  refine wpAny_bind (wpAny_setField g1 rfl (by show 1 < 5; decide) ?_)
  have g2 := Heap.get?_update_self (Obj.mapFields (·.setIfInBounds 1 (rawInt (i + 1)))) g1 rfl
  exact wpAny_pure ⟨x, rfl, wpAny_pure (hQ _ g2 ((Heap.SameBut.update ..).trans (Heap.SameBut.update ..)))⟩
theorem end_int {I a : Addr} {slot i ep : Nat} {o : Obj} {es : Array (Int × Value)} {t : SetTable} {Q : Option Value → Shared → Prop} (hh : A.handled = none) (hit : s.heap.get? I = some (itObj (.int slot 0) i a es.size ep)) (ho : s.heap.get? a = some o) (hd : o.data = .set es ep t) (hf : t.fits es.size = true)
    (hnx : ∀ {A : Around} {E : Value → Shared → Prop} {Q : Option (Value × Nat) → Shared → Prop}, Q none s → wpAny (model prog w) A (setNext a slot i ep) Q E s)
    (hQ : ∀ h', Heap.ExtBut I s.heap h' → Q none { s with heap := h' }) : wpAny (model prog w) A (pyNext (.ref I)) Q E s := by
  have hT : s.TypeIs (.ref I) "set_iterator" := ⟨_, hit, rfl⟩
  unfold pyNext
  refine wpAny_bind (wpAny_attempt (wpAny_callSpecial?_slot (name := Str.ofString "__next__") hT slot_setit_next (wpAny_call_entry slot_setit_next hT entry_setit_next ?_ (args_setit_next _))))
  unfold Builtin.«set_iterator.__next__» slotArgs
  simp only [List.isEmpty_nil, Bool.not_true, Bool.false_eq_true, ↓reduceIte, bind_assoc, List.length_nil, bne_self_eq_false]
  refine wpAny_bind (wpAny_pure ?_)
  dsimp only
  refine wpAny_bind (wpAny_fieldsOf hit rfl ?_)
  show wpAny _ _ (setEntries a >>= _) _ _ _
  refine wpAny_bind (wpAny_setEntries_of ho hd hf ?_)
  rw [if_neg (by simp)]
  show wpAny _ _ (setNext a (slot : Int).toNat (i : Int).toNat (ep : Int).toNat >>= _) _ _ _
  simp only [Int.toNat_natCast]
  refine wpAny_bind (hnx ?_)
  dsimp only
  refine wpAny_bind (wpAny_setField hit rfl (by show 2 < 5; decide) ?_)
  show wpAny _ _ (newExc (.type "StopIteration") [] >>= _) _ _ _
  refine wpAny_bind ?_
  simp only [newExc, newTuple]
  refine wpAny_bind (wpAny_newObj_type ?_ (by size_fits))
  refine wpAny_bind (m := firstArgMember _ _) (wpAny_of_eq (a := Value.none) (by first | rfl | (simp only [firstArgMember]; rfl)) ?_)
  refine wpAny_newObj_type ?_ (by size_fits)
  simp only [raiseNew]
  refine wpAny_bind (wpAny_handled ?_)
  rw [show A.in1.handled = none from hh]
  refine wpAny_bind (wpAny_pure (wpAny_throw ?_))
  refine wpAny_bind (wpAny_isInstance (T := "StopIteration") (b := true) ⟨_, Heap.get?_push_size _ rfl, rfl⟩ isSubtype_stop ?_)
  exact wpAny_pure (hQ _ (((Heap.SameBut.update ..).extBut.push _).push _))
/-! the order was drawn when the walk began -/
theorem next_draw {I a tp : Addr} {i ep p : Nat} {o op : Obj} {es : Array (Int × Value)} {t : SetTable} {ps : Array Value} {c : Nat} {e : Int × Value} {Q : Option Value → Shared → Prop} (hit : s.heap.get? I = some (itObj (.ref tp) i a es.size ep)) (ho : s.heap.get? a = some o) (hd : o.data = .set es ep t) (hf : t.fits es.size = true)
    (hp : s.heap.get? tp = some op) (hpd : op.data = .seq ps c) (hps : ps[i]? = some (.int p 0)) (hes : es[p]? = some e)
    (hQ : ∀ h', h'.get? I = some (itObj (.ref tp) (i + 1) a es.size ep) → Heap.SameBut I s.heap h' → Q (some e.2) { s with heap := h' }) : wpAny (model prog w) A (pyNext (.ref I)) Q E s := by
  have hT : s.TypeIs (.ref I) "set_iterator" := ⟨_, hit, rfl⟩
  unfold pyNext
  refine wpAny_bind (wpAny_attempt (wpAny_callSpecial?_slot (name := Str.ofString "__next__") hT slot_setit_next (wpAny_call_entry slot_setit_next hT entry_setit_next ?_ (args_setit_next _))))
  unfold Builtin.«set_iterator.__next__» slotArgs
  simp only [List.isEmpty_nil, Bool.not_true, Bool.false_eq_true, ↓reduceIte, bind_assoc, List.length_nil, bne_self_eq_false]
  refine wpAny_bind (wpAny_pure ?_)
  dsimp only
  refine wpAny_bind (wpAny_fieldsOf hit rfl ?_)
  show wpAny _ _ (setEntries a >>= _) _ _ _
  refine wpAny_bind (wpAny_setEntries_of ho hd hf ?_)
  rw [if_neg (by simp)]
  show wpAny _ _ (seqItems? (.ref tp) >>= _) _ _ _
  refine wpAny_bind (wpAny_seqItems hp hpd ?_)
  dsimp only
  simp only [Int.toNat_natCast, hps]
  refine wpAny_bind ?_
  unfold setNextDrawn
  refine wpAny_bind (wpAny_setState_of ho hd hf ?_)
  dsimp only
  rw [if_neg (by simp)]
  simp only [Int.toNat_natCast, hes]
  refine wpAny_pure ?_
  refine wpAny_bind (wpAny_setField hit rfl (by show 1 < 5; decide) ?_)
  have g2 := Heap.get?_update_self (Obj.mapFields (·.setIfInBounds 1 (rawInt (i + 1)))) hit rfl
  exact wpAny_pure ⟨e.2, rfl, wpAny_pure (hQ _ g2 (Heap.SameBut.update ..))⟩
theorem end_draw {I a tp : Addr} {i ep : Nat} {o op : Obj} {es : Array (Int × Value)} {t : SetTable} {ps : Array Value} {c : Nat} {Q : Option Value → Shared → Prop} (hh : A.handled = none) (hit : s.heap.get? I = some (itObj (.ref tp) i a es.size ep)) (ho : s.heap.get? a = some o) (hd : o.data = .set es ep t) (hf : t.fits es.size = true)
    (hp : s.heap.get? tp = some op) (hpd : op.data = .seq ps c) (hps : ps[i]? = none)
    (hQ : ∀ h', Heap.ExtBut I s.heap h' → Q none { s with heap := h' }) : wpAny (model prog w) A (pyNext (.ref I)) Q E s := by
  have hT : s.TypeIs (.ref I) "set_iterator" := ⟨_, hit, rfl⟩
  unfold pyNext
  refine wpAny_bind (wpAny_attempt (wpAny_callSpecial?_slot (name := Str.ofString "__next__") hT slot_setit_next (wpAny_call_entry slot_setit_next hT entry_setit_next ?_ (args_setit_next _))))
  unfold Builtin.«set_iterator.__next__» slotArgs
  simp only [List.isEmpty_nil, Bool.not_true, Bool.false_eq_true, ↓reduceIte, bind_assoc, List.length_nil, bne_self_eq_false]
  refine wpAny_bind (wpAny_pure ?_)
  dsimp only
  refine wpAny_bind (wpAny_fieldsOf hit rfl ?_)
  show wpAny _ _ (setEntries a >>= _) _ _ _
  refine wpAny_bind (wpAny_setEntries_of ho hd hf ?_)
  rw [if_neg (by simp)]
  show wpAny _ _ (seqItems? (.ref tp) >>= _) _ _ _
  refine wpAny_bind (wpAny_seqItems hp hpd ?_)
  dsimp only
  simp only [Int.toNat_natCast, hps]
  refine wpAny_bind (wpAny_setField hit rfl (by show 0 < 5; decide) ?_)
  have g1 := Heap.get?_update_self (Obj.mapFields (·.setIfInBounds 0 (rawInt 0))) hit rfl
  refine wpAny_bind (wpAny_setField g1 rfl (by show 2 < 5; decide) ?_)
  show wpAny _ _ (newExc (.type "StopIteration") [] >>= _) _ _ _
  refine wpAny_bind ?_
  simp only [newExc, newTuple]
  refine wpAny_bind (wpAny_newObj_type ?_ (by size_fits))
  refine wpAny_bind (m := firstArgMember _ _) (wpAny_of_eq (a := Value.none) (by first | rfl | (simp only [firstArgMember]; rfl)) ?_)
  refine wpAny_newObj_type ?_ (by size_fits)
  simp only [raiseNew]
  refine wpAny_bind (wpAny_handled ?_)
  rw [show A.in1.handled = none from hh]
  refine wpAny_bind (wpAny_pure (wpAny_throw ?_))
  refine wpAny_bind (wpAny_isInstance (T := "StopIteration") (b := true) ⟨_, Heap.get?_push_size _ rfl, rfl⟩ isSubtype_stop ?_)
  exact wpAny_pure (hQ _ ((((Heap.SameBut.update ..).trans (Heap.SameBut.update ..)).extBut.push _).push _))
theorem setNext_text {a : Addr} {slot given ep : Nat} {o : Obj} {es : Array (Int × Value)} {t : SetTable} {Q : Option (Value × Nat) → Shared → Prop} (hb : byT w = true) (ho : s.heap.get? a = some o) (hd : o.data = .set es ep t) (hf : t.fits es.size = true)
    (h : Q (((pickOrder (w.params.setOrder a ep) es)[given]?).map fun e => (e.2, slot)) s) : wpAny (model prog w) A (setNext a slot given ep) Q E s := by
  have hb' : w.params.followText "set-order" = true := hb
  unfold setNext
  refine wpAny_bind (wpAny_setState_of ho hd hf ?_)
  dsimp only
  unfold setsByText
  refine wpAny_bind (wpAny_bind (wpAny_askSetting (wpAny_pure ?_)))
  show wpAny _ _ (if w.params.followText "set-order" = true then _ else _) _ _ _
  rw [if_pos hb']
  rw [if_neg (by simp)]
  refine wpAny_bind ?_
  unfold setWalk
  refine wpAny_bind (wpAny_setState_of ho hd hf ?_)
  dsimp only
  unfold setsByText
  refine wpAny_bind (wpAny_bind (wpAny_askSetting (wpAny_pure ?_)))
  show wpAny _ _ (if w.params.followText "set-order" = true then _ else _) _ _ _
  rw [if_pos hb']
  refine wpAny_bind (wpAny_askSetting (wpAny_pure ?_))
  exact wpAny_pure h
theorem setNext_plain {a : Addr} {slot given ep : Nat} {o : Obj} {es : Array (Int × Value)} {t : SetTable} {Q : Option (Value × Nat) → Shared → Prop} (hb : byT w = false) (hled : t.led = true) (hdr : (!t.plain && decide (es.size > 1)) = false) (ho : s.heap.get? a = some o) (hd : o.data = .set es ep t) (hf : t.fits es.size = true)
    (h : Q (match es[SetTable.below t.place slot]?, t.place[SetTable.below t.place slot]? with | some (_, x), some j => some (x, j + 1) | _, _ => none) s) : wpAny (model prog w) A (setNext a slot given ep) Q E s := by
  have hb' : w.params.followText "set-order" = false := hb
  unfold setNext
  refine wpAny_bind (wpAny_setState_of ho hd hf ?_)
  dsimp only
  unfold setsByText
  refine wpAny_bind (wpAny_bind (wpAny_askSetting (wpAny_pure ?_)))
  show wpAny _ _ (if w.params.followText "set-order" = true then _ else _) _ _ _
  rw [if_neg (by rw [hb']; exact Bool.false_ne_true)]
  show wpAny _ _ (if (!t.plain && decide (es.size > 1)) = true then _ else _) _ _ _
  rw [hdr, if_neg Bool.false_ne_true]
  refine wpAny_bind ?_
  show wpAny _ _ (if (!t.led && !es.isEmpty) = true then _ else _) _ _ _
  rw [hled, if_neg (by simp)]
  refine wpAny_pure ?_
  exact wpAny_pure h
end
end L3

set_option maxHeartbeats 1600000
namespace L3
open PySem
theorem below_zero {xs : Array Nat} (h : xs.toList.Pairwise (· < ·)) : SetTable.below xs 0 = 0 := by
  obtain ⟨a, b, c⟩ := below_low h 0
  apply Classical.byContradiction
  intro hn
  have h0 : 0 < xs.size := by omega
  have := b 0 xs[0] (by omega) (by simp [h0])
  omega
theorem below_next {xs : Array Nat} (h : xs.toList.Pairwise (· < ·)) {i j : Nat} (hi : xs[i]? = some j) : SetTable.below xs (j + 1) = i + 1 := by
  obtain ⟨a, b, c⟩ := below_low h (j + 1)
  have hl := (Array.getElem?_eq_some_iff.mp hi).1
  by_cases q : SetTable.below xs (j + 1) ≤ i
  · have := c i j q hi
    omega
  by_cases q2 : i + 1 < SetTable.below xs (j + 1)
  · have hl2 : i + 1 < xs.size := by omega
    have e : xs[i + 1]? = some xs[i + 1] := by simp [hl2]
    have h1 := b (i + 1) _ q2 e
    have h2 := rise_at h hi e (by omega)
    omega
  · omega
def WalkAt (w : World) (a I : Addr) (es : Array (Int × Value)) (ep : Nat) (t : SetTable) (os : List Value) (i : Nat) (h : Heap) : Prop :=
  (∃ o, h.get? a = some o ∧ o.cls = .type "set" ∧ o.data = .set es ep t) ∧
  ((byT w = true ∧ os = (pickOrder (w.params.setOrder a ep) es).toList.map (·.2) ∧ ∃ slot, h.get? I = some (itObj (.int (slot : Nat) 0) i a es.size ep)) ∨
   (byT w = false ∧ (!t.plain && decide (es.size > 1)) = false ∧ os = es.toList.map (·.2) ∧ ∃ slot, h.get? I = some (itObj (.int (slot : Nat) 0) i a es.size ep) ∧ SetTable.below t.place slot = i) ∨
   (∃ tp op c, ∃ ord : List Nat, h.get? I = some (itObj (.ref tp) i a es.size ep) ∧ h.get? tp = some op ∧ op.cls = .type "tuple" ∧ op.data = .seq (ord.map fun (p : Nat) => Value.int (p : Int) 0).toArray c ∧ os.length = ord.length ∧ ∀ (k : Nat) p, ord[k]? = some p → ∃ e, es[p]? = some e ∧ os[k]? = some e.2))
section
variable {prog : Program} {w : World} {A : Around} {E : Value → Shared → Prop} {s : Shared} {a I : Addr} {es : Array (Int × Value)} {ep : Nat} {t : SetTable} {os : List Value} {i : Nat}
theorem WalkAt.keep {h h' : Heap} (x : WalkAt w a I es ep t os i h) (k : ∀ b o, h.get? b = some o → (o.cls = .type "set" ∨ o.cls = .type "set_iterator" ∨ o.cls = .type "tuple") → h'.get? b = some o) : WalkAt w a I es ep t os i h' := by
  obtain ⟨⟨o, h1, h2, h3⟩, hm⟩ := x
  refine ⟨⟨o, k _ _ h1 (.inl h2), h2, h3⟩, ?_⟩
  rcases hm with ⟨b1, b2, slot, b3⟩ | ⟨b1, b2, b3, slot, b4, b5⟩ | ⟨tp, op, c, ord, b1, b2, b3, b4, b5, b6⟩
  · exact .inl ⟨b1, b2, slot, k _ _ b3 (.inr (.inl rfl))⟩
  · exact .inr (.inl ⟨b1, b2, b3, slot, k _ _ b4 (.inr (.inl rfl)), b5⟩)
  · exact .inr (.inr ⟨tp, op, c, ord, k _ _ b1 (.inr (.inl rfl)), k _ _ b2 (.inr (.inr b3)), b3, b4, b5, b6⟩)
theorem walk_item {x : Value} {Q : Option Value → Shared → Prop} (ok : TOk t es) (hled : t.led = !byT w) (hw : WalkAt w a I es ep t os i s.heap) (hx : os[i]? = some x)
    (hQ : ∀ h', WalkAt w a I es ep t os (i + 1) h' → Heap.SameBut I s.heap h' → Q (some x) { s with heap := h' }) : wpAny (model prog w) A (pyNext (.ref I)) Q E s := by
  obtain ⟨⟨o, h1, h2, h3⟩, hm⟩ := hw
  have keepA : ∀ {h' : Heap} {fo : Obj}, s.heap.get? I = some fo → fo.cls = .type "set_iterator" → Heap.SameBut I s.heap h' → h'.get? a = some o := fun {h' fo} hi hc sb => by
    rw [sb.2 a (fun e => by subst e; rw [h1] at hi; cases hi; rw [h2] at hc; exact absurd hc (by decide))]
    exact h1
  rcases hm with ⟨b1, b2, slot, b3⟩ | ⟨b1, b2, b3, slot, b4, b5⟩ | ⟨tp, op, c, ord, b1, b2, b3, b4, b5, b6⟩
  · subst b2
    rw [List.getElem?_map, Array.getElem?_toList] at hx
    obtain ⟨e, he, rfl⟩ := Option.map_eq_some_iff.mp hx
    refine next_int (slot' := slot) b3 h1 h3 ok.fits (fun q => setNext_text b1 h1 h3 ok.fits (by rw [he]; exact q)) fun h' g sb => ?_
    exact hQ h' ⟨⟨o, keepA b3 rfl sb, h2, h3⟩, .inl ⟨b1, rfl, slot, g⟩⟩ sb
  · subst b3
    rw [List.getElem?_map, Array.getElem?_toList] at hx
    obtain ⟨e, he, rfl⟩ := Option.map_eq_some_iff.mp hx
    have hil := (Array.getElem?_eq_some_iff.mp he).1
    have hpl : t.place[i]? = some (t.place[i]'(by rw [ok.sz]; exact hil)) := Array.getElem?_eq_getElem _
    have hl : t.led = true := by rw [hled, b1]; rfl
    obtain ⟨eh, ev⟩ := e
    refine next_int (slot' := t.place[i]'(by rw [ok.sz]; exact hil) + 1) b4 h1 h3 ok.fits (fun q => setNext_plain b1 hl b2 h1 h3 ok.fits (by rw [b5, he, hpl]; exact q)) fun h' g sb => ?_
    exact hQ h' ⟨⟨o, keepA b4 rfl sb, h2, h3⟩, .inr (.inl ⟨b1, b2, rfl, _, g, below_next ok.rise hpl⟩)⟩ sb
  · have hil := (List.getElem?_eq_some_iff.mp hx).1
    have hio : ord[i]? = some (ord[i]'(by omega)) := List.getElem?_eq_getElem _
    obtain ⟨e, e1, e2⟩ := b6 i _ hio
    rw [hx] at e2
    cases e2
    refine next_draw b1 h1 h3 ok.fits b2 b4 (by rw [List.getElem?_toArray, List.getElem?_map, hio]; rfl) e1 fun h' g sb => ?_
    have nt : tp ≠ I := fun e => by subst e; rw [b2] at b1; cases b1; exact absurd b3 (by show ¬ (Value.type "set_iterator" = Value.type "tuple"); decide)
    exact hQ h' ⟨⟨o, keepA b1 rfl sb, h2, h3⟩, .inr (.inr ⟨tp, op, c, ord, g, by rw [sb.2 tp nt]; exact b2, b3, b4, b5, b6⟩)⟩ sb
theorem walk_end {Q : Option Value → Shared → Prop} (hh : A.handled = none) (ok : TOk t es) (hled : t.led = !byT w) (hw : WalkAt w a I es ep t os i s.heap) (hx : os.length ≤ i)
    (hQ : ∀ h', Heap.ExtBut I s.heap h' → Q none { s with heap := h' }) : wpAny (model prog w) A (pyNext (.ref I)) Q E s := by
  obtain ⟨⟨o, h1, h2, h3⟩, hm⟩ := hw
  rcases hm with ⟨b1, b2, slot, b3⟩ | ⟨b1, b2, b3, slot, b4, b5⟩ | ⟨tp, op, c, ord, b1, b2, b3, b4, b5, b6⟩
  · subst b2
    rw [List.length_map, Array.length_toList] at hx
    refine end_int hh b3 h1 h3 ok.fits (fun q => setNext_text b1 h1 h3 ok.fits (by rw [Array.getElem?_eq_none hx]; exact q)) hQ
  · subst b3
    rw [List.length_map, Array.length_toList] at hx
    have hl : t.led = true := by rw [hled, b1]; rfl
    refine end_int hh b4 h1 h3 ok.fits (fun q => setNext_plain b1 hl b2 h1 h3 ok.fits (by rw [b5, Array.getElem?_eq_none hx]; exact q)) hQ
  · exact end_draw hh b1 h1 h3 ok.fits b2 b4 (by rw [List.getElem?_toArray, List.getElem?_map, List.getElem?_eq_none (by omega)]; rfl) hQ
/-- the walk begins -/
theorem walk_start {o : Obj} {Q : Value → Shared → Prop} (ho : s.heap.get? a = some o) (hex : o.ExactSet) (hd : o.data = .set es ep t) (ok : TOk t es) (hled : t.led = !byT w) (hsz : es.size ≤ 4000)
    (hQ : ∀ h' I os dr, os.Perm (es.toList.map (·.2)) → WalkAt w a I es ep t os 0 h' → (∀ b o, s.heap.get? b = some o → h'.get? b = some o) → s.heap.objs.size ≤ I → Q (.ref I) { s with heap := h', drawn := dr }) : wpAny (model prog w) A (pyIter (.ref a)) Q E s := by
  have hT : s.TypeIs (.ref a) "set" := ⟨o, ho, hex.1⟩
  refine wpAny_pyIter_slot hT PySem.F.slot_set_iter (wpAny_call_entry PySem.F.slot_set_iter hT entry_set_iterD ?_ (PySem.F.args_set_iter_1 _))
  unfold Builtin.«frozenset.__iter__» Builtin.Frozenset.slot0 slotArgs
  simp only [List.isEmpty_nil, Bool.not_true, Bool.false_eq_true, ↓reduceIte, bind_assoc, List.length_nil, bne_self_eq_false]
  unfold Builtin.Frozenset.addrOf Builtin.Frozenset.sizeOf
  refine wpAny_bind (wpAny_pure ?_)
  dsimp only
  refine wpAny_bind (wpAny_pure ?_)
  refine wpAny_bind (wpAny_bind (wpAny_setEntries_of ho hd ok.fits (wpAny_pure ?_)))
  have hdrn : ∀ {Q : Bool → Shared → Prop}, Q (!byT w && (!t.plain && decide (es.size > 1))) s → wpAny (model prog w) A.in1 (setDrawn a) Q E s := fun {Q} q => by
    unfold setDrawn
    refine wpAny_bind (wpAny_setState_of ho hd ok.fits ?_)
    dsimp only
    unfold setsByText
    refine wpAny_bind (wpAny_bind (wpAny_askSetting (wpAny_pure ?_)))
    exact wpAny_pure q
  refine wpAny_bind (hdrn ?_)
  cases hc : (!byT w && (!t.plain && decide (es.size > 1))) with
  | true =>
    rw [if_pos rfl]
    refine wpAny_bind (draw_perm es.size (List.range es.size) s (by rw [List.length_range]) fun ord dr hp => ?_)
    simp only [newTuple]
    have hol : ord.length = es.size := by rw [hp.length_eq, List.length_range]
    obtain ⟨tob, htob⟩ : ∃ ob : Obj, ob = { cls := .type "tuple", data := .seq (ord.map fun (p : Nat) => Value.int (p : Int) 0).toArray } := ⟨_, rfl⟩
    have hline : ((ord.map fun (p : Nat) => Value.int (p : Int) 0).toArray).size ≤ sizeLine := by rw [List.size_toArray, List.length_map, hol, sizeLine_eq]; omega
    refine wpAny_bind (wpAny_newObj_type ?_ hline)
    show wpAny _ _ _ _ _ { s with heap := s.heap.push { cls := .type "tuple", data := .seq (ord.map fun (p : Nat) => Value.int (p : Int) 0).toArray }, drawn := dr }
    rw [← htob]
    have kp1 : ∀ b ob, s.heap.get? b = some ob → (s.heap.push tob).get? b = some ob := fun b ob e => Heap.get?_push_of_some _ e
    have ht1 : (s.heap.push tob).get? s.heap.objs.size = some tob := Heap.get?_push_size _ (by rw [htob]; rfl)
    refine wpAny_bind (wpAny_setEpoch_of (kp1 _ _ ho) hd ok.fits ?_)
    have hg : ((s.heap.push tob).push (itObj (.ref s.heap.objs.size) 0 a es.size ep)).get? (s.heap.push tob).objs.size = some (itObj (.ref s.heap.objs.size) 0 a es.size ep) := Heap.get?_push_size _ rfl
    have kp2 : ∀ b ob, (s.heap.push tob).get? b = some ob → ((s.heap.push tob).push (itObj (.ref s.heap.objs.size) 0 a es.size ep)).get? b = some ob := fun b ob e => Heap.get?_push_of_some _ e
    refine wpAny_bind (wpAny_newObj_type (wpAny_pure ⟨_, rfl, "set_iterator", _, ⟨_, hg, rfl⟩, slot_setit_next.lookup, ?_⟩))
    have hperm : (ord.map fun p => (es[p]?.map (·.2)).getD Value.none).Perm (es.toList.map (·.2)) := by
      have h1 := hp.map fun p => (es[p]?.map (·.2)).getD Value.none
      have h2 : (List.range es.size).map (fun p => (es[p]?.map (·.2)).getD Value.none) = es.toList.map (·.2) := by
        apply List.ext_getElem
        · simp
        · intro k a1 b1
          have hk : k < es.size := by simpa using b1
          simp [hk]
      rw [h2] at h1
      exact h1
    refine hQ _ _ _ dr hperm ⟨⟨o, kp2 _ _ (kp1 _ _ ho), hex.1, hd⟩, .inr (.inr ⟨s.heap.objs.size, tob, 0, ord, hg, kp2 _ _ ht1, by rw [htob], by rw [htob], by rw [List.length_map], fun k p hk => ?_⟩)⟩ (fun b ob e => kp2 _ _ (kp1 _ _ e)) (by rw [Heap.size_push]; exact Nat.le_succ _)
    have hpl : p < es.size := List.mem_range.mp (hp.mem_iff.mp (List.mem_of_getElem? hk))
    refine ⟨es[p], Array.getElem?_eq_getElem hpl, ?_⟩
    rw [List.getElem?_map, hk]
    show some ((es[p]?.map (·.2)).getD Value.none) = _
    rw [Array.getElem?_eq_getElem hpl]
    rfl
  | false =>
    rw [if_neg Bool.false_ne_true]
    refine wpAny_bind (wpAny_pure ?_)
    refine wpAny_bind (wpAny_setEpoch_of ho hd ok.fits ?_)
    have hg : (s.heap.push (itObj (.int ((0 : Nat) : Int) 0) 0 a es.size ep)).get? s.heap.objs.size = some (itObj (.int ((0 : Nat) : Int) 0) 0 a es.size ep) := Heap.get?_push_size _ rfl
    have kp : ∀ b ob, s.heap.get? b = some ob → (s.heap.push (itObj (.int ((0 : Nat) : Int) 0) 0 a es.size ep)).get? b = some ob := fun b ob e => Heap.get?_push_of_some _ e
    refine wpAny_bind (wpAny_newObj_type (wpAny_pure ⟨_, rfl, "set_iterator", _, ⟨_, hg, rfl⟩, slot_setit_next.lookup, ?_⟩))
    cases hb : byT w with
    | true => exact hQ _ _ _ s.drawn ((pick_perm _ es).map _) ⟨⟨o, kp _ _ ho, hex.1, hd⟩, .inl ⟨hb, rfl, 0, hg⟩⟩ kp (Nat.le_refl _)
    | false =>
      rw [hb] at hc
      exact hQ _ _ _ s.drawn (List.Perm.refl _) ⟨⟨o, kp _ _ ho, hex.1, hd⟩, .inr (.inl ⟨hb, by simpa using hc, rfl, 0, hg, below_zero ok.rise⟩)⟩ kp (Nat.le_refl _)
end
end L3

set_option maxHeartbeats 1600000
namespace L3
open PySem
theorem set_lenD : typeLookup (.type "set") "__len__" = pure (some (.builtin "set.__len__")) := by rw [typeLookup_type, builtinLookup_eq_fast]; kernel_rfl
section
variable {prog : Program} {w : World} {A : Around} {a I S : Addr} {es : Array (Int × Value)} {ep : Nat} {t : SetTable} {os : List Value} {R : Result → Shared → Prop}
/-- all that the walk gives, put behind a list -/
theorem extend_loopD (hh : A.in1.handled = none) (ok : TOk t es) (hled : t.led = !byT w) (hos : os.length ≤ 4000) (res : Value) (h0 : Heap) (hI0 : h0.get? I = none) (hS0 : h0.get? S = none) :
    ∀ (k i : Nat) (s : Shared) (c : Nat), os.length - i = k → i ≤ os.length → WalkAt w a I es ep t os i s.heap → s.heap.get? S = some { cls := .type "list", dict := none, data := .seq (os.take i).toArray c, slots := #[] } → (∀ b o, h0.get? b = some o → s.heap.get? b = some o) →
    (∀ h' c', h'.get? S = some { cls := .type "list", dict := none, data := .seq os.toArray c', slots := #[] } → (∀ b o, h0.get? b = some o → h'.get? b = some o) → R (.ok (.ret res)) { s with heap := h' }) →
    codeAny (model prog w) A (.builtin "list.extend.loop" ⟨[.ref S, .ref I, res], []⟩) R s := by
  intro k
  induction k with
  | zero =>
    intro i s c hk hi hw hS hkp hR
    have hin : i = os.length := by omega
    subst hin
    rw [List.take_length] at hS
    refine codeAny_builtin PySem.F.entry_extend_loop (show _ from ?_)
    rw [Around.under_plainId PySem.F.plain_extend_loop (_ : Args)]
    show wpAny _ A.in1 (pyNext (.ref I) >>= _) _ _ s
    have nSI : S ≠ I := fun e => by
      subst e
      rcases hw.2 with ⟨_, _, slot, b3⟩ | ⟨_, _, _, slot, b4, _⟩ | ⟨tp, op, c, ord, b1, _⟩
      · rw [hS] at b3; injection b3 with b3; injection b3 with b3; exact absurd b3 (by decide)
      · rw [hS] at b4; injection b4 with b4; injection b4 with b4; exact absurd b4 (by decide)
      · rw [hS] at b1; injection b1 with b1; injection b1 with b1; exact absurd b1 (by decide)
    refine wpAny_bind (walk_end hh ok hled hw (Nat.le_refl _) fun h' hx => ?_)
    exact wpAny_pure (hR h' c (hx S _ nSI hS) fun b o e => hx b o (fun z => by rw [z, hI0] at e; cases e) (hkp b o e))
  | succ k ih =>
    intro i s c hk hi hw hS hkp hR
    have hlt : i < os.length := by omega
    refine codeAny_builtin PySem.F.entry_extend_loop (show _ from ?_)
    rw [Around.under_plainId PySem.F.plain_extend_loop (_ : Args)]
    show wpAny _ A.in1 (pyNext (.ref I) >>= _) _ _ s
    have nSI : S ≠ I := fun e => by
      subst e
      rcases hw.2 with ⟨_, _, slot, b3⟩ | ⟨_, _, _, slot, b4, _⟩ | ⟨tp, op, c, ord, b1, _⟩
      · rw [hS] at b3; injection b3 with b3; injection b3 with b3; exact absurd b3 (by decide)
      · rw [hS] at b4; injection b4 with b4; injection b4 with b4; exact absurd b4 (by decide)
      · rw [hS] at b1; injection b1 with b1; injection b1 with b1; exact absurd b1 (by decide)
    refine wpAny_bind (walk_item ok hled hw (List.getElem?_eq_getElem hlt) fun h' hw' sb => ?_)
    have hS' : h'.get? S = some { cls := .type "list", dict := none, data := .seq (os.take i).toArray c, slots := #[] } := by rw [sb.2 S nSI]; exact hS
    show wpAny _ A.in1 (updateSeq S (·.push os[i]) >>= _) _ _ _
    refine wpAny_bind ?_
    have hz1 : (os.take i).toArray.size ≤ sizeLine := by rw [List.size_toArray, List.length_take, sizeLine_eq]; omega
    have hz2 : ((os.take i).toArray.push os[i]).size ≤ sizeLine + 1 := by rw [Array.size_push]; omega
    refine wpAny_updateSeq hS' rfl (wpAny_pure ⟨plainId_quiet PySem.F.plain_extend_loop _, ih (i + 1) _ (c + 1) (by omega) hlt (hw'.keep fun b o e hc => ?_) ?_ (fun b o e => ?_) fun h'' c' g kp => ?_⟩) hz1 hz2
    · have : b ≠ S := fun z => by
        subst z
        rw [hS'] at e
        cases e
        have hc' : Value.type "list" = .type "set" ∨ Value.type "list" = .type "set_iterator" ∨ Value.type "list" = .type "tuple" := hc
        revert hc'
        decide
      exact (Heap.get?_update_other _ _ (Ne.symm this)).trans e
    · have g := Heap.get?_update_self (Obj.mapSeq (·.push os[i])) hS' rfl
      have e1 : (os.take i).toArray.push os[i] = (os.take (i + 1)).toArray := by rw [List.push_toArray, List.take_append_getElem hlt]
      rw [← e1]
      exact g.trans (congrArg some (Obj.mapSeq_push_plain _ _ _))
    · have nb : b ≠ S := fun z => by rw [z, hS0] at e; cases e
      refine (Heap.get?_update_other _ _ (Ne.symm nb)).trans ?_
      rw [sb.2 b (fun z => by rw [z, hI0] at e; cases e)]
      exact hkp b o e
    · exact hR h'' c' g kp
/-- a set, collected: its members in some order -/
theorem collect_setD {o : Obj} {E : Value → Shared → Prop} {Q : List Value → Shared → Prop} {s : Shared} (hh : A.handled = none) (ho : s.heap.get? a = some o) (hex : o.ExactSet) (hd : o.data = .set es ep t) (ok : TOk t es) (hled : t.led = !byT w) (hsz : es.size ≤ 4000)
    (hQ : ∀ h' os dr, os.Perm (es.toList.map (·.2)) → (∀ b o, s.heap.get? b = some o → h'.get? b = some o) → Q os { s with heap := h', drawn := dr }) : wpAny (model prog w) A (collect (.ref a)) Q E s := by
  unfold collect
  refine wpAny_bind (wpAny_runValue (codeAny_builtin PySem.F.entry_proto_collect ?_))
  rw [Around.under_plainId PySem.F.plain_proto_collect _]
  show wpAny _ A.in1 (newList [] >>= fun l => again (.builtin "list.__iadd__" ⟨[l, .ref a], []⟩)) _ _ s
  refine wpAny_bind (wpAny_newObj_type ?_)
  refine wpAny_pure ⟨plainId_quiet PySem.F.plain_list_iadd _, codeAny_builtin PySem.F.entry_list_iadd ?_⟩
  rw [Around.under_plainId PySem.F.plain_list_iadd _]
  show wpAny _ A.in1 (Builtin.List.listExtendWith (.ref s.heap.objs.size) (.ref a) (.ref s.heap.objs.size)) _ _ _
  have hla := Heap.lt_size ho
  unfold Builtin.List.listExtendWith
  generalize hH : s.heap.push { cls := .type "list", data := .seq ([] : List Value).toArray } = H
  have hHs : H.objs.size = s.heap.objs.size + 1 := by rw [← hH, Heap.size_push]
  have kp : ∀ b ob, s.heap.get? b = some ob → H.get? b = some ob := fun b ob e => hH ▸ Heap.get?_push_of_some _ e
  have hHS : H.get? s.heap.objs.size = some { cls := .type "list", data := .seq ([] : List Value).toArray } := hH ▸ Heap.get?_push_size _ rfl
  have hT : ∀ (s' : Shared), s'.heap.get? a = some o → s'.TypeIs (.ref a) "set" := fun s' e => ⟨o, e, hex.1⟩
  refine wpAny_bind (wpAny_typeOf (T := "set") (hT _ (kp _ _ ho)) ?_)
  have h1 : Builtin.List.listSameRef (.ref s.heap.objs.size) (.ref a) = false := by show (s.heap.objs.size == a) = false; exact beq_false_of_ne (Nat.ne_of_gt hla)
  have h2 : (Value.type "set" == Value.type "list") = false := by decide
  have h3 : (Value.type "set" == Value.type "tuple") = false := by decide
  simp only [h1, h2, h3, Bool.or_false, Bool.false_eq_true, if_false]
  refine wpAny_bind (walk_start (kp _ _ ho) hex hd ok hled hsz fun h1 I os dr hp hw k1 hI => ?_)
  refine wpAny_bind (wpAny_holding ?_)
  unfold Builtin.List.listLengthHint
  have ho1 : h1.get? a = some o := k1 _ _ (kp _ _ ho)
  refine wpAny_bind (wpAny_specialOf (T := "set") (v := .ref a) (hT _ ho1) set_lenD ?_)
  wp_delta
  refine wpAny_bind (wpAny_isInstance (T := "set") (v := .ref a) (b := true) (hT _ ho1) (by rw [isSubtype_type]; kernel_rfl) ?_)
  show wpAny _ A.in1 (typeOf (Value.ref a) >>= _) _ _ _
  refine wpAny_bind (wpAny_typeOf (T := "set") (v := .ref a) (hT _ ho1) ?_)
  refine wpAny_pure ?_
  rw [if_pos (by decide)]
  show wpAny _ A.in1 (rule "list.extend.makes-room" >>= fun _ => Builtin.List.listTouch (.ref s.heap.objs.size) >>= fun _ =>
    again (.builtin "list.extend.loop" ⟨[.ref s.heap.objs.size, .ref I, .ref s.heap.objs.size], []⟩)) _ _ _
  refine wpAny_bind (wpAny_rule ?_)
  refine wpAny_bind ?_
  show wpAny _ A.in1 (updateSeq s.heap.objs.size (·.push .none) >>= fun _ => updateSeq s.heap.objs.size (·.pop)) _ _ _
  have hS : h1.get? s.heap.objs.size = some { cls := .type "list", data := .seq ([] : List Value).toArray } := k1 _ _ hHS
  refine wpAny_bind (wpAny_updateSeq hS rfl ?_)
  have hS₂ := Heap.get?_update_self (Obj.mapSeq (·.push Value.none)) hS rfl
  refine wpAny_updateSeq (hz := by seq_fits) hS₂ rfl ?_
  have hS₃ := Heap.get?_update_self (Obj.mapSeq (·.pop)) hS₂ rfl
  have oth : ∀ b ob, b ≠ s.heap.objs.size → h1.get? b = some ob → ((h1.update s.heap.objs.size (Obj.mapSeq (·.push Value.none))).update s.heap.objs.size (Obj.mapSeq (·.pop))).get? b = some ob :=
    fun b ob hb e => (Heap.get?_update_other _ _ (Ne.symm hb)).trans ((Heap.get?_update_other _ _ (Ne.symm hb)).trans e)
  have hI0 : s.heap.get? I = none := by
    cases q : s.heap.get? I with
    | none => rfl
    | some ob =>
      have hI' : H.objs.size ≤ I := hI
      exact absurd (Heap.lt_size q) (Nat.not_lt.mpr (Nat.le_trans (by rw [hHs]; exact Nat.le_succ _) hI'))
  have hS0 : s.heap.get? s.heap.objs.size = none := by
    cases q : s.heap.get? s.heap.objs.size with
    | none => rfl
    | some ob => exact absurd (Heap.lt_size q) (Nat.lt_irrefl _)
  refine wpAny_pure ⟨plainId_quiet PySem.F.plain_extend_loop _, extend_loopD hh ok hled (by rw [hp.length_eq, List.length_map, Array.length_toList]; exact hsz) _ s.heap hI0 hS0 os.length 0 _ _ rfl (Nat.zero_le _) (hw.keep fun b ob e hc => oth b ob (fun z => ?_) e) hS₃ (fun b ob e => oth b ob (fun z => ?_) (k1 _ _ (kp _ _ e))) fun h2 c2 g2 k2 => ?_⟩
  · subst z
    rw [hS] at e
    cases e
    have hc' : Value.type "list" = .type "set" ∨ Value.type "list" = .type "set_iterator" ∨ Value.type "list" = .type "tuple" := hc
    revert hc'
    decide
  · subst z
    rw [hS0] at e
    cases e
  · show wpAny _ A (load s.heap.objs.size >>= _) _ _ _
    refine wpAny_bind (wpAny_load g2 ?_)
    refine wpAny_pure ?_
    exact hQ h2 os dr hp k2
end
end L3

set_option maxHeartbeats 4000000
namespace L3
open PySem PySem.Spec PyProof.Rows L2
variable {Pv : Value → PyData → Prop}
/-! ### len(set(a list of tuples)) -/
def KeyD (d : PyData) : Prop := kd d = true ∧ (∃ ds, d = .tuple ds) ∧ d.depth < 8
def rLenSet : List V → Hp → VK → Prop := fun vs H Q => ∃ (p : Addr) (xs : List V) (ds : List PyData), vs = [.ref p] ∧ H p = some (.lst xs) ∧ RepAll H ds xs ∧ (∀ d ∈ ds, KeyD d) ∧ ds.length < 2000 ∧
  ∀ ds' : List PyData, ds'.Nodup → (∀ d, d ∈ ds' ↔ d ∈ ds) → ds'.length ≤ ds.length → Q (.int ds'.length) H
theorem reads_at {h : Heap} : ∀ {us : List Value} {ds : List PyData} {as : List Addr} {i : Nat} {u : Value} {d : PyData}, ReadsAll h us ds as → us[i]? = some u → ds[i]? = some d → ∃ bs, Reads h u d bs
  | _, _, _, i, u, d, .nil, h1, _ => by simp at h1
  | _, _, _, 0, u, d, .cons a b, h1, h2 => by
    cases h1; cases h2
    exact ⟨_, a⟩
  | _, _, _, i + 1, u, d, .cons a b, h1, h2 => reads_at b (by simpa using h1) (by simpa using h2)
theorem lay_mem : ∀ {ds : List PyData}, PyData.canLayAll0 ds = true → ∀ d ∈ ds, d.canLay0 = true
  | [], _, d, hd => by cases hd
  | e :: ds, hk, d, hd => by
    have hk' : (e.canLay0 && PyData.canLayAll0 ds) = true := hk
    rw [Bool.and_eq_true] at hk'
    rcases List.mem_cons.mp hd with h | hd
    · rw [h]; exact hk'.1
    · exact lay_mem hk'.2 d hd
section
variable {X : Cx} {p p2 pos pos2 : Pos} {e : Expr} {t : TA}
theorem pe_lenset (hc : X.calm = true) (hu : X.A.units + 64 < cLine) (hg : Gl X "len") (hm : X.mg "len" = none) (hg2 : Gl X "set") (hm2 : X.mg "set" = none) (ha : PA X [e] t) (h1 : notStar e = true := by rfl) :
    PE X (.Call (.Name "len" p) [.Call (.Name "set" p2) [e] [] pos2] [] pos) (tCB rLenSet t) := by
  intro pins s σ H Q I h
  refine wpAny_Call_Name_kw (ld_blt I hg hm PySem.boot_len ?_ (by decide) (by decide))
  refine PyProof.Rows.callWith_builtin1 ?_ (star_cons rfl) rfl
  rw [star_cons rfl]
  show wpAny _ _ (spliced ((false, eval (.Call (.Name "set" p2) [e] [] pos2) X.env) :: backTo pos (starEach [] X.env))) _ _ s
  refine Calls.spliced_cons ?_
  refine wpAny_Call_Name_kw (ld_blt I hg2 hm2 boot_set ?_ (by decide) (by decide))
  refine PyProof.Rows.callWith_type1 (thn (ha pos2 pins s σ H _ I h) fun us s1 ⟨vs, H1, I1, r1, q1⟩ => ?_) (star_cons h1) rfl
  obtain ⟨pl, xs, ds, rfl, hp, hds, hkey, hb, q⟩ := q1
  obtain ⟨u, rfl, ru⟩ := vals1 r1
  cases (show u = Value.ref pl from ru)
  obtain ⟨its, rv, il, hz⟩ := I1.list (SqL.of (K := X.K) hp)
  obtain ⟨as, rds⟩ := RepAll.reads I1 hds rv
  have hlay := hds.lay
  have hl1 : xs.length = ds.length := hds.length
  have hl2 : xs.length = its.length := rv.length
  refine call_setD (Pv := fun _ _ => True) (ds := ds) (I1.ok.hd hc) il.isList (by rw [List.size_toArray]; omega) (fun i v d hv hd => ?_) hb (by omega) fun h' tk ds' hS hmem hlen hk ht => ?_
  · rw [List.getElem?_toArray] at hv
    obtain ⟨bs, rd⟩ := reads_at rds hv hd
    have hm' := List.mem_of_getElem? hd
    exact ⟨True.intro, rfl, (hkey d hm').1, (hkey d hm').2.1, lay_mem hlay d hm', (hkey d hm').2.2, bs, rd⟩
  · obtain ⟨o, es, ep, tb, ho, hex, hdat, ok, few, els, nd, _⟩ := hS
    have hsz : es.size = ds'.length := by have := els.1; rw [Array.length_toList] at this; exact this
    refine Calls.spliced_nil ?_
    refine call_len_set ho hex hdat ok.fits (by rw [hsz]; have : (ds'.length : Int) < 2000 := by omega
                                                exact Int.lt_of_lt_of_le this (by decide)) ?_
    refine ⟨.int ds'.length, H1, ?_, ⟨_, by rw [← hsz]⟩, q ds' nd hmem hlen⟩
    exact I1.kept hk
end
end L3

set_option maxHeartbeats 4000000
namespace L3
open PySem PySem.Spec PyProof.Rows L2
/-! ### nested data: which may be compared, and how they are ordered -/
mutual
def Cmp : PyData → PyData → Prop
  | .int _, .int _ => True
  | .str _, .str _ => True
  | .tuple xs, .tuple ys => CmpL xs ys
  | _, _ => False
def CmpL : List PyData → List PyData → Prop
  | [], _ => True
  | _ :: _, [] => True
  | x :: xs, y :: ys => Cmp x y ∧ CmpL xs ys
end
mutual
def ltD : PyData → PyData → Bool
  | .int a, .int b => decide (a < b)
  | .str a, .str b => sLt a b
  | .tuple xs, .tuple ys => ltL xs ys
  | _, _ => false
def ltL : List PyData → List PyData → Bool
  | [], [] => false
  | [], _ :: _ => true
  | _ :: _, [] => false
  | x :: xs, y :: ys => if PyData.eqv x y = true then ltL xs ys else ltD x y
end
def encS (xs : List Nat) : List Int := xs.map fun (c : Nat) => (c : Int) + 1
mutual
def enc : PyData → List Int
  | .int a => [1, a]
  | .str x => 2 :: (encS x.cps.toList ++ [0])
  | .tuple ds => 3 :: (encL ds ++ [0])
  | .none => [9]
  | .bool _ => [9]
  | .list _ => [9]
  | .dict _ => [9]
def encL : List PyData → List Int
  | [] => []
  | d :: ds => enc d ++ encL ds
end
theorem encS_lt : ∀ (xs ys : List Nat) (r r' : List Int), (encS xs ++ 0 :: r < encS ys ++ 0 :: r') ↔ (xs < ys ∨ xs = ys ∧ r < r')
  | [], [], r, r' => by simp [encS, List.cons_lt_cons_iff]
  | [], y :: ys, r, r' => by
    have : (0 : Int) < (y : Int) + 1 := by omega
    simp [encS, List.cons_lt_cons_iff, this]
  | x :: xs, [], r, r' => by
    have h1 : ¬ ((x : Int) + 1 < 0) := by omega
    have h2 : ¬ ((x : Int) + 1 = 0) := by omega
    simp [encS, List.cons_lt_cons_iff, h1, h2]
  | x :: xs, y :: ys, r, r' => by
    have ih := encS_lt xs ys r r'
    unfold encS at ih ⊢
    simp only [List.map_cons, List.cons_append, List.cons_lt_cons_iff, ih, List.cons.injEq]
    have h1 : ((x : Int) + 1 < (y : Int) + 1) ↔ x < y := by omega
    have h2 : ((x : Int) + 1 = (y : Int) + 1) ↔ x = y := by omega
    rw [h1, h2]
    constructor
    · rintro (h | ⟨h, h' | ⟨h', h''⟩⟩)
      · exact .inl (.inl h)
      · exact .inl (.inr ⟨h, h'⟩)
      · exact .inr ⟨⟨h, h'⟩, h''⟩
    · rintro ((h | ⟨h, h'⟩) | ⟨⟨h, h'⟩, h''⟩)
      · exact .inl h
      · exact .inr ⟨h, .inl h'⟩
      · exact .inr ⟨h, .inr ⟨h', h''⟩⟩
theorem enc_pos : ∀ (d : PyData) (r : List Int), ∃ a t, enc d ++ r = a :: t ∧ (0 : Int) < a
  | .int a, r => ⟨1, _, rfl, by decide⟩
  | .str x, r => ⟨2, _, rfl, by decide⟩
  | .tuple ds, r => ⟨3, _, rfl, by decide⟩
  | .none, r => ⟨9, _, rfl, by decide⟩
  | .bool _, r => ⟨9, _, rfl, by decide⟩
  | .list _, r => ⟨9, _, rfl, by decide⟩
  | .dict _, r => ⟨9, _, rfl, by decide⟩
mutual
theorem enc_lt : ∀ (x y : PyData) (r r' : List Int), Cmp x y → ((enc x ++ r < enc y ++ r') ↔ (if PyData.eqv x y = true then r < r' else ltD x y = true))
  | .int a, .int b, r, r', _ => by
    have e : PyData.eqv (.int a) (.int b) = (a == b) := rfl
    rw [e]
    show (1 :: a :: r < 1 :: b :: r') ↔ _
    simp only [List.cons_lt_cons_iff, ltD]
    by_cases h : a = b
    · subst h; simp
    · simp [h]
  | .str a, .str b, r, r', _ => by
    have e : PyData.eqv (.str a) (.str b) = (a == b) := rfl
    rw [e]
    show (2 :: ((encS a.cps.toList ++ [0]) ++ r) < 2 :: ((encS b.cps.toList ++ [0]) ++ r')) ↔ _
    rw [List.cons_lt_cons_iff, List.append_assoc, List.append_assoc]
    show (_ ∨ _ ∧ (encS a.cps.toList ++ 0 :: r < encS b.cps.toList ++ 0 :: r')) ↔ _
    rw [encS_lt]
    have hx : a = b ↔ a.cps.toList = b.cps.toList := ⟨fun h => by rw [h], fun h => by cases a; cases b; simp only at h; congr; exact Array.ext' h⟩
    by_cases h : a = b
    · subst h; simp [List.lt_irrefl]
    · have h' : ¬ a.cps.toList = b.cps.toList := fun z => h (hx.mpr z)
      simp [h, h', ltD, sLt]
  | .tuple xs, .tuple ys, r, r', hc => by
    have e : PyData.eqv (.tuple xs) (.tuple ys) = PyData.eqvAll xs ys := by simp [PyData.eqv]
    rw [e]
    show (3 :: ((encL xs ++ [0]) ++ r) < 3 :: ((encL ys ++ [0]) ++ r')) ↔ _
    rw [List.cons_lt_cons_iff, List.append_assoc, List.append_assoc]
    show (_ ∨ _ ∧ (encL xs ++ 0 :: r < encL ys ++ 0 :: r')) ↔ (if PyData.eqvAll xs ys = true then r < r' else ltL xs ys = true)
    rw [encL_lt xs ys r r' hc]
    simp
theorem encL_lt : ∀ (xs ys : List PyData) (r r' : List Int), CmpL xs ys → ((encL xs ++ 0 :: r < encL ys ++ 0 :: r') ↔ (if PyData.eqvAll xs ys = true then r < r' else ltL xs ys = true))
  | [], [], r, r', _ => by simp [encL, PyData.eqvAll, List.cons_lt_cons_iff]
  | [], y :: ys, r, r', _ => by
    obtain ⟨a, t, e, h⟩ := enc_pos y (encL ys ++ 0 :: r')
    show (0 :: r < (enc y ++ encL ys) ++ 0 :: r') ↔ _
    rw [List.append_assoc, e, List.cons_lt_cons_iff]
    simp [h, PyData.eqvAll, ltL]
  | x :: xs, [], r, r', _ => by
    obtain ⟨a, t, e, h⟩ := enc_pos x (encL xs ++ 0 :: r)
    show ((enc x ++ encL xs) ++ 0 :: r < 0 :: r') ↔ _
    rw [List.append_assoc, e, List.cons_lt_cons_iff]
    have h1 : ¬ a < 0 := by omega
    have h2 : ¬ a = 0 := by omega
    simp [h1, h2, PyData.eqvAll, ltL]
  | x :: xs, y :: ys, r, r', hc => by
    have hc' : Cmp x y ∧ CmpL xs ys := hc
    show ((enc x ++ encL xs) ++ 0 :: r < (enc y ++ encL ys) ++ 0 :: r') ↔ (if (PyData.eqv x y && PyData.eqvAll xs ys) = true then r < r' else (if PyData.eqv x y = true then ltL xs ys else ltD x y) = true)
    rw [List.append_assoc, List.append_assoc, enc_lt x y _ _ hc'.1]
    cases h : PyData.eqv x y with
    | true =>
      simp only [if_true, Bool.true_and]
      exact encL_lt xs ys r r' hc'.2
    | false => simp
end
mutual
theorem ltD_same : ∀ (x y : PyData), Cmp x y → PyData.eqv x y = true → ltD x y = false
  | .int a, .int b, _, h => by
    have e : PyData.eqv (.int a) (.int b) = (a == b) := rfl
    rw [e] at h
    have : a = b := by simpa using h
    subst this
    simp [ltD]
  | .str a, .str b, _, h => by
    have e : PyData.eqv (.str a) (.str b) = (a == b) := rfl
    rw [e] at h
    have : a = b := by simpa using h
    subst this
    exact sLt_irr a
  | .tuple xs, .tuple ys, hc, h => ltL_same xs ys hc (by simpa [PyData.eqv] using h)
theorem ltL_same : ∀ (xs ys : List PyData), CmpL xs ys → PyData.eqvAll xs ys = true → ltL xs ys = false
  | [], [], _, _ => rfl
  | [], _ :: _, _, h => by simp [PyData.eqvAll] at h
  | _ :: _, [], _, h => by simp [PyData.eqvAll] at h
  | x :: xs, y :: ys, hc, h => by
    have h' : PyData.eqv x y = true ∧ PyData.eqvAll xs ys = true := by simpa [PyData.eqvAll] using h
    show (if PyData.eqv x y = true then ltL xs ys else ltD x y) = false
    rw [if_pos h'.1]
    exact ltL_same xs ys (show Cmp x y ∧ CmpL xs ys from hc).2 h'.2
end
mutual
theorem eqv_sym : ∀ (x y : PyData), Cmp x y → PyData.eqv y x = PyData.eqv x y
  | .int a, .int b, _ => by
    show (b == a) = (a == b)
    exact Bool.beq_comm
  | .str a, .str b, _ => by
    show (b == a) = (a == b)
    exact Bool.beq_comm
  | .tuple xs, .tuple ys, hc => by
    have := eqvL_sym xs ys hc
    simpa [PyData.eqv] using this
theorem eqvL_sym : ∀ (xs ys : List PyData), CmpL xs ys → PyData.eqvAll ys xs = PyData.eqvAll xs ys
  | [], [], _ => rfl
  | [], _ :: _, _ => rfl
  | _ :: _, [], _ => rfl
  | x :: xs, y :: ys, hc => by
    have hc' : Cmp x y ∧ CmpL xs ys := hc
    show (PyData.eqv y x && PyData.eqvAll ys xs) = (PyData.eqv x y && PyData.eqvAll xs ys)
    rw [eqv_sym x y hc'.1, eqvL_sym xs ys hc'.2]
end
mutual
theorem ltD_one : ∀ (x y : PyData), Cmp x y → PyData.eqv x y = false → ltD x y = true ∨ ltD y x = true
  | .int a, .int b, _, h => by
    have e : PyData.eqv (.int a) (.int b) = (a == b) := rfl
    rw [e] at h
    have : a ≠ b := by simpa using h
    simp only [ltD, decide_eq_true_eq]
    omega
  | .str a, .str b, _, h => by
    have e : PyData.eqv (.str a) (.str b) = (a == b) := rfl
    rw [e] at h
    have : a ≠ b := by simpa using h
    show sLt a b = true ∨ sLt b a = true
    cases h1 : sLt a b with
    | true => exact .inl rfl
    | false =>
      cases h2 : sLt b a with
      | true => exact .inr rfl
      | false => exact absurd (sLt_eq h1 h2) this
  | .tuple xs, .tuple ys, hc, h => ltL_one xs ys hc (by simpa [PyData.eqv] using h)
theorem ltL_one : ∀ (xs ys : List PyData), CmpL xs ys → PyData.eqvAll xs ys = false → ltL xs ys = true ∨ ltL ys xs = true
  | [], [], _, h => by simp [PyData.eqvAll] at h
  | [], _ :: _, _, h => .inl rfl
  | _ :: _, [], _, h => .inr rfl
  | x :: xs, y :: ys, hc, h => by
    have hc' : Cmp x y ∧ CmpL xs ys := hc
    show (if PyData.eqv x y = true then ltL xs ys else ltD x y) = true ∨ (if PyData.eqv y x = true then ltL ys xs else ltD y x) = true
    have hs : PyData.eqv y x = PyData.eqv x y := eqv_sym x y hc'.1
    rw [hs]
    cases h1 : PyData.eqv x y with
    | true =>
      have h2 : PyData.eqvAll xs ys = false := by simpa [PyData.eqvAll, h1] using h
      simpa using ltL_one xs ys hc'.2 h2
    | false => simpa using ltD_one x y hc'.1 h1
end
theorem ltD_enc {x y : PyData} (h : Cmp x y) : ltD x y = decide (enc x < enc y) := by
  have k := enc_lt x y [] [] h
  rw [List.append_nil, List.append_nil] at k
  cases he : PyData.eqv x y with
  | true =>
    rw [he, if_pos rfl] at k
    rw [ltD_same x y h he]
    exact (decide_eq_false fun z => List.lt_irrefl _ (k.mp z)).symm
  | false =>
    rw [he, if_neg Bool.false_ne_true] at k
    cases hl : ltD x y with
    | true => exact (decide_eq_true (k.mpr hl)).symm
    | false => exact (decide_eq_false fun z => by have := k.mp z; rw [hl] at this; cases this).symm
theorem enc_inj {x y : PyData} (h : Cmp x y) (h' : Cmp y x) (hx : kd x = true) (hy : kd y = true) (h1 : ¬ enc x < enc y) (h2 : ¬ enc y < enc x) : x = y := by
  cases he : PyData.eqv x y with
  | true => exact eqv_kd x y hx hy he
  | false =>
    rcases ltD_one x y h he with z | z
    · rw [ltD_enc h] at z; exact absurd (of_decide_eq_true z) h1
    · rw [ltD_enc h'] at z; exact absurd (of_decide_eq_true z) h2
def ltE (ds : List PyData) (i j : Nat) : Bool := decide (enc (ds.getD i .none) < enc (ds.getD j .none))
def sortE (ds : List PyData) : List PyData := (srt (ltE ds) ds.length).map fun i => ds.getD i .none
theorem ltE_ord (ds : List PyData) : Ord (ltE ds) where
  asy := fun a b h => decide_eq_false (List.lt_asymm (of_decide_eq_true h))
  tr := fun a b c h1 h2 => by
    have h1' : enc (ds.getD a .none) ≤ enc (ds.getD b .none) := of_decide_eq_false h1
    have h2' : enc (ds.getD b .none) ≤ enc (ds.getD c .none) := of_decide_eq_false h2
    exact decide_eq_false (List.le_trans h1' h2')
theorem sortE_perm (ds : List PyData) : (sortE ds).Perm ds := by
  have h := (srt_perm (ltE ds) ds.length).map fun i => ds.getD i .none
  rw [map_range_getD] at h
  exact h
theorem sortE_length (ds : List PyData) : (sortE ds).length = ds.length := (sortE_perm ds).length_eq
theorem sortE_up (ds : List PyData) : (sortE ds).Pairwise fun x y => ¬ enc y < enc x := by
  rw [List.pairwise_iff_getElem]
  intro i j hi hj hij
  have hj' : j < ds.length := by rw [sortE_length] at hj; exact hj
  have u := srt_up (ltE_ord ds) ds.length (Nat.le_of_lt hij) hj'
  have hjs : j < (srt (ltE ds) ds.length).length := by rw [srt_length]; exact hj'
  have his : i < (srt (ltE ds) ds.length).length := by omega
  rw [List.getD_eq_getElem?_getD, List.getD_eq_getElem?_getD, List.getElem?_eq_getElem hjs, List.getElem?_eq_getElem his] at u
  have u' := of_decide_eq_false u
  have e : ∀ k (h : k < (sortE ds).length) (h' : k < (srt (ltE ds) ds.length).length), (sortE ds)[k] = ds.getD (srt (ltE ds) ds.length)[k] .none := fun k h h' => by simp [sortE]
  rw [e j hj hjs, e i hi his]
  exact u'
def CmpA (ds : List PyData) : Prop := (∀ x ∈ ds, ∀ y ∈ ds, Cmp x y) ∧ ∀ x ∈ ds, kd x = true
theorem CmpA.sub {ds es : List PyData} (h : CmpA ds) (hs : ∀ x ∈ es, x ∈ ds) : CmpA es := ⟨fun x hx y hy => h.1 x (hs x hx) y (hs y hy), fun x hx => h.2 x (hs x hx)⟩
theorem up_uniq : ∀ {xs ys : List PyData}, xs.Perm ys → CmpA xs → xs.Pairwise (fun x y => ¬ enc y < enc x) → ys.Pairwise (fun x y => ¬ enc y < enc x) → xs = ys
  | [], ys, p, _, _, _ => (List.Perm.nil_eq p).symm ▸ rfl
  | x :: xs, [], p, _, _, _ => absurd p.length_eq (by simp)
  | x :: xs, y :: ys, p, hc, hx, hy => by
    have hx' := List.pairwise_cons.mp hx
    have hy' := List.pairwise_cons.mp hy
    have m1 : y ∈ x :: xs := p.mem_iff.mpr List.mem_cons_self
    have m2 : x ∈ y :: ys := p.mem_iff.mp List.mem_cons_self
    have a1 : ¬ enc y < enc x := by
      rcases List.mem_cons.mp m1 with e | m
      · rw [e]; exact List.lt_irrefl _
      · exact hx'.1 y m
    have a2 : ¬ enc x < enc y := by
      rcases List.mem_cons.mp m2 with e | m
      · rw [e]; exact List.lt_irrefl _
      · exact hy'.1 x m
    have e : x = y := enc_inj (hc.1 x List.mem_cons_self y m1) (hc.1 y m1 x List.mem_cons_self) (hc.2 x List.mem_cons_self) (hc.2 y m1) a2 a1
    subst e
    rw [up_uniq (List.Perm.cons_inv p) (hc.sub fun z hz => List.mem_cons_of_mem _ hz) hx'.2 hy'.2]
theorem sortE_uniq {xs ys : List PyData} (p : xs.Perm ys) (hc : CmpA xs) : sortE xs = sortE ys :=
  up_uniq ((sortE_perm xs).trans (p.trans (sortE_perm ys).symm)) (hc.sub fun x hx => (sortE_perm xs).mem_iff.mp hx) (sortE_up xs) (sortE_up ys)
/-! ### t < u of tuples of data -/
def LtAt (A : Around) (s : Shared) (u v : Value) (b : Bool) : Prop := ∀ (prog : Program) (w : World) (E : Value → Shared → Prop) (Q : Value → Shared → Prop), Q (.bool b) s → wpAny (model prog w) A (richCompare .Lt u v) Q E s
theorem LtAt.int {A : Around} {s : Shared} (a : Int) (t : Tok) (c : Int) (u : Tok) : LtAt A s (.int a t) (.int c u) (decide (a < c)) := fun prog w E Q h =>
  (PyProof.Rows.lt_int h : wpAny (model prog w) A (compareOp .Lt (.int a t) (.int c u)) Q E s)
theorem LtAt.str {A : Around} {s : Shared} (a : Str) (t : Tok) (c : Str) (u : Tok) : LtAt A s (.str a t) (.str c u) (sLt a c) := fun prog w E Q h =>
  (PyProof.Rows.lt_str h : wpAny (model prog w) A (compareOp .Lt (.str a t) (.str c u)) Q E s)
/-- what a walk along two rows asks -/
def PairAt (A : Around) (s : Shared) : List Value → List Value → List PyData → List PyData → Prop
  | v :: vs, w :: ws, x :: xs, y :: ys => SeqAt.EqAt A s v w (PyData.eqv x y) ∧ LtAt A s v w (ltD x y) ∧ PairAt A s vs ws xs ys
  | [], _, [], _ => True
  | _ :: _, [], _ :: _, [] => True
  | _, _, _, _ => False
section
open PySem.SeqAt
open PySem.AutoSeq1 (wpAny_loadPart')
open PySem.MeetsSeq PySem.MeetsSeq2 PySem.MeetsSeq3
theorem tuple_lt_data (l b : Addr) (items items2 : Array Value) (n n2 : Nat) (dd dd2 : Option Addr) (sl sl2 : Array (Option Value)) (xs ys : List PyData) (hi : items.toList.length = xs.length) (hj : items2.toList.length = ys.length) :
    Meets (Builtin.«tuple.__lt__» ⟨[.ref l, .ref b], []⟩)
      (fun A R s => s.heap.get? l = some { cls := .type "tuple", dict := dd, data := .seq items n, slots := sl } ∧ s.heap.get? b = some { cls := .type "tuple", dict := dd2, data := .seq items2 n2, slots := sl2 } ∧
        PairAt A.in1 s items.toList items2.toList xs ys ∧ R (.ok (.ret (.bool (ltL xs ys)))) s) :=
  .of_wp fun prog w A R s h => by
    obtain ⟨hp, g, d, tk, os⟩ := s; obtain ⟨hl, hb, hP, h⟩ := h
    have f2 := AutoSeq1.sub_tuple_tuple
    have z1 : items.size = xs.length := by rw [← hi]; simp
    have z2 : items2.size = ys.length := by rw [← hj]; simp
    wp_walk using wpAny_loadPart' hl, wpAny_loadPart' hb, wpAny_forIn_list _ (fun rest b s' => b.1 = none ∧ s' = ⟨hp, g, d, tk, os⟩ ∧ ∃ (vs ws : List Value) (ns' ms' : List PyData), rest = vs.zip ws ∧
      vs.length = ns'.length ∧ ws.length = ms'.length ∧ PairAt A.in1 ⟨hp, g, d, tk, os⟩ vs ws ns' ms' ∧ ns'.length + items2.size = ms'.length + items.size ∧ R (.ok (.ret (.bool (ltL ns' ms')))) ⟨hp, g, d, tk, os⟩) _
    case turn =>
      rintro ⟨y, x⟩ rest b s' ⟨hb', rfl, vs, ws, ns', ms', hz, hvi, hwi, hpa, hlen, hR⟩
      cases vs with
      | nil => rw [List.zip_nil_left] at hz; cases hz
      | cons v vs =>
        cases ws with
        | nil => rw [List.zip_nil_right] at hz; cases hz
        | cons w' ws =>
          cases ns' with
          | nil => cases hvi
          | cons n' ns' =>
            cases ms' with
            | nil => cases hwi
            | cons m' ms' =>
              rw [List.zip_cons_cons] at hz
              injection hz with hyx hrest
              injection hyx with hy hx
              subst hy hx
              obtain ⟨he, hlt, hpa'⟩ := hpa
              have hR' : R (.ok (.ret (.bool (if PyData.eqv n' m' = true then ltL ns' ms' else ltD n' m')))) ⟨hp, g, d, tk, os⟩ := hR
              simp only [List.length_cons] at hlen hvi hwi
              refine wpAny_bind (he prog w _ _ ?_)
              cases hq : PyData.eqv n' m' with
              | true =>
                rw [hq, if_pos rfl] at hR'
                wp_walk
                exact ⟨rfl, rfl, _, _, _, _, hrest, by omega, by omega, hpa', by omega, hR'⟩
              | false =>
                rw [hq, if_neg Bool.false_ne_true] at hR'
                have hri := hlt prog w
                wp_walk using hri
                exact ⟨_, rfl, by simpa using hR'⟩
    case fin =>
      rintro ⟨b1, b2⟩ s' ⟨hb', rfl, vs, ws, ns', ms', hz, hvi, hwi, hpa, hlen, hR⟩
      simp only at hb'
      subst hb'
      have hv : ltL ns' ms' = decide (items.size < items2.size) := by
        cases ns' with
        | nil =>
          cases ms' with
          | nil =>
            simp only [List.length_nil] at hlen
            show false = _
            exact (decide_eq_false (by omega)).symm
          | cons c u =>
            simp only [List.length_nil, List.length_cons] at hlen
            show true = _
            exact (decide_eq_true (by omega)).symm
        | cons a t =>
          cases ms' with
          | nil =>
            simp only [List.length_nil, List.length_cons] at hlen
            show false = _
            exact (decide_eq_false (by omega)).symm
          | cons c u =>
            cases vs with
            | nil => cases hvi
            | cons v vs =>
              cases ws with
              | nil => cases hwi
              | cons w' ws =>
                rw [List.zip_cons_cons] at hz
                cases hz
      rw [hv] at hR
      wp_walk
      exact ⟨_, rfl, by simpa [Builtin.Tuple.tupleCompareSizes] using hR⟩
    case h =>
      exact ⟨rfl, rfl, items.toList, items2.toList, xs, ys, rfl, hi, hj, hP, by omega, h⟩
end
end L3

set_option maxHeartbeats 400000
namespace L3
open PySem PySem.Spec PyProof.Rows L2
mutual
theorem ltAt_reads : ∀ (x y : PyData), Cmp x y → ∀ (A : Around) (s : Shared) (u v : Value) (as bs : List Addr), Reads s.heap u x as → Reads s.heap v y bs → x.canLay0 = true → y.canLay0 = true →
    A.units + min x.depth y.depth < cLine → LtAt A s u v (ltD x y)
  | .int a, .int b, _ => by
    intro A s u v as bs r1 r2 _ _ _
    cases r1; cases r2
    exact LtAt.int _ _ _ _
  | .str a, .str b, _ => by
    intro A s u v as bs r1 r2 _ _ _
    cases r1; cases r2
    exact LtAt.str _ _ _ _
  | .tuple xs, .tuple ys, hc => by
    intro A s u v as bs r1 r2 h1 h2 hu
    cases r1 with
    | @tuple a o vs n _ _ e1 e2 e3 z =>
      cases r2 with
      | @tuple a' o' vs' n' _ _ f1 f2 f3 z' =>
        obtain ⟨cls, dd, data, sl⟩ := o
        obtain ⟨cls2, dd2, data2, sl2⟩ := o'
        simp only at e2 e3 f2 f3
        subst e2 e3 f2 f3
        intro prog w E Q hq
        have hp := pairAt_reads xs ys hc A.in1 s _ _ _ _ z z' h1 h2 (SeqAt.room_in hu)
        exact richCompare_meets_room (op := .Lt) ⟨_, e1, rfl⟩ ⟨_, f1, rfl⟩ PySem.F.slot_tuple_lt PySem.F.entry_tuple_lt (PySem.F.args_tuple_lt_2 _ _) (tuple_lt_data a a' vs vs' n n' dd dd2 sl sl2 xs ys (SeqAt.ReadsAll.length _ _ _ z) (SeqAt.ReadsAll.length _ _ _ z'))
          ⟨e1, f1, hp, show Value.bool (ltL xs ys) ≠ Value.notImplemented ∧ Q (.bool (ltL xs ys)) s from ⟨(fun x => nomatch x), hq⟩⟩ (SeqAt.room_here hu)
theorem pairAt_reads : ∀ (xs ys : List PyData), CmpL xs ys → ∀ (A : Around) (s : Shared) (vs ws : List Value) (as bs : List Addr), ReadsAll s.heap vs xs as → ReadsAll s.heap ws ys bs → PyData.canLayAll0 xs = true → PyData.canLayAll0 ys = true →
    A.units + min (PyData.depthAll xs) (PyData.depthAll ys) < cLine → PairAt A s vs ws xs ys
  | [], _, _ => by
    intro A s vs ws as bs r1 r2 _ _ _
    cases r1
    cases r2 with
    | nil => exact True.intro
    | cons _ _ => exact True.intro
  | x :: xs, [], _ => by
    intro A s vs ws as bs r1 r2 _ _ _
    cases r1; cases r2
    exact True.intro
  | x :: xs, y :: ys, hc => by
    intro A s vs ws as bs r1 r2 h1 h2 hu
    have h1' : x.canLay0 = true ∧ PyData.canLayAll0 xs = true := by simpa [PyData.canLayAll0] using h1
    have h2' : y.canLay0 = true ∧ PyData.canLayAll0 ys = true := by simpa [PyData.canLayAll0] using h2
    cases r1 with
    | cons ra rb =>
      cases r2 with
      | cons rc rd =>
        exact ⟨SeqAt.eqAt_reads x y A s _ _ _ _ ra rc h1'.1 h2'.1 (SeqAt.room_head hu), ltAt_reads x y (show Cmp x y ∧ CmpL xs ys from hc).1 A s _ _ _ _ ra rc h1'.1 h2'.1 (SeqAt.room_head hu),
          pairAt_reads xs ys (show Cmp x y ∧ CmpL xs ys from hc).2 A s _ _ _ _ rb rd h1'.2 h2'.2 (SeqAt.room_tail hu)⟩
end
end L3

set_option maxHeartbeats 4000000
namespace L3
open PySem PySem.Spec PyProof.Rows L2
section
variable {prog : Program} {w : World} {A : Around} {E : Value → Shared → Prop} {s : Shared} {Q : Bool → Shared → Prop}
theorem lex_data {b fin : Bool} : ∀ (xs ys : List PyData) (vs ws : List Value) (i : Nat), (b = false ∨ 0 < i) → vs.length = xs.length → ws.length = ys.length → PairAt A s vs ws xs ys → fin = decide (xs.length < ys.length) → Q (ltL xs ys) s →
    PySem.W.KatLex prog w A b fin Q (vs.zip ws) i s
  | [], ys, vs, ws, i, hb, l1, l2, hp, hf, q => by
    cases vs with
    | cons v vs => cases l1
    | nil =>
      rw [List.zip_nil_left]
      refine PySem.W.kat_nil ?_
      rw [hf]
      cases ys with
      | nil => exact q
      | cons y ys => exact q
  | x :: xs, [], vs, ws, i, hb, l1, l2, hp, hf, q => by
    cases ws with
    | cons v vs => cases l2
    | nil =>
      rw [List.zip_nil_right]
      refine PySem.W.kat_nil ?_
      rw [hf]
      exact q
  | x :: xs, y :: ys, vs, ws, i, hb, l1, l2, hp, hf, q => by
    cases vs with
    | nil => cases l1
    | cons v vs =>
      cases ws with
      | nil => cases l2
      | cons w' ws =>
        rw [List.zip_cons_cons]
        obtain ⟨he, hlt, hp'⟩ := hp
        have q' : Q (if PyData.eqv x y = true then ltL xs ys else ltD x y) s := q
        refine PySem.W.kat_cons (he prog w _ _ ?_)
        cases hq : PyData.eqv x y with
        | true =>
          rw [hq, if_pos rfl] at q'
          refine PySem.W.kat_yes (lex_data xs ys vs ws (i + 1) (.inr (Nat.succ_pos _)) (by simpa using l1) (by simpa using l2) hp' ?_ q')
          rw [hf]
          simp
        | false =>
          rw [hq, if_neg Bool.false_ne_true] at q'
          refine PySem.W.kat_no ?_
          have hb' : (b && i == 0) = false := by
            rcases hb with h | h
            · rw [h]; rfl
            · have : (i == 0) = false := by simp; omega
              rw [this]; simp
          rw [hb']
          exact PySem.W.kat_one _ _ (hlt prog w _ _ q')
/-- two keys that are tuples whose first parts are tuples -/
theorem key_lt {u v : Value} {x y : PyData} {as bs : List Addr} (r1 : Reads s.heap u x as) (r2 : Reads s.heap v y bs) (hx : ∃ xs, x = .tuple xs) (hy : ∃ ys, y = .tuple ys) (l1 : x.canLay0 = true) (l2 : y.canLay0 = true) (hc : Cmp x y)
    (hu : A.units + min x.depth y.depth < cLine) (q : Q (ltD x y) s) : wpAny (model prog w) A (keyLt' (tuples' false) u v) Q E s := by
  obtain ⟨xs, rfl⟩ := hx
  obtain ⟨ys, rfl⟩ := hy
  cases r1 with
  | @tuple a o vs n _ _ e1 e2 e3 z =>
    cases r2 with
    | @tuple a' o' vs' n' _ _ f1 f2 f3 z' =>
      have k1 := SeqAt.ReadsAll.length _ _ _ z
      have k2 := SeqAt.ReadsAll.length _ _ _ z'
      refine PySem.W.kat_lt e1 e3 f1 f3 (lex_data xs ys _ _ 0 (.inl rfl) k1 k2 (pairAt_reads xs ys hc A s _ _ _ _ z z' l1 l2 ?_) ?_ q)
      · have h1 : (PyData.tuple xs).depth = PyData.depthAll xs + 1 := rfl
        have h2 : (PyData.tuple ys).depth = PyData.depthAll ys + 1 := rfl
        rw [h1, h2] at hu
        omega
      · rw [Array.length_toList] at k1 k2
        rw [k1, k2]
end
/-- tuples that begin with a tuple -/
def TT (d : PyData) : Prop := ∃ r rest, d = .tuple (.tuple r :: rest)
theorem kinds_tt {h : Heap} : ∀ (os : List Value) (ds : List PyData), os.length = ds.length → (∀ (i : Nat) v d, os[i]? = some v → ds[i]? = some d → TT d ∧ ∃ as, Reads h v d as) →
    ∃ fs : List Value, PySem.W.KatTups h os fs ∧ fs.length = os.length ∧ ∀ v ∈ fs, ∃ a o, v = .ref a ∧ h.get? a = some o ∧ o.cls = .type "tuple"
  | [], _, _, _ => ⟨[], trivial, rfl, fun v hv => by cases hv⟩
  | v :: os, [], hl, _ => by cases hl
  | v :: os, d :: ds, hl, hr => by
    obtain ⟨⟨r, rest, rfl⟩, as, rd⟩ := hr 0 v d rfl rfl
    obtain ⟨fs, k1, k2, k3⟩ := kinds_tt os ds (by simpa using hl) fun i v d h1 h2 => hr (i + 1) v d (by simpa using h1) (by simpa using h2)
    cases rd with
    | @tuple a o vs n _ _ e1 e2 e3 z =>
      generalize hv : vs.toList = vl at z
      cases z with
      | cons ra rb =>
        cases ra with
        | @tuple a' o' vs' n' _ _ f1 f2 f3 z' =>
          refine ⟨.ref a' :: fs, PySem.W.KatTups.cons e1 e2 e3 (by rw [← Array.getElem?_toList, hv]; rfl) k1, by rw [List.length_cons, List.length_cons, k2], fun v hv => ?_⟩
          rcases List.mem_cons.mp hv with rfl | hv
          · exact ⟨a', o', rfl, f1, f2⟩
          · exact k3 v hv
section
variable {prog : Program} {w : World} {A : Around} {E : Value → Shared → Prop} {s : Shared}
/-- sorted(a set) -/
theorem sorted_setD {a : Addr} {o : Obj} {es : Array (Int × Value)} {ep : Nat} {t : SetTable} {κ : SortKind} {Q : Value → Shared → Prop} (hh : A.handled = none) (ho : s.heap.get? a = some o) (hex : o.ExactSet) (hd : o.data = .set es ep t) (ok : TOk t es) (hled : t.led = !byT w) (h64 : es.size < 64)
    (h : ∀ os : List Value, os.Perm (es.toList.map (·.2)) → ∃ lt : Nat → Nat → Bool, (2 ≤ os.length → ∀ s' : Shared, Keep s.heap s'.heap →
      (∀ (Q : SortKind → Shared → Prop) (E : Value → Shared → Prop), Q κ s' → wpAny (model prog w) A.in1.in1 (keyKind' os.toArray) Q E s') ∧
      ∀ i j, i < os.length → j < os.length → ∀ (Q : Bool → Shared → Prop), Q (lt i j) s' → wpAny (model prog w) A.in1.in1 (keyLt' κ (os.getD i Value.none) (os.getD j Value.none)) Q (fun _ _ => False) s') ∧
      ∀ (h1 h2 : Heap) dr e, Keep s.heap h1 → Keep h1 h2 → h2.get? h1.objs.size = some (seqObj "list" (List.toArray ((srt lt os.length).map fun i => os.getD i Value.none)) e) → Q (.ref h1.objs.size) { s with heap := h2, drawn := dr }) :
    wpAny (model prog w) A (call (.builtin "sorted") [.ref a]) Q E s := by
  refine Calls.call_function_entry kind_sorted plain_sorted entry_sorted (args_sorted1 _) ?_
  unfold Builtin.«sorted»
  refine wpAny_bind (m := checkCount "sorted" 1 1 _) (wpAny_pure ?_)
  refine wpAny_bind (collect_setD (A := A.in1) hh ho hex hd ok hled (by omega) fun h1 os dr hp k1 => ?_)
  obtain ⟨lt, hk, h⟩ := h os hp
  have hol : os.length < 64 := by rw [hp.length_eq, List.length_map, Array.length_toList]; exact h64
  refine wpAny_bind (wpAny_newList ?_ (by rw [sizeLine_eq]; omega))
  have hoL : (h1.push (seqObj "list" os.toArray 0)).get? h1.objs.size = some (seqObj "list" os.toArray 0) := Heap.get?_push_size _ rfl
  have keep : Keep h1 (h1.push (seqObj "list" os.toArray 0)) := fun b o q => Heap.get?_push_of_some _ q
  show wpAny _ _ _ _ _ { s with heap := h1.push (seqObj "list" os.toArray 0), drawn := dr }
  refine wpAny_bind (wpAny_holding (wpAny_call_entry slot_list_sort ⟨_, hoL, rfl⟩ entry_list_sort ?body (args_list_sort _)))
  case body =>
    refine list_sort_by (κ := κ) (lt := lt) hoL hol (fun h2 s' k => hk h2 s' fun b o e => k b o (Nat.ne_of_lt (Heap.lt_size (k1 b o e))) (keep b o (k1 b o e))) ?_
    obtain ⟨e, he⟩ := sortedHeap_at (out := List.toArray ((srt lt os.length).map fun i => os.getD i Value.none)) hoL
    refine ⟨_, rfl, wpAny_pure ⟨_, rfl, h h1 _ dr e k1 (fun b ob q => ?_) he⟩⟩
    exact (sortedHeap_old (Nat.ne_of_lt (Heap.lt_size q)) (by rw [size_push']; exact Nat.lt_succ_of_lt (Heap.lt_size q))).trans (keep b ob q)
end
/-! ### sorted(set(a list of tuples)) -/
def RL (R : Value → PyData → Prop) : List Value → List PyData → Prop
  | [], [] => True
  | v :: vs, d :: ds => R v d ∧ RL R vs ds
  | _, _ => False
theorem RL.perm {R : Value → PyData → Prop} {os vs : List Value} (p : os.Perm vs) : ∀ {ds : List PyData}, RL R vs ds → ∃ dos, dos.Perm ds ∧ RL R os dos := by
  induction p with
  | nil => intro ds h; exact ⟨ds, .refl _, h⟩
  | cons x p ih =>
    intro ds h
    cases ds with
    | nil => exact h.elim
    | cons d ds =>
      obtain ⟨dos, p', h'⟩ := ih h.2
      exact ⟨d :: dos, p'.cons d, h.1, h'⟩
  | swap x y l =>
    intro ds h
    match ds, h with
    | d1 :: d2 :: ds, h => exact ⟨d2 :: d1 :: ds, .swap _ _ _, h.2.1, h.1, h.2.2⟩
  | trans p1 p2 ih1 ih2 =>
    intro ds h
    obtain ⟨d1, q1, h1⟩ := ih2 h
    obtain ⟨d2, q2, h2⟩ := ih1 h1
    exact ⟨d2, q2.trans q1, h2⟩
theorem RL.length {R : Value → PyData → Prop} : ∀ {vs : List Value} {ds : List PyData}, RL R vs ds → vs.length = ds.length
  | [], [], _ => rfl
  | v :: vs, d :: ds, h => by rw [List.length_cons, List.length_cons, RL.length h.2]
  | [], _ :: _, h => h.elim
  | _ :: _, [], h => h.elim
theorem RL.at {R : Value → PyData → Prop} : ∀ {vs : List Value} {ds : List PyData} {i : Nat} {v : Value} {d : PyData}, RL R vs ds → vs[i]? = some v → ds[i]? = some d → R v d
  | v :: vs, d :: ds, 0, _, _, h, h1, h2 => by cases h1; cases h2; exact h.1
  | v :: vs, d :: ds, i + 1, _, _, h, h1, h2 => RL.at h.2 (by simpa using h1) (by simpa using h2)
  | [], _, _, _, _, _, h1, _ => by simp at h1
  | _ :: _, [], _, _, _, h, _, _ => h.elim
theorem RL.els {Pv : Value → PyData → Prop} {w : World} {h : Heap} : ∀ {es : List (Int × Value)} {ds : List PyData}, Els Pv w h es ds → RL (fun v d => ∃ k, El Pv w h (k, v) d) (es.map (·.2)) ds
  | [], ds, x => by rw [els_nil x]; exact True.intro
  | e :: es, ds, x => by
    obtain ⟨d, ds', rfl, h1, h2⟩ := els_cons x
    exact ⟨⟨e.1, h1⟩, RL.els h2⟩
theorem Inv.drawn {X : Cx} {pins : List (Addr × Obj)} {σ : L2.St} {H : Hp} {s : Shared} (I : Inv X pins σ H s) (dr : Drawn) : Inv X pins σ H { s with drawn := dr } := ⟨I.ok, I.os, I.bare, I.base, I.loc, I.cell, I.free, I.freeC, I.pin, I.hok, I.len⟩
theorem RL.vals {H : Hp} {R : Value → PyData → Prop} (hR : ∀ v d, R v d → ∃ x, RelV x v ∧ Rep H d x) : ∀ {vs : List Value} {ds : List PyData}, RL R vs ds → ∃ xs : List V, Vals xs vs ∧ RepAll H ds xs
  | [], [], _ => ⟨[], .nil, rfl⟩
  | v :: vs, d :: ds, h => by
    obtain ⟨x, r1, r2⟩ := hR v d h.1
    obtain ⟨xs, r3, r4⟩ := RL.vals hR h.2
    exact ⟨x :: xs, .cons r1 r3, x, xs, rfl, r2, r4⟩
  | [], _ :: _, h => h.elim
  | _ :: _, [], h => h.elim
def rSortSet : List V → Hp → VK → Prop := fun vs H Q => ∃ (p : Addr) (xs : List V) (ds : List PyData), vs = [.ref p] ∧ H p = some (.lst xs) ∧ RepAll H ds xs ∧ (∀ d ∈ ds, KeyD d ∧ TT d) ∧ CmpA ds ∧ ds.length < 64 ∧
  ∀ (ds' : List PyData) (l : Addr) (ys : List V), ds'.Nodup → (∀ d, d ∈ ds' ↔ d ∈ ds) → H l = none → RepAll (upd H l (.lst ys)) (sortE ds') ys → Q (.ref l) (upd H l (.lst ys))
section
variable {X : Cx} {p p2 pos pos2 : Pos} {e : Expr} {t : TA}
theorem pe_sortset (hc : X.calm = true) (hu : X.A.units + 64 < cLine) (hg : Gl X "sorted") (hm : X.mg "sorted" = none) (hg2 : Gl X "set") (hm2 : X.mg "set" = none) (ha : PA X [e] t) (h1 : notStar e = true := by rfl) :
    PE X (.Call (.Name "sorted" p) [.Call (.Name "set" p2) [e] [] pos2] [] pos) (tCB rSortSet t) := by
  intro pins s σ H Q I h
  refine wpAny_Call_Name_kw (ld_blt I hg hm boot_sorted ?_ (by decide) (by decide))
  refine PyProof.Rows.callWith_builtin1 ?_ (star_cons rfl) rfl
  rw [star_cons rfl]
  show wpAny _ _ (spliced ((false, eval (.Call (.Name "set" p2) [e] [] pos2) X.env) :: backTo pos (starEach [] X.env))) _ _ s
  refine Calls.spliced_cons ?_
  refine wpAny_Call_Name_kw (ld_blt I hg2 hm2 boot_set ?_ (by decide) (by decide))
  refine PyProof.Rows.callWith_type1 (thn (ha pos2 pins s σ H _ I h) fun us s1 ⟨vs, H1, I1, r1, q1⟩ => ?_) (star_cons h1) rfl
  obtain ⟨pl, xs, ds, rfl, hp, hds, hkey, hcmp, hb, q⟩ := q1
  obtain ⟨u, rfl, ru⟩ := vals1 r1
  cases (show u = Value.ref pl from ru)
  obtain ⟨its, rv, il, hz⟩ := I1.list (SqL.of (K := X.K) hp)
  obtain ⟨as, rds⟩ := RepAll.reads I1 hds rv
  have hlay := hds.lay
  have hl1 : xs.length = ds.length := hds.length
  have hl2 : xs.length = its.length := rv.length
  refine call_setD (Pv := fun v d => ∃ i : Nat, its[i]? = some v ∧ ds[i]? = some d) (ds := ds) (I1.ok.hd hc) il.isList (by rw [List.size_toArray]; omega) (fun i v d hv hd => ?_) (by omega) (by omega) fun h' tk ds' hS hmem hlen hk ht => ?_
  · rw [List.getElem?_toArray] at hv
    obtain ⟨bs, rd⟩ := reads_at rds hv hd
    have hm' := List.mem_of_getElem? hd
    exact ⟨⟨i, hv, hd⟩, rfl, (hkey d hm').1.1, (hkey d hm').1.2.1, lay_mem hlay d hm', (hkey d hm').1.2.2, bs, rd⟩
  · obtain ⟨o, es, ep, tb, ho, hex, hdat, ok, few, els, nd, hled⟩ := hS
    have hsz : es.size = ds'.length := by have := els.1; rw [Array.length_toList] at this; exact this
    refine Calls.spliced_nil ?_
    have I2 : Inv X pins σ H1 { s1 with heap := h', toks := tk } := I1.kept hk
    refine sorted_setD (κ := tuples' false) (I1.ok.hd hc) ho hex hdat ok hled (by omega) fun os hperm => ?_
    obtain ⟨dos, pd, rl⟩ := RL.perm hperm (RL.els els)
    have hol : os.length = dos.length := rl.length
    have elt : ∀ (i : Nat) v d, os[i]? = some v → dos[i]? = some d → ∃ k, El (fun v d => ∃ i : Nat, its[i]? = some v ∧ ds[i]? = some d) X.w h' (k, v) d := fun i v d h1 h2 => rl.at h1 h2
    have hd2 : ∀ (i : Nat) d, dos[i]? = some d → d ∈ ds := fun i d h => (hmem d).mp (pd.mem_iff.mp (List.mem_of_getElem? h))
    refine ⟨ltE dos, fun h2 s' kp => ⟨fun Q' E' hq => ?_, fun i j hi hj Q' hq => ?_⟩, fun h1 h2 dr e kp1 kp2 hg3 => ?_⟩
    · obtain ⟨fs, k1, k2, k3⟩ := kinds_tt (h := s'.heap) os dos hol fun i v d h1 h2 => by
        obtain ⟨k, el⟩ := elt i v d h1 h2
        obtain ⟨bs, rd⟩ := el.reads
        exact ⟨(hkey d (hd2 i d h2)).2, bs, Reads.keeps kp rd⟩
      refine PySem.W.kat_kind (T := Value.type "tuple") k1 (by omega) (fun v hv => ?_) rfl hq
      obtain ⟨a, o, rfl, g1, g2⟩ := k3 v hv
      rw [← g2]
      exact (PySem.W.Looks.ld g1).andThen .now
    · have hi' : i < dos.length := by omega
      have hj' : j < dos.length := by omega
      obtain ⟨k, el⟩ := elt i _ _ (List.getElem?_eq_getElem hi) (List.getElem?_eq_getElem hi')
      obtain ⟨k', el'⟩ := elt j _ _ (List.getElem?_eq_getElem hj) (List.getElem?_eq_getElem hj')
      obtain ⟨bs, rd⟩ := el.reads
      obtain ⟨bs', rd'⟩ := el'.reads
      have e1 : os.getD i Value.none = os[i] := by rw [List.getD_eq_getElem?_getD, List.getElem?_eq_getElem hi]; rfl
      have e2 : os.getD j Value.none = os[j] := by rw [List.getD_eq_getElem?_getD, List.getElem?_eq_getElem hj]; rfl
      have e3 : dos.getD i .none = dos[i] := by rw [List.getD_eq_getElem?_getD, List.getElem?_eq_getElem hi']; rfl
      have e4 : dos.getD j .none = dos[j] := by rw [List.getD_eq_getElem?_getD, List.getElem?_eq_getElem hj']; rfl
      rw [e1, e2]
      have hcm : Cmp dos[i] dos[j] := hcmp.1 _ (hd2 i _ (List.getElem?_eq_getElem hi')) _ (hd2 j _ (List.getElem?_eq_getElem hj'))
      refine key_lt (Reads.keeps kp rd) (Reads.keeps kp rd') el.tup el'.tup el.lay el'.lay hcm ?_ ?_
      · have := el.deep
        have := Nat.min_le_left (dos[i]).depth (dos[j]).depth
        show X.A.units + 1 + 1 + _ < _
        omega
      · rw [ltD_enc hcm]
        have : ltE dos i j = decide (enc dos[i] < enc dos[j]) := by unfold ltE; rw [e3, e4]
        rw [← this]
        exact hq
    · obtain ⟨vos, v1, v2⟩ := RL.vals (H := H1) (fun v d ⟨k, el⟩ => by
        obtain ⟨i, g1, g2⟩ := el.own
        obtain ⟨x, x1, x2⟩ := hds.get g2
        obtain ⟨u, u1, u2⟩ := rv.get x1
        have : u = v := by rw [u1] at g1; cases g1; rfl
        subst this
        exact ⟨x, u2, x2⟩) rl
      have hvl : vos.length = dos.length := v2.length
      have hvl2 := pd.length_eq
      have I3 : Inv X pins σ H1 { s1 with heap := h1, toks := tk, drawn := dr } := (L3.Inv.drawn I2 dr).kept (t' := tk) kp1
      have hl : ∀ i ∈ srt (ltE dos) os.length, i < vos.length := fun i hi => by have := srt_lt _ _ i hi; omega
      have hn : H1 h1.objs.size = none := I3.hok.fresh (Nat.le_refl _)
      have hv := Vals.pick v1 hl
      have hz' : ((srt (ltE dos) os.length).map fun i => vos.getD i .non).length ≤ sizeLine := by rw [List.length_map, srt_length, sizeLine_eq]; omega
      have hsame : Same H1 (upd H1 h1.objs.size (.lst ((srt (ltE dos) os.length).map fun i => vos.getD i .non))) := fun b o q => by rw [upd_ne (ne_of_none q hn)]; exact q
      refine ⟨.ref h1.objs.size, _, I3.laid (t' := tk) (o := .lst ((srt (ltE dos) os.length).map fun i => vos.getD i .non)) kp2 (Nat.le_refl _) ⟨hz', _, e, hv, hg3⟩, rfl, q dos _ _ (pd.nodup_iff.mpr nd) (fun d => (pd.mem_iff).trans (hmem d)) hn ?_⟩
      unfold sortE
      rw [← hol]
      exact (RepAll.pick v2 (is := srt (ltE dos) os.length) fun i hi => by have := hl i hi; omega).same hsame
end
end L3

set_option maxHeartbeats 4000000
namespace L3
open PySem PySem.Spec PyProof.Rows L2
/-! ### a dict of the module, by subscript -/
def rIxD (prog : Program) (w : World) (K : PySem.W.Frag) : R2 := fun x y H Q => ∃ (p : Addr) (k : Str) (o : Obj) (kvs : List (Str × Value)) (v : Int) (t : Tok), x = .ref p ∧ y = .str k ∧ K.lookup p = some o ∧ o.IsDictOf (strKind prog w) kvs ∧ valueAt kvs k = some (.int v t) ∧ Q (.int v) H
section
variable {X : Cx} {x : Str} {pos : Pos}
theorem ix_dict : IxR X (rIxD X.prog X.w X.K) := by
  intro value slice pins s σ H x y v u Q I rx ry h hs
  obtain ⟨p, k, o, kvs, n, t, rfl, rfl, hk, hd, hv, q⟩ := h
  cases rx
  obtain ⟨t', rfl⟩ := ry
  have hm : s.heap.DictOf (strKind X.prog X.w) p kvs := Heap.dictOf_iff.mpr ⟨o, I.kIn p o hk, hd⟩
  exact tail_any hm.typeIs slot_dict_getitem.lookup (wpAny_getItem_of (strKind_is _ _ k t') hm.mapOf hv ⟨.int n, H, I.tok _, ⟨t, rfl⟩, q⟩) hs
theorem pe_globR {a : Addr} (h : X.mg x = some (.ref a)) (hg : Gl X x) (hd : (x == ("__debug__" : Str)) = false := by decide) : PE X (.Name x pos) (tC (.ref a)) := pe_glob hg h rfl hd
/-- sorted(a list of tuples that begin with tuples) -/
theorem call_sortedE (hu : X.A.units + 64 < cLine) : CallR X (.builtin "sorted") (fun vs H Q => ∃ p xs ds, vs = [.ref p] ∧ H p = some (.lst xs) ∧ RepAll H ds xs ∧ (∀ d ∈ ds, KeyD d ∧ TT d) ∧ CmpA ds ∧ ds.length < 64 ∧
    ∀ l ys, H l = none → RepAll (upd H l (.lst ys)) (sortE ds) ys → Q (.ref l) (upd H l (.lst ys))) := by
  intro pins s σ H xs us Q I r h
  obtain ⟨p, xs, ds, rfl, hp, hds, hkey, hcmp, h64, q⟩ := h
  obtain ⟨u, rfl, r1⟩ := vals1 r
  cases (show u = Value.ref p from r1)
  obtain ⟨its, rv, pl, hz⟩ := I.list (SqL.of (K := X.K) hp)
  have l1 : xs.length = ds.length := hds.length
  have l2 : xs.length = its.length := rv.length
  obtain ⟨as, rds⟩ := RepAll.reads I hds rv
  have hlay := hds.lay
  refine sorted_by (κ := tuples' false) (lt := ltE ds) pl.isList (by omega) (fun h2 s' k => ⟨fun Q' E' hq => ?_, fun i j hi hj Q' hq => ?_⟩) ?_
  · obtain ⟨fs, k1, k2, k3⟩ := kinds_tt (h := s'.heap) its ds (by omega) fun i v d h1 h2 => by
      obtain ⟨bs, rd⟩ := reads_at rds h1 h2
      exact ⟨(hkey d (List.mem_of_getElem? h2)).2, bs, Reads.keeps k rd⟩
    refine PySem.W.kat_kind (T := Value.type "tuple") k1 (by omega) (fun v hv => ?_) rfl hq
    obtain ⟨a, o, rfl, g1, g2⟩ := k3 v hv
    rw [← g2]
    exact (PySem.W.Looks.ld g1).andThen .now
  · have hi' : i < ds.length := by omega
    have hj' : j < ds.length := by omega
    obtain ⟨bs, rd⟩ := reads_at rds (List.getElem?_eq_getElem hi) (List.getElem?_eq_getElem hi')
    obtain ⟨bs', rd'⟩ := reads_at rds (List.getElem?_eq_getElem hj) (List.getElem?_eq_getElem hj')
    have e1 : its.getD i Value.none = its[i] := by rw [List.getD_eq_getElem?_getD, List.getElem?_eq_getElem hi]; rfl
    have e2 : its.getD j Value.none = its[j] := by rw [List.getD_eq_getElem?_getD, List.getElem?_eq_getElem hj]; rfl
    have e3 : ds.getD i .none = ds[i] := by rw [List.getD_eq_getElem?_getD, List.getElem?_eq_getElem hi']; rfl
    have e4 : ds.getD j .none = ds[j] := by rw [List.getD_eq_getElem?_getD, List.getElem?_eq_getElem hj']; rfl
    rw [e1, e2]
    have m1 : ds[i] ∈ ds := List.getElem_mem hi'
    have m2 : ds[j] ∈ ds := List.getElem_mem hj'
    have hcm : Cmp ds[i] ds[j] := hcmp.1 _ m1 _ m2
    refine key_lt (Reads.keeps k rd) (Reads.keeps k rd') (hkey _ m1).1.2.1 (hkey _ m2).1.2.1 (lay_mem hlay _ m1) (lay_mem hlay _ m2) hcm ?_ ?_
    · have := (hkey _ m1).1.2.2
      have := Nat.min_le_left (ds[i]).depth (ds[j]).depth
      show X.A.units + 1 + 1 + _ < _
      omega
    · rw [ltD_enc hcm]
      have : ltE ds i j = decide (enc ds[i] < enc ds[j]) := by unfold ltE; rw [e3, e4]
      rw [← this]
      exact hq
  · have hl : ∀ i ∈ srt (ltE ds) its.length, i < xs.length := fun i hi => by have := srt_lt _ _ i hi; omega
    obtain ⟨e, he⟩ := sortedAll_at s.heap its (List.toArray ((srt (ltE ds) its.length).map fun i => its.getD i Value.none))
    have hn : H (s.heap.objs.size + 1) = none := I.hok.fresh (Nat.le_succ _)
    have hv := Vals.pick rv hl
    have hz' : ((srt (ltE ds) its.length).map fun i => xs.getD i .non).length ≤ sizeLine := by rw [List.length_map, srt_length]; omega
    have hsame : Same H (upd H (s.heap.objs.size + 1) (.lst ((srt (ltE ds) its.length).map fun i => xs.getD i .non))) := fun b o q => by rw [upd_ne (ne_of_none q hn)]; exact q
    refine ⟨.ref (s.heap.objs.size + 1), _, I.laid (t' := s.toks) (o := .lst ((srt (ltE ds) its.length).map fun i => xs.getD i .non)) (fun b u e => sortedAll_old e) (Nat.le_succ _) ⟨hz', _, e, hv, he⟩, rfl, q _ _ hn ?_⟩
    unfold sortE
    rw [← l1, l2]
    exact (RepAll.pick hds (is := srt (ltE ds) its.length) fun i hi => by have := hl i hi; omega).same hsame
end
end L3

set_option maxHeartbeats 4000000
namespace K05
open PySem PyProof.Rows L2 L3
def top (i : Nat) : Stmt := PySem.Challenge.pw_coverpieces_k05_forms_of_modes.main.body.getD i (.Pass ⟨0, 0, 0, 0⟩)
abbrev sTd : Stmt := top 2
abbrev sMir : Stmt := top 3
abbrev sTr : Stmt := top 4
abbrev sCell : Stmt := top 7
abbrev sState : Stmt := top 8
abbrev sNext : Stmt := top 9
abbrev sDrawn : Stmt := top 10
abbrev sSigns : Stmt := top 11
abbrev sGrown : Stmt := top 12
abbrev sShift : Stmt := top 13
abbrev sForm : Stmt := top 14
abbrev sWhole : Stmt := top 15
abbrev sSpot : Stmt := top 16
abbrev sHangs : Stmt := top 17
abbrev sIsf : Stmt := top 18
abbrev sLt : Stmt := top 19
abbrev sForms : Stmt := top 5
abbrev sLaw : Stmt := top 20
def blts : List Str := ["len", "min", "max", "sorted", "tuple", "list", "isinstance", "bool", "range", "str", "int", "all", "set"]
section
variable {P : Program} {w : World} {K : PySem.W.Frag} {mg : Str → Option Value} {base : Heap} {f : Addr} {fd : FuncData}
theorem pw60 : (0 : Int) < 10 ^ (Int.toNat 60) := by decide
theorem pwM : (0 : Int) < 2305843009213693951 := by decide
/-! ### the script's cell -/
def spCell (K : PySem.W.Frag) : Sp := fun vs H Q _ => ∃ (a : Addr) (ns : List Int) (k : Int), vs = [.ref a, .int k] ∧ SqL K H a (ns.map V.int) ∧ 0 ≤ k ∧ ∀ c : Int, Q (.int c) H
theorem scCell : FnScope ["_law_script", "_law_k"] ["_law_script", "_law_k"] (defScope sCell) := ⟨rfl, rfl, rfl, by decide +kernel, rfl, by decide +kernel, by decide +kernel⟩
theorem ok_cell (B : ∀ x ∈ blts, mg x = none) (F : Fun K "_law_cell_at" "_law_cell_at" sCell f fd) : FnOk P w K mg base CX0 1 f fd ["_law_script", "_law_k"] (spCell K) := by
  refine F.ok (k := 0) scCell (fun vs H Q E h => ?_) (fun cdv A outer s H vs Q E hr h => ?_)
  · obtain ⟨a, ns, k, rfl, _⟩ := h
    rfl
  obtain ⟨a, ns, k, rfl, ha, hk, q⟩ := h
  refine ⟨_, (pss_cons (ps_if (pt_cmpR op_lt (pv 1) (pe_cB call_len_seq rfl (B "len" (by decide)) PySem.boot_len (pa_c (pv 0) pa_nil)) (nomark _)) (pss_one (ps_ret (pe_op op_mod (pe_ix ix_list (pv 0) (pv 1) (fun _ _ => rfl)) (pe_op op_pow pe_int pe_int)))) pss_nil)
    (pss_one (ps_ret pe_int))), ?_⟩
  refine ⟨_, rfl, _, rfl, a, _, rfl, .inl ha, _, _, rfl, rfl, _, rfl, ?_⟩
  refine ite2 (fun c => ?_) (fun c => ?_)
  · have c' : k < (((ns.map V.int).length : Nat) : Int) := of_decide_eq_true c
    rw [List.length_map] at c'
    obtain ⟨j, rfl⟩ := Int.eq_ofNat_of_zero_le hk
    have hj : j < ns.length := by omega
    have hv : atI (ns.map V.int) (j : Int) = some (.int ns[j]) := atI_nat (by rw [List.getElem?_map, List.getElem?_eq_getElem hj]; rfl)
    refine ⟨_, rfl, _, rfl, a, _, _, _, rfl, rfl, ha, hv, _, _, rfl, rfl, ⟨by decide, by decide, by decide⟩, _, _, rfl, rfl, pw60, q _⟩
  · exact q _

/-! ### the draws' state -/
def spState : Sp := fun vs H Q _ => ∃ c k : Int, vs = [.int c, .int k] ∧ ∀ p n, H p = none → Q (.ref p) (upd H p (.lst [.int n]))
theorem scState : FnScope ["_law_cell", "_law_k"] ["_law_cell", "_law_k"] (defScope sState) := ⟨rfl, rfl, rfl, by decide +kernel, rfl, by decide +kernel, by decide +kernel⟩
theorem ok_state (F : Fun K "_law_state" "_law_state" sState f fd) : FnOk P w K mg base CX0 1 f fd ["_law_cell", "_law_k"] spState := by
  refine F.ok (k := 0) scState (fun vs H Q E h => ?_) (fun cdv A outer s H vs Q E hr h => ?_)
  · obtain ⟨c, k, rfl, _⟩ := h
    rfl
  obtain ⟨c, k, rfl, q⟩ := h
  refine ⟨_, (pss_one (ps_ret (pe_lst (pa_c (pe_op op_mod (pe_op op_add (pe_op op_add (pe_op op_mul (pe_op op_mod (pv 0) (pe_op op_pow pe_int pe_int)) pe_int) (pe_op op_mul pe_int (pv 1))) pe_int) pe_int) pa_nil)))), ?_⟩
  refine ⟨_, rfl, _, _, rfl, rfl, ⟨by decide, by decide, by decide⟩, _, _, rfl, rfl, pw60, _, _, rfl, rfl, .inr ⟨by decide, by decide⟩, _, rfl, _, _, rfl, rfl, .inl ⟨by decide, by decide⟩, _, _, rfl, rfl, _, _, rfl, rfl, _, _, rfl, rfl, pwM,
    (by show 1 ≤ sizeLine; decide), fun p hp => q p _ hp⟩


/-! ### a draw -/
def StL (xs : List V) : Prop := ∃ n : Int, xs = [.int n] ∨ xs = [.int n, .int 0]
def spNext : Sp := fun vs H Q _ => ∃ (st : Addr) (n : List V) (m : Int), vs = [.ref st, .int m] ∧ H st = some (.lst n) ∧ StL n ∧ 0 < m ∧ m ≤ 1000 ∧ ∀ (n' : List V) (i : Int), StL n' → 0 ≤ i → i < m → Q (.int i) (upd H st (.lst n'))
theorem scNext : FnScope ["_law_state_here", "_law_many", "_law_digit"] ["_law_state_here", "_law_many"] (defScope sNext) := ⟨rfl, rfl, rfl, by decide +kernel, rfl, by decide +kernel, by decide +kernel⟩
theorem ok_next (B : ∀ x ∈ blts, mg x = none) (F : Fun K "_law_next" "_law_next" sNext f fd) : FnOk P w K mg base CX0 1 f fd ["_law_state_here", "_law_many"] spNext := by
  refine F.ok (k := 0) scNext (fun vs H Q E h => ?_) (fun cdv A outer s H vs Q E hr h => ?_)
  · obtain ⟨st, n, m, rfl, _⟩ := h
    rfl
  obtain ⟨st, sx, m, rfl, hst, ⟨n, hn⟩, hm, hm1, q⟩ := h
  refine ⟨_, (pss_cons (ps_if (pt_cmpR op_eq (pe_cB call_len_seq rfl (B "len" (by decide)) PySem.boot_len (pa_c (pv 0) pa_nil)) pe_int (nomark _)) (pss_cons (ps_set (i := 2) scNext.nd rfl (Or.inl rfl) (pe_op op_mod (pe_ix ix_list (pv 0) pe_int (fun _ _ => rfl)) (pv 1)))
    (pss_cons (ps_asg (pe_op op_fdiv (pe_ix ix_list (pv 0) pe_int (fun _ _ => rfl)) (pv 1)) (pg_sub (pv 0) pe_int set_list))
    (pss_one (ps_ret (pv 2))))) pss_nil)
    (pss_cons (ps_asg (pe_op op_mod (pe_op op_add (pe_op op_mul (pe_ix ix_list (pv 0) pe_int (fun _ _ => rfl)) pe_int) pe_int) pe_int) (pg_sub (pv 0) pe_int set_list))
    (pss_one (ps_ret (pe_op op_mod (pe_op op_fdiv (pe_ix ix_list (pv 0) pe_int (fun _ _ => rfl)) pe_int) (pv 1)))))), ?_⟩
  rcases hn with rfl | rfl
  · refine ⟨_, rfl, st, _, rfl, .inl (SqL.of hst), rfl, false, rfl, iteF ?_⟩
    refine ⟨_, rfl, st, _, _, _, rfl, rfl, SqL.of hst, rfl, _, _, rfl, rfl, .inr ⟨by decide, by decide⟩, _, _, rfl, rfl, _, _, rfl, rfl, pwM, ?_⟩
    refine ⟨_, rfl, st, _, _, 0, rfl, rfl, hst, rfl, ?_⟩
    refine ⟨_, rfl, st, _, _, _, rfl, rfl, SqL.of upd_same, rfl, _, _, rfl, rfl, ⟨by decide, by decide⟩, _, rfl, _, _, rfl, rfl, hm, ?_⟩
    exact q _ _ ⟨_, .inl rfl⟩ (Int.emod_nonneg _ (by omega)) (Int.emod_lt_of_pos _ hm)
  · refine ⟨_, rfl, st, _, rfl, .inl (SqL.of hst), rfl, true, rfl, iteT ?_⟩
    refine ⟨_, rfl, st, _, _, _, rfl, rfl, SqL.of hst, rfl, _, rfl, _, _, rfl, rfl, hm, ?_⟩
    refine ⟨_, rfl, st, _, _, _, rfl, rfl, SqL.of hst, rfl, _, rfl, _, _, rfl, rfl, ⟨hm, by omega⟩, ?_⟩
    refine ⟨_, rfl, st, _, _, 0, rfl, rfl, hst, rfl, ?_⟩
    exact ⟨_, rfl, q _ _ ⟨_, .inr rfl⟩ (Int.emod_nonneg _ (by omega)) (Int.emod_lt_of_pos _ hm)⟩
abbrev FnNext (P : Program) (w : World) (K : PySem.W.Frag) (mg : Str → Option Value) (base : Heap) : Prop := Fn P w K mg base "_law_next" 1 ["_law_state_here", "_law_many"] spNext
/-! ### the state of a cell -/
def spDrawn (K : PySem.W.Frag) : Sp := fun vs H Q _ => ∃ (a : Addr) (ns : List Int) (k : Int), vs = [.ref a, .int k] ∧ SqL K H a (ns.map V.int) ∧ 0 ≤ k ∧ ∀ p n, StL n → H p = none → Q (.ref p) (upd H p (.lst n))
theorem scDrawn : FnScope ["_law_script", "_law_k"] ["_law_script", "_law_k"] (defScope sDrawn) := ⟨rfl, rfl, rfl, by decide +kernel, rfl, by decide +kernel, by decide +kernel⟩
theorem ok_drawn (B : ∀ x ∈ blts, mg x = none) (Fcell : Fn P w K mg base "_law_cell_at" 1 ["_law_script", "_law_k"] (spCell K)) (Fstate : Fn P w K mg base "_law_state" 1 ["_law_cell", "_law_k"] spState) (F : Fun K "_law_drawn" "_law_drawn" sDrawn f fd) : FnOk P w K mg base CX0 2 f fd ["_law_script", "_law_k"] (spDrawn K) := by
  refine F.ok (k := 1) scDrawn (fun vs H Q E h => ?_) (fun cdv A outer s H vs Q E hr h => ?_)
  · obtain ⟨a, ns, k, rfl, _⟩ := h
    rfl
  obtain ⟨a, ns, k, rfl, hS, hk, q⟩ := h
  refine ⟨_, (pss_cons (ps_if (pt_cmpR op_eq (pe_op op_mod (pe_fn Fcell hr (by decide) rfl (pa_c (pv 0) (pa_c pe_int pa_nil))) pe_int) pe_int (nomark _)) (pss_one (ps_ret (pe_lst (pa_c (pe_op op_fdiv (pe_fn Fcell hr (by decide) rfl (pa_c (pv 0) (pa_c (pv 1) pa_nil))) (pe_op op_add pe_int (pe_cT call_int1 rfl (B "int" (by decide)) PyProof.Rows.boot_int (pa_c (pe_cmpR op_eq (pv 1) pe_int (nomark _)) pa_nil)))) (pa_c pe_int pa_nil))))) pss_nil)
    (pss_one (ps_ret (pe_fn Fstate hr (by decide) rfl (pa_c (pe_fn Fcell hr (by decide) rfl (pa_c (pv 0) (pa_c (pv 1) pa_nil))) (pa_c (pv 1) pa_nil)))))), ?_⟩
  refine ⟨_, rfl, a, ns, 0, rfl, hS, by decide, fun c => ⟨_, _, rfl, rfl, (by show (0 : Int) < 2; decide), rfl, _, rfl, ?_⟩⟩
  refine ite2 (fun h1 => ?_) (fun h1 => ?_)
  · refine ⟨_, rfl, _, rfl, a, ns, k, rfl, hS, hk, fun c1 => ?_⟩
    refine ⟨_, rfl, rfl, .inr ⟨_, rfl, _, _, rfl, rfl, _, _, rfl, rfl, ?_, (by show 2 ≤ sizeLine; decide), fun p hp => ?_⟩⟩
    · constructor <;> (split <;> decide)
    · exact q p _ ⟨_, .inr rfl⟩ hp
  · refine ⟨_, rfl, _, rfl, a, ns, k, rfl, hS, hk, fun c1 => ?_⟩
    exact ⟨_, rfl, c1, k, rfl, fun p n hp => q p _ ⟨n, .inl rfl⟩ hp⟩
/-! ### the signs -/
def SgOk (x : Str) : Prop := 0 < x.length ∧ x.length ≤ 26 ∧ ∀ c ∈ x.cps.toList, 65 ≤ c ∧ c ≤ 90
def spSigns : Sp := fun vs H Q _ => ∃ (st : Addr) (n : List V), vs = [.ref st] ∧ H st = some (.lst n) ∧ StL n ∧ ∀ (x : Str) (H' : Hp) (n' : List V), SgOk x → Ex [st] H H' → H' st = some (.lst n') → StL n' → Q (.str x) H'
theorem scSigns : FnScope ["_law_state_here"] ["_law_state_here"] (defScope sSigns) := ⟨rfl, rfl, rfl, by decide +kernel, rfl, by decide +kernel, by decide +kernel⟩
theorem pick {α : Type} {xs : List α} {i : Int} (h0 : 0 ≤ i) (h1 : i < xs.length) : ∃ x, atI xs i = some x ∧ x ∈ xs := by
  obtain ⟨j, rfl⟩ := Int.eq_ofNat_of_zero_le h0
  have hj : j < xs.length := by omega
  exact ⟨xs[j], atI_nat (List.getElem?_eq_getElem hj), List.getElem_mem hj⟩
theorem sgL {z : Str} (h : 0 < z.length ∧ z.length ≤ 26 ∧ z.cps.toList.all (fun c => decide (65 ≤ c) && decide (c ≤ 90)) = true) : SgOk z := ⟨h.1, h.2.1, fun c hc => by simpa using List.all_eq_true.mp h.2.2 c hc⟩
theorem ok_signs (Fnext : FnNext P w K mg base) (F : Fun K "_law_signs" "_law_signs" sSigns f fd) : FnOk P w K mg base CX0 2 f fd ["_law_state_here"] spSigns := by
  refine F.ok (k := 1) scSigns (fun vs H Q E h => ?_) (fun cdv A outer s H vs Q E hr h => ?_)
  · obtain ⟨st, n, rfl, _⟩ := h
    rfl
  obtain ⟨st, n, rfl, hst, hn, q⟩ := h
  refine ⟨_, (pss_one (ps_ret (pe_ix ix_list (pe_lst (pa_c pe_str (pa_c pe_str (pa_c pe_str (pa_c pe_str pa_nil))))) (pe_fn Fnext hr (by decide) rfl (pa_c (pv 0) (pa_c pe_int pa_nil))) (fun _ _ => rfl)))), ?_⟩
  refine ⟨(by show 4 ≤ sizeLine; decide), fun p hp => ?_⟩
  have hne : p ≠ st := fun e => by rw [e, hst] at hp; cases hp
  refine ⟨_, rfl, st, n, 4, rfl, by rw [upd_ne (Ne.symm hne)]; exact hst, hn, by decide, by decide, fun n' i hn' h0 h4 => ?_⟩
  obtain ⟨x, hx, hm⟩ := pick (α := V) (xs := [V.str "ABCDEFGHIJKLMNOPQRSTUVWXYZ", V.str "AB", V.str "A", V.str "QZ"]) h0 h4
  have hs : ∃ z, x = .str z ∧ SgOk z := by
    simp only [List.mem_cons, List.not_mem_nil, or_false] at hm
    rcases hm with rfl | rfl | rfl | rfl <;> exact ⟨_, rfl, sgL (by decide +kernel)⟩
  obtain ⟨z, rfl, hz⟩ := hs
  refine ⟨p, _, i, _, rfl, rfl, SqL.of (by rw [upd_ne hne]; exact upd_same), hx, ?_⟩
  exact q z _ n' hz ((Ex.fresh hp).trans (Ex.upd (by simp))) upd_same hn'
end
end K05

set_option maxHeartbeats 8000000
namespace K05
open PySem PyProof.Rows L2 L3
section
variable {P : Program} {w : World} {K : PySem.W.Frag} {mg : Str → Option Value} {base : Heap} {f : Addr} {fd : FuncData}
def spMap (g : List PyData → List PyData) : Sp := fun vs H Q _ => ∃ (a : Addr) (xs : List V) (ds : List PyData), vs = [.ref a] ∧ H a = some (.lst xs) ∧ RepAll H ds xs ∧ Spots ds ∧ 0 < ds.length ∧ ds.length < 64 ∧
  ∀ (D : Addr) (ys : List V) (H' : Hp), Same H H' → H' D = some (.lst ys) → RepAll H' (g ds) ys → Q (.ref D) H'
theorem scMir : FnScope ["spots", "last"] ["spots"] (defScope sMir) := ⟨rfl, rfl, rfl, by decide +kernel, rfl, by decide +kernel, by decide +kernel⟩
theorem scTr : FnScope ["spots", "last"] ["spots"] (defScope sTr) := ⟨rfl, rfl, rfl, by decide +kernel, rfl, by decide +kernel, by decide +kernel⟩
theorem hmir (m : Int) (r c : Int) (z : Str) (H' : Hp) (Q' : VK) (h : ∃ u v : Int, mir1 m (.tuple [.int r, .int c, .str z]) = .tuple [.int u, .int v, .str z] ∧ ∀ n, H' n = none → Q' (.ref n) (upd H' n (.tup [.int u, .int v, .str z]))) :
    tTup (tCons (tVar 0) (tCons (tOp (rI0 fun i j => .int (i - j)) (tVar 3) (tVar 1)) (tCons (tVar 2) tNil))) [some (.int r), some (.int c), some (.str z), some (.int m)] H' Q' := by
  obtain ⟨u, v, e, q⟩ := h
  cases (show PyData.tuple [.int r, .int (m - c), .str z] = .tuple [.int u, .int v, .str z] from e)
  exact ⟨_, rfl, _, rfl, _, rfl, _, _, rfl, rfl, _, rfl, (by show 3 ≤ sizeLine; decide), q⟩
theorem htur (m : Int) (r c : Int) (z : Str) (H' : Hp) (Q' : VK) (h : ∃ u v : Int, tur1 m (.tuple [.int r, .int c, .str z]) = .tuple [.int u, .int v, .str z] ∧ ∀ n, H' n = none → Q' (.ref n) (upd H' n (.tup [.int u, .int v, .str z]))) :
    tTup (tCons (tVar 1) (tCons (tOp (rI0 fun i j => .int (i - j)) (tVar 3) (tVar 0)) (tCons (tVar 2) tNil))) [some (.int r), some (.int c), some (.str z), some (.int m)] H' Q' := by
  obtain ⟨u, v, e, q⟩ := h
  cases (show PyData.tuple [.int c, .int (m - r), .str z] = .tuple [.int u, .int v, .str z] from e)
  exact ⟨_, rfl, _, rfl, _, rfl, _, _, rfl, rfl, _, rfl, (by show 3 ≤ sizeLine; decide), q⟩
theorem ok_mir (B : ∀ x ∈ blts, mg x = none) (F : Fun K "mirrored" "mirrored" sMir f fd) : FnOk P w K mg base CX0 1 f fd ["spots"] (spMap mirD) := by
  refine F.ok (k := 0) scMir (fun vs H Q E h => ?_) (fun cdv A outer s H vs Q E hr h => ?_)
  · obtain ⟨a, xs, ds, rfl, _⟩ := h
    rfl
  obtain ⟨a, xs, ds, rfl, ha, hrep, hs, hpos, h64, q⟩ := h
  refine ⟨_, (pss_cons (ps_set (i := 1) scMir.nd rfl (Or.inr rfl) (pe_maxD rfl rfl (B "max" (by decide)) (pa_c (pe_comp ["spot"] [none] rfl rfl (by decide +kernel) (by decide +kernel) rfl rfl (pi_list (pv 0)) (fun _ => (pg_name (i := 0) (show (["spot"] : List PySem.Str).Nodup by decide +kernel) rfl (Or.inl rfl))) (fun _ => pts_nil) (fun _ => (pe_ix ix_tupC (pv 0) pe_int (fun _ _ => rfl)))) pa_nil) (pk_cons pe_int pk_nil)))
    (pss_one (ps_ret (pe_comp ["row", "column", "sign", "last"] [none, none, none, some 1] rfl rfl (by decide +kernel) (by decide +kernel) rfl rfl (pi_list (pv 0)) (fun _ => (pg_tupC (n := 3) rfl (pgs_cons (pg_name (i := 0) (show (["row", "column", "sign", "last"] : List PySem.Str).Nodup by decide +kernel) rfl (Or.inl rfl)) (pgs_cons (pg_name (i := 1) (show (["row", "column", "sign", "last"] : List PySem.Str).Nodup by decide +kernel) rfl (Or.inl rfl)) (pgs_cons (pg_name (i := 2) (show (["row", "column", "sign", "last"] : List PySem.Str).Nodup by decide +kernel) rfl (Or.inl rfl)) pgs_nil))))) (fun _ => pts_nil) (fun _ => (pe_tup (pa_c (pv 0) (pa_c (pe_op op_sub (pv 3) (pv 1)) (pa_c (pv 2) pa_nil))))))))), ?_⟩
  refine read_projI 1 col1 col_at rfl ha hrep hs (Nat.le_of_lt h64) fun D1 H1 s1 hD1 => ?_
  refine ⟨rfl, D1, _, rfl, hD1, by rw [List.length_map]; exact hpos, fun M1 m1 m1' => ?_⟩
  have em := maxI_eq m1 m1'
  refine read_each mir1 rfl rfl (s1 _ _ ha) (hrep.same s1) hs (Nat.le_of_lt h64) (hmir M1) (fun D ys H' hD s2 hDy rep => q D ys H' (s1.trans s2) hDy (by unfold mirD; rw [← em]; exact rep)) (fun r c z => ⟨_, _, rfl⟩)
theorem ok_tr (B : ∀ x ∈ blts, mg x = none) (F : Fun K "turned_right" "turned_right" sTr f fd) : FnOk P w K mg base CX0 1 f fd ["spots"] (spMap turD) := by
  refine F.ok (k := 0) scTr (fun vs H Q E h => ?_) (fun cdv A outer s H vs Q E hr h => ?_)
  · obtain ⟨a, xs, ds, rfl, _⟩ := h
    rfl
  obtain ⟨a, xs, ds, rfl, ha, hrep, hs, hpos, h64, q⟩ := h
  refine ⟨_, (pss_cons (ps_set (i := 1) scTr.nd rfl (Or.inr rfl) (pe_maxD rfl rfl (B "max" (by decide)) (pa_c (pe_comp ["spot"] [none] rfl rfl (by decide +kernel) (by decide +kernel) rfl rfl (pi_list (pv 0)) (fun _ => (pg_name (i := 0) (show (["spot"] : List PySem.Str).Nodup by decide +kernel) rfl (Or.inl rfl))) (fun _ => pts_nil) (fun _ => (pe_ix ix_tupC (pv 0) pe_int (fun _ _ => rfl)))) pa_nil) (pk_cons pe_int pk_nil)))
    (pss_one (ps_ret (pe_comp ["row", "column", "sign", "last"] [none, none, none, some 1] rfl rfl (by decide +kernel) (by decide +kernel) rfl rfl (pi_list (pv 0)) (fun _ => (pg_tupC (n := 3) rfl (pgs_cons (pg_name (i := 0) (show (["row", "column", "sign", "last"] : List PySem.Str).Nodup by decide +kernel) rfl (Or.inl rfl)) (pgs_cons (pg_name (i := 1) (show (["row", "column", "sign", "last"] : List PySem.Str).Nodup by decide +kernel) rfl (Or.inl rfl)) (pgs_cons (pg_name (i := 2) (show (["row", "column", "sign", "last"] : List PySem.Str).Nodup by decide +kernel) rfl (Or.inl rfl)) pgs_nil))))) (fun _ => pts_nil) (fun _ => (pe_tup (pa_c (pv 1) (pa_c (pe_op op_sub (pv 3) (pv 0)) (pa_c (pv 2) pa_nil))))))))), ?_⟩
  refine read_projI 0 row1 row_at rfl ha hrep hs (Nat.le_of_lt h64) fun D1 H1 s1 hD1 => ?_
  refine ⟨rfl, D1, _, rfl, hD1, by rw [List.length_map]; exact hpos, fun M1 m1 m1' => ?_⟩
  have em := maxI_eq m1 m1'
  refine read_each tur1 rfl rfl (s1 _ _ ha) (hrep.same s1) hs (Nat.le_of_lt h64) (htur M1) (fun D ys H' hD s2 hDy rep => q D ys H' (s1.trans s2) hDy (by unfold turD; rw [← em]; exact rep)) (fun r c z => ⟨_, _, rfl⟩)
end
end K05

set_option maxHeartbeats 8000000
namespace K05
open PySem PyProof.Rows L2 L3
def iter (i : Nat) (ds : List PyData) : List PyData := (List.range i).foldl (fun a _ => turD a) ds
theorem iter_succ (i : Nat) (ds : List PyData) : iter (i + 1) ds = turD (iter i ds) := by
  unfold iter
  rw [List.range_succ, List.foldl_append]
  rfl
section
variable {P : Program} {w : World} {K : PySem.W.Frag} {mg : Str → Option Value} {base : Heap} {f : Addr} {fd : FuncData}
def spTd : Sp := fun vs H Q _ => ∃ (a : Addr) (t : Nat) (xs : List V) (ds : List PyData), vs = [.ref a, .int (t : Nat)] ∧ H a = some (.tup xs) ∧ RepAll H ds xs ∧ Spots ds ∧ 0 < ds.length ∧ ds.length < 64 ∧ t < 8 ∧
  ∀ (r : Addr) (H' : Hp), Same H H' → Rep H' (.tuple (sortD (spotsD t ds))) (.ref r) → Q (.ref r) H'
theorem scTd : FnScope ["form", "t", "spots", "step"] ["form", "t"] (defScope sTd) := ⟨rfl, rfl, rfl, by decide +kernel, rfl, by decide +kernel, by decide +kernel⟩
theorem ok_td (B : ∀ x ∈ blts, mg x = none) (Fmir : Fn P w K mg base "mirrored" 1 ["spots"] (spMap mirD)) (Ftr : Fn P w K mg base "turned_right" 1 ["spots"] (spMap turD)) (F : Fun K "turned" "turned" sTd f fd) : FnOk P w K mg base CX0 2 f fd ["form", "t"] spTd := by
  refine F.ok (k := 1) scTd (fun vs H Q E h => ?_) (fun cdv A outer s H vs Q E hr h => ?_)
  · obtain ⟨a, t, xs, ds, rfl, _⟩ := h
    rfl
  obtain ⟨a, t, ys, ds, rfl, ha, rep0, hs0, hpos, h64, ht, q⟩ := h
  refine ⟨_, (pss_cons (ps_set (i := 2) scTd.nd rfl (Or.inl rfl) (pe_cT call_list_of rfl (B "list" (by decide)) boot_list (pa_c (pv 0) pa_nil)))
    (pss_cons (ps_if (pt_cmpR op_ge (pv 1) pe_int (nomark _)) (pss_one (ps_set (i := 2) scTd.nd rfl (Or.inl rfl) (pe_fn Fmir hr (by decide) rfl (pa_c (pv 2) pa_nil)))) pss_nil)
    (pss_cons (ps_for PassesOwn.never rfl (pi_r1 rfl (B "range" (by decide)) (pa_c (pe_op op_mod (pv 1) pe_int) pa_nil)) (pg_name (i := 3) scTd.nd rfl (Or.inl rfl)) (pss_one (ps_set (i := 2) scTd.nd rfl (Or.inl rfl) (pe_fn Ftr hr (by decide) rfl (pa_c (pv 2) pa_nil)))))
    (pss_one (ps_ret (pe_cT call_tuple_of rfl (B "tuple" (by decide)) boot_tuple (pa_c (pe_cB call_sortedD rfl (B "sorted" (by decide)) boot_sorted (pa_c (pv 2) pa_nil)) pa_nil))))))), ?_⟩
  refine ⟨_, rfl, a, ys, rfl, .inr (SqT.of ha), fun D hD0 => ?_⟩
  have sm : Same H (upd H D (.lst ys)) := Same.fresh _ hD0
  have hDy : upd H D (.lst ys) D = some (.lst ys) := upd_same
  have rep := rep0.same sm
  generalize upd H D (.lst ys) = H2 at *
  refine ⟨_, rfl, _, _, rfl, rfl, _, rfl, ?_⟩
  refine ite2 (fun h4 => ?ga) (fun h4 => ?gb)
  case' ga =>
    have h4' : 4 ≤ t := by have : (t : Int) ≥ 4 := of_decide_eq_true h4
                           omega
    refine ⟨_, rfl, D, ys, ds, rfl, hDy, rep, hs0, hpos, h64, fun D ys H3 s3 hDy rep => ?_⟩
    replace sm := sm.trans s3
    obtain ⟨ds1, e1⟩ : ∃ d, d = (if 4 ≤ t then mirD ds else ds) := ⟨_, rfl⟩
    have e2 : ds1 = mirD ds := by rw [e1, if_pos h4']
    rw [← e2] at rep
    have sp1 : Spots ds1 := by rw [e2]; exact mir_spots hs0 _
    have l1 : ds1.length = ds.length := by rw [e2]; simp [mirD]
    generalize H3 = H2 at *
  case' gb =>
    have h4' : ¬ 4 ≤ t := by have : ¬ (t : Int) ≥ 4 := by simpa using h4
                             omega
    obtain ⟨ds1, e1⟩ : ∃ d, d = (if 4 ≤ t then mirD ds else ds) := ⟨_, rfl⟩
    have e2 : ds1 = ds := by rw [e1, if_neg h4']
    rw [← e2] at rep
    have sp1 : Spots ds1 := by rw [e2]; exact hs0
    have l1 : ds1.length = ds.length := by rw [e2]
  all_goals
    refine ⟨_, rfl, _, _, rfl, rfl, (by show (0 : Int) < 4; decide), _, rfl, by omega, by omega, ?_⟩
    refine for_range (lo := 0) (fun i σ' H' => ∃ (y3 : Option V) (D : Addr) (ys : List V), σ' = [some (.ref a), some (.int (t : Nat)), some (.ref D), y3] ∧ Same H H' ∧ H' D = some (.lst ys) ∧ RepAll H' (iter i ds1) ys ∧ Spots (iter i ds1) ∧ (iter i ds1).length = ds.length) ?_ (fun i σ' H' hi h => ?_) (fun σ' H' h => ?_)
    · exact ⟨_, D, ys, rfl, sm, hDy, rep, sp1, l1⟩
    · obtain ⟨y3, D, ys, rfl, sm, hDy, rep, sp, hl⟩ := h
      refine ⟨_, rfl, D, ys, _, rfl, hDy, rep, sp, by omega, by omega, fun D2 ys2 H3 s3 hD3 rep3 => ?_⟩
      refine ⟨_, D2, ys2, rfl, sm.trans s3, hD3, by rw [iter_succ]; exact rep3, by rw [iter_succ]; exact tur_spots sp _, by rw [iter_succ]; simp [turD, hl]⟩
    · obtain ⟨y3, D, ys, rfl, sm, hDy, rep, sp, hl⟩ := h
      have et : (((t : Nat) : Int) % 4).toNat = t % 4 := by omega
      rw [et] at rep sp hl
      refine ⟨_, rfl, D, ys, _, [true, false], rfl, hDy, rep, spots_rows sp, by omega, fun l zs hl1 hz => ?_⟩
      refine ⟨l, zs, rfl, .inl ⟨SqL.of upd_same, fun l2 hl2 => ?_⟩⟩
      have s1 : Same H' (upd H' l (.lst zs)) := Same.fresh _ hl1
      have s2 : Same (upd H' l (.lst zs)) (upd (upd H' l (.lst zs)) l2 (.tup zs)) := Same.fresh _ hl2
      refine q l2 _ ((sm.trans s1).trans s2) ⟨l2, zs, rfl, upd_same, ?_⟩
      rw [show spotsD t ds = iter (t % 4) ds1 by rw [e1]; rfl]
      exact hz.same s2
theorem scLt : FnScope ["_law_form", "_law_t", "_law_spots", "_law_wide", "_law_quarter", "_law_high"] ["_law_form", "_law_t"] (defScope sLt) := ⟨rfl, rfl, rfl, by decide +kernel, rfl, by decide +kernel, by decide +kernel⟩
theorem ok_lt (B : ∀ x ∈ blts, mg x = none) (F : Fun K "_law_turned" "_law_turned" sLt f fd) : FnOk P w K mg base CX0 1 f fd ["_law_form", "_law_t"] spTd := by
  refine F.ok (k := 0) scLt (fun vs H Q E h => ?_) (fun cdv A outer s H vs Q E hr h => ?_)
  · obtain ⟨a, t, xs, ds, rfl, _⟩ := h
    rfl
  obtain ⟨a, t, ys, ds, rfl, ha, rep0, hs0, hpos, h64, ht, q⟩ := h
  refine ⟨_, (pss_cons (ps_set (i := 2) scLt.nd rfl (Or.inl rfl) (pe_cT call_list_of rfl (B "list" (by decide)) boot_list (pa_c (pv 0) pa_nil)))
    (pss_cons (ps_if (pt_cmpR op_ge (pv 1) pe_int (nomark _)) (pss_cons (ps_set (i := 3) scLt.nd rfl (Or.inr rfl) (pe_cB (call_maxL rfl) rfl (B "max" (by decide)) boot_max (pa_c (pe_comp ["_law_spot"] [none] rfl rfl (by decide +kernel) (by decide +kernel) rfl rfl (pi_list (pv 2)) (fun _ => (pg_name (i := 0) (show (["_law_spot"] : List PySem.Str).Nodup by decide +kernel) rfl (Or.inl rfl))) (fun _ => pts_nil) (fun _ => (pe_ix ix_tupC (pv 0) pe_int (fun _ _ => rfl)))) pa_nil)))
    (pss_one (ps_setC (i := 2) ["_law_row", "_law_column", "_law_sign", "_law_wide"] [none, none, none, some 3] scLt.nd rfl (Or.inl rfl) rfl rfl rfl (by decide +kernel) (by decide +kernel) rfl rfl (pi_list (pv 2)) (fun _ => (pg_tupC (n := 3) rfl (pgs_cons (pg_name (i := 0) (show (["_law_row", "_law_column", "_law_sign", "_law_wide"] : List PySem.Str).Nodup by decide +kernel) rfl (Or.inl rfl)) (pgs_cons (pg_name (i := 1) (show (["_law_row", "_law_column", "_law_sign", "_law_wide"] : List PySem.Str).Nodup by decide +kernel) rfl (Or.inl rfl)) (pgs_cons (pg_name (i := 2) (show (["_law_row", "_law_column", "_law_sign", "_law_wide"] : List PySem.Str).Nodup by decide +kernel) rfl (Or.inl rfl)) pgs_nil))))) (fun _ => pts_nil) (fun _ => (pe_tup (pa_c (pv 0) (pa_c (pe_op op_sub (pv 3) (pv 1)) (pa_c (pv 2) pa_nil)))))))) pss_nil)
    (pss_cons (ps_for PassesOwn.never rfl (pi_r1 rfl (B "range" (by decide)) (pa_c (pe_op op_mod (pv 1) pe_int) pa_nil)) (pg_name (i := 4) scLt.nd rfl (Or.inl rfl)) (pss_cons (ps_set (i := 5) scLt.nd rfl (Or.inr rfl) (pe_cB (call_maxL rfl) rfl (B "max" (by decide)) boot_max (pa_c (pe_comp ["_law_spot"] [none] rfl rfl (by decide +kernel) (by decide +kernel) rfl rfl (pi_list (pv 2)) (fun _ => (pg_name (i := 0) (show (["_law_spot"] : List PySem.Str).Nodup by decide +kernel) rfl (Or.inl rfl))) (fun _ => pts_nil) (fun _ => (pe_ix ix_tupC (pv 0) pe_int (fun _ _ => rfl)))) pa_nil)))
    (pss_one (ps_setC (i := 2) ["_law_row", "_law_column", "_law_sign", "_law_high"] [none, none, none, some 5] scLt.nd rfl (Or.inl rfl) rfl rfl rfl (by decide +kernel) (by decide +kernel) rfl rfl (pi_list (pv 2)) (fun _ => (pg_tupC (n := 3) rfl (pgs_cons (pg_name (i := 0) (show (["_law_row", "_law_column", "_law_sign", "_law_high"] : List PySem.Str).Nodup by decide +kernel) rfl (Or.inl rfl)) (pgs_cons (pg_name (i := 1) (show (["_law_row", "_law_column", "_law_sign", "_law_high"] : List PySem.Str).Nodup by decide +kernel) rfl (Or.inl rfl)) (pgs_cons (pg_name (i := 2) (show (["_law_row", "_law_column", "_law_sign", "_law_high"] : List PySem.Str).Nodup by decide +kernel) rfl (Or.inl rfl)) pgs_nil))))) (fun _ => pts_nil) (fun _ => (pe_tup (pa_c (pv 1) (pa_c (pe_op op_sub (pv 3) (pv 0)) (pa_c (pv 2) pa_nil)))))))))
    (pss_one (ps_ret (pe_cT call_tuple_of rfl (B "tuple" (by decide)) boot_tuple (pa_c (pe_cB call_sortedD rfl (B "sorted" (by decide)) boot_sorted (pa_c (pv 2) pa_nil)) pa_nil))))))), ?_⟩
  refine ⟨_, rfl, a, ys, rfl, .inr (SqT.of ha), fun D hD0 => ?_⟩
  have sm : Same H (upd H D (.lst ys)) := Same.fresh _ hD0
  have hDy : upd H D (.lst ys) D = some (.lst ys) := upd_same
  have rep := rep0.same sm
  generalize upd H D (.lst ys) = H2 at *
  refine ⟨_, rfl, _, _, rfl, rfl, _, rfl, ?_⟩
  refine ite2 (fun h4 => ?ga) (fun h4 => ?gb)
  case' ga =>
    have h4' : 4 ≤ t := by have : (t : Int) ≥ 4 := of_decide_eq_true h4
                           omega
    refine read_projI 1 col1 col_at rfl hDy rep hs0 (Nat.le_of_lt h64) fun D1 H1 s1 hD1 => ?_
    refine ⟨D1, _, rfl, hD1, by rw [List.length_map]; exact hpos, fun M1 m1 m1' => ?_⟩
    have em := maxI_eq m1 m1'
    refine read_each mir1 rfl rfl (s1 _ _ hDy) (rep.same s1) hs0 (Nat.le_of_lt h64) (hmir M1) (fun D ys H3 hD s3 hDy rep => ?_) (fun r c z => ⟨_, _, rfl⟩)
    replace sm := (sm.trans s1).trans s3
    obtain ⟨ds1, e1⟩ : ∃ d, d = (if 4 ≤ t then mirD ds else ds) := ⟨_, rfl⟩
    have e2 : ds1 = mirD ds := by rw [e1, if_pos h4']
    have e3 : ds.map (mir1 M1) = ds1 := by rw [e2]; unfold mirD; rw [← em]
    rw [e3] at rep
    have sp1 : Spots ds1 := by rw [e2]; exact mir_spots hs0 _
    have l1 : ds1.length = ds.length := by rw [e2]; simp [mirD]
    generalize H3 = H2 at *
  case' gb =>
    have h4' : ¬ 4 ≤ t := by have : ¬ (t : Int) ≥ 4 := by simpa using h4
                             omega
    obtain ⟨ds1, e1⟩ : ∃ d, d = (if 4 ≤ t then mirD ds else ds) := ⟨_, rfl⟩
    have e2 : ds1 = ds := by rw [e1, if_neg h4']
    rw [← e2] at rep
    have sp1 : Spots ds1 := by rw [e2]; exact hs0
    have l1 : ds1.length = ds.length := by rw [e2]
  all_goals
    refine ⟨_, rfl, _, _, rfl, rfl, (by show (0 : Int) < 4; decide), _, rfl, by omega, by omega, ?_⟩
    refine for_range (lo := 0) (fun i σ' H' => ∃ (y3 y4 y5 : Option V) (D : Addr) (ys : List V), σ' = [some (.ref a), some (.int (t : Nat)), some (.ref D), y3, y4, y5] ∧ Same H H' ∧ H' D = some (.lst ys) ∧ RepAll H' (iter i ds1) ys ∧ Spots (iter i ds1) ∧ (iter i ds1).length = ds.length) ?_ (fun i σ' H' hi h => ?_) (fun σ' H' h => ?_)
    · exact ⟨_, _, _, D, ys, rfl, sm, hDy, rep, sp1, l1⟩
    · obtain ⟨y3, y4, y5, D, ys, rfl, sm, hDy, rep, sp, hl⟩ := h
      refine read_projI 0 row1 row_at rfl hDy rep sp (by omega) fun D1 H1 s1 hD1 => ?_
      refine ⟨D1, _, rfl, hD1, by rw [List.length_map]; omega, fun M1 m1 m1' => ?_⟩
      have em := maxI_eq m1 m1'
      refine read_each tur1 rfl rfl (s1 _ _ hDy) (rep.same s1) sp (by omega) (htur M1) (fun D2 ys2 H3 hD s3 hD3 rep3 => ?_) (fun r c z => ⟨_, _, rfl⟩)
      have e3 : (iter i ds1).map (tur1 M1) = iter (i + 1) ds1 := by rw [iter_succ]; unfold turD; rw [← em]
      rw [e3] at rep3
      refine ⟨_, _, _, D2, ys2, rfl, (sm.trans s1).trans s3, hD3, rep3, by rw [iter_succ]; exact tur_spots sp _, by rw [iter_succ]; simp [turD, hl]⟩
    · obtain ⟨y3, y4, y5, D, ys, rfl, sm, hDy, rep, sp, hl⟩ := h
      have et : (((t : Nat) : Int) % 4).toNat = t % 4 := by omega
      rw [et] at rep sp hl
      refine ⟨_, rfl, D, ys, _, [true, false], rfl, hDy, rep, spots_rows sp, by omega, fun l zs hl1 hz => ?_⟩
      refine ⟨l, zs, rfl, .inl ⟨SqL.of upd_same, fun l2 hl2 => ?_⟩⟩
      have s1 : Same H' (upd H' l (.lst zs)) := Same.fresh _ hl1
      have s2 : Same (upd H' l (.lst zs)) (upd (upd H' l (.lst zs)) l2 (.tup zs)) := Same.fresh _ hl2
      refine q l2 _ ((sm.trans s1).trans s2) ⟨l2, zs, rfl, upd_same, ?_⟩
      rw [show spotsD t ds = iter (t % 4) ds1 by rw [e1]; rfl]
      exact hz.same s2
end
end K05

set_option maxHeartbeats 4000000
namespace K05
open PySem PyProof.Rows L2 L3
section
variable {P : Program} {w : World} {K : PySem.W.Frag} {mg : Str → Option Value} {base : Heap} {f : Addr} {fd : FuncData}


/-! ### cells that grow -/
def cl (d : PyData) : Cl := (row1 d, col1 d)
theorem cells_at {H : Hp} {cs : List PyData} {xs : List V} {i : Nat} {v : V} (h : Cells cs) (r : RepAll H cs xs) (e : xs[i]? = some v) : ∃ (a : Addr) (p q : Int), v = .ref a ∧ H a = some (.tup [.int p, .int q]) ∧ cs[i]? = some (.tuple [.int p, .int q]) := by
  obtain ⟨d, e1, e2⟩ := r.at e
  obtain ⟨p, q, rfl⟩ := h d (List.mem_of_getElem? e1)
  obtain ⟨a, e3, e4⟩ := rep_cell e2
  exact ⟨a, p, q, e3, e4, e1⟩
def spGrown : Sp := fun vs H Q _ => ∃ (st : Addr) (n : List V) (m : Int), vs = [.ref st, .int m] ∧ H st = some (.lst n) ∧ StL n ∧ 0 < m ∧ m ≤ 100 ∧
  ∀ (r : Addr) (H' : Hp) (n' : List V) (xs : List V) (cs : List PyData), H r = none → Ex [st] H H' → H' st = some (.lst n') → StL n' → H' r = some (.lst xs) → RepAll H' cs xs → Cells cs → Conn (cs.map cl) → (cs.map cl).Nodup → 0 < cs.length → (cs.length : Int) ≤ m → Q (.ref r) H'
theorem scGrown : FnScope ["_law_state_here", "_law_most", "_law_cells", "_law_k", "_law_row", "_law_column", "_law_down", "_law_right"] ["_law_state_here", "_law_most"] (defScope sGrown) := ⟨rfl, rfl, rfl, by decide +kernel, rfl, by decide +kernel, by decide +kernel⟩
theorem ok_grown (B : ∀ x ∈ blts, mg x = none) (Fnext : FnNext P w K mg base) (F : Fun K "_law_grown" "_law_grown" sGrown f fd) : FnOk P w K mg base CX0 2 f fd ["_law_state_here", "_law_most"] spGrown := by
  refine F.ok (k := 1) scGrown (fun vs H Q E h => ?_) (fun cdv A outer s H vs Q E hr h => ?_)
  · obtain ⟨st, n, m, rfl, _⟩ := h
    rfl
  obtain ⟨st, n, m, rfl, hst, hn0, hm0, hm1, q⟩ := h
  have hu := hr.units
  refine ⟨_, (pss_cons (ps_set (i := 2) scGrown.nd rfl (Or.inl rfl) (pe_lst (pa_c (pe_tup (pa_c pe_int (pa_c pe_int pa_nil))) pa_nil)))
    (pss_cons (ps_for PassesOwn.never rfl (pi_r1 rfl (B "range" (by decide)) (pa_c (pe_fn Fnext hr (by decide) rfl (pa_c (pv 0) (pa_c (pv 1) pa_nil))) pa_nil)) (pg_name (i := 3) scGrown.nd rfl (Or.inl rfl)) (pss_cons (ps_asg (pe_ix ix_list (pv 2) (pe_fn Fnext hr (by decide) rfl (pa_c (pv 0) (pa_c (pe_cB call_len_seq rfl (B "len" (by decide)) PySem.boot_len (pa_c (pv 2) pa_nil)) pa_nil))) (fun _ _ => rfl)) (pg_tup (n := 2) rfl (pgs_cons (pg_name (i := 4) scGrown.nd rfl (Or.inl rfl)) (pgs_cons (pg_name (i := 5) scGrown.nd rfl (Or.inl rfl)) pgs_nil))))
    (pss_cons (ps_asg (pe_ix ix_list (pe_lst (pa_c (pe_tup (pa_c pe_int (pa_c pe_int pa_nil))) (pa_c (pe_tup (pa_c pe_int (pa_c pe_int pa_nil))) (pa_c (pe_tup (pa_c pe_int (pa_c (pe_un un_neg pe_int) pa_nil))) (pa_c (pe_tup (pa_c (pe_un un_neg pe_int) (pa_c pe_int pa_nil))) pa_nil))))) (pe_fn Fnext hr (by decide) rfl (pa_c (pv 0) (pa_c pe_int pa_nil))) (fun _ _ => rfl)) (pg_tup (n := 2) rfl (pgs_cons (pg_name (i := 6) scGrown.nd rfl (Or.inl rfl)) (pgs_cons (pg_name (i := 7) scGrown.nd rfl (Or.inl rfl)) pgs_nil))))
    (pss_one (ps_if (pt_cmpR (op_notInD hu) (pe_tup (pa_c (pe_op op_add (pv 4) (pv 6)) (pa_c (pe_op op_add (pv 5) (pv 7)) pa_nil))) (pv 2) rfl) (pss_one (ps_expr (pe_bm PySem.F.plainAttrs_list PySem.F.slot_list_append PySem.F.type_list_append mt_append (pv 2) (pa_c (pe_tup (pa_c (pe_op op_add (pv 4) (pv 6)) (pa_c (pe_op op_add (pv 5) (pv 7)) pa_nil))) pa_nil)))) pss_nil)))))
    (pss_one (ps_ret (pv 2))))), ?_⟩
  refine ⟨(by show 2 ≤ sizeLine; decide), fun p1 hp1 => ⟨(by show 1 ≤ sizeLine; decide), fun p2 hp2 => ?_⟩⟩
  obtain ⟨hp21, hp2H⟩ := upd_none hp2
  have n1 : st ≠ p1 := ne_of_none hst hp1
  have n2 : st ≠ p2 := ne_of_none hst hp2H
  have hst2 : upd (upd H p1 (.tup [.int 0, .int 0])) p2 (.lst [.ref p1]) st = some (.lst n) := by rw [upd_ne n2, upd_ne n1]; exact hst
  refine ⟨_, rfl, _, rfl, st, n, m, rfl, hst2, hn0, hm0, by omega, fun n' j hn1 hj0 hj1 => ⟨j, rfl, by omega, by omega, ?_⟩⟩
  refine for_range (n := j.toNat) (lo := 0) (fun i σ' H' => ∃ (x3 x4 x5 x6 x7 : Option V) (n' : List V) (xs : List V) (cs : List PyData), σ' = [some (.ref st), some (.int m), some (.ref p2), x3, x4, x5, x6, x7] ∧ Ex [st] H H' ∧ H' st = some (.lst n') ∧ StL n' ∧ H' p2 = some (.lst xs) ∧ RepAll H' cs xs ∧ Cells cs ∧ Conn (cs.map cl) ∧ (cs.map cl).Nodup ∧
    0 < cs.length ∧ cs.length ≤ i + 1) ?_ (fun i σ' H' hi h => ?_) (fun σ' H' h => ?_)
  · have e0 : Ex [st] H (upd (upd H p1 (.tup [.int 0, .int 0])) p2 (.lst [.ref p1])) := (Ex.fresh hp1).trans (Ex.fresh hp2)
    have c0 : upd (upd (upd H p1 (.tup [.int 0, .int 0])) p2 (.lst [.ref p1])) st (.lst n') p1 = some (.tup [.int 0, .int 0]) := by
      rw [upd_ne (Ne.symm n1), upd_ne (Ne.symm hp21)]; exact upd_same
    refine ⟨none, none, none, none, none, n', [.ref p1], [.tuple [.int 0, .int 0]], rfl, e0.trans (Ex.upd (by simp)), upd_same, hn1, by rw [upd_ne (Ne.symm n2)]; exact upd_same, ⟨_, _, rfl, cell_rep c0, rfl⟩, fun d hd => ?_, Conn.one _, by simp, by simp, by simp⟩
    rw [List.mem_singleton.mp hd]
    exact ⟨0, 0, rfl⟩
  · obtain ⟨x3, x4, x5, x6, x7, n1', xs, cs, rfl, hex, hs', hn1', hp, hrep, hcs, hcon, hnd, hpos, hlen⟩ := h
    have hxl := hrep.length
    -- a cell drawn out of those that are there
    refine ⟨_, rfl, _, rfl, _, rfl, p2, xs, rfl, .inl (SqL.of hp), st, n1', _, rfl, hs', hn1', by omega, by omega, fun n2' i2 hn2' h20 h21 => ?_⟩
    have hi2 : i2.toNat < xs.length := by omega
    have e2 : i2 = ((i2.toNat : Nat) : Int) := by omega
    obtain ⟨b, r, c, hv, hb, hdat⟩ := cells_at hcs hrep (List.getElem?_eq_getElem hi2)
    have hat : atI xs i2 = some (.ref b) := by rw [e2]; exact atI_nat (by rw [List.getElem?_eq_getElem hi2, hv])
    have nb : b ≠ st := ne_of hb hs' (by intro z; cases z)
    refine ⟨p2, xs, i2, _, rfl, rfl, SqL.of (by rw [upd_ne (Ne.symm n2)]; exact hp), hat, b, _, rfl, SqT.of (by rw [upd_ne nb]; exact hb), rfl, _, _, rfl, _, _, rfl, rfl, ?_⟩
    have exA : Ex [st] H (upd H' st (.lst n2')) := hex.trans (Ex.upd (by simp))
    have stA : upd H' st (.lst n2') st = some (.lst n2') := upd_same
    have pA : upd H' st (.lst n2') p2 = some (.lst xs) := by rw [upd_ne (Ne.symm n2)]; exact hp
    have rA : RepAll (upd H' st (.lst n2')) cs xs := hrep.tk (Tk.lst hs') hcs.imm
    generalize upd H' st (.lst n2') = HA at *
    -- a step drawn out of four
    refine ⟨(by show 2 ≤ sizeLine; decide), fun q1 hq1 => ⟨(by show 2 ≤ sizeLine; decide), fun q2 hq2 => ?_⟩⟩
    refine ⟨_, rfl, (by show 2 ≤ sizeLine; decide), fun q3 hq3 => ?_⟩
    refine ⟨_, rfl, (by show 2 ≤ sizeLine; decide), fun q4 hq4 => ⟨(by show 4 ≤ sizeLine; decide), fun q5 hq5 => ?_⟩⟩
    have a2 := upd_none hq2
    have a3 := upd_none hq3
    have b3' := upd_none a3.2
    have a4 := upd_none hq4
    have b4 := upd_none a4.2
    have c4 := upd_none b4.2
    have a5 := upd_none hq5
    have b5 := upd_none a5.2
    have c5 := upd_none b5.2
    have d5 := upd_none c5.2
    have same : Same HA (upd (upd (upd (upd (upd HA q1 (.tup [.int 0, .int 1])) q2 (.tup [.int 1, .int 0])) q3 (.tup [.int 0, .int (-1)])) q4 (.tup [.int (-1), .int 0])) q5 (.lst [.ref q1, .ref q2, .ref q3, .ref q4])) :=
      ((((Same.fresh _ hq1).trans (Same.fresh _ hq2)).trans (Same.fresh _ hq3)).trans (Same.fresh _ hq4)).trans (Same.fresh _ hq5)
    have five : ∀ v ∈ [V.ref q1, .ref q2, .ref q3, .ref q4], ∃ (b : Addr) (d e : Int), ((d = 0 ∧ (e = 1 ∨ e = -1)) ∨ (e = 0 ∧ (d = 1 ∨ d = -1))) ∧ v = .ref b ∧ b ≠ st ∧ (upd (upd (upd (upd (upd HA q1 (.tup [.int 0, .int 1])) q2 (.tup [.int 1, .int 0])) q3 (.tup [.int 0, .int (-1)])) q4 (.tup [.int (-1), .int 0])) q5 (.lst [.ref q1, .ref q2, .ref q3, .ref q4])) b = some (.tup [.int d, .int e]) := by
      intro v hv
      have m1 : q1 ≠ st := fun z => by rw [z, stA] at hq1; cases hq1
      have m2 : q2 ≠ st := fun z => by rw [z, stA] at a2; cases a2.2
      have m3 : q3 ≠ st := fun z => by rw [z, stA] at b3'; cases b3'.2
      have m4 : q4 ≠ st := fun z => by rw [z, stA] at c4; cases c4.2
      rcases List.mem_cons.mp hv with rfl | hv
      · exact ⟨q1, 0, 1, by omega, rfl, m1, by rw [upd_ne (Ne.symm d5.1), upd_ne (Ne.symm c4.1), upd_ne (Ne.symm b3'.1), upd_ne (Ne.symm a2.1)]; exact upd_same⟩
      rcases List.mem_cons.mp hv with rfl | hv
      · exact ⟨q2, 1, 0, by omega, rfl, m2, by rw [upd_ne (Ne.symm c5.1), upd_ne (Ne.symm b4.1), upd_ne (Ne.symm a3.1)]; exact upd_same⟩
      rcases List.mem_cons.mp hv with rfl | hv
      · exact ⟨q3, 0, -1, by omega, rfl, m3, by rw [upd_ne (Ne.symm b5.1), upd_ne (Ne.symm a4.1)]; exact upd_same⟩
      rcases List.mem_cons.mp hv with rfl | hv
      · exact ⟨q4, -1, 0, by omega, rfl, m4, by rw [upd_ne (Ne.symm a5.1)]; exact upd_same⟩
      cases hv
    have l5 : (upd (upd (upd (upd (upd HA q1 (.tup [.int 0, .int 1])) q2 (.tup [.int 1, .int 0])) q3 (.tup [.int 0, .int (-1)])) q4 (.tup [.int (-1), .int 0])) q5 (.lst [.ref q1, .ref q2, .ref q3, .ref q4])) q5 = some (.lst [.ref q1, .ref q2, .ref q3, .ref q4]) := upd_same
    have exB := exA.trans (Ex.of_same same)
    have stB := same _ _ stA
    have pB := same _ _ pA
    have rB := rA.same same
    have n5 : q5 ≠ st := fun z => by rw [z, stA] at d5; cases d5.2
    generalize (upd (upd (upd (upd (upd HA q1 (.tup [.int 0, .int 1])) q2 (.tup [.int 1, .int 0])) q3 (.tup [.int 0, .int (-1)])) q4 (.tup [.int (-1), .int 0])) q5 (.lst [.ref q1, .ref q2, .ref q3, .ref q4])) = HB at *
    refine ⟨_, rfl, st, n2', 4, rfl, stB, hn2', by decide, by decide, fun n3 i3 hn3 h30 h31 => ?_⟩
    obtain ⟨v, hat3, hm⟩ := pick (α := V) (xs := [V.ref q1, .ref q2, .ref q3, .ref q4]) h30 h31
    obtain ⟨b3, d, e, hde, rfl, m3, hb3⟩ := five v hm
    have exC : Ex [st] H (upd HB st (.lst n3)) := exB.trans (Ex.upd (by simp))
    have stC : upd HB st (.lst n3) st = some (.lst n3) := upd_same
    have pC : upd HB st (.lst n3) p2 = some (.lst xs) := by rw [upd_ne (Ne.symm n2)]; exact pB
    have rC : RepAll (upd HB st (.lst n3)) cs xs := rB.tk (Tk.lst stB) hcs.imm
    have bC : upd HB st (.lst n3) b3 = some (.tup [.int d, .int e]) := by rw [upd_ne m3]; exact hb3
    have l5C : upd HB st (.lst n3) q5 = some (.lst [.ref q1, .ref q2, .ref q3, .ref q4]) := by rw [upd_ne n5]; exact l5
    generalize upd HB st (.lst n3) = HC at *
    refine ⟨q5, _, i3, _, rfl, rfl, SqL.of l5C, hat3, b3, _, rfl, SqT.of bC, rfl, _, _, rfl, _, _, rfl, rfl, ?_⟩
    -- is it there already
    refine ⟨_, rfl, _, rfl, _, _, rfl, rfl, _, rfl, _, rfl, _, _, rfl, rfl, (by show 2 ≤ sizeLine; decide), fun t1 ht1 => ?_⟩
    have t1s : Same HC (upd HC t1 (.tup [.int (r + d), .int (c + e)])) := Same.fresh _ ht1
    refine ⟨_, rfl, .tuple [.int (r + d), .int (c + e)], p2, xs, cs, cell_rep upd_same, rfl, .inl (t1s _ _ pC), rC.same t1s, (by simp [PyData.depth, PyData.depthAll]), _, rfl, ?_⟩
    have exD := exC.trans (Ex.of_same t1s)
    have stD := t1s _ _ stC
    have pD := t1s _ _ pC
    have rD := rC.same t1s
    generalize upd HC t1 (.tup [.int (r + d), .int (c + e)]) = HD at *
    refine ite2 (fun hnew => ?_) (fun _ => ?_)
    · refine ⟨_, rfl, .inl ⟨rfl, _, SqL.of pD⟩, _, rfl, _, rfl, _, _, rfl, rfl, _, rfl, _, rfl, _, _, rfl, rfl, (by show 2 ≤ sizeLine; decide), fun t2 ht2 => ?_⟩
      have t2s : Same HD (upd HD t2 (.tup [.int (r + d), .int (c + e)])) := Same.fresh _ ht2
      have t2c : upd HD t2 (.tup [.int (r + d), .int (c + e)]) t2 = some (.tup [.int (r + d), .int (c + e)]) := upd_same
      have exE := exD.trans (Ex.of_same t2s)
      have stE := t2s _ _ stD
      have pE := t2s _ _ pD
      have rE := rD.same t2s
      generalize upd HD t2 (.tup [.int (r + d), .int (c + e)]) = HE at *
      refine ⟨p2, xs, .ref t2, rfl, rfl, pE, small1000 (by omega), ?_⟩
      have hcs' : Cells (cs ++ [.tuple [.int (r + d), .int (c + e)]]) := fun z hz => by
        rcases List.mem_append.mp hz with h | h
        · exact hcs z h
        · rw [List.mem_singleton.mp h]; exact ⟨_, _, rfl⟩
      refine ⟨_, _, _, _, _, n3, xs ++ [.ref t2], cs ++ [.tuple [.int (r + d), .int (c + e)]], rfl, ?_, by rw [upd_ne n2]; exact stE, hn3, upd_same, ((rE.snoc (cell_rep t2c)).tk (Tk.lst pE) hcs'.imm), hcs', ?_, ?_, by simp, by simp; omega⟩
      · exact exE.new hp2H
      · rw [List.map_append]
        refine hcon.snoc (a := (r, c)) ?_ ?_
        · exact List.mem_map.mpr ⟨_, List.mem_of_getElem? hdat, rfl⟩
        · show Tch (r, c) (r + d, c + e)
          unfold Tch
          simp only
          omega
      · rw [List.map_append, List.nodup_append]
        refine ⟨hnd, by simp, fun x hx y hy => ?_⟩
        have ey : y = (r + d, c + e) := List.mem_singleton.mp hy
        intro exy
        rw [exy, ey] at hx
        obtain ⟨z, hz, ez⟩ := List.mem_map.mp hx
        obtain ⟨r0, c0, rfl⟩ := hcs z hz
        have ez' : (r0, c0) = (r + d, c + e) := ez
        injection ez' with e1 e2
        rw [if_pos rfl, Bool.not_eq_true', List.any_eq_false] at hnew
        exact hnew _ hz (by rw [e1, e2]; exact SeqAt.eqv_refl _ (cell_rep t2c).lay)
    · exact ⟨_, _, _, _, _, n3, xs, cs, rfl, exD, stD, hn3, pD, rD, hcs, hcon, hnd, hpos, by omega⟩
  · obtain ⟨x3, x4, x5, x6, x7, n1', xs, cs, rfl, hex, hs', hn1', hp, hrep, hcs, hcon, hnd, hpos, hlen⟩ := h
    exact ⟨_, rfl, q p2 H' n1' xs cs hp2H hex hs' hn1' hp hrep hcs hcon hnd hpos (by omega)⟩

end
end K05

set_option maxHeartbeats 8000000
namespace K05
open PySem PyProof.Rows L2 L3
/-! ### what a form is, but for its order and its place -/
def SgD (d : PyData) : Prop := ∃ (r c : Int) (k : Nat), d = .tuple [.int r, .int c, .str ⟨#[k]⟩] ∧ 65 ≤ k ∧ k ≤ 90
structure Pre (ds : List PyData) : Prop where
  sg : ∀ d ∈ ds, SgD d
  pos : 0 < ds.length
  six : ds.length ≤ 6
  con : Conn (ds.map cl)
  nd : (ds.map cl).Nodup
structure Zr (ds : List PyData) : Prop where
  pre : Pre ds
  r0 : minI (ds.map row1) = 0
  c0 : minI (ds.map col1) = 0
theorem Pre.spots {ds : List PyData} (h : Pre ds) : Spots ds := fun d hd => by
  obtain ⟨r, c, k, e, _⟩ := h.sg d hd
  exact ⟨r, c, _, e⟩
theorem Pre.map {ds : List PyData} (h : Pre ds) {f : PyData → PyData} {g : Cl → Cl} (hf : ∀ d, SgD d → SgD (f d) ∧ cl (f d) = g (cl d)) (hg : ∀ a b, Tch a b → Tch (g a) (g b)) (hi : ∀ a b, g a = g b → a = b) : Pre (ds.map f) := by
  have e : (ds.map f).map cl = (ds.map cl).map g := by
    rw [List.map_map, List.map_map]
    exact List.map_congr_left fun d hd => (hf d (h.sg d hd)).2
  refine ⟨fun d hd => ?_, by rw [List.length_map]; exact h.pos, by rw [List.length_map]; exact h.six, by rw [e]; exact h.con.map hg, ?_⟩
  · obtain ⟨x, hx, rfl⟩ := List.mem_map.mp hd
    exact (hf x (h.sg x hx)).1
  · rw [e]
    exact List.Pairwise.map g (fun a b hab z => hab (hi a b z)) h.nd
theorem Pre.perm {ds es : List PyData} (h : Pre ds) (p : es.Perm ds) : Pre es :=
  ⟨fun d hd => h.sg d (p.mem_iff.mp hd), by rw [p.length_eq]; exact h.pos, by rw [p.length_eq]; exact h.six, h.con.congr fun a => (p.map cl).mem_iff, (p.map cl).nodup_iff.mpr h.nd⟩
theorem min_perm {ns ms : List Int} (p : ns.Perm ms) (h : 0 < ns.length) : minI ns = minI ms :=
  minI_eq (p.mem_iff.mp (minI_mem h)) fun a ha => minI_le a (p.mem_iff.mpr ha)
theorem Zr.perm {ds es : List PyData} (h : Zr ds) (p : es.Perm ds) : Zr es := by
  have hp := h.pre.perm p
  exact ⟨hp, (min_perm (p.map row1) (by rw [List.length_map]; exact hp.pos)).trans h.r0, (min_perm (p.map col1) (by rw [List.length_map]; exact hp.pos)).trans h.c0⟩
theorem sgd_mir {d : PyData} (m : Int) (h : SgD d) : SgD (mir1 m d) ∧ cl (mir1 m d) = ((cl d).1, m - (cl d).2) := by
  obtain ⟨r, c, k, rfl, h1, h2⟩ := h
  exact ⟨⟨r, m - c, k, rfl, h1, h2⟩, rfl⟩
theorem sgd_tur {d : PyData} (m : Int) (h : SgD d) : SgD (tur1 m d) ∧ cl (tur1 m d) = ((cl d).2, m - (cl d).1) := by
  obtain ⟨r, c, k, rfl, h1, h2⟩ := h
  exact ⟨⟨c, m - r, k, rfl, h1, h2⟩, rfl⟩
theorem sgd_shift {d : PyData} (a b : Int) (h : SgD d) : SgD (shift1 a b d) ∧ cl (shift1 a b d) = ((cl d).1 - a, (cl d).2 - b) := by
  obtain ⟨r, c, k, rfl, h1, h2⟩ := h
  exact ⟨⟨r - a, c - b, k, rfl, h1, h2⟩, rfl⟩
theorem row_cl (d : PyData) : row1 d = (cl d).1 := rfl
theorem col_cl (d : PyData) : col1 d = (cl d).2 := rfl
/-- the least of m - x, m the greatest -/
theorem min_flip {ns : List Int} (h : 0 < ns.length) : minI (ns.map fun x => maxI ns - x) = 0 := by
  refine (minI_eq ?_ fun a ha => ?_).symm
  · exact List.mem_map.mpr ⟨maxI ns, maxI_mem h, by omega⟩
  · obtain ⟨x, hx, rfl⟩ := List.mem_map.mp ha
    have := le_maxI x hx
    omega
theorem min_sub {ns : List Int} (h : 0 < ns.length) : minI (ns.map fun x => x - minI ns) = 0 := by
  refine (minI_eq ?_ fun a ha => ?_).symm
  · exact List.mem_map.mpr ⟨minI ns, minI_mem h, by omega⟩
  · obtain ⟨x, hx, rfl⟩ := List.mem_map.mp ha
    have := minI_le x hx
    omega
theorem Zr.mir {ds : List PyData} (h : Zr ds) : Zr (mirD ds) := by
  have hp : Pre (mirD ds) := h.pre.map (g := fun a => (a.1, maxI (ds.map col1) - a.2)) (fun d hd => sgd_mir _ hd) (fun a b => Tch.mirror _) (fun a b e => by
    injection e with e1 e2
    exact Prod.ext e1 (by omega))
  refine ⟨hp, ?_, ?_⟩
  · rw [show (mirD ds).map row1 = ds.map row1 by
      unfold mirD
      rw [List.map_map]
      exact List.map_congr_left fun d hd => by rw [Function.comp, row_cl, (sgd_mir _ (h.pre.sg d hd)).2]; rfl]
    exact h.r0
  · rw [show (mirD ds).map col1 = (ds.map col1).map fun x => maxI (ds.map col1) - x by
      unfold mirD
      rw [List.map_map, List.map_map]
      exact List.map_congr_left fun d hd => by rw [Function.comp, col_cl, (sgd_mir _ (h.pre.sg d hd)).2]; rfl]
    exact min_flip (by rw [List.length_map]; exact h.pre.pos)
theorem Zr.tur {ds : List PyData} (h : Zr ds) : Zr (turD ds) := by
  have hp : Pre (turD ds) := h.pre.map (g := fun a => (a.2, maxI (ds.map row1) - a.1)) (fun d hd => sgd_tur _ hd) (fun a b => Tch.turn _) (fun a b e => by
    injection e with e1 e2
    exact Prod.ext (by omega) e1)
  refine ⟨hp, ?_, ?_⟩
  · rw [show (turD ds).map row1 = ds.map col1 by
      unfold turD
      rw [List.map_map]
      exact List.map_congr_left fun d hd => by rw [Function.comp, row_cl, (sgd_tur _ (h.pre.sg d hd)).2]; rfl]
    exact h.c0
  · rw [show (turD ds).map col1 = (ds.map row1).map fun x => maxI (ds.map row1) - x by
      unfold turD
      rw [List.map_map, List.map_map]
      exact List.map_congr_left fun d hd => by rw [Function.comp, col_cl, (sgd_tur _ (h.pre.sg d hd)).2]; rfl]
    exact min_flip (by rw [List.length_map]; exact h.pre.pos)
theorem Zr.shift {ds : List PyData} (h : Pre ds) : Zr (shiftD ds) := by
  have hp : Pre (shiftD ds) := h.map (g := fun a => (a.1 - minI (ds.map row1), a.2 - minI (ds.map col1))) (fun d hd => sgd_shift _ _ hd) (fun a b => Tch.shift _ _) (fun a b e => by
    injection e with e1 e2
    exact Prod.ext (by omega) (by omega))
  refine ⟨hp, ?_, ?_⟩
  · rw [show (shiftD ds).map row1 = (ds.map row1).map fun x => x - minI (ds.map row1) by
      unfold shiftD
      rw [List.map_map, List.map_map]
      exact List.map_congr_left fun d hd => by rw [Function.comp, row_cl, (sgd_shift _ _ (h.sg d hd)).2]; rfl]
    exact min_sub (by rw [List.length_map]; exact h.pos)
  · rw [show (shiftD ds).map col1 = (ds.map col1).map fun x => x - minI (ds.map col1) by
      unfold shiftD
      rw [List.map_map, List.map_map]
      exact List.map_congr_left fun d hd => by rw [Function.comp, col_cl, (sgd_shift _ _ (h.sg d hd)).2]; rfl]
    exact min_sub (by rw [List.length_map]; exact h.pos)
theorem Zr.iter {ds : List PyData} (h : Zr ds) : ∀ i, Zr (iter i ds)
  | 0 => h
  | i + 1 => by rw [iter_succ]; exact (h.iter i).tur
theorem Zr.turned {ds : List PyData} (h : Zr ds) (t : Nat) : Zr (spotsD t ds) := by
  show Zr (K05.iter (t % 4) (if 4 ≤ t then mirD ds else ds))
  refine Zr.iter ?_ _
  split
  · exact h.mir
  · exact h
end K05

set_option maxHeartbeats 8000000
namespace K05
open PySem PyProof.Rows L2 L3
section
variable {P : Program} {w : World} {K : PySem.W.Frag} {mg : Str → Option Value} {base : Heap} {f : Addr} {fd : FuncData}
/-! ### spots shifted and sorted: the law's way and the program's -/
def spForm : Sp := fun vs H Q _ => ∃ a xs ds, vs = [.ref a] ∧ H a = some (.lst xs) ∧ RepAll H ds xs ∧ Spots ds ∧ 0 < ds.length ∧ ds.length < 64 ∧ ∀ r H', Same H H' → Rep H' (.tuple (sortD (shiftD ds))) (.ref r) → Q (.ref r) H'
theorem read_sorted {K : PySem.W.Frag} {a : Addr} {xs : List V} {ds : List PyData} {σ : L2.St} {H H0 : Hp} {Q : VK} {t l : Int} (hσ : σ[0]? = some (some (.ref a))) (h1 : σ[1]? = some (some (.int t))) (h2 : σ[2]? = some (some (.int l)))
    (ha : H a = some (.lst xs)) (hr : RepAll H ds xs) (hs : Spots ds) (hl : ds.length < 64) (ht : t = minI (ds.map row1)) (hll : l = minI (ds.map col1)) (h0 : Same H0 H)
    (q : ∀ r H', Same H0 H' → Rep H' (.tuple (sortD (shiftD ds))) (.ref r) → Q (.ref r) H') :
    tComp (iList K (tVar 0)) [none, none, none, some 1, some 2] (gTup K 3 (gCons (gName 0) (gCons (gName 1) (gCons (gName 2) gNil)))) tYes
      (tTup (tCons (tOp (rI0 fun i j => .int (i - j)) (tVar 0) (tVar 3)) (tCons (tOp (rI0 fun i j => .int (i - j)) (tVar 1) (tVar 4)) (tCons (tVar 2) tNil)))) σ H fun x H1 => ∃ p xs ds ks, [x] = [.ref p] ∧ H1 p = some (.lst xs) ∧ RepAll H1 ds xs ∧ Rows ks ds ∧ ds.length < 64 ∧
    ∀ l ys, H1 l = none → RepAll (upd H1 l (.lst ys)) (sortD ds) ys → ∃ p ys', [V.ref l] = [.ref p] ∧ ((SqL K (upd H1 l (.lst ys)) p ys' ∧ ∀ l', upd H1 l (.lst ys) l' = none → Q (.ref l') (upd (upd H1 l (.lst ys)) l' (.tup ys'))) ∨ (SqT K (upd H1 l (.lst ys)) p ys' ∧ Q (.ref p) (upd H1 l (.lst ys)))) := by
  refine read_shift hσ h1 h2 ha hr hs hl fun D ys H' hsame hD hrep => ?_
  refine ⟨D, ys, _, [true, false], rfl, hD, hrep, shift_rows hs t l, by rw [List.length_map]; exact hl, fun l1 zs hl1 hz => ?_⟩
  refine ⟨l1, zs, rfl, .inl ⟨SqL.of upd_same, fun l2 hl2 => ?_⟩⟩
  have s1 : Same H' (upd H' l1 (.lst zs)) := Same.fresh _ hl1
  have s2 : Same (upd H' l1 (.lst zs)) (upd (upd H' l1 (.lst zs)) l2 (.tup zs)) := Same.fresh _ hl2
  refine q l2 _ (((h0.trans hsame).trans s1).trans s2) ⟨l2, zs, rfl, upd_same, ?_⟩
  have e : ds.map (shift1 t l) = shiftD ds := by unfold shiftD; rw [ht, hll]
  rw [e] at hz
  exact hz.same s2
theorem scShift : FnScope ["_law_spots", "_law_top", "_law_left"] ["_law_spots"] (defScope sShift) := ⟨rfl, rfl, rfl, by decide +kernel, rfl, by decide +kernel, by decide +kernel⟩
theorem ok_shift (B : ∀ x ∈ blts, mg x = none) (F : Fun K "_law_shifted" "_law_shifted" sShift f fd) : FnOk P w K mg base CX0 1 f fd ["_law_spots"] spForm := by
  refine F.ok (k := 0) scShift (fun vs H Q E h => ?_) (fun cdv A outer s H vs Q E hr h => ?_)
  · obtain ⟨a, xs, ds, rfl, _⟩ := h
    rfl
  obtain ⟨a, xs, ds, rfl, ha, hrep, hs, hpos, h64, q⟩ := h
  refine ⟨_, (pss_cons (ps_set (i := 1) scShift.nd rfl (Or.inr rfl) (pe_cB (call_minL rfl) rfl (B "min" (by decide)) boot_min (pa_c (pe_comp ["_law_spot"] [none] rfl rfl (by decide +kernel) (by decide +kernel) rfl rfl (pi_list (pv 0)) (fun _ => (pg_name (i := 0) (show (["_law_spot"] : List PySem.Str).Nodup by decide +kernel) rfl (Or.inl rfl))) (fun _ => pts_nil) (fun _ => (pe_ix ix_tupC (pv 0) pe_int (fun _ _ => rfl)))) pa_nil)))
    (pss_cons (ps_set (i := 2) scShift.nd rfl (Or.inr rfl) (pe_cB (call_minL rfl) rfl (B "min" (by decide)) boot_min (pa_c (pe_comp ["_law_spot"] [none] rfl rfl (by decide +kernel) (by decide +kernel) rfl rfl (pi_list (pv 0)) (fun _ => (pg_name (i := 0) (show (["_law_spot"] : List PySem.Str).Nodup by decide +kernel) rfl (Or.inl rfl))) (fun _ => pts_nil) (fun _ => (pe_ix ix_tupC (pv 0) pe_int (fun _ _ => rfl)))) pa_nil)))
    (pss_one (ps_ret (pe_cT call_tuple_of rfl (B "tuple" (by decide)) boot_tuple (pa_c (pe_cB call_sortedD rfl (B "sorted" (by decide)) boot_sorted (pa_c (pe_comp ["_law_row", "_law_column", "_law_sign", "_law_top", "_law_left"] [none, none, none, some 1, some 2] rfl rfl (by decide +kernel) (by decide +kernel) rfl rfl (pi_list (pv 0)) (fun _ => (pg_tupC (n := 3) rfl (pgs_cons (pg_name (i := 0) (show (["_law_row", "_law_column", "_law_sign", "_law_top", "_law_left"] : List PySem.Str).Nodup by decide +kernel) rfl (Or.inl rfl)) (pgs_cons (pg_name (i := 1) (show (["_law_row", "_law_column", "_law_sign", "_law_top", "_law_left"] : List PySem.Str).Nodup by decide +kernel) rfl (Or.inl rfl)) (pgs_cons (pg_name (i := 2) (show (["_law_row", "_law_column", "_law_sign", "_law_top", "_law_left"] : List PySem.Str).Nodup by decide +kernel) rfl (Or.inl rfl)) pgs_nil))))) (fun _ => pts_nil) (fun _ => (pe_tup (pa_c (pe_op op_sub (pv 0) (pv 3)) (pa_c (pe_op op_sub (pv 1) (pv 4)) (pa_c (pv 2) pa_nil)))))) pa_nil)) pa_nil)))))), ?_⟩
  refine read_proj 0 row1 row_at rfl ha hrep hs h64 fun D1 H1 s1 hD1 => ?_
  refine ⟨D1, _, rfl, hD1, by rw [List.length_map]; exact hpos, fun M1 m1 m1' => ?_⟩
  refine read_proj 1 col1 col_at rfl (s1 _ _ ha) (hrep.same s1) hs h64 fun D2 H2 s2 hD2 => ?_
  refine ⟨D2, _, rfl, hD2, by rw [List.length_map]; exact hpos, fun M2 m2 m2' => ?_⟩
  exact read_sorted rfl rfl rfl ((s1.trans s2) _ _ ha) (hrep.same (s1.trans s2)) hs h64 (minI_eq m1 m1') (minI_eq m2 m2') (s1.trans s2) q

/-! ### a whole number, a spot -/
def spWhole : Sp := fun vs H Q _ => ∃ n : Int, vs = [.int n] ∧ Q (.bl true) H
theorem scWhole : FnScope ["_law_found"] ["_law_found"] (defScope sWhole) := ⟨rfl, rfl, rfl, by decide +kernel, rfl, by decide +kernel, by decide +kernel⟩
theorem ok_whole (B : ∀ x ∈ blts, mg x = none) (F : Fun K "_law_whole" "_law_whole" sWhole f fd) : FnOk P w K mg base CX0 1 f fd ["_law_found"] spWhole := by
  refine F.ok (k := 0) scWhole (fun vs H Q E h => ?_) (fun cdv A outer s H vs Q E hr h => ?_)
  · obtain ⟨n, rfl, _⟩ := h
    rfl
  obtain ⟨n, rfl, q⟩ := h
  refine ⟨_, (pss_one (ps_ret (pe_and (pe_cB call_isinst rfl (B "isinstance" (by decide)) boot_isinstance (pa_c (pv 0) (pa_c (pe_bltn (v := .ty "int") rfl (B "int" (by decide)) PyProof.Rows.boot_int rfl) pa_nil))) (pe_one (pe_not (pe_cB call_isinst rfl (B "isinstance" (by decide)) boot_isinstance (pa_c (pv 0) (pa_c (pe_bltn (v := .ty "bool") rfl (B "bool" (by decide)) boot_bool rfl) pa_nil)))))))), ?_⟩
  refine ⟨_, rfl, _, _, _, true, rfl, .int n, rfl, true, rfl, ?_⟩
  refine iteT ?_
  exact ⟨_, rfl, _, _, _, false, rfl, .int n, rfl, false, rfl, q⟩
def spSpot (K : PySem.W.Frag) : Sp := fun vs H Q _ => ∃ (a : Addr) (r c : Int) (k : Nat), vs = [.ref a] ∧ H a = some (.tup [.int r, .int c, .str ⟨#[k]⟩]) ∧ 65 ≤ k ∧ k ≤ 90 ∧ Q (.bl true) H
theorem scSpot : FnScope ["_law_found"] ["_law_found"] (defScope sSpot) := ⟨rfl, rfl, rfl, by decide +kernel, rfl, by decide +kernel, by decide +kernel⟩
theorem in_text {k : Nat} (h1 : 65 ≤ k) (h2 : k ≤ 90) : (!(Builtin.Str.occurrences (Str.ofString "ABCDEFGHIJKLMNOPQRSTUVWXYZ") ⟨#[k]⟩ 0 (Str.ofString "ABCDEFGHIJKLMNOPQRSTUVWXYZ").length 1).isEmpty) = true := by
  rw [PySem.StrLaws.found_one]
  have e : (Str.ofString "ABCDEFGHIJKLMNOPQRSTUVWXYZ").cps.toList = [65, 66, 67, 68, 69, 70, 71, 72, 73, 74, 75, 76, 77, 78, 79, 80, 81, 82, 83, 84, 85, 86, 87, 88, 89, 90] := by decide +kernel
  rw [e, decide_eq_true_eq]
  simp only [List.mem_cons, List.not_mem_nil, or_false]
  omega
theorem ok_spot (B : ∀ x ∈ blts, mg x = none) (Fwhole : Fn P w K mg base "_law_whole" 1 ["_law_found"] spWhole) (F : Fun K "_law_is_spot" "_law_is_spot" sSpot f fd) : FnOk P w K mg base CX0 2 f fd ["_law_found"] (spSpot K) := by
  refine F.ok (k := 1) scSpot (fun vs H Q E h => ?_) (fun cdv A outer s H vs Q E hr h => ?_)
  · obtain ⟨a, r, c, k, rfl, _⟩ := h
    rfl
  obtain ⟨a, r, c, k, rfl, ha, h1, h2, q⟩ := h
  refine ⟨_, (pss_cons (ps_if (PW.pt (pw_or (pt_not (pt_val (pe_cB call_isinst rfl (B "isinstance" (by decide)) boot_isinstance (pa_c (pv 0) (pa_c (pe_bltn (v := .ty "tuple") rfl (B "tuple" (by decide)) boot_tuple rfl) pa_nil))))) (pw_or (pt_cmpR op_ne (pe_cB call_len_seq rfl (B "len" (by decide)) PySem.boot_len (pa_c (pv 0) pa_nil)) pe_int (nomark _)) (pw_or (pt_not (pt_val (pe_fn Fwhole hr (by decide) rfl (pa_c (pe_ix ix_tup (pv 0) pe_int (fun _ _ => rfl)) pa_nil)))) (pw_or1 (pt_not (pt_val (pe_fn Fwhole hr (by decide) rfl (pa_c (pe_ix ix_tup (pv 0) pe_int (fun _ _ => rfl)) pa_nil))))))))) (pss_one (ps_ret pe_bl)) pss_nil)
    (pss_one (ps_ret (pe_and (pe_cB call_isinst rfl (B "isinstance" (by decide)) boot_isinstance (pa_c (pe_ix ix_tup (pv 0) pe_int (fun _ _ => rfl)) (pa_c (pe_bltn (v := .ty "str") rfl (B "str" (by decide)) boot_str rfl) pa_nil))) (pe_and (pe_cmpR op_eq (pe_cB call_len_str rfl (B "len" (by decide)) PySem.boot_len (pa_c (pe_ix ix_tup (pv 0) pe_int (fun _ _ => rfl)) pa_nil)) pe_int (nomark _)) (pe_one (pe_cmpR op_in_str (pe_ix ix_tup (pv 0) pe_int (fun _ _ => rfl)) pe_str rfl))))))), ?_⟩
  refine ⟨_, rfl, .ref a, "tuple", .type "tuple", true, rfl, .tup ha, rfl, true, rfl, ?_⟩
  refine iteF ?_
  refine ⟨_, rfl, a, _, rfl, .inr (SqT.of ha), rfl, false, rfl, iteF ?_⟩
  refine ⟨_, rfl, a, _, _, _, rfl, rfl, SqT.of ha, rfl, _, rfl, true, rfl, iteF ?_⟩
  refine ⟨_, rfl, a, _, _, _, rfl, rfl, SqT.of ha, rfl, _, rfl, true, rfl, iteF ?_⟩
  refine ⟨_, rfl, a, _, _, _, rfl, rfl, SqT.of ha, rfl, _, _, _, true, rfl, .str _, rfl, true, rfl, iteT ?_⟩
  refine ⟨_, rfl, a, _, _, _, rfl, rfl, SqT.of ha, rfl, _, rfl, (by show 1 ≤ sizeLine; decide), rfl, true, rfl, iteT ?_⟩
  refine ⟨_, rfl, a, _, _, _, rfl, rfl, SqT.of ha, rfl, _, _, rfl, rfl, ?_⟩
  rw [in_text h1 h2]
  exact q
/-! ### a form drawn -/
def spForm2 : Sp := fun vs H Q _ => ∃ (st : Addr) (n : List V), vs = [.ref st, .int 6] ∧ H st = some (.lst n) ∧ StL n ∧ ∀ (r : Addr) (H' : Hp) (ds : List PyData), Ex [st] H H' → Zr ds → Rep H' (.tuple (sortD ds)) (.ref r) → Q (.ref r) H'
theorem scForm : FnScope ["_law_state_here", "_law_most", "_law_signs_here", "_law_spots", "_law_row", "_law_column"] ["_law_state_here", "_law_most"] (defScope sForm) := ⟨rfl, rfl, rfl, by decide +kernel, rfl, by decide +kernel, by decide +kernel⟩
theorem sg_line {x : Str} (h : SgOk x) : x.length ≤ sizeLine := Nat.le_of_lt (small1000 (by have := h.2.1; omega))
theorem ok_form (B : ∀ x ∈ blts, mg x = none) (Fnext : FnNext P w K mg base) (Fsigns : Fn P w K mg base "_law_signs" 2 ["_law_state_here"] spSigns) (Fgrown : Fn P w K mg base "_law_grown" 2 ["_law_state_here", "_law_most"] spGrown) (Fshift : Fn P w K mg base "_law_shifted" 1 ["_law_spots"] spForm)
    (F : Fun K "_law_drawn_form" "_law_drawn_form" sForm f fd) : FnOk P w K mg base CX0 3 f fd ["_law_state_here", "_law_most"] spForm2 := by
  refine F.ok (k := 2) scForm (fun vs H Q E h => ?_) (fun cdv A outer s H vs Q E hr h => ?_)
  · obtain ⟨st, n, rfl, _⟩ := h
    rfl
  obtain ⟨st, n, rfl, hst, hn, q⟩ := h
  refine ⟨_, (pss_cons (ps_set (i := 2) scForm.nd rfl (Or.inl rfl) (pe_fn Fsigns hr (by decide) rfl (pa_c (pv 0) pa_nil)))
    (pss_cons (ps_set (i := 3) scForm.nd rfl (Or.inl rfl) (pe_lst pa_nil))
    (pss_cons (ps_for PassesOwn.never rfl (pi_list (pe_fn Fgrown hr (by decide) rfl (pa_c (pv 0) (pa_c (pv 1) pa_nil)))) (pg_tup (n := 2) rfl (pgs_cons (pg_name (i := 4) scForm.nd rfl (Or.inl rfl)) (pgs_cons (pg_name (i := 5) scForm.nd rfl (Or.inl rfl)) pgs_nil))) (pss_one (ps_expr (pe_bm PySem.F.plainAttrs_list PySem.F.slot_list_append PySem.F.type_list_append mt_append (pv 3) (pa_c (pe_tup (pa_c (pv 4) (pa_c (pv 5) (pa_c (pe_ix ix_str (pv 2) (pe_fn Fnext hr (by decide) rfl (pa_c (pv 0) (pa_c (pe_cB call_len_str rfl (B "len" (by decide)) PySem.boot_len (pa_c (pv 2) pa_nil)) pa_nil))) (fun _ _ => rfl)) pa_nil)))) pa_nil)))))
    (pss_one (ps_ret (pe_fn Fshift hr (by decide) rfl (pa_c (pv 3) pa_nil))))))), ?_⟩
  refine ⟨_, rfl, st, n, rfl, hst, hn, fun sg H1 n1 hsg ex1 st1 hn1 => ?_⟩
  refine ⟨(by show 0 ≤ sizeLine; decide), fun sp hsp => ?_⟩
  have nsp : sp ≠ st := fun e => by rw [e, st1] at hsp; cases hsp
  have hspH : H sp = none := by
    cases z : H sp with
    | none => rfl
    | some o => have z' := ex1 sp o (by simpa using nsp) z; rw [z'] at hsp; cases hsp
  have ex2 : Ex [st] H (upd H1 sp (.lst [])) := ex1.trans (Ex.fresh hsp)
  have st2 : upd H1 sp (.lst []) st = some (.lst n1) := by rw [upd_ne (Ne.symm nsp)]; exact st1
  have sp2 : upd H1 sp (.lst []) sp = some (.lst []) := upd_same
  generalize upd H1 sp (.lst []) = H2 at *
  refine ⟨_, rfl, _, rfl, st, n1, 6, rfl, st2, hn1, by decide, by decide, fun gr H3 n3 cxs cs hgr ex3 st3 hn3 gr3 rep3 hcs hcon hnd hpos3 hlen3 => ?_⟩
  have sp3 : H3 sp = some (.lst []) := ex3.at nsp sp2
  have ngs : gr ≠ sp := fun e => by rw [e, sp2] at hgr; cases hgr
  have ngt : gr ≠ st := fun e => by rw [e, st2] at hgr; cases hgr
  have lcx := rep3.length
  refine ⟨gr, rfl, ⟨_, SqL.of gr3⟩, ?_⟩
  refine for_list (xs := cxs) (fun j σ' H' => ∃ (y4 y5 : Option V) (n : List V) (ds : List PyData) (ys : List V), σ' = [some (.ref st), some (.int 6), some (.str sg), some (.ref sp), y4, y5] ∧
    Ex [st, sp] H3 H' ∧ H' st = some (.lst n) ∧ StL n ∧ H' sp = some (.lst ys) ∧ RepAll H' ds ys ∧ (∀ d ∈ ds, SgD d) ∧ ds.map cl = (cs.take j).map cl ∧ ds.length = j) ?_ (fun j σ' H' hj h => ?_) (fun j x σ' H' hx h => ?_) (fun σ' H' h => ?_)
  · exact ⟨_, _, n3, [], [], rfl, Ex.refl _ _, st3, hn3, sp3, rfl, (fun d hd => by cases hd), rfl, rfl⟩
  · obtain ⟨_, _, _, _, _, _, hex, _⟩ := h
    exact SqL.of (hex _ _ (by simp [ngs, ngt]) gr3)
  · obtain ⟨y4, y5, n6, ds, ys, rfl, hex, st6, hn6, sp6, rep6, hsp6, hcl6, hl6⟩ := h
    have tk6 : Tk H3 H' := hex.tk fun b hb => by
      rcases List.mem_cons.mp hb with rfl | hb
      · exact ⟨_, st3⟩
      · rw [List.mem_singleton.mp hb]; exact ⟨_, sp3⟩
    obtain ⟨b, cr, cc, rfl, hb, hdat⟩ := cells_at hcs rep3 hx
    have im6 : immAll ds = true := Spots.imm fun d hd => by obtain ⟨r, c, k, e, _⟩ := hsp6 d hd; exact ⟨r, c, _, e⟩
    refine ⟨b, _, rfl, SqT.of (tk6 _ _ hb), rfl, _, _, rfl, _, _, rfl, rfl, ?_⟩
    refine ⟨_, rfl, .inl ⟨rfl, _, SqL.of sp6⟩, _, rfl, _, rfl, _, rfl, _, rfl, _, rfl, sg, rfl, sg_line hsg, st, n6, _, rfl, st6, hn6, by have := hsg.1; omega, by have := hsg.2.1; omega, fun n7 i7 hn7 h70 h71 => ?_⟩
    obtain ⟨j7, rfl⟩ := Int.eq_ofNat_of_zero_le h70
    have hj7 : j7 < sg.cps.toList.length := by
      have : sg.length = sg.cps.toList.length := by simp [Str.length]
      omega
    have hk := hsg.2.2 _ (List.getElem_mem hj7)
    refine ⟨sg, _, sg.cps.toList[j7], rfl, rfl, sg_line hsg, atI_nat (List.getElem?_eq_getElem hj7), (by show 3 ≤ sizeLine; decide), fun t ht => ?_⟩
    generalize sg.cps.toList[j7] = k at *
    have hok : PyData.strOk (⟨#[k]⟩ : Str) = true := Tx.ok ⟨by show 1 ≤ 80; omega, fun x hx => by
      have : x = k := by simpa using hx
      omega⟩
    have st7 : upd H' st (.lst n7) st = some (.lst n7) := upd_same
    have sp7 : upd H' st (.lst n7) sp = some (.lst ys) := by rw [upd_ne nsp]; exact sp6
    have rep7 : RepAll (upd H' st (.lst n7)) ds ys := rep6.tk (Tk.lst st6) im6
    have ex7 : Ex [st, sp] H3 (upd H' st (.lst n7)) := hex.trans (Ex.upd (by simp))
    generalize upd H' st (.lst n7) = H7 at *
    have s8 : Same H7 (upd H7 t (.tup [.int cr, .int cc, .str ⟨#[k]⟩])) := Same.fresh _ ht
    have t8 : upd H7 t (.tup [.int cr, .int cc, .str ⟨#[k]⟩]) t = some (.tup [.int cr, .int cc, .str ⟨#[k]⟩]) := upd_same
    generalize upd H7 t (.tup [.int cr, .int cc, .str ⟨#[k]⟩]) = H8 at *
    have sp8 := s8 _ _ sp7
    have hjl : j < cxs.length := (List.getElem?_eq_some_iff.mp hx).1
    have hly := rep6.length
    refine ⟨sp, ys, .ref t, rfl, rfl, sp8, small1000 (by omega), ?_⟩
    have hsn : ∀ d ∈ ds ++ [.tuple [.int cr, .int cc, .str ⟨#[k]⟩]], SgD d := fun d hd => by
      rcases List.mem_append.mp hd with h | h
      · exact hsp6 d h
      · rw [List.mem_singleton.mp h]; exact ⟨cr, cc, k, rfl, hk.1, hk.2⟩
    have imn : immAll (ds ++ [.tuple [.int cr, .int cc, .str ⟨#[k]⟩]]) = true := Spots.imm fun d hd => by obtain ⟨r, c, k', e, _⟩ := hsn d hd; exact ⟨r, c, _, e⟩
    refine ⟨_, _, n7, ds ++ [.tuple [.int cr, .int cc, .str ⟨#[k]⟩]], ys ++ [.ref t], rfl, (ex7.trans (Ex.of_same s8)).trans (Ex.upd (by simp)), by rw [upd_ne (Ne.symm nsp)]; exact s8 _ _ st7, hn7, upd_same,
      (((rep7.same s8).snoc (spot_rep t8 hok)).tk (Tk.lst sp8) imn), hsn, ?_, by simp [hl6]⟩
    rw [List.map_append, hcl6, map_take_succ cl hdat]
    rfl
  · obtain ⟨y4, y5, n6, ds, ys, rfl, hex, st6, hn6, sp6, rep6, hsp6, hcl6, hl6⟩ := h
    rw [List.take_of_length_le (by omega)] at hcl6
    have pre : Pre ds := ⟨hsp6, by omega, by omega, by rw [hcl6]; exact hcon, by rw [hcl6]; exact hnd⟩
    refine ⟨_, rfl, sp, ys, ds, rfl, sp6, rep6, pre.spots, by omega, by omega, fun r H9 s9 rep9 => ?_⟩
    refine q r H9 (shiftD ds) (fun b o hb h0 => ?_) (Zr.shift pre) rep9
    have nb : b ≠ sp := fun e => by rw [e, hspH] at h0; cases h0
    have nbs : b ≠ st := by simpa using hb
    exact s9 _ _ (hex b o (by simp [nb, nbs]) (ex3 b o (by simpa using nbs) (ex2 b o hb h0)))
end
end K05

set_option maxHeartbeats 8000000
namespace K05
open PySem PyProof.Rows L2 L3
def nb (r c : Int) : List Cl := [(r, c + 1), (r + 1, c), (r, c - 1), (r - 1, c)]
theorem tch_nb {r c : Int} {b : Cl} (h : Tch (r, c) b) : b ∈ nb r c := by
  obtain ⟨x, y⟩ := b
  unfold Tch at h
  simp only at h
  unfold nb
  simp only [List.mem_cons, Prod.mk.injEq, List.not_mem_nil, or_false]
  omega
theorem cell_mem {cs : List PyData} (hcs : Cells cs) {p q : Int} (h : (p, q) ∈ cs.map cl) : PyData.tuple [.int p, .int q] ∈ cs := by
  obtain ⟨d, hd, e⟩ := List.mem_map.mp h
  obtain ⟨r, c, rfl⟩ := hcs d hd
  have e' : (r, c) = (p, q) := e
  injection e' with e1 e2
  rw [← e1, ← e2]; exact hd
theorem eqv_cell {d : PyData} {p q : Int} (hd : ∃ r c : Int, d = .tuple [.int r, .int c]) : PyData.eqv d (.tuple [.int p, .int q]) = true ↔ cl d = (p, q) := by
  obtain ⟨r, c, rfl⟩ := hd
  show PyData.eqv (.tuple [.int r, .int c]) (.tuple [.int p, .int q]) = true ↔ (r, c) = (p, q)
  rw [Prod.mk.injEq]
  simp [PyData.eqv, PyData.eqvAll]
theorem any_cell {cs : List PyData} (hcs : Cells cs) (p q : Int) : (cs.any fun e => PyData.eqv e (.tuple [.int p, .int q])) = true ↔ (p, q) ∈ cs.map cl := by
  rw [List.any_eq_true, List.mem_map]
  constructor
  · rintro ⟨d, hd, e⟩
    exact ⟨d, hd, (eqv_cell (hcs d hd)).mp e⟩
  · rintro ⟨d, hd, e⟩
    exact ⟨d, hd, (eqv_cell (hcs d hd)).mpr e⟩
section
variable {P : Program} {w : World} {K : PySem.W.Frag} {mg : Str → Option Value} {base : Heap} {f : Addr} {fd : FuncData}
/-! ### cells that hang together, by the law's walk -/
def spHangs : Sp := fun vs H Q _ => ∃ (a : Addr) (xs : List V) (cs : List PyData), vs = [.ref a] ∧ H a = some (.lst xs) ∧ RepAll H cs xs ∧ Cells cs ∧ Conn (cs.map cl) ∧ (cs.map cl).Nodup ∧ 0 < cs.length ∧ cs.length ≤ 6 ∧ ∀ H', Same H H' → Q (.bl true) H'
theorem scHangs : FnScope ["_law_cells", "_law_reached", "_law_spot", "_law_row", "_law_column", "_law_cell"] ["_law_cells"] (defScope sHangs) := ⟨rfl, rfl, rfl, by decide +kernel, rfl, by decide +kernel, by decide +kernel⟩
theorem ok_hangs (B : ∀ x ∈ blts, mg x = none) (F : Fun K "_law_hangs" "_law_hangs" sHangs f fd) : FnOk P w K mg base CX0 1 f fd ["_law_cells"] spHangs := by
  refine F.ok (k := 0) scHangs (fun vs H Q E h => ?_) (fun cdv A outer s H vs Q E hr h => ?_)
  · obtain ⟨a, xs, cs, rfl, _⟩ := h
    rfl
  obtain ⟨a, xs, cs, rfl, ha, hrep, hcs, hcon, hnd, hpos, hsix, q⟩ := h
  have hu := hr.units
  have hxl := hrep.length
  have h0x : 0 < xs.length := by omega
  obtain ⟨b0, r0, c0, hv0, hb0, hd0⟩ := cells_at hcs hrep (List.getElem?_eq_getElem h0x)
  have hat0 : atI xs ((0 : Nat) : Int) = some (.ref b0) := atI_nat (by rw [List.getElem?_eq_getElem h0x, hv0])
  refine ⟨_, (pss_cons (ps_set (i := 1) scHangs.nd rfl (Or.inl rfl) (pe_lst (pa_c (pe_ix ix_list (pv 0) pe_int (fun _ _ => rfl)) pa_nil)))
    (pss_cons (ps_set (i := 2) scHangs.nd rfl (Or.inl rfl) pe_int)
    (pss_cons (ps_while PassesOwn.never (pt_cmpR op_lt (pv 2) (pe_cB call_len_seq rfl (B "len" (by decide)) PySem.boot_len (pa_c (pv 1) pa_nil)) (nomark _)) (pss_cons (ps_asg (pe_ix ix_list (pv 1) (pv 2) (fun _ _ => rfl)) (pg_tup (n := 2) rfl (pgs_cons (pg_name (i := 3) scHangs.nd rfl (Or.inl rfl)) (pgs_cons (pg_name (i := 4) scHangs.nd rfl (Or.inl rfl)) pgs_nil))))
    (pss_cons (ps_for PassesOwn.never rfl (pi_list (pe_lst (pa_c (pe_tup (pa_c (pv 3) (pa_c (pe_op op_add (pv 4) pe_int) pa_nil))) (pa_c (pe_tup (pa_c (pe_op op_add (pv 3) pe_int) (pa_c (pv 4) pa_nil))) (pa_c (pe_tup (pa_c (pv 3) (pa_c (pe_op op_sub (pv 4) pe_int) pa_nil))) (pa_c (pe_tup (pa_c (pe_op op_sub (pv 3) pe_int) (pa_c (pv 4) pa_nil))) pa_nil)))))) (pg_name (i := 5) scHangs.nd rfl (Or.inl rfl)) (pss_one (ps_if (PW.pt (pw_and (pt_cmpR (op_inD hu) (pv 5) (pv 0) rfl) (pw_and1 (pt_cmpR (op_notInD hu) (pv 5) (pv 1) rfl)))) (pss_one (ps_expr (pe_bm PySem.F.plainAttrs_list PySem.F.slot_list_append PySem.F.type_list_append mt_append (pv 1) (pa_c (pv 5) pa_nil)))) pss_nil)))
    (pss_one (ps_aug (i := 2) scHangs.nd rfl (Or.inl rfl) pe_int ip_add)))))
    (pss_one (ps_ret (pe_cmpR op_eq (pe_cB call_len_seq rfl (B "len" (by decide)) PySem.boot_len (pa_c (pv 1) pa_nil)) (pe_cB call_len_seq rfl (B "len" (by decide)) PySem.boot_len (pa_c (pv 0) pa_nil)) (nomark _))))))), ?_⟩
  refine ⟨_, rfl, a, xs, 0, _, rfl, rfl, SqL.of ha, hat0, (by show 1 ≤ sizeLine; decide), fun R hR => ?_⟩
  have naR : a ≠ R := ne_of_none ha hR
  have R1 : upd H R (.lst [.ref b0]) R = some (.lst [.ref b0]) := upd_same
  have s1 : Same H (upd H R (.lst [.ref b0])) := Same.fresh _ hR
  have a1 := s1 _ _ ha
  have rep1 := hrep.same s1
  have cb1 := s1 _ _ hb0
  generalize upd H R (.lst [.ref b0]) = H1 at *
  refine ⟨fun m σ' H' => ∃ (sp : Nat) (y3 y4 y5 : Option V) (rs : List PyData) (rxs : List V), σ' = [some (.ref a), some (.ref R), some (.int (sp : Nat)), y3, y4, y5] ∧ Ex [R] H1 H' ∧ H' R = some (.lst rxs) ∧ RepAll H' rs rxs ∧ Cells rs ∧ (rs.map cl).Nodup ∧ (∀ x, x ∈ rs.map cl → x ∈ cs.map cl) ∧ 0 < rs.length ∧
    (∀ (i : Nat) (d : PyData), i < sp → rs[i]? = some d → ∀ x, x ∈ cs.map cl → Tch (cl d) x → x ∈ rs.map cl) ∧ m = cs.length - sp, ?_, ?_⟩
  · refine ⟨_, 0, none, none, none, [.tuple [.int r0, .int c0]], [.ref b0], rfl, Ex.refl _ _, R1, ⟨_, _, rfl, cell_rep cb1, rfl⟩, fun d hd => ?_, by simp, fun x hx => ?_, by simp, fun i d hi => by omega, rfl⟩
    · rw [List.mem_singleton.mp hd]; exact ⟨_, _, rfl⟩
    · rw [List.mem_singleton.mp hx]; exact List.mem_map.mpr ⟨_, List.mem_of_getElem? hd0, rfl⟩
  rintro m σ' H' ⟨sp, y3, y4, y5, rs, rxs, rfl, hex, hR', rep', hrs, hnd', hsub, hpos', hcl, rfl⟩
  have hrl := rep'.length
  have hle : rs.length ≤ cs.length := by
    have := List.Nodup.length_le_of_subset hnd' (fun x hx => hsub x hx)
    simpa using this
  have tk' : Tk H1 H' := hex.one R1
  have a' : H' a = some (.lst xs) := hex.at naR a1
  have repc : RepAll H' cs xs := rep1.tk tk' hcs.imm
  refine ⟨_, rfl, _, rfl, R, _, rfl, .inl (SqL.of hR'), _, _, rfl, rfl, _, rfl, ?_⟩
  refine ite2 (fun hlt => ?_) (fun hge => ?_)
  · have hlt' : sp < rxs.length := by
      have : (sp : Int) < ((rxs.length : Nat) : Int) := of_decide_eq_true hlt
      omega
    refine ⟨fun σ2 H2 => ∃ (z3 z4 z5 : Option V) (rs2 : List PyData) (rxs2 : List V), σ2 = [some (.ref a), some (.ref R), some (.int ((sp + 1 : Nat) : Int)), z3, z4, z5] ∧ Ex [R] H1 H2 ∧ H2 R = some (.lst rxs2) ∧ RepAll H2 rs2 rxs2 ∧ Cells rs2 ∧ (rs2.map cl).Nodup ∧ (∀ x, x ∈ rs2.map cl → x ∈ cs.map cl) ∧ 0 < rs2.length ∧
      (∀ (i : Nat) (d : PyData), i < sp + 1 → rs2[i]? = some d → ∀ x, x ∈ cs.map cl → Tch (cl d) x → x ∈ rs2.map cl), ?_, ?_⟩
    · rintro σ2 H2 ⟨z3, z4, z5, rs2, rxs2, rfl, h1, h2, h3, h4, h5, h6, h7, h8⟩
      exact ⟨_, by omega, sp + 1, z3, z4, z5, rs2, rxs2, rfl, h1, h2, h3, h4, h5, h6, h7, h8, rfl⟩
    obtain ⟨b, r, c, hv, hb, hdat⟩ := cells_at hrs rep' (List.getElem?_eq_getElem hlt')
    have hat : atI rxs ((sp : Nat) : Int) = some (.ref b) := atI_nat (by rw [List.getElem?_eq_getElem hlt', hv])
    refine ⟨_, rfl, _, rfl, R, rxs, _, _, rfl, rfl, SqL.of hR', hat, b, _, rfl, SqT.of hb, rfl, _, _, rfl, _, _, rfl, rfl, ?_⟩
    refine ⟨_, rfl, _, rfl, _, _, rfl, rfl, (by show 2 ≤ sizeLine; decide), fun q1 hq1 => ?_⟩
    refine ⟨_, rfl, _, _, rfl, rfl, _, rfl, (by show 2 ≤ sizeLine; decide), fun q2 hq2 => ?_⟩
    refine ⟨_, rfl, _, rfl, _, _, rfl, rfl, (by show 2 ≤ sizeLine; decide), fun q3 hq3 => ?_⟩
    refine ⟨_, rfl, _, _, rfl, rfl, _, rfl, (by show 2 ≤ sizeLine; decide), fun q4 hq4 => ⟨(by show 4 ≤ sizeLine; decide), fun q5 hq5 => ?_⟩⟩
    have k1 : upd H' q1 (.tup [.int r, .int (c + 1)]) q1 = some (.tup [.int r, .int (c + 1)]) := upd_same
    have t1 : Same H' (upd H' q1 (.tup [.int r, .int (c + 1)])) := Same.fresh _ hq1
    generalize upd H' q1 (.tup [.int r, .int (c + 1)]) = G1 at *
    have k2 : upd G1 q2 (.tup [.int (r + 1), .int c]) q2 = some (.tup [.int (r + 1), .int c]) := upd_same
    have t2 : Same G1 (upd G1 q2 (.tup [.int (r + 1), .int c])) := Same.fresh _ hq2
    generalize upd G1 q2 (.tup [.int (r + 1), .int c]) = G2 at *
    have k3 : upd G2 q3 (.tup [.int r, .int (c - 1)]) q3 = some (.tup [.int r, .int (c - 1)]) := upd_same
    have t3 : Same G2 (upd G2 q3 (.tup [.int r, .int (c - 1)])) := Same.fresh _ hq3
    generalize upd G2 q3 (.tup [.int r, .int (c - 1)]) = G3 at *
    have k4 : upd G3 q4 (.tup [.int (r - 1), .int c]) q4 = some (.tup [.int (r - 1), .int c]) := upd_same
    have t4 : Same G3 (upd G3 q4 (.tup [.int (r - 1), .int c])) := Same.fresh _ hq4
    generalize upd G3 q4 (.tup [.int (r - 1), .int c]) = G4 at *
    have k5 : upd G4 q5 (.lst [.ref q1, .ref q2, .ref q3, .ref q4]) q5 = some (.lst [.ref q1, .ref q2, .ref q3, .ref q4]) := upd_same
    have t5 : Same G4 (upd G4 q5 (.lst [.ref q1, .ref q2, .ref q3, .ref q4])) := Same.fresh _ hq5
    generalize upd G4 q5 (.lst [.ref q1, .ref q2, .ref q3, .ref q4]) = HB at *
    have n5 : q5 ≠ R := by
      have := (((t1.trans t2).trans t3).trans t4) _ _ hR'
      exact (ne_of_none this hq5).symm
    have four : ∀ (i : Nat) (v : V), [V.ref q1, .ref q2, .ref q3, .ref q4][i]? = some v → ∃ (b : Addr) (p q : Int), v = .ref b ∧ HB b = some (.tup [.int p, .int q]) ∧ (nb r c)[i]? = some (p, q) := by
      intro i v hv
      match i, hv with
      | 0, hv => cases hv; exact ⟨q1, r, c + 1, rfl, t5 _ _ (t4 _ _ (t3 _ _ (t2 _ _ k1))), rfl⟩
      | 1, hv => cases hv; exact ⟨q2, r + 1, c, rfl, t5 _ _ (t4 _ _ (t3 _ _ k2)), rfl⟩
      | 2, hv => cases hv; exact ⟨q3, r, c - 1, rfl, t5 _ _ (t4 _ _ k3), rfl⟩
      | 3, hv => cases hv; exact ⟨q4, r - 1, c, rfl, t5 _ _ k4, rfl⟩
      | i + 4, hv => simp at hv
    have sB : Same H' HB := (((t1.trans t2).trans t3).trans t4).trans t5
    have RB := sB _ _ hR'
    have repB := rep'.same sB
    have repcB := repc.same sB
    have aB := sB _ _ a'
    refine ⟨q5, rfl, ⟨_, SqL.of k5⟩, ?_⟩
    refine for_list (xs := [V.ref q1, .ref q2, .ref q3, .ref q4]) (fun j σ2 H2 => ∃ (z5 : Option V) (rs2 ex : List PyData) (rxs2 : List V), σ2 = [some (.ref a), some (.ref R), some (.int (sp : Nat)), some (.int r), some (.int c), z5] ∧ Ex [R] HB H2 ∧ H2 R = some (.lst rxs2) ∧ RepAll H2 rs2 rxs2 ∧ Cells rs2 ∧ (rs2.map cl).Nodup ∧ (∀ x, x ∈ rs2.map cl → x ∈ cs.map cl) ∧ rs2 = rs ++ ex ∧
      (∀ (i : Nat) (x : Cl), i < j → (nb r c)[i]? = some x → x ∈ cs.map cl → x ∈ rs2.map cl)) ?_ (fun j σ2 H2 hj h => ?_) (fun j x σ2 H2 hx h => ?_) (fun σ2 H2 h => ?_)
    · exact ⟨_, rs, [], rxs, rfl, Ex.refl _ _, RB, repB, hrs, hnd', hsub, by simp, fun i x hi => by omega⟩
    · obtain ⟨_, _, _, _, _, e2, _⟩ := h
      exact SqL.of (e2.at n5 k5)
    · obtain ⟨z5, rs2, ex, rxs2, rfl, ex2, R2, rep2, hrs2, nd2, sub2, e2, cl2⟩ := h
      obtain ⟨b2, p, q', rfl, hb2, hnb⟩ := four j x hx
      have tk2 : Tk HB H2 := ex2.one RB
      have b2' := tk2 _ _ hb2
      have a2 := ex2.at naR aB
      have rc2 := repcB.tk tk2 hcs.imm
      have hl2 := rep2.length
      have hle2 : rs2.length ≤ cs.length := by
        have := List.Nodup.length_le_of_subset nd2 (fun x hx => sub2 x hx)
        simpa using this
      refine ⟨_, rfl, _, rfl, .tuple [.int p, .int q'], a, xs, cs, cell_rep b2', rfl, .inl a2, rc2, (by simp [PyData.depth, PyData.depthAll]), _, rfl, ?_⟩
      refine ite2 (fun h1 => ?_) (fun h1 => ?_)
      · have inc : (p, q') ∈ cs.map cl := (any_cell hcs p q').mp h1
        refine ⟨_, rfl, _, rfl, .tuple [.int p, .int q'], R, rxs2, rs2, cell_rep b2', rfl, .inl R2, rep2, (by simp [PyData.depth, PyData.depthAll]), _, rfl, ?_⟩
        refine ite2 (fun h2 => ?_) (fun h2 => ?_)
        · have nin : (p, q') ∉ rs2.map cl := fun z => by
            rw [if_pos rfl, (any_cell hrs2 p q').mpr z] at h2
            cases h2
          refine ⟨_, rfl, .inl ⟨rfl, _, SqL.of R2⟩, _, rfl, R, rxs2, .ref b2, rfl, rfl, R2, small1000 (by omega), ?_⟩
          have hrs3 : Cells (rs2 ++ [.tuple [.int p, .int q']]) := fun z hz => by
            rcases List.mem_append.mp hz with h | h
            · exact hrs2 z h
            · rw [List.mem_singleton.mp h]; exact ⟨_, _, rfl⟩
          refine ⟨_, rs2 ++ [.tuple [.int p, .int q']], ex ++ [.tuple [.int p, .int q']], rxs2 ++ [.ref b2], rfl, ex2.trans (Ex.upd (by simp)), upd_same, ((rep2.snoc (cell_rep b2')).tk (Tk.lst R2) hrs3.imm), hrs3, ?_, ?_, by rw [e2]; simp, ?_⟩
          · rw [List.map_append, List.nodup_append]
            refine ⟨nd2, by simp, fun x hx y hy exy => ?_⟩
            rw [exy, List.mem_singleton.mp hy] at hx
            exact nin hx
          · intro x hx
            rw [List.map_append] at hx
            rcases List.mem_append.mp hx with h | h
            · exact sub2 x h
            · rw [List.mem_singleton.mp h]; exact inc
          · intro i x hi hxi hxc
            rw [List.map_append]
            by_cases hij : i < j
            · exact List.mem_append_left _ (cl2 i x hij hxi hxc)
            · have : i = j := by omega
              rw [this, hnb] at hxi
              cases hxi
              exact List.mem_append_right _ (List.mem_singleton.mpr rfl)
        · have yin : (p, q') ∈ rs2.map cl := by
            refine (any_cell hrs2 p q').mp ?_
            rw [if_pos rfl] at h2
            simpa using h2
          refine ⟨_, rs2, ex, rxs2, rfl, ex2, R2, rep2, hrs2, nd2, sub2, e2, fun i x hi hxi hxc => ?_⟩
          by_cases hij : i < j
          · exact cl2 i x hij hxi hxc
          · have : i = j := by omega
            rw [this, hnb] at hxi
            cases hxi
            exact yin
      · refine ⟨_, rs2, ex, rxs2, rfl, ex2, R2, rep2, hrs2, nd2, sub2, e2, fun i x hi hxi hxc => ?_⟩
        by_cases hij : i < j
        · exact cl2 i x hij hxi hxc
        · have : i = j := by omega
          rw [this, hnb] at hxi
          cases hxi
          exact absurd ((any_cell hcs p q').mpr hxc) h1
    · obtain ⟨z5, rs2, ex, rxs2, rfl, ex2, R2, rep2, hrs2, nd2, sub2, e2, cl2⟩ := h
      refine ⟨_, rfl, _, _, rfl, rfl, ?_⟩
      refine ⟨_, _, _, rs2, rxs2, rfl, (hex.trans (Ex.of_same sB)).trans ex2, R2, rep2, hrs2, nd2, sub2, by rw [e2]; simp; omega, fun i d hi hdi x hxc hT => ?_⟩
      have hrl' : sp < rs.length := by omega
      by_cases hij : i < sp
      · rw [e2, List.getElem?_append_left (by omega)] at hdi
        have := hcl i d hij hdi x hxc hT
        rw [e2, List.map_append]
        exact List.mem_append_left _ this
      · have ei : i = sp := by omega
        rw [ei, e2, List.getElem?_append_left hrl', hdat] at hdi
        cases hdi
        have hT' : Tch (r, c) x := hT
        obtain ⟨k, hk⟩ := List.getElem?_of_mem (tch_nb hT')
        have hk4 : k < 4 := (List.getElem?_eq_some_iff.mp hk).1
        exact cl2 k x hk4 hk hxc
  · have hge' : rxs.length ≤ sp := by
      have : ¬ (sp : Int) < ((rxs.length : Nat) : Int) := by simpa using hge
      omega
    have all := hcon.closed (R := rs.map cl) hsub ⟨_, List.getElem_mem (l := rs.map cl) (n := 0) (by simpa using hpos')⟩ (fun x hx y hy t => by
      obtain ⟨d, hd, rfl⟩ := List.mem_map.mp hx
      obtain ⟨k, hk⟩ := List.getElem?_of_mem hd
      have hk' : k < rs.length := (List.getElem?_eq_some_iff.mp hk).1
      exact hcl k d (by omega) hk y hy t)
    have el : (rs.map cl).length = (cs.map cl).length := nodup_len hnd hnd' fun x => ⟨hsub x, all x⟩
    rw [List.length_map, List.length_map] at el
    refine ⟨_, rfl, R, _, rfl, .inl (SqL.of hR'), _, rfl, a, _, rfl, .inl (SqL.of a'), rfl, ?_⟩
    have ee : (.bl (decide (V.int ((rxs.length : Nat) : Int) = V.int ((xs.length : Nat) : Int))) : V) = .bl true := by
      rw [hrl, hxl, el]; simp
    have qq := q H' fun b' o hb' => hex.at (ne_of_none hb' hR) (s1 _ _ hb')
    rw [← ee] at qq
    exact qq
end
end K05

set_option maxHeartbeats 8000000
namespace K05
open PySem PyProof.Rows L2 L3
def cellD (d : PyData) : PyData := .tuple [.int (row1 d), .int (col1 d)]
theorem cellD_cl (ds : List PyData) : (ds.map cellD).map cl = ds.map cl := by
  rw [List.map_map]
  rfl
theorem cellD_cells (ds : List PyData) : Cells (ds.map cellD) := fun d hd => by
  obtain ⟨e, _, rfl⟩ := List.mem_map.mp hd
  exact ⟨_, _, rfl⟩
/-- sorted spots of unlike cells: the cells rise -/
theorem rising {ds : List PyData} (hz : Zr ds) {i : Nat} {x y : PyData} (hx : (sortD ds)[i]? = some x) (hy : (sortD ds)[i + 1]? = some y) : HT.lexLt [row1 x, col1 x] [row1 y, col1 y] = true := by
  have hz' := hz.perm (sortD_perm ds)
  have u := sortD_up (spots_rows hz.pre.spots) hx hy (Nat.le_succ i)
  have ix := (List.getElem?_eq_some_iff.mp hx).1
  have iy := (List.getElem?_eq_some_iff.mp hy).1
  have nd := List.pairwise_iff_getElem.mp hz'.pre.nd i (i + 1) (by simpa using ix) (by simpa using iy) (Nat.lt_succ_self i)
  rw [List.getElem_map, List.getElem_map, (List.getElem?_eq_some_iff.mp hx).2, (List.getElem?_eq_some_iff.mp hy).2] at nd
  obtain ⟨r, c, k, rfl, _⟩ := hz'.pre.sg x (List.mem_of_getElem? hx)
  obtain ⟨r', c', k', rfl, _⟩ := hz'.pre.sg y (List.mem_of_getElem? hy)
  have nd' : ¬ (r = r' ∧ c = c') := fun ⟨e1, e2⟩ => nd (by rw [e1, e2]; rfl)
  show HT.lexLt [r, c] [r', c'] = true
  have u' : rowLt [.int r', .int c', .str ⟨#[k']⟩] [.int r, .int c, .str ⟨#[k]⟩] = false := u
  rw [rl_int] at u'
  rw [HT.lexLt_cons]
  by_cases e1 : r = r'
  · rw [if_pos e1.symm, rl_int] at u'
    rw [if_pos e1, HT.lexLt_cons]
    by_cases e2 : c = c'
    · exact absurd ⟨e1, e2⟩ nd'
    · rw [if_neg (Ne.symm e2)] at u'
      rw [if_neg e2]
      have := of_decide_eq_false u'
      exact decide_eq_true (by omega)
  · rw [if_neg (Ne.symm e1)] at u'
    rw [if_neg e1]
    have := of_decide_eq_false u'
    exact decide_eq_true (by omega)
section
variable {K : PySem.W.Frag} {a : Addr} {xs : List V} {ds : List PyData} {σ : L2.St} {H : Hp} {Q : VK}
/-- [cell[j] for cell in cells] -/
theorem read_cellproj {i0 : Nat} (j : Int) (pr : PyData → Int) (hj : ∀ (r c : Int), atI [V.int r, .int c] j = some (.int (pr (.tuple [.int r, .int c]))))
    (hσ : σ[i0]? = some (some (.ref a))) (ha : H a = some (.lst xs)) (hr : RepAll H ds xs) (hs : Cells ds) (hl : ds.length ≤ 64)
    (q : ∀ D H', Same H H' → H' D = some (.lst ((ds.map pr).map V.int)) → Q (.ref D) H') :
    tComp (iList K (tVar i0)) [none] (gName 0) tYes (tOp (rIxT K) (tVar 0) (tC (.int j))) σ H Q := by
  have hlen := hr.length
  refine ⟨_, hσ, a, rfl, ⟨_, SqL.of ha⟩, fun D hD => ?_⟩
  refine comp_list (xs := xs) (fun i ys H' => Same H H' ∧ ys = ((ds.take i).map pr).map V.int) ⟨Same.fresh _ hD, rfl⟩ (fun i ys H' p => SqL.of (p.1 _ _ ha)) (fun i x ys H' hx hi hDy hyl p => ?_) (fun ys H' hDy hyl p => ?_)
  · obtain ⟨p1, rfl⟩ := p
    obtain ⟨b, r, c, rfl, hb, hd⟩ := cells_at hs hr hx
    refine ⟨Agree.set (Agree.refl _) rfl, ?_⟩
    dsimp only [tYes]
    refine iteT ?_
    refine ⟨_, rfl, b, _, _, _, rfl, rfl, SqT.of (p1 _ _ hb), hj r c, nx_put (by omega) hDy hyl ⟨p1.new hD, ?_⟩⟩
    rw [map_take_succ pr hd, List.map_append]
    rfl
  · obtain ⟨p1, rfl⟩ := p
    refine q D H' p1 ?_
    rw [hDy, List.take_of_length_le (by omega)]
/-- [(spot[0], spot[1]) for spot in form] -/
theorem read_cellsT {i0 : Nat} (hσ : σ[i0]? = some (some (.ref a))) (ha : H a = some (.tup xs)) (hr : RepAll H ds xs) (hs : Spots ds) (hl : ds.length ≤ 64)
    (q : ∀ D ys H', Same H H' → H D = none → H' D = some (.lst ys) → RepAll H' (ds.map cellD) ys → Q (.ref D) H') :
    tComp (iTup K (tVar i0)) [none] (gName 0) tYes (tTup (tCons (tOp (rIxT K) (tVar 0) (tC (.int 0))) (tCons (tOp (rIxT K) (tVar 0) (tC (.int 1))) tNil))) σ H Q := by
  have hlen := hr.length
  refine ⟨_, hσ, a, rfl, ⟨_, SqT.of ha⟩, fun D hD => ?_⟩
  refine comp_tup (xs := xs) (fun i ys H' => Same H H' ∧ RepAll H' ((ds.take i).map cellD) ys) ⟨Same.fresh _ hD, rfl⟩ (fun i ys H' p => SqT.of (p.1 _ _ ha)) (fun i x ys H' hx hi hDy hyl p => ?_) (fun ys H' hDy hyl p => ?_)
  · obtain ⟨p1, p2⟩ := p
    obtain ⟨b, r, c, z, rfl, hb, hz, hd⟩ := hs.at hr hx
    refine ⟨Agree.set (Agree.refl _) rfl, ?_⟩
    dsimp only [tYes]
    refine iteT ?_
    refine ⟨_, rfl, b, _, _, _, rfl, rfl, SqT.of (p1 _ _ hb), rfl, _, rfl, b, _, _, _, rfl, rfl, SqT.of (p1 _ _ hb), rfl, (by show 2 ≤ sizeLine; decide), fun n hn => ?_⟩
    have hnD : D ≠ n := fun e => by rw [← e, hDy] at hn; cases hn
    have im : immAll (((ds.take i).map cellD) ++ [.tuple [.int r, .int c]]) = true := Cells.imm fun d hd' => by
      rcases List.mem_append.mp hd' with h | h
      · exact cellD_cells _ d h
      · rw [List.mem_singleton.mp h]; exact ⟨_, _, rfl⟩
    have hs1 : Same H' (upd H' n (.tup [.int r, .int c])) := Same.fresh _ hn
    have hDn := hs1 _ _ hDy
    have hs2 : RepAll (upd H' n (.tup [.int r, .int c])) (((ds.take i).map cellD) ++ [.tuple [.int r, .int c]]) (ys ++ [.ref n]) := (p2.same hs1).snoc (cell_rep upd_same)
    refine nx_put (by omega) hDn hyl ⟨(p1.trans hs1).new hD, ?_⟩
    rw [map_take_succ cellD hd]
    exact hs2.tk (Tk.lst hDn) im
  · obtain ⟨p1, p2⟩ := p
    rw [List.take_of_length_le (by omega)] at p2
    exact q D ys H' p1 hD hDy p2
end
section
variable {P : Program} {w : World} {K : PySem.W.Frag} {mg : Str → Option Value} {base : Heap} {f : Addr} {fd : FuncData}
/-! ### a form, by the law's look -/
def spIsf : Sp := fun vs H Q _ => ∃ (r : Addr) (ds : List PyData), vs = [.ref r] ∧ Rep H (.tuple (sortD ds)) (.ref r) ∧ Zr ds ∧ ∀ H', Same H H' → Q (.bl true) H'
theorem scIsf : FnScope ["_law_found", "_law_cells", "_law_k"] ["_law_found"] (defScope sIsf) := ⟨rfl, rfl, rfl, by decide +kernel, rfl, by decide +kernel, by decide +kernel⟩
theorem ok_isf (B : ∀ x ∈ blts, mg x = none) (Fspot : Fn P w K mg base "_law_is_spot" 2 ["_law_found"] (spSpot K)) (Fhangs : Fn P w K mg base "_law_hangs" 1 ["_law_cells"] spHangs) (F : Fun K "_law_is_form" "_law_is_form" sIsf f fd) : FnOk P w K mg base CX0 3 f fd ["_law_found"] spIsf := by
  refine F.ok (k := 2) scIsf (fun vs H Q E h => ?_) (fun cdv A outer s H vs Q E hr h => ?_)
  · obtain ⟨r, ds, rfl, _⟩ := h
    rfl
  obtain ⟨r, ds, rfl, ⟨r', xs, e, ha, rep⟩, hz0, q⟩ := h
  cases e
  have hu := hr.units
  have hup := fun (i : Nat) (x y : PyData) => rising hz0 (i := i) (x := x) (y := y)
  have hz := hz0.perm (sortD_perm ds)
  generalize sortD ds = es at *
  have hlen := rep.length
  have h1 := hz.pre.pos
  have h6 := hz.pre.six
  refine ⟨_, (pss_cons (ps_if (PW.pt (pw_or (pt_not (pt_val (pe_cB call_isinst rfl (B "isinstance" (by decide)) boot_isinstance (pa_c (pv 0) (pa_c (pe_bltn (v := .ty "tuple") rfl (B "tuple" (by decide)) boot_tuple rfl) pa_nil))))) (pw_or1 (pt_not (pt_chain op_le op_le pe_int (pe_cB call_len_seq rfl (B "len" (by decide)) PySem.boot_len (pa_c (pv 0) pa_nil)) pe_int))))) (pss_one (ps_ret pe_bl)) pss_nil)
    (pss_cons (ps_if (pt_cmpR (op_neD hu) (pe_comp ["_law_spot"] [none] rfl rfl (by decide +kernel) (by decide +kernel) rfl rfl (pi_tup (pv 0)) (fun _ => (pg_name (i := 0) (show (["_law_spot"] : List PySem.Str).Nodup by decide +kernel) rfl (Or.inl rfl))) (fun _ => pts_one (pt_not (pt_val (pe_fn Fspot hr (by decide) rfl (pa_c (pv 0) pa_nil))))) (fun _ => (pv 0))) (pe_lst pa_nil) (nomark _)) (pss_one (ps_ret pe_bl)) pss_nil)
    (pss_cons (ps_setC (i := 1) ["_law_spot"] [none] scIsf.nd rfl (Or.inl rfl) rfl rfl rfl (by decide +kernel) (by decide +kernel) rfl rfl (pi_tup (pv 0)) (fun _ => (pg_name (i := 0) (show (["_law_spot"] : List PySem.Str).Nodup by decide +kernel) rfl (Or.inl rfl))) (fun _ => pts_nil) (fun _ => (pe_tup (pa_c (pe_ix ix_tupC (pv 0) pe_int (fun _ _ => rfl)) (pa_c (pe_ix ix_tupC (pv 0) pe_int (fun _ _ => rfl)) pa_nil)))))
    (pss_cons (ps_for PassesOwn.never rfl (pi_r2 rfl (B "range" (by decide)) (pa_c pe_int (pa_c (pe_cB call_len_seq rfl (B "len" (by decide)) PySem.boot_len (pa_c (pv 1) pa_nil)) pa_nil))) (pg_name (i := 2) scIsf.nd rfl (Or.inl rfl)) (pss_one (ps_if (pt_not (pt_cmpR (op_ltT (Nat.lt_of_le_of_lt (Nat.le_add_right _ 64) hu)) (pe_ix ix_list (pv 1) (pe_op op_sub (pv 2) pe_int) (fun _ _ => rfl)) (pe_ix ix_list (pv 1) (pv 2) (fun _ _ => rfl)) (nomark _))) (pss_one (ps_ret pe_bl)) pss_nil)))
    (pss_cons (ps_if (PW.pt (pw_or (pt_cmpR op_ne (pe_cB (call_minL rfl) rfl (B "min" (by decide)) boot_min (pa_c (pe_comp ["_law_cell"] [none] rfl rfl (by decide +kernel) (by decide +kernel) rfl rfl (pi_list (pv 1)) (fun _ => (pg_name (i := 0) (show (["_law_cell"] : List PySem.Str).Nodup by decide +kernel) rfl (Or.inl rfl))) (fun _ => pts_nil) (fun _ => (pe_ix ix_tupC (pv 0) pe_int (fun _ _ => rfl)))) pa_nil)) pe_int (nomark _)) (pw_or1 (pt_cmpR op_ne (pe_cB (call_minL rfl) rfl (B "min" (by decide)) boot_min (pa_c (pe_comp ["_law_cell"] [none] rfl rfl (by decide +kernel) (by decide +kernel) rfl rfl (pi_list (pv 1)) (fun _ => (pg_name (i := 0) (show (["_law_cell"] : List PySem.Str).Nodup by decide +kernel) rfl (Or.inl rfl))) (fun _ => pts_nil) (fun _ => (pe_ix ix_tupC (pv 0) pe_int (fun _ _ => rfl)))) pa_nil)) pe_int (nomark _))))) (pss_one (ps_ret pe_bl)) pss_nil)
    (pss_one (ps_ret (pe_fn Fhangs hr (by decide) rfl (pa_c (pv 1) pa_nil))))))))), ?_⟩
  refine ⟨_, rfl, .ref r, "tuple", .type "tuple", true, rfl, .tup ha, rfl, true, rfl, iteF ?_⟩
  refine ⟨_, rfl, r, xs, rfl, .inr (SqT.of ha), _, _, rfl, rfl, _, rfl, ?_⟩
  refine ite2 (fun c1 => ?_) (fun c1 => absurd (decide_eq_true (show (1 : Int) ≤ ((xs.length : Nat) : Int) by omega)) c1)
  refine ⟨_, _, rfl, rfl, _, rfl, ?_⟩
  rw [show decide (((xs.length : Nat) : Int) ≤ 6) = true from decide_eq_true (by omega)]
  refine iteF ?_
  -- each a spot
  refine ⟨_, rfl, r, rfl, ⟨_, SqT.of ha⟩, fun D hD => ?_⟩
  refine comp_tup (xs := xs) (fun i ys H' => Same H H' ∧ ys = []) ⟨Same.fresh _ hD, rfl⟩ (fun i ys H' p => SqT.of (p.1 _ _ ha)) (fun i x ys H' hx hi hDy hyl p => ?_) (fun ys H' hDy hyl p => ?_)
  · obtain ⟨p1, rfl⟩ := p
    obtain ⟨d, hd1, hd2⟩ := rep.at hx
    obtain ⟨p, c, k, rfl, k1, k2⟩ := hz.pre.sg d (List.mem_of_getElem? hd1)
    obtain ⟨b, rfl, hb, _⟩ := rep_spot hd2
    refine ⟨Agree.set (Agree.refl _) rfl, ?_⟩
    refine ⟨_, rfl, b, p, c, k, rfl, p1 _ _ hb, k1, k2, true, rfl, ?_⟩
    refine iteF ?_
    exact ⟨[], hDy, by simp, p1, rfl⟩
  obtain ⟨p1, rfl⟩ := p
  refine ⟨(by show 0 ≤ sizeLine; decide), fun l hl => ?_⟩
  have s1 : Same H (upd H' l (.lst [])) := p1.trans (Same.fresh _ hl)
  have D1 : upd H' l (.lst []) D = some (.lst []) := (Same.fresh _ hl) _ _ hDy
  have l1 : upd H' l (.lst []) l = some (.lst []) := upd_same
  generalize upd H' l (.lst []) = H1 at *
  refine ⟨.list [], .list [], ⟨D, [], rfl, D1, rfl⟩, ⟨l, [], rfl, l1, rfl⟩, (by simp [PyData.depth, PyData.depthAll]), _, rfl, ?_⟩
  refine ite2 (fun h => absurd h (by rw [if_pos rfl, SeqAt.eqv_refl _ rfl]; decide)) (fun _ => ?_)
  -- the cells
  have rep1 := rep.same s1
  have ha1 := s1 _ _ ha
  refine read_cellsT rfl ha1 rep1 hz.pre.spots (by omega) fun C cys H2 s2 hC0 hC repC => ?_
  have hcl := repC.length
  rw [List.length_map] at hcl
  -- they rise
  refine ⟨_, rfl, C, cys, rfl, .inl (SqL.of hC), 1, _, rfl, ⟨by decide, by decide, by omega, by omega⟩, ?_⟩
  refine for_range (lo := 1) (fun i σ' H' => ∃ (y2 : Option V), σ' = [some (.ref r), some (.ref C), y2] ∧ H' = H2) ⟨_, rfl, rfl⟩ (fun i σ' H' hi h => ?_) (fun σ' H' h => ?_)
  · obtain ⟨y2, rfl, rfl⟩ := h
    have i0 : i < cys.length := by omega
    have i1 : i + 1 < cys.length := by omega
    obtain ⟨b, r0, c0, hv, hb, hdat⟩ := cells_at (cellD_cells es) repC (List.getElem?_eq_getElem i0)
    obtain ⟨b', r1, c1', hv', hb', hdat'⟩ := cells_at (cellD_cells es) repC (List.getElem?_eq_getElem i1)
    have hat : atI cys (1 + ((i : Nat) : Int) - 1) = some (.ref b) := by
      rw [show (1 + ((i : Nat) : Int) - 1) = ((i : Nat) : Int) by omega]
      exact atI_nat (by rw [List.getElem?_eq_getElem i0, hv])
    have hat' : atI cys (1 + ((i : Nat) : Int)) = some (.ref b') := by
      rw [show (1 + ((i : Nat) : Int)) = ((i + 1 : Nat) : Int) by omega]
      exact atI_nat (by rw [List.getElem?_eq_getElem i1, hv'])
    have lt : HT.lexLt [r0, c0] [r1, c1'] = true := by
      rw [List.getElem?_map] at hdat hdat'
      obtain ⟨x, hx, ex⟩ := Option.map_eq_some_iff.mp hdat
      obtain ⟨y, hy, ey⟩ := Option.map_eq_some_iff.mp hdat'
      have l := hup i x y hx hy
      injection ex with ex; injection ex with e1 e2; injection e1 with e1; injection e2 with e2; injection e2 with e2
      injection ey with ey; injection ey with e3 e4; injection e3 with e3; injection e4 with e4; injection e4 with e4
      rw [e1, e2, e3, e4] at l
      exact l
    refine ⟨_, rfl, _, rfl, _, _, rfl, rfl, C, cys, _, _, rfl, rfl, SqL.of hC, hat, _, rfl, _, rfl, C, cys, _, _, rfl, rfl, SqL.of hC, hat', b, b', [r0, c0], [r1, c1'], rfl, rfl, SqT.of hb, SqT.of hb', _, rfl, ?_⟩
    rw [lt]
    refine iteF ?_
    exact ⟨_, rfl, rfl⟩
  obtain ⟨y2, rfl, rfl⟩ := h
  have crow : ∀ (ds : List PyData), (ds.map cellD).map row1 = ds.map row1 := fun ds => by rw [List.map_map]; rfl
  have ccol : ∀ (ds : List PyData), (ds.map cellD).map col1 = ds.map col1 := fun ds => by rw [List.map_map]; rfl
  -- the least row and column
  refine read_cellproj 0 row1 (fun _ _ => rfl) rfl hC repC (cellD_cells es) (by rw [List.length_map]; omega) fun D3 H3 s3 hD3 => ?_
  refine ⟨D3, _, rfl, hD3, by rw [List.length_map, List.length_map]; exact h1, fun M1 m1 m1' => ?_⟩
  have em1 : M1 = 0 := (minI_eq m1 m1').trans (by rw [crow]; exact hz.r0)
  subst em1
  refine ⟨rfl, _, rfl, ?_⟩
  refine ite2 (fun h => absurd h (by simp)) (fun _ => ?_)
  refine read_cellproj 1 col1 (fun _ _ => rfl) rfl (s3 _ _ hC) (repC.same s3) (cellD_cells es) (by rw [List.length_map]; omega) fun D4 H4 s4 hD4 => ?_
  refine ⟨D4, _, rfl, hD4, by rw [List.length_map, List.length_map]; exact h1, fun M2 m2 m2' => ?_⟩
  have em2 : M2 = 0 := (minI_eq m2 m2').trans (by rw [ccol]; exact hz.c0)
  subst em2
  refine ⟨rfl, _, rfl, ?_⟩
  refine ite2 (fun h => absurd h (by simp)) (fun _ => ?_)
  have s34 := s3.trans s4
  exact ⟨_, rfl, C, cys, es.map cellD, rfl, s34 _ _ hC, repC.same s34, cellD_cells es, by rw [cellD_cl]; exact hz.pre.con, by rw [cellD_cl]; exact hz.pre.nd, by rw [List.length_map]; omega, by rw [List.length_map]; omega, fun H9 s9 => q H9 (((s1.trans s2).trans s34).trans s9)⟩
/-! ### the law -/
theorem seq_keep {K : PySem.W.Frag} {H H' : Hp} {a : Addr} {xs : List V} (h : SqL K H a xs) (k : ∀ o, H a = some o → H' a = some o) : SqL K H' a xs := by
  rcases h with (h | ⟨o, h⟩) | h
  · exact .inl (.inl (k _ h))
  · exact .inl (.inr ⟨o, k _ h⟩)
  · exact .inr h
end
end K05

set_option maxHeartbeats 4000000
namespace K05
open PySem PyProof.Rows L2 L3
def formD (es : List PyData) (t : Nat) : PyData := .tuple (sortD (spotsD t es))
def formsD (es : List PyData) (n : Nat) : List PyData := (List.range n).map (formD es)
theorem mem_forms {es : List PyData} {n : Nat} {d : PyData} : d ∈ formsD es n ↔ ∃ t, t < n ∧ formD es t = d := by simp [formsD]
theorem sg_kd {d : PyData} (h : SgD d) : kd d = true := by
  obtain ⟨r, c, k, rfl, _⟩ := h
  rfl
theorem sgs_kd : ∀ {ds : List PyData}, (∀ d ∈ ds, SgD d) → kdAll ds = true
  | [], _ => rfl
  | d :: ds, h => by
    show (kd d && kdAll ds) = true
    rw [sg_kd (h d List.mem_cons_self), sgs_kd fun e he => h e (List.mem_cons_of_mem _ he)]
    rfl
theorem sg_cmp {d e : PyData} (h : SgD d) (h' : SgD e) : Cmp d e := by
  obtain ⟨r, c, k, rfl, _⟩ := h
  obtain ⟨r', c', k', rfl, _⟩ := h'
  exact ⟨True.intro, True.intro, True.intro, True.intro⟩
theorem sgs_cmp : ∀ {ds es : List PyData}, (∀ d ∈ ds, SgD d) → (∀ d ∈ es, SgD d) → CmpL ds es
  | [], _, _, _ => by unfold CmpL; exact True.intro
  | d :: ds, [], _, _ => by unfold CmpL; exact True.intro
  | d :: ds, e :: es, h, h' => ⟨sg_cmp (h d List.mem_cons_self) (h' e List.mem_cons_self), sgs_cmp (fun x hx => h x (List.mem_cons_of_mem _ hx)) fun x hx => h' x (List.mem_cons_of_mem _ hx)⟩
theorem depth_spot {ds : List PyData} (h : Spots ds) : PyData.depthAll ds ≤ 2 := by
  induction ds with
  | nil => simp [PyData.depthAll]
  | cons d t ih =>
    obtain ⟨r, c, x, rfl⟩ := h d (by simp)
    have := ih fun e he => h e (by simp [he])
    simp [PyData.depthAll, PyData.depth]
    omega
theorem form_zr {es : List PyData} (h : Zr es) (t : Nat) : Zr (sortD (spotsD t es)) := (h.turned t).perm (sortD_perm _)
theorem form_depth {es : List PyData} (h : Zr es) (t : Nat) : (formD es t).depth ≤ 3 := by
  have := depth_spot (form_zr h t).pre.spots
  unfold formD
  simp [PyData.depth]
  omega
theorem form_key {es : List PyData} (h : Zr es) (t : Nat) : KeyD (formD es t) ∧ TT (formD es t) := by
  have hd := form_depth h t
  refine ⟨⟨sgs_kd (form_zr h t).pre.sg, ⟨_, rfl⟩, by omega⟩, ?_⟩
  have hp := (form_zr h t).pre.pos
  have hs := (form_zr h t).pre.sg
  unfold formD
  cases e : sortD (spotsD t es) with
  | nil => rw [e] at hp; exact absurd hp (by simp)
  | cons d ds =>
    rw [e] at hs
    obtain ⟨r, c, k, rfl, _⟩ := hs d List.mem_cons_self
    exact ⟨_, _, rfl⟩
theorem forms_key {es ds : List PyData} (h : Zr es) (hm : ∀ d ∈ ds, ∃ t, formD es t = d) : ∀ d ∈ ds, KeyD d ∧ TT d := fun d hd => by
  obtain ⟨t, rfl⟩ := hm d hd
  exact form_key h t
theorem forms_cmp {es ds : List PyData} (h : Zr es) (hm : ∀ d ∈ ds, ∃ t, formD es t = d) : CmpA ds :=
  ⟨fun x hx y hy => by
    obtain ⟨t, rfl⟩ := hm x hx
    obtain ⟨t', rfl⟩ := hm y hy
    exact sgs_cmp (form_zr h t).pre.sg (form_zr h t').pre.sg, fun x hx => by
    obtain ⟨t, rfl⟩ := hm x hx
    exact (form_key h t).1.1⟩
theorem form_imm {es : List PyData} (h : Zr es) (t : Nat) : imm (formD es t) = true := Spots.imm (form_zr h t).pre.spots
theorem forms_imm {es : List PyData} (h : Zr es) : ∀ {ds : List PyData}, (∀ d ∈ ds, ∃ t, formD es t = d) → immAll ds = true
  | [], _ => rfl
  | d :: ds, hm => by
    obtain ⟨t, rfl⟩ := hm d List.mem_cons_self
    show (imm (formD es t) && immAll ds) = true
    rw [form_imm h t, forms_imm h fun e he => hm e (List.mem_cons_of_mem _ he)]
    rfl
theorem forms_succ (es : List PyData) (n : Nat) : formsD es (n + 1) = formsD es n ++ [formD es n] := by
  unfold formsD
  rw [List.range_succ, List.map_append]
  rfl
theorem forms_of_mem {es : List PyData} {n : Nat} : ∀ d ∈ formsD es n, ∃ t, formD es t = d := fun d hd => by
  obtain ⟨t, _, e⟩ := mem_forms.mp hd
  exact ⟨t, e⟩
def ModeN (m : Str) (n : Nat) : Prop := (m = "still" ∧ n = 1) ∨ (m = "turn" ∧ n = 4) ∨ (m = "flip" ∧ n = 8)
def DictM (P : Program) (w : World) (K : PySem.W.Frag) (mg : Str → Option Value) : Prop := ∃ aD oD kvs, mg "TURNINGS_BY_MODE" = some (.ref aD) ∧ K.lookup aD = some oD ∧ oD.IsDictOf (strKind P w) kvs ∧ ∀ m n, ModeN m n → ∃ t, valueAt kvs m = some (.int (n : Nat) t)
def spForms : Sp := fun vs H Q _ => ∃ (r : Addr) (m : Str) (n : Nat) (xs : List V) (es : List PyData), vs = [.ref r, .str m] ∧ H r = some (.tup xs) ∧ RepAll H es xs ∧ Zr es ∧ ModeN m n ∧
  ∀ (l : Addr) (ys : List V) (ds : List PyData) (H' : Hp), Same H H' → H l = none → H' l = some (.lst ys) → ds.Nodup → (∀ d, d ∈ ds ↔ d ∈ formsD es n) → RepAll H' (sortE ds) ys → Q (.ref l) H'
section
variable {P : Program} {w : World} {K : PySem.W.Frag} {mg : Str → Option Value} {base : Heap} {f : Addr} {fd : FuncData}
theorem scForms : FnScope ["form", "mode"] ["form", "mode"] (defScope sForms) := ⟨rfl, rfl, rfl, by decide +kernel, rfl, by decide +kernel, by decide +kernel⟩
theorem ok_forms (B : ∀ x ∈ blts, mg x = none) (hM : DictM P w K mg) (Ftd : Fn P w K mg base "turned" 2 ["form", "t"] spTd)
    (F : Fun K "forms_of" "forms_of" sForms f fd) : FnOk P w K mg base CX0 3 f fd ["form", "mode"] spForms := by
  obtain ⟨aD, oD, kvs, hD, hL, hI, hV⟩ := hM
  refine F.ok (k := 2) scForms (fun vs H Q E h => ?_) (fun cdv A outer s H vs Q E hr h => ?_)
  · obtain ⟨r, m, n, xs, es, rfl, _⟩ := h
    rfl
  obtain ⟨r, m, n, xs, es, rfl, hr0, rep, hz, hm, q⟩ := h
  have hu := hr.units
  obtain ⟨tk, hv⟩ := hV m n hm
  refine ⟨_, (pss_one (ps_ret (pe_sortset rfl hu rfl (B "sorted" (by decide)) rfl (B "set" (by decide)) (pa_c (pe_comp ["t", "form"] [none, some 0] rfl rfl (by decide +kernel) (by decide +kernel) rfl rfl (pi_r1 rfl (B "range" (by decide)) (pa_c (pe_ix ix_dict (pe_globR hD rfl) (pv 1) (fun _ _ => rfl)) pa_nil)) (fun _ => (pg_name (i := 0) (show (["t", "form"] : List PySem.Str).Nodup by decide +kernel) rfl (Or.inl rfl))) (fun _ => pts_nil) (fun _ => (pe_fn Ftd hr (by decide) rfl (pa_c (pv 1) (pa_c (pv 0) pa_nil))))) pa_nil)))), ?_⟩
  refine ⟨_, rfl, aD, m, oD, kvs, n, tk, rfl, rfl, hL, hI, hv, ?_⟩
  have hn : n ≤ 8 := by rcases hm with h | h | h <;> omega
  refine ⟨(n : Nat), rfl, by omega, by omega, fun D hD0 => ?_⟩
  rw [Int.toNat_natCast]
  refine comp_range (lo := 0) (n := n) (fun i ys G => Same H G ∧ RepAll G (formsD es i) ys) ⟨Same.fresh _ hD0, rfl⟩ (fun i ys G hi hDy hyl p => ?_) (fun ys G hDy hyl p => ?_)
  · obtain ⟨p1, p2⟩ := p
    refine ⟨Agree.set (Agree.refl _) rfl, ?_⟩
    dsimp only [tYes]
    refine iteT ?_
    refine ⟨_, rfl, _, rfl, r, i, xs, es, by rw [Int.zero_add]; rfl, p1 _ _ hr0, rep.same p1, hz.pre.spots, hz.pre.pos, by have := hz.pre.six; omega, by omega, fun r2 H2 s2 rep2 => ?_⟩
    have hD2 := s2 _ _ hDy
    refine nx_put (by omega) hD2 hyl ⟨(p1.trans s2).new hD0, ?_⟩
    rw [forms_succ]
    refine ((p2.same s2).snoc rep2).tk (Tk.lst hD2) (forms_imm hz fun d hd => ?_)
    rcases List.mem_append.mp hd with h | h
    · exact forms_of_mem d h
    · exact ⟨i, (List.mem_singleton.mp h).symm⟩
  · obtain ⟨p1, p2⟩ := p
    refine ⟨D, ys, formsD es n, rfl, hDy, p2, forms_key hz forms_of_mem, forms_cmp hz forms_of_mem, by simp [formsD]; omega, fun ds l zs hnd hmem hl rz => ?_⟩
    have hlH : H l = none := by
      cases e : H l with
      | none => rfl
      | some o => rw [p1 _ _ e] at hl; cases hl
    exact q l zs ds _ (p1.trans (Same.fresh _ hl)) hlH upd_same hnd hmem rz
end
end K05

set_option maxHeartbeats 8000000
namespace K05
open PySem PyProof.Rows L2 L3
/-! ### the law -/
theorem not_in {es ds : List PyData} (h : Zr es) (hm : ∀ d ∈ ds, ∃ t, formD es t = d) (hl : PyData.canLayAll0 ds = true) (t : Nat) : (ds.any fun e => PyData.eqv e (formD es t)) = true ↔ formD es t ∈ ds := by
  rw [List.any_eq_true]
  constructor
  · rintro ⟨e, he, hq⟩
    obtain ⟨t', rfl⟩ := hm e he
    rw [← eqv_kd _ _ (form_key h t').1.1 (form_key h t).1.1 hq]
    exact he
  · intro hd
    exact ⟨_, hd, SeqAt.eqv_refl _ (lay_mem hl _ hd)⟩
theorem forms_depth {es : List PyData} (h : Zr es) : ∀ {ds : List PyData}, (∀ d ∈ ds, ∃ t, formD es t = d) → PyData.depthAll ds ≤ 3
  | [], _ => by simp [PyData.depthAll]
  | d :: ds, hm => by
    obtain ⟨t, rfl⟩ := hm d List.mem_cons_self
    have h1 := form_depth h t
    have h2 := forms_depth h fun e he => hm e (List.mem_cons_of_mem _ he)
    show max (formD es t).depth (PyData.depthAll ds) ≤ 3
    omega
theorem sort_mem {es ds : List PyData} (hm : ∀ d ∈ ds, ∃ t, formD es t = d) : ∀ d ∈ sortE ds, ∃ t, formD es t = d := fun d hd => hm d ((sortE_perm ds).mem_iff.mp hd)
theorem ex_same {G G0 H : Hp} {D : Addr} (s : Same G G0) (hD : G D = none) (ex : Ex [D] G0 H) : Same G H := fun b o e =>
  ex b o (fun z => by rw [List.mem_singleton.mp z, hD] at e; cases e) (s b o e)
theorem perm_of {xs ys : List PyData} (h1 : xs.Nodup) (h2 : ys.Nodup) (h : ∀ d, d ∈ xs ↔ d ∈ ys) : xs.Perm ys := (List.perm_ext_iff_of_nodup h1 h2).mpr h
def spLaw (K : PySem.W.Frag) : Sp := fun vs H Q _ => ∃ (a : Addr) (ns : List Int), vs = [.ref a] ∧ SqL K H a (ns.map V.int) ∧ ns.length ≤ 63 ∧ ∀ H', Q (.bl true) H'
section
variable {P : Program} {w : World} {K : PySem.W.Frag} {mg : Str → Option Value} {base : Heap} {f : Addr} {fd : FuncData}
theorem scLaw : FnScope ["_law_script", "_law_k", "_law_form", "_law_mode", "_law_many", "_law_due", "_law_t", "_law_found"] ["_law_script"] (defScope sLaw) := ⟨rfl, rfl, rfl, by decide +kernel, rfl, by decide +kernel, by decide +kernel⟩
seal PySem.wpAny in
theorem ok_law (B : ∀ x ∈ blts, mg x = none) (Fdrawn : Fn P w K mg base "_law_drawn" 2 ["_law_script", "_law_k"] (spDrawn K)) (Fform : Fn P w K mg base "_law_drawn_form" 3 ["_law_state_here", "_law_most"] spForm2)
    (Fforms : Fn P w K mg base "forms_of" 3 ["form", "mode"] spForms) (Fisf : Fn P w K mg base "_law_is_form" 3 ["_law_found"] spIsf) (Flt : Fn P w K mg base "_law_turned" 1 ["_law_form", "_law_t"] spTd)
    (F : Fun K "law" "law" sLaw f fd) : FnOk P w K mg base CX0 4 f fd ["_law_script"] (spLaw K) := by
  refine F.ok (k := 3) scLaw (fun vs H Q E h => ?_) (fun cdv A outer s H vs Q E hr h => ?_)
  · obtain ⟨a, ns, rfl, _⟩ := h
    rfl
  obtain ⟨a, ns, rfl, hS, h63, q⟩ := h
  have hu := hr.units
  refine ⟨_, (pss_cons (ps_for PassesOwn.never rfl (pi_r1 rfl (B "range" (by decide)) (pa_c (pe_cB (call_max2 rfl) rfl (B "max" (by decide)) boot_max (pa_c pe_int (pa_c (pe_cB (call_min2 rfl) rfl (B "min" (by decide)) boot_min (pa_c (pe_cB call_len_seq rfl (B "len" (by decide)) PySem.boot_len (pa_c (pv 0) pa_nil)) (pa_c pe_int pa_nil))) pa_nil))) pa_nil)) (pg_name (i := 1) scLaw.nd rfl (Or.inl rfl)) (pss_cons (ps_set (i := 2) scLaw.nd rfl (Or.inl rfl) (pe_fn Fform hr (by decide) rfl (pa_c (pe_fn Fdrawn hr (by decide) rfl (pa_c (pv 0) (pa_c (pv 1) pa_nil))) (pa_c pe_int pa_nil))))
    (pss_one (ps_for PassesOwn.never rfl (pi_list (pe_lst (pa_c (pe_tup (pa_c pe_str (pa_c pe_int pa_nil))) (pa_c (pe_tup (pa_c pe_str (pa_c pe_int pa_nil))) (pa_c (pe_tup (pa_c pe_str (pa_c pe_int pa_nil))) pa_nil))))) (pg_tup (n := 2) rfl (pgs_cons (pg_name (i := 3) scLaw.nd rfl (Or.inl rfl)) (pgs_cons (pg_name (i := 4) scLaw.nd rfl (Or.inl rfl)) pgs_nil))) (pss_cons (ps_set (i := 5) scLaw.nd rfl (Or.inl rfl) (pe_lst pa_nil))
    (pss_cons (ps_for PassesOwn.never rfl (pi_r1 rfl (B "range" (by decide)) (pa_c (pv 4) pa_nil)) (pg_name (i := 6) scLaw.nd rfl (Or.inl rfl)) (pss_one (ps_if (pt_cmpR (op_notInD hu) (pe_fn Flt hr (by decide) rfl (pa_c (pv 2) (pa_c (pv 6) pa_nil))) (pv 5) rfl) (pss_one (ps_expr (pe_bm PySem.F.plainAttrs_list PySem.F.slot_list_append PySem.F.type_list_append mt_append (pv 5) (pa_c (pe_fn Flt hr (by decide) rfl (pa_c (pv 2) (pa_c (pv 6) pa_nil))) pa_nil)))) pss_nil)))
    (pss_cons (ps_set (i := 7) scLaw.nd rfl (Or.inl rfl) (pe_fn Fforms hr (by decide) rfl (pa_c (pv 2) (pa_c (pv 3) pa_nil))))
    (pss_cons (ps_if (PW.pt (pw_or (pt_not (pt_val (pe_cB call_isinst rfl (B "isinstance" (by decide)) boot_isinstance (pa_c (pv 7) (pa_c (pe_bltn (v := .ty "list") rfl (B "list" (by decide)) boot_list rfl) pa_nil))))) (pw_or (pt_cmpR (op_neD hu) (pv 7) (pe_cB (call_sortedE hu) rfl (B "sorted" (by decide)) boot_sorted (pa_c (pv 5) pa_nil)) (nomark _)) (pw_or1 (pt_not (pt_val (pe_cB (call_all rfl) rfl (B "all" (by decide)) boot_all (pa_c (pe_comp ["_law_one"] [none] rfl rfl (by decide +kernel) (by decide +kernel) rfl rfl (pi_list (pv 7)) (fun _ => (pg_name (i := 0) (show (["_law_one"] : List PySem.Str).Nodup by decide +kernel) rfl (Or.inl rfl))) (fun _ => pts_nil) (fun _ => (pe_fn Fisf hr (by decide) rfl (pa_c (pv 0) pa_nil)))) pa_nil)))))))) (pss_one (ps_ret pe_bl)) pss_nil)
    (pss_cons (ps_expr (pe_bm PySem.F.plainAttrs_list PySem.F.slot_list_append PySem.F.type_list_append mt_append (pv 7) (pa_c (pv 2) pa_nil)))
    (pss_one (ps_if (pt_cmpR (op_neD hu) (pe_fn Fforms hr (by decide) rfl (pa_c (pv 2) (pa_c (pv 3) pa_nil))) (pe_cB (call_sortedE hu) rfl (B "sorted" (by decide)) boot_sorted (pa_c (pv 5) pa_nil)) (nomark _)) (pss_one (ps_ret pe_bl)) pss_nil)))))))))))
    (pss_one (ps_ret pe_bl))), ?_⟩
  refine ⟨_, rfl, a, _, rfl, .inl hS, _, _, rfl, _, _, rfl, _, rfl, ?_, ?_, ?_⟩
  · split <;> split <;> omega
  · split <;> split <;> omega
  refine for_range (lo := 0) (fun i σ' H' => ∃ x1 x2 x3 x4 x5 x6 x7, σ' = [some (.ref a), x1, x2, x3, x4, x5, x6, x7] ∧ SqL K H' a (ns.map V.int)) ?_ (fun i σ' G hi h => ?_) (fun σ' H' h => ?_)
  · exact ⟨_, _, _, _, _, _, _, rfl, hS⟩
  · obtain ⟨x1, x2, x3, x4, x5, x6, x7, rfl, hG⟩ := h
    refine ⟨_, rfl, _, rfl, a, ns, _, rfl, hG, by omega, fun st n0 hn0 hst0 => ?_⟩
    have s0 : Same G (upd G st (.lst n0)) := Same.fresh _ hst0
    have st0 : upd G st (.lst n0) st = some (.lst n0) := upd_same
    generalize upd G st (.lst n0) = G0 at *
    refine ⟨st, n0, rfl, st0, hn0, fun r G1 ds ex1 hz rep1 => ?_⟩
    obtain ⟨r', xs, e, hr1, repA⟩ := rep1
    cases e
    have hzs := hz.perm (sortD_perm ds)
    generalize sortD ds = es at *
    have keep : ∀ G', Same G1 G' → ∀ o, G a = some o → G' a = some o := fun G' s o ho => by
      refine s _ _ (ex1 a o (fun z => ?_) (s0 _ _ ho))
      rw [List.mem_singleton.mp z, hst0] at ho; cases ho
    refine ⟨(by show 2 ≤ sizeLine; decide), fun q1 hq1 => ?_⟩
    refine ⟨(by show 2 ≤ sizeLine; decide), fun q2 hq2 => ?_⟩
    refine ⟨(by show 2 ≤ sizeLine; decide), fun q3 hq3 => ⟨(by show 3 ≤ sizeLine; decide), fun q4 hq4 => ?_⟩⟩
    have k1 : upd G1 q1 (.tup [.str "still", .int 1]) q1 = some (.tup [.str "still", .int 1]) := upd_same
    have t1 : Same G1 (upd G1 q1 (.tup [.str "still", .int 1])) := Same.fresh _ hq1
    generalize upd G1 q1 (.tup [.str "still", .int 1]) = A1 at *
    have k2 : upd A1 q2 (.tup [.str "turn", .int 4]) q2 = some (.tup [.str "turn", .int 4]) := upd_same
    have t2 : Same A1 (upd A1 q2 (.tup [.str "turn", .int 4])) := Same.fresh _ hq2
    generalize upd A1 q2 (.tup [.str "turn", .int 4]) = A2 at *
    have k3 : upd A2 q3 (.tup [.str "flip", .int 8]) q3 = some (.tup [.str "flip", .int 8]) := upd_same
    have t3 : Same A2 (upd A2 q3 (.tup [.str "flip", .int 8])) := Same.fresh _ hq3
    generalize upd A2 q3 (.tup [.str "flip", .int 8]) = A3 at *
    have k4 : upd A3 q4 (.lst [.ref q1, .ref q2, .ref q3]) q4 = some (.lst [.ref q1, .ref q2, .ref q3]) := upd_same
    have t4 : Same A3 (upd A3 q4 (.lst [.ref q1, .ref q2, .ref q3])) := Same.fresh _ hq4
    generalize upd A3 q4 (.lst [.ref q1, .ref q2, .ref q3]) = A4 at *
    have three : ∀ (j : Nat) (v : V), [V.ref q1, .ref q2, .ref q3][j]? = some v → ∃ (b : Addr) (m : Str) (n : Nat), v = .ref b ∧ A4 b = some (.tup [.str m, .int (n : Nat)]) ∧ ModeN m n := fun j v hv => by
      match j, hv with
      | 0, hv => cases hv; exact ⟨q1, _, 1, rfl, t4 _ _ (t3 _ _ (t2 _ _ k1)), .inl ⟨rfl, rfl⟩⟩
      | 1, hv => cases hv; exact ⟨q2, _, 4, rfl, t4 _ _ (t3 _ _ k2), .inr (.inl ⟨rfl, rfl⟩)⟩
      | 2, hv => cases hv; exact ⟨q3, _, 8, rfl, t4 _ _ k3, .inr (.inr ⟨rfl, rfl⟩)⟩
      | j + 3, hv => simp at hv
    have s4 : Same G1 A4 := ((t1.trans t2).trans t3).trans t4
    have hr4 := s4 _ _ hr1
    have rep4 := repA.same s4
    have keep4 : ∀ G', Same A4 G' → ∀ o, G a = some o → G' a = some o := fun G' s o ho => keep G' (s4.trans s) o ho
    refine ⟨q4, rfl, ⟨_, SqL.of k4⟩, ?_⟩
    refine for_list (xs := [.ref q1, .ref q2, .ref q3]) (fun j σ' H' => ∃ y3 y4 y5 y6 y7, σ' = [some (.ref a), some (.int (0 + (i : Nat))), some (.ref r), y3, y4, y5, y6, y7] ∧ Same A4 H') ⟨_, _, _, _, _, rfl, Same.refl _⟩ (fun j σ' H' hj p => ?_) (fun j x σ' H' hx p => ?_) (fun σ' H' p => ?_)
    · obtain ⟨y3, y4, y5, y6, y7, rfl, sm⟩ := p
      exact SqL.of (sm _ _ k4)
    · obtain ⟨y3, y4, y5, y6, y7, rfl, sm⟩ := p
      obtain ⟨b, m, n, rfl, hb, hmn⟩ := three j x hx
      refine ⟨b, _, rfl, SqT.of (sm _ _ hb), rfl, _, _, rfl, _, _, rfl, rfl, (Nat.zero_le _), fun D hD => ?_⟩
      have hn8 : n ≤ 8 := by rcases hmn with h | h | h <;> omega
      have d0 : Same H' (upd H' D (.lst [])) := Same.fresh _ hD
      have d1 : upd H' D (.lst []) D = some (.lst []) := upd_same
      generalize upd H' D (.lst []) = HD at *
      refine ⟨_, rfl, (n : Nat), rfl, by omega, by omega, ?_⟩
      rw [Int.toNat_natCast]
      refine for_range (lo := 0) (fun t σ' H2 => ∃ z6 dd ys, σ' = [some (.ref a), some (.int (0 + (i : Nat))), some (.ref r), some (.str m), some (.int (n : Nat)), some (.ref D), z6, y7] ∧ Ex [D] HD H2 ∧ H2 D = some (.lst ys) ∧ RepAll H2 dd ys ∧ dd.Nodup ∧ (∀ d, d ∈ dd ↔ d ∈ formsD es t) ∧ dd.length ≤ t) ?_ (fun t σ' H2 ht p => ?_) (fun σ' H2 p => ?_)
      · exact ⟨_, [], [], rfl, Ex.refl _ _, d1, rfl, List.nodup_nil, fun d => by simp [formsD], Nat.le_refl _⟩
      · obtain ⟨z6, dd, ys, rfl, ex, hD2, rpd, hnd, hmem, hlen⟩ := p
        have sA := sm.trans (ex_same d0 hD ex)
        refine ⟨_, rfl, _, rfl, r, t, xs, es, by rw [Int.zero_add]; rfl, sA _ _ hr4, rep4.same sA, hzs.pre.spots, hzs.pre.pos, by have := hzs.pre.six; omega, by omega, fun r2 H3 s3 rp => ?_⟩
        refine ⟨_, rfl, formD es t, D, ys, dd, rp, rfl, .inl (s3 _ _ hD2), rpd.same s3, by have := form_depth hzs t; omega, _, rfl, ?_⟩
        have hmF : ∀ d ∈ dd, ∃ t, formD es t = d := fun d hd => forms_of_mem d ((hmem d).mp hd)
        have hin := not_in hzs hmF rpd.lay t
        have hD3 := s3 _ _ hD2
        refine ite2 (fun h2 => ?_) (fun h2 => ?_)
        · have nin : formD es t ∉ dd := fun z => by
            rw [if_pos rfl, hin.mpr z] at h2
            cases h2
          have sB := sA.trans s3
          refine ⟨_, rfl, .inl ⟨rfl, _, SqL.of hD3⟩, _, rfl, _, rfl, r, t, xs, es, by rw [Int.zero_add]; rfl, sB _ _ hr4, rep4.same sB, hzs.pre.spots, hzs.pre.pos, by have := hzs.pre.six; omega, by omega, fun r4 H4 s5 rp4 => ?_⟩
          have hD4 := s5 _ _ hD3
          have rp5 : Rep H4 (formD es t) (.ref r4) := rp4
          have hyl := rpd.length
          refine ⟨D, ys, .ref r4, rfl, rfl, hD4, small1000 (by omega), ?_⟩
          have hmF2 : ∀ d ∈ dd ++ [formD es t], ∃ t, formD es t = d := fun d hd => by
            rcases List.mem_append.mp hd with h | h
            · exact hmF d h
            · exact ⟨t, (List.mem_singleton.mp h).symm⟩
          refine ⟨_, dd ++ [formD es t], ys ++ [.ref r4], rfl, ((ex.trans (Ex.of_same (s3.trans s5))).trans (Ex.upd (by simp))), upd_same, (((rpd.same (s3.trans s5)).snoc rp5).tk (Tk.lst hD4) (forms_imm hzs hmF2)), ?_, fun d => ?_, by rw [List.length_append, List.length_singleton]; omega⟩
          · rw [List.nodup_append]
            refine ⟨hnd, by simp, fun x hx y hy exy => ?_⟩
            rw [exy, List.mem_singleton.mp hy] at hx
            exact nin hx
          · rw [forms_succ, List.mem_append, List.mem_append, hmem d]
        · have inn : formD es t ∈ dd := by
            apply Classical.byContradiction
            intro z
            have hf : (dd.any fun e => PyData.eqv e (formD es t)) = false := by
              cases hq : (dd.any fun e => PyData.eqv e (formD es t)) with
              | false => rfl
              | true => exact absurd (hin.mp hq) z
            rw [if_pos rfl, hf] at h2
            exact h2 rfl
          refine ⟨_, dd, ys, rfl, ex.trans (Ex.of_same s3), hD3, rpd.same s3, hnd, fun d => ?_, by omega⟩
          rw [forms_succ, List.mem_append, ← hmem d]
          constructor
          · exact .inl
          · rintro (h | h)
            · exact h
            · rw [List.mem_singleton.mp h]; exact inn
      · obtain ⟨z6, dd, ys, rfl, ex, hD2, rpd, hnd, hmem, hlen⟩ := p
        have sA := sm.trans (ex_same d0 hD ex)
        have hmF : ∀ d ∈ dd, ∃ t, formD es t = d := fun d hd => forms_of_mem d ((hmem d).mp hd)
        refine ⟨_, rfl, _, rfl, r, m, n, xs, es, rfl, sA _ _ hr4, rep4.same sA, hzs, hmn, fun l zs fs H5 s5 hl0 hl hnf hmf rz => ?_⟩
        have hE : sortE fs = sortE dd := sortE_uniq (perm_of hnf hnd fun d => (hmf d).trans (hmem d).symm) (forms_cmp hzs fun d hd => forms_of_mem d ((hmf d).mp hd))
        refine ⟨_, rfl, .ref l, "list", .type "list", true, rfl, .lst hl, rfl, true, rfl, iteF ?_⟩
        refine ⟨_, rfl, _, rfl, D, ys, dd, rfl, s5 _ _ hD2, rpd.same s5, forms_key hzs hmF, forms_cmp hzs hmF, by omega, fun l2 ws hl2 rw2 => ?_⟩
        have hmG : ∀ d ∈ fs, ∃ t, formD es t = d := fun d hd => forms_of_mem d ((hmf d).mp hd)
        have s6 : Same H5 (upd H5 l2 (.lst ws)) := Same.fresh _ hl2
        have hl2' : upd H5 l2 (.lst ws) l2 = some (.lst ws) := upd_same
        generalize upd H5 l2 (.lst ws) = H6 at *
        have rL : Rep H6 (.list (sortE dd)) (.ref l2) := ⟨l2, ws, rfl, hl2', rw2⟩
        have hl6 := s6 _ _ hl
        have rz6 := rz.same s6
        have hzl : zs.length ≤ 8 := by
          have h1 := rz.length
          have h2 := List.Nodup.length_le_of_subset hnf (fun x hx => (hmf x).mp hx)
          rw [sortE_length] at h1
          have h3 : (formsD es n).length = n := by simp [formsD]
          omega
        refine ⟨.list (sortE fs), .list (sortE dd), ⟨l, zs, rfl, hl6, rz6⟩, rL, by have := forms_depth hzs (sort_mem hmG); simp [PyData.depth]; omega, _, rfl, ?_⟩
        refine ite2 (fun h => absurd h (by rw [if_pos rfl, hE, SeqAt.eqv_refl _ rL.lay]; decide)) (fun _ => ?_)
        refine ⟨_, rfl, l, rfl, ⟨_, SqL.of hl6⟩, fun DD hDD => ?_⟩
        refine comp_list (xs := zs) (fun k us J => Same H6 J ∧ us = (List.replicate k true).map V.bl) ⟨Same.fresh _ hDD, rfl⟩ (fun k us J p => SqL.of (p.1 _ _ hl6)) (fun k x us J hx hk hDy hyl p => ?_) (fun us J hDy hyl p => ?_)
        · obtain ⟨p1, rfl⟩ := p
          obtain ⟨d, hd, rd⟩ := rz6.at hx
          obtain ⟨t, rfl⟩ := sort_mem hmG d (List.mem_of_getElem? hd)
          obtain ⟨r5, xs5, rfl, hr5, rp5⟩ := rd
          refine ⟨Agree.set (Agree.refl _) rfl, ?_⟩
          dsimp only [tYes]
          refine iteT ?_
          refine ⟨_, rfl, r5, spotsD t es, rfl, ⟨r5, xs5, rfl, p1 _ _ hr5, rp5.same p1⟩, hzs.turned t, fun J2 s7 => ?_⟩
          refine nx_put (by omega) (s7 _ _ hDy) hyl ⟨(p1.trans s7).new hDD, ?_⟩
          rw [List.replicate_succ', List.map_append]
          rfl
        · obtain ⟨p1, rfl⟩ := p
          refine ⟨DD, List.replicate zs.length true, rfl, hDy, _, rfl, ?_⟩
          have hall : (List.replicate zs.length true).all id = true := by simp
          rw [hall]
          refine iteF ?_
          have hl7 := p1 _ _ hl6
          refine ⟨_, rfl, .inl ⟨rfl, _, SqL.of hl7⟩, _, rfl, l, zs, .ref r, rfl, rfl, hl7, small1000 (by omega), ?_⟩
          have sC : Same H2 (upd J l (.lst (zs ++ [.ref r]))) := ex_same ((s5.trans s6).trans p1) hl0 (Ex.upd (by simp))
          generalize upd J l (.lst (zs ++ [.ref r])) = J3 at *
          have sD := sA.trans sC
          refine ⟨_, rfl, _, rfl, r, m, n, xs, es, rfl, sD _ _ hr4, rep4.same sD, hzs, hmn, fun l7 zs7 fs7 H7 s7 hl07 hl7' hnf7 hmf7 rz7 => ?_⟩
          have hE7 : sortE fs7 = sortE dd := sortE_uniq (perm_of hnf7 hnd fun d => (hmf7 d).trans (hmem d).symm) (forms_cmp hzs fun d hd => forms_of_mem d ((hmf7 d).mp hd))
          refine ⟨_, rfl, D, ys, dd, rfl, (sC.trans s7) _ _ hD2, rpd.same (sC.trans s7), forms_key hzs hmF, forms_cmp hzs hmF, by omega, fun l8 ws8 hl8 rw8 => ?_⟩
          have s8 : Same H7 (upd H7 l8 (.lst ws8)) := Same.fresh _ hl8
          have hl8' : upd H7 l8 (.lst ws8) l8 = some (.lst ws8) := upd_same
          generalize upd H7 l8 (.lst ws8) = H8 at *
          have rL8 : Rep H8 (.list (sortE dd)) (.ref l8) := ⟨l8, ws8, rfl, hl8', rw8⟩
          refine ⟨.list (sortE fs7), .list (sortE dd), ⟨l7, zs7, rfl, s8 _ _ hl7', rz7.same s8⟩, rL8, by have := forms_depth hzs (sort_mem (ds := fs7) fun d hd => forms_of_mem d ((hmf7 d).mp hd)); simp [PyData.depth]; omega, _, rfl, ?_⟩
          refine ite2 (fun h => absurd h (by rw [if_pos rfl, hE7, SeqAt.eqv_refl _ rL8.lay]; decide)) (fun _ => ?_)
          exact ⟨_, _, _, _, _, rfl, (sD.trans s7).trans s8⟩
    · obtain ⟨y3, y4, y5, y6, y7, rfl, sm⟩ := p
      exact ⟨_, _, _, _, _, _, _, rfl, seq_keep hG (keep4 H' sm)⟩
  · exact q H'
end
end K05

set_option maxHeartbeats 4000000
namespace K05
open PySem PyProof.Rows L2 L3
theorem dict_m {P : Program} {w : World} {K : PySem.W.Frag} {mg : Str → Option Value} {aD : Addr} {u1 v1 u2 v2 u3 v3 : Tok} {ep : Nat} (h : mg "TURNINGS_BY_MODE" = some (.ref aD)) (ld : K.lookup aD = some ⟨.type "dict", none, .dict #[⟨hashStr w "still", .str "still" u1, .int 1 v1⟩, ⟨hashStr w "turn", .str "turn" u2, .int 4 v2⟩, ⟨hashStr w "flip", .str "flip" u3, .int 8 v3⟩] ep, #[]⟩) : DictM P w K mg := by
  refine ⟨aD, _, [("still", .int 1 v1), ("turn", .int 4 v2), ("flip", .int 8 v3)], h, ld, ⟨_, ep, ⟨rfl, rfl, rfl⟩, rfl, fun e he => ?_, ?_, (show ((["still", "turn", "flip"] : List Str).Nodup) by decide)⟩, fun m n hm => ?_⟩
  · have he' : e = ⟨hashStr w "still", .str "still" u1, .int 1 v1⟩ ∨ e = ⟨hashStr w "turn", .str "turn" u2, .int 4 v2⟩ ∨ e = ⟨hashStr w "flip", .str "flip" u3, .int 8 v3⟩ := by simpa using he
    rcases he' with rfl | rfl | rfl
    · exact ⟨"still", strKind_is P w _ u1, rfl⟩
    · exact ⟨"turn", strKind_is P w _ u2, rfl⟩
    · exact ⟨"flip", strKind_is P w _ u3, rfl⟩
  · exact .cons (strKind_is P w _ u1) rfl (.cons (strKind_is P w _ u2) rfl (.cons (strKind_is P w _ u3) rfl .nil))
  · rcases hm with ⟨rfl, rfl⟩ | ⟨rfl, rfl⟩ | ⟨rfl, rfl⟩
    · exact ⟨v1, rfl⟩
    · exact ⟨v2, rfl⟩
    · exact ⟨v3, rfl⟩
theorem all_mk {l : PySem.W.OpenLaw} {w : World} {K : PySem.W.Frag} {h : Heap} {mg : Str → Option Value} {fa f1 f2 f3 f4 f5 f6 f7 f8 f9 f10 f11 f12 f13 f14 f15 f16 f17 f18 : Addr} (X : K.In h) (G : h.Ns mainGlobals mg) (hfa : mg "law" = some (.ref fa))
    {od1 an1 od2 an2 od3 an3 od4 an4 od5 an5 od6 an6 od7 an7 od8 an8 od9 an9 od10 an10 od11 an11 od12 an12 od13 an13 od14 an14 od15 an15 od16 an16 od17 an17 od18 an18 : Option Addr} {sl1 sl2 sl3 sl4 sl5 sl6 sl7 sl8 sl9 sl10 sl11 sl12 sl13 sl14 sl15 sl16 sl17 sl18 : Array (Option Value)} {oc1 kV1 dc1 pm1 cd1 ct1 oc2 kV2 dc2 pm2 cd2 ct2 oc3 kV3 dc3 pm3 cd3 ct3 oc4 kV4 dc4 pm4 cd4 ct4 oc5 kV5 dc5 pm5 cd5 ct5 oc6 kV6 dc6 pm6 cd6 ct6 oc7 kV7 dc7 pm7 cd7 ct7 oc8 kV8 dc8 pm8 cd8 ct8 oc9 kV9 dc9 pm9 cd9 ct9 oc10 kV10 dc10 pm10 cd10 ct10 oc11 kV11 dc11 pm11 cd11 ct11 oc12 kV12 dc12 pm12 cd12 ct12 oc13 kV13 dc13 pm13 cd13 ct13 oc14 kV14 dc14 pm14 cd14 ct14 oc15 kV15 dc15 pm15 cd15 ct15 oc16 kV16 dc16 pm16 cd16 ct16 oc17 kV17 dc17 pm17 cd17 ct17 oc18 kV18 dc18 pm18 cd18 ct18 : Value}
    (a1 : PySem.W.nsIn K mainGlobals "turned" = some (some (.ref f1))) (l1 : K.lookup f1 = some ⟨oc1, od1, .func (PySem.W.fnOf "turned" "turned" (defArgs sTd) (defBody sTd) (defScope sTd) .none kV1 dc1 pm1 an1 cd1 ct1), sl1⟩) (c1 : PySem.W.codeIn K cd1 "turned" = true) (k1 : PySem.W.keepIn K (.ref f1) = true)
    (a2 : PySem.W.nsIn K mainGlobals "mirrored" = some (some (.ref f2))) (l2 : K.lookup f2 = some ⟨oc2, od2, .func (PySem.W.fnOf "mirrored" "mirrored" (defArgs sMir) (defBody sMir) (defScope sMir) .none kV2 dc2 pm2 an2 cd2 ct2), sl2⟩) (c2 : PySem.W.codeIn K cd2 "mirrored" = true) (k2 : PySem.W.keepIn K (.ref f2) = true)
    (a3 : PySem.W.nsIn K mainGlobals "turned_right" = some (some (.ref f3))) (l3 : K.lookup f3 = some ⟨oc3, od3, .func (PySem.W.fnOf "turned_right" "turned_right" (defArgs sTr) (defBody sTr) (defScope sTr) .none kV3 dc3 pm3 an3 cd3 ct3), sl3⟩) (c3 : PySem.W.codeIn K cd3 "turned_right" = true) (k3 : PySem.W.keepIn K (.ref f3) = true)
    (a4 : PySem.W.nsIn K mainGlobals "_law_cell_at" = some (some (.ref f4))) (l4 : K.lookup f4 = some ⟨oc4, od4, .func (PySem.W.fnOf "_law_cell_at" "_law_cell_at" (defArgs sCell) (defBody sCell) (defScope sCell) .none kV4 dc4 pm4 an4 cd4 ct4), sl4⟩) (c4 : PySem.W.codeIn K cd4 "_law_cell_at" = true) (k4 : PySem.W.keepIn K (.ref f4) = true)
    (a5 : PySem.W.nsIn K mainGlobals "_law_state" = some (some (.ref f5))) (l5 : K.lookup f5 = some ⟨oc5, od5, .func (PySem.W.fnOf "_law_state" "_law_state" (defArgs sState) (defBody sState) (defScope sState) .none kV5 dc5 pm5 an5 cd5 ct5), sl5⟩) (c5 : PySem.W.codeIn K cd5 "_law_state" = true) (k5 : PySem.W.keepIn K (.ref f5) = true)
    (a6 : PySem.W.nsIn K mainGlobals "_law_next" = some (some (.ref f6))) (l6 : K.lookup f6 = some ⟨oc6, od6, .func (PySem.W.fnOf "_law_next" "_law_next" (defArgs sNext) (defBody sNext) (defScope sNext) .none kV6 dc6 pm6 an6 cd6 ct6), sl6⟩) (c6 : PySem.W.codeIn K cd6 "_law_next" = true) (k6 : PySem.W.keepIn K (.ref f6) = true)
    (a7 : PySem.W.nsIn K mainGlobals "_law_drawn" = some (some (.ref f7))) (l7 : K.lookup f7 = some ⟨oc7, od7, .func (PySem.W.fnOf "_law_drawn" "_law_drawn" (defArgs sDrawn) (defBody sDrawn) (defScope sDrawn) .none kV7 dc7 pm7 an7 cd7 ct7), sl7⟩) (c7 : PySem.W.codeIn K cd7 "_law_drawn" = true) (k7 : PySem.W.keepIn K (.ref f7) = true)
    (a8 : PySem.W.nsIn K mainGlobals "_law_signs" = some (some (.ref f8))) (l8 : K.lookup f8 = some ⟨oc8, od8, .func (PySem.W.fnOf "_law_signs" "_law_signs" (defArgs sSigns) (defBody sSigns) (defScope sSigns) .none kV8 dc8 pm8 an8 cd8 ct8), sl8⟩) (c8 : PySem.W.codeIn K cd8 "_law_signs" = true) (k8 : PySem.W.keepIn K (.ref f8) = true)
    (a9 : PySem.W.nsIn K mainGlobals "_law_grown" = some (some (.ref f9))) (l9 : K.lookup f9 = some ⟨oc9, od9, .func (PySem.W.fnOf "_law_grown" "_law_grown" (defArgs sGrown) (defBody sGrown) (defScope sGrown) .none kV9 dc9 pm9 an9 cd9 ct9), sl9⟩) (c9 : PySem.W.codeIn K cd9 "_law_grown" = true) (k9 : PySem.W.keepIn K (.ref f9) = true)
    (a10 : PySem.W.nsIn K mainGlobals "_law_shifted" = some (some (.ref f10))) (l10 : K.lookup f10 = some ⟨oc10, od10, .func (PySem.W.fnOf "_law_shifted" "_law_shifted" (defArgs sShift) (defBody sShift) (defScope sShift) .none kV10 dc10 pm10 an10 cd10 ct10), sl10⟩) (c10 : PySem.W.codeIn K cd10 "_law_shifted" = true) (k10 : PySem.W.keepIn K (.ref f10) = true)
    (a11 : PySem.W.nsIn K mainGlobals "_law_drawn_form" = some (some (.ref f11))) (l11 : K.lookup f11 = some ⟨oc11, od11, .func (PySem.W.fnOf "_law_drawn_form" "_law_drawn_form" (defArgs sForm) (defBody sForm) (defScope sForm) .none kV11 dc11 pm11 an11 cd11 ct11), sl11⟩) (c11 : PySem.W.codeIn K cd11 "_law_drawn_form" = true) (k11 : PySem.W.keepIn K (.ref f11) = true)
    (a12 : PySem.W.nsIn K mainGlobals "_law_whole" = some (some (.ref f12))) (l12 : K.lookup f12 = some ⟨oc12, od12, .func (PySem.W.fnOf "_law_whole" "_law_whole" (defArgs sWhole) (defBody sWhole) (defScope sWhole) .none kV12 dc12 pm12 an12 cd12 ct12), sl12⟩) (c12 : PySem.W.codeIn K cd12 "_law_whole" = true) (k12 : PySem.W.keepIn K (.ref f12) = true)
    (a13 : PySem.W.nsIn K mainGlobals "_law_is_spot" = some (some (.ref f13))) (l13 : K.lookup f13 = some ⟨oc13, od13, .func (PySem.W.fnOf "_law_is_spot" "_law_is_spot" (defArgs sSpot) (defBody sSpot) (defScope sSpot) .none kV13 dc13 pm13 an13 cd13 ct13), sl13⟩) (c13 : PySem.W.codeIn K cd13 "_law_is_spot" = true) (k13 : PySem.W.keepIn K (.ref f13) = true)
    (a14 : PySem.W.nsIn K mainGlobals "_law_hangs" = some (some (.ref f14))) (l14 : K.lookup f14 = some ⟨oc14, od14, .func (PySem.W.fnOf "_law_hangs" "_law_hangs" (defArgs sHangs) (defBody sHangs) (defScope sHangs) .none kV14 dc14 pm14 an14 cd14 ct14), sl14⟩) (c14 : PySem.W.codeIn K cd14 "_law_hangs" = true) (k14 : PySem.W.keepIn K (.ref f14) = true)
    (a15 : PySem.W.nsIn K mainGlobals "_law_is_form" = some (some (.ref f15))) (l15 : K.lookup f15 = some ⟨oc15, od15, .func (PySem.W.fnOf "_law_is_form" "_law_is_form" (defArgs sIsf) (defBody sIsf) (defScope sIsf) .none kV15 dc15 pm15 an15 cd15 ct15), sl15⟩) (c15 : PySem.W.codeIn K cd15 "_law_is_form" = true) (k15 : PySem.W.keepIn K (.ref f15) = true)
    (a16 : PySem.W.nsIn K mainGlobals "_law_turned" = some (some (.ref f16))) (l16 : K.lookup f16 = some ⟨oc16, od16, .func (PySem.W.fnOf "_law_turned" "_law_turned" (defArgs sLt) (defBody sLt) (defScope sLt) .none kV16 dc16 pm16 an16 cd16 ct16), sl16⟩) (c16 : PySem.W.codeIn K cd16 "_law_turned" = true) (k16 : PySem.W.keepIn K (.ref f16) = true)
    (a17 : PySem.W.nsIn K mainGlobals "law" = some (some (.ref f17))) (l17 : K.lookup f17 = some ⟨oc17, od17, .func (PySem.W.fnOf "law" "law" (defArgs sLaw) (defBody sLaw) (defScope sLaw) .none kV17 dc17 pm17 an17 cd17 ct17), sl17⟩) (c17 : PySem.W.codeIn K cd17 "law" = true) (k17 : PySem.W.keepIn K (.ref f17) = true)
    (a18 : PySem.W.nsIn K mainGlobals "forms_of" = some (some (.ref f18))) (l18 : K.lookup f18 = some ⟨oc18, od18, .func (PySem.W.fnOf "forms_of" "forms_of" (defArgs sForms) (defBody sForms) (defScope sForms) .none kV18 dc18 pm18 an18 cd18 ct18), sl18⟩) (c18 : PySem.W.codeIn K cd18 "forms_of" = true) (k18 : PySem.W.keepIn K (.ref f18) = true)
    {aD : Addr} {u1 v1 u2 v2 u3 v3 : Tok} {ep : Nat} (yd : PySem.W.nsIn K mainGlobals "TURNINGS_BY_MODE" = some (some (.ref aD))) (ld : K.lookup aD = some ⟨.type "dict", none, .dict #[⟨hashStr w "still", .str "still" u1, .int 1 v1⟩, ⟨hashStr w "turn", .str "turn" u2, .int 4 v2⟩, ⟨hashStr w "flip", .str "flip" u3, .int 8 v3⟩] ep, #[]⟩) (z1 : PySem.W.nsIn K mainGlobals "len" = some none) (z2 : PySem.W.nsIn K mainGlobals "min" = some none) (z3 : PySem.W.nsIn K mainGlobals "max" = some none) (z4 : PySem.W.nsIn K mainGlobals "sorted" = some none) (z5 : PySem.W.nsIn K mainGlobals "tuple" = some none) (z6 : PySem.W.nsIn K mainGlobals "list" = some none) (z7 : PySem.W.nsIn K mainGlobals "isinstance" = some none) (z8 : PySem.W.nsIn K mainGlobals "bool" = some none) (z9 : PySem.W.nsIn K mainGlobals "range" = some none) (z10 : PySem.W.nsIn K mainGlobals "str" = some none) (z11 : PySem.W.nsIn K mainGlobals "int" = some none) (z12 : PySem.W.nsIn K mainGlobals "all" = some none) (z13 : PySem.W.nsIn K mainGlobals "set" = some none) :
    ∃ fd : FuncData, (∀ (s : Shared) (v : Value), BindsTo s fd ⟨[v], []⟩ [("_law_script", v)]) ∧ ∀ base : Heap, K.In base → base.Ns mainGlobals mg → FnOk l.prog w K mg base CX0 4 fa fd ["_law_script"] (spLaw K) := by
  have e := hfa.symm.trans (PySem.W.mg_of X G a17)
  cases e
  have F1 := fun_mk (st := sTd) l1 c1 k1
  have F2 := fun_mk (st := sMir) l2 c2 k2
  have F3 := fun_mk (st := sTr) l3 c3 k3
  have F4 := fun_mk (st := sCell) l4 c4 k4
  have F5 := fun_mk (st := sState) l5 c5 k5
  have F6 := fun_mk (st := sNext) l6 c6 k6
  have F7 := fun_mk (st := sDrawn) l7 c7 k7
  have F8 := fun_mk (st := sSigns) l8 c8 k8
  have F9 := fun_mk (st := sGrown) l9 c9 k9
  have F10 := fun_mk (st := sShift) l10 c10 k10
  have F11 := fun_mk (st := sForm) l11 c11 k11
  have F12 := fun_mk (st := sWhole) l12 c12 k12
  have F13 := fun_mk (st := sSpot) l13 c13 k13
  have F14 := fun_mk (st := sHangs) l14 c14 k14
  have F15 := fun_mk (st := sIsf) l15 c15 k15
  have F16 := fun_mk (st := sLt) l16 c16 k16
  have F17 := fun_mk (st := sLaw) l17 c17 k17
  have F18 := fun_mk (st := sForms) l18 c18 k18
  have b1 := F1.binds (ps := ["form", "t"]) fun _ _ _ _ _ _ us hl => match us, hl with | [_, _], _ => rfl
  have b2 := F2.binds (ps := ["spots"]) fun _ _ _ _ _ _ us hl => match us, hl with | [_], _ => rfl
  have b3 := F3.binds (ps := ["spots"]) fun _ _ _ _ _ _ us hl => match us, hl with | [_], _ => rfl
  have b4 := F4.binds (ps := ["_law_script", "_law_k"]) fun _ _ _ _ _ _ us hl => match us, hl with | [_, _], _ => rfl
  have b5 := F5.binds (ps := ["_law_cell", "_law_k"]) fun _ _ _ _ _ _ us hl => match us, hl with | [_, _], _ => rfl
  have b6 := F6.binds (ps := ["_law_state_here", "_law_many"]) fun _ _ _ _ _ _ us hl => match us, hl with | [_, _], _ => rfl
  have b7 := F7.binds (ps := ["_law_script", "_law_k"]) fun _ _ _ _ _ _ us hl => match us, hl with | [_, _], _ => rfl
  have b8 := F8.binds (ps := ["_law_state_here"]) fun _ _ _ _ _ _ us hl => match us, hl with | [_], _ => rfl
  have b9 := F9.binds (ps := ["_law_state_here", "_law_most"]) fun _ _ _ _ _ _ us hl => match us, hl with | [_, _], _ => rfl
  have b10 := F10.binds (ps := ["_law_spots"]) fun _ _ _ _ _ _ us hl => match us, hl with | [_], _ => rfl
  have b11 := F11.binds (ps := ["_law_state_here", "_law_most"]) fun _ _ _ _ _ _ us hl => match us, hl with | [_, _], _ => rfl
  have b12 := F12.binds (ps := ["_law_found"]) fun _ _ _ _ _ _ us hl => match us, hl with | [_], _ => rfl
  have b13 := F13.binds (ps := ["_law_found"]) fun _ _ _ _ _ _ us hl => match us, hl with | [_], _ => rfl
  have b14 := F14.binds (ps := ["_law_cells"]) fun _ _ _ _ _ _ us hl => match us, hl with | [_], _ => rfl
  have b15 := F15.binds (ps := ["_law_found"]) fun _ _ _ _ _ _ us hl => match us, hl with | [_], _ => rfl
  have b16 := F16.binds (ps := ["_law_form", "_law_t"]) fun _ _ _ _ _ _ us hl => match us, hl with | [_, _], _ => rfl
  have b18 := F18.binds (ps := ["form", "mode"]) fun _ _ _ _ _ _ us hl => match us, hl with | [_, _], _ => rfl
  have B : ∀ x ∈ blts, mg x = none := by
    intro x hx
    unfold blts at hx
    rcases List.mem_cons.mp hx with rfl | hx
    · exact PySem.W.mg_none_of X G z1
    rcases List.mem_cons.mp hx with rfl | hx
    · exact PySem.W.mg_none_of X G z2
    rcases List.mem_cons.mp hx with rfl | hx
    · exact PySem.W.mg_none_of X G z3
    rcases List.mem_cons.mp hx with rfl | hx
    · exact PySem.W.mg_none_of X G z4
    rcases List.mem_cons.mp hx with rfl | hx
    · exact PySem.W.mg_none_of X G z5
    rcases List.mem_cons.mp hx with rfl | hx
    · exact PySem.W.mg_none_of X G z6
    rcases List.mem_cons.mp hx with rfl | hx
    · exact PySem.W.mg_none_of X G z7
    rcases List.mem_cons.mp hx with rfl | hx
    · exact PySem.W.mg_none_of X G z8
    rcases List.mem_cons.mp hx with rfl | hx
    · exact PySem.W.mg_none_of X G z9
    rcases List.mem_cons.mp hx with rfl | hx
    · exact PySem.W.mg_none_of X G z10
    rcases List.mem_cons.mp hx with rfl | hx
    · exact PySem.W.mg_none_of X G z11
    rcases List.mem_cons.mp hx with rfl | hx
    · exact PySem.W.mg_none_of X G z12
    rcases List.mem_cons.mp hx with rfl | hx
    · exact PySem.W.mg_none_of X G z13
    cases hx
  refine ⟨PySem.W.fnOf "law" "law" (defArgs sLaw) (defBody sLaw) (defScope sLaw) .none kV17 dc17 pm17 an17 cd17 ct17, fun s v => .of_eq rfl, fun base _ _ => ?_⟩
  have nx : FnNext l.prog w K mg base := ⟨f6, _, ok_next B F6, PySem.W.mg_of X G a6, k6, b6⟩
  have mi : Fn l.prog w K mg base "mirrored" 1 ["spots"] (spMap mirD) := ⟨f2, _, ok_mir B F2, PySem.W.mg_of X G a2, k2, b2⟩
  have tu : Fn l.prog w K mg base "turned_right" 1 ["spots"] (spMap turD) := ⟨f3, _, ok_tr B F3, PySem.W.mg_of X G a3, k3, b3⟩
  have td : Fn l.prog w K mg base "turned" 2 ["form", "t"] spTd := ⟨f1, _, ok_td B mi tu F1, PySem.W.mg_of X G a1, k1, b1⟩
  have dm : DictM l.prog w K mg := dict_m (PySem.W.mg_of X G yd) ld
  exact ok_law B ⟨f7, _, ok_drawn B ⟨f4, _, ok_cell B F4, PySem.W.mg_of X G a4, k4, b4⟩ ⟨f5, _, ok_state F5, PySem.W.mg_of X G a5, k5, b5⟩ F7, PySem.W.mg_of X G a7, k7, b7⟩ ⟨f11, _, ok_form B nx ⟨f8, _, ok_signs nx F8, PySem.W.mg_of X G a8, k8, b8⟩ ⟨f9, _, ok_grown B nx F9, PySem.W.mg_of X G a9, k9, b9⟩ ⟨f10, _, ok_shift B F10, PySem.W.mg_of X G a10, k10, b10⟩ F11, PySem.W.mg_of X G a11, k11, b11⟩ ⟨f18, _, ok_forms B dm td F18, PySem.W.mg_of X G a18, k18, b18⟩ ⟨f15, _, ok_isf B ⟨f13, _, ok_spot B ⟨f12, _, ok_whole B F12, PySem.W.mg_of X G a12, k12, b12⟩ F13, PySem.W.mg_of X G a13, k13, b13⟩ ⟨f14, _, ok_hangs B F14, PySem.W.mg_of X G a14, k14, b14⟩ F15, PySem.W.mg_of X G a15, k15, b15⟩ ⟨f16, _, ok_lt B F16, PySem.W.mg_of X G a16, k16, b16⟩ F17
theorem walk {l : PySem.W.OpenLaw} {q : Program} {loose : List Str} {XP : (Str → Option Value) → Heap → Prop} {YP : World → Heap → Prop} {d : DefRec} {K : Params → PySem.W.Frag} (hn : l.most = some 63) (hdf : d.params.defaults = [])
    (hY : ∀ (w : World) (h : Heap), YP w h → (K w.params).In h)
    (F : ∀ (w : World) (mg : Str → Option Value) (fa : Addr) (h : Heap), (K w.params).In h → h.Ns mainGlobals mg → mg d.name = some (.ref fa) →
      ∃ fd : FuncData, (∀ (s : Shared) (u : Value), BindsTo s fd ⟨[u], []⟩ [("_law_script", u)]) ∧ ∀ base : Heap, (K w.params).In base → base.Ns mainGlobals mg → FnOk l.prog w (K w.params) mg base CX0 4 fa fd ["_law_script"] (spLaw (K w.params))) :
    PySem.W.WalkO q loose XP YP l.row.toRowW d [] (fun f vs => PySem.call f vs) :=
  L2.walk_of (n := 63) (k := 4) (x := "_law_script") (CX := fun _ => CX0) (sp := fun w => spLaw (K w.params)) hn (by decide) hdf ⟨rfl, by decide, by decide⟩ hY F (fun _ _ a ns hl _ hS => ⟨a, ns, rfl, hS, hl, fun _ => rfl⟩) fun _ _ _ _ _ z => z
end K05
open PySem PySem.W PyProof.Rows
set_option maxRecDepth 100000 in
set_option maxHeartbeats 0 in
theorem PySem.Challenge.cw_coverpieces_k05_forms_of_modes_holds : PySem.Challenge.rw_coverpieces_k05_forms_of_modes.Holds := by
  w_on; o_law; k_head; (case hw => w_witness2)
  k_fill
  refine K05.walk (l := PySem.Challenge.rw_coverpieces_k05_forms_of_modes) rfl rfl (fun w h Y => PySem.W.kIn_of Y) ?F
  case F =>
    intro w mg fa h KX G hmg
    refine' K05.all_mk KX G hmg ?a1 ?l1 ?c1 ?k1 ?a2 ?l2 ?c2 ?k2 ?a3 ?l3 ?c3 ?k3 ?a4 ?l4 ?c4 ?k4 ?a5 ?l5 ?c5 ?k5 ?a6 ?l6 ?c6 ?k6 ?a7 ?l7 ?c7 ?k7 ?a8 ?l8 ?c8 ?k8 ?a9 ?l9 ?c9 ?k9 ?a10 ?l10 ?c10 ?k10 ?a11 ?l11 ?c11 ?k11 ?a12 ?l12 ?c12 ?k12 ?a13 ?l13 ?c13 ?k13 ?a14 ?l14 ?c14 ?k14 ?a15 ?l15 ?c15 ?k15 ?a16 ?l16 ?c16 ?k16 ?a17 ?l17 ?c17 ?k17 ?a18 ?l18 ?c18 ?k18 ?yd ?ld ?z1 ?z2 ?z3 ?z4 ?z5 ?z6 ?z7 ?z8 ?z9 ?z10 ?z11 ?z12 ?z13
    (case a1 => k_is); (case l1 => k_is); (case c1 => k_is); (case k1 => k_is)
    (case a2 => k_is); (case l2 => k_is); (case c2 => k_is); (case k2 => k_is)
    (case a3 => k_is); (case l3 => k_is); (case c3 => k_is); (case k3 => k_is)
    (case a4 => k_is); (case l4 => k_is); (case c4 => k_is); (case k4 => k_is)
    (case a5 => k_is); (case l5 => k_is); (case c5 => k_is); (case k5 => k_is)
    (case a6 => k_is); (case l6 => k_is); (case c6 => k_is); (case k6 => k_is)
    (case a7 => k_is); (case l7 => k_is); (case c7 => k_is); (case k7 => k_is)
    (case a8 => k_is); (case l8 => k_is); (case c8 => k_is); (case k8 => k_is)
    (case a9 => k_is); (case l9 => k_is); (case c9 => k_is); (case k9 => k_is)
    (case a10 => k_is); (case l10 => k_is); (case c10 => k_is); (case k10 => k_is)
    (case a11 => k_is); (case l11 => k_is); (case c11 => k_is); (case k11 => k_is)
    (case a12 => k_is); (case l12 => k_is); (case c12 => k_is); (case k12 => k_is)
    (case a13 => k_is); (case l13 => k_is); (case c13 => k_is); (case k13 => k_is)
    (case a14 => k_is); (case l14 => k_is); (case c14 => k_is); (case k14 => k_is)
    (case a15 => k_is); (case l15 => k_is); (case c15 => k_is); (case k15 => k_is)
    (case a16 => k_is); (case l16 => k_is); (case c16 => k_is); (case k16 => k_is)
    (case a17 => k_is); (case l17 => k_is); (case c17 => k_is); (case k17 => k_is)
    (case a18 => k_is); (case l18 => k_is); (case c18 => k_is); (case k18 => k_is)
    (case yd => k_is)
    (case ld => k_is)
    (case z1 => k_is)
    (case z2 => k_is)
    (case z3 => k_is)
    (case z4 => k_is)
    (case z5 => k_is)
    (case z6 => k_is)
    (case z7 => k_is)
    (case z8 => k_is)
    (case z9 => k_is)
    (case z10 => k_is)
    (case z11 => k_is)
    (case z12 => k_is)
    (case z13 => k_is)
