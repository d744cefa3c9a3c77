import PyProof.Rows.All
import Wide.All
import OpenK.AllK
import Wide.FinOn
import Lean
import PyProof.EqAt
import PyProof.EqKinds
import PyProof.TupleCall
import PyProof.Draws
import PyProof.EnumMake
import PyProof.ExcArgsOwn
import PyProof.FactsAll.dict_4
import PyProof.FactsAll.subtypes_4
import PyProof.FactsAll.tuple_2
import PyProof.ListMulRoad
import PyProof.ListRange
import PyProof.MaxThree
import PyProof.Rows.EnumRows
import PyProof.Rows.SetFrom
import PyProof.TupleOfStr
import PySem.Challenge.RW_tienumbers_k54_squares_by_anybody
set_option Elab.async false
set_option linter.all false
set_option maxRecDepth 100000
set_option maxHeartbeats 4000000
/-! THE HAND LAYER, for ints, bools, texts, own classes, LISTS and tuples (index, slices, in, append, pop ..), calls, loops. Paste it whole ahead of your own text; what your proof does not reach may be deleted. -/
namespace L2
open PySem PySem.Spec PyProof.Rows

/-- a key: an int or a str -/
abbrev Key := Sum Int Str
def keyIs : Key → Value → Bool
  | .inl k, v => Value.isInt k v
  | .inr x, v => Value.isStrOf x v
def keyH (w : World) : Key → Int
  | .inl k => hashInt k
  | .inr x => hashStr w x
theorem keyIs_shape : ∀ {k : Key} {v : Value}, keyIs k v = true → (∃ i t, k = Sum.inl i ∧ v = Value.int i t) ∨ (∃ x t, k = Sum.inr x ∧ v = Value.str x t)
  | .inl i, v, h => by
    obtain ⟨t, e⟩ := Value.isInt_shape (k := i) (v := v) h
    exact .inl ⟨i, t, rfl, e⟩
  | .inr x, v, h => by
    obtain ⟨t, e⟩ := Value.isStrOf_shape (x := x) (v := v) h
    exact .inr ⟨x, t, rfl, e⟩
theorem keyIs_int (i : Int) (t : Tok) : keyIs (.inl i) (.int i t) = true := by simp [keyIs, Value.isInt]
theorem keyIs_str (x : Str) (t : Tok) : keyIs (.inr x) (.str x t) = true := by simp [keyIs, Value.isStrOf]
theorem key_ll (a b : Int) : decide ((Sum.inl a : Key) = Sum.inl b) = (a == b) := by
  by_cases e : a = b
  · subst e; simp
  · have h : ¬ (Sum.inl a : Key) = Sum.inl b := fun q => e (Sum.inl.inj q)
    rw [decide_eq_false h]
    exact (beq_eq_false_iff_ne.mpr e).symm
theorem key_rr (a b : Str) : decide ((Sum.inr a : Key) = Sum.inr b) = decide (a = b) := by
  by_cases e : a = b
  · subst e; simp
  · have h : ¬ (Sum.inr a : Key) = Sum.inr b := fun q => e (Sum.inr.inj q)
    rw [decide_eq_false h, decide_eq_false e]
theorem key_lr (a : Int) (b : Str) : decide ((Sum.inl a : Key) = Sum.inr b) = false := decide_eq_false (fun q => nomatch q)
theorem key_rl (a : Str) (b : Int) : decide ((Sum.inr a : Key) = Sum.inl b) = false := decide_eq_false (fun q => nomatch q)

def mixKind (prog : Program) (w : World) : PySem.KeyKind prog w Key where
  is := keyIs
  hash := keyH w
  inj := fun v a b ha hb => by
    rcases keyIs_shape ha with ⟨i, t, rfl, rfl⟩ | ⟨x, t, rfl, rfl⟩
    · rcases keyIs_shape hb with ⟨j, u, rfl, e⟩ | ⟨y, u, rfl, e⟩
      · injection e with e1 _; rw [e1]
      · exact nomatch e
    · rcases keyIs_shape hb with ⟨j, u, rfl, e⟩ | ⟨y, u, rfl, e⟩
      · exact nomatch e
      · injection e with e1 _; rw [e1]
  byValue := fun k v h => by
    rcases keyIs_shape h with ⟨i, t, rfl, rfl⟩ | ⟨x, t, rfl, rfl⟩ <;> rfl
  pyHash := fun hv h => by
    rcases keyIs_shape hv with ⟨i, t, rfl, rfl⟩ | ⟨x, t, rfl, rfl⟩
    · exact wpAny_pyHash_int h
    · exact wpAny_pyHash_str h
  eqBool := fun hu hv h => by
    rcases keyIs_shape hu with ⟨i, t, rfl, rfl⟩ | ⟨x, t, rfl, rfl⟩
    · rcases keyIs_shape hv with ⟨j, u, rfl, rfl⟩ | ⟨y, u, rfl, rfl⟩
      · rw [key_ll] at h; exact wpAny_eqBool_int h
      · rw [key_lr] at h; exact SeqAt.EqAt.int_str i t y u _ _ _ _ h
    · rcases keyIs_shape hv with ⟨j, u, rfl, rfl⟩ | ⟨y, u, rfl, rfl⟩
      · rw [key_rl] at h; exact SeqAt.EqAt.str_int x t j u _ _ _ _ h
      · rw [key_rr] at h; exact wpAny_eqBool_str h
  «strs» := fun k x t v h => by
    rcases keyIs_shape h with ⟨i, u, rfl, e⟩ | ⟨y, u, rfl, e⟩
    · exact nomatch e
    · injection e with e1 _
      subst e1
      cases v <;> rfl

theorem mixKind_int (prog : Program) (w : World) (i : Int) (t : Tok) : (mixKind prog w).is (.inl i) (.int i t) = true := keyIs_int i t
theorem mixKind_str (prog : Program) (w : World) (x : Str) (t : Tok) : (mixKind prog w).is (.inr x) (.str x t) = true := keyIs_str x t
end L2

namespace L2
open PySem PySem.Spec PyProof.Rows

/-- a value, without the heap -/
inductive V where
  | non | bl (b : Bool) | int (i : Int) | str (x : Str) | byt (b : Array UInt8) | flt (b : UInt64) | ref (a : Addr) | ty (n : String)
  deriving DecidableEq

def RelV : V → Value → Prop
  | .non, u => u = Value.none
  | .bl b, u => u = Value.bool b
  | .int i, u => ∃ t, u = Value.int i t
  | .str x, u => ∃ t, u = Value.str x t
  | .byt b, u => ∃ t, u = Value.bytes b t
  | .flt b, u => ∃ t, u = Value.float b t
  | .ref a, u => u = Value.ref a
  | .ty n, u => u = Value.type n

abbrev Vals : List V → List Value → Prop := Paired RelV
theorem Vals.length {xs : List V} {us : List Value} (r : Vals xs us) : xs.length = us.length := Paired.length r
theorem Vals.get : ∀ {xs : List V} {us : List Value} {i : Nat} {x : V}, Vals xs us → xs[i]? = some x → ∃ u, us[i]? = some u ∧ RelV x u
  | _, _, _, _, .nil, e => by simp at e
  | _, _, 0, _, .cons r _, e => by simp at e; subst e; exact ⟨_, rfl, r⟩
  | _, _, i + 1, x, .cons _ t, e => by
    obtain ⟨u, h1, h2⟩ := Vals.get (i := i) (x := x) t (by simpa using e)
    exact ⟨u, by simpa using h1, h2⟩
theorem Vals.set {x : V} {u : Value} (r : RelV x u) : ∀ {xs : List V} {us : List Value} (i : Nat), Vals xs us → Vals (xs.set i x) (us.set i u)
  | _, _, _, .nil => .nil
  | _, _, 0, .cons _ t => .cons r t
  | _, _, i + 1, .cons q t => .cons q (Vals.set r i t)
theorem Vals.append : ∀ {xs ys : List V} {us ws : List Value}, Vals xs us → Vals ys ws → Vals (xs ++ ys) (us ++ ws)
  | _, _, _, _, .nil, s => s
  | _, _, _, _, .cons r t, s => .cons r (Vals.append t s)
theorem Vals.take : ∀ {xs : List V} {us : List Value} (n : Nat), Vals xs us → Vals (xs.take n) (us.take n)
  | _, _, 0, _ => .nil
  | _, _, _ + 1, .nil => .nil
  | _, _, n + 1, .cons r t => .cons r (Vals.take n t)
theorem Vals.drop : ∀ {xs : List V} {us : List Value} (n : Nat), Vals xs us → Vals (xs.drop n) (us.drop n)
  | _, _, 0, r => r
  | _, _, _ + 1, .nil => .nil
  | _, _, n + 1, .cons _ t => Vals.drop n t
def RelO : Option V → Option Value → Prop
  | some v, some u => RelV v u
  | none, none => True
  | _, _ => False
def KV {κ : Type} : List (κ × V) → List (κ × Value) → Prop := Paired fun (p : κ × V) (q : κ × Value) => p.1 = q.1 ∧ RelV p.2 q.2

/-- a key of a dict (00_mix): an int or a text -/
def kV : Key → V
  | .inl i => .int i
  | .inr x => .str x

/-- what stands at a tracked address -/
inductive HO where
  /-- a list -/
  | lst (xs : List V)
  /-- a tuple (never changes) -/
  | tup (xs : List V)
  /-- a dict whose keys are ints and texts; one whose keys are tuples of ints and texts (the empty one is both) -/
  | dK (kvs : List (Key × V)) | dT (kvs : List (List Key × V))
  /-- a set of ints: its members, its size -/
  | set (S : Int → Bool) (n : Nat)
  /-- an instance of the class at C, its dict at dx, its attributes -/
  | ins (C dx : Addr) (fs : List (Str × V))
  /-- the dict of the instance at x -/
  | own (x : Addr)
  /-- the dict of an exception -/
  | xd (fs : List (Str × V))
  /-- a bound method, f of x -/
  | met (f x : Addr)
  /-- a range object lo, lo + 1, .. below hi -/
  | rng (lo hi : Int)
  /-- a thing that is known to the object (the script; a dict while a loop walks it): read, never written while it is so -/
  | frz (o : Obj) (u : HO)
  /-- a code object's table -/
  | tbl (ps : Array Value)
  /-- any other thing, by what is true of its one object (a def of one's own: SetO a S n := HO.ext fun h => ..) -/
  | ext (φ : Heap → Prop)

abbrev Hp := Addr → Option HO
def upd (H : Hp) (a : Addr) (o : HO) : Hp := fun b => if b = a then some o else H b
theorem upd_same {H : Hp} {a : Addr} {o : HO} : upd H a o a = some o := by unfold upd; rw [if_pos rfl]
theorem upd_ne {H : Hp} {a b : Addr} {o : HO} (h : b ≠ a) : upd H a o b = H b := by unfold upd; rw [if_neg h]
/-- two objects of different content stand apart -/
theorem ne_of {H : Hp} {a b : Addr} {o u : HO} (h : H a = some o) (h' : H b = some u) (d : o ≠ u) : a ≠ b := by
  intro e; subst e; rw [h] at h'; exact d (Option.some.inj h')
theorem ne_of_none {H : Hp} {a b : Addr} {o : HO} (h : H a = some o) (h' : H b = none) : a ≠ b := by
  intro e; subst e; rw [h] at h'; cases h'

section
variable (P : Program) (w : World)
def ObjOk (H : Hp) (h : Heap) (a : Addr) : HO → Prop
  | .lst xs => xs.length ≤ sizeLine ∧ ∃ (its : List Value) (n : Nat), Vals xs its ∧ h.get? a = some { cls := .type "list", data := .seq its.toArray n }
  | .tup xs => xs.length ≤ sizeLine ∧ ∃ its : List Value, Vals xs its ∧ IsTup h a its.toArray
  | .dK kvs => kvs.length ≤ sizeLine ∧ (a == sysModules) = false ∧ ∃ vs, KV kvs vs ∧ h.DictOf (mixKind P w) a vs
  | .dT kvs => kvs.length ≤ sizeLine ∧ (a == sysModules) = false ∧ ∃ xs : List (List Key × Addr × Value),
      Paired (fun (p : List Key × V) (q : List Key × Addr × Value) => p.1 = q.1 ∧ H q.2.1 = some (.tup (p.1.map kV)) ∧ RelV p.2 q.2.2) kvs xs ∧
      ∃ o es ep, h.get? a = some o ∧ o.ExactDict ∧ o.data = .dict es ep ∧ es.toList = xs.map (entryOfKey (tupleKind (mixKind P w))) ∧ (xs.map (·.1)).Nodup
  | .set S n => h.SetOf (intKind P w) a S n
  | .ins C dx fs => H dx = some (.own a) ∧ fs.length ≤ 1000 ∧ dx ≠ a ∧ h.get? a = some (PySem.W.instObj C dx) ∧
      ∃ mA, h.Ns1 dx mA ∧ (∀ f, RelO (fs.lookup f) (mA f)) ∧ PySem.Within mA (fs.map (·.1))
  | .own _ => ∃ o, h.get? a = some o
  | .xd fs => ∃ mA, h.Ns1 a mA ∧ ∀ f, RelO (fs.lookup f) (mA f)
  | .rng lo hi => ∃ t u v, h.get? a = some { cls := .type "range", data := .fields #[.int lo t, .int hi u, .int 1 v] }
  | .frz o u => h.get? a = some o ∧ ObjOk H h a u
  | .tbl ps => h.get? a = some { cls := .none, data := .fields ps }
  | .met f x => h.get? a = some (PySem.W.methodObj (.ref f) (.ref x))
  | .ext φ => φ h ∧ (∃ o, h.get? a = some o) ∧ ∀ h1 h2 : Heap, φ h1 → (∀ o, h1.get? a = some o → h2.get? a = some o) → φ h2
/-- the abstract heap is held -/
def HOk (H : Hp) (h : Heap) : Prop := ∀ a o, H a = some o → ObjOk P w H h a o
end

section
variable {P : Program} {w : World} {H H' : Hp} {h h' : Heap} {a : Addr} {o : HO}
theorem ObjOk.lt (x : ObjOk P w H h a o) : a < h.objs.size := by
  cases o with
  | lst xs => obtain ⟨_, _, _, _, e⟩ := x; exact Heap.lt_size e
  | tup xs => obtain ⟨_, _, _, p⟩ := x; exact p.lt
  | dK kvs => obtain ⟨_, _, _, _, o, _, _, e, _⟩ := x; exact Heap.lt_size e
  | dT kvs => obtain ⟨_, _, _, _, o, _, _, e, _⟩ := x; exact Heap.lt_size e
  | set S n => obtain ⟨o, _, _, _, e, _⟩ := x; exact Heap.lt_size e
  | ins C dx fs => obtain ⟨_, _, _, e, _⟩ := x; exact Heap.lt_size e
  | own y => obtain ⟨_, e⟩ := x; exact Heap.lt_size e
  | xd fs => obtain ⟨_, ⟨_, _, _, e, _⟩, _⟩ := x; exact Heap.lt_size e
  | rng lo hi => obtain ⟨_, _, _, e⟩ := x; exact Heap.lt_size e
  | frz ob u => obtain ⟨e, _⟩ := x; exact Heap.lt_size e
  | tbl ps => exact Heap.lt_size (show h.get? a = some _ from x)
  | met f y => exact Heap.lt_size (show h.get? a = some _ from x)
  | ext φ => obtain ⟨_, ⟨_, e⟩, _⟩ := x; exact Heap.lt_size e
theorem Paired.mapP {α β : Type} {F G : α → β → Prop} : ∀ {l₁ : List α} {l₂ : List β}, Paired F l₁ l₂ → (∀ a b, F a b → G a b) → Paired G l₁ l₂
  | _, _, .nil, _ => .nil
  | _, _, .cons r t, f => .cons (f _ _ r) (Paired.mapP t f)
/-- what an object's description leans on: its own object, its own dict, the tuples -/
theorem ObjOk.stay (x : ObjOk P w H h a o) (k : ∀ b u, (b = a ∨ H b = some (.own a)) → h.get? b = some u → h'.get? b = some u)
    (ho : ∀ b, H b = some (.own a) → H' b = some (.own a)) (ht : ∀ b xs, H b = some (.tup xs) → H' b = some (.tup xs)) : ObjOk P w H' h' a o := by
  induction o with
  | lst xs => obtain ⟨z, its, n, r, e⟩ := x; exact ⟨z, its, n, r, k _ _ (.inl rfl) e⟩
  | tup xs => obtain ⟨z, its, r, ob, e, c⟩ := x; exact ⟨z, its, r, ob, k _ _ (.inl rfl) e, c⟩
  | dK kvs => obtain ⟨z, y, vs, r, ob, es, ep, e, c⟩ := x; exact ⟨z, y, vs, r, ob, es, ep, k _ _ (.inl rfl) e, c⟩
  | dT kvs =>
    obtain ⟨z, y, xs, r, ob, es, ep, e, c⟩ := x
    exact ⟨z, y, xs, Paired.mapP r fun p q z => ⟨z.1, ht _ _ z.2.1, z.2.2⟩, ob, es, ep, k _ _ (.inl rfl) e, c⟩
  | set S n => obtain ⟨ob, es, ep, t, e, c⟩ := x; exact ⟨ob, es, ep, t, k _ _ (.inl rfl) e, c⟩
  | ins C dx fs =>
    obtain ⟨d, z, ne, e, mA, ⟨od, es, ep, e2, c⟩, r⟩ := x
    exact ⟨ho _ d, z, ne, k _ _ (.inl rfl) e, mA, ⟨od, es, ep, k _ _ (.inr d) e2, c⟩, r⟩
  | own y => obtain ⟨ob, e⟩ := x; exact ⟨ob, k _ _ (.inl rfl) e⟩
  | xd fs => obtain ⟨mA, ⟨od, es, ep, e, c⟩, r⟩ := x; exact ⟨mA, ⟨od, es, ep, k _ _ (.inl rfl) e, c⟩, r⟩
  | rng lo hi => obtain ⟨t, u, v, e⟩ := x; exact ⟨t, u, v, k _ _ (.inl rfl) e⟩
  | frz ob u ih => obtain ⟨e, q⟩ := x; exact ⟨k _ _ (.inl rfl) e, ih q⟩
  | tbl ps =>
    have e : h.get? a = some { cls := .none, data := .fields ps } := x
    show h'.get? a = some { cls := .none, data := .fields ps }
    exact k a _ (.inl rfl) e
  | met f y =>
    have e : h.get? a = some (PySem.W.methodObj (.ref f) (.ref y)) := x
    show h'.get? a = some (PySem.W.methodObj (.ref f) (.ref y))
    exact k a _ (.inl rfl) e
  | ext φ => obtain ⟨p, ⟨o, e⟩, st⟩ := x; exact ⟨st _ _ p fun o q => k _ _ (.inl rfl) q, ⟨o, k _ _ (.inl rfl) e⟩, st⟩
theorem HOk.lt (x : HOk P w H h) (e : H a = some o) : a < h.objs.size := (x a o e).lt
theorem HOk.fresh (x : HOk P w H h) (e : h.objs.size ≤ a) : H a = none := by
  cases q : H a with
  | none => rfl
  | some u => exact absurd (Nat.lt_of_lt_of_le (x.lt q) e) (Nat.lt_irrefl _)
/-- every object of the heap is kept -/
theorem HOk.kept (x : HOk P w H h) (k : ∀ b u, h.get? b = some u → h'.get? b = some u) : HOk P w H h' := fun a o e =>
  (x a o e).stay (fun b u _ q => k b u q) (fun _ q => q) fun _ _ q => q
/-- a new object is laid and tracked -/
theorem HOk.laid (x : HOk P w H h) (k : ∀ b u, h.get? b = some u → h'.get? b = some u) (hp : h.objs.size ≤ a) (new : ObjOk P w (upd H a o) h' a o) : HOk P w (upd H a o) h' := fun b u e => by
  have hn := x.fresh hp
  by_cases hb : b = a
  · subst hb; rw [upd_same] at e; cases e; exact new
  · rw [upd_ne hb] at e
    exact (x b u e).stay (fun c v _ q => k c v q) (fun c q => by rw [upd_ne (ne_of_none q hn)]; exact q) fun c xs q => by rw [upd_ne (ne_of_none q hn)]; exact q
end

/-- what may be read as u: it is u, or a known u -/
def Rd (H : Hp) (a : Addr) (u : HO) : Prop := H a = some u ∨ ∃ o, H a = some (.frz o u)
theorem Rd.ok {P : Program} {w : World} {H : Hp} {h : Heap} {a : Addr} {u : HO} (r : Rd H a u) (x : HOk P w H h) : ObjOk P w H h a u := by
  rcases r with r | ⟨o, r⟩
  · exact x a u r
  · obtain ⟨_, q⟩ := x a _ r
    exact q
/-- what may be written -/
def Mut : Option HO → Prop
  | some (.lst _) => True
  | some (.dK _) => True
  | some (.dT _) => True
  | some (.set _ _) => True
  | some (.ins _ _ _) => True
  | some (.ext _) => True
  | _ => False
section
variable {P : Program} {w : World} {H : Hp} {h h' : Heap} {x e : Addr} {o' : HO}
/-- the object at e is changed: x itself, or the dict of the instance x -/
theorem HOk.write (ok : HOk P w H h) (mu : Mut (H x)) (he : e = x ∨ H e = some (.own x)) (k : ∀ b u, b ≠ e → h.get? b = some u → h'.get? b = some u) (heo : ∃ u, h'.get? e = some u)
    (new : ObjOk P w (upd H x o') h' x o') : HOk P w (upd H x o') h' := fun b u q => by
  have nown : ∀ c y, H c = some (.own y) → c ≠ x := fun c y r z => by subst z; rw [r] at mu; exact mu
  have ntup : ∀ c xs, H c = some (.tup xs) → c ≠ x := fun c xs r z => by subst z; rw [r] at mu; exact mu
  by_cases hb : b = x
  · subst hb; rw [upd_same] at q; cases q; exact new
  · rw [upd_ne hb] at q
    by_cases hbe : b = e
    · have q' : H b = some (.own x) := by
        rcases he with z | z
        · exact absurd (hbe.trans z) hb
        · rw [hbe]; exact z
      rw [q] at q'; cases q'
      obtain ⟨v, hv⟩ := heo
      exact ⟨v, by rw [hbe]; exact hv⟩
    · refine (ok b u q).stay (fun c v hc r => k c v ?_ r) (fun c r => by rw [upd_ne (nown c b r)]; exact r) fun c xs r => by rw [upd_ne (ntup c xs r)]; exact r
      rcases hc with rfl | hc
      · exact hbe
      · rintro rfl
        rcases he with z | z
        · exact nown c b hc z
        · rw [hc] at z; cases z; exact hb rfl
end

/-! ### kept unless tracked; of the frames at fs (the callers') the slots may change (an exception that passes writes there); of the records at ex (iterators) nothing is said -/
structure Un (fs ex : List Addr) (H H' : Hp) (h h' : Heap) : Prop where
  keep : ∀ b o, h.get? b = some o → H b = none → b ∉ fs → b ∉ ex → h'.get? b = some o
  slot : ∀ b o, h.get? b = some o → H b = none → b ∈ fs → b ∉ ex → ∃ sl, h'.get? b = some { o with slots := sl }
  free : ∀ b o, h.get? b = some o → H b = none → b ∉ ex → H' b = none
  there : ∀ b o, h.get? b = some o → b ∉ ex → ∃ o', h'.get? b = some o'
  tups : ∀ b xs, H b = some (.tup xs) → H' b = some (.tup xs)
  frzs : ∀ b o u, H b = some (.frz o u) → H' b = some (.frz o u)
  tbls : ∀ b ps, H b = some (.tbl ps) → ∃ more, H' b = some (.tbl (ps ++ more))
section
variable {fs fs' ex ex' : List Addr} {H H1 H2 : Hp} {h h1 h2 h' : Heap} {a x e : Addr} {o : HO}
theorem Un.any (u : Un fs ex H H1 h h1) {b : Addr} {ob : Obj} (q : h.get? b = some ob) (n : H b = none) (hx : b ∉ ex) : ∃ sl, h1.get? b = some { ob with slots := sl } := by
  by_cases hb : b ∈ fs
  · exact u.slot b ob q n hb hx
  · exact ⟨ob.slots, u.keep b ob q n hb hx⟩
theorem Un.kept (k : ∀ b u, h.get? b = some u → h'.get? b = some u) : Un fs ex H H h h' :=
  ⟨fun b ob q _ _ _ => k b ob q, fun b ob q _ _ _ => ⟨ob.slots, k b ob q⟩, fun _ _ _ n _ => n, fun b ob q _ => ⟨ob, k b ob q⟩, fun _ _ q => q, fun _ _ _ q => q, fun _ ps q => ⟨#[], by rw [q]; simp⟩⟩
theorem Un.refl : Un fs ex H H h h := Un.kept fun _ _ q => q
theorem Un.laid (k : ∀ b u, h.get? b = some u → h'.get? b = some u) (hp : h.objs.size ≤ a) (hn : H a = none) : Un fs ex H (upd H a o) h h' where
  keep := fun b u q _ _ _ => k b u q
  slot := fun b u q _ _ _ => ⟨u.slots, k b u q⟩
  free := fun b u q n _ => by rw [upd_ne (Nat.ne_of_lt (Nat.lt_of_lt_of_le (Heap.lt_size q) hp))]; exact n
  there := fun b u q _ => ⟨u, k b u q⟩
  tups := fun b xs q => by rw [upd_ne (ne_of_none q hn)]; exact q
  frzs := fun b u xs q => by rw [upd_ne (ne_of_none q hn)]; exact q
  tbls := fun b ps q => ⟨#[], by rw [upd_ne (ne_of_none q hn), q]; simp⟩
theorem Un.write (mu : Mut (H x)) (he : e = x ∨ H e = some (.own x)) (k : ∀ b u, b ≠ e → h.get? b = some u → h'.get? b = some u) (heo : ∃ u, h'.get? e = some u) : Un fs ex H (upd H x o) h h' := by
  have hx : ∀ b, H b = none → b ≠ x := fun b n z => by subst z; rw [n] at mu; exact mu
  have hb : ∀ b, H b = none → b ≠ e := fun b n z => by
    subst z
    rcases he with r | r
    · exact hx b n r
    · rw [n] at r; cases r
  have hm : ∀ b u, H b = some u → ¬ Mut (some u) → b ≠ x := fun b u q nm z => by subst z; rw [q] at mu; exact nm mu
  refine ⟨fun b u q n _ _ => k b u (hb b n) q, fun b u q n _ _ => ⟨u.slots, k b u (hb b n) q⟩, fun b u q n _ => by rw [upd_ne (hx b n)]; exact n, fun b u q _ => ?_,
    fun b xs q => by rw [upd_ne (hm b _ q fun z => z)]; exact q, fun b u xs q => by rw [upd_ne (hm b _ q fun z => z)]; exact q, fun b ps q => ⟨#[], by rw [upd_ne (hm b _ q fun z => z), q]; simp⟩⟩
  by_cases hbe : b = e
  · subst hbe; exact heo
  · exact ⟨u, k b u hbe q⟩
end

/-! ### the heap without what is tracked -/
def trk (h : Heap) (H : Hp) : List Addr := (List.range h.objs.size).filter fun a => (H a).isSome
def hidT (h : Heap) (H : Hp) : Heap := PySem.W.hideAll h (trk h H)
theorem hidT_size (h : Heap) (H : Hp) : (hidT h H).objs.size = h.objs.size := PySem.W.hideAll_size _ _
theorem hidT_get {h : Heap} {H : Hp} {b : Addr} {o : Obj} (e : h.get? b = some o) (n : H b = none) : (hidT h H).get? b = some o :=
  PySem.W.hideAll_get _ e fun hm => by
    have q : (H b).isSome = true := (List.mem_filter.mp hm).2
    rw [n] at q; simp at q
theorem of_hidT {h : Heap} {H : Hp} {b : Addr} {o : Obj} (e : (hidT h H).get? b = some o) : h.get? b = some o ∧ H b = none := by
  have e' : h.get? b = some o := PySem.W.of_hideAll (trk h H) e
  refine ⟨e', ?_⟩
  cases q : H b with
  | none => rfl
  | some x =>
    have hm : b ∈ trk h H := List.mem_filter.mpr ⟨List.mem_range.mpr (Heap.lt_size e'), by simp [q]⟩
    have z : (hidT h H).get? b = none := PySem.W.hideAll_none (trk h H) hm
    rw [z] at e; cases e

/-! ### OpenK's ledger, filled with every new object but one -/
def allNews (g h : Heap) (L : Addr) : List (Addr × Obj) := (List.range h.objs.size).filterMap fun a => if a = L ∨ (g.get? a).isSome = true then none else (h.get? a).map fun o => (a, o)
def rest (g h : Heap) (L d : Addr) : List (Addr × Obj) := (allNews g h L).filter fun p => decide (p.1 ≠ d)
end L2

namespace L2
open PySem PySem.Spec PyProof.Rows

/-- the module's facts, over the base: the heap at the law's entry without what is tracked there -/
structure Mod (K : PySem.W.Frag) (mg : Str → Option Value) (base : Heap) : Prop where
  kin : K.In base
  glob : base.Ns mainGlobals mg
  blt : ∃ mb, base.Ns builtinsNs mb ∧ ∀ x : Str, x ≠ "__name__" → mb x = bootBuiltins x
  nolimit : base.NoLimit

/-- the context: a def's body (or a comprehension's block) running. base: fixed through the whole law; s₀, H₀: the entry; outer: the frames whose slots others may change (a def's callers); stack: all frames that run;
   ex: iterators that were made ahead of the entry and are walked here (a comprehension's); fn: the names whose cells were made at the entry (a def: all; a comprehension's block: its own); calm: not within an except suite; pn: pins that every state bears; xe: what is wanted of an exception that leaves the code -/
structure Cx where
  prog : Program
  w : World
  K : PySem.W.Frag
  mg : Str → Option Value
  base : Heap
  A : Around
  N : List Str
  s₀ : Shared
  H₀ : Hp
  env : Env
  outer : List Env
  stack : List Env
  ex : List Addr
  fn : Str → Bool
  calm : Bool
  pn : List (Addr × Obj)
  xe : Value → Shared → Prop
/-- the callers' frames -/
def frs (l : List Env) : List Addr := l.filterMap (·.frame)
abbrev Cx.fs (X : Cx) : List Addr := frs X.outer

def Vis (sc : Scope) (x : Str) : Prop := sc.names.lookup x = some .local ∨ sc.names.lookup x = some .cell ∨ sc.names.lookup x = some .free
def Loc (sc : Scope) (x : Str) : Prop := sc.names.lookup x = some .local ∨ sc.names.lookup x = some .cell
def Look (env : Env) (h : Heap) (m : Str → Option Value) (x : Str) (u : Value) : Prop :=
  (env.kindOf x = some .local ∧ m x = some u) ∨ ((env.kindOf x = some .cell ∨ env.kindOf x = some .free) ∧ ∃ c, env.cells.lookup x = some c ∧ h.IsCell c (some u))

structure Cx.Ok (X : Cx) : Prop where
  mod : Mod X.K X.mg X.base
  kind : X.env.scope.kind = .function
  glob : X.env.globals = mainGlobals
  blt : X.env.builtins = builtinsNs
  above : X.s₀.heap.objs.size ≤ X.env.locals
  inj : ∀ x y c, X.env.cells.lookup x = some c → X.env.cells.lookup y = some c → x = y
  has : ∀ x, (X.env.kindOf x = some .cell ∨ X.env.kindOf x = some .free) → ∃ c, X.env.cells.lookup x = some c
  cab : ∀ x c, X.fn x = true → X.env.cells.lookup x = some c → X.s₀.heap.objs.size ≤ c
  hd : X.calm = true → X.A.handled = none
  frames : X.A.frames = some X.stack
  stk : X.stack = X.outer ∨ (X.stack = X.env :: X.outer ∧ X.env.frame = some X.env.locals)
  exf : ∀ b ∈ X.ex, b ≠ X.env.locals ∧ ∀ x c, X.env.cells.lookup x = some c → c ≠ b
  bs : ∀ b o, X.base.get? b = some o → X.s₀.heap.get? b = some o ∧ X.H₀ b = none
  bsz : X.base.objs.size ≤ X.s₀.heap.objs.size
  noex : ∀ b o, X.base.get? b = some o → b ∉ X.ex
  exfs : ∀ b ∈ X.ex, b ∉ X.fs
  funs : X.s₀.heap.FunFrames X.base X.outer
  frf : ∀ b ∈ X.fs, X.H₀ b = none

structure Inv (X : Cx) (pins : List (Addr × Obj)) (σ : List (Option V)) (H : Hp) (s : Shared) : Prop where
  ok : X.Ok
  os : s.os = X.s₀.os
  bare : AllBare s.gens
  base : Un X.fs X.ex X.H₀ H X.s₀.heap s.heap
  loc : ∃ m, s.heap.Ns X.env.locals m ∧ ∀ (i : Nat) (x : Str) (v : V), X.N[i]? = some x → σ[i]? = some (some v) → Vis X.env.scope x → ∃ u, RelV v u ∧ Look X.env s.heap m x u
  cell : ∀ x c, X.env.cells.lookup x = some c → ∃ v, s.heap.IsCell c v
  free : H X.env.locals = none
  freeC : ∀ x c, X.env.cells.lookup x = some c → H c = none
  pin : ∀ p ∈ X.pn ++ pins, s.heap.get? p.1 = some p.2 ∧ H p.1 = none ∧ p.1 ≠ X.env.locals ∧ p.1 ∉ X.fs ∧ ∀ v, p.2.data ≠ .cell v
  hok : HOk X.prog X.w H s.heap
  len : σ.length = X.N.length

section
variable {X : Cx} {pins : List (Addr × Obj)} {σ : List (Option V)} {H H' : Hp} {s : Shared} {h' : Heap}

theorem Cx.Ok.nofr (ok : X.Ok) {b : Addr} {o : Obj} (e : X.base.get? b = some o) : b ∉ X.fs := fun hb => by
  have := (ok.funs.mem hb).1
  rw [e] at this; cases this
theorem Inv.bs (I : Inv X pins σ H s) : ∀ b o, X.base.get? b = some o → s.heap.get? b = some o ∧ H b = none := fun b o e =>
  ⟨I.base.keep b o (I.ok.bs b o e).1 (I.ok.bs b o e).2 (I.ok.nofr e) (I.ok.noex b o e), I.base.free b o (I.ok.bs b o e).1 (I.ok.bs b o e).2 (I.ok.noex b o e)⟩
theorem Inv.bk (I : Inv X pins σ H s) : ∀ b o, X.base.get? b = some o → s.heap.get? b = some o := fun b o e => (I.bs b o e).1
theorem Inv.mod (I : Inv X pins σ H s) : Mod X.K X.mg X.base := I.ok.mod
theorem Inv.kIn (I : Inv X pins σ H s) : X.K.In s.heap := I.ok.mod.kin.keeps I.bk
theorem Inv.lt (I : Inv X pins σ H s) : X.env.locals < s.heap.objs.size := let ⟨_, hn, _⟩ := I.loc; hn.lt
theorem Inv.sz (I : Inv X pins σ H s) : X.s₀.heap.objs.size ≤ s.heap.objs.size := Nat.le_trans I.ok.above (Nat.le_of_lt I.lt)
theorem Inv.nofs (I : Inv X pins σ H s) {a : Addr} (h : s.heap.objs.size ≤ a) : a ∉ X.fs := fun hb => by
  obtain ⟨_, o, ho, _⟩ := I.ok.funs.mem hb
  exact absurd (Nat.lt_of_lt_of_le (Heap.lt_size ho) (Nat.le_trans I.sz h)) (Nat.lt_irrefl _)
theorem Inv.cne (I : Inv X pins σ H s) : ∀ x c, X.env.cells.lookup x = some c → c ≠ X.env.locals := fun x c e z => by
  obtain ⟨v, o, ho, hd⟩ := I.cell x c e
  obtain ⟨m, ⟨o', es, ep, ho', hd', _⟩, _⟩ := I.loc
  rw [z, ho'] at ho; cases ho; rw [hd'] at hd; cases hd
theorem Inv.funs (I : Inv X pins σ H s) : s.heap.FunFrames X.base X.outer := by
  have all : ∀ (l : List Env), (∀ b ∈ frs l, b ∈ X.fs) → X.s₀.heap.FunFrames X.base l → s.heap.FunFrames X.base l := by
    intro l
    induction l with
    | nil => intro _ _; trivial
    | cons env r ih =>
      intro hs hl
      obtain ⟨hk, ⟨L, o, hf, hn, ho, hd⟩, hr⟩ := hl
      have hL : L ∈ X.fs := hs L (by unfold frs; rw [List.filterMap_cons, hf]; exact List.mem_cons_self)
      obtain ⟨sl, e⟩ := I.base.slot L o ho (I.ok.frf L hL) hL fun z => I.ok.exfs L z hL
      exact ⟨hk, ⟨L, _, hf, hn, e, hd⟩, ih (fun b hb => hs b (by unfold frs; rw [List.filterMap_cons, hf]; exact List.mem_cons_of_mem _ hb)) hr⟩
  exact all X.outer (fun _ hb => hb) I.ok.funs

/-- the frames that run, for a call -/
theorem Inv.stack (I : Inv X pins σ H s) : s.heap.FunFrames X.base X.stack := by
  rcases I.ok.stk with e | ⟨e, hf⟩
  · rw [e]; exact I.funs
  · rw [e]
    obtain ⟨m, hn, _⟩ := I.loc
    refine .cons (by rw [I.ok.kind]; decide) hf hn ?_ I.funs
    exact Heap.get?_none_of_le (Nat.le_trans I.ok.bsz I.ok.above)
theorem Inv.stkSub (I : Inv X pins σ H s) : ∀ b ∈ frs X.stack, b ∈ X.env.locals :: X.fs := fun b hb => by
  rcases I.ok.stk with e | ⟨e, hf⟩
  · rw [e] at hb; exact List.mem_cons_of_mem _ hb
  · rw [e] at hb
    unfold frs at hb
    rw [List.filterMap_cons, hf] at hb
    exact hb
theorem Inv.stkFree (I : Inv X pins σ H s) : ∀ b ∈ frs X.stack, H b = none := fun b hb => by
  rcases List.mem_cons.mp (I.stkSub b hb) with e | hb
  · rw [e]; exact I.free
  · obtain ⟨_, o, ho, _⟩ := I.ok.funs.mem hb
    exact I.base.free b o ho (I.ok.frf b hb) fun z => I.ok.exfs b z hb

/-- THE STEP: the untracked objects but the frame and the records at ch are kept (the callers' frames up to slots), the frame's map is kept, the new abstract heap is held -/
theorem Inv.step {g' : Array GenState} {t' : Nat} {d' : Drawn} {ch : List Addr} (I : Inv X pins σ H s)
    (hch : ∀ b ∈ ch, (b ∈ X.ex ∨ X.s₀.heap.objs.size ≤ b) ∧ b ≠ X.env.locals ∧ (∀ x c, X.env.cells.lookup x = some c → c ≠ b) ∧ ∀ p ∈ X.pn ++ pins, p.1 ≠ b)
    (keep : ∀ b o, b ≠ X.env.locals → b ∉ X.fs → b ∉ ch → s.heap.get? b = some o → H b = none → h'.get? b = some o)
    (slot : ∀ b o, b ≠ X.env.locals → b ∈ X.fs → b ∉ ch → s.heap.get? b = some o → H b = none → ∃ sl, h'.get? b = some { o with slots := sl }) (free : ∀ b o, b ∉ ch → s.heap.get? b = some o → H b = none → H' b = none)
    (there : ∀ b o, b ∉ ch → s.heap.get? b = some o → ∃ o', h'.get? b = some o')
    (tups : ∀ b xs, H b = some (.tup xs) → H' b = some (.tup xs)) (frzs : ∀ b o u, H b = some (.frz o u) → H' b = some (.frz o u)) (tbls : ∀ b ps, H b = some (.tbl ps) → ∃ more, H' b = some (.tbl (ps ++ more)))
    (ns : ∀ m, s.heap.Ns X.env.locals m → h'.Ns X.env.locals m) (hok : HOk X.prog X.w H' h') (hg : AllBare g') :
    Inv X pins σ H' { s with heap := h', gens := g', drawn := d', toks := t' } := by
  have neL : ∀ b o, X.s₀.heap.get? b = some o → b ≠ X.env.locals := fun b o e => Nat.ne_of_lt (Nat.lt_of_lt_of_le (Heap.lt_size e) I.ok.above)
  have neC : ∀ b o, X.s₀.heap.get? b = some o → b ∉ X.ex → b ∉ ch := fun b o e hx hb => by
    rcases (hch b hb).1 with z | z
    · exact hx z
    · exact absurd (Nat.lt_of_lt_of_le (Heap.lt_size e) z) (Nat.lt_irrefl _)
  have cellK : ∀ x c, X.env.cells.lookup x = some c → ∀ v, s.heap.IsCell c v → h'.IsCell c v := fun x c e v ⟨o, ho, hd⟩ => by
    have nch : c ∉ ch := fun z => (hch c z).2.2.1 x c e rfl
    by_cases hc : c ∈ X.fs
    · obtain ⟨sl, q⟩ := slot c o (I.cne x c e) hc nch ho (I.freeC x c e)
      exact ⟨_, q, hd⟩
    · exact ⟨o, keep c o (I.cne x c e) hc nch ho (I.freeC x c e), hd⟩
  refine ⟨I.ok, I.os, hg, ⟨fun b o e n hb hx => ?_, fun b o e n hb hx => ?_, fun b o e n hx => ?_, fun b o e hx => ?_, fun b xs e => tups b xs (I.base.tups b xs e), fun b o xs e => frzs b o xs (I.base.frzs b o xs e), fun b ps e => ?_⟩, ?_, fun x c e => ?_, ?_, fun x c e => ?_, fun p hp => ?_, hok, I.len⟩
  · exact keep b o (neL b o e) hb (neC b o e hx) (I.base.keep b o e n hb hx) (I.base.free b o e n hx)
  · obtain ⟨sl, e1⟩ := I.base.slot b o e n hb hx
    obtain ⟨sl', e2⟩ := slot b _ (neL b o e) hb (neC b o e hx) e1 (I.base.free b o e n hx)
    exact ⟨sl', e2⟩
  · obtain ⟨o', e1⟩ := I.base.there b o e hx
    exact free b o' (neC b o e hx) e1 (I.base.free b o e n hx)
  · obtain ⟨o', e1⟩ := I.base.there b o e hx
    exact there b o' (neC b o e hx) e1
  · obtain ⟨m1, e1⟩ := I.base.tbls b ps e
    obtain ⟨m2, e2⟩ := tbls b _ e1
    exact ⟨m1 ++ m2, by rw [e2, Array.append_assoc]⟩
  · obtain ⟨m, hn, hl⟩ := I.loc
    refine ⟨m, ns m hn, fun i x v e1 e2 e3 => ?_⟩
    obtain ⟨u, r, l⟩ := hl i x v e1 e2 e3
    refine ⟨u, r, ?_⟩
    rcases l with l | ⟨k, c, e, z⟩
    · exact .inl l
    · exact .inr ⟨k, c, e, cellK x c e _ z⟩
  · obtain ⟨v, z⟩ := I.cell x c e
    exact ⟨v, cellK x c e v z⟩
  · obtain ⟨m, ⟨o, _, _, ho, _⟩, _⟩ := I.loc
    exact free _ o (fun z => (hch _ z).2.1 rfl) ho I.free
  · obtain ⟨v, o, ho, hd⟩ := I.cell x c e
    exact free c o (fun z => (hch c z).2.2.1 x c e rfl) ho (I.freeC x c e)
  · obtain ⟨e, n, ne, nf, d⟩ := I.pin p hp
    have nch : p.1 ∉ ch := fun z => (hch p.1 z).2.2.2 p hp rfl
    exact ⟨keep p.1 p.2 ne nf nch e n, free p.1 p.2 nch e n, ne, nf, d⟩
/-- .. where the frame's own object is kept too -/
theorem Inv.un {t' : Nat} (I : Inv X pins σ H s) (u : Un X.fs [] H H' s.heap h') (hok : HOk X.prog X.w H' h') : Inv X pins σ H' { s with heap := h', toks := t' } := by
  obtain ⟨m, ⟨o, es, ep, ho, r⟩, _⟩ := id I.loc
  obtain ⟨sl, hL⟩ := u.any ho I.free (by simp)
  exact I.step (g' := s.gens) (d' := s.drawn) (ch := []) (fun _ z => nomatch z) (fun b o _ hb _ e n => u.keep b o e n hb (by simp)) (fun b o _ hb _ e n => u.slot b o e n hb (by simp)) (fun b o _ e n => u.free b o e n (by simp)) (fun b o _ e => u.there b o e (by simp)) u.tups u.frzs u.tbls (fun m' hm => by
    obtain ⟨o', es', ep', ho', r'⟩ := hm
    rw [ho] at ho'; cases ho'
    exact ⟨_, es', ep', hL, r'⟩) hok I.bare
/-- behind a call (or a comprehension's block): the slots of this frame may have changed too, the records at ch may have turned -/
theorem Inv.call {g' : Array GenState} {t' : Nat} {d' : Drawn} {ch : List Addr} (I : Inv X pins σ H s) (u : Un (frs X.stack) ch H H' s.heap h') (hok : HOk X.prog X.w H' h') (hg : AllBare g')
    (hch : ∀ b ∈ ch, (b ∈ X.ex ∨ X.s₀.heap.objs.size ≤ b) ∧ b ≠ X.env.locals ∧ (∀ x c, X.env.cells.lookup x = some c → c ≠ b) ∧ ∀ p ∈ X.pn ++ pins, p.1 ≠ b) :
    Inv X pins σ H' { s with heap := h', gens := g', drawn := d', toks := t' } := by
  obtain ⟨m, ⟨o, es, ep, ho, r⟩, _⟩ := id I.loc
  obtain ⟨sl, hL⟩ := u.any ho I.free fun z => (hch _ z).2.1 rfl
  exact I.step (ch := ch) hch (fun b o hL hb hc e n => u.keep b o e n (fun z => (List.mem_cons.mp (I.stkSub b z)).elim hL hb) hc) (fun b o _ _ hc e n => u.any e n hc) (fun b o hc e n => u.free b o e n hc) (fun b o hc e => u.there b o e hc) u.tups u.frzs u.tbls (fun m' hm => by
    obtain ⟨o', es', ep', ho', r'⟩ := hm
    rw [ho] at ho'; cases ho'
    exact ⟨_, es', ep', hL, r'⟩) hok hg
/-- an untracked record of ours (an iterator) has turned -/
theorem Inv.turned {t' : Nat} {it : Addr} (I : Inv X pins σ H s) (k : ∀ b o, b ≠ it → s.heap.get? b = some o → h'.get? b = some o) (hn : H it = none) (hL : it ≠ X.env.locals)
    (h1 : it ∈ X.ex ∨ X.s₀.heap.objs.size ≤ it) (h2 : ∀ x c, X.env.cells.lookup x = some c → c ≠ it) (h3 : ∀ p ∈ X.pn ++ pins, p.1 ≠ it) : Inv X pins σ H { s with heap := h', toks := t' } := by
  have nit : ∀ b u, H b = some u → b ≠ it := fun b u e z => by rw [z, hn] at e; cases e
  refine I.step (g' := s.gens) (d' := s.drawn) (ch := [it]) (fun b hb => ?_) (fun b o _ _ hc e _ => k b o (fun z => hc (by simp [z])) e) (fun b o _ _ hc e _ => ⟨o.slots, k b o (fun z => hc (by simp [z])) e⟩) (fun _ _ _ _ n => n)
    (fun b o hc e => ⟨o, k b o (fun z => hc (by simp [z])) e⟩) (fun _ _ e => e) (fun _ _ _ e => e) (fun b ps e => ⟨#[], by rw [e]; simp⟩) (fun m hm => ?_) (fun b u e => ?_) I.bare
  · have e : b = it := by simpa using hb
    subst e
    exact ⟨h1, hL, h2, h3⟩
  · obtain ⟨o, es, ep, ho, r⟩ := hm
    exact ⟨o, es, ep, k _ o (Ne.symm hL) ho, r⟩
  · refine (I.hok b u e).stay (fun c v hc q => k c v ?_ q) (fun _ q => q) fun _ _ q => q
    rcases hc with z | z
    · rw [z]; exact nit b u e
    · exact nit c _ z
theorem Inv.tok (I : Inv X pins σ H s) (t : Nat) : Inv X pins σ H { s with toks := t } := I.un (h' := s.heap) (t' := t) Un.refl I.hok
/-- all objects kept -/
theorem Inv.kept {t' : Nat} (I : Inv X pins σ H s) (k : ∀ b u, s.heap.get? b = some u → h'.get? b = some u) : Inv X pins σ H { s with heap := h', toks := t' } := I.un (Un.kept k) (I.hok.kept k)
/-- a new object laid and tracked -/
theorem Inv.laid {a : Addr} {o : HO} {t' : Nat} (I : Inv X pins σ H s) (k : ∀ b u, s.heap.get? b = some u → h'.get? b = some u) (hp : s.heap.objs.size ≤ a) (new : ObjOk X.prog X.w (upd H a o) h' a o) :
    Inv X pins σ (upd H a o) { s with heap := h', toks := t' } := I.un (Un.laid k hp (I.hok.fresh hp)) (I.hok.laid k hp new)
/-- an object written -/
theorem Inv.write {x e : Addr} {o : HO} {t' : Nat} (I : Inv X pins σ H s) (mu : Mut (H x)) (he : e = x ∨ H e = some (.own x)) (k : ∀ b u, b ≠ e → s.heap.get? b = some u → h'.get? b = some u) (heo : ∃ u, h'.get? e = some u)
    (new : ObjOk X.prog X.w (upd H x o) h' x o) : Inv X pins σ (upd H x o) { s with heap := h', toks := t' } := I.un (Un.write mu he k heo) (I.hok.write mu he k heo new)
/-- forgetting slots, pins -/
theorem Inv.weak {σ' : List (Option V)} (I : Inv X pins σ H s) (hl : σ'.length = σ.length) (w : ∀ (i : Nat) v, σ'[i]? = some (some v) → σ[i]? = some (some v)) : Inv X pins σ' H s :=
  ⟨I.ok, I.os, I.bare, I.base, let ⟨m, hn, hl'⟩ := I.loc; ⟨m, hn, fun i x v e1 e2 e3 => hl' i x v e1 (w i v e2) e3⟩, I.cell, I.free, I.freeC, I.pin, I.hok, hl.trans I.len⟩
theorem Inv.pins_of {pins' : List (Addr × Obj)} (I : Inv X pins σ H s) (h : ∀ p ∈ pins', s.heap.get? p.1 = some p.2 ∧ H p.1 = none ∧ p.1 ≠ X.env.locals ∧ p.1 ∉ X.fs ∧ ∀ v, p.2.data ≠ .cell v) : Inv X pins' σ H s :=
  ⟨I.ok, I.os, I.bare, I.base, I.loc, I.cell, I.free, I.freeC, fun p hp => (List.mem_append.mp hp).elim (fun z => I.pin p (List.mem_append_left _ z)) (h p), I.hok, I.len⟩

theorem nodup_ix {N : List Str} (hN : N.Nodup) {i j : Nat} {x : Str} (a : N[i]? = some x) (b : N[j]? = some x) : i = j := by
  obtain ⟨h1, e1⟩ := List.getElem?_eq_some_iff.mp a
  obtain ⟨h2, e2⟩ := List.getElem?_eq_some_iff.mp b
  exact (List.getElem_inj hN).mp (e1.trans e2.symm)

/-- a name is stored; what changed -/
theorem store_ok2 {M : Model} {A : Around} {E : Value → Shared → Prop} {i : Nat} {x : Str} {v : V} {u : Value} {Q : Unit → Shared → Prop} (I : Inv X pins σ H s) (hN : X.N.Nodup) (hi : X.N[i]? = some x) (hx : Loc X.env.scope x) (r : RelV v u)
    (h : ∀ s', Inv X pins (σ.set i (some v)) H s' → (∃ a, Heap.SameBut a s.heap s'.heap ∧ (a = X.env.locals ∨ X.env.cells.lookup x = some a)) → Q () s') (hf : X.fn x = true ∨ X.env.scope.names.lookup x = some .local := by first | exact .inl rfl | exact .inr rfl | assumption) : wpAny M A (storeName X.env x u) Q E s := by
  obtain ⟨m, hn, hl⟩ := id I.loc
  have hcls : (X.env.scope.kind == .class || (X.env.scope.kind == .module && X.env.locals != X.env.globals)) = false := by rw [I.ok.kind]; rfl
  have hiσ : i < σ.length := by rw [I.len]; exact (List.getElem?_eq_some_iff.mp hi).1
  have cne := I.cne
  have tracked : ∀ {a : Addr} {h' : Heap}, (∃ o, s.heap.get? a = some o ∧ H a = none) → Heap.SameBut a s.heap h' → HOk X.prog X.w H h' := fun {a h'} ha hs b ob e => by
    obtain ⟨_, _, hfree⟩ := ha
    refine (I.hok b ob e).stay (fun c w' hc q => (hs.2 c ?_).trans q) (fun _ q => q) fun _ _ q => q
    rintro rfl
    rcases hc with rfl | hc
    · rw [hfree] at e; cases e
    · rw [hfree] at hc; cases hc
  rcases hx with hk | hk
  · refine wpAny_storeName_local hk hn (fun h' hn' hs => ?_) hcls
    obtain ⟨oL, _, _, hoL, _⟩ := id hn
    refine h _ ⟨I.ok, I.os, I.bare, ⟨fun b o e n hb hx => ?_, fun b o e n hb hx => ?_, I.base.free, fun b o e hx => ?_, I.base.tups, I.base.frzs, I.base.tbls⟩, ⟨_, hn', fun j y v' e1 e2 e3 => ?_⟩, fun y c e => ?_, I.free, I.freeC, fun p hp => ?_, tracked ⟨oL, hoL, I.free⟩ hs, by simpa using I.len⟩ ⟨_, hs, .inl rfl⟩
    · exact (hs.2 b (Nat.ne_of_lt (Nat.lt_of_lt_of_le (Heap.lt_size e) I.ok.above))).trans (I.base.keep b o e n hb hx)
    · obtain ⟨sl, e1⟩ := I.base.slot b o e n hb hx
      exact ⟨sl, (hs.2 b (Nat.ne_of_lt (Nat.lt_of_lt_of_le (Heap.lt_size e) I.ok.above))).trans e1⟩
    · obtain ⟨o', e1⟩ := I.base.there b o e hx
      exact ⟨o', (hs.2 b (Nat.ne_of_lt (Nat.lt_of_lt_of_le (Heap.lt_size e) I.ok.above))).trans e1⟩
    · by_cases hj : j = i
      · subst hj
        rw [hi] at e1; cases e1
        rw [List.getElem?_set_self hiσ] at e2
        cases e2
        exact ⟨u, r, .inl ⟨hk, by simp⟩⟩
      · rw [List.getElem?_set_ne (Ne.symm hj)] at e2
        obtain ⟨u', r', q⟩ := hl j y v' e1 e2 e3
        refine ⟨u', r', ?_⟩
        rcases q with ⟨k, e⟩ | ⟨k, c, e, z⟩
        · refine .inl ⟨k, ?_⟩
          have : y ≠ x := fun e => hj (nodup_ix hN e1 (e ▸ hi))
          simp [this, e]
        · exact .inr ⟨k, c, e, z.sameBut hs (cne y c e)⟩
    · obtain ⟨w', z⟩ := I.cell y c e
      exact ⟨w', z.sameBut hs (cne y c e)⟩
    · obtain ⟨e, n, ne, nf, d⟩ := I.pin p hp
      exact ⟨(hs.2 p.1 ne).trans e, n, ne, nf, d⟩
  · have hfn : X.fn x = true := by
      rcases hf with z | z
      · exact z
      · rw [z] at hk; cases hk
    obtain ⟨c, hc⟩ := I.ok.has x (.inl hk)
    obtain ⟨w', z⟩ := I.cell x c hc
    refine wpAny_storeName_cell I.ok.kind hk hc z (fun h' hc' hs => ?_)
    obtain ⟨oc, hoc, hocd⟩ := id z
    refine h { s with heap := h' } ⟨I.ok, I.os, I.bare, ⟨fun b o e n hb hx => ?_, fun b o e n hb hx => ?_, I.base.free, fun b o e hx => ?_, I.base.tups, I.base.frzs, I.base.tbls⟩, ⟨m, hn.sameBut hs (Ne.symm (cne x c hc)), fun j y v' e1 e2 e3 => ?_⟩, fun y c' e => ?_, I.free, I.freeC, fun p hp => ?_, tracked ⟨oc, hoc, I.freeC x c hc⟩ hs, by simpa using I.len⟩ ⟨c, hs, .inr hc⟩
    · exact (hs.2 b (Nat.ne_of_lt (Nat.lt_of_lt_of_le (Heap.lt_size e) (I.ok.cab x c hfn hc)))).trans (I.base.keep b o e n hb hx)
    · obtain ⟨sl, e1⟩ := I.base.slot b o e n hb hx
      exact ⟨sl, (hs.2 b (Nat.ne_of_lt (Nat.lt_of_lt_of_le (Heap.lt_size e) (I.ok.cab x c hfn hc)))).trans e1⟩
    · obtain ⟨o', e1⟩ := I.base.there b o e hx
      exact ⟨o', (hs.2 b (Nat.ne_of_lt (Nat.lt_of_lt_of_le (Heap.lt_size e) (I.ok.cab x c hfn hc)))).trans e1⟩
    · by_cases hj : j = i
      · subst hj
        rw [hi] at e1; cases e1
        rw [List.getElem?_set_self hiσ] at e2
        cases e2
        exact ⟨u, r, .inr ⟨.inl hk, c, hc, hc'⟩⟩
      · rw [List.getElem?_set_ne (Ne.symm hj)] at e2
        obtain ⟨u', r', q⟩ := hl j y v' e1 e2 e3
        refine ⟨u', r', ?_⟩
        rcases q with q | ⟨k, c', e, z'⟩
        · exact .inl q
        · refine .inr ⟨k, c', e, z'.sameBut hs ?_⟩
          rintro rfl
          exact hj (nodup_ix hN e1 (I.ok.inj _ _ _ e hc ▸ hi))
    · by_cases hcc : c' = c
      · subst hcc; exact ⟨_, hc'⟩
      · obtain ⟨w2, z2⟩ := I.cell y c' e
        exact ⟨w2, z2.sameBut hs hcc⟩
    · obtain ⟨e, n, ne, nf, d⟩ := I.pin p hp
      refine ⟨(hs.2 p.1 ?_).trans e, n, ne, nf, d⟩
      intro q
      rw [q, hoc] at e
      have q' : oc = p.2 := Option.some.inj e
      exact d w' (by rw [← q']; exact hocd)
theorem store_ok {M : Model} {A : Around} {E : Value → Shared → Prop} {i : Nat} {x : Str} {v : V} {u : Value} {Q : Unit → Shared → Prop} (I : Inv X pins σ H s) (hN : X.N.Nodup) (hi : X.N[i]? = some x) (hx : Loc X.env.scope x) (r : RelV v u)
    (h : ∀ s', Inv X pins (σ.set i (some v)) H s' → Q () s') (hf : X.fn x = true ∨ X.env.scope.names.lookup x = some .local := by first | exact .inl rfl | exact .inr rfl | assumption) : wpAny M A (storeName X.env x u) Q E s :=
  store_ok2 I hN hi hx r (fun s' I' _ => h s' I') hf
/-- behind a call or a block, the state as it is -/
theorem Inv.call' {s' : Shared} {ch : List Addr} (I : Inv X pins σ H s) (ho : s'.os = s.os) (u : Un (frs X.stack) ch H H' s.heap s'.heap) (hok : HOk X.prog X.w H' s'.heap) (hg : AllBare s'.gens)
    (hch : ∀ b ∈ ch, (b ∈ X.ex ∨ X.s₀.heap.objs.size ≤ b) ∧ b ≠ X.env.locals ∧ (∀ x c, X.env.cells.lookup x = some c → c ≠ b) ∧ ∀ p ∈ X.pn ++ pins, p.1 ≠ b) : Inv X pins σ H' s' := by
  obtain ⟨h', g', d', t', o'⟩ := s'
  have e : o' = s.os := ho
  subst e
  exact I.call (g' := g') (t' := t') (d' := d') u hok hg hch
end

/-! ### the judgements -/
/-- an exception: its class, its own dict's address (where it has one), the abstract heap behind it -/
abbrev XK := Value → Option Addr → Hp → Prop
abbrev St := List (Option V)
abbrev VK := V → Hp → Prop
/-- an expression's reading; a test's; an argument list's -/
abbrev TE := St → Hp → VK → Prop
abbrev TT := St → Hp → (Bool → Hp → Prop) → Prop
abbrev TA := St → Hp → (List V → Hp → Prop) → Prop
/-- what is wanted behind a statement -/
structure Ends where
  nx : St → Hp → Prop
  rt : VK
  bk : St → Hp → Prop := fun _ _ => False
  ct : St → Hp → Prop := fun _ _ => False
abbrev TS := Ends → St → Hp → Prop

def EP (X : Cx) (pins : List (Addr × Obj)) (σ : St) (Q : VK) (u : Value) (s' : Shared) : Prop := ∃ v H', Inv X pins σ H' s' ∧ RelV v u ∧ Q v H'
def TP (X : Cx) (pins : List (Addr × Obj)) (σ : St) (Q : Bool → Hp → Prop) (b : Bool) (s' : Shared) : Prop := ∃ H', Inv X pins σ H' s' ∧ Q b H'
def AP (X : Cx) (pins : List (Addr × Obj)) (σ : St) (Q : List V → Hp → Prop) (us : List Value) (s' : Shared) : Prop := ∃ vs H', Inv X pins σ H' s' ∧ Vals vs us ∧ Q vs H'
def SP (X : Cx) (pins : List (Addr × Obj)) (D : Ends) (f : Flow) (s' : Shared) : Prop :=
  match f with
  | .next => ∃ σ' H', Inv X pins σ' H' s' ∧ D.nx σ' H'
  | .brk => ∃ σ' H', Inv X pins σ' H' s' ∧ D.bk σ' H'
  | .cont => ∃ σ' H', Inv X pins σ' H' s' ∧ D.ct σ' H'
  | .ret u => ∃ v σ' H', Inv X pins σ' H' s' ∧ RelV v u ∧ D.rt v H'

def PE (X : Cx) (e : Expr) (t : TE) : Prop :=
  ∀ (pins : List (Addr × Obj)) (s : Shared) (σ : St) (H : Hp) (Q : VK), Inv X pins σ H s → t σ H Q → wpAny (model X.prog X.w) X.A (eval e X.env) (EP X pins σ Q) X.xe s
def PT (X : Cx) (e : Expr) (t : TT) : Prop :=
  ∀ (pins : List (Addr × Obj)) (s : Shared) (σ : St) (H : Hp) (Q : Bool → Hp → Prop), Inv X pins σ H s → t σ H Q → wpAny (model X.prog X.w) X.A (isTrue e X.env (eval e X.env)) (TP X pins σ Q) X.xe s
/-- a test whatever its 'whole' is (and, or) -/
def PW (X : Cx) (e : Expr) (t : TT) : Prop :=
  ∀ (whole : Sem Value) (pins : List (Addr × Obj)) (s : Shared) (σ : St) (H : Hp) (Q : Bool → Hp → Prop), Inv X pins σ H s → t σ H Q → wpAny (model X.prog X.w) X.A (isTrue e X.env whole) (TP X pins σ Q) X.xe s
theorem PW.pt {X : Cx} {e : Expr} {t : TT} (h : PW X e t) : PT X e t := h _
/-- an argument list (no star), from the left -/
def PA (X : Cx) (es : List Expr) (t : TA) : Prop :=
  ∀ (pos : Pos) (pins : List (Addr × Obj)) (s : Shared) (σ : St) (H : Hp) (Q : List V → Hp → Prop), Inv X pins σ H s → t σ H Q → wpAny (model X.prog X.w) X.A (spliced (backTo pos (starEach es X.env))) (AP X pins σ Q) X.xe s
def PS (X : Cx) (st : Stmt) (t : TS) : Prop :=
  ∀ (pins : List (Addr × Obj)) (s : Shared) (σ : St) (H : Hp) (D : Ends), Inv X pins σ H s → t D σ H → wpAny (model X.prog X.w) X.A (exec st X.env) (SP X pins D) X.xe s
def PSs (X : Cx) (st : List Stmt) (t : TS) : Prop :=
  ∀ (pins : List (Addr × Obj)) (s : Shared) (σ : St) (H : Hp) (D : Ends), Inv X pins σ H s → t D σ H → wpAny (model X.prog X.w) X.A (execs st X.env) (SP X pins D) X.xe s
/-- weaken the end -/
theorem thn {α : Type} {t : Sem α} {Q Q' : α → Shared → Prop} {M : Model} {A : Around} {E : Value → Shared → Prop} {s : Shared} (h : wpAny M A t Q E s) (hQ : ∀ a s, Q a s → Q' a s) : wpAny M A t Q' E s := wpAny_mono h hQ fun _ _ x => x
end L2

namespace L2
open PySem PySem.Spec PyProof.Rows
section
variable {X : Cx}

/-! ### names and constants -/
def tVar (i : Nat) : TE := fun σ H Q => ∃ v, σ[i]? = some (some v) ∧ Q v H
def tC (v : V) : TE := fun _ H Q => Q v H
theorem pe_var {i : Nat} {x : Str} {pos : Pos} (hN : X.N[i]? = some x) (hv : Vis X.env.scope x) (hd : (x == ("__debug__" : Str)) = false := by decide) (hcd : (x == ("__classdict__" : Str)) = false := by decide) : PE X (.Name x pos) (tVar i) := by
  intro pins s σ H Q I h
  obtain ⟨v, e, h⟩ := h
  obtain ⟨m, hn, hl⟩ := I.loc
  obtain ⟨u, r, l⟩ := hl i x v hN e hv
  have fin : EP X pins σ Q u s := ⟨v, H, I, r, h⟩
  rcases l with ⟨hk, hm⟩ | ⟨hk, c, hc, hcell⟩
  · exact wpAny_Name (wpAny_loadName_local I.ok.kind hk hn hm fin) hd
  · rcases hk with hk | hk
    · exact wpAny_Name (wpAny_loadName_cell I.ok.kind hk hc hcell fin) hd
    · exact wpAny_Name (wpAny_loadName_free I.ok.kind hk hc hcell fin hcd) hd
theorem pe_int {i j pos} : PE X (.Constant (.int i) j pos) (tC (.int i)) := fun _ _ _ H _ I h => wpAny_Constant_int ⟨.int i, H, I.tok _, ⟨_, rfl⟩, h⟩
theorem pe_bl {b j pos} : PE X (.Constant (.bool b) j pos) (tC (.bl b)) := fun _ _ _ H _ I h => Constant_bool ⟨.bl b, H, I, rfl, h⟩
theorem pe_non {j pos} : PE X (.Constant .none j pos) (tC .non) := fun _ _ _ H _ I h => Constant_none ⟨.non, H, I, rfl, h⟩
theorem pe_str {x j pos} : PE X (.Constant (.str x) j pos) (tC (.str x)) := fun _ _ _ H _ I h => Calls.Constant_str ⟨.str x, H, I.tok _, ⟨_, rfl⟩, h⟩

/-- a global name of the def -/
def Gl (X : Cx) (x : Str) : Prop := X.env.kindOf x = some .globalImplicit
theorem ld_glob {E : Value → Shared → Prop} {pins : List (Addr × Obj)} {s : Shared} {σ : St} {H : Hp} {x : Str} {u : Value} {pos : Pos} {Q : Value → Shared → Prop} (I : Inv X pins σ H s) (hg : Gl X x) (hm : X.mg x = some u) (h : Q u s)
    (hd : (x == ("__debug__" : Str)) = false := by decide) : wpAny (model X.prog X.w) X.A (eval (.Name x pos) X.env) Q E s :=
  Calls.Name_function_global I.ok.kind hg (Calls.loadGlobal_global (by rw [I.ok.glob]; exact I.mod.glob.keeps I.bk) hm h) hd
theorem ld_blt {E : Value → Shared → Prop} {pins : List (Addr × Obj)} {s : Shared} {σ : St} {H : Hp} {x : Str} {u : Value} {pos : Pos} {Q : Value → Shared → Prop} (I : Inv X pins σ H s) (hg : Gl X x) (hm : X.mg x = none) (hv : bootBuiltins x = some u) (h : Q u s)
    (hn : x ≠ "__name__" := by decide) (hd : (x == ("__debug__" : Str)) = false := by decide) : wpAny (model X.prog X.w) X.A (eval (.Name x pos) X.env) Q E s := by
  obtain ⟨mb, h1, h2⟩ := I.mod.blt
  exact Calls.Name_function_global I.ok.kind hg (Calls.loadGlobal_builtin (by rw [I.ok.glob]; exact I.mod.glob.keeps I.bk) hm (by rw [I.ok.blt]; exact h1.keeps I.bk) ((h2 x hn).trans hv) h) hd
/-- a module's constant, a class, a function, as a value -/
theorem pe_glob {x : Str} {v : V} {u : Value} {pos : Pos} (hg : Gl X x) (hm : X.mg x = some u) (r : RelV v u) (hd : (x == ("__debug__" : Str)) = false := by decide) : PE X (.Name x pos) (tC v) :=
  fun _ _ _ H _ I h => ld_glob I hg hm ⟨v, H, I, r, h⟩ hd
theorem pe_bltn {x : Str} {v : V} {u : Value} {pos : Pos} (hg : Gl X x) (hm : X.mg x = none) (hv : bootBuiltins x = some u) (r : RelV v u) (hn : x ≠ "__name__" := by decide) (hd : (x == ("__debug__" : Str)) = false := by decide) : PE X (.Name x pos) (tC v) :=
  fun _ _ _ H _ I h => ld_blt I hg hm hv ⟨v, H, I, r, h⟩ hn hd

/-! ### arithmetic -/
/-- two ints -/
def t2I (ta tb : TE) (k : Int → Int → Hp → Prop) : St → Hp → Prop := fun σ H => ta σ H fun x H1 => tb σ H1 fun y H2 => ∃ i j, x = .int i ∧ y = .int j ∧ k i j H2
def tAdd (ta tb : TE) : TE := fun σ H Q => t2I ta tb (fun i j H2 => Q (.int (i + j)) H2) σ H
def tSub (ta tb : TE) : TE := fun σ H Q => t2I ta tb (fun i j H2 => Q (.int (i - j)) H2) σ H
/-- the left factor below 2^64 -/
def tMul (ta tb : TE) : TE := fun σ H Q => t2I ta tb (fun i j H2 => (-(2 ^ 64) < i ∧ i < 2 ^ 64) ∧ Q (.int (i * j)) H2) σ H
variable {a b : Expr} {ta tb : TE} {pos : Pos}
/-! ### comparisons -/
def PC (X : Cx) (op : CmpOp) (a b : Expr) (t : TE) : Prop :=
  ∀ (pins : List (Addr × Obj)) (s : Shared) (σ : St) (H : Hp) (Q : VK), Inv X pins σ H s → t σ H Q →
    wpAny (model X.prog X.w) X.A (eval a X.env) (fun v s₁ => wpAny (model X.prog X.w) X.A (eval b X.env) (fun u s₂ => wpAny (model X.prog X.w) X.A (compareOp op v u) (EP X pins σ Q) X.xe s₂) X.xe s₁) X.xe s
def tCmp (p : Int → Int → Bool) (ta tb : TE) : TE := fun σ H Q => t2I ta tb (fun i j H2 => Q (.bl (p i j)) H2) σ H
abbrev tLt : TE → TE → TE := tCmp fun i j => decide (i < j)
abbrev tLe : TE → TE → TE := tCmp fun i j => decide (i ≤ j)
abbrev tGt : TE → TE → TE := tCmp fun i j => decide (j < i)
abbrev tGe : TE → TE → TE := tCmp fun i j => decide (j ≤ i)
abbrev tEqI : TE → TE → TE := tCmp fun i j => decide (i = j)
abbrev tNeI : TE → TE → TE := tCmp fun i j => !decide (i = j)
/-- is None -/
def tIsN (ta : TE) : TE := fun σ H Q => ta σ H fun x H1 => Q (.bl (decide (x = .non))) H1
def tNotN (ta : TE) : TE := fun σ H Q => ta σ H fun x H1 => Q (.bl (!decide (x = .non))) H1
/-- a comparison as a value, as a test -/
def tB (t : TE) : TT := fun σ H Q => t σ H fun x H1 => ∃ c, x = .bl c ∧ Q c H1
/-- an expression whose value is a bool, as a test -/
theorem pt_val {e : Expr} {t : TE} (h : PE X e t) (he : ∀ whole, isTrue e X.env whole = (do let v ← whole; standAt e.pos; holding [v] (truthy v)) := by intro _; rfl) : PT X e (tB t) := by
  intro pins s σ H Q I hw
  refine isTrue_plain (thn (h pins s σ H _ I hw) fun v s1 ⟨x, H1, I1, r1, q1⟩ => ?_) (he _)
  obtain ⟨d, rfl, q⟩ := q1
  cases r1
  exact wpAny_truthy_bool ⟨H1, I1, q⟩

/-! ### and, or, not -/
variable {tA tB' : TT} {rest : List Expr}
def tAnd (t u : TT) : TT := fun σ H Q => t σ H fun c H1 => if c = true then u σ H1 Q else Q false H1
def tOr (t u : TT) : TT := fun σ H Q => t σ H fun c H1 => if c = true then Q true H1 else u σ H1 Q
def tNot (t : TT) : TT := fun σ H Q => t σ H fun c H1 => Q (!c) H1
theorem pw_or1 (ha : PT X a tA) : PW X (.BoolOp .Or [a] pos) tA := by
  intro wh pins s σ H Q I h
  refine isTrue_or (thn (ha pins s σ H Q I h) fun c s1 e => ?_)
  cases c with
  | false => exact isTrue_or_nil e
  | true => exact e
theorem pw_or (ha : PT X a tA) (hb : PW X (.BoolOp .Or (b :: rest) pos) tB') : PW X (.BoolOp .Or (a :: b :: rest) pos) (tOr tA tB') := by
  intro wh pins s σ H Q I h
  refine isTrue_or (thn (ha pins s σ H _ I h) fun c s1 ⟨H1, I1, q1⟩ => ?_)
  cases c with
  | true => exact ⟨H1, I1, q1⟩
  | false => exact hb wh pins s1 σ H1 Q I1 q1
theorem pt_not (ha : PT X a tA) : PT X (.UnaryOp .Not a pos) (tNot tA) := by
  intro pins s σ H Q I h
  exact isTrue_not (ha pins s σ H (fun c H1 => Q (!c) H1) I h)
/-- .. as values (bools) -/
def tAndV (ta tb : TE) : TE := fun σ H Q => ta σ H fun x H1 => ∃ c, x = .bl c ∧ if c = true then tb σ H1 Q else Q (.bl false) H1
def tOrV (ta tb : TE) : TE := fun σ H Q => ta σ H fun x H1 => ∃ c, x = .bl c ∧ if c = true then Q (.bl true) H1 else tb σ H1 Q
def tNotV (ta : TE) : TE := fun σ H Q => ta σ H fun x H1 => ∃ c, x = .bl c ∧ Q (.bl (!c)) H1
theorem pe_one {op} {t : TE} (h : PE X a t) : PE X (.BoolOp op [a] pos) t := fun pins s σ H Q I hw => BoolOp_one (h pins s σ H Q I hw)
theorem pe_and (ha : PE X a ta) (hb : PE X (.BoolOp .And (b :: rest) pos) tb) : PE X (.BoolOp .And (a :: b :: rest) pos) (tAndV ta tb) := by
  intro pins s σ H Q I h
  refine BoolOp_and (thn (ha pins s σ H _ I h) fun v s1 ⟨x, H1, I1, r1, q1⟩ => ?_)
  obtain ⟨c, rfl, q1⟩ := q1
  cases r1
  refine wpAny_truthy_bool ?_
  cases c with
  | true => exact hb pins s1 σ H1 Q I1 q1
  | false => exact ⟨.bl false, H1, I1, rfl, q1⟩
theorem pe_not (ha : PE X a ta) : PE X (.UnaryOp .Not a pos) (tNotV ta) := by
  intro pins s σ H Q I h
  refine UnaryOp_ (thn (ha pins s σ H _ I h) fun v s1 ⟨x, H1, I1, r1, q1⟩ => ?_)
  obtain ⟨c, rfl, q1⟩ := q1
  cases r1
  exact not_of (wpAny_truthy_bool ⟨.bl (!c), H1, I1, rfl, q1⟩)
/-- a if t else b -/
def tIf (t : TT) (ta tb : TE) : TE := fun σ H Q => t σ H fun c H1 => if c = true then ta σ H1 Q else tb σ H1 Q
end
end L2

namespace L2
open PySem PySem.Spec PyProof.Rows

/-! ### a list, a tuple that is read: tracked, frozen, or an object of the module -/
def SqL (K : PySem.W.Frag) (H : Hp) (a : Addr) (xs : List V) : Prop :=
  Rd H a (.lst xs) ∨
    ∃ (o : Obj) (its : Array Value) (n : Nat), K.lookup a = some o ∧ o.cls = .type "list" ∧ o.dict = none ∧ o.data = .seq its n ∧ its.size ≤ sizeLine ∧ Vals xs its.toList
def SqT (K : PySem.W.Frag) (H : Hp) (a : Addr) (xs : List V) : Prop :=
  Rd H a (.tup xs) ∨
    ∃ (o : Obj) (its : Array Value) (n : Nat), K.lookup a = some o ∧ o.cls = .type "tuple" ∧ o.data = .seq its n ∧ its.size ≤ sizeLine ∧ Vals xs its.toList
def absV : Value → Option V
  | .none => some .non
  | .bool b => some (.bl b)
  | .int i _ => some (.int i)
  | .str x _ => some (.str x)
  | .bytes b _ => some (.byt b)
  | .float b _ => some (.flt b)
  | .ref a => some (.ref a)
  | .type n => some (.ty n)
  | _ => none
theorem RelV.abs {x : V} {u : Value} (r : RelV x u) : absV u = some x := by
  cases x with
  | non => cases r; rfl
  | bl _ => cases r; rfl
  | int _ => obtain ⟨t, rfl⟩ := r; rfl
  | str _ => obtain ⟨t, rfl⟩ := r; rfl
  | byt _ => obtain ⟨t, rfl⟩ := r; rfl
  | flt _ => obtain ⟨t, rfl⟩ := r; rfl
  | ref _ => cases r; rfl
  | ty _ => cases r; rfl
theorem RelV.inj {x y : V} {u : Value} (r : RelV x u) (q : RelV y u) : x = y := Option.some.inj (r.abs.symm.trans q.abs)
theorem Vals.inj : ∀ {xs ys : List V} {us : List Value}, Vals xs us → Vals ys us → xs = ys
  | _, _, _, .nil, .nil => rfl
  | _, _, _, .cons r t, .cons r' t' => by rw [r.inj r', Vals.inj t t']
section
variable {X : Cx} {pins : List (Addr × Obj)} {σ : St} {H : Hp} {s : Shared} {a : Addr} {xs ys : List V}
theorem Inv.list (I : Inv X pins σ H s) (h : SqL X.K H a xs) : ∃ its : List Value, Vals xs its ∧ PlainL s.heap a its.toArray ∧ xs.length ≤ sizeLine := by
  rcases h with h | ⟨o, its, n, hk, hc, hd, hs, hz, r⟩
  · obtain ⟨z, its, n, r, e⟩ := h.ok I.hok
    exact ⟨its, r, ⟨_, n, e, rfl, rfl, rfl⟩, z⟩
  · refine ⟨its.toList, r, ⟨o, n, I.kIn a o hk, hc, hd, by simpa using hs⟩, ?_⟩
    have e := r.length
    simp only [Array.length_toList] at e
    omega
theorem Inv.tuple (I : Inv X pins σ H s) (h : SqT X.K H a xs) : ∃ its : List Value, Vals xs its ∧ IsTup s.heap a its.toArray ∧ xs.length ≤ sizeLine := by
  rcases h with h | ⟨o, its, n, hk, hc, hs, hz, r⟩
  · obtain ⟨z, its, r, p⟩ := h.ok I.hok
    exact ⟨its, r, p, z⟩
  · refine ⟨its.toList, r, ⟨o, I.kIn a o hk, hc, n, by simpa using hs⟩, ?_⟩
    have e := r.length
    simp only [Array.length_toList] at e
    omega
theorem Inv.list_inj (I : Inv X pins σ H s) (h : SqL X.K H a xs) (h' : SqL X.K H a ys) : xs = ys := by
  obtain ⟨its, r, ⟨o, n, e, _, _, d⟩, _⟩ := I.list h
  obtain ⟨its', r', ⟨o', n', e', _, _, d'⟩, _⟩ := I.list h'
  rw [e] at e'; cases e'
  rw [d] at d'
  injection d' with d1 _
  have : its = its' := by simpa using congrArg Array.toList d1
  subst this
  exact r.inj r'
theorem Inv.tuple_inj (I : Inv X pins σ H s) (h : SqT X.K H a xs) (h' : SqT X.K H a ys) : xs = ys := by
  obtain ⟨its, r, ⟨o, e, _, n, d⟩, _⟩ := I.tuple h
  obtain ⟨its', r', ⟨o', e', _, n', d'⟩, _⟩ := I.tuple h'
  rw [e] at e'; cases e'
  rw [d] at d'
  injection d' with d1 _
  have : its = its' := by simpa using congrArg Array.toList d1
  subst this
  exact r.inj r'
end

/-! ### another wish about exceptions -/
abbrev Cx.wish (X : Cx) (E : Value → Shared → Prop) : Cx := { X with xe := E }
/-- no exception leaves -/
abbrev Cx.nox (X : Cx) : Cx := X.wish fun _ _ => False
theorem Cx.Ok.wish {X : Cx} (ok : X.Ok) (E : Value → Shared → Prop) : (X.wish E).Ok :=
  ⟨ok.mod, ok.kind, ok.glob, ok.blt, ok.above, ok.inj, ok.has, ok.cab, ok.hd, ok.frames, ok.stk, ok.exf, ok.bs, ok.bsz, ok.noex, ok.exfs, ok.funs, ok.frf⟩
theorem Cx.Ok.unwish {X : Cx} {E : Value → Shared → Prop} (ok : (X.wish E).Ok) : X.Ok :=
  ⟨ok.mod, ok.kind, ok.glob, ok.blt, ok.above, ok.inj, ok.has, ok.cab, ok.hd, ok.frames, ok.stk, ok.exf, ok.bs, ok.bsz, ok.noex, ok.exfs, ok.funs, ok.frf⟩
section
variable {X : Cx} {pins : List (Addr × Obj)} {σ : St} {H : Hp} {s : Shared} {E : Value → Shared → Prop}
theorem Inv.wish (I : Inv X pins σ H s) (E : Value → Shared → Prop) : Inv (X.wish E) pins σ H s := ⟨I.ok.wish E, I.os, I.bare, I.base, I.loc, I.cell, I.free, I.freeC, I.pin, I.hok, I.len⟩
theorem Inv.unwish (I : Inv (X.wish E) pins σ H s) : Inv X pins σ H s := ⟨I.ok.unwish, I.os, I.bare, I.base, I.loc, I.cell, I.free, I.freeC, I.pin, I.hok, I.len⟩
theorem SP.unwish {D : Ends} {f : Flow} {s' : Shared} (h : SP (X.wish E) pins D f s') : SP X pins D f s' := by
  cases f with
  | next => obtain ⟨σ', H', I, q⟩ := h; exact ⟨σ', H', I.unwish, q⟩
  | brk => obtain ⟨σ', H', I, q⟩ := h; exact ⟨σ', H', I.unwish, q⟩
  | cont => obtain ⟨σ', H', I, q⟩ := h; exact ⟨σ', H', I.unwish, q⟩
  | ret u => obtain ⟨v, σ', H', I, r, q⟩ := h; exact ⟨v, σ', H', I.unwish, r, q⟩
theorem PSs.nox {st : List Stmt} {t : TS} (h : PSs X.nox st t) : PSs X st t := fun pins s σ H D I hw =>
  wpAny_mono (h pins s σ H D (I.wish _) hw) (fun _ _ q => q.unwish) fun _ _ z => False.elim z
end

/-! ### blocks and small statements -/
section
variable {X : Cx} {st : Stmt} {rest : List Stmt} {t u : TS} {e : Expr} {te : TE} {pos : Pos}
def tNext : TS := fun D σ H => D.nx σ H
def tSeq (t u : TS) : TS := fun D σ H => t { D with nx := u D } σ H
theorem pss_nil : PSs X [] tNext := fun _ _ σ H _ I h => wpAny_execs_nil ⟨σ, H, I, h⟩
theorem pss_cons (h1 : PS X st t) (h2 : PSs X rest u) : PSs X (st :: rest) (tSeq t u) := by
  intro pins s σ H D I h
  refine wpAny_execs_cons (thn (h1 pins s σ H { D with nx := u D } I h) fun f s1 q => ?_)
  cases f with
  | next =>
    obtain ⟨σ', H', I', q⟩ := q
    exact h2 pins s1 σ' H' D I' q
  | ret v => exact q
  | brk => exact q
  | cont => exact q
theorem pss_one (h1 : PS X st t) : PSs X [st] t := by
  intro pins s σ H D I h
  refine wpAny_execs_cons (thn (h1 pins s σ H D I h) fun f s1 q => ?_)
  cases f with
  | next => exact wpAny_execs_nil q
  | ret v => exact q
  | brk => exact q
  | cont => exact q
def tBreak : TS := fun D σ H => D.bk σ H
def tCont : TS := fun D σ H => D.ct σ H
/-- in a def's body nothing is shown -/
theorem Inv.quiet {pins : List (Addr × Obj)} {σ : St} {H : Hp} {s : Shared} (I : Inv X pins σ H s) : interactive X.env = false := by simp [interactive, I.ok.kind]
/-- an expression whose value is dropped -/
def tDrop (te : TE) : TS := fun D σ H => te σ H fun _ H1 => D.nx σ H1
theorem ps_expr (he : PE X e te) (hs : swapsWith e none pos.line X.env = pure false := by rfl) : PS X (.Expr e pos) (tDrop te) := by
  intro pins s σ H D I h
  exact wpAny_Expr_any (thn (he pins s σ H _ I h) fun v s1 ⟨x, H1, I1, r1, q1⟩ => ⟨σ, H1, I1, q1⟩) I.quiet hs
def tRet (te : TE) : TS := fun D σ H => te σ H D.rt
theorem ps_ret (he : PE X e te) : PS X (.Return (some e) pos) (tRet te) := by
  intro pins s σ H D I h
  exact wpAny_Return_some (thn (he pins s σ H _ I h) fun v s1 ⟨x, H1, I1, r1, q1⟩ => ⟨x, σ, H1, I1, r1, q1⟩)
def tRetN : TS := fun D _ H => D.rt .non H
def tIfS (c : TT) (t u : TS) : TS := fun D σ H => c σ H fun b H1 => if b = true then t D σ H1 else u D σ H1
theorem ps_if {c : Expr} {a b : List Stmt} {tc : TT} (hc : PT X c tc) (ha : PSs X a t) (hb : PSs X b u) : PS X (.If c a b pos) (tIfS tc t u) := by
  intro pins s σ H D I h
  refine wpAny_If (thn (hc pins s σ H _ I h) fun d s1 ⟨H1, I1, q1⟩ => ?_)
  cases d with
  | true => exact ha pins s1 σ H1 D I1 q1
  | false => exact hb pins s1 σ H1 D I1 q1
/-- code that the proof never comes to -/
def tNever : TS := fun _ _ _ => False
end

/-! ### targets -/
abbrev TG := V → St → Hp → (St → Hp → Prop) → Prop
abbrev TGs := List V → St → Hp → (St → Hp → Prop) → Prop
def PG (X : Cx) (target : Expr) (t : TG) : Prop :=
  ∀ (pins : List (Addr × Obj)) (s : Shared) (σ : St) (H : Hp) (v : V) (u : Value) (Q : St → Hp → Prop), Inv X pins σ H s → RelV v u → t v σ H Q →
    wpAny (model X.prog X.w) X.A (assign target X.env u) (fun _ s' => ∃ σ' H', Inv X pins σ' H' s' ∧ Q σ' H') X.xe s
/-- several targets, one after another -/
def PGs (X : Cx) (ts : List Expr) (t : TGs) : Prop :=
  ∀ (pins : List (Addr × Obj)) (s : Shared) (σ : St) (H : Hp) (vs : List V) (us : List Value) (Q : St → Hp → Prop), Inv X pins σ H s → Vals vs us → t vs σ H Q →
    wpAny (model X.prog X.w) X.A (assignInOrder ((assignEach ts X.env).map (·.2)) us) (fun _ s' => ∃ σ' H', Inv X pins σ' H' s' ∧ Q σ' H') X.xe s
/-- o[i] = v, by values -/
abbrev TSet := V → V → V → Hp → (Hp → Prop) → Prop
def PSet (X : Cx) (t : TSet) : Prop :=
  ∀ (pins : List (Addr × Obj)) (s : Shared) (σ : St) (H : Hp) (o i v : V) (ov iv u : Value) (Q : Hp → Prop), Inv X pins σ H s → RelV o ov → RelV i iv → RelV v u → t o i v H Q →
    wpAny (model X.prog X.w) X.A (setItem ov iv u) (fun _ s' => ∃ H', Inv X pins σ H' s' ∧ Q H') X.xe s
/-- a op= b, by values -/
abbrev TIp := V → V → Hp → VK → Prop
def PIp (X : Cx) (op : Operator) (t : TIp) : Prop :=
  ∀ (pins : List (Addr × Obj)) (s : Shared) (σ : St) (H : Hp) (x y : V) (v u : Value) (Q : VK), Inv X pins σ H s → RelV x v → RelV y u → t x y H Q →
    wpAny (model X.prog X.w) X.A (inplaceOp op v u) (EP X pins σ Q) X.xe s
section
variable {X : Cx} {pos : Pos}
def gName (i : Nat) : TG := fun v σ H Q => Q (σ.set i (some v)) H
theorem pg_name {i : Nat} {x : Str} (hN : X.N.Nodup) (hi : X.N[i]? = some x) (hx : Loc X.env.scope x) (hf : X.fn x = true ∨ X.env.scope.names.lookup x = some .local := by first | exact .inl rfl | exact .inr rfl | assumption) : PG X (.Name x pos) (gName i) := by
  intro pins s σ H v u Q I r h
  exact wpAny_assign_Name (store_ok I hN hi hx r (fun s' I' => ⟨_, H, I', h⟩) hf)
def gNil : TGs := fun vs σ H Q => vs = [] ∧ Q σ H
def gCons (t : TG) (u : TGs) : TGs := fun vs σ H Q => ∃ v r, vs = v :: r ∧ t v σ H fun σ' H' => u r σ' H' Q
/-- (a, b, ..) = a tuple of that length -/
def gTup (K : PySem.W.Frag) (n : Nat) (t : TGs) : TG := fun v σ H Q => ∃ a xs, v = .ref a ∧ SqT K H a xs ∧ xs.length = n ∧ t xs σ H Q
/-- o[i] = .. -/
def gSub (to ti : TE) (t : TSet) : TG := fun v σ H Q => to σ H fun o H1 => ti σ H1 fun i H2 => t o i v H2 fun H3 => Q σ H3
theorem pg_sub {o i : Expr} {to ti : TE} {t : TSet} (ho : PE X o to) (hi : PE X i ti) (hs : PSet X t)
    (ha : ∀ v, assign (.Subscript o i pos) X.env v = (do
      let ov ← holding [v] (eval o X.env)
      let iv ← holding [v, ov] (eval i X.env)
      standAt pos
      holding [v, ov, iv] (setItem ov iv v)
      release [v, ov, iv] []) := by intro _; rfl) : PG X (.Subscript o i pos) (gSub to ti t) := by
  intro pins s σ H v u Q I r h
  rw [ha]
  refine wpAny_bind (wpAny_holding (thn (ho pins s σ H _ I h) fun ov s1 ⟨x, H1, I1, r1, q1⟩ => ?_))
  refine wpAny_bind (wpAny_holding (thn (hi pins s1 σ H1 _ I1 q1) fun iv s2 ⟨y, H2, I2, r2, q2⟩ => ?_))
  refine wpAny_bind (wpAny_standAt (wpAny_bind (wpAny_holding (thn (hs pins s2 σ H2 x y v ov iv u _ I2 r1 r2 r q2) fun _ s3 ⟨H3, I3, q3⟩ => ?_))))
  exact wpAny_release ⟨σ, H3, I3, q3⟩
/-- target = value -/
def tAsg (te : TE) (g : TG) : TS := fun D σ H => te σ H fun x H1 => g x σ H1 D.nx
theorem ps_asg {tg e : Expr} {te : TE} {g : TG} (he : PE X e te) (hg : PG X tg g) (hs : swapsWithSole [tg] e pos.line X.env = pure false := by rfl) (hw : swappedStores [tg] e X.env = pure none := by rfl)
    (h1 : (assignEach [tg] X.env).map (·.2) = [assign tg X.env] := by rfl) : PS X (.Assign [tg] e pos) (tAsg te g) := by
  intro pins s σ H D I h
  refine wpAny_Assign_stores (thn (he pins s σ H _ I h) fun v s1 ⟨x, H1, I1, r1, q1⟩ => ?_) hs hw
  rw [h1]
  exact thn (hg pins s1 σ H1 x v _ I1 r1 q1) fun _ s2 q => q
/-- name = value -/
theorem ps_set {i : Nat} {x : Str} {e : Expr} {te : TE} {pos' : Pos} (hN : X.N.Nodup) (hi : X.N[i]? = some x) (hx : Loc X.env.scope x) (he : PE X e te) (hs : swapsWith e (some (.Name x pos')) pos.line X.env = pure false := by rfl) (hf : X.fn x = true ∨ X.env.scope.names.lookup x = some .local := by first | exact .inl rfl | exact .inr rfl | assumption) :
    PS X (.Assign [.Name x pos'] e pos) (tAsg te (gName i)) := by
  intro pins s σ H D I h
  refine wpAny_Assign_Name (thn (he pins s σ H _ I h) fun v s1 ⟨y, H1, I1, r1, q1⟩ => ?_) hs
  exact store_ok I1 hN hi hx r1 (fun s2 I2 => ⟨_, H1, I2, q1⟩) hf
/-- a, b = x, y with plain local names: stored from the right; the pair itself is not tracked (the opening rows as in PyProof/Rows/TupAssign.lean:23) -/
def tPar (i j : Nat) (ta : TA) : TS := fun D σ H => ta σ H fun vs H1 => ∃ v w, vs = [v, w] ∧ D.nx ((σ.set i (some v)).set j (some w)) H1
/-- name op= e -/
def tAug (i : Nat) (te : TE) (ti : TIp) : TS := fun D σ H => ∃ x, σ[i]? = some (some x) ∧ te σ H fun y H1 => ti x y H1 fun z H2 => D.nx (σ.set i (some z)) H2
/-- o[i] op= e -/
def tAugS (to ti te : TE) (tget : V → V → Hp → VK → Prop) (tip : TIp) (tset : TSet) : TS := fun D σ H => to σ H fun o H1 => ti σ H1 fun i H2 => tget o i H2 fun x H3 => te σ H3 fun y H4 => tip x y H4 fun z H5 => tset o i z H5 fun H6 => D.nx σ H6
/-- o[i], by values -/
def PGet (X : Cx) (t : V → V → Hp → VK → Prop) : Prop :=
  ∀ (pins : List (Addr × Obj)) (s : Shared) (σ : St) (H : Hp) (o i : V) (ov iv : Value) (Q : VK), Inv X pins σ H s → RelV o ov → RelV i iv → t o i H Q →
    wpAny (model X.prog X.w) X.A (getItem ov iv) (EP X pins σ Q) X.xe s
/-- ints -/
def ipI (f : Int → Int → Int) : TIp := fun x y H Q => ∃ i j, x = .int i ∧ y = .int j ∧ Q (.int (f i j)) H
end

/-! ### while -/
section
variable {X : Cx} {pos : Pos}
/-- the invariant W with its measure -/
def tWhile (c : TT) (tb : TS) : TS := fun D σ H => ∃ W : Nat → St → Hp → Prop, (∃ m, W m σ H) ∧ ∀ m σ H, W m σ H →
  c σ H fun b H1 => if b = true then ∃ N : St → Hp → Prop, (∀ σ' H', N σ' H' → ∃ m', m' < m ∧ W m' σ' H') ∧ tb { D with nx := N, ct := N, bk := D.nx } σ H1 else D.nx σ H1
end

/-! ### what a loop or a comprehension walks -/
/-- at turn i: it yields x (the heap may grow), or it stops -/
structure It where
  go : Nat → Hp → Prop
  yld : Nat → Hp → V → Hp → Prop
  stop : Nat → Hp → Prop
/-- the iterator's own objects may turn: they are not the frame's, not pinned, younger than the entry (or a comprehension's own) -/
def FpOk (X : Cx) (pins : List (Addr × Obj)) (H : Hp) (b : Addr) : Prop :=
  H b = none ∧ b ≠ X.env.locals ∧ b ∉ X.fs ∧ (b ∈ X.ex ∨ X.s₀.heap.objs.size ≤ b) ∧ (∀ x c, X.env.cells.lookup x = some c → c ≠ b) ∧ ∀ p ∈ X.pn ++ pins, p.1 ≠ b
theorem Inv.fpOk {X : Cx} {pins : List (Addr × Obj)} {σ : St} {H H' : Hp} {s : Shared} {b : Addr} (I : Inv X pins σ H s) (hb : s.heap.objs.size ≤ b) (hn : H' b = none) : FpOk X pins H' b := by
  refine ⟨hn, Nat.ne_of_gt (Nat.lt_of_lt_of_le I.lt hb), I.nofs hb, .inr (Nat.le_trans I.sz hb), fun x c e z => ?_, fun p hp z => ?_⟩
  · obtain ⟨v, q⟩ := I.cell x c e
    exact absurd (Nat.lt_of_lt_of_le q.lt (by rw [z]; exact hb)) (Nat.lt_irrefl _)
  · exact absurd (Nat.lt_of_lt_of_le (Heap.lt_size (I.pin p hp).1) (by rw [z]; exact hb)) (Nat.lt_irrefl _)
structure Turn (P : Program) (w : World) (K : PySem.W.Frag) (tg : Expr) (J : It) (fp : List Addr) (it : Addr) (tn : Nat → Heap → Prop) : Prop where
  mem : it ∈ fp
  obj : ∀ i h, tn i h → ∀ b ∈ fp, ∃ o, h.get? b = some o ∧ ∀ v, o.data ≠ .cell v
  keep : ∀ i h h', tn i h → (∀ b ∈ fp, ∀ o, h.get? b = some o → h'.get? b = some o) → tn i h'
  item : ∀ (X : Cx), X.prog = P → X.w = w → X.K = K → X.calm = true → ∀ (i : Nat) (pins : List (Addr × Obj)) (s : Shared) (σ : St) (H : Hp) (E : Value → Shared → Prop), Inv X pins σ H s → (∀ b ∈ fp, FpOk X pins H b) → tn i s.heap → J.go i H →
    wpAny (model P w) X.A (pyNext (.ref it)) (fun r s1 => ∃ u, r = some u ∧
      wpAny (model P w) X.A (letOwnedTupleGo tg (.ref it) u) (fun _ s2 => ∃ x H', Inv X pins σ H' s2 ∧ RelV x u ∧ J.yld i H x H' ∧ tn (i + 1) s2.heap ∧ ∀ b ∈ fp, H' b = none) E s1) E s
  done : ∀ (X : Cx), X.prog = P → X.w = w → X.K = K → X.calm = true → ∀ (i : Nat) (pins : List (Addr × Obj)) (s : Shared) (σ : St) (H : Hp) (E : Value → Shared → Prop), Inv X pins σ H s → (∀ b ∈ fp, FpOk X pins H b) → tn i s.heap → J.stop i H →
    wpAny (model P w) X.A (pyNext (.ref it)) (fun r s1 => r = none ∧ Inv X pins σ H s1) E s
  self : ∀ (A : Around) (i : Nat) (s : Shared) (Q : Value → Shared → Prop) (E : Value → Shared → Prop), tn i s.heap → Q (.ref it) s → wpAny (model P w) A (pyIter (.ref it)) Q E s
abbrev TI := St → Hp → (It → Hp → Prop) → Prop
/-- an iterator has come -/
def PIE (X : Cx) (pins : List (Addr × Obj)) (σ : St) (tg : Expr) (R : It → Hp → Prop) (itv : Value) (s2 : Shared) : Prop :=
  ∃ (it : Addr) (fp : List Addr) (tn : Nat → Heap → Prop) (J : It) (H' : Hp), itv = .ref it ∧ Inv X pins σ H' s2 ∧ Turn X.prog X.w X.K tg J fp it tn ∧ tn 0 s2.heap ∧ (∀ b ∈ fp, FpOk X pins H' b) ∧ R J H'
def PI (X : Cx) (tg iter : Expr) (wi : TI) : Prop :=
  ∀ (pins : List (Addr × Obj)) (s : Shared) (σ : St) (H : Hp) (R : It → Hp → Prop), Inv X pins σ H s → wi σ H R →
    wpAny (model X.prog X.w) X.A (eval iter X.env) (fun v s1 => wpAny (model X.prog X.w) X.A (pyIter v) (PIE X pins σ tg R) X.xe s1) X.xe s

/-- the step ahead of the store is nothing for an iterator that keeps no tuple -/
theorem go_of {M : Model} {A : Around} {E : Value → Shared → Prop} {s : Shared} {tg : Expr} {it : Addr} {u : Value} {o : Obj} {n : String} {vs : Array Value} {Q : Unit → Shared → Prop} (ho : s.heap.get? it = some o) (hc : o.cls = .type n) (hd : o.data = .fields vs)
    (hn : ["enumerate", "zip", "dict_itemiterator", "dict_reverseitemiterator", "odict_iterator", "itertools.zip_longest", "itertools.pairwise"].contains n = false) (hQ : Q () s) : wpAny M A (letOwnedTupleGo tg (.ref it) u) Q E s := by
  unfold letOwnedTupleGo
  cases tg <;> first
    | exact wpAny_pure hQ
    | (cases u <;> first
        | exact wpAny_pure hQ
        | (refine wpAny_bind (wpAny_load ho ?_)
           rw [hc, hd]
           show wpAny M A (if (["enumerate", "zip", "dict_itemiterator", "dict_reverseitemiterator", "odict_iterator", "itertools.zip_longest", "itertools.pairwise"].contains n && vs[0]? == some (rawInt _)) = true then _ else _) Q E s
           rw [if_neg (by intro h; rw [hn, Bool.false_and] at h; cases h)]
           exact wpAny_pure hQ))

/-- the list at a, as it stands at each turn (a loop may append to it) -/
def Itl (K : PySem.W.Frag) (a : Addr) : It :=
  ⟨fun i H => ∃ xs x, SqL K H a xs ∧ xs[i]? = some x, fun i H x H' => H' = H ∧ ∀ xs, SqL K H a xs → xs[i]? = some x, fun i H => ∃ xs, SqL K H a xs ∧ xs.length ≤ i⟩
def Itt (K : PySem.W.Frag) (a : Addr) : It :=
  ⟨fun i H => ∃ xs x, SqT K H a xs ∧ xs[i]? = some x, fun i H x H' => H' = H ∧ ∀ xs, SqT K H a xs → xs[i]? = some x, fun i H => ∃ xs, SqT K H a xs ∧ xs.length ≤ i⟩
/-- lo, lo + 1, .. (n of them) -/
def Itr (lo : Int) (n : Nat) : It := ⟨fun i _ => i < n, fun i H x H' => H' = H ∧ x = .int (lo + i), fun i _ => n ≤ i⟩
theorem turn_list {P : Program} {w : World} {K : PySem.W.Frag} {tg : Expr} (a it : Addr) : Turn P w K tg (Itl K a) [it] it (fun i h => h.IsListIter it a i) where
  mem := by simp
  obj := fun i h st b hb => by
    have e : b = it := by simpa using hb
    subst e
    obtain ⟨o, e, c, d⟩ := st
    exact ⟨o, e, fun v z => by rw [d] at z; cases z⟩
  keep := fun i h h' st k => st.at fun o e => k it (by simp) o e
  item := by
    intro X hP hw hK hc i pins s σ H E I hf st hg
    subst hP hw hK
    obtain ⟨xs, x, hq, hx⟩ := hg
    obtain ⟨its, rv, p, hz⟩ := I.list hq
    obtain ⟨u, hu, ru⟩ := rv.get hx
    obtain ⟨f0, f1, f2, f3, f4, f5⟩ := hf it (by simp)
    refine wpAny_pyNext_list_item st p.isList (x := u) (by simpa using hu) fun h' st' sb => ?_
    have I1 : Inv X pins σ H { s with heap := h' } := I.turned (t' := s.toks) (fun b o hb e => (sb.2 b hb).trans e) f0 f1 f3 f4 f5
    obtain ⟨o, e, c, d⟩ := id st'
    exact ⟨u, rfl, go_of (s := { s with heap := h' }) e c d (by decide) ⟨x, H, I1, ru, ⟨rfl, fun ys hy => by rw [I.list_inj hy hq]; exact hx⟩, st', fun b hb => (hf b hb).1⟩⟩
  done := by
    intro X hP hw hK hc i pins s σ H E I hf st hg
    subst hP hw hK
    obtain ⟨xs, hq, hx⟩ := hg
    obtain ⟨its, rv, p, hz⟩ := I.list hq
    obtain ⟨f0, f1, f2, f3, f4, f5⟩ := hf it (by simp)
    have hl := rv.length
    exact wpAny_pyNext_list_end (I.ok.hd hc) st p.isList (by simp; omega) fun h' eb => ⟨rfl, I.turned (t' := s.toks) (fun b o hb e => eb b o hb e) f0 f1 f3 f4 f5⟩
  self := fun _ _ _ _ _ st h => wpAny_pyIter_listiter st h
theorem turn_tuple {P : Program} {w : World} {K : PySem.W.Frag} {tg : Expr} (a it : Addr) : Turn P w K tg (Itt K a) [it] it (fun i h => h.IsTupleIter it a i) where
  mem := by simp
  obj := fun i h st b hb => by
    have e : b = it := by simpa using hb
    subst e
    obtain ⟨o, e, c, d⟩ := st
    exact ⟨o, e, fun v z => by rw [d] at z; cases z⟩
  keep := fun i h h' st k => st.at fun o e => k it (by simp) o e
  item := by
    intro X hP hw hK hc i pins s σ H E I hf st hg
    subst hP hw hK
    obtain ⟨xs, x, hq, hx⟩ := hg
    obtain ⟨its, rv, p, hz⟩ := I.tuple hq
    obtain ⟨u, hu, ru⟩ := rv.get hx
    obtain ⟨f0, f1, f2, f3, f4, f5⟩ := hf it (by simp)
    refine wpAny_pyNext_tuple_item st (show s.heap.IsTuple a its.toArray from p) (x := u) (by simpa using hu) fun h' st' sb => ?_
    have I1 : Inv X pins σ H { s with heap := h' } := I.turned (t' := s.toks) (fun b o hb e => (sb.2 b hb).trans e) f0 f1 f3 f4 f5
    obtain ⟨o, e, c, d⟩ := id st'
    exact ⟨u, rfl, go_of (s := { s with heap := h' }) e c d (by decide) ⟨x, H, I1, ru, ⟨rfl, fun ys hy => by rw [I.tuple_inj hy hq]; exact hx⟩, st', fun b hb => (hf b hb).1⟩⟩
  done := by
    intro X hP hw hK hc i pins s σ H E I hf st hg
    subst hP hw hK
    obtain ⟨xs, hq, hx⟩ := hg
    obtain ⟨its, rv, p, hz⟩ := I.tuple hq
    obtain ⟨f0, f1, f2, f3, f4, f5⟩ := hf it (by simp)
    have hl := rv.length
    exact wpAny_pyNext_tuple_end (I.ok.hd hc) st (show s.heap.IsTuple a its.toArray from p) (by simp; omega) fun h' eb => ⟨rfl, I.turned (t' := s.toks) (fun b o hb e => eb b o hb e) f0 f1 f3 f4 f5⟩
  self := fun _ _ _ _ _ st h => wpAny_pyIter_tupleiter st h
theorem turn_range {P : Program} {w : World} {K : PySem.W.Frag} {tg : Expr} (it : Addr) (lo : Int) (n : Nat) : Turn P w K tg (Itr lo n) [it] it (fun i h => IsRangeIter h it (lo + (i : Nat) * 1) ((n : Int) - (i : Nat)) 1) where
  mem := by simp
  obj := fun i h st b hb => by
    have e : b = it := by simpa using hb
    subst e
    exact ⟨_, st, fun v z => by
      have z' : Data.fields _ = Data.cell v := z
      cases z'⟩
  keep := fun i h h' st k => k it (by simp) _ st
  item := by
    intro X hP hw hK hc i pins s σ H E I hf st hg
    subst hP hw hK
    obtain ⟨f0, f1, f2, f3, f4, f5⟩ := hf it (by simp)
    have W := Walks.range (prog := X.prog) (w := X.w) (I.ok.hd hc) it lo 1 n
    refine W.item i s _ _ hg st fun v h' tk hv st' kk => ?_
    obtain ⟨t, rfl⟩ := hv
    have I1 : Inv X pins σ H { s with heap := h', toks := tk } := I.turned (fun b o hb e => kk b o (by simpa using hb) e) f0 f1 f3 f4 f5
    refine ⟨_, rfl, go_of (s := { s with heap := h', toks := tk }) (n := "range_iterator") st' rfl rfl (by decide) ⟨.int (lo + i), H, I1, ⟨t, ?_⟩, ⟨rfl, rfl⟩, st', fun b hb => (hf b hb).1⟩⟩
    rw [Int.mul_one]
  done := by
    intro X hP hw hK hc i pins s σ H E I hf st hg
    subst hP hw hK
    obtain ⟨f0, f1, f2, f3, f4, f5⟩ := hf it (by simp)
    exact wpAny_pyNext_range_end (I.ok.hd hc) st (by have : n ≤ i := hg; omega) fun h' eb => ⟨rfl, I.turned (t' := s.toks) (fun b o hb e => eb b o hb e) f0 f1 f3 f4 f5⟩
  self := fun _ _ _ _ _ st h => wpAny_pyIter_rangeiter st h
end L2

namespace L2
open PySem PySem.Spec PyProof.Rows
section
variable {X : Cx} {tg : Expr}
def iList (K : PySem.W.Frag) (tl : TE) : TI := fun σ H R => tl σ H fun x H1 => ∃ a, x = .ref a ∧ (∃ xs, SqL K H1 a xs) ∧ R (Itl K a) H1
def iTup (K : PySem.W.Frag) (tl : TE) : TI := fun σ H R => tl σ H fun x H1 => ∃ a, x = .ref a ∧ (∃ xs, SqT K H1 a xs) ∧ R (Itt K a) H1
theorem pi_list {l : Expr} {tl : TE} (hl : PE X l tl) : PI X tg l (iList X.K tl) := by
  intro pins s σ H R I h
  refine thn (hl pins s σ H _ I h) fun v s1 ⟨x, H1, I1, r1, q1⟩ => ?_
  obtain ⟨a, e, ⟨xs, hq⟩, q⟩ := q1
  subst e
  cases r1
  obtain ⟨its, rv, p, hz⟩ := I1.list hq
  refine wpAny_pyIter_list p.isList ?_
  refine ⟨s1.heap.objs.size, [s1.heap.objs.size], _, _, H1, rfl, I1.kept (t' := s1.toks) fun b o e => Heap.get?_push_of_some _ e, turn_list a _, ⟨_, Heap.get?_push_size _ rfl, rfl, rfl⟩, fun b hb => ?_, q⟩
  have e : b = s1.heap.objs.size := by simpa using hb
  subst e
  exact I1.fpOk (Nat.le_refl _) (I1.hok.fresh (Nat.le_refl _))
theorem pi_tup {l : Expr} {tl : TE} (hl : PE X l tl) : PI X tg l (iTup X.K tl) := by
  intro pins s σ H R I h
  refine thn (hl pins s σ H _ I h) fun v s1 ⟨x, H1, I1, r1, q1⟩ => ?_
  obtain ⟨a, e, ⟨xs, hq⟩, q⟩ := q1
  subst e
  cases r1
  obtain ⟨its, rv, p, hz⟩ := I1.tuple hq
  refine wpAny_pyIter_tuple (show s1.heap.IsTuple a its.toArray from p) ?_
  refine ⟨s1.heap.objs.size, [s1.heap.objs.size], _, _, H1, rfl, I1.kept (t' := s1.toks) fun b o e => Heap.get?_push_of_some _ e, turn_tuple a _, ⟨_, Heap.get?_push_size _ rfl, rfl, rfl⟩, fun b hb => ?_, q⟩
  have e : b = s1.heap.objs.size := by simpa using hb
  subst e
  exact I1.fpOk (Nat.le_refl _) (I1.hok.fresh (Nat.le_refl _))
/-- a range object just made, walked -/
theorem range_it {pins : List (Addr × Obj)} {σ : St} {H : Hp} {s : Shared} {R : It → Hp → Prop} {E : Value → Shared → Prop} {lo hi : Int} {t u v : Tok} {tk : Nat} (I : Inv X pins σ H s) (h1 : -(2 ^ 62) ≤ lo) (h2 : lo < 2 ^ 62) (h3 : -(2 ^ 62) ≤ hi) (h4 : hi < 2 ^ 62)
    (q : R (Itr lo (hi - lo).toNat) H) : wpAny (model X.prog X.w) X.A (pyIter (.ref s.heap.objs.size)) (PIE X pins σ tg R) E { s with heap := s.heap.push { cls := .type "range", data := .fields #[.int lo t, .int hi u, .int 1 v] }, toks := tk } := by
  refine wpAny_pyIter_range (IsRange.new ..) (small_one h1 h2 h3 h4) ?_
  have I1 : Inv X pins σ H { s with heap := s.heap.push { cls := .type "range", data := .fields #[.int lo t, .int hi u, .int 1 v] }, toks := tk } := I.kept fun b o e => Heap.get?_push_of_some _ e
  refine ⟨(s.heap.push { cls := .type "range", data := .fields #[.int lo t, .int hi u, .int 1 v] }).objs.size, [(s.heap.push { cls := .type "range", data := .fields #[.int lo t, .int hi u, .int 1 v] }).objs.size], _, _, H, rfl,
    I1.kept (t' := tk) fun b o e => Heap.get?_push_of_some _ e, turn_range _ lo (hi - lo).toNat, ?_, fun b hb => ?_, q⟩
  · have e1 : lo + ((0 : Nat) : Int) * 1 = lo := by simp
    have e2 : (((hi - lo).toNat : Nat) : Int) - ((0 : Nat) : Int) = Builtin.Range.rangeSize lo hi 1 := by rw [rangeSize_one]; split <;> omega
    show IsRangeIter _ _ (lo + ((0 : Nat) : Int) * 1) ((((hi - lo).toNat : Nat) : Int) - ((0 : Nat) : Int)) 1
    rw [e1, e2]
    exact Heap.get?_push_size _ rfl
  · have e : b = (s.heap.push { cls := .type "range", data := .fields #[.int lo t, .int hi u, .int 1 v] }).objs.size := by simpa using hb
    subst e
    exact I1.fpOk (Nat.le_refl _) (I1.hok.fresh (Nat.le_refl _))
def iRng1 (ta : TA) : TI := fun σ H R => ta σ H fun vs H1 => ∃ j : Int, vs = [.int j] ∧ -(2 ^ 62) ≤ j ∧ j < 2 ^ 62 ∧ R (Itr 0 j.toNat) H1
def iRng2 (ta : TA) : TI := fun σ H R => ta σ H fun vs H1 => ∃ i j : Int, vs = [.int i, .int j] ∧ (-(2 ^ 62) ≤ i ∧ i < 2 ^ 62 ∧ -(2 ^ 62) ≤ j ∧ j < 2 ^ 62) ∧ R (Itr i (j - i).toNat) H1
theorem pi_range1 {a : Expr} {ta : TA} {p pos : Pos} (hg : Gl X "range") (hm : X.mg "range" = none) (ha : PA X [a] ta) (hs : starEach [a] X.env = [(false, eval a X.env)] := by rfl) : PI X tg (.Call (.Name "range" p) [a] [] pos) (iRng1 ta) := by
  intro pins s σ H R I h
  refine Call_ (ld_blt I hg hm boot_range (PyProof.Rows.callWith_type1 (thn (ha pos pins s σ H _ I h) fun us s1 ⟨vs, H1, I1, r1, q1⟩ => ?_) hs rfl))
  obtain ⟨j, e, q1, q2, q⟩ := q1
  subst e
  cases r1 with
  | cons r rr =>
    cases rr
    obtain ⟨t, rfl⟩ := r
    exact call_range_1 (range_it I1 (by omega) (by omega) q1 q2 (by simpa using q))
/-! ### for -/
/-- W: the invariant by the turn and a measure; N: what the body is to reach -/
def tFor (wi : TI) (g : TG) (tb : TS) : TS := fun D σ H => wi σ H fun J H1 => ∃ W : Nat → Nat → St → Hp → Prop, (∃ m, W 0 m σ H1) ∧ ∀ i m σ H, W i m σ H →
  (J.stop i H ∧ D.nx σ H) ∨ (J.go i H ∧ ∃ N : St → Hp → Prop, (∀ σ' H', N σ' H' → ∃ m', m' < m ∧ W (i + 1) m' σ' H') ∧ ∀ x H', J.yld i H x H' → g x σ H' fun σ2 H2 => tb { D with nx := N, ct := N, bk := D.nx } σ2 H2)
/-- the records at fp as they stand -/
def pinsAt (fp : List Addr) (h : Heap) : List (Addr × Obj) := fp.filterMap fun b => (h.get? b).map fun o => (b, o)
theorem mem_pinsAt {fp : List Addr} {h : Heap} {b : Addr} {o : Obj} (hb : b ∈ fp) (e : h.get? b = some o) : (b, o) ∈ pinsAt fp h := List.mem_filterMap.mpr ⟨b, hb, by rw [e]; rfl⟩
theorem of_pinsAt {fp : List Addr} {h : Heap} {p : Addr × Obj} (hp : p ∈ pinsAt fp h) : p.1 ∈ fp ∧ h.get? p.1 = some p.2 := by
  obtain ⟨b, hb, e⟩ := List.mem_filterMap.mp hp
  cases q : h.get? b with
  | none => rw [q] at e; cases e
  | some o =>
    rw [q] at e
    have e' : (b, o) = p := Option.some.inj e
    subst e'
    exact ⟨hb, q⟩
theorem Inv.pinned {pins : List (Addr × Obj)} {σ : St} {H : Hp} {s : Shared} {fp : List Addr} (I : Inv X pins σ H s) (hf : ∀ b ∈ fp, FpOk X pins H b) (ho : ∀ b ∈ fp, ∃ o, s.heap.get? b = some o ∧ ∀ v, o.data ≠ .cell v) : Inv X (pins ++ pinsAt fp s.heap) σ H s :=
  I.pins_of fun p hp => (List.mem_append.mp hp).elim (fun z => I.pin p (List.mem_append_right _ z)) fun z => by
    obtain ⟨hb, e⟩ := of_pinsAt z
    obtain ⟨f0, f1, f2, _⟩ := hf p.1 hb
    obtain ⟨o, e', d⟩ := ho p.1 hb
    rw [e] at e'; cases e'
    exact ⟨e, f0, f1, f2, d⟩
theorem Inv.unpinned {pins pl : List (Addr × Obj)} {σ : St} {H : Hp} {s : Shared} (I : Inv X (pins ++ pl) σ H s) : Inv X pins σ H s := I.pins_of fun p hp => I.pin p (List.mem_append_right _ (List.mem_append_left _ hp))
theorem ps_for {iter : Expr} {body : List Stmt} {wi : TI} {g : TG} {tb : TS} {pos : Pos} (hp : PassesOwn (model X.prog X.w) X.A X.env X.xe) (hc : X.calm = true) (hi : PI X tg iter wi) (hg : PG X tg g) (hb : PSs X body tb)
    (hs : ∀ x, foldedSetIterable iter X.env x = pure x := by intro _; rfl) : PS X (.For tg iter body [] pos) (tFor wi g tb) := by
  intro pins s σ H D I h
  refine wpAny_For (thn (hi pins s σ H _ I h) fun v s1 h1 => thn h1 fun itv s2 h2 => ?_) hs
  obtain ⟨it, fp, tn, J, H2, e, I2, T, st2, f2, W, ⟨m0, w0⟩, turn⟩ := h2
  subst e
  -- what stays true of the iterator's objects through the loop
  have stat : ∀ {H' : Hp}, (∀ b ∈ fp, H' b = none) → ∀ b ∈ fp, FpOk X pins H' b := fun hn b hb => ⟨hn b hb, (f2 b hb).2⟩
  refine codeAny_forLoop_any (fun n s' => ∃ i σ' H', Inv X pins σ' H' s' ∧ tn i s'.heap ∧ (∀ b ∈ fp, H' b = none) ∧ W i n σ' H') ?_ m0 ⟨0, σ, H2, I2, st2, fun b hb => (f2 b hb).1, w0⟩
  rintro n s3 ⟨i, σ3, H3, I3, st3, fr3, w3⟩
  rcases turn i n σ3 H3 w3 with ⟨stop, qn⟩ | ⟨go, N, hN, step⟩
  · refine wpAny_passesOwn hp (thn (T.done X rfl rfl rfl hc i pins s3 σ3 H3 X.xe I3 (stat fr3) st3 stop) fun r s4 ⟨hr, I4⟩ => ?_)
    subst hr
    exact wpAny_execs_nil ⟨σ3, H3, I4, qn⟩
  · refine wpAny_passesOwn hp (thn (T.item X rfl rfl rfl hc i pins s3 σ3 H3 X.xe I3 (stat fr3) st3 go) fun r s4 ⟨u, hr, h4⟩ => ?_)
    subst hr
    refine wpAny_passesOwn hp (thn h4 fun _ s5 ⟨x, H5, I5, r5, y5, st5, fr5⟩ => ?_)
    have I5' := I5.pinned (stat fr5) (T.obj _ _ st5)
    refine wpAny_passesOwn hp (thn (hg _ s5 σ3 H5 x u _ I5' r5 (step x H5 y5)) fun _ s6 ⟨σ6, H6, I6, q6⟩ => ?_)
    refine wpAny_passesOwn hp (thn (hb _ s6 σ6 H6 _ I6 q6) fun f s7 q7 => ?_)
    have again : ∀ {σ7 : St} {H7 : Hp}, Inv X (pins ++ pinsAt fp s5.heap) σ7 H7 s7 → N σ7 H7 → ∃ m, m < n ∧ ∃ i σ' H', Inv X pins σ' H' s7 ∧ tn i s7.heap ∧ (∀ b ∈ fp, H' b = none) ∧ W i m σ' H' := fun {σ7 H7} I7 n7 => by
      obtain ⟨m', hm, w7⟩ := hN σ7 H7 n7
      refine ⟨m', hm, i + 1, σ7, H7, I7.unpinned, T.keep _ _ _ st5 fun b hb o e => (I7.pin (b, o) (List.mem_append_right _ (List.mem_append_right _ (mem_pinsAt hb e)))).1, fun b hb => ?_, w7⟩
      obtain ⟨o, e, d⟩ := T.obj _ _ st5 b hb
      exact (I7.pin (b, o) (List.mem_append_right _ (List.mem_append_right _ (mem_pinsAt hb e)))).2.1
    cases f with
    | next => obtain ⟨σ7, H7, I7, n7⟩ := q7; exact again I7 n7
    | cont => obtain ⟨σ7, H7, I7, n7⟩ := q7; exact again I7 n7
    | brk => obtain ⟨σ7, H7, I7, q7⟩ := q7; exact ⟨σ7, H7, I7.unpinned, q7⟩
    | ret v => obtain ⟨x7, σ7, H7, I7, r7, q7⟩ := q7; exact ⟨x7, σ7, H7, I7.unpinned, r7, q7⟩
end

/-! ### the forms one uses -/
/-- over a list that the body leaves as it is -/
theorem for_list {K : PySem.W.Frag} {a : Addr} {xs : List V} {g : TG} {tb : TS} {D : Ends} {σ : St} {H : Hp} (Pv : Nat → St → Hp → Prop) (h0 : Pv 0 σ H) (hl : ∀ i σ H, i ≤ xs.length → Pv i σ H → SqL K H a xs)
    (hs : ∀ i x σ H, xs[i]? = some x → Pv i σ H → g x σ H fun σ2 H2 => tb { D with nx := Pv (i + 1), ct := Pv (i + 1), bk := D.nx } σ2 H2) (hd : ∀ σ H, Pv xs.length σ H → D.nx σ H) :
    ∃ W : Nat → Nat → St → Hp → Prop, (∃ m, W 0 m σ H) ∧ ∀ i m σ H, W i m σ H →
      ((Itl K a).stop i H ∧ D.nx σ H) ∨ ((Itl K a).go i H ∧ ∃ N : St → Hp → Prop, (∀ σ' H', N σ' H' → ∃ m', m' < m ∧ W (i + 1) m' σ' H') ∧ ∀ x H', (Itl K a).yld i H x H' → g x σ H' fun σ2 H2 => tb { D with nx := N, ct := N, bk := D.nx } σ2 H2) := by
  refine ⟨fun i m σ H => m = xs.length - i ∧ i ≤ xs.length ∧ Pv i σ H, ⟨xs.length, by simp, Nat.zero_le _, h0⟩, ?_⟩
  rintro i m σ H ⟨rfl, hi, p⟩
  have q := hl i σ H hi p
  by_cases hlt : i < xs.length
  · refine .inr ⟨⟨xs, xs[i], q, by simp [hlt]⟩, Pv (i + 1), fun σ' H' p' => ⟨xs.length - (i + 1), by omega, rfl, hlt, p'⟩, fun x H' y => ?_⟩
    obtain ⟨e, y⟩ := y
    subst e
    exact hs i x σ _ (y xs q) p
  · have e : i = xs.length := by omega
    subst e
    exact .inl ⟨⟨xs, q, Nat.le_refl _⟩, hd σ H p⟩
theorem for_tup {K : PySem.W.Frag} {a : Addr} {xs : List V} {g : TG} {tb : TS} {D : Ends} {σ : St} {H : Hp} (Pv : Nat → St → Hp → Prop) (h0 : Pv 0 σ H) (hl : ∀ i σ H, i ≤ xs.length → Pv i σ H → SqT K H a xs)
    (hs : ∀ i x σ H, xs[i]? = some x → Pv i σ H → g x σ H fun σ2 H2 => tb { D with nx := Pv (i + 1), ct := Pv (i + 1), bk := D.nx } σ2 H2) (hd : ∀ σ H, Pv xs.length σ H → D.nx σ H) :
    ∃ W : Nat → Nat → St → Hp → Prop, (∃ m, W 0 m σ H) ∧ ∀ i m σ H, W i m σ H →
      ((Itt K a).stop i H ∧ D.nx σ H) ∨ ((Itt K a).go i H ∧ ∃ N : St → Hp → Prop, (∀ σ' H', N σ' H' → ∃ m', m' < m ∧ W (i + 1) m' σ' H') ∧ ∀ x H', (Itt K a).yld i H x H' → g x σ H' fun σ2 H2 => tb { D with nx := N, ct := N, bk := D.nx } σ2 H2) := by
  refine ⟨fun i m σ H => m = xs.length - i ∧ i ≤ xs.length ∧ Pv i σ H, ⟨xs.length, by simp, Nat.zero_le _, h0⟩, ?_⟩
  rintro i m σ H ⟨rfl, hi, p⟩
  have q := hl i σ H hi p
  by_cases hlt : i < xs.length
  · refine .inr ⟨⟨xs, xs[i], q, by simp [hlt]⟩, Pv (i + 1), fun σ' H' p' => ⟨xs.length - (i + 1), by omega, rfl, hlt, p'⟩, fun x H' y => ?_⟩
    obtain ⟨e, y⟩ := y
    subst e
    exact hs i x σ _ (y xs q) p
  · have e : i = xs.length := by omega
    subst e
    exact .inl ⟨⟨xs, q, Nat.le_refl _⟩, hd σ H p⟩
theorem for_range {lo : Int} {n : Nat} {g : TG} {tb : TS} {D : Ends} {σ : St} {H : Hp} (Pv : Nat → St → Hp → Prop) (h0 : Pv 0 σ H)
    (hs : ∀ i σ H, i < n → Pv i σ H → g (.int (lo + i)) σ H fun σ2 H2 => tb { D with nx := Pv (i + 1), ct := Pv (i + 1), bk := D.nx } σ2 H2) (hd : ∀ σ H, Pv n σ H → D.nx σ H) :
    ∃ W : Nat → Nat → St → Hp → Prop, (∃ m, W 0 m σ H) ∧ ∀ i m σ H, W i m σ H →
      ((Itr lo n).stop i H ∧ D.nx σ H) ∨ ((Itr lo n).go i H ∧ ∃ N : St → Hp → Prop, (∀ σ' H', N σ' H' → ∃ m', m' < m ∧ W (i + 1) m' σ' H') ∧ ∀ x H', (Itr lo n).yld i H x H' → g x σ H' fun σ2 H2 => tb { D with nx := N, ct := N, bk := D.nx } σ2 H2) := by
  refine ⟨fun i m σ H => m = n - i ∧ i ≤ n ∧ Pv i σ H, ⟨n, by simp, Nat.zero_le _, h0⟩, ?_⟩
  rintro i m σ H ⟨rfl, hi, p⟩
  by_cases hlt : i < n
  · refine .inr ⟨hlt, Pv (i + 1), fun σ' H' p' => ⟨n - (i + 1), by omega, rfl, hlt, p'⟩, fun x H' y => ?_⟩
    obtain ⟨e, y⟩ := y
    subst e y
    exact hs i σ _ hlt p
  · have e : i = n := by omega
    subst e
    exact .inl ⟨Nat.le_refl _, hd σ H p⟩
end L2

namespace L2
open PySem PySem.Spec PyProof.Rows

abbrev R2 := V → V → Hp → VK → Prop
/-- a two-place operation on values: f is binaryOp op, inplaceOp op or compareOp op -/
def OpR (X : Cx) (f : Value → Value → Sem Value) (r : R2) : Prop :=
  ∀ (pins : List (Addr × Obj)) (s : Shared) (σ : St) (H : Hp) (x y : V) (v u : Value) (Q : VK), Inv X pins σ H s → RelV x v → RelV y u → r x y H Q →
    wpAny (model X.prog X.w) X.A (f v u) (EP X pins σ Q) X.xe s
/-- a one-place operation -/
def UnR (X : Cx) (f : Value → Sem Value) (r : V → Hp → VK → Prop) : Prop :=
  ∀ (pins : List (Addr × Obj)) (s : Shared) (σ : St) (H : Hp) (x : V) (v : Value) (Q : VK), Inv X pins σ H s → RelV x v → r x H Q →
    wpAny (model X.prog X.w) X.A (f v) (EP X pins σ Q) X.xe s
/-- a call of a value that is known (a builtin, a type) with values -/
def CallR (X : Cx) (f : Value) (r : List V → Hp → VK → Prop) : Prop :=
  ∀ (pins : List (Addr × Obj)) (s : Shared) (σ : St) (H : Hp) (xs : List V) (us : List Value) (Q : VK), Inv X pins σ H s → Vals xs us → r xs H Q →
    wpAny (model X.prog X.w) X.A (call f us) (EP X pins σ Q) X.xe s
/-- a value's truth -/
def TruR (X : Cx) (r : V → Hp → (Bool → Hp → Prop) → Prop) : Prop :=
  ∀ (pins : List (Addr × Obj)) (s : Shared) (σ : St) (H : Hp) (x : V) (v : Value) (Q : Bool → Hp → Prop), Inv X pins σ H s → RelV x v → r x H Q →
    wpAny (model X.prog X.w) X.A (truthy v) (TP X pins σ Q) X.xe s

def tOp (r : R2) (ta tb : TE) : TE := fun σ H Q => ta σ H fun x H1 => tb σ H1 fun y H2 => r x y H2 Q
def tUn (r : V → Hp → VK → Prop) (ta : TE) : TE := fun σ H Q => ta σ H fun x H1 => r x H1 Q
/-- ints in, under C, and a value out -/
def rI (C : Int → Int → Prop) (g : Int → Int → V) : R2 := fun x y H Q => ∃ i j, x = .int i ∧ y = .int j ∧ C i j ∧ Q (g i j) H
def rI0 (g : Int → Int → V) : R2 := fun x y H Q => ∃ i j, x = .int i ∧ y = .int j ∧ Q (g i j) H
def rU (g : Int → V) : V → Hp → VK → Prop := fun x H Q => ∃ i, x = .int i ∧ Q (g i) H

section
variable {X : Cx} {a b c : Expr} {ta tb tc : TE} {pos : Pos}

theorem binT (ha : PE X a ta) (hb : PE X b tb) {pins : List (Addr × Obj)} {s : Shared} {σ : St} {H : Hp} {R : V → V → Hp → Prop} (I : Inv X pins σ H s)
    (h : ta σ H fun x H1 => tb σ H1 fun y H2 => R x y H2) {Q : Value → Shared → Prop} {f : Value → Value → Sem Value}
    (hf : ∀ v u s2 x y H2, Inv X pins σ H2 s2 → RelV x v → RelV y u → R x y H2 → wpAny (model X.prog X.w) X.A (f v u) Q X.xe s2) :
    wpAny (model X.prog X.w) X.A (eval a X.env) (fun v s₁ => wpAny (model X.prog X.w) X.A (eval b X.env) (fun u s₂ => wpAny (model X.prog X.w) X.A (f v u) Q X.xe s₂) X.xe s₁) X.xe s := by
  refine thn (ha pins s σ H _ I h) fun v s1 ⟨x, H1, I1, r1, q1⟩ => ?_
  refine thn (hb pins s1 σ H1 _ I1 q1) fun u s2 ⟨y, H2, I2, r2, q2⟩ => ?_
  exact hf v u s2 x y H2 I2 r1 r2 q2

theorem pe_op {op : Operator} {r : R2} (ho : OpR X (binaryOp op) r) (ha : PE X a ta) (hb : PE X b tb) : PE X (.BinOp a op b pos) (tOp r ta tb) := by
  intro pins s σ H Q I h
  exact wpAny_BinOp (binT ha hb I h fun v u s2 x y H2 I2 rx ry q => ho pins s2 σ H2 x y v u Q I2 rx ry q)
theorem pe_un {op : UnaryOp} {r : V → Hp → VK → Prop} (ho : UnR X (unaryOp op) r) (ha : PE X a ta) : PE X (.UnaryOp op a pos) (tUn r ta) := by
  intro pins s σ H Q I h
  exact UnaryOp_ (thn (ha pins s σ H _ I h) fun v s1 ⟨x, H1, I1, r1, q1⟩ => ho pins s1 σ H1 x v Q I1 r1 q1)
/-! ### ints -/
theorem opI {f : Value → Value → Sem Value} {C : Int → Int → Prop} {g : Int → Int → Int}
    (rule : ∀ (i j : Int) (t u : Tok) (s : Shared) (Q : Value → Shared → Prop) (E : Value → Shared → Prop), C i j → Q (.int (g i j) s.toks) { s with toks := s.toks + 1 } → wpAny (model X.prog X.w) X.A (f (.int i t) (.int j u)) Q E s) :
    OpR X f (rI C fun i j => .int (g i j)) := by
  intro pins s σ H x y v u Q I rx ry h
  obtain ⟨i, j, rfl, rfl, hc, q⟩ := h
  obtain ⟨t, rfl⟩ := rx
  obtain ⟨t', rfl⟩ := ry
  exact rule i j t t' s _ _ hc ⟨.int (g i j), H, I.tok _, ⟨_, rfl⟩, q⟩
theorem opI0 {f : Value → Value → Sem Value} {g : Int → Int → Int}
    (rule : ∀ (i j : Int) (t u : Tok) (s : Shared) (Q : Value → Shared → Prop) (E : Value → Shared → Prop), Q (.int (g i j) s.toks) { s with toks := s.toks + 1 } → wpAny (model X.prog X.w) X.A (f (.int i t) (.int j u)) Q E s) :
    OpR X f (rI0 fun i j => .int (g i j)) := by
  intro pins s σ H x y v u Q I rx ry h
  obtain ⟨i, j, rfl, rfl, q⟩ := h
  obtain ⟨t, rfl⟩ := rx
  obtain ⟨t', rfl⟩ := ry
  exact rule i j t t' s _ _ ⟨.int (g i j), H, I.tok _, ⟨_, rfl⟩, q⟩
theorem opB0 {f : Value → Value → Sem Value} {g : Int → Int → Bool}
    (rule : ∀ (i j : Int) (t u : Tok) (s : Shared) (Q : Value → Shared → Prop) (E : Value → Shared → Prop), Q (.bool (g i j)) s → wpAny (model X.prog X.w) X.A (f (.int i t) (.int j u)) Q E s) :
    OpR X f (rI0 fun i j => .bl (g i j)) := by
  intro pins s σ H x y v u Q I rx ry h
  obtain ⟨i, j, rfl, rfl, q⟩ := h
  obtain ⟨t, rfl⟩ := rx
  obtain ⟨t', rfl⟩ := ry
  exact rule i j t t' s _ _ ⟨.bl (g i j), H, I, rfl, q⟩

def CDiv (i j : Int) : Prop := 0 < j ∧ j < 1073741824
def CDivN (i j : Int) : Prop := j ≠ 0 ∧ j.natAbs < 1073741824
def CPow (i j : Int) : Prop := 0 ≤ j ∧ j ≤ 1000000 ∧ i.natAbs < 2 ^ 64
def CMul (i j : Int) : Prop := (-(2 ^ 64) < i ∧ i < 2 ^ 64) ∨ (-(2 ^ 64) < j ∧ j < 2 ^ 64)
theorem CMul.ok {i j : Int} (h : CMul i j) : IntMulOk i j := by
  rcases h with ⟨h1, h2⟩ | ⟨h1, h2⟩
  · exact .of_left (intBits_le_64 h1 h2)
  · exact .of_right (intBits_le_64 h1 h2)
theorem op_add : OpR X (binaryOp .Add) (rI0 fun i j => .int (i + j)) := opI0 fun _ _ _ _ _ _ _ q => add_int q
theorem op_sub : OpR X (binaryOp .Sub) (rI0 fun i j => .int (i - j)) := opI0 fun _ _ _ _ _ _ _ q => sub_int q
theorem op_mul : OpR X (binaryOp .Mult) (rI CMul fun i j => .int (i * j)) := opI fun _ _ _ _ _ _ _ hc q => mul_int q hc.ok
/-- // by a positive divisor -/
theorem op_fdiv : OpR X (binaryOp .FloorDiv) (rI CDiv fun i j => .int (i / j)) := opI fun i j _ _ _ _ _ hc q => by
  have h1 : (0 : Int) < j := hc.1
  have h2 : j < 1073741824 := hc.2
  exact floordiv_int (by omega) (by rw [Int.fdiv_eq_ediv_of_nonneg i (by omega)]; exact q) (.inl (PyProof.noPylong_small (by omega)))
/-- % by a positive divisor of any size -/
theorem op_mod : OpR X (binaryOp .Mod) (rI (fun _ j => 0 < j) fun i j => .int (i % j)) := opI fun i j _ _ _ _ _ hc q => by
  have h1 : (0 : Int) < j := hc
  exact mod_int' (by omega) (by rw [Int.fmod_eq_emod_of_nonneg i (by omega)]; exact q)
theorem op_pow : OpR X (binaryOp .Pow) (rI CPow fun i j => .int (i ^ j.toNat)) := opI fun _ _ _ _ _ _ _ hc q => pow_int_small hc.1 hc.2.1 hc.2.2 q
theorem unI {f : Value → Sem Value} {g : Int → Int}
    (rule : ∀ (i : Int) (t : Tok) (s : Shared) (Q : Value → Shared → Prop) (E : Value → Shared → Prop), Q (.int (g i) s.toks) { s with toks := s.toks + 1 } → wpAny (model X.prog X.w) X.A (f (.int i t)) Q E s) :
    UnR X f (rU fun i => .int (g i)) := by
  intro pins s σ H x v Q I rx h
  obtain ⟨i, rfl, q⟩ := h
  obtain ⟨t, rfl⟩ := rx
  exact rule i t s _ _ ⟨.int (g i), H, I.tok _, ⟨_, rfl⟩, q⟩
theorem un_neg : UnR X (unaryOp .USub) (rU fun i => .int (-i)) := unI fun _ _ _ _ _ q => neg_int q
/-! ### bools among ints: n += (a < b) -/
end

/-! ### comparisons -/
/-- the scalars that == tells apart as data does -/
def scal : V → V → Bool
  | .non, .non => true | .non, .int _ => true | .int _, .non => true | .non, .bl _ => true | .bl _, .non => true | .non, .str _ => true | .str _, .non => true
  | .int _, .int _ => true | .bl _, .bl _ => true | .str _, .str _ => true | .byt _, .byt _ => true
  | .int _, .str _ => true | .str _, .int _ => true | .bl _, .str _ => true | .str _, .bl _ => true
  | _, _ => false
def rEq : R2 := fun x y H Q => scal x y = true ∧ Q (.bl (decide (x = y))) H
def rNe : R2 := fun x y H Q => scal x y = true ∧ Q (.bl (!decide (x = y))) H

theorem dec_int {i j : Int} : decide (V.int i = V.int j) = (i == j) := by
  rw [Bool.eq_iff_iff]
  simp
theorem dec_bl {i j : Bool} : decide (V.bl i = V.bl j) = (i == j) := by
  rw [Bool.eq_iff_iff]
  simp
theorem dec_str {i j : Str} : decide (V.str i = V.str j) = (i == j) := by
  rw [Bool.eq_iff_iff]
  simp
theorem dec_byt {i j : Array UInt8} : decide (V.byt i = V.byt j) = (i.toList == j.toList) := by
  rw [Bool.eq_iff_iff]
  cases i
  cases j
  simp

section
variable {X : Cx} {a b c : Expr} {ta tb tc : TE} {pos : Pos}
theorem fin_bl {pins : List (Addr × Obj)} {σ : St} {H : Hp} {s : Shared} {Q : VK} {k k' : Bool} (I : Inv X pins σ H s) (q : Q (.bl k) H) (e : k = k') : EP X pins σ Q (.bool k') s := by
  subst e
  exact ⟨.bl k, H, I, rfl, q⟩
theorem op_eq : OpR X (compareOp .Eq) rEq := by
  intro pins s σ H x y v u Q I rx ry h
  obtain ⟨hs, q⟩ := h
  cases x with
  | non =>
    cases rx
    cases y with
    | non => cases ry; exact PySem.EqNone.eq_none_none (fin_bl I q (by simp))
    | bl j => cases ry; exact PySem.EqNone.eq_none_bool (fin_bl I q (by simp))
    | int j => obtain ⟨t', rfl⟩ := ry; exact PySem.EqNone.eq_none_int (fin_bl I q (by simp))
    | str j => obtain ⟨t', rfl⟩ := ry; exact PySem.EqNone.eq_none_str (fin_bl I q (by simp))
    | _ => exact absurd (show false = true from hs) Bool.false_ne_true
  | bl i =>
    cases rx
    cases y with
    | non => cases ry; exact PySem.EqNone.eq_bool_none (fin_bl I q (by simp))
    | bl j => cases ry; exact eq_bool (fin_bl I q dec_bl)
    | str j => obtain ⟨t', rfl⟩ := ry; exact PySem.EqMixed.eq_bool_str (fin_bl I q (by simp))
    | _ => exact absurd (show false = true from hs) Bool.false_ne_true
  | int i =>
    obtain ⟨t, rfl⟩ := rx
    cases y with
    | non => cases ry; exact PySem.EqNone.eq_int_none (fin_bl I q (by simp))
    | int j => obtain ⟨t', rfl⟩ := ry; exact eq_int (fin_bl I q dec_int)
    | str j => obtain ⟨t', rfl⟩ := ry; exact PySem.EqMixed.eq_int_str (fin_bl I q (by simp))
    | _ => exact absurd (show false = true from hs) Bool.false_ne_true
  | str i =>
    obtain ⟨t, rfl⟩ := rx
    cases y with
    | non => cases ry; exact PySem.EqNone.eq_str_none (fin_bl I q (by simp))
    | bl j => cases ry; exact PySem.EqMixed.eq_str_bool (fin_bl I q (by simp))
    | int j => obtain ⟨t', rfl⟩ := ry; exact PySem.EqMixed.eq_str_int (fin_bl I q (by simp))
    | str j => obtain ⟨t', rfl⟩ := ry; exact eq_str (fin_bl I q dec_str)
    | _ => exact absurd (show false = true from hs) Bool.false_ne_true
  | byt i =>
    obtain ⟨t, rfl⟩ := rx
    cases y with
    | byt j => obtain ⟨t', rfl⟩ := ry; exact PySem.W.eq_bytes (fin_bl I q dec_byt)
    | _ => exact absurd (show false = true from hs) Bool.false_ne_true
  | _ => cases y <;> exact absurd (show false = true from hs) Bool.false_ne_true
theorem op_ne : OpR X (compareOp .NotEq) rNe := by
  intro pins s σ H x y v u Q I rx ry h
  obtain ⟨hs, q⟩ := h
  cases x with
  | non =>
    cases rx
    cases y with
    | non => cases ry; exact PySem.EqNone.ne_none_none (fin_bl I q (by simp))
    | bl j => cases ry; exact PySem.EqNone.ne_none_bool (fin_bl I q (by simp))
    | int j => obtain ⟨t', rfl⟩ := ry; exact PySem.EqNone.ne_none_int (fin_bl I q (by simp))
    | str j => obtain ⟨t', rfl⟩ := ry; exact PySem.EqNone.ne_none_str (fin_bl I q (by simp))
    | _ => exact absurd (show false = true from hs) Bool.false_ne_true
  | bl i =>
    cases rx
    cases y with
    | non => cases ry; exact PySem.EqNone.ne_bool_none (fin_bl I q (by simp))
    | bl j => cases ry; exact ne_bool (fin_bl I q (congrArg not dec_bl))
    | str j => obtain ⟨t', rfl⟩ := ry; exact PySem.EqMixed.ne_bool_str (fin_bl I q (by simp))
    | _ => exact absurd (show false = true from hs) Bool.false_ne_true
  | int i =>
    obtain ⟨t, rfl⟩ := rx
    cases y with
    | non => cases ry; exact PySem.EqNone.ne_int_none (fin_bl I q (by simp))
    | int j => obtain ⟨t', rfl⟩ := ry; exact ne_int (fin_bl I q (congrArg not dec_int))
    | str j => obtain ⟨t', rfl⟩ := ry; exact PySem.EqMixed.ne_int_str (fin_bl I q (by simp))
    | _ => exact absurd (show false = true from hs) Bool.false_ne_true
  | str i =>
    obtain ⟨t, rfl⟩ := rx
    cases y with
    | non => cases ry; exact PySem.EqNone.ne_str_none (fin_bl I q (by simp))
    | bl j => cases ry; exact PySem.EqMixed.ne_str_bool (fin_bl I q (by simp))
    | int j => obtain ⟨t', rfl⟩ := ry; exact PySem.EqMixed.ne_str_int (fin_bl I q (by simp))
    | str j => obtain ⟨t', rfl⟩ := ry; exact ne_str (fin_bl I q (congrArg not dec_str))
    | _ => exact absurd (show false = true from hs) Bool.false_ne_true
  | byt i =>
    obtain ⟨t, rfl⟩ := rx
    cases y with
    | byt j => obtain ⟨t', rfl⟩ := ry; exact PySem.W.ne_bytes (fin_bl I q (congrArg not dec_byt))
    | _ => exact absurd (show false = true from hs) Bool.false_ne_true
  | _ => cases y <;> exact absurd (show false = true from hs) Bool.false_ne_true

theorem op_lt : OpR X (compareOp .Lt) (rI0 fun i j => .bl (decide (i < j))) := opB0 fun _ _ _ _ _ _ _ q => lt_int q
theorem op_le : OpR X (compareOp .LtE) (rI0 fun i j => .bl (decide (i ≤ j))) := opB0 fun _ _ _ _ _ _ _ q => le_int q
theorem op_ge : OpR X (compareOp .GtE) (rI0 fun i j => .bl (decide (j ≤ i))) := opB0 fun _ _ _ _ _ _ _ q => ge_int q
/-- is, is not of two objects that are tracked lists or instances -/
def isObj : HO → Bool
  | .lst _ => true
  | .ins _ _ _ => true
  | _ => false
theorem nomark (b : Expr) {op : CmpOp} (h : op ≠ .In := by decide) (h2 : op ≠ .NotIn := by decide) : behindInMarks op b = false := by
  have e1 : (op == CmpOp.In) = false := by cases op <;> first | rfl | exact absurd rfl h
  have e2 : (op == CmpOp.NotIn) = false := by cases op <;> first | rfl | exact absurd rfl h2
  cases b <;> simp [behindInMarks, e1, e2]
/-- a comparison as a value; hm: nomark b, or (for in, not in) by with_unfolding_all rfl -/
theorem pe_cmpR {op : CmpOp} {r : R2} (ho : OpR X (compareOp op) r) (ha : PE X a ta) (hb : PE X b tb) (hm : behindInMarks op b = false) : PE X (.Compare a [op] [b] pos) (tOp r ta tb) := by
  intro pins s σ H Q I h
  exact wpAny_Compare1 (binT ha hb I h fun v u s2 x y H2 I2 rx ry q => ho pins s2 σ H2 x y v u Q I2 rx ry q) hm
/-- a reading of a value as a test -/
def tTest (t : TE) : TT := fun σ H Q => t σ H fun x H' => ∃ k, x = .bl k ∧ Q k H'
theorem pt_cmpR {op : CmpOp} {r : R2} (ho : OpR X (compareOp op) r) (ha : PE X a ta) (hb : PE X b tb) (hm : behindInMarks op b = false) : PT X (.Compare a [op] [b] pos) (tTest (tOp r ta tb)) := by
  intro pins s σ H Q I h
  refine wpAny_isTrue_Compare1 (thn (ha pins s σ H _ I h) fun v s1 ⟨x, H1, I1, r1, q1⟩ => thn (hb pins s1 σ H1 _ I1 q1) fun u s2 ⟨y, H2, I2, r2, q2⟩ =>
    thn (ho pins s2 σ H2 x y v u _ I2 r1 r2 q2) fun c s3 ⟨z, H3, I3, r3, k, e, q3⟩ => ?_) hm
  subst e
  cases r3
  exact wpAny_truthy_bool ⟨H3, I3, q3⟩
/-- a op1 b op2 c -/
def tChain (r r' : R2) (ta tb tc : TE) : TE := fun σ H Q => ta σ H fun x H1 => tb σ H1 fun y H2 => r x y H2 fun z H3 => ∃ k, z = .bl k ∧
  (if k = true then tc σ H3 fun w' H4 => r' y w' H4 Q else Q (.bl false) H3)
theorem pe_chain {op op' : CmpOp} {r r' : R2} (ho : OpR X (compareOp op) r) (ho' : OpR X (compareOp op') r') (ha : PE X a ta) (hb : PE X b tb) (hc : PE X c tc)
    (hm : lastMarks [op, op'] [b, c] = false := by with_unfolding_all rfl) : PE X (.Compare a [op, op'] [b, c] pos) (tChain r r' ta tb tc) := by
  intro pins s σ H Q I h
  refine Compare_chain (thn (ha pins s σ H _ I h) fun v s1 ⟨x, H1, I1, r1, q1⟩ => chain_link (thn (hb pins s1 σ H1 _ I1 q1) fun u s2 ⟨y, H2, I2, r2, q2⟩ =>
    thn (ho pins s2 σ H2 x y v u _ I2 r1 r2 q2) fun d s3 ⟨z, H3, I3, r3, k, e, q3⟩ => ?_)) hm
  subst e
  cases r3
  refine wpAny_truthy_bool ?_
  cases k with
  | false => exact ite_ff ⟨.bl false, H3, I3, rfl, q3⟩
  | true => exact ite_tt (chain_last (thn (hc pins s3 σ H3 _ I3 q3) fun w' s4 ⟨z', H4, I4, r4, q4⟩ => ho' pins s4 σ H4 y z' u w' Q I4 r2 r4 q4))
theorem pt_chain {op op' : CmpOp} {r r' : R2} (ho : OpR X (compareOp op) r) (ho' : OpR X (compareOp op') r') (ha : PE X a ta) (hb : PE X b tb) (hc : PE X c tc)
    (hm : lastMarks [op, op'] [b, c] = false := by with_unfolding_all rfl) : PT X (.Compare a [op, op'] [b, c] pos) (tTest (tChain r r' ta tb tc)) := by
  intro pins s σ H Q I h
  refine isTrue_chain (thn (ha pins s σ H _ I h) fun v s1 ⟨x, H1, I1, r1, q1⟩ => test_link (thn (hb pins s1 σ H1 _ I1 q1) fun u s2 ⟨y, H2, I2, r2, q2⟩ =>
    thn (ho pins s2 σ H2 x y v u _ I2 r1 r2 q2) fun d s3 ⟨z, H3, I3, r3, k, e, q3⟩ => ?_)) hm
  subst e
  cases r3
  refine wpAny_truthy_bool ?_
  cases k with
  | false =>
    obtain ⟨k', e', q'⟩ := q3
    cases e'
    exact ite_ff ⟨H3, I3, q'⟩
  | true =>
    refine ite_tt (test_last (thn (hc pins s3 σ H3 _ I3 q3) fun w' s4 ⟨z', H4, I4, r4, q4⟩ => thn (ho' pins s4 σ H4 y z' u w' _ I4 r2 r4 q4) fun d' s5 ⟨z2, H5, I5, r5, k2, e2, q5⟩ => ?_))
    subst e2
    cases r5
    exact wpAny_truthy_bool ⟨H5, I5, q5⟩

/-! ### truth -/
/-- a value's truth by the abstract heap -/
def TruV (K : PySem.W.Frag) (x : V) (H : Hp) (k : Bool) : Prop :=
  match x with
  | .non => k = false
  | .bl b => k = b
  | .int i => k = (i != 0)
  | .str y => y.length ≤ sizeLine ∧ k = ((y.length : Int) != 0)
  | .byt y => y.size ≤ sizeLine ∧ k = ((y.size : Int) != 0)
  | .ref p => (∃ xs, SqL K H p xs ∧ k = !xs.isEmpty) ∨ (∃ xs, SqT K H p xs ∧ k = !xs.isEmpty) ∨ ∃ kvs, H p = some (.dK kvs) ∧ k = !kvs.isEmpty
  | _ => False
theorem line63 : (sizeLine : Nat) < 2 ^ 63 := by rw [sizeLine_eq]; decide
/-! ### strs and bytes -/
def PlainIxT (b : Expr) : Prop := ∀ o i, subscripted b false o i = operate [o, i] (getItem o i)
/-! ### scalar builtins, by CallR -/
theorem vals1 {x : V} {us : List Value} (r : Vals [x] us) : ∃ u, us = [u] ∧ RelV x u := by
  cases r with
  | cons r1 r2 => cases r2; exact ⟨_, rfl, r1⟩
theorem vals2 {x y : V} {us : List Value} (r : Vals [x, y] us) : ∃ u w', us = [u, w'] ∧ RelV x u ∧ RelV y w' := by
  cases r with
  | cons r1 r2 =>
    cases r2 with
    | cons r3 r4 => cases r4; exact ⟨_, _, rfl, r1, r3⟩
theorem call_max2 (hc : X.calm = true) : CallR X (.builtin "max") (fun xs H Q => ∃ i j, xs = [.int i, .int j] ∧ Q (.int (if j > i then j else i)) H) := by
  intro pins s σ H xs us Q I r h
  obtain ⟨i, j, rfl, q⟩ := h
  obtain ⟨u, w', rfl, ⟨t, rfl⟩, ⟨t', rfl⟩⟩ := vals2 r
  refine max_two_ints (I.ok.hd hc) fun h' tk k => ⟨_, H, I.kept k, ?_, q⟩
  by_cases hj : j > i
  · rw [if_pos hj, if_pos hj]; exact ⟨_, rfl⟩
  · rw [if_neg hj, if_neg hj]; exact ⟨_, rfl⟩
theorem call_int1 : CallR X (.type "int") (fun xs H Q => (∃ i, xs = [.int i] ∧ Q (.int i) H) ∨ ∃ k, xs = [.bl k] ∧ Q (.int (if k then 1 else 0)) H) := by
  intro pins s σ H xs us Q I r h
  rcases h with ⟨i, rfl, q⟩ | ⟨k, rfl, q⟩
  · obtain ⟨u, rfl, t, rfl⟩ := vals1 r
    exact call_int_int ⟨.int i, H, I, ⟨_, rfl⟩, q⟩
  · obtain ⟨u, rfl, r1⟩ := vals1 r
    cases r1
    exact call_int_bool ⟨.int (if k then 1 else 0), H, I.tok _, ⟨_, rfl⟩, q⟩
theorem call_str_int : CallR X (.type "str") (fun xs H Q => ∃ i, xs = [.int i] ∧ i.natAbs.log2 < 1920 ∧ Q (.str (toString i)) H) := by
  intro pins s σ H xs us Q I r h
  obtain ⟨i, rfl, hz, q⟩ := h
  obtain ⟨u, rfl, t, rfl⟩ := vals1 r
  exact PySem.P.str_of_int hz ⟨.str _, H, I.tok _, ⟨_, rfl⟩, q⟩
/-- len of a str, a bytes, a list, a tuple -/
def LenV (K : PySem.W.Frag) (x : V) (H : Hp) (n : Nat) : Prop :=
  match x with
  | .str y => y.length ≤ sizeLine ∧ n = y.length
  | .byt y => y.size ≤ sizeLine ∧ n = y.size
  | .ref p => (∃ xs, SqL K H p xs ∧ n = xs.length) ∨ ∃ xs, SqT K H p xs ∧ n = xs.length
  | _ => False
end
end L2

namespace L2
open PySem PySem.Spec PyProof.Rows

/-! ### an instance, its attributes a map -/
structure ObjM (h : Heap) (x dx C : Addr) (mA : Str → Option Value) : Prop where
  obj : h.get? x = some (PySem.W.instObj C dx)
  ns : h.Ns1 dx mA
  ne : dx ≠ x

section
variable {prog : Program} {w : World} {A : Around} {E : Value → Shared → Prop} {s : Shared} {K : PySem.W.Frag} {x dx C f : Addr} {mA : Str → Option Value} {name : Str} {v : Value}

end

/-! ### the attributes as a list of pairs -/
def putF (f : Str) (v : V) : List (Str × V) → List (Str × V)
  | [] => [(f, v)]
  | (g, x) :: r => if g = f then (g, v) :: r else (g, x) :: putF f v r
section
variable {P : Program} {w : World} {H H' : Hp} {h h' : Heap} {a C dx : Addr} {fs fs' : List (Str × V)}
end

/-! ### what of the text a class must have -/
structure Cls (K : PySem.W.Frag) (C : Addr) : Prop where
  pg : PySem.W.plainGet K C Str.empty = true
  hd : PySem.W.hasDictIn K C = true
  po : PySem.W.plainOver K C = true
  sa : PySem.W.findIn K (.ref C) "__setattr__" = some (some (.builtin "object.__setattr__"))
/-- no class of it has the name -/
def NoAttr (K : PySem.W.Frag) (C : Addr) (f : Str) : Prop := PySem.W.findIn K (.ref C) f = some none
/-- a constant of the class -/
structure Con (K : PySem.W.Frag) (C : Addr) (f : Str) (v : V) (u : Value) : Prop where
  at_ : PySem.W.findIn K (.ref C) f = some (some u)
  rel : RelV v u
  get : PySem.W.specialIn K u "__get__" = some none
  cp : PySem.W.copiedNames.contains f = false
/-- a method: a plain def of the class or of one above it -/
structure Meth (K : PySem.W.Frag) (C : Addr) (m : Str) (f : Addr) : Prop where
  at_ : PySem.W.findIn K (.ref C) m = some (some (.ref f))
  fn : PySem.W.isFn K (.ref f) = true
  kp : PySem.W.keepIn K (.ref f) = true

section
variable {X : Cx} {pins : List (Addr × Obj)} {σ : St} {H : Hp} {s : Shared} {a C dx : Addr} {fs : List (Str × V)} {f : Str} {v : V} {A : Around} {E : Value → Shared → Prop}

end

/-! ### readings and rules -/
/-- e.f, an attribute of the instance -/
def tFld (K : PySem.W.Frag) (ta : TE) (f : Str) : TE := fun σ H Q => ta σ H fun x H1 => ∃ a C dx fs v, x = .ref a ∧ H1 a = some (.ins C dx fs) ∧ Cls K C ∧ NoAttr K C f ∧ fs.lookup f = some v ∧ Q v H1
/-- e.f, a constant of the class -/
def tCon (K : PySem.W.Frag) (ta : TE) (f : Str) : TE := fun σ H Q => ta σ H fun x H1 => ∃ a C dx fs v u, x = .ref a ∧ H1 a = some (.ins C dx fs) ∧ Cls K C ∧ Con K C f v u ∧ fs.lookup f = none ∧ Q v H1
/-- e.f = value -/
def sFld (K : PySem.W.Frag) (ta tv : TE) (f : Str) : TS := fun D σ H => tv σ H fun y H1 => ta σ H1 fun x H2 => ∃ a C dx fs, x = .ref a ∧ H2 a = some (.ins C dx fs) ∧ Cls K C ∧ NoAttr K C f ∧ fs.length < 1000 ∧
  D.nx σ (upd H2 a (.ins C dx (putF f y fs)))
/-- an augmented operator on two values -/
def InOp (X : Cx) (op : Operator) (rd : V → V → Hp → VK → Prop) : Prop :=
  ∀ (pins : List (Addr × Obj)) (s : Shared) (σ : St) (H : Hp) (x y : V) (u v : Value) (Q : VK), Inv X pins σ H s → RelV x u → RelV y v → rd x y H Q → wpAny (model X.prog X.w) X.A (inplaceOp op u v) (EP X pins σ Q) X.xe s
/-- e.f op= value -/
def sFldAug (K : PySem.W.Frag) (ta tv : TE) (rd : V → V → Hp → VK → Prop) (f : Str) : TS := fun D σ H => ta σ H fun x H1 => ∃ a C dx fs v, x = .ref a ∧ H1 a = some (.ins C dx fs) ∧ Cls K C ∧ NoAttr K C f ∧ fs.lookup f = some v ∧
  tv σ H1 fun y H2 => rd v y H2 fun z H3 => ∃ dx' fs', H3 a = some (.ins C dx' fs') ∧ fs'.length < 1000 ∧ D.nx σ (upd H3 a (.ins C dx' (putF f z fs')))

section
variable {X : Cx} {o e value : Expr} {f : Str} {pos pos' tpos : Pos} {ta tv : TE}
def rAdd : V → V → Hp → VK → Prop := fun x y H Q => ∃ i j, x = .int i ∧ y = .int j ∧ Q (.int (i + j)) H
def rSub : V → V → Hp → VK → Prop := fun x y H Q => ∃ i j, x = .int i ∧ y = .int j ∧ Q (.int (i - j)) H
end

/-! ### isinstance -/
section
variable {X : Cx} {pins : List (Addr × Obj)} {σ : St} {H : Hp} {s : Shared} {A : Around} {E : Value → Shared → Prop} {Q : Value → Shared → Prop} {c : Value} {b : Bool}
/-- the type of a value, as the fragment's deciders take it; for an instance its class -/
inductive TyOf (K : PySem.W.Frag) (H : Hp) : V → Value → Prop where
  | non : TyOf K H .non (.type "NoneType")
  | bl (x : Bool) : TyOf K H (.bl x) (.type "bool")
  | int (i : Int) : TyOf K H (.int i) (.type "int")
  | str (x : Str) : TyOf K H (.str x) (.type "str")
  | flt (x : UInt64) : TyOf K H (.flt x) (.type "float")
  | lst {a : Addr} {xs : List V} (e : H a = some (.lst xs)) : TyOf K H (.ref a) (.type "list")
  | frz {a : Addr} {o : Obj} {xs : List V} (e : H a = some (.frz o (.lst xs))) : TyOf K H (.ref a) (.type "list")
  | tup {a : Addr} {xs : List V} (e : H a = some (.tup xs)) : TyOf K H (.ref a) (.type "tuple")
  | dK {a : Addr} {kvs : List (Key × V)} (e : H a = some (.dK kvs)) : TyOf K H (.ref a) (.type "dict")
  | dT {a : Addr} {kvs : List (List Key × V)} (e : H a = some (.dT kvs)) : TyOf K H (.ref a) (.type "dict")
  | ins {a C dx : Addr} {fs : List (Str × V)} (e : H a = some (.ins C dx fs)) (cl : Cls K C) (ha : PySem.W.findIn K (.ref C) "__class__" = some (some (.builtin "object.__class__")))
      (hn : PySem.W.specialIn K (.builtin "object.__class__") "__get__" = some (some (.builtin "getset_descriptor.__get__"))) (htk : PySem.W.takesIn K (.builtin "object.__class__") = some true)
      (hm : PySem.W.mroIn K C (.type "object") = some true) : TyOf K H (.ref a) (.ref C)
end
end L2

namespace L2
open PySem PySem.Spec PyProof.Rows

/-! ### room -/
structure Room (k : Nat) (A : Around) : Prop where
  hd : A.handled = none
  dp : A.depth + 3 * k + 5 < recursionLimit
  un : A.units + 16 * k + 200 < cLine
theorem Room.mono {j k : Nat} {A : Around} (r : Room k A) (h : j ≤ k) : Room j A := ⟨r.hd, by have := r.dp; omega, by have := r.un; omega⟩
theorem Room.deeper {k : Nat} {A : Around} (r : Room (k + 1) A) (env : Env) : Room k (A.deeper env) :=
  ⟨r.hd, by have := r.dp; show A.depth + 1 + 3 * k + 5 < _; omega, by have := r.un; show A.units + 3 + 16 * k + 200 < _; omega⟩
theorem Room.depth {k : Nat} {A : Around} (r : Room k A) : A.depth < recursionLimit := by have := r.dp; omega
theorem Room.units {k : Nat} {A : Around} (r : Room k A) : A.units + 64 < cLine := by have := r.un; omega
/-! ### argument lists and displays -/
def tNil : TA := fun _ H Q => Q [] H
def tCons (ta : TE) (tr : TA) : TA := fun σ H Q => ta σ H fun x H1 => tr σ H1 fun xs H2 => Q (x :: xs) H2
section
variable {X : Cx} {e : Expr} {es : List Expr} {te : TE} {t : TA} {pos : Pos}
theorem pa_nil : PA X [] tNil := fun _ _ _ _ H Q I h => Calls.spliced_nil ⟨[], H, I, .nil, h⟩
theorem pa_cons (ha : PE X e te) (hr : PA X es t) (hs : starEach (e :: es) X.env = (false, eval e X.env) :: starEach es X.env := by rfl) : PA X (e :: es) (tCons te t) := by
  intro pos pins s σ H Q I h
  rw [hs]
  show wpAny _ _ (spliced ((false, eval e X.env) :: backTo pos (starEach es X.env))) _ _ s
  refine Calls.spliced_cons (thn (ha pins s σ H _ I h) fun u s1 ⟨x, H1, I1, r1, q1⟩ => ?_)
  exact thn (hr pos pins s1 σ H1 _ I1 q1) fun us s2 ⟨xs, H2, I2, r2, q2⟩ => ⟨x :: xs, H2, I2, .cons r1 r2, q2⟩

/-- a tuple, a list of written items -/
def tTup (t : TA) : TE := fun σ H Q => t σ H fun xs H1 => xs.length ≤ sizeLine ∧ ∀ p, H1 p = none → Q (.ref p) (upd H1 p (.tup xs))
def tLst (t : TA) : TE := fun σ H Q => t σ H fun xs H1 => xs.length ≤ sizeLine ∧ ∀ p, H1 p = none → Q (.ref p) (upd H1 p (.lst xs))
theorem pe_tup {x1} (h : PA X es t) : PE X (.Tuple es x1 pos) (tTup t) := by
  intro pins s σ H Q I hq
  refine wpAny_Tuple_spliced (thn (h pos pins s σ H _ I hq) fun us s1 ⟨xs, H1, I1, r, z, q⟩ => ⟨by rw [← r.length]; exact z, ?_⟩)
  have hf : H1 s1.heap.objs.size = none := I1.hok.fresh (Nat.le_refl _)
  refine ⟨.ref s1.heap.objs.size, upd H1 s1.heap.objs.size (.tup xs), I1.laid (t' := s1.toks) (fun b u e => Heap.get?_push_of_some _ e) (Nat.le_refl _) ?_, rfl, q _ hf⟩
  exact ⟨z, us, r, ⟨_, Heap.get?_push_size _ rfl, rfl, _, rfl⟩⟩
theorem pe_lst (h : PA X es t) : PE X (.List es pos) (tLst t) := by
  intro pins s σ H Q I hq
  refine wpAny_List_spliced (thn (h pos pins s σ H _ I hq) fun us s1 ⟨xs, H1, I1, r, z, q⟩ => ⟨by rw [← r.length]; exact z, ?_⟩)
  have hf : H1 s1.heap.objs.size = none := I1.hok.fresh (Nat.le_refl _)
  refine ⟨.ref s1.heap.objs.size, upd H1 s1.heap.objs.size (.lst xs), I1.laid (t' := s1.toks) (fun b u e => Heap.get?_push_of_some _ e) (Nat.le_refl _) ?_, rfl, q _ hf⟩
  exact ⟨z, us, 0, r, Heap.get?_push_size _ rfl⟩
end

/-! ### what a def promises -/
/-- a def's promise: the bound arguments in the parameters' order, the heap, the wanted end, the wanted exception -/
abbrev Sp := List V → Hp → VK → XK → Prop
/-- how an exception lies behind a call (file 08 gives it): the callers' frames, abstract heap and state ahead of the call, the wish, the exception, the state -/
abbrev CXT := List Env → Hp → Shared → XK → Value → Shared → Prop

/-- the state at a call -/
structure Env0 (P : Program) (w : World) (K : PySem.W.Frag) (mg : Str → Option Value) (base : Heap) (A : Around) (outer : List Env) (s : Shared) (H : Hp) : Prop where
  frames : A.frames = some outer
  mod : Mod K mg base
  bs : ∀ b o, base.get? b = some o → s.heap.get? b = some o ∧ H b = none
  bsz : base.objs.size ≤ s.heap.objs.size
  funs : s.heap.FunFrames base outer
  frf : ∀ b ∈ frs outer, H b = none
  hok : HOk P w H s.heap
  bare : AllBare s.gens
/-- a call's end -/
def CE (outer : List Env) (P : Program) (w : World) (H : Hp) (s : Shared) (Q : VK) (u : Value) (s' : Shared) : Prop :=
  ∃ v H', s'.os = s.os ∧ AllBare s'.gens ∧ Un (frs outer) [] H H' s.heap s'.heap ∧ HOk P w H' s'.heap ∧ RelV v u ∧ Q v H'
def CR (CX : CXT) (outer : List Env) (P : Program) (w : World) (H : Hp) (s : Shared) (Q : VK) (E : XK) (r : Result) (s' : Shared) : Prop :=
  match r with
  | .ok (.ret u) => CE outer P w H s Q u s'
  | .ok _ => False
  | .error e => CX outer H s E e s'
structure FnOk (P : Program) (w : World) (K : PySem.W.Frag) (mg : Str → Option Value) (base : Heap) (CX : CXT) (k : Nat) (f : Addr) (fd : FuncData) (ps : List Str) (sp : Sp) : Prop where
  len : ∀ vs H Q E, sp vs H Q E → vs.length = ps.length
  run : ∀ (A : Around) (outer : List Env) (s : Shared) (H : Hp) (args : Args) (us : List Value) (vs : List V) (Q : VK) (E : XK), Room k A → Env0 P w K mg base A outer s H → BindsTo s fd args (ps.zip us) → Vals vs us → sp vs H Q E →
    codeAny (model P w) A (.call (.ref f) args) (CR CX outer P w H s Q E) s
section
variable {X : Cx} {pins : List (Addr × Obj)} {σ : St} {H : Hp} {s s' : Shared}
/-- from a body: what a callee wants -/
theorem Inv.env0 (I : Inv X pins σ H s) : Env0 X.prog X.w X.K X.mg X.base X.A X.stack s H :=
  ⟨I.ok.frames, I.ok.mod, I.bs, Nat.le_trans I.ok.bsz I.sz, I.stack, I.stkFree, I.hok, I.bare⟩
/-- behind a call -/
theorem Inv.after {Q : VK} {u : Value} (I : Inv X pins σ H s) (h : CE X.stack X.prog X.w H s Q u s') : EP X pins σ Q u s' := by
  obtain ⟨v, H', os, bare, un, hok, r, q⟩ := h
  obtain ⟨hh, g, d, t, os'⟩ := s'
  obtain rfl : os' = s.os := os
  exact ⟨v, H', I.call (h' := hh) (g' := g) (d' := d) (t' := t) (ch := []) un hok bare (fun b z => absurd z (by simp)), r, q⟩
end

/-! ### calls -/
/-- f(..): the written arguments, then the defaults dvs; E: what is wanted of an exception -/
def tCall (sp : Sp) (dvs : List V) (E : XK) (t : TA) : TE := fun σ H Q => t σ H fun vs H1 => sp (vs ++ dvs) H1 Q E
/-- o.m(..) of an instance of the class at C -/
def tMeth (C : Addr) (m : Str) (sp : Sp) (dvs : List V) (E : XK) (ta : TE) (t : TA) : TE := fun σ H Q => ta σ H fun x H1 => ∃ a dx fs, x = .ref a ∧ H1 a = some (.ins C dx fs) ∧ fs.lookup m = none ∧
  t σ H1 fun vs H2 => sp (x :: (vs ++ dvs)) H2 Q E
/-- C(..): a new instance and its dict, then __init__ -/
def tMake (C : Addr) (sp : Sp) (dvs : List V) (E : XK) (t : TA) : TE := fun σ H Q => t σ H fun vs H1 => ∀ x dx, H1 x = none → H1 dx = none → dx ≠ x →
  sp (.ref x :: (vs ++ dvs)) (upd (upd H1 dx (.own x)) x (.ins C dx [])) (fun v H2 => v = .non ∧ Q (.ref x) H2) E

/-- how the parameters are bound: us the positional arguments, kw the keywords' values by name, ds the defaults that fill up -/
def Binds (K : PySem.W.Frag) (fd : FuncData) (ps : List Str) (ds : List Value) : Prop :=
  ∀ (s : Shared) (us : List Value), K.In s.heap → (us ++ ds).length = ps.length → BindsTo s fd ⟨us, []⟩ (ps.zip (us ++ ds))
/-- every parameter is given -/
theorem Binds.all {K : PySem.W.Frag} {fd : FuncData} {ps : List Str} (h : ∀ us : List Value, us.length = ps.length → bindArgs fd ⟨us, []⟩ = pure (ps.zip us)) : Binds K fd ps [] := fun s us _ hl => by
  rw [List.append_nil] at hl ⊢
  exact .of_eq (h us hl)

/-- an exception of a callee reaches what this body wants of exceptions -/
def Passes (CX : CXT) (X : Cx) (E : XK) : Prop := ∀ (pins : List (Addr × Obj)) (σ : St) (H : Hp) (s : Shared) (e : Value) (s' : Shared), Inv X pins σ H s → CX X.stack H s E e s' → X.xe e s'

section
variable {X : Cx} {CX : CXT} {k : Nat} {f C : Addr} {fd : FuncData} {ps : List Str} {sp : Sp} {dvs : List V} {ds : List Value} {E : XK} {x m : Str} {p pos apos : Pos} {e o : Expr} {es : List Expr} {ta : TE} {t : TA}

/-- the callee runs -/
theorem run_fn {pins : List (Addr × Obj)} {σ : St} {H : Hp} {s : Shared} {Q : VK} {us : List Value} {vs : List V} (F : FnOk X.prog X.w X.K X.mg X.base CX k f fd ps sp) (hr : Room k X.A) (hb : Binds X.K fd ps ds) (hd : Vals dvs ds) (hx : Passes CX X E)
    (I : Inv X pins σ H s) (r : Vals vs us) (h : sp (vs ++ dvs) H Q E) : wpAny (model X.prog X.w) X.A (call (.ref f) us) (EP X pins σ Q) X.xe s := by
  have r2 : Vals (vs ++ dvs) (us ++ ds) := r.append hd
  have hl : (us ++ ds).length = ps.length := by rw [← r2.length]; exact F.len _ _ _ _ h
  refine wpAny_call (codeAny_mono (F.run X.A X.stack s H ⟨us, []⟩ (us ++ ds) (vs ++ dvs) Q E hr I.env0 (hb s us I.kIn hl) r2 h) fun r s' hq => ?_)
  cases r with
  | error e => exact hx pins σ H s e s' I hq
  | ok fl =>
    cases fl with
    | ret u => exact I.after hq
    | next => exact False.elim hq
    | brk => exact False.elim hq
    | cont => exact False.elim hq

theorem pe_call (F : FnOk X.prog X.w X.K X.mg X.base CX k f fd ps sp) (hr : Room k X.A) (hg : Gl X x) (hm : X.mg x = some (.ref f)) (hk : PySem.W.keepIn X.K (.ref f) = true) (hb : Binds X.K fd ps ds) (hd : Vals dvs ds) (hx : Passes CX X E)
    (ha : PA X (e :: es) t) (hdb : (x == ("__debug__" : Str)) = false := by decide) (he : starEach (e :: es) X.env = (false, eval e X.env) :: starEach es X.env := by rfl) (hpl : (backTo pos (starEach es X.env)).any (·.1) = false := by rfl) :
    PE X (.Call (.Name x p) (e :: es) [] pos) (tCall sp dvs E t) := by
  intro pins s σ H Q I h
  refine wpAny_Call_Name_kw (ld_glob I hg hm ?_ hdb)
  refine PySem.W.callWith_K (h₀ := X.base) I.ok.mod.kin hk (thn (ha pos pins s σ H _ I h) fun us s1 ⟨vs, H1, I1, r, q⟩ => ⟨I1.kIn, ?_⟩) he hpl
  exact run_fn F hr hb hd hx I1 r q
/-- what a class must have to be made -/
structure Mk (K : PySem.W.Frag) (C f : Addr) : Prop where
  makes : PySem.W.makesIn K C = true
  init : PySem.W.findIn K (.ref C) "__init__" = some (some (.ref f))
  fn : PySem.W.isFn K (.ref f) = true
  kp : PySem.W.keepIn K (.ref C) = true

end

/-! ### keywords -/
/-- the values of the keywords, from the left -/
def PK (X : Cx) (kws : List Keyword) (t : TA) : Prop :=
  ∀ (pos : Pos) (pins : List (Addr × Obj)) (s : Shared) (σ : St) (H : Hp) (Q : List V → Hp → Prop), Inv X pins σ H s → t σ H Q → wpAny (model X.prog X.w) X.A (evalAll ((backToKw pos (keywordEach kws X.env)).map (·.2))) (AP X pins σ Q) X.xe s
section
variable {X : Cx} {CX : CXT} {k : Nat} {f C : Addr} {fd : FuncData} {ps ks : List Str} {sp : Sp} {E : XK} {x m : Str} {p pos apos kpos : Pos} {e o : Expr} {es : List Expr} {kws : List Keyword} {te ta : TE} {t tk : TA} {nm : Option Str}
/-- how a call with keywords binds: g puts the positional values us and the keywords' values ws (names ks) in the parameters' order, defaults among them -/
structure KBinds (K : PySem.W.Frag) (fd : FuncData) (ps ks : List Str) (g : List Value → List Value → List Value) (gV : List V → List V → List V) : Prop where
  to : ∀ (s : Shared) (us ws : List Value), K.In s.heap → (g us ws).length = ps.length → BindsTo s fd ⟨us, ks.zip ws⟩ (ps.zip (g us ws))
  rel : ∀ {vs : List V} {us : List Value} {zs : List V} {ws : List Value}, Vals vs us → Vals zs ws → Vals (gV vs zs) (g us ws)
def tCallK (sp : Sp) (gV : List V → List V → List V) (E : XK) (t tk : TA) : TE := fun σ H Q => t σ H fun vs H1 => tk σ H1 fun zs H2 => sp (gV vs zs) H2 Q E
variable {g : List Value → List Value → List Value} {gV : List V → List V → List V}
end

/-! ### a def's body keeps its promise -/
/-- names: the parameters first -/
structure FnScope (N P : List Str) (sc : Scope) : Prop where
  kind : sc.kind = .function
  co : sc.isCoroutine = false
  gen : sc.isGenerator = false
  nd : N.Nodup
  pre : N.take P.length = P
  par : ∀ x ∈ P, sc.names.lookup x = some .local ∨ sc.names.lookup x = some .cell
  nofree : ∀ y ∈ sc.names, y.2 ≠ .free

theorem bindL_out {kindOf : Str → Option NameKind} {x : Str} : ∀ {binds : List (Str × Value)} {m : Str → Option Value}, (∀ v, (x, v) ∉ binds) → bindL kindOf binds m x = m x
  | [], _, _ => rfl
  | (n, v) :: r, m, h => by
    unfold bindL
    rw [bindL_out fun w hw => h w (List.mem_cons_of_mem _ hw)]
    split
    · have : x ≠ n := by rintro rfl; exact h v List.mem_cons_self
      simp [this]
    · rfl
theorem bindC_out {kindOf : Str → Option NameKind} {x : Str} : ∀ {binds : List (Str × Value)} {m : Str → Option Value}, (∀ v, (x, v) ∉ binds) → bindC kindOf binds m x = m x
  | [], _, _ => rfl
  | (n, v) :: r, m, h => by
    unfold bindC
    rw [bindC_out fun w hw => h w (List.mem_cons_of_mem _ hw)]
    split
    · rfl
    · have : x ≠ n := by rintro rfl; exact h v List.mem_cons_self
      simp [this]
theorem bindL_get {kindOf : Str → Option NameKind} {x : Str} {v : Value} : ∀ {P : List Str} {vs : List Value} {i : Nat} {m : Str → Option Value}, P.Nodup → P[i]? = some x → vs[i]? = some v → kindOf x = some .local →
    bindL kindOf (P.zip vs) m x = some v
  | [], _, _, _, _, h, _, _ => by simp at h
  | _ :: _, [], _, _, _, _, h, _ => by simp at h
  | p :: P, w :: vs, 0, m, nd, h1, h2, hk => by
    simp at h1 h2; subst h1; subst h2
    show bindL kindOf ((p, w) :: P.zip vs) m p = _
    unfold bindL
    rw [bindL_out fun v hv => (List.nodup_cons.mp nd).1 (List.of_mem_zip hv).1, if_pos hk]
    simp
  | p :: P, w :: vs, i + 1, m, nd, h1, h2, hk => by
    show bindL kindOf ((p, w) :: P.zip vs) m x = _
    unfold bindL
    exact bindL_get (i := i) (List.nodup_cons.mp nd).2 (by simpa using h1) (by simpa using h2) hk
theorem bindC_get {kindOf : Str → Option NameKind} {x : Str} {v : Value} : ∀ {P : List Str} {vs : List Value} {i : Nat} {m : Str → Option Value}, P.Nodup → P[i]? = some x → vs[i]? = some v → kindOf x ≠ some .local →
    bindC kindOf (P.zip vs) m x = some v
  | [], _, _, _, _, h, _, _ => by simp at h
  | _ :: _, [], _, _, _, _, h, _ => by simp at h
  | p :: P, w :: vs, 0, m, nd, h1, h2, hk => by
    simp at h1 h2; subst h1; subst h2
    show bindC kindOf ((p, w) :: P.zip vs) m p = _
    unfold bindC
    rw [bindC_out fun v hv => (List.nodup_cons.mp nd).1 (List.of_mem_zip hv).1, if_neg hk]
    simp
  | p :: P, w :: vs, i + 1, m, nd, h1, h2, hk => by
    show bindC kindOf ((p, w) :: P.zip vs) m x = _
    unfold bindC
    exact bindC_get (i := i) (List.nodup_cons.mp nd).2 (by simpa using h1) (by simpa using h2) hk

/-- the names' values at the entry -/
def start (N : List Str) (vs : List V) : St := vs.map some ++ List.replicate (N.length - vs.length) none

/-- the context of a def's body, at its entry; an exception leaves the frame, then lies as CX says -/
def cxOf (CX : CXT) (P : Program) (w : World) (K : PySem.W.Frag) (mg : Str → Option Value) (base : Heap) (N : List Str) (qual : Str) (scope : Scope) (f : Addr) (cd : Value) (A : Around) (outer : List Env) (s : Shared) (H : Hp) (E : XK) : Cx where
  prog := P
  w := w
  K := K
  mg := mg
  base := base
  A := A.deeper (envOfC qual scope s.heap.objs.size f cd)
  N := N
  s₀ := s
  H₀ := H
  env := envOfC qual scope s.heap.objs.size f cd
  outer := outer
  stack := envOfC qual scope s.heap.objs.size f cd :: outer
  ex := []
  calm := true
  fn := fun _ => true
  pn := []
  xe := fun e s' => wpAny (model P w) (A.deeper (envOfC qual scope s.heap.objs.size f cd)) (leaving (envOfC qual scope s.heap.objs.size f cd) e) (fun _ s'' => CX outer H s E e s'') (fun e' s'' => CX outer H s E e' s'') s'

theorem cell_has {sc : Scope} {n : Nat} {x : Str} (h : sc.names.lookup x = some .cell) : ∃ c, (cellsFrom n sc.names []).lookup x = some c := by
  have q := PySem.W.cellsFrom_some sc.names n [] (.inl h)
  exact Option.isSome_iff_exists.mp q

theorem inv_start {CX : CXT} {P : Program} {w : World} {K : PySem.W.Frag} {mg : Str → Option Value} {base : Heap} {N ps : List Str} {qual : Str} {scope : Scope} {f : Addr} {cd : Value} {A : Around} {outer : List Env} {s s1 : Shared} {H : Hp} {E : XK} {us : List Value} {vs : List V}
    (S : FnScope N ps scope) (hd : A.handled = none) (e0 : Env0 P w K mg base A outer s H) (hl : vs.length = ps.length) (r : Vals vs us)
    (x : InCallC s s.heap.objs.size (bindL (envOfC qual scope s.heap.objs.size f cd).kindOf (ps.zip us) fun _ => none) (cellsFrom (s.heap.objs.size + 1) scope.names []) (bindC (envOfC qual scope s.heap.objs.size f cd).kindOf (ps.zip us) fun _ => none) s1) :
    Inv (cxOf CX P w K mg base N qual scope f cd A outer s H E) [] (start N vs) H s1 := by
  have hpl : ps.length ≤ N.length := by have := congrArg List.length S.pre; rw [List.length_take] at this; omega
  obtain ⟨h1, tk, rfl, hk⟩ := x.done
  have noA : ∀ b : Addr, b ∉ (cxOf CX P w K mg base N qual scope f cd A outer s H E).ex := fun b z => absurd (show b ∈ ([] : List Addr) from z) (by simp)
  refine ⟨⟨e0.mod, S.kind, rfl, rfl, Nat.le_refl _, fun y z c h1 h2 => ?_, fun y hy => ?_, fun y c _ h => ?_, fun _ => hd, Around.frames_deeper e0.frames, .inr ⟨rfl, rfl⟩, fun b z => absurd z (noA b), e0.bs, e0.bsz, fun b _ _ => noA b, fun b z => absurd z (noA b), e0.funs, e0.frf⟩,
    rfl, e0.bare, Un.kept hk, ⟨_, x.toInCall.ns, fun i y v h1 h2 h3 => ?_⟩, fun y c h => ⟨_, x.cell y c h⟩, e0.hok.fresh (Nat.le_refl _), fun y c h => ?_, fun p hp => absurd (show p ∈ ([] : List (Addr × Obj)) from hp) (by simp), e0.hok.kept hk, ?_⟩
  · exact name_of_addr x.apart (PySem.mem_of_lookup h1) (PySem.mem_of_lookup h2)
  · have hy : scope.names.lookup y = some .cell ∨ scope.names.lookup y = some .free := hy
    rcases hy with hy | hy
    · exact cell_has hy
    · exact absurd rfl (S.nofree _ (PySem.mem_of_lookup hy))
  · exact Nat.le_of_lt (x.above y c (PySem.mem_of_lookup h))
  · have hi : i < vs.length := by
      unfold start at h2
      by_cases hi : i < vs.length
      · exact hi
      · rw [List.getElem?_append_right (by simpa using hi)] at h2
        rw [List.getElem?_replicate] at h2
        split at h2 <;> cases h2
    have ha : vs[i]? = some v := by
      unfold start at h2
      rw [List.getElem?_append_left (by simpa using hi), List.getElem?_map] at h2
      cases e : vs[i]? with
      | none => rw [e] at h2; cases h2
      | some a => rw [e] at h2; cases h2; rfl
    obtain ⟨u, hu, rv⟩ := r.get ha
    have hp : ps[i]? = some y := by
      rw [← S.pre, List.getElem?_take_of_lt (by omega)]; exact h1
    have ndP : ps.Nodup := by rw [← S.pre]; exact S.nd.sublist (List.take_sublist _ _)
    refine ⟨u, rv, ?_⟩
    rcases S.par y (List.mem_of_getElem? hp) with k | k
    · exact .inl ⟨k, bindL_get ndP hp hu k⟩
    · obtain ⟨c, e⟩ := cell_has (n := s.heap.objs.size + 1) k
      refine .inr ⟨.inl k, c, e, ?_⟩
      have q := x.cell y c e
      rw [bindC_get ndP hp hu (by show scope.names.lookup y ≠ _; rw [k]; decide)] at q
      exact q
  · exact e0.hok.fresh (Nat.le_of_lt (x.above y c (PySem.mem_of_lookup h)))
  · unfold start
    show _ = N.length
    rw [List.length_append, List.length_map, List.length_replicate]
    omega

/-- THE RULE: a def (or a method) of the text, by its body. The body's reading t is chosen for each entry; it is run at the parameters' values -/
theorem fn_of {CX : CXT} {P : Program} {w : World} {K : PySem.W.Frag} {mg : Str → Option Value} {base : Heap} {k : Nat} {f : Addr} {name qual : Str} {params : Arguments} {body : List Stmt} {scope : Scope} {dV kV doc pm cdv ct oc : Value} {an od : Option Addr}
    {osl : Array (Option Value)} {N ps : List Str} {sp : Sp} (lk : K.lookup f = some ⟨oc, od, .func (PySem.W.fnOf name qual params body scope dV kV doc pm an cdv ct), osl⟩) (hcd : PySem.W.codeIn K cdv qual = true) (S : FnScope N ps scope)
    (len : ∀ vs H Q E, sp vs H Q E → vs.length = ps.length)
    (hbody : ∀ (A : Around) (outer : List Env) (s : Shared) (H : Hp) (vs : List V) (Q : VK) (E : XK), Room k (A.deeper (envOfC qual scope s.heap.objs.size f cdv)) → sp vs H Q E →
      ∃ t, PSs (cxOf CX P w K mg base N qual scope f cdv A outer s H E) body t ∧ t { nx := fun _ H' => Q .non H', rt := Q } (start N vs) H) :
    FnOk P w K mg base CX (k + 1) f (PySem.W.fnOf name qual params body scope dV kV doc pm an cdv ct) ps sp := by
  refine ⟨len, fun A outer s H args us vs Q E hr e0 hb r hsp => ?_⟩
  have hl := len _ _ _ _ hsp
  have KX : K.In s.heap := e0.mod.kin.keeps fun b o e => (e0.bs b o e).1
  have lim : s.heap.NoLimit := e0.mod.nolimit.keeps fun b o e => (e0.bs b o e).1
  have hkind : ∀ y ∈ ps.zip us, scope.names.lookup y.1 = some .local ∨ (scope.names.lookup y.1 = some .cell ∧ ((cellsFrom (s.heap.objs.size + 1) scope.names []).lookup y.1).isSome = true) := fun ⟨n, v⟩ hy => by
    rcases S.par n (List.of_mem_zip hy).1 with q | q
    · exact .inl q
    · exact .inr ⟨q, PySem.W.cellsFrom_some _ _ _ (.inl q)⟩
  refine codeAny_call_function hr.depth (KX _ _ lk) rfl S.co S.gen rfl (PySem.W.codeRec_of KX hcd) (hb _ _ _ _ ?_)
  refine wpAny_newFunctionEnv_cells S.kind hkind fun env he s1 x => ?_
  subst he
  refine ⟨lim.keeps x.toInCall.keep, codeAny_func ?_⟩
  obtain ⟨t, ht, hq⟩ := hbody A outer s H vs Q E (hr.deeper _) hsp
  have I : Inv (cxOf CX P w K mg base N qual scope f cdv A outer s H E) [] (start N vs) H s1 := inv_start S hr.hd e0 hl r x
  refine wpAny_mono (ht [] s1 (start N vs) H _ I hq) (fun fl s' hs => ?_) fun e s' hs => hs
  have fin : ∀ {σ' : St} {H' : Hp} {v : V} {u : Value}, Inv (cxOf CX P w K mg base N qual scope f cdv A outer s H E) [] σ' H' s' → RelV v u → Q v H' → CE outer P w H s Q u s' :=
    fun {σ' H' v u} J rv q => ⟨v, H', J.os, J.bare, J.base, J.hok, rv, q⟩
  cases fl with
  | ret u =>
    obtain ⟨v, σ', H', J, rv, q⟩ := hs
    exact fin J rv q
  | next =>
    obtain ⟨σ', H', J, q⟩ := hs
    exact fin (v := V.non) (u := Value.none) J rfl q
  | brk =>
    obtain ⟨_, _, _, q⟩ := hs
    exact False.elim q
  | cont =>
    obtain ⟨_, _, _, q⟩ := hs
    exact False.elim q
end L2

namespace L2
open PySem PySem.Spec PyProof.Rows
section
variable {X : Cx} {x : Str} {p pos : Pos} {e : Expr} {es : List Expr} {t : TA} {id T : String} {r : List V → Hp → VK → Prop}

def tCB (r : List V → Hp → VK → Prop) (t : TA) : TE := fun σ H Q => t σ H fun vs H1 => r vs H1 Q
/-- f(e, ..), f a built-in function -/
theorem pe_callB (hc : CallR X (.builtin id) r) (hg : Gl X x) (hm : X.mg x = none) (hv : bootBuiltins x = some (.builtin id)) (ha : PA X (e :: es) t) (hn : x ≠ "__name__" := by decide) (hdb : (x == ("__debug__" : Str)) = false := by decide)
    (he : starEach (e :: es) X.env = (false, eval e X.env) :: starEach es X.env := by rfl) (hpl : (backTo pos (starEach es X.env)).any (·.1) = false := by rfl) : PE X (.Call (.Name x p) (e :: es) [] pos) (tCB r t) := by
  intro pins s σ H Q I h
  refine wpAny_Call_Name_kw (ld_blt I hg hm hv ?_ hn hdb)
  exact PyProof.Rows.callWith_builtin1 (thn (ha pos pins s σ H _ I h) fun us s1 ⟨vs, H1, I1, r1, q1⟩ => hc pins s1 σ H1 vs us Q I1 r1 q1) he hpl
/-- T(e, ..), T a built-in type -/
theorem pe_callTy (hc : CallR X (.type T) r) (hg : Gl X x) (hm : X.mg x = none) (hv : bootBuiltins x = some (.type T)) (ha : PA X (e :: es) t) (hn : x ≠ "__name__" := by decide) (hdb : (x == ("__debug__" : Str)) = false := by decide)
    (he : starEach (e :: es) X.env = (false, eval e X.env) :: starEach es X.env := by rfl) (hpl : (backTo pos (starEach es X.env)).any (·.1) = false := by rfl) : PE X (.Call (.Name x p) (e :: es) [] pos) (tCB r t) := by
  intro pins s σ H Q I h
  refine wpAny_Call_Name_kw (ld_blt I hg hm hv ?_ hn hdb)
  exact PyProof.Rows.callWith_type1 (thn (ha pos pins s σ H _ I h) fun us s1 ⟨vs, H1, I1, r1, q1⟩ => hc pins s1 σ H1 vs us Q I1 r1 q1) he hpl
end
end L2

namespace L2
open PySem PySem.Spec PyProof.Rows

/-! ### lists of pairs as tables -/
section
variable {κ : Type} [DecidableEq κ]
def valV (kvs : List (κ × V)) (k : κ) : Option V := (kvs.find? fun kv => decide (kv.1 = k)).map (·.2)
/-- in its place, or at the end -/
def putK (kvs : List (κ × V)) (k : κ) (v : V) : List (κ × V) :=
  if (kvs.any fun kv => decide (kv.1 = k)) = true then kvs.map (fun kv => if kv.1 = k then (kv.1, v) else kv) else kvs ++ [(k, v)]
def dropK (kvs : List (κ × V)) (k : κ) : List (κ × V) := kvs.filter fun kv => decide (kv.1 ≠ k)

theorem valV_pos {p : κ × V} {r : List (κ × V)} {k : κ} (e : p.1 = k) : valV (p :: r) k = some p.2 := by simp [valV, List.find?_cons, e]
theorem valV_neg {p : κ × V} {r : List (κ × V)} {k : κ} (e : ¬ p.1 = k) : valV (p :: r) k = valV r k := by simp [valV, List.find?_cons, e]
theorem length_putK (kvs : List (κ × V)) (k : κ) (v : V) : (putK kvs k v).length ≤ kvs.length + 1 := by
  unfold putK
  split
  · rw [List.length_map]; omega
  · rw [List.length_append, List.length_cons, List.length_nil]; omega
end


/-! ### a tracked dict, its keys ints and texts or tuples of these -/
theorem kV_is {P : Program} {w : World} {k : Key} {u : Value} (r : RelV (kV k) u) : (mixKind P w).is k u = true := by
  cases k with
  | inl i => obtain ⟨t, e⟩ := (show ∃ t, u = Value.int i t from r); subst e; exact mixKind_int P w i t
  | inr x => obtain ⟨t, e⟩ := (show ∃ t, u = Value.str x t from r); subst e; exact mixKind_str P w x t
theorem kV_inj {a b : Key} (e : kV a = kV b) : a = b := by
  cases a with
  | inl i => cases b with
    | inl j => have e' : V.int i = V.int j := e; injection e' with e'; rw [e']
    | inr y => exact nomatch (show V.int i = V.str y from e)
  | inr x => cases b with
    | inl j => exact nomatch (show V.str x = V.int j from e)
    | inr y => have e' : V.str x = V.str y := e; injection e' with e'; rw [e']
/-- raw entries of a dict with tuple keys -/
abbrev KT (H : Hp) : List (List Key × V) → List (List Key × Addr × Value) → Prop := Paired fun p q => p.1 = q.1 ∧ H q.2.1 = some (.tup (p.1.map kV)) ∧ RelV p.2 q.2.2
section
variable {P : Program} {w : World} {H : Hp} {h : Heap} {a : Addr}
end

/-- what the dict at a holds at the key y -/
def DGet (H : Hp) (a : Addr) (y : V) (r : Option V) : Prop :=
  (∃ kvs k, Rd H a (.dK kvs) ∧ y = kV k ∧ r = valV kvs k) ∨ ∃ kvs k b, Rd H a (.dT kvs) ∧ y = .ref b ∧ H b = some (.tup (k.map kV)) ∧ r = valV kvs k
/-- the heap behind a[y] = v -/
def DPut (H : Hp) (a : Addr) (y v : V) (H' : Hp) : Prop :=
  (∃ kvs k, H a = some (.dK kvs) ∧ y = kV k ∧ kvs.length < sizeLine ∧ H' = upd H a (.dK (putK kvs k v))) ∨
  ∃ kvs k b, H a = some (.dT kvs) ∧ y = .ref b ∧ H b = some (.tup (k.map kV)) ∧ kvs.length < sizeLine ∧ H' = upd H a (.dT (putK kvs k v))
section
variable {X : Cx} {pins : List (Addr × Obj)} {σ : St} {H : Hp} {s : Shared} {a : Addr} {y v : V} {u r : Value} {o : Option V} {A : Around} {E : Value → Shared → Prop}

end

section
variable {X : Cx} {pins : List (Addr × Obj)} {σ : St} {H : Hp} {s : Shared} {a : Addr} {kvs : List (Key × V)} {k : Key} {u : Value} {A : Around} {E : Value → Shared → Prop}
end


/-! ### readings and rules -/
/-- the element of a subscription, not a slice -/
def NoSl (i : Expr) : Prop := ∀ ov iv, subscripted i false ov iv = operate [ov, iv] (getItem ov iv)
/-- d[y] -/
def tDGet (td ty : TE) : TE := fun σ H Q => td σ H fun x H1 => ty σ H1 fun y H2 => ∃ a v, x = .ref a ∧ DGet H2 a y (some v) ∧ Q v H2
/-- y in d, y not in d -/
def tDIn (ty td : TE) : TE := fun σ H Q => ty σ H fun y H1 => td σ H1 fun x H2 => ∃ a o, x = .ref a ∧ DGet H2 a y o ∧ Q (.bl o.isSome) H2
def tDNotIn (ty td : TE) : TE := fun σ H Q => ty σ H fun y H1 => td σ H1 fun x H2 => ∃ a o, x = .ref a ∧ DGet H2 a y o ∧ Q (.bl (!o.isSome)) H2
/-- d[y] = v -/
def sDPut (td ty tv : TE) : TS := fun D σ H => tv σ H fun v H1 => td σ H1 fun x H2 => ty σ H2 fun y H3 => ∃ a H4, x = .ref a ∧ DPut H3 a y v H4 ∧ D.nx σ H4
/-- d[y] op= v -/
def sDAug (td ty tv : TE) (rd : V → V → Hp → VK → Prop) : TS := fun D σ H => td σ H fun x H1 => ty σ H1 fun y H2 => ∃ a v, x = .ref a ∧ DGet H2 a y (some v) ∧
  tv σ H2 fun y2 H3 => rd v y2 H3 fun z H4 => ∃ H5, DPut H4 a y z H5 ∧ D.nx σ H5
/-- del d[y] -/
def sDDel (td ty : TE) : TS := fun D σ H => td σ H fun x H1 => ty σ H1 fun y H2 => ∃ a kvs k, x = .ref a ∧ H2 a = some (.dK kvs) ∧ y = kV k ∧ (valV kvs k).isSome = true ∧ D.nx σ (upd H2 a (.dK (dropK kvs k)))

section
variable {X : Cx} {o i e value : Expr} {pos pos' tpos : Pos} {td ty tv : TE}
end


/-! ### displays -/
/-- {}, to be a dict of the kind that is wanted -/
def tDNewK : TE := fun _ H Q => ∀ p, H p = none → Q (.ref p) (upd H p (.dK []))
def tDNewT : TE := fun _ H Q => ∀ p, H p = none → Q (.ref p) (upd H p (.dT []))
section
variable {X : Cx} {pos : Pos}
end

/-- the pairs of a display, from the left -/
def tPairs : List (TE × TE) → St → Hp → (List (V × V) → Hp → Prop) → Prop
  | [], _, H, Q => Q [] H
  | (tk, tv) :: r, σ, H, Q => tk σ H fun x H1 => tv σ H1 fun y H2 => tPairs r σ H2 fun ps H3 => Q ((x, y) :: ps) H3
abbrev VV : List (V × V) → List (Value × Value) → Prop := Paired fun p q => RelV p.1 q.1 ∧ RelV p.2 q.2
def PPs (X : Cx) (pos : Pos) (keys : List (Option Expr)) (values : List Expr) (trs : List (TE × TE)) : Prop :=
  ∀ (pins : List (Addr × Obj)) (s : Shared) (σ : St) (H : Hp) (Q : List (V × V) → Hp → Prop), Inv X pins σ H s → tPairs trs σ H Q →
    wpAny (model X.prog X.w) X.A (evalPairs (pairTrees keys values X.env pos)) (fun vs s' => ∃ ps H', Inv X pins σ H' s' ∧ VV ps vs ∧ Q ps H') X.xe s
def mergeK (kvs more : List (Key × V)) : List (Key × V) := more.foldl (fun acc kv => putK acc kv.1 kv.2) kvs
/-- {k: v, ..} with keys ints and texts; the new dict stands empty while the pairs are made -/
def tDisp (trs : List (TE × TE)) : TE := fun σ H Q => ∀ p, H p = none → tPairs trs σ (upd H p (.dK [])) fun ps H2 => H2 p = some (.dK []) ∧ ∃ kvs : List (Key × V), ps = kvs.map (fun kv => (kV kv.1, kv.2)) ∧ kvs.length ≤ 15 ∧ Q (.ref p) (upd H2 p (.dK (mergeK [] kvs)))
/-! ### methods -/
/-- a method call o.m(e) of a built-in, with one argument: what must be seen of the text -/
structure M1 (X : Cx) (o : Expr) (m : Str) (apos : Pos) (e : Expr) (cpos : Pos) : Prop where
  base : attributeBase o m X.env (eval o X.env) = eval o X.env
  few : ((backTo cpos (starEach [e] X.env)).all (fun x => !x.1) && (backToKw cpos (keywordEach [] X.env)).all (fun x => x.1.isSome)
    && decide (([e] : List Expr).length + ([] : List Keyword).length + (if ([] : List Keyword).isEmpty then 0 else 1) < 30)) = true
  line : (apos.endLine == cpos.line) = true
  trees : backTo cpos (starEach [e] X.env) = [(false, eval e X.env)]
structure M2 (X : Cx) (o : Expr) (m : Str) (apos : Pos) (e f : Expr) (cpos : Pos) : Prop where
  base : attributeBase o m X.env (eval o X.env) = eval o X.env
  few : ((backTo cpos (starEach [e, f] X.env)).all (fun x => !x.1) && (backToKw cpos (keywordEach [] X.env)).all (fun x => x.1.isSome)
    && decide (([e, f] : List Expr).length + ([] : List Keyword).length + (if ([] : List Keyword).isEmpty then 0 else 1) < 30)) = true
  line : (apos.endLine == cpos.line) = true
  trees : backTo cpos (starEach [e, f] X.env) = [(false, eval e X.env), (false, eval f X.env)]

/-- a is a dict, whatever its keys -/
def IsD (H : Hp) (a : Addr) : Prop := (∃ kvs, Rd H a (.dK kvs)) ∨ ∃ kvs, Rd H a (.dT kvs)
section
variable {X : Cx} {pins : List (Addr × Obj)} {σ : St} {H : Hp} {s : Shared} {a : Addr} {y d : V} {u r : Value} {o : Option V} {A : Around} {E : Value → Shared → Prop}
end

def tDGet1 (td ty : TE) : TE := fun σ H Q => td σ H fun x H1 => ∃ a, x = .ref a ∧ IsD H1 a ∧ ty σ H1 fun y H2 => ∃ o, DGet H2 a y o ∧ Q (o.getD .non) H2
def tDGet2 (td ty tx : TE) : TE := fun σ H Q => td σ H fun x H1 => ∃ a, x = .ref a ∧ IsD H1 a ∧ ty σ H1 fun y H2 => tx σ H2 fun z H3 => ∃ o, DGet H3 a y o ∧ Q (o.getD z) H3
/-- d.pop(k): there; d.pop(k, x): there or not -/
def tDPop1 (td ty : TE) : TE := fun σ H Q => td σ H fun x H1 => ∃ a, x = .ref a ∧ IsD H1 a ∧ ty σ H1 fun y H2 => ∃ kvs k v, H2 a = some (.dK kvs) ∧ y = kV k ∧ valV kvs k = some v ∧ Q v (upd H2 a (.dK (dropK kvs k)))
def tDPop2 (td ty tx : TE) : TE := fun σ H Q => td σ H fun x H1 => ∃ a, x = .ref a ∧ IsD H1 a ∧ ty σ H1 fun y H2 => tx σ H2 fun z H3 => ∃ kvs k, H3 a = some (.dK kvs) ∧ y = kV k ∧
  (∀ v, valV kvs k = some v → Q v (upd H3 a (.dK (dropK kvs k)))) ∧ (valV kvs k = none → Q z H3)
section
variable {X : Cx} {o e f : Expr} {apos cpos : Pos} {td ty tx : TE}
end

/-! ### dict(d): a copy -/
section
variable {X : Cx} {pins : List (Addr × Obj)} {σ : St} {H : Hp} {s : Shared} {a : Addr} {kvs : List (Key × V)} {A : Around} {E : Value → Shared → Prop}
end


section
variable {X : Cx} {pins : List (Addr × Obj)} {σ : St} {H : Hp} {s : Shared} {a : Addr} {y : V} {u : Value} {A : Around} {E : Value → Shared → Prop}
end
end L2

namespace HT
open PySem PyProof.Rows

/-- t < u of tuples of ints -/
def lexLt : List Int → List Int → Bool
  | [], [] => false
  | [], _ :: _ => true
  | _ :: _, [] => false
  | x :: xs, y :: ys => if x = y then lexLt xs ys else decide (x < y)
theorem eqAt_int (A : Around) (s : Shared) (a : Int) (t : Tok) (c : Int) (u : Tok) : ∃ e, SeqAt.EqAt A s (.int a t) (.int c u) e ∧ (e = true ↔ a = c) :=
  ⟨(a == c), SeqAt.EqAt.int_int a t c u, by simp⟩
section
open PySem.SeqAt
open PySem.AutoSeq1 (wpAny_loadPart')
open PySem.MeetsSeq PySem.MeetsSeq2 PySem.MeetsSeq3

end

section
variable {prog : Program} {w : World} {A : Around} {E : Value → Shared → Prop} {s : Shared}

/-- t + u, t not empty -/
theorem cat_tup {t b : Addr} {vs ws : List Value} {Q : Value → Shared → Prop} (ht : IsTup s.heap t vs.toArray) (hb : IsTup s.heap b ws.toArray) (hv : vs ≠ [])
    (h1 : ws = [] → Q (.ref t) s) (h2 : ws ≠ [] → Q (.ref s.heap.objs.size) { s with heap := s.heap.push { cls := .type "tuple", data := .seq (vs ++ ws).toArray } })
    (hsz : vs.length + ws.length ≤ sizeLine) : wpAny (model prog w) A (binaryOp .Add (.ref t) (.ref b)) Q E s := by
  obtain ⟨⟨cls, dd, data, sl⟩, ho, hc, n, hd⟩ := id ht
  obtain ⟨⟨cls2, dd2, data2, sl2⟩, ho2, hc2, n2, hd2⟩ := id hb
  simp only at hc hd hc2 hd2
  subst hc hd hc2 hd2
  have e : vs.toArray ++ ws.toArray = (vs ++ ws).toArray := by simp
  by_cases hw : ws = []
  · exact concat_meets ⟨_, ho, rfl⟩ ⟨_, ho2, rfl⟩ noFill_tuple_add seq_tuple_add PySem.F.slot_tuple_add PySem.F.entry_tuple_add (PySem.F.args_tuple_add_2 _ _)
      (tuple_addW1 t b vs.toArray ws.toArray n n2 dd dd2 sl sl2 (by simpa using hv) (by simp [hw])) ⟨ho, ho2, h1 hw⟩
  · refine concat_meets ⟨_, ho, rfl⟩ ⟨_, ho2, rfl⟩ noFill_tuple_add seq_tuple_add PySem.F.slot_tuple_add PySem.F.entry_tuple_add (PySem.F.args_tuple_add_2 _ _)
      (tuple_addW2 t b vs.toArray ws.toArray n n2 dd dd2 sl sl2 (by simpa using hv) (by simpa using hw) (by rw [List.size_toArray, List.size_toArray]; exact hsz)) ⟨ho, ho2, ?_⟩
    rw [e]
    exact h2 hw

/-! ### t[a:b], not the whole -/
/-- a slice's bound as a place among n (d where it is left out) -/
def sIx (n d : Nat) : Option Int → Nat
  | none => d
  | some v => if v < 0 then (v + (n : Int)).toNat else min v.toNat n
theorem sIx_none (n d : Nat) : sIx n d none = d := rfl
theorem sIx_nat (n d k : Nat) : sIx n d (some (k : Int)) = min k n := by
  show (if (k : Int) < 0 then ((k : Int) + (n : Int)).toNat else min (k : Int).toNat n) = min k n
  rw [if_neg (by omega), Int.toNat_natCast]
theorem sIx_le (n d : Nat) (hd : d ≤ n) (o : Option Int) : sIx n d o ≤ n := by
  cases o with
  | none => exact hd
  | some v =>
    show (if v < 0 then (v + (n : Int)).toNat else min v.toNat n) ≤ n
    by_cases hv : v < 0
    · rw [if_pos hv]; omega
    · rw [if_neg hv]; exact Nat.min_le_right _ _
theorem clip_eq (v : Int) (n d : Nat) : (if v < 0 then max (v + (n : Int)) 0 else min v (n : Int)) = ((sIx n d (some v) : Nat) : Int) := by
  show (if v < 0 then max (v + (n : Int)) 0 else min v (n : Int)) = (((if v < 0 then (v + (n : Int)).toNat else min v.toNat n) : Nat) : Int)
  by_cases hv : v < 0
  · simp only [if_pos hv]; omega
  · simp only [if_neg hv]; omega
theorem adjust_gen (lo hi : Option Int) (n : Nat) : Builtin.Slice.sliceAdjust lo hi 1 (n : Int) = (((sIx n 0 lo : Nat) : Int), ((sIx n n hi : Nat) : Int)) := by
  have h1 : ¬ ((1 : Int) < 0) := by omega
  unfold Builtin.Slice.sliceAdjust
  simp only [h1, if_false]
  refine Prod.ext ?_ ?_
  · cases lo with
    | none => rfl
    | some v => exact clip_eq v n 0
  · cases hi with
    | none => rfl
    | some v => exact clip_eq v n n
theorem places_gen (i j : Nat) : Builtin.Slice.slicePlaces (i : Int) (j : Int) 1 = j - i := by
  unfold Builtin.Slice.slicePlaces
  have h1 : (1 : Int) > 0 := by omega
  simp only [h1, if_true, Int.ediv_one]
  split <;> omega
theorem slicePart_ {v : Value} {o : Option Int} {Q : Option Int → Shared → Prop} (p : IsPart v o) (h : Q o s) : wpAny (model prog w) A (Builtin.Slice.slicePartIndex v) Q E s := by
  cases p with
  | none => exact slicePart_none h
  | int i t => exact slicePart_int h
theorem sliceApplied_gen {sl : Addr} {vl vu : Value} {lo hi : Option Int} {n : Nat} {Q : Int × Int × Nat → Shared → Prop} (hs : s.heap.IsSliceOf sl vl vu .none) (pl : IsPart vl lo) (pu : IsPart vu hi)
    (h : Q (((sIx n 0 lo : Nat) : Int), 1, sIx n n hi - sIx n 0 lo) s) : wpAny (model prog w) A (Builtin.Slice.sliceApplied (.ref sl) (pure (n : Int))) Q E s := by
  obtain ⟨os, hos, hcs, hds⟩ := id hs
  unfold Builtin.Slice.sliceApplied Builtin.Slice.sliceFields
  refine wpAny_bind (wpAny_bind (wpAny_field hos hds (x := vl) rfl (wpAny_bind (wpAny_field hos hds (x := vu) rfl (wpAny_bind (wpAny_field hos hds (x := .none) rfl (wpAny_pure ?_)))))))
  refine wpAny_bind (slicePart_none ?_)
  show wpAny _ _ (if ((1 : Int) == 0) = true then _ else _) _ _ s
  rw [if_neg (by decide)]
  refine wpAny_bind (slicePart_ pl (wpAny_bind (slicePart_ pu (wpAny_bind (wpAny_pure ?_)))))
  show wpAny _ _ (match Builtin.Slice.sliceAdjust lo hi 1 (n : Int) with | (lo, hi) => pure (lo, (1 : Int), Builtin.Slice.slicePlaces lo hi 1)) _ _ s
  rw [adjust_gen lo hi n]
  show wpAny _ _ (pure (((sIx n 0 lo : Nat) : Int), (1 : Int), Builtin.Slice.slicePlaces ((sIx n 0 lo : Nat) : Int) ((sIx n n hi : Nat) : Int) 1)) _ _ s
  rw [places_gen]
  exact wpAny_pure h
theorem pick_gen (xs : Array Value) (i k : Nat) : ((List.range k).filterMap fun (m : Nat) => xs[((i : Int) + (m : Int) * 1).toNat]?).toArray = ((xs.toList.drop i).take k).toArray := by
  have e : (fun (m : Nat) => xs[((i : Int) + (m : Int) * 1).toNat]?) = fun m => xs[i + m]? := by
    funext m
    have : ((i : Int) + (m : Int) * 1).toNat = i + m := by omega
    rw [this]
  rw [e]
  have := pick_run xs i k
  rw [List.filterMap_map] at this
  have e2 : ((fun x => xs[x]?) ∘ fun x => i + x) = fun m => xs[i + m]? := rfl
  rw [e2] at this
  rw [this]

theorem getItem_tuple_cut {t sl : Addr} {items : Array Value} {vl vu : Value} {lo hi : Option Int} {Q : Value → Shared → Prop} (ht : IsTup s.heap t items) (hs : s.heap.IsSliceOf sl vl vu .none) (pl : IsPart vl lo) (pu : IsPart vu hi)
    (hw : ¬ (sIx items.size 0 lo = 0 ∧ sIx items.size items.size hi = items.size))
    (h : Q (.ref s.heap.objs.size) { s with heap := s.heap.push { cls := .type "tuple", data := .seq ((items.toList.drop (sIx items.size 0 lo)).take (sIx items.size items.size hi - sIx items.size 0 lo)).toArray } })
    (hsz : items.size ≤ sizeLine) : wpAny (model prog w) A (getItem (.ref t) (.ref sl)) Q E s := by
  have htake : sizeOk (.seq ((items.toList.drop (sIx items.size 0 lo)).take (sIx items.size items.size hi - sIx items.size 0 lo)).toArray) := by
    show ((items.toList.drop (sIx items.size 0 lo)).take (sIx items.size items.size hi - sIx items.size 0 lo)).toArray.size ≤ sizeLine
    rw [List.size_toArray, List.length_take, List.length_drop, Array.length_toList]
    omega
  have hj : sIx items.size items.size hi ≤ items.size := sIx_le _ _ (Nat.le_refl _) hi
  obtain ⟨os, hos, hcs, hds⟩ := id hs
  have hTs : s.TypeIs (.ref sl) "slice" := ⟨os, hos, hcs⟩
  unfold getItem
  try with_reducible refine wpAny_holding ?_
  first | refine wpAny_bind (wpAny_pure ?_) | skip
  refine wpAny_bind (wpAny_sequenceKey ht.typeIs (by decide) ?_)
  refine wpAny_bind (wpAny_callSpecial?_slot (name := Str.ofString "__getitem__") ht.typeIs PyProof.Rows.slot_tuple_getitem
    (wpAny_call_entry PyProof.Rows.slot_tuple_getitem ht.typeIs entry_tuple_getitem ?_ (args_tuple_getitem _ _)))
  show wpAny _ _ (Builtin.Tuple.tupleItemsOf (.ref t) >>= _) _ _ s
  refine wpAny_bind (tupleItemsOf_ ht ?_)
  refine wpAny_bind (wpAny_typeOf hTs ?_)
  rw [if_pos (by decide)]
  refine wpAny_bind (sliceApplied_gen hs pl pu ?_)
  have hno : ¬ ((((sIx items.size 0 lo : Nat) : Int) == 0 && (1 : Int) == 1 && (sIx items.size items.size hi - sIx items.size 0 lo) == items.size) = true) := by
    intro q
    rw [Bool.and_eq_true, Bool.and_eq_true] at q
    have q1 : ((sIx items.size 0 lo : Nat) : Int) = 0 := eq_of_beq q.1.1
    have q2 : sIx items.size items.size hi - sIx items.size 0 lo = items.size := eq_of_beq q.2
    exact hw ⟨by omega, by omega⟩
  show wpAny _ _ (if (((sIx items.size 0 lo : Nat) : Int) == 0 && (1 : Int) == 1 && (sIx items.size items.size hi - sIx items.size 0 lo) == items.size) = true then _ else _) _ _ s
  rw [if_neg hno, pick_gen]
  first
    | exact wpAny_bind (m := Builtin.Tuple.tupleExact _) (wpAny_newObj_type (wpAny_pure ⟨_, rfl, wpAny_pure h⟩) htake)
    | exact wpAny_bind (m := Builtin.Tuple.tupleExact _) (wpAny_newObj_type (wpAny_bind (wpAny_pure (wpAny_pure ⟨_, rfl, wpAny_pure h⟩))) htake)
    | exact wpAny_bind (wpAny_bind (m := Builtin.Tuple.tupleExact _) (wpAny_newObj_type (wpAny_pure (wpAny_pure ⟨_, rfl, wpAny_pure h⟩)) htake))
    | exact wpAny_bind (wpAny_bind (m := Builtin.Tuple.tupleExact _) (wpAny_newObj_type (wpAny_pure ⟨_, rfl, wpAny_pure h⟩) htake))
end
end HT

namespace L2
open PySem PySem.Spec PyProof.Rows

/-! ### the parts of a slice -/
abbrev TO := St → Hp → (Option Int → Hp → Prop) → Prop
/-- a slice's part (left out, or an int) -/
def PO (X : Cx) (e : Option Expr) (t : TO) : Prop :=
  ∀ (pins : List (Addr × Obj)) (s : Shared) (σ : St) (H : Hp) (Q : Option Int → Hp → Prop), Inv X pins σ H s → t σ H Q →
    wpAny (model X.prog X.w) X.A (evalPart e X.env) (fun u s' => ∃ o H', Inv X pins σ H' s' ∧ IsPart u o ∧ Q o H') X.xe s
def tNoPart : TO := fun _ H Q => Q none H
def tPart (t : TE) : TO := fun σ H Q => t σ H fun x H1 => ∃ i, x = .int i ∧ Q (some i) H1

theorem intsAre_of {ns : List Int} : ∀ {us : List Value}, Vals (ns.map V.int) us → IntsAre us ns := by
  induction ns with
  | nil => intro us r; rw [List.map_nil] at r; cases r; exact .nil
  | cons n ns ih =>
    intro us r
    rw [List.map_cons] at r
    cases r with
    | cons r1 r2 =>
      obtain ⟨t, e⟩ := r1
      subst e
      exact .cons n t (ih r2)

section
variable {X : Cx} {e : Expr} {te : TE} {lo hi : Option Expr} {tl th : TO} {pos p2 : Pos}

theorem po_none : PO X none tNoPart := by
  intro pins s σ H Q I h
  rw [evalPart_none]
  exact wpAny_pure ⟨none, H, I, .none, h⟩
theorem po_some (h : PE X e te) : PO X (some e) (tPart te) := by
  intro pins s σ H Q I hw
  rw [evalPart_some]
  refine thn (h pins s σ H _ I hw) fun u s1 ⟨x, H1, I1, r1, q1⟩ => ?_
  obtain ⟨i, rfl, q⟩ := q1
  obtain ⟨t, rfl⟩ := r1
  exact ⟨some i, H1, I1, .int i t, q⟩

/-- what a slice of a value is, by values: the slice object stands at sl -/
def SlR (X : Cx) (r : V → Option Int → Option Int → Hp → VK → Prop) : Prop :=
  ∀ (pins : List (Addr × Obj)) (s : Shared) (σ : St) (H : Hp) (x : V) (v vl vu : Value) (lo hi : Option Int) (sl : Addr) (Q : VK), Inv X pins σ H s → RelV x v → s.heap.IsSliceOf sl vl vu .none → IsPart vl lo → IsPart vu hi → r x lo hi H Q →
    ∃ T id, typeLookup (.type T) "__getitem__" = pure (some (.builtin id)) ∧ s.TypeIs v T ∧ wpAny (model X.prog X.w) X.A (getItem v (.ref sl)) (EP X pins σ Q) X.xe s
def tSl (r : V → Option Int → Option Int → Hp → VK → Prop) (te : TE) (tl th : TO) : TE := fun σ H Q => te σ H fun x H1 => tl σ H1 fun l H2 => th σ H2 fun u H3 => r x l u H3 Q
/-- a[lo:hi], any a -/
theorem pe_slice {r : V → Option Int → Option Int → Hp → VK → Prop} (hr : SlR X r) (he : PE X e te) (hl : PO X lo tl) (hu : PO X hi th) : PE X (.Subscript e (.Slice lo hi none p2) pos) (tSl r te tl th) := by
  intro pins s σ H Q I h
  refine Subscript_ (thn (he pins s σ H _ I h) fun v s1 ⟨x, H1, I1, r1, q1⟩ => ?_)
  refine wpAny_Slice (thn (hl pins s1 σ H1 _ I1 q1) fun vl s2 ⟨l, H2, I2, pl, q2⟩ => thn (hu pins s2 σ H2 _ I2 q2) fun vu s3 ⟨u, H3, I3, pu, q3⟩ => ?_)
  rw [evalPart_none]
  refine wpAny_pure ?_
  have I4 : Inv X pins σ H3 { s3 with heap := s3.heap.push { cls := .type "slice", data := .fields #[vl, vu, .none] } } := I3.kept (t' := s3.toks) fun b ob q => Heap.get?_push_of_some _ q
  obtain ⟨T, id, hT, ht, hg⟩ := hr pins { s3 with heap := s3.heap.push { cls := .type "slice", data := .fields #[vl, vu, .none] } } σ H3 x v vl vu l u s3.heap.objs.size Q I4 r1 (Heap.IsSliceOf.new ..) pl pu q3
  show wpAny (model X.prog X.w) X.A (subscriptTail e (.Slice lo hi none p2) v (.ref s3.heap.objs.size)) (EP X pins σ Q) X.xe { s3 with heap := s3.heap.push { cls := .type "slice", data := .fields #[vl, vu, .none] } }
  exact tail_any (ops := [.ref s3.heap.objs.size, v]) ht hT hg (by with_unfolding_all rfl)

/-- the items of xs[lo:hi] -/
def cutV (xs : List V) (lo hi : Option Int) : List V := (xs.drop (HT.sIx xs.length 0 lo)).take (HT.sIx xs.length xs.length hi - HT.sIx xs.length 0 lo)
theorem cutV_length (xs : List V) (lo hi : Option Int) : (cutV xs lo hi).length ≤ xs.length := by
  unfold cutV
  rw [List.length_take, List.length_drop]
  omega
/-- t[lo:hi], not the whole of it (the whole would be t itself) -/
def rSlT (K : PySem.W.Frag) : V → Option Int → Option Int → Hp → VK → Prop := fun x lo hi H Q => ∃ a xs, x = .ref a ∧ SqT K H a xs ∧
  ¬ (HT.sIx xs.length 0 lo = 0 ∧ HT.sIx xs.length xs.length hi = xs.length) ∧ ∀ p, H p = none → Q (.ref p) (upd H p (.tup (cutV xs lo hi)))
theorem sl_tup : SlR X (rSlT X.K) := by
  intro pins s σ H x v vl vu lo hi sl Q I rx hs pl pu h
  obtain ⟨a, xs, rfl, hx, hw, q⟩ := h
  cases rx
  obtain ⟨its, r, ht, hz⟩ := I.tuple hx
  have hlen : its.toArray.size = xs.length := by rw [List.size_toArray]; exact r.length.symm
  refine ⟨"tuple", _, PyProof.Rows.slot_tuple_getitem.lookup, ht.typeIs, ?_⟩
  refine HT.getItem_tuple_cut ht hs pl pu (by rw [hlen]; exact hw) ?_ (by rw [hlen]; exact hz)
  rw [hlen]
  refine ⟨.ref s.heap.objs.size, _, I.laid (t' := s.toks) (o := .tup (cutV xs lo hi)) (fun b ob q => Heap.get?_push_of_some _ q) (Nat.le_refl _) ?_, rfl, q _ (I.hok.fresh (Nat.le_refl _))⟩
  exact ⟨Nat.le_trans (cutV_length xs lo hi) hz, _, (r.drop (HT.sIx xs.length 0 lo)).take (HT.sIx xs.length xs.length hi - HT.sIx xs.length 0 lo), IsTup.new _ _⟩

/-! ### t < u, t + u -/
def rLtT (K : PySem.W.Frag) : R2 := fun x y H Q => ∃ a b ns ms, x = .ref a ∧ y = .ref b ∧ SqT K H a (ns.map V.int) ∧ SqT K H b (ms.map V.int) ∧ Q (.bl (HT.lexLt ns ms)) H
/-- t + u, t not empty: u empty gives t itself -/
def rCatT (K : PySem.W.Frag) : R2 := fun x y H Q => ∃ a b xs ys, x = .ref a ∧ y = .ref b ∧ SqT K H a xs ∧ SqT K H b ys ∧ xs ≠ [] ∧ xs.length + ys.length ≤ sizeLine ∧
  (ys = [] → Q (.ref a) H) ∧ (ys ≠ [] → ∀ p, H p = none → Q (.ref p) (upd H p (.tup (xs ++ ys))))
theorem Vals.nil_iff {xs : List V} {us : List Value} (r : Vals xs us) : us = [] ↔ xs = [] := by
  cases r with
  | nil => simp
  | cons _ _ => simp
theorem op_catT : OpR X (binaryOp .Add) (rCatT X.K) := by
  intro pins s σ H x y v u Q I rx ry h
  obtain ⟨a, b, xs, ys, rfl, rfl, ha, hb, hx, hz, q1, q2⟩ := h
  cases rx
  cases ry
  obtain ⟨its, r1, p1, _⟩ := I.tuple ha
  obtain ⟨its2, r2, p2, _⟩ := I.tuple hb
  refine HT.cat_tup p1 p2 (fun z => hx (r1.nil_iff.mp z)) (fun z => ⟨.ref a, H, I, rfl, q1 (r2.nil_iff.mp z)⟩) (fun z => ?_) (by rw [← r1.length, ← r2.length]; exact hz)
  refine ⟨.ref s.heap.objs.size, _, I.laid (t' := s.toks) (o := .tup (xs ++ ys)) (fun b ob q => Heap.get?_push_of_some _ q) (Nat.le_refl _) ?_, rfl, q2 (fun w => z (r2.nil_iff.mpr w)) _ (I.hok.fresh (Nat.le_refl _))⟩
  exact ⟨by rw [List.length_append]; exact hz, _, r1.append r2, IsTup.new _ _⟩
end
end L2

namespace L2
open PySem PySem.Spec PyProof.Rows

/-! ### places -/
/-- the place that an index of any sign means -/
def ixN (n : Nat) (i : Int) : Option Nat := if 0 ≤ i then (if i < n then some i.toNat else none) else if -(n : Int) ≤ i then some (i + n).toNat else none
def atI {α : Type} (xs : List α) (i : Int) : Option α := (ixN xs.length i).bind fun j => xs[j]?
theorem ixN_seq {n : Nat} {i : Int} {j : Nat} (h : ixN n i = some j) : seqIndex? i n = some j ∧ j < n ∧ -(n : Int) ≤ i ∧ i < n := by
  unfold ixN at h
  by_cases h0 : 0 ≤ i
  · rw [if_pos h0] at h
    by_cases h1 : i < n
    · rw [if_pos h1] at h
      have e : i.toNat = j := Option.some.inj h
      exact ⟨by rw [seqIndex_of h0 h1, e], by omega, by omega, h1⟩
    · rw [if_neg h1] at h; cases h
  · rw [if_neg h0] at h
    by_cases h1 : -(n : Int) ≤ i
    · rw [if_pos h1] at h
      have e : (i + n).toNat = j := Option.some.inj h
      exact ⟨by rw [seqIndex_neg (by omega) h1, e], by omega, h1, by omega⟩
    · rw [if_neg h1] at h; cases h
theorem atI_get {α : Type} {xs : List α} {i : Int} {v : α} (h : atI xs i = some v) : ∃ j, seqIndex? i xs.length = some j ∧ xs[j]? = some v ∧ j < xs.length ∧ -(xs.length : Int) ≤ i ∧ i < xs.length := by
  unfold atI at h
  cases e : ixN xs.length i with
  | none => rw [e] at h; cases h
  | some j =>
    rw [e] at h
    obtain ⟨h1, h2, h3, h4⟩ := ixN_seq e
    exact ⟨j, h1, h, h2, h3, h4⟩
theorem atI_nat {α : Type} {xs : List α} {j : Nat} {v : α} (h : xs[j]? = some v) : atI xs (j : Int) = some v := by
  have hj : j < xs.length := (List.getElem?_eq_some_iff.mp h).1
  have e : ixN xs.length (j : Int) = some j := by
    unfold ixN
    rw [if_pos (by omega), if_pos (by omega)]; simp
  unfold atI; rw [e]; exact h
/-! ### what may be subscripted -/
/-- what stands as an index of a plain subscript -/
def PlainIx (b : Expr) : Prop := ∀ o i, subscripted b false o i = operate [o, i] (getItem o i)
/-- a subscript by values -/
def IxR (X : Cx) (r : R2) : Prop :=
  ∀ (value slice : Expr) (pins : List (Addr × Obj)) (s : Shared) (σ : St) (H : Hp) (x y : V) (v u : Value) (Q : VK), Inv X pins σ H s → RelV x v → RelV y u → r x y H Q →
    subscripted slice false v u = operate [v, u] (getItem v u) → wpAny (model X.prog X.w) X.A (subscriptTail value slice v u) (EP X pins σ Q) X.xe s
/-- a call of a builtin's method by values: the receiver, the arguments -/
def MtR (X : Cx) (id : String) (r : V → List V → Hp → VK → Prop) : Prop :=
  ∀ (pins : List (Addr × Obj)) (s : Shared) (σ : St) (H : Hp) (x : V) (xs : List V) (v : Value) (us : List Value) (Q : VK), Inv X pins σ H s → RelV x v → Vals xs us → r x xs H Q →
    wpAny (model X.prog X.w) X.A (call (.builtin id) (v :: us)) (EP X pins σ Q) X.xe s
section
variable {X : Cx} {a b : Expr} {ta tb : TE} {pos : Pos}
/-- a[b] -/
theorem pe_ix {r : R2} (hr : IxR X r) (ha : PE X a ta) (hb : PE X b tb) (hs : PlainIx b) : PE X (.Subscript a b pos) (tOp r ta tb) := by
  intro pins s σ H Q I h
  exact Subscript_ (binT ha hb I h fun v u s2 x y H2 I2 rx ry q => hr a b pins s2 σ H2 x y v u Q I2 rx ry q (hs _ _))

def rIxL (K : PySem.W.Frag) : R2 := fun x y H Q => ∃ p xs i v, x = .ref p ∧ y = .int i ∧ SqL K H p xs ∧ atI xs i = some v ∧ Q v H
def rIxT (K : PySem.W.Frag) : R2 := fun x y H Q => ∃ p xs i v, x = .ref p ∧ y = .int i ∧ SqT K H p xs ∧ atI xs i = some v ∧ Q v H
def rIxS : R2 := fun x y H Q => ∃ z i c, x = .str z ∧ y = .int i ∧ z.length ≤ sizeLine ∧ atI z.cps.toList i = some c ∧ Q (.str ⟨#[c]⟩) H
theorem ix_list : IxR X (rIxL X.K) := by
  intro value slice pins s σ H x y v u Q I rx ry h hs
  obtain ⟨p, xs, i, z, rfl, rfl, hq, he, q⟩ := h
  cases rx
  obtain ⟨t, rfl⟩ := ry
  obtain ⟨its, r, pl, hz⟩ := I.list hq
  obtain ⟨j, h1, h2, h3, h4, h5⟩ := atI_get he
  obtain ⟨w, ew, rw'⟩ := r.get h2
  have hl := r.length
  have hn := line63
  have fin : EP X pins σ Q w s := ⟨z, H, I, rw', q⟩
  by_cases h0 : 0 ≤ i
  · have hj : i.toNat = j := by
      rw [seqIndex_of h0 h5] at h1
      exact Option.some.inj h1
    exact item_listR pl.isList h0 (by omega) (by rw [hj]; simpa using ew) fin hs
  · have hj : (i + (its.toArray.size : Int)).toNat = j := by
      rw [seqIndex_neg (by omega) h4] at h1
      rw [List.size_toArray, ← hl]
      exact Option.some.inj h1
    exact subscriptTail_builtinR (x := w) pl.isList.typeIs slot_list_getitem.lookup
      (wpAny_getItem_list_neg (Q := fun r s' => r = w ∧ EP X pins σ Q r s') pl.isList (by omega) (by rw [List.size_toArray] <;> omega) (by omega) (by rw [hj]; simpa using ew) ⟨rfl, fin⟩) hs
theorem ix_tup : IxR X (rIxT X.K) := by
  intro value slice pins s σ H x y v u Q I rx ry h hs
  obtain ⟨p, xs, i, z, rfl, rfl, hq, he, q⟩ := h
  cases rx
  obtain ⟨t, rfl⟩ := ry
  obtain ⟨its, r, pl, hz⟩ := I.tuple hq
  obtain ⟨j, h1, h2, h3, h4, h5⟩ := atI_get he
  obtain ⟨w, ew, rw'⟩ := r.get h2
  have hl := r.length
  have hn := line63
  have fin : EP X pins σ Q w s := ⟨z, H, I, rw', q⟩
  exact subscriptTail_builtinR (x := w) pl.typeIs slot_tuple_getitem.lookup
    (getItem_tuple (j := j) (Q := fun r s' => r = w ∧ EP X pins σ Q r s') pl (by omega) (by omega) (by rw [List.size_toArray, ← hl]; exact h1) (by simpa using ew) ⟨rfl, fin⟩) hs
/-- list, tuple or str -/
def rIx (K : PySem.W.Frag) : R2 := fun x y H Q => rIxL K x y H Q ∨ rIxT K x y H Q ∨ rIxS x y H Q
/-! ### xs[i] = v, any sign -/
/-- the list's object behind a store -/
theorem mapSeq_set (its : List Value) (n j : Nat) (u : Value) : Obj.mapSeq (·.setIfInBounds j u) { cls := .type "list", data := .seq its.toArray n } = { cls := .type "list", data := .seq (its.set j u).toArray n } := by
  simp [Obj.mapSeq]
theorem Inv.lst {pins : List (Addr × Obj)} {σ : St} {H : Hp} {s : Shared} {p : Addr} {xs : List V} (I : Inv X pins σ H s) (h : H p = some (.lst xs)) :
    ∃ (its : List Value) (n : Nat), Vals xs its ∧ s.heap.get? p = some { cls := .type "list", data := .seq its.toArray n } ∧ xs.length ≤ sizeLine := by
  obtain ⟨z, its, n, r, e⟩ := I.hok p _ h
  exact ⟨its, n, r, e, z⟩
/-- the list at p is written by an update of its object -/
theorem Inv.lstUpd {pins : List (Addr × Obj)} {σ : St} {H : Hp} {s : Shared} {p : Addr} {xs ys : List V} {its its' : List Value} {n n' : Nat} {f : Obj → Obj} (I : Inv X pins σ H s) (h : H p = some (.lst xs))
    (ho : s.heap.get? p = some { cls := .type "list", data := .seq its.toArray n }) (hf : f { cls := .type "list", data := .seq its.toArray n } = { cls := .type "list", data := .seq its'.toArray n' }) (r : Vals ys its') (hz : ys.length ≤ sizeLine) (t : Nat) :
    Inv X pins σ (upd H p (.lst ys)) { s with heap := s.heap.update p f, toks := t } := by
  have e : (s.heap.update p f).get? p = some { cls := .type "list", data := .seq its'.toArray n' } := by
    rw [Heap.get?_update_self f ho (by rw [hf] <;> rfl), hf]
  refine I.write (x := p) (e := p) (by rw [h]; trivial) (.inl rfl) (fun b u hb q => (Heap.get?_update_other _ _ (Ne.symm hb)).trans q) ⟨_, e⟩ ?_
  exact ⟨hz, its', n', r, e⟩
def rSetL : V → V → V → Hp → (Hp → Prop) → Prop := fun o i v H Q => ∃ p xs k j, o = .ref p ∧ i = .int k ∧ H p = some (.lst xs) ∧ ixN xs.length k = some j ∧ Q (upd H p (.lst (xs.set j v)))
theorem set_list : PSet X rSetL := by
  intro pins s σ H o i v ov iv u Q I ro ri rv h
  obtain ⟨p, xs, k, j, rfl, rfl, hp, hj, q⟩ := h
  cases ro
  obtain ⟨t, rfl⟩ := ri
  obtain ⟨its, n, r, ho, hz⟩ := I.lst hp
  obtain ⟨h1, h2, h3, h4⟩ := ixN_seq hj
  have hl := r.length
  have hn := line63
  have I' : Inv X pins σ (upd H p (.lst (xs.set j v))) { s with heap := s.heap.update p (Obj.mapSeq (·.setIfInBounds j u)) } :=
    I.lstUpd hp ho (mapSeq_set its n j u) (r.set rv j) (by rw [List.length_set]; exact hz) s.toks
  by_cases h0 : 0 ≤ k
  · have hk : k.toNat = j := by
      rw [seqIndex_of h0 h4] at h1
      exact Option.some.inj h1
    exact PySem.W.ki_setAt ho h0 (by omega) (by rw [List.size_toArray, ← hl]; exact h4) (by rw [hk]; exact ⟨_, I', q⟩)
  · have hk : (k + (its.toArray.size : Int)).toNat = j := by
      rw [seqIndex_neg (by omega) h3] at h1
      rw [List.size_toArray, ← hl]
      exact Option.some.inj h1
    exact PySem.W.ki_setBack ho (by omega) (by rw [List.size_toArray, ← hl]; exact h3) (by omega) (by rw [hk]; exact ⟨_, I', q⟩)

/-! ### slices -/
theorem slice_bounds (lo hi : Option Int) (n : Nat) : (sliceBounds lo hi none n).1 = ((HT.sIx n 0 lo : Nat) : Int) ∧ (sliceBounds lo hi none n).2.1 = ((HT.sIx n n hi : Nat) : Int) ∧ (sliceBounds lo hi none n).2.2 = 1 := by
  refine ⟨?_, ?_, rfl⟩
  · cases lo with
    | none => simp [sliceBounds, HT.sIx]
    | some i =>
      simp only [sliceBounds, HT.sIx, Option.getD_none, show (1 : Int) > 0 by decide, if_true]
      by_cases h : i < 0
      · simp only [h, if_true] <;> omega
      · simp only [h, if_false] <;> omega
  · cases hi with
    | none => simp [sliceBounds, HT.sIx]
    | some i =>
      simp only [sliceBounds, HT.sIx, Option.getD_none, show (1 : Int) > 0 by decide, if_true]
      by_cases h : i < 0
      · simp only [h, if_true] <;> omega
      · simp only [h, if_false] <;> omega
theorem slicePick_cut (its : List Value) (lo hi : Option Int) : slicePick its.toArray lo hi none = ((its.drop (HT.sIx its.length 0 lo)).take (HT.sIx its.length its.length hi - HT.sIx its.length 0 lo)).toArray := by
  obtain ⟨h1, h2, h3⟩ := slice_bounds lo hi its.toArray.size
  unfold slicePick
  rw [h1, h2, h3]
  simp only [sliceRange_one, pick_run, List.size_toArray] <;> rfl
/-- xs[lo:hi] of a list: a new list -/
def rSlL (K : PySem.W.Frag) : V → Option Int → Option Int → Hp → VK → Prop := fun x lo hi H Q => ∃ a xs, x = .ref a ∧ SqL K H a xs ∧ ∀ p, H p = none → Q (.ref p) (upd H p (.lst (cutV xs lo hi)))
theorem sl_list : SlR X (rSlL X.K) := by
  intro pins s σ H x v vl vu lo hi sl Q I rx hs pl pu h
  obtain ⟨a, xs, rfl, hx, q⟩ := h
  cases rx
  obtain ⟨its, r, ht, hz⟩ := I.list hx
  have hlen := r.length
  refine ⟨"list", _, slot_list_getitem.lookup, ht.isList.typeIs, ?_⟩
  refine wpAny_getItem_list_slice ht.isList hs pl pu .none (by simp) ?_ (by rw [List.size_toArray] <;> omega)
  rw [slicePick_cut, ← hlen]
  refine ⟨.ref s.heap.objs.size, _, I.laid (t' := s.toks) (o := .lst (cutV xs lo hi)) (fun b ob q => Heap.get?_push_of_some _ q) (Nat.le_refl _) ?_, rfl, q _ (I.hok.fresh (Nat.le_refl _))⟩
  exact ⟨Nat.le_trans (cutV_length xs lo hi) hz, _, 0, (r.drop (HT.sIx xs.length 0 lo)).take (HT.sIx xs.length xs.length hi - HT.sIx xs.length 0 lo), Heap.get?_push_size _ rfl⟩

/-! ### in, not in: flat items -/
def flatV : V → Bool
  | .non => true
  | .bl _ => true
  | .int _ => true
  | .str _ => true
  | _ => false
/-- == of flat values -/
def eqV : V → V → Bool
  | .non, .non => true
  | .bl a, .bl b => a == b
  | .bl a, .int b => (if a then 1 else 0) == b
  | .int a, .bl b => a == (if b then 1 else 0)
  | .int a, .int b => a == b
  | .str a, .str b => a == b
  | _, _ => false
/-- the items' answers, read off the values (a value's own answer does not lean on its token) -/
def eqU (x : V) (u : Value) : Bool := match u with
  | .none => eqV .non x
  | .bool b => eqV (.bl b) x
  | .int i _ => eqV (.int i) x
  | .str z _ => eqV (.str z) x
  | _ => false
def inV (x : V) (xs : List V) : Bool := xs.any fun y => eqV y x
/-- x in a list or tuple of flat items -/
def rIn (K : PySem.W.Frag) (neg : Bool) : R2 := fun x y H Q => ∃ p xs, y = .ref p ∧ (SqL K H p xs ∨ SqT K H p xs) ∧ flatV x = true ∧ xs.all flatV = true ∧ Q (.bl (if neg then !inV x xs else inV x xs)) H
/-! ### len, list(x), tuple(x) of any list or tuple that is read -/
theorem call_len_seq : CallR X (.builtin "len") (fun xs H Q => ∃ p ys, xs = [.ref p] ∧ (SqL X.K H p ys ∨ SqT X.K H p ys) ∧ Q (.int ys.length) H) := by
  intro pins s σ H xs us Q I r h
  obtain ⟨p, ys, rfl, hq, q⟩ := h
  obtain ⟨u, rfl, rx⟩ := vals1 r
  cases rx
  have hn := line63
  rcases hq with hq | hq
  · obtain ⟨its, r', pl, hz⟩ := I.list hq
    have hlen := r'.length
    exact Calls.call_len_list pl.isList (by simp only [List.size_toArray] <;> omega) ⟨.int ys.length, H, I.tok _, ⟨s.toks + 1, by rw [List.size_toArray, hlen]⟩, q⟩
  · obtain ⟨its, r', pl, hz⟩ := I.tuple hq
    have hlen := r'.length
    exact len_tuple pl (by simp only [List.size_toArray] <;> omega) ⟨.int ys.length, H, I.tok _, ⟨s.toks + 1, by rw [List.size_toArray, hlen]⟩, q⟩
theorem call_list_of : CallR X (.type "list") (fun xs H Q => ∃ p ys, xs = [.ref p] ∧ (SqL X.K H p ys ∨ SqT X.K H p ys) ∧ ∀ l, H l = none → Q (.ref l) (upd H l (.lst ys))) := by
  intro pins s σ H xs us Q I r h
  obtain ⟨p, ys, rfl, hq, q⟩ := h
  obtain ⟨u, rfl, rx⟩ := vals1 r
  cases rx
  have fin : ∀ (its : List Value), Vals ys its → ys.length ≤ sizeLine → ∀ (h' : Heap) (c' : Nat), (∀ b o', s.heap.get? b = some o' → h'.get? b = some o') →
      h'.get? s.heap.objs.size = some { cls := .type "list", dict := none, data := .seq its.toArray c', slots := #[] } → EP X pins σ Q (.ref s.heap.objs.size) { s with heap := h' } := fun its r' hz h' c' kp e =>
    ⟨.ref s.heap.objs.size, _, I.laid (t' := s.toks) kp (Nat.le_refl _) (show ObjOk X.prog X.w _ h' _ (.lst ys) from ⟨hz, its, c', r', e⟩), rfl, q _ (I.hok.fresh (Nat.le_refl _))⟩
  rcases hq with hq | hq
  · obtain ⟨its, r', pl, hz⟩ := I.list hq
    have hlen := r'.length
    obtain ⟨o, ho, hc, n, hd⟩ := pl.isList
    exact call_list_seq p (.inl rfl) ho hc hd (fun h' c' kp e => fin its r' hz h' c' kp e) (by simp only [List.size_toArray] <;> omega)
  · obtain ⟨its, r', pl, hz⟩ := I.tuple hq
    have hlen := r'.length
    obtain ⟨o, ho, hc, n, hd⟩ := pl
    exact call_list_seq p (.inr rfl) ho hc hd (fun h' c' kp e => fin its r' hz h' c' kp e) (by simp only [List.size_toArray] <;> omega)
theorem call_tuple_of : CallR X (.type "tuple") (fun xs H Q => ∃ p ys, xs = [.ref p] ∧ ((SqL X.K H p ys ∧ ∀ l, H l = none → Q (.ref l) (upd H l (.tup ys))) ∨ (SqT X.K H p ys ∧ Q (.ref p) H))) := by
  intro pins s σ H xs us Q I r h
  obtain ⟨p, ys, rfl, h⟩ := h
  obtain ⟨u, rfl, rx⟩ := vals1 r
  cases rx
  rcases h with ⟨hq, q⟩ | ⟨hq, q⟩
  · obtain ⟨its, r', pl, hz⟩ := I.list hq
    have hlen := r'.length
    refine call_tuple_list pl.isList (fun h' kp => ?_) (by simp only [List.size_toArray] <;> omega)
    have I1 : Inv X pins σ H { s with heap := h' } := I.kept (t' := s.toks) kp
    have I2 : Inv X pins σ (upd H h'.objs.size (.tup ys)) { s with heap := h'.push { cls := .type "tuple", data := .seq its.toArray } } :=
      I1.laid (t' := s.toks) (fun b o e => Heap.get?_push_of_some _ e) (Nat.le_refl _) (show ObjOk X.prog X.w _ _ _ (.tup ys) from ⟨hz, its, r', IsTup.new _ _⟩)
    exact ⟨.ref h'.objs.size, _, I2, rfl, q _ (I1.hok.fresh (Nat.le_refl _))⟩
  · obtain ⟨its, r', pl, hz⟩ := I.tuple hq
    exact call_tuple_same pl ⟨.ref p, H, I, rfl, q⟩

/-! ### the call of a builtin's method: o.m(..) -/
/-- the value is of that builtin type -/
def tyV (K : PySem.W.Frag) (T : String) (x : V) (H : Hp) : Prop := match x with
  | .str _ => T = "str"
  | .int _ => T = "int"
  | .ref p => (T = "list" ∧ ∃ xs, SqL K H p xs) ∨ (T = "tuple" ∧ ∃ o, K.lookup p = some o ∧ o.cls = .type "tuple" ∧ o.dict = none) ∨
      (T = "dict" ∧ ((∃ kvs, H p = some (.dK kvs)) ∨ ∃ kvs, H p = some (.dT kvs))) ∨ (T = "set" ∧ ∃ S n, H p = some (.set S n))
  | _ => False
theorem tyV_is {pins : List (Addr × Obj)} {σ : St} {H : Hp} {s : Shared} {T : String} {x : V} {v : Value} (I : Inv X pins σ H s) (r : RelV x v) (ty : tyV X.K T x H) :
    s.TypeIs v T ∧ ∀ a, v = .ref a → ∃ ob, s.heap.get? a = some ob ∧ ob.dict = none := by
  cases x with
  | str z =>
    obtain ⟨t, rfl⟩ := r
    cases (show T = "str" from ty)
    exact ⟨typeIs_str s z t, fun _ e => nomatch e⟩
  | int i =>
    obtain ⟨t, rfl⟩ := r
    cases (show T = "int" from ty)
    exact ⟨typeIs_int s i t, fun _ e => nomatch e⟩
  | ref p =>
    cases r
    rcases ty with ⟨rfl, xs, hq⟩ | ⟨rfl, o, hk, hc, hd⟩ | ⟨rfl, hk⟩ | ⟨rfl, S, n, hk⟩
    · obtain ⟨its, _, pl, _⟩ := I.list hq
      refine ⟨pl.isList.typeIs, fun a e => ?_⟩
      cases e
      obtain ⟨o, n, e, c, hd, _⟩ := pl
      exact ⟨o, e, hd⟩
    · refine ⟨⟨o, I.kIn p o hk, hc⟩, fun a e => ?_⟩
      cases e
      exact ⟨o, I.kIn _ o hk, hd⟩
    · have z : ∃ o, s.heap.get? p = some o ∧ o.ExactDict := by
        rcases hk with ⟨kvs, hk⟩ | ⟨kvs, hk⟩
        · obtain ⟨_, _, _, _, o, _, _, e, ex, _⟩ := I.hok p _ hk
          exact ⟨o, e, ex⟩
        · obtain ⟨_, _, _, _, o, _, _, e, ex, _⟩ := I.hok p _ hk
          exact ⟨o, e, ex⟩
      obtain ⟨o, e, ex⟩ := z
      refine ⟨⟨o, e, ex.1⟩, fun a e2 => ?_⟩
      cases e2
      exact ⟨o, e, ex.2.1⟩
    · obtain ⟨o, _, _, _, e, ex, _⟩ := I.hok p _ hk
      refine ⟨⟨o, e, ex.1⟩, fun a e2 => ?_⟩
      cases e2
      exact ⟨o, e, ex.2.1⟩
  | _ => exact False.elim ty
def tBM0 (K : PySem.W.Frag) (T : String) (r : V → List V → Hp → VK → Prop) (to : TE) : TE := fun σ H Q => to σ H fun x H1 => tyV K T x H1 ∧ r x [] H1 Q
def tBM (K : PySem.W.Frag) (T : String) (r : V → List V → Hp → VK → Prop) (to : TE) (t : TA) : TE := fun σ H Q => to σ H fun x H1 => tyV K T x H1 ∧ t σ H1 fun xs H2 => r x xs H2 Q
variable {o e : Expr} {es : List Expr} {to : TE} {t : TA} {name : Str} {apos cpos : Pos} {T id : String} {r : V → List V → Hp → VK → Prop}
theorem pe_bm (pa : PlainAttrs T) (slot : Slot T name id) (hty : typeOf (.builtin id) = pure (.type "method_descriptor")) (hm : MtR X id r) (ho : PE X o to) (ha : PA X (e :: es) t)
    (hbase : attributeBase o name X.env (eval o X.env) = eval o X.env := by rfl)
    (hfew : ((backTo cpos (starEach (e :: es) X.env)).all (fun x => !x.1) && (backToKw cpos (keywordEach [] X.env)).all (fun x => x.1.isSome)
      && decide ((e :: es).length + ([] : List Keyword).length + (if ([] : List Keyword).isEmpty then 0 else 1) < 30)) = true := by rfl)
    (hline : (apos.endLine == cpos.line) = true := by rfl) (hs : starEach (e :: es) X.env = (false, eval e X.env) :: starEach es X.env := by rfl) (hplain : (backTo cpos (starEach es X.env)).any (·.1) = false := by rfl) :
    PE X (.Call (.Attribute o name apos) (e :: es) [] cpos) (tBM X.K T r to t) := by
  intro pins s σ H Q I h
  refine wpAny_Call_method_late hbase hfew hline rfl (thn (ho pins s σ H _ I h) fun v s1 ⟨x, H1, I1, r1, ty, q1⟩ => ?_)
  obtain ⟨h1, h2⟩ := tyV_is I1 r1 ty
  refine ⟨T, id, pa, slot, hty, h1, h2, ?_⟩
  have hA := ha cpos pins s1 σ H1 _ I1 q1
  rw [hs] at hA ⊢
  refine Calls.callWith_builtin (by show (false || (backTo cpos (starEach es X.env)).any (·.1)) = false; rw [hplain] <;> rfl) (Calls.evalArgs_plain ?_)
  exact thn hA fun us s2 ⟨vs, H2, I2, r2, q2⟩ => hm pins s2 σ H2 x vs v us Q I2 r1 r2 q2
/- xs.append(e), list.index on a module's tuple .. are MtR facts of 06m -/
end
end L2

namespace L2
open PySem PySem.Spec PyProof.Rows

def MtM (X : Cx) (id : String) (r : V → List V → Hp → VK → Prop) : Prop :=
  ∀ (pins : List (Addr × Obj)) (s : Shared) (σ : St) (H : Hp) (x : V) (xs : List V) (v : Value) (us : List Value) (Q : VK), Inv X pins σ H s → RelV x v → Vals xs us → r x xs H Q →
    wpAny (model X.prog X.w) X.A (call (.builtin id) (v :: us)) (EP X pins σ Q) X.xe s

/-! ### lists of values -/
theorem Vals.one : ∀ {x : V} {us : List Value}, Vals [x] us → ∃ u, us = [u] ∧ RelV x u
  | _, _, .cons r .nil => ⟨_, rfl, r⟩
theorem Vals.reverse {xs : List V} {us : List Value} (h : Vals xs us) : Vals xs.reverse us.reverse := by
  induction h with
  | nil => exact .nil
  | cons r t ih => rw [List.reverse_cons, List.reverse_cons]; exact Vals.append ih (.cons r .nil)
section
variable {X : Cx} {pins : List (Addr × Obj)} {σ : St} {H : Hp} {s : Shared} {l b : Addr} {xs ys zs : List V}

/-! ### the two steps: a tracked list is rewritten, a new list is laid -/
theorem Inv.lset {its its' : List Value} {n : Nat} {f : Array Value → Array Value} {t' : Nat} (I : Inv X pins σ H s) (hH : H l = some (.lst xs))
    (e : s.heap.get? l = some { cls := .type "list", data := .seq its.toArray n }) (hf : f its.toArray = its'.toArray) (hv : Vals ys its') (hz : ys.length ≤ sizeLine) :
    Inv X pins σ (upd H l (.lst ys)) { s with heap := s.heap.update l (Obj.mapSeq f), toks := t' } := by
  have q := PySem.IsL.update e f
  rw [hf] at q
  refine I.write (x := l) (e := l) (by rw [hH]; exact trivial) (.inl rfl) (fun b' u hb hu => (Heap.get?_update_other s.heap (Obj.mapSeq f) (Ne.symm hb)).trans hu) ⟨_, q⟩ ?_
  exact ⟨hz, its', _, hv, q⟩
theorem Inv.lnew {its : List Value} {t' : Nat} (I : Inv X pins σ H s) (hv : Vals ys its) (hz : ys.length ≤ sizeLine) :
    Inv X pins σ (upd H s.heap.objs.size (.lst ys)) { s with heap := s.heap.push { cls := .type "list", data := .seq its.toArray }, toks := t' } :=
  I.laid (fun _ _ q => Heap.get?_push_of_some _ q) (Nat.le_refl _) ⟨hz, its, 0, hv, Heap.get?_push_size _ rfl⟩
theorem Inv.fresh (I : Inv X pins σ H s) : H s.heap.objs.size = none := I.hok.fresh (Nat.le_refl _)
theorem Inv.lstM (I : Inv X pins σ H s) (hH : H l = some (.lst xs)) : xs.length ≤ sizeLine ∧ ∃ (its : List Value) (n : Nat), Vals xs its ∧ xs.length = its.length ∧ s.heap.get? l = some { cls := .type "list", data := .seq its.toArray n } := by
  obtain ⟨z, its, n, r, e⟩ := I.hok l _ hH
  exact ⟨z, its, n, r, r.length, e⟩

theorem notLongL {n : Nat} (h : n ≤ sizeLine) : Builtin.List.listTooLong n = false := by
  unfold Builtin.List.listTooLong
  exact decide_eq_false (by omega)
end

section
variable {X : Cx}

/-! ### methods -/
def rAppend : V → List V → Hp → VK → Prop := fun x vs H Q => ∃ l xs y, x = .ref l ∧ vs = [y] ∧ H l = some (.lst xs) ∧ xs.length < sizeLine ∧ Q .non (upd H l (.lst (xs ++ [y])))
theorem mt_append : MtM X "list.append" rAppend := by
  intro pins s σ H x vs v us Q I rx rv h
  obtain ⟨l, xs, y, rfl, rfl, hH, hz, q⟩ := h
  cases rx
  obtain ⟨u, rfl, ru⟩ := rv.one
  obtain ⟨z, its, n, r, hl, e⟩ := I.lstM hH
  refine call_meets F.slot_list_append ⟨_, e, rfl⟩ F.entry_list_append (F.args_list_append_2 _ _) (PySem.list_append l its.toArray n u (by rw [List.size_toArray]; omega)) ⟨e, ?_⟩
  refine ⟨.non, _, I.lset (its' := its ++ [u]) hH e (by simp) (r.append (.cons ru .nil)) ?_, rfl, q⟩
  rw [List.length_append, List.length_singleton]
  omega

def rExtend : V → List V → Hp → VK → Prop := fun x vs H Q => ∃ l b xs zs, x = .ref l ∧ vs = [.ref b] ∧ H l = some (.lst xs) ∧ H b = some (.lst zs) ∧ xs.length + zs.length ≤ sizeLine ∧ Q .non (upd H l (.lst (xs ++ zs)))
theorem mt_extend : MtM X "list.extend" rExtend := by
  intro pins s σ H x vs v us Q I rx rv h
  obtain ⟨l, b, xs, zs, rfl, rfl, hH, hB, hz, q⟩ := h
  cases rx
  obtain ⟨u, rfl, ru⟩ := rv.one
  cases ru
  obtain ⟨z, its, n, r, hl, e⟩ := I.lstM hH
  obtain ⟨z2, its2, n2, r2, hl2, e2⟩ := I.lstM hB
  have hsz : its.toArray.size + its2.toArray.size ≤ sizeLine := by rw [List.size_toArray, List.size_toArray]; omega
  have hlong : ¬ (!its.toArray.isEmpty && Builtin.List.listTooLong (its.toArray.size + its2.toArray.size)) = true := by
    rw [notLongL hsz, Bool.and_false]
    exact Bool.false_ne_true
  refine call_meets F.slot_list_extend ⟨_, e, rfl⟩ F.entry_list_extend (F.args_list_extend_2 _ _)
    (AutoSeq1.list_extend_list_list_0 l its.toArray n b its2.toArray n2 hlong (by rw [List.size_toArray]; omega) (by omega)) ⟨e, e2, ?_⟩
  refine ⟨.non, _, I.lset (its' := its ++ its2) hH e (by simp) (r.append r2) ?_, rfl, q⟩
  rw [List.length_append]
  omega

def rPop : V → List V → Hp → VK → Prop := fun x vs H Q => ∃ l xs y, x = .ref l ∧ vs = [] ∧ H l = some (.lst xs) ∧ xs[xs.length - 1]? = some y ∧ Q y (upd H l (.lst xs.dropLast))
def rPopAt : V → List V → Hp → VK → Prop := fun x vs H Q => ∃ l xs i k y, x = .ref l ∧ vs = [.int i] ∧ H l = some (.lst xs) ∧ -(2 ^ 63) ≤ i ∧ i < 2 ^ 63 ∧ seqIndex? i xs.length = some k ∧ xs[k]? = some y ∧ Q y (upd H l (.lst (xs.eraseIdx k)))
def rReverse : V → List V → Hp → VK → Prop := fun x vs H Q => ∃ l xs, x = .ref l ∧ vs = [] ∧ H l = some (.lst xs) ∧ Q .non (upd H l (.lst xs.reverse))
def rClear : V → List V → Hp → VK → Prop := fun x vs H Q => ∃ l xs, x = .ref l ∧ vs = [] ∧ H l = some (.lst xs) ∧ Q .non (upd H l (.lst []))
/-! ### list + list, list += list, list * int -/
def rCat : R2 := fun x y H Q => ∃ l b xs zs, x = .ref l ∧ y = .ref b ∧ H l = some (.lst xs) ∧ H b = some (.lst zs) ∧ xs.length + zs.length ≤ sizeLine ∧ ∀ p, H p = none → Q (.ref p) (upd H p (.lst (xs ++ zs)))
theorem op_cat : OpR X (binaryOp .Add) rCat := by
  intro pins s σ H x y v u Q I rx ry h
  obtain ⟨l, b, xs, zs, rfl, rfl, hH, hB, hz, q⟩ := h
  cases rx
  cases ry
  obtain ⟨z, its, n, r, hl, e⟩ := I.lstM hH
  obtain ⟨z2, its2, n2, r2, hl2, e2⟩ := I.lstM hB
  refine PySem.P.add_list e e2 ?_ (by rw [List.size_toArray, List.size_toArray]; omega)
  have ea : its.toArray ++ its2.toArray = (its ++ its2).toArray := by simp
  rw [ea]
  exact ⟨.ref _, _, I.lnew (t' := s.toks) (r.append r2) (by rw [List.length_append]; omega), rfl, q _ I.fresh⟩
/-- a list times an int (a negative one is nothing) -/
def rRep : R2 := fun x y H Q => ∃ l k xs, x = .ref l ∧ y = .int k ∧ H l = some (.lst xs) ∧ -(2 ^ 63) ≤ k ∧ k < 2 ^ 63 ∧ xs.length * k.toNat ≤ sizeLine ∧
  ∀ p, H p = none → Q (.ref p) (upd H p (.lst (List.replicate k.toNat xs).flatten))
/-! ### del xs[i] -/
end

/-! ### xs[a:b] = ys -/
section
variable {prog : Program} {w : World} {A : Around} {E : Value → Shared → Prop} {s : Shared}
end

section
variable {X : Cx}
end
end L2

namespace Att
open PySem PySem.W PySem.Calls PyProof.Rows

/-! ### the script -/
theorem ints_of_wellAll {P : Params} {h : Heap} : ∀ (ns : List Int) (vs : List Value), WellAll P h vs (ns.map WData.int) → IntsAre vs ns := by
  intro ns
  induction ns with
  | nil =>
    intro vs w
    rw [List.map_nil] at w
    cases w
    exact .nil
  | cons n ns ih =>
    intro vs w
    rw [List.map_cons] at w
    cases w with
    | cons a b =>
      cases a
      exact .cons _ _ (ih _ b)

theorem script_of {l : OpenLaw} {n : Nat} (hn : l.most = some n) {P : Params} {h : Heap} {args : List WData} {vals : List Value}
    (hpre : l.row.toRowW.claim.pre args = true) (hwl : WellAll P h vals args) :
    ∃ a vs ns, vals = [Value.ref a] ∧ args = [WData.list (ns.map WData.int)] ∧ h.get? a = some { cls := .type "list", data := .seq vs.toArray } ∧ IntsAre vs ns ∧ ns.length ≤ n := by
  have hsh : WShape.hasAll [] args [.list .int] = true := (pre_splitW hpre).1
  have hc : l.pre.holds [] { args := args } = true := (pre_splitW hpre).2
  obtain ⟨d, r, rfl, h1, h2⟩ := hasAllW_cons hsh
  obtain rfl := hasAllW_nil h2
  obtain ⟨xs, rfl, h3⟩ := hasW_list h1
  obtain ⟨ns, rfl⟩ := items_int h3
  have hlen : ns.length ≤ n := by
    unfold OpenLaw.pre at hc
    have h4 : (WTm.not (.lt (.lit (.int (n : Int))) (.len (.arg 0)))).holds [] { args := [.list (ns.map .int)] } = true := by
      have h4 := (holds_andW hc).1
      rw [hn] at h4
      exact h4
    have h5 := condW_of h4 (w_not (w_lt w_lit (w_len_list (w_arg rfl))))
    rw [List.length_map] at h5
    refine Nat.le_of_not_lt fun q => ?_
    have q' : (n : Int) < ((ns.length : Nat) : Int) := by omega
    first
      | (rw [decide_eq_true q'] at h5; exact absurd h5 (by decide))
      | (simp at h5; omega)
  cases hwl with
  | cons w1 w2 =>
    cases w2
    cases w1 with
    | list ho hall => exact ⟨_, _, ns, rfl, rfl, ho, ints_of_wellAll ns _ hall, hlen⟩

theorem post_true (l : OpenLaw) (args : List WData) : l.row.toRowW.claim.post args (.bool true) args = true :=
  postW_of (r := l.row.toRowW) (X := (true == true))
    (show WShape.has [] (.bool true) .bool = true by first | rfl | decide | simp [WShape.has, WShape.arms, WShape.armsAll])
    (show (WTm.eq .res (.lit (.bool true))).value [] { args := args, res := some (.bool true), after := args } = some (.bool (true == true)) from w_eq_bool (w_res rfl) w_lit) rfl

/-! ### the attachment: holds_open's last premise (the goal 'hc' behind k_head) from a wpAny of the law's body -/
/-- the same from a codeAny of the CALL (for a layer whose function contracts speak of calls) -/
theorem attach_call {l : OpenLaw} {n : Nat} {q : Program} {loose : List Str} {XP : (Str → Option Value) → Heap → Prop} {YP : World → Heap → Prop} {d : DefRec}
    (hn : l.most = some n) (hdf : d.params.defaults = [])
    (call : ∀ (w : World) (s₀ s₁ : Shared) (mg mb : Str → Option Value) (fa : Addr) (o : Obj) (pm cd doc : Value) (a : Addr) (vs : List Value) (ns : List Int),
      Ground q loose [] XP w s₀ mg mb s₁.heap → YP w s₁.heap →
      s₁.heap.get? fa = some o → o.data = .func (docDef d.name d.params d.body d.scope pm cd doc) → s₁.heap.CodeRec cd d.name → mg d.name = some (.ref fa) →
      s₁.heap.get? a = some { cls := .type "list", data := .seq vs.toArray } → IntsAre vs ns → ns.length ≤ n → s₁.gens = #[] →
      codeAny (model l.prog w) callerA (.call (.ref fa) ⟨[.ref a], []⟩) (fun r s' => r = .ok (.ret (.bool true)) ∧ OldK s₁.heap s'.heap ∧ s'.os = s₁.os ∧ AllBare s'.gens) s₁) :
    WalkO q loose XP YP l.row.toRowW d [] (fun f vs => PySem.call f vs) := by
  intro w s₀ s₁ mg mb G Y fa o pm cd doc dV kV ho hd hcd hD hmg hg args vals as hpre hlay hrd hwl hlo
  obtain rfl : dV = .none := Dflts.none hD hdf
  obtain rfl : kV = .none := Dflts.noKw hD
  obtain ⟨a, vs, ns, rfl, rfl, hobj, hints, hlen⟩ := script_of hn hpre hwl
  refine enter_call (codeAny_mono (call w s₀ s₁ mg mb fa o pm cd doc a vs ns G Y ho (fd_plain hd) hcd hmg hobj hints hlen hg) fun r s' hq => ?_)
  obtain ⟨rfl, h2, h3, h4⟩ := hq
  exact ⟨.inl ⟨.bool true, .bool true, [], rfl, fun _ => rfl, .bool true, post_true l _, fun _ => ⟨List.Pairwise.nil, fun _ hm => (nomatch hm)⟩⟩, h2, h3, h4⟩

/-! ### rules over ANY heap (no ledger) from facts about the written part K: the library's own take a ledger (News) for what they write -/
section
variable {prog : Program} {w : World} {A : Around} {E : Value → Shared → Prop} {s : Shared} {K : Frag}

/-! the whole heap as the ledger: makes every rule that writes through a ledger a rule over any heap -/
def noObjs (h : Heap) : Heap := { h with objs := #[] }
def ledger (h : Heap) (L d : Addr) : List (Addr × Obj) := (List.range h.objs.size).filterMap fun a => if a = L ∨ a = d then none else (h.get? a).map fun o => (a, o)
end
end Att

namespace L2
open PySem PySem.Spec PyProof.Rows

theorem vals_ints : ∀ {vs : List Value} {ns : List Int}, IntsAre vs ns → Vals (ns.map V.int) vs
  | _, _, .nil => .nil
  | _, _, .cons n t h => .cons ⟨t, rfl⟩ (vals_ints h)

/-- nothing is tracked but the script, known to the object (or it is an object of the module) -/
def Only (H : Hp) : Prop := ∀ b, H b = none ∨ ∃ o xs, H b = some (.frz o (.lst xs))

/-- THE HEAD: the law's promise, at the heap behind the top. F, the promise of the law's def, may use that base is part of the heap (so K.In base, base.Ns mainGlobals mg stand in Mod) -/
theorem law_call {P : Program} {w : World} {K : PySem.W.Frag} {mg mb : Str → Option Value} {CX : CXT} {k : Nat} {fa a : Addr} {fd : FuncData} {x : Str} {sp : Sp} {s₁ : Shared} {vs : List Value} {ns : List Int}
    (KX : K.In s₁.heap) (hns : s₁.heap.Ns mainGlobals mg) (hb : s₁.heap.Ns builtinsNs mb) (hbb : ∀ x : Str, x ≠ "__name__" → mb x = bootBuiltins x) (hlim : s₁.heap.NoLimit) (hg : s₁.gens = #[])
    (ha : s₁.heap.get? a = some { cls := .type "list", data := .seq vs.toArray }) (hi : IntsAre vs ns) (hl : ns.length ≤ sizeLine) (hr : Room k callerA)
    (F : ∀ base : Heap, K.In base → base.Ns mainGlobals mg → FnOk P w K mg base CX k fa fd [x] sp) (hbind : ∀ (s : Shared) (u : Value), BindsTo s fd ⟨[u], []⟩ [(x, u)])
    (hsp : ∀ H : Hp, Only H → SqL K H a (ns.map V.int) → sp [.ref a] H (fun v _ => v = .bl true) fun _ _ _ => False)
    (hCX : ∀ H e s', CX [] H s₁ (fun _ _ _ => False) e s' → False) :
    codeAny (model P w) callerA (.call (.ref fa) ⟨[.ref a], []⟩) (fun r s' => r = .ok (.ret (.bool true)) ∧ OldK s₁.heap s'.heap ∧ s'.os = s₁.os ∧ AllBare s'.gens) s₁ := by
  have rv := vals_ints hi
  have lenV := hi.length
  -- from an abstract heap in which nothing but the script may be tracked
  have core : ∀ H : Hp, Only H → SqL K H a (ns.map V.int) → HOk P w H s₁.heap → (∀ b, H b ≠ none → b = a) → (H a ≠ none → K.lookup a = none) →
      codeAny (model P w) callerA (.call (.ref fa) ⟨[.ref a], []⟩) (fun r s' => r = .ok (.ret (.bool true)) ∧ OldK s₁.heap s'.heap ∧ s'.os = s₁.os ∧ AllBare s'.gens) s₁ := by
    intro H hO hS hok hA hK
    have base_of : ∀ {b : Addr} {o : Obj}, s₁.heap.get? b = some o → H b = none → (hidT s₁.heap H).get? b = some o := fun e n => hidT_get e n
    have noA : ∀ {b : Addr} {o : Obj} {es : Array DictEntry} {ep : Nat}, s₁.heap.get? b = some o → o.data = .dict es ep → H b = none := fun {b o es ep} e d => by
      cases q : H b with
      | none => rfl
      | some u =>
        have e' : b = a := hA b (by rw [q]; simp)
        subst e'
        rw [ha] at e; cases e
        have d' : Data.seq vs.toArray _ = Data.dict es ep := d
        cases d'
    have nsK : ∀ {b : Addr} {m : Str → Option Value}, s₁.heap.Ns b m → (hidT s₁.heap H).Ns b m := fun {b m} ⟨o, es, ep, e, d, r⟩ => ⟨o, es, ep, base_of e (noA e d), d, r⟩
    have hKb : K.In (hidT s₁.heap H) := fun b o e => base_of (KX b o e) (by
      cases q : H b with
      | none => rfl
      | some u =>
        have e' : b = a := hA b (by rw [q]; simp)
        subst e'
        rw [hK (by rw [q]; simp)] at e; cases e)
    have hM : Mod K mg (hidT s₁.heap H) := ⟨hKb, nsK hns, ⟨mb, nsK hb, hbb⟩, let ⟨mc, h1, h2⟩ := hlim; ⟨mc, nsK h1, h2⟩⟩
    have e0 : Env0 P w K mg (hidT s₁.heap H) callerA [] s₁ H := ⟨rfl, hM, fun b o e => of_hidT e, Nat.le_of_eq (hidT_size _ _), trivial, fun b hb => absurd (show b ∈ ([] : List Addr) from hb) (by simp), hok, .of_eq hg⟩
    refine codeAny_mono ((F _ hKb (nsK hns)).run callerA [] s₁ H ⟨[.ref a], []⟩ [.ref a] [.ref a] _ _ hr e0 (hbind s₁ (.ref a)) (.cons rfl .nil) (hsp H hO hS)) fun r s' h => ?_
    cases r with
    | error e => exact (hCX H e s' h).elim
    | ok fl =>
      cases fl with
      | next => exact False.elim h
      | brk => exact False.elim h
      | cont => exact False.elim h
      | ret u =>
        obtain ⟨v, H', os, bare, un, hok', r', q⟩ := h
        have q' : v = .bl true := q
        subst q'
        obtain rfl : u = Value.bool true := r'
        refine ⟨rfl, OldK.of_keep fun b o e => ?_, os, bare⟩
        cases q : H b with
        | none => exact un.keep b o e q (by intro z; exact absurd (show b ∈ ([] : List Addr) from z) (by simp)) (by simp)
        | some u =>
          rcases hO b with z | ⟨ob, xs, z⟩
          · rw [q] at z; cases z
          · have z2 := un.frzs b ob _ z
            obtain ⟨e1, _⟩ := hok b _ z
            obtain ⟨e2, _⟩ := hok' b _ z2
            rw [e] at e1; cases e1
            exact e2
  cases hk : K.lookup a with
  | some o =>
    -- the script is one of the module's own objects
    have e := KX a o hk
    rw [ha] at e
    cases e
    refine core (fun _ => none) (fun _ => .inl rfl) (.inr ⟨_, vs.toArray, _, hk, rfl, rfl, rfl, by rw [List.size_toArray, lenV]; exact hl, by simpa using rv⟩) (fun b u z => by have z' : (none : Option HO) = some u := z; cases z') (fun b z => absurd rfl z) fun z => absurd rfl z
  | none =>
    refine core (fun b => if b = a then some (.frz { cls := .type "list", data := .seq vs.toArray } (.lst (ns.map V.int))) else none) (fun b => ?_) (.inl (.inr ⟨{ cls := .type "list", data := .seq vs.toArray }, if_pos rfl⟩)) (fun b u z => ?_) (fun b z => ?_) fun _ => hk
    · by_cases hb : b = a
      · exact .inr ⟨_, _, if_pos hb⟩
      · exact .inl (if_neg hb)
    · by_cases hb : b = a
      · have z' := (if_pos hb).symm.trans z
        cases z'
        subst hb
        exact ⟨ha, by rw [List.length_map]; exact hl, vs, _, rv, ha⟩
      · have z' := (if_neg hb).symm.trans z
        cases z'
    · by_cases hb : b = a
      · exact hb
      · exact absurd (if_neg hb) z
end L2

namespace L2
open PySem PySem.Spec PyProof.Rows

abbrev KOf {K : PySem.W.Frag} {h : Heap} (_ : K.In h) : PySem.W.Frag := K

/-- the goal that k_head leaves (case hc), from the law's promise. F gives the function object fd (K's own) once, then the promise over every base -/
theorem walk_of {l : PySem.W.OpenLaw} {n k : Nat} {q : Program} {loose : List Str} {XP : (Str → Option Value) → Heap → Prop} {YP : World → Heap → Prop} {d : DefRec} {K : Params → PySem.W.Frag} {CX : World → CXT} {sp : World → Sp} {x : Str}
    (hn : l.most = some n) (hn2 : n ≤ sizeLine) (hdf : d.params.defaults = []) (hr : Room k callerA)
    (hY : ∀ (w : World) (h : Heap), YP w h → (K w.params).In h)
    (F : ∀ (w : World) (mg : Str → Option Value) (fa : Addr) (h : Heap), (K w.params).In h → h.Ns mainGlobals mg → mg d.name = some (.ref fa) →
      ∃ fd : FuncData, (∀ (s : Shared) (u : Value), BindsTo s fd ⟨[u], []⟩ [(x, u)]) ∧
        ∀ base : Heap, (K w.params).In base → base.Ns mainGlobals mg → FnOk l.prog w (K w.params) mg base (CX w) k fa fd [x] (sp w))
    (hsp : ∀ (w : World) (H : Hp) (a : Addr) (ns : List Int), ns.length ≤ n → Only H → SqL (K w.params) H a (ns.map V.int) → sp w [.ref a] H (fun v _ => v = .bl true) fun _ _ _ => False)
    (hCX : ∀ (w : World) (H : Hp) (s : Shared) (e : Value) (s' : Shared), CX w [] H s (fun _ _ _ => False) e s' → False) :
    PySem.W.WalkO q loose XP YP l.row.toRowW d [] (fun f vs => PySem.call f vs) := by
  refine Att.attach_call hn hdf fun w s₀ s₁ mg mb fa o pm cd doc a vs ns G Y ho hd hcd hmg hobj hints hlen hg => ?_
  have KX := hY w _ Y
  obtain ⟨fd, hb, hF⟩ := F w mg fa _ KX G.T.g hmg
  exact law_call KX G.T.g G.T.b G.T.builtins G.T.nolimit hg hobj hints (Nat.le_trans hlen hn2) hr hF hb (fun H hO hS => hsp w H a ns hlen hO hS) fun H e s' => hCX w H s₁ e s'
end L2

/- THE LAST THEOREM (shape; LID, My.* are yours):
   My.Adr: a structure of the addresses that your layer names (classes, functions); My.Txt K t: a structure (Prop) of the equations over K;
   My.txt_mk : {K} {implicit addresses ..} (e1 : nsIn K mainGlobals "law" = some (some (.ref f))) (e2 : K.lookup f = some ⟨oc, od, .func (fnOf "law" "law" params body scope dV kV doc pm an cdv ct), sl⟩) (e3 : codeIn K cdv "law" = true) .. : ∃ t, My.Txt K t

set_option maxRecDepth 100000 in
set_option maxHeartbeats 0 in
theorem PySem.Challenge.cw_LID_holds : PySem.Challenge.rw_LID.Holds := by
  w_on; o_law; k_head; (case hw => w_witness2)
  k_fill
  refine L2.walk_of (l := PySem.Challenge.rw_LID) (n := 63) (k := 40) (x := "script") (CX := fun w => ..) (sp := fun _ => My.sp_law) rfl (by decide) rfl ⟨rfl, by decide, by decide⟩ (fun w h Y => PySem.W.kIn_of Y) ?F ?S ?C
  case F =>
    intro w mg fa h KX G hmg
    have T : ∃ t, My.Txt (L2.KOf KX) t := by
      dsimp only [L2.KOf]                          -- K must stand as «<heap const> w.params» for k_is
      refine' My.txt_mk ?e1 ?e2 ?e3 ..
      (case e1 => PySem.W.k_is)                    -- in the order: a name -> its address -> its object -> its parts
      (case e2 => PySem.W.k_is)
      ..
    obtain ⟨t, T⟩ := T
    have e0 := hmg.symm.trans (PySem.W.mg_of KX G T.law)
    cases e0                                       -- fa is the law's own address
    exact ⟨_, fun s u => .of_eq rfl, fun base kb nb => My.law_fn T kb nb⟩     -- if «.of_eq rfl» comes too early: refine' ⟨_, ?b, fun base kb nb => My.law_fn T kb nb⟩; exact fun s u => .of_eq rfl
  case S => exact fun w H a ns hl hO hS => ..
  case C => exact ..
(the tactic k_is has no namespace: write k_is) -/

/-! SHORT WORDS over the layer: a def of the text, its body, what a loop and a test want. -/
namespace L2
open PySem PySem.Spec PyProof.Rows

/-! ### the text by places -/
/-- the j-th statement of a class's body -/
def inClass (s : Stmt) (j : Nat) : Stmt := match s with
  | .ClassDef _ _ _ body _ _ _ _ _ _ _ => body.getD j (.Pass ⟨0, 0, 0, 0⟩)
  | _ => .Pass ⟨0, 0, 0, 0⟩
def defArgs (s : Stmt) : Arguments := match s with
  | .FunctionDef _ a _ _ _ _ _ _ _ _ => a
  | _ => { posonlyargs := [], args := [], vararg := none, kwonlyargs := [], kw_defaults := [], kwarg := none, defaults := [] }
def defBody (s : Stmt) : List Stmt := match s with
  | .FunctionDef _ _ b _ _ _ _ _ _ _ => b
  | _ => []
def defScope (s : Stmt) : Scope := match s with
  | .FunctionDef _ _ _ _ _ _ sc _ _ _ => sc
  | _ => { kind := .function, names := [], isGenerator := false, isCoroutine := false }

/-! ### no exception leaves a def -/
abbrev CX0 : CXT := fun _ _ _ _ _ _ => False
abbrev E0 : XK := fun _ _ _ => False
theorem pass0 {X : Cx} : Passes CX0 X E0 := fun _ _ _ _ _ _ _ h => h.elim

/-! ### a def (or method) of the text as it stands behind the top -/
structure Fun (K : PySem.W.Frag) (x qual : Str) (st : Stmt) (f : Addr) (fd : FuncData) : Prop where
  ex : ∃ (oc : Value) (od : Option Addr) (kV doc pm : Value) (an : Option Addr) (cdv ct : Value) (osl : Array (Option Value)),
    fd = PySem.W.fnOf x qual (defArgs st) (defBody st) (defScope st) .none kV doc pm an cdv ct ∧ K.lookup f = some ⟨oc, od, .func fd, osl⟩ ∧ PySem.W.codeIn K cdv qual = true
  kp : PySem.W.keepIn K (.ref f) = true
section
variable {P : Program} {w : World} {K : PySem.W.Frag} {mg : Str → Option Value} {base : Heap}
/-- THE RULE for a def: its body as a term of rules, and the reading of that term -/
theorem Fun.ok {x qual : Str} {st : Stmt} {f : Addr} {fd : FuncData} {N ps : List Str} {k : Nat} {sp : Sp} (F : Fun K x qual st f fd) (S : FnScope N ps (defScope st)) (len : ∀ vs H Q E, sp vs H Q E → vs.length = ps.length)
    (hbody : ∀ (cdv : Value) (A : Around) (outer : List Env) (s : Shared) (H : Hp) (vs : List V) (Q : VK) (E : XK), Room k (A.deeper (envOfC qual (defScope st) s.heap.objs.size f cdv)) → sp vs H Q E →
      ∃ t, PSs (cxOf CX0 P w K mg base N qual (defScope st) f cdv A outer s H E).nox (defBody st) t ∧ t { nx := fun _ H' => Q .non H', rt := Q } (start N vs) H) : FnOk P w K mg base CX0 (k + 1) f fd ps sp := by
  obtain ⟨oc, od, kV, doc, pm, an, cdv, ct, osl, rfl, lk, hcd⟩ := F.ex
  refine fn_of lk hcd S len fun A outer s H vs Q E hr hsp => ?_
  obtain ⟨t, h, q⟩ := hbody cdv A outer s H vs Q E hr hsp
  exact ⟨t, h.nox, q⟩
/-- how its arguments bind (no defaults): h is «fun _ _ _ _ _ _ us hl => match us, hl with | [_, _], _ => rfl», one _ a parameter -/
theorem Fun.binds {x qual : Str} {st : Stmt} {f : Addr} {fd : FuncData} {ps : List Str} (F : Fun K x qual st f fd)
    (h : ∀ (kV doc pm : Value) (an : Option Addr) (cdv ct : Value) (us : List Value), us.length = ps.length → bindArgs (PySem.W.fnOf x qual (defArgs st) (defBody st) (defScope st) .none kV doc pm an cdv ct) ⟨us, []⟩ = pure (ps.zip us)) : Binds K fd ps [] := by
  obtain ⟨oc, od, kV, doc, pm, an, cdv, ct, osl, rfl, lk, hcd⟩ := F.ex
  exact .all (h kV doc pm an cdv ct)
theorem fun_mk {x qual : Str} {st : Stmt} {f : Addr} {oc : Value} {od an : Option Addr} {osl : Array (Option Value)} {kV doc pm cdv ct : Value} (l : K.lookup f = some ⟨oc, od, .func (PySem.W.fnOf x qual (defArgs st) (defBody st) (defScope st) .none kV doc pm an cdv ct), osl⟩)
    (c : PySem.W.codeIn K cdv qual = true) (k : PySem.W.keepIn K (.ref f) = true) : Fun K x qual st f (PySem.W.fnOf x qual (defArgs st) (defBody st) (defScope st) .none kV doc pm an cdv ct) := ⟨⟨oc, od, kV, doc, pm, an, cdv, ct, osl, rfl, l, c⟩, k⟩
end
theorem hu_of {A : Around} {k : Nat} (hr : Room k A) : A.units + 1 < cLine := Nat.lt_of_le_of_lt (Nat.add_le_add_left (by decide : 1 ≤ 64) _) hr.units
theorem small1000 {n : Nat} (h : n ≤ 1000) : n < sizeLine := Nat.lt_of_le_of_lt h (by decide)

/-! ### expressions in short: the name that stands in the i-th slot -/
section
variable {X : Cx}
theorem pv (i : Nat) {x : Str} {pos : Pos} (hN : X.N[i]? = some x := by rfl) (hv : Vis X.env.scope x := by first | exact Or.inl rfl | exact Or.inr (Or.inl rfl) | exact Or.inr (Or.inr rfl)) (hd : (x == ("__debug__" : Str)) = false := by decide)
    (hcd : (x == ("__classdict__" : Str)) = false := by decide) : PE X (.Name x pos) (tVar i) := pe_var hN hv hd hcd
end

/-! ### tests -/
theorem iteF {A B : Prop} (h : B) : if false = true then A else B := by
  rw [if_neg Bool.false_ne_true]
  exact h
theorem iteT {A B : Prop} (h : A) : if true = true then A else B := by
  rw [if_pos rfl]
  exact h
/-! ### heaps -/
/-- all that was tracked is as it was -/
def Same (H H' : Hp) : Prop := ∀ b o, H b = some o → H' b = some o
theorem Same.refl (H : Hp) : Same H H := fun _ _ h => h
theorem Same.trans {H H1 H2 : Hp} (a : Same H H1) (b : Same H1 H2) : Same H H2 := fun c o h => b c o (a c o h)
theorem Same.free {H H' : Hp} (e : Same H H') {l : Addr} (h : H' l = Option.none) : H l = Option.none := by
  cases q : H l with
  | none => rfl
  | some o =>
    rw [e l o q] at h
    cases h
theorem Same.seq {K : PySem.W.Frag} {H H' : Hp} {a : Addr} {xs : List V} (e : Same H H') (h : SqL K H a xs) : SqL K H' a xs := by
  rcases h with (h | ⟨o, h⟩) | h
  · exact .inl (.inl (e _ _ h))
  · exact .inl (.inr ⟨o, e _ _ h⟩)
  · exact .inr h

/-! ### a dict's pairs: keys that differ -/
section
variable {κ : Type} [DecidableEq κ]
theorem dropK_pos {p : κ × V} {r : List (κ × V)} {k : κ} (e : p.1 = k) : dropK (p :: r) k = dropK r k := by
  unfold dropK
  rw [List.filter_cons, if_neg (by simp [e])]
theorem dropK_neg {p : κ × V} {r : List (κ × V)} {k : κ} (e : ¬ p.1 = k) : dropK (p :: r) k = p :: dropK r k := by
  unfold dropK
  rw [List.filter_cons, if_pos (by simp [e])]
theorem dropK_no : ∀ {kvs : List (κ × V)} {k : κ}, ¬ k ∈ kvs.map (·.1) → dropK kvs k = kvs
  | [], _, _ => rfl
  | p :: r, k, h => by
    have h' : ¬ k ∈ r.map (·.1) := fun m => by
      obtain ⟨q, hq, e⟩ := List.mem_map.mp m
      exact h (List.mem_map.mpr ⟨q, List.mem_cons.mpr (Or.inr hq), e⟩)
    rw [dropK_neg fun e => h (List.mem_map.mpr ⟨p, List.mem_cons.mpr (Or.inl rfl), e⟩), dropK_no h']
theorem dropK_mem {kvs : List (κ × V)} {k : κ} {p : κ × V} (h : p ∈ dropK kvs k) : p ∈ kvs := (List.mem_filter.mp h).1
end
end L2


/-! own rules over the hand layer: list comprehensions -/
namespace L2
open PySem PySem.Spec PyProof.Rows

/-- the cells that a comprehension's block takes along -/
def clF (env : Env) : List (Str × NameKind) → List (Str × Addr) → List (Str × Addr)
  | [], acc => acc
  | (n, k) :: r, acc => clF env r (if k == NameKind.free then (n, (env.cells.lookup n).getD 0) :: acc else acc)
theorem closure_eq {env : Env} {scope : Scope} (h : ∀ y ∈ scope.names, y.2 = .free → ∃ c, env.cells.lookup y.1 = some c) : closureFor scope env = pure (clF env scope.names []) := by
  have go : ∀ (names : List (Str × NameKind)) (acc : List (Str × Addr)), (∀ y ∈ names, y.2 = .free → ∃ c, env.cells.lookup y.1 = some c) →
      (forIn names acc fun (x : Str × NameKind) (r : List (Str × Addr)) => (match x with
        | (name, kind) => if (kind == NameKind.free) = true then do let a ← cellOf env name; pure (ForInStep.yield ((name, a) :: r)) else pure (ForInStep.yield r) : Sem (ForInStep (List (Str × Addr))))) = (pure (clF env names acc) : Sem (List (Str × Addr))) := by
    intro names
    induction names with
    | nil => intro acc _; rfl
    | cons x r ih =>
      intro acc hy
      obtain ⟨n, k⟩ := x
      have ih' := fun a => ih a fun y m => hy y (List.mem_cons_of_mem _ m)
      rw [List.forIn_cons]
      cases hk : (k == NameKind.free) with
      | false =>
        dsimp only
        rw [hk, if_neg Bool.false_ne_true, pure_bind]
        show _ = pure (clF env r (if (k == NameKind.free) = true then _ else acc))
        rw [hk, if_neg Bool.false_ne_true]
        exact ih' acc
      | true =>
        obtain ⟨c, hc⟩ := hy (n, k) List.mem_cons_self (by simpa using hk)
        have e : cellOf env n = pure c := by unfold cellOf; rw [hc]
        dsimp only
        rw [hk, if_pos rfl, e, pure_bind, pure_bind]
        show _ = pure (clF env r (if (k == NameKind.free) = true then _ else acc))
        rw [hk, if_pos rfl, hc]
        exact ih' _
  unfold closureFor
  have e := go scope.names [] h
  show (forIn scope.names [] _ >>= _) = _
  refine (congrArg (fun z => z >>= fun cs => pure cs) e).trans ?_
  rfl
theorem clF_sub {env : Env} : ∀ (names : List (Str × NameKind)) (acc : List (Str × Addr)), (∀ y ∈ names, y.2 = .free → ∃ c, env.cells.lookup y.1 = some c) →
    (∀ x c, acc.lookup x = some c → env.cells.lookup x = some c) → ∀ x c, (clF env names acc).lookup x = some c → env.cells.lookup x = some c
  | [], acc, _, h, x, c, e => h x c e
  | (n, k) :: r, acc, hy, h, x, c, e => by
    refine clF_sub r _ (fun y m => hy y (List.mem_cons_of_mem _ m)) (fun y d z => ?_) x c e
    cases hk : (k == NameKind.free) with
    | false => rw [hk, if_neg Bool.false_ne_true] at z; exact h y d z
    | true =>
      rw [hk, if_pos rfl] at z
      obtain ⟨c', hc⟩ := hy (n, k) List.mem_cons_self (by simpa using hk)
      rw [List.lookup_cons] at z
      cases q : y == n with
      | true =>
        rw [q] at z
        have q' : y = n := by simpa using q
        subst q'
        have hc' : env.cells.lookup y = some c' := hc
        rw [hc'] at z ⊢
        exact z
      | false => rw [q] at z; exact h y d z
theorem clF_has {env : Env} : ∀ (names : List (Str × NameKind)) (acc : List (Str × Addr)) (x : Str), ((x, NameKind.free) ∈ names ∨ ∃ c, acc.lookup x = some c) → ∃ c, (clF env names acc).lookup x = some c
  | [], acc, x, h => by
    rcases h with h | h
    · cases h
    · exact h
  | (n, k) :: r, acc, x, h => by
    refine clF_has r _ x ?_
    have keep : (∃ c, acc.lookup x = some c) → ∃ c, (if (k == NameKind.free) = true then (n, (env.cells.lookup n).getD 0) :: acc else acc).lookup x = some c := fun hZ => by
      obtain ⟨c, hc⟩ := hZ
      split
      · rw [List.lookup_cons]
        split
        · exact ⟨_, rfl⟩
        · exact ⟨c, hc⟩
      · exact ⟨c, hc⟩
    rcases h with h | h
    · rcases List.mem_cons.mp h with e | e
      · have e1 : x = n := congrArg Prod.fst e
        have e2 : NameKind.free = k := congrArg Prod.snd e
        subst e1 e2
        refine .inr ⟨(List.lookup x env.cells).getD 0, ?_⟩
        rw [if_pos (by rfl), List.lookup_cons, beq_self_eq_true]
      · exact .inl e
    · exact .inr (keep h)
/-- what a name is in the block: local there, else one of the cells taken along -/
theorem rel_kind {env : Env} : ∀ {names : List (Str × NameKind)} {x : Str} {k : NameKind},
    (names.map fun (n, k) => if (k == NameKind.free && env.scope.kind == .function && env.kindOf n == some .cell) then (n, NameKind.cell) else (n, k)).lookup x = some k →
    (names.lookup x = some k) ∨ (k = .cell ∧ names.lookup x = some .free)
  | [], _, _, h => by simp at h
  | (n, k') :: r, x, k, h => by
    have ih := @rel_kind env r x k
    have h : List.lookup x ((if (k' == NameKind.free && env.scope.kind == .function && env.kindOf n == some .cell) = true then (n, NameKind.cell) else (n, k')) :: _) = some k := h
    by_cases hc : (k' == NameKind.free && env.scope.kind == .function && env.kindOf n == some .cell) = true
    · rw [if_pos hc, List.lookup_cons] at h
      rw [List.lookup_cons]
      cases hx : x == n with
      | true =>
        rw [hx] at h
        have h' : some NameKind.cell = some k := h
        cases h'
        have : k' = NameKind.free := by
          have := (Bool.and_eq_true _ _).mp ((Bool.and_eq_true _ _).mp hc).1
          simpa using this.1
        subst this
        exact .inr ⟨rfl, rfl⟩
      | false => rw [hx] at h; exact ih h
    · rw [if_neg hc, List.lookup_cons] at h
      rw [List.lookup_cons]
      cases hx : x == n with
      | true => rw [hx] at h; exact .inl h
      | false => rw [hx] at h; exact ih h

/-- the block of a comprehension as a context -/
def blk (X : Cx) (sc : Scope) (cl : List (Str × Addr)) (C : Addr) (fp : List Addr) (s : Shared) (H : Hp) (N : List Str) : Cx :=
  { X with env := compEnvC sc cl C X.env, N := N, s₀ := s, H₀ := H, outer := X.stack, ex := fp, fn := fun _ => false, pn := [], xe := fun _ _ => False }
/-- what is asked of a comprehension's names: M stands for the frame's slots (the dummy name where a slot is not seen), tgs for the targets -/
structure BlkOk (X : Cx) (sc : Scope) (M tgs : List Str) : Prop where
  kind : sc.kind = .function
  names : ∀ y ∈ sc.names, y.2 = .local → sc.names.lookup y.1 = some .local
  nocell : ∀ y ∈ sc.names, y.2 ≠ .cell
  free : ∀ y ∈ sc.names, y.2 = .free → X.env.kindOf y.1 = some .cell ∨ X.env.kindOf y.1 = some .free
  len : M.length = X.N.length
  same : ∀ p ∈ M.zip X.N, p.1 = p.2 ∨ p.1 = ("" : Str)
  dummy : sc.names.lookup ("" : Str) = none
  hid : ∀ x ∈ M, sc.names.lookup x ≠ some .local
section
variable {X : Cx}
theorem Inv.blk {pins : List (Addr × Obj)} {σ : St} {H : Hp} {s s4 : Shared} {sc : Scope} {M tgs : List Str} {C : Addr} {fp : List Addr} {m : Str → Option Value} (I : Inv X pins σ H s) (B : BlkOk X sc M tgs) (hf : ∀ b ∈ fp, FpOk X pins H b) (hfl : ∀ b ∈ fp, b < s.heap.objs.size)
    (hC : s.heap.objs.size ≤ C) (hn : s4.heap.Ns C m) (hk : ∀ b o, s.heap.get? b = some o → s4.heap.get? b = some o) (ho : s4.os = s.os) (hg : s4.gens = s.gens) :
    Inv (blk X sc (clF X.env sc.names []) C fp s H (M ++ tgs)) [] (σ ++ List.replicate tgs.length none) H s4 := by
  have hfr : ∀ y ∈ sc.names, y.2 = .free → ∃ c, X.env.cells.lookup y.1 = some c := fun y hy e => I.ok.has _ (B.free y hy e)
  have hsub : ∀ x c, (clF X.env sc.names []).lookup x = some c → X.env.cells.lookup x = some c := clF_sub sc.names [] hfr fun _ _ z => by simp at z
  have hin : ∀ x c, (clF X.env sc.names []).lookup x = some c → c < s.heap.objs.size := fun x c e => by
    obtain ⟨v, q⟩ := I.cell x c (hsub x c e)
    exact q.lt
  have hfree : ∀ x, ((relabel sc X.env).names.lookup x = some .cell ∨ (relabel sc X.env).names.lookup x = some .free) → sc.names.lookup x = some .free := fun x hx => by
    rcases hx with q | q
    · rcases rel_kind q with z | z
      · exact absurd rfl (B.nocell _ (PySem.mem_of_lookup z))
      · exact z.2
    · rcases rel_kind q with z | z
      · exact z
      · exact absurd z.1 (by decide)
  refine ⟨⟨I.ok.mod, B.kind, I.ok.glob, I.ok.blt, hC, fun x y c h1 h2 => I.ok.inj x y c (hsub x c h1) (hsub y c h2), fun x hx => ?_, fun x c z => absurd z Bool.false_ne_true, I.ok.hd, I.ok.frames, .inl rfl, fun b hb => ⟨?_, fun x c e => ?_⟩, I.bs, ?_, fun b o e z => ?_, fun b hb => ?_, I.stack, I.stkFree⟩,
    ho, ?_, Un.kept hk, ⟨m, hn, fun i x v h1 h2 h3 => ?_⟩, fun x c e => ?_, I.hok.fresh hC, fun x c e => I.freeC x c (hsub x c e), fun p hp => absurd (show p ∈ ([] : List (Addr × Obj)) from hp) (by simp), I.hok.kept hk, ?_⟩
  · exact clF_has sc.names [] x (.inl (PySem.mem_of_lookup (hfree x hx)))
  · exact Nat.ne_of_lt (Nat.lt_of_lt_of_le (hfl b hb) hC)
  · exact (hf b hb).2.2.2.2.1 x c (hsub x c e)
  · exact Nat.le_trans I.ok.bsz I.sz
  · rcases (hf b z).2.2.2.1 with q | q
    · exact I.ok.noex b o e q
    · exact absurd (Nat.lt_of_lt_of_le (Heap.lt_size e) I.ok.bsz) (Nat.not_lt.mpr q)
  · intro z
    rcases List.mem_cons.mp (I.stkSub b z) with q | q
    · exact (hf b hb).2.1 q
    · exact (hf b hb).2.2.1 q
  · rw [hg]; exact I.bare
  · have hl : M.length = σ.length := B.len.trans I.len.symm
    have hi : i < σ.length := by
      by_cases hi : i < σ.length
      · exact hi
      · rw [List.getElem?_append_right (by omega), List.getElem?_replicate] at h2
        split at h2 <;> cases h2
    rw [List.getElem?_append_left hi] at h2
    have h1 : (M ++ tgs)[i]? = some x := h1
    rw [List.getElem?_append_left (by omega)] at h1
    have hmem : x ∈ M := List.mem_of_getElem? h1
    have hx : sc.names.lookup x = some .free := by
      rcases h3 with q | q | q
      · rcases rel_kind q with z | z
        · exact absurd z (B.hid x hmem)
        · exact absurd z.1 (by decide)
      · exact hfree x (.inl q)
      · exact hfree x (.inr q)
    have hNi : X.N[i]? = some x := by
      have hi2 : i < X.N.length := by rw [← I.len]; exact hi
      have hz : (M.zip X.N)[i]? = some (x, X.N[i]) := by
        rw [List.getElem?_zip_eq_some]
        exact ⟨h1, List.getElem?_eq_getElem hi2⟩
      rcases B.same _ (List.mem_of_getElem? hz) with q | q
      · have q' : x = X.N[i] := q
        rw [List.getElem?_eq_getElem hi2, q']
      · have q' : x = ("" : Str) := q
        rw [q', B.dummy] at hx
        cases hx
    have hk2 := B.free (x, .free) (PySem.mem_of_lookup hx) rfl
    obtain ⟨m0, _, hl0⟩ := I.loc
    obtain ⟨u, r, l⟩ := hl0 i x v hNi h2 (.inr hk2)
    refine ⟨u, r, .inr ?_⟩
    rcases l with ⟨k, _⟩ | ⟨_, c, ec, hcell⟩
    · have k' : X.env.kindOf x = some .local := k
      rcases hk2 with q | q
      · have q' : X.env.kindOf x = some .cell := q
        rw [k'] at q'; cases q'
      · have q' : X.env.kindOf x = some .free := q
        rw [k'] at q'; cases q'
    · obtain ⟨c', ec'⟩ := clF_has (env := X.env) sc.names [] x (.inl (PySem.mem_of_lookup hx))
      have : c' = c := by
        have := hsub x c' ec'
        rw [ec] at this
        exact (Option.some.inj this).symm
      subst this
      refine ⟨?_, c', ec', ?_⟩
      · rcases h3 with q | q | q
        · rcases rel_kind q with z | z
          · rw [hx] at z; cases z
          · exact absurd z.1 (by decide)
        · exact .inl q
        · exact .inr q
      · obtain ⟨o, e1, e2⟩ := hcell
        exact ⟨o, hk _ _ e1, e2⟩
  · obtain ⟨v, o, e1, e2⟩ := I.cell x c (hsub x c e)
    exact ⟨v, o, hk _ _ e1, e2⟩
  · show (σ ++ _).length = (M ++ tgs).length
    rw [List.length_append, List.length_append, List.length_replicate, B.len, I.len]

/-- the tests of a comprehension -/
def PIfs (X : Cx) (ifs : List Expr) (t : TT) : Prop :=
  ∀ (pins : List (Addr × Obj)) (s : Shared) (σ : St) (H : Hp) (Q : Bool → Hp → Prop), Inv X pins σ H s → t σ H Q →
    wpAny (model X.prog X.w) X.A (forIn ifs true fun c r => if r = true then do let ok ← isTrue c X.env (eval c X.env); pure (ForInStep.yield ok) else pure (ForInStep.yield r)) (TP X pins σ Q) X.xe s
def tNoIf : TT := fun _ H Q => Q true H
theorem pif0 : PIfs X [] tNoIf := fun pins s σ H Q I h => wpAny_tests_nil ⟨H, I, h⟩
/-- the loop of a comprehension, whatever the target is -/
theorem compLoop_gen {prog : Program} {w : World} {A : Around} {R : Result → Shared → Prop} {s : Shared} {elt target iter : Expr} {ifs : List Expr} {scope : Scope} {pos : Pos} {it acc : Value} {env : Env} (I : Nat → Shared → Prop)
    (turn : ∀ n s, I n s → wpAny (model prog w) A (pyNext it) (fun r s₁ => match r with
      | none => R (.ok .next) s₁
      | some v => wpAny (model prog w) A (letOwnedTupleGo target it v) (fun _ s₁' => wpAny (model prog w) A (assign target env v) (fun _ s₂ =>
          wpAny (model prog w) A (forIn ifs true fun c r => if r = true then do let ok ← isTrue c env (eval c env); pure (ForInStep.yield ok) else pure (ForInStep.yield r)) (fun ok s₃ =>
            if ok = true then wpAny (model prog w) A (eval elt env) (fun x s₄ =>
              wpAny (model prog w) A (call (.builtin "list.append") [acc, x]) (fun _ s₅ => ∃ m, m < n ∧ I m s₅) (fun _ _ => False) s₄) (fun _ _ => False) s₃
            else ∃ m, m < n ∧ I m s₃) (fun _ _ => False) s₂) (fun _ _ => False) s₁') (fun _ _ => False) s₁) (fun _ _ => False) s)
    (n : Nat) (h : I n s) :
    codeAny (model prog w) A (.compLoop (.ListComp elt [⟨target, iter, ifs, 0⟩] scope pos) 0 it acc env) R s := by
  refine codeAny_loop rfl I (fun n s hI => ?_) n h
  show wpAny _ A ((compTurn (.ListComp elt [⟨target, iter, ifs, 0⟩] scope pos) 0 it acc env).onRaise (fun x => do noteFrame x env; theTreesLotGoes x)) _ _ s
  refine wpAny_noted ?_
  rw [compTurn_list]
  refine wpAny_bind (wpAny_standAt (wpAny_bind (wpAny_mono (turn n s hI) (fun r s₁ h₁ => ?_) fun _ _ z => z.elim)))
  cases r with
  | none => exact wpAny_pure h₁
  | some v =>
    refine wpAny_bind (wpAny_mono h₁ (fun _ s₁' h₁' => ?_) fun _ _ z => z.elim)
    refine wpAny_bind (wpAny_mono h₁' (fun _ s₂ h₂ => wpAny_bind (wpAny_mono h₂ (fun ok s₃ h₃ => ?_) fun _ _ z => z.elim)) fun _ _ z => z.elim)
    cases ok with
    | false => exact wpAny_pure ⟨rfl, h₃⟩
    | true =>
      exact wpAny_bind (wpAny_bind (wpAny_mono h₃ (fun x s₄ h₄ => wpAny_bind (wpAny_mono h₄ (fun _ s₅ h₅ => wpAny_pure (wpAny_pure ⟨rfl, h₅⟩)) fun _ _ z => z.elim)) fun _ _ z => z.elim))

/-- W: the invariant by the turn, a measure, what is gathered -/
def CompW (J : It) (k : Nat) (g : TG) (tt : TT) (te : TE) (σ : St) (Q : VK) (H1 : Hp) : Prop := ∃ W : Nat → Nat → List V → Hp → Prop, (∃ m, W 0 m [] H1) ∧ ∀ i m ys H, W i m ys H → ys.length ≤ sizeLine ∧
  ((J.stop i H ∧ ∀ l, H l = none → Q (.ref l) (upd H l (.lst ys))) ∨ (J.go i H ∧ ∀ x H', J.yld i H x H' → g x (σ ++ List.replicate k none) H' fun σ2 H2 => σ2.take σ.length = σ ∧ tt σ2 H2 fun b H3 =>
    if b = true then te σ2 H3 fun y H4 => ∃ m', m' < m ∧ W (i + 1) m' (ys ++ [y]) H4 else ∃ m', m' < m ∧ W (i + 1) m' ys H3))
def tComp (wi : TI) (k : Nat) (g : TG) (tt : TT) (te : TE) : TE := fun σ H Q => wi σ H fun J H1 => CompW J k g tt te σ Q H1

theorem HOk.track {P : Program} {w : World} {H : Hp} {h : Heap} {a : Addr} {o : HO} (x : HOk P w H h) (hn : H a = none) (new : ObjOk P w (upd H a o) h a o) : HOk P w (upd H a o) h := fun b u e => by
  by_cases hb : b = a
  · subst hb
    rw [upd_same] at e
    cases e
    exact new
  · rw [upd_ne hb] at e
    exact (x b u e).stay (fun _ _ _ q => q) (fun c q => by rw [upd_ne (ne_of_none q hn)]; exact q) fun c xs q => by rw [upd_ne (ne_of_none q hn)]; exact q

theorem st_back {σ σ' : St} {k : Nat} (h : σ'.take σ.length = σ) : ∀ (i : Nat) v, (σ ++ List.replicate k (none : Option V))[i]? = some (some v) → σ'[i]? = some (some v) := fun i v e => by
  by_cases hi : i < σ.length
  · rw [List.getElem?_append_left hi, ← h, List.getElem?_take_of_lt hi] at e
    exact e
  · rw [List.getElem?_append_right (by omega), List.getElem?_replicate] at e
    split at e <;> cases e

theorem pe_comp {elt tg iter : Expr} {ifs : List Expr} {sc : Scope} {M tgs : List Str} {pos : Pos} {wi : TI} {g : TG} {tt : TT} {te : TE} (hc : X.calm = true) (B : BlkOk X sc M tgs) (hi : PI X tg iter wi)
    (hg : ∀ cl C fp s H, PG (blk X sc cl C fp s H (M ++ tgs)) tg g) (ht : ∀ cl C fp s H, PIfs (blk X sc cl C fp s H (M ++ tgs)) ifs tt) (he : ∀ cl C fp s H, PE (blk X sc cl C fp s H (M ++ tgs)) elt te)
    (hs : ∀ x, foldedSetIterable iter X.env x = pure x := by intro _; rfl) : PE X (.ListComp elt [⟨tg, iter, ifs, 0⟩] sc pos) (tComp wi tgs.length g tt te) := by
  intro pins s σ H Q I h
  have hfr : ∀ y ∈ sc.names, y.2 = .free → ∃ c, X.env.cells.lookup y.1 = some c := fun y hy e => I.ok.has _ (B.free y hy e)
  have hsub : ∀ x c, (clF X.env sc.names []).lookup x = some c → X.env.cells.lookup x = some c := clF_sub sc.names [] hfr fun _ _ z => by simp at z
  rw [eval_ListComp]
  refine wpAny_comprehension_free (use := none) rfl hs (closure_eq hfr) B.kind B.names (thn (hi pins s σ H _ I h) fun xv s₁ h₁ => thn h₁ fun itv s₂ h₂ => ?_)
  obtain ⟨it, fp, tn, J, H2, rfl, I2, T, st2, f2, W, ⟨m0, w0⟩, turn⟩ := h₂
  have hfl : ∀ b ∈ fp, b < s₂.heap.objs.size := fun b hb => by
    obtain ⟨o, e, _⟩ := T.obj _ _ st2 b hb
    exact Heap.lt_size e
  refine wpAny_newObj_type (wpAny_newFunctionEnv B.nocell (by intro y hy; simp at hy) (fun h₁ hns₁ hsb₁ => ?_) B.kind)
  dsimp only at hns₁ hsb₁ ⊢
  generalize hH2 : s₂.heap.push { cls := .type "list", dict := none, data := .seq ([] : List Value).toArray } = HH at hns₁ hsb₁ ⊢
  have hC : HH.objs.size = s₂.heap.objs.size + 1 := by rw [← hH2, Heap.size_push]
  generalize hCC : HH.objs.size = C at hC hns₁ hsb₁ ⊢
  generalize hDD : s₂.heap.objs.size = D at hC ⊢
  have hDC : D ≠ C := by omega
  have below : ∀ b, b < D → b ≠ C ∧ b ≠ D := fun b hb => ⟨by omega, by omega⟩
  have old : ∀ b o, s₂.heap.get? b = some o → h₁.get? b = some o := fun b o e => hsb₁.extBut b o (below b (hDD ▸ Heap.lt_size e)).1 (Heap.get?_push_of_some _ (hH2 ▸ Heap.get?_push_of_some _ e))
  have hacc : h₁.PlainList D #[] := ⟨_, hsb₁.extBut _ _ hDC (Heap.get?_push_of_some _ (by rw [← hH2, ← hDD]; exact Heap.get?_push_size _ rfl))⟩
  have hCs : s₂.heap.objs.size ≤ C := by omega
  generalize hS4 : ({ s₂ with heap := h₁, toks := s₂.toks + ([] : List (Str × Value)).length } : Shared) = s₄
  have I4 : Inv (blk X sc (clF X.env sc.names []) C fp s₂ H2 (M ++ tgs)) [] (σ ++ List.replicate tgs.length none) H2 s₄ :=
    I2.blk B f2 hfl hCs (by rw [← hS4]; exact hns₁) (by rw [← hS4]; exact old) (by rw [← hS4]) (by rw [← hS4])
  have hD4 : s₄.heap.PlainList D #[] := by rw [← hS4]; exact hacc
  have st4 : tn 0 s₄.heap := by rw [← hS4]; exact T.keep _ _ _ st2 fun b _ o e => old b o e
  -- what holds through the loop
  let X' := blk X sc (clF X.env sc.names []) C fp s₂ H2 (M ++ tgs)
  have nfs : ∀ b, s₂.heap.objs.size ≤ b → b ∉ frs X.stack := fun b hb z => by
    rcases List.mem_cons.mp (I2.stkSub b z) with q | q
    · rw [q] at hb; exact absurd I2.lt (Nat.not_lt.mpr hb)
    · exact I2.nofs hb q
  have Dpin : ∀ {s' : Shared} {H' : Hp} {its : Array Value} {n : Nat}, s'.heap.get? D = some { cls := .type "list", data := .seq its n } → H' D = none →
      ∀ p ∈ [(D, ({ cls := .type "list", data := .seq its n } : Obj))], s'.heap.get? p.1 = some p.2 ∧ H' p.1 = none ∧ p.1 ≠ X'.env.locals ∧ p.1 ∉ X'.fs ∧ ∀ v, p.2.data ≠ .cell v := fun {s' H' its n} e hn p hp => by
    have e1 : p = (D, ({ cls := .type "list", data := .seq its n } : Obj)) := by simpa using hp
    subst e1
    exact ⟨e, hn, hDC, nfs D (by omega), fun v z => by cases z⟩
  have fpk : ∀ {pl : List (Addr × Obj)} {H' : Hp}, (∀ p ∈ pl, p.1 = D) → (∀ b ∈ fp, H' b = none) → ∀ b ∈ fp, FpOk X' pl H' b := fun {pl H'} hpl hn b hb => by
    refine ⟨hn b hb, (below b (hDD ▸ hfl b hb)).1, fun z => ?_, .inl hb, fun x c e => (f2 b hb).2.2.2.2.1 x c (hsub x c e), fun p hp => ?_⟩
    · rcases List.mem_cons.mp (I2.stkSub b z) with q | q
      · exact (f2 b hb).2.1 q
      · exact (f2 b hb).2.2.1 q
    · have hp' : p ∈ pl := by simpa [X', blk] using hp
      rw [hpl p hp']
      exact Ne.symm (below b (hDD ▸ hfl b hb)).2
  have cellD : ∀ x c, X'.env.cells.lookup x = some c → c ≠ D := fun x c e z => by
    obtain ⟨v, q⟩ := I2.cell x c (hsub x c e)
    have q := q.lt
    rw [z, hDD] at q
    exact Nat.lt_irrefl _ q
  have loop : codeAny (model X.prog X.w) X.A (.compLoop (.ListComp elt [⟨tg, iter, ifs, 0⟩] sc pos) 0 (.ref it) (.ref D) (compEnvC sc (clF X.env sc.names []) C X.env))
      (compPost (model X.prog X.w) X.A X.xe none (EP X pins σ Q) (.ref D) C) s₄ := by
    refine compLoop_gen (fun n s' => ∃ i ys its k H', Inv X' [(D, { cls := .type "list", data := .seq its k })] (σ ++ List.replicate tgs.length none) H' s' ∧ Vals ys its.toList ∧ tn i s'.heap ∧ (∀ b ∈ fp, H' b = none) ∧ W i n ys H') ?_ m0 ?_
    · rintro n s5 ⟨i, ys, its, k, H5, I5, hv, st5, fr5, w5⟩
      obtain ⟨hz, w5⟩ := turn i n ys H5 w5
      have hD5 := I5.pin (D, { cls := .type "list", data := .seq its k }) (List.mem_append_right _ (by simp))
      have one : ∀ p ∈ [(D, ({ cls := .type "list", data := .seq its k } : Obj))], p.1 = D := fun p hp => by
        have : p = (D, ({ cls := .type "list", data := .seq its k } : Obj)) := by simpa using hp
        rw [this]
      rcases w5 with ⟨stop, qn⟩ | ⟨go, step⟩
      · refine thn (T.done X' rfl rfl rfl hc i _ s5 _ H5 _ I5 (fpk one fr5) st5 stop) fun r s6 ⟨hr, I6⟩ => ?_
        subst hr
        obtain ⟨m6, hn6, _⟩ := I6.loc
        refine ⟨m6, hn6, fun h7 hs7 => ?_⟩
        have hs7 : Heap.SameBut C s6.heap h7 := hs7
        obtain ⟨e6, n6, _⟩ := I6.pin (D, { cls := .type "list", data := .seq its k }) (List.mem_append_right _ (by simp))
        have hC6 : H5 C = none := I6.free
        have ok7 : HOk X.prog X.w H5 h7 := fun b o e => (I6.hok b o e).stay (fun c w' hc' q => (hs7.2 c (by
          rintro rfl
          rcases hc' with rfl | hc'
          · rw [hC6] at e; cases e
          · rw [hC6] at hc'; cases hc')).trans q) (fun _ q => q) fun _ _ q => q
        have e7 : h7.get? D = some { cls := .type "list", data := .seq its k } := (hs7.2 D hDC).trans e6
        have hln : ys.length ≤ sizeLine := hz
        have ok8 : HOk X.prog X.w (upd H5 D (.lst ys)) h7 := ok7.track n6 ⟨hln, its.toList, k, hv, by simpa using e7⟩
        have un : Un (frs X.stack) fp H2 H5 s₂.heap s6.heap := I6.base
        have neC : ∀ b o, s₂.heap.get? b = some o → b ≠ C ∧ b ≠ D := fun b o e => below b (hDD ▸ Heap.lt_size e)
        have un7 : Un (frs X.stack) fp H2 (upd H5 D (.lst ys)) s₂.heap h7 := by
          refine ⟨fun b o e n hb hx => (hs7.2 b (neC b o e).1).trans (un.keep b o e n hb hx), fun b o e n hb hx => ?_, fun b o e n hx => ?_, fun b o e hx => ?_, fun b xs e => ?_, fun b o u e => ?_, fun b ps e => ?_⟩
          · obtain ⟨sl, q⟩ := un.slot b o e n hb hx
            exact ⟨sl, (hs7.2 b (neC b o e).1).trans q⟩
          · rw [upd_ne (neC b o e).2]; exact un.free b o e n hx
          · obtain ⟨o', q⟩ := un.there b o e hx
            exact ⟨o', (hs7.2 b (neC b o e).1).trans q⟩
          · have q := un.tups b xs e
            rw [upd_ne (ne_of_none q n6)]; exact q
          · have q := un.frzs b o u e
            rw [upd_ne (ne_of_none q n6)]; exact q
          · obtain ⟨more, q⟩ := un.tbls b ps e
            exact ⟨more, by rw [upd_ne (ne_of_none q n6)]; exact q⟩
        refine ⟨.ref D, upd H5 D (.lst ys), I2.call' (ch := fp) ?_ un7 ok8 I6.bare (fun b hb => ⟨(f2 b hb).2.2.2.1, (f2 b hb).2.1, (f2 b hb).2.2.2.2.1, (f2 b hb).2.2.2.2.2⟩), rfl, qn D n6⟩
        exact I6.os
      · refine thn (T.item X' rfl rfl rfl hc i _ s5 _ H5 _ I5 (fpk one fr5) st5 go) fun r s6 ⟨u, hr, h6⟩ => ?_
        subst hr
        refine thn h6 fun _ s7 ⟨x, H7, I7, r7, y7, st7, fr7⟩ => ?_
        have I7' := I7.pinned (fpk one fr7) (T.obj _ _ st7)
        refine thn (hg _ _ _ _ _ _ s7 _ H7 x u _ I7' r7 (step x H7 y7)) fun _ s8 ⟨σ8, H8, I8, tk8, q8⟩ => ?_
        refine thn (ht _ _ _ _ _ _ s8 σ8 H8 _ I8 q8) fun b s9 ⟨H9, I9, q9⟩ => ?_
        -- the turn's end, from a state in which nothing but the list has changed
        have weak : ∀ {pl : List (Addr × Obj)} {H' : Hp} {s' : Shared}, Inv X' pl σ8 H' s' → Inv X' pl (σ ++ List.replicate tgs.length none) H' s' := fun {pl H' s'} J => J.weak (by
          have e1 : σ8.length = (M ++ tgs).length := J.len
          rw [e1, List.length_append, List.length_append, List.length_replicate, B.len, I2.len]) (st_back tk8)
        have fin : ∀ {H' : Hp} {s' : Shared}, Inv X' ([(D, { cls := .type "list", data := .seq its k })] ++ pinsAt fp s7.heap) σ8 H' s' → tn (i + 1) s'.heap ∧ ∀ b ∈ fp, H' b = none := fun {H' s'} J => by
          refine ⟨T.keep _ _ _ st7 fun b hb o e => (J.pin (b, o) (List.mem_append_right _ (List.mem_append_right _ (mem_pinsAt hb e)))).1, fun b hb => ?_⟩
          obtain ⟨o, e, d⟩ := T.obj _ _ st7 b hb
          exact (J.pin (b, o) (List.mem_append_right _ (List.mem_append_right _ (mem_pinsAt hb e)))).2.1
        cases b with
        | false =>
          rw [if_neg Bool.false_ne_true] at q9 ⊢
          obtain ⟨m', hm, w9⟩ := q9
          exact ⟨m', hm, i + 1, ys, its, k, H9, weak I9.unpinned, hv, (fin I9).1, (fin I9).2, w9⟩
        | true =>
          rw [if_pos rfl] at q9 ⊢
          refine thn (he _ _ _ _ _ _ s9 σ8 H9 _ I9 q9) fun y s10 ⟨yv, H10, I10, r10, q10⟩ => ?_
          obtain ⟨m', hm, w10⟩ := q10
          obtain ⟨e10, n10, _⟩ := I10.pin (D, { cls := .type "list", data := .seq its k }) (List.mem_append_right _ (List.mem_append_left _ (by simp)))
          have hsz : its.size ≤ sizeLine := by
            have e1 := hv.length
            have e2 : its.toList.length = its.size := by simp
            omega
          refine wpAny_list_append_plain (hsz := hsz) ⟨k, e10⟩ fun h11 hl11 hs11 => ?_
          obtain ⟨k', e11⟩ := hl11
          have J0 : Inv X' [] σ8 H10 s10 := I10.pins_of fun p hp => by simp at hp
          have J1 : Inv X' [] σ8 H10 { s10 with heap := h11 } := J0.turned (t' := s10.toks) (it := D) (fun b o hb e => (hs11.2 b hb).trans e) n10 hDC (.inr (by show s₂.heap.objs.size ≤ D; omega)) cellD (fun p hp => by
            have hp' : p ∈ ([] : List (Addr × Obj)) := by simpa [X', blk] using hp
            simp at hp')
          have J2 : Inv X' [(D, { cls := .type "list", data := .seq (its.push y) k' })] σ8 H10 { s10 with heap := h11 } := J1.pins_of (Dpin e11 n10)
          refine ⟨m', hm, i + 1, ys ++ [yv], its.push y, k', H10, weak J2, ?_, ?_, (fin I10).2, w10⟩
          · rw [Array.toList_push]
            exact hv.append (.cons r10 .nil)
          · refine T.keep _ _ _ (fin I10).1 fun b hb o e => (hs11.2 b ?_).trans e
            exact (below b (hDD ▸ hfl b hb)).2
    · obtain ⟨k, e⟩ := hD4
      exact ⟨0, [], #[], k, H2, I4.pins_of (Dpin e (I2.hok.fresh (by omega))), .nil, st4, fun b hb => (f2 b hb).1, w0⟩
  exact codeAny_compStart_list loop (T.self _ _ _ _ _ st4 loop)
end
end L2

namespace HT
open PySem PySem.Spec PyProof.Rows PySem.SeqAt
/-- tuples of ints by <= -/
def lexLe : List Int → List Int → Bool
  | [], _ => true
  | _ :: _, [] => false
  | x :: xs, y :: ys => if x = y then lexLe xs ys else decide (x ≤ y)
section
open PySem.SeqAt
open PySem.AutoSeq1 (wpAny_loadPart')
open PySem.MeetsSeq PySem.MeetsSeq2 PySem.MeetsSeq3
end
section
variable {prog : Program} {w : World} {A : Around} {E : Value → Shared → Prop} {s : Shared}
end
end HT

namespace L2
open PySem PySem.Spec PyProof.Rows
section
variable {X : Cx}
def rLeT (K : PySem.W.Frag) : R2 := fun x y H Q => ∃ a b ns ms, x = .ref a ∧ y = .ref b ∧ SqT K H a (ns.map V.int) ∧ SqT K H b (ms.map V.int) ∧ Q (.bl (HT.lexLe ns ms)) H
/-- two tuples of ints are the same, item by item -/
theorem all_eq_ints : ∀ (ns ms : List Int), ((List.range (min ns.length ms.length)).all (fun j => decide (ns[j]? = ms[j]?)) && ns.length == ms.length) = decide (ns = ms) := fun ns ms => by
  by_cases e : ns = ms
  · subst e
    simp
  · rw [decide_eq_false e]
    by_cases hl : ns.length = ms.length
    · have : ¬ ((List.range (min ns.length ms.length)).all (fun j => decide (ns[j]? = ms[j]?))) = true := fun h => e (by
        apply List.ext_getElem?
        intro j
        by_cases hj : j < ns.length
        · exact of_decide_eq_true (List.all_eq_true.mp h j (by rw [List.mem_range]; omega))
        · rw [List.getElem?_eq_none (by omega), List.getElem?_eq_none (by omega)])
      rw [Bool.eq_false_iff.mpr this]
      rfl
    · have : (ns.length == ms.length) = false := by simpa using hl
      rw [this, Bool.and_false]
theorem eqAt_items {A : Around} {s : Shared} {ns ms : List Int} {its its2 : List Value} (r1 : Vals (ns.map V.int) its) (r2 : Vals (ms.map V.int) its2) :
    ∀ j (h1 : j < its.toArray.size) (h2 : j < its2.toArray.size), SeqAt.EqAt A s its.toArray[j] its2.toArray[j] (decide (ns[j]? = ms[j]?)) := fun j h1 h2 => by
  have l1 := r1.length
  have l2 := r2.length
  rw [List.length_map] at l1 l2
  have h1' : j < its.length := by simpa using h1
  have h2' : j < its2.length := by simpa using h2
  obtain ⟨u, e1, t1, q1⟩ := r1.get (i := j) (x := V.int ns[j]) (by simp)
  obtain ⟨u', e2, t2, q2⟩ := r2.get (i := j) (x := V.int ms[j]) (by simp)
  have g1 : its.toArray[j] = .int ns[j] t1 := by
    rw [List.getElem?_eq_getElem h1'] at e1
    simpa [q1] using Option.some.inj e1
  have g2 : its2.toArray[j] = .int ms[j] t2 := by
    rw [List.getElem?_eq_getElem h2'] at e2
    simpa [q2] using Option.some.inj e2
  rw [g1, g2]
  obtain ⟨e, he, hiff⟩ := HT.eqAt_int A s ns[j] t1 ms[j] t2
  have : e = decide (ns[j]? = ms[j]?) := by
    rw [List.getElem?_eq_getElem (by omega), List.getElem?_eq_getElem (by omega)]
    cases e with
    | true => exact (decide_eq_true (by rw [hiff.mp rfl])).symm
    | false => exact (decide_eq_false (fun q => absurd (hiff.mpr (Option.some.inj q)) Bool.false_ne_true)).symm
  rw [← this]
  exact he
def rEqT (K : PySem.W.Frag) (neg : Bool) : R2 := fun x y H Q => ∃ (a b : Addr) (ns ms : List Int), x = .ref a ∧ y = .ref b ∧ SqT K H a (ns.map V.int) ∧ SqT K H b (ms.map V.int) ∧ Q (.bl (if neg then !decide (ns = ms) else decide (ns = ms))) H
/-! ### isinstance against the plain classes -/
def kindV (K : PySem.W.Frag) (H : Hp) (T : String) : V → Prop
  | .non => T = "NoneType"
  | .bl _ => T = "bool"
  | .int _ => T = "int"
  | .str _ => T = "str"
  | .ref p => (T = "list" ∧ ∃ xs, SqL K H p xs) ∨ (T = "tuple" ∧ ∃ xs, SqT K H p xs) ∨ (T = "dict" ∧ ((∃ kvs, H p = some (.dK kvs)) ∨ ∃ kvs, H p = some (.dT kvs)))
  | _ => False
def isiB (T C : String) : Bool := T == C || (T == "bool" && C == "int")
def isiC (C : String) : Prop := C = "int" ∨ C = "bool" ∨ C = "tuple" ∨ C = "list" ∨ C = "str"
def rIsi (K : PySem.W.Frag) : List V → Hp → VK → Prop := fun xs H Q => ∃ x T C, xs = [x, .ty C] ∧ isiC C ∧ kindV K H T x ∧ Q (.bl (isiB T C)) H
theorem call_isi : CallR X (.builtin "isinstance") (rIsi X.K) := by
  intro pins s σ H xs us Q I r h
  obtain ⟨x, T, C, rfl, hC, hk, q⟩ := h
  obtain ⟨u, w', rfl, rx, rc⟩ := vals2 r
  cases rc
  have fin : ∀ (b : Bool) (t : Nat), b = isiB T C → EP X pins σ Q (.bool b) { s with toks := t } := fun b t e => ⟨.bl b, H, I.tok t, rfl, by rw [e]; exact q⟩
  have fin0 : ∀ (b : Bool), b = isiB T C → EP X pins σ Q (.bool b) s := fun b e => ⟨.bl b, H, I, rfl, by rw [e]; exact q⟩
  cases x with
  | non =>
    cases rx
    cases (show T = "NoneType" from hk)
    rcases hC with rfl | rfl | rfl | rfl | rfl
    · exact IsiPair.NoneType_int (fin _ _ rfl)
    · exact IsiPair.NoneType_bool (fin _ _ rfl)
    · exact IsiPair.NoneType_tuple (fin _ _ rfl)
    · exact IsiPair.NoneType_list (fin _ _ rfl)
    · exact IsiPair.NoneType_str (fin _ _ rfl)
  | bl b =>
    cases rx
    cases (show T = "bool" from hk)
    rcases hC with rfl | rfl | rfl | rfl | rfl
    · exact IsiPair.bool_int (fin0 _ rfl)
    · exact IsiPair.bool_bool (fin0 _ rfl)
    · exact IsiPair.bool_tuple (fin _ _ rfl)
    · exact IsiPair.bool_list (fin _ _ rfl)
    · exact IsiPair.bool_str (fin _ _ rfl)
  | int i =>
    obtain ⟨t, rfl⟩ := rx
    cases (show T = "int" from hk)
    rcases hC with rfl | rfl | rfl | rfl | rfl
    · exact IsiPair.int_int (fin0 _ rfl)
    · exact IsiPair.int_bool (fin _ _ rfl)
    · exact IsiPair.int_tuple (fin _ _ rfl)
    · exact IsiPair.int_list (fin _ _ rfl)
    · exact IsiPair.int_str (fin _ _ rfl)
  | str z =>
    obtain ⟨t, rfl⟩ := rx
    cases (show T = "str" from hk)
    rcases hC with rfl | rfl | rfl | rfl | rfl
    · exact IsiPair.str_int (fin _ _ rfl)
    · exact IsiPair.str_bool (fin _ _ rfl)
    · exact IsiPair.str_tuple (fin _ _ rfl)
    · exact IsiPair.str_list (fin _ _ rfl)
    · exact IsiPair.str_str (fin0 _ rfl)
  | ref p =>
    cases rx
    rcases hk with ⟨rfl, xs, hq⟩ | ⟨rfl, xs, hq⟩ | ⟨rfl, hk⟩
    · obtain ⟨its, _, pl, _⟩ := I.list hq
      obtain ⟨o, n, e, c, hd, _⟩ := pl
      rcases hC with rfl | rfl | rfl | rfl | rfl
      · exact IsiPair.list_int e c (fin _ _ rfl)
      · exact IsiPair.list_bool e c (fin _ _ rfl)
      · exact IsiPair.list_tuple e c (fin _ _ rfl)
      · exact IsiPair.list_list e c (fin0 _ rfl)
      · exact IsiPair.list_str e c (fin _ _ rfl)
    · obtain ⟨its, _, ⟨o, e, c, _⟩, _⟩ := I.tuple hq
      rcases hC with rfl | rfl | rfl | rfl | rfl
      · exact IsiPair.tuple_int e c (fin _ _ rfl)
      · exact IsiPair.tuple_bool e c (fin _ _ rfl)
      · exact IsiPair.tuple_tuple e c (fin0 _ rfl)
      · exact IsiPair.tuple_list e c (fin _ _ rfl)
      · exact IsiPair.tuple_str e c (fin _ _ rfl)
    · have z : ∃ o, s.heap.get? p = some o ∧ o.cls = .type "dict" := by
        rcases hk with ⟨kvs, hk⟩ | ⟨kvs, hk⟩
        · obtain ⟨_, _, _, _, o, _, _, e, ex, _⟩ := I.hok p _ hk
          exact ⟨o, e, ex.1⟩
        · obtain ⟨_, _, _, _, o, _, _, e, ex, _⟩ := I.hok p _ hk
          exact ⟨o, e, ex.1⟩
      obtain ⟨o, e, c⟩ := z
      rcases hC with rfl | rfl | rfl | rfl | rfl
      · exact IsiPair.dict_int e c (fin _ _ rfl)
      · exact IsiPair.dict_bool e c (fin _ _ rfl)
      · exact IsiPair.dict_tuple e c (fin _ _ rfl)
      · exact IsiPair.dict_list e c (fin _ _ rfl)
      · exact IsiPair.dict_str e c (fin _ _ rfl)
  | _ => exact False.elim hk
end
end L2

namespace RawD
open PySem PySem.Spec PyProof.Rows PySem.W
/-- a dict by its entries alone -/
def At (h : Heap) (d : Addr) (es : Array DictEntry) (ep : Nat) : Prop := ∃ o, h.get? d = some o ∧ o.ExactDict ∧ o.data = .dict es ep
section
variable {prog : Program} {w : World} {A : Around} {E : Value → Shared → Prop} {s : Shared} {d it : Addr} {es : Array DictEntry} {ep i : Nat}
end
end RawD

namespace RawD
open PySem PySem.Spec PyProof.Rows PySem.W
section
variable {prog : Program} {w : World} {A : Around} {E : Value → Shared → Prop} {s : Shared} {d : Addr} {es : Array DictEntry} {ep : Nat}
end
end RawD

namespace L2
open PySem PySem.Spec PyProof.Rows
section
variable {X : Cx}
/-! ### dicts with tuples for keys: len, list -/
/-! ### all of a list of truths -/
theorem all_range : ∀ (bs : List Bool), (List.range bs.length).all (fun i => bs.getD i false) = bs.all id := fun bs => by
  rw [Bool.eq_iff_iff]
  simp only [List.all_eq_true, List.mem_range]
  constructor
  · intro h b hb
    obtain ⟨i, hi, e⟩ := List.mem_iff_getElem.mp hb
    have := h i hi
    rw [List.getD_eq_getElem?_getD, List.getElem?_eq_getElem hi, e] at this
    exact this
  · intro h i hi
    rw [List.getD_eq_getElem?_getD, List.getElem?_eq_getElem hi]
    exact h _ (List.getElem_mem hi)
theorem call_all (hc : X.calm = true) : CallR X (.builtin "all") (fun xs H Q => ∃ (p : Addr) (bs : List Bool), xs = [V.ref p] ∧ SqL X.K H p (bs.map V.bl) ∧ Q (.bl (bs.all id)) H) := by
  intro pins s σ H xs us Q I r h
  obtain ⟨p, bs, rfl, hq, q⟩ := h
  obtain ⟨u, rfl, ru⟩ := vals1 r
  cases ru
  obtain ⟨its, rv, pl, hz⟩ := I.list hq
  have hlen := rv.length
  rw [List.length_map] at hlen
  have hlt : p < s.heap.objs.size := by
    obtain ⟨o, n, e, _⟩ := pl
    exact Heap.lt_size e
  refine call_all_walk (wpAny_pyIter_list pl.isList ⟨s.heap.objs.size, _, _, its.toArray.size, _, _, fun i => bs.getD i false, rfl, Walks.list (show X.A.in1.handled = none from I.ok.hd hc) s.heap.objs.size p (Nat.ne_of_lt hlt) its.toArray,
    ⟨⟨_, Heap.get?_push_size _ rfl, rfl, rfl⟩, pl.isList.at fun o e => Heap.get?_push_of_some _ e⟩, fun i v s' Q' E' hP hQ' => ?_, fun h' tk hk => ?_⟩)
  · have hP : its.toArray[i]? = some v := hP
    have hi : i < bs.length := by
      have := (Array.getElem?_eq_some_iff.mp hP).1
      rw [List.size_toArray] at this
      omega
    obtain ⟨u, e1, e2⟩ := rv.get (i := i) (x := V.bl bs[i]) (by simp [hi])
    have : v = .bool bs[i] := by
      rw [show its.toArray[i]? = its[i]? by simp, e1] at hP
      cases hP
      exact e2
    subst this
    have hQ' : Q' (bs.getD i false) s' := hQ'
    rw [show bs.getD i false = bs[i] by simp [List.getD_eq_getElem?_getD, hi]] at hQ'
    exact wpAny_truthy_bool hQ'
  · refine ⟨.bl (bs.all id), H, ?_, ?_, q⟩
    · exact I.kept (h' := h') (t' := tk) fun b o e => hk b o (by have := Heap.lt_size e; simp; exact Nat.ne_of_lt this) (Heap.get?_push_of_some _ e)
    · show Value.bool _ = Value.bool _
      rw [List.size_toArray, ← hlen, all_range]

/-! ### min and max of a tuple of two ints -/
/-! ### range objects, in -/
theorem call_rng : CallR X (.type "range") (fun xs H Q => (∃ j : Int, xs = [V.int j] ∧ ∀ l, H l = none → Q (.ref l) (upd H l (.rng 0 j))) ∨ (∃ i j : Int, xs = [V.int i, V.int j] ∧ ∀ l, H l = none → Q (.ref l) (upd H l (.rng i j)))) := by
  intro pins s σ H xs us Q I r h
  have hf : H s.heap.objs.size = none := I.hok.fresh (Nat.le_refl _)
  rcases h with ⟨j, rfl, q⟩ | ⟨i, j, rfl, q⟩
  · obtain ⟨u, rfl, t, rfl⟩ := vals1 r
    exact call_range_1 ⟨.ref s.heap.objs.size, _, I.laid (o := .rng 0 j) (fun _ _ e => Heap.get?_push_of_some _ e) (Nat.le_refl _) ⟨_, _, _, Heap.get?_push_size _ rfl⟩, rfl, q _ hf⟩
  · obtain ⟨u, w', rfl, ⟨t, rfl⟩, ⟨t', rfl⟩⟩ := vals2 r
    exact call_range_2 ⟨.ref s.heap.objs.size, _, I.laid (o := .rng i j) (fun _ _ e => Heap.get?_push_of_some _ e) (Nat.le_refl _) ⟨_, _, _, Heap.get?_push_size _ rfl⟩, rfl, q _ hf⟩
theorem place_in (lo hi i : Int) : (Builtin.Range.rangePlace? lo hi 1 i).isSome = decide (lo ≤ i ∧ i < hi) := by
  unfold Builtin.Range.rangePlace?
  by_cases h : lo ≤ i ∧ i < hi
  · rw [decide_eq_true h]
    simp [h.1, h.2, Int.emod_one]
  · rw [decide_eq_false h]
    by_cases h1 : lo ≤ i
    · have h2 : ¬ i < hi := fun q => h ⟨h1, q⟩
      simp [h1, h2]
    · simp [h1]
section
open PySem.SeqAt
open PySem.AutoSeq1 (wpAny_loadPart')
open PySem.MeetsSeq PySem.MeetsSeq2 PySem.MeetsSeq3
theorem range_has (l : Addr) (lo hi i : Int) (a b c t : Tok) : Meets (Builtin.«range.__contains__» ⟨[.ref l, .int i t], []⟩)
    (fun _ R s => s.heap.get? l = some { cls := .type "range", data := .fields #[.int lo a, .int hi b, .int 1 c] } ∧ R (.ok (.ret (.bool (decide (lo ≤ i ∧ i < hi))))) s) :=
  .of_wp fun prog w A R s h => by
    obtain ⟨hp, g, d, tk, os⟩ := s; obtain ⟨hl, h⟩ := h
    rw [← place_in] at h
    wp_walk using wpAny_loadPart' hl
    exact ⟨_, rfl, h⟩
end
def rInR (neg : Bool) : R2 := fun x y H Q => ∃ (l : Addr) (i lo hi : Int), x = .int i ∧ y = .ref l ∧ H l = some (.rng lo hi) ∧ Q (.bl (if neg then !decide (lo ≤ i ∧ i < hi) else decide (lo ≤ i ∧ i < hi))) H
theorem op_notInR : OpR X (compareOp .NotIn) (rInR true) := by
  intro pins s σ H x y v u Q I rx ry h
  obtain ⟨l, i, lo, hi, rfl, rfl, hl, q⟩ := h
  obtain ⟨t, rfl⟩ := rx
  cases ry
  obtain ⟨a, b, c, e⟩ := (show ObjOk X.prog X.w H s.heap l (.rng lo hi) from I.hok l _ hl)
  exact PySem.SeqRoads2.notIn_meets ⟨_, e, rfl⟩ F.slot_range_contains F.entry_range_contains (F.args_range_contains_2 _ _) (range_has l lo hi i a b c t) ⟨e, _, rfl, ⟨.bl _, H, I, rfl, q⟩⟩

/-! ### t + u, whichever is empty -/
def rCatU (K : PySem.W.Frag) : R2 := fun x y H Q => ∃ a b xs ys, x = .ref a ∧ y = .ref b ∧ SqT K H a xs ∧ SqT K H b ys ∧ xs.length + ys.length ≤ sizeLine ∧
  ∀ p H', SqT K H' p (xs ++ ys) → Same H H' → Q (.ref p) H'
theorem cat_nil {prog : Program} {w : World} {A : Around} {E : Value → Shared → Prop} {s : Shared} {t b : Addr} {ws : List Value} {Q : Value → Shared → Prop} (ht : IsTup s.heap t #[]) (hb : IsTup s.heap b ws.toArray) (h : Q (.ref b) s) :
    wpAny (model prog w) A (binaryOp .Add (.ref t) (.ref b)) Q E s := by
  obtain ⟨⟨cls, dd, data, sl⟩, ho, hc, n, hd⟩ := id ht
  obtain ⟨⟨cls2, dd2, data2, sl2⟩, ho2, hc2, n2, hd2⟩ := id hb
  simp only at hc hd hc2 hd2
  subst hc hd hc2 hd2
  exact concat_meets ⟨_, ho, rfl⟩ ⟨_, ho2, rfl⟩ noFill_tuple_add seq_tuple_add PySem.F.slot_tuple_add PySem.F.entry_tuple_add (PySem.F.args_tuple_add_2 _ _)
    (tuple_addW0 t b #[] ws.toArray n n2 dd dd2 sl sl2 (by simp)) ⟨ho, ho2, h⟩
theorem op_catU : OpR X (binaryOp .Add) (rCatU X.K) := by
  intro pins s σ H x y v u Q I rx ry h
  obtain ⟨a, b, xs, ys, rfl, rfl, ha, hb, hz, q⟩ := h
  by_cases hx : xs = []
  · subst hx
    cases rx
    cases ry
    obtain ⟨its, r1, p1, _⟩ := I.tuple ha
    obtain ⟨its2, r2, p2, _⟩ := I.tuple hb
    cases r1
    exact cat_nil p1 p2 ⟨.ref b, H, I, rfl, q b H hb (Same.refl H)⟩
  · refine op_catT pins s σ H _ _ v u Q I rx ry ⟨a, b, xs, ys, rfl, rfl, ha, hb, hx, hz, fun e => ?_, fun e p hp => ?_⟩
    · subst e
      exact q a H (by rw [List.append_nil]; exact ha) (Same.refl H)
    · exact q p _ (.inl (.inl upd_same)) fun c o e' => by rw [upd_ne (ne_of_none e' hp)]; exact e'
end
end L2

namespace HT
open PySem PySem.Spec PyProof.Rows
section
variable {prog : Program} {w : World} {A : Around} {E : Value → Shared → Prop} {s : Shared}
/-- t[a:b], the whole: t itself -/
theorem getItem_tuple_whole {t sl : Addr} {items : Array Value} {vl vu : Value} {lo hi : Option Int} {Q : Value → Shared → Prop} (ht : IsTup s.heap t items) (hs : s.heap.IsSliceOf sl vl vu .none) (pl : IsPart vl lo) (pu : IsPart vu hi)
    (hw : sIx items.size 0 lo = 0 ∧ sIx items.size items.size hi = items.size) (h : Q (.ref t) s) : wpAny (model prog w) A (getItem (.ref t) (.ref sl)) Q E s := by
  obtain ⟨os, hos, hcs, hds⟩ := id hs
  have hTs : s.TypeIs (.ref sl) "slice" := ⟨os, hos, hcs⟩
  unfold getItem
  try with_reducible refine wpAny_holding ?_
  first | refine wpAny_bind (wpAny_pure ?_) | skip
  refine wpAny_bind (wpAny_sequenceKey ht.typeIs (by decide) ?_)
  refine wpAny_bind (wpAny_callSpecial?_slot (name := Str.ofString "__getitem__") ht.typeIs PyProof.Rows.slot_tuple_getitem
    (wpAny_call_entry PyProof.Rows.slot_tuple_getitem ht.typeIs entry_tuple_getitem ?_ (args_tuple_getitem _ _)))
  show wpAny _ _ (Builtin.Tuple.tupleItemsOf (.ref t) >>= _) _ _ s
  refine wpAny_bind (tupleItemsOf_ ht (wpAny_bind (wpAny_typeOf hTs ?_)))
  rw [if_pos (by decide)]
  refine wpAny_bind (sliceApplied_gen hs pl pu ?_)
  show wpAny _ _ (if (((sIx items.size 0 lo : Nat) : Int) == 0 && (1 : Int) == 1 && (sIx items.size items.size hi - sIx items.size 0 lo) == items.size) = true then _ else _) _ _ s
  rw [if_pos (by rw [hw.1, hw.2]; simp)]
  unfold Builtin.Tuple.tupleIsExact
  refine wpAny_bind (wpAny_bind (wpAny_typeOf ht.typeIs (wpAny_pure ?_)))
  rw [if_pos (by decide)]
  exact wpAny_bind (wpAny_rule (wpAny_pure ⟨_, rfl, wpAny_pure h⟩))
theorem pick_rev (xs : Array Value) : ((List.range xs.size).filterMap fun (m : Nat) => xs[(((xs.size : Int) - 1) + (m : Int) * (-1)).toNat]?).toArray = xs.toList.reverse.toArray := by
  have e : ((List.range xs.size).filterMap fun (m : Nat) => xs[(((xs.size : Int) - 1) + (m : Int) * (-1)).toNat]?) = xs.toList.reverse := by
    have e1 : ((List.range xs.size).filterMap fun (m : Nat) => xs[(((xs.size : Int) - 1) + (m : Int) * (-1)).toNat]?) = ((List.range xs.size).map fun k => xs.size - 1 - k).filterMap (xs[·]?) := by
      rw [List.filterMap_map]
      congr 1
      funext m
      show xs[(((xs.size : Int) - 1) + (m : Int) * (-1)).toNat]? = xs[xs.size - 1 - m]?
      have em : (((xs.size : Int) - 1) + (m : Int) * (-1)).toNat = xs.size - 1 - m := by omega
      rw [em]
    rw [e1, PySem.W.krv_range, List.filterMap_reverse, PySem.W.krv_all]
  rw [e]
/-- t[::-1] -/
theorem getItem_tuple_rev {t sl : Addr} {items : Array Value} {vk : Value} {Q : Value → Shared → Prop} (ht : IsTup s.heap t items) (hs : s.heap.IsSliceOf sl .none .none vk) (pk : IsPart vk (some (-1)))
    (h : Q (.ref s.heap.objs.size) { s with heap := s.heap.push { cls := .type "tuple", data := .seq items.toList.reverse.toArray } }) (hsz : items.size ≤ sizeLine) : wpAny (model prog w) A (getItem (.ref t) (.ref sl)) Q E s := by
  have htake : sizeOk (.seq items.toList.reverse.toArray) := by
    show items.toList.reverse.toArray.size ≤ sizeLine
    rw [List.size_toArray, List.length_reverse, Array.length_toList]
    exact hsz
  obtain ⟨os, hos, hcs, hds⟩ := id hs
  have hTs : s.TypeIs (.ref sl) "slice" := ⟨os, hos, hcs⟩
  unfold getItem
  try with_reducible refine wpAny_holding ?_
  first | refine wpAny_bind (wpAny_pure ?_) | skip
  refine wpAny_bind (wpAny_sequenceKey ht.typeIs (by decide) ?_)
  refine wpAny_bind (wpAny_callSpecial?_slot (name := Str.ofString "__getitem__") ht.typeIs PyProof.Rows.slot_tuple_getitem
    (wpAny_call_entry PyProof.Rows.slot_tuple_getitem ht.typeIs entry_tuple_getitem ?_ (args_tuple_getitem _ _)))
  show wpAny _ _ (Builtin.Tuple.tupleItemsOf (.ref t) >>= _) _ _ s
  refine wpAny_bind (tupleItemsOf_ ht (wpAny_bind (wpAny_typeOf hTs ?_)))
  rw [if_pos (by decide)]
  have ap : ∀ {n : Nat} {R : Int × Int × Nat → Shared → Prop}, R ((n : Int) - 1, -1, n) s → wpAny (model prog w) A.in1 (Builtin.Slice.sliceApplied (.ref sl) (pure (n : Int))) R E s := fun {n R} hR => by
    unfold Builtin.Slice.sliceApplied Builtin.Slice.sliceFields
    refine wpAny_bind (wpAny_bind (wpAny_field hos hds (x := .none) rfl (wpAny_bind (wpAny_field hos hds (x := .none) rfl (wpAny_bind (wpAny_field hos hds (x := vk) rfl (wpAny_pure ?_)))))))
    refine wpAny_bind (slicePart_ pk ?_)
    show wpAny _ _ (if ((-1 : Int) == 0) = true then _ else _) _ _ s
    rw [if_neg (by decide)]
    refine wpAny_bind (slicePart_none (wpAny_bind (slicePart_none (wpAny_bind (wpAny_pure ?_)))))
    have e2 : Builtin.Slice.slicePlaces ((n : Int) - 1) (-1) (-1) = n := by
      unfold Builtin.Slice.slicePlaces
      rw [if_neg (by decide)]
      by_cases hn : (n : Int) - 1 > -1
      · rw [if_pos hn]
        have : ((n : Int) - 1 - -1 - 1) / (- -1) = (n : Int) - 1 := by
          have e3 : ((n : Int) - 1 - -1 - 1) = (n : Int) - 1 := by omega
          rw [e3]
          show ((n : Int) - 1) / 1 = _
          exact Int.ediv_one _
        rw [this]
        omega
      · rw [if_neg hn]
        omega
    refine wpAny_pure ?_
    show R ((n : Int) - 1, -1, Builtin.Slice.slicePlaces ((n : Int) - 1) (-1) (-1)) s
    rw [e2]
    exact hR
  refine wpAny_bind (ap ?_)
  have hno : ¬ ((((items.size : Int) - 1) == 0 && (-1 : Int) == 1 && items.size == items.size) = true) := by
    intro q
    rw [Bool.and_eq_true, Bool.and_eq_true] at q
    exact absurd q.1.2 (by decide)
  show wpAny _ _ (if (((items.size : Int) - 1) == 0 && (-1 : Int) == 1 && items.size == items.size) = true then _ else _) _ _ s
  rw [if_neg hno, pick_rev]
  first
    | exact wpAny_bind (m := Builtin.Tuple.tupleExact _) (wpAny_newObj_type (wpAny_pure ⟨_, rfl, wpAny_pure h⟩) htake)
    | exact wpAny_bind (m := Builtin.Tuple.tupleExact _) (wpAny_newObj_type (wpAny_bind (wpAny_pure (wpAny_pure ⟨_, rfl, wpAny_pure h⟩))) htake)
    | exact wpAny_bind (wpAny_bind (m := Builtin.Tuple.tupleExact _) (wpAny_newObj_type (wpAny_pure (wpAny_pure ⟨_, rfl, wpAny_pure h⟩)) htake))
end
end HT
namespace L2
open PySem PySem.Spec PyProof.Rows
section
variable {X : Cx}
/-- xs[lo:hi] of a tuple, whatever it cuts -/
def rSlU (K : PySem.W.Frag) : V → Option Int → Option Int → Hp → VK → Prop := fun x lo hi H Q => ∃ a xs, x = .ref a ∧ SqT K H a xs ∧ ∀ p H', SqT K H' p (cutV xs lo hi) → Same H H' → Q (.ref p) H'
theorem sl_tupU : SlR X (rSlU X.K) := by
  intro pins s σ H x v vl vu lo hi sl Q I rx hs pl pu h
  obtain ⟨a, xs, rfl, hx, q⟩ := h
  by_cases hw : HT.sIx xs.length 0 lo = 0 ∧ HT.sIx xs.length xs.length hi = xs.length
  · cases rx
    obtain ⟨its, r, ht, hz⟩ := I.tuple hx
    have hlen : its.toArray.size = xs.length := by rw [List.size_toArray]; exact r.length.symm
    refine ⟨"tuple", _, PyProof.Rows.slot_tuple_getitem.lookup, ht.typeIs, ?_⟩
    refine HT.getItem_tuple_whole ht hs pl pu (by rw [hlen]; exact hw) ⟨.ref a, H, I, rfl, q a H ?_ (Same.refl H)⟩
    have : cutV xs lo hi = xs := by
      unfold cutV
      rw [hw.1, hw.2, List.drop_zero, Nat.sub_zero, List.take_length]
    rw [this]
    exact hx
  · exact sl_tup pins s σ H _ v vl vu lo hi sl Q I rx hs pl pu ⟨a, xs, rfl, hx, hw, fun p hp => q p _ (.inl (.inl upd_same)) fun c o e => by rw [upd_ne (ne_of_none e hp)]; exact e⟩
/-- t[::-1] -/
def tRevT (K : PySem.W.Frag) (te tk : TE) : TE := fun σ H Q => te σ H fun x H1 => tPart tk σ H1 fun k H2 => ∃ a xs, k = some (-1) ∧ x = .ref a ∧ SqT K H2 a xs ∧ ∀ p, H2 p = none → Q (.ref p) (upd H2 p (.tup xs.reverse))
theorem Vals.rev : ∀ {xs : List V} {us : List Value}, Vals xs us → Vals xs.reverse us.reverse := fun h => Vals.reverse h
theorem pe_revT {e k : Expr} {te tk : TE} {p2 pos : Pos} (he : PE X e te) (hk : PE X k tk) : PE X (.Subscript e (.Slice none none (some k) p2) pos) (tRevT X.K te tk) := by
  intro pins s σ H Q I h
  refine Subscript_ (thn (he pins s σ H _ I h) fun v s1 ⟨x, H1, I1, r1, q1⟩ => ?_)
  refine wpAny_Slice ?_
  rw [evalPart_none]
  refine wpAny_pure (wpAny_pure ?_)
  refine thn (po_some hk pins s1 σ H1 _ I1 q1) fun vk s2 ⟨o, H2, I2, pk, q2⟩ => ?_
  obtain ⟨a, xs, rfl, rfl, hx, q⟩ := q2
  cases r1
  have I3 : Inv X pins σ H2 { s2 with heap := s2.heap.push { cls := .type "slice", data := .fields #[.none, .none, vk] } } := I2.kept (t' := s2.toks) fun b ob q => Heap.get?_push_of_some _ q
  obtain ⟨its, r, ht, hz⟩ := I3.tuple hx
  have hlen : its.toArray.size = xs.length := by rw [List.size_toArray]; exact r.length.symm
  show wpAny (model X.prog X.w) X.A (subscriptTail e (.Slice none none (some k) p2) (.ref a) (.ref s2.heap.objs.size)) (EP X pins σ Q) X.xe { s2 with heap := s2.heap.push { cls := .type "slice", data := .fields #[.none, .none, vk] } }
  refine tail_any (ops := [.ref a, .ref s2.heap.objs.size]) ht.typeIs PyProof.Rows.slot_tuple_getitem.lookup (HT.getItem_tuple_rev ht (Heap.IsSliceOf.new ..) pk ?_ (by rw [hlen]; exact hz)) (by with_unfolding_all rfl)
  refine ⟨.ref (s2.heap.push _).objs.size, _, I3.laid (t' := s2.toks) (o := .tup xs.reverse) (fun b ob q => Heap.get?_push_of_some _ q) (Nat.le_refl _) ?_, rfl, q _ (I3.hok.fresh (Nat.le_refl _))⟩
  exact ⟨by rw [List.length_reverse]; exact hz, its.reverse, r.rev, IsTup.new _ _⟩
end
end L2

namespace Srt
open PySem PySem.W PyProof.Rows
/-- whatever is answered: the asked places lie below n, the ends are good -/
def All {α : Type} (n : Nat) (P : α → Prop) : KasT α → Prop
  | .ret a => P a
  | .ask i j k => i < n ∧ j < n ∧ ∀ b, All n P (k b)
theorem All.bind {α β : Type} {n : Nat} {P : β → Prop} {f : α → KasT β} : ∀ {t : KasT α}, All n (fun a => All n P (f a)) t → All n P (t.bind f)
  | .ret _, h => h
  | .ask _ _ _, ⟨h1, h2, h3⟩ => ⟨h1, h2, fun b => All.bind (h3 b)⟩
theorem All.mono {α : Type} {n : Nat} {P P' : α → Prop} (hp : ∀ a, P a → P' a) : ∀ {t : KasT α}, All n P t → All n P' t
  | .ret a, h => hp a h
  | .ask _ _ _, ⟨h1, h2, h3⟩ => ⟨h1, h2, fun b => All.mono hp (h3 b)⟩
/-- a new order of 0 .. n - 1 -/
def Good (n : Nat) (p : Array Nat) : Prop := 0 < n ∧ p.toList.Perm (List.range n)
theorem Good.lt {n : Nat} {p : Array Nat} (g : Good n p) (k : Nat) : p.getD k 0 < n := by
  by_cases h : k < p.size
  · have e : p.getD k 0 = p[k] := by simp [Array.getD, h]
    rw [e]
    have m : p[k] ∈ List.range n := g.2.mem_iff.mp (by simp)
    simpa using m
  · have e : p.getD k 0 = 0 := by simp [Array.getD, h]
    rw [e]
    exact g.1
theorem Good.perm {n : Nat} {p p' : Array Nat} (g : Good n p) (h : p'.Perm p) : Good n p' := ⟨g.1, (Array.perm_iff_toList_perm.mp h).trans g.2⟩
theorem Good.rev {n : Nat} {p : Array Nat} (g : Good n p) (i j : Nat) : Good n (kas_rev p i j) := g.perm (mirror_perm _ _ _ _)
theorem place {n : Nat} {p : Array Nat} (g : Good n p) (k : Nat) : ∀ f l r, All n (fun _ => True) (kas_place p k f l r)
  | 0, _, _ => trivial
  | f + 1, l, r => by
    unfold kas_place
    by_cases h : l ≥ r
    · rw [if_pos h]; trivial
    · rw [if_neg h]
      refine ⟨g.lt _, g.lt _, fun b => ?_⟩
      cases b with
      | true => show All n _ (if true = true then _ else _); rw [if_pos rfl]; exact place g k f _ _
      | false => show All n _ (if false = true then _ else _); rw [if_neg Bool.false_ne_true]; exact place g k f _ _
section
variable {prog : Program} {w : World} {A : Around} {E : Value → Shared → Prop} {s : Shared}
/-- what the sort asks of its items: tuples of ints, none empty -/
def Tups (h : Heap) (vs : List Value) : Prop := ∀ v ∈ vs, ∃ a items ns, v = .ref a ∧ IsTup h a items ∧ IntsAre items.toList ns ∧ ns ≠ []
end
end Srt

namespace L2
open PySem PySem.Spec PyProof.Rows
def refV : Value → V
  | .ref b => .ref b
  | _ => .non
section
variable {X : Cx}
end
end L2

/-! data told from the heap; defs of the text by their promises -/
namespace L2
open PySem PySem.Spec PyProof.Rows
inductive Dt where
  | non | bl (b : Bool) | int (i : Int) | str (x : Str) | lst | dct | tup (ds : List Dt)
mutual
def Rep (K : PySem.W.Frag) (H : Hp) : Dt → V → Prop
  | .non, v => v = .non
  | .bl b, v => v = .bl b
  | .int i, v => v = .int i
  | .str x, v => v = .str x
  | .lst, v => ∃ p xs, v = .ref p ∧ SqL K H p xs
  | .dct, v => ∃ p, v = .ref p ∧ ((∃ kvs, H p = some (.dK kvs)) ∨ ∃ kvs, H p = some (.dT kvs))
  | .tup ds, v => ∃ p xs, v = .ref p ∧ SqT K H p xs ∧ RepL K H ds xs
def RepL (K : PySem.W.Frag) (H : Hp) : List Dt → List V → Prop
  | [], [] => True
  | d :: ds, x :: xs => Rep K H d x ∧ RepL K H ds xs
  | _, _ => False
end
theorem Same.tup {K : PySem.W.Frag} {H H' : Hp} {a : Addr} {xs : List V} (e : Same H H') (h : SqT K H a xs) : SqT K H' a xs := by
  rcases h with (h | ⟨o, h⟩) | h
  · exact .inl (.inl (e _ _ h))
  · exact .inl (.inr ⟨o, e _ _ h⟩)
  · exact .inr h
theorem Same.upd {H : Hp} {p : Addr} {o : HO} (h : H p = none) : Same H (L2.upd H p o) := fun b u e => by rw [upd_ne (ne_of_none e h)]; exact e
mutual
theorem Same.rep {K : PySem.W.Frag} {H H' : Hp} (e : Same H H') : ∀ {d : Dt} {v : V}, Rep K H d v → Rep K H' d v
  | .non, _, h => h
  | .bl _, _, h => h
  | .int _, _, h => h
  | .str _, _, h => h
  | .lst, _, ⟨p, xs, h1, h2⟩ => ⟨p, xs, h1, e.seq h2⟩
  | .dct, _, ⟨p, h1, h2⟩ => ⟨p, h1, h2.elim (fun hZ => (by obtain ⟨k, q⟩ := hZ; exact .inl ⟨k, e _ _ q⟩)) fun hZ => (by obtain ⟨k, q⟩ := hZ; exact .inr ⟨k, e _ _ q⟩)⟩
  | .tup _, _, ⟨p, xs, h1, h2, h3⟩ => ⟨p, xs, h1, e.tup h2, e.repL h3⟩
theorem Same.repL {K : PySem.W.Frag} {H H' : Hp} (e : Same H H') : ∀ {ds : List Dt} {xs : List V}, RepL K H ds xs → RepL K H' ds xs
  | [], [], _ => trivial
  | _ :: _, _ :: _, h => ⟨e.rep h.1, e.repL h.2⟩
  | [], _ :: _, h => h.elim
  | _ :: _, [], h => h.elim
end
theorem RepL.len {K : PySem.W.Frag} {H : Hp} : ∀ {ds : List Dt} {xs : List V}, RepL K H ds xs → ds.length = xs.length
  | [], [], _ => rfl
  | _ :: _, _ :: _, h => by simp [RepL.len h.2]
  | [], _ :: _, h => h.elim
  | _ :: _, [], h => h.elim
theorem RepL.get {K : PySem.W.Frag} {H : Hp} : ∀ {ds : List Dt} {xs : List V} {i : Nat} {x : V}, RepL K H ds xs → xs[i]? = some x → ∃ d, ds[i]? = some d ∧ Rep K H d x
  | [], [], _, _, _, e => by simp at e
  | d :: _, _ :: _, 0, _, h, e => by simp at e; subst e; exact ⟨d, rfl, h.1⟩
  | _ :: _, _ :: _, i + 1, _, h, e => by
    obtain ⟨d, e1, e2⟩ := RepL.get (i := i) h.2 (by simpa using e)
    exact ⟨d, by simpa using e1, e2⟩
  | [], _ :: _, _, _, h, _ => h.elim
  | _ :: _, [], _, _, h, _ => h.elim
theorem RepL.app {K : PySem.W.Frag} {H : Hp} : ∀ {ds es : List Dt} {xs ys : List V}, RepL K H ds xs → RepL K H es ys → RepL K H (ds ++ es) (xs ++ ys)
  | [], _, [], _, _, h => h
  | _ :: _, _, _ :: _, _, g, h => ⟨g.1, RepL.app g.2 h⟩
  | [], _, _ :: _, _, g, _ => g.elim
  | _ :: _, _, [], _, g, _ => g.elim
/-- data of some kind -/
def Known (K : PySem.W.Frag) (H : Hp) (v : V) : Prop := ∃ d, Rep K H d v
theorem Known.same {K : PySem.W.Frag} {H H' : Hp} {v : V} (k : Known K H v) (e : Same H H') : Known K H' v := let ⟨d, h⟩ := k; ⟨d, e.rep h⟩
theorem known_all {K : PySem.W.Frag} {H : Hp} : ∀ {xs : List V}, (∀ x ∈ xs, Known K H x) → ∃ ds, RepL K H ds xs
  | [], _ => ⟨[], trivial⟩
  | x :: xs, h => by
    obtain ⟨d, hd⟩ := h x List.mem_cons_self
    obtain ⟨ds, hs⟩ := known_all fun y hy => h y (List.mem_cons_of_mem _ hy)
    exact ⟨d :: ds, hd, hs⟩
theorem Known.int {K : PySem.W.Frag} {H : Hp} (i : Int) : Known K H (.int i) := ⟨.int i, rfl⟩
theorem Known.tup {K : PySem.W.Frag} {H : Hp} {p : Addr} {xs : List V} (h : SqT K H p xs) (k : ∀ x ∈ xs, Known K H x) : Known K H (.ref p) := let ⟨ds, hs⟩ := known_all k; ⟨.tup ds, p, xs, rfl, h, hs⟩
theorem Known.lst {K : PySem.W.Frag} {H : Hp} {p : Addr} {xs : List V} (h : SqL K H p xs) : Known K H (.ref p) := ⟨.lst, p, xs, rfl, h⟩
/-- its class -/
def Dt.ty : Dt → String
  | .non => "NoneType" | .bl _ => "bool" | .int _ => "int" | .str _ => "str" | .lst => "list" | .dct => "dict" | .tup _ => "tuple"
theorem Rep.kind {K : PySem.W.Frag} {H : Hp} : ∀ {d : Dt} {v : V}, Rep K H d v → kindV K H d.ty v
  | .non, _, h => by cases h; rfl
  | .bl _, _, h => by cases h; rfl
  | .int _, _, h => by cases h; rfl
  | .str _, _, h => by cases h; rfl
  | .lst, _, ⟨p, xs, h1, h2⟩ => by subst h1; exact .inl ⟨rfl, xs, h2⟩
  | .dct, _, ⟨p, h1, h2⟩ => by subst h1; exact .inr (.inr ⟨rfl, h2⟩)
  | .tup _, _, ⟨p, xs, h1, h2, _⟩ => by subst h1; exact .inr (.inl ⟨rfl, xs, h2⟩)
theorem isi_tup {d : Dt} (h : isiB d.ty "tuple" = true) : ∃ ds, d = .tup ds := by
  cases d <;> first | exact ⟨_, rfl⟩ | (simp [Dt.ty, isiB] at h)
theorem isi_int {d : Dt} (h : isiB d.ty "int" = true) (h2 : isiB d.ty "bool" = false) : ∃ i, d = .int i := by
  cases d <;> first | exact ⟨_, rfl⟩ | (simp [Dt.ty, isiB] at h2; done) | (simp [Dt.ty, isiB] at h; done)

/-! ### a def of the text -/
structure Has (K : PySem.W.Frag) (mg : Str → Option Value) (x : Str) (st : Stmt) (ps : List Str) : Prop where
  ex : ∃ f fd, Fun K x x st f fd ∧ mg x = some (.ref f) ∧ Binds K fd ps []
structure Ok (P : Program) (w : World) (K : PySem.W.Frag) (mg : Str → Option Value) (base : Heap) (x : Str) (ps : List Str) (k : Nat) (sp : Sp) : Prop where
  ex : ∃ f fd, mg x = some (.ref f) ∧ PySem.W.keepIn K (.ref f) = true ∧ Binds K fd ps [] ∧ FnOk P w K mg base CX0 k f fd ps sp
theorem Has.ok {P : Program} {w : World} {K : PySem.W.Frag} {mg : Str → Option Value} {base : Heap} {x : Str} {st : Stmt} {N ps : List Str} {k : Nat} {sp : Sp} (h : Has K mg x st ps) (S : FnScope N ps (defScope st)) (len : ∀ vs H Q E, sp vs H Q E → vs.length = ps.length)
    (hbody : ∀ (f : Addr) (cdv : Value) (A : Around) (outer : List Env) (s : Shared) (H : Hp) (vs : List V) (Q : VK) (E : XK), Room k (A.deeper (envOfC x (defScope st) s.heap.objs.size f cdv)) → sp vs H Q E →
      ∃ t, PSs (cxOf CX0 P w K mg base N x (defScope st) f cdv A outer s H E).nox (defBody st) t ∧ t { nx := fun _ H' => Q .non H', rt := Q } (start N vs) H) : Ok P w K mg base x ps (k + 1) sp := by
  obtain ⟨f, fd, F, hm, hb⟩ := h.ex
  exact ⟨f, fd, hm, F.kp, hb, F.ok S len (hbody f)⟩
section
variable {X : Cx} {e : Expr} {es : List Expr} {t : TA} {x : Str} {ps : List Str} {k : Nat} {sp : Sp} {p pos : Pos}
theorem pe_callG (h : Ok X.prog X.w X.K X.mg X.base x ps k sp) (hr : Room k X.A) (hg : Gl X x) (ha : PA X (e :: es) t) (hdb : (x == ("__debug__" : Str)) = false := by decide)
    (he : starEach (e :: es) X.env = (false, eval e X.env) :: starEach es X.env := by rfl) (hpl : (backTo pos (starEach es X.env)).any (·.1) = false := by rfl) : PE X (.Call (.Name x p) (e :: es) [] pos) (tCall sp [] E0 t) := by
  obtain ⟨f, fd, hm, hk, hb, F⟩ := h.ex
  exact pe_call F hr hg hm hk hb .nil pass0 ha hdb he hpl
end
theorem iteB {c : Bool} {A B : Prop} (h1 : c = true → A) (h2 : c = false → B) : if c = true then A else B := by
  cases c with
  | true => rw [if_pos rfl]; exact h1 rfl
  | false => rw [if_neg Bool.false_ne_true]; exact h2 rfl

/-! ### expressions that only make data -/
def tK (K : PySem.W.Frag) (Pre : St → Hp → Prop) : TE := fun σ H Q => Pre σ H ∧ ∀ v H', Same H H' → Known K H' v → Q v H'
def tKs (K : PySem.W.Frag) (Pre : St → Hp → Prop) (n : Nat) : TA := fun σ H Q => Pre σ H ∧ ∀ vs H', Same H H' → vs.length = n → (∀ v ∈ vs, Known K H' v) → Q vs H'
/-- a precondition that more data doesn't break -/
def Grows (Pre : St → Hp → Prop) : Prop := ∀ σ H H', Pre σ H → Same H H' → Pre σ H'
section
variable {X : Cx} {Pre : St → Hp → Prop}
end
end L2

namespace L2
open PySem PySem.Spec PyProof.Rows
/-- what is asked of a comprehension's names, by the def's scope osc and its slots N -/
structure BlkD (osc : Scope) (N : List Str) (sc : Scope) (M tgs : List Str) : Prop where
  kind : sc.kind = .function
  names : ∀ y ∈ sc.names, y.2 = .local → sc.names.lookup y.1 = some .local
  nocell : ∀ y ∈ sc.names, y.2 ≠ .cell
  free : ∀ y ∈ sc.names, y.2 = .free → osc.names.lookup y.1 = some .cell ∨ osc.names.lookup y.1 = some .free
  len : M.length = N.length
  same : ∀ p ∈ M.zip N, p.1 = p.2 ∨ p.1 = ("" : Str)
  dummy : sc.names.lookup ("" : Str) = none
  hid : ∀ x ∈ M, sc.names.lookup x ≠ some .local
  nd : (M ++ tgs).Nodup
theorem BlkD.ok {X : Cx} {osc : Scope} {N : List Str} {sc : Scope} {M tgs : List Str} (b : BlkD osc N sc M tgs) (h1 : X.env.scope = osc := by rfl) (h2 : X.N = N := by rfl) : BlkOk X sc M tgs := by
  subst h1 h2
  exact ⟨b.kind, b.names, b.nocell, b.free, b.len, b.same, b.dummy, b.hid⟩
/-! ### comprehensions, the forms one uses -/
def Nx (n i : Nat) (Pv : Nat → List V → Hp → Prop) (ys : List V) (H : Hp) : Prop := ∃ m', m' < n - i ∧ (m' = n - (i + 1) ∧ i + 1 ≤ n ∧ Pv (i + 1) ys H)
theorem Nx.mk {n i : Nat} {Pv : Nat → List V → Hp → Prop} {ys : List V} {H : Hp} (hi : i < n) (h : Pv (i + 1) ys H) : Nx n i Pv ys H := ⟨n - (i + 1), by omega, rfl, hi, h⟩
theorem comp_tup {K : PySem.W.Frag} {a : Addr} {xs : List V} {k : Nat} {g : TG} {tt : TT} {te : TE} {σ : St} {H : Hp} {Q : VK} (Pv : Nat → List V → Hp → Prop) (h0 : Pv 0 [] H) (hl : ∀ i ys H, i ≤ xs.length → Pv i ys H → SqT K H a xs ∧ ys.length ≤ sizeLine)
    (hs : ∀ i x ys H, xs[i]? = some x → i < xs.length → Pv i ys H → g x (σ ++ List.replicate k none) H fun σ2 H2 => σ2.take σ.length = σ ∧ tt σ2 H2 fun b H3 =>
      if b = true then te σ2 H3 fun y H4 => Nx xs.length i Pv (ys ++ [y]) H4 else Nx xs.length i Pv ys H3)
    (hd : ∀ ys H, Pv xs.length ys H → ∀ l, H l = none → Q (.ref l) (upd H l (.lst ys))) : CompW (Itt K a) k g tt te σ Q H := by
  refine ⟨fun i m ys H => m = xs.length - i ∧ i ≤ xs.length ∧ Pv i ys H, ⟨xs.length, by simp, Nat.zero_le _, h0⟩, ?_⟩
  rintro i m ys H ⟨rfl, hi, p⟩
  obtain ⟨q, z⟩ := hl i ys H hi p
  refine ⟨z, ?_⟩
  by_cases hlt : i < xs.length
  · refine .inr ⟨⟨xs, xs[i], q, by simp [hlt]⟩, fun x H' y => ?_⟩
    obtain ⟨e, y⟩ := y
    subst e
    exact hs i x ys _ (y xs q) hlt p
  · have e : i = xs.length := by omega
    subst e
    exact .inl ⟨⟨xs, q, Nat.le_refl _⟩, hd ys H p⟩
theorem comp_lst {K : PySem.W.Frag} {a : Addr} {xs : List V} {k : Nat} {g : TG} {tt : TT} {te : TE} {σ : St} {H : Hp} {Q : VK} (Pv : Nat → List V → Hp → Prop) (h0 : Pv 0 [] H) (hl : ∀ i ys H, i ≤ xs.length → Pv i ys H → SqL K H a xs ∧ ys.length ≤ sizeLine)
    (hs : ∀ i x ys H, xs[i]? = some x → i < xs.length → Pv i ys H → g x (σ ++ List.replicate k none) H fun σ2 H2 => σ2.take σ.length = σ ∧ tt σ2 H2 fun b H3 =>
      if b = true then te σ2 H3 fun y H4 => Nx xs.length i Pv (ys ++ [y]) H4 else Nx xs.length i Pv ys H3)
    (hd : ∀ ys H, Pv xs.length ys H → ∀ l, H l = none → Q (.ref l) (upd H l (.lst ys))) : CompW (Itl K a) k g tt te σ Q H := by
  refine ⟨fun i m ys H => m = xs.length - i ∧ i ≤ xs.length ∧ Pv i ys H, ⟨xs.length, by simp, Nat.zero_le _, h0⟩, ?_⟩
  rintro i m ys H ⟨rfl, hi, p⟩
  obtain ⟨q, z⟩ := hl i ys H hi p
  refine ⟨z, ?_⟩
  by_cases hlt : i < xs.length
  · refine .inr ⟨⟨xs, xs[i], q, by simp [hlt]⟩, fun x H' y => ?_⟩
    obtain ⟨e, y⟩ := y
    subst e
    exact hs i x ys _ (y xs q) hlt p
  · have e : i = xs.length := by omega
    subst e
    exact .inl ⟨⟨xs, q, Nat.le_refl _⟩, hd ys H p⟩
theorem comp_range {lo : Int} {n : Nat} {k : Nat} {g : TG} {tt : TT} {te : TE} {σ : St} {H : Hp} {Q : VK} (Pv : Nat → List V → Hp → Prop) (h0 : Pv 0 [] H) (hl : ∀ i ys H, i ≤ n → Pv i ys H → ys.length ≤ sizeLine)
    (hs : ∀ i ys H, i < n → Pv i ys H → g (.int (lo + i)) (σ ++ List.replicate k none) H fun σ2 H2 => σ2.take σ.length = σ ∧ tt σ2 H2 fun b H3 =>
      if b = true then te σ2 H3 fun y H4 => Nx n i Pv (ys ++ [y]) H4 else Nx n i Pv ys H3)
    (hd : ∀ ys H, Pv n ys H → ∀ l, H l = none → Q (.ref l) (upd H l (.lst ys))) : CompW (Itr lo n) k g tt te σ Q H := by
  refine ⟨fun i m ys H => m = n - i ∧ i ≤ n ∧ Pv i ys H, ⟨n, by simp, Nat.zero_le _, h0⟩, ?_⟩
  rintro i m ys H ⟨rfl, hi, p⟩
  refine ⟨hl i ys H hi p, ?_⟩
  by_cases hlt : i < n
  · refine .inr ⟨hlt, fun x H' y => ?_⟩
    obtain ⟨e, y⟩ := y
    subst e y
    exact hs i ys _ hlt p
  · have e : i = n := by omega
    subst e
    exact .inl ⟨Nat.le_refl _, hd ys H p⟩
end L2

namespace L2
open PySem PySem.Spec PyProof.Rows
section
variable {κ : Type} [DecidableEq κ]
end
/-! ### the laws' pens and webs -/
/-- all but what stands at p is as it was -/
def SameBut (p : Addr) (H H' : Hp) : Prop := ∀ b o, b ≠ p → H b = some o → H' b = some o
theorem SameBut.refl (p : Addr) (H : Hp) : SameBut p H H := fun _ _ _ e => e
theorem SameBut.trans {p : Addr} {H H1 H2 : Hp} (a : SameBut p H H1) (b : SameBut p H1 H2) : SameBut p H H2 := fun c o n e => b c o n (a c o n e)
theorem SameBut.same {p : Addr} {H H1 H2 : Hp} (a : SameBut p H H1) (b : Same H1 H2) : SameBut p H H2 := fun c o n e => b c o (a c o n e)
/-- a pen: a list of three ints -/
def Pen (H : Hp) (p : Addr) : Prop := ∃ a f s : Int, H p = some (.lst [.int a, .int f, .int s])
theorem Pen.same {H H' : Hp} {p : Addr} (h : Pen H p) (e : Same H H') : Pen H' p := let ⟨a, f, s, q⟩ := h; ⟨a, f, s, e _ _ q⟩
theorem Pen.ne {H : Hp} {p l : Addr} (h : Pen H p) (e : H l = none) : p ≠ l := let ⟨_, _, _, q⟩ := h; ne_of_none q e
/-- ties, tuples of two ints each -/
def TieAt (K : PySem.W.Frag) (H : Hp) (b : V) (t : Int × Int) : Prop := ∃ a, b = .ref a ∧ H a = some (.tup [.int t.1, .int t.2])
/-- a web of many places with these ties stands at w -/
structure WebAt (K : PySem.W.Frag) (H : Hp) (w : Addr) (many : Int) (ties : List (Int × Int)) : Prop where
  at_ : ∃ t bs, H w = some (.tup [.int many, .ref t]) ∧ H t = some (.tup bs) ∧ Paired (TieAt K H) bs ties
  len : ties.length ≤ 60
  good : ∀ t ∈ ties, 0 ≤ t.1 ∧ t.1 < t.2 ∧ t.2 < many
  nd : ties.Nodup
def keepsTup (H H' : Hp) : Prop := ∀ b xs, H b = some (.tup xs) → H' b = some (.tup xs)
/-- a key of two ints, the lesser ahead, below many -/
def goodKey (many : Int) (k : List Key) : Prop := ∃ x y : Int, k = [Sum.inl x, Sum.inl y] ∧ 0 ≤ x ∧ x < y ∧ y < many
def keyTie : List Key → Int × Int
  | [Sum.inl x, Sum.inl y] => (x, y)
  | _ => (0, 0)
theorem keyTie_inj {many : Int} {k k' : List Key} (h : goodKey many k) (h' : goodKey many k') (e : keyTie k = keyTie k') : k = k' := by
  obtain ⟨x, y, rfl, _⟩ := h
  obtain ⟨x', y', rfl, _⟩ := h'
  have e1 : (x, y) = (x', y') := e
  cases e1
  rfl
end L2

/-! own rules over the hand layer: errors of one's own, raised, passed on and taken -/
namespace L2
open PySem PySem.Spec PyProof.Rows
/-- all is kept but the exception and its trace; of the frames the slots may turn -/
structure Veer (fs : List Addr) (ea T : Addr) (h h' : Heap) : Prop where
  keep : ∀ b o, h.get? b = some o → b ∉ fs → b ≠ ea → b ≠ T → h'.get? b = some o
  slot : ∀ b o, h.get? b = some o → b ∈ fs → ∃ sl, h'.get? b = some { o with slots := sl }
/-- an exception on its way: its object, its trace; nothing of it is tracked, nothing of it was there in g -/
structure FlyAt (g : Heap) (H : Hp) (ea T : Addr) (cls : Value) (h : Heap) : Prop where
  obj : ∃ (oe : Obj) (vs : Array Value) (oT : Obj) (ts : Array Value) (a0 : Value), h.get? ea = some oe ∧ (oe.cls = cls ∧ vs[0]? = some a0) ∧ oe.data = .fields vs ∧ vs[1]? = some (.ref T) ∧ T ≠ ea ∧ h.get? T = some oT ∧ oT.data = .fields ts ∧ ts[3]? = some .none
  he : H ea = none
  hT : H T = none
  ge : g.get? ea = none
  gT : g.get? T = none
section
variable {P : Program} {w : World} {fs fs' ex : List Addr} {H₀ H : Hp} {g g₀ h h' base : Heap} {ea T : Addr} {cls : Value} {l l' : List Env}
end

/-- how an exception lies behind a call -/
def CXr (P : Program) (w : World) : CXT := fun outer H s E e s' => ∃ ea T cls H', e = .ref ea ∧ s'.os = s.os ∧ AllBare s'.gens ∧ Un (frs outer) [] H H' s.heap s'.heap ∧ HOk P w H' s'.heap ∧ FlyAt s.heap H' ea T cls s'.heap ∧ E cls none H'
section
variable {P : Program} {w : World} {K : PySem.W.Frag} {mg : Str → Option Value} {base : Heap} {N : List Str} {qual : Str} {scope : Scope} {f : Addr} {cd : Value} {A : Around} {outer : List Env} {s : Shared} {H : Hp} {E E' : XK}
/-- raise C() -/
def tRaise (C : Addr) (E : XK) : TS := fun _ _ H => E (.ref C) none H
end
structure OkX (P : Program) (w : World) (K : PySem.W.Frag) (mg : Str → Option Value) (base : Heap) (x : Str) (ps : List Str) (k : Nat) (sp : Sp) : Prop where
  ex : ∃ f fd, mg x = some (.ref f) ∧ PySem.W.keepIn K (.ref f) = true ∧ Binds K fd ps [] ∧ FnOk P w K mg base (CXr P w) k f fd ps sp
section
variable {X : Cx} {e : Expr} {es : List Expr} {t : TA} {x : Str} {ps : List Str} {k : Nat} {sp : Sp} {p pos : Pos}
end
end L2

namespace L2
open PySem PySem.Spec PyProof.Rows
/-- the body of a try: what an exception leaves is asked of W -/
abbrev tryX (X : Cx) (pn : List (Addr × Obj)) (W : Value → St → Hp → Prop) : Cx :=
  { X with pn := pn, xe := fun e s' => ∃ σ' H1 s1, Inv { X with pn := pn } [] σ' H1 s1 ∧ CXr X.prog X.w X.stack H1 s1 (fun c _ H' => W c σ' H') e s' }
/-- the suite behind: an exception is being handled -/
abbrev suiteX (X : Cx) (pn : List (Addr × Obj)) (ea : Addr) : Cx := { X with pn := pn, A := X.A.mark (some (.ref ea)), calm := false, xe := fun _ _ => False }
/-- an exception of the class at C, taken -/
def excO (ea C : Addr) : HO := .ext fun h => ∃ o, h.get? ea = some o ∧ o.cls = .ref C

def tTry (K : PySem.W.Frag) (tb : (Value → St → Hp → Prop) → TS) (ts : TS) (i : Nat) (Dc : Addr) : TS := fun D σ H => ∃ W, tb W D σ H ∧ ∀ cls σ' H', W cls σ' H' → ∃ C, cls = .ref C ∧ PySem.W.subIn K (.ref C) (.ref Dc) = some true ∧
  ∀ ea, H' ea = none → ts { nx := fun σ'' H'' => D.nx (σ''.set i none) H'', rt := D.rt, bk := fun σ'' H'' => D.bk (σ''.set i none) H'', ct := fun σ'' H'' => D.ct (σ''.set i none) H'' } (σ'.set i (some (.ref ea))) (upd H' ea (excO ea C))
/-- the class that is named behind except -/
structure Hdl (K : PySem.W.Frag) (mg : Str → Option Value) (x : Str) (D : Addr) : Prop where
  at_ : mg x = some (.ref D)
  sub : PySem.W.subIn K (.ref D) (.type "BaseException") = some true
  cls : (PySem.W.clsIn K D).isSome = true
  ty : PySem.W.typeIn K (.ref D) = some (.type "type")
/-- a call within the body of a try -/
def tCallT (sp : Sp) (W : Value → St → Hp → Prop) (t : TA) : TE := fun σ H Q => t σ H fun vs H1 => sp vs H1 Q fun c _ H' => W c σ H'
/-! ### a def that is called while an exception is handled -/
structure RoomA (k : Nat) (A : Around) : Prop where
  dp : A.depth + 3 * k + 5 < recursionLimit
  un : A.units + 16 * k + 200 < cLine
abbrev cxOfA (P : Program) (w : World) (K : PySem.W.Frag) (mg : Str → Option Value) (base : Heap) (N : List Str) (qual : Str) (scope : Scope) (f : Addr) (cd : Value) (A : Around) (outer : List Env) (s : Shared) (H : Hp) (E : XK) : Cx :=
  { cxOf CX0 P w K mg base N qual scope f cd A outer s H E with calm := false, xe := fun _ _ => False }
structure OkA (P : Program) (w : World) (K : PySem.W.Frag) (mg : Str → Option Value) (base : Heap) (x : Str) (ps : List Str) (k : Nat) (sp : Sp) : Prop where
  ex : ∃ f fd, mg x = some (.ref f) ∧ PySem.W.keepIn K (.ref f) = true ∧ Binds K fd ps [] ∧ (∀ vs H Q E, sp vs H Q E → vs.length = ps.length) ∧
    ∀ (A : Around) (outer : List Env) (s : Shared) (H : Hp) (args : Args) (us : List Value) (vs : List V) (Q : VK) (E : XK), RoomA k A → Env0 P w K mg base A outer s H → BindsTo s fd args (ps.zip us) → Vals vs us → sp vs H Q E →
      codeAny (model P w) A (.call (.ref f) args) (CR CX0 outer P w H s Q E) s
end L2

namespace L2
open PySem PySem.Spec PyProof.Rows
section
variable {X : Cx}
/-! ### lists of ints compared -/
theorem all_eq_ints2 (ns ms : List Int) (hl : ns.length = ms.length) : ((List.range ns.length).all (fun j => decide (ns[j]? = ms[j]?))) = decide (ns = ms) := by
  have := all_eq_ints ns ms
  rw [← hl, Nat.min_self, beq_self_eq_true, Bool.and_true] at this
  exact this
def rEqL (K : PySem.W.Frag) (neg : Bool) : R2 := fun x y H Q => ∃ (a b : Addr) (ns ms : List Int), x = .ref a ∧ y = .ref b ∧ SqL K H a (ns.map V.int) ∧ SqL K H b (ms.map V.int) ∧ Q (.bl (if neg then !decide (ns = ms) else decide (ns = ms))) H
theorem op_neL (hu : X.A.units < cLine) : OpR X (compareOp .NotEq) (rEqL X.K true) := by
  intro pins s σ H x y v u Q I rx ry h
  obtain ⟨a, b, ns, ms, rfl, rfl, ha, hb, q⟩ := h
  cases rx
  cases ry
  obtain ⟨its, r1, p1, _⟩ := I.list ha
  obtain ⟨its2, r2, p2, _⟩ := I.list hb
  have l1 := r1.length
  have l2 := r2.length
  rw [List.length_map] at l1 l2
  by_cases hl : ns.length = ms.length
  · refine SeqAt.RcNeAt.lists p1.isList p2.isList (by simp; omega) hu (eqAt_items r1 r2) _ _ _ _ ⟨.bl _, H, I, rfl, ?_⟩
    have e := all_eq_ints2 ns ms hl
    rw [l1] at e
    rw [List.size_toArray, e]
    exact q
  · have ne : ¬ ns = ms := fun z => hl (by rw [z])
    refine SeqAt.RcNeAt.lists_lengths p1.isList p2.isList (by simp; omega) hu _ _ _ _ ⟨.bl true, H, I, rfl, ?_⟩
    have q : Q (.bl (!decide (ns = ms))) H := q
    rw [decide_eq_false ne] at q
    exact q
/-! ### xs.count(y), xs.index(y) of flat items -/
def rCount : V → List V → Hp → VK → Prop := fun x vs H Q => ∃ l xs y, x = .ref l ∧ vs = [y] ∧ H l = some (.lst xs) ∧ flatV y = true ∧ xs.all flatV = true ∧ Q (.int ((xs.countP fun z => eqV z y) : Nat)) H
def rIndex : V → List V → Hp → VK → Prop := fun x vs H Q => ∃ l xs y j, x = .ref l ∧ vs = [y] ∧ H l = some (.lst xs) ∧ flatV y = true ∧ xs.all flatV = true ∧ (∃ h : j < xs.length, eqV xs[j] y = true) ∧ (∀ m (hm : m < xs.length), m < j → eqV xs[m] y = false) ∧ Q (.int (j : Nat)) H
end
end L2

/-! enumerate over a tuple -/
namespace EnT
open PySem PySem.Spec PyProof.Rows
open AutoSeq1 (wpAny_loadPart')
section
variable {prog : Program} {w : World} {A : Around} {E : Value → Shared → Prop} {s : Shared}
end
end EnT
namespace L2
open PySem PySem.Spec PyProof.Rows
/-- the tuple at a, numbered from 0: a new pair at each turn -/
def Ite (K : PySem.W.Frag) (a : Addr) : It :=
  ⟨fun i H => ∃ xs x, SqT K H a xs ∧ xs[i]? = some x, fun i H x H' => ∃ p y, x = .ref p ∧ H p = none ∧ H' = upd H p (.tup [.int (i : Nat), y]) ∧ ∀ xs, SqT K H a xs → xs[i]? = some y, fun i H => ∃ xs, SqT K H a xs ∧ xs.length ≤ i⟩
section
variable {X : Cx}
def iEnum (K : PySem.W.Frag) (ta : TA) : TI := fun σ H R => ta σ H fun vs H1 => ∃ a, vs = [.ref a] ∧ (∃ xs, SqT K H1 a xs) ∧ R (Ite K a) H1
end
end L2

/-! isinstance of an exception of one's own -/
namespace XK
open PySem PySem.W PySem.Spec PySem.Calls PyProof.Rows PySem.Builtin PySem.Builtin.ObjectAttr PySem.Builtin.Getset_descriptor
/-- what of the text an error class must have -/
structure ExcK (K : Frag) (C : Addr) : Prop where
  ga : findIn K (.ref C) "__getattribute__" = some (some (.builtin "BaseException.__getattribute__"))
  gh : findIn K (.ref C) "__getattr__" = some none
  sub : mroIn K C (.type "BaseException") = some true
  cl : findIn K (.ref C) "__class__" = some (some (.builtin "object.__class__"))
  ob : mroIn K C (.type "object") = some true
  cls : (clsIn K C).isSome = true
section
variable {prog : Program} {w : World} {A : Around} {E : Value → Shared → Prop} {h : Heap} {g : Array GenState} {d : Drawn} {t : Nat} {os : OsState} {a : Addr} {o : Obj} {C : Addr} {K : Frag}
end
end XK
namespace L2
open PySem PySem.Spec PyProof.Rows
section
variable {X : Cx} {e : Expr} {te : TE} {x : Str} {p1 p2 pos : Pos}
def rIsx (K : PySem.W.Frag) : List V → Hp → VK → Prop := fun xs H Q => ∃ ea C c u b, xs = [.ref ea, c] ∧ H ea = some (excO ea C) ∧ XK.ExcK K C ∧ RelV c u ∧ PySem.W.kitOne K (.ref C) u = some b ∧ Q (.bl b) H
end
end L2

/-! x = [.. for ..]: the comprehension's list goes straight to the name -/
namespace L2
open PySem PySem.Spec PyProof.Rows
section
variable {X : Cx}
/-- len of a list or tuple, by the part -/
def rLenS (K : PySem.W.Frag) : List V → Hp → VK → Prop := fun xs H Q => ∃ p ys, xs = [V.ref p] ∧ (SqL K H p ys ∨ SqT K H p ys) ∧ Q (.int ys.length) H
end
end L2

/-! more rules: ints sorted, a list unpacked, list(range), a tuple times an int, a wide divisor -/
namespace L2
open PySem PySem.Spec PyProof.Rows
section
variable {X : Cx}
/-- i // j, j up to some thousand bits -/
def CDivW (_ j : Int) : Prop := 0 < j ∧ j < 10 ^ 50
/-- sorted of a list of ints -/
def rSortI (K : PySem.W.Frag) : List V → Hp → (V → Hp → Prop) → Prop := fun xs H Q => ∃ (p : Addr) (ns : List Int), xs = [V.ref p] ∧ SqL K H p (ns.map V.int) ∧ ns.length < 64 ∧
  ∀ l (ms : List Int), H l = none → List.Perm ms ns → ms.Pairwise (· ≤ ·) → Q (.ref l) (upd H l (.lst (ms.map V.int)))
theorem vals_ofInts {us : List Value} {ns : List Int} (h : IntsAre us ns) : Vals (ns.map V.int) us := by
  induction h with
  | nil => exact .nil
  | cons a t _ ih => exact .cons ⟨t, rfl⟩ ih
theorem call_sortedI : CallR X (.builtin "sorted") (rSortI X.K) := by
  intro pins s σ H xs us Q I r h
  obtain ⟨p, ns, rfl, hq, h64, q⟩ := h
  obtain ⟨u, rfl, ru⟩ := vals1 r
  cases ru
  obtain ⟨its, rv, pl, hz⟩ := I.list hq
  have hlen := rv.length
  rw [List.length_map] at hlen
  refine sorted_ints pl.isList (intsAre_of rv) (by omega) fun out ms hi hp hs => ?_
  have hf : H (s.heap.objs.size + 1) = none := I.hok.fresh (Nat.le_succ _)
  obtain ⟨e, he⟩ := sortedAll_at s.heap its out
  refine ⟨.ref (s.heap.objs.size + 1), upd H (s.heap.objs.size + 1) (.lst (ms.map V.int)), I.laid (t' := s.toks) (fun b o => sortedAll_old) (Nat.le_succ _) ⟨?_, out.toList, e, vals_ofInts hi, by simpa using he⟩, rfl, q _ _ hf hp hs⟩
  rw [List.length_map, hp.length_eq]
  rwa [List.length_map] at hz
/-- list(range(..)) -/
def rListR : List V → Hp → (V → Hp → Prop) → Prop := fun xs H Q => ∃ (p : Addr) (lo hi : Int), xs = [V.ref p] ∧ H p = some (.rng lo hi) ∧ -(2 ^ 62) ≤ lo ∧ lo < 2 ^ 62 ∧ -(2 ^ 62) ≤ hi ∧ hi < 2 ^ 62 ∧ (hi - lo).toNat ≤ 1000 ∧
  ∀ l, H l = none → Q (.ref l) (upd H l (.lst ((List.range (hi - lo).toNat).map fun k => V.int (lo + (k : Nat)))))
theorem vals_of_get : ∀ {xs : List V} {us : List Value}, xs.length = us.length → (∀ (i : Nat) (x : V) (u : Value), xs[i]? = some x → us[i]? = some u → RelV x u) → Vals xs us
  | [], [], _, _ => .nil
  | x :: xs, u :: us, h, q => .cons (q 0 x u rfl rfl) (vals_of_get (by simpa using h) fun i x' u' h1 h2 => q (i + 1) x' u' (by simpa using h1) (by simpa using h2))
  | [], _ :: _, h, _ => by simp at h
  | _ :: _, [], h, _ => by simp at h
theorem call_listR (hc : X.calm = true) : CallR X (.type "list") rListR := by
  intro pins s σ H xs us Q I r h
  obtain ⟨p, lo, hi, rfl, hp, h1, h2, h3, h4, hn, q⟩ := h
  obtain ⟨u, rfl, ru⟩ := vals1 r
  cases ru
  obtain ⟨t, u, v, e⟩ := (show ObjOk X.prog X.w H s.heap p (.rng lo hi) from I.hok p _ hp)
  have hsz : Builtin.Range.rangeSize lo hi 1 = ((hi - lo).toNat : Nat) := by rw [rangeSize_one]; split <;> omega
  refine call_list_range (n := (hi - lo).toNat) (I.ok.hd hc) (show IsRange s.heap p lo hi 1 t u v from e) (small_one h1 h2 h3 h4) hsz (by omega) fun h' tk acc c hk hS hacc => ?_
  have hf : H s.heap.objs.size = none := I.hok.fresh (Nat.le_refl _)
  refine ⟨.ref s.heap.objs.size, _, I.laid (o := .lst ((List.range (hi - lo).toNat).map fun k => V.int (lo + (k : Nat)))) hk (Nat.le_refl _) ⟨?_, acc.toList, c, vals_of_get ?_ ?_, by simpa using hS⟩, rfl, q _ hf⟩
  · rw [List.length_map, List.length_range]; exact Nat.le_of_lt (small1000 hn)
  · rw [List.length_map, List.length_range, Array.length_toList, hacc.1]
  · intro i x w hx hw
    rw [List.getElem?_map] at hx
    obtain ⟨k, hk', rfl⟩ := Option.map_eq_some_iff.mp hx
    have ek : i = k := by
      rw [List.getElem?_eq_some_iff] at hk'
      obtain ⟨z, e⟩ := hk'
      simpa using e
    subst ek
    obtain ⟨t', rfl⟩ := hacc.2 i w (by simpa using hw)
    refine ⟨t', ?_⟩
    rw [Int.mul_one]
/-! a list unpacked -/
def gLst (K : PySem.W.Frag) (n : Nat) (t : TGs) : TG := fun v σ H Q => ∃ a xs, v = .ref a ∧ SqL K H a xs ∧ xs.length = n ∧ t xs σ H Q
end
/-! a tuple times an int -/
def rRepT (K : PySem.W.Frag) : R2 := fun x y H Q => ∃ a k xs, x = .ref a ∧ y = .int k ∧ SqT K H a xs ∧ xs ≠ [] ∧ 1 ≤ k ∧ xs.length * k.toNat ≤ sizeLine ∧ ∀ p H', SqT K H' p (List.replicate k.toNat xs).flatten → Same H H' → Q (.ref p) H'
end L2

/-! set(t) of a tuple of inz, and how many there are -/
namespace St2
open PySem PyProof.Rows
abbrev kinds (ns : List Int) (k : Nat) : List Int := firstMet (fun j => ns.getD j 0) k
abbrev newS (led : Bool) : Obj := { cls := .type "set", dict := none, data := .set #[] 0 (.fresh 0 0 led) }
section
variable {prog : Program} {w : World} {A : Around} {E : Value → Shared → Prop} {s : Shared}
end
end St2
namespace L2
open PySem PySem.Spec PyProof.Rows
section
variable {X : Cx}
/-- set of a tuple of ints -/
def rSetT (K : PySem.W.Frag) : List V → Hp → VK → Prop := fun xs H Q => ∃ (p : Addr) (ns : List Int), xs = [V.ref p] ∧ SqT K H p (ns.map V.int) ∧ ns.length ≤ 1000 ∧
  ∀ l S, H l = none → Q (.ref l) (upd H l (.set S (St2.kinds ns ns.length).length))
/-- how many there are in a set -/
def rLenSet : List V → Hp → VK → Prop := fun xs H Q => ∃ (p : Addr) (S : Int → Bool) (n : Nat), xs = [V.ref p] ∧ H p = some (.set S n) ∧ n ≤ 1000 ∧ Q (.int (n : Nat)) H
theorem call_lenSet : CallR X (.builtin "len") rLenSet := by
  intro pins s σ H xs us Q I r h
  obtain ⟨p, S, n, rfl, hp, hn, q⟩ := h
  obtain ⟨u, rfl, ru⟩ := vals1 r
  cases ru
  obtain ⟨o, es, ep, t, ho, ex, hd, _, _, _, hf, rfl⟩ := (show s.heap.SetOf (intKind X.prog X.w) p S n from I.hok p _ hp)
  exact call_len_set ho ex hd hf (by omega) ⟨.int (es.size : Nat), H, I.tok _, ⟨_, rfl⟩, q⟩
end
end L2
namespace St2
open PySem PyProof.Rows
theorem take_map (ns : List Int) : ∀ i, i ≤ ns.length → (List.range i).map (fun j => ns.getD j 0) = ns.take i
  | 0, _ => rfl
  | i + 1, h => by
    have hi : i < ns.length := by omega
    rw [List.range_succ, List.map_append, take_map ns i (by omega), List.take_add_one, List.getElem?_eq_getElem hi]
    simp [hi]
theorem kinds_iff (ns : List Int) : ∀ i, i ≤ ns.length → ((kinds ns i).length = i ↔ (ns.take i).Nodup)
  | 0, _ => by simp [kinds, firstMet_zero]
  | i + 1, h => by
    have hi : i < ns.length := by omega
    have ih := kinds_iff ns i (by omega)
    have le := firstMet_length_le (fun j => ns.getD j 0) i
    have an := firstMet_any (fun j => ns.getD j 0) i (ns.getD i 0)
    rw [take_map ns i (by omega)] at an
    have el : (kinds ns (i + 1)).length = if (firstMet (fun j => ns.getD j 0) i).any (· == ns.getD i 0) then (kinds ns i).length else (kinds ns i).length + 1 := by
      show (firstMet (fun j => ns.getD j 0) (i + 1)).length = _
      rw [firstMet_succ, step_length]
    have gi : ns.getD i 0 = ns[i] := by simp [hi]
    have tk : ns.take (i + 1) = ns.take i ++ [ns[i]] := by rw [List.take_add_one, List.getElem?_eq_getElem hi]; rfl
    rw [el, an, tk, List.nodup_append, gi]
    have mem : (ns.take i).any (· == ns[i]) = true ↔ ns[i] ∈ ns.take i := by
      rw [List.any_eq_true]
      exact ⟨fun hZ => (by obtain ⟨x, hx, e⟩ := hZ; exact (beq_iff_eq.mp e) ▸ hx), fun hx => ⟨_, hx, by simp⟩⟩
    by_cases c : (ns.take i).any (· == ns[i]) = true
    · rw [if_pos c]
      refine ⟨fun z => absurd z (by show (firstMet _ i).length ≠ _; omega), fun hZ => (by obtain ⟨_, _, z⟩ := hZ; exact absurd rfl (z _ (mem.mp c) _ (List.mem_singleton.mpr rfl)))⟩
    · rw [if_neg c]
      refine ⟨fun z => ⟨ih.mp (by omega), by simp, fun x hx y hy e => ?_⟩, fun ⟨z, _⟩ => by rw [ih.mpr z]⟩
      have ey := List.mem_singleton.mp hy
      subst ey
      exact c (mem.mpr (e ▸ hx))
theorem kinds_nodup (ns : List Int) : (kinds ns ns.length).length = ns.length ↔ ns.Nodup := by
  have := kinds_iff ns ns.length (Nat.le_refl _)
  rwa [List.take_length] at this
theorem kinds_le (ns : List Int) : (kinds ns ns.length).length ≤ ns.length := firstMet_length_le _ _
end St2

namespace Tr2
open PySem PyProof.Rows
section
variable {prog : Program} {w : World} {A : Around} {E : Value → Shared → Prop} {s : Shared}
end
end Tr2
/-! truths compared by `is`, `is not` -/
namespace L2
open PySem PySem.Spec PyProof.Rows
section
variable {X : Cx}
/-- tuple(range(..)) -/
def rTupR : List V → Hp → VK → Prop := fun xs H Q => ∃ (p : Addr) (lo hi : Int), xs = [V.ref p] ∧ H p = some (.rng lo hi) ∧ -(2 ^ 62) ≤ lo ∧ lo < 2 ^ 62 ∧ -(2 ^ 62) ≤ hi ∧ hi < 2 ^ 62 ∧ (hi - lo).toNat ≤ 1000 ∧
  ∀ l, H l = none → Q (.ref l) (upd H l (.tup ((List.range (hi - lo).toNat).map fun k => V.int (lo + (k : Nat)))))
end
end L2

/-! more rules: a tuple held against the empty one, a still wider divisor -/
namespace L2
open PySem PySem.Spec PyProof.Rows
section
variable {X : Cx}
/-- a tuple is the empty one -/
def rEqT0 (K : PySem.W.Frag) : R2 := fun x y H Q => ∃ (a b : Addr) (xs : List V), x = .ref a ∧ y = .ref b ∧ SqT K H a xs ∧ SqT K H b [] ∧ Q (.bl xs.isEmpty) H
/-- i // j, j still greater -/
def CDivX (_ j : Int) : Prop := 0 < j ∧ j < 10 ^ 70
theorem log_wideX {j : Int} (h0 : 0 < j) (h1 : j < 10 ^ 70) : j.natAbs.log2 < 9000 := by
  have e : j.natAbs ≠ 0 := by omega
  refine Nat.lt_of_lt_of_le ((Nat.log2_lt (k := 240) e).mpr ?_) (by decide)
  have : (10 : Int) ^ 70 ≤ 2 ^ 240 := by decide
  have h2 : j < 2 ^ 240 := by omega
  have h3 : ((j.natAbs : Nat) : Int) < ((2 ^ 240 : Nat) : Int) := by
    rw [Int.natAbs_of_nonneg (by omega)]
    exact h2
  exact Int.ofNat_lt.mp h3
theorem op_fdivX : OpR X (binaryOp .FloorDiv) (rI CDivX fun i j => .int (i / j)) := opI fun i j _ _ _ _ _ hc q => by
  refine floordiv_int (by have := hc.1; omega) ?_ (.inl (PyProof.noPylong_of_log2 (log_wideX hc.1 hc.2)))
  rw [Int.fdiv_eq_ediv_of_nonneg _ (by have := hc.1; omega)]
  exact q
end
end L2

/-! the rules in boxes, for code of constants alone (whose type Lean would else run) -/
namespace L2
open PySem PySem.Spec PyProof.Rows
structure ZE (X : Cx) (e : Expr) (t : TE) : Prop where
  p : PE X e t
structure ZA (X : Cx) (es : List Expr) (t : TA) : Prop where
  p : PA X es t
structure ZI (X : Cx) (tg iter : Expr) (wi : TI) : Prop where
  p : PI X tg iter wi
structure ZS (X : Cx) (st : Stmt) (t : TS) : Prop where
  p : PS X st t
structure ZSs (X : Cx) (st : List Stmt) (t : TS) : Prop where
  p : PSs X st t
section
variable {X : Cx}
theorem za_nil : ZA X [] tNil := ⟨pa_nil⟩
theorem za_cons {e : Expr} {es : List Expr} {te : TE} {t : TA} (ha : ZE X e te) (hr : ZA X es t) (hs : starEach (e :: es) X.env = (false, eval e X.env) :: starEach es X.env := by rfl) : ZA X (e :: es) (tCons te t) := ⟨pa_cons ha.p hr.p hs⟩
theorem ze_tup {es : List Expr} {t : TA} {x1 : Nat} {pos : Pos} (h : ZA X es t) : ZE X (.Tuple es x1 pos) (tTup t) := ⟨pe_tup h.p⟩
theorem ze_lst {es : List Expr} {t : TA} {pos : Pos} (h : ZA X es t) : ZE X (.List es pos) (tLst t) := ⟨pe_lst h.p⟩
theorem ze_of {e : Expr} {t : TE} (h : PE X e t) : ZE X e t := ⟨h⟩
theorem zi_list {tg l : Expr} {tl : TE} (hl : ZE X l tl) : ZI X tg l (iList X.K tl) := ⟨pi_list hl.p⟩
theorem zss_of {st : List Stmt} {t : TS} (h : PSs X st t) : ZSs X st t := ⟨h⟩
theorem zss_cons {st : Stmt} {rest : List Stmt} {t u : TS} (h1 : ZS X st t) (h2 : ZSs X rest u) : ZSs X (st :: rest) (tSeq t u) := ⟨pss_cons h1.p h2.p⟩
theorem zss_out {st : List Stmt} {R : TS → Prop} (h : ∃ t, ZSs X st t ∧ R t) : ∃ t, PSs X st t ∧ R t := h.elim fun t z => ⟨t, z.1.p, z.2⟩
end
end L2

/-! more rules: max and min of a list of ints -/
namespace L2
open PySem PySem.Spec PyProof.Rows
theorem vals_toks : ∀ {ns : List Int} {us : List Value}, Vals (ns.map V.int) us → ∃ ps : List (Int × Tok), us = ps.map (fun p => Value.int p.1 p.2) ∧ ps.map (·.1) = ns
  | [], _, .nil => ⟨[], rfl, rfl⟩
  | n :: ns, _, .cons r1 r2 => by
    obtain ⟨t, rfl⟩ := r1
    obtain ⟨ps, rfl, e⟩ := vals_toks r2
    exact ⟨(n, t) :: ps, rfl, by rw [List.map_cons, e]⟩
section
variable {X : Cx}
def rMaxL (K : PySem.W.Frag) : List V → Hp → (V → Hp → Prop) → Prop := fun xs H Q => ∃ (p : Addr) (ns : List Int), xs = [V.ref p] ∧ SqL K H p (ns.map V.int) ∧ ns ≠ [] ∧ ∀ M, M ∈ ns → (∀ a ∈ ns, a ≤ M) → Q (.int M) H
def rMinL (K : PySem.W.Frag) : List V → Hp → (V → Hp → Prop) → Prop := fun xs H Q => ∃ (p : Addr) (ns : List Int), xs = [V.ref p] ∧ SqL K H p (ns.map V.int) ∧ ns ≠ [] ∧ ∀ M, M ∈ ns → (∀ a ∈ ns, M ≤ a) → Q (.int M) H
end
end L2

/-! more rules: tuples of flat items held against one another -/
namespace L2
open PySem PySem.Spec PyProof.Rows
def eqVs (xs ys : List V) : Bool := (List.range (min xs.length ys.length)).all (fun j => eqV (xs.getD j .non) (ys.getD j .non)) && xs.length == ys.length
section
variable {X : Cx}
def rEqF (K : PySem.W.Frag) : R2 := fun x y H Q => ∃ (a b : Addr) (xs ys : List V), x = .ref a ∧ y = .ref b ∧ SqT K H a xs ∧ SqT K H b ys ∧ xs.all flatV = true ∧ ys.all flatV = true ∧ Q (.bl (eqVs xs ys)) H
theorem zs_ret {e : Expr} {te : TE} {pos : Pos} (h : ZE X e te) : ZS X (.Return (some e) pos) (tRet te) := ⟨ps_ret h.p⟩
theorem zss_one {st : Stmt} {t : TS} (h : ZS X st t) : ZSs X [st] t := ⟨pss_one h.p⟩
theorem zss_nil : ZSs X [] tNext := ⟨pss_nil⟩
theorem zs_if {c : Expr} {a b : List Stmt} {tc : TT} {t u : TS} {pos : Pos} (hc : PT X c tc) (ha : ZSs X a t) (hb : ZSs X b u) : ZS X (.If c a b pos) (tIfS tc t u) := ⟨ps_if hc ha.p hb.p⟩
/-- a list is not the empty one -/
def rNeL0 (K : PySem.W.Frag) : R2 := fun x y H Q => ∃ (a b : Addr) (xs : List V), x = .ref a ∧ y = .ref b ∧ SqL K H a xs ∧ SqL K H b [] ∧ Q (.bl (!xs.isEmpty)) H
end
/-- just one list has turned, nothing else -/
structure Ltn (p : Addr) (H H' : Hp) : Prop where
  was : ∃ xs, H p = some (.lst xs)
  is : ∃ xs, H' p = some (.lst xs)
  same : ∀ b, b ≠ p → H' b = H b
theorem Ltn.seqT {K : PySem.W.Frag} {p : Addr} {H H' : Hp} (d : Ltn p H H') {a : Addr} {xs : List V} (h : SqT K H a xs) : SqT K H' a xs := by
  obtain ⟨_, q⟩ := d.was
  rcases h with (h | ⟨o, h⟩) | h
  · exact .inl (.inl (by rw [d.same a (ne_of h q (by intro z; cases z))]; exact h))
  · exact .inl (.inr ⟨o, by rw [d.same a (ne_of h q (by intro z; cases z))]; exact h⟩)
  · exact .inr h
end L2

/-! zip over two tuples -/
namespace ZpT
open PySem PySem.Spec PyProof.Rows
section
variable {prog : Program} {w : World} {A : Around} {E : Value → Shared → Prop} {s : Shared}
end
open AutoSeq1 (wpAny_loadPart')
abbrev H1 (h : Heap) (l1 : Addr) : Heap := h.push { cls := .type "tuple_iterator", data := .fields #[.ref l1, .int 0 0] }
abbrev H2 (h : Heap) (l1 l2 : Addr) : Heap := (H1 h l1).push { cls := .type "tuple_iterator", data := .fields #[.ref l2, .int 0 0] }
abbrev H3 (h : Heap) (l1 l2 : Addr) : Heap := (H2 h l1 l2).push { cls := .type "tuple", data := .seq #[.ref h.objs.size, .ref (H1 h l1).objs.size] }
abbrev H4 (h : Heap) (l1 l2 : Addr) : Heap := (H3 h l1 l2).push { cls := .type "tuple", data := .seq #[.none, .none] }
abbrev H5 (h : Heap) (l1 l2 : Addr) : Heap := (H4 h l1 l2).push { cls := .type "zip", data := .fields #[.none, .bool false, .bool false, .ref (H2 h l1 l2).objs.size, .ref (H3 h l1 l2).objs.size] }
section
variable {prog : Program} {w : World} {A : Around} {E : Value → Shared → Prop} {s : Shared}
end
end ZpT
namespace L2
open PySem PySem.Spec PyProof.Rows
/-- the tuples at a and b, item by item: a new pair at each turn (as long as both) -/
def Itz (K : PySem.W.Frag) (a b : Addr) : It :=
  ⟨fun i H => ∃ xs ys x y, SqT K H a xs ∧ SqT K H b ys ∧ xs[i]? = some x ∧ ys[i]? = some y, fun i H x H' => ∃ p y z, x = .ref p ∧ H p = none ∧ H' = upd H p (.tup [y, z]) ∧ (∀ xs, SqT K H a xs → xs[i]? = some y) ∧ ∀ ys, SqT K H b ys → ys[i]? = some z, fun i H => ∃ xs, SqT K H a xs ∧ xs.length ≤ i⟩
def ZipSt (a b z TI TO i1 i2 : Addr) (i : Nat) (h : Heap) : Prop := IsZip h z TI TO .none ∧ IsPair h TI (.ref i1) (.ref i2) ∧ (∃ x y, IsPair h TO x y) ∧ h.IsTupleIter i1 a i ∧ h.IsTupleIter i2 b i
section
variable {X : Cx}
def iZip (K : PySem.W.Frag) (ta : TA) : TI := fun σ H R => ta σ H fun vs H1 => ∃ a b, vs = [.ref a, .ref b] ∧ (∃ xs, SqT K H1 a xs) ∧ (∃ ys, SqT K H1 b ys) ∧ R (Itz K a b) H1
end
end L2

/-! more rules: sorted of a tuple of ints, set of a list of ints, l[i] op= x, enumerate in a for -/
namespace St2
open PySem PySem.Spec PyProof.Rows
section
variable {prog : Program} {w : World} {A : Around} {E : Value → Shared → Prop} {s : Shared}
theorem set_list {a : Addr} {its : Array Value} {ns : List Int} {Q : Value → Shared → Prop} (calm : A.handled = none) (tu : s.heap.IsList a its) (inz : IntsAre its.toList ns) (few : its.size + 1 < scanBound)
    (q : ∀ (h' : Heap) (tk : Nat), h'.SetOf (intKind prog w) s.heap.objs.size (fun x => (kinds ns its.size).any (· == x)) (kinds ns its.size).length → (∀ b o, b < s.heap.objs.size → s.heap.get? b = some o → h'.get? b = some o) → Q (.ref s.heap.objs.size) { s with heap := h', toks := tk }) :
    wpAny (model prog w) A (call (.type "set") [.ref a]) Q E s := by
  obtain ⟨c0, tl0, mro0⟩ := F.called_set.mro
  have m1 := F.called_set.made
  have m2 := F.called_set.sub
  have m3 := F.called_set.notType
  have m4 := F.called_set.canCreate
  have m5 := F.typeCall_set_1 (.ref a)
  refine wpAny_call (codeAny_of_tree ?_)
  show wpAny _ _ (callAny (.type "set") _) _ _ _
  refine wpAny_pure ⟨Code.quiet_builtin _ (by decide +kernel), codeAny_builtin F.entry_type_call ?_⟩
  rw [Around.under_plain (weight_type_call_type "set" [.ref a] []) rfl]
  repeat (any_goals (first | assumption | wp_step))
  refine codeAny_mono (code_set_new_1 (.ref a) (E := E) (Q₁ := fun ob t1 => ∃ led : Bool, ob = .ref s.heap.objs.size ∧ t1 = { s with heap := s.heap.push (newS led) }) fun led => ⟨led, rfl, rfl⟩) fun res t1 hres => ?_
  cases res with
  | error x => exact hres
  | ok fl =>
    cases fl with
    | next => exact hres.elim
    | brk => exact hres.elim
    | cont => exact hres.elim
    | ret ob =>
      obtain ⟨led, rfl, rfl⟩ := hres
      have atS : (s.heap.push (newS led)).get? s.heap.objs.size = some (newS led) := Heap.get?_push_size _ rfl
      have tyS : Shared.TypeIs { s with heap := s.heap.push (newS led) } (.ref s.heap.objs.size) "set" := ⟨_, atS, rfl⟩
      have i1 := F.called_set.init.lookup
      have i2 := F.called_set.init.bind (.ref s.heap.objs.size)
      repeat (any_goals (first | assumption | wp_step))
      refine codeAny_mono (codeAny_call_builtin (R := wants (fun r t2 => r = .none ∧ ∃ h' tk, t2 = { s with heap := h', toks := tk } ∧ h'.SetOf (intKind prog w) s.heap.objs.size (fun x => (kinds ns its.size).any (· == x)) (kinds ns its.size).length ∧
          (∀ b o, b < s.heap.objs.size → s.heap.get? b = some o → h'.get? b = some o)) E) F.called_set.init.plain F.entry_set_init (check_set_init_1 tyS ?_)) fun r2 t2 hr2 => ?_
      · obtain ⟨⟨k1, k2, k3, k4⟩, e0, e1, n0, e2⟩ := id tu
        simp only at e1 e2
        subst e1 e2
        have e0' : (s.heap.push (newS led)).get? a = some ⟨.type "list", k2, .seq its n0, k4⟩ := Heap.get?_push_of_some _ e0
        have j1 := F.sub_list_set
        have j2 := F.sub_list_frozenset
        have j3 : (Value.type "list" == Value.type "dict") = false := by decide
        have tu1 : (s.heap.push (newS led)).IsList a its := ⟨_, e0', rfl, n0, rfl⟩
        unfold Builtin.«set.__init__» noKeywords Builtin.Frozenset.updateFrom
        generalize hPy : pyIter = PY
        wp_walk
        subst hPy
        refine wpAny_pyIter_list tu1 ?_
        refine wpAny_bind (wpAny_runValue ?_)
        have lt : a < s.heap.objs.size := Heap.lt_size e0
        have calm3 : A.in1.in1.in1.handled = none := by simp [calm]
        have ne1 : a ≠ (s.heap.push (newS led)).objs.size := by rw [Heap.size_push]; exact Nat.ne_of_lt (Nat.lt_succ_of_lt lt)
        have out : s.heap.objs.size ∉ [(s.heap.push (newS led)).objs.size, a] := by
          rw [Heap.size_push]
          simp only [List.mem_cons, List.not_mem_nil, or_false, not_or]
          exact ⟨Nat.ne_of_lt (Nat.lt_succ_self _), Nat.ne_of_gt lt⟩
        refine codeAny_set_update_loopS ((Walks.list calm3 _ a ne1 its).toS) s.heap.objs.size out (fun j => ns.getD j 0) (fun i v hv => IntsAre.int_at inz i v (by rw [Array.getElem?_toList]; exact hv)) few (its.size - 0) 0 _ (by omega) (Nat.zero_le _) ⟨⟨_, Heap.get?_push_size _ rfl, rfl, rfl⟩, ?T⟩ ?S ?R
        case T => exact ⟨_, Heap.get?_push_of_some _ e0', rfl, n0, rfl⟩
        case S => exact SetOf_congr ((setObjOf_fresh (knd := intKind prog w) led).setOf (Heap.get?_push_of_some _ atS) (by unfold scanBound; omega)) (fun _ => rfl) rfl
        case R =>
          rintro ⟨h', g', d', tk', os'⟩ mv st
          have w1 : g' = s.gens := mv.gens
          have w2 : d' = s.drawn := mv.drawn
          have w3 : os' = s.os := mv.os
          subst w1 w2 w3
          refine wpAny_pure ?_
          show wpAny _ _ (ret Value.none) _ _ _
          refine wpAny_pure ⟨rfl, h', tk', rfl, st, fun b o lb e => mv.heap b o ?_ (Heap.get?_push_of_some _ (Heap.get?_push_of_some _ e))⟩
          rw [Heap.size_push]
          simp only [List.mem_cons, List.not_mem_nil, or_false, not_or]
          exact ⟨Nat.ne_of_lt lb, Nat.ne_of_lt (Nat.lt_succ_of_lt lb)⟩
      · cases r2 with
        | error x => exact hr2
        | ok f2 =>
          cases f2 with
          | ret r =>
            obtain ⟨rfl, h', tk, rfl, st, kp⟩ := hr2
            repeat (any_goals (first | assumption | wp_step))
            exact q _ _ st kp
          | next => exact hr2.elim
          | brk => exact hr2.elim
          | cont => exact hr2.elim
end
end St2
namespace L2
open PySem PySem.Spec PyProof.Rows
section
variable {X : Cx}
def rSetLi (K : PySem.W.Frag) : List V → Hp → VK → Prop := fun xs H Q => ∃ (p : Addr) (ns : List Int), xs = [V.ref p] ∧ SqL K H p (ns.map V.int) ∧ ns.length ≤ 1000 ∧
  ∀ l S, H l = none → Q (.ref l) (upd H l (.set S (St2.kinds ns ns.length).length))
theorem call_setL (hc : X.calm = true) : CallR X (.type "set") (rSetLi X.K) := by
  intro pins s σ H xs us Q I r h
  obtain ⟨p, ns, rfl, hq, hn, q⟩ := h
  obtain ⟨u, rfl, ru⟩ := vals1 r
  cases ru
  obtain ⟨its, rv, pt, _⟩ := I.list hq
  have ln : its.length = ns.length := by rw [← rv.length, List.length_map]
  refine St2.set_list (ns := ns) (I.ok.hd hc) pt.isList (by simpa using intsAre_of rv) (by rw [List.size_toArray, ln]; unfold scanBound; omega) fun h' tk st kp => ?_
  have sz : its.toArray.size = ns.length := by rw [List.size_toArray, ln]
  rw [sz] at st
  have hf : H s.heap.objs.size = none := I.hok.fresh (Nat.le_refl _)
  exact ⟨.ref s.heap.objs.size, _, I.laid (o := .set _ _) (fun b o e => kp b o (Heap.lt_size e) e) (Nat.le_refl _) st, rfl, q _ _ hf⟩
/-- sorted of a tuple of ints -/
def rSortU (K : PySem.W.Frag) : List V → Hp → (V → Hp → Prop) → Prop := fun xs H Q => ∃ (p : Addr) (ns : List Int), xs = [V.ref p] ∧ SqT K H p (ns.map V.int) ∧ ns.length < 64 ∧
  ∀ l (ms : List Int), H l = none → List.Perm ms ns → ms.Pairwise (· ≤ ·) → Q (.ref l) (upd H l (.lst (ms.map V.int)))
end
end L2

/-! more rules: sum of a list of ints -/
namespace L2
open PySem PySem.Spec PyProof.Rows
section
variable {X : Cx}
def rSumL (K : PySem.W.Frag) : List V → Hp → (V → Hp → Prop) → Prop := fun xs H Q => ∃ (p : Addr) (ns : List Int), xs = [V.ref p] ∧ SqL K H p (ns.map V.int) ∧ Q (.int ns.sum) H
theorem call_sumL (hc : X.calm = true) : CallR X (.builtin "sum") (rSumL X.K) := by
  intro pins s σ H xs us Q I r h
  obtain ⟨p, ns, rfl, hq, q⟩ := h
  obtain ⟨u, rfl, ru⟩ := vals1 r
  cases ru
  obtain ⟨its, rv, pl, hz⟩ := I.list hq
  obtain ⟨ps, rfl, e⟩ := vals_toks rv
  have ei : intItems ps.toArray = (ps.map fun p => Value.int p.1 p.2).toArray := by unfold intItems; simp
  refine sum_intListG (xs := ps.toArray) (I.ok.hd hc) (by rw [ei]; exact pl.isList) fun h' tk t' k => ?_
  have es : preSum (numAt ps.toArray) ps.toArray.size = ns.sum := by
    rw [preSum_eq, List.take_of_length_le (by simp), ← e]
  rw [es]
  exact ⟨.int _, H, I.kept k, ⟨t', rfl⟩, q⟩
def rSumU (K : PySem.W.Frag) : List V → Hp → (V → Hp → Prop) → Prop := fun xs H Q => ∃ (p : Addr) (ns : List Int), xs = [V.ref p] ∧ SqT K H p (ns.map V.int) ∧ Q (.int ns.sum) H
theorem call_sumU (hc : X.calm = true) : CallR X (.builtin "sum") (rSumU X.K) := by
  intro pins s σ H xs us Q I r h
  obtain ⟨p, ns, rfl, hq, q⟩ := h
  obtain ⟨u, rfl, ru⟩ := vals1 r
  cases ru
  obtain ⟨its, rv, pl, hz⟩ := I.tuple hq
  obtain ⟨ps, rfl, e⟩ := vals_toks rv
  have ei : intItems ps.toArray = (ps.map fun p => Value.int p.1 p.2).toArray := by unfold intItems; simp
  have ht : s.heap.IsTuple p (intItems ps.toArray) := by rw [ei]; exact pl
  have hlt : p < s.heap.objs.size := by obtain ⟨_, e, _⟩ := ht; exact Heap.lt_size e
  have sz : (intItems ps.toArray).size = ps.toArray.size := by unfold intItems; simp
  have es : preSum (numAt ps.toArray) (intItems ps.toArray).size = ns.sum := by
    rw [sz, preSum_eq, List.take_of_length_le (by simp), ← e]
  refine call_sum_walkG (wpAny_pyIter_tuple ht ?_)
  refine ⟨s.heap.objs.size, _, _, _, _, _, numAt ps.toArray, rfl, Walks.tuple (A := X.A.in1) (I.ok.hd hc) _ p (Nat.ne_of_lt hlt) (intItems ps.toArray), ⟨⟨_, Heap.get?_push_size _ rfl, rfl, rfl⟩, ht.push _⟩, fun b hb => ?_, fun _ _ => intItems_at, fun h' tk t' hk => ?_⟩
  · show b < (s.heap.push _).objs.size
    rw [Heap.size_push]
    have hb' : b = s.heap.objs.size ∨ b = p := by simpa using hb
    rcases hb' with rfl | rfl
    · exact Nat.lt_succ_self _
    · exact Nat.lt_succ_of_lt hlt
  · rw [es]
    exact ⟨.int _, H, I.kept fun b o hb => hk b o (by have := Nat.ne_of_lt (Heap.lt_size hb); simpa using this) (Heap.get?_push_of_some _ hb), ⟨t', rfl⟩, q⟩
theorem extend_tupO (l : Addr) (items : Array Value) (n : Nat) (b : Addr) (items2 : Array Value) (n2 : Nat) (dd : Option Addr) (ss : Array (Option Value)) (hs0 : ¬(!items.isEmpty && Builtin.List.listTooLong (items.size + items2.size)) = true) (hs1 : items.size ≤ sizeLine) (hs2 : items.size + items2.size ≤ sizeLine + 1) :
    Meets (Builtin.«list.extend» ⟨[.ref l, .ref b], []⟩) (fun _ R s => s.heap.get? l = some { cls := .type "list", dict := none, data := .seq items n, slots := #[] } ∧ s.heap.get? b = some { cls := .type "tuple", dict := dd, data := .seq items2 n2, slots := ss } ∧ R (.ok (.ret Value.none)) { s with heap := s.heap.update l (Obj.mapSeq fun x => x ++ items2), toks := s.toks }) :=
  .of_wp fun prog w A R s h => by
    obtain ⟨hp, g, d, tk, os⟩ := s; obtain ⟨hl, hb, h⟩ := h; have f1 := AutoSeq1.idx_int; have f2 := AutoSeq1.sub_tuple_tuple; have f3 := AutoSeq1.sub_list_list; have f4 := AutoSeq1.sub_tuple_list; have f5 := AutoSeq1.sub_list_tuple;
    have hz' : (items ++ items2).size ≤ sizeLine + 1 := by rw [Array.size_append]; exact hs2
    wp_walk using (wpAny_updateSeq hl rfl (hz := hs1) (_hz' := hz')), AutoSeq1.wpAny_loadPart' hl, AutoSeq1.wpAny_loadPart' hb; exact ⟨_, rfl, h⟩
/-- l.extend(t), t a tuple made by the code -/
def rExtendU : V → List V → Hp → VK → Prop := fun x vs H Q => ∃ l b xs zs, x = .ref l ∧ vs = [.ref b] ∧ H l = some (.lst xs) ∧ H b = some (.tup zs) ∧ xs.length + zs.length ≤ sizeLine ∧ Q .non (upd H l (.lst (xs ++ zs)))
end
end L2

/-! more rules: any of a list of truths -/
namespace L2
open PySem PySem.Spec PyProof.Rows
section
variable {X : Cx}
end
end L2

/-! more rules: tuples of tuples of ints held against one another; a dict of the module with int keys, read -/
namespace L2
open PySem PySem.Spec PyProof.Rows
/-- rows of ints, told from the heap -/
def Mat (K : PySem.W.Frag) (H : Hp) (M : List (List Int)) (xs : List V) : Prop := Paired (fun (row : List Int) (x : V) => ∃ c, x = .ref c ∧ SqT K H c (row.map V.int)) M xs
theorem Mat.get {K : PySem.W.Frag} {H : Hp} : ∀ {M : List (List Int)} {xs : List V} {i : Nat} {x : V}, Mat K H M xs → xs[i]? = some x → ∃ row c, M[i]? = some row ∧ x = .ref c ∧ SqT K H c (row.map V.int) := by
  intro M xs i x h
  unfold Mat at h
  induction h generalizing i with
  | nil => intro e; simp at e
  | @cons p q ps qs hq t ih =>
    intro e
    cases i with
    | zero =>
      simp only [List.getElem?_cons_zero, Option.some.injEq] at e
      subst e
      obtain ⟨c, e1, e2⟩ := hq
      exact ⟨p, c, rfl, e1, e2⟩
    | succ i =>
      simp only [List.getElem?_cons_succ] at e ⊢
      exact ih e
theorem Mat.len {K : PySem.W.Frag} {H : Hp} {M : List (List Int)} {xs : List V} (h : Mat K H M xs) : M.length = xs.length := Paired.length h
theorem Mat.same {K : PySem.W.Frag} {H H' : Hp} {M : List (List Int)} {xs : List V} (s : Same H H') (h : Mat K H M xs) : Mat K H' M xs := Paired.mapP h fun _ _ ⟨c, e, q⟩ => ⟨c, e, s.tup q⟩
section
variable {X : Cx}
def rNeM (K : PySem.W.Frag) : R2 := fun x y H Q => ∃ (a b : Addr) (xs ys : List V) (M : List (List Int)), x = .ref a ∧ y = .ref b ∧ SqT K H a xs ∧ SqT K H b ys ∧ Mat K H M xs ∧ Mat K H M ys ∧ Q (.bl false) H
def rEqM (K : PySem.W.Frag) : R2 := fun x y H Q => ∃ (a b : Addr) (xs ys : List V) (M : List (List Int)), x = .ref a ∧ y = .ref b ∧ SqT K H a xs ∧ SqT K H b ys ∧ Mat K H M xs ∧ Mat K H M ys ∧ Q (.bl true) H
end
/-! ### a dict of the module, with int keys -/
def FzD (K : PySem.W.Frag) (a : Addr) (kvs : List (Int × V)) : Prop :=
  (a == sysModules) = false ∧ ∃ (o : Obj) (es : Array DictEntry) (ep : Nat) (vs : List (Int × Value)), K.lookup a = some o ∧ o.ExactDict ∧ o.data = .dict es ep ∧
    (∀ P w, KeysOf (intKind P w) es) ∧ (∀ P w, Pairs (intKind P w) es.toList vs) ∧ (vs.map (·.1)).Nodup ∧ KV kvs vs
section
variable {X : Cx} {o i : Expr} {pos : Pos} {td ty : TE}
def tKGet (K : PySem.W.Frag) (td ty : TE) : TE := fun σ H Q => td σ H fun x H1 => ty σ H1 fun y H2 => ∃ a kvs j v, x = .ref a ∧ y = .int j ∧ FzD K a kvs ∧ valV kvs j = some v ∧ Q v H2
def tKIn (K : PySem.W.Frag) (ty td : TE) : TE := fun σ H Q => ty σ H fun y H1 => td σ H1 fun x H2 => ∃ a kvs j, x = .ref a ∧ y = .int j ∧ FzD K a kvs ∧ Q (.bl (valV kvs j).isSome) H2
end
end L2

/-! data of which only a property is wanted; heaps that differ in one list -/
namespace L2
open PySem PySem.Spec PyProof.Rows
theorem Ltn.seqL {K : PySem.W.Frag} {p : Addr} {H H' : Hp} (d : Ltn p H H') {a : Addr} {xs : List V} (h : SqL K H a xs) : ∃ ys, SqL K H' a ys := by
  obtain ⟨_, q⟩ := d.is
  by_cases e : a = p
  · subst e
    exact ⟨_, .inl (.inl q)⟩
  · refine ⟨xs, ?_⟩
    rcases h with (h | ⟨o, h⟩) | h
    · exact .inl (.inl (by rw [d.same a e]; exact h))
    · exact .inl (.inr ⟨o, by rw [d.same a e]; exact h⟩)
    · exact .inr h
mutual
theorem Ltn.rep {K : PySem.W.Frag} {p : Addr} {H H' : Hp} (e : Ltn p H H') : ∀ {d : Dt} {v : V}, Rep K H d v → Rep K H' d v
  | .non, _, h => h
  | .bl _, _, h => h
  | .int _, _, h => h
  | .str _, _, h => h
  | .lst, _, ⟨a, xs, h1, h2⟩ => let ⟨ys, h3⟩ := e.seqL h2; ⟨a, ys, h1, h3⟩
  | .dct, _, ⟨a, h1, h2⟩ => ⟨a, h1, h2.elim (fun ⟨k, q⟩ => .inl ⟨k, by obtain ⟨_, z⟩ := e.was; rw [e.same a (ne_of q z (by intro z; cases z))]; exact q⟩) fun ⟨k, q⟩ => .inr ⟨k, by obtain ⟨_, z⟩ := e.was; rw [e.same a (ne_of q z (by intro z; cases z))]; exact q⟩⟩
  | .tup _, _, ⟨a, xs, h1, h2, h3⟩ => ⟨a, xs, h1, e.seqT h2, e.repL h3⟩
theorem Ltn.repL {K : PySem.W.Frag} {p : Addr} {H H' : Hp} (e : Ltn p H H') : ∀ {ds : List Dt} {xs : List V}, RepL K H ds xs → RepL K H' ds xs
  | [], [], _ => trivial
  | _ :: _, _ :: _, h => ⟨e.rep h.1, e.repL h.2⟩
  | [], _ :: _, h => h.elim
  | _ :: _, [], h => h.elim
end
theorem Ltn.pen {p : Addr} {H H' : Hp} (h : Pen H p) (h' : Pen H' p) (e : ∀ b, b ≠ p → H' b = H b) : Ltn p H H' := ⟨let ⟨_, _, _, q⟩ := h; ⟨_, q⟩, let ⟨_, _, _, q⟩ := h'; ⟨_, q⟩, e⟩
theorem Ltn.upd {l : Addr} {H : Hp} {xs ys : List V} (h : H l = some (.lst xs)) : Ltn l H (L2.upd H l (.lst ys)) := ⟨⟨_, h⟩, ⟨_, upd_same⟩, fun b nb => upd_ne nb⟩
/-! expressions that only make data with a property -/
def tR (R : Hp → V → Prop) (Pre : St → Hp → Prop) : TE := fun σ H Q => Pre σ H ∧ ∀ v H', Same H H' → R H' v → Q v H'
def tRs (R : Hp → V → Prop) (Pre : St → Hp → Prop) (n : Nat) : TA := fun σ H Q => Pre σ H ∧ ∀ vs H', Same H H' → vs.length = n → (∀ v ∈ vs, R H' v) → Q vs H'
def GrowsR (R : Hp → V → Prop) : Prop := ∀ v H H', R H v → Same H H' → R H' v
section
variable {X : Cx} {Pre : St → Hp → Prop} {R : Hp → V → Prop}
theorem rx_of {e : Expr} {t : TE} (h : PE X e t) (hp : ∀ σ H Q, Pre σ H → (∀ v H', Same H H' → R H' v → Q v H') → t σ H Q) : PE X e (tR R Pre) := fun pins s σ H Q I hw => h pins s σ H Q I (hp σ H Q hw.1 hw.2)
theorem ra_nil : PA X [] (tRs R Pre 0) := fun pos pins s σ H Q I h => pa_nil pos pins s σ H Q I (h.2 [] H (Same.refl _) rfl fun v hv => by cases hv)
theorem ra_cons {e : Expr} {es : List Expr} {n : Nat} (g : Grows Pre) (gr : GrowsR R) (ha : PE X e (tR R Pre)) (hr : PA X es (tRs R Pre n)) (hs : starEach (e :: es) X.env = (false, eval e X.env) :: starEach es X.env := by rfl) : PA X (e :: es) (tRs R Pre (n + 1)) := fun pos pins s σ H Q I h =>
  pa_cons ha hr hs pos pins s σ H Q I ⟨h.1, fun v H1 e1 k1 => ⟨g σ H H1 h.1 e1, fun vs H2 e2 l2 k2 => h.2 (v :: vs) H2 (e1.trans e2) (by simp [l2]) fun u hu => by
    rcases List.mem_cons.mp hu with rfl | hu
    · exact gr _ _ _ k1 e2
    · exact k2 u hu⟩⟩
end


section
variable {X : Cx} {Pre : St → Hp → Prop} {R : Hp → V → Prop}
theorem zx_of {e : Expr} {t : TE} (h : ZE X e t) (hp : ∀ σ H Q, Pre σ H → (∀ v H', Same H H' → R H' v → Q v H') → t σ H Q) : ZE X e (tR R Pre) := ⟨rx_of h.p hp⟩
theorem zra_nil : ZA X [] (tRs R Pre 0) := ⟨ra_nil⟩
theorem zra_cons {e : Expr} {es : List Expr} {n : Nat} (g : Grows Pre) (gr : GrowsR R) (ha : ZE X e (tR R Pre)) (hr : ZA X es (tRs R Pre n)) (hs : starEach (e :: es) X.env = (false, eval e X.env) :: starEach es X.env := by rfl) : ZA X (e :: es) (tRs R Pre (n + 1)) := ⟨ra_cons g gr ha.p hr.p hs⟩
theorem zs_forZ {tg iter : Expr} {body : List Stmt} {wi : TI} {g : TG} {tb : TS} {pos : Pos} (hp : PassesOwn (model X.prog X.w) X.A X.env X.xe) (hc : X.calm = true) (hi : ZI X tg iter wi) (hg : PG X tg g) (hb : ZSs X body tb)
    (hs : ∀ x, foldedSetIterable iter X.env x = pure x := by intro _; rfl) : ZS X (.For tg iter body [] pos) (tFor wi g tb) := ⟨ps_for hp hc hi.p hg hb.p hs⟩
end
end L2

/-! more rules: l.extend(t), t any tuple -/
namespace L2
open PySem PySem.Spec PyProof.Rows
section
variable {X : Cx}
def rExtendS (K : PySem.W.Frag) : V → List V → Hp → VK → Prop := fun x vs H Q => ∃ l b xs zs, x = .ref l ∧ vs = [.ref b] ∧ H l = some (.lst xs) ∧ SqT K H b zs ∧ xs.length + zs.length ≤ sizeLine ∧ Q .non (upd H l (.lst (xs ++ zs)))
theorem mt_extendS : MtM X "list.extend" (rExtendS X.K) := by
  intro pins s σ H x vs v us Q I rx rv h
  obtain ⟨l, b, xs, zs, rfl, rfl, hH, hB, hz, q⟩ := h
  cases rx
  obtain ⟨u, rfl, ru⟩ := rv.one
  cases ru
  obtain ⟨z, its, n, r, hl, e⟩ := I.lstM hH
  obtain ⟨its2, r2, ⟨⟨cl, dd, dt, ss⟩, e2, ec, n2, ed⟩, z2⟩ := I.tuple hB
  dsimp only at ec ed
  subst ec ed
  have hl2 := r2.length
  have hsz : its.toArray.size + its2.toArray.size ≤ sizeLine := by rw [List.size_toArray, List.size_toArray]; omega
  have hlong : ¬ (!its.toArray.isEmpty && Builtin.List.listTooLong (its.toArray.size + its2.toArray.size)) = true := by
    rw [notLongL hsz, Bool.and_false]
    exact Bool.false_ne_true
  refine call_meets F.slot_list_extend ⟨_, e, rfl⟩ F.entry_list_extend (F.args_list_extend_2 _ _)
    (extend_tupO l its.toArray n b its2.toArray n2 dd ss hlong (by rw [List.size_toArray]; omega) (by omega)) ⟨e, e2, ?_⟩
  refine ⟨.non, _, I.lset (its' := its ++ its2) hH e (by simp) (r.append r2) ?_, rfl, q⟩
  rw [List.length_append]
  omega
end
end L2

/-! more rules: d.update(e), both with int or text keys; dicts from places to sides -/
namespace L2
open PySem PySem.Spec PyProof.Rows
section
variable {X : Cx}
def rUpdate : V → List V → Hp → VK → Prop := fun x vs H Q => ∃ a b kvs more, x = .ref a ∧ vs = [.ref b] ∧ a ≠ b ∧ H a = some (.dK kvs) ∧ H b = some (.dK more) ∧ kvs.length + more.length ≤ sizeLine ∧ Q .non (upd H a (.dK (mergeK kvs more)))
end
/-! ### dicts from places to sides -/
def kS (S : List (Int × Int)) : List (Key × V) := S.map fun p => (.inl p.1, .int p.2)
theorem kS_app (A B : List (Int × Int)) : kS (A ++ B) = kS A ++ kS B := List.map_append ..
theorem kS_put {S : List (Int × Int)} {x s : Int} (h : x ∉ S.map (·.1)) : putK (kS S) (.inl x) (.int s) = kS (S ++ [(x, s)]) := by
  have e : ((kS S).any fun kv => decide (kv.1 = .inl x)) = false := by
    rw [List.any_eq_false]
    intro kv hk
    unfold kS at hk
    obtain ⟨p, hp, rfl⟩ := List.mem_map.mp hk
    have : ¬ ((Sum.inl p.1 : Key) = .inl x) := fun z => h (by have := Sum.inl.inj z; rw [← this]; exact List.mem_map_of_mem (f := (·.1)) hp)
    simpa using this
  unfold putK
  rw [e, kS_app]
  rfl
end L2

/-! more rules: sorted(d), d with places as keys -/
namespace St2
open PySem PySem.Spec PyProof.Rows
section
variable {prog : Program} {w : World} {A : Around} {E : Value → Shared → Prop} {s : Shared}
end
end St2
namespace L2
open PySem PySem.Spec PyProof.Rows
section
variable {X : Cx}
/-- sorted of a dict whose keys are places -/
def rSortD : List V → Hp → (V → Hp → Prop) → Prop := fun xs H Q => ∃ (p : Addr) (S : List (Int × Int)), xs = [V.ref p] ∧ H p = some (.dK (kS S)) ∧ S.length < 64 ∧
  ∀ l (ms : List Int), H l = none → List.Perm ms (S.map (·.1)) → ms.Pairwise (· ≤ ·) → Q (.ref l) (upd H l (.lst (ms.map V.int)))
end
end L2

/-! sets of ints held against one another; a tuple in a tuple of tuples -/
namespace St3
open PySem PySem.Spec PyProof.Rows PySem.SeqAt PySem.MeetsSeq PySem.MeetsSeq2 PySem.MeetsSeq3
def Ints (es : Array (Int × Value)) : Prop := ∀ e ∈ es.toList, ∃ k t, e.2 = .int k t ∧ e.1 = hashInt k
end St3
namespace L2
open PySem PySem.Spec PyProof.Rows
section
variable {X : Cx}
/-- set of a list of ints, with what is in it -/
def rSetLm (K : PySem.W.Frag) : List V → Hp → VK → Prop := fun xs H Q => ∃ (p : Addr) (ns : List Int), xs = [V.ref p] ∧ SqL K H p (ns.map V.int) ∧ ns.length ≤ 1000 ∧
  ∀ l S, H l = none → (∀ x, S x = true ↔ x ∈ ns) → Q (.ref l) (upd H l (.set S (St2.kinds ns ns.length).length))
def rEqS : R2 := fun x y H Q => ∃ (a b : Addr) (S S2 : Int → Bool) (n m : Nat), x = .ref a ∧ y = .ref b ∧ H a = some (.set S n) ∧ H b = some (.set S2 m) ∧ ∀ bb : Bool, (bb = true ↔ n = m ∧ ∀ k, S k = true → S2 k = true) → Q (.bl bb) H
/-! a flat tuple in a tuple of flat tuples -/
def Flats (K : PySem.W.Frag) (H : Hp) (rows : List (List V)) (cs : List Addr) : Prop := Paired (fun row c => SqT K H c row ∧ row.all flatV = true) rows cs
def rowOf (rows : List (List V)) (cs : List Addr) (xs : List V) (u : Value) : Bool := match u with
  | .ref c => match (cs.zip rows).lookup c with
    | some row => eqVs row xs
    | none => false
  | _ => false
def rInF (K : PySem.W.Frag) : R2 := fun x y H Q => ∃ (a b : Addr) (xs : List V) (rows : List (List V)) (cs : List Addr), x = .ref a ∧ y = .ref b ∧ SqT K H a xs ∧ xs.all flatV = true ∧ SqT K H b (cs.map V.ref) ∧ Flats K H rows cs ∧ cs.Nodup ∧ Q (.bl (rows.any fun row => eqVs row xs)) H
theorem any_same {α : Type} {f g : α → Bool} : ∀ {l : List α}, (∀ x ∈ l, f x = g x) → l.any f = l.any g
  | [], _ => rfl
  | a :: l, h => by rw [List.any_cons, List.any_cons, h a List.mem_cons_self, any_same fun x hx => h x (List.mem_cons_of_mem _ hx)]
end
end L2

/-! min of three ints -/
namespace L2
open PySem PySem.Spec PyProof.Rows
section
variable {X : Cx}
end
end L2

/-! a function held in a name of the def's own; tuples of flat items unlike -/
namespace L2
open PySem PySem.Spec PyProof.Rows
section
variable {X : Cx}
def rNeF (K : PySem.W.Frag) : R2 := fun x y H Q => rNe x y H Q ∨ ∃ (a b : Addr) (xs : List V), x = .ref a ∧ y = .ref b ∧ SqT K H a xs ∧ SqT K H b xs ∧ xs.all flatV = true ∧ Q (.bl false) H
def tCallV (i : Nat) (f : Addr) (tc : TE) : TE := fun σ H Q => σ[i]? = some (some (.ref f)) ∧ tc σ H Q
end
end L2

/-! dicts from places to sides: min(d), sum(d.values()), list(d), list(d.values()); sum(range(a, b)) -/
namespace St4
open PySem PySem.Spec PyProof.Rows PySem.W
section
variable {prog : Program} {w : World} {A : Around} {E : Value → Shared → Prop} {s : Shared} {T : String} {r d : Addr} {n : Nat} {P : Nat → Value → Prop} {OK : Heap → Prop}
end
end St4
namespace L2
open PySem PySem.Spec PyProof.Rows PySem.W
section
variable {X : Cx}
/-- what d.values() tells -/
def viewV (v d : Addr) : HO := .ext fun h => h.IsValuesView v d
def rValues : V → List V → Hp → VK → Prop := fun x vs H Q => ∃ (d : Addr) (kvs : List (Key × V)), x = .ref d ∧ vs = [] ∧ H d = some (.dK kvs) ∧ ∀ v, H v = none → Q (.ref v) (upd H v (viewV v d))
def rSumV : List V → Hp → VK → Prop := fun xs H Q => ∃ (v d : Addr) (S : List (Int × Int)), xs = [V.ref v] ∧ H v = some (viewV v d) ∧ H d = some (.dK (kS S)) ∧ Q (.int (S.map (·.2)).sum) H
def rMinD : List V → Hp → VK → Prop := fun xs H Q => ∃ (d : Addr) (S : List (Int × Int)), xs = [V.ref d] ∧ H d = some (.dK (kS S)) ∧ S ≠ [] ∧ ∀ M, M ∈ S.map (·.1) → (∀ a ∈ S.map (·.1), M ≤ a) → Q (.int M) H
def rListD : List V → Hp → VK → Prop := fun xs H Q => ∃ (d : Addr) (S : List (Int × Int)), xs = [V.ref d] ∧ H d = some (.dK (kS S)) ∧ ∀ l, H l = none → Q (.ref l) (upd H l (.lst ((S.map (·.1)).map V.int)))
def rListV : List V → Hp → VK → Prop := fun xs H Q => ∃ (v d : Addr) (S : List (Int × Int)), xs = [V.ref v] ∧ H v = some (viewV v d) ∧ H d = some (.dK (kS S)) ∧ ∀ l, H l = none → Q (.ref l) (upd H l (.lst ((S.map (·.2)).map V.int)))
end
end L2

/-! sum(range(a, b)) -/
namespace L2
open PySem PySem.Spec PyProof.Rows PySem.W
section
variable {X : Cx}
def rSumR : List V → Hp → VK → Prop := fun xs H Q => ∃ (p : Addr) (lo hi : Int), xs = [V.ref p] ∧ H p = some (.rng lo hi) ∧ -(2 ^ 62) ≤ lo ∧ lo < 2 ^ 62 ∧ -(2 ^ 62) ≤ hi ∧ hi < 2 ^ 62 ∧ Q (.int ((List.range (hi - lo).toNat).map fun k => lo + ((k : Nat) : Int)).sum) H
end
end L2

/-! comprehensions whose targets are cells (a comprehension within takes them along) -/
namespace L2
open PySem PySem.Spec PyProof.Rows
theorem cf_app : ∀ (names : List (Str × NameKind)) (n : Nat) (a b : List (Str × Addr)), cellsFrom n names (a ++ b) = cellsFrom n names a ++ b
  | [], _, _, _ => rfl
  | (name, kind) :: r, n, a, b => by
    unfold cellsFrom
    split
    · exact cf_app r (n + 1) ((name, n) :: a) b
    · exact cf_app r n a b
theorem cf_names : ∀ (names : List (Str × NameKind)) (n : Nat) (acc : List (Str × Addr)) {x : Str} {c : Addr}, (x, c) ∈ cellsFrom n names acc → (x, c) ∈ acc ∨ (x, NameKind.cell) ∈ names
  | [], _, _, _, _, h => .inl h
  | (name, kind) :: r, n, acc, x, c, h => by
    unfold cellsFrom at h
    split at h
    · rename_i hk
      have hk : kind = .cell := by simpa using hk
      subst hk
      rcases cf_names r (n + 1) _ h with h | h
      · rcases List.mem_cons.mp h with e | h
        · cases e; exact .inr List.mem_cons_self
        · exact .inl h
      · exact .inr (List.mem_cons_of_mem _ h)
    · rcases cf_names r n acc h with h | h
      · exact .inl h
      · exact .inr (List.mem_cons_of_mem _ h)
theorem cf_has : ∀ (names : List (Str × NameKind)) (n : Nat) (acc : List (Str × Addr)) (x : Str), ((x, NameKind.cell) ∈ names ∨ ∃ c, acc.lookup x = some c) → ∃ c, (cellsFrom n names acc).lookup x = some c
  | [], _, _, _, h => by
    rcases h with h | h
    · cases h
    · exact h
  | (name, kind) :: r, n, acc, x, h => by
    unfold cellsFrom
    split
    · refine cf_has r (n + 1) _ x ?_
      rcases h with h | ⟨c, h⟩
      · rcases List.mem_cons.mp h with e | e
        · have e1 : x = name := congrArg Prod.fst e
          subst e1
          exact .inr ⟨n, by rw [List.lookup_cons, beq_self_eq_true]⟩
        · exact .inl e
      · refine .inr ?_
        rw [List.lookup_cons]
        split
        · exact ⟨_, rfl⟩
        · exact ⟨c, h⟩
    · rename_i hk
      refine cf_has r n acc x ?_
      rcases h with h | h
      · rcases List.mem_cons.mp h with e | e
        · have e2 : NameKind.cell = kind := congrArg Prod.snd e
          subst e2
          exact absurd rfl hk
        · exact .inl e
      · exact .inr h
theorem clF_names {env : Env} : ∀ (names : List (Str × NameKind)) (acc : List (Str × Addr)) {x : Str} {c : Addr}, (clF env names acc).lookup x = some c → (x, NameKind.free) ∈ names ∨ acc.lookup x = some c
  | [], _, _, _, h => .inr h
  | (n, k) :: r, acc, x, c, h => by
    unfold clF at h
    rcases clF_names r _ h with h1 | h1
    · exact .inl (List.mem_cons_of_mem _ h1)
    · cases hk : (k == NameKind.free) with
      | false => rw [hk, if_neg Bool.false_ne_true] at h1; exact .inr h1
      | true =>
        rw [hk, if_pos rfl, List.lookup_cons] at h1
        have hk : k = .free := by simpa using hk
        cases q : x == n with
        | true =>
          have : x = n := by simpa using q
          subst this
          rw [hk]
          exact .inl List.mem_cons_self
        | false => rw [q] at h1; exact .inr h1
theorem lookup_app {α : Type} : ∀ {a b : List (Str × α)} {x : Str} {c : α}, (a ++ b).lookup x = some c → a.lookup x = some c ∨ (a.lookup x = none ∧ b.lookup x = some c)
  | [], _, _, _, h => .inr ⟨rfl, h⟩
  | (n, k) :: a, b, x, c, h => by
    rw [List.cons_append, List.lookup_cons] at h
    rw [List.lookup_cons]
    cases q : x == n with
    | true => rw [q] at h; exact .inl h
    | false => rw [q] at h; exact lookup_app h
theorem lookup_app1 {α : Type} : ∀ {a b : List (Str × α)} {x : Str} {c : α}, a.lookup x = some c → (a ++ b).lookup x = some c
  | [], _, _, _, h => by simp at h
  | (n, k) :: a, b, x, c, h => by
    rw [List.cons_append, List.lookup_cons]
    rw [List.lookup_cons] at h
    cases q : x == n with
    | true => rw [q] at h; exact h
    | false => rw [q] at h; exact lookup_app1 h
theorem lookup_app2 {α : Type} : ∀ {a b : List (Str × α)} {x : Str}, a.lookup x = none → (a ++ b).lookup x = b.lookup x
  | [], _, _, _ => rfl
  | (n, k) :: a, b, x, h => by
    rw [List.cons_append, List.lookup_cons]
    rw [List.lookup_cons] at h
    cases q : x == n with
    | true => rw [q] at h; cases h
    | false => rw [q] at h; exact lookup_app2 h
/-- the block of such a comprehension as a context -/
def blkC (X : Cx) (sc : Scope) (cl : List (Str × Addr)) (C : Addr) (fp : List Addr) (s : Shared) (H : Hp) (N : List Str) : Cx :=
  { X with env := compEnvC sc cl C X.env, N := N, s₀ := s, H₀ := H, outer := X.stack, ex := fp, fn := fun x => sc.names.lookup x == some NameKind.cell, pn := [], xe := fun _ _ => False }
structure BlkOkC (X : Cx) (sc : Scope) (M tgs : List Str) : Prop where
  kind : sc.kind = .function
  names : ∀ y ∈ sc.names, y.2 = .local → sc.names.lookup y.1 = some .local
  celln : ∀ y ∈ sc.names, y.2 = .cell → sc.names.lookup y.1 = some .cell
  freen : ∀ y ∈ sc.names, y.2 = .free → sc.names.lookup y.1 = some .free
  free : ∀ y ∈ sc.names, y.2 = .free → X.env.kindOf y.1 = some .cell ∨ X.env.kindOf y.1 = some .free
  len : M.length = X.N.length
  same : ∀ p ∈ M.zip X.N, p.1 = p.2 ∨ p.1 = ("" : Str)
  dummy : sc.names.lookup ("" : Str) = none
  hid : ∀ x ∈ M, sc.names.lookup x ≠ some .local
  hidc : ∀ x ∈ M, sc.names.lookup x ≠ some .cell
structure BlkDC (osc : Scope) (N : List Str) (sc : Scope) (M tgs : List Str) : Prop where
  kind : sc.kind = .function
  names : ∀ y ∈ sc.names, y.2 = .local → sc.names.lookup y.1 = some .local
  celln : ∀ y ∈ sc.names, y.2 = .cell → sc.names.lookup y.1 = some .cell
  freen : ∀ y ∈ sc.names, y.2 = .free → sc.names.lookup y.1 = some .free
  free : ∀ y ∈ sc.names, y.2 = .free → osc.names.lookup y.1 = some .cell ∨ osc.names.lookup y.1 = some .free
  len : M.length = N.length
  same : ∀ p ∈ M.zip N, p.1 = p.2 ∨ p.1 = ("" : Str)
  dummy : sc.names.lookup ("" : Str) = none
  hid : ∀ x ∈ M, sc.names.lookup x ≠ some .local
  hidc : ∀ x ∈ M, sc.names.lookup x ≠ some .cell
  nd : (M ++ tgs).Nodup
theorem BlkDC.ok {X : Cx} {osc : Scope} {N : List Str} {sc : Scope} {M tgs : List Str} (b : BlkDC osc N sc M tgs) (h1 : X.env.scope = osc := by rfl) (h2 : X.N = N := by rfl) : BlkOkC X sc M tgs := by
  subst h1 h2
  exact ⟨b.kind, b.names, b.celln, b.freen, b.free, b.len, b.same, b.dummy, b.hid, b.hidc⟩
section
variable {X : Cx}
/-- all cells of the block: its own ahead -/
def csF (X : Cx) (sc : Scope) (C : Addr) : List (Str × Addr) := cellsFrom (C + 1) sc.names [] ++ clF X.env sc.names []
theorem cs_eq {sc : Scope} {C : Addr} : cellsFrom (C + 1) sc.names (clF X.env sc.names []) = csF X sc C := cf_app sc.names (C + 1) [] _
/-- a cell of the block: its own, or one of the frame's -/
theorem cs_look {sc : Scope} {M tgs : List Str} {C : Addr} {h : Heap} (B : BlkOkC X sc M tgs) (ok : CellsOk h (C + 1) (cellsFrom (C + 1) sc.names [])) {x : Str} {c : Addr} (hfr : ∀ y ∈ sc.names, y.2 = .free → ∃ c, X.env.cells.lookup y.1 = some c) (e : (csF X sc C).lookup x = some c) :
    (sc.names.lookup x = some .cell ∧ (x, c) ∈ cellsFrom (C + 1) sc.names [] ∧ h.IsCell c none ∧ @LT.lt Nat instLTNat C c) ∨ (sc.names.lookup x = some .free ∧ X.env.cells.lookup x = some c) := by
  rcases lookup_app e with e | ⟨_, e⟩
  · have m := mem_of_lookup e
    refine .inl ⟨?_, m, (ok.empty x c m).1, (ok.empty x c m).2⟩
    rcases cf_names sc.names (C + 1) [] m with z | z
    · cases z
    · exact B.celln _ z rfl
  · refine .inr ⟨?_, clF_sub sc.names [] hfr (fun _ _ z => by simp at z) x c e⟩
    rcases clF_names sc.names [] e with z | z
    · exact B.freen _ z rfl
    · simp at z
theorem Inv.blkC {pins : List (Addr × Obj)} {σ : St} {H : Hp} {s s4 : Shared} {sc : Scope} {M tgs : List Str} {C : Addr} {fp : List Addr} {m : Str → Option Value} (I : Inv X pins σ H s) (B : BlkOkC X sc M tgs) (hf : ∀ b ∈ fp, FpOk X pins H b) (hfl : ∀ b ∈ fp, b < s.heap.objs.size)
    (hC : s.heap.objs.size ≤ C) (hn : s4.heap.Ns C m) (hcl : CellsOk s4.heap (C + 1) (cellsFrom (C + 1) sc.names [])) (hk : ∀ b o, s.heap.get? b = some o → s4.heap.get? b = some o) (ho : s4.os = s.os) (hg : s4.gens = s.gens) :
    Inv (L2.blkC X sc (csF X sc C) C fp s H (M ++ tgs)) [] (σ ++ List.replicate tgs.length none) H s4 := by
  have hfr : ∀ y ∈ sc.names, y.2 = .free → ∃ c, X.env.cells.lookup y.1 = some c := fun y hy e => I.ok.has _ (B.free y hy e)
  have lk : ∀ {x : Str} {c : Addr}, (csF X sc C).lookup x = some c → (sc.names.lookup x = some .cell ∧ (x, c) ∈ cellsFrom (C + 1) sc.names [] ∧ s4.heap.IsCell c none ∧ @LT.lt Nat instLTNat C c) ∨ (sc.names.lookup x = some .free ∧ X.env.cells.lookup x = some c) := fun {x c} e => cs_look B hcl hfr e
  have hlow : ∀ x c, X.env.cells.lookup x = some c → c < s.heap.objs.size := fun x c e => by
    obtain ⟨v, q⟩ := I.cell x c e
    exact q.lt
  have hkind : ∀ x, ((relabel sc X.env).names.lookup x = some .cell ∨ (relabel sc X.env).names.lookup x = some .free) → sc.names.lookup x = some .free ∨ sc.names.lookup x = some .cell := fun x hx => by
    rcases hx with q | q
    · rcases rel_kind q with z | z
      · exact .inr z
      · exact .inl z.2
    · rcases rel_kind q with z | z
      · exact .inl z
      · exact absurd z.1 (by decide)
  refine ⟨⟨I.ok.mod, B.kind, I.ok.glob, I.ok.blt, hC, fun x y c h1 h2 => ?_, fun x hx => ?_, fun x c z h1 => ?_, I.ok.hd, I.ok.frames, .inl rfl, fun b hb => ⟨?_, fun x c e => ?_⟩, I.bs, ?_, fun b o e z => ?_, fun b hb => ?_, I.stack, I.stkFree⟩,
    ho, ?_, Un.kept hk, ⟨m, hn, fun i x v h1 h2 h3 => ?_⟩, fun x c e => ?_, I.hok.fresh hC, fun x c e => ?_, fun p hp => absurd (show p ∈ ([] : List (Addr × Obj)) from hp) (by simp), I.hok.kept hk, ?_⟩
  · rcases lk h1 with ⟨_, m1, _, l1⟩ | ⟨_, e1⟩
    · rcases lk h2 with ⟨_, m2, _, l2⟩ | ⟨_, e2⟩
      · exact name_of_addr hcl.apart m1 m2
      · have := hlow _ _ e2; exact absurd (show @LT.lt Nat instLTNat c s.heap.objs.size from this) (by omega)
    · rcases lk h2 with ⟨_, m2, _, l2⟩ | ⟨_, e2⟩
      · have := hlow _ _ e1; exact absurd (show @LT.lt Nat instLTNat c s.heap.objs.size from this) (by omega)
      · exact I.ok.inj x y c e1 e2
  · rcases hkind x hx with z | z
    · obtain ⟨c, e⟩ := clF_has (env := X.env) sc.names [] x (.inl (PySem.mem_of_lookup z))
      cases q : (cellsFrom (C + 1) sc.names []).lookup x with
      | some c' => exact ⟨c', lookup_app1 q⟩
      | none => exact ⟨c, by show List.lookup x (cellsFrom (C + 1) sc.names [] ++ clF X.env sc.names []) = _; rw [lookup_app2 q]; exact e⟩
    · obtain ⟨c, e⟩ := cf_has sc.names (C + 1) [] x (.inl (PySem.mem_of_lookup z))
      exact ⟨c, lookup_app1 e⟩
  · have z : sc.names.lookup x = some .cell := by
      have z : (sc.names.lookup x == some NameKind.cell) = true := z
      simpa using z
    show s.heap.objs.size ≤ c
    rcases lk h1 with ⟨_, _, _, l1⟩ | ⟨e0, _⟩
    · omega
    · rw [z] at e0; cases e0
  · exact Nat.ne_of_lt (Nat.lt_of_lt_of_le (hfl b hb) hC)
  · rcases lk e with ⟨_, _, _, l1⟩ | ⟨_, e1⟩
    · have h1 : @LT.lt Nat instLTNat b s.heap.objs.size := hfl b hb
      exact fun z => by subst z; omega
    · exact (hf b hb).2.2.2.2.1 x c e1
  · exact Nat.le_trans I.ok.bsz I.sz
  · rcases (hf b z).2.2.2.1 with q | q
    · exact I.ok.noex b o e q
    · exact absurd (Nat.lt_of_lt_of_le (Heap.lt_size e) I.ok.bsz) (Nat.not_lt.mpr q)
  · intro z
    rcases List.mem_cons.mp (I.stkSub b z) with q | q
    · exact (hf b hb).2.1 q
    · exact (hf b hb).2.2.1 q
  · rw [hg]; exact I.bare
  · have hl : M.length = σ.length := B.len.trans I.len.symm
    have hi : i < σ.length := by
      by_cases hi : i < σ.length
      · exact hi
      · rw [List.getElem?_append_right (by omega), List.getElem?_replicate] at h2
        split at h2 <;> cases h2
    rw [List.getElem?_append_left hi] at h2
    have h1 : (M ++ tgs)[i]? = some x := h1
    rw [List.getElem?_append_left (by omega)] at h1
    have hmem : x ∈ M := List.mem_of_getElem? h1
    have hx : sc.names.lookup x = some .free := by
      have two : (relabel sc X.env).names.lookup x = some .cell ∨ (relabel sc X.env).names.lookup x = some .free → sc.names.lookup x = some .free := fun q => (hkind x q).elim id fun z => absurd z (B.hidc x hmem)
      rcases h3 with q | q | q
      · rcases rel_kind q with z | z
        · exact absurd z (B.hid x hmem)
        · exact absurd z.1 (by decide)
      · exact two (.inl q)
      · exact two (.inr q)
    have hNi : X.N[i]? = some x := by
      have hi2 : i < X.N.length := by rw [← I.len]; exact hi
      have hz : (M.zip X.N)[i]? = some (x, X.N[i]) := by
        rw [List.getElem?_zip_eq_some]
        exact ⟨h1, List.getElem?_eq_getElem hi2⟩
      rcases B.same _ (List.mem_of_getElem? hz) with q | q
      · have q' : x = X.N[i] := q
        rw [List.getElem?_eq_getElem hi2, q']
      · have q' : x = ("" : Str) := q
        rw [q', B.dummy] at hx
        cases hx
    have hk2 := B.free (x, .free) (PySem.mem_of_lookup hx) rfl
    obtain ⟨m0, _, hl0⟩ := I.loc
    obtain ⟨u, r, l⟩ := hl0 i x v hNi h2 (.inr hk2)
    refine ⟨u, r, .inr ?_⟩
    rcases l with ⟨k, _⟩ | ⟨_, c, ec, hcell⟩
    · have k' : X.env.kindOf x = some .local := k
      rcases hk2 with q | q
      · have q' : X.env.kindOf x = some .cell := q
        rw [k'] at q'; cases q'
      · have q' : X.env.kindOf x = some .free := q
        rw [k'] at q'; cases q'
    · obtain ⟨c', ec'⟩ := clF_has (env := X.env) sc.names [] x (.inl (PySem.mem_of_lookup hx))
      have ec2 : (csF X sc C).lookup x = some c' := by
        cases q : (cellsFrom (C + 1) sc.names []).lookup x with
        | none => show List.lookup x (cellsFrom (C + 1) sc.names [] ++ clF X.env sc.names []) = _; rw [lookup_app2 q]; exact ec'
        | some c'' =>
          rcases cf_names sc.names (C + 1) [] (mem_of_lookup q) with z | z
          · cases z
          · have z := B.celln _ z rfl
            have z : sc.names.lookup x = some .cell := z
            rw [hx] at z; cases z
      have : c' = c := by
        have := clF_sub sc.names [] hfr (fun _ _ z => by simp at z) x c' ec'
        rw [ec] at this
        exact (Option.some.inj this).symm
      subst this
      refine ⟨?_, c', ec2, ?_⟩
      · rcases h3 with q | q | q
        · rcases rel_kind q with z | z
          · rw [hx] at z; cases z
          · exact absurd z.1 (by decide)
        · exact .inl q
        · exact .inr q
      · obtain ⟨o, e1, e2⟩ := hcell
        exact ⟨o, hk _ _ e1, e2⟩
  · rcases lk e with ⟨_, _, c1, _⟩ | ⟨_, e1⟩
    · exact ⟨_, c1⟩
    · obtain ⟨v, o, e1, e2⟩ := I.cell x c e1
      exact ⟨v, o, hk _ _ e1, e2⟩
  · rcases lk e with ⟨_, _, _, l1⟩ | ⟨_, e1⟩
    · exact I.hok.fresh (by omega)
    · exact I.freeC x c e1
  · show (σ ++ _).length = (M ++ tgs).length
    rw [List.length_append, List.length_append, List.length_replicate, B.len, I.len]
/-- the block's frame with its cells -/
theorem newEnvC {M : Model} {A : Around} {E : Value → Shared → Prop} {s : Shared} {sc : Scope} {globals : Addr} {cl : List (Str × Addr)} {qual : Str} {env : Env} {Q : Env → Shared → Prop}
    (h : Q { scope := sc, locals := s.heap.objs.size, globals, cells := cellsFrom (s.heap.objs.size + 1) sc.names cl, qual, func := none, code := env.code, frame := env.frame, builtins := env.builtins } { s with heap := pushCells (s.heap.push { cls := .type "dict", data := .dict #[] }) sc.names }) :
    wpAny M A (newFunctionEnv sc globals cl [] qual none .none (some env)) Q E s := by
  simp only [newFunctionEnv, Option.isSome_some, if_true]
  refine wpAny_bind (wpAny_alloc ?_)
  refine wpAny_bind (wpAny_layCells _ (fun name kind cells => by cases hkc : kind == NameKind.cell <;> simp [hkc]) _ _ _ _ ?_)
  rw [show ({ s with heap := s.heap.push { cls := .type "dict", data := .dict #[] } } : Shared).heap.objs.size = s.heap.objs.size + 1 from Heap.size_push ..]
  exact wpAny_bind (wpAny_pure (wpAny_pure h))
theorem pe_compC {elt tg iter : Expr} {ifs : List Expr} {sc : Scope} {M tgs : List Str} {pos : Pos} {wi : TI} {g : TG} {tt : TT} {te : TE} (hc : X.calm = true) (B : BlkOkC X sc M tgs) (hi : PI X tg iter wi)
    (hg : ∀ cl C fp s H, PG (blkC X sc cl C fp s H (M ++ tgs)) tg g) (ht : ∀ cl C fp s H, PIfs (blkC X sc cl C fp s H (M ++ tgs)) ifs tt) (he : ∀ cl C fp s H, PE (blkC X sc cl C fp s H (M ++ tgs)) elt te)
    (hs : ∀ x, foldedSetIterable iter X.env x = pure x := by intro _; rfl) : PE X (.ListComp elt [⟨tg, iter, ifs, 0⟩] sc pos) (tComp wi tgs.length g tt te) := by
  intro pins s σ H Q I h
  have hfr : ∀ y ∈ sc.names, y.2 = .free → ∃ c, X.env.cells.lookup y.1 = some c := fun y hy e => I.ok.has _ (B.free y hy e)
  have hsub : ∀ x c, (clF X.env sc.names []).lookup x = some c → X.env.cells.lookup x = some c := clF_sub sc.names [] hfr fun _ _ z => by simp at z
  rw [eval_ListComp]
  refine wpAny_comprehension_free (use := none) rfl hs (closure_eq hfr) B.kind B.names (thn (hi pins s σ H _ I h) fun xv s₁ h₁ => thn h₁ fun itv s₂ h₂ => ?_)
  obtain ⟨it, fp, tn, J, H2, rfl, I2, T, st2, f2, W, ⟨m0, w0⟩, turn⟩ := h₂
  have hfl : ∀ b ∈ fp, b < s₂.heap.objs.size := fun b hb => by
    obtain ⟨o, e, _⟩ := T.obj _ _ st2 b hb
    exact Heap.lt_size e
  refine wpAny_newObj_type (newEnvC ?_)
  dsimp only
  rw [cs_eq]
  generalize hH2 : s₂.heap.push { cls := .type "list", dict := none, data := .seq ([] : List Value).toArray } = HH
  have hC : HH.objs.size = s₂.heap.objs.size + 1 := by rw [← hH2, Heap.size_push]
  have hns₁ : (pushCells (HH.push { cls := .type "dict", data := .dict #[] }) sc.names).Ns HH.objs.size fun _ => none := (Heap.Ns.new HH (.type "dict")).keeps (pushCells_keeps _ _)
  have hcl₁ : CellsOk (pushCells (HH.push { cls := .type "dict", data := .dict #[] }) sc.names) (HH.objs.size + 1) (cellsFrom (HH.objs.size + 1) sc.names []) := by
    have := cellsFrom_ok sc.names (HH.push { cls := .type "dict", data := .dict #[] }) (HH.objs.size + 1) [] ⟨fun _ _ hm => (nomatch hm), List.Pairwise.nil⟩ (by rw [Heap.size_push]; exact Nat.le_refl _)
    rw [Heap.size_push] at this
    exact this
  have old₀ : ∀ b o, HH.get? b = some o → (pushCells (HH.push { cls := .type "dict", data := .dict #[] }) sc.names).get? b = some o := fun b o e => pushCells_keeps _ _ b o (Heap.get?_push_of_some _ e)
  generalize pushCells (HH.push { cls := .type "dict", data := .dict #[] }) sc.names = h₁ at hns₁ hcl₁ old₀ ⊢
  generalize hCC : HH.objs.size = C at hC hns₁ hcl₁ ⊢
  generalize hDD : s₂.heap.objs.size = D at hC ⊢
  have hDC : D ≠ C := by omega
  have below : ∀ b, b < D → b ≠ C ∧ b ≠ D := fun b hb => ⟨by omega, by omega⟩
  have old : ∀ b o, s₂.heap.get? b = some o → h₁.get? b = some o := fun b o e => old₀ b o (hH2 ▸ Heap.get?_push_of_some _ e)
  have hacc : h₁.PlainList D #[] := ⟨_, old₀ _ _ (by rw [← hH2, ← hDD]; exact Heap.get?_push_size _ rfl)⟩
  have hCs : s₂.heap.objs.size ≤ C := by omega
  generalize hS4 : ({ s₂ with heap := h₁ } : Shared) = s₄
  have I4 : Inv (blkC X sc (csF X sc C) C fp s₂ H2 (M ++ tgs)) [] (σ ++ List.replicate tgs.length none) H2 s₄ :=
    I2.blkC B f2 hfl hCs (by rw [← hS4]; exact hns₁) (by rw [← hS4]; exact hcl₁) (by rw [← hS4]; exact old) (by rw [← hS4]) (by rw [← hS4])
  have hD4 : s₄.heap.PlainList D #[] := by rw [← hS4]; exact hacc
  have st4 : tn 0 s₄.heap := by rw [← hS4]; exact T.keep _ _ _ st2 fun b _ o e => old b o e
  -- what holds through the loop
  let X' := blkC X sc (csF X sc C) C fp s₂ H2 (M ++ tgs)
  have nfs : ∀ b, s₂.heap.objs.size ≤ b → b ∉ frs X.stack := fun b hb z => by
    rcases List.mem_cons.mp (I2.stkSub b z) with q | q
    · rw [q] at hb; exact absurd I2.lt (Nat.not_lt.mpr hb)
    · exact I2.nofs hb q
  have Dpin : ∀ {s' : Shared} {H' : Hp} {its : Array Value} {n : Nat}, s'.heap.get? D = some { cls := .type "list", data := .seq its n } → H' D = none →
      ∀ p ∈ [(D, ({ cls := .type "list", data := .seq its n } : Obj))], s'.heap.get? p.1 = some p.2 ∧ H' p.1 = none ∧ p.1 ≠ X'.env.locals ∧ p.1 ∉ X'.fs ∧ ∀ v, p.2.data ≠ .cell v := fun {s' H' its n} e hn p hp => by
    have e1 : p = (D, ({ cls := .type "list", data := .seq its n } : Obj)) := by simpa using hp
    subst e1
    exact ⟨e, hn, hDC, nfs D (by omega), fun v z => by cases z⟩
  have fpk : ∀ {pl : List (Addr × Obj)} {H' : Hp}, (∀ p ∈ pl, p.1 = D) → (∀ b ∈ fp, H' b = none) → ∀ b ∈ fp, FpOk X' pl H' b := fun {pl H'} hpl hn b hb => by
    refine ⟨hn b hb, (below b (hDD ▸ hfl b hb)).1, fun z => ?_, .inl hb, fun x c e => (cs_look B hcl₁ hfr e).elim (fun z y => by have h1 : @LT.lt Nat instLTNat b s₂.heap.objs.size := hfl b hb; have h2 := z.2.2.2; subst y; omega) fun z => (f2 b hb).2.2.2.2.1 x c z.2, fun p hp => ?_⟩
    · rcases List.mem_cons.mp (I2.stkSub b z) with q | q
      · exact (f2 b hb).2.1 q
      · exact (f2 b hb).2.2.1 q
    · have hp' : p ∈ pl := by simpa [X', blkC] using hp
      rw [hpl p hp']
      exact Ne.symm (below b (hDD ▸ hfl b hb)).2
  have cellD : ∀ x c, X'.env.cells.lookup x = some c → c ≠ D := fun x c e z => by
    rcases cs_look B hcl₁ hfr e with ⟨_, _, _, l1⟩ | ⟨_, e1⟩
    · subst z; omega
    · obtain ⟨v, q⟩ := I2.cell x c e1
      have q := q.lt
      rw [z, hDD] at q
      exact Nat.lt_irrefl _ q
  have loop : codeAny (model X.prog X.w) X.A (.compLoop (.ListComp elt [⟨tg, iter, ifs, 0⟩] sc pos) 0 (.ref it) (.ref D) (compEnvC sc (csF X sc C) C X.env))
      (compPost (model X.prog X.w) X.A X.xe none (EP X pins σ Q) (.ref D) C) s₄ := by
    refine compLoop_gen (fun n s' => ∃ i ys its k H', Inv X' [(D, { cls := .type "list", data := .seq its k })] (σ ++ List.replicate tgs.length none) H' s' ∧ Vals ys its.toList ∧ tn i s'.heap ∧ (∀ b ∈ fp, H' b = none) ∧ W i n ys H') ?_ m0 ?_
    · rintro n s5 ⟨i, ys, its, k, H5, I5, hv, st5, fr5, w5⟩
      obtain ⟨hz, w5⟩ := turn i n ys H5 w5
      have hD5 := I5.pin (D, { cls := .type "list", data := .seq its k }) (List.mem_append_right _ (by simp))
      have one : ∀ p ∈ [(D, ({ cls := .type "list", data := .seq its k } : Obj))], p.1 = D := fun p hp => by
        have : p = (D, ({ cls := .type "list", data := .seq its k } : Obj)) := by simpa using hp
        rw [this]
      rcases w5 with ⟨stop, qn⟩ | ⟨go, step⟩
      · refine thn (T.done X' rfl rfl rfl hc i _ s5 _ H5 _ I5 (fpk one fr5) st5 stop) fun r s6 ⟨hr, I6⟩ => ?_
        subst hr
        obtain ⟨m6, hn6, _⟩ := I6.loc
        refine ⟨m6, hn6, fun h7 hs7 => ?_⟩
        have hs7 : Heap.SameBut C s6.heap h7 := hs7
        obtain ⟨e6, n6, _⟩ := I6.pin (D, { cls := .type "list", data := .seq its k }) (List.mem_append_right _ (by simp))
        have hC6 : H5 C = none := I6.free
        have ok7 : HOk X.prog X.w H5 h7 := fun b o e => (I6.hok b o e).stay (fun c w' hc' q => (hs7.2 c (by
          rintro rfl
          rcases hc' with rfl | hc'
          · rw [hC6] at e; cases e
          · rw [hC6] at hc'; cases hc')).trans q) (fun _ q => q) fun _ _ q => q
        have e7 : h7.get? D = some { cls := .type "list", data := .seq its k } := (hs7.2 D hDC).trans e6
        have hln : ys.length ≤ sizeLine := hz
        have ok8 : HOk X.prog X.w (upd H5 D (.lst ys)) h7 := ok7.track n6 ⟨hln, its.toList, k, hv, by simpa using e7⟩
        have un : Un (frs X.stack) fp H2 H5 s₂.heap s6.heap := I6.base
        have neC : ∀ b o, s₂.heap.get? b = some o → b ≠ C ∧ b ≠ D := fun b o e => below b (hDD ▸ Heap.lt_size e)
        have un7 : Un (frs X.stack) fp H2 (upd H5 D (.lst ys)) s₂.heap h7 := by
          refine ⟨fun b o e n hb hx => (hs7.2 b (neC b o e).1).trans (un.keep b o e n hb hx), fun b o e n hb hx => ?_, fun b o e n hx => ?_, fun b o e hx => ?_, fun b xs e => ?_, fun b o u e => ?_, fun b ps e => ?_⟩
          · obtain ⟨sl, q⟩ := un.slot b o e n hb hx
            exact ⟨sl, (hs7.2 b (neC b o e).1).trans q⟩
          · rw [upd_ne (neC b o e).2]; exact un.free b o e n hx
          · obtain ⟨o', q⟩ := un.there b o e hx
            exact ⟨o', (hs7.2 b (neC b o e).1).trans q⟩
          · have q := un.tups b xs e
            rw [upd_ne (ne_of_none q n6)]; exact q
          · have q := un.frzs b o u e
            rw [upd_ne (ne_of_none q n6)]; exact q
          · obtain ⟨more, q⟩ := un.tbls b ps e
            exact ⟨more, by rw [upd_ne (ne_of_none q n6)]; exact q⟩
        refine ⟨.ref D, upd H5 D (.lst ys), I2.call' (ch := fp) ?_ un7 ok8 I6.bare (fun b hb => ⟨(f2 b hb).2.2.2.1, (f2 b hb).2.1, (f2 b hb).2.2.2.2.1, (f2 b hb).2.2.2.2.2⟩), rfl, qn D n6⟩
        exact I6.os
      · refine thn (T.item X' rfl rfl rfl hc i _ s5 _ H5 _ I5 (fpk one fr5) st5 go) fun r s6 ⟨u, hr, h6⟩ => ?_
        subst hr
        refine thn h6 fun _ s7 ⟨x, H7, I7, r7, y7, st7, fr7⟩ => ?_
        have I7' := I7.pinned (fpk one fr7) (T.obj _ _ st7)
        refine thn (hg _ _ _ _ _ _ s7 _ H7 x u _ I7' r7 (step x H7 y7)) fun _ s8 ⟨σ8, H8, I8, tk8, q8⟩ => ?_
        refine thn (ht _ _ _ _ _ _ s8 σ8 H8 _ I8 q8) fun b s9 ⟨H9, I9, q9⟩ => ?_
        -- the turn's end, from a state in which nothing but the list has changed
        have weak : ∀ {pl : List (Addr × Obj)} {H' : Hp} {s' : Shared}, Inv X' pl σ8 H' s' → Inv X' pl (σ ++ List.replicate tgs.length none) H' s' := fun {pl H' s'} J => J.weak (by
          have e1 : σ8.length = (M ++ tgs).length := J.len
          rw [e1, List.length_append, List.length_append, List.length_replicate, B.len, I2.len]) (st_back tk8)
        have fin : ∀ {H' : Hp} {s' : Shared}, Inv X' ([(D, { cls := .type "list", data := .seq its k })] ++ pinsAt fp s7.heap) σ8 H' s' → tn (i + 1) s'.heap ∧ ∀ b ∈ fp, H' b = none := fun {H' s'} J => by
          refine ⟨T.keep _ _ _ st7 fun b hb o e => (J.pin (b, o) (List.mem_append_right _ (List.mem_append_right _ (mem_pinsAt hb e)))).1, fun b hb => ?_⟩
          obtain ⟨o, e, d⟩ := T.obj _ _ st7 b hb
          exact (J.pin (b, o) (List.mem_append_right _ (List.mem_append_right _ (mem_pinsAt hb e)))).2.1
        cases b with
        | false =>
          rw [if_neg Bool.false_ne_true] at q9 ⊢
          obtain ⟨m', hm, w9⟩ := q9
          exact ⟨m', hm, i + 1, ys, its, k, H9, weak I9.unpinned, hv, (fin I9).1, (fin I9).2, w9⟩
        | true =>
          rw [if_pos rfl] at q9 ⊢
          refine thn (he _ _ _ _ _ _ s9 σ8 H9 _ I9 q9) fun y s10 ⟨yv, H10, I10, r10, q10⟩ => ?_
          obtain ⟨m', hm, w10⟩ := q10
          obtain ⟨e10, n10, _⟩ := I10.pin (D, { cls := .type "list", data := .seq its k }) (List.mem_append_right _ (List.mem_append_left _ (by simp)))
          have hsz : its.size ≤ sizeLine := by
            have e1 := hv.length
            have e2 : its.toList.length = its.size := by simp
            omega
          refine wpAny_list_append_plain (hsz := hsz) ⟨k, e10⟩ fun h11 hl11 hs11 => ?_
          obtain ⟨k', e11⟩ := hl11
          have J0 : Inv X' [] σ8 H10 s10 := I10.pins_of fun p hp => by simp at hp
          have J1 : Inv X' [] σ8 H10 { s10 with heap := h11 } := J0.turned (t' := s10.toks) (it := D) (fun b o hb e => (hs11.2 b hb).trans e) n10 hDC (.inr (by show s₂.heap.objs.size ≤ D; omega)) cellD (fun p hp => by
            have hp' : p ∈ ([] : List (Addr × Obj)) := by simpa [X', blkC] using hp
            simp at hp')
          have J2 : Inv X' [(D, { cls := .type "list", data := .seq (its.push y) k' })] σ8 H10 { s10 with heap := h11 } := J1.pins_of (Dpin e11 n10)
          refine ⟨m', hm, i + 1, ys ++ [yv], its.push y, k', H10, weak J2, ?_, ?_, (fin I10).2, w10⟩
          · rw [Array.toList_push]
            exact hv.append (.cons r10 .nil)
          · refine T.keep _ _ _ (fin I10).1 fun b hb o e => (hs11.2 b ?_).trans e
            exact (below b (hDD ▸ hfl b hb)).2
    · obtain ⟨k, e⟩ := hD4
      exact ⟨0, [], #[], k, H2, I4.pins_of (Dpin e (I2.hok.fresh (by omega))), .nil, st4, fun b hb => (f2 b hb).1, w0⟩
  exact codeAny_compStart_list loop (T.self _ _ _ _ _ st4 loop)
end
end L2

/-! t.index(x) of a tuple -/
namespace L2
open PySem PySem.Spec PyProof.Rows
section
variable {X : Cx}
def rIndexT (K : PySem.W.Frag) : V → List V → Hp → VK → Prop := fun x vs H Q => ∃ l xs y j, x = .ref l ∧ vs = [y] ∧ SqT K H l xs ∧ flatV y = true ∧ xs.all flatV = true ∧ (∃ h : j < xs.length, eqV xs[j] y = true) ∧ (∀ m (hm : m < xs.length), m < j → eqV xs[m] y = false) ∧ Q (.int (j : Nat)) H
end
end L2

/-! a tuple that is known to its object: tuple(l) made so, and its methods called -/
namespace L2
open PySem PySem.Spec PyProof.Rows
section
variable {X : Cx}
def TupF (H : Hp) (p : Addr) (xs : List V) : Prop := ∃ o : Obj, H p = some (.frz o (.tup xs)) ∧ o.cls = .type "tuple" ∧ o.dict = none
def rTupF (K : PySem.W.Frag) : List V → Hp → VK → Prop := fun xs H Q => ∃ p ys, xs = [V.ref p] ∧ SqL K H p ys ∧ ∀ l H', H l = none → Same H H' → TupF H' l ys → Q (.ref l) H'
def tBMF (r : V → List V → Hp → VK → Prop) (to : TE) (t : TA) : TE := fun σ H Q => to σ H fun x H1 => (∃ p xs, x = .ref p ∧ TupF H1 p xs) ∧ t σ H1 fun xs H2 => r x xs H2 Q
variable {o e : Expr} {es : List Expr} {to : TE} {t : TA} {name : Str} {apos cpos : Pos} {id : String} {r : V → List V → Hp → VK → Prop}
end
end L2

/-! data that is only known to be data, put together: slices, sums, tuples, lists (in boxes; every transformer is tR of a property) -/
namespace L2
open PySem PySem.Spec PyProof.Rows
def IntR (_ : Hp) (v : V) : Prop := ∃ i, v = .int i
/-- a tuple of known things, at most n -/
def KTu (K : PySem.W.Frag) (n : Nat) (H : Hp) (v : V) : Prop := ∃ p xs, v = .ref p ∧ SqT K H p xs ∧ xs.length ≤ n ∧ ∀ x ∈ xs, Known K H x
/-- a list that stands in the heap, its things known, n of them -/
def KLi (K : PySem.W.Frag) (n : Nat) (H : Hp) (v : V) : Prop := ∃ p xs, v = .ref p ∧ H p = some (.lst xs) ∧ xs.length = n ∧ ∀ x ∈ xs, Known K H x
theorem Known.gr {K : PySem.W.Frag} : GrowsR (Known K) := fun _ _ _ k e => k.same e
theorem KTu.gr {K : PySem.W.Frag} {n : Nat} : GrowsR (KTu K n) := fun _ _ _ ⟨p, xs, e, h, l, k⟩ s => ⟨p, xs, e, s.tup h, l, fun x hx => (k x hx).same s⟩
theorem KLi.gr {K : PySem.W.Frag} {n : Nat} : GrowsR (KLi K n) := fun _ _ _ ⟨p, xs, e, h, l, k⟩ s => ⟨p, xs, e, s _ _ h, l, fun x hx => (k x hx).same s⟩
theorem KTu.known {K : PySem.W.Frag} {n : Nat} {H : Hp} {v : V} (h : KTu K n H v) : Known K H v := by
  obtain ⟨p, xs, rfl, h, _, k⟩ := h
  exact .tup h k
theorem KLi.known {K : PySem.W.Frag} {n : Nat} {H : Hp} {v : V} (h : KLi K n H v) : Known K H v := by
  obtain ⟨p, xs, rfl, h, _, _⟩ := h
  exact .lst (.inl (.inl h))
theorem IntR.known {K : PySem.W.Frag} {H : Hp} {v : V} (h : IntR H v) : Known K H v := by
  obtain ⟨i, rfl⟩ := h
  exact .int i
theorem Known.ltn {K : PySem.W.Frag} {p : Addr} {H H' : Hp} {v : V} (k : Known K H v) (e : Ltn p H H') : Known K H' v := let ⟨d, h⟩ := k; ⟨d, e.rep h⟩
theorem KLi.ltn {K : PySem.W.Frag} {n : Nat} {p : Addr} {H H' : Hp} {v : V} (h : KLi K n H v) (e : Ltn p H H') (np : v ≠ .ref p) : KLi K n H' v := by
  obtain ⟨a, xs, rfl, h, l, k⟩ := h
  exact ⟨a, xs, rfl, by rw [e.same a fun z => np (by rw [z])]; exact h, l, fun x hx => (k x hx).ltn e⟩
section
variable {X : Cx} {Pre : St → Hp → Prop} {R R' : Hp → V → Prop}
theorem zk_w {e : Expr} (h : ZE X e (tR R Pre)) (w : ∀ H v, R H v → R' H v) : ZE X e (tR R' Pre) := ⟨fun pins s σ H Q I hw => h.p pins s σ H Q I ⟨hw.1, fun v H' s' r => hw.2 v H' s' (w _ _ r)⟩⟩
theorem zk_int {i j pos} : ZE X (.Constant (.int i) j pos) (tR IntR Pre) := zx_of (ze_of pe_int) fun σ H Q _ q => q _ _ (Same.refl _) ⟨i, rfl⟩
theorem zk_neg {i j pos pos'} : ZE X (.UnaryOp .USub (.Constant (.int i) j pos) pos') (tR IntR Pre) := zx_of (ze_of (pe_un un_neg pe_int)) fun σ H Q _ q => ⟨_, rfl, q _ _ (Same.refl _) ⟨_, rfl⟩⟩
theorem zk_bl {b j pos} : ZE X (.Constant (.bool b) j pos) (tR (Known X.K) Pre) := zx_of (ze_of pe_bl) fun σ H Q _ q => q _ _ (Same.refl _) ⟨.bl b, rfl⟩
theorem zk_non {j pos} : ZE X (.Constant .none j pos) (tR (Known X.K) Pre) := zx_of (ze_of pe_non) fun σ H Q _ q => q _ _ (Same.refl _) ⟨.non, rfl⟩
theorem zk_str {y j pos} : ZE X (.Constant (.str y) j pos) (tR (Known X.K) Pre) := zx_of (ze_of pe_str) fun σ H Q _ q => q _ _ (Same.refl _) ⟨.str y, rfl⟩
theorem zk_var (i : Nat) {x : Str} {pos : Pos} (hp : ∀ σ H, Pre σ H → ∃ v, σ[i]? = some (some v) ∧ R H v) (hN : X.N[i]? = some x := by rfl) (hv : Vis X.env.scope x := by first | exact Or.inl rfl | exact Or.inr (Or.inl rfl) | exact Or.inr (Or.inr rfl)) (hd : (x == ("__debug__" : Str)) = false := by decide)
    (hcd : (x == ("__classdict__" : Str)) = false := by decide) : ZE X (.Name x pos) (tR R Pre) := zx_of (ze_of (pe_var hN hv hd hcd)) fun σ H Q p q => let ⟨v, e, k⟩ := hp σ H p; ⟨v, e, q v H (Same.refl _) k⟩
theorem zk_add {a b : Expr} {pos : Pos} (g : Grows Pre) (ha : ZE X a (tR IntR Pre)) (hb : ZE X b (tR IntR Pre)) : ZE X (.BinOp a .Add b pos) (tR IntR Pre) := zx_of (ze_of (pe_op op_add ha.p hb.p)) fun σ H Q p q => ⟨p, fun v H1 s1 ⟨i, ei⟩ => ⟨g σ H H1 p s1, fun u H2 s2 ⟨j, ej⟩ => ⟨i, j, ei, ej, q _ _ (s1.trans s2) ⟨_, rfl⟩⟩⟩⟩
/-- a part of a slice -/
def ZP (X : Cx) (o : Option Expr) (Pre : St → Hp → Prop) : Prop := ∀ e, o = some e → ZE X e (tR IntR Pre)
theorem zp_none : ZP X none Pre := fun _ h => nomatch h
theorem zp_some {e : Expr} (h : ZE X e (tR IntR Pre)) : ZP X (some e) Pre := fun _ z => (Option.some.inj z) ▸ h
def tPt (Pre : St → Hp → Prop) : TO := fun σ H Q => Pre σ H ∧ ∀ o H', Same H H' → Q o H'
theorem zp_po {o : Option Expr} (h : ZP X o Pre) : PO X o (tPt Pre) := by
  intro pins s σ H Q I hw
  cases o with
  | none => exact po_none pins s σ H Q I (hw.2 _ _ (Same.refl _))
  | some e => exact po_some (h e rfl).p pins s σ H Q I ⟨hw.1, fun v H' s' ⟨i, ei⟩ => ⟨i, ei, hw.2 _ _ s'⟩⟩
theorem zk_slice {e : Expr} {lo hi : Option Expr} {p2 pos : Pos} {n : Nat} (g : Grows Pre) (he : ZE X e (tR (KTu X.K n) Pre)) (hl : ZP X lo Pre) (hu : ZP X hi Pre) : ZE X (.Subscript e (.Slice lo hi none p2) pos) (tR (KTu X.K n) Pre) := zx_of (ze_of (pe_slice sl_tupU he.p (zp_po hl) (zp_po hu))) fun σ H Q p q => by
  refine ⟨p, fun v H1 s1 k1 => ⟨g _ _ _ p s1, fun l H2 s2 => ⟨g _ _ _ (g _ _ _ p s1) s2, fun u H3 s3 => ?_⟩⟩⟩
  obtain ⟨a, xs, rfl, hx, ln, k⟩ := KTu.gr _ _ _ k1 (s2.trans s3)
  exact ⟨a, xs, rfl, hx, fun y H4 hy s4 => q _ _ (s1.trans (s2.trans (s3.trans s4))) ⟨y, _, rfl, hy, Nat.le_trans (cutV_length _ _ _) ln, fun x hx' => (k x (List.mem_of_mem_drop (List.mem_of_mem_take hx'))).same s4⟩⟩
theorem zk_cat {a b : Expr} {pos : Pos} {n m : Nat} (g : Grows Pre) (hn : n + m ≤ 1000) (ha : ZE X a (tR (KTu X.K n) Pre)) (hb : ZE X b (tR (KTu X.K m) Pre)) : ZE X (.BinOp a .Add b pos) (tR (KTu X.K (n + m)) Pre) := zx_of (ze_of (pe_op op_catU ha.p hb.p)) fun σ H Q p q => by
  refine ⟨p, fun v H1 s1 k1 => ⟨g _ _ _ p s1, fun u H2 s2 k2 => ?_⟩⟩
  obtain ⟨a, xs, rfl, hx, lx, kx⟩ := KTu.gr _ _ _ k1 s2
  obtain ⟨b, ys, rfl, hy, ly, ky⟩ := k2
  refine ⟨a, b, xs, ys, rfl, rfl, hx, hy, Nat.le_of_lt (small1000 (by omega)), fun c H3 hc s3 => q _ _ (s1.trans (s2.trans s3)) ⟨c, _, rfl, hc, by rw [List.length_append]; omega, fun x hx' => ?_⟩⟩
  rcases List.mem_append.mp hx' with h | h
  · exact (kx x h).same s3
  · exact (ky x h).same s3
theorem zk_rev {e : Expr} {j : Nat} {p1 p2 p3 pos : Pos} {n : Nat} (g : Grows Pre) (he : ZE X e (tR (KTu X.K n) Pre)) : ZE X (.Subscript e (.Slice none none (some (.UnaryOp .USub (.Constant (.int 1) j p1) p2)) p3) pos) (tR (KTu X.K n) Pre) := zx_of (ze_of (pe_revT he.p (pe_un un_neg pe_int))) fun σ H Q p q => by
  refine ⟨p, fun v H1 s1 k1 => ⟨_, rfl, _, rfl, ?_⟩⟩
  obtain ⟨a, xs, rfl, hx, ln, k⟩ := k1
  exact ⟨a, xs, rfl, rfl, hx, fun y hy => q _ _ (s1.trans (Same.upd hy)) ⟨y, _, rfl, .inl (.inl upd_same), by rw [List.length_reverse]; exact ln, fun x hx' => (k x (List.mem_reverse.mp hx')).same (Same.upd hy)⟩⟩
theorem zk_tup {es : List Expr} {n : Nat} {x1} {pos : Pos} (hn : n ≤ 1000) (h : ZA X es (tRs (Known X.K) Pre n)) : ZE X (.Tuple es x1 pos) (tR (KTu X.K n) Pre) := zx_of (ze_tup h) fun σ H Q p q => ⟨p, fun vs H1 e1 l1 k1 => ⟨by rw [l1]; exact Nat.le_of_lt (small1000 hn), fun a ha =>
  q _ _ (e1.trans (Same.upd ha)) ⟨a, vs, rfl, .inl (.inl upd_same), by omega, fun x hx => (k1 x hx).same (Same.upd ha)⟩⟩⟩
theorem zk_lst {es : List Expr} {n : Nat} {pos : Pos} (hn : n ≤ 1000) (h : ZA X es (tRs (Known X.K) Pre n)) : ZE X (.List es pos) (tR (KLi X.K n) Pre) := zx_of (ze_lst h) fun σ H Q p q => ⟨p, fun vs H1 e1 l1 k1 => ⟨by rw [l1]; exact Nat.le_of_lt (small1000 hn), fun a ha =>
  q _ _ (e1.trans (Same.upd ha)) ⟨a, vs, rfl, upd_same, l1, fun x hx => (k1 x hx).same (Same.upd ha)⟩⟩⟩
/-- list(t) -/
theorem zk_listT {e : Expr} {p pos : Pos} {n : Nat} (hg : Gl X "list") (hm : X.mg "list" = none) (he : ZE X e (tR (KTu X.K n) Pre)) (hs : starEach [e] X.env = [(false, eval e X.env)] := by rfl) : ZE X (.Call (.Name "list" p) [e] [] pos) (tR (Known X.K) Pre) := zx_of (ze_of (pe_callTy call_list_of hg hm PyProof.Rows.boot_list (pa_cons he.p pa_nil (by rw [hs]; rfl)) (he := by rw [hs]; rfl))) fun σ H Q p q => by
  refine ⟨p, fun v H1 s1 k1 => ?_⟩
  obtain ⟨a, xs, rfl, hx, ln, k⟩ := k1
  exact ⟨a, xs, rfl, .inr hx, fun l hl => q _ _ (s1.trans (Same.upd hl)) (.lst (.inl (.inl upd_same)))⟩
theorem zk_cons {e : Expr} {es : List Expr} {n : Nat} (g : Grows Pre) (ha : ZE X e (tR (Known X.K) Pre)) (hr : ZA X es (tRs (Known X.K) Pre n)) (hs : starEach (e :: es) X.env = (false, eval e X.env) :: starEach es X.env := by rfl) : ZA X (e :: es) (tRs (Known X.K) Pre (n + 1)) := zra_cons g Known.gr ha hr hs
theorem zk_i {e : Expr} (h : ZE X e (tR IntR Pre)) : ZE X e (tR (Known X.K) Pre) := zk_w h fun _ _ => IntR.known
theorem zk_t {e : Expr} {n : Nat} (h : ZE X e (tR (KTu X.K n) Pre)) : ZE X e (tR (Known X.K) Pre) := zk_w h fun _ _ => KTu.known
theorem zk_l {e : Expr} {n : Nat} (h : ZE X e (tR (KLi X.K n) Pre)) : ZE X e (tR (Known X.K) Pre) := zk_w h fun _ _ => KLi.known
end
end L2

namespace K54
open PySem L2 PyProof.Rows
def top (i : Nat) : Stmt := PySem.Challenge.pw_tienumbers_k54_squares_by_anybody.main.body.getD i (.Pass ⟨0, 0, 0, 0⟩)
def isIntD (d : Dt) : Bool := isiB d.ty "int" && !isiB d.ty "bool"
def within (d : Dt) (lo hi : Int) : Bool := match d with
  | .int i => decide (lo ≤ i) && decide (i ≤ hi)
  | _ => false
theorem isIntD_int (i : Int) : isIntD (.int i) = true := rfl
theorem isIntD_of {d : Dt} (h : isIntD d = true) : ∃ i, d = .int i := by
  have := (Bool.and_eq_true _ _).mp h
  exact isi_int this.1 (by simpa using this.2)
theorem within_no {d : Dt} {lo hi : Int} (h : isIntD d = false) : within d lo hi = false := by
  cases d <;> first | rfl | exact absurd h (by rw [isIntD_int]; decide)
structure Txt (mg : Str → Option Value) : Prop where
  isi : mg "isinstance" = none
  int : mg "int" = none
  bool : mg "bool" = none
  tuple : mg "tuple" = none
  len : mg "len" = none
  all : mg "all" = none
  max : mg "max" = none
  range : mg "range" = none
  sorted : mg "sorted" = none
  list : mg "list" = none
  set : mg "set" = none
  zip : mg "zip" = none
  sum : mg "sum" = none
  str : mg "str" = none
section
variable {P : Program} {w : World} {K : PySem.W.Frag} {mg : Str → Option Value} {base : Heap}
section
variable {X : Cx} {e : Expr} {te : TE} {pos p1 p2 : Pos}
/-- isinstance(e, C) -/
theorem isi_t (T : Txt X.mg) (he : PE X e te) (g1 : Gl X "isinstance") (g2 : Gl X "tuple") (hs : starEach [e, .Name "tuple" p1] X.env = (false, eval e X.env) :: starEach [.Name "tuple" p1] X.env := by rfl) : PE X (.Call (.Name "isinstance" p2) [e, .Name "tuple" p1] [] pos) (tCB (rIsi X.K) (tCons te (tCons (tC (.ty "tuple")) tNil))) :=
  pe_callB call_isi g1 T.isi boot_isinstance (pa_cons he (pa_cons (pe_bltn g2 T.tuple boot_tuple rfl) pa_nil) hs) (he := hs)
theorem isi_i (T : Txt X.mg) (he : PE X e te) (g1 : Gl X "isinstance") (g2 : Gl X "int") (hs : starEach [e, .Name "int" p1] X.env = (false, eval e X.env) :: starEach [.Name "int" p1] X.env := by rfl) : PE X (.Call (.Name "isinstance" p2) [e, .Name "int" p1] [] pos) (tCB (rIsi X.K) (tCons te (tCons (tC (.ty "int")) tNil))) :=
  pe_callB call_isi g1 T.isi boot_isinstance (pa_cons he (pa_cons (pe_bltn g2 T.int PyProof.Rows.boot_int rfl) pa_nil) hs) (he := hs)
theorem isi_b (T : Txt X.mg) (he : PE X e te) (g1 : Gl X "isinstance") (g2 : Gl X "bool") (hs : starEach [e, .Name "bool" p1] X.env = (false, eval e X.env) :: starEach [.Name "bool" p1] X.env := by rfl) : PE X (.Call (.Name "isinstance" p2) [e, .Name "bool" p1] [] pos) (tCB (rIsi X.K) (tCons te (tCons (tC (.ty "bool")) tNil))) :=
  pe_callB call_isi g1 T.isi boot_isinstance (pa_cons he (pa_cons (pe_bltn g2 T.bool PyProof.Rows.boot_bool rfl) pa_nil) hs) (he := hs)
end
def spWhole (K : PySem.W.Frag) : Sp := fun vs H Q _ => ∃ d v, vs = [v] ∧ Rep K H d v ∧ Q (.bl (isIntD d)) H
theorem sc1 : FnScope ["thing"] ["thing"] (defScope (top 1)) := ⟨rfl, rfl, rfl, by decide +kernel, rfl, by decide +kernel, by decide +kernel⟩
theorem ok_is_whole (h : Has K mg "is_whole" (top 1) ["thing"]) (T : Txt mg) : Ok P w K mg base "is_whole" ["thing"] 1 (spWhole K) := by
  refine h.ok sc1 (fun vs H Q E h => ?_) (fun f cdv A outer s H vs Q E hr h => ?_)
  · obtain ⟨d, v, rfl, _⟩ := h; rfl
  · obtain ⟨d, v, rfl, hd, q⟩ := h
    refine ⟨_, pss_one (ps_ret (pe_and (isi_i T (pv 0) (by rfl) (by rfl)) (pe_one (pe_not (isi_b T (pv 0) (by rfl) (by rfl)))))), ?_⟩
    refine ⟨v, rfl, v, d.ty, "int", rfl, .inl rfl, hd.kind, _, rfl, iteB (fun c => ?_) fun c => ?_⟩
    · refine ⟨v, rfl, v, d.ty, "bool", rfl, .inr (.inl rfl), hd.kind, _, rfl, ?_⟩
      have e : isIntD d = !isiB d.ty "bool" := by unfold isIntD; rw [c, Bool.true_and]
      rw [e] at q
      exact q
    · have e : isIntD d = false := by unfold isIntD; rw [c, Bool.false_and]
      rw [e] at q
      exact q
theorem sc16 : FnScope ["found"] ["found"] (defScope (top 16)) := ⟨rfl, rfl, rfl, by decide +kernel, rfl, by decide +kernel, by decide +kernel⟩
theorem ok_law_whole (h : Has K mg "_law_whole" (top 16) ["found"]) (T : Txt mg) : Ok P w K mg base "_law_whole" ["found"] 1 (spWhole K) := by
  refine h.ok sc16 (fun vs H Q E h => ?_) (fun f cdv A outer s H vs Q E hr h => ?_)
  · obtain ⟨d, v, rfl, _⟩ := h; rfl
  · obtain ⟨d, v, rfl, hd, q⟩ := h
    refine ⟨_, pss_one (ps_ret (pe_and (isi_i T (pv 0) (by rfl) (by rfl)) (pe_one (pe_not (isi_b T (pv 0) (by rfl) (by rfl)))))), ?_⟩
    refine ⟨v, rfl, v, d.ty, "int", rfl, .inl rfl, hd.kind, _, rfl, iteB (fun c => ?_) fun c => ?_⟩
    · refine ⟨v, rfl, v, d.ty, "bool", rfl, .inr (.inl rfl), hd.kind, _, rfl, ?_⟩
      have e : isIntD d = !isiB d.ty "bool" := by unfold isIntD; rw [c, Bool.true_and]
      rw [e] at q
      exact q
    · have e : isIntD d = false := by unfold isIntD; rw [c, Bool.false_and]
      rw [e] at q
      exact q
def spWithin (K : PySem.W.Frag) : Sp := fun vs H Q _ => ∃ d v lo hi, vs = [v, .int lo, .int hi] ∧ Rep K H d v ∧ Q (.bl (within d lo hi)) H
theorem sc2 : FnScope ["thing", "least", "most"] ["thing", "least", "most"] (defScope (top 2)) := ⟨rfl, rfl, rfl, by decide +kernel, rfl, by decide +kernel, by decide +kernel⟩
theorem ok_within (h : Has K mg "whole_within" (top 2) ["thing", "least", "most"]) (G1 : Ok P w K mg base "is_whole" ["thing"] 1 (spWhole K)) : Ok P w K mg base "whole_within" ["thing", "least", "most"] 2 (spWithin K) := by
  refine h.ok sc2 (fun vs H Q E h => ?_) (fun f cdv A outer s H vs Q E hr h => ?_)
  · obtain ⟨d, v, lo, hi, rfl, _⟩ := h; rfl
  · obtain ⟨d, v, lo, hi, rfl, hd, q⟩ := h
    refine ⟨_, pss_one (ps_ret (pe_and (pe_callG G1 hr (by rfl) (pa_cons (pv 0) pa_nil)) (pe_one (pe_chain op_le op_le (pv 1) (pv 0) (pv 2))))), ?_⟩
    refine ⟨v, rfl, d, v, rfl, hd, _, rfl, iteB (fun c => ?_) fun c => ?_⟩
    · obtain ⟨i, rfl⟩ := isIntD_of c
      cases hd
      refine ⟨_, rfl, _, rfl, lo, i, rfl, rfl, _, rfl, iteB (fun c1 => ?_) fun c1 => ?_⟩
      · refine ⟨_, rfl, i, hi, rfl, rfl, ?_⟩
        have e : within (.int i) lo hi = decide (i ≤ hi) := by show (decide (lo ≤ i) && decide (i ≤ hi)) = _; rw [c1, Bool.true_and]
        rw [e] at q
        exact q
      · have e : within (.int i) lo hi = false := by show (decide (lo ≤ i) && decide (i ≤ hi)) = _; rw [c1, Bool.false_and]
        rw [e] at q
        exact q
    · rw [within_no c] at q
      exact q
theorem within_int {d : Dt} {lo hi : Int} (h : within d lo hi = true) : ∃ i, d = .int i ∧ lo ≤ i ∧ i ≤ hi := by
  cases d <;> first | exact absurd h Bool.false_ne_true | skip
  rename_i i
  have h : (decide (lo ≤ i) && decide (i ≤ hi)) = true := h
  have := (Bool.and_eq_true _ _).mp h
  exact ⟨i, rfl, of_decide_eq_true this.1, of_decide_eq_true this.2⟩
def spNext : Sp := fun vs H Q _ => ∃ i, vs = [.int i] ∧ ∀ r, Q (.int r) H
theorem sc13 : FnScope ["seed"] ["seed"] (defScope (top 13)) := ⟨rfl, rfl, rfl, by decide +kernel, rfl, by decide +kernel, by decide +kernel⟩
theorem ok_next (h : Has K mg "_law_next" (top 13) ["seed"]) : Ok P w K mg base "_law_next" ["seed"] 1 spNext := by
  refine h.ok sc13 (fun vs H Q E h => ?_) (fun f cdv A outer s H vs Q E hr h => ?_)
  · obtain ⟨i, rfl, _⟩ := h; rfl
  · obtain ⟨i, rfl, q⟩ := h
    refine ⟨_, pss_cons (ps_set (i := 0) sc13.nd rfl (Or.inl rfl) (pe_op op_mod (pe_op op_add (pv 0) pe_int) pe_int))
      (pss_one (ps_ret (pe_op op_mod (pe_op op_add (pe_op op_add (pe_op op_mul (pv 0) (pv 0)) (pe_op op_mul pe_int (pv 0))) pe_int) pe_int))), ?_⟩
    have b0 : 0 ≤ (i + 7919) % 2147483647 := Int.emod_nonneg _ (by decide)
    have b1 : (i + 7919) % 2147483647 < 2147483647 := Int.emod_lt_of_pos _ (by decide)
    refine ⟨_, rfl, _, _, rfl, rfl, _, _, rfl, rfl, (by show (0 : Int) < 2147483647; decide), _, rfl, _, rfl, _, _, rfl, rfl, .inl ⟨by omega, by omega⟩, _, rfl, _, _, rfl, rfl, .inl ⟨by decide, by decide⟩, _, _, rfl, rfl, _, _, rfl, rfl, _, _, rfl, rfl, (by show (0 : Int) < 2147483629; decide), q _⟩
def spPen : Sp := fun vs H Q _ => ∃ i, vs = [.int i] ∧ ∀ p H', H p = none → Pen H' p → Same H H' → Q (.ref p) H'
theorem sc14 : FnScope ["cell", "left"] ["cell"] (defScope (top 14)) := ⟨rfl, rfl, rfl, by decide +kernel, rfl, by decide +kernel, by decide +kernel⟩
theorem ok_pen (h : Has K mg "_law_pen_of" (top 14) ["cell"]) (T : Txt mg) : Ok P w K mg base "_law_pen_of" ["cell"] 1 spPen := by
  refine h.ok sc14 (fun vs H Q E h => ?_) (fun f cdv A outer s H vs Q E hr h => ?_)
  · obtain ⟨i, rfl, _⟩ := h; rfl
  · obtain ⟨i, rfl, q⟩ := h
    refine ⟨_, pss_cons (ps_set (i := 1) sc14.nd rfl (Or.inl rfl) (pe_callB (call_max2 rfl) (by rfl) T.max PyProof.Rows.boot_max (pa_cons (pv 0) (pa_cons (pe_op op_sub pe_int (pv 0)) pa_nil))))
      (pss_one (ps_ret (pe_lst (pa_cons (pv 1) (pa_cons (pe_callTy call_int1 (by rfl) T.int PyProof.Rows.boot_int (pa_cons (pe_cmpR op_ge (pv 1) (pe_op op_pow pe_int pe_int) (nomark _)) pa_nil)) (pa_cons (pe_op op_mod (pv 1) pe_int) pa_nil)))))), ?_⟩
    refine ⟨_, rfl, _, rfl, _, _, rfl, rfl, _, _, rfl, _, rfl, _, rfl, _, _, rfl, rfl, ⟨by decide, by decide, by decide⟩, _, _, rfl, rfl, .inr ⟨_, rfl, _, rfl, _, _, rfl, rfl, (by show (0 : Int) < 1000003; decide), (by show 3 ≤ sizeLine; decide), fun p hp => ?_⟩⟩
    exact q p _ hp ⟨_, _, _, upd_same⟩ (Same.upd hp)
def spDraw : Sp := fun vs H Q _ => ∃ p m, vs = [.ref p, .int m] ∧ Pen H p ∧ 0 < m ∧ m < 10 ^ 70 ∧ ∀ (r : Int) H', 0 ≤ r → r < m → Pen H' p → (∀ b, b ≠ p → H' b = H b) → Q (.int r) H'
theorem sc15 : FnScope ["pen", "many", "found"] ["pen", "many"] (defScope (top 15)) := ⟨rfl, rfl, rfl, by decide +kernel, rfl, by decide +kernel, by decide +kernel⟩
theorem ok_draw (h : Has K mg "_law_draw" (top 15) ["pen", "many"]) (G : Ok P w K mg base "_law_next" ["seed"] 1 spNext) : Ok P w K mg base "_law_draw" ["pen", "many"] 2 spDraw := by
  refine h.ok sc15 (fun vs H Q E h => ?_) (fun f cdv A outer s H vs Q E hr h => ?_)
  · obtain ⟨p, m, rfl, _⟩ := h; rfl
  · obtain ⟨p, m, rfl, ⟨a, fl, sd, hp⟩, m0, m1, q⟩ := h
    have hL : ∀ {H' : Hp} {xs : List V}, H' p = some (.lst xs) → SqL K H' p xs := fun e => .inl (.inl e)
    refine ⟨_, pss_cons (ps_if (pt_cmpR op_eq (pe_ix ix_list (pv 0) pe_int (fun _ _ => rfl)) pe_int (nomark _))
        (pss_cons (ps_set (i := 2) sc15.nd rfl (Or.inl rfl) (pe_op op_mod (pe_ix ix_list (pv 0) pe_int (fun _ _ => rfl)) (pv 1)))
        (pss_cons (ps_asg (pe_op op_fdivX (pe_ix ix_list (pv 0) pe_int (fun _ _ => rfl)) (pv 1)) (pg_sub (pv 0) pe_int set_list))
        (pss_one (ps_ret (pv 2))))) pss_nil)
      (pss_cons (ps_asg (pe_callG G hr (by rfl) (pa_cons (pe_op op_add (pe_callG G hr (by rfl) (pa_cons (pe_ix ix_list (pv 0) pe_int (fun _ _ => rfl)) pa_nil)) pe_int) pa_nil)) (pg_sub (pv 0) pe_int set_list))
      (pss_one (ps_ret (pe_op op_mod (pe_op op_fdiv (pe_ix ix_list (pv 0) pe_int (fun _ _ => rfl)) pe_int) (pv 1))))), ?_⟩
    refine ⟨_, rfl, p, _, 1, _, rfl, rfl, hL hp, rfl, rfl, _, rfl, iteB (fun c => ?_) fun c => ?_⟩
    · refine ⟨_, rfl, p, _, 0, _, rfl, rfl, hL hp, rfl, _, rfl, _, _, rfl, rfl, m0, _, rfl, p, _, 0, _, rfl, rfl, hL hp, rfl, _, rfl, _, _, rfl, rfl, ⟨m0, m1⟩, _, rfl, p, _, 0, 0, rfl, rfl, hp, rfl, _, rfl, ?_⟩
      exact q _ _ (Int.emod_nonneg _ (by omega)) (Int.emod_lt_of_pos _ m0) ⟨_, _, _, upd_same⟩ fun b hb => upd_ne hb
    · refine ⟨_, rfl, p, _, 2, _, rfl, rfl, hL hp, rfl, _, rfl, fun r1 => ⟨_, _, rfl, rfl, _, rfl, fun r2 => ⟨_, rfl, p, _, 2, 2, rfl, rfl, hp, rfl, ?_⟩⟩⟩
      refine ⟨_, rfl, p, _, 2, _, rfl, rfl, hL upd_same, rfl, _, _, rfl, rfl, ⟨by decide, by decide⟩, _, rfl, _, _, rfl, rfl, m0, ?_⟩
      exact q _ _ (Int.emod_nonneg _ (by omega)) (Int.emod_lt_of_pos _ m0) ⟨_, _, _, upd_same⟩ fun b hb => upd_ne hb
def spCell (K : PySem.W.Frag) : Sp := fun vs H Q _ => ∃ a ns k, vs = [.ref a, .int k] ∧ SqL K H a (List.map V.int ns) ∧ 0 ≤ k ∧ ∀ r, Q (.int r) H
theorem sc12 : FnScope ["script", "k"] ["script", "k"] (defScope (top 12)) := ⟨rfl, rfl, rfl, by decide +kernel, rfl, by decide +kernel, by decide +kernel⟩
theorem ok_cell (h : Has K mg "_law_cell_at" (top 12) ["script", "k"]) (T : Txt mg) : Ok P w K mg base "_law_cell_at" ["script", "k"] 1 (spCell K) := by
  refine h.ok sc12 (fun vs H Q E h => ?_) (fun f cdv A outer s H vs Q E hr h => ?_)
  · obtain ⟨a, ns, k, rfl, _⟩ := h; rfl
  · obtain ⟨a, ns, k, rfl, hS, hk, q⟩ := h
    refine ⟨_, pss_cons (ps_if (pt_cmpR op_lt (pv 1) (pe_callB call_len_seq (by rfl) T.len PySem.boot_len (pa_cons (pv 0) pa_nil)) (nomark _)) (pss_one (ps_ret (pe_ix ix_list (pv 0) (pv 1) (fun _ _ => rfl)))) pss_nil)
      (pss_one (ps_ret pe_int)), ?_⟩
    refine ⟨_, rfl, _, rfl, a, _, rfl, .inl hS, _, _, rfl, rfl, _, rfl, iteB (fun c => ?_) fun c => ?_⟩
    · have c : k < ((ns.map V.int).length : Int) := of_decide_eq_true c
      rw [List.length_map] at c
      obtain ⟨n, rfl⟩ : ∃ n : Nat, k = n := ⟨k.toNat, by omega⟩
      have hn : n < ns.length := by omega
      exact ⟨_, rfl, _, rfl, a, _, _, .int ns[n], rfl, rfl, hS, atI_nat (by rw [List.getElem?_map, List.getElem?_eq_getElem hn]; rfl), q _⟩
    · exact q _
end
end K54

namespace K54
open PySem L2 PyProof.Rows
/-- a web by its ties, each within the places -/
structure TwAt (K : PySem.W.Frag) (H : Hp) (w : Addr) (many : Nat) (ties : List (Nat × Nat)) : Prop where
  at_ : ∃ t bs, H w = some (.tup [.int (many : Nat), .ref t]) ∧ H t = some (.tup bs) ∧ Paired (TieAt K H) bs (ties.map fun t => (((t.1 : Nat) : Int), ((t.2 : Nat) : Int)))
  len : ties.length ≤ 100
  good : ∀ t ∈ ties, t.1 < many ∧ t.2 < many
def nI (xs : List Nat) : List Int := xs.map fun x => ((x : Nat) : Int)
def cI (ties : List (Nat × Nat)) : List (Int × Int) := ties.map fun t => (((t.1 : Nat) : Int), ((t.2 : Nat) : Int))
theorem Paired.app {α β : Type} {R : α → β → Prop} : ∀ {l1 : List α} {l2 : List β} {r1 : List α} {r2 : List β}, Paired R l1 l2 → Paired R r1 r2 → Paired R (l1 ++ r1) (l2 ++ r2)
  | _, _, _, _, .nil, h => h
  | _, _, _, _, .cons h t, g => .cons h (Paired.app t g)
theorem inz_of {ds : List Dt} {lo hi : Int} (h : ds.all (fun d => within d lo hi) = true) : ∃ ns : List Int, ds = ns.map Dt.int ∧ ∀ x ∈ ns, lo ≤ x ∧ x ≤ hi := by
  induction ds with
  | nil => exact ⟨[], rfl, fun x hx => by cases hx⟩
  | cons d ds ih =>
    rw [List.all_cons, Bool.and_eq_true] at h
    obtain ⟨i, rfl, i0, i1⟩ := within_int h.1
    obtain ⟨ns, rfl, hn⟩ := ih h.2
    refine ⟨i :: ns, rfl, fun x hx => ?_⟩
    rcases List.mem_cons.mp hx with rfl | hx
    · exact ⟨i0, i1⟩
    · exact hn x hx
theorem all_in {ns : List Int} {lo hi : Int} (h : ∀ x ∈ ns, lo ≤ x ∧ x ≤ hi) : (ns.map Dt.int).all (fun d => within d lo hi) = true := by
  rw [List.all_map, List.all_eq_true]
  intro x hx
  show (decide (lo ≤ x) && decide (x ≤ hi)) = true
  rw [decide_eq_true (h x hx).1, decide_eq_true (h x hx).2]
  rfl
def oneTo (q : Nat) : List Int := (List.range q).map fun i => 1 + ((i : Nat) : Int)
theorem oneTo_sorted (q : Nat) : (oneTo q).Pairwise (· ≤ ·) := List.Pairwise.map _ (fun a b (h : a < b) => by omega) List.pairwise_lt_range
theorem map_int_inj {ns ms : List Int} (h : ns.map Dt.int = ms.map Dt.int) : ns = ms := (List.map_inj_right (fun _ _ z => Dt.int.inj z)).mp h
theorem perm_of_sub {α : Type} [DecidableEq α] : ∀ {l r : List α}, l.Nodup → (∀ x ∈ l, x ∈ r) → r.length ≤ l.length → l.Perm r
  | [], r, _, _, h => by
    have : r = [] := List.length_eq_zero_iff.mp (Nat.le_zero.mp h)
    rw [this]
  | a :: l, r, nd, sub, h => by
    have ha := sub a List.mem_cons_self
    have nd' := List.nodup_cons.mp nd
    have ih : l.Perm (r.erase a) := perm_of_sub nd'.2 (fun x hx => (List.mem_erase_of_ne (show x ≠ a from fun e => nd'.1 (by rw [← e]; exact hx))).mpr (sub x (List.mem_cons_of_mem _ hx))) (by
      rw [List.length_erase_of_mem ha]
      rw [List.length_cons] at h
      omega)
    exact (ih.cons a).trans (List.perm_cons_erase ha).symm
theorem mem_oneTo {q : Nat} {x : Int} : x ∈ oneTo q ↔ 1 ≤ x ∧ x ≤ q := by
  unfold oneTo
  rw [List.mem_map]
  constructor
  · rintro ⟨i, hi, rfl⟩
    have := List.mem_range.mp hi
    omega
  · intro h
    exact ⟨(x - 1).toNat, List.mem_range.mpr (by omega), by omega⟩
theorem oneTo_len (q : Nat) : (oneTo q).length = q := by unfold oneTo; rw [List.length_map, List.length_range]
theorem oneTo_nd (q : Nat) : (oneTo q).Nodup := List.Pairwise.map _ (fun a b (h : a ≠ b) => fun e => h (by omega)) List.nodup_range
def addAt (l : List Int) (i : Nat) (x : Int) : List Int := l.set i (l.getD i 0 + x)
def stepS (acc : List Int) (p : (Nat × Nat) × Int) : List Int := addAt (addAt acc p.1.1 p.2) p.1.2 p.2
def sumsK (many : Nat) (ties : List (Nat × Nat)) (ns : List Int) (k : Nat) : List Int := ((ties.zip ns).take k).foldl stepS (List.replicate many 0)
def sumsF (many : Nat) (ties : List (Nat × Nat)) (ns : List Int) : List Int := (ties.zip ns).foldl stepS (List.replicate many 0)
theorem addAt_len (l : List Int) (i : Nat) (x : Int) : (addAt l i x).length = l.length := List.length_set ..
def NumL (m : Nat) (ds : List Dt) : Prop := ∃ ns : List Int, ds = ns.map Dt.int ∧ ns.Perm (oneTo m)
def NumD (m : Nat) (d : Dt) : Prop := ∃ ns : List Int, d = .tup (ns.map Dt.int) ∧ ns.Perm (oneTo m)
theorem numL_iff {m : Nat} {ns : List Int} : ns.Perm (oneTo m) ↔ ns.length = m ∧ (∀ x ∈ ns, 1 ≤ x ∧ x ≤ m) ∧ ns.Nodup := by
  constructor
  · intro p
    exact ⟨by rw [p.length_eq, oneTo_len], fun x hx => mem_oneTo.mp (p.mem_iff.mp hx), p.nodup_iff.mpr (oneTo_nd _)⟩
  · rintro ⟨l, r, nd⟩
    exact perm_of_sub nd (fun x hx => mem_oneTo.mpr (r x hx)) (by rw [oneTo_len, l]; exact Nat.le_refl _)
theorem but_of {p : Addr} {H H' : Hp} (e : ∀ b, b ≠ p → H' b = H b) : SameBut p H H' := fun b o n q => (e b n).trans q
section
variable {P : Program} {w : World} {K : PySem.W.Frag} {mg : Str → Option Value} {base : Heap}
theorem at_num {ns : List Int} {i : Nat} (h : i < ns.length) : atI (ns.map V.int) (i : Nat) = some (.int (ns.getD i 0)) := atI_nat (by rw [List.getElem?_map, List.getElem?_eq_getElem h]; simp [h])
theorem repL_inz {H : Hp} : ∀ {ns : List Int} {xs : List V}, RepL K H (ns.map Dt.int) xs → xs = ns.map V.int
  | [], [], _ => rfl
  | _ :: _, _ :: _, ⟨h1, h2⟩ => by rw [List.map_cons, repL_inz h2]; rw [show _ = V.int _ from h1]
  | [], _ :: _, h => h.elim
  | _ :: _, [], h => h.elim
def spUnlike (K : PySem.W.Frag) : Sp := fun vs H Q _ => ∃ p lo hi xs ds, vs = [.ref p, .int lo, .int hi] ∧ SqT K H p xs ∧ RepL K H ds xs ∧ ds.length ≤ 1000 ∧
  (ds.all (fun d => within d lo hi) = false → ∀ H', Same H H' → Q (.bl false) H') ∧ (∀ ns : List Int, ds = ns.map Dt.int → ds.all (fun d => within d lo hi) = true → ∀ H', Same H H' → Q (.bl (decide ns.Nodup)) H')
def scUnC : Scope := { kind := .function, names := [(".0", .local), ("thing", .local), ("whole_within", .globalImplicit), ("least", .free), ("most", .free)], isGenerator := false, isCoroutine := false, more := [] }
theorem rep_inz {H : Hp} : ∀ {ns : List Int}, RepL K H (ns.map Dt.int) (ns.map V.int)
  | [] => trivial
  | _ :: _ => ⟨rfl, rep_inz⟩
def spSums (K : PySem.W.Frag) : Sp := fun vs H Q _ => ∃ wb many ties n ns, vs = [.ref wb, .ref n] ∧ TwAt K H wb many ties ∧ many ≤ 100 ∧ SqT K H n (List.map V.int ns) ∧ ns.length = ties.length ∧ ∀ l H', H l = none → Same H H' → H' l = some (.lst ((sumsF many ties ns).map V.int)) → Q (.ref l) H'
def psN : List Str := ["web", "numbering", "sums", "number", "tie"]
def scPsC : Scope := { kind := .function, names := [(".0", .local), ("place", .local)], isGenerator := false, isCoroutine := false, more := [] }
def spOnce (K : PySem.W.Frag) : Sp := fun vs H Q _ => ∃ p m xs ds, vs = [.ref p, .int (m : Nat)] ∧ SqT K H p xs ∧ RepL K H ds xs ∧ m ≤ 100 ∧ (NumL m ds → ∀ H', Same H H' → Q (.bl true) H') ∧ (¬ NumL m ds → ∀ H', Same H H' → Q (.bl false) H')
def spNum (K : PySem.W.Frag) : Sp := fun vs H Q _ => ∃ wb many ties d v, vs = [.ref wb, v] ∧ TwAt K H wb many ties ∧ Rep K H d v ∧ (NumD ties.length d → ∀ H', Same H H' → Q (.bl true) H') ∧ (¬ NumD ties.length d → ∀ H', Same H H' → Q (.bl false) H')
end
end K54

namespace K54
open PySem L2 PyProof.Rows
/-- rows and columns of one sum, the numbers from 1 on -/
structure GoodM (M : List (List Int)) : Prop where
  pos : 1 ≤ M.length
  le : M.length ≤ 7
  rows : ∀ row ∈ M, row.length = M.length
  nums : M.flatten.Perm (oneTo (M.length * M.length))
  row : ∀ k, k < M.length → (M.getD k []).sum = (M.getD 0 []).sum
  col : ∀ k, k < M.length → (M.map fun r => r.getD k 0).sum = (M.getD 0 []).sum
def m1 : List (List Int) := [[1]]
def m3 : List (List Int) := [[8, 1, 6], [3, 5, 7], [4, 9, 2]]
def m4 : List (List Int) := [[1, 15, 14, 4], [12, 6, 7, 9], [8, 10, 11, 5], [13, 3, 2, 16]]
def lawRow (s r : Int) : List Int := (List.range s.toNat).map fun (k : Nat) => s * ((r + 2 * k) % s) + (r + 3 * k) % s + 1
def lawSq (s : Int) : List (List Int) := (List.range s.toNat).map fun (r : Nat) => lawRow s r
def bases : List (List (List Int)) := [m1, m3, m4, lawSq 5, lawSq 7]
def rotL {α : Type} (l : List α) (r : Nat) : List α := l.drop r ++ l.take r
def rotM (M : List (List Int)) (one other : Nat) : List (List Int) := (rotL M one).map fun row => rotL row other
def sidesT (one other : Nat) : List (Nat × Nat) := (List.range (one * other)).map fun k => (k / other, one + k % other)
def chunkN (n : Nat) (ns : List Int) : List (List Int) := (List.range n).map fun r => (ns.drop (r * n)).take n
structure FineM (M : List (List Int)) : Prop where
  good : GoodM M
def fineB (M : List (List Int)) : Bool := decide (1 ≤ M.length) && (decide (M.length ≤ 7) && (M.all (fun r => decide (r.length = M.length)) && (decide (M.flatten.Perm (oneTo (M.length * M.length))) &&
  ((List.range M.length).all (fun k => decide ((M.getD k []).sum = (M.getD 0 []).sum)) && ((List.range M.length).all (fun k => decide ((M.map fun r => r.getD k 0).sum = (M.getD 0 []).sum)))))))
theorem fine_of {M : List (List Int)} (h : fineB M = true) : FineM M := by
  unfold fineB at h
  simp only [Bool.and_eq_true, decide_eq_true_eq, List.all_eq_true, List.mem_range] at h
  obtain ⟨a, b, c, d, e, f⟩ := h
  exact ⟨⟨a, b, c, d, e, f⟩⟩
theorem rot_fine : ∀ M ∈ bases, ∀ one, one < M.length → ∀ other, other < M.length → fineB (rotM M one other) = true := by decide +kernel
theorem bases_len : ∀ M ∈ bases, 1 ≤ M.length ∧ M.length ≤ 7 ∧ ∀ row ∈ M, row.length = M.length := by decide +kernel
theorem cut_from {xs : List V} {r : Nat} (h : r ≤ xs.length) : cutV xs (some (r : Int)) none = xs.drop r := by
  unfold cutV
  rw [HT.sIx_nat, HT.sIx_none, Nat.min_eq_left h]
  exact List.take_of_length_le (by rw [List.length_drop]; exact Nat.le_refl _)
theorem cut_to {xs : List V} {r : Nat} (h : r ≤ xs.length) : cutV xs none (some (r : Int)) = xs.take r := by
  unfold cutV
  rw [HT.sIx_nat, HT.sIx_none, Nat.min_eq_left h]
  rfl
theorem Mat.turn {K : PySem.W.Frag} {p : Addr} {H H' : Hp} (e : Ltn p H H') {M : List (List Int)} {xs : List V} (h : Mat K H M xs) : Mat K H' M xs := Paired.mapP h fun _ _ ⟨c, q, z⟩ => ⟨c, q, e.seqT z⟩
theorem atI_in {xs : List V} {r : Int} (h0 : 0 ≤ r) (h1 : r < xs.length) : ∃ x, x ∈ xs ∧ atI xs r = some x := by
  obtain ⟨n, rfl⟩ : ∃ n : Nat, r = n := ⟨r.toNat, by omega⟩
  have hn : n < xs.length := by omega
  exact ⟨xs[n], List.getElem_mem hn, atI_nat (List.getElem?_eq_getElem hn)⟩
end K54

namespace K54
open PySem L2 PyProof.Rows
theorem Mat.drop {K : PySem.W.Frag} {H : Hp} : ∀ {M : List (List Int)} {xs : List V} (r : Nat), Mat K H M xs → Mat K H (M.drop r) (xs.drop r)
  | _, _, 0, h => h
  | _, _, _ + 1, .nil => .nil
  | _, _, r + 1, .cons _ t => Mat.drop r t
theorem Mat.take {K : PySem.W.Frag} {H : Hp} : ∀ {M : List (List Int)} {xs : List V} (r : Nat), Mat K H M xs → Mat K H (M.take r) (xs.take r)
  | _, _, 0, _ => .nil
  | _, _, _ + 1, .nil => .nil
  | _, _, r + 1, .cons a t => .cons a (Mat.take r t)
theorem Mat.rot {K : PySem.W.Frag} {H : Hp} {M : List (List Int)} {xs : List V} (r : Nat) (h : Mat K H M xs) : Mat K H (rotL M r) (rotL xs r) := Paired.app (Mat.drop r h) (Mat.take r h)
theorem rotL_len {α : Type} {l : List α} {r : Nat} (h : r ≤ l.length) : (rotL l r).length = l.length := by
  unfold rotL
  rw [List.length_append, List.length_drop, List.length_take]
  omega
theorem cut_rot {xs : List V} {r : Nat} (h : r ≤ xs.length) : cutV xs (some (r : Int)) none ++ cutV xs none (some (r : Int)) = rotL xs r := by rw [cut_from h, cut_to h]; rfl
theorem rot_map {α β : Type} (f : α → β) (l : List α) (r : Nat) : rotL (l.map f) r = (rotL l r).map f := by
  unfold rotL
  rw [List.map_append, List.map_drop, List.map_take]
theorem mem_rot {α : Type} {l : List α} {r : Nat} {x : α} (h : x ∈ rotL l r) : x ∈ l := by
  rcases List.mem_append.mp h with h | h
  · exact List.mem_of_mem_drop h
  · exact List.mem_of_mem_take h
section
variable {P : Program} {w : World} {K : PySem.W.Frag} {mg : Str → Option Value} {base : Heap}
def RowIs (K : PySem.W.Frag) (row : List Int) (H : Hp) (v : V) : Prop := ∃ c, v = .ref c ∧ SqT K H c (row.map V.int)
def BaseV (K : PySem.W.Frag) (H : Hp) (v : V) : Prop := ∃ p xs M, v = .ref p ∧ SqT K H p xs ∧ Mat K H M xs ∧ M ∈ bases
theorem RowIs.grows {row : List Int} : GrowsR (RowIs K row) := fun _ _ _ ⟨c, e, q⟩ s => ⟨c, e, s.tup q⟩
theorem BaseV.grows : GrowsR (BaseV K) := fun _ _ _ ⟨p, xs, M, e, q, m, b⟩ s => ⟨p, xs, M, e, s.tup q, m.same s, b⟩
theorem BaseV.turn {p : Addr} {H H' : Hp} {v : V} (e : Ltn p H H') (h : BaseV K H v) : BaseV K H' v := let ⟨a, xs, M, e1, q, m, b⟩ := h; ⟨a, xs, M, e1, e.seqT q, Mat.turn e m, b⟩
def TTr (_ : L2.St) (_ : Hp) : Prop := True
section
variable {X : Cx}
theorem zs_set {i : Nat} {x : Str} {e : Expr} {te : TE} {pos pos' : Pos} (hN : X.N.Nodup) (hi : X.N[i]? = some x) (hx : Loc X.env.scope x) (he : ZE X e te) (hs : swapsWith e (some (.Name x pos')) pos.line X.env = pure false := by rfl) (hf : X.fn x = true ∨ X.env.scope.names.lookup x = some .local := by first | exact .inl rfl | exact .inr rfl | assumption) :
    ZS X (.Assign [.Name x pos'] e pos) (tAsg te (gName i)) := ⟨ps_set hN hi hx he.p hs hf⟩
end
/-! ### _law_square_by -/
def spBy (K : PySem.W.Frag) : Sp := fun vs H Q _ => ∃ p, vs = [.ref p] ∧ Pen H p ∧ ∀ a xs M H', SqT K H' a xs → Mat K H' M xs → FineM M → Pen H' p → SameBut p H H' → Q (.ref a) H'
def byN : List Str := ["pen", "some", "square", "size", "rows", "row", "one", "other"]
def byM : List Str := ["pen", "some", "square", "size", "rows", "", "one", "other"]
theorem scBy : FnScope byN ["pen"] (defScope (top 18)) := ⟨rfl, rfl, rfl, by decide +kernel, rfl, by decide +kernel, by decide +kernel⟩
def scByA : Scope := { kind := .function, names := [(".0", .local), ("k", .local), ("row", .free), ("size", .free)], isGenerator := false, isCoroutine := false, more := [] }
def scByB : Scope := { kind := .function, names := [(".0", .local), ("row", .local), ("other", .free)], isGenerator := false, isCoroutine := false, more := [] }
theorem bkByA : BlkD (defScope (top 18)) byN scByA byN ["k"] := ⟨rfl, by decide +kernel, by decide +kernel, by decide +kernel, rfl, by decide +kernel, by decide +kernel, by decide +kernel, by decide +kernel⟩
theorem bkByB : BlkD (defScope (top 18)) byN scByB byM ["row"] := ⟨rfl, by decide +kernel, by decide +kernel, by decide +kernel, rfl, by decide +kernel, by decide +kernel, by decide +kernel, by decide +kernel⟩
theorem ok_by (h : Has K mg "_law_square_by" (top 18) ["pen"]) (T : Txt mg) (GD : Ok P w K mg base "_law_draw" ["pen", "many"] 2 spDraw) : Ok P w K mg base "_law_square_by" ["pen"] 3 (spBy K) := by
  refine h.ok scBy (fun vs H Q E h => ?_) (fun f cdv A outer s H vs Q E hr h => ?_)
  · obtain ⟨p, rfl, _⟩ := h; rfl
  · obtain ⟨p, rfl, pen0, q⟩ := h
    have small : ∀ {n : Nat}, n ≤ 1000 → n ≤ sizeLine := fun h => Nat.le_of_lt (small1000 h)
    let X := (cxOf CX0 P w K mg base byN "_law_square_by" (defScope (top 18)) f cdv A outer s H E).nox
    have hrest : ∃ t3, PSs X ((defBody (top 18)).drop 3) t3 ∧
        ∀ (sq : Addr) (xs : List V) (M : List (List Int)) (v1 v3 v4 v5 v6 v7 : Option V) (H2 : Hp), SqT K H2 sq xs → Mat K H2 M xs → M ∈ bases → Pen H2 p → SameBut p H H2 →
          t3 { nx := fun _ H' => Q .non H', rt := Q } [some (.ref p), v1, some (.ref sq), v3, v4, v5, v6, v7] H2 := by
      refine ⟨_, pss_cons (ps_set (i := 6) scBy.nd rfl (Or.inl rfl) (pe_callG GD hr (by rfl) (pa_cons (pv 0) (pa_cons (pe_callB call_len_seq (by rfl) T.len PySem.boot_len (pa_cons (pv 2) pa_nil)) pa_nil))))
        (pss_cons (ps_set (i := 2) scBy.nd rfl (Or.inl rfl) (pe_op op_catU (pe_slice sl_tupU (pv 2) (po_some (pv 6)) po_none) (pe_slice sl_tupU (pv 2) po_none (po_some (pv 6)))))
        (pss_cons (ps_set (i := 7) scBy.nd rfl (Or.inr rfl) (pe_callG GD hr (by rfl) (pa_cons (pv 0) (pa_cons (pe_callB call_len_seq (by rfl) T.len PySem.boot_len (pa_cons (pv 2) pa_nil)) pa_nil))))
        (pss_one (ps_ret (pe_callTy call_tuple_of (by rfl) T.tuple PyProof.Rows.boot_tuple (pa_cons (pe_comp (M := byM) (tgs := ["row"]) rfl bkByB.ok (pi_tup (pv 2)) (fun cl C fp s H => pg_name (i := 8) bkByB.nd rfl (Or.inl rfl)) (fun cl C fp s H => pif0)
          (fun cl C fp s H => pe_op (r := rCatU K) op_catU (pe_slice (r := rSlU K) sl_tupU (pv 8) (po_some (pv 7)) po_none) (pe_slice (r := rSlU K) sl_tupU (pv 8) po_none (po_some (pv 7))))) pa_nil)))))), ?_⟩
      intro sq xs M v1 v3 v4 v5 v6 v7 H2 hsq hM bM pen2 sb2
      obtain ⟨l1, l7, lr⟩ := bases_len M bM
      have lM := hM.len
      refine ⟨_, rfl, _, rfl, sq, xs, rfl, .inr hsq, p, _, rfl, pen2, by omega, by omega, fun r H3 r0 r1 pen3 e3 => ?_⟩
      obtain ⟨rn, rfl⟩ : ∃ n : Nat, r = n := ⟨r.toNat, by omega⟩
      have hsq3 := (Ltn.pen pen2 pen3 e3).seqT hsq
      have hM3 := Mat.turn (Ltn.pen pen2 pen3 e3) hM
      have sb3 := sb2.trans (but_of e3)
      refine ⟨_, rfl, _, rfl, _, rfl, sq, xs, rfl, hsq3, fun a1 H4 ha1 s4 => ⟨_, rfl, _, rfl, _, rfl, sq, xs, rfl, s4.tup hsq3, fun a2 H5 ha2 s5 => ⟨a1, a2, _, _, rfl, rfl, s5.tup ha1, ha2, small ?_, fun sq2 H6 h6 s6 => ?_⟩⟩⟩
      · have h1 := cutV_length xs (some ((rn : Nat) : Int)) none
        have h2 := cutV_length xs none (some ((rn : Nat) : Int))
        omega
      rw [cut_rot (by omega)] at h6
      have up6 := s4.trans (s5.trans s6)
      have hM6 := (Mat.rot rn hM3).same up6
      have lx : (rotL xs rn).length = xs.length := rotL_len (by omega)
      have pen6 := pen3.same up6
      refine ⟨_, rfl, _, rfl, sq2, _, rfl, .inr h6, p, _, rfl, pen6, by omega, by omega, fun r' H7 r0' r1' pen7 e7 => ?_⟩
      obtain ⟨rm, rfl⟩ : ∃ n : Nat, r' = n := ⟨r'.toNat, by omega⟩
      have hsq7 := (Ltn.pen pen6 pen7 e7).seqT h6
      have hM7 := Mat.turn (Ltn.pen pen6 pen7 e7) hM6
      have sb7 := (sb3.same up6).trans (but_of e7)
      refine ⟨_, rfl, sq2, rfl, ⟨_, hsq7⟩, comp_tup (K := K) (a := sq2) (xs := rotL xs rn) (fun m ys H' => Same H7 H' ∧ Mat K H' (((rotL M rn).take m).map fun row => rotL row rm) ys) ⟨Same.refl _, .nil⟩ (fun m ys H' hm pv => ?_) (fun m x ys H' hx hm pv => ?_) (fun ys H' pv l hl => ?_)⟩
      · refine ⟨pv.1.tup hsq7, small ?_⟩
        rw [← pv.2.len, List.length_map, List.length_take]
        omega
      · obtain ⟨e, m2⟩ := pv
        obtain ⟨row, c, hrow, rfl, hc⟩ := hM7.get hx
        have lrow := lr row (mem_rot (List.mem_of_getElem? hrow))
        have hc' := e.tup hc
        refine ⟨rfl, _, rfl, _, rfl, _, rfl, c, _, rfl, hc', fun b1 G1 hb1 t1 => ⟨_, rfl, _, rfl, _, rfl, c, _, rfl, t1.tup hc', fun b2 G2 hb2 t2 => ⟨b1, b2, _, _, rfl, rfl, t2.tup hb1, hb2, small ?_, fun b3 G3 hb3 t3 => .mk hm ⟨e.trans (t1.trans (t2.trans t3)), ?_⟩⟩⟩⟩
        · have h1 := cutV_length (row.map V.int) (some ((rm : Nat) : Int)) none
          have h2 := cutV_length (row.map V.int) none (some ((rm : Nat) : Int))
          rw [List.length_map] at h1 h2
          omega
        rw [cut_rot (by rw [List.length_map]; omega), rot_map] at hb3
        rw [List.take_add_one, hrow, List.map_append]
        exact Paired.app (m2.same (t1.trans (t2.trans t3))) (.cons ⟨b3, rfl, hb3⟩ .nil)
      · obtain ⟨e, m2⟩ := pv
        refine ⟨l, _, rfl, .inl ⟨.inl (.inl upd_same), fun nt hnt => ?_⟩⟩
        have up := e.trans ((Same.upd (o := .lst ys) hl).trans (Same.upd (o := .tup ys) hnt))
        have lr' : (rotL xs rn).length = (rotL M rn).length := by rw [rotL_len (by omega), rotL_len (by omega)]; omega
        rw [lr', List.take_length] at m2
        exact q nt ys (rotM M rn rm) _ (.inl (.inl upd_same)) (m2.same ((Same.upd (o := .lst ys) hl).trans (Same.upd (o := .tup ys) hnt))) (fine_of (rot_fine M bM rn (by omega) rm (by omega))) (pen7.same up) (sb7.same up)
    obtain ⟨t3, h3, r3⟩ := hrest
    have hif : ∃ t2, PSs X ((defBody (top 18)).drop 2) t2 ∧
        ∀ (sq : Addr) (xs : List V) (M : List (List Int)) (v1 v3 v4 v5 v6 v7 : Option V) (H2 : Hp), SqT K H2 sq xs → Mat K H2 M xs → M ∈ bases → Pen H2 p → SameBut p H H2 →
          t2 { nx := fun _ H' => Q .non H', rt := Q } [some (.ref p), v1, some (.ref sq), v3, v4, v5, v6, v7] H2 := by
      refine ⟨_, pss_cons (ps_if (pt_cmpR op_eq (pe_callG GD hr (by rfl) (pa_cons (pv 0) (pa_cons pe_int pa_nil))) pe_int (nomark _))
        (pss_cons (ps_set (i := 3) scBy.nd rfl (Or.inr rfl) (pe_ix ix_list (pe_lst (pa_cons pe_int (pa_cons pe_int pa_nil))) (pe_callG GD hr (by rfl) (pa_cons (pv 0) (pa_cons pe_int pa_nil))) (fun _ _ => rfl)))
        (pss_cons (ps_set (i := 4) scBy.nd rfl (Or.inl rfl) (pe_lst pa_nil))
        (pss_cons (ps_for PassesOwn.never rfl (pi_range1 (by rfl) T.range (pa_cons (pv 3) pa_nil)) (pg_name (i := 5) scBy.nd rfl (Or.inr rfl))
          (pss_one (ps_expr (pe_bm PySem.F.plainAttrs_list PySem.F.slot_list_append PySem.F.type_list_append mt_append (pv 4) (pa_cons (pe_callTy call_tuple_of (by rfl) T.tuple PyProof.Rows.boot_tuple (pa_cons
            (pe_comp (M := byN) (tgs := ["k"]) rfl bkByA.ok (pi_range1 (by rfl) T.range (pa_cons (pv 3) pa_nil)) (fun cl C fp s H => pg_name (i := 8) bkByA.nd rfl (Or.inl rfl)) (fun cl C fp s H => pif0)
              (fun cl C fp s H => pe_op op_add (pe_op op_add (pe_op op_mul (pv 3) (pe_op op_mod (pe_op op_add (pv 5) (pe_op op_mul pe_int (pv 8))) (pv 3))) (pe_op op_mod (pe_op op_add (pv 5) (pe_op op_mul pe_int (pv 8))) (pv 3))) pe_int)) pa_nil)) pa_nil)))))
        (pss_one (ps_set (i := 2) scBy.nd rfl (Or.inl rfl) (pe_callTy call_tuple_of (by rfl) T.tuple PyProof.Rows.boot_tuple (pa_cons (pv 4) pa_nil)))))))
        pss_nil) h3, ?_⟩
      intro sq xs M v1 v3 v4 v5 v6 v7 H2 hsq hM bM pen2 sb2
      refine ⟨_, rfl, p, 2, rfl, pen2, by decide, by decide, fun r H3 r0 r1 pen3 e3 => ⟨rfl, _, rfl, iteB (fun c => ?_) fun c => r3 sq xs M _ _ _ _ _ _ H3 ((Ltn.pen pen2 pen3 e3).seqT hsq) (Mat.turn (Ltn.pen pen2 pen3 e3) hM) bM pen3 (sb2.trans (but_of e3))⟩⟩
      refine ⟨by show 2 ≤ sizeLine; decide, fun l8 hl8 => ⟨_, rfl, p, 2, rfl, pen3.same (Same.upd hl8), by decide, by decide, fun r' H5 ra rb pen5 e5 => ?_⟩⟩
      have nl8 : l8 ≠ p := (pen3.ne hl8).symm
      have sb5 : SameBut p H H5 := ((sb2.trans (but_of e3)).same (Same.upd hl8)).trans (but_of e5)
      have pick : ∃ j : Int, atI [V.int 5, .int 7] r' = some (.int j) ∧ (j = 5 ∨ j = 7) := by
        have : r' = 0 ∨ r' = 1 := by omega
        rcases this with rfl | rfl
        · exact ⟨5, rfl, .inl rfl⟩
        · exact ⟨7, rfl, .inr rfl⟩
      obtain ⟨j, hj, j57⟩ := pick
      refine ⟨l8, _, r', _, rfl, rfl, .inl (.inl (by rw [e5 l8 nl8]; exact upd_same)), hj, by show 0 ≤ sizeLine; decide, fun rl hrl => ?_⟩
      have j0 : 0 < j := by omega
      have j9 : j ≤ 9 := by omega
      have nrl : rl ≠ p := (pen5.ne hrl).symm
      have hrlH : H rl = none ∨ True := .inr trivial
      have fresh : ∀ b o, b ≠ p → H b = some o → b ≠ rl := fun b o nb hb => ne_of_none (sb5 b o nb hb) hrl
      refine ⟨_, rfl, j, rfl, by omega, by omega, ?_⟩
      refine for_range (lo := 0) (n := j.toNat) (fun k σ H' => ∃ w5 ys, σ = [some (.ref p), v1, some (.ref sq), some (.int j), some (.ref rl), w5, v6, v7] ∧ H' rl = some (.lst ys) ∧ Mat K H' ((List.range k).map fun (r : Nat) => lawRow j r) ys ∧ Pen H' p ∧ SameBut p H H') ⟨_, [], rfl, upd_same, .nil, pen5.same (Same.upd hrl), sb5.same (Same.upd hrl)⟩ ?_ ?_
      · rintro k σ H6 hk ⟨w5, ys, rfl, hr6, m6, pen6, sb6⟩
        rw [Int.zero_add]
        refine ⟨_, rfl, .inl ⟨rfl, _, .inl (.inl hr6)⟩, _, rfl, j, rfl, by omega, by omega, ?_⟩
        refine comp_range (n := j.toNat) (fun m zs H' => Same H6 H' ∧ zs = ((List.range m).map fun (c : Nat) => V.int (j * (((k : Nat) + 2 * c) % j) + ((k : Nat) + 3 * c) % j + 1))) ⟨Same.refl _, rfl⟩ (fun m zs H' hm pv => ?_) (fun m zs H' hm pv => ?_) (fun zs H' pv l hl => ?_)
        · obtain ⟨_, rfl⟩ := pv
          rw [List.length_map, List.length_range]
          exact small (by omega)
        · obtain ⟨e, rfl⟩ := pv
          rw [Int.zero_add]
          have cm : ∀ {x : Int}, CMul j x := fun {x} => .inl ⟨by omega, by omega⟩
          refine ⟨rfl, _, rfl, _, rfl, _, rfl, _, _, rfl, rfl, .inl ⟨by decide, by decide⟩, _, _, rfl, rfl, _, rfl, _, _, rfl, rfl, j0, _, _, rfl, rfl, cm, _, rfl, _, rfl, _, _, rfl, rfl, .inl ⟨by decide, by decide⟩, _, _, rfl, rfl, _, rfl, _, _, rfl, rfl, j0, _, _, rfl, rfl, _, _, rfl, rfl, .mk hm ⟨e, ?_⟩⟩
          rw [List.range_succ, List.map_append]
          rfl
        · obtain ⟨e, rfl⟩ := pv
          refine ⟨l, _, rfl, .inl ⟨.inl (.inl upd_same), fun nt hnt => ?_⟩⟩
          have up := e.trans ((Same.upd (o := .lst ((List.range j.toNat).map fun (c : Nat) => V.int (j * (((k : Nat) + 2 * c) % j) + ((k : Nat) + 3 * c) % j + 1))) hl).trans (Same.upd (o := .tup ((List.range j.toNat).map fun (c : Nat) => V.int (j * (((k : Nat) + 2 * c) % j) + ((k : Nat) + 3 * c) % j + 1))) hnt))
          have hr7 := up _ _ hr6
          have lt := Ltn.upd (ys := ys ++ [.ref nt]) hr7
          have ly : ys.length = k := by rw [← m6.len, List.length_map, List.length_range]
          refine ⟨rl, _, _, rfl, rfl, hr7, small1000 (by omega), _, _, rfl, upd_same, ?_, ?_, fun b o nb hb => ?_⟩
          · rw [List.range_succ, List.map_append]
            refine Paired.app (Mat.turn lt (m6.same up)) (.cons ⟨nt, rfl, lt.seqT (.inl (.inl ?_))⟩ .nil)
            rw [upd_same]
            unfold lawRow
            rw [List.map_map]
            rfl
          · obtain ⟨a1, a2, a3, a4⟩ := pen6.same up
            exact ⟨a1, a2, a3, by rw [upd_ne (Ne.symm nrl)]; exact a4⟩
          · rw [upd_ne (fresh b o nb hb)]
            exact up _ _ (sb6 b o nb hb)
      · rintro σ H6 ⟨w5, ys, rfl, hr6, m6, pen6, sb6⟩
        refine ⟨_, rfl, rl, _, rfl, .inl ⟨.inl (.inl hr6), fun nt hnt => ?_⟩⟩
        have b1 := Same.upd (o := .tup ys) hnt
        refine r3 nt ys (lawSq j) _ _ _ _ _ _ _ (.inl (.inl upd_same)) (m6.same b1) ?_ (pen6.same b1) (sb6.same b1)
        rcases j57 with rfl | rfl
        · unfold bases; simp
        · unfold bases; simp
    obtain ⟨t2, h2, r2⟩ := hif
    have gT : Grows TTr := fun _ _ _ _ _ => trivial
    have gB : GrowsR (BaseV K) := BaseV.grows
    refine zss_out ⟨_, zss_cons (zs_set (i := 1) scBy.nd rfl (Or.inl rfl) (ze_lst (zra_cons gT gB (zx_of (R := BaseV K) (Pre := TTr) (ze_tup (za_cons (zx_of (R := RowIs K [1]) (Pre := TTr) (ze_tup (za_cons (ze_of pe_int) za_nil)) fun σ H Q _ q => ⟨by show 1 ≤ sizeLine; decide, fun a ha => q _ _ (Same.upd ha) ⟨a, rfl, .inl (.inl upd_same)⟩⟩) za_nil)) fun σ H Q _ q => ⟨trivial, fun v0 H0 s0 k0 => ⟨by show 1 ≤ sizeLine; decide, fun a ha => q _ _ (s0.trans (Same.upd ha)) ⟨a, _, m1, rfl, .inl (.inl upd_same), (.cons (RowIs.grows _ _ _ k0 (Same.upd ha)) .nil), by unfold bases; simp⟩⟩⟩) (zra_cons gT gB (zx_of (R := BaseV K) (Pre := TTr) (ze_tup (za_cons (zx_of (R := RowIs K [8, 1, 6]) (Pre := TTr) (ze_tup (za_cons (ze_of pe_int) (za_cons (ze_of pe_int) (za_cons (ze_of pe_int) za_nil)))) fun σ H Q _ q => ⟨by show 3 ≤ sizeLine; decide, fun a ha => q _ _ (Same.upd ha) ⟨a, rfl, .inl (.inl upd_same)⟩⟩) (za_cons (zx_of (R := RowIs K [3, 5, 7]) (Pre := TTr) (ze_tup (za_cons (ze_of pe_int) (za_cons (ze_of pe_int) (za_cons (ze_of pe_int) za_nil)))) fun σ H Q _ q => ⟨by show 3 ≤ sizeLine; decide, fun a ha => q _ _ (Same.upd ha) ⟨a, rfl, .inl (.inl upd_same)⟩⟩) (za_cons (zx_of (R := RowIs K [4, 9, 2]) (Pre := TTr) (ze_tup (za_cons (ze_of pe_int) (za_cons (ze_of pe_int) (za_cons (ze_of pe_int) za_nil)))) fun σ H Q _ q => ⟨by show 3 ≤ sizeLine; decide, fun a ha => q _ _ (Same.upd ha) ⟨a, rfl, .inl (.inl upd_same)⟩⟩) za_nil)))) fun σ H Q _ q => ⟨trivial, fun v0 H0 s0 k0 => ⟨trivial, fun v1 H1 s1 k1 => ⟨trivial, fun v2 H2 s2 k2 => ⟨by show 3 ≤ sizeLine; decide, fun a ha => q _ _ (s0.trans (s1.trans (s2.trans (Same.upd ha)))) ⟨a, _, m3, rfl, .inl (.inl upd_same), (.cons (RowIs.grows _ _ _ k0 (s1.trans (s2.trans (Same.upd ha)))) (.cons (RowIs.grows _ _ _ k1 (s2.trans (Same.upd ha))) (.cons (RowIs.grows _ _ _ k2 (Same.upd ha)) .nil))), by unfold bases; simp⟩⟩⟩⟩⟩) (zra_cons gT gB (zx_of (R := BaseV K) (Pre := TTr) (ze_tup (za_cons (zx_of (R := RowIs K [1, 15, 14, 4]) (Pre := TTr) (ze_tup (za_cons (ze_of pe_int) (za_cons (ze_of pe_int) (za_cons (ze_of pe_int) (za_cons (ze_of pe_int) za_nil))))) fun σ H Q _ q => ⟨by show 4 ≤ sizeLine; decide, fun a ha => q _ _ (Same.upd ha) ⟨a, rfl, .inl (.inl upd_same)⟩⟩) (za_cons (zx_of (R := RowIs K [12, 6, 7, 9]) (Pre := TTr) (ze_tup (za_cons (ze_of pe_int) (za_cons (ze_of pe_int) (za_cons (ze_of pe_int) (za_cons (ze_of pe_int) za_nil))))) fun σ H Q _ q => ⟨by show 4 ≤ sizeLine; decide, fun a ha => q _ _ (Same.upd ha) ⟨a, rfl, .inl (.inl upd_same)⟩⟩) (za_cons (zx_of (R := RowIs K [8, 10, 11, 5]) (Pre := TTr) (ze_tup (za_cons (ze_of pe_int) (za_cons (ze_of pe_int) (za_cons (ze_of pe_int) (za_cons (ze_of pe_int) za_nil))))) fun σ H Q _ q => ⟨by show 4 ≤ sizeLine; decide, fun a ha => q _ _ (Same.upd ha) ⟨a, rfl, .inl (.inl upd_same)⟩⟩) (za_cons (zx_of (R := RowIs K [13, 3, 2, 16]) (Pre := TTr) (ze_tup (za_cons (ze_of pe_int) (za_cons (ze_of pe_int) (za_cons (ze_of pe_int) (za_cons (ze_of pe_int) za_nil))))) fun σ H Q _ q => ⟨by show 4 ≤ sizeLine; decide, fun a ha => q _ _ (Same.upd ha) ⟨a, rfl, .inl (.inl upd_same)⟩⟩) za_nil))))) fun σ H Q _ q => ⟨trivial, fun v0 H0 s0 k0 => ⟨trivial, fun v1 H1 s1 k1 => ⟨trivial, fun v2 H2 s2 k2 => ⟨trivial, fun v3 H3 s3 k3 => ⟨by show 4 ≤ sizeLine; decide, fun a ha => q _ _ (s0.trans (s1.trans (s2.trans (s3.trans (Same.upd ha))))) ⟨a, _, m4, rfl, .inl (.inl upd_same), (.cons (RowIs.grows _ _ _ k0 (s1.trans (s2.trans (s3.trans (Same.upd ha))))) (.cons (RowIs.grows _ _ _ k1 (s2.trans (s3.trans (Same.upd ha)))) (.cons (RowIs.grows _ _ _ k2 (s3.trans (Same.upd ha))) (.cons (RowIs.grows _ _ _ k3 (Same.upd ha)) .nil)))), by unfold bases; simp⟩⟩⟩⟩⟩⟩) zra_nil)))))
      (zss_of (pss_cons (ps_set (i := 2) scBy.nd rfl (Or.inl rfl) (pe_ix ix_list (pv 1) (pe_callG GD hr (by rfl) (pa_cons (pv 0) (pa_cons pe_int pa_nil))) (fun _ _ => rfl))) h2)), ?_⟩
    refine ⟨trivial, fun vs H1 s1 lv kv => ⟨small (by omega), fun l1 hl1 => ?_⟩⟩
    have b1 := Same.upd (o := .lst vs) hl1
    have pen1 := pen0.same (s1.trans b1)
    have nl1 : l1 ≠ p := ((pen0.same s1).ne hl1).symm
    refine ⟨_, rfl, _, rfl, p, 3, rfl, pen1, by decide, by decide, fun r H3 r0 r1 pen3 e3 => ?_⟩
    obtain ⟨x, hx, ex⟩ := atI_in (xs := vs) r0 (by omega)
    have lt := Ltn.pen pen1 pen3 e3
    obtain ⟨sq, xs, M, rfl, hsq, hM, bM⟩ := BaseV.turn lt (BaseV.grows _ _ _ (kv x hx) b1)
    refine ⟨l1, vs, r, _, rfl, rfl, .inl (.inl (by rw [e3 l1 nl1]; exact upd_same)), ex, ?_⟩
    exact r2 sq xs M _ _ _ _ _ _ H3 hsq hM bM pen3 (((SameBut.refl p H).same (s1.trans b1)).trans (but_of e3))
end
end K54

namespace K54
open PySem L2 PyProof.Rows
/-! squares turned and moved: lists alone -/
abbrev Sq := List (List Int)
def opp (M : Sq) : Sq := M.map fun row => row.map fun x => ((M.length : Nat) : Int) * ((M.length : Nat) : Int) + 1 - x
def tr (M : Sq) : Sq := (List.range M.length).map fun j => M.map fun row => row.getD j 0
def mv (M : Sq) (rs cs : List Nat) : Sq := rs.map fun r => cs.map fun c => (M.getD r []).getD c 0
theorem row_self {row : List Int} {n : Nat} (h : row.length = n) : (List.range n).map (fun j => row.getD j 0) = row := by
  subst h
  rw [St2.take_map row row.length (Nat.le_refl _), List.take_length]
theorem getD_mem {α : Type} {l : List α} {k : Nat} {d : α} (h : k < l.length) : l.getD k d ∈ l := by
  rw [List.getD_eq_getElem?_getD, List.getElem?_eq_getElem h]
  exact List.getElem_mem h
theorem getD_map {α β : Type} {f : α → β} {l : List α} {k : Nat} {d : α} {e : β} (h : k < l.length) : (l.map f).getD k e = f (l.getD k d) := by
  rw [List.getD_eq_getElem?_getD, List.getElem?_map, List.getElem?_eq_getElem h, List.getD_eq_getElem?_getD, List.getElem?_eq_getElem h]
  rfl
theorem good_mk {M : Sq} {n : Nat} {S : Int} (len : M.length = n) (h1 : 1 ≤ n) (h7 : n ≤ 7) (rows : ∀ row ∈ M, row.length = n) (nums : M.flatten.Perm (oneTo (n * n))) (rs : ∀ row ∈ M, row.sum = S) (cs : ∀ k, k < n → (M.map fun r => r.getD k 0).sum = S) : GoodM M := by
  subst len
  have z : (M.getD 0 []).sum = S := rs _ (getD_mem h1)
  exact ⟨h1, h7, rows, nums, fun k hk => by rw [z]; exact rs _ (getD_mem hk), fun k hk => by rw [z]; exact cs k hk⟩
theorem GoodM.rsum {M : Sq} (g : GoodM M) : ∀ row ∈ M, row.sum = (M.getD 0 []).sum := fun row hr => by
  obtain ⟨k, hk, e⟩ := List.mem_iff_getElem.mp hr
  have := g.row k hk
  rw [List.getD_eq_getElem?_getD, List.getElem?_eq_getElem hk] at this
  rw [← e]
  exact this
theorem flat_cons {α : Type} {f : α → Int} {g : α → List Int} : ∀ l : List α, (l.map fun j => f j :: g j).flatten.Perm (l.map f ++ (l.map g).flatten)
  | [] => List.Perm.refl _
  | a :: l => by
    show (f a :: (g a ++ (l.map fun j => f j :: g j).flatten)).Perm (f a :: (l.map f ++ (g a ++ (l.map g).flatten)))
    refine List.Perm.cons _ (((flat_cons l).append_left (g a)).trans ?_)
    rw [← List.append_assoc, ← List.append_assoc]
    exact List.perm_append_comm.append_right _
theorem flat_tr {n : Nat} : ∀ {M : Sq}, (∀ row ∈ M, row.length = n) → ((List.range n).map fun j => M.map fun row => row.getD j 0).flatten.Perm M.flatten
  | [], _ => by
    have : ((List.range n).map fun j => ([] : Sq).map fun row => row.getD j 0).flatten = [] := by
      rw [List.flatten_eq_nil_iff]
      intro l hl
      obtain ⟨_, _, rfl⟩ := List.mem_map.mp hl
      rfl
    rw [this]
    exact List.Perm.refl _
  | row :: R, h => by
    refine (flat_cons (f := fun j => row.getD j 0) (g := fun j => R.map fun row => row.getD j 0) (List.range n)).trans ?_
    rw [row_self (h row (by simp)), List.flatten_cons]
    exact (flat_tr fun r hr => h r (by simp [hr])).append_left row
theorem tr_len (M : Sq) : (tr M).length = M.length := by unfold tr; rw [List.length_map, List.length_range]
theorem good_tr {M : Sq} (g : GoodM M) : GoodM (tr M) := by
  refine good_mk (S := (M.getD 0 []).sum) (tr_len M) g.pos g.le (fun row hr => ?_) ((flat_tr g.rows).trans g.nums) (fun row hr => ?_) fun k hk => ?_
  · obtain ⟨j, _, rfl⟩ := List.mem_map.mp hr
    rw [List.length_map]
  · obtain ⟨j, hj, rfl⟩ := List.mem_map.mp hr
    exact g.col j (List.mem_range.mp hj)
  · have e : (tr M).map (fun r => r.getD k 0) = (List.range M.length).map fun j => (M.getD k []).getD j 0 := by
      unfold tr
      rw [List.map_map]
      refine List.map_congr_left fun j _ => ?_
      show (M.map _).getD k 0 = _
      rw [getD_map (d := []) hk]
    rw [e, row_self (g.rows _ (getD_mem hk))]
    exact g.rsum _ (getD_mem hk)
end K54

namespace K54
open PySem L2 PyProof.Rows
def rTupOf (K : PySem.W.Frag) : List V → Hp → VK → Prop := fun xs H Q => ∃ p ys, xs = [V.ref p] ∧ ((SqL K H p ys ∧ ∀ l, H l = none → Q (.ref l) (upd H l (.tup ys))) ∨ (SqT K H p ys ∧ Q (.ref p) H))
/-- a square that stands in the heap -/
structure SqAt (K : PySem.W.Frag) (H : Hp) (a : Addr) (M : Sq) : Prop where
  at_ : ∃ xs, SqT K H a xs ∧ Mat K H M xs
  le : M.length ≤ 7
  rows : ∀ row ∈ M, row.length = M.length
theorem SqAt.same {K : PySem.W.Frag} {H H' : Hp} {a : Addr} {M : Sq} (h : SqAt K H a M) (e : Same H H') : SqAt K H' a M := by
  obtain ⟨xs, h1, h2⟩ := h.at_
  exact ⟨⟨xs, e.tup h1, h2.same e⟩, h.le, h.rows⟩
section
variable {P : Program} {w : World} {K : PySem.W.Frag} {mg : Str → Option Value} {base : Heap}
/-! ### opposite_square -/
def spOpp (K : PySem.W.Frag) : Sp := fun vs H Q _ => ∃ a M, vs = [.ref a] ∧ SqAt K H a M ∧ ∀ p H', Same H H' → SqAt K H' p (opp M) → Q (.ref p) H'
def opN : List Str := ["square", "whole"]
def scOpA : Scope := { kind := .function, names := [(".0", .local), ("row", .local), ("tuple", .globalImplicit), ("whole", .free)], isGenerator := false, isCoroutine := false, more := [] }
def scOpA' : Scope := { kind := .function, names := [(".0", .local), ("row", .local), ("tuple", .globalImplicit), ("whole", .cell)], isGenerator := false, isCoroutine := false, more := [] }
def scOpB : Scope := { kind := .function, names := [(".0", .local), ("number", .local), ("whole", .free)], isGenerator := false, isCoroutine := false, more := [] }
def opN2 : List Str := ["square", "whole", "row"]
end
end K54

namespace K54
open PySem L2 PyProof.Rows
theorem Mat.getD {K : PySem.W.Frag} {H : Hp} {M : Sq} {xs : List V} {k : Nat} (h : Mat K H M xs) (hk : k < M.length) : ∃ c, xs[k]? = some (.ref c) ∧ SqT K H c ((M.getD k []).map V.int) := by
  have lx := h.len
  have hk' : k < xs.length := by omega
  obtain ⟨row, c, e1, e2, e3⟩ := h.get (List.getElem?_eq_getElem hk')
  refine ⟨c, by rw [List.getElem?_eq_getElem hk', e2], ?_⟩
  rw [List.getD_eq_getElem?_getD, e1]
  exact e3
section
variable {P : Program} {w : World} {K : PySem.W.Frag} {mg : Str → Option Value} {base : Heap}
/-! ### turned_square -/
def spTurn (K : PySem.W.Frag) : Sp := fun vs H Q _ => ∃ a M, vs = [.ref a] ∧ SqAt K H a M ∧ ∀ p H', Same H H' → SqAt K H' p (tr M) → Q (.ref p) H'
theorem scTu : FnScope ["square"] ["square"] (defScope (top 10)) := ⟨rfl, rfl, rfl, by decide +kernel, rfl, by decide +kernel, by decide +kernel⟩
def scTuA : Scope := { kind := .function, names := [(".0", .local), ("column", .cell), ("tuple", .globalImplicit), ("square", .free)], isGenerator := false, isCoroutine := false, more := [] }
def scTuA' : Scope := { kind := .function, names := [(".0", .local), ("column", .cell), ("tuple", .globalImplicit), ("square", .cell)], isGenerator := false, isCoroutine := false, more := [] }
def scTuB : Scope := { kind := .function, names := [(".0", .local), ("row", .local), ("column", .free)], isGenerator := false, isCoroutine := false, more := [] }
theorem bkTuA : BlkDC (defScope (top 10)) ["square"] scTuA ["square"] ["column"] := ⟨rfl, by decide +kernel, by decide +kernel, by decide +kernel, by decide +kernel, rfl, by decide +kernel, by decide +kernel, by decide +kernel, by decide +kernel, by decide +kernel⟩
theorem bkTuB : BlkD scTuA' ["square", "column"] scTuB ["square", "column"] ["row"] := ⟨rfl, by decide +kernel, by decide +kernel, by decide +kernel, rfl, by decide +kernel, by decide +kernel, by decide +kernel, by decide +kernel⟩
theorem ok_turn (h : Has K mg "turned_square" (top 10) ["square"]) (T : Txt mg) : Ok P w K mg base "turned_square" ["square"] 1 (spTurn K) := by
  refine h.ok scTu (fun vs H Q E h => ?_) (fun f cdv A outer s H vs Q E hr h => ?_)
  · obtain ⟨a, M, rfl, _⟩ := h; rfl
  · obtain ⟨a, M, rfl, sq, q⟩ := h
    have small : ∀ {n : Nat}, n ≤ 1000 → n ≤ sizeLine := fun h => Nat.le_of_lt (small1000 h)
    obtain ⟨xs, hx, hM⟩ := sq.at_
    have lM := hM.len
    have l7 := sq.le
    refine ⟨_, pss_one (ps_ret (pe_callTy call_tuple_of (by rfl) T.tuple PyProof.Rows.boot_tuple (pa_cons (pe_compC (M := ["square"]) (tgs := ["column"]) rfl bkTuA.ok (pi_range1 (by rfl) T.range (pa_cons (pe_callB call_len_seq (by rfl) T.len PySem.boot_len (pa_cons (pv 0) pa_nil)) pa_nil)) (fun cl C fp s H => pg_name (i := 1) bkTuA.nd rfl (Or.inr rfl)) (fun cl C fp s H => pif0)
        (fun cl C fp s H => pe_callTy (r := rTupOf K) call_tuple_of (by rfl) T.tuple PyProof.Rows.boot_tuple (pa_cons (pe_comp (M := ["square", "column"]) (tgs := ["row"]) (wi := iTup K (tVar 0)) rfl bkTuB.ok (pi_tup (pv 0)) (fun cl C fp s H => pg_name (i := 2) bkTuB.nd rfl (Or.inl rfl)) (fun cl C fp s H => pif0)
          (fun cl C fp s H => pe_ix (r := rIxT K) ix_tup (pv 2) (pv 1) (fun _ _ => rfl))) pa_nil))) pa_nil))), ?_⟩
    refine ⟨_, rfl, a, xs, rfl, .inr hx, _, rfl, by omega, by omega, comp_range (n := ((xs.length : Nat) : Int).toNat) (fun m ys H' => Same H H' ∧ Mat K H' ((List.range m).map fun j => M.map fun row => row.getD j 0) ys) ⟨Same.refl _, .nil⟩ (fun m ys H' hm pv => ?_) (fun m ys H' hm pv => ?_) (fun ys H' pv l hl => ?_)⟩
    · refine small ?_
      rw [← pv.2.len, List.length_map, List.length_range]
      omega
    · obtain ⟨e, m2⟩ := pv
      have hm7 : m < M.length := by omega
      rw [Int.zero_add]
      refine ⟨rfl, ?_⟩
      refine ⟨_, rfl, a, rfl, ⟨_, e.tup hx⟩, comp_tup (K := K) (a := a) (xs := xs) (fun k zs G => Same H' G ∧ zs = ((M.take k).map fun row => row.getD m 0).map V.int) ⟨Same.refl _, rfl⟩ (fun k zs G hk pv2 => ?_) (fun k z zs G hz hk pv2 => ?_) (fun zs G pv2 l2 hl2 => ?_)⟩
      · obtain ⟨e2, rfl⟩ := pv2
        refine ⟨(e.trans e2).tup hx, small ?_⟩
        rw [List.length_map, List.length_map, List.length_take]
        omega
      · obtain ⟨e2, rfl⟩ := pv2
        obtain ⟨row, c, hrow, rfl, hc⟩ := hM.get hz
        have lrow := sq.rows row (List.mem_of_getElem? hrow)
        refine ⟨rfl, _, rfl, _, rfl, c, _, _, .int (row.getD m 0), rfl, rfl, (e.trans e2).tup hc, at_num (by omega), .mk hk ⟨e2, ?_⟩⟩
        rw [List.take_add_one, hrow, List.map_append, List.map_append]
        rfl
      · obtain ⟨e2, rfl⟩ := pv2
        rw [show M.take xs.length = M by rw [← lM, List.take_length]]
        refine ⟨l2, _, rfl, .inl ⟨.inl (.inl upd_same), fun nt hnt => .mk hm ?_⟩⟩
        have up := e2.trans ((Same.upd (o := .lst ((M.map fun row => row.getD m 0).map V.int)) hl2).trans (Same.upd (o := .tup ((M.map fun row => row.getD m 0).map V.int)) hnt))
        refine ⟨e.trans up, ?_⟩
        rw [List.range_succ, List.map_append]
        exact Paired.app (m2.same up) (.cons ⟨nt, rfl, .inl (.inl upd_same)⟩ .nil)
    · obtain ⟨e, m2⟩ := pv
      rw [Int.toNat_natCast, ← lM] at m2
      refine ⟨l, _, rfl, .inl ⟨.inl (.inl upd_same), fun nt hnt => ?_⟩⟩
      have up := (Same.upd (o := .lst ys) hl).trans (Same.upd (o := .tup ys) hnt)
      refine q nt _ (e.trans up) ⟨⟨ys, .inl (.inl upd_same), m2.same up⟩, by rw [tr_len]; exact l7, fun row hr => ?_⟩
      obtain ⟨r0, h0, rfl⟩ := List.mem_map.mp hr
      rw [List.length_map, tr_len]
/-! ### moved_square -/
structure OrAt (K : PySem.W.Frag) (H : Hp) (a : Addr) (rs : List Nat) (n : Nat) : Prop where
  at_ : SqT K H a ((nI rs).map V.int)
  pm : rs.Perm (List.range n)
def spMove (K : PySem.W.Frag) : Sp := fun vs H Q _ => ∃ a M r c rs cs, vs = [.ref a, .ref r, .ref c] ∧ SqAt K H a M ∧ OrAt K H r rs M.length ∧ OrAt K H c cs M.length ∧ ∀ p H', Same H H' → SqAt K H' p (mv M rs cs) → Q (.ref p) H'
def mvN : List Str := ["square", "rows", "columns"]
def scMvA : Scope := { kind := .function, names := [(".0", .local), ("row", .cell), ("tuple", .globalImplicit), ("columns", .free), ("square", .free)], isGenerator := false, isCoroutine := false, more := [] }
def scMvA' : Scope := { kind := .function, names := [(".0", .local), ("row", .cell), ("tuple", .globalImplicit), ("columns", .cell), ("square", .cell)], isGenerator := false, isCoroutine := false, more := [] }
def scMvB : Scope := { kind := .function, names := [(".0", .local), ("column", .local), ("row", .free), ("square", .free)], isGenerator := false, isCoroutine := false, more := [] }
def mvN2 : List Str := ["square", "rows", "columns", "row"]
end
end K54

namespace K54
open PySem L2 PyProof.Rows
/-- how many unlike numbers -/
def many1 (ns : List Int) : Nat := (St2.kinds ns ns.length).length
theorem many1_le (ns : List Int) : many1 ns ≤ ns.length := St2.kinds_le _
theorem dec1 {k : Nat} : decide (V.int (k : Nat) = V.int 1) = decide (k = 1) := by
  by_cases e : k = 1
  · subst e
    rfl
  · rw [decide_eq_false e, decide_eq_false fun h => e (by have := V.int.inj h; omega)]
def AllIs (l : List Int) (s : Int) : Prop := ∀ x ∈ l, x = s
theorem kinds_mem {l : List Int} {x : Int} : x ∈ St2.kinds l l.length ↔ x ∈ l := by
  have a := firstMet_any (fun j => l.getD j 0) l.length x
  rw [St2.take_map l l.length (Nat.le_refl _), List.take_length] at a
  have m : ∀ {l : List Int}, l.any (· == x) = true ↔ x ∈ l := fun {l} => by
    rw [List.any_eq_true]
    exact ⟨fun ⟨y, hy, e⟩ => (beq_iff_eq.mp e) ▸ hy, fun hx => ⟨x, hx, by simp⟩⟩
  rw [← m, ← m (l := l)]
  show (firstMet (fun j => l.getD j 0) l.length).any (· == x) = true ↔ _
  rw [a]
theorem many1_one {l : List Int} (ne : l ≠ []) : many1 l = 1 ↔ ∃ s, AllIs l s := by
  constructor
  · intro h
    obtain ⟨s, e⟩ := List.length_eq_one_iff.mp h
    exact ⟨s, fun x hx => by have := kinds_mem.mpr hx; rw [e] at this; simpa using this⟩
  · rintro ⟨s, h⟩
    have main : ∀ i, i < l.length → (St2.kinds l (i + 1)).length = 1 := fun i => by
      induction i with
      | zero => intro _; show (firstMet (fun j => l.getD j 0) 1).length = 1; rw [firstMet_succ, step_length, firstMet_zero]; rfl
      | succ i ih =>
        intro hi
        show (firstMet (fun j => l.getD j 0) (i + 1 + 1)).length = 1
        rw [firstMet_succ, step_length]
        have a := firstMet_any (fun j => l.getD j 0) (i + 1) (l.getD (i + 1) 0)
        rw [St2.take_map l (i + 1) (by omega)] at a
        have g : ∀ k, k < l.length → l.getD k 0 = s := fun k hk => h _ (by rw [List.getD_eq_getElem?_getD, List.getElem?_eq_getElem hk]; exact List.getElem_mem hk)
        have t : (l.take (i + 1)).any (· == l.getD (i + 1) 0) = true := by
          rw [List.any_eq_true]
          refine ⟨l.getD 0 0, ?_, by rw [g _ hi, g 0 (by omega)]; simp⟩
          have h0 : 0 < (l.take (i + 1)).length := by rw [List.length_take]; omega
          have : l.getD 0 0 = (l.take (i + 1))[0] := by
            rw [List.getElem_take, List.getD_eq_getElem?_getD, List.getElem?_eq_getElem (by omega)]; rfl
          rw [this]
          exact List.getElem_mem h0
        rw [a, t, if_pos rfl]
        exact ih (by omega)
    have := main (l.length - 1) (by have := List.length_pos_iff.mpr ne; omega)
    unfold many1
    rw [show l.length = l.length - 1 + 1 by have := List.length_pos_iff.mpr ne; omega]
    exact this
section
variable {P : Program} {w : World} {K : PySem.W.Frag} {mg : Str → Option Value} {base : Heap}
def spUnlikeL (K : PySem.W.Frag) : Sp := fun vs H Q _ => ∃ p lo hi xs ds, vs = [.ref p, .int lo, .int hi] ∧ SqL K H p xs ∧ RepL K H ds xs ∧ ds.length ≤ 1000 ∧
  (ds.all (fun d => within d lo hi) = false → ∀ H', Same H H' → Q (.bl false) H') ∧ (∀ ns : List Int, ds = ns.map Dt.int → ds.all (fun d => within d lo hi) = true → ∀ H', Same H H' → Q (.bl (decide ns.Nodup)) H')
theorem scUn : FnScope ["things", "least", "most"] ["things", "least", "most"] (defScope (top 3)) := ⟨rfl, rfl, rfl, by decide +kernel, rfl, by decide +kernel, by decide +kernel⟩
theorem bkUn : BlkD (defScope (top 3)) ["things", "least", "most"] scUnC ["things", "least", "most"] ["thing"] := ⟨rfl, by decide +kernel, by decide +kernel, by decide +kernel, rfl, by decide +kernel, by decide +kernel, by decide +kernel, by decide +kernel⟩
theorem ok_unlike (h : Has K mg "unlike_within" (top 3) ["things", "least", "most"]) (T : Txt mg) (G : Ok P w K mg base "whole_within" ["thing", "least", "most"] 2 (spWithin K)) : Ok P w K mg base "unlike_within" ["things", "least", "most"] 3 (spUnlikeL K) := by
  refine h.ok scUn (fun vs H Q E h => ?_) (fun f cdv A outer s H vs Q E hr h => ?_)
  · obtain ⟨p, lo, hi, xs, ds, rfl, _⟩ := h; rfl
  · obtain ⟨p, lo, hi, xs, ds, rfl, hx, hl, ld, q1, q2⟩ := h
    have lx := hl.len
    refine ⟨_, pss_one (ps_ret (pe_and (pe_callB (call_all rfl) (by rfl) T.all PyProof.Rows.boot_all (pa_cons
        (pe_comp (M := ["things", "least", "most"]) (tgs := ["thing"]) rfl bkUn.ok (pi_list (pv 0)) (fun cl C fp s H => pg_name (i := 3) bkUn.nd rfl (Or.inl rfl)) (fun cl C fp s H => pif0)
          (fun cl C fp s H => pe_callG G hr (by rfl) (pa_cons (pv 3) (pa_cons (pv 1) (pa_cons (pv 2) pa_nil))))) pa_nil))
        (pe_one (pe_cmpR op_eq (pe_callB call_lenSet (by rfl) T.len PySem.boot_len (pa_cons (pe_callTy (call_setL rfl) (by rfl) T.set PyProof.Rows.boot_set (pa_cons (pv 0) pa_nil)) pa_nil)) (pe_callB call_len_seq (by rfl) T.len PySem.boot_len (pa_cons (pv 0) pa_nil)) (nomark _))))), ?_⟩
    refine ⟨_, rfl, p, rfl, ⟨xs, hx⟩, comp_lst (K := K) (a := p) (xs := xs) (fun i ys H' => Same H H' ∧ ys = ((ds.map fun d => within d lo hi).take i).map V.bl) ⟨Same.refl H, rfl⟩ (fun i ys H' hi' pv => ?_) (fun i x ys H' hx' hi' pv => ?_) (fun ys H' pv l hl' => ?_)⟩
    · obtain ⟨e, rfl⟩ := pv
      refine ⟨e.seq hx, Nat.le_of_lt (small1000 ?_)⟩
      rw [List.length_map, List.length_take, List.length_map]
      omega
    · obtain ⟨e, rfl⟩ := pv
      obtain ⟨d, e1, e2⟩ := hl.get hx'
      refine ⟨rfl, _, rfl, _, rfl, _, rfl, d, x, lo, hi, rfl, e.rep e2, .mk hi' ⟨e, ?_⟩⟩
      have : (ds.map fun d => within d lo hi)[i]? = some (within d lo hi) := by rw [List.getElem?_map, e1]; rfl
      rw [List.take_add_one, this]
      simp
    · obtain ⟨e, rfl⟩ := pv
      have tk : (ds.map fun d => within d lo hi).take xs.length = ds.map fun d => within d lo hi := List.take_of_length_le (by rw [List.length_map]; omega)
      have s1 : Same H (upd H' l (.lst (((ds.map fun d => within d lo hi).take xs.length).map V.bl))) := e.trans (Same.upd hl')
      rw [tk] at s1 ⊢
      have ea : (ds.map fun d => within d lo hi).all id = ds.all (fun d => within d lo hi) := by rw [List.all_map]; rfl
      refine ⟨l, ds.map fun d => within d lo hi, rfl, .inl (.inl upd_same), _, rfl, ?_⟩
      rw [ea]
      refine iteB (fun c => ?_) fun c => ?_
      · obtain ⟨ns, rfl, _⟩ := inz_of c
        have ex := repL_inz hl
        subst ex
        rw [List.length_map] at ld
        refine ⟨_, rfl, p, ns, rfl, s1.seq hx, ld, fun st S hst => ⟨st, S, _, rfl, upd_same, Nat.le_trans (St2.kinds_le ns) ld, ?_⟩⟩
        have s2 := s1.trans (Same.upd (o := .set S (St2.kinds ns ns.length).length) hst)
        refine ⟨_, rfl, p, _, rfl, .inl (s2.seq hx), rfl, ?_⟩
        have z := q2 ns rfl c _ s2
        have e2 : decide ns.Nodup = decide (V.int ((St2.kinds ns ns.length).length : Nat) = V.int ((ns.map V.int).length : Nat)) := by
          rw [List.length_map]
          by_cases nd : ns.Nodup
          · rw [decide_eq_true nd, decide_eq_true (by rw [(St2.kinds_nodup ns).mpr nd])]
          · rw [decide_eq_false nd, decide_eq_false (fun y => nd ((St2.kinds_nodup ns).mp (by have := V.int.inj y; omega)))]
        rw [e2] at z
        exact z
      · exact q1 c _ s1
def spOnceL (K : PySem.W.Frag) : Sp := fun vs H Q _ => ∃ p m xs ds, vs = [.ref p, .int (m : Nat)] ∧ SqL K H p xs ∧ RepL K H ds xs ∧ m ≤ 100 ∧ (NumL m ds → ∀ H', Same H H' → Q (.bl true) H') ∧ (¬ NumL m ds → ∀ H', Same H H' → Q (.bl false) H')
theorem scOnce : FnScope ["things", "most"] ["things", "most"] (defScope (top 4)) := ⟨rfl, rfl, rfl, by decide +kernel, rfl, by decide +kernel, by decide +kernel⟩
theorem ok_once (h : Has K mg "each_once" (top 4) ["things", "most"]) (T : Txt mg) (GU : Ok P w K mg base "unlike_within" ["things", "least", "most"] 3 (spUnlikeL K)) : Ok P w K mg base "each_once" ["things", "most"] 4 (spOnceL K) := by
  refine h.ok scOnce (fun vs H Q E h => ?_) (fun f cdv A outer s H vs Q E hr h => ?_)
  · obtain ⟨p, m, xs, ds, rfl, _⟩ := h; rfl
  · obtain ⟨p, m, xs, ds, rfl, hx, hl, m100, q1, q2⟩ := h
    refine ⟨_, pss_one (ps_ret (pe_and (pe_cmpR op_eq (pe_callB call_len_seq (by rfl) T.len PySem.boot_len (pa_cons (pv 0) pa_nil)) (pv 1) (nomark _)) (pe_one (pe_callG GU hr (by rfl) (pa_cons (pv 0) (pa_cons pe_int (pa_cons (pv 1) pa_nil))))))), ?_⟩
    have e := hl.len
    refine ⟨_, rfl, p, xs, rfl, .inl hx, _, rfl, rfl, _, rfl, iteB (fun c => ?_) fun c => ?_⟩
    · have c : xs.length = m := by have := V.int.inj (of_decide_eq_true c); omega
      refine ⟨_, rfl, _, rfl, p, 1, (m : Nat), xs, ds, rfl, hx, hl, by omega, fun no H1 s1 => ?_, fun ns en al H1 s1 => ?_⟩
      · refine q2 (fun ⟨ns, en, pm⟩ => ?_) H1 s1
        rw [en, all_in (numL_iff.mp pm).2.1] at no
        cases no
      · subst en
        obtain ⟨ns', e', rng⟩ := inz_of al
        have en := map_int_inj e'
        subst en
        by_cases nd : ns.Nodup
        · rw [decide_eq_true nd]
          exact q1 ⟨ns, rfl, numL_iff.mpr ⟨by rw [List.length_map] at e; omega, rng, nd⟩⟩ H1 s1
        · rw [decide_eq_false nd]
          refine q2 (fun ⟨ns', e', pm⟩ => nd ?_) H1 s1
          rw [map_int_inj e']
          exact (numL_iff.mp pm).2.2
    · have c : ¬ V.int (xs.length : Nat) = V.int (m : Nat) := of_decide_eq_false c
      refine q2 (fun ⟨ns, en, pm⟩ => c ?_) H (Same.refl H)
      rw [en, List.length_map, (numL_iff.mp pm).1] at e
      rw [e]
/-! ### numbers_in -/
def spNi (K : PySem.W.Frag) : Sp := fun vs H Q _ => ∃ (a : Addr) (xs : List V) (rs : List (List Dt)), vs = [.ref a] ∧ SqT K H a xs ∧ RepL K H (rs.map Dt.tup) xs ∧ rs.flatten.length ≤ 500 ∧ ∀ l ys H', H l = none → Same H H' → H' l = some (.lst ys) → RepL K H' rs.flatten ys → Q (.ref l) H'
theorem scNi : FnScope ["square", "numbers", "row"] ["square"] (defScope (top 8)) := ⟨rfl, rfl, rfl, by decide +kernel, rfl, by decide +kernel, by decide +kernel⟩
theorem flat_le {α : Type} {M : List (List α)} (k : Nat) : (M.take k).flatten.length ≤ M.flatten.length := by
  conv => rhs; rw [← List.take_append_drop k M, List.flatten_append, List.length_append]
  omega
theorem ok_ni (h : Has K mg "numbers_in" (top 8) ["square"]) (T : Txt mg) : Ok P w K mg base "numbers_in" ["square"] 1 (spNi K) := by
  refine h.ok scNi (fun vs H Q E h => ?_) (fun f cdv A outer s H vs Q E hr h => ?_)
  · obtain ⟨a, xs, rs, rfl, _⟩ := h; rfl
  · obtain ⟨a, xs, rs, rfl, hx, hl, fl, q⟩ := h
    have lx := hl.len
    rw [List.length_map] at lx
    refine ⟨_, pss_cons (ps_set (i := 1) scNi.nd rfl (Or.inl rfl) (pe_lst pa_nil))
      (pss_cons (ps_for PassesOwn.never rfl (pi_tup (pv 0)) (pg_name (i := 2) scNi.nd rfl (Or.inl rfl))
        (pss_one (ps_expr (pe_bm PySem.F.plainAttrs_list PySem.F.slot_list_extend PySem.F.type_list_extend mt_extendS (pv 1) (pa_cons (pv 2) pa_nil)))))
      (pss_one (ps_ret (pv 1)))), ?_⟩
    refine ⟨by show 0 ≤ sizeLine; decide, fun dl hdl => ?_⟩
    have s0 : Same H (upd H dl (.lst [])) := Same.upd hdl
    refine ⟨_, rfl, a, rfl, ⟨xs, s0.tup hx⟩, ?_⟩
    refine for_tup (K := K) (a := a) (xs := xs) (fun k σ H' => ∃ v2 ys, σ = [some (.ref a), some (.ref dl), v2] ∧ Same H H' ∧ H' dl = some (.lst ys) ∧ RepL K H' (rs.take k).flatten ys) ⟨none, [], rfl, s0, upd_same, trivial⟩ (fun k σ H' hk hP => by obtain ⟨_, _, _, e, _⟩ := hP; exact e.tup hx) ?_ ?_
    · rintro k x σ H2 hk ⟨v2, ys, rfl, e, hd, ry⟩
      obtain ⟨d, hd1, hd2⟩ := hl.get hk
      rw [List.getElem?_map] at hd1
      obtain ⟨ds, hds, rfl⟩ := Option.map_eq_some_iff.mp hd1
      obtain ⟨c, zs, rfl, hc, rz⟩ := hd2
      have ly := ry.len
      have lz := rz.len
      have h1 := flat_le (M := rs) (k + 1)
      rw [List.take_add_one, hds, List.flatten_append, List.length_append] at h1
      have h2 : (some ds).toList.flatten.length = ds.length := by simp
      refine ⟨_, rfl, .inl ⟨rfl, _, .inl (.inl hd)⟩, _, rfl, dl, c, _, _, rfl, rfl, hd, e.tup hc, Nat.le_of_lt (small1000 (by omega)), ?_⟩
      have lt : Ltn dl H2 (upd H2 dl (.lst (ys ++ zs))) := Ltn.upd hd
      refine ⟨_, ys ++ zs, rfl, fun b o qq => ?_, upd_same, ?_⟩
      · rw [upd_ne (ne_of_none qq hdl)]
        exact e _ _ qq
      · rw [List.take_add_one, hds, List.flatten_append]
        have e3 : (some ds).toList.flatten = ds := by simp
        rw [e3]
        exact lt.repL (RepL.app ry (e.repL rz))
    · rintro σ H2 ⟨v2, ys, rfl, e, hd, ry⟩
      rw [List.take_of_length_le (by omega)] at ry
      exact ⟨_, rfl, q dl ys H2 hdl e hd ry⟩
end
end K54

namespace K54
open PySem L2 PyProof.Rows
def matD (M : Sq) : List Dt := M.map fun row => .tup (row.map Dt.int)
def SquareD (d : Dt) : Prop := ∃ M : Sq, d = .tup (matD M) ∧ GoodM M
def rowOk (n : Nat) : Dt → Bool
  | .tup ds => decide (ds.length = n)
  | _ => false
theorem rows_of {n : Nat} : ∀ {ds : List Dt}, ds.all (rowOk n) = true → ∃ rs : List (List Dt), ds = rs.map Dt.tup ∧ ∀ r ∈ rs, r.length = n
  | [], _ => ⟨[], rfl, fun _ h => by cases h⟩
  | d :: ds, h => by
    rw [List.all_cons, Bool.and_eq_true] at h
    obtain ⟨rs, rfl, hr⟩ := rows_of h.2
    cases d with
    | tup es =>
      refine ⟨es :: rs, rfl, fun r hm => ?_⟩
      rcases List.mem_cons.mp hm with rfl | hm
      · exact of_decide_eq_true h.1
      · exact hr r hm
    | _ => exact absurd h.1 Bool.false_ne_true
theorem matD_rows {M : Sq} {n : Nat} (h : ∀ row ∈ M, row.length = n) : (matD M).all (rowOk n) = true := by
  rw [List.all_eq_true]
  intro d hd
  obtain ⟨row, hr, rfl⟩ := List.mem_map.mp hd
  show decide ((row.map Dt.int).length = n) = true
  rw [List.length_map, decide_eq_true (h row hr)]
theorem mat_of {ns : List Int} : ∀ {rs : List (List Dt)}, rs.flatten = ns.map Dt.int → ∃ M : Sq, rs = M.map (fun row => row.map Dt.int) ∧ M.flatten = ns := by
  intro rs
  induction rs generalizing ns with
  | nil => intro h; exact ⟨[], rfl, by cases ns with | nil => rfl | cons _ _ => cases h⟩
  | cons r rs ih =>
    intro h
    rw [List.flatten_cons] at h
    obtain ⟨n1, n2, rfl, h1, h2⟩ := List.map_eq_append_iff.mp h.symm
    obtain ⟨M, e1, e2⟩ := ih h2.symm
    exact ⟨n1 :: M, by rw [List.map_cons, ← e1, h1], by rw [List.flatten_cons, e2]⟩
theorem matD_inj : ∀ {A B : Sq}, matD A = matD B → A = B
  | [], [], _ => rfl
  | [], _ :: _, h => by cases h
  | _ :: _, [], h => by cases h
  | a :: A, b :: B, h => by
    obtain ⟨h1, h2⟩ := List.cons.inj (show Dt.tup (a.map Dt.int) :: matD A = Dt.tup (b.map Dt.int) :: matD B from h)
    rw [map_int_inj (Dt.tup.inj h1), matD_inj h2]
def Alike (M : Sq) : Prop := ∃ S, AllIs ((M ++ tr M).map List.sum) S
theorem good_iff {M : Sq} (h1 : 1 ≤ M.length) (h7 : M.length ≤ 7) (hr : ∀ row ∈ M, row.length = M.length) : GoodM M ↔ M.flatten.Perm (oneTo (M.length * M.length)) ∧ Alike M := by
  constructor
  · intro g
    refine ⟨g.nums, (M.getD 0 []).sum, fun x hx => ?_⟩
    obtain ⟨l, hl, rfl⟩ := List.mem_map.mp hx
    rcases List.mem_append.mp hl with hl | hl
    · exact g.rsum l hl
    · have gt := good_tr g
      obtain ⟨j, hj, rfl⟩ := List.mem_map.mp hl
      exact g.col j (List.mem_range.mp hj)
  · rintro ⟨pm, S, a⟩
    refine good_mk (S := S) rfl h1 h7 hr pm (fun row h => a _ (List.mem_map.mpr ⟨row, List.mem_append_left _ h, rfl⟩)) fun k hk => a _ (List.mem_map.mpr ⟨M.map fun r => r.getD k 0, List.mem_append_right _ (List.mem_map.mpr ⟨k, List.mem_range.mpr hk, rfl⟩), rfl⟩)
theorem flat_len' {α : Type} {n : Nat} : ∀ {M : List (List α)}, (∀ row ∈ M, row.length = n) → M.flatten.length = M.length * n
  | [], _ => by simp
  | a :: r, h => by
    rw [List.flatten_cons, List.length_append, h a (by simp), flat_len' fun row hr => h row (by simp [hr]), List.length_cons, Nat.succ_mul]
    omega
theorem map_tup_inj : ∀ {A B : List (List Dt)}, A.map Dt.tup = B.map Dt.tup → A = B
  | [], [], _ => rfl
  | [], _ :: _, h => by cases h
  | _ :: _, [], h => by cases h
  | a :: A, b :: B, h => by
    obtain ⟨h1, h2⟩ := List.cons.inj (show Dt.tup a :: A.map Dt.tup = Dt.tup b :: B.map Dt.tup from h)
    rw [Dt.tup.inj h1, map_tup_inj h2]
theorem mat_rep {K : PySem.W.Frag} {H : Hp} : ∀ {M : Sq} {xs : List V}, RepL K H (matD M) xs → Mat K H M xs
  | [], [], _ => .nil
  | row :: M, x :: xs, h => by
    obtain ⟨⟨p, ys, e, hp, hl⟩, ht⟩ := (show Rep K H (.tup (row.map Dt.int)) x ∧ RepL K H (matD M) xs from h)
    rw [repL_inz hl] at hp
    exact .cons ⟨p, e, hp⟩ (mat_rep ht)
  | [], _ :: _, h => h.elim
  | _ :: _, [], h => h.elim
theorem rep_mat {K : PySem.W.Frag} {H : Hp} : ∀ {M : Sq} {xs : List V}, Mat K H M xs → RepL K H (matD M) xs
  | _, _, .nil => trivial
  | row :: _, _, .cons ⟨p, e, hp⟩ t => ⟨⟨p, _, e, hp, rep_inz⟩, rep_mat t⟩
section
variable {P : Program} {w : World} {K : PySem.W.Frag} {mg : Str → Option Value} {base : Heap}
section
variable {X : Cx} {e : Expr} {te : TE} {pos p1 p2 : Pos}
theorem isi_tK {K : PySem.W.Frag} (hK : X.K = K) (T : Txt X.mg) (he : PE X e te) (g1 : Gl X "isinstance") (g2 : Gl X "tuple") (hs : starEach [e, .Name "tuple" p1] X.env = (false, eval e X.env) :: starEach [.Name "tuple" p1] X.env := by rfl) : PE X (.Call (.Name "isinstance" p2) [e, .Name "tuple" p1] [] pos) (tCB (rIsi K) (tCons te (tCons (tC (.ty "tuple")) tNil))) := by
  subst hK
  exact isi_t T he g1 g2 hs
end
/-! ### sums_alike -/
def spAlike (K : PySem.W.Frag) : Sp := fun vs H Q _ => ∃ a M, vs = [.ref a] ∧ SqAt K H a M ∧ 1 ≤ M.length ∧ (Alike M → ∀ H', Same H H' → Q (.bl true) H') ∧ (¬ Alike M → ∀ H', Same H H' → Q (.bl false) H')
theorem scAl : FnScope ["square"] ["square"] (defScope (top 9)) := ⟨rfl, rfl, rfl, by decide +kernel, rfl, by decide +kernel, by decide +kernel⟩
def scAlC : Scope := { kind := .function, names := [(".0", .local), ("line", .local), ("sum", .globalImplicit)], isGenerator := false, isCoroutine := false, more := [] }
theorem bkAl : BlkD (defScope (top 9)) ["square"] scAlC ["square"] ["line"] := ⟨rfl, by decide +kernel, by decide +kernel, by decide +kernel, rfl, by decide +kernel, by decide +kernel, by decide +kernel, by decide +kernel⟩
theorem ok_alike (h : Has K mg "sums_alike" (top 9) ["square"]) (T : Txt mg) (GT : Ok P w K mg base "turned_square" ["square"] 1 (spTurn K)) : Ok P w K mg base "sums_alike" ["square"] 2 (spAlike K) := by
  refine h.ok scAl (fun vs H Q E h => ?_) (fun f cdv A outer s H vs Q E hr h => ?_)
  · obtain ⟨a, M, rfl, _⟩ := h; rfl
  · obtain ⟨a, M, rfl, sq, l1, q1, q2⟩ := h
    have small : ∀ {n : Nat}, n ≤ 1000 → n ≤ sizeLine := fun h => Nat.le_of_lt (small1000 h)
    have l7 := sq.le
    refine ⟨_, pss_one (ps_ret (pe_cmpR op_eq (pe_callB call_lenSet (by rfl) T.len PySem.boot_len (pa_cons (pe_callTy (call_setL rfl) (by rfl) T.set PyProof.Rows.boot_set (pa_cons
      (pe_comp (M := ["square"]) (tgs := ["line"]) rfl bkAl.ok (pi_tup (pe_op op_catU (pv 0) (pe_callG GT hr (by rfl) (pa_cons (pv 0) pa_nil)))) (fun cl C fp s H => pg_name (i := 1) bkAl.nd rfl (Or.inl rfl)) (fun cl C fp s H => pif0)
        (fun cl C fp s H => pe_callB (r := rSumU K) (call_sumU rfl) (by rfl) T.sum PyProof.Rows.boot_sum (pa_cons (pv 1) pa_nil))) pa_nil)) pa_nil)) pe_int (nomark _))), ?_⟩
    refine ⟨_, rfl, _, rfl, a, M, rfl, sq, fun t H2 s2 ht => ?_⟩
    obtain ⟨xs, x1, x2⟩ := (sq.same s2).at_
    obtain ⟨ys, y1, y2⟩ := ht.at_
    have lx := x2.len
    have ly := y2.len
    rw [tr_len] at ly
    refine ⟨a, t, xs, ys, rfl, rfl, x1, y1, small (by omega), fun z H3 hz s3 => ?_⟩
    have mz : Mat K H3 (M ++ tr M) (xs ++ ys) := Paired.app (x2.same s3) (y2.same s3)
    refine ⟨z, rfl, ⟨_, hz⟩, comp_tup (K := K) (a := z) (xs := xs ++ ys) (fun i zs H' => Same H3 H' ∧ zs = (((M ++ tr M).take i).map List.sum).map V.int) ⟨Same.refl _, rfl⟩ (fun i zs H' hi pv => ?_) (fun i x zs H' hx hi pv => ?_) (fun zs H' pv l hl => ?_)⟩
    · obtain ⟨e, rfl⟩ := pv
      refine ⟨e.tup hz, small ?_⟩
      rw [List.length_map, List.length_map, List.length_take]
      rw [List.length_append] at hi
      omega
    · obtain ⟨e, rfl⟩ := pv
      obtain ⟨row, c, hrow, rfl, hc⟩ := mz.get hx
      refine ⟨rfl, _, rfl, c, row, rfl, e.tup hc, .mk hi ⟨e, ?_⟩⟩
      rw [List.take_add_one, hrow, List.map_append, List.map_append]
      rfl
    · obtain ⟨e, rfl⟩ := pv
      have lA : (M ++ tr M).length = (xs ++ ys).length := mz.len
      rw [← lA, List.take_length]
      have lS : ((M ++ tr M).map List.sum).length ≤ 1000 := by rw [List.length_map, List.length_append, tr_len]; omega
      refine ⟨l, (M ++ tr M).map List.sum, rfl, .inl (.inl upd_same), lS, fun st S hst => ?_⟩
      have kl : many1 ((M ++ tr M).map List.sum) ≤ 1000 := Nat.le_trans (many1_le _) lS
      refine ⟨st, S, many1 ((M ++ tr M).map List.sum), rfl, upd_same, kl, rfl, ?_⟩
      have sF := s2.trans (s3.trans (e.trans ((Same.upd (o := .lst (((M ++ tr M).map List.sum).map V.int)) hl).trans (Same.upd (o := .set S (many1 ((M ++ tr M).map List.sum))) hst))))
      show Q (.bl (decide (V.int (many1 ((M ++ tr M).map List.sum) : Nat) = V.int 1))) _
      rw [dec1]
      have ne : (M ++ tr M).map List.sum ≠ [] := fun z => by
        have := congrArg List.length z
        rw [List.length_map, List.length_append] at this
        have : M.length + (tr M).length = 0 := this
        omega
      by_cases c : many1 ((M ++ tr M).map List.sum) = 1
      · rw [decide_eq_true c]
        exact q1 ((many1_one ne).mp c) _ sF
      · rw [decide_eq_false c]
        exact q2 (fun z => c ((many1_one ne).mpr z)) _ sF
/-! ### square_good -/
def spSG (K : PySem.W.Frag) : Sp := fun vs H Q _ => ∃ d v, vs = [v] ∧ Rep K H d v ∧ (SquareD d → ∀ H', Same H H' → Q (.bl true) H') ∧ (¬ SquareD d → ∀ H', Same H H' → Q (.bl false) H')
def sgN : List Str := ["thing", "size"]
theorem scSg : FnScope sgN ["thing"] (defScope (top 7)) := ⟨rfl, rfl, rfl, by decide +kernel, rfl, by decide +kernel, by decide +kernel⟩
def scSgC : Scope := { kind := .function, names := [(".0", .local), ("row", .local), ("isinstance", .globalImplicit), ("tuple", .globalImplicit), ("len", .globalImplicit), ("size", .free)], isGenerator := false, isCoroutine := false, more := [] }
theorem bkSg : BlkD (defScope (top 7)) sgN scSgC sgN ["row"] := ⟨rfl, by decide +kernel, by decide +kernel, by decide +kernel, rfl, by decide +kernel, by decide +kernel, by decide +kernel, by decide +kernel⟩
theorem not_tup {d : Dt} (h : ∀ ds, d ≠ .tup ds) : ¬ SquareD d := fun ⟨M, e, _⟩ => h _ e
theorem ok_sg (h : Has K mg "square_good" (top 7) ["thing"]) (T : Txt mg) (hmost : ∃ t, mg "MOST_SIZE" = some (.int 7 t)) (GO : Ok P w K mg base "each_once" ["things", "most"] 4 (spOnceL K)) (GN : Ok P w K mg base "numbers_in" ["square"] 1 (spNi K)) (GA : Ok P w K mg base "sums_alike" ["square"] 2 (spAlike K)) : Ok P w K mg base "square_good" ["thing"] 5 (spSG K) := by
  refine h.ok scSg (fun vs H Q E h => ?_) (fun f cdv A outer s H vs Q E hr h => ?_)
  · obtain ⟨d, v, rfl, _⟩ := h; rfl
  · obtain ⟨d, v, rfl, hd, q1, q2⟩ := h
    have small : ∀ {n : Nat}, n ≤ 1000 → n ≤ sizeLine := fun h => Nat.le_of_lt (small1000 h)
    obtain ⟨tm, hm⟩ := hmost
    have hr1 := hr.mono (show 1 ≤ 4 by decide)
    have hr2 := hr.mono (show 2 ≤ 4 by decide)
    refine ⟨_, pss_cons (ps_if (PW.pt (pw_or (pt_not (pt_val (isi_t T (pv 0) (by rfl) (by rfl)))) (pw_or1 (pt_not (pt_chain op_le op_le pe_int (pe_callB call_len_seq (by rfl) T.len PySem.boot_len (pa_cons (pv 0) pa_nil)) (pe_glob (v := .int 7) (by rfl) hm ⟨tm, rfl⟩)))))) (pss_one (ps_ret pe_bl)) pss_nil)
      (pss_cons (ps_set (i := 1) scSg.nd rfl (Or.inr rfl) (pe_callB call_len_seq (by rfl) T.len PySem.boot_len (pa_cons (pv 0) pa_nil)))
      (pss_cons (ps_if (pt_not (pt_val (pe_callB (call_all rfl) (by rfl) T.all PyProof.Rows.boot_all (pa_cons (pe_comp (M := sgN) (tgs := ["row"]) rfl bkSg.ok (pi_tup (pv 0)) (fun cl C fp s H => pg_name (i := 2) bkSg.nd rfl (Or.inl rfl)) (fun cl C fp s H => pif0)
          (fun cl C fp s H => pe_and (isi_tK (K := K) rfl T (pv 2) (by rfl) (by rfl)) (pe_one (pe_cmpR op_eq (pe_callB (r := rLenS K) call_len_seq (by rfl) T.len PySem.boot_len (pa_cons (pv 2) pa_nil)) (pv 1) (nomark _))))) pa_nil)))) (pss_one (ps_ret pe_bl)) pss_nil)
      (pss_one (ps_ret (pe_and (pe_callG GO hr (by rfl) (pa_cons (pe_callG GN hr1 (by rfl) (pa_cons (pv 0) pa_nil)) (pa_cons (pe_op op_mul (pv 1) (pv 1)) pa_nil))) (pe_one (pe_callG GA hr2 (by rfl) (pa_cons (pv 0) pa_nil)))))))), ?_⟩
    refine ⟨v, rfl, v, d.ty, "tuple", rfl, .inr (.inr (.inl rfl)), hd.kind, _, rfl, ?_⟩
    cases hty : isiB d.ty "tuple" with
    | false =>
      refine iteT (iteT (q2 (not_tup fun ds e => ?_) H (Same.refl _)))
      subst e
      cases hty
    | true =>
      obtain ⟨ds, rfl⟩ := isi_tup hty
      obtain ⟨a, xs, rfl, hx, hl⟩ := hd
      have lx := hl.len
      have noLen : ∀ {M : Sq}, Dt.tup ds = .tup (matD M) → M.length = xs.length := fun {M} e => by
        have e := Dt.tup.inj e
        rw [← lx, e]
        unfold matD
        rw [List.length_map]
      refine iteF ⟨_, rfl, a, xs, rfl, .inr hx, 1, _, rfl, rfl, _, rfl, iteB (fun c1 => ?_) fun c1 => ?_⟩
      · have c1 : (1 : Int) ≤ (xs.length : Nat) := of_decide_eq_true c1
        refine ⟨_, _, rfl, rfl, _, rfl, iteB (fun c2 => ?_) fun c2 => ?_⟩
        · have c2 : ¬ ((xs.length : Nat) : Int) ≤ 7 := by simpa using c2
          exact q2 (fun ⟨M, e, g⟩ => by have := noLen e; have := g.le; omega) H (Same.refl _)
        · have c2 : ((xs.length : Nat) : Int) ≤ 7 := by simpa using c2
          refine ⟨_, rfl, a, xs, rfl, .inr hx, ?_⟩
          refine ⟨_, rfl, a, rfl, ⟨_, hx⟩, comp_tup (K := K) (a := a) (xs := xs) (fun i ys H' => Same H H' ∧ ys = ((ds.take i).map (rowOk xs.length)).map V.bl) ⟨Same.refl _, rfl⟩ (fun i ys H' hi pv => ?_) (fun i x ys H' hx' hi pv => ?_) (fun ys H' pv l hl' => ?_)⟩
          · obtain ⟨e, rfl⟩ := pv
            refine ⟨e.tup hx, small ?_⟩
            rw [List.length_map, List.length_map, List.length_take]
            omega
          · obtain ⟨e, rfl⟩ := pv
            obtain ⟨d', hd1, hd2⟩ := hl.get hx'
            have hd3 := e.rep hd2
            refine ⟨rfl, x, rfl, x, d'.ty, "tuple", rfl, .inr (.inr (.inl rfl)), hd3.kind, _, rfl, ?_⟩
            have stp : ((ds.take (i + 1)).map (rowOk xs.length)).map V.bl = ((ds.take i).map (rowOk xs.length)).map V.bl ++ [V.bl (rowOk xs.length d')] := by
              rw [List.take_add_one, hd1, List.map_append, List.map_append]
              rfl
            cases hty' : isiB d'.ty "tuple" with
            | false =>
              refine iteB (fun c => absurd c (by decide)) fun _ => .mk hi ⟨e, ?_⟩
              rw [stp]
              have : rowOk xs.length d' = false := by
                cases d' <;> first | rfl | cases hty'
              rw [this]
            | true =>
              obtain ⟨es, rfl⟩ := isi_tup hty'
              obtain ⟨b, zs, rfl, hb, rz⟩ := hd3
              have lz := rz.len
              refine iteB (fun _ => ?_) fun c => absurd c (by decide)
              refine ⟨_, rfl, b, zs, rfl, .inr hb, _, rfl, rfl, .mk hi ⟨e, ?_⟩⟩
              rw [stp]
              congr 3
              show decide (V.int (zs.length : Nat) = V.int (xs.length : Nat)) = decide (es.length = xs.length)
              refine decide_eq_decide.mpr ⟨fun z => ?_, fun z => ?_⟩
              · have := V.int.inj z
                omega
              · rw [← lz, z]
          obtain ⟨e, rfl⟩ := pv
          rw [← lx, List.take_length]
          refine ⟨l, _, rfl, .inl (.inl upd_same), _, rfl, ?_⟩
          have ea : (ds.map (rowOk ds.length)).all id = ds.all (rowOk ds.length) := by rw [List.all_map]; rfl
          rw [ea]
          have s2 := e.trans (Same.upd (o := .lst ((ds.map (rowOk ds.length)).map V.bl)) hl')
          generalize (upd H' l (.lst ((ds.map (rowOk ds.length)).map V.bl))) = H2 at s2 ⊢
          cases hall : ds.all (rowOk ds.length) with
          | false =>
            refine iteT (q2 (fun ⟨M, em, g⟩ => ?_) H2 s2)
            have := matD_rows (n := ds.length) (M := M) fun row hr => by rw [g.rows row hr, noLen em, lx]
            rw [← Dt.tup.inj em, hall] at this
            cases this
          | true =>
            obtain ⟨rs, rfl, hrs⟩ := rows_of hall
            rw [List.length_map] at hrs
            have lr : rs.length = xs.length := by rw [← lx, List.length_map]
            refine iteF ?_
            have fl : rs.flatten.length = rs.length * rs.length := flat_len' hrs
            have fb : rs.length * rs.length ≤ 49 := Nat.mul_le_mul (show rs.length ≤ 7 by omega) (show rs.length ≤ 7 by omega)
            refine ⟨_, rfl, a, xs, rs, rfl, s2.tup hx, s2.repL hl, by omega, fun l3 ys H3 hl3 s3 h3 r3 => ?_⟩
            have s23 := s2.trans s3
            refine ⟨_, rfl, _, rfl, _, _, rfl, rfl, .inl ⟨by omega, by omega⟩, l3, rs.length * rs.length, ys, rs.flatten, ?_, .inl (.inl h3), r3, by omega, fun yes H4 s4 => ?_, fun no H4 s4 => ?_⟩
            · rw [List.length_map, Int.natCast_mul]; rfl
            · obtain ⟨ns, en, pm⟩ := yes
              obtain ⟨M, eM, fM⟩ := mat_of en
              subst eM
              rw [List.length_map] at pm hrs
              have eD : (M.map fun row => row.map Dt.int).map Dt.tup = matD M := by rw [List.map_map]; rfl
              have lM : M.length = xs.length := by rw [← lr, List.length_map]
              have hr7 : ∀ row ∈ M, row.length = M.length := fun row hr => by
                have := hrs _ (List.mem_map.mpr ⟨row, hr, rfl⟩)
                rw [List.length_map] at this
                exact this
              have s24 := s23.trans s4
              rw [eD] at hl q1 q2
              have gi := good_iff (M := M) (by omega) (by omega) hr7
              rw [fM] at gi
              refine ⟨_, rfl, iteT ⟨_, rfl, a, M, rfl, ⟨⟨xs, s24.tup hx, mat_rep (s24.repL hl)⟩, by omega, hr7⟩, by omega, fun al H5 s5 => q1 ⟨M, rfl, gi.mpr ⟨pm, al⟩⟩ H5 (s24.trans s5), fun nal H5 s5 => q2 (fun ⟨M', e', g'⟩ => ?_) H5 (s24.trans s5)⟩⟩
              rw [matD_inj (Dt.tup.inj e')] at nal gi
              exact nal (gi.mp g').2
            · refine ⟨_, rfl, iteF (q2 (fun ⟨M, em, g⟩ => no ?_) H4 (s23.trans s4))⟩
              have em := Dt.tup.inj em
              have er : rs = M.map fun row => row.map Dt.int := by
                have : rs.map Dt.tup = (M.map fun row => row.map Dt.int).map Dt.tup := by rw [em, List.map_map]; rfl
                exact map_tup_inj this
              refine ⟨M.flatten, ?_, ?_⟩
              · rw [er, List.map_flatten]
              · have := g.nums
                rw [er, List.length_map]
                exact this
      · have c1 : ¬ (1 : Int) ≤ (xs.length : Nat) := of_decide_eq_false c1
        exact ⟨_, rfl, iteT (q2 (fun ⟨M, e, g⟩ => by have := noLen e; have := g.pos; omega) H (Same.refl _))⟩
end
end K54

namespace K54
open PySem L2 PyProof.Rows
theorem ints_of : ∀ {es : List Dt}, es.all isIntD = true → ∃ row : List Int, es = row.map Dt.int
  | [], _ => ⟨[], rfl⟩
  | d :: es, h => by
    rw [List.all_cons, Bool.and_eq_true] at h
    obtain ⟨i, rfl⟩ := isIntD_of h.1
    obtain ⟨row, rfl⟩ := ints_of h.2
    exact ⟨i :: row, rfl⟩
theorem all_ints {row : List Int} : (row.map Dt.int).all isIntD = true := by
  rw [List.all_map, List.all_eq_true]
  intro x _
  rfl
theorem matD_get {M : Sq} {k : Nat} {d : Dt} (h : (matD M)[k]? = some d) : ∃ row, M[k]? = some row ∧ d = .tup (row.map Dt.int) := by
  unfold matD at h
  rw [List.getElem?_map] at h
  obtain ⟨row, h1, h2⟩ := Option.map_eq_some_iff.mp h
  exact ⟨row, h1, h2.symm⟩
section
variable {P : Program} {w : World} {K : PySem.W.Frag} {mg : Str → Option Value} {base : Heap}
def goodN : List Str := ["thing", "numbers", "row", "total", "k"]
def goodM : List Str := ["thing", "numbers", "", "total", "k"]
theorem scGood : FnScope goodN ["thing"] (defScope (top 17)) := ⟨rfl, rfl, rfl, by decide +kernel, rfl, by decide +kernel, by decide +kernel⟩
def scGoodA : Scope := { kind := .function, names := [(".0", .local), ("number", .local), ("_law_whole", .globalImplicit)], isGenerator := false, isCoroutine := false, more := [] }
def scGoodB : Scope := { kind := .function, names := [(".0", .local), ("row", .local), ("k", .free)], isGenerator := false, isCoroutine := false, more := [] }
theorem bkGoodA : BlkD (defScope (top 17)) goodN scGoodA goodN ["number"] := ⟨rfl, by decide +kernel, by decide +kernel, by decide +kernel, rfl, by decide +kernel, by decide +kernel, by decide +kernel, by decide +kernel⟩
theorem bkGoodB : BlkD (defScope (top 17)) goodN scGoodB goodM ["row"] := ⟨rfl, by decide +kernel, by decide +kernel, by decide +kernel, rfl, by decide +kernel, by decide +kernel, by decide +kernel, by decide +kernel⟩
theorem ok_good (h : Has K mg "_law_square_good" (top 17) ["thing"]) (T : Txt mg) (GW : Ok P w K mg base "_law_whole" ["found"] 1 (spWhole K)) : Ok P w K mg base "_law_square_good" ["thing"] 2 (spSG K) := by
  refine h.ok scGood (fun vs H Q E h => ?_) (fun f cdv A outer s H vs Q E hr h => ?_)
  · obtain ⟨d, v, rfl, _⟩ := h; rfl
  · obtain ⟨d, v, rfl, hd, q1, q2⟩ := h
    have hu := Nat.lt_of_succ_lt (hu_of hr)
    have small : ∀ {n : Nat}, n ≤ 1000 → n ≤ sizeLine := fun h => Nat.le_of_lt (small1000 h)
    refine ⟨_, pss_cons (ps_if (PW.pt (pw_or (pt_not (pt_val (isi_t T (pv 0) (by rfl) (by rfl)))) (pw_or1 (pt_cmpR op_notInR (pe_callB call_len_seq (by rfl) T.len PySem.boot_len (pa_cons (pv 0) pa_nil)) (pe_callTy call_rng (by rfl) T.range boot_range (pa_cons pe_int (pa_cons pe_int pa_nil))) rfl)))) (pss_one (ps_ret pe_bl)) pss_nil)
      (pss_cons (ps_set (i := 1) scGood.nd rfl (Or.inl rfl) (pe_lst pa_nil))
      (pss_cons (ps_for PassesOwn.never rfl (pi_tup (pv 0)) (pg_name (i := 2) scGood.nd rfl (Or.inl rfl))
        (pss_cons (ps_if (PW.pt (pw_or (pt_not (pt_val (isi_t T (pv 2) (by rfl) (by rfl)))) (pw_or (pt_cmpR op_ne (pe_callB call_len_seq (by rfl) T.len PySem.boot_len (pa_cons (pv 2) pa_nil)) (pe_callB call_len_seq (by rfl) T.len PySem.boot_len (pa_cons (pv 0) pa_nil)) (nomark _))
            (pw_or1 (pt_not (pt_val (pe_callB (call_all rfl) (by rfl) T.all PyProof.Rows.boot_all (pa_cons
              (pe_comp (M := goodN) (tgs := ["number"]) rfl bkGoodA.ok (pi_tup (pv 2)) (fun cl C fp s H => pg_name (i := 5) bkGoodA.nd rfl (Or.inl rfl)) (fun cl C fp s H => pif0)
                (fun cl C fp s H => pe_callG GW hr (by rfl) (pa_cons (pv 5) pa_nil))) pa_nil)))))))) (pss_one (ps_ret pe_bl)) pss_nil)
        (pss_one (ps_expr (pe_bm PySem.F.plainAttrs_list PySem.F.slot_list_extend PySem.F.type_list_extend mt_extend (pv 1) (pa_cons (pe_callTy call_list_of (by rfl) T.list PyProof.Rows.boot_list (pa_cons (pv 2) pa_nil)) pa_nil))))))
      (pss_cons (ps_if (pt_cmpR (op_neL hu) (pe_callB call_sortedI (by rfl) T.sorted PyProof.Rows.boot_sorted (pa_cons (pv 1) pa_nil))
          (pe_callTy (call_listR rfl) (by rfl) T.list PyProof.Rows.boot_list (pa_cons (pe_callTy call_rng (by rfl) T.range PyProof.Rows.boot_range (pa_cons pe_int (pa_cons (pe_op op_add (pe_callB call_len_seq (by rfl) T.len PySem.boot_len (pa_cons (pv 1) pa_nil)) pe_int) pa_nil))) pa_nil)) (nomark _)) (pss_one (ps_ret pe_bl)) pss_nil)
      (pss_cons (ps_set (i := 3) scGood.nd rfl (Or.inl rfl) (pe_callB (call_sumU rfl) (by rfl) T.sum PyProof.Rows.boot_sum (pa_cons (pe_ix ix_tup (pv 0) pe_int (fun _ _ => rfl)) pa_nil)))
      (pss_cons (ps_for PassesOwn.never rfl (pi_range1 (by rfl) T.range (pa_cons (pe_callB call_len_seq (by rfl) T.len PySem.boot_len (pa_cons (pv 0) pa_nil)) pa_nil)) (pg_name (i := 4) scGood.nd rfl (Or.inr rfl))
        (pss_one (ps_if (PW.pt (pw_or (pt_cmpR op_ne (pe_callB (call_sumU rfl) (by rfl) T.sum PyProof.Rows.boot_sum (pa_cons (pe_ix ix_tup (pv 0) (pv 4) (fun _ _ => rfl)) pa_nil)) (pv 3) (nomark _))
          (pw_or1 (pt_cmpR op_ne (pe_callB (call_sumL rfl) (by rfl) T.sum PyProof.Rows.boot_sum (pa_cons (pe_comp (M := goodM) (tgs := ["row"]) rfl bkGoodB.ok (pi_tup (pv 0)) (fun cl C fp s H => pg_name (i := 5) bkGoodB.nd rfl (Or.inl rfl)) (fun cl C fp s H => pif0)
                (fun cl C fp s H => pe_ix (r := rIxT K) ix_tup (pv 5) (pv 4) (fun _ _ => rfl))) pa_nil)) (pv 3) (nomark _))))) (pss_one (ps_ret pe_bl)) pss_nil)))
      (pss_one (ps_ret pe_bl))))))), ?_⟩
    refine ⟨v, rfl, v, d.ty, "tuple", rfl, .inr (.inr (.inl rfl)), hd.kind, _, rfl, ?_⟩
    cases hty : isiB d.ty "tuple" with
    | false =>
      refine iteT (iteT (q2 (not_tup fun ds e => ?_) H (Same.refl _)))
      subst e
      cases hty
    | true =>
      obtain ⟨ds, rfl⟩ := isi_tup hty
      obtain ⟨a, xs, rfl, hx, hl⟩ := hd
      have lx := hl.len
      have noLen : ∀ {M : Sq}, Dt.tup ds = .tup (matD M) → M.length = xs.length := fun {M} e => by
        have e := Dt.tup.inj e
        rw [← lx, e]
        unfold matD
        rw [List.length_map]
      refine iteF ⟨_, rfl, a, xs, rfl, .inr hx, .inr ⟨_, _, rfl, fun rg hrg => ?_⟩⟩
      have u1 : Same H (upd H rg (.rng 1 8)) := Same.upd hrg
      refine ⟨rg, _, 1, 8, rfl, rfl, upd_same, _, rfl, ?_⟩
      by_cases cl : 1 ≤ xs.length ∧ xs.length ≤ 7
      · have e1 : (!decide ((1 : Int) ≤ (xs.length : Nat) ∧ ((xs.length : Nat) : Int) < 8)) = false := by rw [decide_eq_true ⟨by omega, by omega⟩]; rfl
        refine iteB (fun c => absurd (e1.symm.trans c) (by decide)) fun _ => ?_
        refine ⟨by show 0 ≤ sizeLine; decide, fun dl hdl => ?_⟩
        have hdlH : H dl = none := u1.free hdl
        have s0 : Same H (upd (upd H rg (.rng 1 8)) dl (.lst [])) := u1.trans (Same.upd hdl)
        refine ⟨_, rfl, a, rfl, ⟨xs, s0.tup hx⟩, ?_⟩
        refine for_tup (K := K) (a := a) (xs := xs) (fun k σ H' => ∃ (v2 : Option V) (M : Sq), σ = [some (.ref a), some (.ref dl), v2, none, none] ∧ Same H H' ∧ ds.take k = matD M ∧ (∀ row ∈ M, row.length = xs.length) ∧ H' dl = some (.lst (M.flatten.map V.int))) ⟨none, [], rfl, s0, rfl, fun _ h => (by cases h), upd_same⟩ (fun k σ H' hk hP => by obtain ⟨_, _, _, e, _⟩ := hP; exact e.tup hx) ?_ ?_
        · rintro k x σ H2 hk ⟨v2, M, rfl, e, eM, rM, hd⟩
          obtain ⟨d', hd1, hd2⟩ := hl.get hk
          have hd3 := e.rep hd2
          have kx : k < xs.length := (List.getElem?_eq_some_iff.mp hk).1
          have lMk : M.length = k := by
            have := congrArg List.length eM
            unfold matD at this
            rw [List.length_take, List.length_map] at this
            omega
          -- a row of a square is of whole numbers, as long as the square
          have bad : ∀ {M' : Sq}, Dt.tup ds = .tup (matD M') → GoodM M' → ∃ row : List Int, d' = .tup (row.map Dt.int) ∧ row.length = xs.length := fun {M'} em g => by
            rw [Dt.tup.inj em] at hd1
            obtain ⟨row, h1, h2⟩ := matD_get hd1
            exact ⟨row, h2, by rw [g.rows row (List.mem_of_getElem? h1)]; exact noLen em⟩
          refine ⟨_, rfl, x, d'.ty, "tuple", rfl, .inr (.inr (.inl rfl)), hd3.kind, _, rfl, ?_⟩
          cases hty' : isiB d'.ty "tuple" with
          | false =>
            refine iteT (iteT (q2 (fun ⟨M', em, g⟩ => ?_) H2 e))
            obtain ⟨row, rfl, _⟩ := bad em g
            cases hty'
          | true =>
            obtain ⟨es, rfl⟩ := isi_tup hty'
            obtain ⟨c, zs, rfl, hc, rz⟩ := hd3
            have lz := rz.len
            refine iteF ⟨_, rfl, c, zs, rfl, .inr hc, _, rfl, a, xs, rfl, .inr (e.tup hx), rfl, _, rfl, ?_⟩
            by_cases cz : zs.length = xs.length
            · rw [show (!decide (V.int (zs.length : Nat) = V.int (xs.length : Nat))) = false by rw [cz, decide_eq_true rfl]; rfl]
              refine iteB (fun c => absurd c (by decide)) fun _ => ?_
              refine ⟨_, rfl, c, rfl, ⟨_, hc⟩, comp_tup (K := K) (a := c) (xs := zs) (fun m ys H' => Same H2 H' ∧ ys = ((es.take m).map isIntD).map V.bl) ⟨Same.refl _, rfl⟩ (fun m ys H' hm pv => ?_) (fun m y ys H' hy hm pv => ?_) (fun ys H' pv l hl' => ?_)⟩
              · obtain ⟨e', rfl⟩ := pv
                refine ⟨e'.tup hc, small ?_⟩
                rw [List.length_map, List.length_map, List.length_take]
                omega
              · obtain ⟨e', rfl⟩ := pv
                obtain ⟨dy, hy1, hy2⟩ := rz.get hy
                refine ⟨rfl, _, rfl, dy, y, rfl, e'.rep hy2, .mk hm ⟨e', ?_⟩⟩
                rw [List.take_add_one, hy1, List.map_append, List.map_append]
                rfl
              · obtain ⟨e3, rfl⟩ := pv
                rw [← lz, List.take_length]
                refine ⟨l, _, rfl, .inl (.inl upd_same), _, rfl, ?_⟩
                have ea : (es.map isIntD).all id = es.all isIntD := by rw [List.all_map]; rfl
                rw [ea]
                have s4 := e3.trans (Same.upd (o := .lst ((es.map isIntD).map V.bl)) hl')
                generalize (upd H' l (.lst ((es.map isIntD).map V.bl))) = H4 at s4 ⊢
                cases hall : es.all isIntD with
                | false =>
                  refine iteT (q2 (fun ⟨M', em, g⟩ => ?_) H4 (e.trans s4))
                  obtain ⟨row, er, _⟩ := bad em g
                  rw [Dt.tup.inj er, all_ints] at hall
                  cases hall
                | true =>
                  obtain ⟨row, rfl⟩ := ints_of hall
                  have ez := repL_inz rz
                  subst ez
                  rw [List.length_map] at cz
                  have hd4 := s4 _ _ hd
                  refine iteF ⟨_, rfl, .inl ⟨rfl, _, .inl (.inl hd4)⟩, _, rfl, c, _, rfl, .inr (s4.tup hc), fun l2 hl2 => ?_⟩
                  have nl : dl ≠ l2 := ne_of_none hd4 hl2
                  have f1 := flat_len' rM
                  have : k * xs.length ≤ 7 * 7 := Nat.mul_le_mul (by omega) cl.2
                  refine ⟨dl, l2, _, _, rfl, rfl, Same.upd hl2 _ _ hd4, upd_same, small (by rw [List.length_map, List.length_map, f1, lMk]; omega), _, M ++ [row], rfl, fun b o qq => ?_, ?_, fun r hr => ?_, ?_⟩
                  · rw [upd_ne (ne_of_none qq hdlH)]
                    exact Same.upd hl2 _ _ (s4 _ _ (e _ _ qq))
                  · rw [List.take_add_one, hd1, eM]
                    unfold matD
                    rw [List.map_append]
                    rfl
                  · rcases List.mem_append.mp hr with hr | hr
                    · exact rM r hr
                    · have : r = row := by simpa using hr
                      rw [this]
                      exact cz
                  · rw [upd_same, List.flatten_append, List.map_append]
                    simp
            · rw [show (!decide (V.int (zs.length : Nat) = V.int (xs.length : Nat))) = true by rw [decide_eq_false fun z => cz (by have := V.int.inj z; omega)]; rfl]
              refine iteB (fun _ => iteT (q2 (fun ⟨M', em, g⟩ => cz ?_) H2 e)) fun c => absurd c (by decide)
              obtain ⟨row, er, h2⟩ := bad em g
              rw [← lz, Dt.tup.inj er, List.length_map]
              exact h2
        · rintro σ H1 ⟨v2, M, rfl, s1, eM, rM, hd⟩
          rw [List.take_of_length_le (by omega)] at eM
          subst eM
          have lM : M.length = xs.length := noLen rfl
          have hr7 : ∀ row ∈ M, row.length = M.length := fun row hr => by rw [rM row hr, lM]
          have hM : Mat K H M xs := mat_rep hl
          have fl := flat_len' hr7
          have n49 : M.length * M.length ≤ 7 * 7 := Nat.mul_le_mul (by omega) (by omega)
          have inj : ∀ {M' : Sq}, Dt.tup (matD M) = .tup (matD M') → M' = M := fun e => (matD_inj (Dt.tup.inj e)).symm
          refine ⟨_, rfl, dl, M.flatten, rfl, .inl (.inl hd), by omega, fun l2 ms hl2 hp hs => ?_⟩
          have s3 := Same.upd (o := .lst (ms.map V.int)) hl2
          refine ⟨_, rfl, dl, _, rfl, .inl (.inl (.inl (s3 _ _ hd))), _, _, rfl, rfl, .inr ⟨_, _, rfl, fun rg2 hrg2 => ?_⟩⟩
          have s4 := Same.upd (o := .rng 1 (((M.flatten.map V.int).length : Nat) + 1)) hrg2
          have lf : ((M.flatten.map V.int).length : Nat) = M.length * M.length := by rw [List.length_map, fl]
          refine ⟨rg2, 1, _, rfl, upd_same, by decide, by decide, by omega, by omega, by omega, fun lr hlr => ?_⟩
          have eL : (List.range ((((M.flatten.map V.int).length : Nat) : Int) + 1 - 1).toNat).map (fun k => V.int (1 + (k : Nat))) = (oneTo (M.length * M.length)).map V.int := by
            rw [show ((((M.flatten.map V.int).length : Nat) : Int) + 1 - 1).toNat = M.length * M.length by omega]
            unfold oneTo
            rw [List.map_map]
            rfl
          rw [eL]
          have s5 := Same.upd (o := .lst ((oneTo (M.length * M.length)).map V.int)) hlr
          have up := s1.trans (s3.trans (s4.trans s5))
          refine ⟨l2, lr, ms, oneTo (M.length * M.length), rfl, rfl, .inl (.inl (s5 _ _ (s4 _ _ upd_same))), .inl (.inl upd_same), _, rfl, ?_⟩
          by_cases em : ms = oneTo (M.length * M.length)
          · rw [show (if true = true then !decide (ms = oneTo (M.length * M.length)) else decide (ms = oneTo (M.length * M.length))) = false by rw [if_pos rfl, decide_eq_true em]; rfl]
            refine iteB (fun c => absurd c (by decide)) fun _ => ?_
            have nums : M.flatten.Perm (oneTo (M.length * M.length)) := by rw [← em]; exact hp.symm
            obtain ⟨c0, a0, h0⟩ := Mat.getD hM (show 0 < M.length by omega)
            refine ⟨_, rfl, a, xs, 0, _, rfl, rfl, up.tup hx, atI_nat (j := 0) a0, c0, M.getD 0 [], rfl, up.tup h0, ?_⟩
            refine ⟨_, rfl, a, xs, rfl, .inr (up.tup hx), _, rfl, by omega, by omega, ?_⟩
            refine for_range (lo := 0) (n := ((xs.length : Nat) : Int).toNat) (fun k σ H' => ∃ v4, σ = [some (.ref a), some (.ref dl), v2, some (.int (M.getD 0 []).sum), v4] ∧ Same H H' ∧ ∀ j, j < k → (M.getD j []).sum = (M.getD 0 []).sum ∧ (M.map fun r => r.getD j 0).sum = (M.getD 0 []).sum) ⟨none, rfl, up, fun j hj => absurd hj (Nat.not_lt_zero _)⟩ ?_ ?_
            · rintro k σ H2 hk ⟨v4, rfl, e, sofar⟩
              rw [Int.zero_add]
              have hk : k < M.length := by omega
              obtain ⟨ck, ak, hck⟩ := Mat.getD hM hk
              refine ⟨_, rfl, _, rfl, a, xs, _, _, rfl, rfl, e.tup hx, atI_nat ak, ck, _, rfl, e.tup hck, _, rfl, rfl, _, rfl, ?_⟩
              by_cases cr : (M.getD k []).sum = (M.getD 0 []).sum
              · rw [show (!decide (V.int (M.getD k []).sum = V.int (M.getD 0 []).sum)) = false by rw [cr, decide_eq_true rfl]; rfl]
                refine iteB (fun c => absurd c (by decide)) fun _ => ?_
                refine ⟨_, rfl, a, rfl, ⟨_, e.tup hx⟩, comp_tup (K := K) (a := a) (xs := xs) (fun m ys H' => Same H2 H' ∧ ys = ((M.take m).map fun r => r.getD k 0).map V.int) ⟨Same.refl _, rfl⟩ (fun m ys H' hm pv => ?_) (fun m x ys H' hx' hm pv => ?_) (fun ys H' pv l hl => ?_)⟩
                · obtain ⟨e', rfl⟩ := pv
                  refine ⟨(e.trans e').tup hx, small ?_⟩
                  rw [List.length_map, List.length_map, List.length_take]
                  omega
                · obtain ⟨e', rfl⟩ := pv
                  obtain ⟨row, c, hrow, rfl, hc⟩ := hM.get hx'
                  have lr := hr7 row (List.mem_of_getElem? hrow)
                  refine ⟨rfl, _, rfl, _, rfl, c, _, _, _, rfl, rfl, (e.trans e').tup hc, at_num (by omega), .mk hm ⟨e', ?_⟩⟩
                  rw [List.take_add_one, hrow, List.map_append, List.map_append]
                  rfl
                · obtain ⟨e', rfl⟩ := pv
                  refine ⟨l, _, rfl, .inl (.inl upd_same), _, rfl, rfl, _, rfl, ?_⟩
                  have sF := e.trans (e'.trans (Same.upd (o := .lst (((M.take xs.length).map fun r => r.getD k 0).map V.int)) hl))
                  rw [← lM, List.take_length] at sF ⊢
                  by_cases cc : (M.map fun r => r.getD k 0).sum = (M.getD 0 []).sum
                  · rw [show (!decide (V.int (M.map fun r => r.getD k 0).sum = V.int (M.getD 0 []).sum)) = false by rw [cc, decide_eq_true rfl]; rfl]
                    refine iteB (fun c => absurd c (by decide)) fun _ => ⟨_, rfl, sF, fun j hj => ?_⟩
                    by_cases ej : j = k
                    · subst ej; exact ⟨cr, cc⟩
                    · exact sofar j (by omega)
                  · rw [show (!decide (V.int (M.map fun r => r.getD k 0).sum = V.int (M.getD 0 []).sum)) = true by rw [decide_eq_false fun z => cc (V.int.inj z)]; rfl]
                    exact iteB (fun _ => q2 (fun ⟨M', e', g⟩ => cc (by have := inj e'; subst this; exact g.col k hk)) _ sF) fun c => absurd c (by decide)
              · rw [show (!decide (V.int (M.getD k []).sum = V.int (M.getD 0 []).sum)) = true by rw [decide_eq_false fun z => cr (V.int.inj z)]; rfl]
                exact iteB (fun _ => iteT (q2 (fun ⟨M', e', g⟩ => cr (by have := inj e'; subst this; exact g.row k hk)) _ e)) fun c => absurd c (by decide)
            · rintro σ H2 ⟨v4, rfl, e, sofar⟩
              exact q1 ⟨M, rfl, by omega, by omega, hr7, nums, fun k hk => (sofar k (by omega)).1, fun k hk => (sofar k (by omega)).2⟩ _ e
          · rw [show (if true = true then !decide (ms = oneTo (M.length * M.length)) else decide (ms = oneTo (M.length * M.length))) = true by rw [if_pos rfl, decide_eq_false em]; rfl]
            refine iteB (fun _ => q2 (fun ⟨M', e', g⟩ => em ?_) _ up) fun c => absurd c (by decide)
            have := inj e'
            subst this
            exact (hp.trans g.nums).eq_of_pairwise (fun a b _ _ h1 h2 => Int.le_antisymm h1 h2) hs (oneTo_sorted _)
      · have e1 : (!decide ((1 : Int) ≤ (xs.length : Nat) ∧ ((xs.length : Nat) : Int) < 8)) = true := by rw [decide_eq_false fun z => cl ⟨by omega, by omega⟩]; rfl
        refine iteB (fun _ => q2 (fun ⟨M, em, g⟩ => cl ?_) _ u1) fun c => absurd (e1.symm.trans c) (by decide)
        have := noLen em
        have := g.pos
        have := g.le
        exact ⟨by omega, by omega⟩
end
end K54

namespace K54
open PySem L2 PyProof.Rows
theorem KLi.nep {K : PySem.W.Frag} {n : Nat} {H : Hp} {v : V} {p : Addr} (h : KLi K n H v) (hn : n ≠ 3) (pen : Pen H p) : v ≠ .ref p := by
  obtain ⟨a, xs, rfl, h, l, _⟩ := h
  obtain ⟨x, y, z, hp⟩ := pen
  intro e
  cases e
  rw [hp] at h
  have := HO.lst.inj (Option.some.inj h)
  rw [← this] at l
  exact hn l.symm
theorem SqAt.ltn {K : PySem.W.Frag} {p a : Addr} {H H' : Hp} {M : Sq} (h : SqAt K H a M) (e : Ltn p H H') : SqAt K H' a M := by
  obtain ⟨xs, h1, h2⟩ := h.at_
  exact ⟨⟨xs, e.seqT h1, Mat.turn e h2⟩, h.le, h.rows⟩
theorem SqAt.known {K : PySem.W.Frag} {a : Addr} {H : Hp} {M : Sq} (h : SqAt K H a M) : KTu K 7 H (.ref a) := by
  obtain ⟨xs, h1, h2⟩ := h.at_
  refine ⟨a, xs, rfl, h1, by rw [← h2.len]; exact h.le, fun x hx => ?_⟩
  obtain ⟨i, hi, rfl⟩ := List.mem_iff_getElem.mp hx
  obtain ⟨row, c, _, e, hc⟩ := h2.get (List.getElem?_eq_getElem hi)
  rw [e]
  exact .tup hc fun y hy => by
    obtain ⟨z, _, rfl⟩ := List.mem_map.mp hy
    exact .int z
theorem ints_known {K : PySem.W.Frag} {H : Hp} {row : List Int} : ∀ y ∈ row.map V.int, Known K H y := fun y hy => by
  obtain ⟨z, _, rfl⟩ := List.mem_map.mp hy
  exact .int z
/-- a row of a square -/
structure RowAt (K : PySem.W.Frag) (H : Hp) (c : Addr) (row : List Int) : Prop where
  at_ : SqT K H c (row.map V.int)
  pos : 0 < row.length
  le : row.length ≤ 7
  rng : ∀ z ∈ row, 1 ≤ z ∧ z ≤ 49
theorem RowAt.same {K : PySem.W.Frag} {H H' : Hp} {c : Addr} {row : List Int} (h : RowAt K H c row) (e : Same H H') : RowAt K H' c row := ⟨e.tup h.at_, h.pos, h.le, h.rng⟩
theorem RowAt.ltn {K : PySem.W.Frag} {p c : Addr} {H H' : Hp} {row : List Int} (h : RowAt K H c row) (e : Ltn p H H') : RowAt K H' c row := ⟨e.seqT h.at_, h.pos, h.le, h.rng⟩
theorem RowAt.kt {K : PySem.W.Frag} {H : Hp} {c : Addr} {row : List Int} (h : RowAt K H c row) : KTu K 7 H (.ref c) := ⟨c, _, rfl, h.at_, by rw [List.length_map]; exact h.le, ints_known⟩
/-- what a square's row is, drawn -/
theorem row_at {K : PySem.W.Frag} {H : Hp} {a : Addr} {M : Sq} {r : Int} (sq : SqAt K H a M) (g : GoodM M) (h0 : 0 ≤ r) (h1 : r < M.length) : ∃ (xs : List V) (c : Addr) (row : List Int), SqT K H a xs ∧ atI xs r = some (.ref c) ∧ RowAt K H c row ∧ row.length = M.length := by
  obtain ⟨xs, x1, x2⟩ := sq.at_
  obtain ⟨n, rfl⟩ : ∃ n : Nat, r = n := ⟨r.toNat, by omega⟩
  have hn : n < M.length := by omega
  obtain ⟨c, e, hc⟩ := Mat.getD x2 hn
  have mem := getD_mem (d := []) hn
  refine ⟨xs, c, M.getD n [], x1, atI_nat e, ⟨hc, ?_, ?_, fun z hz => ?_⟩, g.rows _ mem⟩
  · rw [g.rows _ mem]; exact g.pos
  · rw [g.rows _ mem]; exact g.le
  · have := (numL_iff.mp g.nums).2.1 z (List.mem_flatten.mpr ⟨_, mem, hz⟩)
    have n49 : M.length * M.length ≤ 7 * 7 := Nat.mul_le_mul g.le g.le
    omega
theorem num_at {row : List Int} {r : Int} (h0 : 0 ≤ r) (h1 : r < row.length) : ∃ z, z ∈ row ∧ atI (row.map V.int) r = some (.int z) := by
  obtain ⟨n, rfl⟩ : ∃ n : Nat, r = n := ⟨r.toNat, by omega⟩
  have hn : n < row.length := by omega
  exact ⟨row.getD n 0, getD_mem hn, at_num hn⟩
def SmallI (_ : Hp) (v : V) : Prop := ∃ z : Int, v = .int z ∧ 1 ≤ z ∧ z ≤ 49
/-- ahead of the list of odd things -/
def Pr5 (K : PySem.W.Frag) (σ : L2.St) (H : Hp) : Prop := ∃ (v0 v1 v3 : Option V) (n at_ : Int) (c : Addr) (row : List Int) (vo : V) (r : L2.St), σ = v0 :: v1 :: some (.int n) :: v3 :: some (.int at_) :: some (.ref c) :: some vo :: r ∧ 0 ≤ n ∧ n ≤ 7 ∧ RowAt K H c row ∧ 0 ≤ at_ ∧ at_ < row.length ∧ Known K H vo
theorem Pr5.grows {K : PySem.W.Frag} : Grows (Pr5 K) := fun _ _ _ ⟨v0, v1, v3, n, t, c, row, vo, r, e, h1, h2, h3, h4, h5, h6⟩ s => ⟨v0, v1, v3, n, t, c, row, vo, r, e, h1, h2, h3.same s, h4, h5, h6.same s⟩
/-- ahead of the list of rows -/
def Pr7 (K : PySem.W.Frag) (σ : L2.St) (H : Hp) : Prop := ∃ (v0 v1 v2 v3 v6 v7 : Option V) (at_ : Int) (c : Addr) (row : List Int) (vc : V) (r : L2.St), σ = v0 :: v1 :: v2 :: v3 :: some (.int at_) :: some (.ref c) :: v6 :: v7 :: some vc :: r ∧ RowAt K H c row ∧ Known K H vc
theorem Pr7.grows {K : PySem.W.Frag} : Grows (Pr7 K) := fun _ _ _ ⟨v0, v1, v2, v3, v6, v7, t, c, row, vc, r, e, h1, h2⟩ s => ⟨v0, v1, v2, v3, v6, v7, t, c, row, vc, r, e, h1.same s, h2.same s⟩
/-- ahead of the list of squares -/
def Pr9 (K : PySem.W.Frag) (σ : L2.St) (H : Hp) : Prop := ∃ (a : Addr) (v1 v2 v4 : Option V) (sp : Int) (c : Addr) (r : L2.St), σ = some (.ref a) :: v1 :: v2 :: some (.int sp) :: v4 :: some (.ref c) :: r ∧ KTu K 7 H (.ref a) ∧ Known K H (.ref c)
theorem Pr9.grows {K : PySem.W.Frag} : Grows (Pr9 K) := fun _ _ _ ⟨a, v1, v2, v4, sp, c, r, e, h1, h2⟩ s => ⟨a, v1, v2, v4, sp, c, r, e, KTu.gr _ _ _ h1 s, h2.same s⟩
section
variable {P : Program} {w : World} {K : PySem.W.Frag} {mg : Str → Option Value} {base : Heap}
def spSpoilt (K : PySem.W.Frag) : Sp := fun vs H Q _ => ∃ a p M, vs = [.ref a, .ref p] ∧ SqAt K H a M ∧ GoodM M ∧ Pen H p ∧ ∀ v H', Known K H' v → Pen H' p → SameBut p H H' → Q v H'
def spN : List Str := ["square", "pen", "size", "spot", "at", "row", "other", "odd", "changed", "rows", "some"]
theorem scSp : FnScope spN ["square", "pen"] (defScope (top 19)) := ⟨rfl, rfl, rfl, by decide +kernel, rfl, by decide +kernel, by decide +kernel⟩
def scSpC : Scope := { kind := .function, names := [(".0", .local), ("one", .local)], isGenerator := false, isCoroutine := false, more := [] }
theorem bkSp : BlkD (defScope (top 19)) spN scSpC spN ["one"] := ⟨rfl, by decide +kernel, by decide +kernel, by decide +kernel, rfl, by decide +kernel, by decide +kernel, by decide +kernel, by decide +kernel⟩
section
variable {X : Cx}
theorem pe_revK {K : PySem.W.Frag} {e k : Expr} {te tk : TE} {p2 pos : Pos} (hK : X.K = K) (he : PE X e te) (hk : PE X k tk) : PE X (.Subscript e (.Slice none none (some k) p2) pos) (tRevT K te tk) := hK ▸ pe_revT he hk
end
theorem ok_spoilt (h : Has K mg "_law_spoilt" (top 19) ["square", "pen"]) (T : Txt mg) (GD : Ok P w K mg base "_law_draw" ["pen", "many"] 2 spDraw) : Ok P w K mg base "_law_spoilt" ["square", "pen"] 3 (spSpoilt K) := by
  refine h.ok scSp (fun vs H Q E h => ?_) (fun f cdv A outer s H vs Q E hr h => ?_)
  · obtain ⟨a, p, M, rfl, _⟩ := h; rfl
  · obtain ⟨a, p, M, rfl, sq, g, pen, q⟩ := h
    have small : ∀ {n : Nat}, n ≤ 1000 → n ≤ sizeLine := fun h => Nat.le_of_lt (small1000 h)
    have l1 := g.pos
    have l7 := g.le
    let X := (cxOf CX0 P w K mg base spN "_law_spoilt" (defScope (top 19)) f cdv A outer s H E).nox
    have B : ∀ {b : Int}, b < 100 → b < 10 ^ 70 := fun h => Int.lt_trans h (by decide)
    -- squares that are none
    have tail9 : ∃ t, PSs X ((defBody (top 19)).drop 9) t ∧ ∀ (v2 v4 v6 v7 v8 v9 v10 : Option V) (sp : Int) (c : Addr) (H2 : Hp), SqAt K H2 a M → Known K H2 (.ref c) → Pen H2 p → SameBut p H H2 → t { nx := fun _ H' => Q .non H', rt := Q } [some (.ref a), some (.ref p), v2, some (.int sp), v4, some (.ref c), v6, v7, v8, v9, v10] H2 := by
      have kSq : ∀ {p1}, ZE X (.Name "square" p1) (tR (KTu K 7) (Pr9 K)) := fun {p1} => zk_var 0 fun σ H ⟨a, v1, v2, v4, sp, c, r, e, h1, h2⟩ => ⟨_, by rw [e]; rfl, h1⟩
      have kSp : ∀ {p1}, ZE X (.Name "spot" p1) (tR IntR (Pr9 K)) := fun {p1} => zk_var 3 fun σ H ⟨a, v1, v2, v4, sp, c, r, e, h1, h2⟩ => ⟨_, by rw [e]; rfl, ⟨sp, rfl⟩⟩
      have kRo : ∀ {p1}, ZE X (.Name "row" p1) (tR (Known K) (Pr9 K)) := fun {p1} => zk_var 5 fun σ H ⟨a, v1, v2, v4, sp, c, r, e, h1, h2⟩ => ⟨_, by rw [e]; rfl, h2⟩
      have gr : Grows (Pr9 K) := Pr9.grows
      refine zss_out ⟨_, zss_cons (zs_set (i := 10) scSp.nd rfl (Or.inl rfl) (zk_lst (by decide) (zk_cons gr (zk_t (zk_rev gr kSq)) (zk_cons gr (zk_t (zk_slice gr kSq zp_none (zp_some zk_neg))) (zk_cons gr (zk_t (zk_cat gr (by decide) kSq (zk_slice gr kSq zp_none (zp_some zk_int)))) (zk_cons gr (zk_listT (by rfl) T.list kSq)
          (zk_cons gr (zk_t (zk_cat gr (by decide) (zk_slice gr kSq (zp_some kSp) zp_none) (zk_slice gr kSq zp_none (zp_some kSp)))) (zk_cons gr (zk_t (zk_tup (by decide) zra_nil)) (zk_cons gr zk_non (zk_cons gr kRo zra_nil))))))))))
        (zss_of (pss_one (ps_ret (pe_ix ix_list (pe_op op_cat (pv 10) (pe_lst (pa_cons (pe_callTy call_tuple_of (by rfl) T.tuple PyProof.Rows.boot_tuple (pa_cons (pe_comp (M := spN) (tgs := ["one"]) rfl bkSp.ok (pi_tup (pv 0)) (fun cl C fp s H => pg_name (i := 11) bkSp.nd rfl (Or.inl rfl)) (fun cl C fp s H => pif0) (fun cl C fp s H => pe_revK (K := K) rfl (pv 11) (pe_un un_neg pe_int))) pa_nil)) (pa_cons (pe_ix ix_tup (pe_ix ix_tup (pv 0) pe_int (fun _ _ => rfl)) pe_int (fun _ _ => rfl)) pa_nil)))) (pe_callG GD hr (by rfl) (pa_cons (pv 1) (pa_cons pe_int pa_nil))) (fun _ _ => rfl))))), ?_⟩
      intro v2 v4 v6 v7 v8 v9 v10 sp c H2 sq2 kc pen2 sb2
      refine ⟨⟨a, _, _, _, sp, c, _, rfl, sq2.known, kc⟩, fun vl H3 s3 kl => ?_⟩
      obtain ⟨sl, ys, rfl, hsl, lsl, ksl⟩ := kl
      have sq3 := sq2.same s3
      obtain ⟨xs, x1, x2⟩ := sq3.at_
      refine ⟨_, rfl, _, rfl, a, rfl, ⟨_, x1⟩, comp_tup (K := K) (a := a) (xs := xs) (fun i zs H' => Same H3 H' ∧ zs.length = i ∧ ∀ z ∈ zs, Known K H' z) ⟨Same.refl _, rfl, fun _ h => (by cases h)⟩ (fun i zs H' hi pv => ⟨pv.1.tup x1, small (by have := pv.2.1; have := x2.len; omega)⟩) (fun i x zs H' hx hi pv => ?_) (fun zs H' pv l hl => ?_)⟩
      · obtain ⟨e, lz, kz⟩ := pv
        obtain ⟨row, rc, hrow, rfl, hrc⟩ := x2.get hx
        refine ⟨rfl, _, rfl, _, rfl, _, rfl, rc, _, rfl, rfl, e.tup hrc, fun y hy => .mk hi ⟨e.trans (Same.upd hy), by rw [List.length_append, lz]; rfl, fun z hz => ?_⟩⟩
        rcases List.mem_append.mp hz with hz | hz
        · exact (kz z hz).same (Same.upd hy)
        · have : z = .ref y := by simpa using hz
          subst this
          exact .tup (.inl (.inl upd_same)) fun u hu => by
            obtain ⟨i', _, rfl⟩ := List.mem_map.mp (List.mem_reverse.mp hu)
            exact .int i'
      · obtain ⟨e, lz, kz⟩ := pv
        refine ⟨l, _, rfl, .inl ⟨.inl (.inl upd_same), fun nt hnt => ?_⟩⟩
        have s4 := (Same.upd (o := .lst zs) hl).trans (Same.upd (o := .tup zs) hnt)
        have kt : Known K (upd (upd H' l (.lst zs)) nt (.tup zs)) (.ref nt) := .tup (.inl (.inl upd_same)) fun z hz => (kz z hz).same s4
        have s5 := e.trans s4
        generalize (upd (upd H' l (.lst zs)) nt (.tup zs)) = H5 at kt s5 ⊢
        have sq5 := sq3.same s5
        obtain ⟨xs', c0, row, y1, y2, y3, _⟩ := row_at sq5 g (show (0 : Int) ≤ 0 by decide) (by omega)
        obtain ⟨z, _, hz⟩ := num_at (row := row) (show (0 : Int) ≤ 0 by decide) (by have := y3.pos; omega)
        refine ⟨_, rfl, a, xs', 0, _, rfl, rfl, y1, y2, c0, _, 0, _, rfl, rfl, y3.at_, hz, by show 2 ≤ sizeLine; decide, fun l6 hl6 => ?_⟩
        have b6 := Same.upd (o := .lst [.ref nt, .int z]) hl6
        have hs6 := b6 _ _ (s5 _ _ hsl)
        refine ⟨sl, l6, _, _, rfl, rfl, hs6, upd_same, small (by rw [lsl]; show 8 + 2 ≤ 1000; decide), fun l8 hl8 => ?_⟩
        have b8 := Same.upd (o := .lst (ys ++ [.ref nt, .int z])) hl8
        have s8 := s5.trans (b6.trans b8)
        have pen8 := (pen2.same s3).same s8
        have nl8 : l8 ≠ p := (((pen2.same s3).same (s5.trans b6)).ne hl8).symm
        refine ⟨_, rfl, p, 10, rfl, pen8, by decide, by decide, fun r H9 r0 r1 pen9 e9 => ?_⟩
        obtain ⟨x, hx, ex⟩ := atI_in (xs := ys ++ [.ref nt, .int z]) r0 (by rw [List.length_append, lsl]; show r < ((8 + 2 : Nat) : Int); omega)
        refine ⟨l8, _, r, x, rfl, rfl, .inl (.inl (by rw [e9 l8 nl8]; exact upd_same)), ex, q x H9 ?_ pen9 (((sb2.same s3).same s8).trans (but_of e9))⟩
        have lt := Ltn.pen pen8 pen9 e9
        rcases List.mem_append.mp hx with hx | hx
        · exact ((ksl x hx).same s8).ltn lt
        · rcases (by simpa using hx : x = .ref nt ∨ x = .int z) with rfl | rfl
          · exact (kt.same (b6.trans b8)).ltn lt
          · exact .int z
    obtain ⟨t9, p9, g9⟩ := tail9
    have cutK : ∀ {H' : Hp} {xs : List V} {lo hi : Option Int}, (∀ x ∈ xs, Known K H' x) → ∀ x ∈ cutV xs lo hi, Known K H' x := fun k x hx => k x (List.mem_of_mem_drop (List.mem_of_mem_take hx))
    -- rows that are none
    have tail7 : ∃ t, PSs X ((defBody (top 19)).drop 7) t ∧ ∀ (v2 v6 v7 v9 v10 : Option V) (sp at_ : Int) (c : Addr) (row : List Int) (vc : V) (H2 : Hp), SqAt K H2 a M → RowAt K H2 c row → Known K H2 vc → Pen H2 p → SameBut p H H2 → t { nx := fun _ H' => Q .non H', rt := Q } [some (.ref a), some (.ref p), v2, some (.int sp), some (.int at_), some (.ref c), v6, v7, some vc, v9, v10] H2 := by
      have kRo : ∀ {p1}, ZE X (.Name "row" p1) (tR (KTu K 7) (Pr7 K)) := fun {p1} => zk_var 5 fun σ H ⟨v0, v1, v2, v3, v6, v7, t, c, row, vc, r, e, h1, h2⟩ => ⟨_, by rw [e]; rfl, h1.kt⟩
      have kAt : ∀ {p1}, ZE X (.Name "at" p1) (tR IntR (Pr7 K)) := fun {p1} => zk_var 4 fun σ H ⟨v0, v1, v2, v3, v6, v7, t, c, row, vc, r, e, h1, h2⟩ => ⟨_, by rw [e]; rfl, ⟨t, rfl⟩⟩
      have kCh : ∀ {p1}, ZE X (.Name "changed" p1) (tR (Known K) (Pr7 K)) := fun {p1} => zk_var 8 fun σ H ⟨v0, v1, v2, v3, v6, v7, t, c, row, vc, r, e, h1, h2⟩ => ⟨_, by rw [e]; rfl, h2⟩
      have kR0 : ∀ {p1 p2 p3 j}, ZE X (.Subscript (.Name "row" p1) (.Constant (.int 0) j p2) p3) (tR (Known K) (Pr7 K)) := fun {p1 p2 p3 j} => zx_of (ze_of (pe_ix ix_tup (pv 5) pe_int (fun _ _ => rfl))) fun σ H Q ⟨v0, v1, v2, v3, v6, v7, t, c, row, vc, r, e, h1, h2⟩ q => by
        subst e
        obtain ⟨z, _, hz⟩ := num_at (row := row) (show (0 : Int) ≤ 0 by decide) (by have := h1.pos; omega)
        exact ⟨_, rfl, c, _, 0, _, rfl, rfl, h1.at_, hz, q _ _ (Same.refl _) (.int z)⟩
      have gr : Grows (Pr7 K) := Pr7.grows
      refine zss_out ⟨_, zss_cons (zs_set (i := 9) scSp.nd rfl (Or.inl rfl) (zk_lst (by decide) (zk_cons gr kCh (zk_cons gr (zk_t (zk_rev gr kRo)) (zk_cons gr (zk_listT (by rfl) T.list kRo) (zk_cons gr (zk_t (zk_cat gr (by decide) kRo (zk_slice gr kRo zp_none (zp_some zk_int))))
          (zk_cons gr (zk_t (zk_slice gr kRo (zp_some zk_int) zp_none)) (zk_cons gr zk_non (zk_cons gr (zk_t (zk_cat gr (by decide) (zk_slice gr kRo (zp_some kAt) zp_none) (zk_slice gr kRo zp_none (zp_some kAt)))) (zk_cons gr kR0 zra_nil))))))))))
        (zss_cons (zs_if (pt_cmpR op_eq (pe_callG GD hr (by rfl) (pa_cons (pv 1) (pa_cons pe_int pa_nil))) pe_int (nomark _)) (zss_one (zs_ret (ze_of (pe_op op_catU (pe_op op_catU (pe_slice sl_tupU (pv 0) po_none (po_some (pv 3))) (pe_tup (pa_cons (pe_ix ix_list (pv 9) (pe_callG GD hr (by rfl) (pa_cons (pv 1) (pa_cons pe_int pa_nil))) (fun _ _ => rfl)) pa_nil))) (pe_slice sl_tupU (pv 0) (po_some (pe_op op_add (pv 3) pe_int)) po_none))))) zss_nil)
        (zss_of p9)), ?_⟩
      intro v2 v6 v7 v9 v10 sp at_ c row vc H2 sq2 ro2 kc pen2 sb2
      refine ⟨⟨_, _, _, _, _, _, at_, c, row, vc, _, rfl, ro2, kc⟩, fun vl H3 s3 kl => ?_⟩
      have pen3 := pen2.same s3
      have kl3 := kl
      have nep := KLi.nep kl (by decide) pen3
      refine ⟨_, rfl, p, 2, rfl, pen3, by decide, by decide, fun r H4 r0 r1 pen4 e4 => ⟨rfl, _, rfl, ?_⟩⟩
      have lt4 := Ltn.pen pen3 pen4 e4
      have sq4 := (sq2.same s3).ltn lt4
      have ro4 := (ro2.same s3).ltn lt4
      have kl4 := KLi.ltn kl lt4 nep
      have sb4 := (sb2.same s3).trans (but_of e4)
      refine iteB (fun _ => ?_) fun _ => g9 _ _ _ _ _ _ _ sp c H4 sq4 ro4.kt.known pen4 sb4
      obtain ⟨xs, x1, x2⟩ := sq4.at_
      obtain ⟨_, ws, e0, y1, y2, y3⟩ := sq4.known
      cases e0
      refine ⟨_, rfl, _, rfl, _, rfl, a, _, rfl, y1, fun s1 H5 h5 s5 => ?_⟩
      have pen5 := pen4.same s5
      have kl5 := KLi.gr _ _ _ kl4 s5
      have nep5 := KLi.nep kl5 (by decide) pen5
      refine ⟨_, rfl, _, rfl, p, 8, rfl, pen5, by decide, by decide, fun r' H6 r0' r1' pen6 e6 => ?_⟩
      have lt6 := Ltn.pen pen5 pen6 e6
      obtain ⟨sl, zs, rfl, hz, lz, kz⟩ := KLi.ltn kl5 lt6 nep5
      obtain ⟨x, hx, ex⟩ := atI_in (xs := zs) r0' (by omega)
      refine ⟨sl, zs, r', x, rfl, rfl, .inl (.inl hz), ex, by show 1 ≤ sizeLine; decide, fun s2 hs2 => ?_⟩
      have b7 := Same.upd (o := .tup [x]) hs2
      refine ⟨s1, s2, _, _, rfl, rfl, b7.tup (lt6.seqT h5), .inl (.inl upd_same), small ?_, fun s4' H8 h8 s8 => ?_⟩
      · have := cutV_length ws none (some sp)
        show (cutV ws none (some sp)).length + 1 ≤ 1000
        omega
      have s78 := b7.trans s8
      have y8 := s78.tup (lt6.seqT (s5.tup y1))
      refine ⟨_, rfl, _, rfl, _, _, rfl, rfl, _, rfl, a, _, rfl, y8, fun s6 H9 h9 s9 => ⟨s4', s6, _, _, rfl, rfl, s9.tup h8, h9, small ?_, fun rt HA hA sA => ?_⟩⟩
      · have h1 := cutV_length ws none (some sp)
        have h2 := cutV_length ws (some (sp + 1)) none
        rw [List.length_append]
        show (cutV ws none (some sp)).length + 1 + (cutV ws (some (sp + 1)) none).length ≤ 1000
        omega
      have s6A := s78.trans (s9.trans sA)
      have k6 : ∀ u ∈ _, Known K H6 u := fun u hu => ((y3 u hu).same s5).ltn lt6
      refine q _ HA (.tup hA fun u hu => ?_) (pen6.same s6A) (((sb4.same s5).trans (but_of e6)).same s6A)
      rcases List.mem_append.mp hu with hu | hu
      · rcases List.mem_append.mp hu with hu | hu
        · exact (cutK k6 u hu).same s6A
        · have : u = x := by simpa using hu
          rw [this]
          exact (kz x hx).same s6A
      · exact (cutK k6 u hu).same s6A
    obtain ⟨t7, p7, g7⟩ := tail7
    -- a row with an odd thing
    have tail5 : ∃ t, PSs X ((defBody (top 19)).drop 5) t ∧ ∀ (v7 v8 v9 v10 : Option V) (n sp at_ : Int) (c : Addr) (row : List Int) (vo : V) (H2 : Hp), 0 ≤ n → n ≤ 7 → SqAt K H2 a M → RowAt K H2 c row → 0 ≤ at_ → at_ < row.length → Known K H2 vo → Pen H2 p → SameBut p H H2 → t { nx := fun _ H' => Q .non H', rt := Q } [some (.ref a), some (.ref p), some (.int n), some (.int sp), some (.int at_), some (.ref c), some vo, v7, v8, v9, v10] H2 := by
      have gr : Grows (Pr5 K) := Pr5.grows
      have kOt : ∀ {p1}, ZE X (.Name "other" p1) (tR (Known K) (Pr5 K)) := fun {p1} => zk_var 6 fun σ H ⟨v0, v1, v3, n, t, c, row, vo, r, e, h1, h2, h3, h4, h5, h6⟩ => ⟨_, by rw [e]; rfl, h6⟩
      have kSz : ∀ {p1 p2 p3 p4 p5 j}, ZE X (.BinOp (.BinOp (.Name "size" p1) .Mult (.Name "size" p2) p3) .Add (.Constant (.int 1) j p4) p5) (tR (Known K) (Pr5 K)) := fun {p1 p2 p3 p4 p5 j} => zx_of (ze_of (pe_op op_add (pe_op op_mul (pv 2) (pv 2)) pe_int)) fun σ H Q ⟨v0, v1, v3, n, t, c, row, vo, r, e, h1, h2, h3, h4, h5, h6⟩ q => by
        subst e
        exact ⟨_, rfl, _, rfl, _, _, rfl, rfl, .inl ⟨by omega, by omega⟩, _, _, rfl, rfl, q _ _ (Same.refl _) (.int _)⟩
      have kRA : ∀ {p1 p2 p3}, ZE X (.Subscript (.Name "row" p1) (.Name "at" p2) p3) (tR SmallI (Pr5 K)) := fun {p1 p2 p3} => zx_of (ze_of (pe_ix ix_tup (pv 5) (pv 4) (fun _ _ => rfl))) fun σ H Q ⟨v0, v1, v3, n, t, c, row, vo, r, e, h1, h2, h3, h4, h5, h6⟩ q => by
        subst e
        obtain ⟨z, hz, ez⟩ := num_at h4 h5
        exact ⟨_, rfl, _, rfl, c, _, _, _, rfl, rfl, h3.at_, ez, q _ _ (Same.refl _) ⟨z, rfl, h3.rng z hz⟩⟩
      have kRI : ∀ {p1 p2 p3}, ZE X (.Subscript (.Name "row" p1) (.Name "at" p2) p3) (tR IntR (Pr5 K)) := fun {p1 p2 p3} => zk_w kRA fun _ _ ⟨z, e, _⟩ => ⟨z, e⟩
      have kStr : ∀ {p1 p2 p3 p4 p5}, ZE X (.Call (.Name "str" p1) [.Subscript (.Name "row" p2) (.Name "at" p3) p4] [] p5) (tR (Known K) (Pr5 K)) := fun {p1 p2 p3 p4 p5} => zx_of (ze_of (pe_callTy call_str_int (by rfl) T.str PyProof.Rows.boot_str (pa_cons kRA.p pa_nil))) fun σ H Q pr q => by
        refine ⟨pr, fun v H1 s1 ⟨z, e, z1, z2⟩ => ?_⟩
        subst e
        refine ⟨z, rfl, ?_, q _ _ s1 ⟨.str _, rfl⟩⟩
        have := Nat.log2_le_self z.natAbs
        omega
      refine zss_out ⟨_, zss_cons (zs_set (i := 7) scSp.nd rfl (Or.inl rfl) (zk_lst (by decide) (zk_cons gr kOt (zk_cons gr (zk_i zk_int) (zk_cons gr kSz (zk_cons gr zk_bl (zk_cons gr zk_non (zk_cons gr kStr (zk_cons gr (zk_i (zk_add gr kRI zk_int)) (zk_cons gr (zk_t (zk_tup (by decide) (zk_cons gr (zk_i kRI) zra_nil))) zra_nil))))))))))
        (zss_cons (zs_set (i := 8) scSp.nd rfl (Or.inl rfl) (ze_of (pe_op op_catU (pe_op op_catU (pe_slice sl_tupU (pv 5) po_none (po_some (pv 4))) (pe_tup (pa_cons (pe_ix ix_list (pv 7) (pe_callG GD hr (by rfl) (pa_cons (pv 1) (pa_cons pe_int pa_nil))) (fun _ _ => rfl)) pa_nil))) (pe_slice sl_tupU (pv 5) (po_some (pe_op op_add (pv 4) pe_int)) po_none))))
        (zss_of p7)), ?_⟩
      intro v7 v8 v9 v10 n sp at_ c row vo H2 n0 n7 sq2 ro2 t0 t1 ko pen2 sb2
      refine ⟨⟨_, _, _, n, at_, c, row, vo, _, rfl, n0, n7, ro2, t0, t1, ko⟩, fun vl H4 s4 kl4 => ?_⟩
      have pen4 := pen2.same s4
      have sq4 := sq2.same s4
      have ro4 := ro2.same s4
      have sb4 := sb2.same s4
      refine ⟨_, rfl, _, rfl, _, rfl, c, _, rfl, ro4.at_, fun s1 H5 h5 s5 => ?_⟩
      have pen5 := pen4.same s5
      have kl5 := KLi.gr _ _ _ kl4 s5
      have nep5 := KLi.nep kl5 (by decide) pen5
      refine ⟨_, rfl, _, rfl, p, 8, rfl, pen5, by decide, by decide, fun r' H6 r0' r1' pen6 e6 => ?_⟩
      have lt6 := Ltn.pen pen5 pen6 e6
      obtain ⟨sl, zs, rfl, hz, lz, kz⟩ := KLi.ltn kl5 lt6 nep5
      obtain ⟨x, hx, ex⟩ := atI_in (xs := zs) r0' (by omega)
      have y2 : (row.map V.int).length ≤ 7 := by rw [List.length_map]; exact ro2.le
      refine ⟨sl, zs, r', x, rfl, rfl, .inl (.inl hz), ex, by show 1 ≤ sizeLine; decide, fun s2 hs2 => ?_⟩
      have b7 := Same.upd (o := .tup [x]) hs2
      refine ⟨s1, s2, _, _, rfl, rfl, b7.tup (lt6.seqT h5), .inl (.inl upd_same), small ?_, fun s4' H8 h8 s8 => ?_⟩
      · have := cutV_length (row.map V.int) none (some at_)
        show (cutV (row.map V.int) none (some at_)).length + 1 ≤ 1000
        omega
      have s78 := b7.trans s8
      have ro6 := (ro4.same s5).ltn lt6
      have y8 := s78.tup ro6.at_
      refine ⟨_, rfl, _, rfl, _, _, rfl, rfl, _, rfl, c, _, rfl, y8, fun s6 H9 h9 s9 => ⟨s4', s6, _, _, rfl, rfl, s9.tup h8, h9, small ?_, fun rt HA hA sA => ?_⟩⟩
      · have h1 := cutV_length (row.map V.int) none (some at_)
        have h2 := cutV_length (row.map V.int) (some (at_ + 1)) none
        rw [List.length_append]
        show (cutV (row.map V.int) none (some at_)).length + 1 + (cutV (row.map V.int) (some (at_ + 1)) none).length ≤ 1000
        omega
      have s6A := s78.trans (s9.trans sA)
      refine g7 _ _ _ _ _ sp at_ c row _ HA (((sq4.same s5).ltn lt6).same s6A) (ro6.same s6A) (.tup hA fun u hu => ?_) (pen6.same s6A) (((sb4.same s5).trans (but_of e6)).same s6A)
      have k6 : ∀ u ∈ row.map V.int, Known K H6 u := ints_known
      rcases List.mem_append.mp hu with hu | hu
      · rcases List.mem_append.mp hu with hu | hu
        · exact (cutK k6 u hu).same s6A
        · have : u = x := by simpa using hu
          rw [this]
          exact (kz x hx).same s6A
      · exact (cutK k6 u hu).same s6A
    obtain ⟨t5, p5, g5⟩ := tail5
    refine ⟨_, pss_cons (ps_set (i := 2) scSp.nd rfl (Or.inl rfl) (pe_callB call_len_seq (by rfl) T.len PySem.boot_len (pa_cons (pv 0) pa_nil)))
      (pss_cons (ps_set (i := 3) scSp.nd rfl (Or.inl rfl) (pe_callG GD hr (by rfl) (pa_cons (pv 1) (pa_cons (pv 2) pa_nil))))
      (pss_cons (ps_set (i := 4) scSp.nd rfl (Or.inl rfl) (pe_callG GD hr (by rfl) (pa_cons (pv 1) (pa_cons (pv 2) pa_nil))))
      (pss_cons (ps_set (i := 5) scSp.nd rfl (Or.inl rfl) (pe_ix ix_tup (pv 0) (pv 3) (fun _ _ => rfl)))
      (pss_cons (ps_set (i := 6) scSp.nd rfl (Or.inl rfl) (pe_ix ix_tup (pe_ix ix_tup (pv 0) (pe_callG GD hr (by rfl) (pa_cons (pv 1) (pa_cons (pv 2) pa_nil))) (fun _ _ => rfl)) (pe_callG GD hr (by rfl) (pa_cons (pv 1) (pa_cons (pv 2) pa_nil))) (fun _ _ => rfl))) p5)))), ?_⟩
    obtain ⟨xs, x1, x2⟩ := sq.at_
    have lx := x2.len
    refine ⟨_, rfl, a, xs, rfl, .inr x1, ?_⟩
    refine ⟨_, rfl, _, rfl, p, _, rfl, pen, by omega, B (by omega), fun sp H2 sp0 sp1 pen2 e2 => ?_⟩
    have lt2 := Ltn.pen pen pen2 e2
    refine ⟨_, rfl, _, rfl, p, _, rfl, pen2, by omega, B (by omega), fun at_ H3 t0 t1 pen3 e3 => ?_⟩
    have lt3 := Ltn.pen pen2 pen3 e3
    have sq3 := (sq.ltn lt2).ltn lt3
    have sb3 : SameBut p H H3 := (but_of e2).trans (but_of e3)
    obtain ⟨ys, c, row, y1, y2, ro, lr⟩ := row_at sq3 g sp0 (by omega)
    refine ⟨_, rfl, _, rfl, a, ys, sp, _, rfl, rfl, y1, y2, ?_⟩
    refine ⟨_, rfl, _, rfl, _, rfl, p, _, rfl, pen3, by omega, B (by omega), fun r4 H4 r40 r41 pen4 e4 => ?_⟩
    have lt4 := Ltn.pen pen3 pen4 e4
    obtain ⟨ys4, c4, row4, y14, y24, ro4, lr4⟩ := row_at (sq3.ltn lt4) g r40 (by omega)
    refine ⟨a, ys4, r4, _, rfl, rfl, y14, y24, _, rfl, _, rfl, p, _, rfl, pen4, by omega, B (by omega), fun r5 H5 r50 r51 pen5 e5 => ?_⟩
    have lt5 := Ltn.pen pen4 pen5 e5
    obtain ⟨z, hz, ez⟩ := num_at (row := row4) r50 (by omega)
    refine ⟨c4, _, r5, _, rfl, rfl, (ro4.ltn lt5).at_, ez, ?_⟩
    exact g5 _ _ _ _ _ sp at_ c row _ H5 (by omega) (by omega) ((sq3.ltn lt4).ltn lt5) ((ro.ltn lt4).ltn lt5) t0 (by omega) (.int z) pen5 ((sb3.trans (but_of e4)).trans (but_of e5))
end
end K54

namespace K54
open PySem L2 PyProof.Rows
theorem but_sq {K : PySem.W.Frag} {p a : Addr} {H H' : Hp} {xs : List V} (pen : Pen H p) (sb : SameBut p H H') (h : SqT K H a xs) : SqT K H' a xs := by
  obtain ⟨x, y, z, hp⟩ := pen
  rcases h with (h | ⟨o, h⟩) | h
  · exact .inl (.inl (sb _ _ (ne_of h hp (by intro e; cases e)) h))
  · exact .inl (.inr ⟨o, sb _ _ (ne_of h hp (by intro e; cases e)) h⟩)
  · exact .inr h
section
variable {P : Program} {w : World} {K : PySem.W.Frag} {mg : Str → Option Value} {base : Heap}
/-! ### _law_right -/
def spRight (K : PySem.W.Frag) : Sp := fun vs H Q _ => ∃ v, vs = [v] ∧ Known K H v ∧ ∀ H', Same H H' → Q (.bl true) H'
theorem scRi : FnScope ["thing", "found"] ["thing"] (defScope (top 20)) := ⟨rfl, rfl, rfl, by decide +kernel, rfl, by decide +kernel, by decide +kernel⟩
theorem ok_right (h : Has K mg "_law_right" (top 20) ["thing"]) (T : Txt mg) (GS : Ok P w K mg base "square_good" ["thing"] 5 (spSG K)) (GL : Ok P w K mg base "_law_square_good" ["thing"] 2 (spSG K)) : Ok P w K mg base "_law_right" ["thing"] 6 (spRight K) := by
  refine h.ok scRi (fun vs H Q E h => ?_) (fun f cdv A outer s H vs Q E hr h => ?_)
  · obtain ⟨v, rfl, _⟩ := h; rfl
  · obtain ⟨v, rfl, ⟨d, hd⟩, q⟩ := h
    have hr2 := hr.mono (show 2 ≤ 5 by decide)
    refine ⟨_, pss_cons (ps_set (i := 1) scRi.nd rfl (Or.inl rfl) (pe_callG GS hr (by rfl) (pa_cons (pv 0) pa_nil)))
      (pss_one (ps_ret (pe_and (isi_b T (pv 1) (by rfl) (by rfl)) (pe_one (pe_cmpR op_eq (pv 1) (pe_callG GL hr2 (by rfl) (pa_cons (pv 0) pa_nil)) (nomark _)))))), ?_⟩
    refine ⟨_, rfl, d, v, rfl, hd, fun yes H2 s2 => ?_, fun no H2 s2 => ?_⟩
    · exact ⟨_, rfl, _, "bool", "bool", rfl, .inr (.inl rfl), rfl, _, rfl, iteT ⟨_, rfl, _, rfl, d, v, rfl, s2.rep hd, fun _ H3 s3 => ⟨rfl, q H3 (s2.trans s3)⟩, fun no => absurd yes no⟩⟩
    · exact ⟨_, rfl, _, "bool", "bool", rfl, .inr (.inl rfl), rfl, _, rfl, iteT ⟨_, rfl, _, rfl, d, v, rfl, s2.rep hd, fun yes => absurd yes no, fun _ H3 s3 => ⟨rfl, q H3 (s2.trans s3)⟩⟩⟩
/-! ### law -/
def spLaw (K : PySem.W.Frag) : Sp := fun vs H Q _ => ∃ (a : Addr) (ns : List Int), vs = [.ref a] ∧ SqL K H a (ns.map V.int) ∧ ns.length ≤ 63 ∧ ∀ H', Q (.bl true) H'
def lawN : List Str := ["script", "eight", "thing", "cell", "pen", "square", "turn"]
def lawN2 : List Str := ["script", "eight", "thing", "cell", "pen", "square", "turn", "k"]
theorem scLaw : FnScope lawN ["script"] (defScope (top 21)) := ⟨rfl, rfl, rfl, by decide +kernel, rfl, by decide +kernel, by decide +kernel⟩
def scLa : Scope := { kind := .function, names := [(".0", .local), ("k", .cell), ("tuple", .globalImplicit), ("range", .globalImplicit)], isGenerator := false, isCoroutine := false, more := [] }
def scLb : Scope := { kind := .function, names := [(".0", .local), ("j", .local), ("k", .free)], isGenerator := false, isCoroutine := false, more := [] }
theorem bkLa : BlkDC (defScope (top 21)) lawN scLa lawN ["k"] := ⟨rfl, by decide +kernel, by decide +kernel, by decide +kernel, by decide +kernel, rfl, by decide +kernel, by decide +kernel, by decide +kernel, by decide +kernel, by decide +kernel⟩
theorem bkLb : BlkD scLa lawN2 scLb lawN2 ["j"] := ⟨rfl, by decide +kernel, by decide +kernel, by decide +kernel, rfl, by decide +kernel, by decide +kernel, by decide +kernel, by decide +kernel⟩
def PrL (K : PySem.W.Frag) (σ : L2.St) (H : Hp) : Prop := ∃ (v0 : Option V) (e : V) (r : L2.St), σ = v0 :: some e :: r ∧ Known K H e
theorem PrL.grows {K : PySem.W.Frag} : Grows (PrL K) := fun _ _ _ ⟨v0, e, r, h1, h2⟩ s => ⟨v0, e, r, h1, h2.same s⟩
theorem ok_law {f : Addr} {fd : FuncData} (F : Fun K "law" "law" (top 21) f fd) (T : Txt mg) (GR : Ok P w K mg base "_law_right" ["thing"] 6 (spRight K)) (GL : Ok P w K mg base "_law_square_good" ["thing"] 2 (spSG K)) (GB : Ok P w K mg base "_law_square_by" ["pen"] 3 (spBy K)) (GS : Ok P w K mg base "_law_spoilt" ["square", "pen"] 3 (spSpoilt K))
    (GC : Ok P w K mg base "_law_cell_at" ["script", "k"] 1 (spCell K)) (GP : Ok P w K mg base "_law_pen_of" ["cell"] 1 spPen) : FnOk P w K mg base CX0 8 f fd ["script"] (spLaw K) := by
  refine F.ok scLaw (fun vs H Q E h => ?_) (fun cdv A outer s H vs Q E hr h => ?_)
  · obtain ⟨a, ns, rfl, _⟩ := h; rfl
  · obtain ⟨a, ns, rfl, hS, hlen, q⟩ := h
    have small : ∀ {n : Nat}, n ≤ 1000 → n ≤ sizeLine := fun h => Nat.le_of_lt (small1000 h)
    have hr1 := hr.mono (show 1 ≤ 7 by decide)
    have hr2 := hr.mono (show 2 ≤ 7 by decide)
    have hr3 := hr.mono (show 3 ≤ 7 by decide)
    have hr6 := hr.mono (show 6 ≤ 7 by decide)
    let X := (cxOf CX0 P w K mg base lawN "law" (defScope (top 21)) f cdv A outer s H E).nox
    -- the cells
    have tail2 : ∃ t, PSs X ((defBody (top 21)).drop 2) t ∧ ∀ (v1 v2 v3 v4 v5 v6 : Option V) (H2 : Hp), SqL K H2 a (ns.map V.int) → t { nx := fun _ H' => Q .non H', rt := Q } [some (.ref a), v1, v2, v3, v4, v5, v6] H2 := by
      refine ⟨_, pss_cons (ps_for PassesOwn.never rfl (pi_list (pe_op op_cat (pe_lst (pa_cons (pe_callG GC hr1 (by rfl) (pa_cons (pv 0) (pa_cons pe_int pa_nil))) pa_nil)) (pe_slice sl_list (pv 0) (po_some pe_int) (po_some pe_int)))) (pg_name (i := 3) scLaw.nd rfl (Or.inl rfl))
          (pss_cons (ps_set (i := 4) scLaw.nd rfl (Or.inl rfl) (pe_callG GP hr1 (by rfl) (pa_cons (pv 3) pa_nil)))
          (pss_cons (ps_set (i := 5) scLaw.nd rfl (Or.inl rfl) (pe_callG GB hr3 (by rfl) (pa_cons (pv 4) pa_nil)))
          (pss_cons (ps_if (PW.pt (pw_or (pt_not (pt_val (pe_callG GR hr6 (by rfl) (pa_cons (pv 5) pa_nil)))) (pw_or1 (pt_not (pt_val (pe_callG GL hr2 (by rfl) (pa_cons (pv 5) pa_nil))))))) (pss_one (ps_ret pe_bl)) pss_nil)
          (pss_one (ps_for PassesOwn.never rfl (pi_range1 (by rfl) T.range (pa_cons pe_int pa_nil)) (pg_name (i := 6) scLaw.nd rfl (Or.inl rfl))
            (pss_one (ps_if (pt_not (pt_val (pe_callG GR hr6 (by rfl) (pa_cons (pe_callG GS hr3 (by rfl) (pa_cons (pv 5) (pa_cons (pv 4) pa_nil))) pa_nil)))) (pss_one (ps_ret pe_bl)) pss_nil))))))))
        (pss_one (ps_ret pe_bl)), ?_⟩
      intro v1 v2 v3 v4 v5 v6 H2 hS
      refine ⟨_, rfl, a, ns, 0, rfl, hS, by decide, fun c0 => ⟨by show 1 ≤ sizeLine; decide, fun l6 hl6 => ?_⟩⟩
      refine ⟨_, rfl, _, rfl, _, rfl, a, _, rfl, (Same.upd hl6).seq hS, fun l7 hl7 => ⟨l6, l7, _, _, rfl, rfl, Same.upd hl7 _ _ upd_same, upd_same, small ?_, fun lc hlc => ?_⟩⟩
      · have := cutV_length (ns.map V.int) (some 1) (some 5)
        rw [List.length_map] at this
        show 1 + _ ≤ 1000
        omega
      have cells : ∀ x ∈ [V.int c0] ++ cutV (ns.map V.int) (some 1) (some 5), ∃ i, x = .int i := fun x hx => by
        rcases List.mem_append.mp hx with hx | hx
        · exact ⟨c0, by simpa using hx⟩
        · obtain ⟨i, _, e⟩ := List.mem_map.mp (List.mem_of_mem_drop (List.mem_of_mem_take hx))
          exact ⟨i, e.symm⟩
      generalize [V.int c0] ++ cutV (ns.map V.int) (some 1) (some 5) = cs at cells hlc ⊢
      refine ⟨lc, rfl, ⟨_, .inl (.inl upd_same)⟩, ?_⟩
      refine for_list (K := K) (a := lc) (xs := cs) (fun i σ H' => ∃ v1 v2 v3 v4 v5 v6, σ = [some (.ref a), v1, v2, v3, v4, v5, v6] ∧ H' lc = some (.lst cs)) ⟨_, _, _, _, _, _, rfl, upd_same⟩ (fun i σ H' hi hP => by obtain ⟨_, _, _, _, _, _, _, e⟩ := hP; exact .inl (.inl e)) ?_ ?_
      · rintro i x σ H6 hi ⟨x1, x2, x3, x4, x5, x6, rfl, hc⟩
        obtain ⟨ci, rfl⟩ := cells x (List.mem_of_getElem? hi)
        refine ⟨_, rfl, ci, rfl, fun p H7 hp pen7 s7 => ?_⟩
        have ncp : lc ≠ p := ne_of_none hc hp
        have hc7 := s7 _ _ hc
        refine ⟨_, rfl, p, rfl, pen7, fun sq xs M H8 hx8 hm8 fm pen8 sb8 => ?_⟩
        have hc8 := sb8 _ _ ncp hc7
        have q8 : SqAt K H8 sq M := ⟨⟨xs, hx8, hm8⟩, fm.good.le, fm.good.rows⟩
        refine ⟨_, rfl, _, rfl, q8.known.known, fun H9 s9 => ⟨_, rfl, iteF ?_⟩⟩
        refine ⟨_, rfl, .tup (matD M), _, rfl, s9.rep ⟨sq, xs, rfl, hx8, rep_mat hm8⟩, fun _ H10 s10 => ⟨_, rfl, iteF ?_⟩, fun no => absurd ⟨M, rfl, fm.good⟩ no⟩
        have sA := s9.trans s10
        refine ⟨5, rfl, by decide, by decide, for_range (lo := 0) (n := (5 : Int).toNat) (fun k σ H' => ∃ v6, σ = [some (.ref a), x1, x2, some (.int ci), some (.ref p), some (.ref sq), v6] ∧ H' lc = some (.lst cs) ∧ Pen H' p ∧ SqAt K H' sq M) ⟨_, rfl, sA _ _ hc8, pen8.same sA, q8.same sA⟩ ?_ ?_⟩
        · rintro k σ HB hk ⟨v6, rfl, hcB, penB, qB⟩
          refine ⟨_, rfl, _, rfl, sq, p, M, rfl, qB, fm.good, penB, fun v HC kv penC sbC => ?_⟩
          refine ⟨v, rfl, kv, fun HD sD => ⟨_, rfl, iteF ⟨_, rfl, sD _ _ (sbC _ _ ncp hcB), penC.same sD, ?_⟩⟩⟩
          obtain ⟨ys, y1, y2⟩ := qB.at_
          exact SqAt.same ⟨⟨ys, but_sq penB sbC y1, Paired.mapP y2 fun _ _ ⟨c, e, z⟩ => ⟨c, e, but_sq penB sbC z⟩⟩, qB.le, qB.rows⟩ sD
        · rintro σ HB ⟨v6, rfl, hcB, _⟩
          exact ⟨_, _, _, _, _, _, rfl, hcB⟩
      · rintro σ H6 ⟨x1, x2, x3, x4, x5, x6, rfl, hc⟩
        exact q H6
    obtain ⟨t2, p2, g2⟩ := tail2
    have gr : Grows (PrL K) := PrL.grows
    have i_ : ∀ {n j pos}, ZE X (.Constant (.int n) j pos) (tR (Known K) (PrL K)) := fun {n j pos} => zk_i zk_int
    have kE : ∀ {p1}, ZE X (.Name "eight" p1) (tR (Known K) (PrL K)) := fun {p1} => zk_var 1 fun σ H ⟨v0, e, r, h1, h2⟩ => ⟨_, by rw [h1]; rfl, h2⟩
    have t1_ : ∀ {e x1 pos}, ZE X e (tR (Known K) (PrL K)) → (starEach [e] X.env = [(false, eval e X.env)]) → ZE X (.Tuple [e] x1 pos) (tR (Known K) (PrL K)) := fun {e x1 pos} h hs => zk_t (zk_tup (by decide) (zk_cons gr h zra_nil (by rw [hs]; rfl)))
    have t2_ : ∀ {n m j j' p1 p2 x1 pos}, ZE X (.Tuple [.Constant (.int n) j p1, .Constant (.int m) j' p2] x1 pos) (tR (Known K) (PrL K)) := fun {n m j j' p1 p2 x1 pos} => zk_t (zk_tup (by decide) (zk_cons gr i_ (zk_cons gr i_ zra_nil)))
    have sg_ : ∀ {n j p1 x1 p2 x2 p3}, ZE X (.Tuple [.Tuple [.Constant (.int n) j p1] x1 p2] x2 p3) (tR (Known K) (PrL K)) := fun {n j p1 x1 p2 x2 p3} => t1_ (t1_ i_ rfl) rfl
    refine zss_out ⟨_, zss_cons (zs_set (i := 1) scLaw.nd rfl (Or.inl rfl) (ze_of (pe_callTy call_tuple_of (by rfl) T.tuple PyProof.Rows.boot_tuple (pa_cons (pe_compC (M := lawN) (tgs := ["k"]) rfl bkLa.ok (pi_range1 (by rfl) T.range (pa_cons pe_int pa_nil)) (fun cl C fp s H => pg_name (i := 7) bkLa.nd rfl (Or.inr rfl)) (fun cl C fp s H => pif0)
        (fun cl C fp s H => pe_callTy (r := rTupOf K) call_tuple_of (by rfl) T.tuple PyProof.Rows.boot_tuple (pa_cons (pe_comp (M := lawN2) (tgs := ["j"]) rfl bkLb.ok (pi_range1 (by rfl) T.range (pa_cons pe_int pa_nil)) (fun cl C fp s H => pg_name (i := 8) bkLb.nd rfl (Or.inl rfl)) (fun cl C fp s H => pif0)
          (fun cl C fp s H => pe_op op_add (pe_op op_add (pe_op op_mul pe_int (pv 7)) (pv 8)) pe_int)) pa_nil))) pa_nil))))
      (zss_cons (zs_forZ PassesOwn.never rfl (zi_list (zk_lst (by decide) (zk_cons gr sg_ (zk_cons gr sg_ (zk_cons gr (t1_ (t1_ zk_bl rfl) rfl) (zk_cons gr (zk_t (zk_tup (by decide) (zk_cons gr t2_ (zk_cons gr t2_ zra_nil)))) (zk_cons gr (zk_t (zk_tup (by decide) (zk_cons gr t2_ (zk_cons gr t2_ zra_nil)))) (zk_cons gr (zk_t (zk_tup (by decide) zra_nil)) (zk_cons gr (t1_ (zk_t (zk_tup (by decide) zra_nil)) rfl) (zk_cons gr kE (zk_cons gr zk_str (zk_cons gr (zk_l (zk_lst (by decide) (zk_cons gr (zk_l (zk_lst (by decide) (zk_cons gr i_ zra_nil))) zra_nil))) (zk_cons gr i_ zra_nil))))))))))))) (pg_name (i := 2) scLaw.nd rfl (Or.inl rfl))
        (zss_one (zs_if (pt_not (pt_val (pe_callG GR hr6 (by rfl) (pa_cons (pv 2) pa_nil)))) (zss_one (zs_ret (ze_of pe_bl))) zss_nil)))
      (zss_of p2)), ?_⟩
    refine ⟨8, rfl, by decide, by decide, comp_range (n := (8 : Int).toNat) (fun m ys H' => Same H H' ∧ ys.length = m ∧ ∀ y ∈ ys, Known K H' y) ⟨Same.refl _, rfl, fun _ h => (by cases h)⟩ (fun m ys H' hm pv => small (by have hm : m ≤ 8 := hm; have := pv.2.1; omega)) (fun m ys H' hm pv => ?_) (fun ys H' pv l hl => ?_)⟩
    · obtain ⟨e, ly, ky⟩ := pv
      refine ⟨rfl, ?_⟩
      refine ⟨8, rfl, by decide, by decide, comp_range (n := (8 : Int).toNat) (fun k zs G => Same H' G ∧ zs.length = k ∧ ∀ z ∈ zs, Known K G z) ⟨Same.refl _, rfl, fun _ h => (by cases h)⟩ (fun k zs G hk pv2 => small (by have hk : k ≤ 8 := hk; have := pv2.2.1; omega)) (fun k zs G hk pv2 => ?_) (fun zs G pv2 l2 hl2 => ?_)⟩
      · obtain ⟨e2, lz, kz⟩ := pv2
        refine ⟨rfl, _, rfl, _, _, rfl, rfl, .inl ⟨by decide, by decide⟩, _, rfl, _, _, rfl, rfl, _, _, rfl, rfl, .mk hk ⟨e2, by rw [List.length_append, lz]; rfl, fun z hz => ?_⟩⟩
        rcases List.mem_append.mp hz with hz | hz
        · exact kz z hz
        · rw [List.mem_singleton.mp hz]
          exact .int _
      · obtain ⟨e2, lz, kz⟩ := pv2
        refine ⟨l2, _, rfl, .inl ⟨.inl (.inl upd_same), fun nt hnt => .mk hm ?_⟩⟩
        have s4 := (Same.upd (o := .lst zs) hl2).trans (Same.upd (o := .tup zs) hnt)
        refine ⟨e.trans (e2.trans s4), by rw [List.length_append, ly]; rfl, fun z hz => ?_⟩
        rcases List.mem_append.mp hz with hz | hz
        · exact (ky z hz).same (e2.trans s4)
        · rw [List.mem_singleton.mp hz]
          exact .tup (.inl (.inl upd_same)) fun u hu => (kz u hu).same s4
    obtain ⟨e, ly, ky⟩ := pv
    refine ⟨l, _, rfl, .inl ⟨.inl (.inl upd_same), fun nt hnt => ?_⟩⟩
    have s4 := (Same.upd (o := .lst ys) hl).trans (Same.upd (o := .tup ys) hnt)
    have k4 : Known K (upd (upd H' l (.lst ys)) nt (.tup ys)) (.ref nt) := .tup (.inl (.inl upd_same)) fun u hu => (ky u hu).same s4
    have s5 := e.trans s4
    generalize (upd (upd H' l (.lst ys)) nt (.tup ys)) = H5 at k4 s5 ⊢
    refine ⟨⟨_, _, _, rfl, k4⟩, fun vl H6 s6 kl => ?_⟩
    obtain ⟨lt, zs, rfl, hz, lz, kz⟩ := kl
    refine ⟨lt, rfl, ⟨_, .inl (.inl hz)⟩, ?_⟩
    refine for_list (K := K) (a := lt) (xs := zs) (fun i σ H' => ∃ v2, σ = [some (.ref a), some (.ref nt), v2, none, none, none, none] ∧ Same H6 H') ⟨_, rfl, Same.refl _⟩ (fun i σ H' hi hP => by obtain ⟨_, _, e⟩ := hP; exact .inl (.inl (e _ _ hz))) ?_ ?_
    · rintro i x σ H7 hx ⟨v2, rfl, s7⟩
      exact ⟨_, rfl, x, rfl, (kz x (List.mem_of_getElem? hx)).same s7, fun H8 s8 => ⟨_, rfl, iteF ⟨_, rfl, s7.trans s8⟩⟩⟩
    · rintro σ H7 ⟨v2, rfl, s7⟩
      exact g2 _ _ _ _ _ _ H7 ((s5.trans (s6.trans s7)).seq hS)
end
end K54

namespace K54
open PySem L2 PyProof.Rows
theorem has_of {K : PySem.W.Frag} {mg : Str → Option Value} {h : Heap} (X : K.In h) (G : h.Ns mainGlobals mg) {x : Str} {st : Stmt} {ps : List Str} {f : Addr} {oc : Value} {od an : Option Addr} {osl : Array (Option Value)} {kV doc pm cdv ct : Value} (a : PySem.W.nsIn K mainGlobals x = some (some (.ref f)))
    (l : K.lookup f = some ⟨oc, od, .func (PySem.W.fnOf x x (defArgs st) (defBody st) (defScope st) .none kV doc pm an cdv ct), osl⟩) (c : PySem.W.codeIn K cdv x = true) (k : PySem.W.keepIn K (.ref f) = true)
    (hb : ∀ (kV doc pm : Value) (an : Option Addr) (cdv ct : Value) (us : List Value), us.length = ps.length → bindArgs (PySem.W.fnOf x x (defArgs st) (defBody st) (defScope st) .none kV doc pm an cdv ct) ⟨us, []⟩ = pure (ps.zip us)) : Has K mg x st ps :=
  ⟨f, _, fun_mk l c k, PySem.W.mg_of X G a, (fun_mk (st := st) l c k).binds hb⟩
theorem all_mk {l : PySem.W.OpenLaw} {w : World} {K : PySem.W.Frag} {h : Heap} {mg : Str → Option Value} {fa : Addr} (X : K.In h) (G : h.Ns mainGlobals mg) (hfa : mg "law" = some (.ref fa))
    {f0 : Addr} {od0 an0 : Option Addr} {sl0 : Array (Option Value)} {oc0 kV0 dc0 pm0 cd0 ct0 : Value}
    {f1 : Addr} {od1 an1 : Option Addr} {sl1 : Array (Option Value)} {oc1 kV1 dc1 pm1 cd1 ct1 : Value}
    {f2 : Addr} {od2 an2 : Option Addr} {sl2 : Array (Option Value)} {oc2 kV2 dc2 pm2 cd2 ct2 : Value}
    {f3 : Addr} {od3 an3 : Option Addr} {sl3 : Array (Option Value)} {oc3 kV3 dc3 pm3 cd3 ct3 : Value}
    {f4 : Addr} {od4 an4 : Option Addr} {sl4 : Array (Option Value)} {oc4 kV4 dc4 pm4 cd4 ct4 : Value}
    {f5 : Addr} {od5 an5 : Option Addr} {sl5 : Array (Option Value)} {oc5 kV5 dc5 pm5 cd5 ct5 : Value}
    {f6 : Addr} {od6 an6 : Option Addr} {sl6 : Array (Option Value)} {oc6 kV6 dc6 pm6 cd6 ct6 : Value}
    {f7 : Addr} {od7 an7 : Option Addr} {sl7 : Array (Option Value)} {oc7 kV7 dc7 pm7 cd7 ct7 : Value}
    {f8 : Addr} {od8 an8 : Option Addr} {sl8 : Array (Option Value)} {oc8 kV8 dc8 pm8 cd8 ct8 : Value}
    {f9 : Addr} {od9 an9 : Option Addr} {sl9 : Array (Option Value)} {oc9 kV9 dc9 pm9 cd9 ct9 : Value}
    {f10 : Addr} {od10 an10 : Option Addr} {sl10 : Array (Option Value)} {oc10 kV10 dc10 pm10 cd10 ct10 : Value}
    {f11 : Addr} {od11 an11 : Option Addr} {sl11 : Array (Option Value)} {oc11 kV11 dc11 pm11 cd11 ct11 : Value}
    {f12 : Addr} {od12 an12 : Option Addr} {sl12 : Array (Option Value)} {oc12 kV12 dc12 pm12 cd12 ct12 : Value}
    {f13 : Addr} {od13 an13 : Option Addr} {sl13 : Array (Option Value)} {oc13 kV13 dc13 pm13 cd13 ct13 : Value}
    {f14 : Addr} {od14 an14 : Option Addr} {sl14 : Array (Option Value)} {oc14 kV14 dc14 pm14 cd14 ct14 : Value}
    {f15 : Addr} {od15 an15 : Option Addr} {sl15 : Array (Option Value)} {oc15 kV15 dc15 pm15 cd15 ct15 : Value}
    {f16 : Addr} {od16 an16 : Option Addr} {sl16 : Array (Option Value)} {oc16 kV16 dc16 pm16 cd16 ct16 : Value}
    {f17 : Addr} {od17 an17 : Option Addr} {sl17 : Array (Option Value)} {oc17 kV17 dc17 pm17 cd17 ct17 : Value}
    (a0 : PySem.W.nsIn K mainGlobals "is_whole" = some (some (.ref f0))) (l0 : K.lookup f0 = some ⟨oc0, od0, .func (PySem.W.fnOf "is_whole" "is_whole" (defArgs (top 1)) (defBody (top 1)) (defScope (top 1)) .none kV0 dc0 pm0 an0 cd0 ct0), sl0⟩) (c0 : PySem.W.codeIn K cd0 "is_whole" = true) (k0 : PySem.W.keepIn K (.ref f0) = true)
    (a1 : PySem.W.nsIn K mainGlobals "whole_within" = some (some (.ref f1))) (l1 : K.lookup f1 = some ⟨oc1, od1, .func (PySem.W.fnOf "whole_within" "whole_within" (defArgs (top 2)) (defBody (top 2)) (defScope (top 2)) .none kV1 dc1 pm1 an1 cd1 ct1), sl1⟩) (c1 : PySem.W.codeIn K cd1 "whole_within" = true) (k1 : PySem.W.keepIn K (.ref f1) = true)
    (a2 : PySem.W.nsIn K mainGlobals "unlike_within" = some (some (.ref f2))) (l2 : K.lookup f2 = some ⟨oc2, od2, .func (PySem.W.fnOf "unlike_within" "unlike_within" (defArgs (top 3)) (defBody (top 3)) (defScope (top 3)) .none kV2 dc2 pm2 an2 cd2 ct2), sl2⟩) (c2 : PySem.W.codeIn K cd2 "unlike_within" = true) (k2 : PySem.W.keepIn K (.ref f2) = true)
    (a3 : PySem.W.nsIn K mainGlobals "each_once" = some (some (.ref f3))) (l3 : K.lookup f3 = some ⟨oc3, od3, .func (PySem.W.fnOf "each_once" "each_once" (defArgs (top 4)) (defBody (top 4)) (defScope (top 4)) .none kV3 dc3 pm3 an3 cd3 ct3), sl3⟩) (c3 : PySem.W.codeIn K cd3 "each_once" = true) (k3 : PySem.W.keepIn K (.ref f3) = true)
    (a4 : PySem.W.nsIn K mainGlobals "square_good" = some (some (.ref f4))) (l4 : K.lookup f4 = some ⟨oc4, od4, .func (PySem.W.fnOf "square_good" "square_good" (defArgs (top 7)) (defBody (top 7)) (defScope (top 7)) .none kV4 dc4 pm4 an4 cd4 ct4), sl4⟩) (c4 : PySem.W.codeIn K cd4 "square_good" = true) (k4 : PySem.W.keepIn K (.ref f4) = true)
    (a5 : PySem.W.nsIn K mainGlobals "numbers_in" = some (some (.ref f5))) (l5 : K.lookup f5 = some ⟨oc5, od5, .func (PySem.W.fnOf "numbers_in" "numbers_in" (defArgs (top 8)) (defBody (top 8)) (defScope (top 8)) .none kV5 dc5 pm5 an5 cd5 ct5), sl5⟩) (c5 : PySem.W.codeIn K cd5 "numbers_in" = true) (k5 : PySem.W.keepIn K (.ref f5) = true)
    (a6 : PySem.W.nsIn K mainGlobals "sums_alike" = some (some (.ref f6))) (l6 : K.lookup f6 = some ⟨oc6, od6, .func (PySem.W.fnOf "sums_alike" "sums_alike" (defArgs (top 9)) (defBody (top 9)) (defScope (top 9)) .none kV6 dc6 pm6 an6 cd6 ct6), sl6⟩) (c6 : PySem.W.codeIn K cd6 "sums_alike" = true) (k6 : PySem.W.keepIn K (.ref f6) = true)
    (a7 : PySem.W.nsIn K mainGlobals "turned_square" = some (some (.ref f7))) (l7 : K.lookup f7 = some ⟨oc7, od7, .func (PySem.W.fnOf "turned_square" "turned_square" (defArgs (top 10)) (defBody (top 10)) (defScope (top 10)) .none kV7 dc7 pm7 an7 cd7 ct7), sl7⟩) (c7 : PySem.W.codeIn K cd7 "turned_square" = true) (k7 : PySem.W.keepIn K (.ref f7) = true)
    (a8 : PySem.W.nsIn K mainGlobals "_law_cell_at" = some (some (.ref f8))) (l8 : K.lookup f8 = some ⟨oc8, od8, .func (PySem.W.fnOf "_law_cell_at" "_law_cell_at" (defArgs (top 12)) (defBody (top 12)) (defScope (top 12)) .none kV8 dc8 pm8 an8 cd8 ct8), sl8⟩) (c8 : PySem.W.codeIn K cd8 "_law_cell_at" = true) (k8 : PySem.W.keepIn K (.ref f8) = true)
    (a9 : PySem.W.nsIn K mainGlobals "_law_next" = some (some (.ref f9))) (l9 : K.lookup f9 = some ⟨oc9, od9, .func (PySem.W.fnOf "_law_next" "_law_next" (defArgs (top 13)) (defBody (top 13)) (defScope (top 13)) .none kV9 dc9 pm9 an9 cd9 ct9), sl9⟩) (c9 : PySem.W.codeIn K cd9 "_law_next" = true) (k9 : PySem.W.keepIn K (.ref f9) = true)
    (a10 : PySem.W.nsIn K mainGlobals "_law_pen_of" = some (some (.ref f10))) (l10 : K.lookup f10 = some ⟨oc10, od10, .func (PySem.W.fnOf "_law_pen_of" "_law_pen_of" (defArgs (top 14)) (defBody (top 14)) (defScope (top 14)) .none kV10 dc10 pm10 an10 cd10 ct10), sl10⟩) (c10 : PySem.W.codeIn K cd10 "_law_pen_of" = true) (k10 : PySem.W.keepIn K (.ref f10) = true)
    (a11 : PySem.W.nsIn K mainGlobals "_law_draw" = some (some (.ref f11))) (l11 : K.lookup f11 = some ⟨oc11, od11, .func (PySem.W.fnOf "_law_draw" "_law_draw" (defArgs (top 15)) (defBody (top 15)) (defScope (top 15)) .none kV11 dc11 pm11 an11 cd11 ct11), sl11⟩) (c11 : PySem.W.codeIn K cd11 "_law_draw" = true) (k11 : PySem.W.keepIn K (.ref f11) = true)
    (a12 : PySem.W.nsIn K mainGlobals "_law_whole" = some (some (.ref f12))) (l12 : K.lookup f12 = some ⟨oc12, od12, .func (PySem.W.fnOf "_law_whole" "_law_whole" (defArgs (top 16)) (defBody (top 16)) (defScope (top 16)) .none kV12 dc12 pm12 an12 cd12 ct12), sl12⟩) (c12 : PySem.W.codeIn K cd12 "_law_whole" = true) (k12 : PySem.W.keepIn K (.ref f12) = true)
    (a13 : PySem.W.nsIn K mainGlobals "_law_square_good" = some (some (.ref f13))) (l13 : K.lookup f13 = some ⟨oc13, od13, .func (PySem.W.fnOf "_law_square_good" "_law_square_good" (defArgs (top 17)) (defBody (top 17)) (defScope (top 17)) .none kV13 dc13 pm13 an13 cd13 ct13), sl13⟩) (c13 : PySem.W.codeIn K cd13 "_law_square_good" = true) (k13 : PySem.W.keepIn K (.ref f13) = true)
    (a14 : PySem.W.nsIn K mainGlobals "_law_square_by" = some (some (.ref f14))) (l14 : K.lookup f14 = some ⟨oc14, od14, .func (PySem.W.fnOf "_law_square_by" "_law_square_by" (defArgs (top 18)) (defBody (top 18)) (defScope (top 18)) .none kV14 dc14 pm14 an14 cd14 ct14), sl14⟩) (c14 : PySem.W.codeIn K cd14 "_law_square_by" = true) (k14 : PySem.W.keepIn K (.ref f14) = true)
    (a15 : PySem.W.nsIn K mainGlobals "_law_spoilt" = some (some (.ref f15))) (l15 : K.lookup f15 = some ⟨oc15, od15, .func (PySem.W.fnOf "_law_spoilt" "_law_spoilt" (defArgs (top 19)) (defBody (top 19)) (defScope (top 19)) .none kV15 dc15 pm15 an15 cd15 ct15), sl15⟩) (c15 : PySem.W.codeIn K cd15 "_law_spoilt" = true) (k15 : PySem.W.keepIn K (.ref f15) = true)
    (a16 : PySem.W.nsIn K mainGlobals "_law_right" = some (some (.ref f16))) (l16 : K.lookup f16 = some ⟨oc16, od16, .func (PySem.W.fnOf "_law_right" "_law_right" (defArgs (top 20)) (defBody (top 20)) (defScope (top 20)) .none kV16 dc16 pm16 an16 cd16 ct16), sl16⟩) (c16 : PySem.W.codeIn K cd16 "_law_right" = true) (k16 : PySem.W.keepIn K (.ref f16) = true)
    (a17 : PySem.W.nsIn K mainGlobals "law" = some (some (.ref f17))) (l17 : K.lookup f17 = some ⟨oc17, od17, .func (PySem.W.fnOf "law" "law" (defArgs (top 21)) (defBody (top 21)) (defScope (top 21)) .none kV17 dc17 pm17 an17 cd17 ct17), sl17⟩) (c17 : PySem.W.codeIn K cd17 "law" = true) (k17 : PySem.W.keepIn K (.ref f17) = true)
    (z_isinstance : PySem.W.nsIn K mainGlobals "isinstance" = some none)
    (z_int : PySem.W.nsIn K mainGlobals "int" = some none)
    (z_bool : PySem.W.nsIn K mainGlobals "bool" = some none)
    (z_tuple : PySem.W.nsIn K mainGlobals "tuple" = some none)
    (z_len : PySem.W.nsIn K mainGlobals "len" = some none)
    (z_all : PySem.W.nsIn K mainGlobals "all" = some none)
    (z_max : PySem.W.nsIn K mainGlobals "max" = some none)
    (z_range : PySem.W.nsIn K mainGlobals "range" = some none)
    (z_sorted : PySem.W.nsIn K mainGlobals "sorted" = some none)
    (z_list : PySem.W.nsIn K mainGlobals "list" = some none)
    (z_set : PySem.W.nsIn K mainGlobals "set" = some none)
    (z_zip : PySem.W.nsIn K mainGlobals "zip" = some none)
    (z_sum : PySem.W.nsIn K mainGlobals "sum" = some none)
    (z_str : PySem.W.nsIn K mainGlobals "str" = some none)
    {tkM : Tok}
    (qM : PySem.W.nsIn K mainGlobals "MOST_SIZE" = some (some (.int 7 tkM)))
    : ∃ fd : FuncData, (∀ (s : Shared) (v : Value), BindsTo s fd ⟨[v], []⟩ [("script", v)]) ∧ ∀ base : Heap, K.In base → base.Ns mainGlobals mg → FnOk l.prog w K mg base CX0 8 fa fd ["script"] (spLaw K) := by
  cases hfa.symm.trans (PySem.W.mg_of X G a17)
  have T : Txt mg := ⟨PySem.W.mg_none_of X G z_isinstance, PySem.W.mg_none_of X G z_int, PySem.W.mg_none_of X G z_bool, PySem.W.mg_none_of X G z_tuple, PySem.W.mg_none_of X G z_len, PySem.W.mg_none_of X G z_all, PySem.W.mg_none_of X G z_max, PySem.W.mg_none_of X G z_range, PySem.W.mg_none_of X G z_sorted, PySem.W.mg_none_of X G z_list, PySem.W.mg_none_of X G z_set, PySem.W.mg_none_of X G z_zip, PySem.W.mg_none_of X G z_sum, PySem.W.mg_none_of X G z_str⟩
  have D0 : Has K mg "is_whole" (top 1) ["thing"] := has_of X G a0 l0 c0 k0 fun _ _ _ _ _ _ us hl => match us, hl with | [_], _ => rfl
  have D1 : Has K mg "whole_within" (top 2) ["thing", "least", "most"] := has_of X G a1 l1 c1 k1 fun _ _ _ _ _ _ us hl => match us, hl with | [_, _, _], _ => rfl
  have D2 : Has K mg "unlike_within" (top 3) ["things", "least", "most"] := has_of X G a2 l2 c2 k2 fun _ _ _ _ _ _ us hl => match us, hl with | [_, _, _], _ => rfl
  have D3 : Has K mg "each_once" (top 4) ["things", "most"] := has_of X G a3 l3 c3 k3 fun _ _ _ _ _ _ us hl => match us, hl with | [_, _], _ => rfl
  have D4 : Has K mg "square_good" (top 7) ["thing"] := has_of X G a4 l4 c4 k4 fun _ _ _ _ _ _ us hl => match us, hl with | [_], _ => rfl
  have D5 : Has K mg "numbers_in" (top 8) ["square"] := has_of X G a5 l5 c5 k5 fun _ _ _ _ _ _ us hl => match us, hl with | [_], _ => rfl
  have D6 : Has K mg "sums_alike" (top 9) ["square"] := has_of X G a6 l6 c6 k6 fun _ _ _ _ _ _ us hl => match us, hl with | [_], _ => rfl
  have D7 : Has K mg "turned_square" (top 10) ["square"] := has_of X G a7 l7 c7 k7 fun _ _ _ _ _ _ us hl => match us, hl with | [_], _ => rfl
  have D8 : Has K mg "_law_cell_at" (top 12) ["script", "k"] := has_of X G a8 l8 c8 k8 fun _ _ _ _ _ _ us hl => match us, hl with | [_, _], _ => rfl
  have D9 : Has K mg "_law_next" (top 13) ["seed"] := has_of X G a9 l9 c9 k9 fun _ _ _ _ _ _ us hl => match us, hl with | [_], _ => rfl
  have D10 : Has K mg "_law_pen_of" (top 14) ["cell"] := has_of X G a10 l10 c10 k10 fun _ _ _ _ _ _ us hl => match us, hl with | [_], _ => rfl
  have D11 : Has K mg "_law_draw" (top 15) ["pen", "many"] := has_of X G a11 l11 c11 k11 fun _ _ _ _ _ _ us hl => match us, hl with | [_, _], _ => rfl
  have D12 : Has K mg "_law_whole" (top 16) ["found"] := has_of X G a12 l12 c12 k12 fun _ _ _ _ _ _ us hl => match us, hl with | [_], _ => rfl
  have D13 : Has K mg "_law_square_good" (top 17) ["thing"] := has_of X G a13 l13 c13 k13 fun _ _ _ _ _ _ us hl => match us, hl with | [_], _ => rfl
  have D14 : Has K mg "_law_square_by" (top 18) ["pen"] := has_of X G a14 l14 c14 k14 fun _ _ _ _ _ _ us hl => match us, hl with | [_], _ => rfl
  have D15 : Has K mg "_law_spoilt" (top 19) ["square", "pen"] := has_of X G a15 l15 c15 k15 fun _ _ _ _ _ _ us hl => match us, hl with | [_, _], _ => rfl
  have D16 : Has K mg "_law_right" (top 20) ["thing"] := has_of X G a16 l16 c16 k16 fun _ _ _ _ _ _ us hl => match us, hl with | [_], _ => rfl
  have D17 : Has K mg "law" (top 21) ["script"] := has_of X G a17 l17 c17 k17 fun _ _ _ _ _ _ us hl => match us, hl with | [_], _ => rfl
  refine ⟨PySem.W.fnOf "law" "law" (defArgs (top 21)) (defBody (top 21)) (defScope (top 21)) .none kV17 dc17 pm17 an17 cd17 ct17, fun s v => .of_eq rfl, fun base _ _ => ?_⟩
  have G1 := ok_is_whole (P := l.prog) (w := w) (base := base) D0 T
  have G3 := ok_within D1 G1
  have G4 := ok_unlike D2 T G3
  have G5 := ok_once D3 T G4
  have N1 := ok_ni (P := l.prog) (w := w) (base := base) D5 T
  have N2 := ok_turn (P := l.prog) (w := w) (base := base) D7 T
  have N3 := ok_alike D6 T N2
  have N4 := ok_sg D4 T ⟨tkM, PySem.W.mg_of X G qM⟩ G5 N1 N3
  have L1 := ok_law_whole (P := l.prog) (w := w) (base := base) D12 T
  have L2 := ok_good D13 T L1
  have G10 := ok_next (P := l.prog) (w := w) (base := base) D9
  have G11 := ok_draw D11 G10
  have G12 := ok_pen (P := l.prog) (w := w) (base := base) D10 T
  have G13 := ok_cell (P := l.prog) (w := w) (base := base) D8 T
  have L6 := ok_by D14 T G11
  have L7 := ok_spoilt D15 T G11
  have L8 := ok_right D16 T N4 L2
  exact ok_law (fun_mk l17 c17 k17) T L8 L2 L6 L7 G13 G12
end K54
open PySem PySem.W PyProof.Rows
set_option maxRecDepth 100000 in
set_option maxHeartbeats 0 in
theorem PySem.Challenge.cw_tienumbers_k54_squares_by_anybody_holds : PySem.Challenge.rw_tienumbers_k54_squares_by_anybody.Holds := by
  w_on; o_law; k_head; (case hw => w_witness2)
  k_fill
  refine L2.walk_of (l := PySem.Challenge.rw_tienumbers_k54_squares_by_anybody) (n := 63) (k := 8) (x := "script") (CX := fun _ => L2.CX0) (sp := fun w => K54.spLaw _) rfl (by decide) rfl ⟨rfl, by decide, by decide⟩ (fun w h Y => PySem.W.kIn_of Y) ?F (fun _ _ a ns hl _ hS => ⟨a, ns, rfl, hS, hl, fun _ => rfl⟩) fun _ _ _ _ _ z => z
  case F =>
    intro w mg fa h KX G hmg
    refine' K54.all_mk KX G hmg ?a0 ?l0 ?c0 ?k0 ?a1 ?l1 ?c1 ?k1 ?a2 ?l2 ?c2 ?k2 ?a3 ?l3 ?c3 ?k3 ?a4 ?l4 ?c4 ?k4 ?a5 ?l5 ?c5 ?k5 ?a6 ?l6 ?c6 ?k6 ?a7 ?l7 ?c7 ?k7 ?a8 ?l8 ?c8 ?k8 ?a9 ?l9 ?c9 ?k9 ?a10 ?l10 ?c10 ?k10 ?a11 ?l11 ?c11 ?k11 ?a12 ?l12 ?c12 ?k12 ?a13 ?l13 ?c13 ?k13 ?a14 ?l14 ?c14 ?k14 ?a15 ?l15 ?c15 ?k15 ?a16 ?l16 ?c16 ?k16 ?a17 ?l17 ?c17 ?k17 ?z_isinstance ?z_int ?z_bool ?z_tuple ?z_len ?z_all ?z_max ?z_range ?z_sorted ?z_list ?z_set ?z_zip ?z_sum ?z_str ?qM
    (case a0 => k_is)
    (case l0 => k_is)
    (case c0 => k_is)
    (case k0 => k_is)
    (case a1 => k_is)
    (case l1 => k_is)
    (case c1 => k_is)
    (case k1 => k_is)
    (case a2 => k_is)
    (case l2 => k_is)
    (case c2 => k_is)
    (case k2 => k_is)
    (case a3 => k_is)
    (case l3 => k_is)
    (case c3 => k_is)
    (case k3 => k_is)
    (case a4 => k_is)
    (case l4 => k_is)
    (case c4 => k_is)
    (case k4 => k_is)
    (case a5 => k_is)
    (case l5 => k_is)
    (case c5 => k_is)
    (case k5 => k_is)
    (case a6 => k_is)
    (case l6 => k_is)
    (case c6 => k_is)
    (case k6 => k_is)
    (case a7 => k_is)
    (case l7 => k_is)
    (case c7 => k_is)
    (case k7 => k_is)
    (case a8 => k_is)
    (case l8 => k_is)
    (case c8 => k_is)
    (case k8 => k_is)
    (case a9 => k_is)
    (case l9 => k_is)
    (case c9 => k_is)
    (case k9 => k_is)
    (case a10 => k_is)
    (case l10 => k_is)
    (case c10 => k_is)
    (case k10 => k_is)
    (case a11 => k_is)
    (case l11 => k_is)
    (case c11 => k_is)
    (case k11 => k_is)
    (case a12 => k_is)
    (case l12 => k_is)
    (case c12 => k_is)
    (case k12 => k_is)
    (case a13 => k_is)
    (case l13 => k_is)
    (case c13 => k_is)
    (case k13 => k_is)
    (case a14 => k_is)
    (case l14 => k_is)
    (case c14 => k_is)
    (case k14 => k_is)
    (case a15 => k_is)
    (case l15 => k_is)
    (case c15 => k_is)
    (case k15 => k_is)
    (case a16 => k_is)
    (case l16 => k_is)
    (case c16 => k_is)
    (case k16 => k_is)
    (case a17 => k_is)
    (case l17 => k_is)
    (case c17 => k_is)
    (case k17 => k_is)
    (case z_isinstance => k_is)
    (case z_int => k_is)
    (case z_bool => k_is)
    (case z_tuple => k_is)
    (case z_len => k_is)
    (case z_all => k_is)
    (case z_max => k_is)
    (case z_range => k_is)
    (case z_sorted => k_is)
    (case z_list => k_is)
    (case z_set => k_is)
    (case z_zip => k_is)
    (case z_sum => k_is)
    (case z_str => k_is)
    (case qM => k_is)
