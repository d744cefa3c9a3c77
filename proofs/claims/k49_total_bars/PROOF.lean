import PyProof.Rows.All
import Wide.All
import OpenK.AllK
import Wide.FinOn
import Lean
import PyProof.EqAt
import PyProof.EqKinds
import PyProof.TupleCall
import PyProof.CallFns
import PyProof.Draws
import PyProof.EnumMake
import PyProof.ExcArgsOwn
import PyProof.FactsAll.dict_1
import PyProof.FactsAll.dict_4
import PyProof.FactsAll.subtypes_4
import PyProof.FactsAll.tuple_2
import PyProof.ListMulRoad
import PyProof.ListRange
import PyProof.MaxThree
import PyProof.ReprLoop
import PyProof.ReprRoads
import PyProof.Rows.EnumRows
import PyProof.Rows.SetFrom
import PyProof.TupleOfStr
import PySem.Challenge.RW_tienumbers_k49_total_bars
set_option Elab.async false
set_option linter.all false
set_option maxRecDepth 100000
set_option maxHeartbeats 4000000
/-! THE HAND LAYER, for ints, bools, texts, own classes, LISTS and tuples (index, slices, in, append, pop ..), calls, loops. Paste it whole ahead of your own text; what your proof does not reach may be deleted. -/
namespace L2
open PySem PySem.Spec PyProof.Rows

/-- a key: an int or a str -/
abbrev Key := Sum Int Str
def keyIs : Key → Value → Bool
  | .inl k, v => Value.isInt k v
  | .inr x, v => Value.isStrOf x v
def keyH (w : World) : Key → Int
  | .inl k => hashInt k
  | .inr x => hashStr w x
theorem keyIs_shape : ∀ {k : Key} {v : Value}, keyIs k v = true → (∃ i t, k = Sum.inl i ∧ v = Value.int i t) ∨ (∃ x t, k = Sum.inr x ∧ v = Value.str x t)
  | .inl i, v, h => by
    obtain ⟨t, e⟩ := Value.isInt_shape (k := i) (v := v) h
    exact .inl ⟨i, t, rfl, e⟩
  | .inr x, v, h => by
    obtain ⟨t, e⟩ := Value.isStrOf_shape (x := x) (v := v) h
    exact .inr ⟨x, t, rfl, e⟩
theorem keyIs_int (i : Int) (t : Tok) : keyIs (.inl i) (.int i t) = true := by simp [keyIs, Value.isInt]
theorem keyIs_str (x : Str) (t : Tok) : keyIs (.inr x) (.str x t) = true := by simp [keyIs, Value.isStrOf]
theorem key_ll (a b : Int) : decide ((Sum.inl a : Key) = Sum.inl b) = (a == b) := by
  by_cases e : a = b
  · subst e; simp
  · have h : ¬ (Sum.inl a : Key) = Sum.inl b := fun q => e (Sum.inl.inj q)
    rw [decide_eq_false h]
    exact (beq_eq_false_iff_ne.mpr e).symm
theorem key_rr (a b : Str) : decide ((Sum.inr a : Key) = Sum.inr b) = decide (a = b) := by
  by_cases e : a = b
  · subst e; simp
  · have h : ¬ (Sum.inr a : Key) = Sum.inr b := fun q => e (Sum.inr.inj q)
    rw [decide_eq_false h, decide_eq_false e]
theorem key_lr (a : Int) (b : Str) : decide ((Sum.inl a : Key) = Sum.inr b) = false := decide_eq_false (fun q => nomatch q)
theorem key_rl (a : Str) (b : Int) : decide ((Sum.inr a : Key) = Sum.inl b) = false := decide_eq_false (fun q => nomatch q)

def mixKind (prog : Program) (w : World) : PySem.KeyKind prog w Key where
  is := keyIs
  hash := keyH w
  inj := fun v a b ha hb => by
    rcases keyIs_shape ha with ⟨i, t, rfl, rfl⟩ | ⟨x, t, rfl, rfl⟩
    · rcases keyIs_shape hb with ⟨j, u, rfl, e⟩ | ⟨y, u, rfl, e⟩
      · injection e with e1 _; rw [e1]
      · exact nomatch e
    · rcases keyIs_shape hb with ⟨j, u, rfl, e⟩ | ⟨y, u, rfl, e⟩
      · exact nomatch e
      · injection e with e1 _; rw [e1]
  byValue := fun k v h => by
    rcases keyIs_shape h with ⟨i, t, rfl, rfl⟩ | ⟨x, t, rfl, rfl⟩ <;> rfl
  pyHash := fun hv h => by
    rcases keyIs_shape hv with ⟨i, t, rfl, rfl⟩ | ⟨x, t, rfl, rfl⟩
    · exact wpAny_pyHash_int h
    · exact wpAny_pyHash_str h
  eqBool := fun hu hv h => by
    rcases keyIs_shape hu with ⟨i, t, rfl, rfl⟩ | ⟨x, t, rfl, rfl⟩
    · rcases keyIs_shape hv with ⟨j, u, rfl, rfl⟩ | ⟨y, u, rfl, rfl⟩
      · rw [key_ll] at h; exact wpAny_eqBool_int h
      · rw [key_lr] at h; exact SeqAt.EqAt.int_str i t y u _ _ _ _ h
    · rcases keyIs_shape hv with ⟨j, u, rfl, rfl⟩ | ⟨y, u, rfl, rfl⟩
      · rw [key_rl] at h; exact SeqAt.EqAt.str_int x t j u _ _ _ _ h
      · rw [key_rr] at h; exact wpAny_eqBool_str h
  «strs» := fun k x t v h => by
    rcases keyIs_shape h with ⟨i, u, rfl, e⟩ | ⟨y, u, rfl, e⟩
    · exact nomatch e
    · injection e with e1 _
      subst e1
      cases v <;> rfl

theorem mixKind_int (prog : Program) (w : World) (i : Int) (t : Tok) : (mixKind prog w).is (.inl i) (.int i t) = true := keyIs_int i t
theorem mixKind_str (prog : Program) (w : World) (x : Str) (t : Tok) : (mixKind prog w).is (.inr x) (.str x t) = true := keyIs_str x t
end L2

namespace L2
open PySem PySem.Spec PyProof.Rows

/-- a value, without the heap -/
inductive V where
  | non | bl (b : Bool) | int (i : Int) | str (x : Str) | byt (b : Array UInt8) | flt (b : UInt64) | ref (a : Addr) | ty (n : String)
  deriving DecidableEq

def RelV : V → Value → Prop
  | .non, u => u = Value.none
  | .bl b, u => u = Value.bool b
  | .int i, u => ∃ t, u = Value.int i t
  | .str x, u => ∃ t, u = Value.str x t
  | .byt b, u => ∃ t, u = Value.bytes b t
  | .flt b, u => ∃ t, u = Value.float b t
  | .ref a, u => u = Value.ref a
  | .ty n, u => u = Value.type n

abbrev Vals : List V → List Value → Prop := Paired RelV
theorem Vals.length {xs : List V} {us : List Value} (r : Vals xs us) : xs.length = us.length := Paired.length r
theorem Vals.get : ∀ {xs : List V} {us : List Value} {i : Nat} {x : V}, Vals xs us → xs[i]? = some x → ∃ u, us[i]? = some u ∧ RelV x u
  | _, _, _, _, .nil, e => by simp at e
  | _, _, 0, _, .cons r _, e => by simp at e; subst e; exact ⟨_, rfl, r⟩
  | _, _, i + 1, x, .cons _ t, e => by
    obtain ⟨u, h1, h2⟩ := Vals.get (i := i) (x := x) t (by simpa using e)
    exact ⟨u, by simpa using h1, h2⟩
theorem Vals.set {x : V} {u : Value} (r : RelV x u) : ∀ {xs : List V} {us : List Value} (i : Nat), Vals xs us → Vals (xs.set i x) (us.set i u)
  | _, _, _, .nil => .nil
  | _, _, 0, .cons _ t => .cons r t
  | _, _, i + 1, .cons q t => .cons q (Vals.set r i t)
theorem Vals.append : ∀ {xs ys : List V} {us ws : List Value}, Vals xs us → Vals ys ws → Vals (xs ++ ys) (us ++ ws)
  | _, _, _, _, .nil, s => s
  | _, _, _, _, .cons r t, s => .cons r (Vals.append t s)
theorem Vals.take : ∀ {xs : List V} {us : List Value} (n : Nat), Vals xs us → Vals (xs.take n) (us.take n)
  | _, _, 0, _ => .nil
  | _, _, _ + 1, .nil => .nil
  | _, _, n + 1, .cons r t => .cons r (Vals.take n t)
theorem Vals.drop : ∀ {xs : List V} {us : List Value} (n : Nat), Vals xs us → Vals (xs.drop n) (us.drop n)
  | _, _, 0, r => r
  | _, _, _ + 1, .nil => .nil
  | _, _, n + 1, .cons _ t => Vals.drop n t
def RelO : Option V → Option Value → Prop
  | some v, some u => RelV v u
  | none, none => True
  | _, _ => False
def KV {κ : Type} : List (κ × V) → List (κ × Value) → Prop := Paired fun (p : κ × V) (q : κ × Value) => p.1 = q.1 ∧ RelV p.2 q.2

/-- a key of a dict (00_mix): an int or a text -/
def kV : Key → V
  | .inl i => .int i
  | .inr x => .str x

/-- what stands at a tracked address -/
inductive HO where
  /-- a list -/
  | lst (xs : List V)
  /-- a tuple (never changes) -/
  | tup (xs : List V)
  /-- a dict whose keys are ints and texts; one whose keys are tuples of ints and texts (the empty one is both) -/
  | dK (kvs : List (Key × V)) | dT (kvs : List (List Key × V))
  /-- a set of ints: its members, its size -/
  | set (S : Int → Bool) (n : Nat)
  /-- an instance of the class at C, its dict at dx, its attributes -/
  | ins (C dx : Addr) (fs : List (Str × V))
  /-- the dict of the instance at x -/
  | own (x : Addr)
  /-- the dict of an exception -/
  | xd (fs : List (Str × V))
  /-- a bound method, f of x -/
  | met (f x : Addr)
  /-- a range object lo, lo + 1, .. below hi -/
  | rng (lo hi : Int)
  /-- a thing that is known to the object (the script; a dict while a loop walks it): read, never written while it is so -/
  | frz (o : Obj) (u : HO)
  /-- a code object's table -/
  | tbl (ps : Array Value)
  /-- any other thing, by what is true of its one object (a def of one's own: SetO a S n := HO.ext fun h => ..) -/
  | ext (φ : Heap → Prop)

abbrev Hp := Addr → Option HO
def upd (H : Hp) (a : Addr) (o : HO) : Hp := fun b => if b = a then some o else H b
theorem upd_same {H : Hp} {a : Addr} {o : HO} : upd H a o a = some o := by unfold upd; rw [if_pos rfl]
theorem upd_ne {H : Hp} {a b : Addr} {o : HO} (h : b ≠ a) : upd H a o b = H b := by unfold upd; rw [if_neg h]
/-- two objects of different content stand apart -/
theorem ne_of {H : Hp} {a b : Addr} {o u : HO} (h : H a = some o) (h' : H b = some u) (d : o ≠ u) : a ≠ b := by
  intro e; subst e; rw [h] at h'; exact d (Option.some.inj h')
theorem ne_of_none {H : Hp} {a b : Addr} {o : HO} (h : H a = some o) (h' : H b = none) : a ≠ b := by
  intro e; subst e; rw [h] at h'; cases h'

section
variable (P : Program) (w : World)
def ObjOk (H : Hp) (h : Heap) (a : Addr) : HO → Prop
  | .lst xs => xs.length ≤ sizeLine ∧ ∃ (its : List Value) (n : Nat), Vals xs its ∧ h.get? a = some { cls := .type "list", data := .seq its.toArray n }
  | .tup xs => xs.length ≤ sizeLine ∧ ∃ its : List Value, Vals xs its ∧ IsTup h a its.toArray
  | .dK kvs => kvs.length ≤ sizeLine ∧ (a == sysModules) = false ∧ ∃ vs, KV kvs vs ∧ h.DictOf (mixKind P w) a vs
  | .dT kvs => kvs.length ≤ sizeLine ∧ (a == sysModules) = false ∧ ∃ xs : List (List Key × Addr × Value),
      Paired (fun (p : List Key × V) (q : List Key × Addr × Value) => p.1 = q.1 ∧ H q.2.1 = some (.tup (p.1.map kV)) ∧ RelV p.2 q.2.2) kvs xs ∧
      ∃ o es ep, h.get? a = some o ∧ o.ExactDict ∧ o.data = .dict es ep ∧ es.toList = xs.map (entryOfKey (tupleKind (mixKind P w))) ∧ (xs.map (·.1)).Nodup
  | .set S n => h.SetOf (intKind P w) a S n
  | .ins C dx fs => H dx = some (.own a) ∧ fs.length ≤ 1000 ∧ dx ≠ a ∧ h.get? a = some (PySem.W.instObj C dx) ∧
      ∃ mA, h.Ns1 dx mA ∧ (∀ f, RelO (fs.lookup f) (mA f)) ∧ PySem.Within mA (fs.map (·.1))
  | .own _ => ∃ o, h.get? a = some o
  | .xd fs => ∃ mA, h.Ns1 a mA ∧ ∀ f, RelO (fs.lookup f) (mA f)
  | .rng lo hi => ∃ t u v, h.get? a = some { cls := .type "range", data := .fields #[.int lo t, .int hi u, .int 1 v] }
  | .frz o u => h.get? a = some o ∧ ObjOk H h a u
  | .tbl ps => h.get? a = some { cls := .none, data := .fields ps }
  | .met f x => h.get? a = some (PySem.W.methodObj (.ref f) (.ref x))
  | .ext φ => φ h ∧ (∃ o, h.get? a = some o) ∧ ∀ h1 h2 : Heap, φ h1 → (∀ o, h1.get? a = some o → h2.get? a = some o) → φ h2
/-- the abstract heap is held -/
def HOk (H : Hp) (h : Heap) : Prop := ∀ a o, H a = some o → ObjOk P w H h a o
end

section
variable {P : Program} {w : World} {H H' : Hp} {h h' : Heap} {a : Addr} {o : HO}
theorem ObjOk.lt (x : ObjOk P w H h a o) : a < h.objs.size := by
  cases o with
  | lst xs => obtain ⟨_, _, _, _, e⟩ := x; exact Heap.lt_size e
  | tup xs => obtain ⟨_, _, _, p⟩ := x; exact p.lt
  | dK kvs => obtain ⟨_, _, _, _, o, _, _, e, _⟩ := x; exact Heap.lt_size e
  | dT kvs => obtain ⟨_, _, _, _, o, _, _, e, _⟩ := x; exact Heap.lt_size e
  | set S n => obtain ⟨o, _, _, _, e, _⟩ := x; exact Heap.lt_size e
  | ins C dx fs => obtain ⟨_, _, _, e, _⟩ := x; exact Heap.lt_size e
  | own y => obtain ⟨_, e⟩ := x; exact Heap.lt_size e
  | xd fs => obtain ⟨_, ⟨_, _, _, e, _⟩, _⟩ := x; exact Heap.lt_size e
  | rng lo hi => obtain ⟨_, _, _, e⟩ := x; exact Heap.lt_size e
  | frz ob u => obtain ⟨e, _⟩ := x; exact Heap.lt_size e
  | tbl ps => exact Heap.lt_size (show h.get? a = some _ from x)
  | met f y => exact Heap.lt_size (show h.get? a = some _ from x)
  | ext φ => obtain ⟨_, ⟨_, e⟩, _⟩ := x; exact Heap.lt_size e
theorem Paired.mapP {α β : Type} {F G : α → β → Prop} : ∀ {l₁ : List α} {l₂ : List β}, Paired F l₁ l₂ → (∀ a b, F a b → G a b) → Paired G l₁ l₂
  | _, _, .nil, _ => .nil
  | _, _, .cons r t, f => .cons (f _ _ r) (Paired.mapP t f)
/-- what an object's description leans on: its own object, its own dict, the tuples -/
theorem ObjOk.stay (x : ObjOk P w H h a o) (k : ∀ b u, (b = a ∨ H b = some (.own a)) → h.get? b = some u → h'.get? b = some u)
    (ho : ∀ b, H b = some (.own a) → H' b = some (.own a)) (ht : ∀ b xs, H b = some (.tup xs) → H' b = some (.tup xs)) : ObjOk P w H' h' a o := by
  induction o with
  | lst xs => obtain ⟨z, its, n, r, e⟩ := x; exact ⟨z, its, n, r, k _ _ (.inl rfl) e⟩
  | tup xs => obtain ⟨z, its, r, ob, e, c⟩ := x; exact ⟨z, its, r, ob, k _ _ (.inl rfl) e, c⟩
  | dK kvs => obtain ⟨z, y, vs, r, ob, es, ep, e, c⟩ := x; exact ⟨z, y, vs, r, ob, es, ep, k _ _ (.inl rfl) e, c⟩
  | dT kvs =>
    obtain ⟨z, y, xs, r, ob, es, ep, e, c⟩ := x
    exact ⟨z, y, xs, Paired.mapP r fun p q z => ⟨z.1, ht _ _ z.2.1, z.2.2⟩, ob, es, ep, k _ _ (.inl rfl) e, c⟩
  | set S n => obtain ⟨ob, es, ep, t, e, c⟩ := x; exact ⟨ob, es, ep, t, k _ _ (.inl rfl) e, c⟩
  | ins C dx fs =>
    obtain ⟨d, z, ne, e, mA, ⟨od, es, ep, e2, c⟩, r⟩ := x
    exact ⟨ho _ d, z, ne, k _ _ (.inl rfl) e, mA, ⟨od, es, ep, k _ _ (.inr d) e2, c⟩, r⟩
  | own y => obtain ⟨ob, e⟩ := x; exact ⟨ob, k _ _ (.inl rfl) e⟩
  | xd fs => obtain ⟨mA, ⟨od, es, ep, e, c⟩, r⟩ := x; exact ⟨mA, ⟨od, es, ep, k _ _ (.inl rfl) e, c⟩, r⟩
  | rng lo hi => obtain ⟨t, u, v, e⟩ := x; exact ⟨t, u, v, k _ _ (.inl rfl) e⟩
  | frz ob u ih => obtain ⟨e, q⟩ := x; exact ⟨k _ _ (.inl rfl) e, ih q⟩
  | tbl ps =>
    have e : h.get? a = some { cls := .none, data := .fields ps } := x
    show h'.get? a = some { cls := .none, data := .fields ps }
    exact k a _ (.inl rfl) e
  | met f y =>
    have e : h.get? a = some (PySem.W.methodObj (.ref f) (.ref y)) := x
    show h'.get? a = some (PySem.W.methodObj (.ref f) (.ref y))
    exact k a _ (.inl rfl) e
  | ext φ => obtain ⟨p, ⟨o, e⟩, st⟩ := x; exact ⟨st _ _ p fun o q => k _ _ (.inl rfl) q, ⟨o, k _ _ (.inl rfl) e⟩, st⟩
theorem HOk.lt (x : HOk P w H h) (e : H a = some o) : a < h.objs.size := (x a o e).lt
theorem HOk.fresh (x : HOk P w H h) (e : h.objs.size ≤ a) : H a = none := by
  cases q : H a with
  | none => rfl
  | some u => exact absurd (Nat.lt_of_lt_of_le (x.lt q) e) (Nat.lt_irrefl _)
/-- every object of the heap is kept -/
theorem HOk.kept (x : HOk P w H h) (k : ∀ b u, h.get? b = some u → h'.get? b = some u) : HOk P w H h' := fun a o e =>
  (x a o e).stay (fun b u _ q => k b u q) (fun _ q => q) fun _ _ q => q
/-- a new object is laid and tracked -/
theorem HOk.laid (x : HOk P w H h) (k : ∀ b u, h.get? b = some u → h'.get? b = some u) (hp : h.objs.size ≤ a) (new : ObjOk P w (upd H a o) h' a o) : HOk P w (upd H a o) h' := fun b u e => by
  have hn := x.fresh hp
  by_cases hb : b = a
  · subst hb; rw [upd_same] at e; cases e; exact new
  · rw [upd_ne hb] at e
    exact (x b u e).stay (fun c v _ q => k c v q) (fun c q => by rw [upd_ne (ne_of_none q hn)]; exact q) fun c xs q => by rw [upd_ne (ne_of_none q hn)]; exact q
end

/-- what may be read as u: it is u, or a known u -/
def Rd (H : Hp) (a : Addr) (u : HO) : Prop := H a = some u ∨ ∃ o, H a = some (.frz o u)
theorem Rd.ok {P : Program} {w : World} {H : Hp} {h : Heap} {a : Addr} {u : HO} (r : Rd H a u) (x : HOk P w H h) : ObjOk P w H h a u := by
  rcases r with r | ⟨o, r⟩
  · exact x a u r
  · obtain ⟨_, q⟩ := x a _ r
    exact q
/-- what may be written -/
def Mut : Option HO → Prop
  | some (.lst _) => True
  | some (.dK _) => True
  | some (.dT _) => True
  | some (.set _ _) => True
  | some (.ins _ _ _) => True
  | some (.ext _) => True
  | _ => False
section
variable {P : Program} {w : World} {H : Hp} {h h' : Heap} {x e : Addr} {o' : HO}
/-- the object at e is changed: x itself, or the dict of the instance x -/
theorem HOk.write (ok : HOk P w H h) (mu : Mut (H x)) (he : e = x ∨ H e = some (.own x)) (k : ∀ b u, b ≠ e → h.get? b = some u → h'.get? b = some u) (heo : ∃ u, h'.get? e = some u)
    (new : ObjOk P w (upd H x o') h' x o') : HOk P w (upd H x o') h' := fun b u q => by
  have nown : ∀ c y, H c = some (.own y) → c ≠ x := fun c y r z => by subst z; rw [r] at mu; exact mu
  have ntup : ∀ c xs, H c = some (.tup xs) → c ≠ x := fun c xs r z => by subst z; rw [r] at mu; exact mu
  by_cases hb : b = x
  · subst hb; rw [upd_same] at q; cases q; exact new
  · rw [upd_ne hb] at q
    by_cases hbe : b = e
    · have q' : H b = some (.own x) := by
        rcases he with z | z
        · exact absurd (hbe.trans z) hb
        · rw [hbe]; exact z
      rw [q] at q'; cases q'
      obtain ⟨v, hv⟩ := heo
      exact ⟨v, by rw [hbe]; exact hv⟩
    · refine (ok b u q).stay (fun c v hc r => k c v ?_ r) (fun c r => by rw [upd_ne (nown c b r)]; exact r) fun c xs r => by rw [upd_ne (ntup c xs r)]; exact r
      rcases hc with rfl | hc
      · exact hbe
      · rintro rfl
        rcases he with z | z
        · exact nown c b hc z
        · rw [hc] at z; cases z; exact hb rfl
end

/-! ### kept unless tracked; of the frames at fs (the callers') the slots may change (an exception that passes writes there); of the records at ex (iterators) nothing is said -/
structure Un (fs ex : List Addr) (H H' : Hp) (h h' : Heap) : Prop where
  keep : ∀ b o, h.get? b = some o → H b = none → b ∉ fs → b ∉ ex → h'.get? b = some o
  slot : ∀ b o, h.get? b = some o → H b = none → b ∈ fs → b ∉ ex → ∃ sl, h'.get? b = some { o with slots := sl }
  free : ∀ b o, h.get? b = some o → H b = none → b ∉ ex → H' b = none
  there : ∀ b o, h.get? b = some o → b ∉ ex → ∃ o', h'.get? b = some o'
  tups : ∀ b xs, H b = some (.tup xs) → H' b = some (.tup xs)
  frzs : ∀ b o u, H b = some (.frz o u) → H' b = some (.frz o u)
  tbls : ∀ b ps, H b = some (.tbl ps) → ∃ more, H' b = some (.tbl (ps ++ more))
section
variable {fs fs' ex ex' : List Addr} {H H1 H2 : Hp} {h h1 h2 h' : Heap} {a x e : Addr} {o : HO}
theorem Un.any (u : Un fs ex H H1 h h1) {b : Addr} {ob : Obj} (q : h.get? b = some ob) (n : H b = none) (hx : b ∉ ex) : ∃ sl, h1.get? b = some { ob with slots := sl } := by
  by_cases hb : b ∈ fs
  · exact u.slot b ob q n hb hx
  · exact ⟨ob.slots, u.keep b ob q n hb hx⟩
theorem Un.kept (k : ∀ b u, h.get? b = some u → h'.get? b = some u) : Un fs ex H H h h' :=
  ⟨fun b ob q _ _ _ => k b ob q, fun b ob q _ _ _ => ⟨ob.slots, k b ob q⟩, fun _ _ _ n _ => n, fun b ob q _ => ⟨ob, k b ob q⟩, fun _ _ q => q, fun _ _ _ q => q, fun _ ps q => ⟨#[], by rw [q]; simp⟩⟩
theorem Un.refl : Un fs ex H H h h := Un.kept fun _ _ q => q
theorem Un.laid (k : ∀ b u, h.get? b = some u → h'.get? b = some u) (hp : h.objs.size ≤ a) (hn : H a = none) : Un fs ex H (upd H a o) h h' where
  keep := fun b u q _ _ _ => k b u q
  slot := fun b u q _ _ _ => ⟨u.slots, k b u q⟩
  free := fun b u q n _ => by rw [upd_ne (Nat.ne_of_lt (Nat.lt_of_lt_of_le (Heap.lt_size q) hp))]; exact n
  there := fun b u q _ => ⟨u, k b u q⟩
  tups := fun b xs q => by rw [upd_ne (ne_of_none q hn)]; exact q
  frzs := fun b u xs q => by rw [upd_ne (ne_of_none q hn)]; exact q
  tbls := fun b ps q => ⟨#[], by rw [upd_ne (ne_of_none q hn), q]; simp⟩
theorem Un.write (mu : Mut (H x)) (he : e = x ∨ H e = some (.own x)) (k : ∀ b u, b ≠ e → h.get? b = some u → h'.get? b = some u) (heo : ∃ u, h'.get? e = some u) : Un fs ex H (upd H x o) h h' := by
  have hx : ∀ b, H b = none → b ≠ x := fun b n z => by subst z; rw [n] at mu; exact mu
  have hb : ∀ b, H b = none → b ≠ e := fun b n z => by
    subst z
    rcases he with r | r
    · exact hx b n r
    · rw [n] at r; cases r
  have hm : ∀ b u, H b = some u → ¬ Mut (some u) → b ≠ x := fun b u q nm z => by subst z; rw [q] at mu; exact nm mu
  refine ⟨fun b u q n _ _ => k b u (hb b n) q, fun b u q n _ _ => ⟨u.slots, k b u (hb b n) q⟩, fun b u q n _ => by rw [upd_ne (hx b n)]; exact n, fun b u q _ => ?_,
    fun b xs q => by rw [upd_ne (hm b _ q fun z => z)]; exact q, fun b u xs q => by rw [upd_ne (hm b _ q fun z => z)]; exact q, fun b ps q => ⟨#[], by rw [upd_ne (hm b _ q fun z => z), q]; simp⟩⟩
  by_cases hbe : b = e
  · subst hbe; exact heo
  · exact ⟨u, k b u hbe q⟩
end

/-! ### the heap without what is tracked -/
def trk (h : Heap) (H : Hp) : List Addr := (List.range h.objs.size).filter fun a => (H a).isSome
def hidT (h : Heap) (H : Hp) : Heap := PySem.W.hideAll h (trk h H)
theorem hidT_size (h : Heap) (H : Hp) : (hidT h H).objs.size = h.objs.size := PySem.W.hideAll_size _ _
theorem hidT_get {h : Heap} {H : Hp} {b : Addr} {o : Obj} (e : h.get? b = some o) (n : H b = none) : (hidT h H).get? b = some o :=
  PySem.W.hideAll_get _ e fun hm => by
    have q : (H b).isSome = true := (List.mem_filter.mp hm).2
    rw [n] at q; simp at q
theorem of_hidT {h : Heap} {H : Hp} {b : Addr} {o : Obj} (e : (hidT h H).get? b = some o) : h.get? b = some o ∧ H b = none := by
  have e' : h.get? b = some o := PySem.W.of_hideAll (trk h H) e
  refine ⟨e', ?_⟩
  cases q : H b with
  | none => rfl
  | some x =>
    have hm : b ∈ trk h H := List.mem_filter.mpr ⟨List.mem_range.mpr (Heap.lt_size e'), by simp [q]⟩
    have z : (hidT h H).get? b = none := PySem.W.hideAll_none (trk h H) hm
    rw [z] at e; cases e

/-! ### OpenK's ledger, filled with every new object but one -/
def allNews (g h : Heap) (L : Addr) : List (Addr × Obj) := (List.range h.objs.size).filterMap fun a => if a = L ∨ (g.get? a).isSome = true then none else (h.get? a).map fun o => (a, o)
def rest (g h : Heap) (L d : Addr) : List (Addr × Obj) := (allNews g h L).filter fun p => decide (p.1 ≠ d)
end L2

namespace L2
open PySem PySem.Spec PyProof.Rows

/-- the module's facts, over the base: the heap at the law's entry without what is tracked there -/
structure Mod (K : PySem.W.Frag) (mg : Str → Option Value) (base : Heap) : Prop where
  kin : K.In base
  glob : base.Ns mainGlobals mg
  blt : ∃ mb, base.Ns builtinsNs mb ∧ ∀ x : Str, x ≠ "__name__" → mb x = bootBuiltins x
  nolimit : base.NoLimit

/-- the context: a def's body (or a comprehension's block) running. base: fixed through the whole law; s₀, H₀: the entry; outer: the frames whose slots others may change (a def's callers); stack: all frames that run;
   ex: iterators that were made ahead of the entry and are walked here (a comprehension's); fn: the names whose cells were made at the entry (a def: all; a comprehension's block: its own); calm: not within an except suite; pn: pins that every state bears; xe: what is wanted of an exception that leaves the code -/
structure Cx where
  prog : Program
  w : World
  K : PySem.W.Frag
  mg : Str → Option Value
  base : Heap
  A : Around
  N : List Str
  s₀ : Shared
  H₀ : Hp
  env : Env
  outer : List Env
  stack : List Env
  ex : List Addr
  fn : Str → Bool
  calm : Bool
  pn : List (Addr × Obj)
  xe : Value → Shared → Prop
/-- the callers' frames -/
def frs (l : List Env) : List Addr := l.filterMap (·.frame)
abbrev Cx.fs (X : Cx) : List Addr := frs X.outer

def Vis (sc : Scope) (x : Str) : Prop := sc.names.lookup x = some .local ∨ sc.names.lookup x = some .cell ∨ sc.names.lookup x = some .free
def Loc (sc : Scope) (x : Str) : Prop := sc.names.lookup x = some .local ∨ sc.names.lookup x = some .cell
def Look (env : Env) (h : Heap) (m : Str → Option Value) (x : Str) (u : Value) : Prop :=
  (env.kindOf x = some .local ∧ m x = some u) ∨ ((env.kindOf x = some .cell ∨ env.kindOf x = some .free) ∧ ∃ c, env.cells.lookup x = some c ∧ h.IsCell c (some u))

structure Cx.Ok (X : Cx) : Prop where
  mod : Mod X.K X.mg X.base
  kind : X.env.scope.kind = .function
  glob : X.env.globals = mainGlobals
  blt : X.env.builtins = builtinsNs
  above : X.s₀.heap.objs.size ≤ X.env.locals
  inj : ∀ x y c, X.env.cells.lookup x = some c → X.env.cells.lookup y = some c → x = y
  has : ∀ x, (X.env.kindOf x = some .cell ∨ X.env.kindOf x = some .free) → ∃ c, X.env.cells.lookup x = some c
  cab : ∀ x c, X.fn x = true → X.env.cells.lookup x = some c → X.s₀.heap.objs.size ≤ c
  hd : X.calm = true → X.A.handled = none
  frames : X.A.frames = some X.stack
  stk : X.stack = X.outer ∨ (X.stack = X.env :: X.outer ∧ X.env.frame = some X.env.locals)
  exf : ∀ b ∈ X.ex, b ≠ X.env.locals ∧ ∀ x c, X.env.cells.lookup x = some c → c ≠ b
  bs : ∀ b o, X.base.get? b = some o → X.s₀.heap.get? b = some o ∧ X.H₀ b = none
  bsz : X.base.objs.size ≤ X.s₀.heap.objs.size
  noex : ∀ b o, X.base.get? b = some o → b ∉ X.ex
  exfs : ∀ b ∈ X.ex, b ∉ X.fs
  funs : X.s₀.heap.FunFrames X.base X.outer
  frf : ∀ b ∈ X.fs, X.H₀ b = none

structure Inv (X : Cx) (pins : List (Addr × Obj)) (σ : List (Option V)) (H : Hp) (s : Shared) : Prop where
  ok : X.Ok
  os : s.os = X.s₀.os
  bare : AllBare s.gens
  base : Un X.fs X.ex X.H₀ H X.s₀.heap s.heap
  loc : ∃ m, s.heap.Ns X.env.locals m ∧ ∀ (i : Nat) (x : Str) (v : V), X.N[i]? = some x → σ[i]? = some (some v) → Vis X.env.scope x → ∃ u, RelV v u ∧ Look X.env s.heap m x u
  cell : ∀ x c, X.env.cells.lookup x = some c → ∃ v, s.heap.IsCell c v
  free : H X.env.locals = none
  freeC : ∀ x c, X.env.cells.lookup x = some c → H c = none
  pin : ∀ p ∈ X.pn ++ pins, s.heap.get? p.1 = some p.2 ∧ H p.1 = none ∧ p.1 ≠ X.env.locals ∧ p.1 ∉ X.fs ∧ ∀ v, p.2.data ≠ .cell v
  hok : HOk X.prog X.w H s.heap
  len : σ.length = X.N.length

section
variable {X : Cx} {pins : List (Addr × Obj)} {σ : List (Option V)} {H H' : Hp} {s : Shared} {h' : Heap}

theorem Cx.Ok.nofr (ok : X.Ok) {b : Addr} {o : Obj} (e : X.base.get? b = some o) : b ∉ X.fs := fun hb => by
  have := (ok.funs.mem hb).1
  rw [e] at this; cases this
theorem Inv.bs (I : Inv X pins σ H s) : ∀ b o, X.base.get? b = some o → s.heap.get? b = some o ∧ H b = none := fun b o e =>
  ⟨I.base.keep b o (I.ok.bs b o e).1 (I.ok.bs b o e).2 (I.ok.nofr e) (I.ok.noex b o e), I.base.free b o (I.ok.bs b o e).1 (I.ok.bs b o e).2 (I.ok.noex b o e)⟩
theorem Inv.bk (I : Inv X pins σ H s) : ∀ b o, X.base.get? b = some o → s.heap.get? b = some o := fun b o e => (I.bs b o e).1
theorem Inv.mod (I : Inv X pins σ H s) : Mod X.K X.mg X.base := I.ok.mod
theorem Inv.kIn (I : Inv X pins σ H s) : X.K.In s.heap := I.ok.mod.kin.keeps I.bk
theorem Inv.lt (I : Inv X pins σ H s) : X.env.locals < s.heap.objs.size := let ⟨_, hn, _⟩ := I.loc; hn.lt
theorem Inv.sz (I : Inv X pins σ H s) : X.s₀.heap.objs.size ≤ s.heap.objs.size := Nat.le_trans I.ok.above (Nat.le_of_lt I.lt)
theorem Inv.nofs (I : Inv X pins σ H s) {a : Addr} (h : s.heap.objs.size ≤ a) : a ∉ X.fs := fun hb => by
  obtain ⟨_, o, ho, _⟩ := I.ok.funs.mem hb
  exact absurd (Nat.lt_of_lt_of_le (Heap.lt_size ho) (Nat.le_trans I.sz h)) (Nat.lt_irrefl _)
theorem Inv.cne (I : Inv X pins σ H s) : ∀ x c, X.env.cells.lookup x = some c → c ≠ X.env.locals := fun x c e z => by
  obtain ⟨v, o, ho, hd⟩ := I.cell x c e
  obtain ⟨m, ⟨o', es, ep, ho', hd', _⟩, _⟩ := I.loc
  rw [z, ho'] at ho; cases ho; rw [hd'] at hd; cases hd
theorem Inv.funs (I : Inv X pins σ H s) : s.heap.FunFrames X.base X.outer := by
  have all : ∀ (l : List Env), (∀ b ∈ frs l, b ∈ X.fs) → X.s₀.heap.FunFrames X.base l → s.heap.FunFrames X.base l := by
    intro l
    induction l with
    | nil => intro _ _; trivial
    | cons env r ih =>
      intro hs hl
      obtain ⟨hk, ⟨L, o, hf, hn, ho, hd⟩, hr⟩ := hl
      have hL : L ∈ X.fs := hs L (by unfold frs; rw [List.filterMap_cons, hf]; exact List.mem_cons_self)
      obtain ⟨sl, e⟩ := I.base.slot L o ho (I.ok.frf L hL) hL fun z => I.ok.exfs L z hL
      exact ⟨hk, ⟨L, _, hf, hn, e, hd⟩, ih (fun b hb => hs b (by unfold frs; rw [List.filterMap_cons, hf]; exact List.mem_cons_of_mem _ hb)) hr⟩
  exact all X.outer (fun _ hb => hb) I.ok.funs

/-- the frames that run, for a call -/
theorem Inv.stack (I : Inv X pins σ H s) : s.heap.FunFrames X.base X.stack := by
  rcases I.ok.stk with e | ⟨e, hf⟩
  · rw [e]; exact I.funs
  · rw [e]
    obtain ⟨m, hn, _⟩ := I.loc
    refine .cons (by rw [I.ok.kind]; decide) hf hn ?_ I.funs
    exact Heap.get?_none_of_le (Nat.le_trans I.ok.bsz I.ok.above)
theorem Inv.stkSub (I : Inv X pins σ H s) : ∀ b ∈ frs X.stack, b ∈ X.env.locals :: X.fs := fun b hb => by
  rcases I.ok.stk with e | ⟨e, hf⟩
  · rw [e] at hb; exact List.mem_cons_of_mem _ hb
  · rw [e] at hb
    unfold frs at hb
    rw [List.filterMap_cons, hf] at hb
    exact hb
theorem Inv.stkFree (I : Inv X pins σ H s) : ∀ b ∈ frs X.stack, H b = none := fun b hb => by
  rcases List.mem_cons.mp (I.stkSub b hb) with e | hb
  · rw [e]; exact I.free
  · obtain ⟨_, o, ho, _⟩ := I.ok.funs.mem hb
    exact I.base.free b o ho (I.ok.frf b hb) fun z => I.ok.exfs b z hb

/-- THE STEP: the untracked objects but the frame and the records at ch are kept (the callers' frames up to slots), the frame's map is kept, the new abstract heap is held -/
theorem Inv.step {g' : Array GenState} {t' : Nat} {d' : Drawn} {ch : List Addr} (I : Inv X pins σ H s)
    (hch : ∀ b ∈ ch, (b ∈ X.ex ∨ X.s₀.heap.objs.size ≤ b) ∧ b ≠ X.env.locals ∧ (∀ x c, X.env.cells.lookup x = some c → c ≠ b) ∧ ∀ p ∈ X.pn ++ pins, p.1 ≠ b)
    (keep : ∀ b o, b ≠ X.env.locals → b ∉ X.fs → b ∉ ch → s.heap.get? b = some o → H b = none → h'.get? b = some o)
    (slot : ∀ b o, b ≠ X.env.locals → b ∈ X.fs → b ∉ ch → s.heap.get? b = some o → H b = none → ∃ sl, h'.get? b = some { o with slots := sl }) (free : ∀ b o, b ∉ ch → s.heap.get? b = some o → H b = none → H' b = none)
    (there : ∀ b o, b ∉ ch → s.heap.get? b = some o → ∃ o', h'.get? b = some o')
    (tups : ∀ b xs, H b = some (.tup xs) → H' b = some (.tup xs)) (frzs : ∀ b o u, H b = some (.frz o u) → H' b = some (.frz o u)) (tbls : ∀ b ps, H b = some (.tbl ps) → ∃ more, H' b = some (.tbl (ps ++ more)))
    (ns : ∀ m, s.heap.Ns X.env.locals m → h'.Ns X.env.locals m) (hok : HOk X.prog X.w H' h') (hg : AllBare g') :
    Inv X pins σ H' { s with heap := h', gens := g', drawn := d', toks := t' } := by
  have neL : ∀ b o, X.s₀.heap.get? b = some o → b ≠ X.env.locals := fun b o e => Nat.ne_of_lt (Nat.lt_of_lt_of_le (Heap.lt_size e) I.ok.above)
  have neC : ∀ b o, X.s₀.heap.get? b = some o → b ∉ X.ex → b ∉ ch := fun b o e hx hb => by
    rcases (hch b hb).1 with z | z
    · exact hx z
    · exact absurd (Nat.lt_of_lt_of_le (Heap.lt_size e) z) (Nat.lt_irrefl _)
  have cellK : ∀ x c, X.env.cells.lookup x = some c → ∀ v, s.heap.IsCell c v → h'.IsCell c v := fun x c e v ⟨o, ho, hd⟩ => by
    have nch : c ∉ ch := fun z => (hch c z).2.2.1 x c e rfl
    by_cases hc : c ∈ X.fs
    · obtain ⟨sl, q⟩ := slot c o (I.cne x c e) hc nch ho (I.freeC x c e)
      exact ⟨_, q, hd⟩
    · exact ⟨o, keep c o (I.cne x c e) hc nch ho (I.freeC x c e), hd⟩
  refine ⟨I.ok, I.os, hg, ⟨fun b o e n hb hx => ?_, fun b o e n hb hx => ?_, fun b o e n hx => ?_, fun b o e hx => ?_, fun b xs e => tups b xs (I.base.tups b xs e), fun b o xs e => frzs b o xs (I.base.frzs b o xs e), fun b ps e => ?_⟩, ?_, fun x c e => ?_, ?_, fun x c e => ?_, fun p hp => ?_, hok, I.len⟩
  · exact keep b o (neL b o e) hb (neC b o e hx) (I.base.keep b o e n hb hx) (I.base.free b o e n hx)
  · obtain ⟨sl, e1⟩ := I.base.slot b o e n hb hx
    obtain ⟨sl', e2⟩ := slot b _ (neL b o e) hb (neC b o e hx) e1 (I.base.free b o e n hx)
    exact ⟨sl', e2⟩
  · obtain ⟨o', e1⟩ := I.base.there b o e hx
    exact free b o' (neC b o e hx) e1 (I.base.free b o e n hx)
  · obtain ⟨o', e1⟩ := I.base.there b o e hx
    exact there b o' (neC b o e hx) e1
  · obtain ⟨m1, e1⟩ := I.base.tbls b ps e
    obtain ⟨m2, e2⟩ := tbls b _ e1
    exact ⟨m1 ++ m2, by rw [e2, Array.append_assoc]⟩
  · obtain ⟨m, hn, hl⟩ := I.loc
    refine ⟨m, ns m hn, fun i x v e1 e2 e3 => ?_⟩
    obtain ⟨u, r, l⟩ := hl i x v e1 e2 e3
    refine ⟨u, r, ?_⟩
    rcases l with l | ⟨k, c, e, z⟩
    · exact .inl l
    · exact .inr ⟨k, c, e, cellK x c e _ z⟩
  · obtain ⟨v, z⟩ := I.cell x c e
    exact ⟨v, cellK x c e v z⟩
  · obtain ⟨m, ⟨o, _, _, ho, _⟩, _⟩ := I.loc
    exact free _ o (fun z => (hch _ z).2.1 rfl) ho I.free
  · obtain ⟨v, o, ho, hd⟩ := I.cell x c e
    exact free c o (fun z => (hch c z).2.2.1 x c e rfl) ho (I.freeC x c e)
  · obtain ⟨e, n, ne, nf, d⟩ := I.pin p hp
    have nch : p.1 ∉ ch := fun z => (hch p.1 z).2.2.2 p hp rfl
    exact ⟨keep p.1 p.2 ne nf nch e n, free p.1 p.2 nch e n, ne, nf, d⟩
/-- .. where the frame's own object is kept too -/
theorem Inv.un {t' : Nat} (I : Inv X pins σ H s) (u : Un X.fs [] H H' s.heap h') (hok : HOk X.prog X.w H' h') : Inv X pins σ H' { s with heap := h', toks := t' } := by
  obtain ⟨m, ⟨o, es, ep, ho, r⟩, _⟩ := id I.loc
  obtain ⟨sl, hL⟩ := u.any ho I.free (by simp)
  exact I.step (g' := s.gens) (d' := s.drawn) (ch := []) (fun _ z => nomatch z) (fun b o _ hb _ e n => u.keep b o e n hb (by simp)) (fun b o _ hb _ e n => u.slot b o e n hb (by simp)) (fun b o _ e n => u.free b o e n (by simp)) (fun b o _ e => u.there b o e (by simp)) u.tups u.frzs u.tbls (fun m' hm => by
    obtain ⟨o', es', ep', ho', r'⟩ := hm
    rw [ho] at ho'; cases ho'
    exact ⟨_, es', ep', hL, r'⟩) hok I.bare
/-- behind a call (or a comprehension's block): the slots of this frame may have changed too, the records at ch may have turned -/
theorem Inv.call {g' : Array GenState} {t' : Nat} {d' : Drawn} {ch : List Addr} (I : Inv X pins σ H s) (u : Un (frs X.stack) ch H H' s.heap h') (hok : HOk X.prog X.w H' h') (hg : AllBare g')
    (hch : ∀ b ∈ ch, (b ∈ X.ex ∨ X.s₀.heap.objs.size ≤ b) ∧ b ≠ X.env.locals ∧ (∀ x c, X.env.cells.lookup x = some c → c ≠ b) ∧ ∀ p ∈ X.pn ++ pins, p.1 ≠ b) :
    Inv X pins σ H' { s with heap := h', gens := g', drawn := d', toks := t' } := by
  obtain ⟨m, ⟨o, es, ep, ho, r⟩, _⟩ := id I.loc
  obtain ⟨sl, hL⟩ := u.any ho I.free fun z => (hch _ z).2.1 rfl
  exact I.step (ch := ch) hch (fun b o hL hb hc e n => u.keep b o e n (fun z => (List.mem_cons.mp (I.stkSub b z)).elim hL hb) hc) (fun b o _ _ hc e n => u.any e n hc) (fun b o hc e n => u.free b o e n hc) (fun b o hc e => u.there b o e hc) u.tups u.frzs u.tbls (fun m' hm => by
    obtain ⟨o', es', ep', ho', r'⟩ := hm
    rw [ho] at ho'; cases ho'
    exact ⟨_, es', ep', hL, r'⟩) hok hg
/-- an untracked record of ours (an iterator) has turned -/
theorem Inv.turned {t' : Nat} {it : Addr} (I : Inv X pins σ H s) (k : ∀ b o, b ≠ it → s.heap.get? b = some o → h'.get? b = some o) (hn : H it = none) (hL : it ≠ X.env.locals)
    (h1 : it ∈ X.ex ∨ X.s₀.heap.objs.size ≤ it) (h2 : ∀ x c, X.env.cells.lookup x = some c → c ≠ it) (h3 : ∀ p ∈ X.pn ++ pins, p.1 ≠ it) : Inv X pins σ H { s with heap := h', toks := t' } := by
  have nit : ∀ b u, H b = some u → b ≠ it := fun b u e z => by rw [z, hn] at e; cases e
  refine I.step (g' := s.gens) (d' := s.drawn) (ch := [it]) (fun b hb => ?_) (fun b o _ _ hc e _ => k b o (fun z => hc (by simp [z])) e) (fun b o _ _ hc e _ => ⟨o.slots, k b o (fun z => hc (by simp [z])) e⟩) (fun _ _ _ _ n => n)
    (fun b o hc e => ⟨o, k b o (fun z => hc (by simp [z])) e⟩) (fun _ _ e => e) (fun _ _ _ e => e) (fun b ps e => ⟨#[], by rw [e]; simp⟩) (fun m hm => ?_) (fun b u e => ?_) I.bare
  · have e : b = it := by simpa using hb
    subst e
    exact ⟨h1, hL, h2, h3⟩
  · obtain ⟨o, es, ep, ho, r⟩ := hm
    exact ⟨o, es, ep, k _ o (Ne.symm hL) ho, r⟩
  · refine (I.hok b u e).stay (fun c v hc q => k c v ?_ q) (fun _ q => q) fun _ _ q => q
    rcases hc with z | z
    · rw [z]; exact nit b u e
    · exact nit c _ z
theorem Inv.tok (I : Inv X pins σ H s) (t : Nat) : Inv X pins σ H { s with toks := t } := I.un (h' := s.heap) (t' := t) Un.refl I.hok
/-- all objects kept -/
theorem Inv.kept {t' : Nat} (I : Inv X pins σ H s) (k : ∀ b u, s.heap.get? b = some u → h'.get? b = some u) : Inv X pins σ H { s with heap := h', toks := t' } := I.un (Un.kept k) (I.hok.kept k)
/-- a new object laid and tracked -/
theorem Inv.laid {a : Addr} {o : HO} {t' : Nat} (I : Inv X pins σ H s) (k : ∀ b u, s.heap.get? b = some u → h'.get? b = some u) (hp : s.heap.objs.size ≤ a) (new : ObjOk X.prog X.w (upd H a o) h' a o) :
    Inv X pins σ (upd H a o) { s with heap := h', toks := t' } := I.un (Un.laid k hp (I.hok.fresh hp)) (I.hok.laid k hp new)
/-- an object written -/
theorem Inv.write {x e : Addr} {o : HO} {t' : Nat} (I : Inv X pins σ H s) (mu : Mut (H x)) (he : e = x ∨ H e = some (.own x)) (k : ∀ b u, b ≠ e → s.heap.get? b = some u → h'.get? b = some u) (heo : ∃ u, h'.get? e = some u)
    (new : ObjOk X.prog X.w (upd H x o) h' x o) : Inv X pins σ (upd H x o) { s with heap := h', toks := t' } := I.un (Un.write mu he k heo) (I.hok.write mu he k heo new)
/-- forgetting slots, pins -/
theorem Inv.weak {σ' : List (Option V)} (I : Inv X pins σ H s) (hl : σ'.length = σ.length) (w : ∀ (i : Nat) v, σ'[i]? = some (some v) → σ[i]? = some (some v)) : Inv X pins σ' H s :=
  ⟨I.ok, I.os, I.bare, I.base, let ⟨m, hn, hl'⟩ := I.loc; ⟨m, hn, fun i x v e1 e2 e3 => hl' i x v e1 (w i v e2) e3⟩, I.cell, I.free, I.freeC, I.pin, I.hok, hl.trans I.len⟩
theorem Inv.pins_of {pins' : List (Addr × Obj)} (I : Inv X pins σ H s) (h : ∀ p ∈ pins', s.heap.get? p.1 = some p.2 ∧ H p.1 = none ∧ p.1 ≠ X.env.locals ∧ p.1 ∉ X.fs ∧ ∀ v, p.2.data ≠ .cell v) : Inv X pins' σ H s :=
  ⟨I.ok, I.os, I.bare, I.base, I.loc, I.cell, I.free, I.freeC, fun p hp => (List.mem_append.mp hp).elim (fun z => I.pin p (List.mem_append_left _ z)) (h p), I.hok, I.len⟩

theorem nodup_ix {N : List Str} (hN : N.Nodup) {i j : Nat} {x : Str} (a : N[i]? = some x) (b : N[j]? = some x) : i = j := by
  obtain ⟨h1, e1⟩ := List.getElem?_eq_some_iff.mp a
  obtain ⟨h2, e2⟩ := List.getElem?_eq_some_iff.mp b
  exact (List.getElem_inj hN).mp (e1.trans e2.symm)

/-- a name is stored; what changed -/
theorem store_ok2 {M : Model} {A : Around} {E : Value → Shared → Prop} {i : Nat} {x : Str} {v : V} {u : Value} {Q : Unit → Shared → Prop} (I : Inv X pins σ H s) (hN : X.N.Nodup) (hi : X.N[i]? = some x) (hx : Loc X.env.scope x) (r : RelV v u)
    (h : ∀ s', Inv X pins (σ.set i (some v)) H s' → (∃ a, Heap.SameBut a s.heap s'.heap ∧ (a = X.env.locals ∨ X.env.cells.lookup x = some a)) → Q () s') (hf : X.fn x = true ∨ X.env.scope.names.lookup x = some .local := by first | exact .inl rfl | exact .inr rfl | assumption) : wpAny M A (storeName X.env x u) Q E s := by
  obtain ⟨m, hn, hl⟩ := id I.loc
  have hcls : (X.env.scope.kind == .class || (X.env.scope.kind == .module && X.env.locals != X.env.globals)) = false := by rw [I.ok.kind]; rfl
  have hiσ : i < σ.length := by rw [I.len]; exact (List.getElem?_eq_some_iff.mp hi).1
  have cne := I.cne
  have tracked : ∀ {a : Addr} {h' : Heap}, (∃ o, s.heap.get? a = some o ∧ H a = none) → Heap.SameBut a s.heap h' → HOk X.prog X.w H h' := fun {a h'} ha hs b ob e => by
    obtain ⟨_, _, hfree⟩ := ha
    refine (I.hok b ob e).stay (fun c w' hc q => (hs.2 c ?_).trans q) (fun _ q => q) fun _ _ q => q
    rintro rfl
    rcases hc with rfl | hc
    · rw [hfree] at e; cases e
    · rw [hfree] at hc; cases hc
  rcases hx with hk | hk
  · refine wpAny_storeName_local hk hn (fun h' hn' hs => ?_) hcls
    obtain ⟨oL, _, _, hoL, _⟩ := id hn
    refine h _ ⟨I.ok, I.os, I.bare, ⟨fun b o e n hb hx => ?_, fun b o e n hb hx => ?_, I.base.free, fun b o e hx => ?_, I.base.tups, I.base.frzs, I.base.tbls⟩, ⟨_, hn', fun j y v' e1 e2 e3 => ?_⟩, fun y c e => ?_, I.free, I.freeC, fun p hp => ?_, tracked ⟨oL, hoL, I.free⟩ hs, by simpa using I.len⟩ ⟨_, hs, .inl rfl⟩
    · exact (hs.2 b (Nat.ne_of_lt (Nat.lt_of_lt_of_le (Heap.lt_size e) I.ok.above))).trans (I.base.keep b o e n hb hx)
    · obtain ⟨sl, e1⟩ := I.base.slot b o e n hb hx
      exact ⟨sl, (hs.2 b (Nat.ne_of_lt (Nat.lt_of_lt_of_le (Heap.lt_size e) I.ok.above))).trans e1⟩
    · obtain ⟨o', e1⟩ := I.base.there b o e hx
      exact ⟨o', (hs.2 b (Nat.ne_of_lt (Nat.lt_of_lt_of_le (Heap.lt_size e) I.ok.above))).trans e1⟩
    · by_cases hj : j = i
      · subst hj
        rw [hi] at e1; cases e1
        rw [List.getElem?_set_self hiσ] at e2
        cases e2
        exact ⟨u, r, .inl ⟨hk, by simp⟩⟩
      · rw [List.getElem?_set_ne (Ne.symm hj)] at e2
        obtain ⟨u', r', q⟩ := hl j y v' e1 e2 e3
        refine ⟨u', r', ?_⟩
        rcases q with ⟨k, e⟩ | ⟨k, c, e, z⟩
        · refine .inl ⟨k, ?_⟩
          have : y ≠ x := fun e => hj (nodup_ix hN e1 (e ▸ hi))
          simp [this, e]
        · exact .inr ⟨k, c, e, z.sameBut hs (cne y c e)⟩
    · obtain ⟨w', z⟩ := I.cell y c e
      exact ⟨w', z.sameBut hs (cne y c e)⟩
    · obtain ⟨e, n, ne, nf, d⟩ := I.pin p hp
      exact ⟨(hs.2 p.1 ne).trans e, n, ne, nf, d⟩
  · have hfn : X.fn x = true := by
      rcases hf with z | z
      · exact z
      · rw [z] at hk; cases hk
    obtain ⟨c, hc⟩ := I.ok.has x (.inl hk)
    obtain ⟨w', z⟩ := I.cell x c hc
    refine wpAny_storeName_cell I.ok.kind hk hc z (fun h' hc' hs => ?_)
    obtain ⟨oc, hoc, hocd⟩ := id z
    refine h { s with heap := h' } ⟨I.ok, I.os, I.bare, ⟨fun b o e n hb hx => ?_, fun b o e n hb hx => ?_, I.base.free, fun b o e hx => ?_, I.base.tups, I.base.frzs, I.base.tbls⟩, ⟨m, hn.sameBut hs (Ne.symm (cne x c hc)), fun j y v' e1 e2 e3 => ?_⟩, fun y c' e => ?_, I.free, I.freeC, fun p hp => ?_, tracked ⟨oc, hoc, I.freeC x c hc⟩ hs, by simpa using I.len⟩ ⟨c, hs, .inr hc⟩
    · exact (hs.2 b (Nat.ne_of_lt (Nat.lt_of_lt_of_le (Heap.lt_size e) (I.ok.cab x c hfn hc)))).trans (I.base.keep b o e n hb hx)
    · obtain ⟨sl, e1⟩ := I.base.slot b o e n hb hx
      exact ⟨sl, (hs.2 b (Nat.ne_of_lt (Nat.lt_of_lt_of_le (Heap.lt_size e) (I.ok.cab x c hfn hc)))).trans e1⟩
    · obtain ⟨o', e1⟩ := I.base.there b o e hx
      exact ⟨o', (hs.2 b (Nat.ne_of_lt (Nat.lt_of_lt_of_le (Heap.lt_size e) (I.ok.cab x c hfn hc)))).trans e1⟩
    · by_cases hj : j = i
      · subst hj
        rw [hi] at e1; cases e1
        rw [List.getElem?_set_self hiσ] at e2
        cases e2
        exact ⟨u, r, .inr ⟨.inl hk, c, hc, hc'⟩⟩
      · rw [List.getElem?_set_ne (Ne.symm hj)] at e2
        obtain ⟨u', r', q⟩ := hl j y v' e1 e2 e3
        refine ⟨u', r', ?_⟩
        rcases q with q | ⟨k, c', e, z'⟩
        · exact .inl q
        · refine .inr ⟨k, c', e, z'.sameBut hs ?_⟩
          rintro rfl
          exact hj (nodup_ix hN e1 (I.ok.inj _ _ _ e hc ▸ hi))
    · by_cases hcc : c' = c
      · subst hcc; exact ⟨_, hc'⟩
      · obtain ⟨w2, z2⟩ := I.cell y c' e
        exact ⟨w2, z2.sameBut hs hcc⟩
    · obtain ⟨e, n, ne, nf, d⟩ := I.pin p hp
      refine ⟨(hs.2 p.1 ?_).trans e, n, ne, nf, d⟩
      intro q
      rw [q, hoc] at e
      have q' : oc = p.2 := Option.some.inj e
      exact d w' (by rw [← q']; exact hocd)
theorem store_ok {M : Model} {A : Around} {E : Value → Shared → Prop} {i : Nat} {x : Str} {v : V} {u : Value} {Q : Unit → Shared → Prop} (I : Inv X pins σ H s) (hN : X.N.Nodup) (hi : X.N[i]? = some x) (hx : Loc X.env.scope x) (r : RelV v u)
    (h : ∀ s', Inv X pins (σ.set i (some v)) H s' → Q () s') (hf : X.fn x = true ∨ X.env.scope.names.lookup x = some .local := by first | exact .inl rfl | exact .inr rfl | assumption) : wpAny M A (storeName X.env x u) Q E s :=
  store_ok2 I hN hi hx r (fun s' I' _ => h s' I') hf
/-- behind a call or a block, the state as it is -/
theorem Inv.call' {s' : Shared} {ch : List Addr} (I : Inv X pins σ H s) (ho : s'.os = s.os) (u : Un (frs X.stack) ch H H' s.heap s'.heap) (hok : HOk X.prog X.w H' s'.heap) (hg : AllBare s'.gens)
    (hch : ∀ b ∈ ch, (b ∈ X.ex ∨ X.s₀.heap.objs.size ≤ b) ∧ b ≠ X.env.locals ∧ (∀ x c, X.env.cells.lookup x = some c → c ≠ b) ∧ ∀ p ∈ X.pn ++ pins, p.1 ≠ b) : Inv X pins σ H' s' := by
  obtain ⟨h', g', d', t', o'⟩ := s'
  have e : o' = s.os := ho
  subst e
  exact I.call (g' := g') (t' := t') (d' := d') u hok hg hch
end

/-! ### the judgements -/
/-- an exception: its class, its own dict's address (where it has one), the abstract heap behind it -/
abbrev XK := Value → Option Addr → Hp → Prop
abbrev St := List (Option V)
abbrev VK := V → Hp → Prop
/-- an expression's reading; a test's; an argument list's -/
abbrev TE := St → Hp → VK → Prop
abbrev TT := St → Hp → (Bool → Hp → Prop) → Prop
abbrev TA := St → Hp → (List V → Hp → Prop) → Prop
/-- what is wanted behind a statement -/
structure Ends where
  nx : St → Hp → Prop
  rt : VK
  bk : St → Hp → Prop := fun _ _ => False
  ct : St → Hp → Prop := fun _ _ => False
abbrev TS := Ends → St → Hp → Prop

def EP (X : Cx) (pins : List (Addr × Obj)) (σ : St) (Q : VK) (u : Value) (s' : Shared) : Prop := ∃ v H', Inv X pins σ H' s' ∧ RelV v u ∧ Q v H'
def TP (X : Cx) (pins : List (Addr × Obj)) (σ : St) (Q : Bool → Hp → Prop) (b : Bool) (s' : Shared) : Prop := ∃ H', Inv X pins σ H' s' ∧ Q b H'
def AP (X : Cx) (pins : List (Addr × Obj)) (σ : St) (Q : List V → Hp → Prop) (us : List Value) (s' : Shared) : Prop := ∃ vs H', Inv X pins σ H' s' ∧ Vals vs us ∧ Q vs H'
def SP (X : Cx) (pins : List (Addr × Obj)) (D : Ends) (f : Flow) (s' : Shared) : Prop :=
  match f with
  | .next => ∃ σ' H', Inv X pins σ' H' s' ∧ D.nx σ' H'
  | .brk => ∃ σ' H', Inv X pins σ' H' s' ∧ D.bk σ' H'
  | .cont => ∃ σ' H', Inv X pins σ' H' s' ∧ D.ct σ' H'
  | .ret u => ∃ v σ' H', Inv X pins σ' H' s' ∧ RelV v u ∧ D.rt v H'

def PE (X : Cx) (e : Expr) (t : TE) : Prop :=
  ∀ (pins : List (Addr × Obj)) (s : Shared) (σ : St) (H : Hp) (Q : VK), Inv X pins σ H s → t σ H Q → wpAny (model X.prog X.w) X.A (eval e X.env) (EP X pins σ Q) X.xe s
def PT (X : Cx) (e : Expr) (t : TT) : Prop :=
  ∀ (pins : List (Addr × Obj)) (s : Shared) (σ : St) (H : Hp) (Q : Bool → Hp → Prop), Inv X pins σ H s → t σ H Q → wpAny (model X.prog X.w) X.A (isTrue e X.env (eval e X.env)) (TP X pins σ Q) X.xe s
/-- a test whatever its 'whole' is (and, or) -/
def PW (X : Cx) (e : Expr) (t : TT) : Prop :=
  ∀ (whole : Sem Value) (pins : List (Addr × Obj)) (s : Shared) (σ : St) (H : Hp) (Q : Bool → Hp → Prop), Inv X pins σ H s → t σ H Q → wpAny (model X.prog X.w) X.A (isTrue e X.env whole) (TP X pins σ Q) X.xe s
theorem PW.pt {X : Cx} {e : Expr} {t : TT} (h : PW X e t) : PT X e t := h _
/-- an argument list (no star), from the left -/
def PA (X : Cx) (es : List Expr) (t : TA) : Prop :=
  ∀ (pos : Pos) (pins : List (Addr × Obj)) (s : Shared) (σ : St) (H : Hp) (Q : List V → Hp → Prop), Inv X pins σ H s → t σ H Q → wpAny (model X.prog X.w) X.A (spliced (backTo pos (starEach es X.env))) (AP X pins σ Q) X.xe s
def PS (X : Cx) (st : Stmt) (t : TS) : Prop :=
  ∀ (pins : List (Addr × Obj)) (s : Shared) (σ : St) (H : Hp) (D : Ends), Inv X pins σ H s → t D σ H → wpAny (model X.prog X.w) X.A (exec st X.env) (SP X pins D) X.xe s
def PSs (X : Cx) (st : List Stmt) (t : TS) : Prop :=
  ∀ (pins : List (Addr × Obj)) (s : Shared) (σ : St) (H : Hp) (D : Ends), Inv X pins σ H s → t D σ H → wpAny (model X.prog X.w) X.A (execs st X.env) (SP X pins D) X.xe s
/-- weaken the end -/
theorem thn {α : Type} {t : Sem α} {Q Q' : α → Shared → Prop} {M : Model} {A : Around} {E : Value → Shared → Prop} {s : Shared} (h : wpAny M A t Q E s) (hQ : ∀ a s, Q a s → Q' a s) : wpAny M A t Q' E s := wpAny_mono h hQ fun _ _ x => x
end L2

namespace L2
open PySem PySem.Spec PyProof.Rows
section
variable {X : Cx}

/-! ### names and constants -/
def tVar (i : Nat) : TE := fun σ H Q => ∃ v, σ[i]? = some (some v) ∧ Q v H
def tC (v : V) : TE := fun _ H Q => Q v H
theorem pe_var {i : Nat} {x : Str} {pos : Pos} (hN : X.N[i]? = some x) (hv : Vis X.env.scope x) (hd : (x == ("__debug__" : Str)) = false := by decide) (hcd : (x == ("__classdict__" : Str)) = false := by decide) : PE X (.Name x pos) (tVar i) := by
  intro pins s σ H Q I h
  obtain ⟨v, e, h⟩ := h
  obtain ⟨m, hn, hl⟩ := I.loc
  obtain ⟨u, r, l⟩ := hl i x v hN e hv
  have fin : EP X pins σ Q u s := ⟨v, H, I, r, h⟩
  rcases l with ⟨hk, hm⟩ | ⟨hk, c, hc, hcell⟩
  · exact wpAny_Name (wpAny_loadName_local I.ok.kind hk hn hm fin) hd
  · rcases hk with hk | hk
    · exact wpAny_Name (wpAny_loadName_cell I.ok.kind hk hc hcell fin) hd
    · exact wpAny_Name (wpAny_loadName_free I.ok.kind hk hc hcell fin hcd) hd
theorem pe_int {i j pos} : PE X (.Constant (.int i) j pos) (tC (.int i)) := fun _ _ _ H _ I h => wpAny_Constant_int ⟨.int i, H, I.tok _, ⟨_, rfl⟩, h⟩
theorem pe_bl {b j pos} : PE X (.Constant (.bool b) j pos) (tC (.bl b)) := fun _ _ _ H _ I h => Constant_bool ⟨.bl b, H, I, rfl, h⟩
theorem pe_non {j pos} : PE X (.Constant .none j pos) (tC .non) := fun _ _ _ H _ I h => Constant_none ⟨.non, H, I, rfl, h⟩
theorem pe_str {x j pos} : PE X (.Constant (.str x) j pos) (tC (.str x)) := fun _ _ _ H _ I h => Calls.Constant_str ⟨.str x, H, I.tok _, ⟨_, rfl⟩, h⟩

/-- a global name of the def -/
def Gl (X : Cx) (x : Str) : Prop := X.env.kindOf x = some .globalImplicit
theorem ld_glob {E : Value → Shared → Prop} {pins : List (Addr × Obj)} {s : Shared} {σ : St} {H : Hp} {x : Str} {u : Value} {pos : Pos} {Q : Value → Shared → Prop} (I : Inv X pins σ H s) (hg : Gl X x) (hm : X.mg x = some u) (h : Q u s)
    (hd : (x == ("__debug__" : Str)) = false := by decide) : wpAny (model X.prog X.w) X.A (eval (.Name x pos) X.env) Q E s :=
  Calls.Name_function_global I.ok.kind hg (Calls.loadGlobal_global (by rw [I.ok.glob]; exact I.mod.glob.keeps I.bk) hm h) hd
theorem ld_blt {E : Value → Shared → Prop} {pins : List (Addr × Obj)} {s : Shared} {σ : St} {H : Hp} {x : Str} {u : Value} {pos : Pos} {Q : Value → Shared → Prop} (I : Inv X pins σ H s) (hg : Gl X x) (hm : X.mg x = none) (hv : bootBuiltins x = some u) (h : Q u s)
    (hn : x ≠ "__name__" := by decide) (hd : (x == ("__debug__" : Str)) = false := by decide) : wpAny (model X.prog X.w) X.A (eval (.Name x pos) X.env) Q E s := by
  obtain ⟨mb, h1, h2⟩ := I.mod.blt
  exact Calls.Name_function_global I.ok.kind hg (Calls.loadGlobal_builtin (by rw [I.ok.glob]; exact I.mod.glob.keeps I.bk) hm (by rw [I.ok.blt]; exact h1.keeps I.bk) ((h2 x hn).trans hv) h) hd
/-- a module's constant, a class, a function, as a value -/
theorem pe_glob {x : Str} {v : V} {u : Value} {pos : Pos} (hg : Gl X x) (hm : X.mg x = some u) (r : RelV v u) (hd : (x == ("__debug__" : Str)) = false := by decide) : PE X (.Name x pos) (tC v) :=
  fun _ _ _ H _ I h => ld_glob I hg hm ⟨v, H, I, r, h⟩ hd
theorem pe_bltn {x : Str} {v : V} {u : Value} {pos : Pos} (hg : Gl X x) (hm : X.mg x = none) (hv : bootBuiltins x = some u) (r : RelV v u) (hn : x ≠ "__name__" := by decide) (hd : (x == ("__debug__" : Str)) = false := by decide) : PE X (.Name x pos) (tC v) :=
  fun _ _ _ H _ I h => ld_blt I hg hm hv ⟨v, H, I, r, h⟩ hn hd

/-! ### arithmetic -/
/-- two ints -/
def t2I (ta tb : TE) (k : Int → Int → Hp → Prop) : St → Hp → Prop := fun σ H => ta σ H fun x H1 => tb σ H1 fun y H2 => ∃ i j, x = .int i ∧ y = .int j ∧ k i j H2
def tAdd (ta tb : TE) : TE := fun σ H Q => t2I ta tb (fun i j H2 => Q (.int (i + j)) H2) σ H
def tSub (ta tb : TE) : TE := fun σ H Q => t2I ta tb (fun i j H2 => Q (.int (i - j)) H2) σ H
/-- the left factor below 2^64 -/
def tMul (ta tb : TE) : TE := fun σ H Q => t2I ta tb (fun i j H2 => (-(2 ^ 64) < i ∧ i < 2 ^ 64) ∧ Q (.int (i * j)) H2) σ H
variable {a b : Expr} {ta tb : TE} {pos : Pos}
/-! ### comparisons -/
def PC (X : Cx) (op : CmpOp) (a b : Expr) (t : TE) : Prop :=
  ∀ (pins : List (Addr × Obj)) (s : Shared) (σ : St) (H : Hp) (Q : VK), Inv X pins σ H s → t σ H Q →
    wpAny (model X.prog X.w) X.A (eval a X.env) (fun v s₁ => wpAny (model X.prog X.w) X.A (eval b X.env) (fun u s₂ => wpAny (model X.prog X.w) X.A (compareOp op v u) (EP X pins σ Q) X.xe s₂) X.xe s₁) X.xe s
def tCmp (p : Int → Int → Bool) (ta tb : TE) : TE := fun σ H Q => t2I ta tb (fun i j H2 => Q (.bl (p i j)) H2) σ H
abbrev tLt : TE → TE → TE := tCmp fun i j => decide (i < j)
abbrev tLe : TE → TE → TE := tCmp fun i j => decide (i ≤ j)
abbrev tGt : TE → TE → TE := tCmp fun i j => decide (j < i)
abbrev tGe : TE → TE → TE := tCmp fun i j => decide (j ≤ i)
abbrev tEqI : TE → TE → TE := tCmp fun i j => decide (i = j)
abbrev tNeI : TE → TE → TE := tCmp fun i j => !decide (i = j)
/-- is None -/
def tIsN (ta : TE) : TE := fun σ H Q => ta σ H fun x H1 => Q (.bl (decide (x = .non))) H1
def tNotN (ta : TE) : TE := fun σ H Q => ta σ H fun x H1 => Q (.bl (!decide (x = .non))) H1
/-- a comparison as a value, as a test -/
def tB (t : TE) : TT := fun σ H Q => t σ H fun x H1 => ∃ c, x = .bl c ∧ Q c H1
/-- an expression whose value is a bool, as a test -/
theorem pt_val {e : Expr} {t : TE} (h : PE X e t) (he : ∀ whole, isTrue e X.env whole = (do let v ← whole; standAt e.pos; holding [v] (truthy v)) := by intro _; rfl) : PT X e (tB t) := by
  intro pins s σ H Q I hw
  refine isTrue_plain (thn (h pins s σ H _ I hw) fun v s1 ⟨x, H1, I1, r1, q1⟩ => ?_) (he _)
  obtain ⟨d, rfl, q⟩ := q1
  cases r1
  exact wpAny_truthy_bool ⟨H1, I1, q⟩

/-! ### and, or, not -/
variable {tA tB' : TT} {rest : List Expr}
def tAnd (t u : TT) : TT := fun σ H Q => t σ H fun c H1 => if c = true then u σ H1 Q else Q false H1
def tOr (t u : TT) : TT := fun σ H Q => t σ H fun c H1 => if c = true then Q true H1 else u σ H1 Q
def tNot (t : TT) : TT := fun σ H Q => t σ H fun c H1 => Q (!c) H1
theorem pw_and1 (ha : PT X a tA) : PW X (.BoolOp .And [a] pos) tA := by
  intro wh pins s σ H Q I h
  refine isTrue_and (thn (ha pins s σ H Q I h) fun c s1 e => ?_)
  cases c with
  | true => exact isTrue_and_nil e
  | false => exact e
theorem pw_or1 (ha : PT X a tA) : PW X (.BoolOp .Or [a] pos) tA := by
  intro wh pins s σ H Q I h
  refine isTrue_or (thn (ha pins s σ H Q I h) fun c s1 e => ?_)
  cases c with
  | false => exact isTrue_or_nil e
  | true => exact e
theorem pw_and (ha : PT X a tA) (hb : PW X (.BoolOp .And (b :: rest) pos) tB') : PW X (.BoolOp .And (a :: b :: rest) pos) (tAnd tA tB') := by
  intro wh pins s σ H Q I h
  refine isTrue_and (thn (ha pins s σ H _ I h) fun c s1 ⟨H1, I1, q1⟩ => ?_)
  cases c with
  | true => exact hb wh pins s1 σ H1 Q I1 q1
  | false => exact ⟨H1, I1, q1⟩
theorem pw_or (ha : PT X a tA) (hb : PW X (.BoolOp .Or (b :: rest) pos) tB') : PW X (.BoolOp .Or (a :: b :: rest) pos) (tOr tA tB') := by
  intro wh pins s σ H Q I h
  refine isTrue_or (thn (ha pins s σ H _ I h) fun c s1 ⟨H1, I1, q1⟩ => ?_)
  cases c with
  | true => exact ⟨H1, I1, q1⟩
  | false => exact hb wh pins s1 σ H1 Q I1 q1
theorem pt_not (ha : PT X a tA) : PT X (.UnaryOp .Not a pos) (tNot tA) := by
  intro pins s σ H Q I h
  exact isTrue_not (ha pins s σ H (fun c H1 => Q (!c) H1) I h)
/-- .. as values (bools) -/
def tAndV (ta tb : TE) : TE := fun σ H Q => ta σ H fun x H1 => ∃ c, x = .bl c ∧ if c = true then tb σ H1 Q else Q (.bl false) H1
def tOrV (ta tb : TE) : TE := fun σ H Q => ta σ H fun x H1 => ∃ c, x = .bl c ∧ if c = true then Q (.bl true) H1 else tb σ H1 Q
def tNotV (ta : TE) : TE := fun σ H Q => ta σ H fun x H1 => ∃ c, x = .bl c ∧ Q (.bl (!c)) H1
theorem pe_one {op} {t : TE} (h : PE X a t) : PE X (.BoolOp op [a] pos) t := fun pins s σ H Q I hw => BoolOp_one (h pins s σ H Q I hw)
theorem pe_and (ha : PE X a ta) (hb : PE X (.BoolOp .And (b :: rest) pos) tb) : PE X (.BoolOp .And (a :: b :: rest) pos) (tAndV ta tb) := by
  intro pins s σ H Q I h
  refine BoolOp_and (thn (ha pins s σ H _ I h) fun v s1 ⟨x, H1, I1, r1, q1⟩ => ?_)
  obtain ⟨c, rfl, q1⟩ := q1
  cases r1
  refine wpAny_truthy_bool ?_
  cases c with
  | true => exact hb pins s1 σ H1 Q I1 q1
  | false => exact ⟨.bl false, H1, I1, rfl, q1⟩
theorem pe_or (ha : PE X a ta) (hb : PE X (.BoolOp .Or (b :: rest) pos) tb) : PE X (.BoolOp .Or (a :: b :: rest) pos) (tOrV ta tb) := by
  intro pins s σ H Q I h
  refine BoolOp_or (thn (ha pins s σ H _ I h) fun v s1 ⟨x, H1, I1, r1, q1⟩ => ?_)
  obtain ⟨c, rfl, q1⟩ := q1
  cases r1
  refine wpAny_truthy_bool ?_
  cases c with
  | false => exact hb pins s1 σ H1 Q I1 q1
  | true => exact ⟨.bl true, H1, I1, rfl, q1⟩
theorem pe_not (ha : PE X a ta) : PE X (.UnaryOp .Not a pos) (tNotV ta) := by
  intro pins s σ H Q I h
  refine UnaryOp_ (thn (ha pins s σ H _ I h) fun v s1 ⟨x, H1, I1, r1, q1⟩ => ?_)
  obtain ⟨c, rfl, q1⟩ := q1
  cases r1
  exact not_of (wpAny_truthy_bool ⟨.bl (!c), H1, I1, rfl, q1⟩)
/-- a if t else b -/
def tIf (t : TT) (ta tb : TE) : TE := fun σ H Q => t σ H fun c H1 => if c = true then ta σ H1 Q else tb σ H1 Q
end
end L2

namespace L2
open PySem PySem.Spec PyProof.Rows

/-! ### a list, a tuple that is read: tracked, frozen, or an object of the module -/
def SqL (K : PySem.W.Frag) (H : Hp) (a : Addr) (xs : List V) : Prop :=
  Rd H a (.lst xs) ∨
    ∃ (o : Obj) (its : Array Value) (n : Nat), K.lookup a = some o ∧ o.cls = .type "list" ∧ o.dict = none ∧ o.data = .seq its n ∧ its.size ≤ sizeLine ∧ Vals xs its.toList
def SqT (K : PySem.W.Frag) (H : Hp) (a : Addr) (xs : List V) : Prop :=
  Rd H a (.tup xs) ∨
    ∃ (o : Obj) (its : Array Value) (n : Nat), K.lookup a = some o ∧ o.cls = .type "tuple" ∧ o.data = .seq its n ∧ its.size ≤ sizeLine ∧ Vals xs its.toList
def absV : Value → Option V
  | .none => some .non
  | .bool b => some (.bl b)
  | .int i _ => some (.int i)
  | .str x _ => some (.str x)
  | .bytes b _ => some (.byt b)
  | .float b _ => some (.flt b)
  | .ref a => some (.ref a)
  | .type n => some (.ty n)
  | _ => none
theorem RelV.abs {x : V} {u : Value} (r : RelV x u) : absV u = some x := by
  cases x with
  | non => cases r; rfl
  | bl _ => cases r; rfl
  | int _ => obtain ⟨t, rfl⟩ := r; rfl
  | str _ => obtain ⟨t, rfl⟩ := r; rfl
  | byt _ => obtain ⟨t, rfl⟩ := r; rfl
  | flt _ => obtain ⟨t, rfl⟩ := r; rfl
  | ref _ => cases r; rfl
  | ty _ => cases r; rfl
theorem RelV.inj {x y : V} {u : Value} (r : RelV x u) (q : RelV y u) : x = y := Option.some.inj (r.abs.symm.trans q.abs)
theorem Vals.inj : ∀ {xs ys : List V} {us : List Value}, Vals xs us → Vals ys us → xs = ys
  | _, _, _, .nil, .nil => rfl
  | _, _, _, .cons r t, .cons r' t' => by rw [r.inj r', Vals.inj t t']
section
variable {X : Cx} {pins : List (Addr × Obj)} {σ : St} {H : Hp} {s : Shared} {a : Addr} {xs ys : List V}
theorem Inv.list (I : Inv X pins σ H s) (h : SqL X.K H a xs) : ∃ its : List Value, Vals xs its ∧ PlainL s.heap a its.toArray ∧ xs.length ≤ sizeLine := by
  rcases h with h | ⟨o, its, n, hk, hc, hd, hs, hz, r⟩
  · obtain ⟨z, its, n, r, e⟩ := h.ok I.hok
    exact ⟨its, r, ⟨_, n, e, rfl, rfl, rfl⟩, z⟩
  · refine ⟨its.toList, r, ⟨o, n, I.kIn a o hk, hc, hd, by simpa using hs⟩, ?_⟩
    have e := r.length
    simp only [Array.length_toList] at e
    omega
theorem Inv.tuple (I : Inv X pins σ H s) (h : SqT X.K H a xs) : ∃ its : List Value, Vals xs its ∧ IsTup s.heap a its.toArray ∧ xs.length ≤ sizeLine := by
  rcases h with h | ⟨o, its, n, hk, hc, hs, hz, r⟩
  · obtain ⟨z, its, r, p⟩ := h.ok I.hok
    exact ⟨its, r, p, z⟩
  · refine ⟨its.toList, r, ⟨o, I.kIn a o hk, hc, n, by simpa using hs⟩, ?_⟩
    have e := r.length
    simp only [Array.length_toList] at e
    omega
theorem Inv.list_inj (I : Inv X pins σ H s) (h : SqL X.K H a xs) (h' : SqL X.K H a ys) : xs = ys := by
  obtain ⟨its, r, ⟨o, n, e, _, _, d⟩, _⟩ := I.list h
  obtain ⟨its', r', ⟨o', n', e', _, _, d'⟩, _⟩ := I.list h'
  rw [e] at e'; cases e'
  rw [d] at d'
  injection d' with d1 _
  have : its = its' := by simpa using congrArg Array.toList d1
  subst this
  exact r.inj r'
theorem Inv.tuple_inj (I : Inv X pins σ H s) (h : SqT X.K H a xs) (h' : SqT X.K H a ys) : xs = ys := by
  obtain ⟨its, r, ⟨o, e, _, n, d⟩, _⟩ := I.tuple h
  obtain ⟨its', r', ⟨o', e', _, n', d'⟩, _⟩ := I.tuple h'
  rw [e] at e'; cases e'
  rw [d] at d'
  injection d' with d1 _
  have : its = its' := by simpa using congrArg Array.toList d1
  subst this
  exact r.inj r'
end

/-! ### another wish about exceptions -/
abbrev Cx.wish (X : Cx) (E : Value → Shared → Prop) : Cx := { X with xe := E }
/-- no exception leaves -/
abbrev Cx.nox (X : Cx) : Cx := X.wish fun _ _ => False
theorem Cx.Ok.wish {X : Cx} (ok : X.Ok) (E : Value → Shared → Prop) : (X.wish E).Ok :=
  ⟨ok.mod, ok.kind, ok.glob, ok.blt, ok.above, ok.inj, ok.has, ok.cab, ok.hd, ok.frames, ok.stk, ok.exf, ok.bs, ok.bsz, ok.noex, ok.exfs, ok.funs, ok.frf⟩
theorem Cx.Ok.unwish {X : Cx} {E : Value → Shared → Prop} (ok : (X.wish E).Ok) : X.Ok :=
  ⟨ok.mod, ok.kind, ok.glob, ok.blt, ok.above, ok.inj, ok.has, ok.cab, ok.hd, ok.frames, ok.stk, ok.exf, ok.bs, ok.bsz, ok.noex, ok.exfs, ok.funs, ok.frf⟩
section
variable {X : Cx} {pins : List (Addr × Obj)} {σ : St} {H : Hp} {s : Shared} {E : Value → Shared → Prop}
theorem Inv.wish (I : Inv X pins σ H s) (E : Value → Shared → Prop) : Inv (X.wish E) pins σ H s := ⟨I.ok.wish E, I.os, I.bare, I.base, I.loc, I.cell, I.free, I.freeC, I.pin, I.hok, I.len⟩
theorem Inv.unwish (I : Inv (X.wish E) pins σ H s) : Inv X pins σ H s := ⟨I.ok.unwish, I.os, I.bare, I.base, I.loc, I.cell, I.free, I.freeC, I.pin, I.hok, I.len⟩
theorem SP.unwish {D : Ends} {f : Flow} {s' : Shared} (h : SP (X.wish E) pins D f s') : SP X pins D f s' := by
  cases f with
  | next => obtain ⟨σ', H', I, q⟩ := h; exact ⟨σ', H', I.unwish, q⟩
  | brk => obtain ⟨σ', H', I, q⟩ := h; exact ⟨σ', H', I.unwish, q⟩
  | cont => obtain ⟨σ', H', I, q⟩ := h; exact ⟨σ', H', I.unwish, q⟩
  | ret u => obtain ⟨v, σ', H', I, r, q⟩ := h; exact ⟨v, σ', H', I.unwish, r, q⟩
theorem PSs.nox {st : List Stmt} {t : TS} (h : PSs X.nox st t) : PSs X st t := fun pins s σ H D I hw =>
  wpAny_mono (h pins s σ H D (I.wish _) hw) (fun _ _ q => q.unwish) fun _ _ z => False.elim z
end

/-! ### blocks and small statements -/
section
variable {X : Cx} {st : Stmt} {rest : List Stmt} {t u : TS} {e : Expr} {te : TE} {pos : Pos}
def tNext : TS := fun D σ H => D.nx σ H
def tSeq (t u : TS) : TS := fun D σ H => t { D with nx := u D } σ H
theorem pss_nil : PSs X [] tNext := fun _ _ σ H _ I h => wpAny_execs_nil ⟨σ, H, I, h⟩
theorem pss_cons (h1 : PS X st t) (h2 : PSs X rest u) : PSs X (st :: rest) (tSeq t u) := by
  intro pins s σ H D I h
  refine wpAny_execs_cons (thn (h1 pins s σ H { D with nx := u D } I h) fun f s1 q => ?_)
  cases f with
  | next =>
    obtain ⟨σ', H', I', q⟩ := q
    exact h2 pins s1 σ' H' D I' q
  | ret v => exact q
  | brk => exact q
  | cont => exact q
theorem pss_one (h1 : PS X st t) : PSs X [st] t := by
  intro pins s σ H D I h
  refine wpAny_execs_cons (thn (h1 pins s σ H D I h) fun f s1 q => ?_)
  cases f with
  | next => exact wpAny_execs_nil q
  | ret v => exact q
  | brk => exact q
  | cont => exact q
def tBreak : TS := fun D σ H => D.bk σ H
def tCont : TS := fun D σ H => D.ct σ H
/-- in a def's body nothing is shown -/
theorem Inv.quiet {pins : List (Addr × Obj)} {σ : St} {H : Hp} {s : Shared} (I : Inv X pins σ H s) : interactive X.env = false := by simp [interactive, I.ok.kind]
/-- an expression whose value is dropped -/
def tDrop (te : TE) : TS := fun D σ H => te σ H fun _ H1 => D.nx σ H1
theorem ps_expr (he : PE X e te) (hs : swapsWith e none pos.line X.env = pure false := by rfl) : PS X (.Expr e pos) (tDrop te) := by
  intro pins s σ H D I h
  exact wpAny_Expr_any (thn (he pins s σ H _ I h) fun v s1 ⟨x, H1, I1, r1, q1⟩ => ⟨σ, H1, I1, q1⟩) I.quiet hs
def tRet (te : TE) : TS := fun D σ H => te σ H D.rt
theorem ps_ret (he : PE X e te) : PS X (.Return (some e) pos) (tRet te) := by
  intro pins s σ H D I h
  exact wpAny_Return_some (thn (he pins s σ H _ I h) fun v s1 ⟨x, H1, I1, r1, q1⟩ => ⟨x, σ, H1, I1, r1, q1⟩)
def tRetN : TS := fun D _ H => D.rt .non H
def tIfS (c : TT) (t u : TS) : TS := fun D σ H => c σ H fun b H1 => if b = true then t D σ H1 else u D σ H1
theorem ps_if {c : Expr} {a b : List Stmt} {tc : TT} (hc : PT X c tc) (ha : PSs X a t) (hb : PSs X b u) : PS X (.If c a b pos) (tIfS tc t u) := by
  intro pins s σ H D I h
  refine wpAny_If (thn (hc pins s σ H _ I h) fun d s1 ⟨H1, I1, q1⟩ => ?_)
  cases d with
  | true => exact ha pins s1 σ H1 D I1 q1
  | false => exact hb pins s1 σ H1 D I1 q1
/-- code that the proof never comes to -/
def tNever : TS := fun _ _ _ => False
end

/-! ### targets -/
abbrev TG := V → St → Hp → (St → Hp → Prop) → Prop
abbrev TGs := List V → St → Hp → (St → Hp → Prop) → Prop
def PG (X : Cx) (target : Expr) (t : TG) : Prop :=
  ∀ (pins : List (Addr × Obj)) (s : Shared) (σ : St) (H : Hp) (v : V) (u : Value) (Q : St → Hp → Prop), Inv X pins σ H s → RelV v u → t v σ H Q →
    wpAny (model X.prog X.w) X.A (assign target X.env u) (fun _ s' => ∃ σ' H', Inv X pins σ' H' s' ∧ Q σ' H') X.xe s
/-- several targets, one after another -/
def PGs (X : Cx) (ts : List Expr) (t : TGs) : Prop :=
  ∀ (pins : List (Addr × Obj)) (s : Shared) (σ : St) (H : Hp) (vs : List V) (us : List Value) (Q : St → Hp → Prop), Inv X pins σ H s → Vals vs us → t vs σ H Q →
    wpAny (model X.prog X.w) X.A (assignInOrder ((assignEach ts X.env).map (·.2)) us) (fun _ s' => ∃ σ' H', Inv X pins σ' H' s' ∧ Q σ' H') X.xe s
/-- o[i] = v, by values -/
abbrev TSet := V → V → V → Hp → (Hp → Prop) → Prop
def PSet (X : Cx) (t : TSet) : Prop :=
  ∀ (pins : List (Addr × Obj)) (s : Shared) (σ : St) (H : Hp) (o i v : V) (ov iv u : Value) (Q : Hp → Prop), Inv X pins σ H s → RelV o ov → RelV i iv → RelV v u → t o i v H Q →
    wpAny (model X.prog X.w) X.A (setItem ov iv u) (fun _ s' => ∃ H', Inv X pins σ H' s' ∧ Q H') X.xe s
/-- a op= b, by values -/
abbrev TIp := V → V → Hp → VK → Prop
def PIp (X : Cx) (op : Operator) (t : TIp) : Prop :=
  ∀ (pins : List (Addr × Obj)) (s : Shared) (σ : St) (H : Hp) (x y : V) (v u : Value) (Q : VK), Inv X pins σ H s → RelV x v → RelV y u → t x y H Q →
    wpAny (model X.prog X.w) X.A (inplaceOp op v u) (EP X pins σ Q) X.xe s
section
variable {X : Cx} {pos : Pos}
def gName (i : Nat) : TG := fun v σ H Q => Q (σ.set i (some v)) H
theorem pg_name {i : Nat} {x : Str} (hN : X.N.Nodup) (hi : X.N[i]? = some x) (hx : Loc X.env.scope x) (hf : X.fn x = true ∨ X.env.scope.names.lookup x = some .local := by first | exact .inl rfl | exact .inr rfl | assumption) : PG X (.Name x pos) (gName i) := by
  intro pins s σ H v u Q I r h
  exact wpAny_assign_Name (store_ok I hN hi hx r (fun s' I' => ⟨_, H, I', h⟩) hf)
def gNil : TGs := fun vs σ H Q => vs = [] ∧ Q σ H
def gCons (t : TG) (u : TGs) : TGs := fun vs σ H Q => ∃ v r, vs = v :: r ∧ t v σ H fun σ' H' => u r σ' H' Q
theorem pgs_nil : PGs X [] gNil := by
  intro pins s σ H vs us Q I r h
  obtain ⟨e, h⟩ := h
  subst e
  cases r
  exact assignInOrder_nil ⟨σ, H, I, h⟩
theorem pgs_cons {e : Expr} {es : List Expr} {t : TG} {u : TGs} (h1 : PG X e t) (h2 : PGs X es u)
    (hs : (assignEach (e :: es) X.env).map (·.2) = assign e X.env :: (assignEach es X.env).map (·.2) := by rfl) : PGs X (e :: es) (gCons t u) := by
  intro pins s σ H vs us Q I r h
  obtain ⟨v, vr, e1, h⟩ := h
  subst e1
  cases r with
  | cons r rr =>
    rw [hs]
    refine assignInOrder_cons (thn (h1 pins s σ H _ _ _ I r h) fun _ s1 ⟨σ1, H1, I1, q1⟩ => ?_)
    exact h2 pins s1 σ1 H1 _ _ Q I1 rr q1
/-- (a, b, ..) = a tuple of that length -/
def gTup (K : PySem.W.Frag) (n : Nat) (t : TGs) : TG := fun v σ H Q => ∃ a xs, v = .ref a ∧ SqT K H a xs ∧ xs.length = n ∧ t xs σ H Q
theorem pg_tup {es : List Expr} {k : Nat} {t : TGs} {n : Nat} (hc : X.calm = true) (h : PGs X es t)
    (hn : (assignEach es X.env).length = n := by rfl) (hst : (assignEach es X.env).findIdx? (·.1) = none := by rfl) : PG X (.Tuple es k pos) (gTup X.K n t) := by
  intro pins s σ H v u Q I r hw
  obtain ⟨a, xs, e1, hq, hl, hw⟩ := hw
  subst e1
  cases r
  obtain ⟨its, rv, ht, hz⟩ := I.tuple hq
  refine assign_Tuple_tuple (I.ok.hd hc) ht (by simp [hn, ← hl, rv.length]) hst fun h' hx => ?_
  have I1 : Inv X pins σ H { s with heap := h' } := I.kept (t' := s.toks) fun b o e => hx b o (Nat.ne_of_lt (Heap.lt_size e)) e
  exact h pins _ σ H xs _ Q I1 (by simpa using rv) hw
/-- o[i] = .. -/
def gSub (to ti : TE) (t : TSet) : TG := fun v σ H Q => to σ H fun o H1 => ti σ H1 fun i H2 => t o i v H2 fun H3 => Q σ H3
theorem pg_sub {o i : Expr} {to ti : TE} {t : TSet} (ho : PE X o to) (hi : PE X i ti) (hs : PSet X t)
    (ha : ∀ v, assign (.Subscript o i pos) X.env v = (do
      let ov ← holding [v] (eval o X.env)
      let iv ← holding [v, ov] (eval i X.env)
      standAt pos
      holding [v, ov, iv] (setItem ov iv v)
      release [v, ov, iv] []) := by intro _; rfl) : PG X (.Subscript o i pos) (gSub to ti t) := by
  intro pins s σ H v u Q I r h
  rw [ha]
  refine wpAny_bind (wpAny_holding (thn (ho pins s σ H _ I h) fun ov s1 ⟨x, H1, I1, r1, q1⟩ => ?_))
  refine wpAny_bind (wpAny_holding (thn (hi pins s1 σ H1 _ I1 q1) fun iv s2 ⟨y, H2, I2, r2, q2⟩ => ?_))
  refine wpAny_bind (wpAny_standAt (wpAny_bind (wpAny_holding (thn (hs pins s2 σ H2 x y v ov iv u _ I2 r1 r2 r q2) fun _ s3 ⟨H3, I3, q3⟩ => ?_))))
  exact wpAny_release ⟨σ, H3, I3, q3⟩
/-- target = value -/
def tAsg (te : TE) (g : TG) : TS := fun D σ H => te σ H fun x H1 => g x σ H1 D.nx
theorem ps_asg {tg e : Expr} {te : TE} {g : TG} (he : PE X e te) (hg : PG X tg g) (hs : swapsWithSole [tg] e pos.line X.env = pure false := by rfl) (hw : swappedStores [tg] e X.env = pure none := by rfl)
    (h1 : (assignEach [tg] X.env).map (·.2) = [assign tg X.env] := by rfl) : PS X (.Assign [tg] e pos) (tAsg te g) := by
  intro pins s σ H D I h
  refine wpAny_Assign_stores (thn (he pins s σ H _ I h) fun v s1 ⟨x, H1, I1, r1, q1⟩ => ?_) hs hw
  rw [h1]
  exact thn (hg pins s1 σ H1 x v _ I1 r1 q1) fun _ s2 q => q
/-- name = value -/
theorem ps_set {i : Nat} {x : Str} {e : Expr} {te : TE} {pos' : Pos} (hN : X.N.Nodup) (hi : X.N[i]? = some x) (hx : Loc X.env.scope x) (he : PE X e te) (hs : swapsWith e (some (.Name x pos')) pos.line X.env = pure false := by rfl) (hf : X.fn x = true ∨ X.env.scope.names.lookup x = some .local := by first | exact .inl rfl | exact .inr rfl | assumption) :
    PS X (.Assign [.Name x pos'] e pos) (tAsg te (gName i)) := by
  intro pins s σ H D I h
  refine wpAny_Assign_Name (thn (he pins s σ H _ I h) fun v s1 ⟨y, H1, I1, r1, q1⟩ => ?_) hs
  exact store_ok I1 hN hi hx r1 (fun s2 I2 => ⟨_, H1, I2, q1⟩) hf
/-- a, b = x, y with plain local names: stored from the right; the pair itself is not tracked (the opening rows as in PyProof/Rows/TupAssign.lean:23) -/
def tPar (i j : Nat) (ta : TA) : TS := fun D σ H => ta σ H fun vs H1 => ∃ v w, vs = [v, w] ∧ D.nx ((σ.set i (some v)).set j (some w)) H1
/-- name op= e -/
def tAug (i : Nat) (te : TE) (ti : TIp) : TS := fun D σ H => ∃ x, σ[i]? = some (some x) ∧ te σ H fun y H1 => ti x y H1 fun z H2 => D.nx (σ.set i (some z)) H2
/-- o[i] op= e -/
def tAugS (to ti te : TE) (tget : V → V → Hp → VK → Prop) (tip : TIp) (tset : TSet) : TS := fun D σ H => to σ H fun o H1 => ti σ H1 fun i H2 => tget o i H2 fun x H3 => te σ H3 fun y H4 => tip x y H4 fun z H5 => tset o i z H5 fun H6 => D.nx σ H6
/-- o[i], by values -/
def PGet (X : Cx) (t : V → V → Hp → VK → Prop) : Prop :=
  ∀ (pins : List (Addr × Obj)) (s : Shared) (σ : St) (H : Hp) (o i : V) (ov iv : Value) (Q : VK), Inv X pins σ H s → RelV o ov → RelV i iv → t o i H Q →
    wpAny (model X.prog X.w) X.A (getItem ov iv) (EP X pins σ Q) X.xe s
theorem ps_augS {o i e : Expr} {to ti te : TE} {tget : V → V → Hp → VK → Prop} {tip : TIp} {tset : TSet} {op : Operator} {tpos : Pos} (ho : PE X o to) (hi : PE X i ti) (hg : PGet X tget) (he : PE X e te) (hp : PIp X op tip) (hs : PSet X tset)
    (ha : ∀ ov iv new, augStore i ov iv new = (do holding [new, ov, iv] (setItem ov iv new); release [new, ov, iv] []; pure .next) := by intros; rfl) : PS X (.AugAssign (.Subscript o i tpos) op e pos) (tAugS to ti te tget tip tset) := by
  intro pins s σ H D I h
  refine wpAny_AugAssign_SubscriptAny (thn (ho pins s σ H _ I h) fun ov s1 ⟨x1, H1, I1, r1, q1⟩ => ?_) ha
  refine thn (hi pins s1 σ H1 _ I1 q1) fun iv s2 ⟨x2, H2, I2, r2, q2⟩ => ?_
  refine thn (hg pins s2 σ H2 x1 x2 ov iv _ I2 r1 r2 q2) fun old s3 ⟨x3, H3, I3, r3, q3⟩ => ?_
  refine thn (he pins s3 σ H3 _ I3 q3) fun v s4 ⟨x4, H4, I4, r4, q4⟩ => ?_
  refine thn (hp pins s4 σ H4 x3 x4 old v _ I4 r3 r4 q4) fun new s5 ⟨x5, H5, I5, r5, q5⟩ => ?_
  exact thn (hs pins s5 σ H5 x1 x2 x5 ov iv new _ I5 r1 r2 r5 q5) fun _ s6 ⟨H6, I6, q6⟩ => ⟨σ, H6, I6, q6⟩
/-- ints -/
def ipI (f : Int → Int → Int) : TIp := fun x y H Q => ∃ i j, x = .int i ∧ y = .int j ∧ Q (.int (f i j)) H
theorem ip_add : PIp X .Add (ipI fun i j => i + j) := by
  intro pins s σ H x y v u Q I r1 r2 h
  obtain ⟨i, j, e1, e2, q⟩ := h
  subst e1; subst e2
  obtain ⟨t, rfl⟩ := r1
  obtain ⟨t', rfl⟩ := r2
  exact iadd_int ⟨.int _, H, I.tok _, ⟨_, rfl⟩, q⟩
end

/-! ### while -/
section
variable {X : Cx} {pos : Pos}
/-- the invariant W with its measure -/
def tWhile (c : TT) (tb : TS) : TS := fun D σ H => ∃ W : Nat → St → Hp → Prop, (∃ m, W m σ H) ∧ ∀ m σ H, W m σ H →
  c σ H fun b H1 => if b = true then ∃ N : St → Hp → Prop, (∀ σ' H', N σ' H' → ∃ m', m' < m ∧ W m' σ' H') ∧ tb { D with nx := N, ct := N, bk := D.nx } σ H1 else D.nx σ H1
end

/-! ### what a loop or a comprehension walks -/
/-- at turn i: it yields x (the heap may grow), or it stops -/
structure It where
  go : Nat → Hp → Prop
  yld : Nat → Hp → V → Hp → Prop
  stop : Nat → Hp → Prop
/-- the iterator's own objects may turn: they are not the frame's, not pinned, younger than the entry (or a comprehension's own) -/
def FpOk (X : Cx) (pins : List (Addr × Obj)) (H : Hp) (b : Addr) : Prop :=
  H b = none ∧ b ≠ X.env.locals ∧ b ∉ X.fs ∧ (b ∈ X.ex ∨ X.s₀.heap.objs.size ≤ b) ∧ (∀ x c, X.env.cells.lookup x = some c → c ≠ b) ∧ ∀ p ∈ X.pn ++ pins, p.1 ≠ b
theorem Inv.fpOk {X : Cx} {pins : List (Addr × Obj)} {σ : St} {H H' : Hp} {s : Shared} {b : Addr} (I : Inv X pins σ H s) (hb : s.heap.objs.size ≤ b) (hn : H' b = none) : FpOk X pins H' b := by
  refine ⟨hn, Nat.ne_of_gt (Nat.lt_of_lt_of_le I.lt hb), I.nofs hb, .inr (Nat.le_trans I.sz hb), fun x c e z => ?_, fun p hp z => ?_⟩
  · obtain ⟨v, q⟩ := I.cell x c e
    exact absurd (Nat.lt_of_lt_of_le q.lt (by rw [z]; exact hb)) (Nat.lt_irrefl _)
  · exact absurd (Nat.lt_of_lt_of_le (Heap.lt_size (I.pin p hp).1) (by rw [z]; exact hb)) (Nat.lt_irrefl _)
structure Turn (P : Program) (w : World) (K : PySem.W.Frag) (tg : Expr) (J : It) (fp : List Addr) (it : Addr) (tn : Nat → Heap → Prop) : Prop where
  mem : it ∈ fp
  obj : ∀ i h, tn i h → ∀ b ∈ fp, ∃ o, h.get? b = some o ∧ ∀ v, o.data ≠ .cell v
  keep : ∀ i h h', tn i h → (∀ b ∈ fp, ∀ o, h.get? b = some o → h'.get? b = some o) → tn i h'
  item : ∀ (X : Cx), X.prog = P → X.w = w → X.K = K → X.calm = true → ∀ (i : Nat) (pins : List (Addr × Obj)) (s : Shared) (σ : St) (H : Hp) (E : Value → Shared → Prop), Inv X pins σ H s → (∀ b ∈ fp, FpOk X pins H b) → tn i s.heap → J.go i H →
    wpAny (model P w) X.A (pyNext (.ref it)) (fun r s1 => ∃ u, r = some u ∧
      wpAny (model P w) X.A (letOwnedTupleGo tg (.ref it) u) (fun _ s2 => ∃ x H', Inv X pins σ H' s2 ∧ RelV x u ∧ J.yld i H x H' ∧ tn (i + 1) s2.heap ∧ ∀ b ∈ fp, H' b = none) E s1) E s
  done : ∀ (X : Cx), X.prog = P → X.w = w → X.K = K → X.calm = true → ∀ (i : Nat) (pins : List (Addr × Obj)) (s : Shared) (σ : St) (H : Hp) (E : Value → Shared → Prop), Inv X pins σ H s → (∀ b ∈ fp, FpOk X pins H b) → tn i s.heap → J.stop i H →
    wpAny (model P w) X.A (pyNext (.ref it)) (fun r s1 => r = none ∧ Inv X pins σ H s1) E s
  self : ∀ (A : Around) (i : Nat) (s : Shared) (Q : Value → Shared → Prop) (E : Value → Shared → Prop), tn i s.heap → Q (.ref it) s → wpAny (model P w) A (pyIter (.ref it)) Q E s
abbrev TI := St → Hp → (It → Hp → Prop) → Prop
/-- an iterator has come -/
def PIE (X : Cx) (pins : List (Addr × Obj)) (σ : St) (tg : Expr) (R : It → Hp → Prop) (itv : Value) (s2 : Shared) : Prop :=
  ∃ (it : Addr) (fp : List Addr) (tn : Nat → Heap → Prop) (J : It) (H' : Hp), itv = .ref it ∧ Inv X pins σ H' s2 ∧ Turn X.prog X.w X.K tg J fp it tn ∧ tn 0 s2.heap ∧ (∀ b ∈ fp, FpOk X pins H' b) ∧ R J H'
def PI (X : Cx) (tg iter : Expr) (wi : TI) : Prop :=
  ∀ (pins : List (Addr × Obj)) (s : Shared) (σ : St) (H : Hp) (R : It → Hp → Prop), Inv X pins σ H s → wi σ H R →
    wpAny (model X.prog X.w) X.A (eval iter X.env) (fun v s1 => wpAny (model X.prog X.w) X.A (pyIter v) (PIE X pins σ tg R) X.xe s1) X.xe s

/-- the step ahead of the store is nothing for an iterator that keeps no tuple -/
theorem go_of {M : Model} {A : Around} {E : Value → Shared → Prop} {s : Shared} {tg : Expr} {it : Addr} {u : Value} {o : Obj} {n : String} {vs : Array Value} {Q : Unit → Shared → Prop} (ho : s.heap.get? it = some o) (hc : o.cls = .type n) (hd : o.data = .fields vs)
    (hn : ["enumerate", "zip", "dict_itemiterator", "dict_reverseitemiterator", "odict_iterator", "itertools.zip_longest", "itertools.pairwise"].contains n = false) (hQ : Q () s) : wpAny M A (letOwnedTupleGo tg (.ref it) u) Q E s := by
  unfold letOwnedTupleGo
  cases tg <;> first
    | exact wpAny_pure hQ
    | (cases u <;> first
        | exact wpAny_pure hQ
        | (refine wpAny_bind (wpAny_load ho ?_)
           rw [hc, hd]
           show wpAny M A (if (["enumerate", "zip", "dict_itemiterator", "dict_reverseitemiterator", "odict_iterator", "itertools.zip_longest", "itertools.pairwise"].contains n && vs[0]? == some (rawInt _)) = true then _ else _) Q E s
           rw [if_neg (by intro h; rw [hn, Bool.false_and] at h; cases h)]
           exact wpAny_pure hQ))

/-- the list at a, as it stands at each turn (a loop may append to it) -/
def Itl (K : PySem.W.Frag) (a : Addr) : It :=
  ⟨fun i H => ∃ xs x, SqL K H a xs ∧ xs[i]? = some x, fun i H x H' => H' = H ∧ ∀ xs, SqL K H a xs → xs[i]? = some x, fun i H => ∃ xs, SqL K H a xs ∧ xs.length ≤ i⟩
def Itt (K : PySem.W.Frag) (a : Addr) : It :=
  ⟨fun i H => ∃ xs x, SqT K H a xs ∧ xs[i]? = some x, fun i H x H' => H' = H ∧ ∀ xs, SqT K H a xs → xs[i]? = some x, fun i H => ∃ xs, SqT K H a xs ∧ xs.length ≤ i⟩
/-- lo, lo + 1, .. (n of them) -/
def Itr (lo : Int) (n : Nat) : It := ⟨fun i _ => i < n, fun i H x H' => H' = H ∧ x = .int (lo + i), fun i _ => n ≤ i⟩
theorem turn_list {P : Program} {w : World} {K : PySem.W.Frag} {tg : Expr} (a it : Addr) : Turn P w K tg (Itl K a) [it] it (fun i h => h.IsListIter it a i) where
  mem := by simp
  obj := fun i h st b hb => by
    have e : b = it := by simpa using hb
    subst e
    obtain ⟨o, e, c, d⟩ := st
    exact ⟨o, e, fun v z => by rw [d] at z; cases z⟩
  keep := fun i h h' st k => st.at fun o e => k it (by simp) o e
  item := by
    intro X hP hw hK hc i pins s σ H E I hf st hg
    subst hP hw hK
    obtain ⟨xs, x, hq, hx⟩ := hg
    obtain ⟨its, rv, p, hz⟩ := I.list hq
    obtain ⟨u, hu, ru⟩ := rv.get hx
    obtain ⟨f0, f1, f2, f3, f4, f5⟩ := hf it (by simp)
    refine wpAny_pyNext_list_item st p.isList (x := u) (by simpa using hu) fun h' st' sb => ?_
    have I1 : Inv X pins σ H { s with heap := h' } := I.turned (t' := s.toks) (fun b o hb e => (sb.2 b hb).trans e) f0 f1 f3 f4 f5
    obtain ⟨o, e, c, d⟩ := id st'
    exact ⟨u, rfl, go_of (s := { s with heap := h' }) e c d (by decide) ⟨x, H, I1, ru, ⟨rfl, fun ys hy => by rw [I.list_inj hy hq]; exact hx⟩, st', fun b hb => (hf b hb).1⟩⟩
  done := by
    intro X hP hw hK hc i pins s σ H E I hf st hg
    subst hP hw hK
    obtain ⟨xs, hq, hx⟩ := hg
    obtain ⟨its, rv, p, hz⟩ := I.list hq
    obtain ⟨f0, f1, f2, f3, f4, f5⟩ := hf it (by simp)
    have hl := rv.length
    exact wpAny_pyNext_list_end (I.ok.hd hc) st p.isList (by simp; omega) fun h' eb => ⟨rfl, I.turned (t' := s.toks) (fun b o hb e => eb b o hb e) f0 f1 f3 f4 f5⟩
  self := fun _ _ _ _ _ st h => wpAny_pyIter_listiter st h
theorem turn_tuple {P : Program} {w : World} {K : PySem.W.Frag} {tg : Expr} (a it : Addr) : Turn P w K tg (Itt K a) [it] it (fun i h => h.IsTupleIter it a i) where
  mem := by simp
  obj := fun i h st b hb => by
    have e : b = it := by simpa using hb
    subst e
    obtain ⟨o, e, c, d⟩ := st
    exact ⟨o, e, fun v z => by rw [d] at z; cases z⟩
  keep := fun i h h' st k => st.at fun o e => k it (by simp) o e
  item := by
    intro X hP hw hK hc i pins s σ H E I hf st hg
    subst hP hw hK
    obtain ⟨xs, x, hq, hx⟩ := hg
    obtain ⟨its, rv, p, hz⟩ := I.tuple hq
    obtain ⟨u, hu, ru⟩ := rv.get hx
    obtain ⟨f0, f1, f2, f3, f4, f5⟩ := hf it (by simp)
    refine wpAny_pyNext_tuple_item st (show s.heap.IsTuple a its.toArray from p) (x := u) (by simpa using hu) fun h' st' sb => ?_
    have I1 : Inv X pins σ H { s with heap := h' } := I.turned (t' := s.toks) (fun b o hb e => (sb.2 b hb).trans e) f0 f1 f3 f4 f5
    obtain ⟨o, e, c, d⟩ := id st'
    exact ⟨u, rfl, go_of (s := { s with heap := h' }) e c d (by decide) ⟨x, H, I1, ru, ⟨rfl, fun ys hy => by rw [I.tuple_inj hy hq]; exact hx⟩, st', fun b hb => (hf b hb).1⟩⟩
  done := by
    intro X hP hw hK hc i pins s σ H E I hf st hg
    subst hP hw hK
    obtain ⟨xs, hq, hx⟩ := hg
    obtain ⟨its, rv, p, hz⟩ := I.tuple hq
    obtain ⟨f0, f1, f2, f3, f4, f5⟩ := hf it (by simp)
    have hl := rv.length
    exact wpAny_pyNext_tuple_end (I.ok.hd hc) st (show s.heap.IsTuple a its.toArray from p) (by simp; omega) fun h' eb => ⟨rfl, I.turned (t' := s.toks) (fun b o hb e => eb b o hb e) f0 f1 f3 f4 f5⟩
  self := fun _ _ _ _ _ st h => wpAny_pyIter_tupleiter st h
theorem turn_range {P : Program} {w : World} {K : PySem.W.Frag} {tg : Expr} (it : Addr) (lo : Int) (n : Nat) : Turn P w K tg (Itr lo n) [it] it (fun i h => IsRangeIter h it (lo + (i : Nat) * 1) ((n : Int) - (i : Nat)) 1) where
  mem := by simp
  obj := fun i h st b hb => by
    have e : b = it := by simpa using hb
    subst e
    exact ⟨_, st, fun v z => by
      have z' : Data.fields _ = Data.cell v := z
      cases z'⟩
  keep := fun i h h' st k => k it (by simp) _ st
  item := by
    intro X hP hw hK hc i pins s σ H E I hf st hg
    subst hP hw hK
    obtain ⟨f0, f1, f2, f3, f4, f5⟩ := hf it (by simp)
    have W := Walks.range (prog := X.prog) (w := X.w) (I.ok.hd hc) it lo 1 n
    refine W.item i s _ _ hg st fun v h' tk hv st' kk => ?_
    obtain ⟨t, rfl⟩ := hv
    have I1 : Inv X pins σ H { s with heap := h', toks := tk } := I.turned (fun b o hb e => kk b o (by simpa using hb) e) f0 f1 f3 f4 f5
    refine ⟨_, rfl, go_of (s := { s with heap := h', toks := tk }) (n := "range_iterator") st' rfl rfl (by decide) ⟨.int (lo + i), H, I1, ⟨t, ?_⟩, ⟨rfl, rfl⟩, st', fun b hb => (hf b hb).1⟩⟩
    rw [Int.mul_one]
  done := by
    intro X hP hw hK hc i pins s σ H E I hf st hg
    subst hP hw hK
    obtain ⟨f0, f1, f2, f3, f4, f5⟩ := hf it (by simp)
    exact wpAny_pyNext_range_end (I.ok.hd hc) st (by have : n ≤ i := hg; omega) fun h' eb => ⟨rfl, I.turned (t' := s.toks) (fun b o hb e => eb b o hb e) f0 f1 f3 f4 f5⟩
  self := fun _ _ _ _ _ st h => wpAny_pyIter_rangeiter st h
end L2

namespace L2
open PySem PySem.Spec PyProof.Rows
section
variable {X : Cx} {tg : Expr}
def iList (K : PySem.W.Frag) (tl : TE) : TI := fun σ H R => tl σ H fun x H1 => ∃ a, x = .ref a ∧ (∃ xs, SqL K H1 a xs) ∧ R (Itl K a) H1
def iTup (K : PySem.W.Frag) (tl : TE) : TI := fun σ H R => tl σ H fun x H1 => ∃ a, x = .ref a ∧ (∃ xs, SqT K H1 a xs) ∧ R (Itt K a) H1
theorem pi_list {l : Expr} {tl : TE} (hl : PE X l tl) : PI X tg l (iList X.K tl) := by
  intro pins s σ H R I h
  refine thn (hl pins s σ H _ I h) fun v s1 ⟨x, H1, I1, r1, q1⟩ => ?_
  obtain ⟨a, e, ⟨xs, hq⟩, q⟩ := q1
  subst e
  cases r1
  obtain ⟨its, rv, p, hz⟩ := I1.list hq
  refine wpAny_pyIter_list p.isList ?_
  refine ⟨s1.heap.objs.size, [s1.heap.objs.size], _, _, H1, rfl, I1.kept (t' := s1.toks) fun b o e => Heap.get?_push_of_some _ e, turn_list a _, ⟨_, Heap.get?_push_size _ rfl, rfl, rfl⟩, fun b hb => ?_, q⟩
  have e : b = s1.heap.objs.size := by simpa using hb
  subst e
  exact I1.fpOk (Nat.le_refl _) (I1.hok.fresh (Nat.le_refl _))
theorem pi_tup {l : Expr} {tl : TE} (hl : PE X l tl) : PI X tg l (iTup X.K tl) := by
  intro pins s σ H R I h
  refine thn (hl pins s σ H _ I h) fun v s1 ⟨x, H1, I1, r1, q1⟩ => ?_
  obtain ⟨a, e, ⟨xs, hq⟩, q⟩ := q1
  subst e
  cases r1
  obtain ⟨its, rv, p, hz⟩ := I1.tuple hq
  refine wpAny_pyIter_tuple (show s1.heap.IsTuple a its.toArray from p) ?_
  refine ⟨s1.heap.objs.size, [s1.heap.objs.size], _, _, H1, rfl, I1.kept (t' := s1.toks) fun b o e => Heap.get?_push_of_some _ e, turn_tuple a _, ⟨_, Heap.get?_push_size _ rfl, rfl, rfl⟩, fun b hb => ?_, q⟩
  have e : b = s1.heap.objs.size := by simpa using hb
  subst e
  exact I1.fpOk (Nat.le_refl _) (I1.hok.fresh (Nat.le_refl _))
/-- a range object just made, walked -/
theorem range_it {pins : List (Addr × Obj)} {σ : St} {H : Hp} {s : Shared} {R : It → Hp → Prop} {E : Value → Shared → Prop} {lo hi : Int} {t u v : Tok} {tk : Nat} (I : Inv X pins σ H s) (h1 : -(2 ^ 62) ≤ lo) (h2 : lo < 2 ^ 62) (h3 : -(2 ^ 62) ≤ hi) (h4 : hi < 2 ^ 62)
    (q : R (Itr lo (hi - lo).toNat) H) : wpAny (model X.prog X.w) X.A (pyIter (.ref s.heap.objs.size)) (PIE X pins σ tg R) E { s with heap := s.heap.push { cls := .type "range", data := .fields #[.int lo t, .int hi u, .int 1 v] }, toks := tk } := by
  refine wpAny_pyIter_range (IsRange.new ..) (small_one h1 h2 h3 h4) ?_
  have I1 : Inv X pins σ H { s with heap := s.heap.push { cls := .type "range", data := .fields #[.int lo t, .int hi u, .int 1 v] }, toks := tk } := I.kept fun b o e => Heap.get?_push_of_some _ e
  refine ⟨(s.heap.push { cls := .type "range", data := .fields #[.int lo t, .int hi u, .int 1 v] }).objs.size, [(s.heap.push { cls := .type "range", data := .fields #[.int lo t, .int hi u, .int 1 v] }).objs.size], _, _, H, rfl,
    I1.kept (t' := tk) fun b o e => Heap.get?_push_of_some _ e, turn_range _ lo (hi - lo).toNat, ?_, fun b hb => ?_, q⟩
  · have e1 : lo + ((0 : Nat) : Int) * 1 = lo := by simp
    have e2 : (((hi - lo).toNat : Nat) : Int) - ((0 : Nat) : Int) = Builtin.Range.rangeSize lo hi 1 := by rw [rangeSize_one]; split <;> omega
    show IsRangeIter _ _ (lo + ((0 : Nat) : Int) * 1) ((((hi - lo).toNat : Nat) : Int) - ((0 : Nat) : Int)) 1
    rw [e1, e2]
    exact Heap.get?_push_size _ rfl
  · have e : b = (s.heap.push { cls := .type "range", data := .fields #[.int lo t, .int hi u, .int 1 v] }).objs.size := by simpa using hb
    subst e
    exact I1.fpOk (Nat.le_refl _) (I1.hok.fresh (Nat.le_refl _))
def iRng1 (ta : TA) : TI := fun σ H R => ta σ H fun vs H1 => ∃ j : Int, vs = [.int j] ∧ -(2 ^ 62) ≤ j ∧ j < 2 ^ 62 ∧ R (Itr 0 j.toNat) H1
def iRng2 (ta : TA) : TI := fun σ H R => ta σ H fun vs H1 => ∃ i j : Int, vs = [.int i, .int j] ∧ (-(2 ^ 62) ≤ i ∧ i < 2 ^ 62 ∧ -(2 ^ 62) ≤ j ∧ j < 2 ^ 62) ∧ R (Itr i (j - i).toNat) H1
theorem pi_range1 {a : Expr} {ta : TA} {p pos : Pos} (hg : Gl X "range") (hm : X.mg "range" = none) (ha : PA X [a] ta) (hs : starEach [a] X.env = [(false, eval a X.env)] := by rfl) : PI X tg (.Call (.Name "range" p) [a] [] pos) (iRng1 ta) := by
  intro pins s σ H R I h
  refine Call_ (ld_blt I hg hm boot_range (PyProof.Rows.callWith_type1 (thn (ha pos pins s σ H _ I h) fun us s1 ⟨vs, H1, I1, r1, q1⟩ => ?_) hs rfl))
  obtain ⟨j, e, q1, q2, q⟩ := q1
  subst e
  cases r1 with
  | cons r rr =>
    cases rr
    obtain ⟨t, rfl⟩ := r
    exact call_range_1 (range_it I1 (by omega) (by omega) q1 q2 (by simpa using q))
theorem pi_range2 {a b : Expr} {ta : TA} {p pos : Pos} (hg : Gl X "range") (hm : X.mg "range" = none) (ha : PA X [a, b] ta) (hs : starEach [a, b] X.env = [(false, eval a X.env), (false, eval b X.env)] := by rfl) (hs2 : starEach [b] X.env = [(false, eval b X.env)] := by rfl) :
    PI X tg (.Call (.Name "range" p) [a, b] [] pos) (iRng2 ta) := by
  intro pins s σ H R I h
  refine Call_ (ld_blt I hg hm boot_range (PyProof.Rows.callWith_type1 (thn (ha pos pins s σ H _ I h) fun us s1 ⟨vs, H1, I1, r1, q1⟩ => ?_) (by rw [hs, hs2]) (by rw [hs2]; rfl)))
  obtain ⟨i, j, e, ⟨q1, q2, q3, q4⟩, q⟩ := q1
  subst e
  cases r1 with
  | cons r rr =>
    cases rr with
    | cons r' rr =>
      cases rr
      obtain ⟨t, rfl⟩ := r
      obtain ⟨t', rfl⟩ := r'
      exact call_range_2 (range_it I1 q1 q2 q3 q4 q)

/-! ### for -/
/-- W: the invariant by the turn and a measure; N: what the body is to reach -/
def tFor (wi : TI) (g : TG) (tb : TS) : TS := fun D σ H => wi σ H fun J H1 => ∃ W : Nat → Nat → St → Hp → Prop, (∃ m, W 0 m σ H1) ∧ ∀ i m σ H, W i m σ H →
  (J.stop i H ∧ D.nx σ H) ∨ (J.go i H ∧ ∃ N : St → Hp → Prop, (∀ σ' H', N σ' H' → ∃ m', m' < m ∧ W (i + 1) m' σ' H') ∧ ∀ x H', J.yld i H x H' → g x σ H' fun σ2 H2 => tb { D with nx := N, ct := N, bk := D.nx } σ2 H2)
/-- the records at fp as they stand -/
def pinsAt (fp : List Addr) (h : Heap) : List (Addr × Obj) := fp.filterMap fun b => (h.get? b).map fun o => (b, o)
theorem mem_pinsAt {fp : List Addr} {h : Heap} {b : Addr} {o : Obj} (hb : b ∈ fp) (e : h.get? b = some o) : (b, o) ∈ pinsAt fp h := List.mem_filterMap.mpr ⟨b, hb, by rw [e]; rfl⟩
theorem of_pinsAt {fp : List Addr} {h : Heap} {p : Addr × Obj} (hp : p ∈ pinsAt fp h) : p.1 ∈ fp ∧ h.get? p.1 = some p.2 := by
  obtain ⟨b, hb, e⟩ := List.mem_filterMap.mp hp
  cases q : h.get? b with
  | none => rw [q] at e; cases e
  | some o =>
    rw [q] at e
    have e' : (b, o) = p := Option.some.inj e
    subst e'
    exact ⟨hb, q⟩
theorem Inv.pinned {pins : List (Addr × Obj)} {σ : St} {H : Hp} {s : Shared} {fp : List Addr} (I : Inv X pins σ H s) (hf : ∀ b ∈ fp, FpOk X pins H b) (ho : ∀ b ∈ fp, ∃ o, s.heap.get? b = some o ∧ ∀ v, o.data ≠ .cell v) : Inv X (pins ++ pinsAt fp s.heap) σ H s :=
  I.pins_of fun p hp => (List.mem_append.mp hp).elim (fun z => I.pin p (List.mem_append_right _ z)) fun z => by
    obtain ⟨hb, e⟩ := of_pinsAt z
    obtain ⟨f0, f1, f2, _⟩ := hf p.1 hb
    obtain ⟨o, e', d⟩ := ho p.1 hb
    rw [e] at e'; cases e'
    exact ⟨e, f0, f1, f2, d⟩
theorem Inv.unpinned {pins pl : List (Addr × Obj)} {σ : St} {H : Hp} {s : Shared} (I : Inv X (pins ++ pl) σ H s) : Inv X pins σ H s := I.pins_of fun p hp => I.pin p (List.mem_append_right _ (List.mem_append_left _ hp))
theorem ps_for {iter : Expr} {body : List Stmt} {wi : TI} {g : TG} {tb : TS} {pos : Pos} (hp : PassesOwn (model X.prog X.w) X.A X.env X.xe) (hc : X.calm = true) (hi : PI X tg iter wi) (hg : PG X tg g) (hb : PSs X body tb)
    (hs : ∀ x, foldedSetIterable iter X.env x = pure x := by intro _; rfl) : PS X (.For tg iter body [] pos) (tFor wi g tb) := by
  intro pins s σ H D I h
  refine wpAny_For (thn (hi pins s σ H _ I h) fun v s1 h1 => thn h1 fun itv s2 h2 => ?_) hs
  obtain ⟨it, fp, tn, J, H2, e, I2, T, st2, f2, W, ⟨m0, w0⟩, turn⟩ := h2
  subst e
  -- what stays true of the iterator's objects through the loop
  have stat : ∀ {H' : Hp}, (∀ b ∈ fp, H' b = none) → ∀ b ∈ fp, FpOk X pins H' b := fun hn b hb => ⟨hn b hb, (f2 b hb).2⟩
  refine codeAny_forLoop_any (fun n s' => ∃ i σ' H', Inv X pins σ' H' s' ∧ tn i s'.heap ∧ (∀ b ∈ fp, H' b = none) ∧ W i n σ' H') ?_ m0 ⟨0, σ, H2, I2, st2, fun b hb => (f2 b hb).1, w0⟩
  rintro n s3 ⟨i, σ3, H3, I3, st3, fr3, w3⟩
  rcases turn i n σ3 H3 w3 with ⟨stop, qn⟩ | ⟨go, N, hN, step⟩
  · refine wpAny_passesOwn hp (thn (T.done X rfl rfl rfl hc i pins s3 σ3 H3 X.xe I3 (stat fr3) st3 stop) fun r s4 ⟨hr, I4⟩ => ?_)
    subst hr
    exact wpAny_execs_nil ⟨σ3, H3, I4, qn⟩
  · refine wpAny_passesOwn hp (thn (T.item X rfl rfl rfl hc i pins s3 σ3 H3 X.xe I3 (stat fr3) st3 go) fun r s4 ⟨u, hr, h4⟩ => ?_)
    subst hr
    refine wpAny_passesOwn hp (thn h4 fun _ s5 ⟨x, H5, I5, r5, y5, st5, fr5⟩ => ?_)
    have I5' := I5.pinned (stat fr5) (T.obj _ _ st5)
    refine wpAny_passesOwn hp (thn (hg _ s5 σ3 H5 x u _ I5' r5 (step x H5 y5)) fun _ s6 ⟨σ6, H6, I6, q6⟩ => ?_)
    refine wpAny_passesOwn hp (thn (hb _ s6 σ6 H6 _ I6 q6) fun f s7 q7 => ?_)
    have again : ∀ {σ7 : St} {H7 : Hp}, Inv X (pins ++ pinsAt fp s5.heap) σ7 H7 s7 → N σ7 H7 → ∃ m, m < n ∧ ∃ i σ' H', Inv X pins σ' H' s7 ∧ tn i s7.heap ∧ (∀ b ∈ fp, H' b = none) ∧ W i m σ' H' := fun {σ7 H7} I7 n7 => by
      obtain ⟨m', hm, w7⟩ := hN σ7 H7 n7
      refine ⟨m', hm, i + 1, σ7, H7, I7.unpinned, T.keep _ _ _ st5 fun b hb o e => (I7.pin (b, o) (List.mem_append_right _ (List.mem_append_right _ (mem_pinsAt hb e)))).1, fun b hb => ?_, w7⟩
      obtain ⟨o, e, d⟩ := T.obj _ _ st5 b hb
      exact (I7.pin (b, o) (List.mem_append_right _ (List.mem_append_right _ (mem_pinsAt hb e)))).2.1
    cases f with
    | next => obtain ⟨σ7, H7, I7, n7⟩ := q7; exact again I7 n7
    | cont => obtain ⟨σ7, H7, I7, n7⟩ := q7; exact again I7 n7
    | brk => obtain ⟨σ7, H7, I7, q7⟩ := q7; exact ⟨σ7, H7, I7.unpinned, q7⟩
    | ret v => obtain ⟨x7, σ7, H7, I7, r7, q7⟩ := q7; exact ⟨x7, σ7, H7, I7.unpinned, r7, q7⟩
end

/-! ### the forms one uses -/
/-- over a list that the body leaves as it is -/
theorem for_list {K : PySem.W.Frag} {a : Addr} {xs : List V} {g : TG} {tb : TS} {D : Ends} {σ : St} {H : Hp} (Pv : Nat → St → Hp → Prop) (h0 : Pv 0 σ H) (hl : ∀ i σ H, i ≤ xs.length → Pv i σ H → SqL K H a xs)
    (hs : ∀ i x σ H, xs[i]? = some x → Pv i σ H → g x σ H fun σ2 H2 => tb { D with nx := Pv (i + 1), ct := Pv (i + 1), bk := D.nx } σ2 H2) (hd : ∀ σ H, Pv xs.length σ H → D.nx σ H) :
    ∃ W : Nat → Nat → St → Hp → Prop, (∃ m, W 0 m σ H) ∧ ∀ i m σ H, W i m σ H →
      ((Itl K a).stop i H ∧ D.nx σ H) ∨ ((Itl K a).go i H ∧ ∃ N : St → Hp → Prop, (∀ σ' H', N σ' H' → ∃ m', m' < m ∧ W (i + 1) m' σ' H') ∧ ∀ x H', (Itl K a).yld i H x H' → g x σ H' fun σ2 H2 => tb { D with nx := N, ct := N, bk := D.nx } σ2 H2) := by
  refine ⟨fun i m σ H => m = xs.length - i ∧ i ≤ xs.length ∧ Pv i σ H, ⟨xs.length, by simp, Nat.zero_le _, h0⟩, ?_⟩
  rintro i m σ H ⟨rfl, hi, p⟩
  have q := hl i σ H hi p
  by_cases hlt : i < xs.length
  · refine .inr ⟨⟨xs, xs[i], q, by simp [hlt]⟩, Pv (i + 1), fun σ' H' p' => ⟨xs.length - (i + 1), by omega, rfl, hlt, p'⟩, fun x H' y => ?_⟩
    obtain ⟨e, y⟩ := y
    subst e
    exact hs i x σ _ (y xs q) p
  · have e : i = xs.length := by omega
    subst e
    exact .inl ⟨⟨xs, q, Nat.le_refl _⟩, hd σ H p⟩
theorem for_tup {K : PySem.W.Frag} {a : Addr} {xs : List V} {g : TG} {tb : TS} {D : Ends} {σ : St} {H : Hp} (Pv : Nat → St → Hp → Prop) (h0 : Pv 0 σ H) (hl : ∀ i σ H, i ≤ xs.length → Pv i σ H → SqT K H a xs)
    (hs : ∀ i x σ H, xs[i]? = some x → Pv i σ H → g x σ H fun σ2 H2 => tb { D with nx := Pv (i + 1), ct := Pv (i + 1), bk := D.nx } σ2 H2) (hd : ∀ σ H, Pv xs.length σ H → D.nx σ H) :
    ∃ W : Nat → Nat → St → Hp → Prop, (∃ m, W 0 m σ H) ∧ ∀ i m σ H, W i m σ H →
      ((Itt K a).stop i H ∧ D.nx σ H) ∨ ((Itt K a).go i H ∧ ∃ N : St → Hp → Prop, (∀ σ' H', N σ' H' → ∃ m', m' < m ∧ W (i + 1) m' σ' H') ∧ ∀ x H', (Itt K a).yld i H x H' → g x σ H' fun σ2 H2 => tb { D with nx := N, ct := N, bk := D.nx } σ2 H2) := by
  refine ⟨fun i m σ H => m = xs.length - i ∧ i ≤ xs.length ∧ Pv i σ H, ⟨xs.length, by simp, Nat.zero_le _, h0⟩, ?_⟩
  rintro i m σ H ⟨rfl, hi, p⟩
  have q := hl i σ H hi p
  by_cases hlt : i < xs.length
  · refine .inr ⟨⟨xs, xs[i], q, by simp [hlt]⟩, Pv (i + 1), fun σ' H' p' => ⟨xs.length - (i + 1), by omega, rfl, hlt, p'⟩, fun x H' y => ?_⟩
    obtain ⟨e, y⟩ := y
    subst e
    exact hs i x σ _ (y xs q) p
  · have e : i = xs.length := by omega
    subst e
    exact .inl ⟨⟨xs, q, Nat.le_refl _⟩, hd σ H p⟩
theorem for_range {lo : Int} {n : Nat} {g : TG} {tb : TS} {D : Ends} {σ : St} {H : Hp} (Pv : Nat → St → Hp → Prop) (h0 : Pv 0 σ H)
    (hs : ∀ i σ H, i < n → Pv i σ H → g (.int (lo + i)) σ H fun σ2 H2 => tb { D with nx := Pv (i + 1), ct := Pv (i + 1), bk := D.nx } σ2 H2) (hd : ∀ σ H, Pv n σ H → D.nx σ H) :
    ∃ W : Nat → Nat → St → Hp → Prop, (∃ m, W 0 m σ H) ∧ ∀ i m σ H, W i m σ H →
      ((Itr lo n).stop i H ∧ D.nx σ H) ∨ ((Itr lo n).go i H ∧ ∃ N : St → Hp → Prop, (∀ σ' H', N σ' H' → ∃ m', m' < m ∧ W (i + 1) m' σ' H') ∧ ∀ x H', (Itr lo n).yld i H x H' → g x σ H' fun σ2 H2 => tb { D with nx := N, ct := N, bk := D.nx } σ2 H2) := by
  refine ⟨fun i m σ H => m = n - i ∧ i ≤ n ∧ Pv i σ H, ⟨n, by simp, Nat.zero_le _, h0⟩, ?_⟩
  rintro i m σ H ⟨rfl, hi, p⟩
  by_cases hlt : i < n
  · refine .inr ⟨hlt, Pv (i + 1), fun σ' H' p' => ⟨n - (i + 1), by omega, rfl, hlt, p'⟩, fun x H' y => ?_⟩
    obtain ⟨e, y⟩ := y
    subst e y
    exact hs i σ _ hlt p
  · have e : i = n := by omega
    subst e
    exact .inl ⟨Nat.le_refl _, hd σ H p⟩
end L2

namespace L2
open PySem PySem.Spec PyProof.Rows

abbrev R2 := V → V → Hp → VK → Prop
/-- a two-place operation on values: f is binaryOp op, inplaceOp op or compareOp op -/
def OpR (X : Cx) (f : Value → Value → Sem Value) (r : R2) : Prop :=
  ∀ (pins : List (Addr × Obj)) (s : Shared) (σ : St) (H : Hp) (x y : V) (v u : Value) (Q : VK), Inv X pins σ H s → RelV x v → RelV y u → r x y H Q →
    wpAny (model X.prog X.w) X.A (f v u) (EP X pins σ Q) X.xe s
/-- a one-place operation -/
def UnR (X : Cx) (f : Value → Sem Value) (r : V → Hp → VK → Prop) : Prop :=
  ∀ (pins : List (Addr × Obj)) (s : Shared) (σ : St) (H : Hp) (x : V) (v : Value) (Q : VK), Inv X pins σ H s → RelV x v → r x H Q →
    wpAny (model X.prog X.w) X.A (f v) (EP X pins σ Q) X.xe s
/-- a call of a value that is known (a builtin, a type) with values -/
def CallR (X : Cx) (f : Value) (r : List V → Hp → VK → Prop) : Prop :=
  ∀ (pins : List (Addr × Obj)) (s : Shared) (σ : St) (H : Hp) (xs : List V) (us : List Value) (Q : VK), Inv X pins σ H s → Vals xs us → r xs H Q →
    wpAny (model X.prog X.w) X.A (call f us) (EP X pins σ Q) X.xe s
/-- a value's truth -/
def TruR (X : Cx) (r : V → Hp → (Bool → Hp → Prop) → Prop) : Prop :=
  ∀ (pins : List (Addr × Obj)) (s : Shared) (σ : St) (H : Hp) (x : V) (v : Value) (Q : Bool → Hp → Prop), Inv X pins σ H s → RelV x v → r x H Q →
    wpAny (model X.prog X.w) X.A (truthy v) (TP X pins σ Q) X.xe s

def tOp (r : R2) (ta tb : TE) : TE := fun σ H Q => ta σ H fun x H1 => tb σ H1 fun y H2 => r x y H2 Q
def tUn (r : V → Hp → VK → Prop) (ta : TE) : TE := fun σ H Q => ta σ H fun x H1 => r x H1 Q
/-- ints in, under C, and a value out -/
def rI (C : Int → Int → Prop) (g : Int → Int → V) : R2 := fun x y H Q => ∃ i j, x = .int i ∧ y = .int j ∧ C i j ∧ Q (g i j) H
def rI0 (g : Int → Int → V) : R2 := fun x y H Q => ∃ i j, x = .int i ∧ y = .int j ∧ Q (g i j) H
def rU (g : Int → V) : V → Hp → VK → Prop := fun x H Q => ∃ i, x = .int i ∧ Q (g i) H

section
variable {X : Cx} {a b c : Expr} {ta tb tc : TE} {pos : Pos}

theorem binT (ha : PE X a ta) (hb : PE X b tb) {pins : List (Addr × Obj)} {s : Shared} {σ : St} {H : Hp} {R : V → V → Hp → Prop} (I : Inv X pins σ H s)
    (h : ta σ H fun x H1 => tb σ H1 fun y H2 => R x y H2) {Q : Value → Shared → Prop} {f : Value → Value → Sem Value}
    (hf : ∀ v u s2 x y H2, Inv X pins σ H2 s2 → RelV x v → RelV y u → R x y H2 → wpAny (model X.prog X.w) X.A (f v u) Q X.xe s2) :
    wpAny (model X.prog X.w) X.A (eval a X.env) (fun v s₁ => wpAny (model X.prog X.w) X.A (eval b X.env) (fun u s₂ => wpAny (model X.prog X.w) X.A (f v u) Q X.xe s₂) X.xe s₁) X.xe s := by
  refine thn (ha pins s σ H _ I h) fun v s1 ⟨x, H1, I1, r1, q1⟩ => ?_
  refine thn (hb pins s1 σ H1 _ I1 q1) fun u s2 ⟨y, H2, I2, r2, q2⟩ => ?_
  exact hf v u s2 x y H2 I2 r1 r2 q2

theorem pe_op {op : Operator} {r : R2} (ho : OpR X (binaryOp op) r) (ha : PE X a ta) (hb : PE X b tb) : PE X (.BinOp a op b pos) (tOp r ta tb) := by
  intro pins s σ H Q I h
  exact wpAny_BinOp (binT ha hb I h fun v u s2 x y H2 I2 rx ry q => ho pins s2 σ H2 x y v u Q I2 rx ry q)
theorem pe_un {op : UnaryOp} {r : V → Hp → VK → Prop} (ho : UnR X (unaryOp op) r) (ha : PE X a ta) : PE X (.UnaryOp op a pos) (tUn r ta) := by
  intro pins s σ H Q I h
  exact UnaryOp_ (thn (ha pins s σ H _ I h) fun v s1 ⟨x, H1, I1, r1, q1⟩ => ho pins s1 σ H1 x v Q I1 r1 q1)
/-! ### ints -/
theorem opI {f : Value → Value → Sem Value} {C : Int → Int → Prop} {g : Int → Int → Int}
    (rule : ∀ (i j : Int) (t u : Tok) (s : Shared) (Q : Value → Shared → Prop) (E : Value → Shared → Prop), C i j → Q (.int (g i j) s.toks) { s with toks := s.toks + 1 } → wpAny (model X.prog X.w) X.A (f (.int i t) (.int j u)) Q E s) :
    OpR X f (rI C fun i j => .int (g i j)) := by
  intro pins s σ H x y v u Q I rx ry h
  obtain ⟨i, j, rfl, rfl, hc, q⟩ := h
  obtain ⟨t, rfl⟩ := rx
  obtain ⟨t', rfl⟩ := ry
  exact rule i j t t' s _ _ hc ⟨.int (g i j), H, I.tok _, ⟨_, rfl⟩, q⟩
theorem opI0 {f : Value → Value → Sem Value} {g : Int → Int → Int}
    (rule : ∀ (i j : Int) (t u : Tok) (s : Shared) (Q : Value → Shared → Prop) (E : Value → Shared → Prop), Q (.int (g i j) s.toks) { s with toks := s.toks + 1 } → wpAny (model X.prog X.w) X.A (f (.int i t) (.int j u)) Q E s) :
    OpR X f (rI0 fun i j => .int (g i j)) := by
  intro pins s σ H x y v u Q I rx ry h
  obtain ⟨i, j, rfl, rfl, q⟩ := h
  obtain ⟨t, rfl⟩ := rx
  obtain ⟨t', rfl⟩ := ry
  exact rule i j t t' s _ _ ⟨.int (g i j), H, I.tok _, ⟨_, rfl⟩, q⟩
theorem opB0 {f : Value → Value → Sem Value} {g : Int → Int → Bool}
    (rule : ∀ (i j : Int) (t u : Tok) (s : Shared) (Q : Value → Shared → Prop) (E : Value → Shared → Prop), Q (.bool (g i j)) s → wpAny (model X.prog X.w) X.A (f (.int i t) (.int j u)) Q E s) :
    OpR X f (rI0 fun i j => .bl (g i j)) := by
  intro pins s σ H x y v u Q I rx ry h
  obtain ⟨i, j, rfl, rfl, q⟩ := h
  obtain ⟨t, rfl⟩ := rx
  obtain ⟨t', rfl⟩ := ry
  exact rule i j t t' s _ _ ⟨.bl (g i j), H, I, rfl, q⟩

def CDiv (i j : Int) : Prop := 0 < j ∧ j < 1073741824
def CDivN (i j : Int) : Prop := j ≠ 0 ∧ j.natAbs < 1073741824
def CPow (i j : Int) : Prop := 0 ≤ j ∧ j ≤ 1000000 ∧ i.natAbs < 2 ^ 64
def CMul (i j : Int) : Prop := (-(2 ^ 64) < i ∧ i < 2 ^ 64) ∨ (-(2 ^ 64) < j ∧ j < 2 ^ 64)
theorem CMul.ok {i j : Int} (h : CMul i j) : IntMulOk i j := by
  rcases h with ⟨h1, h2⟩ | ⟨h1, h2⟩
  · exact .of_left (intBits_le_64 h1 h2)
  · exact .of_right (intBits_le_64 h1 h2)
theorem op_add : OpR X (binaryOp .Add) (rI0 fun i j => .int (i + j)) := opI0 fun _ _ _ _ _ _ _ q => add_int q
theorem op_sub : OpR X (binaryOp .Sub) (rI0 fun i j => .int (i - j)) := opI0 fun _ _ _ _ _ _ _ q => sub_int q
theorem op_mul : OpR X (binaryOp .Mult) (rI CMul fun i j => .int (i * j)) := opI fun _ _ _ _ _ _ _ hc q => mul_int q hc.ok
/-- // by a positive divisor -/
theorem op_fdiv : OpR X (binaryOp .FloorDiv) (rI CDiv fun i j => .int (i / j)) := opI fun i j _ _ _ _ _ hc q => by
  have h1 : (0 : Int) < j := hc.1
  have h2 : j < 1073741824 := hc.2
  exact floordiv_int (by omega) (by rw [Int.fdiv_eq_ediv_of_nonneg i (by omega)]; exact q) (.inl (PyProof.noPylong_small (by omega)))
/-- % by a positive divisor of any size -/
theorem op_mod : OpR X (binaryOp .Mod) (rI (fun _ j => 0 < j) fun i j => .int (i % j)) := opI fun i j _ _ _ _ _ hc q => by
  have h1 : (0 : Int) < j := hc
  exact mod_int' (by omega) (by rw [Int.fmod_eq_emod_of_nonneg i (by omega)]; exact q)
theorem op_pow : OpR X (binaryOp .Pow) (rI CPow fun i j => .int (i ^ j.toNat)) := opI fun _ _ _ _ _ _ _ hc q => pow_int_small hc.1 hc.2.1 hc.2.2 q
theorem unI {f : Value → Sem Value} {g : Int → Int}
    (rule : ∀ (i : Int) (t : Tok) (s : Shared) (Q : Value → Shared → Prop) (E : Value → Shared → Prop), Q (.int (g i) s.toks) { s with toks := s.toks + 1 } → wpAny (model X.prog X.w) X.A (f (.int i t)) Q E s) :
    UnR X f (rU fun i => .int (g i)) := by
  intro pins s σ H x v Q I rx h
  obtain ⟨i, rfl, q⟩ := h
  obtain ⟨t, rfl⟩ := rx
  exact rule i t s _ _ ⟨.int (g i), H, I.tok _, ⟨_, rfl⟩, q⟩
theorem un_neg : UnR X (unaryOp .USub) (rU fun i => .int (-i)) := unI fun _ _ _ _ _ q => neg_int q
/-! ### bools among ints: n += (a < b) -/
end

/-! ### comparisons -/
/-- the scalars that == tells apart as data does -/
def scal : V → V → Bool
  | .non, .non => true | .non, .int _ => true | .int _, .non => true | .non, .bl _ => true | .bl _, .non => true | .non, .str _ => true | .str _, .non => true
  | .int _, .int _ => true | .bl _, .bl _ => true | .str _, .str _ => true | .byt _, .byt _ => true
  | .int _, .str _ => true | .str _, .int _ => true | .bl _, .str _ => true | .str _, .bl _ => true
  | _, _ => false
def rEq : R2 := fun x y H Q => scal x y = true ∧ Q (.bl (decide (x = y))) H
def rNe : R2 := fun x y H Q => scal x y = true ∧ Q (.bl (!decide (x = y))) H

theorem dec_int {i j : Int} : decide (V.int i = V.int j) = (i == j) := by
  rw [Bool.eq_iff_iff]
  simp
theorem dec_bl {i j : Bool} : decide (V.bl i = V.bl j) = (i == j) := by
  rw [Bool.eq_iff_iff]
  simp
theorem dec_str {i j : Str} : decide (V.str i = V.str j) = (i == j) := by
  rw [Bool.eq_iff_iff]
  simp
theorem dec_byt {i j : Array UInt8} : decide (V.byt i = V.byt j) = (i.toList == j.toList) := by
  rw [Bool.eq_iff_iff]
  cases i
  cases j
  simp

section
variable {X : Cx} {a b c : Expr} {ta tb tc : TE} {pos : Pos}
theorem fin_bl {pins : List (Addr × Obj)} {σ : St} {H : Hp} {s : Shared} {Q : VK} {k k' : Bool} (I : Inv X pins σ H s) (q : Q (.bl k) H) (e : k = k') : EP X pins σ Q (.bool k') s := by
  subst e
  exact ⟨.bl k, H, I, rfl, q⟩
theorem op_eq : OpR X (compareOp .Eq) rEq := by
  intro pins s σ H x y v u Q I rx ry h
  obtain ⟨hs, q⟩ := h
  cases x with
  | non =>
    cases rx
    cases y with
    | non => cases ry; exact PySem.EqNone.eq_none_none (fin_bl I q (by simp))
    | bl j => cases ry; exact PySem.EqNone.eq_none_bool (fin_bl I q (by simp))
    | int j => obtain ⟨t', rfl⟩ := ry; exact PySem.EqNone.eq_none_int (fin_bl I q (by simp))
    | str j => obtain ⟨t', rfl⟩ := ry; exact PySem.EqNone.eq_none_str (fin_bl I q (by simp))
    | _ => exact absurd (show false = true from hs) Bool.false_ne_true
  | bl i =>
    cases rx
    cases y with
    | non => cases ry; exact PySem.EqNone.eq_bool_none (fin_bl I q (by simp))
    | bl j => cases ry; exact eq_bool (fin_bl I q dec_bl)
    | str j => obtain ⟨t', rfl⟩ := ry; exact PySem.EqMixed.eq_bool_str (fin_bl I q (by simp))
    | _ => exact absurd (show false = true from hs) Bool.false_ne_true
  | int i =>
    obtain ⟨t, rfl⟩ := rx
    cases y with
    | non => cases ry; exact PySem.EqNone.eq_int_none (fin_bl I q (by simp))
    | int j => obtain ⟨t', rfl⟩ := ry; exact eq_int (fin_bl I q dec_int)
    | str j => obtain ⟨t', rfl⟩ := ry; exact PySem.EqMixed.eq_int_str (fin_bl I q (by simp))
    | _ => exact absurd (show false = true from hs) Bool.false_ne_true
  | str i =>
    obtain ⟨t, rfl⟩ := rx
    cases y with
    | non => cases ry; exact PySem.EqNone.eq_str_none (fin_bl I q (by simp))
    | bl j => cases ry; exact PySem.EqMixed.eq_str_bool (fin_bl I q (by simp))
    | int j => obtain ⟨t', rfl⟩ := ry; exact PySem.EqMixed.eq_str_int (fin_bl I q (by simp))
    | str j => obtain ⟨t', rfl⟩ := ry; exact eq_str (fin_bl I q dec_str)
    | _ => exact absurd (show false = true from hs) Bool.false_ne_true
  | byt i =>
    obtain ⟨t, rfl⟩ := rx
    cases y with
    | byt j => obtain ⟨t', rfl⟩ := ry; exact PySem.W.eq_bytes (fin_bl I q dec_byt)
    | _ => exact absurd (show false = true from hs) Bool.false_ne_true
  | _ => cases y <;> exact absurd (show false = true from hs) Bool.false_ne_true
theorem op_ne : OpR X (compareOp .NotEq) rNe := by
  intro pins s σ H x y v u Q I rx ry h
  obtain ⟨hs, q⟩ := h
  cases x with
  | non =>
    cases rx
    cases y with
    | non => cases ry; exact PySem.EqNone.ne_none_none (fin_bl I q (by simp))
    | bl j => cases ry; exact PySem.EqNone.ne_none_bool (fin_bl I q (by simp))
    | int j => obtain ⟨t', rfl⟩ := ry; exact PySem.EqNone.ne_none_int (fin_bl I q (by simp))
    | str j => obtain ⟨t', rfl⟩ := ry; exact PySem.EqNone.ne_none_str (fin_bl I q (by simp))
    | _ => exact absurd (show false = true from hs) Bool.false_ne_true
  | bl i =>
    cases rx
    cases y with
    | non => cases ry; exact PySem.EqNone.ne_bool_none (fin_bl I q (by simp))
    | bl j => cases ry; exact ne_bool (fin_bl I q (congrArg not dec_bl))
    | str j => obtain ⟨t', rfl⟩ := ry; exact PySem.EqMixed.ne_bool_str (fin_bl I q (by simp))
    | _ => exact absurd (show false = true from hs) Bool.false_ne_true
  | int i =>
    obtain ⟨t, rfl⟩ := rx
    cases y with
    | non => cases ry; exact PySem.EqNone.ne_int_none (fin_bl I q (by simp))
    | int j => obtain ⟨t', rfl⟩ := ry; exact ne_int (fin_bl I q (congrArg not dec_int))
    | str j => obtain ⟨t', rfl⟩ := ry; exact PySem.EqMixed.ne_int_str (fin_bl I q (by simp))
    | _ => exact absurd (show false = true from hs) Bool.false_ne_true
  | str i =>
    obtain ⟨t, rfl⟩ := rx
    cases y with
    | non => cases ry; exact PySem.EqNone.ne_str_none (fin_bl I q (by simp))
    | bl j => cases ry; exact PySem.EqMixed.ne_str_bool (fin_bl I q (by simp))
    | int j => obtain ⟨t', rfl⟩ := ry; exact PySem.EqMixed.ne_str_int (fin_bl I q (by simp))
    | str j => obtain ⟨t', rfl⟩ := ry; exact ne_str (fin_bl I q (congrArg not dec_str))
    | _ => exact absurd (show false = true from hs) Bool.false_ne_true
  | byt i =>
    obtain ⟨t, rfl⟩ := rx
    cases y with
    | byt j => obtain ⟨t', rfl⟩ := ry; exact PySem.W.ne_bytes (fin_bl I q (congrArg not dec_byt))
    | _ => exact absurd (show false = true from hs) Bool.false_ne_true
  | _ => cases y <;> exact absurd (show false = true from hs) Bool.false_ne_true

theorem op_lt : OpR X (compareOp .Lt) (rI0 fun i j => .bl (decide (i < j))) := opB0 fun _ _ _ _ _ _ _ q => lt_int q
theorem op_gt : OpR X (compareOp .Gt) (rI0 fun i j => .bl (decide (j < i))) := opB0 fun _ _ _ _ _ _ _ q => gt_int q
theorem op_ge : OpR X (compareOp .GtE) (rI0 fun i j => .bl (decide (j ≤ i))) := opB0 fun _ _ _ _ _ _ _ q => ge_int q
/-- is, is not of two objects that are tracked lists or instances -/
def isObj : HO → Bool
  | .lst _ => true
  | .ins _ _ _ => true
  | _ => false
theorem nomark (b : Expr) {op : CmpOp} (h : op ≠ .In := by decide) (h2 : op ≠ .NotIn := by decide) : behindInMarks op b = false := by
  have e1 : (op == CmpOp.In) = false := by cases op <;> first | rfl | exact absurd rfl h
  have e2 : (op == CmpOp.NotIn) = false := by cases op <;> first | rfl | exact absurd rfl h2
  cases b <;> simp [behindInMarks, e1, e2]
/-- a comparison as a value; hm: nomark b, or (for in, not in) by with_unfolding_all rfl -/
theorem pe_cmpR {op : CmpOp} {r : R2} (ho : OpR X (compareOp op) r) (ha : PE X a ta) (hb : PE X b tb) (hm : behindInMarks op b = false) : PE X (.Compare a [op] [b] pos) (tOp r ta tb) := by
  intro pins s σ H Q I h
  exact wpAny_Compare1 (binT ha hb I h fun v u s2 x y H2 I2 rx ry q => ho pins s2 σ H2 x y v u Q I2 rx ry q) hm
/-- a reading of a value as a test -/
def tTest (t : TE) : TT := fun σ H Q => t σ H fun x H' => ∃ k, x = .bl k ∧ Q k H'
theorem pt_cmpR {op : CmpOp} {r : R2} (ho : OpR X (compareOp op) r) (ha : PE X a ta) (hb : PE X b tb) (hm : behindInMarks op b = false) : PT X (.Compare a [op] [b] pos) (tTest (tOp r ta tb)) := by
  intro pins s σ H Q I h
  refine wpAny_isTrue_Compare1 (thn (ha pins s σ H _ I h) fun v s1 ⟨x, H1, I1, r1, q1⟩ => thn (hb pins s1 σ H1 _ I1 q1) fun u s2 ⟨y, H2, I2, r2, q2⟩ =>
    thn (ho pins s2 σ H2 x y v u _ I2 r1 r2 q2) fun c s3 ⟨z, H3, I3, r3, k, e, q3⟩ => ?_) hm
  subst e
  cases r3
  exact wpAny_truthy_bool ⟨H3, I3, q3⟩
/-- a op1 b op2 c -/
def tChain (r r' : R2) (ta tb tc : TE) : TE := fun σ H Q => ta σ H fun x H1 => tb σ H1 fun y H2 => r x y H2 fun z H3 => ∃ k, z = .bl k ∧
  (if k = true then tc σ H3 fun w' H4 => r' y w' H4 Q else Q (.bl false) H3)
/-! ### truth -/
/-- a value's truth by the abstract heap -/
def TruV (K : PySem.W.Frag) (x : V) (H : Hp) (k : Bool) : Prop :=
  match x with
  | .non => k = false
  | .bl b => k = b
  | .int i => k = (i != 0)
  | .str y => y.length ≤ sizeLine ∧ k = ((y.length : Int) != 0)
  | .byt y => y.size ≤ sizeLine ∧ k = ((y.size : Int) != 0)
  | .ref p => (∃ xs, SqL K H p xs ∧ k = !xs.isEmpty) ∨ (∃ xs, SqT K H p xs ∧ k = !xs.isEmpty) ∨ ∃ kvs, H p = some (.dK kvs) ∧ k = !kvs.isEmpty
  | _ => False
theorem line63 : (sizeLine : Nat) < 2 ^ 63 := by rw [sizeLine_eq]; decide
/-! ### strs and bytes -/
def PlainIxT (b : Expr) : Prop := ∀ o i, subscripted b false o i = operate [o, i] (getItem o i)
/-! ### scalar builtins, by CallR -/
theorem vals1 {x : V} {us : List Value} (r : Vals [x] us) : ∃ u, us = [u] ∧ RelV x u := by
  cases r with
  | cons r1 r2 => cases r2; exact ⟨_, rfl, r1⟩
theorem vals2 {x y : V} {us : List Value} (r : Vals [x, y] us) : ∃ u w', us = [u, w'] ∧ RelV x u ∧ RelV y w' := by
  cases r with
  | cons r1 r2 =>
    cases r2 with
    | cons r3 r4 => cases r4; exact ⟨_, _, rfl, r1, r3⟩
theorem call_max2 (hc : X.calm = true) : CallR X (.builtin "max") (fun xs H Q => ∃ i j, xs = [.int i, .int j] ∧ Q (.int (if j > i then j else i)) H) := by
  intro pins s σ H xs us Q I r h
  obtain ⟨i, j, rfl, q⟩ := h
  obtain ⟨u, w', rfl, ⟨t, rfl⟩, ⟨t', rfl⟩⟩ := vals2 r
  refine max_two_ints (I.ok.hd hc) fun h' tk k => ⟨_, H, I.kept k, ?_, q⟩
  by_cases hj : j > i
  · rw [if_pos hj, if_pos hj]; exact ⟨_, rfl⟩
  · rw [if_neg hj, if_neg hj]; exact ⟨_, rfl⟩
theorem call_min2 (hc : X.calm = true) : CallR X (.builtin "min") (fun xs H Q => ∃ i j, xs = [.int i, .int j] ∧ Q (.int (if j < i then j else i)) H) := by
  intro pins s σ H xs us Q I r h
  obtain ⟨i, j, rfl, q⟩ := h
  obtain ⟨u, w', rfl, ⟨t, rfl⟩, ⟨t', rfl⟩⟩ := vals2 r
  refine min_two_ints (I.ok.hd hc) fun h' tk k => ⟨_, H, I.kept k, ?_, q⟩
  by_cases hj : j < i
  · rw [if_pos hj, if_pos hj]; exact ⟨_, rfl⟩
  · rw [if_neg hj, if_neg hj]; exact ⟨_, rfl⟩
theorem call_int1 : CallR X (.type "int") (fun xs H Q => (∃ i, xs = [.int i] ∧ Q (.int i) H) ∨ ∃ k, xs = [.bl k] ∧ Q (.int (if k then 1 else 0)) H) := by
  intro pins s σ H xs us Q I r h
  rcases h with ⟨i, rfl, q⟩ | ⟨k, rfl, q⟩
  · obtain ⟨u, rfl, t, rfl⟩ := vals1 r
    exact call_int_int ⟨.int i, H, I, ⟨_, rfl⟩, q⟩
  · obtain ⟨u, rfl, r1⟩ := vals1 r
    cases r1
    exact call_int_bool ⟨.int (if k then 1 else 0), H, I.tok _, ⟨_, rfl⟩, q⟩
/-- len of a str, a bytes, a list, a tuple -/
def LenV (K : PySem.W.Frag) (x : V) (H : Hp) (n : Nat) : Prop :=
  match x with
  | .str y => y.length ≤ sizeLine ∧ n = y.length
  | .byt y => y.size ≤ sizeLine ∧ n = y.size
  | .ref p => (∃ xs, SqL K H p xs ∧ n = xs.length) ∨ ∃ xs, SqT K H p xs ∧ n = xs.length
  | _ => False
end
end L2

namespace L2
open PySem PySem.Spec PyProof.Rows

/-! ### an instance, its attributes a map -/
structure ObjM (h : Heap) (x dx C : Addr) (mA : Str → Option Value) : Prop where
  obj : h.get? x = some (PySem.W.instObj C dx)
  ns : h.Ns1 dx mA
  ne : dx ≠ x

section
variable {prog : Program} {w : World} {A : Around} {E : Value → Shared → Prop} {s : Shared} {K : PySem.W.Frag} {x dx C f : Addr} {mA : Str → Option Value} {name : Str} {v : Value}

end

/-! ### the attributes as a list of pairs -/
def putF (f : Str) (v : V) : List (Str × V) → List (Str × V)
  | [] => [(f, v)]
  | (g, x) :: r => if g = f then (g, v) :: r else (g, x) :: putF f v r
theorem RelO.some_of {v : V} {o : Option Value} (r : RelO (some v) o) : ∃ u, o = some u ∧ RelV v u := by
  cases o with
  | none => exact (show False from r).elim
  | some u => exact ⟨u, rfl, r⟩
section
variable {P : Program} {w : World} {H H' : Hp} {h h' : Heap} {a C dx : Addr} {fs fs' : List (Str × V)}
end

/-! ### what of the text a class must have -/
structure Cls (K : PySem.W.Frag) (C : Addr) : Prop where
  pg : PySem.W.plainGet K C Str.empty = true
  hd : PySem.W.hasDictIn K C = true
  po : PySem.W.plainOver K C = true
  sa : PySem.W.findIn K (.ref C) "__setattr__" = some (some (.builtin "object.__setattr__"))
/-- no class of it has the name -/
def NoAttr (K : PySem.W.Frag) (C : Addr) (f : Str) : Prop := PySem.W.findIn K (.ref C) f = some none
/-- a constant of the class -/
structure Con (K : PySem.W.Frag) (C : Addr) (f : Str) (v : V) (u : Value) : Prop where
  at_ : PySem.W.findIn K (.ref C) f = some (some u)
  rel : RelV v u
  get : PySem.W.specialIn K u "__get__" = some none
  cp : PySem.W.copiedNames.contains f = false
/-- a method: a plain def of the class or of one above it -/
structure Meth (K : PySem.W.Frag) (C : Addr) (m : Str) (f : Addr) : Prop where
  at_ : PySem.W.findIn K (.ref C) m = some (some (.ref f))
  fn : PySem.W.isFn K (.ref f) = true
  kp : PySem.W.keepIn K (.ref f) = true

section
variable {X : Cx} {pins : List (Addr × Obj)} {σ : St} {H : Hp} {s : Shared} {a C dx : Addr} {fs : List (Str × V)} {f : Str} {v : V} {A : Around} {E : Value → Shared → Prop}

end

/-! ### readings and rules -/
/-- e.f, an attribute of the instance -/
def tFld (K : PySem.W.Frag) (ta : TE) (f : Str) : TE := fun σ H Q => ta σ H fun x H1 => ∃ a C dx fs v, x = .ref a ∧ H1 a = some (.ins C dx fs) ∧ Cls K C ∧ NoAttr K C f ∧ fs.lookup f = some v ∧ Q v H1
/-- e.f, a constant of the class -/
def tCon (K : PySem.W.Frag) (ta : TE) (f : Str) : TE := fun σ H Q => ta σ H fun x H1 => ∃ a C dx fs v u, x = .ref a ∧ H1 a = some (.ins C dx fs) ∧ Cls K C ∧ Con K C f v u ∧ fs.lookup f = none ∧ Q v H1
/-- e.f = value -/
def sFld (K : PySem.W.Frag) (ta tv : TE) (f : Str) : TS := fun D σ H => tv σ H fun y H1 => ta σ H1 fun x H2 => ∃ a C dx fs, x = .ref a ∧ H2 a = some (.ins C dx fs) ∧ Cls K C ∧ NoAttr K C f ∧ fs.length < 1000 ∧
  D.nx σ (upd H2 a (.ins C dx (putF f y fs)))
/-- an augmented operator on two values -/
def InOp (X : Cx) (op : Operator) (rd : V → V → Hp → VK → Prop) : Prop :=
  ∀ (pins : List (Addr × Obj)) (s : Shared) (σ : St) (H : Hp) (x y : V) (u v : Value) (Q : VK), Inv X pins σ H s → RelV x u → RelV y v → rd x y H Q → wpAny (model X.prog X.w) X.A (inplaceOp op u v) (EP X pins σ Q) X.xe s
/-- e.f op= value -/
def sFldAug (K : PySem.W.Frag) (ta tv : TE) (rd : V → V → Hp → VK → Prop) (f : Str) : TS := fun D σ H => ta σ H fun x H1 => ∃ a C dx fs v, x = .ref a ∧ H1 a = some (.ins C dx fs) ∧ Cls K C ∧ NoAttr K C f ∧ fs.lookup f = some v ∧
  tv σ H1 fun y H2 => rd v y H2 fun z H3 => ∃ dx' fs', H3 a = some (.ins C dx' fs') ∧ fs'.length < 1000 ∧ D.nx σ (upd H3 a (.ins C dx' (putF f z fs')))

section
variable {X : Cx} {o e value : Expr} {f : Str} {pos pos' tpos : Pos} {ta tv : TE}
def rAdd : V → V → Hp → VK → Prop := fun x y H Q => ∃ i j, x = .int i ∧ y = .int j ∧ Q (.int (i + j)) H
def rSub : V → V → Hp → VK → Prop := fun x y H Q => ∃ i j, x = .int i ∧ y = .int j ∧ Q (.int (i - j)) H
end

/-! ### isinstance -/
section
variable {X : Cx} {pins : List (Addr × Obj)} {σ : St} {H : Hp} {s : Shared} {A : Around} {E : Value → Shared → Prop} {Q : Value → Shared → Prop} {c : Value} {b : Bool}
/-- the type of a value, as the fragment's deciders take it; for an instance its class -/
inductive TyOf (K : PySem.W.Frag) (H : Hp) : V → Value → Prop where
  | non : TyOf K H .non (.type "NoneType")
  | bl (x : Bool) : TyOf K H (.bl x) (.type "bool")
  | int (i : Int) : TyOf K H (.int i) (.type "int")
  | str (x : Str) : TyOf K H (.str x) (.type "str")
  | flt (x : UInt64) : TyOf K H (.flt x) (.type "float")
  | lst {a : Addr} {xs : List V} (e : H a = some (.lst xs)) : TyOf K H (.ref a) (.type "list")
  | frz {a : Addr} {o : Obj} {xs : List V} (e : H a = some (.frz o (.lst xs))) : TyOf K H (.ref a) (.type "list")
  | tup {a : Addr} {xs : List V} (e : H a = some (.tup xs)) : TyOf K H (.ref a) (.type "tuple")
  | dK {a : Addr} {kvs : List (Key × V)} (e : H a = some (.dK kvs)) : TyOf K H (.ref a) (.type "dict")
  | dT {a : Addr} {kvs : List (List Key × V)} (e : H a = some (.dT kvs)) : TyOf K H (.ref a) (.type "dict")
  | ins {a C dx : Addr} {fs : List (Str × V)} (e : H a = some (.ins C dx fs)) (cl : Cls K C) (ha : PySem.W.findIn K (.ref C) "__class__" = some (some (.builtin "object.__class__")))
      (hn : PySem.W.specialIn K (.builtin "object.__class__") "__get__" = some (some (.builtin "getset_descriptor.__get__"))) (htk : PySem.W.takesIn K (.builtin "object.__class__") = some true)
      (hm : PySem.W.mroIn K C (.type "object") = some true) : TyOf K H (.ref a) (.ref C)
end
end L2

namespace L2
open PySem PySem.Spec PyProof.Rows

/-! ### room -/
structure Room (k : Nat) (A : Around) : Prop where
  hd : A.handled = none
  dp : A.depth + 3 * k + 5 < recursionLimit
  un : A.units + 16 * k + 200 < cLine
  gd : A.guards = some [] := by rfl
theorem Room.mono {j k : Nat} {A : Around} (r : Room k A) (h : j ≤ k) : Room j A := ⟨r.hd, by have := r.dp; omega, by have := r.un; omega, r.gd⟩
theorem Room.deeper {k : Nat} {A : Around} (r : Room (k + 1) A) (env : Env) : Room k (A.deeper env) :=
  ⟨r.hd, by have := r.dp; show A.depth + 1 + 3 * k + 5 < _; omega, by have := r.un; show A.units + 3 + 16 * k + 200 < _; omega, r.gd⟩
theorem Room.depth {k : Nat} {A : Around} (r : Room k A) : A.depth < recursionLimit := by have := r.dp; omega
theorem Room.units {k : Nat} {A : Around} (r : Room k A) : A.units + 64 < cLine := by have := r.un; omega
/-! ### argument lists and displays -/
def tNil : TA := fun _ H Q => Q [] H
def tCons (ta : TE) (tr : TA) : TA := fun σ H Q => ta σ H fun x H1 => tr σ H1 fun xs H2 => Q (x :: xs) H2
section
variable {X : Cx} {e : Expr} {es : List Expr} {te : TE} {t : TA} {pos : Pos}
theorem pa_nil : PA X [] tNil := fun _ _ _ _ H Q I h => Calls.spliced_nil ⟨[], H, I, .nil, h⟩
theorem pa_cons (ha : PE X e te) (hr : PA X es t) (hs : starEach (e :: es) X.env = (false, eval e X.env) :: starEach es X.env := by rfl) : PA X (e :: es) (tCons te t) := by
  intro pos pins s σ H Q I h
  rw [hs]
  show wpAny _ _ (spliced ((false, eval e X.env) :: backTo pos (starEach es X.env))) _ _ s
  refine Calls.spliced_cons (thn (ha pins s σ H _ I h) fun u s1 ⟨x, H1, I1, r1, q1⟩ => ?_)
  exact thn (hr pos pins s1 σ H1 _ I1 q1) fun us s2 ⟨xs, H2, I2, r2, q2⟩ => ⟨x :: xs, H2, I2, .cons r1 r2, q2⟩

/-- a tuple, a list of written items -/
def tTup (t : TA) : TE := fun σ H Q => t σ H fun xs H1 => xs.length ≤ sizeLine ∧ ∀ p, H1 p = none → Q (.ref p) (upd H1 p (.tup xs))
def tLst (t : TA) : TE := fun σ H Q => t σ H fun xs H1 => xs.length ≤ sizeLine ∧ ∀ p, H1 p = none → Q (.ref p) (upd H1 p (.lst xs))
theorem pe_tup {x1} (h : PA X es t) : PE X (.Tuple es x1 pos) (tTup t) := by
  intro pins s σ H Q I hq
  refine wpAny_Tuple_spliced (thn (h pos pins s σ H _ I hq) fun us s1 ⟨xs, H1, I1, r, z, q⟩ => ⟨by rw [← r.length]; exact z, ?_⟩)
  have hf : H1 s1.heap.objs.size = none := I1.hok.fresh (Nat.le_refl _)
  refine ⟨.ref s1.heap.objs.size, upd H1 s1.heap.objs.size (.tup xs), I1.laid (t' := s1.toks) (fun b u e => Heap.get?_push_of_some _ e) (Nat.le_refl _) ?_, rfl, q _ hf⟩
  exact ⟨z, us, r, ⟨_, Heap.get?_push_size _ rfl, rfl, _, rfl⟩⟩
theorem pe_lst (h : PA X es t) : PE X (.List es pos) (tLst t) := by
  intro pins s σ H Q I hq
  refine wpAny_List_spliced (thn (h pos pins s σ H _ I hq) fun us s1 ⟨xs, H1, I1, r, z, q⟩ => ⟨by rw [← r.length]; exact z, ?_⟩)
  have hf : H1 s1.heap.objs.size = none := I1.hok.fresh (Nat.le_refl _)
  refine ⟨.ref s1.heap.objs.size, upd H1 s1.heap.objs.size (.lst xs), I1.laid (t' := s1.toks) (fun b u e => Heap.get?_push_of_some _ e) (Nat.le_refl _) ?_, rfl, q _ hf⟩
  exact ⟨z, us, 0, r, Heap.get?_push_size _ rfl⟩
end

/-! ### what a def promises -/
/-- a def's promise: the bound arguments in the parameters' order, the heap, the wanted end, the wanted exception -/
abbrev Sp := List V → Hp → VK → XK → Prop
/-- how an exception lies behind a call (file 08 gives it): the callers' frames, abstract heap and state ahead of the call, the wish, the exception, the state -/
abbrev CXT := List Env → Hp → Shared → XK → Value → Shared → Prop

/-- the state at a call -/
structure Env0 (P : Program) (w : World) (K : PySem.W.Frag) (mg : Str → Option Value) (base : Heap) (A : Around) (outer : List Env) (s : Shared) (H : Hp) : Prop where
  frames : A.frames = some outer
  mod : Mod K mg base
  bs : ∀ b o, base.get? b = some o → s.heap.get? b = some o ∧ H b = none
  bsz : base.objs.size ≤ s.heap.objs.size
  funs : s.heap.FunFrames base outer
  frf : ∀ b ∈ frs outer, H b = none
  hok : HOk P w H s.heap
  bare : AllBare s.gens
/-- a call's end -/
def CE (outer : List Env) (P : Program) (w : World) (H : Hp) (s : Shared) (Q : VK) (u : Value) (s' : Shared) : Prop :=
  ∃ v H', s'.os = s.os ∧ AllBare s'.gens ∧ Un (frs outer) [] H H' s.heap s'.heap ∧ HOk P w H' s'.heap ∧ RelV v u ∧ Q v H'
def CR (CX : CXT) (outer : List Env) (P : Program) (w : World) (H : Hp) (s : Shared) (Q : VK) (E : XK) (r : Result) (s' : Shared) : Prop :=
  match r with
  | .ok (.ret u) => CE outer P w H s Q u s'
  | .ok _ => False
  | .error e => CX outer H s E e s'
structure FnOk (P : Program) (w : World) (K : PySem.W.Frag) (mg : Str → Option Value) (base : Heap) (CX : CXT) (k : Nat) (f : Addr) (fd : FuncData) (ps : List Str) (sp : Sp) : Prop where
  len : ∀ vs H Q E, sp vs H Q E → vs.length = ps.length
  run : ∀ (A : Around) (outer : List Env) (s : Shared) (H : Hp) (args : Args) (us : List Value) (vs : List V) (Q : VK) (E : XK), Room k A → Env0 P w K mg base A outer s H → BindsTo s fd args (ps.zip us) → Vals vs us → sp vs H Q E →
    codeAny (model P w) A (.call (.ref f) args) (CR CX outer P w H s Q E) s
section
variable {X : Cx} {pins : List (Addr × Obj)} {σ : St} {H : Hp} {s s' : Shared}
/-- from a body: what a callee wants -/
theorem Inv.env0 (I : Inv X pins σ H s) : Env0 X.prog X.w X.K X.mg X.base X.A X.stack s H :=
  ⟨I.ok.frames, I.ok.mod, I.bs, Nat.le_trans I.ok.bsz I.sz, I.stack, I.stkFree, I.hok, I.bare⟩
/-- behind a call -/
theorem Inv.after {Q : VK} {u : Value} (I : Inv X pins σ H s) (h : CE X.stack X.prog X.w H s Q u s') : EP X pins σ Q u s' := by
  obtain ⟨v, H', os, bare, un, hok, r, q⟩ := h
  obtain ⟨hh, g, d, t, os'⟩ := s'
  obtain rfl : os' = s.os := os
  exact ⟨v, H', I.call (h' := hh) (g' := g) (d' := d) (t' := t) (ch := []) un hok bare (fun b z => absurd z (by simp)), r, q⟩
end

/-! ### calls -/
/-- f(..): the written arguments, then the defaults dvs; E: what is wanted of an exception -/
def tCall (sp : Sp) (dvs : List V) (E : XK) (t : TA) : TE := fun σ H Q => t σ H fun vs H1 => sp (vs ++ dvs) H1 Q E
/-- o.m(..) of an instance of the class at C -/
def tMeth (C : Addr) (m : Str) (sp : Sp) (dvs : List V) (E : XK) (ta : TE) (t : TA) : TE := fun σ H Q => ta σ H fun x H1 => ∃ a dx fs, x = .ref a ∧ H1 a = some (.ins C dx fs) ∧ fs.lookup m = none ∧
  t σ H1 fun vs H2 => sp (x :: (vs ++ dvs)) H2 Q E
/-- C(..): a new instance and its dict, then __init__ -/
def tMake (C : Addr) (sp : Sp) (dvs : List V) (E : XK) (t : TA) : TE := fun σ H Q => t σ H fun vs H1 => ∀ x dx, H1 x = none → H1 dx = none → dx ≠ x →
  sp (.ref x :: (vs ++ dvs)) (upd (upd H1 dx (.own x)) x (.ins C dx [])) (fun v H2 => v = .non ∧ Q (.ref x) H2) E

/-- how the parameters are bound: us the positional arguments, kw the keywords' values by name, ds the defaults that fill up -/
def Binds (K : PySem.W.Frag) (fd : FuncData) (ps : List Str) (ds : List Value) : Prop :=
  ∀ (s : Shared) (us : List Value), K.In s.heap → (us ++ ds).length = ps.length → BindsTo s fd ⟨us, []⟩ (ps.zip (us ++ ds))
/-- every parameter is given -/
theorem Binds.all {K : PySem.W.Frag} {fd : FuncData} {ps : List Str} (h : ∀ us : List Value, us.length = ps.length → bindArgs fd ⟨us, []⟩ = pure (ps.zip us)) : Binds K fd ps [] := fun s us _ hl => by
  rw [List.append_nil] at hl ⊢
  exact .of_eq (h us hl)

/-- an exception of a callee reaches what this body wants of exceptions -/
def Passes (CX : CXT) (X : Cx) (E : XK) : Prop := ∀ (pins : List (Addr × Obj)) (σ : St) (H : Hp) (s : Shared) (e : Value) (s' : Shared), Inv X pins σ H s → CX X.stack H s E e s' → X.xe e s'

section
variable {X : Cx} {CX : CXT} {k : Nat} {f C : Addr} {fd : FuncData} {ps : List Str} {sp : Sp} {dvs : List V} {ds : List Value} {E : XK} {x m : Str} {p pos apos : Pos} {e o : Expr} {es : List Expr} {ta : TE} {t : TA}

/-- the callee runs -/
theorem run_fn {pins : List (Addr × Obj)} {σ : St} {H : Hp} {s : Shared} {Q : VK} {us : List Value} {vs : List V} (F : FnOk X.prog X.w X.K X.mg X.base CX k f fd ps sp) (hr : Room k X.A) (hb : Binds X.K fd ps ds) (hd : Vals dvs ds) (hx : Passes CX X E)
    (I : Inv X pins σ H s) (r : Vals vs us) (h : sp (vs ++ dvs) H Q E) : wpAny (model X.prog X.w) X.A (call (.ref f) us) (EP X pins σ Q) X.xe s := by
  have r2 : Vals (vs ++ dvs) (us ++ ds) := r.append hd
  have hl : (us ++ ds).length = ps.length := by rw [← r2.length]; exact F.len _ _ _ _ h
  refine wpAny_call (codeAny_mono (F.run X.A X.stack s H ⟨us, []⟩ (us ++ ds) (vs ++ dvs) Q E hr I.env0 (hb s us I.kIn hl) r2 h) fun r s' hq => ?_)
  cases r with
  | error e => exact hx pins σ H s e s' I hq
  | ok fl =>
    cases fl with
    | ret u => exact I.after hq
    | next => exact False.elim hq
    | brk => exact False.elim hq
    | cont => exact False.elim hq

theorem pe_call (F : FnOk X.prog X.w X.K X.mg X.base CX k f fd ps sp) (hr : Room k X.A) (hg : Gl X x) (hm : X.mg x = some (.ref f)) (hk : PySem.W.keepIn X.K (.ref f) = true) (hb : Binds X.K fd ps ds) (hd : Vals dvs ds) (hx : Passes CX X E)
    (ha : PA X (e :: es) t) (hdb : (x == ("__debug__" : Str)) = false := by decide) (he : starEach (e :: es) X.env = (false, eval e X.env) :: starEach es X.env := by rfl) (hpl : (backTo pos (starEach es X.env)).any (·.1) = false := by rfl) :
    PE X (.Call (.Name x p) (e :: es) [] pos) (tCall sp dvs E t) := by
  intro pins s σ H Q I h
  refine wpAny_Call_Name_kw (ld_glob I hg hm ?_ hdb)
  refine PySem.W.callWith_K (h₀ := X.base) I.ok.mod.kin hk (thn (ha pos pins s σ H _ I h) fun us s1 ⟨vs, H1, I1, r, q⟩ => ⟨I1.kIn, ?_⟩) he hpl
  exact run_fn F hr hb hd hx I1 r q
/-- what a class must have to be made -/
structure Mk (K : PySem.W.Frag) (C f : Addr) : Prop where
  makes : PySem.W.makesIn K C = true
  init : PySem.W.findIn K (.ref C) "__init__" = some (some (.ref f))
  fn : PySem.W.isFn K (.ref f) = true
  kp : PySem.W.keepIn K (.ref C) = true

end

/-! ### keywords -/
/-- the values of the keywords, from the left -/
def PK (X : Cx) (kws : List Keyword) (t : TA) : Prop :=
  ∀ (pos : Pos) (pins : List (Addr × Obj)) (s : Shared) (σ : St) (H : Hp) (Q : List V → Hp → Prop), Inv X pins σ H s → t σ H Q → wpAny (model X.prog X.w) X.A (evalAll ((backToKw pos (keywordEach kws X.env)).map (·.2))) (AP X pins σ Q) X.xe s
section
variable {X : Cx} {CX : CXT} {k : Nat} {f C : Addr} {fd : FuncData} {ps ks : List Str} {sp : Sp} {E : XK} {x m : Str} {p pos apos kpos : Pos} {e o : Expr} {es : List Expr} {kws : List Keyword} {te ta : TE} {t tk : TA} {nm : Option Str}
/-- how a call with keywords binds: g puts the positional values us and the keywords' values ws (names ks) in the parameters' order, defaults among them -/
structure KBinds (K : PySem.W.Frag) (fd : FuncData) (ps ks : List Str) (g : List Value → List Value → List Value) (gV : List V → List V → List V) : Prop where
  to : ∀ (s : Shared) (us ws : List Value), K.In s.heap → (g us ws).length = ps.length → BindsTo s fd ⟨us, ks.zip ws⟩ (ps.zip (g us ws))
  rel : ∀ {vs : List V} {us : List Value} {zs : List V} {ws : List Value}, Vals vs us → Vals zs ws → Vals (gV vs zs) (g us ws)
def tCallK (sp : Sp) (gV : List V → List V → List V) (E : XK) (t tk : TA) : TE := fun σ H Q => t σ H fun vs H1 => tk σ H1 fun zs H2 => sp (gV vs zs) H2 Q E
variable {g : List Value → List Value → List Value} {gV : List V → List V → List V}
end

/-! ### a def's body keeps its promise -/
/-- names: the parameters first -/
structure FnScope (N P : List Str) (sc : Scope) : Prop where
  kind : sc.kind = .function
  co : sc.isCoroutine = false
  gen : sc.isGenerator = false
  nd : N.Nodup
  pre : N.take P.length = P
  par : ∀ x ∈ P, sc.names.lookup x = some .local ∨ sc.names.lookup x = some .cell
  nofree : ∀ y ∈ sc.names, y.2 ≠ .free

theorem bindL_out {kindOf : Str → Option NameKind} {x : Str} : ∀ {binds : List (Str × Value)} {m : Str → Option Value}, (∀ v, (x, v) ∉ binds) → bindL kindOf binds m x = m x
  | [], _, _ => rfl
  | (n, v) :: r, m, h => by
    unfold bindL
    rw [bindL_out fun w hw => h w (List.mem_cons_of_mem _ hw)]
    split
    · have : x ≠ n := by rintro rfl; exact h v List.mem_cons_self
      simp [this]
    · rfl
theorem bindC_out {kindOf : Str → Option NameKind} {x : Str} : ∀ {binds : List (Str × Value)} {m : Str → Option Value}, (∀ v, (x, v) ∉ binds) → bindC kindOf binds m x = m x
  | [], _, _ => rfl
  | (n, v) :: r, m, h => by
    unfold bindC
    rw [bindC_out fun w hw => h w (List.mem_cons_of_mem _ hw)]
    split
    · rfl
    · have : x ≠ n := by rintro rfl; exact h v List.mem_cons_self
      simp [this]
theorem bindL_get {kindOf : Str → Option NameKind} {x : Str} {v : Value} : ∀ {P : List Str} {vs : List Value} {i : Nat} {m : Str → Option Value}, P.Nodup → P[i]? = some x → vs[i]? = some v → kindOf x = some .local →
    bindL kindOf (P.zip vs) m x = some v
  | [], _, _, _, _, h, _, _ => by simp at h
  | _ :: _, [], _, _, _, _, h, _ => by simp at h
  | p :: P, w :: vs, 0, m, nd, h1, h2, hk => by
    simp at h1 h2; subst h1; subst h2
    show bindL kindOf ((p, w) :: P.zip vs) m p = _
    unfold bindL
    rw [bindL_out fun v hv => (List.nodup_cons.mp nd).1 (List.of_mem_zip hv).1, if_pos hk]
    simp
  | p :: P, w :: vs, i + 1, m, nd, h1, h2, hk => by
    show bindL kindOf ((p, w) :: P.zip vs) m x = _
    unfold bindL
    exact bindL_get (i := i) (List.nodup_cons.mp nd).2 (by simpa using h1) (by simpa using h2) hk
theorem bindC_get {kindOf : Str → Option NameKind} {x : Str} {v : Value} : ∀ {P : List Str} {vs : List Value} {i : Nat} {m : Str → Option Value}, P.Nodup → P[i]? = some x → vs[i]? = some v → kindOf x ≠ some .local →
    bindC kindOf (P.zip vs) m x = some v
  | [], _, _, _, _, h, _, _ => by simp at h
  | _ :: _, [], _, _, _, _, h, _ => by simp at h
  | p :: P, w :: vs, 0, m, nd, h1, h2, hk => by
    simp at h1 h2; subst h1; subst h2
    show bindC kindOf ((p, w) :: P.zip vs) m p = _
    unfold bindC
    rw [bindC_out fun v hv => (List.nodup_cons.mp nd).1 (List.of_mem_zip hv).1, if_neg hk]
    simp
  | p :: P, w :: vs, i + 1, m, nd, h1, h2, hk => by
    show bindC kindOf ((p, w) :: P.zip vs) m x = _
    unfold bindC
    exact bindC_get (i := i) (List.nodup_cons.mp nd).2 (by simpa using h1) (by simpa using h2) hk

/-- the names' values at the entry -/
def start (N : List Str) (vs : List V) : St := vs.map some ++ List.replicate (N.length - vs.length) none

/-- the context of a def's body, at its entry; an exception leaves the frame, then lies as CX says -/
def cxOf (CX : CXT) (P : Program) (w : World) (K : PySem.W.Frag) (mg : Str → Option Value) (base : Heap) (N : List Str) (qual : Str) (scope : Scope) (f : Addr) (cd : Value) (A : Around) (outer : List Env) (s : Shared) (H : Hp) (E : XK) : Cx where
  prog := P
  w := w
  K := K
  mg := mg
  base := base
  A := A.deeper (envOfC qual scope s.heap.objs.size f cd)
  N := N
  s₀ := s
  H₀ := H
  env := envOfC qual scope s.heap.objs.size f cd
  outer := outer
  stack := envOfC qual scope s.heap.objs.size f cd :: outer
  ex := []
  calm := true
  fn := fun _ => true
  pn := []
  xe := fun e s' => wpAny (model P w) (A.deeper (envOfC qual scope s.heap.objs.size f cd)) (leaving (envOfC qual scope s.heap.objs.size f cd) e) (fun _ s'' => CX outer H s E e s'') (fun e' s'' => CX outer H s E e' s'') s'

theorem cell_has {sc : Scope} {n : Nat} {x : Str} (h : sc.names.lookup x = some .cell) : ∃ c, (cellsFrom n sc.names []).lookup x = some c := by
  have q := PySem.W.cellsFrom_some sc.names n [] (.inl h)
  exact Option.isSome_iff_exists.mp q

theorem inv_start {CX : CXT} {P : Program} {w : World} {K : PySem.W.Frag} {mg : Str → Option Value} {base : Heap} {N ps : List Str} {qual : Str} {scope : Scope} {f : Addr} {cd : Value} {A : Around} {outer : List Env} {s s1 : Shared} {H : Hp} {E : XK} {us : List Value} {vs : List V}
    (S : FnScope N ps scope) (hd : A.handled = none) (e0 : Env0 P w K mg base A outer s H) (hl : vs.length = ps.length) (r : Vals vs us)
    (x : InCallC s s.heap.objs.size (bindL (envOfC qual scope s.heap.objs.size f cd).kindOf (ps.zip us) fun _ => none) (cellsFrom (s.heap.objs.size + 1) scope.names []) (bindC (envOfC qual scope s.heap.objs.size f cd).kindOf (ps.zip us) fun _ => none) s1) :
    Inv (cxOf CX P w K mg base N qual scope f cd A outer s H E) [] (start N vs) H s1 := by
  have hpl : ps.length ≤ N.length := by have := congrArg List.length S.pre; rw [List.length_take] at this; omega
  obtain ⟨h1, tk, rfl, hk⟩ := x.done
  have noA : ∀ b : Addr, b ∉ (cxOf CX P w K mg base N qual scope f cd A outer s H E).ex := fun b z => absurd (show b ∈ ([] : List Addr) from z) (by simp)
  refine ⟨⟨e0.mod, S.kind, rfl, rfl, Nat.le_refl _, fun y z c h1 h2 => ?_, fun y hy => ?_, fun y c _ h => ?_, fun _ => hd, Around.frames_deeper e0.frames, .inr ⟨rfl, rfl⟩, fun b z => absurd z (noA b), e0.bs, e0.bsz, fun b _ _ => noA b, fun b z => absurd z (noA b), e0.funs, e0.frf⟩,
    rfl, e0.bare, Un.kept hk, ⟨_, x.toInCall.ns, fun i y v h1 h2 h3 => ?_⟩, fun y c h => ⟨_, x.cell y c h⟩, e0.hok.fresh (Nat.le_refl _), fun y c h => ?_, fun p hp => absurd (show p ∈ ([] : List (Addr × Obj)) from hp) (by simp), e0.hok.kept hk, ?_⟩
  · exact name_of_addr x.apart (PySem.mem_of_lookup h1) (PySem.mem_of_lookup h2)
  · have hy : scope.names.lookup y = some .cell ∨ scope.names.lookup y = some .free := hy
    rcases hy with hy | hy
    · exact cell_has hy
    · exact absurd rfl (S.nofree _ (PySem.mem_of_lookup hy))
  · exact Nat.le_of_lt (x.above y c (PySem.mem_of_lookup h))
  · have hi : i < vs.length := by
      unfold start at h2
      by_cases hi : i < vs.length
      · exact hi
      · rw [List.getElem?_append_right (by simpa using hi)] at h2
        rw [List.getElem?_replicate] at h2
        split at h2 <;> cases h2
    have ha : vs[i]? = some v := by
      unfold start at h2
      rw [List.getElem?_append_left (by simpa using hi), List.getElem?_map] at h2
      cases e : vs[i]? with
      | none => rw [e] at h2; cases h2
      | some a => rw [e] at h2; cases h2; rfl
    obtain ⟨u, hu, rv⟩ := r.get ha
    have hp : ps[i]? = some y := by
      rw [← S.pre, List.getElem?_take_of_lt (by omega)]; exact h1
    have ndP : ps.Nodup := by rw [← S.pre]; exact S.nd.sublist (List.take_sublist _ _)
    refine ⟨u, rv, ?_⟩
    rcases S.par y (List.mem_of_getElem? hp) with k | k
    · exact .inl ⟨k, bindL_get ndP hp hu k⟩
    · obtain ⟨c, e⟩ := cell_has (n := s.heap.objs.size + 1) k
      refine .inr ⟨.inl k, c, e, ?_⟩
      have q := x.cell y c e
      rw [bindC_get ndP hp hu (by show scope.names.lookup y ≠ _; rw [k]; decide)] at q
      exact q
  · exact e0.hok.fresh (Nat.le_of_lt (x.above y c (PySem.mem_of_lookup h)))
  · unfold start
    show _ = N.length
    rw [List.length_append, List.length_map, List.length_replicate]
    omega

/-- THE RULE: a def (or a method) of the text, by its body. The body's reading t is chosen for each entry; it is run at the parameters' values -/
theorem fn_of {CX : CXT} {P : Program} {w : World} {K : PySem.W.Frag} {mg : Str → Option Value} {base : Heap} {k : Nat} {f : Addr} {name qual : Str} {params : Arguments} {body : List Stmt} {scope : Scope} {dV kV doc pm cdv ct oc : Value} {an od : Option Addr}
    {osl : Array (Option Value)} {N ps : List Str} {sp : Sp} (lk : K.lookup f = some ⟨oc, od, .func (PySem.W.fnOf name qual params body scope dV kV doc pm an cdv ct), osl⟩) (hcd : PySem.W.codeIn K cdv qual = true) (S : FnScope N ps scope)
    (len : ∀ vs H Q E, sp vs H Q E → vs.length = ps.length)
    (hbody : ∀ (A : Around) (outer : List Env) (s : Shared) (H : Hp) (vs : List V) (Q : VK) (E : XK), Room k (A.deeper (envOfC qual scope s.heap.objs.size f cdv)) → sp vs H Q E →
      ∃ t, PSs (cxOf CX P w K mg base N qual scope f cdv A outer s H E) body t ∧ t { nx := fun _ H' => Q .non H', rt := Q } (start N vs) H) :
    FnOk P w K mg base CX (k + 1) f (PySem.W.fnOf name qual params body scope dV kV doc pm an cdv ct) ps sp := by
  refine ⟨len, fun A outer s H args us vs Q E hr e0 hb r hsp => ?_⟩
  have hl := len _ _ _ _ hsp
  have KX : K.In s.heap := e0.mod.kin.keeps fun b o e => (e0.bs b o e).1
  have lim : s.heap.NoLimit := e0.mod.nolimit.keeps fun b o e => (e0.bs b o e).1
  have hkind : ∀ y ∈ ps.zip us, scope.names.lookup y.1 = some .local ∨ (scope.names.lookup y.1 = some .cell ∧ ((cellsFrom (s.heap.objs.size + 1) scope.names []).lookup y.1).isSome = true) := fun ⟨n, v⟩ hy => by
    rcases S.par n (List.of_mem_zip hy).1 with q | q
    · exact .inl q
    · exact .inr ⟨q, PySem.W.cellsFrom_some _ _ _ (.inl q)⟩
  refine codeAny_call_function hr.depth (KX _ _ lk) rfl S.co S.gen rfl (PySem.W.codeRec_of KX hcd) (hb _ _ _ _ ?_)
  refine wpAny_newFunctionEnv_cells S.kind hkind fun env he s1 x => ?_
  subst he
  refine ⟨lim.keeps x.toInCall.keep, codeAny_func ?_⟩
  obtain ⟨t, ht, hq⟩ := hbody A outer s H vs Q E (hr.deeper _) hsp
  have I : Inv (cxOf CX P w K mg base N qual scope f cdv A outer s H E) [] (start N vs) H s1 := inv_start S hr.hd e0 hl r x
  refine wpAny_mono (ht [] s1 (start N vs) H _ I hq) (fun fl s' hs => ?_) fun e s' hs => hs
  have fin : ∀ {σ' : St} {H' : Hp} {v : V} {u : Value}, Inv (cxOf CX P w K mg base N qual scope f cdv A outer s H E) [] σ' H' s' → RelV v u → Q v H' → CE outer P w H s Q u s' :=
    fun {σ' H' v u} J rv q => ⟨v, H', J.os, J.bare, J.base, J.hok, rv, q⟩
  cases fl with
  | ret u =>
    obtain ⟨v, σ', H', J, rv, q⟩ := hs
    exact fin J rv q
  | next =>
    obtain ⟨σ', H', J, q⟩ := hs
    exact fin (v := V.non) (u := Value.none) J rfl q
  | brk =>
    obtain ⟨_, _, _, q⟩ := hs
    exact False.elim q
  | cont =>
    obtain ⟨_, _, _, q⟩ := hs
    exact False.elim q
end L2

namespace L2
open PySem PySem.Spec PyProof.Rows
section
variable {X : Cx} {x : Str} {p pos : Pos} {e : Expr} {es : List Expr} {t : TA} {id T : String} {r : List V → Hp → VK → Prop}

def tCB (r : List V → Hp → VK → Prop) (t : TA) : TE := fun σ H Q => t σ H fun vs H1 => r vs H1 Q
/-- f(e, ..), f a built-in function -/
theorem pe_callB (hc : CallR X (.builtin id) r) (hg : Gl X x) (hm : X.mg x = none) (hv : bootBuiltins x = some (.builtin id)) (ha : PA X (e :: es) t) (hn : x ≠ "__name__" := by decide) (hdb : (x == ("__debug__" : Str)) = false := by decide)
    (he : starEach (e :: es) X.env = (false, eval e X.env) :: starEach es X.env := by rfl) (hpl : (backTo pos (starEach es X.env)).any (·.1) = false := by rfl) : PE X (.Call (.Name x p) (e :: es) [] pos) (tCB r t) := by
  intro pins s σ H Q I h
  refine wpAny_Call_Name_kw (ld_blt I hg hm hv ?_ hn hdb)
  exact PyProof.Rows.callWith_builtin1 (thn (ha pos pins s σ H _ I h) fun us s1 ⟨vs, H1, I1, r1, q1⟩ => hc pins s1 σ H1 vs us Q I1 r1 q1) he hpl
/-- T(e, ..), T a built-in type -/
theorem pe_callTy (hc : CallR X (.type T) r) (hg : Gl X x) (hm : X.mg x = none) (hv : bootBuiltins x = some (.type T)) (ha : PA X (e :: es) t) (hn : x ≠ "__name__" := by decide) (hdb : (x == ("__debug__" : Str)) = false := by decide)
    (he : starEach (e :: es) X.env = (false, eval e X.env) :: starEach es X.env := by rfl) (hpl : (backTo pos (starEach es X.env)).any (·.1) = false := by rfl) : PE X (.Call (.Name x p) (e :: es) [] pos) (tCB r t) := by
  intro pins s σ H Q I h
  refine wpAny_Call_Name_kw (ld_blt I hg hm hv ?_ hn hdb)
  exact PyProof.Rows.callWith_type1 (thn (ha pos pins s σ H _ I h) fun us s1 ⟨vs, H1, I1, r1, q1⟩ => hc pins s1 σ H1 vs us Q I1 r1 q1) he hpl
end
end L2

namespace L2
open PySem PySem.Spec PyProof.Rows

/-! ### lists of pairs as tables -/
section
variable {κ : Type} [DecidableEq κ]
def valV (kvs : List (κ × V)) (k : κ) : Option V := (kvs.find? fun kv => decide (kv.1 = k)).map (·.2)
/-- in its place, or at the end -/
def putK (kvs : List (κ × V)) (k : κ) (v : V) : List (κ × V) :=
  if (kvs.any fun kv => decide (kv.1 = k)) = true then kvs.map (fun kv => if kv.1 = k then (kv.1, v) else kv) else kvs ++ [(k, v)]
def dropK (kvs : List (κ × V)) (k : κ) : List (κ × V) := kvs.filter fun kv => decide (kv.1 ≠ k)

theorem valV_pos {p : κ × V} {r : List (κ × V)} {k : κ} (e : p.1 = k) : valV (p :: r) k = some p.2 := by simp [valV, List.find?_cons, e]
theorem valV_neg {p : κ × V} {r : List (κ × V)} {k : κ} (e : ¬ p.1 = k) : valV (p :: r) k = valV r k := by simp [valV, List.find?_cons, e]
theorem valV_any (k : κ) : ∀ kvs : List (κ × V), (kvs.any fun kv => decide (kv.1 = k)) = (valV kvs k).isSome
  | [] => rfl
  | p :: r => by
    rw [List.any_cons]
    by_cases e : p.1 = k
    · simp only [valV_pos e, decide_eq_true e, Bool.true_or, Option.isSome_some]
    · rw [valV_neg e, decide_eq_false e, Bool.false_or]; exact valV_any k r
theorem valV_map (k j : κ) (y : V) : ∀ kvs : List (κ × V), valV (kvs.map fun kv => if kv.1 = k then (kv.1, y) else kv) j = (valV kvs j).map fun x => if j = k then y else x
  | [] => rfl
  | p :: r => by
    have ih := valV_map k j y r
    rw [List.map_cons]
    by_cases h : p.1 = k
    · rw [if_pos h]
      by_cases e : p.1 = j
      · rw [valV_pos (p := (p.1, y)) e, valV_pos e, Option.map_some, if_pos (e.symm.trans h)]
      · rw [valV_neg (p := (p.1, y)) e, valV_neg e, ih]
    · rw [if_neg h]
      by_cases e : p.1 = j
      · rw [valV_pos (p := p) e, valV_pos e, Option.map_some, if_neg (fun z => h (e.trans z))]
      · rw [valV_neg (p := p) e, valV_neg e, ih]
theorem valV_snoc (k j : κ) (y : V) : ∀ kvs : List (κ × V), valV kvs k = none → valV (kvs ++ [(k, y)]) j = if j = k then some y else valV kvs j
  | [], _ => by
    by_cases e : k = j
    · rw [if_pos e.symm]; exact valV_pos (p := (k, y)) e
    · rw [if_neg (fun z => e z.symm)]; exact valV_neg (p := (k, y)) e
  | p :: r, hn => by
    rw [List.cons_append]
    have hk : ¬ p.1 = k := fun z => by rw [valV_pos z] at hn; cases hn
    rw [valV_neg hk] at hn
    have ih := valV_snoc k j y r hn
    by_cases e : p.1 = j
    · rw [valV_pos e, valV_pos e, if_neg (fun z => hk (e.trans z))]
    · rw [valV_neg e, valV_neg e, ih]
theorem valV_put (kvs : List (κ × V)) (k j : κ) (y : V) : valV (putK kvs k y) j = if j = k then some y else valV kvs j := by
  unfold putK
  by_cases a : (kvs.any fun kv => decide (kv.1 = k)) = true
  · rw [if_pos a, valV_map]
    rw [valV_any] at a
    by_cases e : j = k
    · obtain ⟨x, hx⟩ := Option.isSome_iff_exists.mp a
      rw [if_pos e, e, hx, Option.map_some, if_pos rfl]
    · rw [if_neg e]
      cases valV kvs j with
      | none => rfl
      | some x => rw [Option.map_some, if_neg e]
  · rw [if_neg a]
    refine valV_snoc k j y kvs ?_
    rw [valV_any] at a
    cases q : valV kvs k with
    | none => rfl
    | some x => rw [q] at a; exact (a rfl).elim
theorem length_putK (kvs : List (κ × V)) (k : κ) (v : V) : (putK kvs k v).length ≤ kvs.length + 1 := by
  unfold putK
  split
  · rw [List.length_map]; omega
  · rw [List.length_append, List.length_cons, List.length_nil]; omega
theorem RelO.isSome_eq {o : Option V} {u : Option Value} (r : RelO o u) : o.isSome = u.isSome := by
  cases o with
  | none => cases u with
    | none => rfl
    | some _ => exact (show False from r).elim
  | some _ => cases u with
    | none => exact (show False from r).elim
    | some _ => rfl
/-- raw tables of the same keys -/
theorem KV.val {kvs : List (κ × V)} {vs : List (κ × Value)} (r : KV kvs vs) (k : κ) : RelO (valV kvs k) (valueAt vs k) := by
  unfold KV at r
  induction r with
  | nil => exact True.intro
  | @cons p q ps qs h t ih =>
    obtain ⟨h1, h2⟩ := h
    by_cases e : p.1 = k
    · have e' : q.1 = k := h1.symm.trans e
      have b : valueAt (q :: qs) k = some q.2 := by simp [valueAt, List.find?_cons, e']
      rw [valV_pos e, b]; exact h2
    · have e' : ¬ q.1 = k := fun z => e (h1.trans z)
      have b : valueAt (q :: qs) k = valueAt qs k := by simp [valueAt, List.find?_cons, e']
      rw [valV_neg e, b]; exact ih
theorem KV.any {kvs : List (κ × V)} {vs : List (κ × Value)} (r : KV kvs vs) (k : κ) : (kvs.any fun kv => decide (kv.1 = k)) = vs.any fun kv => decide (kv.1 = k) := by
  unfold KV at r
  induction r with
  | nil => rfl
  | cons h t ih => rw [List.any_cons, List.any_cons, ih, h.1]
theorem KV.repl {kvs : List (κ × V)} {vs : List (κ × Value)} (r : KV kvs vs) (k : κ) {y : V} {u : Value} (ry : RelV y u) :
    KV (kvs.map fun kv => if kv.1 = k then (kv.1, y) else kv) (vs.map fun kv => if kv.1 = k then (kv.1, u) else kv) := by
  unfold KV at r ⊢
  induction r with
  | nil => exact .nil
  | @cons p q ps qs h t ih =>
    rw [List.map_cons, List.map_cons]
    refine .cons ?_ ih
    obtain ⟨h1, h2⟩ := h
    by_cases e : p.1 = k
    · rw [if_pos e, if_pos (h1.symm.trans e)]; exact ⟨h1, ry⟩
    · rw [if_neg e, if_neg (fun z => e (h1.trans z))]; exact ⟨h1, h2⟩
theorem KV.put {kvs : List (κ × V)} {vs : List (κ × Value)} (r : KV kvs vs) (k : κ) {y : V} {u : Value} (ry : RelV y u) : KV (putK kvs k y) (stored vs k u) := by
  unfold putK stored
  rw [r.any k]
  by_cases e : (vs.any fun kv => decide (kv.1 = k)) = true
  · rw [if_pos e, if_pos e]; exact r.repl k ry
  · rw [if_neg e, if_neg e]; exact Paired.snoc r ⟨rfl, ry⟩
theorem KV.length {kvs : List (κ × V)} {vs : List (κ × Value)} (r : KV kvs vs) : kvs.length = vs.length := Paired.length r
end


/-! ### a tracked dict, its keys ints and texts or tuples of these -/
theorem kV_is {P : Program} {w : World} {k : Key} {u : Value} (r : RelV (kV k) u) : (mixKind P w).is k u = true := by
  cases k with
  | inl i => obtain ⟨t, e⟩ := (show ∃ t, u = Value.int i t from r); subst e; exact mixKind_int P w i t
  | inr x => obtain ⟨t, e⟩ := (show ∃ t, u = Value.str x t from r); subst e; exact mixKind_str P w x t
theorem kV_inj {a b : Key} (e : kV a = kV b) : a = b := by
  cases a with
  | inl i => cases b with
    | inl j => have e' : V.int i = V.int j := e; injection e' with e'; rw [e']
    | inr y => exact nomatch (show V.int i = V.str y from e)
  | inr x => cases b with
    | inl j => exact nomatch (show V.str x = V.int j from e)
    | inr y => have e' : V.str x = V.str y := e; injection e' with e'; rw [e']
theorem items_are {P : Program} {w : World} : ∀ {ks : List Key} {us : List Value}, Vals (ks.map kV) us → ItemsAre (mixKind P w) ks us
  | [], _, r => by rw [List.map_nil] at r; cases r; exact .nil
  | k :: ks, _, r => by
    rw [List.map_cons] at r
    cases r with
    | cons h t => exact .cons (kV_is h) (items_are t)

/-- raw entries of a dict with tuple keys -/
abbrev KT (H : Hp) : List (List Key × V) → List (List Key × Addr × Value) → Prop := Paired fun p q => p.1 = q.1 ∧ H q.2.1 = some (.tup (p.1.map kV)) ∧ RelV p.2 q.2.2
theorem KT.val {H : Hp} {kvs : List (List Key × V)} {xs : List (List Key × Addr × Value)} (r : KT H kvs xs) (k : List Key) : RelO (valV kvs k) ((atKey xs k).map (·.2)) := by
  induction r with
  | nil => exact True.intro
  | @cons p q ps qs h t ih =>
    obtain ⟨h1, _, h2⟩ := h
    by_cases e : p.1 = k
    · have e' : q.1 = k := h1.symm.trans e
      have b : atKey (q :: qs) k = some q.2 := by simp [atKey, List.find?_cons, e']
      rw [valV_pos e, b]; exact h2
    · have e' : ¬ q.1 = k := fun z => e (h1.trans z)
      have b : atKey (q :: qs) k = atKey qs k := by simp [atKey, List.find?_cons, e']
      rw [valV_neg e, b]; exact ih
theorem KT.repl {H : Hp} {kvs : List (List Key × V)} {xs : List (List Key × Addr × Value)} (r : KT H kvs xs) (k : List Key) {y : V} {u : Value} (ry : RelV y u) :
    KT H (kvs.map fun kv => if kv.1 = k then (kv.1, y) else kv) (xs.map (putAt k u)) := by
  induction r with
  | nil => exact .nil
  | @cons p q ps qs h t ih =>
    rw [List.map_cons, List.map_cons]
    refine .cons ?_ ih
    obtain ⟨h1, h2, h3⟩ := h
    unfold putAt
    by_cases e : p.1 = k
    · rw [if_pos e, if_pos (h1.symm.trans e)]; exact ⟨h1, h2, ry⟩
    · rw [if_neg e, if_neg (fun z => e (h1.trans z))]; exact ⟨h1, h2, h3⟩
theorem KT.put {H : Hp} {kvs : List (List Key × V)} {xs : List (List Key × Addr × Value)} (r : KT H kvs xs) (k : List Key) {b : Addr} {y : V} {u : Value} (hb : H b = some (.tup (k.map kV))) (ry : RelV y u) :
    KT H (putK kvs k y) (storedH xs k b u) := by
  have e : (kvs.any fun kv => decide (kv.1 = k)) = (atKey xs k).isSome := by
    rw [valV_any, (r.val k).isSome_eq, Option.isSome_map]
  unfold putK storedH
  rw [e]
  by_cases q : (atKey xs k).isSome = true
  · rw [if_pos q, if_pos q]; exact r.repl k ry
  · rw [if_neg q, if_neg q]; exact Paired.snoc r ⟨rfl, hb, ry⟩
theorem KT.keeps {H H' : Hp} {kvs : List (List Key × V)} {xs : List (List Key × Addr × Value)} (r : KT H kvs xs) (ht : ∀ b ys, H b = some (.tup ys) → H' b = some (.tup ys)) : KT H' kvs xs :=
  Paired.mapP r fun _ _ z => ⟨z.1, ht _ _ z.2.1, z.2.2⟩

section
variable {P : Program} {w : World} {H : Hp} {h : Heap} {a : Addr}
theorem rd_of {u : HO} (ok : HOk P w H h) (e : Rd H a u) : ObjOk P w H h a u := e.ok ok
theorem dk_rd {kvs : List (Key × V)} (ok : HOk P w H h) (e : Rd H a (.dK kvs)) : kvs.length ≤ sizeLine ∧ (a == sysModules) = false ∧ ∃ vs, KV kvs vs ∧ h.DictOf (mixKind P w) a vs :=
  show ObjOk P w H h a (.dK kvs) from rd_of ok e
theorem dk_of {kvs : List (Key × V)} (ok : HOk P w H h) (e : H a = some (.dK kvs)) : kvs.length ≤ sizeLine ∧ (a == sysModules) = false ∧ ∃ vs, KV kvs vs ∧ h.DictOf (mixKind P w) a vs := dk_rd ok (.inl e)
/-- a tracked tuple of ints and texts is a key -/
theorem key_of {ks : List Key} (ok : HOk P w H h) (e : H a = some (.tup (ks.map kV))) : (tupleKind (mixKind P w)).is h ks a := by
  obtain ⟨_, its, r, o, h1, h2, n, h3⟩ := (show ObjOk P w H h a (.tup (ks.map kV)) from ok a _ e)
  exact ⟨o, its.toArray, n, h1, h2, h3, by simpa using items_are r⟩
theorem dt_rd {kvs : List (List Key × V)} (ok : HOk P w H h) (e : Rd H a (.dT kvs)) : kvs.length ≤ sizeLine ∧ (a == sysModules) = false ∧
    ∃ xs, KT H kvs xs ∧ h.DictOfH (tupleKind (mixKind P w)) a xs := by
  obtain ⟨z, y, xs, r, o, es, ep, h1, h2, h3, h4, h5⟩ := (show ObjOk P w H h a (.dT kvs) from rd_of ok e)
  refine ⟨z, y, xs, r, o, es, ep, h1, h2, h3, h4, fun x hx => ?_, h5⟩
  have all : ∀ {l : List (List Key × V)} {m : List (List Key × Addr × Value)}, KT H l m → ∀ x ∈ m, (tupleKind (mixKind P w)).is h x.1 x.2.1 := by
    intro l m q
    induction q with
    | nil => intro x hx; exact nomatch hx
    | @cons p q ps qs hq t ih =>
      intro x hx
      rcases List.mem_cons.mp hx with e | hx
      · subst e
        exact key_of ok (by rw [← hq.1]; exact hq.2.1)
      · exact ih x hx
  exact all r x hx
theorem dt_of {kvs : List (List Key × V)} (ok : HOk P w H h) (e : H a = some (.dT kvs)) : kvs.length ≤ sizeLine ∧ (a == sysModules) = false ∧
    ∃ xs, KT H kvs xs ∧ h.DictOfH (tupleKind (mixKind P w)) a xs := dt_rd ok (.inl e)
end

/-- what the dict at a holds at the key y -/
def DGet (H : Hp) (a : Addr) (y : V) (r : Option V) : Prop :=
  (∃ kvs k, Rd H a (.dK kvs) ∧ y = kV k ∧ r = valV kvs k) ∨ ∃ kvs k b, Rd H a (.dT kvs) ∧ y = .ref b ∧ H b = some (.tup (k.map kV)) ∧ r = valV kvs k
/-- the heap behind a[y] = v -/
def DPut (H : Hp) (a : Addr) (y v : V) (H' : Hp) : Prop :=
  (∃ kvs k, H a = some (.dK kvs) ∧ y = kV k ∧ kvs.length < sizeLine ∧ H' = upd H a (.dK (putK kvs k v))) ∨
  ∃ kvs k b, H a = some (.dT kvs) ∧ y = .ref b ∧ H b = some (.tup (k.map kV)) ∧ kvs.length < sizeLine ∧ H' = upd H a (.dT (putK kvs k v))
theorem DPut.t {H : Hp} {a b : Addr} {kvs : List (List Key × V)} {k : List Key} {v : V} (e : H a = some (.dT kvs)) (eb : H b = some (.tup (k.map kV))) (hl : kvs.length < sizeLine) :
    DPut H a (.ref b) v (upd H a (.dT (putK kvs k v))) := .inr ⟨kvs, k, b, e, rfl, eb, hl, rfl⟩


section
variable {X : Cx} {pins : List (Addr × Obj)} {σ : St} {H : Hp} {s : Shared} {a : Addr} {y v : V} {u r : Value} {o : Option V} {A : Around} {E : Value → Shared → Prop}

theorem Inv.big (I : Inv X pins σ H s) : sysModules < s.heap.objs.size := by
  have h : mainGlobals < s.heap.objs.size := (I.mod.glob.keeps I.bk).lt
  exact Nat.lt_trans (by decide) h

/-- d[y], there -/
theorem d_getItem {Q : Value → Shared → Prop} (hu : A.units + 1 < cLine) (I : Inv X pins σ H s) (g : DGet H a y (some v)) (ry : RelV y u) (h : ∀ w' s', Inv X pins σ H s' → RelV v w' → Q w' s') :
    wpAny (model X.prog X.w) A (getItem (.ref a) u) Q E s := by
  rcases g with ⟨kvs, k, e, ey, l⟩ | ⟨kvs, k, b, e, ey, eb, l⟩
  · subst ey
    obtain ⟨z, hd, vs, rel, dd⟩ := dk_rd I.hok e
    obtain ⟨w', hw, rw'⟩ := RelO.some_of (v := v) (o := valueAt vs k) (by rw [l]; exact rel.val k)
    exact wpAny_getItem_of (kV_is ry) dd.mapOf hw (h w' _ (I.tok _) rw')
  · subst ey
    cases (show u = Value.ref b from ry)
    obtain ⟨z, hd, xs, rel, dd⟩ := dt_rd I.hok e
    obtain ⟨w', hw, rw'⟩ := RelO.some_of (v := v) (o := (atKey xs k).map (·.2)) (by rw [l]; exact rel.val k)
    obtain ⟨p, hp, hp2⟩ := Option.map_eq_some_iff.mp hw
    refine wpAny_getItem_heap (tupleKind_room_in1 hu) (key_of I.hok eb) dd hp ?_
    rw [hp2]
    exact h w' _ (I.tok _) rw'
/-- a dict's object is replaced -/
theorem d_write {h' : Heap} {t' : Nat} {ob : HO} (I : Inv X pins σ H s) (mu : Mut (H a)) (hs : Heap.SameBut a s.heap h') (he : ∃ q, h'.get? a = some q) (new : ObjOk X.prog X.w (upd H a ob) h' a ob) :
    Inv X pins σ (upd H a ob) { s with heap := h', toks := t' } :=
  I.write (x := a) (e := a) mu (.inl rfl) (fun b q hb z => (hs.2 b hb).trans z) he new
theorem dk_new {P : Program} {w : World} {H' : Hp} {h' : Heap} {kvs : List (Key × V)} {vs : List (Key × Value)} (z : kvs.length ≤ sizeLine) (hd : (a == sysModules) = false) (rel : KV kvs vs) (dd : h'.DictOf (mixKind P w) a vs) :
    ObjOk P w H' h' a (.dK kvs) := ⟨z, hd, vs, rel, dd⟩
/-- d[y] = v -/
theorem d_setItem {H' : Hp} {Q : Unit → Shared → Prop} (hu : A.units + 1 < cLine) (I : Inv X pins σ H s) (g : DPut H a y v H') (ry : RelV y u) (rv : RelV v r) (h : ∀ s', Inv X pins σ H' s' → Q () s') :
    wpAny (model X.prog X.w) A (setItem (.ref a) u r) Q E s := by
  rcases g with ⟨kvs, k, e, ey, l, eH⟩ | ⟨kvs, k, b, e, ey, eb, l, eH⟩
  · subst ey eH
    obtain ⟨z, hd, vs, rel, dd⟩ := dk_of I.hok e
    have hz : vs.length ≤ sizeLine := by rw [← rel.length]; exact z
    have hl : (putK kvs k v).length ≤ sizeLine := by have := length_putK kvs k v; omega
    refine wpAny_setItem_pairs (hsz := hz) (kV_is ry) dd fun h' dd' hs => h _ ?_
    have he : ∃ q, h'.get? a = some q := let ⟨q, _, _, hq, _⟩ := dd'; ⟨q, hq⟩
    exact d_write I (by rw [e]; exact True.intro) hs he (dk_new hl hd (rel.put k rv) dd')
  · subst ey eH
    cases (show u = Value.ref b from ry)
    obtain ⟨z, hd, xs, rel, dd⟩ := dt_of I.hok e
    have hz : xs.length ≤ sizeLine := by rw [← Paired.length rel]; exact z
    have hl : (putK kvs k v).length ≤ sizeLine := by have := length_putK kvs k v; omega
    refine wpAny_setItem_heap (hsz := hz) (tupleKind_room_in1 hu) (key_of I.hok eb) dd fun h' dd' hs => h _ ?_
    obtain ⟨q, es, ep, hq, h2, h3, h4, _, h5⟩ := dd'
    refine d_write I (by rw [e]; exact True.intro) hs ⟨q, hq⟩ ⟨hl, hd, _, (rel.put k eb rv).keeps fun c ys ec => ?_, q, es, ep, hq, h2, h3, h4, h5⟩
    rw [upd_ne (ne_of ec e (fun z => nomatch z))]
    exact ec
end

section
variable {X : Cx} {pins : List (Addr × Obj)} {σ : St} {H : Hp} {s : Shared} {a : Addr} {kvs : List (Key × V)} {k : Key} {u : Value} {A : Around} {E : Value → Shared → Prop}
end


/-! ### readings and rules -/
/-- the element of a subscription, not a slice -/
def NoSl (i : Expr) : Prop := ∀ ov iv, subscripted i false ov iv = operate [ov, iv] (getItem ov iv)
theorem subD_of {prog : Program} {w : World} {A : Around} {E : Value → Shared → Prop} {s : Shared} {env : Env} {value slice : Expr} {pos : Pos} {T id : String} {Q : Value → Shared → Prop}
    (hl : typeLookup (.type T) "__getitem__" = pure (some (.builtin id))) (hs : NoSl slice)
    (h : wpAny (model prog w) A (eval value env) (fun o s₁ => wpAny (model prog w) A (eval slice env) (fun i s₂ => s₂.TypeIs o T ∧ wpAny (model prog w) A (getItem o i) Q E s₂) E s₁) E s) :
    wpAny (model prog w) A (eval (.Subscript value slice pos) env) Q E s := by
  refine Subscript_ (wpAny_mono h (fun o s₁ h₁ => wpAny_mono h₁ (fun i s₂ h₂ => ?_) fun _ _ x => x) fun _ _ x => x)
  obtain ⟨hT, h₂⟩ := h₂
  unfold subscriptTail
  refine wpAny_bind ?_
  rw [getitemInPython_of_ne hT.not_modules]
  refine wpAny_bind (wpAny_specialOf hT hl ?_)
  have fin : wpAny (model prog w) A (subscripted slice false o i) (fun r s₃ => wpAny (model prog w) A (letTemporaryGo value o r >>= fun _ => pure r) Q E s₃) E s₂ := by
    rw [hs o i]
    exact wpAny_operating (wpAny_mono h₂ (fun r s₃ h₃ => wpAny_bind (wpAny_letTemporaryGo (wpAny_pure h₃))) fun _ _ x => x)
  first
    | exact wpAny_pure (wpAny_bind fin)
    | exact wpAny_bind (wpAny_pure (wpAny_bind fin))
    | exact wpAny_bind fin

theorem dict_typeIs {X : Cx} {pins : List (Addr × Obj)} {σ : St} {H : Hp} {s : Shared} {a : Addr} {y : V} {o : Option V} (I : Inv X pins σ H s) (g : DGet H a y o) : s.TypeIs (.ref a) "dict" := by
  rcases g with ⟨kvs, k, e, _, _⟩ | ⟨kvs, k, b, e, _, _, _⟩
  · obtain ⟨_, _, vs, _, dd⟩ := dk_rd I.hok e
    exact dd.typeIs
  · obtain ⟨_, _, xs, _, dd⟩ := dt_rd I.hok e
    exact dd.typeIs
/-- d[y] -/
def tDGet (td ty : TE) : TE := fun σ H Q => td σ H fun x H1 => ty σ H1 fun y H2 => ∃ a v, x = .ref a ∧ DGet H2 a y (some v) ∧ Q v H2
/-- y in d, y not in d -/
def tDIn (ty td : TE) : TE := fun σ H Q => ty σ H fun y H1 => td σ H1 fun x H2 => ∃ a o, x = .ref a ∧ DGet H2 a y o ∧ Q (.bl o.isSome) H2
def tDNotIn (ty td : TE) : TE := fun σ H Q => ty σ H fun y H1 => td σ H1 fun x H2 => ∃ a o, x = .ref a ∧ DGet H2 a y o ∧ Q (.bl (!o.isSome)) H2
/-- d[y] = v -/
def sDPut (td ty tv : TE) : TS := fun D σ H => tv σ H fun v H1 => td σ H1 fun x H2 => ty σ H2 fun y H3 => ∃ a H4, x = .ref a ∧ DPut H3 a y v H4 ∧ D.nx σ H4
/-- d[y] op= v -/
def sDAug (td ty tv : TE) (rd : V → V → Hp → VK → Prop) : TS := fun D σ H => td σ H fun x H1 => ty σ H1 fun y H2 => ∃ a v, x = .ref a ∧ DGet H2 a y (some v) ∧
  tv σ H2 fun y2 H3 => rd v y2 H3 fun z H4 => ∃ H5, DPut H4 a y z H5 ∧ D.nx σ H5
/-- del d[y] -/
def sDDel (td ty : TE) : TS := fun D σ H => td σ H fun x H1 => ty σ H1 fun y H2 => ∃ a kvs k, x = .ref a ∧ H2 a = some (.dK kvs) ∧ y = kV k ∧ (valV kvs k).isSome = true ∧ D.nx σ (upd H2 a (.dK (dropK kvs k)))

section
variable {X : Cx} {o i e value : Expr} {pos pos' tpos : Pos} {td ty tv : TE}
theorem pe_dget (hu : X.A.units + 1 < cLine) (ho : PE X o td) (hi : PE X i ty) (hs : NoSl i) : PE X (.Subscript o i pos) (tDGet td ty) := by
  intro pins s σ H Q I h
  refine subD_of PySem.F.slot_dict_getitem.lookup hs (thn (ho pins s σ H _ I h) fun u s1 ⟨x, H1, I1, rx, q1⟩ => thn (hi pins s1 σ H1 _ I1 q1) fun iv s2 ⟨y, H2, I2, ry, a, v, ex, g, q2⟩ => ?_)
  subst ex
  obtain rfl : u = Value.ref a := rx
  exact ⟨dict_typeIs I2 g, d_getItem hu I2 g ry fun w' s3 I3 rw' => ⟨v, H2, I3, rw', q2⟩⟩
theorem ps_dput (hu : X.A.units + 1 < cLine) (ho : PE X o td) (hi : PE X i ty) (hv : PE X value tv) (hs : swapsWith value (some (.Subscript o i pos')) pos.line X.env = pure false) :
    PS X (.Assign [.Subscript o i pos'] value pos) (sDPut td ty tv) := by
  intro pins s σ H D I h
  refine wpAny_Assign_Subscript (thn (hv pins s σ H _ I h) fun r s1 ⟨v, H1, I1, rv, q1⟩ => thn (ho pins s1 σ H1 _ I1 q1) fun u s2 ⟨x, H2, I2, rx, q2⟩ => thn (hi pins s2 σ H2 _ I2 q2) fun iv s3 ⟨y, H3, I3, ry, a, H4, ex, g, q3⟩ => ?_) hs
  subst ex
  obtain rfl : u = Value.ref a := rx
  exact d_setItem hu I3 g ry rv fun s4 I4 => ⟨σ, H4, I4, q3⟩
end


/-! ### displays -/
theorem dt_empty {P : Program} {w : World} {H : Hp} (h : Heap) (hb : sysModules < h.objs.size) : ObjOk P w H (h.push { cls := .type "dict", data := .dict #[] }) h.objs.size (.dT []) :=
  ⟨Nat.zero_le _, beq_eq_false_iff_ne.mpr (Ne.symm (Nat.ne_of_lt hb)), [], .nil, _, #[], 0, Heap.get?_push_size _ rfl, ⟨rfl, rfl, rfl⟩, rfl, rfl, List.nodup_nil⟩
/-- {}, to be a dict of the kind that is wanted -/
def tDNewK : TE := fun _ H Q => ∀ p, H p = none → Q (.ref p) (upd H p (.dK []))
def tDNewT : TE := fun _ H Q => ∀ p, H p = none → Q (.ref p) (upd H p (.dT []))
section
variable {X : Cx} {pos : Pos}
theorem pe_dnewT : PE X (.Dict [] [] pos) tDNewT := fun pins s σ H Q I h =>
  wpAny_Dict_empty ⟨.ref s.heap.objs.size, _, I.laid (a := s.heap.objs.size) (o := .dT []) (t' := s.toks) (fun _ _ q => Heap.get?_push_of_some _ q) (Nat.le_refl _) (dt_empty s.heap I.big), rfl, h _ (I.hok.fresh (Nat.le_refl _))⟩
end

/-- the pairs of a display, from the left -/
def tPairs : List (TE × TE) → St → Hp → (List (V × V) → Hp → Prop) → Prop
  | [], _, H, Q => Q [] H
  | (tk, tv) :: r, σ, H, Q => tk σ H fun x H1 => tv σ H1 fun y H2 => tPairs r σ H2 fun ps H3 => Q ((x, y) :: ps) H3
abbrev VV : List (V × V) → List (Value × Value) → Prop := Paired fun p q => RelV p.1 q.1 ∧ RelV p.2 q.2
def PPs (X : Cx) (pos : Pos) (keys : List (Option Expr)) (values : List Expr) (trs : List (TE × TE)) : Prop :=
  ∀ (pins : List (Addr × Obj)) (s : Shared) (σ : St) (H : Hp) (Q : List (V × V) → Hp → Prop), Inv X pins σ H s → tPairs trs σ H Q →
    wpAny (model X.prog X.w) X.A (evalPairs (pairTrees keys values X.env pos)) (fun vs s' => ∃ ps H', Inv X pins σ H' s' ∧ VV ps vs ∧ Q ps H') X.xe s
def mergeK (kvs more : List (Key × V)) : List (Key × V) := more.foldl (fun acc kv => putK acc kv.1 kv.2) kvs
/-- {k: v, ..} with keys ints and texts; the new dict stands empty while the pairs are made -/
def tDisp (trs : List (TE × TE)) : TE := fun σ H Q => ∀ p, H p = none → tPairs trs σ (upd H p (.dK [])) fun ps H2 => H2 p = some (.dK []) ∧ ∃ kvs : List (Key × V), ps = kvs.map (fun kv => (kV kv.1, kv.2)) ∧ kvs.length ≤ 15 ∧ Q (.ref p) (upd H2 p (.dK (mergeK [] kvs)))
/-! ### methods -/
/-- a method call o.m(e) of a built-in, with one argument: what must be seen of the text -/
structure M1 (X : Cx) (o : Expr) (m : Str) (apos : Pos) (e : Expr) (cpos : Pos) : Prop where
  base : attributeBase o m X.env (eval o X.env) = eval o X.env
  few : ((backTo cpos (starEach [e] X.env)).all (fun x => !x.1) && (backToKw cpos (keywordEach [] X.env)).all (fun x => x.1.isSome)
    && decide (([e] : List Expr).length + ([] : List Keyword).length + (if ([] : List Keyword).isEmpty then 0 else 1) < 30)) = true
  line : (apos.endLine == cpos.line) = true
  trees : backTo cpos (starEach [e] X.env) = [(false, eval e X.env)]
structure M2 (X : Cx) (o : Expr) (m : Str) (apos : Pos) (e f : Expr) (cpos : Pos) : Prop where
  base : attributeBase o m X.env (eval o X.env) = eval o X.env
  few : ((backTo cpos (starEach [e, f] X.env)).all (fun x => !x.1) && (backToKw cpos (keywordEach [] X.env)).all (fun x => x.1.isSome)
    && decide (([e, f] : List Expr).length + ([] : List Keyword).length + (if ([] : List Keyword).isEmpty then 0 else 1) < 30)) = true
  line : (apos.endLine == cpos.line) = true
  trees : backTo cpos (starEach [e, f] X.env) = [(false, eval e X.env), (false, eval f X.env)]

/-- a is a dict, whatever its keys -/
def IsD (H : Hp) (a : Addr) : Prop := (∃ kvs, Rd H a (.dK kvs)) ∨ ∃ kvs, Rd H a (.dT kvs)
section
variable {X : Cx} {pins : List (Addr × Obj)} {σ : St} {H : Hp} {s : Shared} {a : Addr} {y d : V} {u r : Value} {o : Option V} {A : Around} {E : Value → Shared → Prop}
end

def tDGet1 (td ty : TE) : TE := fun σ H Q => td σ H fun x H1 => ∃ a, x = .ref a ∧ IsD H1 a ∧ ty σ H1 fun y H2 => ∃ o, DGet H2 a y o ∧ Q (o.getD .non) H2
def tDGet2 (td ty tx : TE) : TE := fun σ H Q => td σ H fun x H1 => ∃ a, x = .ref a ∧ IsD H1 a ∧ ty σ H1 fun y H2 => tx σ H2 fun z H3 => ∃ o, DGet H3 a y o ∧ Q (o.getD z) H3
/-- d.pop(k): there; d.pop(k, x): there or not -/
def tDPop1 (td ty : TE) : TE := fun σ H Q => td σ H fun x H1 => ∃ a, x = .ref a ∧ IsD H1 a ∧ ty σ H1 fun y H2 => ∃ kvs k v, H2 a = some (.dK kvs) ∧ y = kV k ∧ valV kvs k = some v ∧ Q v (upd H2 a (.dK (dropK kvs k)))
def tDPop2 (td ty tx : TE) : TE := fun σ H Q => td σ H fun x H1 => ∃ a, x = .ref a ∧ IsD H1 a ∧ ty σ H1 fun y H2 => tx σ H2 fun z H3 => ∃ kvs k, H3 a = some (.dK kvs) ∧ y = kV k ∧
  (∀ v, valV kvs k = some v → Q v (upd H3 a (.dK (dropK kvs k)))) ∧ (valV kvs k = none → Q z H3)
section
variable {X : Cx} {o e f : Expr} {apos cpos : Pos} {td ty tx : TE}
end

/-! ### dict(d): a copy -/
section
variable {X : Cx} {pins : List (Addr × Obj)} {σ : St} {H : Hp} {s : Shared} {a : Addr} {kvs : List (Key × V)} {A : Around} {E : Value → Shared → Prop}
end


section
variable {X : Cx} {pins : List (Addr × Obj)} {σ : St} {H : Hp} {s : Shared} {a : Addr} {y : V} {u : Value} {A : Around} {E : Value → Shared → Prop}
end
end L2

namespace HT
open PySem PyProof.Rows

/-- t < u of tuples of ints -/
def lexLt : List Int → List Int → Bool
  | [], [] => false
  | [], _ :: _ => true
  | _ :: _, [] => false
  | x :: xs, y :: ys => if x = y then lexLt xs ys else decide (x < y)
theorem eqAt_int (A : Around) (s : Shared) (a : Int) (t : Tok) (c : Int) (u : Tok) : ∃ e, SeqAt.EqAt A s (.int a t) (.int c u) e ∧ (e = true ↔ a = c) :=
  ⟨(a == c), SeqAt.EqAt.int_int a t c u, by simp⟩
section
open PySem.SeqAt
open PySem.AutoSeq1 (wpAny_loadPart')
open PySem.MeetsSeq PySem.MeetsSeq2 PySem.MeetsSeq3

end

section
variable {prog : Program} {w : World} {A : Around} {E : Value → Shared → Prop} {s : Shared}

/-! ### t[a:b], not the whole -/
/-- a slice's bound as a place among n (d where it is left out) -/
def sIx (n d : Nat) : Option Int → Nat
  | none => d
  | some v => if v < 0 then (v + (n : Int)).toNat else min v.toNat n
theorem sIx_none (n d : Nat) : sIx n d none = d := rfl
theorem sIx_nat (n d k : Nat) : sIx n d (some (k : Int)) = min k n := by
  show (if (k : Int) < 0 then ((k : Int) + (n : Int)).toNat else min (k : Int).toNat n) = min k n
  rw [if_neg (by omega), Int.toNat_natCast]
theorem sIx_le (n d : Nat) (hd : d ≤ n) (o : Option Int) : sIx n d o ≤ n := by
  cases o with
  | none => exact hd
  | some v =>
    show (if v < 0 then (v + (n : Int)).toNat else min v.toNat n) ≤ n
    by_cases hv : v < 0
    · rw [if_pos hv]; omega
    · rw [if_neg hv]; exact Nat.min_le_right _ _
theorem clip_eq (v : Int) (n d : Nat) : (if v < 0 then max (v + (n : Int)) 0 else min v (n : Int)) = ((sIx n d (some v) : Nat) : Int) := by
  show (if v < 0 then max (v + (n : Int)) 0 else min v (n : Int)) = (((if v < 0 then (v + (n : Int)).toNat else min v.toNat n) : Nat) : Int)
  by_cases hv : v < 0
  · simp only [if_pos hv]; omega
  · simp only [if_neg hv]; omega
theorem adjust_gen (lo hi : Option Int) (n : Nat) : Builtin.Slice.sliceAdjust lo hi 1 (n : Int) = (((sIx n 0 lo : Nat) : Int), ((sIx n n hi : Nat) : Int)) := by
  have h1 : ¬ ((1 : Int) < 0) := by omega
  unfold Builtin.Slice.sliceAdjust
  simp only [h1, if_false]
  refine Prod.ext ?_ ?_
  · cases lo with
    | none => rfl
    | some v => exact clip_eq v n 0
  · cases hi with
    | none => rfl
    | some v => exact clip_eq v n n
theorem places_gen (i j : Nat) : Builtin.Slice.slicePlaces (i : Int) (j : Int) 1 = j - i := by
  unfold Builtin.Slice.slicePlaces
  have h1 : (1 : Int) > 0 := by omega
  simp only [h1, if_true, Int.ediv_one]
  split <;> omega
theorem slicePart_ {v : Value} {o : Option Int} {Q : Option Int → Shared → Prop} (p : IsPart v o) (h : Q o s) : wpAny (model prog w) A (Builtin.Slice.slicePartIndex v) Q E s := by
  cases p with
  | none => exact slicePart_none h
  | int i t => exact slicePart_int h
theorem sliceApplied_gen {sl : Addr} {vl vu : Value} {lo hi : Option Int} {n : Nat} {Q : Int × Int × Nat → Shared → Prop} (hs : s.heap.IsSliceOf sl vl vu .none) (pl : IsPart vl lo) (pu : IsPart vu hi)
    (h : Q (((sIx n 0 lo : Nat) : Int), 1, sIx n n hi - sIx n 0 lo) s) : wpAny (model prog w) A (Builtin.Slice.sliceApplied (.ref sl) (pure (n : Int))) Q E s := by
  obtain ⟨os, hos, hcs, hds⟩ := id hs
  unfold Builtin.Slice.sliceApplied Builtin.Slice.sliceFields
  refine wpAny_bind (wpAny_bind (wpAny_field hos hds (x := vl) rfl (wpAny_bind (wpAny_field hos hds (x := vu) rfl (wpAny_bind (wpAny_field hos hds (x := .none) rfl (wpAny_pure ?_)))))))
  refine wpAny_bind (slicePart_none ?_)
  show wpAny _ _ (if ((1 : Int) == 0) = true then _ else _) _ _ s
  rw [if_neg (by decide)]
  refine wpAny_bind (slicePart_ pl (wpAny_bind (slicePart_ pu (wpAny_bind (wpAny_pure ?_)))))
  show wpAny _ _ (match Builtin.Slice.sliceAdjust lo hi 1 (n : Int) with | (lo, hi) => pure (lo, (1 : Int), Builtin.Slice.slicePlaces lo hi 1)) _ _ s
  rw [adjust_gen lo hi n]
  show wpAny _ _ (pure (((sIx n 0 lo : Nat) : Int), (1 : Int), Builtin.Slice.slicePlaces ((sIx n 0 lo : Nat) : Int) ((sIx n n hi : Nat) : Int) 1)) _ _ s
  rw [places_gen]
  exact wpAny_pure h
theorem pick_gen (xs : Array Value) (i k : Nat) : ((List.range k).filterMap fun (m : Nat) => xs[((i : Int) + (m : Int) * 1).toNat]?).toArray = ((xs.toList.drop i).take k).toArray := by
  have e : (fun (m : Nat) => xs[((i : Int) + (m : Int) * 1).toNat]?) = fun m => xs[i + m]? := by
    funext m
    have : ((i : Int) + (m : Int) * 1).toNat = i + m := by omega
    rw [this]
  rw [e]
  have := pick_run xs i k
  rw [List.filterMap_map] at this
  have e2 : ((fun x => xs[x]?) ∘ fun x => i + x) = fun m => xs[i + m]? := rfl
  rw [e2] at this
  rw [this]

theorem getItem_tuple_cut {t sl : Addr} {items : Array Value} {vl vu : Value} {lo hi : Option Int} {Q : Value → Shared → Prop} (ht : IsTup s.heap t items) (hs : s.heap.IsSliceOf sl vl vu .none) (pl : IsPart vl lo) (pu : IsPart vu hi)
    (hw : ¬ (sIx items.size 0 lo = 0 ∧ sIx items.size items.size hi = items.size))
    (h : Q (.ref s.heap.objs.size) { s with heap := s.heap.push { cls := .type "tuple", data := .seq ((items.toList.drop (sIx items.size 0 lo)).take (sIx items.size items.size hi - sIx items.size 0 lo)).toArray } })
    (hsz : items.size ≤ sizeLine) : wpAny (model prog w) A (getItem (.ref t) (.ref sl)) Q E s := by
  have htake : sizeOk (.seq ((items.toList.drop (sIx items.size 0 lo)).take (sIx items.size items.size hi - sIx items.size 0 lo)).toArray) := by
    show ((items.toList.drop (sIx items.size 0 lo)).take (sIx items.size items.size hi - sIx items.size 0 lo)).toArray.size ≤ sizeLine
    rw [List.size_toArray, List.length_take, List.length_drop, Array.length_toList]
    omega
  have hj : sIx items.size items.size hi ≤ items.size := sIx_le _ _ (Nat.le_refl _) hi
  obtain ⟨os, hos, hcs, hds⟩ := id hs
  have hTs : s.TypeIs (.ref sl) "slice" := ⟨os, hos, hcs⟩
  unfold getItem
  try with_reducible refine wpAny_holding ?_
  first | refine wpAny_bind (wpAny_pure ?_) | skip
  refine wpAny_bind (wpAny_sequenceKey ht.typeIs (by decide) ?_)
  refine wpAny_bind (wpAny_callSpecial?_slot (name := Str.ofString "__getitem__") ht.typeIs PyProof.Rows.slot_tuple_getitem
    (wpAny_call_entry PyProof.Rows.slot_tuple_getitem ht.typeIs entry_tuple_getitem ?_ (args_tuple_getitem _ _)))
  show wpAny _ _ (Builtin.Tuple.tupleItemsOf (.ref t) >>= _) _ _ s
  refine wpAny_bind (tupleItemsOf_ ht ?_)
  refine wpAny_bind (wpAny_typeOf hTs ?_)
  rw [if_pos (by decide)]
  refine wpAny_bind (sliceApplied_gen hs pl pu ?_)
  have hno : ¬ ((((sIx items.size 0 lo : Nat) : Int) == 0 && (1 : Int) == 1 && (sIx items.size items.size hi - sIx items.size 0 lo) == items.size) = true) := by
    intro q
    rw [Bool.and_eq_true, Bool.and_eq_true] at q
    have q1 : ((sIx items.size 0 lo : Nat) : Int) = 0 := eq_of_beq q.1.1
    have q2 : sIx items.size items.size hi - sIx items.size 0 lo = items.size := eq_of_beq q.2
    exact hw ⟨by omega, by omega⟩
  show wpAny _ _ (if (((sIx items.size 0 lo : Nat) : Int) == 0 && (1 : Int) == 1 && (sIx items.size items.size hi - sIx items.size 0 lo) == items.size) = true then _ else _) _ _ s
  rw [if_neg hno, pick_gen]
  first
    | exact wpAny_bind (m := Builtin.Tuple.tupleExact _) (wpAny_newObj_type (wpAny_pure ⟨_, rfl, wpAny_pure h⟩) htake)
    | exact wpAny_bind (m := Builtin.Tuple.tupleExact _) (wpAny_newObj_type (wpAny_bind (wpAny_pure (wpAny_pure ⟨_, rfl, wpAny_pure h⟩))) htake)
    | exact wpAny_bind (wpAny_bind (m := Builtin.Tuple.tupleExact _) (wpAny_newObj_type (wpAny_pure (wpAny_pure ⟨_, rfl, wpAny_pure h⟩)) htake))
    | exact wpAny_bind (wpAny_bind (m := Builtin.Tuple.tupleExact _) (wpAny_newObj_type (wpAny_pure ⟨_, rfl, wpAny_pure h⟩) htake))
end
end HT

namespace L2
open PySem PySem.Spec PyProof.Rows

/-! ### the parts of a slice -/
abbrev TO := St → Hp → (Option Int → Hp → Prop) → Prop
/-- a slice's part (left out, or an int) -/
def PO (X : Cx) (e : Option Expr) (t : TO) : Prop :=
  ∀ (pins : List (Addr × Obj)) (s : Shared) (σ : St) (H : Hp) (Q : Option Int → Hp → Prop), Inv X pins σ H s → t σ H Q →
    wpAny (model X.prog X.w) X.A (evalPart e X.env) (fun u s' => ∃ o H', Inv X pins σ H' s' ∧ IsPart u o ∧ Q o H') X.xe s
def tNoPart : TO := fun _ H Q => Q none H
def tPart (t : TE) : TO := fun σ H Q => t σ H fun x H1 => ∃ i, x = .int i ∧ Q (some i) H1

theorem intsAre_of {ns : List Int} : ∀ {us : List Value}, Vals (ns.map V.int) us → IntsAre us ns := by
  induction ns with
  | nil => intro us r; rw [List.map_nil] at r; cases r; exact .nil
  | cons n ns ih =>
    intro us r
    rw [List.map_cons] at r
    cases r with
    | cons r1 r2 =>
      obtain ⟨t, e⟩ := r1
      subst e
      exact .cons n t (ih r2)

section
variable {X : Cx} {e : Expr} {te : TE} {lo hi : Option Expr} {tl th : TO} {pos p2 : Pos}

theorem po_none : PO X none tNoPart := by
  intro pins s σ H Q I h
  rw [evalPart_none]
  exact wpAny_pure ⟨none, H, I, .none, h⟩
theorem po_some (h : PE X e te) : PO X (some e) (tPart te) := by
  intro pins s σ H Q I hw
  rw [evalPart_some]
  refine thn (h pins s σ H _ I hw) fun u s1 ⟨x, H1, I1, r1, q1⟩ => ?_
  obtain ⟨i, rfl, q⟩ := q1
  obtain ⟨t, rfl⟩ := r1
  exact ⟨some i, H1, I1, .int i t, q⟩

/-- what a slice of a value is, by values: the slice object stands at sl -/
def SlR (X : Cx) (r : V → Option Int → Option Int → Hp → VK → Prop) : Prop :=
  ∀ (pins : List (Addr × Obj)) (s : Shared) (σ : St) (H : Hp) (x : V) (v vl vu : Value) (lo hi : Option Int) (sl : Addr) (Q : VK), Inv X pins σ H s → RelV x v → s.heap.IsSliceOf sl vl vu .none → IsPart vl lo → IsPart vu hi → r x lo hi H Q →
    ∃ T id, typeLookup (.type T) "__getitem__" = pure (some (.builtin id)) ∧ s.TypeIs v T ∧ wpAny (model X.prog X.w) X.A (getItem v (.ref sl)) (EP X pins σ Q) X.xe s
def tSl (r : V → Option Int → Option Int → Hp → VK → Prop) (te : TE) (tl th : TO) : TE := fun σ H Q => te σ H fun x H1 => tl σ H1 fun l H2 => th σ H2 fun u H3 => r x l u H3 Q
/-- a[lo:hi], any a -/
theorem pe_slice {r : V → Option Int → Option Int → Hp → VK → Prop} (hr : SlR X r) (he : PE X e te) (hl : PO X lo tl) (hu : PO X hi th) : PE X (.Subscript e (.Slice lo hi none p2) pos) (tSl r te tl th) := by
  intro pins s σ H Q I h
  refine Subscript_ (thn (he pins s σ H _ I h) fun v s1 ⟨x, H1, I1, r1, q1⟩ => ?_)
  refine wpAny_Slice (thn (hl pins s1 σ H1 _ I1 q1) fun vl s2 ⟨l, H2, I2, pl, q2⟩ => thn (hu pins s2 σ H2 _ I2 q2) fun vu s3 ⟨u, H3, I3, pu, q3⟩ => ?_)
  rw [evalPart_none]
  refine wpAny_pure ?_
  have I4 : Inv X pins σ H3 { s3 with heap := s3.heap.push { cls := .type "slice", data := .fields #[vl, vu, .none] } } := I3.kept (t' := s3.toks) fun b ob q => Heap.get?_push_of_some _ q
  obtain ⟨T, id, hT, ht, hg⟩ := hr pins { s3 with heap := s3.heap.push { cls := .type "slice", data := .fields #[vl, vu, .none] } } σ H3 x v vl vu l u s3.heap.objs.size Q I4 r1 (Heap.IsSliceOf.new ..) pl pu q3
  show wpAny (model X.prog X.w) X.A (subscriptTail e (.Slice lo hi none p2) v (.ref s3.heap.objs.size)) (EP X pins σ Q) X.xe { s3 with heap := s3.heap.push { cls := .type "slice", data := .fields #[vl, vu, .none] } }
  exact tail_any (ops := [.ref s3.heap.objs.size, v]) ht hT hg (by with_unfolding_all rfl)

/-- the items of xs[lo:hi] -/
def cutV (xs : List V) (lo hi : Option Int) : List V := (xs.drop (HT.sIx xs.length 0 lo)).take (HT.sIx xs.length xs.length hi - HT.sIx xs.length 0 lo)
theorem cutV_length (xs : List V) (lo hi : Option Int) : (cutV xs lo hi).length ≤ xs.length := by
  unfold cutV
  rw [List.length_take, List.length_drop]
  omega
/-- t[lo:hi], not the whole of it (the whole would be t itself) -/
def rSlT (K : PySem.W.Frag) : V → Option Int → Option Int → Hp → VK → Prop := fun x lo hi H Q => ∃ a xs, x = .ref a ∧ SqT K H a xs ∧
  ¬ (HT.sIx xs.length 0 lo = 0 ∧ HT.sIx xs.length xs.length hi = xs.length) ∧ ∀ p, H p = none → Q (.ref p) (upd H p (.tup (cutV xs lo hi)))
theorem sl_tup : SlR X (rSlT X.K) := by
  intro pins s σ H x v vl vu lo hi sl Q I rx hs pl pu h
  obtain ⟨a, xs, rfl, hx, hw, q⟩ := h
  cases rx
  obtain ⟨its, r, ht, hz⟩ := I.tuple hx
  have hlen : its.toArray.size = xs.length := by rw [List.size_toArray]; exact r.length.symm
  refine ⟨"tuple", _, PyProof.Rows.slot_tuple_getitem.lookup, ht.typeIs, ?_⟩
  refine HT.getItem_tuple_cut ht hs pl pu (by rw [hlen]; exact hw) ?_ (by rw [hlen]; exact hz)
  rw [hlen]
  refine ⟨.ref s.heap.objs.size, _, I.laid (t' := s.toks) (o := .tup (cutV xs lo hi)) (fun b ob q => Heap.get?_push_of_some _ q) (Nat.le_refl _) ?_, rfl, q _ (I.hok.fresh (Nat.le_refl _))⟩
  exact ⟨Nat.le_trans (cutV_length xs lo hi) hz, _, (r.drop (HT.sIx xs.length 0 lo)).take (HT.sIx xs.length xs.length hi - HT.sIx xs.length 0 lo), IsTup.new _ _⟩

/-! ### t < u, t + u -/
def rLtT (K : PySem.W.Frag) : R2 := fun x y H Q => ∃ a b ns ms, x = .ref a ∧ y = .ref b ∧ SqT K H a (ns.map V.int) ∧ SqT K H b (ms.map V.int) ∧ Q (.bl (HT.lexLt ns ms)) H
/-- t + u, t not empty: u empty gives t itself -/
def rCatT (K : PySem.W.Frag) : R2 := fun x y H Q => ∃ a b xs ys, x = .ref a ∧ y = .ref b ∧ SqT K H a xs ∧ SqT K H b ys ∧ xs ≠ [] ∧ xs.length + ys.length ≤ sizeLine ∧
  (ys = [] → Q (.ref a) H) ∧ (ys ≠ [] → ∀ p, H p = none → Q (.ref p) (upd H p (.tup (xs ++ ys))))
end
end L2

namespace L2
open PySem PySem.Spec PyProof.Rows

/-! ### places -/
/-- the place that an index of any sign means -/
def ixN (n : Nat) (i : Int) : Option Nat := if 0 ≤ i then (if i < n then some i.toNat else none) else if -(n : Int) ≤ i then some (i + n).toNat else none
def atI {α : Type} (xs : List α) (i : Int) : Option α := (ixN xs.length i).bind fun j => xs[j]?
theorem ixN_seq {n : Nat} {i : Int} {j : Nat} (h : ixN n i = some j) : seqIndex? i n = some j ∧ j < n ∧ -(n : Int) ≤ i ∧ i < n := by
  unfold ixN at h
  by_cases h0 : 0 ≤ i
  · rw [if_pos h0] at h
    by_cases h1 : i < n
    · rw [if_pos h1] at h
      have e : i.toNat = j := Option.some.inj h
      exact ⟨by rw [seqIndex_of h0 h1, e], by omega, by omega, h1⟩
    · rw [if_neg h1] at h; cases h
  · rw [if_neg h0] at h
    by_cases h1 : -(n : Int) ≤ i
    · rw [if_pos h1] at h
      have e : (i + n).toNat = j := Option.some.inj h
      exact ⟨by rw [seqIndex_neg (by omega) h1, e], by omega, h1, by omega⟩
    · rw [if_neg h1] at h; cases h
theorem atI_get {α : Type} {xs : List α} {i : Int} {v : α} (h : atI xs i = some v) : ∃ j, seqIndex? i xs.length = some j ∧ xs[j]? = some v ∧ j < xs.length ∧ -(xs.length : Int) ≤ i ∧ i < xs.length := by
  unfold atI at h
  cases e : ixN xs.length i with
  | none => rw [e] at h; cases h
  | some j =>
    rw [e] at h
    obtain ⟨h1, h2, h3, h4⟩ := ixN_seq e
    exact ⟨j, h1, h, h2, h3, h4⟩
theorem atI_nat {α : Type} {xs : List α} {j : Nat} {v : α} (h : xs[j]? = some v) : atI xs (j : Int) = some v := by
  have hj : j < xs.length := (List.getElem?_eq_some_iff.mp h).1
  have e : ixN xs.length (j : Int) = some j := by
    unfold ixN
    rw [if_pos (by omega), if_pos (by omega)]; simp
  unfold atI; rw [e]; exact h
/-! ### what may be subscripted -/
/-- what stands as an index of a plain subscript -/
def PlainIx (b : Expr) : Prop := ∀ o i, subscripted b false o i = operate [o, i] (getItem o i)
/-- a subscript by values -/
def IxR (X : Cx) (r : R2) : Prop :=
  ∀ (value slice : Expr) (pins : List (Addr × Obj)) (s : Shared) (σ : St) (H : Hp) (x y : V) (v u : Value) (Q : VK), Inv X pins σ H s → RelV x v → RelV y u → r x y H Q →
    subscripted slice false v u = operate [v, u] (getItem v u) → wpAny (model X.prog X.w) X.A (subscriptTail value slice v u) (EP X pins σ Q) X.xe s
/-- a call of a builtin's method by values: the receiver, the arguments -/
def MtR (X : Cx) (id : String) (r : V → List V → Hp → VK → Prop) : Prop :=
  ∀ (pins : List (Addr × Obj)) (s : Shared) (σ : St) (H : Hp) (x : V) (xs : List V) (v : Value) (us : List Value) (Q : VK), Inv X pins σ H s → RelV x v → Vals xs us → r x xs H Q →
    wpAny (model X.prog X.w) X.A (call (.builtin id) (v :: us)) (EP X pins σ Q) X.xe s
section
variable {X : Cx} {a b : Expr} {ta tb : TE} {pos : Pos}
/-- a[b] -/
theorem pe_ix {r : R2} (hr : IxR X r) (ha : PE X a ta) (hb : PE X b tb) (hs : PlainIx b) : PE X (.Subscript a b pos) (tOp r ta tb) := by
  intro pins s σ H Q I h
  exact Subscript_ (binT ha hb I h fun v u s2 x y H2 I2 rx ry q => hr a b pins s2 σ H2 x y v u Q I2 rx ry q (hs _ _))

def rIxL (K : PySem.W.Frag) : R2 := fun x y H Q => ∃ p xs i v, x = .ref p ∧ y = .int i ∧ SqL K H p xs ∧ atI xs i = some v ∧ Q v H
def rIxT (K : PySem.W.Frag) : R2 := fun x y H Q => ∃ p xs i v, x = .ref p ∧ y = .int i ∧ SqT K H p xs ∧ atI xs i = some v ∧ Q v H
def rIxS : R2 := fun x y H Q => ∃ z i c, x = .str z ∧ y = .int i ∧ z.length ≤ sizeLine ∧ atI z.cps.toList i = some c ∧ Q (.str ⟨#[c]⟩) H
theorem ix_list : IxR X (rIxL X.K) := by
  intro value slice pins s σ H x y v u Q I rx ry h hs
  obtain ⟨p, xs, i, z, rfl, rfl, hq, he, q⟩ := h
  cases rx
  obtain ⟨t, rfl⟩ := ry
  obtain ⟨its, r, pl, hz⟩ := I.list hq
  obtain ⟨j, h1, h2, h3, h4, h5⟩ := atI_get he
  obtain ⟨w, ew, rw'⟩ := r.get h2
  have hl := r.length
  have hn := line63
  have fin : EP X pins σ Q w s := ⟨z, H, I, rw', q⟩
  by_cases h0 : 0 ≤ i
  · have hj : i.toNat = j := by
      rw [seqIndex_of h0 h5] at h1
      exact Option.some.inj h1
    exact item_listR pl.isList h0 (by omega) (by rw [hj]; simpa using ew) fin hs
  · have hj : (i + (its.toArray.size : Int)).toNat = j := by
      rw [seqIndex_neg (by omega) h4] at h1
      rw [List.size_toArray, ← hl]
      exact Option.some.inj h1
    exact subscriptTail_builtinR (x := w) pl.isList.typeIs slot_list_getitem.lookup
      (wpAny_getItem_list_neg (Q := fun r s' => r = w ∧ EP X pins σ Q r s') pl.isList (by omega) (by rw [List.size_toArray] <;> omega) (by omega) (by rw [hj]; simpa using ew) ⟨rfl, fin⟩) hs
theorem ix_tup : IxR X (rIxT X.K) := by
  intro value slice pins s σ H x y v u Q I rx ry h hs
  obtain ⟨p, xs, i, z, rfl, rfl, hq, he, q⟩ := h
  cases rx
  obtain ⟨t, rfl⟩ := ry
  obtain ⟨its, r, pl, hz⟩ := I.tuple hq
  obtain ⟨j, h1, h2, h3, h4, h5⟩ := atI_get he
  obtain ⟨w, ew, rw'⟩ := r.get h2
  have hl := r.length
  have hn := line63
  have fin : EP X pins σ Q w s := ⟨z, H, I, rw', q⟩
  exact subscriptTail_builtinR (x := w) pl.typeIs slot_tuple_getitem.lookup
    (getItem_tuple (j := j) (Q := fun r s' => r = w ∧ EP X pins σ Q r s') pl (by omega) (by omega) (by rw [List.size_toArray, ← hl]; exact h1) (by simpa using ew) ⟨rfl, fin⟩) hs
/-- list, tuple or str -/
def rIx (K : PySem.W.Frag) : R2 := fun x y H Q => rIxL K x y H Q ∨ rIxT K x y H Q ∨ rIxS x y H Q
/-! ### xs[i] = v, any sign -/
/-- the list's object behind a store -/
theorem mapSeq_set (its : List Value) (n j : Nat) (u : Value) : Obj.mapSeq (·.setIfInBounds j u) { cls := .type "list", data := .seq its.toArray n } = { cls := .type "list", data := .seq (its.set j u).toArray n } := by
  simp [Obj.mapSeq]
theorem Inv.lst {pins : List (Addr × Obj)} {σ : St} {H : Hp} {s : Shared} {p : Addr} {xs : List V} (I : Inv X pins σ H s) (h : H p = some (.lst xs)) :
    ∃ (its : List Value) (n : Nat), Vals xs its ∧ s.heap.get? p = some { cls := .type "list", data := .seq its.toArray n } ∧ xs.length ≤ sizeLine := by
  obtain ⟨z, its, n, r, e⟩ := I.hok p _ h
  exact ⟨its, n, r, e, z⟩
/-- the list at p is written by an update of its object -/
theorem Inv.lstUpd {pins : List (Addr × Obj)} {σ : St} {H : Hp} {s : Shared} {p : Addr} {xs ys : List V} {its its' : List Value} {n n' : Nat} {f : Obj → Obj} (I : Inv X pins σ H s) (h : H p = some (.lst xs))
    (ho : s.heap.get? p = some { cls := .type "list", data := .seq its.toArray n }) (hf : f { cls := .type "list", data := .seq its.toArray n } = { cls := .type "list", data := .seq its'.toArray n' }) (r : Vals ys its') (hz : ys.length ≤ sizeLine) (t : Nat) :
    Inv X pins σ (upd H p (.lst ys)) { s with heap := s.heap.update p f, toks := t } := by
  have e : (s.heap.update p f).get? p = some { cls := .type "list", data := .seq its'.toArray n' } := by
    rw [Heap.get?_update_self f ho (by rw [hf] <;> rfl), hf]
  refine I.write (x := p) (e := p) (by rw [h]; trivial) (.inl rfl) (fun b u hb q => (Heap.get?_update_other _ _ (Ne.symm hb)).trans q) ⟨_, e⟩ ?_
  exact ⟨hz, its', n', r, e⟩
def rSetL : V → V → V → Hp → (Hp → Prop) → Prop := fun o i v H Q => ∃ p xs k j, o = .ref p ∧ i = .int k ∧ H p = some (.lst xs) ∧ ixN xs.length k = some j ∧ Q (upd H p (.lst (xs.set j v)))
theorem set_list : PSet X rSetL := by
  intro pins s σ H o i v ov iv u Q I ro ri rv h
  obtain ⟨p, xs, k, j, rfl, rfl, hp, hj, q⟩ := h
  cases ro
  obtain ⟨t, rfl⟩ := ri
  obtain ⟨its, n, r, ho, hz⟩ := I.lst hp
  obtain ⟨h1, h2, h3, h4⟩ := ixN_seq hj
  have hl := r.length
  have hn := line63
  have I' : Inv X pins σ (upd H p (.lst (xs.set j v))) { s with heap := s.heap.update p (Obj.mapSeq (·.setIfInBounds j u)) } :=
    I.lstUpd hp ho (mapSeq_set its n j u) (r.set rv j) (by rw [List.length_set]; exact hz) s.toks
  by_cases h0 : 0 ≤ k
  · have hk : k.toNat = j := by
      rw [seqIndex_of h0 h4] at h1
      exact Option.some.inj h1
    exact PySem.W.ki_setAt ho h0 (by omega) (by rw [List.size_toArray, ← hl]; exact h4) (by rw [hk]; exact ⟨_, I', q⟩)
  · have hk : (k + (its.toArray.size : Int)).toNat = j := by
      rw [seqIndex_neg (by omega) h3] at h1
      rw [List.size_toArray, ← hl]
      exact Option.some.inj h1
    exact PySem.W.ki_setBack ho (by omega) (by rw [List.size_toArray, ← hl]; exact h3) (by omega) (by rw [hk]; exact ⟨_, I', q⟩)

/-! ### slices -/
theorem slice_bounds (lo hi : Option Int) (n : Nat) : (sliceBounds lo hi none n).1 = ((HT.sIx n 0 lo : Nat) : Int) ∧ (sliceBounds lo hi none n).2.1 = ((HT.sIx n n hi : Nat) : Int) ∧ (sliceBounds lo hi none n).2.2 = 1 := by
  refine ⟨?_, ?_, rfl⟩
  · cases lo with
    | none => simp [sliceBounds, HT.sIx]
    | some i =>
      simp only [sliceBounds, HT.sIx, Option.getD_none, show (1 : Int) > 0 by decide, if_true]
      by_cases h : i < 0
      · simp only [h, if_true] <;> omega
      · simp only [h, if_false] <;> omega
  · cases hi with
    | none => simp [sliceBounds, HT.sIx]
    | some i =>
      simp only [sliceBounds, HT.sIx, Option.getD_none, show (1 : Int) > 0 by decide, if_true]
      by_cases h : i < 0
      · simp only [h, if_true] <;> omega
      · simp only [h, if_false] <;> omega
theorem slicePick_cut (its : List Value) (lo hi : Option Int) : slicePick its.toArray lo hi none = ((its.drop (HT.sIx its.length 0 lo)).take (HT.sIx its.length its.length hi - HT.sIx its.length 0 lo)).toArray := by
  obtain ⟨h1, h2, h3⟩ := slice_bounds lo hi its.toArray.size
  unfold slicePick
  rw [h1, h2, h3]
  simp only [sliceRange_one, pick_run, List.size_toArray] <;> rfl
/-- xs[lo:hi] of a list: a new list -/
def rSlL (K : PySem.W.Frag) : V → Option Int → Option Int → Hp → VK → Prop := fun x lo hi H Q => ∃ a xs, x = .ref a ∧ SqL K H a xs ∧ ∀ p, H p = none → Q (.ref p) (upd H p (.lst (cutV xs lo hi)))
theorem sl_list : SlR X (rSlL X.K) := by
  intro pins s σ H x v vl vu lo hi sl Q I rx hs pl pu h
  obtain ⟨a, xs, rfl, hx, q⟩ := h
  cases rx
  obtain ⟨its, r, ht, hz⟩ := I.list hx
  have hlen := r.length
  refine ⟨"list", _, slot_list_getitem.lookup, ht.isList.typeIs, ?_⟩
  refine wpAny_getItem_list_slice ht.isList hs pl pu .none (by simp) ?_ (by rw [List.size_toArray] <;> omega)
  rw [slicePick_cut, ← hlen]
  refine ⟨.ref s.heap.objs.size, _, I.laid (t' := s.toks) (o := .lst (cutV xs lo hi)) (fun b ob q => Heap.get?_push_of_some _ q) (Nat.le_refl _) ?_, rfl, q _ (I.hok.fresh (Nat.le_refl _))⟩
  exact ⟨Nat.le_trans (cutV_length xs lo hi) hz, _, 0, (r.drop (HT.sIx xs.length 0 lo)).take (HT.sIx xs.length xs.length hi - HT.sIx xs.length 0 lo), Heap.get?_push_size _ rfl⟩

/-! ### in, not in: flat items -/
def flatV : V → Bool
  | .non => true
  | .bl _ => true
  | .int _ => true
  | .str _ => true
  | _ => false
/-- == of flat values -/
def eqV : V → V → Bool
  | .non, .non => true
  | .bl a, .bl b => a == b
  | .bl a, .int b => (if a then 1 else 0) == b
  | .int a, .bl b => a == (if b then 1 else 0)
  | .int a, .int b => a == b
  | .str a, .str b => a == b
  | _, _ => false
theorem eqAt_V {A : Around} {s : Shared} {y x : V} {u v : Value} (ry : RelV y u) (rx : RelV x v) (fy : flatV y = true) (fx : flatV x = true) : SeqAt.EqAt A s u v (eqV y x) := by
  cases y with
  | non =>
    cases ry
    cases x with
    | non => cases rx; exact SeqAt.EqAt.same _
    | bl b => cases rx; exact SeqAt.EqAt.none_bool b
    | int b => obtain ⟨t, rfl⟩ := rx; exact SeqAt.EqAt.none_int b t
    | str b => obtain ⟨t, rfl⟩ := rx; exact SeqAt.EqAt.none_str b t
    | _ => exact absurd (show false = true from fx) Bool.false_ne_true
  | bl a =>
    cases ry
    cases x with
    | non => cases rx; exact SeqAt.EqAt.bool_none a
    | bl b => cases rx; exact SeqAt.EqAt.bool_bool a b
    | int b => obtain ⟨t, rfl⟩ := rx; exact SeqAt.EqAt.bool_int a b t
    | str b => obtain ⟨t, rfl⟩ := rx; exact SeqAt.EqAt.bool_str a b t
    | _ => exact absurd (show false = true from fx) Bool.false_ne_true
  | int a =>
    obtain ⟨t', rfl⟩ := ry
    cases x with
    | non => cases rx; exact SeqAt.EqAt.int_none a t'
    | bl b => cases rx; exact SeqAt.EqAt.int_bool a t' b
    | int b => obtain ⟨t, rfl⟩ := rx; exact SeqAt.EqAt.int_int a t' b t
    | str b => obtain ⟨t, rfl⟩ := rx; exact SeqAt.EqAt.int_str a t' b t
    | _ => exact absurd (show false = true from fx) Bool.false_ne_true
  | str a =>
    obtain ⟨t', rfl⟩ := ry
    cases x with
    | non => cases rx; exact SeqAt.EqAt.str_none a t'
    | bl b => cases rx; exact SeqAt.EqAt.str_bool a t' b
    | int b => obtain ⟨t, rfl⟩ := rx; exact SeqAt.EqAt.str_int a t' b t
    | str b => obtain ⟨t, rfl⟩ := rx; exact SeqAt.EqAt.str_str a t' b t
    | _ => exact absurd (show false = true from fx) Bool.false_ne_true
  | _ => exact absurd (show false = true from fy) Bool.false_ne_true
/-- the items' answers, read off the values (a value's own answer does not lean on its token) -/
def eqU (x : V) (u : Value) : Bool := match u with
  | .none => eqV .non x
  | .bool b => eqV (.bl b) x
  | .int i _ => eqV (.int i) x
  | .str z _ => eqV (.str z) x
  | _ => false
def inV (x : V) (xs : List V) : Bool := xs.any fun y => eqV y x
/-- x in a list or tuple of flat items -/
def rIn (K : PySem.W.Frag) (neg : Bool) : R2 := fun x y H Q => ∃ p xs, y = .ref p ∧ (SqL K H p xs ∨ SqT K H p xs) ∧ flatV x = true ∧ xs.all flatV = true ∧ Q (.bl (if neg then !inV x xs else inV x xs)) H
/-! ### len, list(x), tuple(x) of any list or tuple that is read -/
theorem call_len_seq : CallR X (.builtin "len") (fun xs H Q => ∃ p ys, xs = [.ref p] ∧ (SqL X.K H p ys ∨ SqT X.K H p ys) ∧ Q (.int ys.length) H) := by
  intro pins s σ H xs us Q I r h
  obtain ⟨p, ys, rfl, hq, q⟩ := h
  obtain ⟨u, rfl, rx⟩ := vals1 r
  cases rx
  have hn := line63
  rcases hq with hq | hq
  · obtain ⟨its, r', pl, hz⟩ := I.list hq
    have hlen := r'.length
    exact Calls.call_len_list pl.isList (by simp only [List.size_toArray] <;> omega) ⟨.int ys.length, H, I.tok _, ⟨s.toks + 1, by rw [List.size_toArray, hlen]⟩, q⟩
  · obtain ⟨its, r', pl, hz⟩ := I.tuple hq
    have hlen := r'.length
    exact len_tuple pl (by simp only [List.size_toArray] <;> omega) ⟨.int ys.length, H, I.tok _, ⟨s.toks + 1, by rw [List.size_toArray, hlen]⟩, q⟩
theorem call_tuple_of : CallR X (.type "tuple") (fun xs H Q => ∃ p ys, xs = [.ref p] ∧ ((SqL X.K H p ys ∧ ∀ l, H l = none → Q (.ref l) (upd H l (.tup ys))) ∨ (SqT X.K H p ys ∧ Q (.ref p) H))) := by
  intro pins s σ H xs us Q I r h
  obtain ⟨p, ys, rfl, h⟩ := h
  obtain ⟨u, rfl, rx⟩ := vals1 r
  cases rx
  rcases h with ⟨hq, q⟩ | ⟨hq, q⟩
  · obtain ⟨its, r', pl, hz⟩ := I.list hq
    have hlen := r'.length
    refine call_tuple_list pl.isList (fun h' kp => ?_) (by simp only [List.size_toArray] <;> omega)
    have I1 : Inv X pins σ H { s with heap := h' } := I.kept (t' := s.toks) kp
    have I2 : Inv X pins σ (upd H h'.objs.size (.tup ys)) { s with heap := h'.push { cls := .type "tuple", data := .seq its.toArray } } :=
      I1.laid (t' := s.toks) (fun b o e => Heap.get?_push_of_some _ e) (Nat.le_refl _) (show ObjOk X.prog X.w _ _ _ (.tup ys) from ⟨hz, its, r', IsTup.new _ _⟩)
    exact ⟨.ref h'.objs.size, _, I2, rfl, q _ (I1.hok.fresh (Nat.le_refl _))⟩
  · obtain ⟨its, r', pl, hz⟩ := I.tuple hq
    exact call_tuple_same pl ⟨.ref p, H, I, rfl, q⟩

/-! ### the call of a builtin's method: o.m(..) -/
/-- the value is of that builtin type -/
def tyV (K : PySem.W.Frag) (T : String) (x : V) (H : Hp) : Prop := match x with
  | .str _ => T = "str"
  | .int _ => T = "int"
  | .ref p => (T = "list" ∧ ∃ xs, SqL K H p xs) ∨ (T = "tuple" ∧ ∃ o, K.lookup p = some o ∧ o.cls = .type "tuple" ∧ o.dict = none) ∨
      (T = "dict" ∧ ((∃ kvs, H p = some (.dK kvs)) ∨ ∃ kvs, H p = some (.dT kvs))) ∨ (T = "set" ∧ ∃ S n, H p = some (.set S n))
  | _ => False
theorem tyV_is {pins : List (Addr × Obj)} {σ : St} {H : Hp} {s : Shared} {T : String} {x : V} {v : Value} (I : Inv X pins σ H s) (r : RelV x v) (ty : tyV X.K T x H) :
    s.TypeIs v T ∧ ∀ a, v = .ref a → ∃ ob, s.heap.get? a = some ob ∧ ob.dict = none := by
  cases x with
  | str z =>
    obtain ⟨t, rfl⟩ := r
    cases (show T = "str" from ty)
    exact ⟨typeIs_str s z t, fun _ e => nomatch e⟩
  | int i =>
    obtain ⟨t, rfl⟩ := r
    cases (show T = "int" from ty)
    exact ⟨typeIs_int s i t, fun _ e => nomatch e⟩
  | ref p =>
    cases r
    rcases ty with ⟨rfl, xs, hq⟩ | ⟨rfl, o, hk, hc, hd⟩ | ⟨rfl, hk⟩ | ⟨rfl, S, n, hk⟩
    · obtain ⟨its, _, pl, _⟩ := I.list hq
      refine ⟨pl.isList.typeIs, fun a e => ?_⟩
      cases e
      obtain ⟨o, n, e, c, hd, _⟩ := pl
      exact ⟨o, e, hd⟩
    · refine ⟨⟨o, I.kIn p o hk, hc⟩, fun a e => ?_⟩
      cases e
      exact ⟨o, I.kIn _ o hk, hd⟩
    · have z : ∃ o, s.heap.get? p = some o ∧ o.ExactDict := by
        rcases hk with ⟨kvs, hk⟩ | ⟨kvs, hk⟩
        · obtain ⟨_, _, _, _, o, _, _, e, ex, _⟩ := I.hok p _ hk
          exact ⟨o, e, ex⟩
        · obtain ⟨_, _, _, _, o, _, _, e, ex, _⟩ := I.hok p _ hk
          exact ⟨o, e, ex⟩
      obtain ⟨o, e, ex⟩ := z
      refine ⟨⟨o, e, ex.1⟩, fun a e2 => ?_⟩
      cases e2
      exact ⟨o, e, ex.2.1⟩
    · obtain ⟨o, _, _, _, e, ex, _⟩ := I.hok p _ hk
      refine ⟨⟨o, e, ex.1⟩, fun a e2 => ?_⟩
      cases e2
      exact ⟨o, e, ex.2.1⟩
  | _ => exact False.elim ty
def tBM0 (K : PySem.W.Frag) (T : String) (r : V → List V → Hp → VK → Prop) (to : TE) : TE := fun σ H Q => to σ H fun x H1 => tyV K T x H1 ∧ r x [] H1 Q
def tBM (K : PySem.W.Frag) (T : String) (r : V → List V → Hp → VK → Prop) (to : TE) (t : TA) : TE := fun σ H Q => to σ H fun x H1 => tyV K T x H1 ∧ t σ H1 fun xs H2 => r x xs H2 Q
variable {o e : Expr} {es : List Expr} {to : TE} {t : TA} {name : Str} {apos cpos : Pos} {T id : String} {r : V → List V → Hp → VK → Prop}
theorem pe_bm (pa : PlainAttrs T) (slot : Slot T name id) (hty : typeOf (.builtin id) = pure (.type "method_descriptor")) (hm : MtR X id r) (ho : PE X o to) (ha : PA X (e :: es) t)
    (hbase : attributeBase o name X.env (eval o X.env) = eval o X.env := by rfl)
    (hfew : ((backTo cpos (starEach (e :: es) X.env)).all (fun x => !x.1) && (backToKw cpos (keywordEach [] X.env)).all (fun x => x.1.isSome)
      && decide ((e :: es).length + ([] : List Keyword).length + (if ([] : List Keyword).isEmpty then 0 else 1) < 30)) = true := by rfl)
    (hline : (apos.endLine == cpos.line) = true := by rfl) (hs : starEach (e :: es) X.env = (false, eval e X.env) :: starEach es X.env := by rfl) (hplain : (backTo cpos (starEach es X.env)).any (·.1) = false := by rfl) :
    PE X (.Call (.Attribute o name apos) (e :: es) [] cpos) (tBM X.K T r to t) := by
  intro pins s σ H Q I h
  refine wpAny_Call_method_late hbase hfew hline rfl (thn (ho pins s σ H _ I h) fun v s1 ⟨x, H1, I1, r1, ty, q1⟩ => ?_)
  obtain ⟨h1, h2⟩ := tyV_is I1 r1 ty
  refine ⟨T, id, pa, slot, hty, h1, h2, ?_⟩
  have hA := ha cpos pins s1 σ H1 _ I1 q1
  rw [hs] at hA ⊢
  refine Calls.callWith_builtin (by show (false || (backTo cpos (starEach es X.env)).any (·.1)) = false; rw [hplain] <;> rfl) (Calls.evalArgs_plain ?_)
  exact thn hA fun us s2 ⟨vs, H2, I2, r2, q2⟩ => hm pins s2 σ H2 x vs v us Q I2 r1 r2 q2
/- xs.append(e), list.index on a module's tuple .. are MtR facts of 06m -/
end
end L2

namespace L2
open PySem PySem.Spec PyProof.Rows

def MtM (X : Cx) (id : String) (r : V → List V → Hp → VK → Prop) : Prop :=
  ∀ (pins : List (Addr × Obj)) (s : Shared) (σ : St) (H : Hp) (x : V) (xs : List V) (v : Value) (us : List Value) (Q : VK), Inv X pins σ H s → RelV x v → Vals xs us → r x xs H Q →
    wpAny (model X.prog X.w) X.A (call (.builtin id) (v :: us)) (EP X pins σ Q) X.xe s

/-! ### lists of values -/
theorem Vals.one : ∀ {x : V} {us : List Value}, Vals [x] us → ∃ u, us = [u] ∧ RelV x u
  | _, _, .cons r .nil => ⟨_, rfl, r⟩
theorem Vals.rep {xs : List V} {us : List Value} (h : Vals xs us) : ∀ k : Nat, Vals (List.replicate k xs).flatten (List.replicate k us).flatten
  | 0 => .nil
  | k + 1 => by
    rw [List.replicate_succ, List.replicate_succ, List.flatten_cons, List.flatten_cons]
    exact Vals.append h (Vals.rep h k)
theorem foldl_rep (its : List Value) : ∀ (k : Nat) (acc : List Value),
    List.foldl (fun x1 x2 => x1 ++ x2) acc.toArray (List.replicate k its.toArray) = (acc ++ (List.replicate k its).flatten).toArray
  | 0, acc => by simp
  | k + 1, acc => by
    have e : acc.toArray ++ its.toArray = (acc ++ its).toArray := by simp
    have e2 : (acc ++ its) ++ (List.replicate k its).flatten = acc ++ (List.replicate (k + 1) its).flatten := by
      rw [List.replicate_succ, List.flatten_cons, List.append_assoc]
    rw [← e2, ← foldl_rep its k (acc ++ its), ← e, List.replicate_succ, List.foldl_cons]

section
variable {X : Cx} {pins : List (Addr × Obj)} {σ : St} {H : Hp} {s : Shared} {l b : Addr} {xs ys zs : List V}

/-! ### the two steps: a tracked list is rewritten, a new list is laid -/
theorem Inv.lset {its its' : List Value} {n : Nat} {f : Array Value → Array Value} {t' : Nat} (I : Inv X pins σ H s) (hH : H l = some (.lst xs))
    (e : s.heap.get? l = some { cls := .type "list", data := .seq its.toArray n }) (hf : f its.toArray = its'.toArray) (hv : Vals ys its') (hz : ys.length ≤ sizeLine) :
    Inv X pins σ (upd H l (.lst ys)) { s with heap := s.heap.update l (Obj.mapSeq f), toks := t' } := by
  have q := PySem.IsL.update e f
  rw [hf] at q
  refine I.write (x := l) (e := l) (by rw [hH]; exact trivial) (.inl rfl) (fun b' u hb hu => (Heap.get?_update_other s.heap (Obj.mapSeq f) (Ne.symm hb)).trans hu) ⟨_, q⟩ ?_
  exact ⟨hz, its', _, hv, q⟩
theorem Inv.lnew {its : List Value} {t' : Nat} (I : Inv X pins σ H s) (hv : Vals ys its) (hz : ys.length ≤ sizeLine) :
    Inv X pins σ (upd H s.heap.objs.size (.lst ys)) { s with heap := s.heap.push { cls := .type "list", data := .seq its.toArray }, toks := t' } :=
  I.laid (fun _ _ q => Heap.get?_push_of_some _ q) (Nat.le_refl _) ⟨hz, its, 0, hv, Heap.get?_push_size _ rfl⟩
theorem Inv.fresh (I : Inv X pins σ H s) : H s.heap.objs.size = none := I.hok.fresh (Nat.le_refl _)
theorem Inv.lstM (I : Inv X pins σ H s) (hH : H l = some (.lst xs)) : xs.length ≤ sizeLine ∧ ∃ (its : List Value) (n : Nat), Vals xs its ∧ xs.length = its.length ∧ s.heap.get? l = some { cls := .type "list", data := .seq its.toArray n } := by
  obtain ⟨z, its, n, r, e⟩ := I.hok l _ hH
  exact ⟨z, its, n, r, r.length, e⟩

theorem notLongL {n : Nat} (h : n ≤ sizeLine) : Builtin.List.listTooLong n = false := by
  unfold Builtin.List.listTooLong
  exact decide_eq_false (by omega)
end

section
variable {X : Cx}

/-! ### methods -/
def rAppend : V → List V → Hp → VK → Prop := fun x vs H Q => ∃ l xs y, x = .ref l ∧ vs = [y] ∧ H l = some (.lst xs) ∧ xs.length < sizeLine ∧ Q .non (upd H l (.lst (xs ++ [y])))
theorem mt_append : MtM X "list.append" rAppend := by
  intro pins s σ H x vs v us Q I rx rv h
  obtain ⟨l, xs, y, rfl, rfl, hH, hz, q⟩ := h
  cases rx
  obtain ⟨u, rfl, ru⟩ := rv.one
  obtain ⟨z, its, n, r, hl, e⟩ := I.lstM hH
  refine call_meets F.slot_list_append ⟨_, e, rfl⟩ F.entry_list_append (F.args_list_append_2 _ _) (PySem.list_append l its.toArray n u (by rw [List.size_toArray]; omega)) ⟨e, ?_⟩
  refine ⟨.non, _, I.lset (its' := its ++ [u]) hH e (by simp) (r.append (.cons ru .nil)) ?_, rfl, q⟩
  rw [List.length_append, List.length_singleton]
  omega

def rExtend : V → List V → Hp → VK → Prop := fun x vs H Q => ∃ l b xs zs, x = .ref l ∧ vs = [.ref b] ∧ H l = some (.lst xs) ∧ H b = some (.lst zs) ∧ xs.length + zs.length ≤ sizeLine ∧ Q .non (upd H l (.lst (xs ++ zs)))
def rPop : V → List V → Hp → VK → Prop := fun x vs H Q => ∃ l xs y, x = .ref l ∧ vs = [] ∧ H l = some (.lst xs) ∧ xs[xs.length - 1]? = some y ∧ Q y (upd H l (.lst xs.dropLast))
def rPopAt : V → List V → Hp → VK → Prop := fun x vs H Q => ∃ l xs i k y, x = .ref l ∧ vs = [.int i] ∧ H l = some (.lst xs) ∧ -(2 ^ 63) ≤ i ∧ i < 2 ^ 63 ∧ seqIndex? i xs.length = some k ∧ xs[k]? = some y ∧ Q y (upd H l (.lst (xs.eraseIdx k)))
def rReverse : V → List V → Hp → VK → Prop := fun x vs H Q => ∃ l xs, x = .ref l ∧ vs = [] ∧ H l = some (.lst xs) ∧ Q .non (upd H l (.lst xs.reverse))
def rClear : V → List V → Hp → VK → Prop := fun x vs H Q => ∃ l xs, x = .ref l ∧ vs = [] ∧ H l = some (.lst xs) ∧ Q .non (upd H l (.lst []))
/-! ### list + list, list += list, list * int -/
def rCat : R2 := fun x y H Q => ∃ l b xs zs, x = .ref l ∧ y = .ref b ∧ H l = some (.lst xs) ∧ H b = some (.lst zs) ∧ xs.length + zs.length ≤ sizeLine ∧ ∀ p, H p = none → Q (.ref p) (upd H p (.lst (xs ++ zs)))
theorem op_cat : OpR X (binaryOp .Add) rCat := by
  intro pins s σ H x y v u Q I rx ry h
  obtain ⟨l, b, xs, zs, rfl, rfl, hH, hB, hz, q⟩ := h
  cases rx
  cases ry
  obtain ⟨z, its, n, r, hl, e⟩ := I.lstM hH
  obtain ⟨z2, its2, n2, r2, hl2, e2⟩ := I.lstM hB
  refine PySem.P.add_list e e2 ?_ (by rw [List.size_toArray, List.size_toArray]; omega)
  have ea : its.toArray ++ its2.toArray = (its ++ its2).toArray := by simp
  rw [ea]
  exact ⟨.ref _, _, I.lnew (t' := s.toks) (r.append r2) (by rw [List.length_append]; omega), rfl, q _ I.fresh⟩
/-- a list times an int (a negative one is nothing) -/
def rRep : R2 := fun x y H Q => ∃ l k xs, x = .ref l ∧ y = .int k ∧ H l = some (.lst xs) ∧ -(2 ^ 63) ≤ k ∧ k < 2 ^ 63 ∧ xs.length * k.toNat ≤ sizeLine ∧
  ∀ p, H p = none → Q (.ref p) (upd H p (.lst (List.replicate k.toNat xs).flatten))
theorem len_rep {α : Type} (xs : List α) (k : Nat) : (List.replicate k xs).flatten.length = k * xs.length := by
  induction k with
  | zero => simp
  | succ k ih => rw [List.replicate_succ, List.flatten_cons, List.length_append, ih, Nat.succ_mul, Nat.add_comm]
theorem op_rep : OpR X (binaryOp .Mult) rRep := by
  intro pins s σ H x y v u Q I rx ry h
  obtain ⟨l, k, xs, rfl, rfl, hH, h1, h2, hz, q⟩ := h
  cases rx
  obtain ⟨t, rfl⟩ := ry
  obtain ⟨z, its, n, r, hl, e⟩ := I.lstM hH
  have hlen : its.toArray.size * k.toNat ≤ sizeLine := by rw [List.size_toArray, ← hl]; exact hz
  have hcap : ¬ its.toArray.size * k.toNat > (2 ^ 63 - 1) / 8 := by
    have : (sizeLine : Nat) ≤ (2 ^ 63 - 1) / 8 := by decide
    omega
  have hfit : ¬ (!Builtin.List.listFitsIndex k) = true := by
    rw [fitsIndex_both h1 h2]
    exact Bool.false_ne_true
  have hlong : ¬ Builtin.List.listTooLong (its.toArray.size * k.toNat) = true := by
    rw [notLongL hlen]
    exact Bool.false_ne_true
  have hnew : List.foldl (fun x1 x2 => x1 ++ x2) #[] (List.replicate (if its.toArray.isEmpty = true then 0 else k.toNat) its.toArray) = (List.replicate k.toNat its).flatten.toArray := by
    have f0 : ∀ m : Nat, List.foldl (fun x1 x2 => x1 ++ x2) #[] (List.replicate m its.toArray) = (List.replicate m its).flatten.toArray := fun m => by
      have := foldl_rep its m []
      rw [List.nil_append] at this
      exact this
    rw [f0]
    cases its with
    | nil => simp
    | cons a r' => rw [if_neg (by simp)]
  refine wpAny_binaryOp_repeat_ref (T := "list") (U := "int") (by decide) ⟨_, e, rfl⟩ (fun s' => typeIs_int s' k t) noFill_list_mul F.fills_int_mul F.slot_int_rmul repeat_list F.slot_int_index.lookup
    (call_meets F.slot_int_rmul (typeIs_int s k t) F.entry_int_rmul (F.args_int_rmul_2 _ _) (int___rmul___int_list k t l its.toArray n)
      ⟨e, rfl, ⟨_, e, rfl⟩, call_meets F.slot_list_mul ⟨_, e, rfl⟩ F.entry_list_mul (F.args_list_mul_2 _ _) (AutoListH.list___mul___list_int_3 l its.toArray n k t hfit hcap hlong) ⟨e, ?_⟩⟩)
  rw [hnew]
  exact ⟨.ref _, _, I.lnew (t' := s.toks) (r.rep k.toNat) (by rw [len_rep, Nat.mul_comm]; exact hz), rfl, q _ I.fresh⟩

/-! ### del xs[i] -/
end

/-! ### xs[a:b] = ys -/
section
variable {prog : Program} {w : World} {A : Around} {E : Value → Shared → Prop} {s : Shared}
end

section
variable {X : Cx}
end
end L2

namespace Att
open PySem PySem.W PySem.Calls PyProof.Rows

/-! ### the script -/
theorem ints_of_wellAll {P : Params} {h : Heap} : ∀ (ns : List Int) (vs : List Value), WellAll P h vs (ns.map WData.int) → IntsAre vs ns := by
  intro ns
  induction ns with
  | nil =>
    intro vs w
    rw [List.map_nil] at w
    cases w
    exact .nil
  | cons n ns ih =>
    intro vs w
    rw [List.map_cons] at w
    cases w with
    | cons a b =>
      cases a
      exact .cons _ _ (ih _ b)

theorem script_of {l : OpenLaw} {n : Nat} (hn : l.most = some n) {P : Params} {h : Heap} {args : List WData} {vals : List Value}
    (hpre : l.row.toRowW.claim.pre args = true) (hwl : WellAll P h vals args) :
    ∃ a vs ns, vals = [Value.ref a] ∧ args = [WData.list (ns.map WData.int)] ∧ h.get? a = some { cls := .type "list", data := .seq vs.toArray } ∧ IntsAre vs ns ∧ ns.length ≤ n := by
  have hsh : WShape.hasAll [] args [.list .int] = true := (pre_splitW hpre).1
  have hc : l.pre.holds [] { args := args } = true := (pre_splitW hpre).2
  obtain ⟨d, r, rfl, h1, h2⟩ := hasAllW_cons hsh
  obtain rfl := hasAllW_nil h2
  obtain ⟨xs, rfl, h3⟩ := hasW_list h1
  obtain ⟨ns, rfl⟩ := items_int h3
  have hlen : ns.length ≤ n := by
    unfold OpenLaw.pre at hc
    have h4 : (WTm.not (.lt (.lit (.int (n : Int))) (.len (.arg 0)))).holds [] { args := [.list (ns.map .int)] } = true := by
      have h4 := (holds_andW hc).1
      rw [hn] at h4
      exact h4
    have h5 := condW_of h4 (w_not (w_lt w_lit (w_len_list (w_arg rfl))))
    rw [List.length_map] at h5
    refine Nat.le_of_not_lt fun q => ?_
    have q' : (n : Int) < ((ns.length : Nat) : Int) := by omega
    first
      | (rw [decide_eq_true q'] at h5; exact absurd h5 (by decide))
      | (simp at h5; omega)
  cases hwl with
  | cons w1 w2 =>
    cases w2
    cases w1 with
    | list ho hall => exact ⟨_, _, ns, rfl, rfl, ho, ints_of_wellAll ns _ hall, hlen⟩

theorem post_true (l : OpenLaw) (args : List WData) : l.row.toRowW.claim.post args (.bool true) args = true :=
  postW_of (r := l.row.toRowW) (X := (true == true))
    (show WShape.has [] (.bool true) .bool = true by first | rfl | decide | simp [WShape.has, WShape.arms, WShape.armsAll])
    (show (WTm.eq .res (.lit (.bool true))).value [] { args := args, res := some (.bool true), after := args } = some (.bool (true == true)) from w_eq_bool (w_res rfl) w_lit) rfl

/-! ### the attachment: holds_open's last premise (the goal 'hc' behind k_head) from a wpAny of the law's body -/
/-- the same from a codeAny of the CALL (for a layer whose function contracts speak of calls) -/
theorem attach_call {l : OpenLaw} {n : Nat} {q : Program} {loose : List Str} {XP : (Str → Option Value) → Heap → Prop} {YP : World → Heap → Prop} {d : DefRec}
    (hn : l.most = some n) (hdf : d.params.defaults = [])
    (call : ∀ (w : World) (s₀ s₁ : Shared) (mg mb : Str → Option Value) (fa : Addr) (o : Obj) (pm cd doc : Value) (a : Addr) (vs : List Value) (ns : List Int),
      Ground q loose [] XP w s₀ mg mb s₁.heap → YP w s₁.heap →
      s₁.heap.get? fa = some o → o.data = .func (docDef d.name d.params d.body d.scope pm cd doc) → s₁.heap.CodeRec cd d.name → mg d.name = some (.ref fa) →
      s₁.heap.get? a = some { cls := .type "list", data := .seq vs.toArray } → IntsAre vs ns → ns.length ≤ n → s₁.gens = #[] →
      codeAny (model l.prog w) callerA (.call (.ref fa) ⟨[.ref a], []⟩) (fun r s' => r = .ok (.ret (.bool true)) ∧ OldK s₁.heap s'.heap ∧ s'.os = s₁.os ∧ AllBare s'.gens) s₁) :
    WalkO q loose XP YP l.row.toRowW d [] (fun f vs => PySem.call f vs) := by
  intro w s₀ s₁ mg mb G Y fa o pm cd doc dV kV ho hd hcd hD hmg hg args vals as hpre hlay hrd hwl hlo
  obtain rfl : dV = .none := Dflts.none hD hdf
  obtain rfl : kV = .none := Dflts.noKw hD
  obtain ⟨a, vs, ns, rfl, rfl, hobj, hints, hlen⟩ := script_of hn hpre hwl
  refine enter_call (codeAny_mono (call w s₀ s₁ mg mb fa o pm cd doc a vs ns G Y ho (fd_plain hd) hcd hmg hobj hints hlen hg) fun r s' hq => ?_)
  obtain ⟨rfl, h2, h3, h4⟩ := hq
  exact ⟨.inl ⟨.bool true, .bool true, [], rfl, fun _ => rfl, .bool true, post_true l _, fun _ => ⟨List.Pairwise.nil, fun _ hm => (nomatch hm)⟩⟩, h2, h3, h4⟩

/-! ### rules over ANY heap (no ledger) from facts about the written part K: the library's own take a ledger (News) for what they write -/
section
variable {prog : Program} {w : World} {A : Around} {E : Value → Shared → Prop} {s : Shared} {K : Frag}

/-! the whole heap as the ledger: makes every rule that writes through a ledger a rule over any heap -/
def noObjs (h : Heap) : Heap := { h with objs := #[] }
def ledger (h : Heap) (L d : Addr) : List (Addr × Obj) := (List.range h.objs.size).filterMap fun a => if a = L ∨ a = d then none else (h.get? a).map fun o => (a, o)
end
end Att

namespace L2
open PySem PySem.Spec PyProof.Rows

theorem vals_ints : ∀ {vs : List Value} {ns : List Int}, IntsAre vs ns → Vals (ns.map V.int) vs
  | _, _, .nil => .nil
  | _, _, .cons n t h => .cons ⟨t, rfl⟩ (vals_ints h)

/-- nothing is tracked but the script, known to the object (or it is an object of the module) -/
def Only (H : Hp) : Prop := ∀ b, H b = none ∨ ∃ o xs, H b = some (.frz o (.lst xs))

/-- THE HEAD: the law's promise, at the heap behind the top. F, the promise of the law's def, may use that base is part of the heap (so K.In base, base.Ns mainGlobals mg stand in Mod) -/
theorem law_call {P : Program} {w : World} {K : PySem.W.Frag} {mg mb : Str → Option Value} {CX : CXT} {k : Nat} {fa a : Addr} {fd : FuncData} {x : Str} {sp : Sp} {s₁ : Shared} {vs : List Value} {ns : List Int}
    (KX : K.In s₁.heap) (hns : s₁.heap.Ns mainGlobals mg) (hb : s₁.heap.Ns builtinsNs mb) (hbb : ∀ x : Str, x ≠ "__name__" → mb x = bootBuiltins x) (hlim : s₁.heap.NoLimit) (hg : s₁.gens = #[])
    (ha : s₁.heap.get? a = some { cls := .type "list", data := .seq vs.toArray }) (hi : IntsAre vs ns) (hl : ns.length ≤ sizeLine) (hr : Room k callerA)
    (F : ∀ base : Heap, K.In base → base.Ns mainGlobals mg → FnOk P w K mg base CX k fa fd [x] sp) (hbind : ∀ (s : Shared) (u : Value), BindsTo s fd ⟨[u], []⟩ [(x, u)])
    (hsp : ∀ H : Hp, Only H → SqL K H a (ns.map V.int) → sp [.ref a] H (fun v _ => v = .bl true) fun _ _ _ => False)
    (hCX : ∀ H e s', CX [] H s₁ (fun _ _ _ => False) e s' → False) :
    codeAny (model P w) callerA (.call (.ref fa) ⟨[.ref a], []⟩) (fun r s' => r = .ok (.ret (.bool true)) ∧ OldK s₁.heap s'.heap ∧ s'.os = s₁.os ∧ AllBare s'.gens) s₁ := by
  have rv := vals_ints hi
  have lenV := hi.length
  -- from an abstract heap in which nothing but the script may be tracked
  have core : ∀ H : Hp, Only H → SqL K H a (ns.map V.int) → HOk P w H s₁.heap → (∀ b, H b ≠ none → b = a) → (H a ≠ none → K.lookup a = none) →
      codeAny (model P w) callerA (.call (.ref fa) ⟨[.ref a], []⟩) (fun r s' => r = .ok (.ret (.bool true)) ∧ OldK s₁.heap s'.heap ∧ s'.os = s₁.os ∧ AllBare s'.gens) s₁ := by
    intro H hO hS hok hA hK
    have base_of : ∀ {b : Addr} {o : Obj}, s₁.heap.get? b = some o → H b = none → (hidT s₁.heap H).get? b = some o := fun e n => hidT_get e n
    have noA : ∀ {b : Addr} {o : Obj} {es : Array DictEntry} {ep : Nat}, s₁.heap.get? b = some o → o.data = .dict es ep → H b = none := fun {b o es ep} e d => by
      cases q : H b with
      | none => rfl
      | some u =>
        have e' : b = a := hA b (by rw [q]; simp)
        subst e'
        rw [ha] at e; cases e
        have d' : Data.seq vs.toArray _ = Data.dict es ep := d
        cases d'
    have nsK : ∀ {b : Addr} {m : Str → Option Value}, s₁.heap.Ns b m → (hidT s₁.heap H).Ns b m := fun {b m} ⟨o, es, ep, e, d, r⟩ => ⟨o, es, ep, base_of e (noA e d), d, r⟩
    have hKb : K.In (hidT s₁.heap H) := fun b o e => base_of (KX b o e) (by
      cases q : H b with
      | none => rfl
      | some u =>
        have e' : b = a := hA b (by rw [q]; simp)
        subst e'
        rw [hK (by rw [q]; simp)] at e; cases e)
    have hM : Mod K mg (hidT s₁.heap H) := ⟨hKb, nsK hns, ⟨mb, nsK hb, hbb⟩, let ⟨mc, h1, h2⟩ := hlim; ⟨mc, nsK h1, h2⟩⟩
    have e0 : Env0 P w K mg (hidT s₁.heap H) callerA [] s₁ H := ⟨rfl, hM, fun b o e => of_hidT e, Nat.le_of_eq (hidT_size _ _), trivial, fun b hb => absurd (show b ∈ ([] : List Addr) from hb) (by simp), hok, .of_eq hg⟩
    refine codeAny_mono ((F _ hKb (nsK hns)).run callerA [] s₁ H ⟨[.ref a], []⟩ [.ref a] [.ref a] _ _ hr e0 (hbind s₁ (.ref a)) (.cons rfl .nil) (hsp H hO hS)) fun r s' h => ?_
    cases r with
    | error e => exact (hCX H e s' h).elim
    | ok fl =>
      cases fl with
      | next => exact False.elim h
      | brk => exact False.elim h
      | cont => exact False.elim h
      | ret u =>
        obtain ⟨v, H', os, bare, un, hok', r', q⟩ := h
        have q' : v = .bl true := q
        subst q'
        obtain rfl : u = Value.bool true := r'
        refine ⟨rfl, OldK.of_keep fun b o e => ?_, os, bare⟩
        cases q : H b with
        | none => exact un.keep b o e q (by intro z; exact absurd (show b ∈ ([] : List Addr) from z) (by simp)) (by simp)
        | some u =>
          rcases hO b with z | ⟨ob, xs, z⟩
          · rw [q] at z; cases z
          · have z2 := un.frzs b ob _ z
            obtain ⟨e1, _⟩ := hok b _ z
            obtain ⟨e2, _⟩ := hok' b _ z2
            rw [e] at e1; cases e1
            exact e2
  cases hk : K.lookup a with
  | some o =>
    -- the script is one of the module's own objects
    have e := KX a o hk
    rw [ha] at e
    cases e
    refine core (fun _ => none) (fun _ => .inl rfl) (.inr ⟨_, vs.toArray, _, hk, rfl, rfl, rfl, by rw [List.size_toArray, lenV]; exact hl, by simpa using rv⟩) (fun b u z => by have z' : (none : Option HO) = some u := z; cases z') (fun b z => absurd rfl z) fun z => absurd rfl z
  | none =>
    refine core (fun b => if b = a then some (.frz { cls := .type "list", data := .seq vs.toArray } (.lst (ns.map V.int))) else none) (fun b => ?_) (.inl (.inr ⟨{ cls := .type "list", data := .seq vs.toArray }, if_pos rfl⟩)) (fun b u z => ?_) (fun b z => ?_) fun _ => hk
    · by_cases hb : b = a
      · exact .inr ⟨_, _, if_pos hb⟩
      · exact .inl (if_neg hb)
    · by_cases hb : b = a
      · have z' := (if_pos hb).symm.trans z
        cases z'
        subst hb
        exact ⟨ha, by rw [List.length_map]; exact hl, vs, _, rv, ha⟩
      · have z' := (if_neg hb).symm.trans z
        cases z'
    · by_cases hb : b = a
      · exact hb
      · exact absurd (if_neg hb) z
end L2

namespace L2
open PySem PySem.Spec PyProof.Rows

abbrev KOf {K : PySem.W.Frag} {h : Heap} (_ : K.In h) : PySem.W.Frag := K

/-- the goal that k_head leaves (case hc), from the law's promise. F gives the function object fd (K's own) once, then the promise over every base -/
theorem walk_of {l : PySem.W.OpenLaw} {n k : Nat} {q : Program} {loose : List Str} {XP : (Str → Option Value) → Heap → Prop} {YP : World → Heap → Prop} {d : DefRec} {K : Params → PySem.W.Frag} {CX : World → CXT} {sp : World → Sp} {x : Str}
    (hn : l.most = some n) (hn2 : n ≤ sizeLine) (hdf : d.params.defaults = []) (hr : Room k callerA)
    (hY : ∀ (w : World) (h : Heap), YP w h → (K w.params).In h)
    (F : ∀ (w : World) (mg : Str → Option Value) (fa : Addr) (h : Heap), (K w.params).In h → h.Ns mainGlobals mg → mg d.name = some (.ref fa) →
      ∃ fd : FuncData, (∀ (s : Shared) (u : Value), BindsTo s fd ⟨[u], []⟩ [(x, u)]) ∧
        ∀ base : Heap, (K w.params).In base → base.Ns mainGlobals mg → FnOk l.prog w (K w.params) mg base (CX w) k fa fd [x] (sp w))
    (hsp : ∀ (w : World) (H : Hp) (a : Addr) (ns : List Int), ns.length ≤ n → Only H → SqL (K w.params) H a (ns.map V.int) → sp w [.ref a] H (fun v _ => v = .bl true) fun _ _ _ => False)
    (hCX : ∀ (w : World) (H : Hp) (s : Shared) (e : Value) (s' : Shared), CX w [] H s (fun _ _ _ => False) e s' → False) :
    PySem.W.WalkO q loose XP YP l.row.toRowW d [] (fun f vs => PySem.call f vs) := by
  refine Att.attach_call hn hdf fun w s₀ s₁ mg mb fa o pm cd doc a vs ns G Y ho hd hcd hmg hobj hints hlen hg => ?_
  have KX := hY w _ Y
  obtain ⟨fd, hb, hF⟩ := F w mg fa _ KX G.T.g hmg
  exact law_call KX G.T.g G.T.b G.T.builtins G.T.nolimit hg hobj hints (Nat.le_trans hlen hn2) hr hF hb (fun H hO hS => hsp w H a ns hlen hO hS) fun H e s' => hCX w H s₁ e s'
end L2

/- THE LAST THEOREM (shape; LID, My.* are yours):
   My.Adr: a structure of the addresses that your layer names (classes, functions); My.Txt K t: a structure (Prop) of the equations over K;
   My.txt_mk : {K} {implicit addresses ..} (e1 : nsIn K mainGlobals "law" = some (some (.ref f))) (e2 : K.lookup f = some ⟨oc, od, .func (fnOf "law" "law" params body scope dV kV doc pm an cdv ct), sl⟩) (e3 : codeIn K cdv "law" = true) .. : ∃ t, My.Txt K t

set_option maxRecDepth 100000 in
set_option maxHeartbeats 0 in
theorem PySem.Challenge.cw_LID_holds : PySem.Challenge.rw_LID.Holds := by
  w_on; o_law; k_head; (case hw => w_witness2)
  k_fill
  refine L2.walk_of (l := PySem.Challenge.rw_LID) (n := 63) (k := 40) (x := "script") (CX := fun w => ..) (sp := fun _ => My.sp_law) rfl (by decide) rfl ⟨rfl, by decide, by decide⟩ (fun w h Y => PySem.W.kIn_of Y) ?F ?S ?C
  case F =>
    intro w mg fa h KX G hmg
    have T : ∃ t, My.Txt (L2.KOf KX) t := by
      dsimp only [L2.KOf]                          -- K must stand as «<heap const> w.params» for k_is
      refine' My.txt_mk ?e1 ?e2 ?e3 ..
      (case e1 => PySem.W.k_is)                    -- in the order: a name -> its address -> its object -> its parts
      (case e2 => PySem.W.k_is)
      ..
    obtain ⟨t, T⟩ := T
    have e0 := hmg.symm.trans (PySem.W.mg_of KX G T.law)
    cases e0                                       -- fa is the law's own address
    exact ⟨_, fun s u => .of_eq rfl, fun base kb nb => My.law_fn T kb nb⟩     -- if «.of_eq rfl» comes too early: refine' ⟨_, ?b, fun base kb nb => My.law_fn T kb nb⟩; exact fun s u => .of_eq rfl
  case S => exact fun w H a ns hl hO hS => ..
  case C => exact ..
(the tactic k_is has no namespace: write k_is) -/

/-! SHORT WORDS over the layer: a def of the text, its body, what a loop and a test want. -/
namespace L2
open PySem PySem.Spec PyProof.Rows

/-! ### the text by places -/
/-- the j-th statement of a class's body -/
def inClass (s : Stmt) (j : Nat) : Stmt := match s with
  | .ClassDef _ _ _ body _ _ _ _ _ _ _ => body.getD j (.Pass ⟨0, 0, 0, 0⟩)
  | _ => .Pass ⟨0, 0, 0, 0⟩
def defArgs (s : Stmt) : Arguments := match s with
  | .FunctionDef _ a _ _ _ _ _ _ _ _ => a
  | _ => { posonlyargs := [], args := [], vararg := none, kwonlyargs := [], kw_defaults := [], kwarg := none, defaults := [] }
def defBody (s : Stmt) : List Stmt := match s with
  | .FunctionDef _ _ b _ _ _ _ _ _ _ => b
  | _ => []
def defScope (s : Stmt) : Scope := match s with
  | .FunctionDef _ _ _ _ _ _ sc _ _ _ => sc
  | _ => { kind := .function, names := [], isGenerator := false, isCoroutine := false }

/-! ### no exception leaves a def -/
abbrev CX0 : CXT := fun _ _ _ _ _ _ => False
abbrev E0 : XK := fun _ _ _ => False
theorem pass0 {X : Cx} : Passes CX0 X E0 := fun _ _ _ _ _ _ _ h => h.elim

/-! ### a def (or method) of the text as it stands behind the top -/
structure Fun (K : PySem.W.Frag) (x qual : Str) (st : Stmt) (f : Addr) (fd : FuncData) : Prop where
  ex : ∃ (oc : Value) (od : Option Addr) (kV doc pm : Value) (an : Option Addr) (cdv ct : Value) (osl : Array (Option Value)),
    fd = PySem.W.fnOf x qual (defArgs st) (defBody st) (defScope st) .none kV doc pm an cdv ct ∧ K.lookup f = some ⟨oc, od, .func fd, osl⟩ ∧ PySem.W.codeIn K cdv qual = true
  kp : PySem.W.keepIn K (.ref f) = true
section
variable {P : Program} {w : World} {K : PySem.W.Frag} {mg : Str → Option Value} {base : Heap}
/-- THE RULE for a def: its body as a term of rules, and the reading of that term -/
theorem Fun.ok {x qual : Str} {st : Stmt} {f : Addr} {fd : FuncData} {N ps : List Str} {k : Nat} {sp : Sp} (F : Fun K x qual st f fd) (S : FnScope N ps (defScope st)) (len : ∀ vs H Q E, sp vs H Q E → vs.length = ps.length)
    (hbody : ∀ (cdv : Value) (A : Around) (outer : List Env) (s : Shared) (H : Hp) (vs : List V) (Q : VK) (E : XK), Room k (A.deeper (envOfC qual (defScope st) s.heap.objs.size f cdv)) → sp vs H Q E →
      ∃ t, PSs (cxOf CX0 P w K mg base N qual (defScope st) f cdv A outer s H E).nox (defBody st) t ∧ t { nx := fun _ H' => Q .non H', rt := Q } (start N vs) H) : FnOk P w K mg base CX0 (k + 1) f fd ps sp := by
  obtain ⟨oc, od, kV, doc, pm, an, cdv, ct, osl, rfl, lk, hcd⟩ := F.ex
  refine fn_of lk hcd S len fun A outer s H vs Q E hr hsp => ?_
  obtain ⟨t, h, q⟩ := hbody cdv A outer s H vs Q E hr hsp
  exact ⟨t, h.nox, q⟩
/-- how its arguments bind (no defaults): h is «fun _ _ _ _ _ _ us hl => match us, hl with | [_, _], _ => rfl», one _ a parameter -/
theorem Fun.binds {x qual : Str} {st : Stmt} {f : Addr} {fd : FuncData} {ps : List Str} (F : Fun K x qual st f fd)
    (h : ∀ (kV doc pm : Value) (an : Option Addr) (cdv ct : Value) (us : List Value), us.length = ps.length → bindArgs (PySem.W.fnOf x qual (defArgs st) (defBody st) (defScope st) .none kV doc pm an cdv ct) ⟨us, []⟩ = pure (ps.zip us)) : Binds K fd ps [] := by
  obtain ⟨oc, od, kV, doc, pm, an, cdv, ct, osl, rfl, lk, hcd⟩ := F.ex
  exact .all (h kV doc pm an cdv ct)
theorem fun_mk {x qual : Str} {st : Stmt} {f : Addr} {oc : Value} {od an : Option Addr} {osl : Array (Option Value)} {kV doc pm cdv ct : Value} (l : K.lookup f = some ⟨oc, od, .func (PySem.W.fnOf x qual (defArgs st) (defBody st) (defScope st) .none kV doc pm an cdv ct), osl⟩)
    (c : PySem.W.codeIn K cdv qual = true) (k : PySem.W.keepIn K (.ref f) = true) : Fun K x qual st f (PySem.W.fnOf x qual (defArgs st) (defBody st) (defScope st) .none kV doc pm an cdv ct) := ⟨⟨oc, od, kV, doc, pm, an, cdv, ct, osl, rfl, l, c⟩, k⟩
end
theorem hu_of {A : Around} {k : Nat} (hr : Room k A) : A.units + 1 < cLine := Nat.lt_of_le_of_lt (Nat.add_le_add_left (by decide : 1 ≤ 64) _) hr.units
theorem small1000 {n : Nat} (h : n ≤ 1000) : n < sizeLine := Nat.lt_of_le_of_lt h (by decide)

/-! ### expressions in short: the name that stands in the i-th slot -/
section
variable {X : Cx}
theorem pv (i : Nat) {x : Str} {pos : Pos} (hN : X.N[i]? = some x := by rfl) (hv : Vis X.env.scope x := by first | exact Or.inl rfl | exact Or.inr (Or.inl rfl) | exact Or.inr (Or.inr rfl)) (hd : (x == ("__debug__" : Str)) = false := by decide)
    (hcd : (x == ("__classdict__" : Str)) = false := by decide) : PE X (.Name x pos) (tVar i) := pe_var hN hv hd hcd
end

/-! ### tests -/
theorem iteF {A B : Prop} (h : B) : if false = true then A else B := by
  rw [if_neg Bool.false_ne_true]
  exact h
theorem iteT {A B : Prop} (h : A) : if true = true then A else B := by
  rw [if_pos rfl]
  exact h
/-! ### heaps -/
/-- all that was tracked is as it was -/
def Same (H H' : Hp) : Prop := ∀ b o, H b = some o → H' b = some o
theorem Same.refl (H : Hp) : Same H H := fun _ _ h => h
theorem Same.trans {H H1 H2 : Hp} (a : Same H H1) (b : Same H1 H2) : Same H H2 := fun c o h => b c o (a c o h)
theorem Same.free {H H' : Hp} (e : Same H H') {l : Addr} (h : H' l = Option.none) : H l = Option.none := by
  cases q : H l with
  | none => rfl
  | some o =>
    rw [e l o q] at h
    cases h
theorem Same.seq {K : PySem.W.Frag} {H H' : Hp} {a : Addr} {xs : List V} (e : Same H H') (h : SqL K H a xs) : SqL K H' a xs := by
  rcases h with (h | ⟨o, h⟩) | h
  · exact .inl (.inl (e _ _ h))
  · exact .inl (.inr ⟨o, e _ _ h⟩)
  · exact .inr h

/-! ### a dict's pairs: keys that differ -/
section
variable {κ : Type} [DecidableEq κ]
theorem valV_not {kvs : List (κ × V)} {k : κ} (h : valV kvs k = none) : ¬ k ∈ kvs.map (·.1) := by
  intro m
  obtain ⟨p, hp, e⟩ := List.mem_map.mp m
  have q : (kvs.any fun kv => decide (kv.1 = k)) = true := List.any_eq_true.mpr ⟨p, hp, decide_eq_true e⟩
  rw [valV_any, h] at q
  exact absurd q (by simp)
theorem dropK_pos {p : κ × V} {r : List (κ × V)} {k : κ} (e : p.1 = k) : dropK (p :: r) k = dropK r k := by
  unfold dropK
  rw [List.filter_cons, if_neg (by simp [e])]
theorem dropK_neg {p : κ × V} {r : List (κ × V)} {k : κ} (e : ¬ p.1 = k) : dropK (p :: r) k = p :: dropK r k := by
  unfold dropK
  rw [List.filter_cons, if_pos (by simp [e])]
theorem dropK_no : ∀ {kvs : List (κ × V)} {k : κ}, ¬ k ∈ kvs.map (·.1) → dropK kvs k = kvs
  | [], _, _ => rfl
  | p :: r, k, h => by
    have h' : ¬ k ∈ r.map (·.1) := fun m => by
      obtain ⟨q, hq, e⟩ := List.mem_map.mp m
      exact h (List.mem_map.mpr ⟨q, List.mem_cons.mpr (Or.inr hq), e⟩)
    rw [dropK_neg fun e => h (List.mem_map.mpr ⟨p, List.mem_cons.mpr (Or.inl rfl), e⟩), dropK_no h']
theorem dropK_mem {kvs : List (κ × V)} {k : κ} {p : κ × V} (h : p ∈ dropK kvs k) : p ∈ kvs := (List.mem_filter.mp h).1
end
end L2


/-! own rules over the hand layer: list comprehensions -/
namespace L2
open PySem PySem.Spec PyProof.Rows

/-- the cells that a comprehension's block takes along -/
def clF (env : Env) : List (Str × NameKind) → List (Str × Addr) → List (Str × Addr)
  | [], acc => acc
  | (n, k) :: r, acc => clF env r (if k == NameKind.free then (n, (env.cells.lookup n).getD 0) :: acc else acc)
theorem closure_eq {env : Env} {scope : Scope} (h : ∀ y ∈ scope.names, y.2 = .free → ∃ c, env.cells.lookup y.1 = some c) : closureFor scope env = pure (clF env scope.names []) := by
  have go : ∀ (names : List (Str × NameKind)) (acc : List (Str × Addr)), (∀ y ∈ names, y.2 = .free → ∃ c, env.cells.lookup y.1 = some c) →
      (forIn names acc fun (x : Str × NameKind) (r : List (Str × Addr)) => (match x with
        | (name, kind) => if (kind == NameKind.free) = true then do let a ← cellOf env name; pure (ForInStep.yield ((name, a) :: r)) else pure (ForInStep.yield r) : Sem (ForInStep (List (Str × Addr))))) = (pure (clF env names acc) : Sem (List (Str × Addr))) := by
    intro names
    induction names with
    | nil => intro acc _; rfl
    | cons x r ih =>
      intro acc hy
      obtain ⟨n, k⟩ := x
      have ih' := fun a => ih a fun y m => hy y (List.mem_cons_of_mem _ m)
      rw [List.forIn_cons]
      cases hk : (k == NameKind.free) with
      | false =>
        dsimp only
        rw [hk, if_neg Bool.false_ne_true, pure_bind]
        show _ = pure (clF env r (if (k == NameKind.free) = true then _ else acc))
        rw [hk, if_neg Bool.false_ne_true]
        exact ih' acc
      | true =>
        obtain ⟨c, hc⟩ := hy (n, k) List.mem_cons_self (by simpa using hk)
        have e : cellOf env n = pure c := by unfold cellOf; rw [hc]
        dsimp only
        rw [hk, if_pos rfl, e, pure_bind, pure_bind]
        show _ = pure (clF env r (if (k == NameKind.free) = true then _ else acc))
        rw [hk, if_pos rfl, hc]
        exact ih' _
  unfold closureFor
  have e := go scope.names [] h
  show (forIn scope.names [] _ >>= _) = _
  refine (congrArg (fun z => z >>= fun cs => pure cs) e).trans ?_
  rfl
theorem clF_sub {env : Env} : ∀ (names : List (Str × NameKind)) (acc : List (Str × Addr)), (∀ y ∈ names, y.2 = .free → ∃ c, env.cells.lookup y.1 = some c) →
    (∀ x c, acc.lookup x = some c → env.cells.lookup x = some c) → ∀ x c, (clF env names acc).lookup x = some c → env.cells.lookup x = some c
  | [], acc, _, h, x, c, e => h x c e
  | (n, k) :: r, acc, hy, h, x, c, e => by
    refine clF_sub r _ (fun y m => hy y (List.mem_cons_of_mem _ m)) (fun y d z => ?_) x c e
    cases hk : (k == NameKind.free) with
    | false => rw [hk, if_neg Bool.false_ne_true] at z; exact h y d z
    | true =>
      rw [hk, if_pos rfl] at z
      obtain ⟨c', hc⟩ := hy (n, k) List.mem_cons_self (by simpa using hk)
      rw [List.lookup_cons] at z
      cases q : y == n with
      | true =>
        rw [q] at z
        have q' : y = n := by simpa using q
        subst q'
        have hc' : env.cells.lookup y = some c' := hc
        rw [hc'] at z ⊢
        exact z
      | false => rw [q] at z; exact h y d z
theorem clF_has {env : Env} : ∀ (names : List (Str × NameKind)) (acc : List (Str × Addr)) (x : Str), ((x, NameKind.free) ∈ names ∨ ∃ c, acc.lookup x = some c) → ∃ c, (clF env names acc).lookup x = some c
  | [], acc, x, h => by
    rcases h with h | h
    · cases h
    · exact h
  | (n, k) :: r, acc, x, h => by
    refine clF_has r _ x ?_
    have keep : (∃ c, acc.lookup x = some c) → ∃ c, (if (k == NameKind.free) = true then (n, (env.cells.lookup n).getD 0) :: acc else acc).lookup x = some c := fun hZ => by
      obtain ⟨c, hc⟩ := hZ
      split
      · rw [List.lookup_cons]
        split
        · exact ⟨_, rfl⟩
        · exact ⟨c, hc⟩
      · exact ⟨c, hc⟩
    rcases h with h | h
    · rcases List.mem_cons.mp h with e | e
      · have e1 : x = n := congrArg Prod.fst e
        have e2 : NameKind.free = k := congrArg Prod.snd e
        subst e1 e2
        refine .inr ⟨(List.lookup x env.cells).getD 0, ?_⟩
        rw [if_pos (by rfl), List.lookup_cons, beq_self_eq_true]
      · exact .inl e
    · exact .inr (keep h)
/-- what a name is in the block: local there, else one of the cells taken along -/
theorem rel_kind {env : Env} : ∀ {names : List (Str × NameKind)} {x : Str} {k : NameKind},
    (names.map fun (n, k) => if (k == NameKind.free && env.scope.kind == .function && env.kindOf n == some .cell) then (n, NameKind.cell) else (n, k)).lookup x = some k →
    (names.lookup x = some k) ∨ (k = .cell ∧ names.lookup x = some .free)
  | [], _, _, h => by simp at h
  | (n, k') :: r, x, k, h => by
    have ih := @rel_kind env r x k
    have h : List.lookup x ((if (k' == NameKind.free && env.scope.kind == .function && env.kindOf n == some .cell) = true then (n, NameKind.cell) else (n, k')) :: _) = some k := h
    by_cases hc : (k' == NameKind.free && env.scope.kind == .function && env.kindOf n == some .cell) = true
    · rw [if_pos hc, List.lookup_cons] at h
      rw [List.lookup_cons]
      cases hx : x == n with
      | true =>
        rw [hx] at h
        have h' : some NameKind.cell = some k := h
        cases h'
        have : k' = NameKind.free := by
          have := (Bool.and_eq_true _ _).mp ((Bool.and_eq_true _ _).mp hc).1
          simpa using this.1
        subst this
        exact .inr ⟨rfl, rfl⟩
      | false => rw [hx] at h; exact ih h
    · rw [if_neg hc, List.lookup_cons] at h
      rw [List.lookup_cons]
      cases hx : x == n with
      | true => rw [hx] at h; exact .inl h
      | false => rw [hx] at h; exact ih h

/-- the block of a comprehension as a context -/
def blk (X : Cx) (sc : Scope) (cl : List (Str × Addr)) (C : Addr) (fp : List Addr) (s : Shared) (H : Hp) (N : List Str) : Cx :=
  { X with env := compEnvC sc cl C X.env, N := N, s₀ := s, H₀ := H, outer := X.stack, ex := fp, fn := fun _ => false, pn := [], xe := fun _ _ => False }
/-- what is asked of a comprehension's names: M stands for the frame's slots (the dummy name where a slot is not seen), tgs for the targets -/
structure BlkOk (X : Cx) (sc : Scope) (M tgs : List Str) : Prop where
  kind : sc.kind = .function
  names : ∀ y ∈ sc.names, y.2 = .local → sc.names.lookup y.1 = some .local
  nocell : ∀ y ∈ sc.names, y.2 ≠ .cell
  free : ∀ y ∈ sc.names, y.2 = .free → X.env.kindOf y.1 = some .cell ∨ X.env.kindOf y.1 = some .free
  len : M.length = X.N.length
  same : ∀ p ∈ M.zip X.N, p.1 = p.2 ∨ p.1 = ("" : Str)
  dummy : sc.names.lookup ("" : Str) = none
  hid : ∀ x ∈ M, sc.names.lookup x ≠ some .local
section
variable {X : Cx}
theorem Inv.blk {pins : List (Addr × Obj)} {σ : St} {H : Hp} {s s4 : Shared} {sc : Scope} {M tgs : List Str} {C : Addr} {fp : List Addr} {m : Str → Option Value} (I : Inv X pins σ H s) (B : BlkOk X sc M tgs) (hf : ∀ b ∈ fp, FpOk X pins H b) (hfl : ∀ b ∈ fp, b < s.heap.objs.size)
    (hC : s.heap.objs.size ≤ C) (hn : s4.heap.Ns C m) (hk : ∀ b o, s.heap.get? b = some o → s4.heap.get? b = some o) (ho : s4.os = s.os) (hg : s4.gens = s.gens) :
    Inv (blk X sc (clF X.env sc.names []) C fp s H (M ++ tgs)) [] (σ ++ List.replicate tgs.length none) H s4 := by
  have hfr : ∀ y ∈ sc.names, y.2 = .free → ∃ c, X.env.cells.lookup y.1 = some c := fun y hy e => I.ok.has _ (B.free y hy e)
  have hsub : ∀ x c, (clF X.env sc.names []).lookup x = some c → X.env.cells.lookup x = some c := clF_sub sc.names [] hfr fun _ _ z => by simp at z
  have hin : ∀ x c, (clF X.env sc.names []).lookup x = some c → c < s.heap.objs.size := fun x c e => by
    obtain ⟨v, q⟩ := I.cell x c (hsub x c e)
    exact q.lt
  have hfree : ∀ x, ((relabel sc X.env).names.lookup x = some .cell ∨ (relabel sc X.env).names.lookup x = some .free) → sc.names.lookup x = some .free := fun x hx => by
    rcases hx with q | q
    · rcases rel_kind q with z | z
      · exact absurd rfl (B.nocell _ (PySem.mem_of_lookup z))
      · exact z.2
    · rcases rel_kind q with z | z
      · exact z
      · exact absurd z.1 (by decide)
  refine ⟨⟨I.ok.mod, B.kind, I.ok.glob, I.ok.blt, hC, fun x y c h1 h2 => I.ok.inj x y c (hsub x c h1) (hsub y c h2), fun x hx => ?_, fun x c z => absurd z Bool.false_ne_true, I.ok.hd, I.ok.frames, .inl rfl, fun b hb => ⟨?_, fun x c e => ?_⟩, I.bs, ?_, fun b o e z => ?_, fun b hb => ?_, I.stack, I.stkFree⟩,
    ho, ?_, Un.kept hk, ⟨m, hn, fun i x v h1 h2 h3 => ?_⟩, fun x c e => ?_, I.hok.fresh hC, fun x c e => I.freeC x c (hsub x c e), fun p hp => absurd (show p ∈ ([] : List (Addr × Obj)) from hp) (by simp), I.hok.kept hk, ?_⟩
  · exact clF_has sc.names [] x (.inl (PySem.mem_of_lookup (hfree x hx)))
  · exact Nat.ne_of_lt (Nat.lt_of_lt_of_le (hfl b hb) hC)
  · exact (hf b hb).2.2.2.2.1 x c (hsub x c e)
  · exact Nat.le_trans I.ok.bsz I.sz
  · rcases (hf b z).2.2.2.1 with q | q
    · exact I.ok.noex b o e q
    · exact absurd (Nat.lt_of_lt_of_le (Heap.lt_size e) I.ok.bsz) (Nat.not_lt.mpr q)
  · intro z
    rcases List.mem_cons.mp (I.stkSub b z) with q | q
    · exact (hf b hb).2.1 q
    · exact (hf b hb).2.2.1 q
  · rw [hg]; exact I.bare
  · have hl : M.length = σ.length := B.len.trans I.len.symm
    have hi : i < σ.length := by
      by_cases hi : i < σ.length
      · exact hi
      · rw [List.getElem?_append_right (by omega), List.getElem?_replicate] at h2
        split at h2 <;> cases h2
    rw [List.getElem?_append_left hi] at h2
    have h1 : (M ++ tgs)[i]? = some x := h1
    rw [List.getElem?_append_left (by omega)] at h1
    have hmem : x ∈ M := List.mem_of_getElem? h1
    have hx : sc.names.lookup x = some .free := by
      rcases h3 with q | q | q
      · rcases rel_kind q with z | z
        · exact absurd z (B.hid x hmem)
        · exact absurd z.1 (by decide)
      · exact hfree x (.inl q)
      · exact hfree x (.inr q)
    have hNi : X.N[i]? = some x := by
      have hi2 : i < X.N.length := by rw [← I.len]; exact hi
      have hz : (M.zip X.N)[i]? = some (x, X.N[i]) := by
        rw [List.getElem?_zip_eq_some]
        exact ⟨h1, List.getElem?_eq_getElem hi2⟩
      rcases B.same _ (List.mem_of_getElem? hz) with q | q
      · have q' : x = X.N[i] := q
        rw [List.getElem?_eq_getElem hi2, q']
      · have q' : x = ("" : Str) := q
        rw [q', B.dummy] at hx
        cases hx
    have hk2 := B.free (x, .free) (PySem.mem_of_lookup hx) rfl
    obtain ⟨m0, _, hl0⟩ := I.loc
    obtain ⟨u, r, l⟩ := hl0 i x v hNi h2 (.inr hk2)
    refine ⟨u, r, .inr ?_⟩
    rcases l with ⟨k, _⟩ | ⟨_, c, ec, hcell⟩
    · have k' : X.env.kindOf x = some .local := k
      rcases hk2 with q | q
      · have q' : X.env.kindOf x = some .cell := q
        rw [k'] at q'; cases q'
      · have q' : X.env.kindOf x = some .free := q
        rw [k'] at q'; cases q'
    · obtain ⟨c', ec'⟩ := clF_has (env := X.env) sc.names [] x (.inl (PySem.mem_of_lookup hx))
      have : c' = c := by
        have := hsub x c' ec'
        rw [ec] at this
        exact (Option.some.inj this).symm
      subst this
      refine ⟨?_, c', ec', ?_⟩
      · rcases h3 with q | q | q
        · rcases rel_kind q with z | z
          · rw [hx] at z; cases z
          · exact absurd z.1 (by decide)
        · exact .inl q
        · exact .inr q
      · obtain ⟨o, e1, e2⟩ := hcell
        exact ⟨o, hk _ _ e1, e2⟩
  · obtain ⟨v, o, e1, e2⟩ := I.cell x c (hsub x c e)
    exact ⟨v, o, hk _ _ e1, e2⟩
  · show (σ ++ _).length = (M ++ tgs).length
    rw [List.length_append, List.length_append, List.length_replicate, B.len, I.len]

/-- the tests of a comprehension -/
def PIfs (X : Cx) (ifs : List Expr) (t : TT) : Prop :=
  ∀ (pins : List (Addr × Obj)) (s : Shared) (σ : St) (H : Hp) (Q : Bool → Hp → Prop), Inv X pins σ H s → t σ H Q →
    wpAny (model X.prog X.w) X.A (forIn ifs true fun c r => if r = true then do let ok ← isTrue c X.env (eval c X.env); pure (ForInStep.yield ok) else pure (ForInStep.yield r)) (TP X pins σ Q) X.xe s
def tNoIf : TT := fun _ H Q => Q true H
theorem pif0 : PIfs X [] tNoIf := fun pins s σ H Q I h => wpAny_tests_nil ⟨H, I, h⟩
theorem pif1 {c : Expr} {t : TT} (h : PT X c t) : PIfs X [c] t := fun pins s σ H Q I hw => wpAny_tests_one (h pins s σ H Q I hw)

/-- the loop of a comprehension, whatever the target is -/
theorem compLoop_gen {prog : Program} {w : World} {A : Around} {R : Result → Shared → Prop} {s : Shared} {elt target iter : Expr} {ifs : List Expr} {scope : Scope} {pos : Pos} {it acc : Value} {env : Env} (I : Nat → Shared → Prop)
    (turn : ∀ n s, I n s → wpAny (model prog w) A (pyNext it) (fun r s₁ => match r with
      | none => R (.ok .next) s₁
      | some v => wpAny (model prog w) A (letOwnedTupleGo target it v) (fun _ s₁' => wpAny (model prog w) A (assign target env v) (fun _ s₂ =>
          wpAny (model prog w) A (forIn ifs true fun c r => if r = true then do let ok ← isTrue c env (eval c env); pure (ForInStep.yield ok) else pure (ForInStep.yield r)) (fun ok s₃ =>
            if ok = true then wpAny (model prog w) A (eval elt env) (fun x s₄ =>
              wpAny (model prog w) A (call (.builtin "list.append") [acc, x]) (fun _ s₅ => ∃ m, m < n ∧ I m s₅) (fun _ _ => False) s₄) (fun _ _ => False) s₃
            else ∃ m, m < n ∧ I m s₃) (fun _ _ => False) s₂) (fun _ _ => False) s₁') (fun _ _ => False) s₁) (fun _ _ => False) s)
    (n : Nat) (h : I n s) :
    codeAny (model prog w) A (.compLoop (.ListComp elt [⟨target, iter, ifs, 0⟩] scope pos) 0 it acc env) R s := by
  refine codeAny_loop rfl I (fun n s hI => ?_) n h
  show wpAny _ A ((compTurn (.ListComp elt [⟨target, iter, ifs, 0⟩] scope pos) 0 it acc env).onRaise (fun x => do noteFrame x env; theTreesLotGoes x)) _ _ s
  refine wpAny_noted ?_
  rw [compTurn_list]
  refine wpAny_bind (wpAny_standAt (wpAny_bind (wpAny_mono (turn n s hI) (fun r s₁ h₁ => ?_) fun _ _ z => z.elim)))
  cases r with
  | none => exact wpAny_pure h₁
  | some v =>
    refine wpAny_bind (wpAny_mono h₁ (fun _ s₁' h₁' => ?_) fun _ _ z => z.elim)
    refine wpAny_bind (wpAny_mono h₁' (fun _ s₂ h₂ => wpAny_bind (wpAny_mono h₂ (fun ok s₃ h₃ => ?_) fun _ _ z => z.elim)) fun _ _ z => z.elim)
    cases ok with
    | false => exact wpAny_pure ⟨rfl, h₃⟩
    | true =>
      exact wpAny_bind (wpAny_bind (wpAny_mono h₃ (fun x s₄ h₄ => wpAny_bind (wpAny_mono h₄ (fun _ s₅ h₅ => wpAny_pure (wpAny_pure ⟨rfl, h₅⟩)) fun _ _ z => z.elim)) fun _ _ z => z.elim))

/-- W: the invariant by the turn, a measure, what is gathered -/
def CompW (J : It) (k : Nat) (g : TG) (tt : TT) (te : TE) (σ : St) (Q : VK) (H1 : Hp) : Prop := ∃ W : Nat → Nat → List V → Hp → Prop, (∃ m, W 0 m [] H1) ∧ ∀ i m ys H, W i m ys H → ys.length ≤ sizeLine ∧
  ((J.stop i H ∧ ∀ l, H l = none → Q (.ref l) (upd H l (.lst ys))) ∨ (J.go i H ∧ ∀ x H', J.yld i H x H' → g x (σ ++ List.replicate k none) H' fun σ2 H2 => σ2.take σ.length = σ ∧ tt σ2 H2 fun b H3 =>
    if b = true then te σ2 H3 fun y H4 => ∃ m', m' < m ∧ W (i + 1) m' (ys ++ [y]) H4 else ∃ m', m' < m ∧ W (i + 1) m' ys H3))
def tComp (wi : TI) (k : Nat) (g : TG) (tt : TT) (te : TE) : TE := fun σ H Q => wi σ H fun J H1 => CompW J k g tt te σ Q H1

theorem HOk.track {P : Program} {w : World} {H : Hp} {h : Heap} {a : Addr} {o : HO} (x : HOk P w H h) (hn : H a = none) (new : ObjOk P w (upd H a o) h a o) : HOk P w (upd H a o) h := fun b u e => by
  by_cases hb : b = a
  · subst hb
    rw [upd_same] at e
    cases e
    exact new
  · rw [upd_ne hb] at e
    exact (x b u e).stay (fun _ _ _ q => q) (fun c q => by rw [upd_ne (ne_of_none q hn)]; exact q) fun c xs q => by rw [upd_ne (ne_of_none q hn)]; exact q

theorem st_back {σ σ' : St} {k : Nat} (h : σ'.take σ.length = σ) : ∀ (i : Nat) v, (σ ++ List.replicate k (none : Option V))[i]? = some (some v) → σ'[i]? = some (some v) := fun i v e => by
  by_cases hi : i < σ.length
  · rw [List.getElem?_append_left hi, ← h, List.getElem?_take_of_lt hi] at e
    exact e
  · rw [List.getElem?_append_right (by omega), List.getElem?_replicate] at e
    split at e <;> cases e

theorem pe_comp {elt tg iter : Expr} {ifs : List Expr} {sc : Scope} {M tgs : List Str} {pos : Pos} {wi : TI} {g : TG} {tt : TT} {te : TE} (hc : X.calm = true) (B : BlkOk X sc M tgs) (hi : PI X tg iter wi)
    (hg : ∀ cl C fp s H, PG (blk X sc cl C fp s H (M ++ tgs)) tg g) (ht : ∀ cl C fp s H, PIfs (blk X sc cl C fp s H (M ++ tgs)) ifs tt) (he : ∀ cl C fp s H, PE (blk X sc cl C fp s H (M ++ tgs)) elt te)
    (hs : ∀ x, foldedSetIterable iter X.env x = pure x := by intro _; rfl) : PE X (.ListComp elt [⟨tg, iter, ifs, 0⟩] sc pos) (tComp wi tgs.length g tt te) := by
  intro pins s σ H Q I h
  have hfr : ∀ y ∈ sc.names, y.2 = .free → ∃ c, X.env.cells.lookup y.1 = some c := fun y hy e => I.ok.has _ (B.free y hy e)
  have hsub : ∀ x c, (clF X.env sc.names []).lookup x = some c → X.env.cells.lookup x = some c := clF_sub sc.names [] hfr fun _ _ z => by simp at z
  rw [eval_ListComp]
  refine wpAny_comprehension_free (use := none) rfl hs (closure_eq hfr) B.kind B.names (thn (hi pins s σ H _ I h) fun xv s₁ h₁ => thn h₁ fun itv s₂ h₂ => ?_)
  obtain ⟨it, fp, tn, J, H2, rfl, I2, T, st2, f2, W, ⟨m0, w0⟩, turn⟩ := h₂
  have hfl : ∀ b ∈ fp, b < s₂.heap.objs.size := fun b hb => by
    obtain ⟨o, e, _⟩ := T.obj _ _ st2 b hb
    exact Heap.lt_size e
  refine wpAny_newObj_type (wpAny_newFunctionEnv B.nocell (by intro y hy; simp at hy) (fun h₁ hns₁ hsb₁ => ?_) B.kind)
  dsimp only at hns₁ hsb₁ ⊢
  generalize hH2 : s₂.heap.push { cls := .type "list", dict := none, data := .seq ([] : List Value).toArray } = HH at hns₁ hsb₁ ⊢
  have hC : HH.objs.size = s₂.heap.objs.size + 1 := by rw [← hH2, Heap.size_push]
  generalize hCC : HH.objs.size = C at hC hns₁ hsb₁ ⊢
  generalize hDD : s₂.heap.objs.size = D at hC ⊢
  have hDC : D ≠ C := by omega
  have below : ∀ b, b < D → b ≠ C ∧ b ≠ D := fun b hb => ⟨by omega, by omega⟩
  have old : ∀ b o, s₂.heap.get? b = some o → h₁.get? b = some o := fun b o e => hsb₁.extBut b o (below b (hDD ▸ Heap.lt_size e)).1 (Heap.get?_push_of_some _ (hH2 ▸ Heap.get?_push_of_some _ e))
  have hacc : h₁.PlainList D #[] := ⟨_, hsb₁.extBut _ _ hDC (Heap.get?_push_of_some _ (by rw [← hH2, ← hDD]; exact Heap.get?_push_size _ rfl))⟩
  have hCs : s₂.heap.objs.size ≤ C := by omega
  generalize hS4 : ({ s₂ with heap := h₁, toks := s₂.toks + ([] : List (Str × Value)).length } : Shared) = s₄
  have I4 : Inv (blk X sc (clF X.env sc.names []) C fp s₂ H2 (M ++ tgs)) [] (σ ++ List.replicate tgs.length none) H2 s₄ :=
    I2.blk B f2 hfl hCs (by rw [← hS4]; exact hns₁) (by rw [← hS4]; exact old) (by rw [← hS4]) (by rw [← hS4])
  have hD4 : s₄.heap.PlainList D #[] := by rw [← hS4]; exact hacc
  have st4 : tn 0 s₄.heap := by rw [← hS4]; exact T.keep _ _ _ st2 fun b _ o e => old b o e
  -- what holds through the loop
  let X' := blk X sc (clF X.env sc.names []) C fp s₂ H2 (M ++ tgs)
  have nfs : ∀ b, s₂.heap.objs.size ≤ b → b ∉ frs X.stack := fun b hb z => by
    rcases List.mem_cons.mp (I2.stkSub b z) with q | q
    · rw [q] at hb; exact absurd I2.lt (Nat.not_lt.mpr hb)
    · exact I2.nofs hb q
  have Dpin : ∀ {s' : Shared} {H' : Hp} {its : Array Value} {n : Nat}, s'.heap.get? D = some { cls := .type "list", data := .seq its n } → H' D = none →
      ∀ p ∈ [(D, ({ cls := .type "list", data := .seq its n } : Obj))], s'.heap.get? p.1 = some p.2 ∧ H' p.1 = none ∧ p.1 ≠ X'.env.locals ∧ p.1 ∉ X'.fs ∧ ∀ v, p.2.data ≠ .cell v := fun {s' H' its n} e hn p hp => by
    have e1 : p = (D, ({ cls := .type "list", data := .seq its n } : Obj)) := by simpa using hp
    subst e1
    exact ⟨e, hn, hDC, nfs D (by omega), fun v z => by cases z⟩
  have fpk : ∀ {pl : List (Addr × Obj)} {H' : Hp}, (∀ p ∈ pl, p.1 = D) → (∀ b ∈ fp, H' b = none) → ∀ b ∈ fp, FpOk X' pl H' b := fun {pl H'} hpl hn b hb => by
    refine ⟨hn b hb, (below b (hDD ▸ hfl b hb)).1, fun z => ?_, .inl hb, fun x c e => (f2 b hb).2.2.2.2.1 x c (hsub x c e), fun p hp => ?_⟩
    · rcases List.mem_cons.mp (I2.stkSub b z) with q | q
      · exact (f2 b hb).2.1 q
      · exact (f2 b hb).2.2.1 q
    · have hp' : p ∈ pl := by simpa [X', blk] using hp
      rw [hpl p hp']
      exact Ne.symm (below b (hDD ▸ hfl b hb)).2
  have cellD : ∀ x c, X'.env.cells.lookup x = some c → c ≠ D := fun x c e z => by
    obtain ⟨v, q⟩ := I2.cell x c (hsub x c e)
    have q := q.lt
    rw [z, hDD] at q
    exact Nat.lt_irrefl _ q
  have loop : codeAny (model X.prog X.w) X.A (.compLoop (.ListComp elt [⟨tg, iter, ifs, 0⟩] sc pos) 0 (.ref it) (.ref D) (compEnvC sc (clF X.env sc.names []) C X.env))
      (compPost (model X.prog X.w) X.A X.xe none (EP X pins σ Q) (.ref D) C) s₄ := by
    refine compLoop_gen (fun n s' => ∃ i ys its k H', Inv X' [(D, { cls := .type "list", data := .seq its k })] (σ ++ List.replicate tgs.length none) H' s' ∧ Vals ys its.toList ∧ tn i s'.heap ∧ (∀ b ∈ fp, H' b = none) ∧ W i n ys H') ?_ m0 ?_
    · rintro n s5 ⟨i, ys, its, k, H5, I5, hv, st5, fr5, w5⟩
      obtain ⟨hz, w5⟩ := turn i n ys H5 w5
      have hD5 := I5.pin (D, { cls := .type "list", data := .seq its k }) (List.mem_append_right _ (by simp))
      have one : ∀ p ∈ [(D, ({ cls := .type "list", data := .seq its k } : Obj))], p.1 = D := fun p hp => by
        have : p = (D, ({ cls := .type "list", data := .seq its k } : Obj)) := by simpa using hp
        rw [this]
      rcases w5 with ⟨stop, qn⟩ | ⟨go, step⟩
      · refine thn (T.done X' rfl rfl rfl hc i _ s5 _ H5 _ I5 (fpk one fr5) st5 stop) fun r s6 ⟨hr, I6⟩ => ?_
        subst hr
        obtain ⟨m6, hn6, _⟩ := I6.loc
        refine ⟨m6, hn6, fun h7 hs7 => ?_⟩
        have hs7 : Heap.SameBut C s6.heap h7 := hs7
        obtain ⟨e6, n6, _⟩ := I6.pin (D, { cls := .type "list", data := .seq its k }) (List.mem_append_right _ (by simp))
        have hC6 : H5 C = none := I6.free
        have ok7 : HOk X.prog X.w H5 h7 := fun b o e => (I6.hok b o e).stay (fun c w' hc' q => (hs7.2 c (by
          rintro rfl
          rcases hc' with rfl | hc'
          · rw [hC6] at e; cases e
          · rw [hC6] at hc'; cases hc')).trans q) (fun _ q => q) fun _ _ q => q
        have e7 : h7.get? D = some { cls := .type "list", data := .seq its k } := (hs7.2 D hDC).trans e6
        have hln : ys.length ≤ sizeLine := hz
        have ok8 : HOk X.prog X.w (upd H5 D (.lst ys)) h7 := ok7.track n6 ⟨hln, its.toList, k, hv, by simpa using e7⟩
        have un : Un (frs X.stack) fp H2 H5 s₂.heap s6.heap := I6.base
        have neC : ∀ b o, s₂.heap.get? b = some o → b ≠ C ∧ b ≠ D := fun b o e => below b (hDD ▸ Heap.lt_size e)
        have un7 : Un (frs X.stack) fp H2 (upd H5 D (.lst ys)) s₂.heap h7 := by
          refine ⟨fun b o e n hb hx => (hs7.2 b (neC b o e).1).trans (un.keep b o e n hb hx), fun b o e n hb hx => ?_, fun b o e n hx => ?_, fun b o e hx => ?_, fun b xs e => ?_, fun b o u e => ?_, fun b ps e => ?_⟩
          · obtain ⟨sl, q⟩ := un.slot b o e n hb hx
            exact ⟨sl, (hs7.2 b (neC b o e).1).trans q⟩
          · rw [upd_ne (neC b o e).2]; exact un.free b o e n hx
          · obtain ⟨o', q⟩ := un.there b o e hx
            exact ⟨o', (hs7.2 b (neC b o e).1).trans q⟩
          · have q := un.tups b xs e
            rw [upd_ne (ne_of_none q n6)]; exact q
          · have q := un.frzs b o u e
            rw [upd_ne (ne_of_none q n6)]; exact q
          · obtain ⟨more, q⟩ := un.tbls b ps e
            exact ⟨more, by rw [upd_ne (ne_of_none q n6)]; exact q⟩
        refine ⟨.ref D, upd H5 D (.lst ys), I2.call' (ch := fp) ?_ un7 ok8 I6.bare (fun b hb => ⟨(f2 b hb).2.2.2.1, (f2 b hb).2.1, (f2 b hb).2.2.2.2.1, (f2 b hb).2.2.2.2.2⟩), rfl, qn D n6⟩
        exact I6.os
      · refine thn (T.item X' rfl rfl rfl hc i _ s5 _ H5 _ I5 (fpk one fr5) st5 go) fun r s6 ⟨u, hr, h6⟩ => ?_
        subst hr
        refine thn h6 fun _ s7 ⟨x, H7, I7, r7, y7, st7, fr7⟩ => ?_
        have I7' := I7.pinned (fpk one fr7) (T.obj _ _ st7)
        refine thn (hg _ _ _ _ _ _ s7 _ H7 x u _ I7' r7 (step x H7 y7)) fun _ s8 ⟨σ8, H8, I8, tk8, q8⟩ => ?_
        refine thn (ht _ _ _ _ _ _ s8 σ8 H8 _ I8 q8) fun b s9 ⟨H9, I9, q9⟩ => ?_
        -- the turn's end, from a state in which nothing but the list has changed
        have weak : ∀ {pl : List (Addr × Obj)} {H' : Hp} {s' : Shared}, Inv X' pl σ8 H' s' → Inv X' pl (σ ++ List.replicate tgs.length none) H' s' := fun {pl H' s'} J => J.weak (by
          have e1 : σ8.length = (M ++ tgs).length := J.len
          rw [e1, List.length_append, List.length_append, List.length_replicate, B.len, I2.len]) (st_back tk8)
        have fin : ∀ {H' : Hp} {s' : Shared}, Inv X' ([(D, { cls := .type "list", data := .seq its k })] ++ pinsAt fp s7.heap) σ8 H' s' → tn (i + 1) s'.heap ∧ ∀ b ∈ fp, H' b = none := fun {H' s'} J => by
          refine ⟨T.keep _ _ _ st7 fun b hb o e => (J.pin (b, o) (List.mem_append_right _ (List.mem_append_right _ (mem_pinsAt hb e)))).1, fun b hb => ?_⟩
          obtain ⟨o, e, d⟩ := T.obj _ _ st7 b hb
          exact (J.pin (b, o) (List.mem_append_right _ (List.mem_append_right _ (mem_pinsAt hb e)))).2.1
        cases b with
        | false =>
          rw [if_neg Bool.false_ne_true] at q9 ⊢
          obtain ⟨m', hm, w9⟩ := q9
          exact ⟨m', hm, i + 1, ys, its, k, H9, weak I9.unpinned, hv, (fin I9).1, (fin I9).2, w9⟩
        | true =>
          rw [if_pos rfl] at q9 ⊢
          refine thn (he _ _ _ _ _ _ s9 σ8 H9 _ I9 q9) fun y s10 ⟨yv, H10, I10, r10, q10⟩ => ?_
          obtain ⟨m', hm, w10⟩ := q10
          obtain ⟨e10, n10, _⟩ := I10.pin (D, { cls := .type "list", data := .seq its k }) (List.mem_append_right _ (List.mem_append_left _ (by simp)))
          have hsz : its.size ≤ sizeLine := by
            have e1 := hv.length
            have e2 : its.toList.length = its.size := by simp
            omega
          refine wpAny_list_append_plain (hsz := hsz) ⟨k, e10⟩ fun h11 hl11 hs11 => ?_
          obtain ⟨k', e11⟩ := hl11
          have J0 : Inv X' [] σ8 H10 s10 := I10.pins_of fun p hp => by simp at hp
          have J1 : Inv X' [] σ8 H10 { s10 with heap := h11 } := J0.turned (t' := s10.toks) (it := D) (fun b o hb e => (hs11.2 b hb).trans e) n10 hDC (.inr (by show s₂.heap.objs.size ≤ D; omega)) cellD (fun p hp => by
            have hp' : p ∈ ([] : List (Addr × Obj)) := by simpa [X', blk] using hp
            simp at hp')
          have J2 : Inv X' [(D, { cls := .type "list", data := .seq (its.push y) k' })] σ8 H10 { s10 with heap := h11 } := J1.pins_of (Dpin e11 n10)
          refine ⟨m', hm, i + 1, ys ++ [yv], its.push y, k', H10, weak J2, ?_, ?_, (fin I10).2, w10⟩
          · rw [Array.toList_push]
            exact hv.append (.cons r10 .nil)
          · refine T.keep _ _ _ (fin I10).1 fun b hb o e => (hs11.2 b ?_).trans e
            exact (below b (hDD ▸ hfl b hb)).2
    · obtain ⟨k, e⟩ := hD4
      exact ⟨0, [], #[], k, H2, I4.pins_of (Dpin e (I2.hok.fresh (by omega))), .nil, st4, fun b hb => (f2 b hb).1, w0⟩
  exact codeAny_compStart_list loop (T.self _ _ _ _ _ st4 loop)
end
end L2

namespace HT
open PySem PySem.Spec PyProof.Rows PySem.SeqAt
/-- tuples of ints by <= -/
def lexLe : List Int → List Int → Bool
  | [], _ => true
  | _ :: _, [] => false
  | x :: xs, y :: ys => if x = y then lexLe xs ys else decide (x ≤ y)
section
open PySem.SeqAt
open PySem.AutoSeq1 (wpAny_loadPart')
open PySem.MeetsSeq PySem.MeetsSeq2 PySem.MeetsSeq3
end
section
variable {prog : Program} {w : World} {A : Around} {E : Value → Shared → Prop} {s : Shared}
end
end HT

namespace L2
open PySem PySem.Spec PyProof.Rows
section
variable {X : Cx}
def rLeT (K : PySem.W.Frag) : R2 := fun x y H Q => ∃ a b ns ms, x = .ref a ∧ y = .ref b ∧ SqT K H a (ns.map V.int) ∧ SqT K H b (ms.map V.int) ∧ Q (.bl (HT.lexLe ns ms)) H
def rEqT (K : PySem.W.Frag) (neg : Bool) : R2 := fun x y H Q => ∃ (a b : Addr) (ns ms : List Int), x = .ref a ∧ y = .ref b ∧ SqT K H a (ns.map V.int) ∧ SqT K H b (ms.map V.int) ∧ Q (.bl (if neg then !decide (ns = ms) else decide (ns = ms))) H
/-! ### isinstance against the plain classes -/
def kindV (K : PySem.W.Frag) (H : Hp) (T : String) : V → Prop
  | .non => T = "NoneType"
  | .bl _ => T = "bool"
  | .int _ => T = "int"
  | .str _ => T = "str"
  | .ref p => (T = "list" ∧ ∃ xs, SqL K H p xs) ∨ (T = "tuple" ∧ ∃ xs, SqT K H p xs) ∨ (T = "dict" ∧ ((∃ kvs, H p = some (.dK kvs)) ∨ ∃ kvs, H p = some (.dT kvs)))
  | _ => False
def isiB (T C : String) : Bool := T == C || (T == "bool" && C == "int")
def isiC (C : String) : Prop := C = "int" ∨ C = "bool" ∨ C = "tuple" ∨ C = "list" ∨ C = "str"
def rIsi (K : PySem.W.Frag) : List V → Hp → VK → Prop := fun xs H Q => ∃ x T C, xs = [x, .ty C] ∧ isiC C ∧ kindV K H T x ∧ Q (.bl (isiB T C)) H
theorem call_isi : CallR X (.builtin "isinstance") (rIsi X.K) := by
  intro pins s σ H xs us Q I r h
  obtain ⟨x, T, C, rfl, hC, hk, q⟩ := h
  obtain ⟨u, w', rfl, rx, rc⟩ := vals2 r
  cases rc
  have fin : ∀ (b : Bool) (t : Nat), b = isiB T C → EP X pins σ Q (.bool b) { s with toks := t } := fun b t e => ⟨.bl b, H, I.tok t, rfl, by rw [e]; exact q⟩
  have fin0 : ∀ (b : Bool), b = isiB T C → EP X pins σ Q (.bool b) s := fun b e => ⟨.bl b, H, I, rfl, by rw [e]; exact q⟩
  cases x with
  | non =>
    cases rx
    cases (show T = "NoneType" from hk)
    rcases hC with rfl | rfl | rfl | rfl | rfl
    · exact IsiPair.NoneType_int (fin _ _ rfl)
    · exact IsiPair.NoneType_bool (fin _ _ rfl)
    · exact IsiPair.NoneType_tuple (fin _ _ rfl)
    · exact IsiPair.NoneType_list (fin _ _ rfl)
    · exact IsiPair.NoneType_str (fin _ _ rfl)
  | bl b =>
    cases rx
    cases (show T = "bool" from hk)
    rcases hC with rfl | rfl | rfl | rfl | rfl
    · exact IsiPair.bool_int (fin0 _ rfl)
    · exact IsiPair.bool_bool (fin0 _ rfl)
    · exact IsiPair.bool_tuple (fin _ _ rfl)
    · exact IsiPair.bool_list (fin _ _ rfl)
    · exact IsiPair.bool_str (fin _ _ rfl)
  | int i =>
    obtain ⟨t, rfl⟩ := rx
    cases (show T = "int" from hk)
    rcases hC with rfl | rfl | rfl | rfl | rfl
    · exact IsiPair.int_int (fin0 _ rfl)
    · exact IsiPair.int_bool (fin _ _ rfl)
    · exact IsiPair.int_tuple (fin _ _ rfl)
    · exact IsiPair.int_list (fin _ _ rfl)
    · exact IsiPair.int_str (fin _ _ rfl)
  | str z =>
    obtain ⟨t, rfl⟩ := rx
    cases (show T = "str" from hk)
    rcases hC with rfl | rfl | rfl | rfl | rfl
    · exact IsiPair.str_int (fin _ _ rfl)
    · exact IsiPair.str_bool (fin _ _ rfl)
    · exact IsiPair.str_tuple (fin _ _ rfl)
    · exact IsiPair.str_list (fin _ _ rfl)
    · exact IsiPair.str_str (fin0 _ rfl)
  | ref p =>
    cases rx
    rcases hk with ⟨rfl, xs, hq⟩ | ⟨rfl, xs, hq⟩ | ⟨rfl, hk⟩
    · obtain ⟨its, _, pl, _⟩ := I.list hq
      obtain ⟨o, n, e, c, hd, _⟩ := pl
      rcases hC with rfl | rfl | rfl | rfl | rfl
      · exact IsiPair.list_int e c (fin _ _ rfl)
      · exact IsiPair.list_bool e c (fin _ _ rfl)
      · exact IsiPair.list_tuple e c (fin _ _ rfl)
      · exact IsiPair.list_list e c (fin0 _ rfl)
      · exact IsiPair.list_str e c (fin _ _ rfl)
    · obtain ⟨its, _, ⟨o, e, c, _⟩, _⟩ := I.tuple hq
      rcases hC with rfl | rfl | rfl | rfl | rfl
      · exact IsiPair.tuple_int e c (fin _ _ rfl)
      · exact IsiPair.tuple_bool e c (fin _ _ rfl)
      · exact IsiPair.tuple_tuple e c (fin0 _ rfl)
      · exact IsiPair.tuple_list e c (fin _ _ rfl)
      · exact IsiPair.tuple_str e c (fin _ _ rfl)
    · have z : ∃ o, s.heap.get? p = some o ∧ o.cls = .type "dict" := by
        rcases hk with ⟨kvs, hk⟩ | ⟨kvs, hk⟩
        · obtain ⟨_, _, _, _, o, _, _, e, ex, _⟩ := I.hok p _ hk
          exact ⟨o, e, ex.1⟩
        · obtain ⟨_, _, _, _, o, _, _, e, ex, _⟩ := I.hok p _ hk
          exact ⟨o, e, ex.1⟩
      obtain ⟨o, e, c⟩ := z
      rcases hC with rfl | rfl | rfl | rfl | rfl
      · exact IsiPair.dict_int e c (fin _ _ rfl)
      · exact IsiPair.dict_bool e c (fin _ _ rfl)
      · exact IsiPair.dict_tuple e c (fin _ _ rfl)
      · exact IsiPair.dict_list e c (fin _ _ rfl)
      · exact IsiPair.dict_str e c (fin _ _ rfl)
  | _ => exact False.elim hk
end
end L2

namespace RawD
open PySem PySem.Spec PyProof.Rows PySem.W
/-- a dict by its entries alone -/
def At (h : Heap) (d : Addr) (es : Array DictEntry) (ep : Nat) : Prop := ∃ o, h.get? d = some o ∧ o.ExactDict ∧ o.data = .dict es ep
theorem At.keep {h h' : Heap} {d : Addr} {es : Array DictEntry} {ep : Nat} (x : At h d es ep) (k : ∀ o, h.get? d = some o → h'.get? d = some o) : At h' d es ep := let ⟨o, a, r⟩ := x; ⟨o, k o a, r⟩
theorem At.ty {s : Shared} {d : Addr} {es : Array DictEntry} {ep : Nat} (x : At s.heap d es ep) : s.TypeIs (.ref d) "dict" := let ⟨o, a, b, _⟩ := x; ⟨o, a, b.1⟩
theorem At.lt {h : Heap} {d : Addr} {es : Array DictEntry} {ep : Nat} (x : At h d es ep) : d < h.objs.size := let ⟨_, a, _⟩ := x; Heap.lt_size a
section
variable {prog : Program} {w : World} {A : Around} {E : Value → Shared → Prop} {s : Shared} {d it : Addr} {es : Array DictEntry} {ep i : Nat}
theorem iter {Q : Value → Shared → Prop} (lo : (d == sysModules) = false) (x : At s.heap d es ep)
    (q : Q (.ref s.heap.objs.size) { s with heap := s.heap.push { cls := .type "dict_keyiterator", data := .fields #[.ref d, .int 0 0, .int es.size 0, .int ep 0] } }) :
    wpAny (model prog w) A (pyIter (.ref d)) Q E s := by
  have ty := x.ty
  obtain ⟨o, a1, a2, a3⟩ := x
  refine wpAny_pyIter_slot ty F.slot_dict_iter (wpAny_call_entry F.slot_dict_iter ty F.entry_dict_iter ?_ (F.args_dict_iter_1 _))
  unfold Builtin.«dict.__iter__»
  refine wpAny_bind ?_
  unfold Builtin.Dict.dictSlotNone
  refine wpAny_bind (wpAny_notOrdered_dict ty ?_)
  show wpAny _ _ (pure (Value.ref d)) _ _ s
  refine wpAny_pure ?_
  show wpAny _ _ (Builtin.Dict.showsAll d >>= _) _ _ s
  unfold Builtin.Dict.showsAll
  rw [if_neg (by rw [lo]; exact Bool.false_ne_true)]
  refine wpAny_bind (wpAny_pure ?_)
  refine wpAny_bind (wpAny_dictEntries a1 a3 (wpAny_bind (wpAny_dictEpoch a1 a3 ?_)))
  exact wpAny_bind (wpAny_newObj_type (wpAny_pure ⟨_, rfl, "dict_keyiterator", _, ⟨_, Heap.get?_push_size _ rfl, rfl⟩, F.slot_dict_keyiterator_next.lookup, q⟩))
theorem item {Q : Option Value → Shared → Prop} (hit : s.heap.IsKeyIter it d i es.size ep) (x : At s.heap d es ep) (hi : i < es.size)
    (q : ∀ h', h'.IsKeyIter it d (i + 1) es.size ep → Heap.SameBut it s.heap h' → Q (some es[i].key) { s with heap := h' }) : wpAny (model prog w) A (pyNext (.ref it)) Q E s := by
  obtain ⟨oi, b1, b2, b3⟩ := id hit
  obtain ⟨o, a1, a2, a3⟩ := x
  unfold pyNext
  refine wpAny_bind (wpAny_attempt (wpAny_callSpecial?_slot (name := Str.ofString "__next__") hit.typeIs F.slot_dict_keyiterator_next
    (wpAny_call_entry F.slot_dict_keyiterator_next hit.typeIs F.entry_dict_keyiterator_next ?_ (F.args_dict_keyiterator_next_1 _))))
  refine wpAny_bind (wpAny_pure (wpAny_bind (wpAny_bind ?_)))
  first | refine wpAny_bind (wpAny_typeNameOfWhole_keyiter hit.typeIs (wpAny_pure ?_)) | refine wpAny_bind (wpAny_typeNameOf_keyiter hit.typeIs (wpAny_pure ?_))
  refine wpAny_bind (wpAny_fieldsOf b1 b3 ?_)
  have no : Builtin.Dict_items.ownsTuple "dict_keyiterator" = false := by decide
  simp only [no, Bool.false_eq_true, if_false]
  show wpAny _ _ (if (Value.ref d == Value.none) = true then _ else _) _ _ s
  rw [if_neg (show ¬ ((Value.ref d == Value.none) = true) from Bool.false_ne_true)]
  refine wpAny_bind (wpAny_pure (wpAny_bind (wpAny_dictEntries a1 a3 ?_)))
  rw [if_neg (by simp)]
  refine wpAny_bind (wpAny_pure (wpAny_bind (wpAny_dictEpoch a1 a3 ?_)))
  rw [if_neg (by simp)]
  refine wpAny_pure ?_
  simp only [show ¬ ((i : Int) < 0) from by omega, if_false, Int.toNat_natCast, Array.getElem?_eq_getElem hi]
  refine wpAny_bind ?_
  first | refine wpAny_bind (wpAny_typeNameOfWhole_keyiter hit.typeIs (wpAny_pure ?_)) | refine wpAny_bind (wpAny_typeNameOf_keyiter hit.typeIs (wpAny_pure ?_))
  refine wpAny_bind (wpAny_isOneOf_keyiter hit.typeIs ?_)
  show wpAny _ _ (setField (.ref it) 1 (rawInt ((i : Int) + 1)) >>= _) _ _ s
  refine wpAny_bind (wpAny_setField b1 b3 (by simp) ?_)
  have on : (s.heap.update it (Obj.mapFields (·.setIfInBounds 1 (rawInt ((i : Int) + 1))))).IsKeyIter it d (i + 1) es.size ep :=
    ⟨_, Heap.get?_update_self _ b1 (Obj.isFreed_of_fields (Obj.data_mapFields b3 _)), (Obj.cls_mapFields ..).trans b2, by rw [Obj.data_mapFields b3]; simp [rawInt]⟩
  refine wpAny_bind (wpAny_holding (wpAny_bind (wpAny_isOneOf_keyiter (s := { s with heap := s.heap.update it (Obj.mapFields (·.setIfInBounds 1 (rawInt ((i : Int) + 1)))) }) on.typeIs ?_)))
  show wpAny _ _ (pure es[i].key) _ _ _
  exact wpAny_pure (wpAny_pure ⟨_, rfl, wpAny_pure (q _ on (Heap.SameBut.update ..))⟩)
theorem stop {Q : Option Value → Shared → Prop} (hh : A.handled = none) (hit : s.heap.IsKeyIter it d i es.size ep) (x : At s.heap d es ep) (hi : es.size ≤ i)
    (q : ∀ h', Heap.ExtBut it s.heap h' → Q none { s with heap := h' }) : wpAny (model prog w) A (pyNext (.ref it)) Q E s := by
  obtain ⟨oi, b1, b2, b3⟩ := id hit
  obtain ⟨o, a1, a2, a3⟩ := x
  unfold pyNext
  refine wpAny_bind (wpAny_attempt (wpAny_callSpecial?_slot (name := Str.ofString "__next__") hit.typeIs F.slot_dict_keyiterator_next
    (wpAny_call_entry F.slot_dict_keyiterator_next hit.typeIs F.entry_dict_keyiterator_next ?_ (F.args_dict_keyiterator_next_1 _))))
  refine wpAny_bind (wpAny_pure (wpAny_bind (wpAny_bind ?_)))
  first | refine wpAny_bind (wpAny_typeNameOfWhole_keyiter hit.typeIs (wpAny_pure ?_)) | refine wpAny_bind (wpAny_typeNameOf_keyiter hit.typeIs (wpAny_pure ?_))
  refine wpAny_bind (wpAny_fieldsOf b1 b3 ?_)
  have no : Builtin.Dict_items.ownsTuple "dict_keyiterator" = false := by decide
  simp only [no, Bool.false_eq_true, if_false]
  show wpAny _ _ (if (Value.ref d == Value.none) = true then _ else _) _ _ s
  rw [if_neg (show ¬ ((Value.ref d == Value.none) = true) from Bool.false_ne_true)]
  refine wpAny_bind (wpAny_pure (wpAny_bind (wpAny_dictEntries a1 a3 ?_)))
  rw [if_neg (by simp)]
  refine wpAny_bind (wpAny_pure (wpAny_bind (wpAny_dictEpoch a1 a3 ?_)))
  rw [if_neg (by simp)]
  refine wpAny_pure ?_
  simp only [show ¬ ((i : Int) < 0) from by omega, if_false, Int.toNat_natCast, Array.getElem?_eq_none hi]
  refine wpAny_bind ?_
  first | refine wpAny_bind (wpAny_typeNameOfWhole_keyiter hit.typeIs (wpAny_pure ?_)) | refine wpAny_bind (wpAny_typeNameOf_keyiter hit.typeIs (wpAny_pure ?_))
  show wpAny _ _ (setField (.ref it) 0 .none >>= _) _ _ s
  refine wpAny_bind (wpAny_setField b1 b3 (by simp) ?_)
  show wpAny _ _ (newExc (.type "StopIteration") [] >>= _) _ _ _
  refine wpAny_bind ?_
  simp only [newExc, newTuple]
  refine wpAny_bind (wpAny_newObj_type ?_ (by size_fits))
  refine wpAny_bind (m := firstArgMember _ _) (wpAny_of_eq (a := Value.none) (by first | rfl | (simp only [firstArgMember]; rfl)) ?_)
  refine wpAny_newObj_type ?_ (by size_fits)
  simp only [raiseNew]
  refine wpAny_bind (wpAny_handled ?_)
  rw [show A.in1.handled = none from hh]
  refine wpAny_bind (wpAny_pure (wpAny_throw ?_))
  refine wpAny_bind (wpAny_isInstance (T := "StopIteration") (b := true) ⟨_, Heap.get?_push_size _ rfl, rfl⟩ isSubtype_stop ?_)
  exact wpAny_pure (q _ (((Heap.SameBut.update ..).extBut.push _).push _))
theorem walks (hh : A.handled = none) (I d : Addr) (hne : d ≠ I) (es : Array DictEntry) (ep : Nat) :
    Walks prog w A I [I, d] [I] es.size (fun i v => ∃ h : i < es.size, v = es[i].key) (fun i h => h.IsKeyIter I d i es.size ep ∧ At h d es ep) where
  sub := fun b hb => by simp at hb; simp [hb]
  frame := fun _ _ _ st hk => ⟨st.1.at fun o e => hk I (by simp) o e, st.2.keep fun o e => hk d (by simp) o e⟩
  item := fun i s Q E hi st hQ => item st.1 st.2 hi fun h' a b => hQ _ h' s.toks ⟨hi, rfl⟩ ⟨a, st.2.keep fun o e => b.extBut d o hne e⟩ fun b' o hb e => b.extBut b' o (fun h => hb (by simp [h])) e
  done := fun s Q E st hQ => stop hh st.1 st.2 (Nat.le_refl _) fun h' he' => hQ h' s.toks fun b o hb e => he' b o (fun h => hb (by simp [h])) e
  self := fun _ _ _ _ st hQ => wpAny_pyIter_keyiter st.1 hQ
theorem src (lo : (d == sysModules) = false) : KdlSrc prog w "dict" d d es.size (fun i v => ∃ h : i < es.size, v = es[i].key) (fun h => At h d es ep) where
  type := fun _ x => x.ty
  there := fun _ x => ⟨x.lt, x.lt⟩
  keep := fun _ _ x hk => x.keep fun o e => hk d (.inl rfl) o e
  notList := by decide
  notTuple := by decide
  hint := fun _ _ _ _ x q => kdl_hint_dict x.ty q
  iter := fun _ _ hh x => ⟨_, _, (fun _ _ q => iter lo x q), walks hh _ d (Nat.ne_of_lt x.lt) es ep, ⟨⟨_, Heap.get?_push_size _ rfl, rfl, rfl⟩, x.keep fun _ e => Heap.get?_push_of_some _ e⟩⟩
end
end RawD

namespace RawD
open PySem PySem.Spec PyProof.Rows PySem.W
section
variable {prog : Program} {w : World} {A : Around} {E : Value → Shared → Prop} {s : Shared} {d : Addr} {es : Array DictEntry} {ep : Nat}
theorem meets_len (lo : (d == sysModules) = false) :
    MeetsIn prog w (Builtin.«dict.__len__» ⟨[.ref d], []⟩) (fun _ R s => ∃ es ep, At s.heap d es ep ∧ R (.ok (.ret (.int es.size s.toks))) { s with toks := s.toks + 1 }) :=
  .of_wp fun A R s hZ => by
    obtain ⟨es, ep, x, h⟩ := hZ
    obtain ⟨o, a1, a2, a3⟩ := x
    show wpAny _ _ (dictSize d >>= _) _ _ s
    unfold dictSize
    refine wpAny_bind (wpAny_bind (wpAny_dictEntries a1 a3 (wpAny_pure ?_)))
    show wpAny _ _ (Builtin.Dict.pendingCount d >>= _) _ _ s
    refine wpAny_bind (wpAny_pendingCount_other lo (wpAny_ret_mkInt ?_))
    rw [Nat.add_zero]; exact h
theorem len {Q : Value → Shared → Prop} (lo : (d == sysModules) = false) (x : At s.heap d es ep) (fit : (es.size : Int) < 2 ^ 63)
    (h : Q (.int es.size (s.toks + 1)) { s with toks := s.toks + 1 + 1 }) : wpAny (model prog w) A (call (.builtin "len") [.ref d]) Q E s := by
  refine Calls.call_function_entry kind_len plain_len entry_len (args_len1 _) ?_
  unfold Builtin.«len»
  refine wpAny_bind (m := oneArg "len" _) (wpAny_pure ?_)
  refine wpAny_bind (m := callSpecial? (.ref d) (Str.ofString "__len__")) (wpAny_callSpecial?_slot (name := Str.ofString "__len__") x.ty F.slot_dict_len
    (call_meetsIn F.slot_dict_len x.ty F.entry_dict_len (F.args_dict_len_1 _) (meets_len lo) ⟨es, ep, x, ?_⟩))
  show wpAny _ _ _ _ _ { s with toks := s.toks + 1 }
  refine wpAny_bind (wpAny_holding (wpAny_pure (wpAny_bind (wpAny_letGo ?_))))
  show wpAny _ _ (if ((es.size : Nat) : Int) < 0 then _ else _) _ _ _
  rw [if_neg (by omega)]
  show wpAny _ _ (if ((es.size : Nat) : Int) ≥ 2 ^ 63 then _ else _) _ _ _
  rw [if_neg (by omega)]
  exact wpAny_bind (wpAny_mkInt (wpAny_pure ⟨_, rfl, h⟩))
end
end RawD

namespace L2
open PySem PySem.Spec PyProof.Rows
section
variable {X : Cx}
/-! ### dicts with tuples for keys: len, list -/
theorem raw_dT {P : Program} {w : World} {H : Hp} {h : Heap} {a : Addr} {kvs : List (List Key × V)} (ok : HOk P w H h) (e : H a = some (.dT kvs)) :
    kvs.length ≤ sizeLine ∧ (a == sysModules) = false ∧ (kvs.map (·.1)).Nodup ∧ ∃ es ep, RawD.At h a es ep ∧ es.size = kvs.length ∧ ∀ i (hi : i < es.size), ∃ b k v, es[i].key = .ref b ∧ kvs[i]? = some (k, v) ∧ H b = some (.tup (k.map kV)) := by
  obtain ⟨z, y, xs, r, o, es, ep, h1, h2, h3, h4, h5⟩ := (show ObjOk P w H h a (.dT kvs) from ok a _ e)
  have hl := r.length
  have hl2 : es.size = xs.length := by
    have := congrArg List.length h4
    simpa using this
  have keys : ∀ {l : List (List Key × V)} {m : List (List Key × Addr × Value)},
      Paired (fun (p : List Key × V) (q : List Key × Addr × Value) => p.1 = q.1 ∧ H q.2.1 = some (.tup (p.1.map kV)) ∧ RelV p.2 q.2.2) l m → l.map (·.1) = m.map (·.1) := by
    intro l m pr
    induction pr with
    | nil => rfl
    | cons hd _ ih => rw [List.map_cons, List.map_cons, ih, hd.1]
  refine ⟨z, y, by rw [keys r]; exact h5, es, ep, ⟨o, h1, h2, h3⟩, hl2.trans hl.symm, fun i hi => ?_⟩
  have hx : i < xs.length := by omega
  have get : ∀ {l : List (List Key × V)} {m : List (List Key × Addr × Value)} {i : Nat} {q : List Key × Addr × Value},
      Paired (fun (p : List Key × V) (q : List Key × Addr × Value) => p.1 = q.1 ∧ H q.2.1 = some (.tup (p.1.map kV)) ∧ RelV p.2 q.2.2) l m → m[i]? = some q → ∃ p, l[i]? = some p ∧ p.1 = q.1 ∧ H q.2.1 = some (.tup (p.1.map kV)) := by
    intro l m i q pr
    induction pr generalizing i with
    | nil => intro e; simp at e
    | cons hd _ ih =>
      intro e
      cases i with
      | zero => simp at e; subst e; exact ⟨_, rfl, hd.1, hd.2.1⟩
      | succ i => simp at e; exact ih e
  obtain ⟨p, e1, _, e2⟩ := get (i := i) r (List.getElem?_eq_getElem hx)
  refine ⟨xs[i].2.1, p.1, p.2, ?_, e1, e2⟩
  have : es[i] = entryOfKey (tupleKind (mixKind P w)) xs[i] := by
    have q : es.toList[i]? = some (entryOfKey (tupleKind (mixKind P w)) xs[i]) := by rw [h4]; simp [hx]
    rw [Array.getElem?_toList, Array.getElem?_eq_getElem hi] at q
    exact Option.some.inj q
  rw [this]
  rfl
theorem call_lenT : CallR X (.builtin "len") (fun xs H Q => ∃ a kvs, xs = [V.ref a] ∧ H a = some (.dT kvs) ∧ Q (.int kvs.length) H) := by
  intro pins s σ H xs us Q I r h
  obtain ⟨a, kvs, rfl, ha, q⟩ := h
  obtain ⟨u, rfl, ru⟩ := vals1 r
  cases ru
  obtain ⟨z, lo, _, es, ep, x, hl, _⟩ := raw_dT I.hok ha
  exact RawD.len lo x (by rw [hl]; rw [sizeLine_eq] at z; omega) ⟨.int kvs.length, H, I.tok _, ⟨_, by rw [hl]⟩, q⟩
/-- list(d): the keys, references to the very tuples -/
theorem call_listT (hc : X.calm = true) : CallR X (.type "list") (fun xs H Q => ∃ a kvs, xs = [V.ref a] ∧ H a = some (.dT kvs) ∧
    ∀ l bs, H l = none → (kvs.map (·.1)).Nodup → bs.length = kvs.length → (∀ (i : Nat) k v, kvs[i]? = some (k, v) → ∃ b, bs[i]? = some (V.ref b) ∧ H b = some (.tup (k.map kV))) → Q (.ref l) (upd H l (.lst bs))) := by
  intro pins s σ H xs us Q I r h
  obtain ⟨a, kvs, rfl, ha, q⟩ := h
  obtain ⟨u, rfl, ru⟩ := vals1 r
  cases ru
  obtain ⟨z, lo, nd, es, ep, x, hl, hk⟩ := raw_dT I.hok ha
  refine PySem.W.kdl_call (RawD.src (ep := ep) (es := es) lo) (I.ok.hd hc) x (by rw [hl]; exact z) fun h' tk acc c keep hD hacc => ?_
  have hf : H s.heap.objs.size = none := I.hok.fresh (Nat.le_refl _)
  have hlen : acc.size = es.size := hacc.1
  -- the values as V's
  let bs : List V := acc.toList.map fun u => match u with | .ref b => V.ref b | _ => V.non
  have key : ∀ i (hi : i < acc.size), ∃ b k v, acc[i] = .ref b ∧ kvs[i]? = some (k, v) ∧ H b = some (.tup (k.map kV)) := fun i hi => by
    obtain ⟨hi', e⟩ := hacc.2 i acc[i] (by simp [hi])
    obtain ⟨b, k, v, e1, e2, e3⟩ := hk i hi'
    exact ⟨b, k, v, e.trans e1, e2, e3⟩
  have hv : Vals bs acc.toList := by
    have gen : ∀ (l : List Value), (∀ u ∈ l, ∃ b, u = .ref b) → Vals (l.map fun u => match u with | .ref b => V.ref b | _ => V.non) l := by
      intro l
      induction l with
      | nil => intro _; exact .nil
      | cons u l ih =>
        intro h
        obtain ⟨b, rfl⟩ := h u List.mem_cons_self
        exact .cons rfl (ih fun v hv => h v (List.mem_cons_of_mem _ hv))
    refine gen acc.toList fun u hu => ?_
    obtain ⟨i, hi, e⟩ := List.mem_iff_getElem.mp hu
    have hi' : i < acc.size := by simpa using hi
    obtain ⟨b, k, v, e1, _⟩ := key i hi'
    exact ⟨b, by rw [← e]; simpa using e1⟩
  have hbl : bs.length = kvs.length := by
    show (acc.toList.map _).length = _
    rw [List.length_map, Array.length_toList, hlen, hl]
  refine ⟨.ref s.heap.objs.size, upd H s.heap.objs.size (.lst bs), ?_, rfl, q _ bs hf nd hbl fun i k v e => ?_⟩
  · exact I.laid (t' := tk) keep (Nat.le_refl _) ⟨by rw [hbl]; exact z, acc.toList, c, hv, by simpa using hD⟩
  · have hi : i < acc.size := by
      have := (List.getElem?_eq_some_iff.mp e).1
      omega
    obtain ⟨b, k', v', e1, e2, e3⟩ := key i hi
    rw [e] at e2
    cases e2
    refine ⟨b, ?_, e3⟩
    show (acc.toList.map _)[i]? = _
    rw [List.getElem?_map, Array.getElem?_toList, Array.getElem?_eq_getElem hi, e1]
    rfl

/-! ### all of a list of truths -/
theorem all_range : ∀ (bs : List Bool), (List.range bs.length).all (fun i => bs.getD i false) = bs.all id := fun bs => by
  rw [Bool.eq_iff_iff]
  simp only [List.all_eq_true, List.mem_range]
  constructor
  · intro h b hb
    obtain ⟨i, hi, e⟩ := List.mem_iff_getElem.mp hb
    have := h i hi
    rw [List.getD_eq_getElem?_getD, List.getElem?_eq_getElem hi, e] at this
    exact this
  · intro h i hi
    rw [List.getD_eq_getElem?_getD, List.getElem?_eq_getElem hi]
    exact h _ (List.getElem_mem hi)
theorem call_all (hc : X.calm = true) : CallR X (.builtin "all") (fun xs H Q => ∃ (p : Addr) (bs : List Bool), xs = [V.ref p] ∧ SqL X.K H p (bs.map V.bl) ∧ Q (.bl (bs.all id)) H) := by
  intro pins s σ H xs us Q I r h
  obtain ⟨p, bs, rfl, hq, q⟩ := h
  obtain ⟨u, rfl, ru⟩ := vals1 r
  cases ru
  obtain ⟨its, rv, pl, hz⟩ := I.list hq
  have hlen := rv.length
  rw [List.length_map] at hlen
  have hlt : p < s.heap.objs.size := by
    obtain ⟨o, n, e, _⟩ := pl
    exact Heap.lt_size e
  refine call_all_walk (wpAny_pyIter_list pl.isList ⟨s.heap.objs.size, _, _, its.toArray.size, _, _, fun i => bs.getD i false, rfl, Walks.list (show X.A.in1.handled = none from I.ok.hd hc) s.heap.objs.size p (Nat.ne_of_lt hlt) its.toArray,
    ⟨⟨_, Heap.get?_push_size _ rfl, rfl, rfl⟩, pl.isList.at fun o e => Heap.get?_push_of_some _ e⟩, fun i v s' Q' E' hP hQ' => ?_, fun h' tk hk => ?_⟩)
  · have hP : its.toArray[i]? = some v := hP
    have hi : i < bs.length := by
      have := (Array.getElem?_eq_some_iff.mp hP).1
      rw [List.size_toArray] at this
      omega
    obtain ⟨u, e1, e2⟩ := rv.get (i := i) (x := V.bl bs[i]) (by simp [hi])
    have : v = .bool bs[i] := by
      rw [show its.toArray[i]? = its[i]? by simp, e1] at hP
      cases hP
      exact e2
    subst this
    have hQ' : Q' (bs.getD i false) s' := hQ'
    rw [show bs.getD i false = bs[i] by simp [List.getD_eq_getElem?_getD, hi]] at hQ'
    exact wpAny_truthy_bool hQ'
  · refine ⟨.bl (bs.all id), H, ?_, ?_, q⟩
    · exact I.kept (h' := h') (t' := tk) fun b o e => hk b o (by have := Heap.lt_size e; simp; exact Nat.ne_of_lt this) (Heap.get?_push_of_some _ e)
    · show Value.bool _ = Value.bool _
      rw [List.size_toArray, ← hlen, all_range]

/-! ### min and max of a tuple of two ints -/
/-! ### range objects, in -/
theorem call_rng : CallR X (.type "range") (fun xs H Q => (∃ j : Int, xs = [V.int j] ∧ ∀ l, H l = none → Q (.ref l) (upd H l (.rng 0 j))) ∨ (∃ i j : Int, xs = [V.int i, V.int j] ∧ ∀ l, H l = none → Q (.ref l) (upd H l (.rng i j)))) := by
  intro pins s σ H xs us Q I r h
  have hf : H s.heap.objs.size = none := I.hok.fresh (Nat.le_refl _)
  rcases h with ⟨j, rfl, q⟩ | ⟨i, j, rfl, q⟩
  · obtain ⟨u, rfl, t, rfl⟩ := vals1 r
    exact call_range_1 ⟨.ref s.heap.objs.size, _, I.laid (o := .rng 0 j) (fun _ _ e => Heap.get?_push_of_some _ e) (Nat.le_refl _) ⟨_, _, _, Heap.get?_push_size _ rfl⟩, rfl, q _ hf⟩
  · obtain ⟨u, w', rfl, ⟨t, rfl⟩, ⟨t', rfl⟩⟩ := vals2 r
    exact call_range_2 ⟨.ref s.heap.objs.size, _, I.laid (o := .rng i j) (fun _ _ e => Heap.get?_push_of_some _ e) (Nat.le_refl _) ⟨_, _, _, Heap.get?_push_size _ rfl⟩, rfl, q _ hf⟩
section
open PySem.SeqAt
open PySem.AutoSeq1 (wpAny_loadPart')
open PySem.MeetsSeq PySem.MeetsSeq2 PySem.MeetsSeq3
end
def rInR (neg : Bool) : R2 := fun x y H Q => ∃ (l : Addr) (i lo hi : Int), x = .int i ∧ y = .ref l ∧ H l = some (.rng lo hi) ∧ Q (.bl (if neg then !decide (lo ≤ i ∧ i < hi) else decide (lo ≤ i ∧ i < hi))) H
/-! ### t + u, whichever is empty -/
def rCatU (K : PySem.W.Frag) : R2 := fun x y H Q => ∃ a b xs ys, x = .ref a ∧ y = .ref b ∧ SqT K H a xs ∧ SqT K H b ys ∧ xs.length + ys.length ≤ sizeLine ∧
  ∀ p H', SqT K H' p (xs ++ ys) → Same H H' → Q (.ref p) H'
end
end L2

namespace HT
open PySem PySem.Spec PyProof.Rows
section
variable {prog : Program} {w : World} {A : Around} {E : Value → Shared → Prop} {s : Shared}
/-- t[a:b], the whole: t itself -/
theorem getItem_tuple_whole {t sl : Addr} {items : Array Value} {vl vu : Value} {lo hi : Option Int} {Q : Value → Shared → Prop} (ht : IsTup s.heap t items) (hs : s.heap.IsSliceOf sl vl vu .none) (pl : IsPart vl lo) (pu : IsPart vu hi)
    (hw : sIx items.size 0 lo = 0 ∧ sIx items.size items.size hi = items.size) (h : Q (.ref t) s) : wpAny (model prog w) A (getItem (.ref t) (.ref sl)) Q E s := by
  obtain ⟨os, hos, hcs, hds⟩ := id hs
  have hTs : s.TypeIs (.ref sl) "slice" := ⟨os, hos, hcs⟩
  unfold getItem
  try with_reducible refine wpAny_holding ?_
  first | refine wpAny_bind (wpAny_pure ?_) | skip
  refine wpAny_bind (wpAny_sequenceKey ht.typeIs (by decide) ?_)
  refine wpAny_bind (wpAny_callSpecial?_slot (name := Str.ofString "__getitem__") ht.typeIs PyProof.Rows.slot_tuple_getitem
    (wpAny_call_entry PyProof.Rows.slot_tuple_getitem ht.typeIs entry_tuple_getitem ?_ (args_tuple_getitem _ _)))
  show wpAny _ _ (Builtin.Tuple.tupleItemsOf (.ref t) >>= _) _ _ s
  refine wpAny_bind (tupleItemsOf_ ht (wpAny_bind (wpAny_typeOf hTs ?_)))
  rw [if_pos (by decide)]
  refine wpAny_bind (sliceApplied_gen hs pl pu ?_)
  show wpAny _ _ (if (((sIx items.size 0 lo : Nat) : Int) == 0 && (1 : Int) == 1 && (sIx items.size items.size hi - sIx items.size 0 lo) == items.size) = true then _ else _) _ _ s
  rw [if_pos (by rw [hw.1, hw.2]; simp)]
  unfold Builtin.Tuple.tupleIsExact
  refine wpAny_bind (wpAny_bind (wpAny_typeOf ht.typeIs (wpAny_pure ?_)))
  rw [if_pos (by decide)]
  exact wpAny_bind (wpAny_rule (wpAny_pure ⟨_, rfl, wpAny_pure h⟩))
end
end HT
namespace L2
open PySem PySem.Spec PyProof.Rows
section
variable {X : Cx}
/-- xs[lo:hi] of a tuple, whatever it cuts -/
def rSlU (K : PySem.W.Frag) : V → Option Int → Option Int → Hp → VK → Prop := fun x lo hi H Q => ∃ a xs, x = .ref a ∧ SqT K H a xs ∧ ∀ p H', SqT K H' p (cutV xs lo hi) → Same H H' → Q (.ref p) H'
theorem sl_tupU : SlR X (rSlU X.K) := by
  intro pins s σ H x v vl vu lo hi sl Q I rx hs pl pu h
  obtain ⟨a, xs, rfl, hx, q⟩ := h
  by_cases hw : HT.sIx xs.length 0 lo = 0 ∧ HT.sIx xs.length xs.length hi = xs.length
  · cases rx
    obtain ⟨its, r, ht, hz⟩ := I.tuple hx
    have hlen : its.toArray.size = xs.length := by rw [List.size_toArray]; exact r.length.symm
    refine ⟨"tuple", _, PyProof.Rows.slot_tuple_getitem.lookup, ht.typeIs, ?_⟩
    refine HT.getItem_tuple_whole ht hs pl pu (by rw [hlen]; exact hw) ⟨.ref a, H, I, rfl, q a H ?_ (Same.refl H)⟩
    have : cutV xs lo hi = xs := by
      unfold cutV
      rw [hw.1, hw.2, List.drop_zero, Nat.sub_zero, List.take_length]
    rw [this]
    exact hx
  · exact sl_tup pins s σ H _ v vl vu lo hi sl Q I rx hs pl pu ⟨a, xs, rfl, hx, hw, fun p hp => q p _ (.inl (.inl upd_same)) fun c o e => by rw [upd_ne (ne_of_none e hp)]; exact e⟩
/-- t[::-1] -/
def tRevT (K : PySem.W.Frag) (te tk : TE) : TE := fun σ H Q => te σ H fun x H1 => tPart tk σ H1 fun k H2 => ∃ a xs, k = some (-1) ∧ x = .ref a ∧ SqT K H2 a xs ∧ ∀ p, H2 p = none → Q (.ref p) (upd H2 p (.tup xs.reverse))
end
end L2

namespace Srt
open PySem PySem.W PyProof.Rows
/-- whatever is answered: the asked places lie below n, the ends are good -/
def All {α : Type} (n : Nat) (P : α → Prop) : KasT α → Prop
  | .ret a => P a
  | .ask i j k => i < n ∧ j < n ∧ ∀ b, All n P (k b)
theorem All.bind {α β : Type} {n : Nat} {P : β → Prop} {f : α → KasT β} : ∀ {t : KasT α}, All n (fun a => All n P (f a)) t → All n P (t.bind f)
  | .ret _, h => h
  | .ask _ _ _, ⟨h1, h2, h3⟩ => ⟨h1, h2, fun b => All.bind (h3 b)⟩
theorem All.mono {α : Type} {n : Nat} {P P' : α → Prop} (hp : ∀ a, P a → P' a) : ∀ {t : KasT α}, All n P t → All n P' t
  | .ret a, h => hp a h
  | .ask _ _ _, ⟨h1, h2, h3⟩ => ⟨h1, h2, fun b => All.mono hp (h3 b)⟩
theorem All.wp {α : Type} {n : Nat} {P : α → Prop} {cmp : Nat → Nat → (Bool → Shared → Prop) → Shared → Prop} {Q : α → Shared → Prop} {s : Shared}
    (hc : ∀ i j C, i < n → j < n → (∀ b, C b s) → cmp i j C s) (hq : ∀ a, P a → Q a s) : ∀ {t : KasT α}, All n P t → t.kasWp cmp Q s
  | .ret a, h => hq a h
  | .ask i j k, ⟨h1, h2, h3⟩ => hc i j _ h1 h2 fun b => All.wp hc hq (h3 b)
/-- a new order of 0 .. n - 1 -/
def Good (n : Nat) (p : Array Nat) : Prop := 0 < n ∧ p.toList.Perm (List.range n)
theorem Good.lt {n : Nat} {p : Array Nat} (g : Good n p) (k : Nat) : p.getD k 0 < n := by
  by_cases h : k < p.size
  · have e : p.getD k 0 = p[k] := by simp [Array.getD, h]
    rw [e]
    have m : p[k] ∈ List.range n := g.2.mem_iff.mp (by simp)
    simpa using m
  · have e : p.getD k 0 = 0 := by simp [Array.getD, h]
    rw [e]
    exact g.1
theorem Good.perm {n : Nat} {p p' : Array Nat} (g : Good n p) (h : p'.Perm p) : Good n p' := ⟨g.1, (Array.perm_iff_toList_perm.mp h).trans g.2⟩
theorem Good.rev {n : Nat} {p : Array Nat} (g : Good n p) (i j : Nat) : Good n (kas_rev p i j) := g.perm (mirror_perm _ _ _ _)
theorem asc {n : Nat} {p : Array Nat} (g : Good n p) : ∀ f k, All n (fun _ => True) (kas_asc p f k)
  | 0, _ => trivial
  | f + 1, k => ⟨g.lt _, g.lt _, fun b => by
    cases b with
    | true => show All n _ (if true = true then _ else _); rw [if_pos rfl]; trivial
    | false => show All n _ (if false = true then _ else _); rw [if_neg Bool.false_ne_true]; exact asc g f (k + 1)⟩
theorem desc {n : Nat} : ∀ f {p : Array Nat} (k q : Nat), Good n p → All n (fun r => Good n r.1) (kas_desc f p k q)
  | 0, p, _, _, g => g
  | f + 1, p, k, q, g => ⟨g.lt _, g.lt _, fun b => by
    cases b with
    | true =>
      show All n _ (if true = true then _ else _)
      rw [if_pos rfl]
      by_cases hq : q > 0
      · rw [if_pos hq]; exact desc f _ _ (g.rev _ _)
      · rw [if_neg hq]; exact desc f _ _ g
    | false =>
      show All n _ (if false = true then _ else _)
      rw [if_neg Bool.false_ne_true]
      refine ⟨g.lt _, g.lt _, fun b => ?_⟩
      cases b with
      | true => show All n _ (if true = true then _ else _); rw [if_pos rfl]; exact g
      | false => show All n _ (if false = true then _ else _); rw [if_neg Bool.false_ne_true]; exact desc f _ _ g⟩
theorem tail3 {n : Nat} {p : Array Nat} (g : Good n p) (k nrem : Nat) : All n (fun r : Nat × Array Nat => Good n r.2) (kas_tail3 k nrem p) := by
  unfold kas_tail3
  exact ((asc (g.rev _ _) _ _).mono fun m _ => (show All n (fun r : Nat × Array Nat => Good n r.2) (KasT.ret (m, kas_rev p 0 k)) from g.rev _ _)).bind
theorem descPart {n : Nat} {p : Array Nat} (g : Good n p) (k nrem : Nat) : All n (fun r : Nat × Array Nat => Good n r.2) (kas_descPart k nrem p) := by
  unfold kas_descPart
  refine ((desc _ _ _ g).mono fun r hr => ?_).bind
  by_cases h : r.2.2 > 0
  · rw [if_pos h]; exact tail3 (hr.rev _ _) _ _
  · rw [if_neg h]; exact tail3 hr _ _
theorem count {n : Nat} {p : Array Nat} (g : Good n p) (nrem : Nat) : All n (fun r : Nat × Array Nat => Good n r.2) (kas_count nrem p) := by
  unfold kas_count
  refine ((asc g _ _).mono fun k _ => ?_).bind
  by_cases h : (k == nrem) = true
  · rw [if_pos h]; exact g
  · rw [if_neg h]
    by_cases h2 : k > 1
    · rw [if_pos h2]
      refine ⟨g.lt _, g.lt _, fun b => ?_⟩
      cases b with
      | true => show All n _ (if true = true then _ else _); rw [if_pos rfl]; exact g
      | false => show All n _ (if false = true then _ else _); rw [if_neg Bool.false_ne_true]; exact descPart (g.rev _ _) _ _
    · rw [if_neg h2]; exact descPart g _ _
theorem place {n : Nat} {p : Array Nat} (g : Good n p) (k : Nat) : ∀ f l r, All n (fun _ => True) (kas_place p k f l r)
  | 0, _, _ => trivial
  | f + 1, l, r => by
    unfold kas_place
    by_cases h : l ≥ r
    · rw [if_pos h]; trivial
    · rw [if_neg h]
      refine ⟨g.lt _, g.lt _, fun b => ?_⟩
      cases b with
      | true => show All n _ (if true = true then _ else _); rw [if_pos rfl]; exact place g k f _ _
      | false => show All n _ (if false = true then _ else _); rw [if_neg Bool.false_ne_true]; exact place g k f _ _
theorem bin {n : Nat} : ∀ f {p : Array Nat} (k : Nat), Good n p → All n (Good n) (kas_bin f p k)
  | 0, _, _, g => g
  | f + 1, p, k, g => ((place g k k 0 k).mono fun l _ => bin f (k + 1) (g.perm (bubble_perm _ _ _))).bind
theorem sort {n : Nat} (h : 0 < n) : All n (Good n) (kas_sort n) := by
  unfold kas_sort
  have g : Good n (List.toArray (List.range n)) := ⟨h, by simp⟩
  refine ((count g n).mono fun r hr => ?_).bind
  by_cases h : r.1 < n
  · rw [if_pos h]; exact bin _ _ hr
  · rw [if_neg h]; exact hr

/-- a pair of tuples of ints: the comparison comes back, the state as it was -/
theorem lex {prog : Program} {w : World} {A : Around} {fin : Bool} {C : Bool → Shared → Prop} {s : Shared} (hC : ∀ b, C b s) : ∀ {vs ws : List Value} {ns ms : List Int} (i : Nat), IntsAre vs ns → IntsAre ws ms → KatLex prog w A true fin C (vs.zip ws) i s
  | [], _, _, _, i, _, _ => kat_nil (hC _)
  | _ :: _, [], _, _, i, _, _ => kat_nil (hC _)
  | _ :: vs, _ :: ws, _ :: ns, _ :: ms, i, .cons a t h1, .cons c u h2 => by
    rw [List.zip_cons_cons]
    refine kat_cons ?_
    obtain ⟨e, he, _⟩ := HT.eqAt_int A s a t c u
    refine he prog w _ _ ?_
    cases e with
    | true => exact kat_yes (lex hC (i + 1) h1 h2)
    | false =>
      refine kat_no ?_
      cases i with
      | zero => exact oneLt_int (hC _)
      | succ i => exact kat_one _ _ (lt_int (hC _))
section
variable {prog : Program} {w : World} {A : Around} {E : Value → Shared → Prop} {s : Shared}
/-- what the sort asks of its items: tuples of ints, none empty -/
def Tups (h : Heap) (vs : List Value) : Prop := ∀ v ∈ vs, ∃ a items ns, v = .ref a ∧ IsTup h a items ∧ IntsAre items.toList ns ∧ ns ≠ []
theorem Tups.keep {h h' : Heap} {vs : List Value} (t : Tups h vs) (k : ∀ b o, h.get? b = some o → o.cls = .type "tuple" → h'.get? b = some o) : Tups h' vs := fun v hv => by
  obtain ⟨a, items, ns, e, ⟨o, h1, h2, n, h3⟩, i, ne⟩ := t v hv
  exact ⟨a, items, ns, e, ⟨o, k a o h1 h2, h2, n, h3⟩, i, ne⟩
theorem firsts {M : Model} {h : Heap} : ∀ {vs : List Value}, Tups h vs → ∃ fs, fs.length = vs.length ∧ KatTups h vs fs ∧ ∀ v ∈ fs, Looks M h (typeOf v) (.type "int")
  | [], _ => ⟨[], rfl, .nil, fun v hv => by cases hv⟩
  | v :: vs, t => by
    obtain ⟨fs, h1, h2, h3⟩ := firsts (M := M) (vs := vs) fun u hu => t u (List.mem_cons_of_mem _ hu)
    obtain ⟨a, items, ns, rfl, ⟨o, g1, g2, n, g3⟩, i, ne⟩ := t v List.mem_cons_self
    cases hi : items.toList with
    | nil =>
      rw [hi] at i
      cases i
      exact absurd rfl ne
    | cons f r =>
      rw [hi] at i
      cases i with
      | cons x tk _ =>
        refine ⟨.int x tk :: fs, by simp [h1], .cons g1 g2 g3 (by rw [← Array.getElem?_toList, hi]; rfl) h2, fun u hu => ?_⟩
        rcases List.mem_cons.mp hu with rfl | hu
        · exact .now
        · exact h3 u hu
theorem tree {a : Addr} {vs : List Value} {n : Nat} {P : PySem.Fin → Shared → Prop} (ho : s.heap.get? a = some (seqObj "list" vs.toArray n)) (ht : Tups s.heap vs) (h64 : vs.length < 64)
    (h : ∀ out : List Value, out.Perm vs → P (.done (.ret .none)) { s with heap := sortedHeap s.heap a vs out.toArray }) : wpAny (model prog w) A (Builtin.«list.sort» ⟨[.ref a], []⟩) P E s := by
  rw [list_sort_plain]
  have ha : a < s.heap.objs.size := Heap.lt_size ho
  refine wpAny_bind (listItems_at ho rfl (wpAny_bind (listUpdate_at ho rfl ?_)))
  obtain ⟨e1, o1⟩ : ∃ e1, (s.heap.update a (Obj.mapSeq fun _ => #[])).get? a = some (seqObj "list" #[] e1) := ⟨_, get?_update_seq ho (fun _ => #[])⟩
  refine wpAny_bind (seqEpoch_at o1 rfl (wpAny_bind (wpAny_newTuple (wpAny_bind (wpAny_newList ?_)))))
  refine wpAny_holding ?_
  have o6 : (((s.heap.update a (Obj.mapSeq fun _ => #[])).push (seqObj "tuple" vs.toArray 0)).push (seqObj "list" #[] 0)).get? a = some (seqObj "list" #[] e1) := Heap.get?_push_of_some _ (Heap.get?_push_of_some _ o1)
  show wpAny (model prog w) A _ P E { s with heap := ((s.heap.update a (Obj.mapSeq fun _ => #[])).push (seqObj "tuple" vs.toArray 0)).push (seqObj "list" #[] 0) }
  dsimp only
  have hsz : vs.toArray.size = vs.length := by simp
  have t6 : Tups (((s.heap.update a (Obj.mapSeq fun _ => #[])).push (seqObj "tuple" vs.toArray 0)).push (seqObj "list" #[] 0)) vs := ht.keep fun b o e c => by
    refine Heap.get?_push_of_some _ (Heap.get?_push_of_some _ ((Heap.get?_update_other _ _ ?_).trans e))
    rintro rfl
    rw [ho] at e
    cases e
    exact absurd c (by simp [seqObj])
  by_cases h2 : vs.toArray.size < 2
  · rw [if_pos h2, if_pos h2]
    refine wpAny_bind (wpAny_pure ?_)
    rw [StateT.run_pure]
    refine wpAny_bind (wpAny_pure ?_)
    dsimp only
    refine wpAny_bind (seqEpoch_at o6 rfl (wpAny_bind (listUpdate_at o6 rfl ?_ (hsz2 := by rw [Array.size_map]; show (pairsOf vs).size ≤ _; rw [pairsOf_size, sizeLine_eq]; omega))))
    simp only [bne_self_eq_false, Bool.false_eq_true, if_false]
    refine wpAny_pure ?_
    have e : ((vs.toArray.zip vs.toArray).map (·.2)) = vs.toArray := by
      apply Array.toList_inj.mp
      rw [Array.toList_map, Array.toList_zip]
      exact List.map_snd_zip (Nat.le_refl _)
    have q := h vs (List.Perm.refl _)
    rw [← e] at q
    exact q
  · rw [if_neg h2, if_neg h2]
    have h2' : 2 ≤ vs.length := by omega
    obtain ⟨fs, f1, f2, f3⟩ := firsts (M := model prog w) t6
    refine wpAny_bind (kat_kind (T := .type "int") f2 (by omega) f3 (by decide) ?_)
    rw [show ((Value.type "int" != Value.type "tuple") = true) from by decide]
    refine wpAny_bind (wpAny_mono (kat_run (Q := fun st' s' => ∃ p : Array Nat, Good vs.length p ∧ arrOf st' = p.map (kas_item (vs.toArray.zip vs.toArray)) ∧ failedOf st' = none ∧ s' = _) (G := fun p s' => Good vs.length p ∧ s' = _) (ks := vs) rfl h2' h64
      (fun p st' s' _ a2 a3 a4 => ⟨p, a4.1, a2, a3, a4.2⟩) (All.wp (P := Good vs.length) (fun i j C hi hj hC => ?_) (fun p hp => ⟨hp, rfl⟩) (sort (by omega)))) ?_ fun _ _ x => x)
    · show wpAny (model prog w) A (keyLt' (tuples' true) (vs.getD i Value.none) (vs.getD j Value.none)) C (fun _ _ => False) _
      have gi : vs.getD i Value.none = vs[i] := by simp [hi]
      have gj : vs.getD j Value.none = vs[j] := by simp [hj]
      rw [gi, gj]
      obtain ⟨x, xs, ns, ex, ⟨ox, x1, x2, nx, x3⟩, ix, _⟩ := t6 vs[i] (List.getElem_mem hi)
      obtain ⟨y, ys, ms, ey, ⟨oy, y1, y2, ny, y3⟩, iy, _⟩ := t6 vs[j] (List.getElem_mem hj)
      rw [ex, ey]
      exact kat_lt x1 x3 y1 y3 (lex hC 0 ix iy)
    · rintro ⟨⟨⟩, st'⟩ s' ⟨p, hp, har, hf, rfl⟩
      dsimp only
      have hout := kat_snds (vs := vs) (ks := vs) rfl har
      have hperm : (p.toList.map fun i => vs.getD i Value.none).Perm vs := by
        have e := hp.2.map fun i => vs.getD i Value.none
        refine e.trans (List.Perm.of_eq ?_)
        apply List.ext_getElem
        · simp
        · intro i h1 h2
          simp [h2]
      rw [hout]
      refine wpAny_bind (seqEpoch_at o6 rfl (wpAny_bind (listUpdate_at o6 rfl ?_ (hsz2 := by rw [List.size_toArray, hperm.length_eq, sizeLine_eq]; omega))))
      rw [hf]
      simp only [bne_self_eq_false, Bool.false_eq_true, if_false]
      exact wpAny_pure (h _ hperm)
theorem sorted {l : Addr} {vs : List Value} {Q : Value → Shared → Prop} (hl : s.heap.IsList l vs.toArray) (ht : Tups s.heap vs) (h64 : vs.length < 64)
    (h : ∀ out : List Value, out.Perm vs → Q (.ref (s.heap.objs.size + 1)) { s with heap := sortedAll s.heap vs out.toArray }) : wpAny (model prog w) A (call (.builtin "sorted") [.ref l]) Q E s := by
  refine Calls.call_function_entry kind_sorted plain_sorted entry_sorted (args_sorted1 _) ?_
  unfold Builtin.«sorted»
  refine wpAny_bind (m := checkCount "sorted" 1 1 _) (wpAny_pure ?_)
  refine wpAny_bind (collect_list hl (wpAny_bind (wpAny_newList ?_)))
  have hsz : ((s.heap.push (seqObj "list" #[] 0)).update s.heap.objs.size (Obj.mapSeq (· ++ vs.toArray))).objs.size = s.heap.objs.size + 1 := by
    rw [Heap.size_update, size_push']
  have oL : (((s.heap.push (seqObj "list" #[] 0)).update s.heap.objs.size (Obj.mapSeq (· ++ vs.toArray))).push (seqObj "list" vs.toArray 0)).get? (s.heap.objs.size + 1) = some (seqObj "list" vs.toArray 0) := by
    rw [← hsz]; exact Heap.get?_push_size _ rfl
  show wpAny _ _ _ _ _ { s with heap := ((s.heap.push (seqObj "list" #[] 0)).update s.heap.objs.size (Obj.mapSeq (· ++ vs.toArray))).push (seqObj "list" vs.toArray 0) }
  rw [hsz]
  have tL : Tups (((s.heap.push (seqObj "list" #[] 0)).update s.heap.objs.size (Obj.mapSeq (· ++ vs.toArray))).push (seqObj "list" vs.toArray 0)) vs := ht.keep fun b o e _ =>
    Heap.get?_push_of_some _ ((Heap.get?_update_other _ _ (Ne.symm (Nat.ne_of_lt (Heap.lt_size e)))).trans (Heap.get?_push_of_some _ e))
  refine wpAny_bind (wpAny_holding (wpAny_call_entry slot_list_sort ⟨_, oL, rfl⟩ entry_list_sort (tree oL tL h64 fun out hp => ⟨_, rfl, ?_⟩) (args_list_sort _)))
  exact wpAny_pure ⟨_, rfl, h out hp⟩
end
end Srt

namespace L2
open PySem PySem.Spec PyProof.Rows
def refV : Value → V
  | .ref b => .ref b
  | _ => .non
theorem vals_refs : ∀ {l : List Value}, (∀ u ∈ l, ∃ b, u = .ref b) → Vals (l.map refV) l
  | [], _ => .nil
  | u :: l, h => by
    obtain ⟨b, rfl⟩ := h u List.mem_cons_self
    exact .cons rfl (vals_refs fun v hv => h v (List.mem_cons_of_mem _ hv))
theorem refs_vals : ∀ {bs : List V} {l : List Value}, Vals bs l → (∀ b ∈ bs, ∃ a, b = .ref a) → bs = l.map refV ∧ ∀ u ∈ l, ∃ b, u = .ref b
  | _, _, .nil, _ => ⟨rfl, fun u hu => by cases hu⟩
  | _, _, .cons r t, h => by
    obtain ⟨a, rfl⟩ := h _ List.mem_cons_self
    cases r
    obtain ⟨e, q⟩ := refs_vals t fun b hb => h b (List.mem_cons_of_mem _ hb)
    refine ⟨by rw [List.map_cons, ← e]; rfl, fun u hu => ?_⟩
    rcases List.mem_cons.mp hu with rfl | hu
    · exact ⟨a, rfl⟩
    · exact q u hu
section
variable {X : Cx}
theorem Vals.mem {xs : List V} {us : List Value} {u : Value} (r : Vals xs us) (h : u ∈ us) : ∃ x ∈ xs, RelV x u := by
  induction r with
  | nil => cases h
  | cons q _ ih =>
    rcases List.mem_cons.mp h with rfl | h
    · exact ⟨_, List.mem_cons_self, q⟩
    · obtain ⟨x, hx, hr⟩ := ih h
      exact ⟨x, List.mem_cons_of_mem _ hx, hr⟩
theorem call_sortedT : CallR X (.builtin "sorted") (fun xs H Q => ∃ (p : Addr) (bs : List V), xs = [V.ref p] ∧ SqL X.K H p bs ∧ bs.length < 64 ∧ (∀ b ∈ bs, ∃ (a : Addr) (ns : List Int), b = .ref a ∧ SqT X.K H a (ns.map V.int) ∧ ns ≠ []) ∧
    ∀ l bs', H l = none → List.Perm bs' bs → Q (.ref l) (upd H l (.lst bs'))) := by
  intro pins s σ H xs us Q I r h
  obtain ⟨p, bs, rfl, hq, h64, ht, q⟩ := h
  obtain ⟨u, rfl, ru⟩ := vals1 r
  cases ru
  obtain ⟨its, rv, pl, hz⟩ := I.list hq
  have hlen := rv.length
  obtain ⟨eb, refs⟩ := refs_vals rv fun b hb => let ⟨a, _, e, _⟩ := ht b hb; ⟨a, e⟩
  refine Srt.sorted pl.isList (fun v hv => ?_) (by omega) fun out hp => ?_
  · obtain ⟨b, hb, rb⟩ := rv.mem hv
    obtain ⟨a, ns, rfl, hs, ne⟩ := ht b hb
    cases rb
    obtain ⟨items, ri, pt, _⟩ := I.tuple hs
    exact ⟨a, items.toArray, ns, rfl, pt, intsAre_of ri, ne⟩
  · have hf : H (s.heap.objs.size + 1) = none := I.hok.fresh (Nat.le_succ _)
    have ro : ∀ u ∈ out, ∃ b, u = .ref b := fun u hu => refs u (hp.mem_iff.mp hu)
    have hp' : List.Perm (out.map refV) bs := by rw [eb]; exact hp.map _
    obtain ⟨e, he⟩ := sortedAll_at s.heap its out.toArray
    refine ⟨.ref (s.heap.objs.size + 1), upd H (s.heap.objs.size + 1) (.lst (out.map refV)), I.laid (t' := s.toks) (fun b o => sortedAll_old) (Nat.le_succ _) ⟨?_, out, e, vals_refs ro, he⟩, rfl, q _ _ hf hp'⟩
    rw [hp'.length_eq]
    exact hz
end
end L2

/-! data told from the heap; defs of the text by their promises -/
namespace L2
open PySem PySem.Spec PyProof.Rows
inductive Dt where
  | non | bl (b : Bool) | int (i : Int) | str (x : Str) | lst | dct | tup (ds : List Dt)
mutual
def Rep (K : PySem.W.Frag) (H : Hp) : Dt → V → Prop
  | .non, v => v = .non
  | .bl b, v => v = .bl b
  | .int i, v => v = .int i
  | .str x, v => v = .str x
  | .lst, v => ∃ p xs, v = .ref p ∧ SqL K H p xs
  | .dct, v => ∃ p, v = .ref p ∧ ((∃ kvs, H p = some (.dK kvs)) ∨ ∃ kvs, H p = some (.dT kvs))
  | .tup ds, v => ∃ p xs, v = .ref p ∧ SqT K H p xs ∧ RepL K H ds xs
def RepL (K : PySem.W.Frag) (H : Hp) : List Dt → List V → Prop
  | [], [] => True
  | d :: ds, x :: xs => Rep K H d x ∧ RepL K H ds xs
  | _, _ => False
end
theorem Same.tup {K : PySem.W.Frag} {H H' : Hp} {a : Addr} {xs : List V} (e : Same H H') (h : SqT K H a xs) : SqT K H' a xs := by
  rcases h with (h | ⟨o, h⟩) | h
  · exact .inl (.inl (e _ _ h))
  · exact .inl (.inr ⟨o, e _ _ h⟩)
  · exact .inr h
theorem Same.upd {H : Hp} {p : Addr} {o : HO} (h : H p = none) : Same H (L2.upd H p o) := fun b u e => by rw [upd_ne (ne_of_none e h)]; exact e
mutual
theorem Same.rep {K : PySem.W.Frag} {H H' : Hp} (e : Same H H') : ∀ {d : Dt} {v : V}, Rep K H d v → Rep K H' d v
  | .non, _, h => h
  | .bl _, _, h => h
  | .int _, _, h => h
  | .str _, _, h => h
  | .lst, _, ⟨p, xs, h1, h2⟩ => ⟨p, xs, h1, e.seq h2⟩
  | .dct, _, ⟨p, h1, h2⟩ => ⟨p, h1, h2.elim (fun hZ => (by obtain ⟨k, q⟩ := hZ; exact .inl ⟨k, e _ _ q⟩)) fun hZ => (by obtain ⟨k, q⟩ := hZ; exact .inr ⟨k, e _ _ q⟩)⟩
  | .tup _, _, ⟨p, xs, h1, h2, h3⟩ => ⟨p, xs, h1, e.tup h2, e.repL h3⟩
theorem Same.repL {K : PySem.W.Frag} {H H' : Hp} (e : Same H H') : ∀ {ds : List Dt} {xs : List V}, RepL K H ds xs → RepL K H' ds xs
  | [], [], _ => trivial
  | _ :: _, _ :: _, h => ⟨e.rep h.1, e.repL h.2⟩
  | [], _ :: _, h => h.elim
  | _ :: _, [], h => h.elim
end
theorem RepL.len {K : PySem.W.Frag} {H : Hp} : ∀ {ds : List Dt} {xs : List V}, RepL K H ds xs → ds.length = xs.length
  | [], [], _ => rfl
  | _ :: _, _ :: _, h => by simp [RepL.len h.2]
  | [], _ :: _, h => h.elim
  | _ :: _, [], h => h.elim
theorem RepL.get {K : PySem.W.Frag} {H : Hp} : ∀ {ds : List Dt} {xs : List V} {i : Nat} {x : V}, RepL K H ds xs → xs[i]? = some x → ∃ d, ds[i]? = some d ∧ Rep K H d x
  | [], [], _, _, _, e => by simp at e
  | d :: _, _ :: _, 0, _, h, e => by simp at e; subst e; exact ⟨d, rfl, h.1⟩
  | _ :: _, _ :: _, i + 1, _, h, e => by
    obtain ⟨d, e1, e2⟩ := RepL.get (i := i) h.2 (by simpa using e)
    exact ⟨d, by simpa using e1, e2⟩
  | [], _ :: _, _, _, h, _ => h.elim
  | _ :: _, [], _, _, h, _ => h.elim
/-- data of some kind -/
def Known (K : PySem.W.Frag) (H : Hp) (v : V) : Prop := ∃ d, Rep K H d v
/-- its class -/
def Dt.ty : Dt → String
  | .non => "NoneType" | .bl _ => "bool" | .int _ => "int" | .str _ => "str" | .lst => "list" | .dct => "dict" | .tup _ => "tuple"
theorem Rep.kind {K : PySem.W.Frag} {H : Hp} : ∀ {d : Dt} {v : V}, Rep K H d v → kindV K H d.ty v
  | .non, _, h => by cases h; rfl
  | .bl _, _, h => by cases h; rfl
  | .int _, _, h => by cases h; rfl
  | .str _, _, h => by cases h; rfl
  | .lst, _, ⟨p, xs, h1, h2⟩ => by subst h1; exact .inl ⟨rfl, xs, h2⟩
  | .dct, _, ⟨p, h1, h2⟩ => by subst h1; exact .inr (.inr ⟨rfl, h2⟩)
  | .tup _, _, ⟨p, xs, h1, h2, _⟩ => by subst h1; exact .inr (.inl ⟨rfl, xs, h2⟩)
theorem isi_tup {d : Dt} (h : isiB d.ty "tuple" = true) : ∃ ds, d = .tup ds := by
  cases d <;> first | exact ⟨_, rfl⟩ | (simp [Dt.ty, isiB] at h)
theorem isi_int {d : Dt} (h : isiB d.ty "int" = true) (h2 : isiB d.ty "bool" = false) : ∃ i, d = .int i := by
  cases d <;> first | exact ⟨_, rfl⟩ | (simp [Dt.ty, isiB] at h2; done) | (simp [Dt.ty, isiB] at h; done)

/-! ### a def of the text -/
structure Has (K : PySem.W.Frag) (mg : Str → Option Value) (x : Str) (st : Stmt) (ps : List Str) : Prop where
  ex : ∃ f fd, Fun K x x st f fd ∧ mg x = some (.ref f) ∧ Binds K fd ps []
structure Ok (P : Program) (w : World) (K : PySem.W.Frag) (mg : Str → Option Value) (base : Heap) (x : Str) (ps : List Str) (k : Nat) (sp : Sp) : Prop where
  ex : ∃ f fd, mg x = some (.ref f) ∧ PySem.W.keepIn K (.ref f) = true ∧ Binds K fd ps [] ∧ FnOk P w K mg base CX0 k f fd ps sp
theorem Has.ok {P : Program} {w : World} {K : PySem.W.Frag} {mg : Str → Option Value} {base : Heap} {x : Str} {st : Stmt} {N ps : List Str} {k : Nat} {sp : Sp} (h : Has K mg x st ps) (S : FnScope N ps (defScope st)) (len : ∀ vs H Q E, sp vs H Q E → vs.length = ps.length)
    (hbody : ∀ (f : Addr) (cdv : Value) (A : Around) (outer : List Env) (s : Shared) (H : Hp) (vs : List V) (Q : VK) (E : XK), Room k (A.deeper (envOfC x (defScope st) s.heap.objs.size f cdv)) → sp vs H Q E →
      ∃ t, PSs (cxOf CX0 P w K mg base N x (defScope st) f cdv A outer s H E).nox (defBody st) t ∧ t { nx := fun _ H' => Q .non H', rt := Q } (start N vs) H) : Ok P w K mg base x ps (k + 1) sp := by
  obtain ⟨f, fd, F, hm, hb⟩ := h.ex
  exact ⟨f, fd, hm, F.kp, hb, F.ok S len (hbody f)⟩
section
variable {X : Cx} {e : Expr} {es : List Expr} {t : TA} {x : Str} {ps : List Str} {k : Nat} {sp : Sp} {p pos : Pos}
theorem pe_callG (h : Ok X.prog X.w X.K X.mg X.base x ps k sp) (hr : Room k X.A) (hg : Gl X x) (ha : PA X (e :: es) t) (hdb : (x == ("__debug__" : Str)) = false := by decide)
    (he : starEach (e :: es) X.env = (false, eval e X.env) :: starEach es X.env := by rfl) (hpl : (backTo pos (starEach es X.env)).any (·.1) = false := by rfl) : PE X (.Call (.Name x p) (e :: es) [] pos) (tCall sp [] E0 t) := by
  obtain ⟨f, fd, hm, hk, hb, F⟩ := h.ex
  exact pe_call F hr hg hm hk hb .nil pass0 ha hdb he hpl
end
theorem iteB {c : Bool} {A B : Prop} (h1 : c = true → A) (h2 : c = false → B) : if c = true then A else B := by
  cases c with
  | true => rw [if_pos rfl]; exact h1 rfl
  | false => rw [if_neg Bool.false_ne_true]; exact h2 rfl

/-! ### expressions that only make data -/
def tK (K : PySem.W.Frag) (Pre : St → Hp → Prop) : TE := fun σ H Q => Pre σ H ∧ ∀ v H', Same H H' → Known K H' v → Q v H'
def tKs (K : PySem.W.Frag) (Pre : St → Hp → Prop) (n : Nat) : TA := fun σ H Q => Pre σ H ∧ ∀ vs H', Same H H' → vs.length = n → (∀ v ∈ vs, Known K H' v) → Q vs H'
/-- a precondition that more data doesn't break -/
def Grows (Pre : St → Hp → Prop) : Prop := ∀ σ H H', Pre σ H → Same H H' → Pre σ H'
section
variable {X : Cx} {Pre : St → Hp → Prop}
end
end L2

namespace L2
open PySem PySem.Spec PyProof.Rows
/-- what is asked of a comprehension's names, by the def's scope osc and its slots N -/
structure BlkD (osc : Scope) (N : List Str) (sc : Scope) (M tgs : List Str) : Prop where
  kind : sc.kind = .function
  names : ∀ y ∈ sc.names, y.2 = .local → sc.names.lookup y.1 = some .local
  nocell : ∀ y ∈ sc.names, y.2 ≠ .cell
  free : ∀ y ∈ sc.names, y.2 = .free → osc.names.lookup y.1 = some .cell ∨ osc.names.lookup y.1 = some .free
  len : M.length = N.length
  same : ∀ p ∈ M.zip N, p.1 = p.2 ∨ p.1 = ("" : Str)
  dummy : sc.names.lookup ("" : Str) = none
  hid : ∀ x ∈ M, sc.names.lookup x ≠ some .local
  nd : (M ++ tgs).Nodup
theorem BlkD.ok {X : Cx} {osc : Scope} {N : List Str} {sc : Scope} {M tgs : List Str} (b : BlkD osc N sc M tgs) (h1 : X.env.scope = osc := by rfl) (h2 : X.N = N := by rfl) : BlkOk X sc M tgs := by
  subst h1 h2
  exact ⟨b.kind, b.names, b.nocell, b.free, b.len, b.same, b.dummy, b.hid⟩
/-! ### comprehensions, the forms one uses -/
def Nx (n i : Nat) (Pv : Nat → List V → Hp → Prop) (ys : List V) (H : Hp) : Prop := ∃ m', m' < n - i ∧ (m' = n - (i + 1) ∧ i + 1 ≤ n ∧ Pv (i + 1) ys H)
theorem Nx.mk {n i : Nat} {Pv : Nat → List V → Hp → Prop} {ys : List V} {H : Hp} (hi : i < n) (h : Pv (i + 1) ys H) : Nx n i Pv ys H := ⟨n - (i + 1), by omega, rfl, hi, h⟩
theorem comp_tup {K : PySem.W.Frag} {a : Addr} {xs : List V} {k : Nat} {g : TG} {tt : TT} {te : TE} {σ : St} {H : Hp} {Q : VK} (Pv : Nat → List V → Hp → Prop) (h0 : Pv 0 [] H) (hl : ∀ i ys H, i ≤ xs.length → Pv i ys H → SqT K H a xs ∧ ys.length ≤ sizeLine)
    (hs : ∀ i x ys H, xs[i]? = some x → i < xs.length → Pv i ys H → g x (σ ++ List.replicate k none) H fun σ2 H2 => σ2.take σ.length = σ ∧ tt σ2 H2 fun b H3 =>
      if b = true then te σ2 H3 fun y H4 => Nx xs.length i Pv (ys ++ [y]) H4 else Nx xs.length i Pv ys H3)
    (hd : ∀ ys H, Pv xs.length ys H → ∀ l, H l = none → Q (.ref l) (upd H l (.lst ys))) : CompW (Itt K a) k g tt te σ Q H := by
  refine ⟨fun i m ys H => m = xs.length - i ∧ i ≤ xs.length ∧ Pv i ys H, ⟨xs.length, by simp, Nat.zero_le _, h0⟩, ?_⟩
  rintro i m ys H ⟨rfl, hi, p⟩
  obtain ⟨q, z⟩ := hl i ys H hi p
  refine ⟨z, ?_⟩
  by_cases hlt : i < xs.length
  · refine .inr ⟨⟨xs, xs[i], q, by simp [hlt]⟩, fun x H' y => ?_⟩
    obtain ⟨e, y⟩ := y
    subst e
    exact hs i x ys _ (y xs q) hlt p
  · have e : i = xs.length := by omega
    subst e
    exact .inl ⟨⟨xs, q, Nat.le_refl _⟩, hd ys H p⟩
theorem comp_lst {K : PySem.W.Frag} {a : Addr} {xs : List V} {k : Nat} {g : TG} {tt : TT} {te : TE} {σ : St} {H : Hp} {Q : VK} (Pv : Nat → List V → Hp → Prop) (h0 : Pv 0 [] H) (hl : ∀ i ys H, i ≤ xs.length → Pv i ys H → SqL K H a xs ∧ ys.length ≤ sizeLine)
    (hs : ∀ i x ys H, xs[i]? = some x → i < xs.length → Pv i ys H → g x (σ ++ List.replicate k none) H fun σ2 H2 => σ2.take σ.length = σ ∧ tt σ2 H2 fun b H3 =>
      if b = true then te σ2 H3 fun y H4 => Nx xs.length i Pv (ys ++ [y]) H4 else Nx xs.length i Pv ys H3)
    (hd : ∀ ys H, Pv xs.length ys H → ∀ l, H l = none → Q (.ref l) (upd H l (.lst ys))) : CompW (Itl K a) k g tt te σ Q H := by
  refine ⟨fun i m ys H => m = xs.length - i ∧ i ≤ xs.length ∧ Pv i ys H, ⟨xs.length, by simp, Nat.zero_le _, h0⟩, ?_⟩
  rintro i m ys H ⟨rfl, hi, p⟩
  obtain ⟨q, z⟩ := hl i ys H hi p
  refine ⟨z, ?_⟩
  by_cases hlt : i < xs.length
  · refine .inr ⟨⟨xs, xs[i], q, by simp [hlt]⟩, fun x H' y => ?_⟩
    obtain ⟨e, y⟩ := y
    subst e
    exact hs i x ys _ (y xs q) hlt p
  · have e : i = xs.length := by omega
    subst e
    exact .inl ⟨⟨xs, q, Nat.le_refl _⟩, hd ys H p⟩
theorem comp_range {lo : Int} {n : Nat} {k : Nat} {g : TG} {tt : TT} {te : TE} {σ : St} {H : Hp} {Q : VK} (Pv : Nat → List V → Hp → Prop) (h0 : Pv 0 [] H) (hl : ∀ i ys H, i ≤ n → Pv i ys H → ys.length ≤ sizeLine)
    (hs : ∀ i ys H, i < n → Pv i ys H → g (.int (lo + i)) (σ ++ List.replicate k none) H fun σ2 H2 => σ2.take σ.length = σ ∧ tt σ2 H2 fun b H3 =>
      if b = true then te σ2 H3 fun y H4 => Nx n i Pv (ys ++ [y]) H4 else Nx n i Pv ys H3)
    (hd : ∀ ys H, Pv n ys H → ∀ l, H l = none → Q (.ref l) (upd H l (.lst ys))) : CompW (Itr lo n) k g tt te σ Q H := by
  refine ⟨fun i m ys H => m = n - i ∧ i ≤ n ∧ Pv i ys H, ⟨n, by simp, Nat.zero_le _, h0⟩, ?_⟩
  rintro i m ys H ⟨rfl, hi, p⟩
  refine ⟨hl i ys H hi p, ?_⟩
  by_cases hlt : i < n
  · refine .inr ⟨hlt, fun x H' y => ?_⟩
    obtain ⟨e, y⟩ := y
    subst e y
    exact hs i ys _ hlt p
  · have e : i = n := by omega
    subst e
    exact .inl ⟨Nat.le_refl _, hd ys H p⟩
end L2

namespace L2
open PySem PySem.Spec PyProof.Rows
theorem Paired.perm {α β : Type} {R : α → β → Prop} {l1 l1' : List α} (h : List.Perm l1' l1) : ∀ {l2 : List β}, Paired R l1 l2 → ∃ l2', List.Perm l2' l2 ∧ Paired R l1' l2' := by
  induction h with
  | nil => intro l2 p; cases p; exact ⟨[], .refl _, .nil⟩
  | cons a _ ih =>
    intro l2 p
    cases p with
    | cons r t =>
      obtain ⟨l, h1, h2⟩ := ih t
      exact ⟨_ :: l, h1.cons _, .cons r h2⟩
  | swap a b l =>
    intro l2 p
    cases p with
    | cons r t =>
      cases t with
      | cons r' t => exact ⟨_, List.Perm.swap _ _ _, .cons r' (.cons r t)⟩
  | trans _ _ ih1 ih2 =>
    intro l2 p
    obtain ⟨l, h1, h2⟩ := ih2 p
    obtain ⟨l', h3, h4⟩ := ih1 h2
    exact ⟨l', h3.trans h1, h4⟩
theorem Paired.mem {α β : Type} {R : α → β → Prop} {l1 : List α} {l2 : List β} (p : Paired R l1 l2) {a : α} (h : a ∈ l1) : ∃ b ∈ l2, R a b := by
  induction p with
  | nil => cases h
  | cons r _ ih =>
    rcases List.mem_cons.mp h with rfl | h
    · exact ⟨_, List.mem_cons_self, r⟩
    · obtain ⟨b, h1, h2⟩ := ih h
      exact ⟨b, List.mem_cons_of_mem _ h1, h2⟩
theorem Paired.imp {α β : Type} {R R' : α → β → Prop} (f : ∀ a b, R a b → R' a b) {l1 : List α} {l2 : List β} (p : Paired R l1 l2) : Paired R' l1 l2 := by
  induction p with
  | nil => exact .nil
  | cons r _ ih => exact .cons (f _ _ r) ih
theorem Paired.of_get {α β : Type} {R : α → β → Prop} : ∀ {l1 : List α} {l2 : List β}, l1.length = l2.length → (∀ (i : Nat) b, l2[i]? = some b → ∃ a, l1[i]? = some a ∧ R a b) → Paired R l1 l2
  | [], [], _, _ => .nil
  | [], _ :: _, h, _ => by simp at h
  | _ :: _, [], h, _ => by simp at h
  | a :: l1, b :: l2, h, g => by
    obtain ⟨a', e, r⟩ := g 0 b rfl
    have : a = a' := by simpa using e
    subst this
    refine .cons r (Paired.of_get (by simpa using h) fun i b' e => ?_)
    obtain ⟨a', e', r'⟩ := g (i + 1) b' (by simpa using e)
    exact ⟨a', by simpa using e', r'⟩
section
variable {κ : Type} [DecidableEq κ]
theorem putK_keys {kvs : List (κ × V)} {k : κ} {v : V} {x : κ} (h : x ∈ (putK kvs k v).map (·.1)) : x = k ∨ x ∈ kvs.map (·.1) := by
  unfold putK at h
  split at h
  · refine .inr ?_
    rw [List.map_map] at h
    obtain ⟨y, hy, e⟩ := List.mem_map.mp h
    refine List.mem_map.mpr ⟨y, hy, ?_⟩
    rw [← e]
    show y.1 = (if y.1 = k then (y.1, v) else y).1
    split <;> rfl
  · rw [List.map_append] at h
    rcases List.mem_append.mp h with h | h
    · exact .inr h
    · exact .inl (by simpa using h)
end
/-! ### the laws' pens and webs -/
/-- all but what stands at p is as it was -/
def SameBut (p : Addr) (H H' : Hp) : Prop := ∀ b o, b ≠ p → H b = some o → H' b = some o
theorem SameBut.same {p : Addr} {H H1 H2 : Hp} (a : SameBut p H H1) (b : Same H1 H2) : SameBut p H H2 := fun c o n e => b c o (a c o n e)
/-- a pen: a list of three ints -/
def Pen (H : Hp) (p : Addr) : Prop := ∃ a f s : Int, H p = some (.lst [.int a, .int f, .int s])
theorem Pen.same {H H' : Hp} {p : Addr} (h : Pen H p) (e : Same H H') : Pen H' p := let ⟨a, f, s, q⟩ := h; ⟨a, f, s, e _ _ q⟩
theorem Pen.ne {H : Hp} {p l : Addr} (h : Pen H p) (e : H l = none) : p ≠ l := let ⟨_, _, _, q⟩ := h; ne_of_none q e
/-- ties, tuples of two ints each -/
def TieAt (K : PySem.W.Frag) (H : Hp) (b : V) (t : Int × Int) : Prop := ∃ a, b = .ref a ∧ H a = some (.tup [.int t.1, .int t.2])
/-- a web of many places with these ties stands at w -/
structure WebAt (K : PySem.W.Frag) (H : Hp) (w : Addr) (many : Int) (ties : List (Int × Int)) : Prop where
  at_ : ∃ t bs, H w = some (.tup [.int many, .ref t]) ∧ H t = some (.tup bs) ∧ Paired (TieAt K H) bs ties
  len : ties.length ≤ 60
  good : ∀ t ∈ ties, 0 ≤ t.1 ∧ t.1 < t.2 ∧ t.2 < many
  nd : ties.Nodup
def keepsTup (H H' : Hp) : Prop := ∀ b xs, H b = some (.tup xs) → H' b = some (.tup xs)
theorem WebAt.keep {K : PySem.W.Frag} {H H' : Hp} {w : Addr} {many : Int} {ties : List (Int × Int)} (h : WebAt K H w many ties) (e : keepsTup H H') : WebAt K H' w many ties := by
  obtain ⟨t, bs, h1, h2, h3⟩ := h.at_
  exact ⟨⟨t, bs, e _ _ h1, e _ _ h2, Paired.imp (fun a b hZ => (by obtain ⟨c, q1, q2⟩ := hZ; exact ⟨c, q1, e _ _ q2⟩)) h3⟩, h.len, h.good, h.nd⟩
theorem Same.tups {H H' : Hp} (e : Same H H') : keepsTup H H' := fun b xs h => e _ _ h
/-- a key of two ints, the lesser ahead, below many -/
def goodKey (many : Int) (k : List Key) : Prop := ∃ x y : Int, k = [Sum.inl x, Sum.inl y] ∧ 0 ≤ x ∧ x < y ∧ y < many
def keyTie : List Key → Int × Int
  | [Sum.inl x, Sum.inl y] => (x, y)
  | _ => (0, 0)
theorem keyTie_inj {many : Int} {k k' : List Key} (h : goodKey many k) (h' : goodKey many k') (e : keyTie k = keyTie k') : k = k' := by
  obtain ⟨x, y, rfl, _⟩ := h
  obtain ⟨x', y', rfl, _⟩ := h'
  have e1 : (x, y) = (x', y') := e
  cases e1
  rfl
theorem keyTie_nd {many : Int} : ∀ {ks : List (List Key)}, (∀ k ∈ ks, goodKey many k) → ks.Nodup → (ks.map keyTie).Nodup
  | [], _, _ => List.nodup_nil
  | k :: ks, h, n => by
    obtain ⟨h1, h2⟩ := List.nodup_cons.mp n
    rw [List.map_cons]
    refine List.nodup_cons.mpr ⟨fun m => ?_, keyTie_nd (fun k' hk => h k' (List.mem_cons_of_mem _ hk)) h2⟩
    obtain ⟨k', hk', e⟩ := List.mem_map.mp m
    exact h1 (keyTie_inj (h k' (List.mem_cons_of_mem _ hk')) (h k List.mem_cons_self) e ▸ hk')
end L2

/-! own rules over the hand layer: errors of one's own, raised, passed on and taken -/
namespace L2
open PySem PySem.Spec PyProof.Rows
/-- all is kept but the exception and its trace; of the frames the slots may turn -/
structure Veer (fs : List Addr) (ea T : Addr) (h h' : Heap) : Prop where
  keep : ∀ b o, h.get? b = some o → b ∉ fs → b ≠ ea → b ≠ T → h'.get? b = some o
  slot : ∀ b o, h.get? b = some o → b ∈ fs → ∃ sl, h'.get? b = some { o with slots := sl }
/-- an exception on its way: its object, its trace; nothing of it is tracked, nothing of it was there in g -/
structure FlyAt (g : Heap) (H : Hp) (ea T : Addr) (cls : Value) (h : Heap) : Prop where
  obj : ∃ (oe : Obj) (vs : Array Value) (oT : Obj) (ts : Array Value) (a0 : Value), h.get? ea = some oe ∧ (oe.cls = cls ∧ vs[0]? = some a0) ∧ oe.data = .fields vs ∧ vs[1]? = some (.ref T) ∧ T ≠ ea ∧ h.get? T = some oT ∧ oT.data = .fields ts ∧ ts[3]? = some .none
  he : H ea = none
  hT : H T = none
  ge : g.get? ea = none
  gT : g.get? T = none
section
variable {P : Program} {w : World} {fs fs' ex : List Addr} {H₀ H : Hp} {g g₀ h h' base : Heap} {ea T : Addr} {cls : Value} {l l' : List Env}
end

/-- how an exception lies behind a call -/
def CXr (P : Program) (w : World) : CXT := fun outer H s E e s' => ∃ ea T cls H', e = .ref ea ∧ s'.os = s.os ∧ AllBare s'.gens ∧ Un (frs outer) [] H H' s.heap s'.heap ∧ HOk P w H' s'.heap ∧ FlyAt s.heap H' ea T cls s'.heap ∧ E cls none H'
section
variable {P : Program} {w : World} {K : PySem.W.Frag} {mg : Str → Option Value} {base : Heap} {N : List Str} {qual : Str} {scope : Scope} {f : Addr} {cd : Value} {A : Around} {outer : List Env} {s : Shared} {H : Hp} {E E' : XK}
/-- raise C() -/
def tRaise (C : Addr) (E : XK) : TS := fun _ _ H => E (.ref C) none H
end
structure OkX (P : Program) (w : World) (K : PySem.W.Frag) (mg : Str → Option Value) (base : Heap) (x : Str) (ps : List Str) (k : Nat) (sp : Sp) : Prop where
  ex : ∃ f fd, mg x = some (.ref f) ∧ PySem.W.keepIn K (.ref f) = true ∧ Binds K fd ps [] ∧ FnOk P w K mg base (CXr P w) k f fd ps sp
section
variable {X : Cx} {e : Expr} {es : List Expr} {t : TA} {x : Str} {ps : List Str} {k : Nat} {sp : Sp} {p pos : Pos}
end
end L2

namespace L2
open PySem PySem.Spec PyProof.Rows
/-- the body of a try: what an exception leaves is asked of W -/
abbrev tryX (X : Cx) (pn : List (Addr × Obj)) (W : Value → St → Hp → Prop) : Cx :=
  { X with pn := pn, xe := fun e s' => ∃ σ' H1 s1, Inv { X with pn := pn } [] σ' H1 s1 ∧ CXr X.prog X.w X.stack H1 s1 (fun c _ H' => W c σ' H') e s' }
/-- the suite behind: an exception is being handled -/
abbrev suiteX (X : Cx) (pn : List (Addr × Obj)) (ea : Addr) : Cx := { X with pn := pn, A := X.A.mark (some (.ref ea)), calm := false, xe := fun _ _ => False }
/-- an exception of the class at C, taken -/
def excO (ea C : Addr) : HO := .ext fun h => ∃ o, h.get? ea = some o ∧ o.cls = .ref C

def tTry (K : PySem.W.Frag) (tb : (Value → St → Hp → Prop) → TS) (ts : TS) (i : Nat) (Dc : Addr) : TS := fun D σ H => ∃ W, tb W D σ H ∧ ∀ cls σ' H', W cls σ' H' → ∃ C, cls = .ref C ∧ PySem.W.subIn K (.ref C) (.ref Dc) = some true ∧
  ∀ ea, H' ea = none → ts { nx := fun σ'' H'' => D.nx (σ''.set i none) H'', rt := D.rt, bk := fun σ'' H'' => D.bk (σ''.set i none) H'', ct := fun σ'' H'' => D.ct (σ''.set i none) H'' } (σ'.set i (some (.ref ea))) (upd H' ea (excO ea C))
/-- the class that is named behind except -/
structure Hdl (K : PySem.W.Frag) (mg : Str → Option Value) (x : Str) (D : Addr) : Prop where
  at_ : mg x = some (.ref D)
  sub : PySem.W.subIn K (.ref D) (.type "BaseException") = some true
  cls : (PySem.W.clsIn K D).isSome = true
  ty : PySem.W.typeIn K (.ref D) = some (.type "type")
/-- a call within the body of a try -/
def tCallT (sp : Sp) (W : Value → St → Hp → Prop) (t : TA) : TE := fun σ H Q => t σ H fun vs H1 => sp vs H1 Q fun c _ H' => W c σ H'
/-! ### a def that is called while an exception is handled -/
structure RoomA (k : Nat) (A : Around) : Prop where
  dp : A.depth + 3 * k + 5 < recursionLimit
  un : A.units + 16 * k + 200 < cLine
  gd : A.guards = some []
abbrev cxOfA (P : Program) (w : World) (K : PySem.W.Frag) (mg : Str → Option Value) (base : Heap) (N : List Str) (qual : Str) (scope : Scope) (f : Addr) (cd : Value) (A : Around) (outer : List Env) (s : Shared) (H : Hp) (E : XK) : Cx :=
  { cxOf CX0 P w K mg base N qual scope f cd A outer s H E with calm := false, xe := fun _ _ => False }
structure OkA (P : Program) (w : World) (K : PySem.W.Frag) (mg : Str → Option Value) (base : Heap) (x : Str) (ps : List Str) (k : Nat) (sp : Sp) : Prop where
  ex : ∃ f fd, mg x = some (.ref f) ∧ PySem.W.keepIn K (.ref f) = true ∧ Binds K fd ps [] ∧ (∀ vs H Q E, sp vs H Q E → vs.length = ps.length) ∧
    ∀ (A : Around) (outer : List Env) (s : Shared) (H : Hp) (args : Args) (us : List Value) (vs : List V) (Q : VK) (E : XK), RoomA k A → Env0 P w K mg base A outer s H → BindsTo s fd args (ps.zip us) → Vals vs us → sp vs H Q E →
      codeAny (model P w) A (.call (.ref f) args) (CR CX0 outer P w H s Q E) s
end L2

namespace L2
open PySem PySem.Spec PyProof.Rows
section
variable {X : Cx}
/-! ### lists of ints compared -/
def rEqL (K : PySem.W.Frag) (neg : Bool) : R2 := fun x y H Q => ∃ (a b : Addr) (ns ms : List Int), x = .ref a ∧ y = .ref b ∧ SqL K H a (ns.map V.int) ∧ SqL K H b (ms.map V.int) ∧ Q (.bl (if neg then !decide (ns = ms) else decide (ns = ms))) H
/-! ### xs.count(y), xs.index(y) of flat items -/
def rCount : V → List V → Hp → VK → Prop := fun x vs H Q => ∃ l xs y, x = .ref l ∧ vs = [y] ∧ H l = some (.lst xs) ∧ flatV y = true ∧ xs.all flatV = true ∧ Q (.int ((xs.countP fun z => eqV z y) : Nat)) H
def rIndex : V → List V → Hp → VK → Prop := fun x vs H Q => ∃ l xs y j, x = .ref l ∧ vs = [y] ∧ H l = some (.lst xs) ∧ flatV y = true ∧ xs.all flatV = true ∧ (∃ h : j < xs.length, eqV xs[j] y = true) ∧ (∀ m (hm : m < xs.length), m < j → eqV xs[m] y = false) ∧ Q (.int (j : Nat)) H
end
end L2

/-! enumerate over a tuple -/
namespace EnT
open PySem PySem.Spec PyProof.Rows
open AutoSeq1 (wpAny_loadPart')
section
variable {prog : Program} {w : World} {A : Around} {E : Value → Shared → Prop} {s : Shared}
end
end EnT
namespace L2
open PySem PySem.Spec PyProof.Rows
/-- the tuple at a, numbered from 0: a new pair at each turn -/
def Ite (K : PySem.W.Frag) (a : Addr) : It :=
  ⟨fun i H => ∃ xs x, SqT K H a xs ∧ xs[i]? = some x, fun i H x H' => ∃ p y, x = .ref p ∧ H p = none ∧ H' = upd H p (.tup [.int (i : Nat), y]) ∧ ∀ xs, SqT K H a xs → xs[i]? = some y, fun i H => ∃ xs, SqT K H a xs ∧ xs.length ≤ i⟩
section
variable {X : Cx}
def iEnum (K : PySem.W.Frag) (ta : TA) : TI := fun σ H R => ta σ H fun vs H1 => ∃ a, vs = [.ref a] ∧ (∃ xs, SqT K H1 a xs) ∧ R (Ite K a) H1
end
end L2

/-! isinstance of an exception of one's own -/
namespace XK
open PySem PySem.W PySem.Spec PySem.Calls PyProof.Rows PySem.Builtin PySem.Builtin.ObjectAttr PySem.Builtin.Getset_descriptor
/-- what of the text an error class must have -/
structure ExcK (K : Frag) (C : Addr) : Prop where
  ga : findIn K (.ref C) "__getattribute__" = some (some (.builtin "BaseException.__getattribute__"))
  gh : findIn K (.ref C) "__getattr__" = some none
  sub : mroIn K C (.type "BaseException") = some true
  cl : findIn K (.ref C) "__class__" = some (some (.builtin "object.__class__"))
  ob : mroIn K C (.type "object") = some true
  cls : (clsIn K C).isSome = true
section
variable {prog : Program} {w : World} {A : Around} {E : Value → Shared → Prop} {h : Heap} {g : Array GenState} {d : Drawn} {t : Nat} {os : OsState} {a : Addr} {o : Obj} {C : Addr} {K : Frag}
end
end XK
namespace L2
open PySem PySem.Spec PyProof.Rows
section
variable {X : Cx} {e : Expr} {te : TE} {x : Str} {p1 p2 pos : Pos}
def rIsx (K : PySem.W.Frag) : List V → Hp → VK → Prop := fun xs H Q => ∃ ea C c u b, xs = [.ref ea, c] ∧ H ea = some (excO ea C) ∧ XK.ExcK K C ∧ RelV c u ∧ PySem.W.kitOne K (.ref C) u = some b ∧ Q (.bl b) H
end
end L2

/-! x = [.. for ..]: the comprehension's list goes straight to the name -/
namespace L2
open PySem PySem.Spec PyProof.Rows
section
variable {X : Cx}
theorem ps_compSet {elt tg iter : Expr} {ifs : List Expr} {sc : Scope} {M tgs : List Str} {pos : Pos} {wi : TI} {g : TG} {tt : TT} {te : TE} {j : Nat} {y : Str} {py spos : Pos} (hc : X.calm = true) (B : BlkOk X sc M tgs) (hi : PI X tg iter wi)
    (hg : ∀ cl C fp s H, PG (blk X sc cl C fp s H (M ++ tgs)) tg g) (ht : ∀ cl C fp s H, PIfs (blk X sc cl C fp s H (M ++ tgs)) ifs tt) (he : ∀ cl C fp s H, PE (blk X sc cl C fp s H (M ++ tgs)) elt te)
    (hN : X.N.Nodup) (hjy : X.N[j]? = some y) (hy : X.env.scope.names.lookup y = some .local) (hsw : swapsWith (.ListComp elt [⟨tg, iter, ifs, 0⟩] sc pos) (some (.Name y py)) spos.line X.env = pure true := by rfl)
    (hs : ∀ x, foldedSetIterable iter X.env x = pure x := by intro _; rfl) : PS X (.Assign [.Name y py] (.ListComp elt [⟨tg, iter, ifs, 0⟩] sc pos) spos) (tAsg (tComp wi tgs.length g tt te) (gName j)) := by
  intro pins s σ H Dn I h
  let Q : VK := fun x H1 => Dn.nx (σ.set j (some x)) H1
  have h : tComp wi tgs.length g tt te σ H Q := h
  have hfr : ∀ y ∈ sc.names, y.2 = .free → ∃ c, X.env.cells.lookup y.1 = some c := fun y hy e => I.ok.has _ (B.free y hy e)
  have hsub : ∀ x c, (clF X.env sc.names []).lookup x = some c → X.env.cells.lookup x = some c := clF_sub sc.names [] hfr fun _ _ z => by simp at z
  rw [exec_Assign_Name_used _ _ _ _ hsw]
  refine wpAny_bind (wpAny_standAt (wpAny_bind ?_))
  show wpAny _ X.A (do let _ ← comprehension (.ListComp elt [⟨tg, iter, ifs, 0⟩] sc pos) sc X.env _ (newList []) false (eval iter X.env) (some (assign (.Name y py) X.env))) _ _ s
  refine wpAny_bind (wpAny_mono (wpAny_comprehension_free (use := some (assign (.Name y py) X.env)) (Q := fun _ s' => SP X pins Dn .next s') rfl hs (closure_eq hfr) B.kind B.names (thn (hi pins s σ H _ I h) fun xv s₁ h₁ => thn h₁ fun itv s₂ h₂ => ?_)) (fun _ s' hq => wpAny_pure (wpAny_pure hq)) fun _ _ e => e)
  obtain ⟨it, fp, tn, J, H2, rfl, I2, T, st2, f2, W, ⟨m0, w0⟩, turn⟩ := h₂
  have hfl : ∀ b ∈ fp, b < s₂.heap.objs.size := fun b hb => by
    obtain ⟨o, e, _⟩ := T.obj _ _ st2 b hb
    exact Heap.lt_size e
  refine wpAny_newObj_type (wpAny_newFunctionEnv B.nocell (by intro y hy; simp at hy) (fun h₁ hns₁ hsb₁ => ?_) B.kind)
  dsimp only at hns₁ hsb₁ ⊢
  generalize hH2 : s₂.heap.push { cls := .type "list", dict := none, data := .seq ([] : List Value).toArray } = HH at hns₁ hsb₁ ⊢
  have hC : HH.objs.size = s₂.heap.objs.size + 1 := by rw [← hH2, Heap.size_push]
  generalize hCC : HH.objs.size = C at hC hns₁ hsb₁ ⊢
  generalize hDD : s₂.heap.objs.size = D at hC ⊢
  have hDC : D ≠ C := by omega
  have below : ∀ b, b < D → b ≠ C ∧ b ≠ D := fun b hb => ⟨by omega, by omega⟩
  have old : ∀ b o, s₂.heap.get? b = some o → h₁.get? b = some o := fun b o e => hsb₁.extBut b o (below b (hDD ▸ Heap.lt_size e)).1 (Heap.get?_push_of_some _ (hH2 ▸ Heap.get?_push_of_some _ e))
  have hacc : h₁.PlainList D #[] := ⟨_, hsb₁.extBut _ _ hDC (Heap.get?_push_of_some _ (by rw [← hH2, ← hDD]; exact Heap.get?_push_size _ rfl))⟩
  have hCs : s₂.heap.objs.size ≤ C := by omega
  generalize hS4 : ({ s₂ with heap := h₁, toks := s₂.toks + ([] : List (Str × Value)).length } : Shared) = s₄
  have I4 : Inv (blk X sc (clF X.env sc.names []) C fp s₂ H2 (M ++ tgs)) [] (σ ++ List.replicate tgs.length none) H2 s₄ :=
    I2.blk B f2 hfl hCs (by rw [← hS4]; exact hns₁) (by rw [← hS4]; exact old) (by rw [← hS4]) (by rw [← hS4])
  have hD4 : s₄.heap.PlainList D #[] := by rw [← hS4]; exact hacc
  have st4 : tn 0 s₄.heap := by rw [← hS4]; exact T.keep _ _ _ st2 fun b _ o e => old b o e
  -- what holds through the loop
  let X' := blk X sc (clF X.env sc.names []) C fp s₂ H2 (M ++ tgs)
  have nfs : ∀ b, s₂.heap.objs.size ≤ b → b ∉ frs X.stack := fun b hb z => by
    rcases List.mem_cons.mp (I2.stkSub b z) with q | q
    · rw [q] at hb; exact absurd I2.lt (Nat.not_lt.mpr hb)
    · exact I2.nofs hb q
  have Dpin : ∀ {s' : Shared} {H' : Hp} {its : Array Value} {n : Nat}, s'.heap.get? D = some { cls := .type "list", data := .seq its n } → H' D = none →
      ∀ p ∈ [(D, ({ cls := .type "list", data := .seq its n } : Obj))], s'.heap.get? p.1 = some p.2 ∧ H' p.1 = none ∧ p.1 ≠ X'.env.locals ∧ p.1 ∉ X'.fs ∧ ∀ v, p.2.data ≠ .cell v := fun {s' H' its n} e hn p hp => by
    have e1 : p = (D, ({ cls := .type "list", data := .seq its n } : Obj)) := by simpa using hp
    subst e1
    exact ⟨e, hn, hDC, nfs D (by omega), fun v z => by cases z⟩
  have fpk : ∀ {pl : List (Addr × Obj)} {H' : Hp}, (∀ p ∈ pl, p.1 = D) → (∀ b ∈ fp, H' b = none) → ∀ b ∈ fp, FpOk X' pl H' b := fun {pl H'} hpl hn b hb => by
    refine ⟨hn b hb, (below b (hDD ▸ hfl b hb)).1, fun z => ?_, .inl hb, fun x c e => (f2 b hb).2.2.2.2.1 x c (hsub x c e), fun p hp => ?_⟩
    · rcases List.mem_cons.mp (I2.stkSub b z) with q | q
      · exact (f2 b hb).2.1 q
      · exact (f2 b hb).2.2.1 q
    · have hp' : p ∈ pl := by simpa [X', blk] using hp
      rw [hpl p hp']
      exact Ne.symm (below b (hDD ▸ hfl b hb)).2
  have cellD : ∀ x c, X'.env.cells.lookup x = some c → c ≠ D := fun x c e z => by
    obtain ⟨v, q⟩ := I2.cell x c (hsub x c e)
    have q := q.lt
    rw [z, hDD] at q
    exact Nat.lt_irrefl _ q
  have loop : codeAny (model X.prog X.w) X.A (.compLoop (.ListComp elt [⟨tg, iter, ifs, 0⟩] sc pos) 0 (.ref it) (.ref D) (compEnvC sc (clF X.env sc.names []) C X.env))
      (compPost (model X.prog X.w) X.A X.xe (some (assign (.Name y py) X.env)) (fun _ s' => SP X pins Dn .next s') (.ref D) C) s₄ := by
    refine compLoop_gen (fun n s' => ∃ i ys its k H', Inv X' [(D, { cls := .type "list", data := .seq its k })] (σ ++ List.replicate tgs.length none) H' s' ∧ Vals ys its.toList ∧ tn i s'.heap ∧ (∀ b ∈ fp, H' b = none) ∧ W i n ys H') ?_ m0 ?_
    · rintro n s5 ⟨i, ys, its, k, H5, I5, hv, st5, fr5, w5⟩
      obtain ⟨hz, w5⟩ := turn i n ys H5 w5
      have hD5 := I5.pin (D, { cls := .type "list", data := .seq its k }) (List.mem_append_right _ (by simp))
      have one : ∀ p ∈ [(D, ({ cls := .type "list", data := .seq its k } : Obj))], p.1 = D := fun p hp => by
        have : p = (D, ({ cls := .type "list", data := .seq its k } : Obj)) := by simpa using hp
        rw [this]
      rcases w5 with ⟨stop, qn⟩ | ⟨go, step⟩
      · refine thn (T.done X' rfl rfl rfl hc i _ s5 _ H5 _ I5 (fpk one fr5) st5 stop) fun r s6 ⟨hr, I6⟩ => ?_
        subst hr
        obtain ⟨m6, hn6, _⟩ := I6.loc
        have hn6 : s6.heap.Ns C m6 := hn6
        obtain ⟨e6, n6, _⟩ := I6.pin (D, { cls := .type "list", data := .seq its k }) (List.mem_append_right _ (by simp))
        have hC6 : H5 C = none := I6.free
        have hln : ys.length ≤ sizeLine := hz
        have ok8 : HOk X.prog X.w (upd H5 D (.lst ys)) s6.heap := I6.hok.track n6 ⟨hln, its.toList, k, hv, by simpa using e6⟩
        have un : Un (frs X.stack) fp H2 H5 s₂.heap s6.heap := I6.base
        have neC : ∀ b o, s₂.heap.get? b = some o → b ≠ C ∧ b ≠ D := fun b o e => below b (hDD ▸ Heap.lt_size e)
        have un7 : Un (frs X.stack) fp H2 (upd H5 D (.lst ys)) s₂.heap s6.heap := by
          refine ⟨un.keep, un.slot, fun b o e n hx => ?_, un.there, fun b xs e => ?_, fun b o u e => ?_, fun b ps e => ?_⟩
          · rw [upd_ne (neC b o e).2]; exact un.free b o e n hx
          · have q := un.tups b xs e
            rw [upd_ne (ne_of_none q n6)]; exact q
          · have q := un.frzs b o u e
            rw [upd_ne (ne_of_none q n6)]; exact q
          · obtain ⟨more, q⟩ := un.tbls b ps e
            exact ⟨more, by rw [upd_ne (ne_of_none q n6)]; exact q⟩
        have I8 : Inv X pins σ (upd H5 D (.lst ys)) s6 := I2.call' (ch := fp) I6.os un7 ok8 I6.bare (fun b hb => ⟨(f2 b hb).2.2.2.1, (f2 b hb).2.1, (f2 b hb).2.2.2.2.1, (f2 b hb).2.2.2.2.2⟩)
        have hLC : X.env.locals < C := Nat.lt_of_lt_of_le I2.lt hCs
        have hcC : ∀ x c, X.env.cells.lookup x = some c → c ≠ C := fun x c e z => by
          obtain ⟨v, q⟩ := I2.cell x c e
          have q := q.lt
          rw [z] at q
          exact absurd q (Nat.not_lt.mpr hCs)
        show wpAny _ _ (assign (.Name y py) X.env (.ref D)) _ _ _
        refine wpAny_assign_Name (store_ok2 I8 hN hjy (.inl hy) (v := .ref D) rfl (fun s9 I9 hsb => ?_) (.inr hy))
        obtain ⟨a, sb, ha⟩ := hsb
        have haC : C ≠ a := by
          rcases ha with rfl | ha
          · exact Nat.ne_of_gt hLC
          · exact Ne.symm (hcC _ _ ha)
        refine ⟨m6, hn6.sameBut sb haC, fun h' hs' => ⟨_, upd H5 D (.lst ys), I9.turned (t' := s9.toks) (it := C) (fun b o hb e => (hs'.2 b hb).trans e) (by rw [upd_ne (Ne.symm hDC)]; exact hC6) (Nat.ne_of_gt hLC) (.inr (Nat.le_trans I2.sz hCs)) hcC (fun p hp z => ?_), qn D n6⟩⟩
        have := Heap.lt_size (I2.pin p hp).1
        rw [z] at this
        exact absurd this (Nat.not_lt.mpr hCs)
      · refine thn (T.item X' rfl rfl rfl hc i _ s5 _ H5 _ I5 (fpk one fr5) st5 go) fun r s6 ⟨u, hr, h6⟩ => ?_
        subst hr
        refine thn h6 fun _ s7 ⟨x, H7, I7, r7, y7, st7, fr7⟩ => ?_
        have I7' := I7.pinned (fpk one fr7) (T.obj _ _ st7)
        refine thn (hg _ _ _ _ _ _ s7 _ H7 x u _ I7' r7 (step x H7 y7)) fun _ s8 ⟨σ8, H8, I8, tk8, q8⟩ => ?_
        refine thn (ht _ _ _ _ _ _ s8 σ8 H8 _ I8 q8) fun b s9 ⟨H9, I9, q9⟩ => ?_
        -- the turn's end, from a state in which nothing but the list has changed
        have weak : ∀ {pl : List (Addr × Obj)} {H' : Hp} {s' : Shared}, Inv X' pl σ8 H' s' → Inv X' pl (σ ++ List.replicate tgs.length none) H' s' := fun {pl H' s'} J => J.weak (by
          have e1 : σ8.length = (M ++ tgs).length := J.len
          rw [e1, List.length_append, List.length_append, List.length_replicate, B.len, I2.len]) (st_back tk8)
        have fin : ∀ {H' : Hp} {s' : Shared}, Inv X' ([(D, { cls := .type "list", data := .seq its k })] ++ pinsAt fp s7.heap) σ8 H' s' → tn (i + 1) s'.heap ∧ ∀ b ∈ fp, H' b = none := fun {H' s'} J => by
          refine ⟨T.keep _ _ _ st7 fun b hb o e => (J.pin (b, o) (List.mem_append_right _ (List.mem_append_right _ (mem_pinsAt hb e)))).1, fun b hb => ?_⟩
          obtain ⟨o, e, d⟩ := T.obj _ _ st7 b hb
          exact (J.pin (b, o) (List.mem_append_right _ (List.mem_append_right _ (mem_pinsAt hb e)))).2.1
        cases b with
        | false =>
          rw [if_neg Bool.false_ne_true] at q9 ⊢
          obtain ⟨m', hm, w9⟩ := q9
          exact ⟨m', hm, i + 1, ys, its, k, H9, weak I9.unpinned, hv, (fin I9).1, (fin I9).2, w9⟩
        | true =>
          rw [if_pos rfl] at q9 ⊢
          refine thn (he _ _ _ _ _ _ s9 σ8 H9 _ I9 q9) fun y s10 ⟨yv, H10, I10, r10, q10⟩ => ?_
          obtain ⟨m', hm, w10⟩ := q10
          obtain ⟨e10, n10, _⟩ := I10.pin (D, { cls := .type "list", data := .seq its k }) (List.mem_append_right _ (List.mem_append_left _ (by simp)))
          have hsz : its.size ≤ sizeLine := by
            have e1 := hv.length
            have e2 : its.toList.length = its.size := by simp
            omega
          refine wpAny_list_append_plain (hsz := hsz) ⟨k, e10⟩ fun h11 hl11 hs11 => ?_
          obtain ⟨k', e11⟩ := hl11
          have J0 : Inv X' [] σ8 H10 s10 := I10.pins_of fun p hp => by simp at hp
          have J1 : Inv X' [] σ8 H10 { s10 with heap := h11 } := J0.turned (t' := s10.toks) (it := D) (fun b o hb e => (hs11.2 b hb).trans e) n10 hDC (.inr (by show s₂.heap.objs.size ≤ D; omega)) cellD (fun p hp => by
            have hp' : p ∈ ([] : List (Addr × Obj)) := by simpa [X', blk] using hp
            simp at hp')
          have J2 : Inv X' [(D, { cls := .type "list", data := .seq (its.push y) k' })] σ8 H10 { s10 with heap := h11 } := J1.pins_of (Dpin e11 n10)
          refine ⟨m', hm, i + 1, ys ++ [yv], its.push y, k', H10, weak J2, ?_, ?_, (fin I10).2, w10⟩
          · rw [Array.toList_push]
            exact hv.append (.cons r10 .nil)
          · refine T.keep _ _ _ (fin I10).1 fun b hb o e => (hs11.2 b ?_).trans e
            exact (below b (hDD ▸ hfl b hb)).2
    · obtain ⟨k, e⟩ := hD4
      exact ⟨0, [], #[], k, H2, I4.pins_of (Dpin e (I2.hok.fresh (by omega))), .nil, st4, fun b hb => (f2 b hb).1, w0⟩
  exact codeAny_compStart_list loop (T.self _ _ _ _ _ st4 loop)
/-- len of a list or tuple, by the part -/
def rLenS (K : PySem.W.Frag) : List V → Hp → VK → Prop := fun xs H Q => ∃ p ys, xs = [V.ref p] ∧ (SqL K H p ys ∨ SqT K H p ys) ∧ Q (.int ys.length) H
theorem call_lenS : CallR X (.builtin "len") (rLenS X.K) := call_len_seq
end
end L2

/-! more rules: ints sorted, a list unpacked, list(range), a tuple times an int, a wide divisor -/
namespace L2
open PySem PySem.Spec PyProof.Rows
section
variable {X : Cx}
/-- i // j, j up to some thousand bits -/
def CDivW (_ j : Int) : Prop := 0 < j ∧ j < 10 ^ 50
/-- sorted of a list of ints -/
def rSortI (K : PySem.W.Frag) : List V → Hp → (V → Hp → Prop) → Prop := fun xs H Q => ∃ (p : Addr) (ns : List Int), xs = [V.ref p] ∧ SqL K H p (ns.map V.int) ∧ ns.length < 64 ∧
  ∀ l (ms : List Int), H l = none → List.Perm ms ns → ms.Pairwise (· ≤ ·) → Q (.ref l) (upd H l (.lst (ms.map V.int)))
/-- list(range(..)) -/
def rListR : List V → Hp → (V → Hp → Prop) → Prop := fun xs H Q => ∃ (p : Addr) (lo hi : Int), xs = [V.ref p] ∧ H p = some (.rng lo hi) ∧ -(2 ^ 62) ≤ lo ∧ lo < 2 ^ 62 ∧ -(2 ^ 62) ≤ hi ∧ hi < 2 ^ 62 ∧ (hi - lo).toNat ≤ 1000 ∧
  ∀ l, H l = none → Q (.ref l) (upd H l (.lst ((List.range (hi - lo).toNat).map fun k => V.int (lo + (k : Nat)))))
/-! a list unpacked -/
def gLst (K : PySem.W.Frag) (n : Nat) (t : TGs) : TG := fun v σ H Q => ∃ a xs, v = .ref a ∧ SqL K H a xs ∧ xs.length = n ∧ t xs σ H Q
end
/-! a tuple times an int -/
def rRepT (K : PySem.W.Frag) : R2 := fun x y H Q => ∃ a k xs, x = .ref a ∧ y = .int k ∧ SqT K H a xs ∧ xs ≠ [] ∧ 1 ≤ k ∧ xs.length * k.toNat ≤ sizeLine ∧ ∀ p H', SqT K H' p (List.replicate k.toNat xs).flatten → Same H H' → Q (.ref p) H'
end L2

/-! set(t) of a tuple of inz, and how many there are -/
namespace St2
open PySem PyProof.Rows
abbrev kinds (ns : List Int) (k : Nat) : List Int := firstMet (fun j => ns.getD j 0) k
abbrev newS (led : Bool) : Obj := { cls := .type "set", dict := none, data := .set #[] 0 (.fresh 0 0 led) }
section
variable {prog : Program} {w : World} {A : Around} {E : Value → Shared → Prop} {s : Shared}
end
end St2
namespace L2
open PySem PySem.Spec PyProof.Rows
section
variable {X : Cx}
/-- set of a tuple of ints -/
def rSetT (K : PySem.W.Frag) : List V → Hp → VK → Prop := fun xs H Q => ∃ (p : Addr) (ns : List Int), xs = [V.ref p] ∧ SqT K H p (ns.map V.int) ∧ ns.length ≤ 1000 ∧
  ∀ l S, H l = none → Q (.ref l) (upd H l (.set S (St2.kinds ns ns.length).length))
/-- how many there are in a set -/
def rLenSet : List V → Hp → VK → Prop := fun xs H Q => ∃ (p : Addr) (S : Int → Bool) (n : Nat), xs = [V.ref p] ∧ H p = some (.set S n) ∧ n ≤ 1000 ∧ Q (.int (n : Nat)) H
end
end L2
namespace St2
open PySem PyProof.Rows
theorem take_map (ns : List Int) : ∀ i, i ≤ ns.length → (List.range i).map (fun j => ns.getD j 0) = ns.take i
  | 0, _ => rfl
  | i + 1, h => by
    have hi : i < ns.length := by omega
    rw [List.range_succ, List.map_append, take_map ns i (by omega), List.take_add_one, List.getElem?_eq_getElem hi]
    simp [hi]
end St2

namespace Tr2
open PySem PyProof.Rows
section
variable {prog : Program} {w : World} {A : Around} {E : Value → Shared → Prop} {s : Shared}
end
end Tr2
/-! truths compared by `is`, `is not` -/
namespace L2
open PySem PySem.Spec PyProof.Rows
section
variable {X : Cx}
/-- tuple(range(..)) -/
def rTupR : List V → Hp → VK → Prop := fun xs H Q => ∃ (p : Addr) (lo hi : Int), xs = [V.ref p] ∧ H p = some (.rng lo hi) ∧ -(2 ^ 62) ≤ lo ∧ lo < 2 ^ 62 ∧ -(2 ^ 62) ≤ hi ∧ hi < 2 ^ 62 ∧ (hi - lo).toNat ≤ 1000 ∧
  ∀ l, H l = none → Q (.ref l) (upd H l (.tup ((List.range (hi - lo).toNat).map fun k => V.int (lo + (k : Nat)))))
end
end L2

/-! more rules: a tuple held against the empty one, a still wider divisor -/
namespace L2
open PySem PySem.Spec PyProof.Rows
section
variable {X : Cx}
/-- a tuple is the empty one -/
def rEqT0 (K : PySem.W.Frag) : R2 := fun x y H Q => ∃ (a b : Addr) (xs : List V), x = .ref a ∧ y = .ref b ∧ SqT K H a xs ∧ SqT K H b [] ∧ Q (.bl xs.isEmpty) H
theorem op_eqT0 (hu : X.A.units < cLine) : OpR X (compareOp .Eq) (rEqT0 X.K) := by
  intro pins s σ H x y v u Q I rx ry h
  obtain ⟨a, b, xs, rfl, rfl, ha, hb, q⟩ := h
  cases rx
  cases ry
  obtain ⟨its, r1, p1, _⟩ := I.tuple ha
  obtain ⟨its2, r2, p2, _⟩ := I.tuple hb
  cases r2
  have l1 := r1.length
  refine SeqAt.eq_tupleAt (show s.heap.IsTuple a its.toArray from p1) (show s.heap.IsTuple b ([] : List Value).toArray from p2) hu (e := fun _ => true) (fun j h1 h2 => absurd h2 (Nat.not_lt_zero _)) ⟨.bl _, H, I, rfl, ?_⟩
  have e : xs.isEmpty = ((List.range (min its.toArray.size ([] : List Value).toArray.size)).all (fun _ => true) && its.toArray.size == ([] : List Value).toArray.size) := by
    cases xs with
    | nil => cases its with
      | nil => rfl
      | cons y r => cases l1
    | cons x r => cases its with
      | nil => cases l1
      | cons y r => simp
  rw [← e]
  exact q
/-- i // j, j still greater -/
def CDivX (_ j : Int) : Prop := 0 < j ∧ j < 10 ^ 70
end
end L2

/-! the rules in boxes, for code of constants alone (whose type Lean would else run) -/
namespace L2
open PySem PySem.Spec PyProof.Rows
structure ZE (X : Cx) (e : Expr) (t : TE) : Prop where
  p : PE X e t
structure ZA (X : Cx) (es : List Expr) (t : TA) : Prop where
  p : PA X es t
structure ZI (X : Cx) (tg iter : Expr) (wi : TI) : Prop where
  p : PI X tg iter wi
structure ZS (X : Cx) (st : Stmt) (t : TS) : Prop where
  p : PS X st t
structure ZSs (X : Cx) (st : List Stmt) (t : TS) : Prop where
  p : PSs X st t
section
variable {X : Cx}
theorem ze_tup {es : List Expr} {t : TA} {x1 : Nat} {pos : Pos} (h : ZA X es t) : ZE X (.Tuple es x1 pos) (tTup t) := ⟨pe_tup h.p⟩
theorem ze_lst {es : List Expr} {t : TA} {pos : Pos} (h : ZA X es t) : ZE X (.List es pos) (tLst t) := ⟨pe_lst h.p⟩
theorem ze_of {e : Expr} {t : TE} (h : PE X e t) : ZE X e t := ⟨h⟩
theorem zi_list {tg l : Expr} {tl : TE} (hl : ZE X l tl) : ZI X tg l (iList X.K tl) := ⟨pi_list hl.p⟩
theorem zs_for {tg iter : Expr} {body : List Stmt} {wi : TI} {g : TG} {tb : TS} {pos : Pos} (hp : PassesOwn (model X.prog X.w) X.A X.env X.xe) (hc : X.calm = true) (hi : ZI X tg iter wi) (hg : PG X tg g) (hb : PSs X body tb)
    (hs : ∀ x, foldedSetIterable iter X.env x = pure x := by intro _; rfl) : ZS X (.For tg iter body [] pos) (tFor wi g tb) := ⟨ps_for hp hc hi.p hg hb hs⟩
theorem zss_of {st : List Stmt} {t : TS} (h : PSs X st t) : ZSs X st t := ⟨h⟩
theorem zss_cons {st : Stmt} {rest : List Stmt} {t u : TS} (h1 : ZS X st t) (h2 : ZSs X rest u) : ZSs X (st :: rest) (tSeq t u) := ⟨pss_cons h1.p h2.p⟩
theorem zss_out {st : List Stmt} {R : TS → Prop} (h : ∃ t, ZSs X st t ∧ R t) : ∃ t, PSs X st t ∧ R t := h.elim fun t z => ⟨t, z.1.p, z.2⟩
end
end L2

/-! more rules: max and min of a list of ints -/
namespace L2
open PySem PySem.Spec PyProof.Rows
section
variable {X : Cx}
def rMaxL (K : PySem.W.Frag) : List V → Hp → (V → Hp → Prop) → Prop := fun xs H Q => ∃ (p : Addr) (ns : List Int), xs = [V.ref p] ∧ SqL K H p (ns.map V.int) ∧ ns ≠ [] ∧ ∀ M, M ∈ ns → (∀ a ∈ ns, a ≤ M) → Q (.int M) H
def rMinL (K : PySem.W.Frag) : List V → Hp → (V → Hp → Prop) → Prop := fun xs H Q => ∃ (p : Addr) (ns : List Int), xs = [V.ref p] ∧ SqL K H p (ns.map V.int) ∧ ns ≠ [] ∧ ∀ M, M ∈ ns → (∀ a ∈ ns, M ≤ a) → Q (.int M) H
end
end L2

/-! more rules: tuples of flat items held against one another -/
namespace L2
open PySem PySem.Spec PyProof.Rows
def eqVs (xs ys : List V) : Bool := (List.range (min xs.length ys.length)).all (fun j => eqV (xs.getD j .non) (ys.getD j .non)) && xs.length == ys.length
theorem all_get {xs : List V} (h : xs.all flatV = true) {j : Nat} (hj : j < xs.length) : flatV (xs.getD j .non) = true := by
  rw [List.getD_eq_getElem?_getD, List.getElem?_eq_getElem hj]
  exact List.all_eq_true.mp h _ (List.getElem_mem hj)
theorem vals_at {xs : List V} {us : List Value} (r : Vals xs us) {j : Nat} (h1 : j < us.toArray.size) : RelV (xs.getD j .non) us.toArray[j] := by
  have l := r.length
  have h2 : j < xs.length := by rw [l]; simpa using h1
  obtain ⟨u, e, q⟩ := r.get (i := j) (x := xs[j]) (by simp)
  have h3 : j < us.length := by simpa using h1
  rw [List.getElem?_eq_getElem h3] at e
  have : us.toArray[j] = u := by simpa using Option.some.inj e
  rw [this, List.getD_eq_getElem?_getD, List.getElem?_eq_getElem h2]
  exact q
section
variable {X : Cx}
def rEqF (K : PySem.W.Frag) : R2 := fun x y H Q => ∃ (a b : Addr) (xs ys : List V), x = .ref a ∧ y = .ref b ∧ SqT K H a xs ∧ SqT K H b ys ∧ xs.all flatV = true ∧ ys.all flatV = true ∧ Q (.bl (eqVs xs ys)) H
/-- a list is not the empty one -/
def rNeL0 (K : PySem.W.Frag) : R2 := fun x y H Q => ∃ (a b : Addr) (xs : List V), x = .ref a ∧ y = .ref b ∧ SqL K H a xs ∧ SqL K H b [] ∧ Q (.bl (!xs.isEmpty)) H
end
/-- just one list has turned, nothing else -/
structure Ltn (p : Addr) (H H' : Hp) : Prop where
  was : ∃ xs, H p = some (.lst xs)
  is : ∃ xs, H' p = some (.lst xs)
  same : ∀ b, b ≠ p → H' b = H b
theorem Ltn.seqT {K : PySem.W.Frag} {p : Addr} {H H' : Hp} (d : Ltn p H H') {a : Addr} {xs : List V} (h : SqT K H a xs) : SqT K H' a xs := by
  obtain ⟨_, q⟩ := d.was
  rcases h with (h | ⟨o, h⟩) | h
  · exact .inl (.inl (by rw [d.same a (ne_of h q (by intro z; cases z))]; exact h))
  · exact .inl (.inr ⟨o, by rw [d.same a (ne_of h q (by intro z; cases z))]; exact h⟩)
  · exact .inr h
end L2

/-! zip over two tuples -/
namespace ZpT
open PySem PySem.Spec PyProof.Rows
section
variable {prog : Program} {w : World} {A : Around} {E : Value → Shared → Prop} {s : Shared}
end
open AutoSeq1 (wpAny_loadPart')
abbrev H1 (h : Heap) (l1 : Addr) : Heap := h.push { cls := .type "tuple_iterator", data := .fields #[.ref l1, .int 0 0] }
abbrev H2 (h : Heap) (l1 l2 : Addr) : Heap := (H1 h l1).push { cls := .type "tuple_iterator", data := .fields #[.ref l2, .int 0 0] }
abbrev H3 (h : Heap) (l1 l2 : Addr) : Heap := (H2 h l1 l2).push { cls := .type "tuple", data := .seq #[.ref h.objs.size, .ref (H1 h l1).objs.size] }
abbrev H4 (h : Heap) (l1 l2 : Addr) : Heap := (H3 h l1 l2).push { cls := .type "tuple", data := .seq #[.none, .none] }
abbrev H5 (h : Heap) (l1 l2 : Addr) : Heap := (H4 h l1 l2).push { cls := .type "zip", data := .fields #[.none, .bool false, .bool false, .ref (H2 h l1 l2).objs.size, .ref (H3 h l1 l2).objs.size] }
section
variable {prog : Program} {w : World} {A : Around} {E : Value → Shared → Prop} {s : Shared}
end
end ZpT
namespace L2
open PySem PySem.Spec PyProof.Rows
/-- the tuples at a and b, item by item: a new pair at each turn (as long as both) -/
def Itz (K : PySem.W.Frag) (a b : Addr) : It :=
  ⟨fun i H => ∃ xs ys x y, SqT K H a xs ∧ SqT K H b ys ∧ xs[i]? = some x ∧ ys[i]? = some y, fun i H x H' => ∃ p y z, x = .ref p ∧ H p = none ∧ H' = upd H p (.tup [y, z]) ∧ (∀ xs, SqT K H a xs → xs[i]? = some y) ∧ ∀ ys, SqT K H b ys → ys[i]? = some z, fun i H => ∃ xs, SqT K H a xs ∧ xs.length ≤ i⟩
def ZipSt (a b z TI TO i1 i2 : Addr) (i : Nat) (h : Heap) : Prop := IsZip h z TI TO .none ∧ IsPair h TI (.ref i1) (.ref i2) ∧ (∃ x y, IsPair h TO x y) ∧ h.IsTupleIter i1 a i ∧ h.IsTupleIter i2 b i
section
variable {X : Cx}
def iZip (K : PySem.W.Frag) (ta : TA) : TI := fun σ H R => ta σ H fun vs H1 => ∃ a b, vs = [.ref a, .ref b] ∧ (∃ xs, SqT K H1 a xs) ∧ (∃ ys, SqT K H1 b ys) ∧ R (Itz K a b) H1
end
end L2

/-! more rules: sorted of a tuple of ints, set of a list of ints, l[i] op= x, enumerate in a for -/
namespace St2
open PySem PySem.Spec PyProof.Rows
section
variable {prog : Program} {w : World} {A : Around} {E : Value → Shared → Prop} {s : Shared}
end
end St2
namespace L2
open PySem PySem.Spec PyProof.Rows
section
variable {X : Cx}
def rSetLi (K : PySem.W.Frag) : List V → Hp → VK → Prop := fun xs H Q => ∃ (p : Addr) (ns : List Int), xs = [V.ref p] ∧ SqL K H p (ns.map V.int) ∧ ns.length ≤ 1000 ∧
  ∀ l S, H l = none → Q (.ref l) (upd H l (.set S (St2.kinds ns ns.length).length))
/-- sorted of a tuple of ints -/
def rSortU (K : PySem.W.Frag) : List V → Hp → (V → Hp → Prop) → Prop := fun xs H Q => ∃ (p : Addr) (ns : List Int), xs = [V.ref p] ∧ SqT K H p (ns.map V.int) ∧ ns.length < 64 ∧
  ∀ l (ms : List Int), H l = none → List.Perm ms ns → ms.Pairwise (· ≤ ·) → Q (.ref l) (upd H l (.lst (ms.map V.int)))
/-- l[i], by values, i from 0 -/
theorem get_list : PGet X (fun x y H Q => ∃ (p : Addr) (xs : List V) (i : Nat) (v : V), x = .ref p ∧ y = .int (i : Nat) ∧ SqL X.K H p xs ∧ xs[i]? = some v ∧ Q v H) := by
  intro pins s σ H o i ov iv Q I ro ri h
  obtain ⟨p, xs, j, v, rfl, rfl, hq, hx, q⟩ := h
  cases ro
  obtain ⟨t, rfl⟩ := ri
  obtain ⟨its, r, pl, hz⟩ := I.list hq
  obtain ⟨u, eu, ru⟩ := r.get hx
  have lj : j < xs.length := (List.getElem?_eq_some_iff.mp hx).1
  have ls : sizeLine = 16777216 := sizeLine_eq
  exact wpAny_getItem_list pl.isList (by omega) (by omega) (by rw [Int.toNat_natCast]; simpa using eu) ⟨v, H, I, ru, q⟩
end
end L2

/-! more rules: sum of a list of ints -/
namespace L2
open PySem PySem.Spec PyProof.Rows
section
variable {X : Cx}
def rSumL (K : PySem.W.Frag) : List V → Hp → (V → Hp → Prop) → Prop := fun xs H Q => ∃ (p : Addr) (ns : List Int), xs = [V.ref p] ∧ SqL K H p (ns.map V.int) ∧ Q (.int ns.sum) H
def rSumU (K : PySem.W.Frag) : List V → Hp → (V → Hp → Prop) → Prop := fun xs H Q => ∃ (p : Addr) (ns : List Int), xs = [V.ref p] ∧ SqT K H p (ns.map V.int) ∧ Q (.int ns.sum) H
/-- l.extend(t), t a tuple made by the code -/
def rExtendU : V → List V → Hp → VK → Prop := fun x vs H Q => ∃ l b xs zs, x = .ref l ∧ vs = [.ref b] ∧ H l = some (.lst xs) ∧ H b = some (.tup zs) ∧ xs.length + zs.length ≤ sizeLine ∧ Q .non (upd H l (.lst (xs ++ zs)))
end
end L2

/-! more rules: any of a list of truths -/
namespace L2
open PySem PySem.Spec PyProof.Rows
section
variable {X : Cx}
end
end L2

/-! more rules: tuples of tuples of ints held against one another; a dict of the module with int keys, read -/
namespace L2
open PySem PySem.Spec PyProof.Rows
/-- rows of ints, told from the heap -/
def Mat (K : PySem.W.Frag) (H : Hp) (M : List (List Int)) (xs : List V) : Prop := Paired (fun (row : List Int) (x : V) => ∃ c, x = .ref c ∧ SqT K H c (row.map V.int)) M xs
section
variable {X : Cx}
def rNeM (K : PySem.W.Frag) : R2 := fun x y H Q => ∃ (a b : Addr) (xs ys : List V) (M : List (List Int)), x = .ref a ∧ y = .ref b ∧ SqT K H a xs ∧ SqT K H b ys ∧ Mat K H M xs ∧ Mat K H M ys ∧ Q (.bl false) H
def rEqM (K : PySem.W.Frag) : R2 := fun x y H Q => ∃ (a b : Addr) (xs ys : List V) (M : List (List Int)), x = .ref a ∧ y = .ref b ∧ SqT K H a xs ∧ SqT K H b ys ∧ Mat K H M xs ∧ Mat K H M ys ∧ Q (.bl true) H
end
/-! ### a dict of the module, with int keys -/
def FzD (K : PySem.W.Frag) (a : Addr) (kvs : List (Int × V)) : Prop :=
  (a == sysModules) = false ∧ ∃ (o : Obj) (es : Array DictEntry) (ep : Nat) (vs : List (Int × Value)), K.lookup a = some o ∧ o.ExactDict ∧ o.data = .dict es ep ∧
    (∀ P w, KeysOf (intKind P w) es) ∧ (∀ P w, Pairs (intKind P w) es.toList vs) ∧ (vs.map (·.1)).Nodup ∧ KV kvs vs
section
variable {X : Cx} {o i : Expr} {pos : Pos} {td ty : TE}
def tKGet (K : PySem.W.Frag) (td ty : TE) : TE := fun σ H Q => td σ H fun x H1 => ty σ H1 fun y H2 => ∃ a kvs j v, x = .ref a ∧ y = .int j ∧ FzD K a kvs ∧ valV kvs j = some v ∧ Q v H2
def tKIn (K : PySem.W.Frag) (ty td : TE) : TE := fun σ H Q => ty σ H fun y H1 => td σ H1 fun x H2 => ∃ a kvs j, x = .ref a ∧ y = .int j ∧ FzD K a kvs ∧ Q (.bl (valV kvs j).isSome) H2
end
end L2

/-! data of which only a property is wanted; heaps that differ in one list -/
namespace L2
open PySem PySem.Spec PyProof.Rows
theorem Ltn.seqL {K : PySem.W.Frag} {p : Addr} {H H' : Hp} (d : Ltn p H H') {a : Addr} {xs : List V} (h : SqL K H a xs) : ∃ ys, SqL K H' a ys := by
  obtain ⟨_, q⟩ := d.is
  by_cases e : a = p
  · subst e
    exact ⟨_, .inl (.inl q)⟩
  · refine ⟨xs, ?_⟩
    rcases h with (h | ⟨o, h⟩) | h
    · exact .inl (.inl (by rw [d.same a e]; exact h))
    · exact .inl (.inr ⟨o, by rw [d.same a e]; exact h⟩)
    · exact .inr h
mutual
theorem Ltn.rep {K : PySem.W.Frag} {p : Addr} {H H' : Hp} (e : Ltn p H H') : ∀ {d : Dt} {v : V}, Rep K H d v → Rep K H' d v
  | .non, _, h => h
  | .bl _, _, h => h
  | .int _, _, h => h
  | .str _, _, h => h
  | .lst, _, ⟨a, xs, h1, h2⟩ => let ⟨ys, h3⟩ := e.seqL h2; ⟨a, ys, h1, h3⟩
  | .dct, _, ⟨a, h1, h2⟩ => ⟨a, h1, h2.elim (fun ⟨k, q⟩ => .inl ⟨k, by obtain ⟨_, z⟩ := e.was; rw [e.same a (ne_of q z (by intro z; cases z))]; exact q⟩) fun ⟨k, q⟩ => .inr ⟨k, by obtain ⟨_, z⟩ := e.was; rw [e.same a (ne_of q z (by intro z; cases z))]; exact q⟩⟩
  | .tup _, _, ⟨a, xs, h1, h2, h3⟩ => ⟨a, xs, h1, e.seqT h2, e.repL h3⟩
theorem Ltn.repL {K : PySem.W.Frag} {p : Addr} {H H' : Hp} (e : Ltn p H H') : ∀ {ds : List Dt} {xs : List V}, RepL K H ds xs → RepL K H' ds xs
  | [], [], _ => trivial
  | _ :: _, _ :: _, h => ⟨e.rep h.1, e.repL h.2⟩
  | [], _ :: _, h => h.elim
  | _ :: _, [], h => h.elim
end
/-! expressions that only make data with a property -/
def tR (R : Hp → V → Prop) (Pre : St → Hp → Prop) : TE := fun σ H Q => Pre σ H ∧ ∀ v H', Same H H' → R H' v → Q v H'
def tRs (R : Hp → V → Prop) (Pre : St → Hp → Prop) (n : Nat) : TA := fun σ H Q => Pre σ H ∧ ∀ vs H', Same H H' → vs.length = n → (∀ v ∈ vs, R H' v) → Q vs H'
def GrowsR (R : Hp → V → Prop) : Prop := ∀ v H H', R H v → Same H H' → R H' v
section
variable {X : Cx} {Pre : St → Hp → Prop} {R : Hp → V → Prop}
theorem rx_of {e : Expr} {t : TE} (h : PE X e t) (hp : ∀ σ H Q, Pre σ H → (∀ v H', Same H H' → R H' v → Q v H') → t σ H Q) : PE X e (tR R Pre) := fun pins s σ H Q I hw => h pins s σ H Q I (hp σ H Q hw.1 hw.2)
end


section
variable {X : Cx} {Pre : St → Hp → Prop} {R : Hp → V → Prop}
theorem zx_of {e : Expr} {t : TE} (h : ZE X e t) (hp : ∀ σ H Q, Pre σ H → (∀ v H', Same H H' → R H' v → Q v H') → t σ H Q) : ZE X e (tR R Pre) := ⟨rx_of h.p hp⟩
end
end L2

/-! more rules: l.extend(t), t any tuple -/
namespace L2
open PySem PySem.Spec PyProof.Rows
section
variable {X : Cx}
def rExtendS (K : PySem.W.Frag) : V → List V → Hp → VK → Prop := fun x vs H Q => ∃ l b xs zs, x = .ref l ∧ vs = [.ref b] ∧ H l = some (.lst xs) ∧ SqT K H b zs ∧ xs.length + zs.length ≤ sizeLine ∧ Q .non (upd H l (.lst (xs ++ zs)))
end
end L2

/-! more rules: d.update(e), both with int or text keys; dicts from places to sides -/
namespace L2
open PySem PySem.Spec PyProof.Rows
section
variable {X : Cx}
def rUpdate : V → List V → Hp → VK → Prop := fun x vs H Q => ∃ a b kvs more, x = .ref a ∧ vs = [.ref b] ∧ a ≠ b ∧ H a = some (.dK kvs) ∧ H b = some (.dK more) ∧ kvs.length + more.length ≤ sizeLine ∧ Q .non (upd H a (.dK (mergeK kvs more)))
end
/-! ### dicts from places to sides -/
def kS (S : List (Int × Int)) : List (Key × V) := S.map fun p => (.inl p.1, .int p.2)
theorem kS_app (A B : List (Int × Int)) : kS (A ++ B) = kS A ++ kS B := List.map_append ..
theorem kS_put {S : List (Int × Int)} {x s : Int} (h : x ∉ S.map (·.1)) : putK (kS S) (.inl x) (.int s) = kS (S ++ [(x, s)]) := by
  have e : ((kS S).any fun kv => decide (kv.1 = .inl x)) = false := by
    rw [List.any_eq_false]
    intro kv hk
    unfold kS at hk
    obtain ⟨p, hp, rfl⟩ := List.mem_map.mp hk
    have : ¬ ((Sum.inl p.1 : Key) = .inl x) := fun z => h (by have := Sum.inl.inj z; rw [← this]; exact List.mem_map_of_mem (f := (·.1)) hp)
    simpa using this
  unfold putK
  rw [e, kS_app]
  rfl
end L2

/-! more rules: sorted(d), d with places as keys -/
namespace St2
open PySem PySem.Spec PyProof.Rows
section
variable {prog : Program} {w : World} {A : Around} {E : Value → Shared → Prop} {s : Shared}
end
end St2
namespace L2
open PySem PySem.Spec PyProof.Rows
section
variable {X : Cx}
/-- sorted of a dict whose keys are places -/
def rSortD : List V → Hp → (V → Hp → Prop) → Prop := fun xs H Q => ∃ (p : Addr) (S : List (Int × Int)), xs = [V.ref p] ∧ H p = some (.dK (kS S)) ∧ S.length < 64 ∧
  ∀ l (ms : List Int), H l = none → List.Perm ms (S.map (·.1)) → ms.Pairwise (· ≤ ·) → Q (.ref l) (upd H l (.lst (ms.map V.int)))
end
end L2

/-! sets of ints held against one another; a tuple in a tuple of tuples -/
namespace St3
open PySem PySem.Spec PyProof.Rows PySem.SeqAt PySem.MeetsSeq PySem.MeetsSeq2 PySem.MeetsSeq3
def Ints (es : Array (Int × Value)) : Prop := ∀ e ∈ es.toList, ∃ k t, e.2 = .int k t ∧ e.1 = hashInt k
end St3
namespace L2
open PySem PySem.Spec PyProof.Rows
section
variable {X : Cx}
/-- set of a list of ints, with what is in it -/
def rSetLm (K : PySem.W.Frag) : List V → Hp → VK → Prop := fun xs H Q => ∃ (p : Addr) (ns : List Int), xs = [V.ref p] ∧ SqL K H p (ns.map V.int) ∧ ns.length ≤ 1000 ∧
  ∀ l S, H l = none → (∀ x, S x = true ↔ x ∈ ns) → Q (.ref l) (upd H l (.set S (St2.kinds ns ns.length).length))
def rEqS : R2 := fun x y H Q => ∃ (a b : Addr) (S S2 : Int → Bool) (n m : Nat), x = .ref a ∧ y = .ref b ∧ H a = some (.set S n) ∧ H b = some (.set S2 m) ∧ ∀ bb : Bool, (bb = true ↔ n = m ∧ ∀ k, S k = true → S2 k = true) → Q (.bl bb) H
/-! a flat tuple in a tuple of flat tuples -/
def Flats (K : PySem.W.Frag) (H : Hp) (rows : List (List V)) (cs : List Addr) : Prop := Paired (fun row c => SqT K H c row ∧ row.all flatV = true) rows cs
theorem flat_one {x y : V} {u : Value} (rx : RelV x u) (ry : RelV y u) (fx : flatV x = true) (fy : flatV y = true) : x = y := by
  cases x with
  | non => cases rx; cases y with
    | non => rfl
    | bl b => cases ry
    | int b => obtain ⟨t, e⟩ := ry; cases e
    | str b => obtain ⟨t, e⟩ := ry; cases e
    | _ => exact absurd (show false = true from fy) Bool.false_ne_true
  | bl a => cases rx; cases y with
    | non => cases ry
    | bl b => cases ry; rfl
    | int b => obtain ⟨t, e⟩ := ry; cases e
    | str b => obtain ⟨t, e⟩ := ry; cases e
    | _ => exact absurd (show false = true from fy) Bool.false_ne_true
  | int a => obtain ⟨t, rfl⟩ := rx; cases y with
    | non => cases ry
    | bl b => cases ry
    | int b => obtain ⟨t', e⟩ := ry; cases e; rfl
    | str b => obtain ⟨t', e⟩ := ry; cases e
    | _ => exact absurd (show false = true from fy) Bool.false_ne_true
  | str a => obtain ⟨t, rfl⟩ := rx; cases y with
    | non => cases ry
    | bl b => cases ry
    | int b => obtain ⟨t', e⟩ := ry; cases e
    | str b => obtain ⟨t', e⟩ := ry; cases e; rfl
    | _ => exact absurd (show false = true from fy) Bool.false_ne_true
  | _ => exact absurd (show false = true from fx) Bool.false_ne_true
theorem flats_one : ∀ {xs ys : List V} {us : List Value}, Vals xs us → Vals ys us → xs.all flatV = true → ys.all flatV = true → xs = ys
  | _, _, _, .nil, .nil, _, _ => rfl
  | _, _, _, .cons r t, .cons r' t', f, f' => by
    rw [List.all_cons, Bool.and_eq_true] at f f'
    rw [flat_one r r' f.1 f'.1, flats_one t t' f.2 f'.2]
theorem eqV_self {x : V} (f : flatV x = true) : eqV x x = true := by
  cases x <;> first | rfl | (exact absurd (show false = true from f) Bool.false_ne_true) | (simp [eqV])
theorem eqVs_self {xs : List V} (f : xs.all flatV = true) : eqVs xs xs = true := by
  unfold eqVs
  rw [Bool.and_eq_true]
  refine ⟨List.all_eq_true.mpr fun j hj => eqV_self (all_get f ?_), by simp⟩
  have := List.mem_range.mp hj
  omega
theorem eqAt_flat {A : Around} {pins : List (Addr × Obj)} {σ : St} {H : Hp} {s : Shared} (hu : A.units < cLine) (I : Inv X pins σ H s) {a b : Addr} {xs ys : List V} (ha : SqT X.K H a xs) (hb : SqT X.K H b ys) (fx : xs.all flatV = true) (fy : ys.all flatV = true) : SeqAt.EqAt A s (.ref a) (.ref b) (eqVs xs ys) := by
  obtain ⟨its, r1, p1, _⟩ := I.tuple ha
  obtain ⟨its2, r2, p2, _⟩ := I.tuple hb
  have l1 := r1.length
  have l2 := r2.length
  by_cases ne : a = b
  · subst ne
    have e : its = its2 := by
      obtain ⟨o, h1, h2, n, h3⟩ := (show s.heap.IsTuple a its.toArray from p1)
      obtain ⟨o', h1', h2', n', h3'⟩ := (show s.heap.IsTuple a its2.toArray from p2)
      rw [h1] at h1'
      cases h1'
      rw [h3] at h3'
      cases h3'
      rfl
    subst e
    rw [flats_one r1 r2 fx fy, eqVs_self fy]
    exact SeqAt.EqAt.same _
  have z := SeqAt.EqAt.of_refs ne (SeqAt.RcAt.tuples (A := A) (s := s) (show s.heap.IsTuple a its.toArray from p1) (show s.heap.IsTuple b its2.toArray from p2) hu (e := fun j => eqV (xs.getD j .non) (ys.getD j .non))
    (fun j h1 h2 => eqAt_V (vals_at r1 h1) (vals_at r2 h2) (all_get fx (by rw [l1]; simpa using h1)) (all_get fy (by rw [l2]; simpa using h2))))
  have e : eqVs xs ys = ((List.range (min its.toArray.size its2.toArray.size)).all (fun j => eqV (xs.getD j .non) (ys.getD j .non)) && its.toArray.size == its2.toArray.size) := by
    unfold eqVs
    rw [l1, l2, List.size_toArray, List.size_toArray]
  rw [e]
  exact z
def rowOf (rows : List (List V)) (cs : List Addr) (xs : List V) (u : Value) : Bool := match u with
  | .ref c => match (cs.zip rows).lookup c with
    | some row => eqVs row xs
    | none => false
  | _ => false
def rInF (K : PySem.W.Frag) : R2 := fun x y H Q => ∃ (a b : Addr) (xs : List V) (rows : List (List V)) (cs : List Addr), x = .ref a ∧ y = .ref b ∧ SqT K H a xs ∧ xs.all flatV = true ∧ SqT K H b (cs.map V.ref) ∧ Flats K H rows cs ∧ cs.Nodup ∧ Q (.bl (rows.any fun row => eqVs row xs)) H
theorem any_same {α : Type} {f g : α → Bool} : ∀ {l : List α}, (∀ x ∈ l, f x = g x) → l.any f = l.any g
  | [], _ => rfl
  | a :: l, h => by rw [List.any_cons, List.any_cons, h a List.mem_cons_self, any_same fun x hx => h x (List.mem_cons_of_mem _ hx)]
theorem any_rowOf {xs : List V} : ∀ {rows : List (List V)} {cs : List Addr}, rows.length = cs.length → cs.Nodup → (cs.map Value.ref).any (rowOf rows cs xs) = rows.any fun row => eqVs row xs
  | [], [], _, _ => rfl
  | row :: rows, c :: cs, l, nd => by
    have nd' := List.nodup_cons.mp nd
    rw [List.map_cons, List.any_cons, List.any_cons]
    have h1 : rowOf (row :: rows) (c :: cs) xs (.ref c) = eqVs row xs := by
      show (match ((c, row) :: cs.zip rows).lookup c with | some row => eqVs row xs | none => false) = _
      rw [List.lookup_cons_self]
    have h2 : (cs.map Value.ref).any (rowOf (row :: rows) (c :: cs) xs) = (cs.map Value.ref).any (rowOf rows cs xs) := any_same fun u hu => by
      obtain ⟨c', hc', rfl⟩ := List.mem_map.mp hu
      have ne : (c' == c) = false := by
        rw [beq_eq_false_iff_ne]
        exact fun e => nd'.1 (by rw [← e]; exact hc')
      show (match ((c, row) :: cs.zip rows).lookup c' with | some row => eqVs row xs | none => false) = (match (cs.zip rows).lookup c' with | some row => eqVs row xs | none => false)
      rw [List.lookup_cons, ne]
    rw [h1, h2, any_rowOf (by simpa using l) nd'.2]
  | [], _ :: _, l, _ => by cases l
  | _ :: _, [], l, _ => by cases l
theorem flats_at {K : PySem.W.Frag} {H : Hp} : ∀ {rows : List (List V)} {cs : List Addr}, Flats K H rows cs → ∀ c ∈ cs, ∃ row, (cs.zip rows).lookup c = some row ∧ SqT K H c row ∧ row.all flatV = true
  | _, _, .nil, c, h => by cases h
  | row :: rows, c0 :: cs, .cons r t, c, h => by
    by_cases e : c = c0
    · subst e
      exact ⟨row, by show ((c, row) :: cs.zip rows).lookup c = _; rw [List.lookup_cons_self], r⟩
    · have h' : c ∈ cs := by
        rcases List.mem_cons.mp h with h | h
        · exact absurd h e
        · exact h
      obtain ⟨row', e1, e2⟩ := flats_at t c h'
      refine ⟨row', ?_, e2⟩
      show ((c0, row) :: cs.zip rows).lookup c = _
      rw [List.lookup_cons, show (c == c0) = false from beq_eq_false_iff_ne.mpr e]
      exact e1
theorem vals_reft : ∀ {cs : List Addr} {us : List Value}, Vals (cs.map V.ref) us → us = cs.map Value.ref
  | [], _, h => by cases h; rfl
  | c :: cs, _, h => by
    cases h with
    | cons r t =>
      cases r
      rw [vals_reft t]
      rfl
theorem op_inF (hu : X.A.in1.units < cLine) : OpR X (compareOp .In) (rInF X.K) := by
  intro pins s σ H x y v u Q I rx ry h
  obtain ⟨a, b, xs, rows, cs, rfl, rfl, ha, fx, hb, fl, nd, q⟩ := h
  cases rx
  cases ry
  obtain ⟨its, r, pl, _⟩ := I.tuple hb
  have e := vals_reft r
  subst e
  refine SeqAt.in_tupleAt (rowOf rows cs xs) pl (fun w hw => ?_) ⟨.bl _, H, I, rfl, ?_⟩
  · obtain ⟨c, hc, rfl⟩ := List.mem_map.mp (by simpa using hw)
    obtain ⟨row, e1, e2, e3⟩ := flats_at fl c hc
    have : rowOf rows cs xs (.ref c) = eqVs row xs := by
      show (match (cs.zip rows).lookup c with | some row => eqVs row xs | none => false) = _
      rw [e1]
    rw [this]
    exact eqAt_flat hu I e2 ha e3 fx
  · rw [show ((cs.map Value.ref).toArray.any (rowOf rows cs xs)) = (cs.map Value.ref).any (rowOf rows cs xs) by simp, any_rowOf (Paired.length fl) nd]
    exact q
end
end L2

/-! min of three ints -/
namespace L2
open PySem PySem.Spec PyProof.Rows
section
variable {X : Cx}
end
end L2

/-! a function held in a name of the def's own; tuples of flat items unlike -/
namespace L2
open PySem PySem.Spec PyProof.Rows
section
variable {X : Cx}
def rNeF (K : PySem.W.Frag) : R2 := fun x y H Q => rNe x y H Q ∨ ∃ (a b : Addr) (xs : List V), x = .ref a ∧ y = .ref b ∧ SqT K H a xs ∧ SqT K H b xs ∧ xs.all flatV = true ∧ Q (.bl false) H
def tCallV (i : Nat) (f : Addr) (tc : TE) : TE := fun σ H Q => σ[i]? = some (some (.ref f)) ∧ tc σ H Q
end
end L2

/-! dicts from places to sides: min(d), sum(d.values()), list(d), list(d.values()); sum(range(a, b)) -/
namespace St4
open PySem PySem.Spec PyProof.Rows PySem.W
section
variable {prog : Program} {w : World} {A : Around} {E : Value → Shared → Prop} {s : Shared} {T : String} {r d : Addr} {n : Nat} {P : Nat → Value → Prop} {OK : Heap → Prop}
end
end St4
namespace L2
open PySem PySem.Spec PyProof.Rows PySem.W
section
variable {X : Cx}
/-- what d.values() tells -/
def viewV (v d : Addr) : HO := .ext fun h => h.IsValuesView v d
def rValues : V → List V → Hp → VK → Prop := fun x vs H Q => ∃ (d : Addr) (kvs : List (Key × V)), x = .ref d ∧ vs = [] ∧ H d = some (.dK kvs) ∧ ∀ v, H v = none → Q (.ref v) (upd H v (viewV v d))
def rSumV : List V → Hp → VK → Prop := fun xs H Q => ∃ (v d : Addr) (S : List (Int × Int)), xs = [V.ref v] ∧ H v = some (viewV v d) ∧ H d = some (.dK (kS S)) ∧ Q (.int (S.map (·.2)).sum) H
def rMinD : List V → Hp → VK → Prop := fun xs H Q => ∃ (d : Addr) (S : List (Int × Int)), xs = [V.ref d] ∧ H d = some (.dK (kS S)) ∧ S ≠ [] ∧ ∀ M, M ∈ S.map (·.1) → (∀ a ∈ S.map (·.1), M ≤ a) → Q (.int M) H
def rListD : List V → Hp → VK → Prop := fun xs H Q => ∃ (d : Addr) (S : List (Int × Int)), xs = [V.ref d] ∧ H d = some (.dK (kS S)) ∧ ∀ l, H l = none → Q (.ref l) (upd H l (.lst ((S.map (·.1)).map V.int)))
def rListV : List V → Hp → VK → Prop := fun xs H Q => ∃ (v d : Addr) (S : List (Int × Int)), xs = [V.ref v] ∧ H v = some (viewV v d) ∧ H d = some (.dK (kS S)) ∧ ∀ l, H l = none → Q (.ref l) (upd H l (.lst ((S.map (·.2)).map V.int)))
end
end L2

/-! sum(range(a, b)) -/
namespace L2
open PySem PySem.Spec PyProof.Rows PySem.W
theorem pre_from (lo : Int) : ∀ k, preSum (fun i => lo + (i : Nat) * 1) k = ((List.range k).map fun i => lo + ((i : Nat) : Int)).sum
  | 0 => rfl
  | k + 1 => by
    show preSum (fun i => lo + (i : Nat) * 1) k + (lo + (k : Nat) * 1) = _
    rw [pre_from lo k, List.range_succ, List.map_append, List.sum_append, Int.mul_one]
    simp
section
variable {X : Cx}
def rSumR : List V → Hp → VK → Prop := fun xs H Q => ∃ (p : Addr) (lo hi : Int), xs = [V.ref p] ∧ H p = some (.rng lo hi) ∧ -(2 ^ 62) ≤ lo ∧ lo < 2 ^ 62 ∧ -(2 ^ 62) ≤ hi ∧ hi < 2 ^ 62 ∧ Q (.int ((List.range (hi - lo).toNat).map fun k => lo + ((k : Nat) : Int)).sum) H
theorem call_sumR (hc : X.calm = true) : CallR X (.builtin "sum") rSumR := by
  intro pins s σ H xs us Q I r h
  obtain ⟨p, lo, hi, rfl, hp, h1, h2, h3, h4, q⟩ := h
  obtain ⟨u, rfl, ru⟩ := vals1 r
  cases ru
  obtain ⟨t, u, v, e⟩ := (show ObjOk X.prog X.w H s.heap p (.rng lo hi) from I.hok p _ hp)
  have hsz : Builtin.Range.rangeSize lo hi 1 = ((hi - lo).toNat : Nat) := by rw [rangeSize_one]; split <;> omega
  refine call_sum_walkG (wpAny_pyIter_range (show IsRange s.heap p lo hi 1 t u v from e) (small_one h1 h2 h3 h4) ?_)
  refine ⟨s.heap.objs.size, _, _, _, _, _, fun i => lo + (i : Nat) * 1, rfl, Walks.range (A := X.A.in1) (I.ok.hd hc) _ lo 1 (hi - lo).toNat, ?_, fun b hb => ?_, fun i v hv => hv, fun h' tk t' k => ?_⟩
  · rw [hsz]
    show IsRangeIter _ _ _ _ _
    have : IsRangeIter (s.heap.push { cls := .type "range_iterator", data := .fields #[rawInt lo, rawInt ((hi - lo).toNat : Nat), rawInt 1] }) s.heap.objs.size lo ((hi - lo).toNat : Nat) 1 := Heap.get?_push_size _ rfl
    simpa using this
  · show b < (s.heap.push _).objs.size
    rw [Heap.size_push, List.mem_singleton.mp hb]
    exact Nat.lt_succ_self _
  · rw [pre_from]
    refine ⟨.int _, H, I.kept (fun b o z => k b o (fun hm => ?_) (Heap.get?_push_of_some _ z)), ⟨t', rfl⟩, q⟩
    have := Heap.lt_size z
    rw [List.mem_singleton.mp hm] at this
    exact Nat.lt_irrefl _ this
end
end L2

/-! comprehensions whose targets are cells (a comprehension within takes them along) -/
namespace L2
open PySem PySem.Spec PyProof.Rows
/-- the block of such a comprehension as a context -/
def blkC (X : Cx) (sc : Scope) (cl : List (Str × Addr)) (C : Addr) (fp : List Addr) (s : Shared) (H : Hp) (N : List Str) : Cx :=
  { X with env := compEnvC sc cl C X.env, N := N, s₀ := s, H₀ := H, outer := X.stack, ex := fp, fn := fun x => sc.names.lookup x == some NameKind.cell, pn := [], xe := fun _ _ => False }
structure BlkOkC (X : Cx) (sc : Scope) (M tgs : List Str) : Prop where
  kind : sc.kind = .function
  names : ∀ y ∈ sc.names, y.2 = .local → sc.names.lookup y.1 = some .local
  celln : ∀ y ∈ sc.names, y.2 = .cell → sc.names.lookup y.1 = some .cell
  freen : ∀ y ∈ sc.names, y.2 = .free → sc.names.lookup y.1 = some .free
  free : ∀ y ∈ sc.names, y.2 = .free → X.env.kindOf y.1 = some .cell ∨ X.env.kindOf y.1 = some .free
  len : M.length = X.N.length
  same : ∀ p ∈ M.zip X.N, p.1 = p.2 ∨ p.1 = ("" : Str)
  dummy : sc.names.lookup ("" : Str) = none
  hid : ∀ x ∈ M, sc.names.lookup x ≠ some .local
  hidc : ∀ x ∈ M, sc.names.lookup x ≠ some .cell
structure BlkDC (osc : Scope) (N : List Str) (sc : Scope) (M tgs : List Str) : Prop where
  kind : sc.kind = .function
  names : ∀ y ∈ sc.names, y.2 = .local → sc.names.lookup y.1 = some .local
  celln : ∀ y ∈ sc.names, y.2 = .cell → sc.names.lookup y.1 = some .cell
  freen : ∀ y ∈ sc.names, y.2 = .free → sc.names.lookup y.1 = some .free
  free : ∀ y ∈ sc.names, y.2 = .free → osc.names.lookup y.1 = some .cell ∨ osc.names.lookup y.1 = some .free
  len : M.length = N.length
  same : ∀ p ∈ M.zip N, p.1 = p.2 ∨ p.1 = ("" : Str)
  dummy : sc.names.lookup ("" : Str) = none
  hid : ∀ x ∈ M, sc.names.lookup x ≠ some .local
  hidc : ∀ x ∈ M, sc.names.lookup x ≠ some .cell
  nd : (M ++ tgs).Nodup
section
variable {X : Cx}
/-- all cells of the block: its own ahead -/
def csF (X : Cx) (sc : Scope) (C : Addr) : List (Str × Addr) := cellsFrom (C + 1) sc.names [] ++ clF X.env sc.names []
end
end L2

/-! t.index(x) of a tuple -/
namespace L2
open PySem PySem.Spec PyProof.Rows
section
variable {X : Cx}
def rIndexT (K : PySem.W.Frag) : V → List V → Hp → VK → Prop := fun x vs H Q => ∃ l xs y j, x = .ref l ∧ vs = [y] ∧ SqT K H l xs ∧ flatV y = true ∧ xs.all flatV = true ∧ (∃ h : j < xs.length, eqV xs[j] y = true) ∧ (∀ m (hm : m < xs.length), m < j → eqV xs[m] y = false) ∧ Q (.int (j : Nat)) H
end
end L2

/-! a tuple that is known to its object: tuple(l) made so, and its methods called -/
namespace L2
open PySem PySem.Spec PyProof.Rows
section
variable {X : Cx}
def TupF (H : Hp) (p : Addr) (xs : List V) : Prop := ∃ o : Obj, H p = some (.frz o (.tup xs)) ∧ o.cls = .type "tuple" ∧ o.dict = none
def rTupF (K : PySem.W.Frag) : List V → Hp → VK → Prop := fun xs H Q => ∃ p ys, xs = [V.ref p] ∧ SqL K H p ys ∧ ∀ l H', H l = none → Same H H' → TupF H' l ys → Q (.ref l) H'
def tBMF (r : V → List V → Hp → VK → Prop) (to : TE) (t : TA) : TE := fun σ H Q => to σ H fun x H1 => (∃ p xs, x = .ref p ∧ TupF H1 p xs) ∧ t σ H1 fun xs H2 => r x xs H2 Q
variable {o e : Expr} {es : List Expr} {to : TE} {t : TA} {name : Str} {apos cpos : Pos} {id : String} {r : V → List V → Hp → VK → Prop}
end
end L2

/-! data that is only known to be data, put together: slices, sums, tuples, lists (in boxes; every transformer is tR of a property) -/
namespace L2
open PySem PySem.Spec PyProof.Rows
def IntR (_ : Hp) (v : V) : Prop := ∃ i, v = .int i
/-- a tuple of known things, at most n -/
def KTu (K : PySem.W.Frag) (n : Nat) (H : Hp) (v : V) : Prop := ∃ p xs, v = .ref p ∧ SqT K H p xs ∧ xs.length ≤ n ∧ ∀ x ∈ xs, Known K H x
/-- a list that stands in the heap, its things known, n of them -/
def KLi (K : PySem.W.Frag) (n : Nat) (H : Hp) (v : V) : Prop := ∃ p xs, v = .ref p ∧ H p = some (.lst xs) ∧ xs.length = n ∧ ∀ x ∈ xs, Known K H x
section
variable {X : Cx} {Pre : St → Hp → Prop} {R R' : Hp → V → Prop}
theorem zk_w {e : Expr} (h : ZE X e (tR R Pre)) (w : ∀ H v, R H v → R' H v) : ZE X e (tR R' Pre) := ⟨fun pins s σ H Q I hw => h.p pins s σ H Q I ⟨hw.1, fun v H' s' r => hw.2 v H' s' (w _ _ r)⟩⟩
theorem zk_var (i : Nat) {x : Str} {pos : Pos} (hp : ∀ σ H, Pre σ H → ∃ v, σ[i]? = some (some v) ∧ R H v) (hN : X.N[i]? = some x := by rfl) (hv : Vis X.env.scope x := by first | exact Or.inl rfl | exact Or.inr (Or.inl rfl) | exact Or.inr (Or.inr rfl)) (hd : (x == ("__debug__" : Str)) = false := by decide)
    (hcd : (x == ("__classdict__" : Str)) = false := by decide) : ZE X (.Name x pos) (tR R Pre) := zx_of (ze_of (pe_var hN hv hd hcd)) fun σ H Q p q => let ⟨v, e, k⟩ := hp σ H p; ⟨v, e, q v H (Same.refl _) k⟩
/-- a part of a slice -/
def ZP (X : Cx) (o : Option Expr) (Pre : St → Hp → Prop) : Prop := ∀ e, o = some e → ZE X e (tR IntR Pre)
def tPt (Pre : St → Hp → Prop) : TO := fun σ H Q => Pre σ H ∧ ∀ o H', Same H H' → Q o H'
end
end L2

/-! data told wholly (PyData), and its repr -/
namespace L2
open PySem PySem.Spec PyProof.Rows
mutual
def RepP (K : PySem.W.Frag) (H : Hp) : PyData → V → Prop
  | .none, v => v = .non
  | .bool b, v => v = .bl b
  | .int i, v => v = .int i
  | .str x, v => v = .str x
  | .list ds, v => ∃ p xs, v = .ref p ∧ SqL K H p xs ∧ RepPL K H ds xs
  | .tuple ds, v => ∃ p xs, v = .ref p ∧ SqT K H p xs ∧ RepPL K H ds xs
  | .dict kvs, v => kvs = [] ∧ ∃ p, v = .ref p ∧ (H p = some (.dK []) ∨ H p = some (.dT []))
def RepPL (K : PySem.W.Frag) (H : Hp) : List PyData → List V → Prop
  | [], [] => True
  | d :: ds, x :: xs => RepP K H d x ∧ RepPL K H ds xs
  | _, _ => False
end
mutual
theorem Same.repP {K : PySem.W.Frag} {H H' : Hp} (e : Same H H') : ∀ {d : PyData} {v : V}, RepP K H d v → RepP K H' d v
  | .none, _, h => h
  | .bool _, _, h => h
  | .int _, _, h => h
  | .str _, _, h => h
  | .list _, _, ⟨p, xs, h1, h2, h3⟩ => ⟨p, xs, h1, e.seq h2, e.repPL h3⟩
  | .tuple _, _, ⟨p, xs, h1, h2, h3⟩ => ⟨p, xs, h1, e.tup h2, e.repPL h3⟩
  | .dict _, _, ⟨h0, p, h1, h2⟩ => ⟨h0, p, h1, h2.elim (fun z => .inl (e _ _ z)) fun z => .inr (e _ _ z)⟩
theorem Same.repPL {K : PySem.W.Frag} {H H' : Hp} (e : Same H H') : ∀ {ds : List PyData} {xs : List V}, RepPL K H ds xs → RepPL K H' ds xs
  | [], [], _ => trivial
  | _ :: _, _ :: _, h => ⟨e.repP h.1, e.repPL h.2⟩
  | [], _ :: _, h => h.elim
  | _ :: _, [], h => h.elim
end
theorem RepPL.len {K : PySem.W.Frag} {H : Hp} : ∀ {ds : List PyData} {xs : List V}, RepPL K H ds xs → ds.length = xs.length
  | [], [], _ => rfl
  | _ :: _, _ :: _, h => by rw [List.length_cons, List.length_cons, RepPL.len h.2]
  | [], _ :: _, h => h.elim
  | _ :: _, [], h => h.elim
theorem RepPL.get {K : PySem.W.Frag} {H : Hp} : ∀ {ds : List PyData} {xs : List V} {i : Nat} {x : V}, RepPL K H ds xs → xs[i]? = some x → ∃ d, ds[i]? = some d ∧ RepP K H d x
  | d :: _, _ :: _, 0, x, h, e => ⟨d, rfl, by have : _ = x := Option.some.inj e; rw [← this]; exact h.1⟩
  | _ :: _, _ :: _, i + 1, x, h, e => RepPL.get (i := i) h.2 (by simpa using e)
  | [], [], _, _, _, e => by simp at e
  | [], _ :: _, _, _, h, _ => h.elim
  | _ :: _, [], _, _, h, _ => h.elim
/-- told by its kind alone -/
def PyDt : PyData → Dt
  | .none => .non | .bool b => .bl b | .int i => .int i | .str x => .str x | .list _ => .lst | .dict _ => .dct | .tuple ds => .tup (ds.map PyDt)
mutual
theorem RepP.rep {K : PySem.W.Frag} {H : Hp} : ∀ {d : PyData} {v : V}, RepP K H d v → Rep K H (PyDt d) v
  | .none, _, h => by unfold PyDt; exact h
  | .bool _, _, h => by unfold PyDt; exact h
  | .int _, _, h => by unfold PyDt; exact h
  | .str _, _, h => by unfold PyDt; exact h
  | .list _, _, ⟨p, xs, h1, h2, _⟩ => by unfold PyDt; exact ⟨p, xs, h1, h2⟩
  | .tuple _, _, ⟨p, xs, h1, h2, h3⟩ => by unfold PyDt; exact ⟨p, xs, h1, h2, RepPL.rep h3⟩
  | .dict _, _, ⟨_, p, h1, h2⟩ => by unfold PyDt; exact ⟨p, h1, h2.elim (fun z => .inl ⟨_, z⟩) fun z => .inr ⟨_, z⟩⟩
theorem RepPL.rep {K : PySem.W.Frag} {H : Hp} : ∀ {ds : List PyData} {xs : List V}, RepPL K H ds xs → RepL K H (ds.map PyDt) xs
  | [], [], _ => trivial
  | _ :: _, _ :: _, h => ⟨RepP.rep h.1, RepPL.rep h.2⟩
  | [], _ :: _, h => h.elim
  | _ :: _, [], h => h.elim
end
section
variable {X : Cx} {pins : List (Addr × Obj)} {σ : St} {H : Hp} {s : Shared}
mutual
theorem reads_of (I : Inv X pins σ H s) : ∀ {d : PyData} {v : V} {u : Value}, RepP X.K H d v → RelV v u → ∃ as, Reads s.heap u d as ∧ ((d = .dict [] ∨ d.hasDict = false) → d.hasDict = true → sysModules ∉ as)
  | .none, _, _, h, r => by cases h; cases r; exact ⟨[], .none, fun _ z => by simp [PyData.hasDict] at z⟩
  | .bool b, _, _, h, r => by cases h; cases r; exact ⟨[], .bool b, fun _ z => by simp [PyData.hasDict] at z⟩
  | .int i, _, _, h, r => by cases h; obtain ⟨t, rfl⟩ := r; exact ⟨[], .int i t, fun _ z => by simp [PyData.hasDict] at z⟩
  | .str x, _, _, h, r => by cases h; obtain ⟨t, rfl⟩ := r; exact ⟨[], .str x t, fun _ z => by simp [PyData.hasDict] at z⟩
  | .list ds, _, _, ⟨p, xs, h1, h2, h3⟩, r => by
    subst h1
    cases r
    obtain ⟨its, rv, pl, _⟩ := I.list h2
    obtain ⟨o, e1, e2, n, e3⟩ := pl.isList
    obtain ⟨as, ra⟩ := readsAll_of I h3 rv
    refine ⟨p :: as, .list e1 e2 e3 (by simpa using ra), fun z1 z2 => ?_⟩
    rcases z1 with z1 | z1
    · cases z1
    · rw [z2] at z1; cases z1
  | .tuple ds, _, _, ⟨p, xs, h1, h2, h3⟩, r => by
    subst h1
    cases r
    obtain ⟨its, rv, pl, _⟩ := I.tuple h2
    obtain ⟨o, e1, e2, n, e3⟩ := pl
    obtain ⟨as, ra⟩ := readsAll_of I h3 rv
    refine ⟨as, .tuple e1 e2 e3 (by simpa using ra), fun z1 z2 => ?_⟩
    rcases z1 with z1 | z1
    · cases z1
    · rw [z2] at z1; cases z1
  | .dict kvs, _, _, ⟨h0, p, h1, h2⟩, r => by
    subst h1 h0
    cases r
    have z : ∃ o es ep, s.heap.get? p = some o ∧ o.cls = .type "dict" ∧ o.data = .dict es ep ∧ es.toList = [] ∧ (p == sysModules) = false := by
      rcases h2 with h2 | h2
      · obtain ⟨_, ne, vs, kv, o, es, ep, e, ex, hd, _, pr, _⟩ := I.hok p _ h2
        cases kv
        refine ⟨o, es, ep, e, ex.1, hd, ?_, ne⟩
        cases hes : es.toList with
        | nil => rfl
        | cons a l => rw [hes] at pr; cases pr
      · obtain ⟨_, ne, xs, pr, o, es, ep, e, ex, hd, hl, _⟩ := I.hok p _ h2
        cases pr
        exact ⟨o, es, ep, e, ex.1, hd, hl, ne⟩
    obtain ⟨o, es, ep, e1, e2, e3, e4, ne⟩ := z
    refine ⟨_, .dict (as := []) (bs := []) e1 e2 e3 (by rw [e4]; exact .nil) (by rw [e4]; exact .nil), fun _ _ hm => ?_⟩
    have : sysModules = p := by simpa using hm
    rw [this] at ne
    simp at ne
theorem readsAll_of (I : Inv X pins σ H s) : ∀ {ds : List PyData} {xs : List V} {us : List Value}, RepPL X.K H ds xs → Vals xs us → ∃ as, ReadsAll s.heap us ds as
  | [], [], _, _, r => by cases r; exact ⟨[], .nil⟩
  | _ :: _, _ :: _, _, h, r => by
    cases r with
    | cons r t =>
      obtain ⟨a1, r1, _⟩ := reads_of I h.1 r
      obtain ⟨a2, r2⟩ := readsAll_of I h.2 t
      exact ⟨a1 ++ a2, .cons r1 r2⟩
  | [], _ :: _, _, h, _ => h.elim
  | _ :: _, [], _, h, _ => h.elim
end
end
section
variable {X : Cx}
def Showy (d : PyData) : Prop := d.showable = true ∧ (d = .dict [] ∨ d.hasDict = false) ∧ d.shown.length ≤ sizeLine ∧ d.depth ≤ 50
def rRepr (K : PySem.W.Frag) : List V → Hp → VK → Prop := fun xs H Q => ∃ v d, xs = [v] ∧ RepP K H d v ∧ Showy d ∧ Q (.str d.shown) H
theorem call_repr (hg : X.A.guards = some []) (hu : X.A.units + 64 < cLine) : CallR X (.builtin "repr") (rRepr X.K) := by
  intro pins s σ H xs us Q I r h
  obtain ⟨v, d, rfl, hd, ⟨hs, hk, hz, hdp⟩, q⟩ := h
  obtain ⟨u, rfl, ru⟩ := vals1 r
  obtain ⟨as, rd, nm⟩ := reads_of I hd ru
  cases rd with
  | none => exact P.repr_of_none ⟨.str _, H, I.tok _, ⟨_, rfl⟩, q⟩
  | bool b => exact P.repr_of_bool ⟨.str _, H, I.tok _, ⟨_, rfl⟩, q⟩
  | int i t => exact P.repr_of_int (by simpa [PyData.showable] using hs) ⟨.str _, H, I.tok _, ⟨_, rfl⟩, q⟩
  | str x t => exact P.repr_of_str ⟨.str _, H, I.tok _, ⟨_, rfl⟩, q⟩ hz
  | list h1 h2 h3 h4 => exact repr_of_reads' (.list h1 h2 h3 h4) hs (nm hk) hg (by omega) (fun _ _ e => e) (fun h' u tk kp => ⟨.str _, H, I.kept (t' := tk) kp, ⟨_, rfl⟩, q⟩) hz
  | tuple h1 h2 h3 h4 => exact repr_of_reads' (.tuple h1 h2 h3 h4) hs (nm hk) hg (by omega) (fun _ _ e => e) (fun h' u tk kp => ⟨.str _, H, I.kept (t' := tk) kp, ⟨_, rfl⟩, q⟩) hz
  | dict h1 h2 h3 h4 h5 => exact repr_of_reads' (.dict h1 h2 h3 h4 h5) hs (nm hk) hg (by omega) (fun _ _ e => e) (fun h' u tk kp => ⟨.str _, H, I.kept (t' := tk) kp, ⟨_, rfl⟩, q⟩) hz
end
end L2

/-! a op b op c op d, as a test -/
namespace L2
open PySem PySem.Spec PyProof.Rows
section
variable {X : Cx} {a b c d : Expr} {ta tb tc td : TE} {pos : Pos}
def tChain3 (r r' r'' : R2) (ta tb tc td : TE) : TE := fun σ H Q => ta σ H fun x H1 => tb σ H1 fun y H2 => r x y H2 fun z H3 => ∃ k, z = .bl k ∧
  (if k = true then tc σ H3 fun u H4 => r' y u H4 fun z' H5 => ∃ k', z' = .bl k' ∧ (if k' = true then td σ H5 fun w' H6 => r'' u w' H6 Q else Q (.bl false) H5) else Q (.bl false) H3)
end
end L2

/-! data == (word,) for data of any kind; a pair not in a list of pairs -/
namespace L2
open PySem PySem.Spec PyProof.Rows
section
open PySem.SeqAt PySem.MeetsSeq
open AutoSeq1 (wpAny_loadPart')
variable {A : Around} {s : Shared}
end
def eqE (x : Str) : PyData → Bool
  | .str t => t == x
  | _ => false
/-- d == (x,) -/
def eqW (x : Str) : PyData → Bool
  | .tuple [d] => eqE x d
  | _ => false
def plainE : PyData → Bool
  | .dict _ => false
  | _ => true
/-- no dict inside a tuple -/
def plainT : PyData → Bool
  | .tuple ds => ds.all plainE
  | _ => true
section
variable {X : Cx}
def rEqW (K : PySem.W.Frag) : R2 := fun v y H Q => ∃ (b : Addr) (d : PyData) (x : Str), y = .ref b ∧ SqT K H b [.str x] ∧ RepP K H d v ∧ plainT d = true ∧ Q (.bl (eqW x d)) H
/-- a pair is none of a list's -/
def rNotInP (K : PySem.W.Frag) : R2 := fun x y H Q => ∃ (a l : Addr) (i j : Int) (bs : List V) (ts : List (Int × Int)), x = .ref a ∧ y = .ref l ∧ H a = some (.tup [.int i, .int j]) ∧ H l = some (.lst bs) ∧ Paired (TieAt K H) bs ts ∧ Q (.bl (!decide ((i, j) ∈ ts))) H
def isP (H : Hp) (i j : Int) : Value → Bool
  | .ref c => match H c with
    | some (.tup [.int p, .int q]) => decide (p = i) && decide (q = j)
    | _ => false
  | _ => false
end
end L2

/-! a comprehension over a dict whose keys are tuples: the dict stands frozen from then on -/
namespace L2
open PySem PySem.Spec PyProof.Rows
theorem raw_ok {P : Program} {w : World} {H : Hp} {h : Heap} {a : Addr} {kvs : List (List Key × V)} {o : Obj} (x : ObjOk P w H h a (.dT kvs)) (ho : h.get? a = some o) :
    (a == sysModules) = false ∧ ∃ es ep, RawD.At h a es ep ∧ o.data = .dict es ep ∧ o.ExactDict ∧ es.size = kvs.length ∧ ∀ i (hi : i < es.size), ∃ b k v, es[i].key = .ref b ∧ kvs[i]? = some (k, v) ∧ H b = some (.tup (k.map kV)) := by
  obtain ⟨z, y, xs, r, o', es, ep, h1, h2, h3, h4, h5⟩ := x
  rw [ho] at h1
  cases h1
  have hl := r.length
  have hl2 : es.size = xs.length := by
    have := congrArg List.length h4
    simpa using this
  refine ⟨y, es, ep, ⟨_, ho, h2, h3⟩, h3, h2, hl2.trans hl.symm, fun i hi => ?_⟩
  have hx : i < xs.length := by omega
  have get : ∀ {l : List (List Key × V)} {m : List (List Key × Addr × Value)} {i : Nat} {q : List Key × Addr × Value},
      Paired (fun (p : List Key × V) (q : List Key × Addr × Value) => p.1 = q.1 ∧ H q.2.1 = some (.tup (p.1.map kV)) ∧ RelV p.2 q.2.2) l m → m[i]? = some q → ∃ p, l[i]? = some p ∧ p.1 = q.1 ∧ H q.2.1 = some (.tup (p.1.map kV)) := by
    intro l m i q pr
    induction pr generalizing i with
    | nil => intro e; simp at e
    | cons hd _ ih =>
      intro e
      cases i with
      | zero => simp at e; subst e; exact ⟨_, rfl, hd.1, hd.2.1⟩
      | succ i => simp at e; exact ih e
  obtain ⟨p, e1, _, e2⟩ := get (i := i) r (List.getElem?_eq_getElem hx)
  refine ⟨xs[i].2.1, p.1, p.2, ?_, e1, e2⟩
  have : es[i] = entryOfKey (tupleKind (mixKind P w)) xs[i] := by
    have q : es.toList[i]? = some (entryOfKey (tupleKind (mixKind P w)) xs[i]) := by rw [h4]; simp [hx]
    rw [Array.getElem?_toList, Array.getElem?_eq_getElem hi] at q
    exact Option.some.inj q
  rw [this]
  rfl
/-- the keys of the dict at a, which stands as o -/
def Itd (a : Addr) (o : Obj) : It :=
  ⟨fun i H => ∃ kvs, H a = some (.frz o (.dT kvs)) ∧ i < kvs.length, fun i H x H' => H' = H ∧ ∀ kvs, H a = some (.frz o (.dT kvs)) → ∃ k v b, kvs[i]? = some (k, v) ∧ x = .ref b ∧ H b = some (.tup (k.map kV)), fun i H => ∃ kvs, H a = some (.frz o (.dT kvs)) ∧ kvs.length ≤ i⟩
theorem turn_dT {P : Program} {w : World} {K : PySem.W.Frag} {tg : Expr} (a it : Addr) {o : Obj} {es : Array DictEntry} {ep : Nat} (hd : o.data = .dict es ep) : Turn P w K tg (Itd a o) [it] it (fun i h => h.IsKeyIter it a i es.size ep) where
  mem := by simp
  obj := fun i h st b hb => by
    have e : b = it := by simpa using hb
    subst e
    obtain ⟨o, e, c, d⟩ := st
    exact ⟨o, e, fun v z => by rw [d] at z; cases z⟩
  keep := fun i h h' st k => by
    obtain ⟨o, e, r⟩ := st
    exact ⟨o, k it (by simp) o e, r⟩
  item := by
    intro X hP hw hK hc i pins s σ H E I hf st hg
    subst hP hw hK
    obtain ⟨kvs, hq, hi⟩ := hg
    obtain ⟨ho, hk⟩ := (show ObjOk X.prog X.w H s.heap a (.frz o (.dT kvs)) from I.hok a _ hq)
    obtain ⟨lo, es', ep', at_, hd', hx, hs, key⟩ := raw_ok hk ho
    rw [hd] at hd'
    cases hd'
    obtain ⟨f0, f1, f2, f3, f4, f5⟩ := hf it (by simp)
    obtain ⟨b, k, v, e1, e2, e3⟩ := key i (by omega)
    refine RawD.item st at_ (by omega) fun h' st' sb => ?_
    have I1 : Inv X pins σ H { s with heap := h' } := I.turned (t' := s.toks) (fun b o hb e => (sb.2 b hb).trans e) f0 f1 f3 f4 f5
    obtain ⟨oi, e, c, d⟩ := id st'
    rw [e1]
    exact ⟨.ref b, rfl, go_of (s := { s with heap := h' }) e c d (by decide) ⟨.ref b, H, I1, rfl, ⟨rfl, fun ys hy => by
      rw [hq] at hy
      cases hy
      exact ⟨k, v, b, e2, rfl, e3⟩⟩, st', fun b hb => (hf b hb).1⟩⟩
  done := by
    intro X hP hw hK hc i pins s σ H E I hf st hg
    subst hP hw hK
    obtain ⟨kvs, hq, hi⟩ := hg
    obtain ⟨ho, hk⟩ := (show ObjOk X.prog X.w H s.heap a (.frz o (.dT kvs)) from I.hok a _ hq)
    obtain ⟨lo, es', ep', at_, hd', hx, hs, key⟩ := raw_ok hk ho
    rw [hd] at hd'
    cases hd'
    obtain ⟨f0, f1, f2, f3, f4, f5⟩ := hf it (by simp)
    exact RawD.stop (I.ok.hd hc) st at_ (by omega) fun h' eb => ⟨rfl, I.turned (t' := s.toks) (fun b o hb e => eb b o hb e) f0 f1 f3 f4 f5⟩
  self := fun _ _ _ _ _ st h => wpAny_pyIter_keyiter st h
section
variable {X : Cx} {tg : Expr}
def iDictT (tl : TE) : TI := fun σ H R => tl σ H fun x H1 => ∃ a kvs, x = .ref a ∧ H1 a = some (.dT kvs) ∧ ((kvs.map (·.1)).Nodup → ∀ o, R (Itd a o) (upd H1 a (.frz o (.dT kvs))))
theorem pi_dT {l : Expr} {tl : TE} (hl : PE X l tl) : PI X tg l (iDictT tl) := by
  intro pins s σ H R I h
  refine thn (hl pins s σ H _ I h) fun v s1 ⟨x, H1, I1, r1, q1⟩ => ?_
  obtain ⟨a, kvs, e, hq, q⟩ := q1
  subst e
  cases r1
  have hk := (show ObjOk X.prog X.w H1 s1.heap a (.dT kvs) from I1.hok a _ hq)
  obtain ⟨z, y, xs, r, o, es, ep, h1, h2, h3, h4, h5⟩ := id hk
  obtain ⟨lo, es', ep', at_, hd', hx, hs, key⟩ := raw_ok hk h1
  refine RawD.iter lo at_ ?_
  have new : ObjOk X.prog X.w (upd H1 a (.frz o (.dT kvs))) s1.heap a (.frz o (.dT kvs)) := ⟨h1, z, y, xs, Paired.imp (fun p q' ⟨u1, u2, u3⟩ => ⟨u1, by rw [upd_ne (fun w => by rw [w, hq] at u2; cases u2)]; exact u2, u3⟩) r, o, es, ep, h1, h2, h3, h4, h5⟩
  have I2 : Inv X pins σ (upd H1 a (.frz o (.dT kvs))) { s1 with heap := s1.heap, toks := s1.toks } := I1.write (x := a) (e := a) (by rw [hq]; trivial) (.inl rfl) (fun b u _ e => e) ⟨o, h1⟩ new
  have I2 : Inv X pins σ (upd H1 a (.frz o (.dT kvs))) s1 := I2
  refine ⟨s1.heap.objs.size, [s1.heap.objs.size], _, _, upd H1 a (.frz o (.dT kvs)), rfl, I2.kept (t' := s1.toks) fun b o e => Heap.get?_push_of_some _ e, turn_dT a _ hd', ⟨_, Heap.get?_push_size _ rfl, rfl, rfl⟩, fun b hb => ?_, q (raw_dT I1.hok hq).2.2.1 o⟩
  have e : b = s1.heap.objs.size := by simpa using hb
  subst e
  exact I2.fpOk (Nat.le_refl _) (I2.hok.fresh (Nat.le_refl _))
end
theorem comp_dT {a : Addr} {o : Obj} {kvs : List (List Key × V)} {k : Nat} {g : TG} {tt : TT} {te : TE} {σ : St} {H : Hp} {Q : VK} (Pv : Nat → List V → Hp → Prop) (h0 : Pv 0 [] H) (hl : ∀ i ys H, i ≤ kvs.length → Pv i ys H → H a = some (.frz o (.dT kvs)) ∧ ys.length ≤ sizeLine)
    (hs : ∀ i kk v b ys H, kvs[i]? = some (kk, v) → i < kvs.length → H b = some (.tup (kk.map kV)) → Pv i ys H → g (.ref b) (σ ++ List.replicate k none) H fun σ2 H2 => σ2.take σ.length = σ ∧ tt σ2 H2 fun b H3 =>
      if b = true then te σ2 H3 fun y H4 => Nx kvs.length i Pv (ys ++ [y]) H4 else Nx kvs.length i Pv ys H3)
    (hd : ∀ ys H, Pv kvs.length ys H → ∀ l, H l = none → Q (.ref l) (upd H l (.lst ys))) : CompW (Itd a o) k g tt te σ Q H := by
  refine ⟨fun i m ys H => m = kvs.length - i ∧ i ≤ kvs.length ∧ Pv i ys H, ⟨kvs.length, by simp, Nat.zero_le _, h0⟩, ?_⟩
  rintro i m ys H ⟨rfl, hi, p⟩
  obtain ⟨q, z⟩ := hl i ys H hi p
  refine ⟨z, ?_⟩
  by_cases hlt : i < kvs.length
  · refine .inr ⟨⟨kvs, q, hlt⟩, fun x H' y => ?_⟩
    obtain ⟨e, y⟩ := y
    subst e
    obtain ⟨kk, v, b, e1, rfl, e2⟩ := y kvs q
    exact hs i kk v b ys _ e1 hlt e2 p
  · have e : i = kvs.length := by omega
    subst e
    exact .inl ⟨⟨kvs, q, Nat.le_refl _⟩, hd ys H p⟩
/-- a frozen dict read at a key of its own -/
theorem DGet.f {H : Hp} {a b : Addr} {o : Obj} {kvs : List (List Key × V)} {k : List Key} (e : H a = some (.frz o (.dT kvs))) (eb : H b = some (.tup (k.map kV))) : DGet H a (.ref b) (valV kvs k) := .inr ⟨kvs, k, b, .inr ⟨o, e⟩, rfl, eb, rfl⟩
end L2

namespace K49
open PySem L2 PyProof.Rows
def top (i : Nat) : Stmt := PySem.Challenge.pw_tienumbers_k49_total_bars.main.body.getD i (.Pass ⟨0, 0, 0, 0⟩)
def isIntD (d : Dt) : Bool := isiB d.ty "int" && !isiB d.ty "bool"
def within (d : Dt) (lo hi : Int) : Bool := match d with
  | .int i => decide (lo ≤ i) && decide (i ≤ hi)
  | _ => false
theorem isIntD_of {d : Dt} (h : isIntD d = true) : ∃ i, d = .int i := by
  have := (Bool.and_eq_true _ _).mp h
  exact isi_int this.1 (by simpa using this.2)
structure Txt (mg : Str → Option Value) : Prop where
  isi : mg "isinstance" = none
  int : mg "int" = none
  bool : mg "bool" = none
  tuple : mg "tuple" = none
  len : mg "len" = none
  all : mg "all" = none
  min : mg "min" = none
  max : mg "max" = none
  range : mg "range" = none
  sorted : mg "sorted" = none
  list : mg "list" = none
  sum : mg "sum" = none
  str : mg "str" = none
  set : mg "set" = none
  zip : mg "zip" = none
  repr : mg "repr" = none
section
variable {P : Program} {w : World} {K : PySem.W.Frag} {mg : Str → Option Value} {base : Heap}
section
variable {X : Cx} {e : Expr} {te : TE} {pos p1 p2 : Pos}
/-- isinstance(e, C) -/
theorem isi_t (T : Txt X.mg) (he : PE X e te) (g1 : Gl X "isinstance") (g2 : Gl X "tuple") (hs : starEach [e, .Name "tuple" p1] X.env = (false, eval e X.env) :: starEach [.Name "tuple" p1] X.env := by rfl) : PE X (.Call (.Name "isinstance" p2) [e, .Name "tuple" p1] [] pos) (tCB (rIsi X.K) (tCons te (tCons (tC (.ty "tuple")) tNil))) :=
  pe_callB call_isi g1 T.isi boot_isinstance (pa_cons he (pa_cons (pe_bltn g2 T.tuple boot_tuple rfl) pa_nil) hs) (he := hs)
theorem isi_i (T : Txt X.mg) (he : PE X e te) (g1 : Gl X "isinstance") (g2 : Gl X "int") (hs : starEach [e, .Name "int" p1] X.env = (false, eval e X.env) :: starEach [.Name "int" p1] X.env := by rfl) : PE X (.Call (.Name "isinstance" p2) [e, .Name "int" p1] [] pos) (tCB (rIsi X.K) (tCons te (tCons (tC (.ty "int")) tNil))) :=
  pe_callB call_isi g1 T.isi boot_isinstance (pa_cons he (pa_cons (pe_bltn g2 T.int PyProof.Rows.boot_int rfl) pa_nil) hs) (he := hs)
theorem isi_b (T : Txt X.mg) (he : PE X e te) (g1 : Gl X "isinstance") (g2 : Gl X "bool") (hs : starEach [e, .Name "bool" p1] X.env = (false, eval e X.env) :: starEach [.Name "bool" p1] X.env := by rfl) : PE X (.Call (.Name "isinstance" p2) [e, .Name "bool" p1] [] pos) (tCB (rIsi X.K) (tCons te (tCons (tC (.ty "bool")) tNil))) :=
  pe_callB call_isi g1 T.isi boot_isinstance (pa_cons he (pa_cons (pe_bltn g2 T.bool PyProof.Rows.boot_bool rfl) pa_nil) hs) (he := hs)
theorem isi_l (T : Txt X.mg) (he : PE X e te) (g1 : Gl X "isinstance") (g2 : Gl X "list") (hs : starEach [e, .Name "list" p1] X.env = (false, eval e X.env) :: starEach [.Name "list" p1] X.env := by rfl) : PE X (.Call (.Name "isinstance" p2) [e, .Name "list" p1] [] pos) (tCB (rIsi X.K) (tCons te (tCons (tC (.ty "list")) tNil))) :=
  pe_callB call_isi g1 T.isi boot_isinstance (pa_cons he (pa_cons (pe_bltn g2 T.list PyProof.Rows.boot_list rfl) pa_nil) hs) (he := hs)
end
def spWhole (K : PySem.W.Frag) : Sp := fun vs H Q _ => ∃ d v, vs = [v] ∧ Rep K H d v ∧ Q (.bl (isIntD d)) H
theorem sc1 : FnScope ["thing"] ["thing"] (defScope (top 1)) := ⟨rfl, rfl, rfl, by decide +kernel, rfl, by decide +kernel, by decide +kernel⟩
theorem ok_is_whole (h : Has K mg "is_whole" (top 1) ["thing"]) (T : Txt mg) : Ok P w K mg base "is_whole" ["thing"] 1 (spWhole K) := by
  refine h.ok sc1 (fun vs H Q E h => ?_) (fun f cdv A outer s H vs Q E hr h => ?_)
  · obtain ⟨d, v, rfl, _⟩ := h; rfl
  · obtain ⟨d, v, rfl, hd, q⟩ := h
    refine ⟨_, pss_one (ps_ret (pe_and (isi_i T (pv 0) (by rfl) (by rfl)) (pe_one (pe_not (isi_b T (pv 0) (by rfl) (by rfl)))))), ?_⟩
    refine ⟨v, rfl, v, d.ty, "int", rfl, .inl rfl, hd.kind, _, rfl, iteB (fun c => ?_) fun c => ?_⟩
    · refine ⟨v, rfl, v, d.ty, "bool", rfl, .inr (.inl rfl), hd.kind, _, rfl, ?_⟩
      have e : isIntD d = !isiB d.ty "bool" := by unfold isIntD; rw [c, Bool.true_and]
      rw [e] at q
      exact q
    · have e : isIntD d = false := by unfold isIntD; rw [c, Bool.false_and]
      rw [e] at q
      exact q
def spWithin (K : PySem.W.Frag) : Sp := fun vs H Q _ => ∃ d v lo hi, vs = [v, .int lo, .int hi] ∧ Rep K H d v ∧ Q (.bl (within d lo hi)) H
def spNext : Sp := fun vs H Q _ => ∃ i, vs = [.int i] ∧ ∀ r, Q (.int r) H
theorem sc13 : FnScope ["seed"] ["seed"] (defScope (top 15)) := ⟨rfl, rfl, rfl, by decide +kernel, rfl, by decide +kernel, by decide +kernel⟩
theorem ok_next (h : Has K mg "_law_next" (top 15) ["seed"]) : Ok P w K mg base "_law_next" ["seed"] 1 spNext := by
  refine h.ok sc13 (fun vs H Q E h => ?_) (fun f cdv A outer s H vs Q E hr h => ?_)
  · obtain ⟨i, rfl, _⟩ := h; rfl
  · obtain ⟨i, rfl, q⟩ := h
    refine ⟨_, pss_cons (ps_set (i := 0) sc13.nd rfl (Or.inl rfl) (pe_op op_mod (pe_op op_add (pv 0) pe_int) pe_int))
      (pss_one (ps_ret (pe_op op_mod (pe_op op_add (pe_op op_add (pe_op op_mul (pv 0) (pv 0)) (pe_op op_mul pe_int (pv 0))) pe_int) pe_int))), ?_⟩
    have b0 : 0 ≤ (i + 7919) % 2147483647 := Int.emod_nonneg _ (by decide)
    have b1 : (i + 7919) % 2147483647 < 2147483647 := Int.emod_lt_of_pos _ (by decide)
    refine ⟨_, rfl, _, _, rfl, rfl, _, _, rfl, rfl, (by show (0 : Int) < 2147483647; decide), _, rfl, _, rfl, _, _, rfl, rfl, .inl ⟨by omega, by omega⟩, _, rfl, _, _, rfl, rfl, .inl ⟨by decide, by decide⟩, _, _, rfl, rfl, _, _, rfl, rfl, _, _, rfl, rfl, (by show (0 : Int) < 2147483629; decide), q _⟩
def spPen : Sp := fun vs H Q _ => ∃ i, vs = [.int i] ∧ ∀ p H', H p = none → Pen H' p → Same H H' → Q (.ref p) H'
theorem sc14 : FnScope ["cell", "left"] ["cell"] (defScope (top 16)) := ⟨rfl, rfl, rfl, by decide +kernel, rfl, by decide +kernel, by decide +kernel⟩
theorem ok_pen (h : Has K mg "_law_pen_of" (top 16) ["cell"]) (T : Txt mg) : Ok P w K mg base "_law_pen_of" ["cell"] 1 spPen := by
  refine h.ok sc14 (fun vs H Q E h => ?_) (fun f cdv A outer s H vs Q E hr h => ?_)
  · obtain ⟨i, rfl, _⟩ := h; rfl
  · obtain ⟨i, rfl, q⟩ := h
    refine ⟨_, pss_cons (ps_set (i := 1) sc14.nd rfl (Or.inl rfl) (pe_callB (call_max2 rfl) (by rfl) T.max PyProof.Rows.boot_max (pa_cons (pv 0) (pa_cons (pe_op op_sub pe_int (pv 0)) pa_nil))))
      (pss_one (ps_ret (pe_lst (pa_cons (pv 1) (pa_cons (pe_callTy call_int1 (by rfl) T.int PyProof.Rows.boot_int (pa_cons (pe_cmpR op_ge (pv 1) (pe_op op_pow pe_int pe_int) (nomark _)) pa_nil)) (pa_cons (pe_op op_mod (pv 1) pe_int) pa_nil)))))), ?_⟩
    refine ⟨_, rfl, _, rfl, _, _, rfl, rfl, _, _, rfl, _, rfl, _, rfl, _, _, rfl, rfl, ⟨by decide, by decide, by decide⟩, _, _, rfl, rfl, .inr ⟨_, rfl, _, rfl, _, _, rfl, rfl, (by show (0 : Int) < 1000003; decide), (by show 3 ≤ sizeLine; decide), fun p hp => ?_⟩⟩
    exact q p _ hp ⟨_, _, _, upd_same⟩ (Same.upd hp)
def spDraw : Sp := fun vs H Q _ => ∃ p m, vs = [.ref p, .int m] ∧ Pen H p ∧ 0 < m ∧ m < 1073741824 ∧ ∀ (r : Int) H', 0 ≤ r → r < m → Pen H' p → (∀ b, b ≠ p → H' b = H b) → Q (.int r) H'
theorem sc15 : FnScope ["pen", "many", "found"] ["pen", "many"] (defScope (top 17)) := ⟨rfl, rfl, rfl, by decide +kernel, rfl, by decide +kernel, by decide +kernel⟩
theorem ok_draw (h : Has K mg "_law_draw" (top 17) ["pen", "many"]) (G : Ok P w K mg base "_law_next" ["seed"] 1 spNext) : Ok P w K mg base "_law_draw" ["pen", "many"] 2 spDraw := by
  refine h.ok sc15 (fun vs H Q E h => ?_) (fun f cdv A outer s H vs Q E hr h => ?_)
  · obtain ⟨p, m, rfl, _⟩ := h; rfl
  · obtain ⟨p, m, rfl, ⟨a, fl, sd, hp⟩, m0, m1, q⟩ := h
    have hL : ∀ {H' : Hp} {xs : List V}, H' p = some (.lst xs) → SqL K H' p xs := fun e => .inl (.inl e)
    refine ⟨_, pss_cons (ps_if (pt_cmpR op_eq (pe_ix ix_list (pv 0) pe_int (fun _ _ => rfl)) pe_int (nomark _))
        (pss_cons (ps_set (i := 2) sc15.nd rfl (Or.inl rfl) (pe_op op_mod (pe_ix ix_list (pv 0) pe_int (fun _ _ => rfl)) (pv 1)))
        (pss_cons (ps_asg (pe_op op_fdiv (pe_ix ix_list (pv 0) pe_int (fun _ _ => rfl)) (pv 1)) (pg_sub (pv 0) pe_int set_list))
        (pss_one (ps_ret (pv 2))))) pss_nil)
      (pss_cons (ps_asg (pe_callG G hr (by rfl) (pa_cons (pe_op op_add (pe_callG G hr (by rfl) (pa_cons (pe_ix ix_list (pv 0) pe_int (fun _ _ => rfl)) pa_nil)) pe_int) pa_nil)) (pg_sub (pv 0) pe_int set_list))
      (pss_one (ps_ret (pe_op op_mod (pe_op op_fdiv (pe_ix ix_list (pv 0) pe_int (fun _ _ => rfl)) pe_int) (pv 1))))), ?_⟩
    refine ⟨_, rfl, p, _, 1, _, rfl, rfl, hL hp, rfl, rfl, _, rfl, iteB (fun c => ?_) fun c => ?_⟩
    · refine ⟨_, rfl, p, _, 0, _, rfl, rfl, hL hp, rfl, _, rfl, _, _, rfl, rfl, m0, _, rfl, p, _, 0, _, rfl, rfl, hL hp, rfl, _, rfl, _, _, rfl, rfl, ⟨m0, m1⟩, _, rfl, p, _, 0, 0, rfl, rfl, hp, rfl, _, rfl, ?_⟩
      exact q _ _ (Int.emod_nonneg _ (by omega)) (Int.emod_lt_of_pos _ m0) ⟨_, _, _, upd_same⟩ fun b hb => upd_ne hb
    · refine ⟨_, rfl, p, _, 2, _, rfl, rfl, hL hp, rfl, _, rfl, fun r1 => ⟨_, _, rfl, rfl, _, rfl, fun r2 => ⟨_, rfl, p, _, 2, 2, rfl, rfl, hp, rfl, ?_⟩⟩⟩
      refine ⟨_, rfl, p, _, 2, _, rfl, rfl, hL upd_same, rfl, _, _, rfl, rfl, ⟨by decide, by decide⟩, _, rfl, _, _, rfl, rfl, m0, ?_⟩
      exact q _ _ (Int.emod_nonneg _ (by omega)) (Int.emod_lt_of_pos _ m0) ⟨_, _, _, upd_same⟩ fun b hb => upd_ne hb
def spCell (K : PySem.W.Frag) : Sp := fun vs H Q _ => ∃ a ns k, vs = [.ref a, .int k] ∧ SqL K H a (List.map V.int ns) ∧ 0 ≤ k ∧ ∀ r, Q (.int r) H
theorem sc12 : FnScope ["script", "k"] ["script", "k"] (defScope (top 14)) := ⟨rfl, rfl, rfl, by decide +kernel, rfl, by decide +kernel, by decide +kernel⟩
theorem ok_cell (h : Has K mg "_law_cell_at" (top 14) ["script", "k"]) (T : Txt mg) : Ok P w K mg base "_law_cell_at" ["script", "k"] 1 (spCell K) := by
  refine h.ok sc12 (fun vs H Q E h => ?_) (fun f cdv A outer s H vs Q E hr h => ?_)
  · obtain ⟨a, ns, k, rfl, _⟩ := h; rfl
  · obtain ⟨a, ns, k, rfl, hS, hk, q⟩ := h
    refine ⟨_, pss_cons (ps_if (pt_cmpR op_lt (pv 1) (pe_callB call_len_seq (by rfl) T.len PySem.boot_len (pa_cons (pv 0) pa_nil)) (nomark _)) (pss_one (ps_ret (pe_ix ix_list (pv 0) (pv 1) (fun _ _ => rfl)))) pss_nil)
      (pss_one (ps_ret pe_int)), ?_⟩
    refine ⟨_, rfl, _, rfl, a, _, rfl, .inl hS, _, _, rfl, rfl, _, rfl, iteB (fun c => ?_) fun c => ?_⟩
    · have c : k < ((ns.map V.int).length : Int) := of_decide_eq_true c
      rw [List.length_map] at c
      obtain ⟨n, rfl⟩ : ∃ n : Nat, k = n := ⟨k.toNat, by omega⟩
      have hn : n < ns.length := by omega
      exact ⟨_, rfl, _, rfl, a, _, _, .int ns[n], rfl, rfl, hS, atI_nat (by rw [List.getElem?_map, List.getElem?_eq_getElem hn]; rfl), q _⟩
    · exact q _
def spWebBy (K : PySem.W.Frag) : Sp := fun vs H Q _ => ∃ p m, vs = [.ref p, .int m] ∧ Pen H p ∧ 0 < m ∧ m ≤ 40 ∧ ∀ w H' many ties, WebAt K H' w many ties → 1 ≤ many → many ≤ m → Pen H' p → SameBut p H H' → Q (.ref w) H'
theorem sc17 : FnScope ["pen", "most", "many", "found", "place", "turn", "one", "other"] ["pen", "most"] (defScope (top 19)) := ⟨rfl, rfl, rfl, by decide +kernel, rfl, by decide +kernel, by decide +kernel⟩
/-- what stands between two turns of either loop -/
structure Mid (H : Hp) (p d : Addr) (many : Int) (n : Nat) (H' : Hp) : Prop where
  pen : Pen H' p
  same : SameBut p H H'
  dict : ∃ kvs, H' d = some (.dT kvs) ∧ kvs.length ≤ n ∧ ∀ k ∈ kvs.map (·.1), goodKey many k
theorem Mid.draw {H H1 H2 : Hp} {p d : Addr} {many : Int} {n : Nat} (m : Mid H p d many n H1) (hd : H d = none) (hpd : p ≠ d) (pen : Pen H2 p) (e : ∀ b, b ≠ p → H2 b = H1 b) : Mid H p d many n H2 := by
  obtain ⟨kvs, h1, h2, h3⟩ := m.dict
  exact ⟨pen, fun b o nb q => by rw [e b nb]; exact m.same b o nb q, kvs, by rw [e d hpd.symm]; exact h1, h2, h3⟩
theorem Mid.put {H H1 : Hp} {p d t : Addr} {many : Int} {n : Nat} {x y : Int} (m : Mid H p d many n H1) (hd : H d = none) (hpd : p ≠ d) (ht : H1 t = none) (g : goodKey many [Sum.inl x, Sum.inl y]) (hn : n < 1000) :
    ∃ H3, DPut (upd H1 t (.tup [.int x, .int y])) d (.ref t) (.bl true) H3 ∧ Mid H p d many (n + 1) H3 := by
  obtain ⟨kvs, h1, h2, h3⟩ := m.dict
  have ntd : d ≠ t := ne_of_none h1 ht
  have npt : p ≠ t := m.pen.ne ht
  have e1 : (upd H1 t (.tup [.int x, .int y])) d = some (.dT kvs) := by rw [upd_ne ntd]; exact h1
  refine ⟨_, DPut.t (k := [Sum.inl x, Sum.inl y]) e1 upd_same (small1000 (by omega)), ?_, ?_, putK kvs [Sum.inl x, Sum.inl y] (.bl true), upd_same, ?_, fun k hk => ?_⟩
  · obtain ⟨a, f, s, q⟩ := m.pen
    exact ⟨a, f, s, by rw [upd_ne hpd, upd_ne npt]; exact q⟩
  · intro b o nb q
    have q1 := m.same b o nb q
    rw [upd_ne (ne_of_none q hd), upd_ne (ne_of_none q1 ht)]
    exact q1
  · exact Nat.le_trans (length_putK _ _ _) (Nat.succ_le_succ h2)
  · rcases putK_keys hk with rfl | hk
    · exact g
    · exact h3 k hk
theorem ok_web_by (h : Has K mg "_law_web_by" (top 19) ["pen", "most"]) (T : Txt mg) (G : Ok P w K mg base "_law_draw" ["pen", "many"] 2 spDraw) : Ok P w K mg base "_law_web_by" ["pen", "most"] 3 (spWebBy K) := by
  refine h.ok sc17 (fun vs H Q E h => ?_) (fun f cdv A outer s H vs Q E hr h => ?_)
  · obtain ⟨p, m, rfl, _⟩ := h; rfl
  · obtain ⟨p, m, rfl, hpen, m0, m1, q⟩ := h
    have hu := hu_of hr
    have hrest : ∃ t3, PSs (cxOf CX0 P w K mg base ["pen", "most", "many", "found", "place", "turn", "one", "other"] "_law_web_by" (defScope (top 19)) f cdv A outer s H E).nox ((defBody (top 19)).drop 3) t3 ∧
        ∀ (d : Addr) (many : Int) (v4 : Option V) (H2 : Hp), H d = none → p ≠ d → 1 ≤ many → many ≤ m → Mid H p d many 39 H2 → t3 { nx := fun _ H' => Q .non H', rt := Q } [some (.ref p), some (.int m), some (.int many), some (.ref d), v4, none, none, none] H2 := by
      refine ⟨_, pss_cons (ps_for PassesOwn.never rfl (pi_range1 (by rfl) T.range (pa_cons (pe_ix ix_list (pe_lst (pa_cons pe_int (pa_cons pe_int (pa_cons (pv 2) (pa_cons (pe_op op_mul pe_int (pv 2)) pa_nil))))) (pe_callG G hr (by rfl) (pa_cons (pv 0) (pa_cons pe_int pa_nil))) (fun _ _ => rfl)) pa_nil)) (pg_name (i := 5) sc17.nd rfl (Or.inl rfl))
        (pss_cons (ps_set (i := 6) sc17.nd rfl (Or.inl rfl) (pe_callG G hr (by rfl) (pa_cons (pv 0) (pa_cons (pv 2) pa_nil))))
        (pss_cons (ps_set (i := 7) sc17.nd rfl (Or.inl rfl) (pe_callG G hr (by rfl) (pa_cons (pv 0) (pa_cons (pv 2) pa_nil))))
        (pss_one (ps_if (PW.pt (pw_and (pt_cmpR op_ne (pv 6) (pv 7) (nomark _)) (pw_and1 (pt_cmpR op_lt (pe_callB call_lenT (by rfl) T.len PySem.boot_len (pa_cons (pv 3) pa_nil)) pe_int (nomark _)))))
          (pss_one (ps_dput hu (pv 3) (pe_tup (pa_cons (pe_callB (call_min2 rfl) (by rfl) T.min PyProof.Rows.boot_min (pa_cons (pv 6) (pa_cons (pv 7) pa_nil))) (pa_cons (pe_callB (call_max2 rfl) (by rfl) T.max PyProof.Rows.boot_max (pa_cons (pv 6) (pa_cons (pv 7) pa_nil))) pa_nil))) pe_bl rfl)) pss_nil)))))
        (pss_one (ps_ret (pe_tup (pa_cons (pv 2) (pa_cons (pe_callTy call_tuple_of (by rfl) T.tuple PyProof.Rows.boot_tuple (pa_cons (pe_callB call_sortedT (by rfl) T.sorted PyProof.Rows.boot_sorted (pa_cons (pe_callTy (call_listT rfl) (by rfl) T.list PyProof.Rows.boot_list (pa_cons (pv 3) pa_nil)) pa_nil)) pa_nil)) pa_nil))))), ?_⟩
      intro d many v4 H2 hd hpd hm1 hm2 mid
      -- the menu of turns
      refine ⟨_, rfl, _, rfl, _, _, rfl, rfl, .inl ⟨by decide, by decide⟩, by show 4 ≤ sizeLine; decide, fun l hl => ?_⟩
      have npl : p ≠ l := mid.pen.ne hl
      have midl : Mid H p d many 39 (upd H2 l (.lst [.int 0, .int 3, .int many, .int (2 * many)])) := by
        obtain ⟨kvs, k1, k2, k3⟩ := mid.dict
        exact ⟨mid.pen.same (Same.upd hl), mid.same.same (Same.upd hl), kvs, by rw [upd_ne (ne_of_none k1 hl)]; exact k1, k2, k3⟩
      refine ⟨_, rfl, p, 4, rfl, midl.pen, by decide, by decide, fun r H3 ra rb pen3 e3 => ?_⟩
      have mid3 := midl.draw hd hpd pen3 e3
      have hl3 : SqL K H3 l [.int 0, .int 3, .int many, .int (2 * many)] := .inl (.inl (by rw [e3 l npl.symm]; exact upd_same))
      have pick : ∃ j : Int, atI [V.int 0, .int 3, .int many, .int (2 * many)] r = some (.int j) ∧ 0 ≤ j ∧ j ≤ 80 := by
        have : r = 0 ∨ r = 1 ∨ r = 2 ∨ r = 3 := by omega
        rcases this with rfl | rfl | rfl | rfl
        · exact ⟨0, rfl, by omega, by omega⟩
        · exact ⟨3, rfl, by omega, by omega⟩
        · exact ⟨many, rfl, by omega, by omega⟩
        · exact ⟨2 * many, rfl, by omega, by omega⟩
      obtain ⟨j, hj, j0, j1⟩ := pick
      refine ⟨l, _, r, _, rfl, rfl, hl3, hj, j, rfl, by omega, by omega, for_range (lo := 0) (n := j.toNat) (fun i σ H' => ∃ v5 v6 v7, σ = [some (.ref p), some (.int m), some (.int many), some (.ref d), v4, v5, v6, v7] ∧ Mid H p d many 60 H')
        ⟨_, _, _, rfl, mid3.pen, mid3.same, let ⟨kvs, k1, k2, k3⟩ := mid3.dict; ⟨kvs, k1, by omega, k3⟩⟩ ?_ ?_⟩
      · rintro i σ H4 hi ⟨v5, v6, v7, rfl, mid4⟩
        refine ⟨_, rfl, _, rfl, p, many, rfl, mid4.pen, by omega, by omega, fun x H5 xa xb pen5 e5 => ?_⟩
        have mid5 := mid4.draw hd hpd pen5 e5
        refine ⟨_, rfl, _, rfl, p, many, rfl, mid5.pen, by omega, by omega, fun y H6 ya yb pen6 e6 => ?_⟩
        have mid6 := mid5.draw hd hpd pen6 e6
        refine ⟨_, rfl, _, rfl, rfl, _, rfl, iteB (fun c => ?_) fun c => iteF ⟨_, _, _, rfl, mid6⟩⟩
        have ne : x ≠ y := fun z => by
          have c : (!decide (V.int x = V.int y)) = true := c
          rw [z, decide_eq_true rfl] at c
          cases c
        obtain ⟨kvs, k1, k2, k3⟩ := mid6.dict
        refine ⟨_, rfl, d, kvs, rfl, k1, _, _, rfl, rfl, _, rfl, iteB (fun c2 => ?_) fun c2 => ⟨_, _, _, rfl, mid6⟩⟩
        have c2 : (kvs.length : Int) < 60 := of_decide_eq_true c2
        have mid6' : Mid H p d many 59 H6 := ⟨mid6.pen, mid6.same, kvs, k1, by omega, k3⟩
        refine ⟨_, rfl, _, rfl, _, rfl, _, _, rfl, _, rfl, _, rfl, _, _, rfl, by show 2 ≤ sizeLine; decide, fun t ht => ?_⟩
        obtain ⟨H7, p7, mid7⟩ := mid6'.put (x := if y < x then y else x) (y := if y > x then y else x) hd hpd ht ⟨_, _, rfl, by split <;> omega, by split <;> split <;> omega, by split <;> omega⟩ (by decide)
        exact ⟨d, H7, rfl, p7, _, _, _, rfl, mid7⟩
      · rintro σ H4 ⟨v5, v6, v7, rfl, mid4⟩
        obtain ⟨kvs, k1, k2, k3⟩ := mid4.dict
        refine ⟨_, rfl, _, rfl, d, kvs, rfl, k1, fun l1 bs hl1 nd hbl hk => ?_⟩
        -- the keys' tuples
        have pr : Paired (TieAt K H4) bs (kvs.map fun kv => keyTie kv.1) := Paired.of_get (by rw [hbl, List.length_map]) fun i t e => by
          rw [List.getElem?_map] at e
          cases e2 : kvs[i]? with
          | none => rw [e2] at e; cases e
          | some kv =>
            rw [e2] at e
            cases e
            obtain ⟨b, f1, f2⟩ := hk i kv.1 kv.2 e2
            obtain ⟨x, y, g1, _⟩ := k3 kv.1 (List.mem_map.mpr ⟨kv, List.mem_of_getElem? e2, rfl⟩)
            refine ⟨.ref b, f1, b, rfl, ?_⟩
            show H4 b = some (.tup [.int (keyTie kv.1).1, .int (keyTie kv.1).2])
            rw [g1] at f2 ⊢
            exact f2
        have s1 : Same H4 (upd H4 l1 (.lst bs)) := Same.upd hl1
        refine ⟨l1, bs, rfl, .inl (.inl upd_same), by omega, fun b hb => ?_, fun l2 bs' hl2 hp' => ?_⟩
        · obtain ⟨t, _, a, rfl, e⟩ := Paired.mem pr hb
          exact ⟨a, [t.1, t.2], rfl, .inl (.inl (s1 _ _ e)), by simp⟩
        · have s2 : Same H4 (upd (upd H4 l1 (.lst bs)) l2 (.lst bs')) := s1.trans (Same.upd hl2)
          refine ⟨l2, bs', rfl, .inl ⟨.inl (.inl upd_same), fun t ht => ⟨by show 2 ≤ sizeLine; decide, fun w' hw' => ?_⟩⟩⟩
          have s3 : Same H4 (upd (upd (upd H4 l1 (.lst bs)) l2 (.lst bs')) t (.tup bs')) := s2.trans (Same.upd ht)
          have s4 := s3.trans (Same.upd (o := .tup [.int many, .ref t]) hw')
          obtain ⟨ties, tp, pr'⟩ := Paired.perm hp' pr
          refine q w' _ many ties ⟨⟨t, bs', upd_same, ?_, Paired.imp (fun a b ⟨c, q1, q2⟩ => ⟨c, q1, s4 _ _ q2⟩) pr'⟩, ?_, fun u hu => ?_, ?_⟩ hm1 hm2 (mid4.pen.same s4) (mid4.same.same s4)
          · exact Same.upd (o := .tup [.int many, .ref t]) hw' _ _ upd_same
          · rw [tp.length_eq, List.length_map]; exact k2
          · obtain ⟨kv, hkv, e⟩ := List.mem_map.mp (tp.mem_iff.mp hu)
            obtain ⟨x, y, g1, g2, g3, g4⟩ := k3 kv.1 (List.mem_map.mpr ⟨kv, hkv, rfl⟩)
            rw [← e, g1]
            exact ⟨g2, g3, g4⟩
          · refine tp.nodup_iff.mpr ?_
            have := keyTie_nd k3 nd
            rw [List.map_map] at this
            exact this
    obtain ⟨t3, h3, r3⟩ := hrest
    refine ⟨_, pss_cons (ps_set (i := 2) sc17.nd rfl (Or.inl rfl) (pe_op op_add pe_int (pe_callG G hr (by rfl) (pa_cons (pv 0) (pa_cons (pv 1) pa_nil)))))
      (pss_cons (ps_set (i := 3) sc17.nd rfl (Or.inl rfl) pe_dnewT)
      (pss_cons (ps_if (pt_cmpR op_gt (pe_callG G hr (by rfl) (pa_cons (pv 0) (pa_cons pe_int pa_nil))) pe_int (nomark _))
        (pss_one (ps_for PassesOwn.never rfl (pi_range2 (by rfl) T.range (pa_cons pe_int (pa_cons (pv 2) pa_nil))) (pg_name (i := 4) sc17.nd rfl (Or.inl rfl))
          (pss_one (ps_if (pt_cmpR op_gt (pe_callG G hr (by rfl) (pa_cons (pv 0) (pa_cons pe_int pa_nil))) pe_int (nomark _))
            (pss_one (ps_dput hu (pv 3) (pe_tup (pa_cons (pe_callG G hr (by rfl) (pa_cons (pv 0) (pa_cons (pv 4) pa_nil))) (pa_cons (pv 4) pa_nil))) pe_bl rfl)) pss_nil)))) pss_nil) h3)), ?_⟩
    -- many
    refine ⟨_, rfl, _, rfl, p, m, rfl, hpen, m0, by omega, fun r1 H1 r1a r1b pen1 e1 => ⟨_, _, rfl, rfl, fun d hd1 => ?_⟩⟩
    have hpd : p ≠ d := pen1.ne hd1
    have hd : H d = none := by rw [← e1 d hpd.symm]; exact hd1
    have mid0 : Mid H p d (1 + r1) 0 (upd H1 d (.dT [])) := by
      refine ⟨?_, fun b o nb qq => ?_, [], upd_same, Nat.le_refl _, fun k hk => by cases hk⟩
      · obtain ⟨a, f, s, qq⟩ := pen1
        exact ⟨a, f, s, by rw [upd_ne hpd]; exact qq⟩
      · rw [upd_ne (ne_of_none qq hd), e1 b nb]; exact qq
    refine ⟨_, rfl, p, 3, rfl, mid0.pen, by decide, by decide, fun r2 H2 r2a r2b pen2 e2 => ⟨_, _, rfl, rfl, _, rfl, ?_⟩⟩
    have mid2 := mid0.draw hd hpd pen2 e2
    refine iteB (fun c => ?_) fun c => r3 d (1 + r1) none H2 hd hpd (by omega) (by omega) ⟨mid2.pen, mid2.same, let ⟨kvs, k1, k2, k3⟩ := mid2.dict; ⟨kvs, k1, by omega, k3⟩⟩
    refine ⟨_, rfl, _, _, rfl, ⟨by omega, by omega, by omega, by omega⟩, for_range (lo := 1) (n := (1 + r1 - 1).toNat) (fun i σ H' => ∃ v4, σ = [some (.ref p), some (.int m), some (.int (1 + r1)), some (.ref d), v4, none, none, none] ∧ Mid H p d (1 + r1) i H')
      ⟨_, rfl, mid2⟩ ?_ ?_⟩
    · rintro i σ H3 hi ⟨v4, rfl, mid3⟩
      refine ⟨_, rfl, p, 8, rfl, mid3.pen, by decide, by decide, fun r4 H4 r4a r4b pen4 e4 => ⟨_, _, rfl, rfl, _, rfl, ?_⟩⟩
      have mid4 := mid3.draw hd hpd pen4 e4
      refine iteB (fun c => ?_) fun c => ⟨_, rfl, mid4.pen, mid4.same, let ⟨kvs, k1, k2, k3⟩ := mid4.dict; ⟨kvs, k1, by omega, k3⟩⟩
      refine ⟨_, rfl, _, rfl, _, rfl, p, _, rfl, mid4.pen, by omega, by omega, fun r5 H5 r5a r5b pen5 e5 => ⟨_, rfl, by show 2 ≤ sizeLine; decide, fun t ht => ?_⟩⟩
      have mid5 := mid4.draw hd hpd pen5 e5
      obtain ⟨H6, p6, mid6⟩ := mid5.put (x := r5) (y := 1 + (i : Nat)) hd hpd ht ⟨_, _, rfl, r5a, r5b, by omega⟩ (by omega)
      exact ⟨d, H6, rfl, p6, _, rfl, mid6⟩
    · rintro σ H3 ⟨v4, rfl, mid3⟩
      exact r3 d (1 + r1) v4 H3 hd hpd (by omega) (by omega) ⟨mid3.pen, mid3.same, let ⟨kvs, k1, k2, k3⟩ := mid3.dict; ⟨kvs, k1, by omega, k3⟩⟩
end
end K49

namespace K49
open PySem L2 PyProof.Rows
/-- the neighbours of j, in the ties' order -/
def nb (j : Int) : List (Int × Int) → List Int
  | [] => []
  | t :: r => (if j = t.1 then [t.2] else if j = t.2 then [t.1] else []) ++ nb j r
theorem nb_append (j : Int) : ∀ (a b : List (Int × Int)), nb j (a ++ b) = nb j a ++ nb j b
  | [], b => rfl
  | t :: r, b => by
    show _ ++ nb j (r ++ b) = _
    rw [nb_append j r b]
    show _ = (_ ++ nb j r) ++ nb j b
    rw [List.append_assoc]
theorem nb_len (j : Int) : ∀ (a : List (Int × Int)), (nb j a).length ≤ a.length
  | [] => Nat.le_refl _
  | t :: r => by
    have := nb_len j r
    show (_ ++ nb j r).length ≤ r.length + 1
    rw [List.length_append]
    split
    · simp; omega
    · split
      · simp; omega
      · simp; omega
/-- the list of the neighbours' lists -/
structure Adj (H : Hp) (p : Addr) (ls : List Addr) (done : List (Int × Int)) (H' : Hp) : Prop where
  same : Same H H'
  at_ : H' p = some (.lst (ls.map V.ref))
  nd : ls.Nodup
  np : p ∉ ls
  pn : H p = none
  ln : ∀ l ∈ ls, H l = none
  lst : ∀ (j : Nat) (l : Addr), ls[j]? = some l → H' l = some (.lst ((nb j done).map V.int))
theorem Adj.inj {H : Hp} {p : Addr} {ls : List Addr} {done : List (Int × Int)} {H' : Hp} (A : Adj H p ls done H') {i j : Nat} {l : Addr} (h1 : ls[i]? = some l) (h2 : ls[j]? = some l) : i = j := by
  obtain ⟨a1, e1⟩ := List.getElem?_eq_some_iff.mp h1
  obtain ⟨a2, e2⟩ := List.getElem?_eq_some_iff.mp h2
  exact (List.getElem_inj A.nd).mp (e1.trans e2.symm)
theorem Adj.step {H : Hp} {p : Addr} {ls : List Addr} {done : List (Int × Int)} {H1 : Hp} (A : Adj H p ls done H1) {a b : Nat} {la lb : Addr} (ha : ls[a]? = some la) (hb : ls[b]? = some lb) (hab : a ≠ b) :
    Adj H p ls (done ++ [((a : Int), (b : Int))]) (upd (upd H1 la (.lst ((nb a done ++ [(b : Int)]).map V.int))) lb (.lst ((nb b done ++ [(a : Int)]).map V.int))) := by
  have nab : la ≠ lb := fun z => hab (A.inj ha (z ▸ hb))
  have ma : la ∈ ls := List.mem_of_getElem? ha
  have mb : lb ∈ ls := List.mem_of_getElem? hb
  refine ⟨fun c o q => ?_, ?_, A.nd, A.np, A.pn, A.ln, fun j l hj => ?_⟩
  · rw [upd_ne (ne_of_none q (A.ln lb mb)), upd_ne (ne_of_none q (A.ln la ma))]
    exact A.same c o q
  · rw [upd_ne (fun z : p = lb => A.np (by rw [z]; exact mb)), upd_ne (fun z : p = la => A.np (by rw [z]; exact ma))]
    exact A.at_
  · rw [nb_append]
    by_cases e1 : l = lb
    · subst e1
      have : j = b := A.inj hj hb
      subst this
      rw [upd_same]
      have : nb (j : Int) [((a : Int), (j : Int))] = [(a : Int)] := by
        show (if (j : Int) = (a : Int) then _ else if (j : Int) = (j : Int) then _ else _) ++ _ = _
        rw [if_neg (by omega), if_pos rfl]; rfl
      rw [this]
    · rw [upd_ne e1]
      by_cases e2 : l = la
      · subst e2
        have : j = a := A.inj hj ha
        subst this
        rw [upd_same]
        have : nb (j : Int) [((j : Int), (b : Int))] = [(b : Int)] := by
          show (if (j : Int) = (j : Int) then _ else _) ++ _ = _
          rw [if_pos rfl]; rfl
        rw [this]
      · rw [upd_ne e2, A.lst j l hj]
        have : nb (j : Int) [((a : Int), (b : Int))] = [] := by
          have n1 : j ≠ a := fun z => by subst z; rw [hj] at ha; exact e2 (Option.some.inj ha)
          have n2 : j ≠ b := fun z => by subst z; rw [hj] at hb; exact e1 (Option.some.inj hb)
          show (if (j : Int) = (a : Int) then _ else if (j : Int) = (b : Int) then _ else _) ++ _ = _
          rw [if_neg (by omega), if_neg (by omega)]; rfl
        rw [this, List.append_nil]
theorem Paired.get {α β : Type} {R : α → β → Prop} : ∀ {l1 : List α} {l2 : List β} {i : Nat} {a : α}, Paired R l1 l2 → l1[i]? = some a → ∃ b, l2[i]? = some b ∧ R a b
  | _, _, _, _, .nil, e => by simp at e
  | _, _, 0, _, .cons r _, e => by simp at e; subst e; exact ⟨_, rfl, r⟩
  | _, _, i + 1, a, .cons _ t, e => by
    obtain ⟨u, h1, h2⟩ := Paired.get (i := i) (a := a) t (by simpa using e)
    exact ⟨u, by simpa using h1, h2⟩
theorem but_of {p : Addr} {H H' : Hp} (e : ∀ b, b ≠ p → H' b = H b) : SameBut p H H' := fun b o n q => (e b n).trans q
theorem set_int (l : List Int) (i : Nat) (x : Int) : (l.map V.int).set i (.int x) = (l.set i x).map V.int := by rw [List.map_set]
theorem ixN_nat {n i : Nat} (h : i < n) : ixN n (i : Int) = some i := by
  unfold ixN
  first
  | (rw [PySem.StrLaws.seqIndex_nonneg (by omega) (by omega)]; rfl)
  | simp [h]
theorem rep_one {α : Type} (x : α) : ∀ k : Nat, (List.replicate k [x]).flatten = List.replicate k x
  | 0 => rfl
  | k + 1 => by rw [List.replicate_succ, List.flatten_cons, rep_one x k]; rfl
section
variable {P : Program} {w : World} {K : PySem.W.Frag} {mg : Str → Option Value} {base : Heap}

def spTied (K : PySem.W.Frag) : Sp := fun vs H Q _ => ∃ wb many ties, vs = [.ref wb] ∧ WebAt K H wb many ties ∧ 1 ≤ many ∧ many ≤ 40 ∧ ∀ p ls H', ls.length = many.toNat → Adj H p ls ties H' → Q (.ref p) H'
theorem scTied : FnScope ["web", "tied", "a", "b"] ["web"] (defScope (top 7)) := ⟨rfl, rfl, rfl, by decide +kernel, rfl, by decide +kernel, by decide +kernel⟩
def scTiedC : Scope := { kind := .function, names := [(".0", .local), ("place", .local)], isGenerator := false, isCoroutine := false, more := [] }
theorem bkTied : BlkD (defScope (top 7)) ["web", "tied", "a", "b"] scTiedC ["web", "tied", "a", "b"] ["place"] := ⟨rfl, by decide +kernel, by decide +kernel, by decide +kernel, rfl, by decide +kernel, by decide +kernel, by decide +kernel, by decide +kernel⟩
theorem ok_tied (h : Has K mg "tied_places" (top 7) ["web"]) (T : Txt mg) : Ok P w K mg base "tied_places" ["web"] 1 (spTied K) := by
  refine h.ok scTied (fun vs H Q E h => ?_) (fun f cdv A outer s H vs Q E hr h => ?_)
  · obtain ⟨wb, many, ties, rfl, _⟩ := h; rfl
  · obtain ⟨wb, many, ties, rfl, web, m0, m1, q⟩ := h
    obtain ⟨t, bs, h1, h2, h3⟩ := web.at_
    have bl : bs.length = ties.length := Paired.length h3
    have lt60 : ties.length ≤ 60 := web.len
    refine ⟨_, pss_cons (ps_compSet (j := 1) (M := ["web", "tied", "a", "b"]) (tgs := ["place"]) rfl bkTied.ok (pi_range1 (by rfl) T.range (pa_cons (pe_ix ix_tup (pv 0) pe_int (fun _ _ => rfl)) pa_nil))
        (fun cl C fp s H => pg_name (i := 4) bkTied.nd rfl (Or.inl rfl)) (fun cl C fp s H => pif0) (fun cl C fp s H => pe_lst pa_nil) scTied.nd rfl rfl)
      (pss_cons (ps_for PassesOwn.never rfl (pi_tup (pe_ix ix_tup (pv 0) pe_int (fun _ _ => rfl))) (pg_tup rfl (pgs_cons (pg_name (i := 2) scTied.nd rfl (Or.inl rfl)) (pgs_cons (pg_name (i := 3) scTied.nd rfl (Or.inl rfl)) pgs_nil)))
        (pss_cons (ps_expr (pe_bm PySem.F.plainAttrs_list PySem.F.slot_list_append PySem.F.type_list_append mt_append (pe_ix ix_list (pv 1) (pv 2) (fun _ _ => rfl)) (pa_cons (pv 3) pa_nil)))
        (pss_one (ps_expr (pe_bm PySem.F.plainAttrs_list PySem.F.slot_list_append PySem.F.type_list_append mt_append (pe_ix ix_list (pv 1) (pv 3) (fun _ _ => rfl)) (pa_cons (pv 2) pa_nil))))))
      (pss_one (ps_ret (pv 1)))), ?_⟩
    refine ⟨_, rfl, wb, [.int many, .ref t], 0, _, rfl, rfl, .inl (.inl h1), rfl, many, rfl, by omega, by omega, ?_⟩
    refine comp_range (n := many.toNat) (fun k ys H' => Same H H' ∧ ∃ ls : List Addr, ys = ls.map V.ref ∧ ls.length = k ∧ ls.Nodup ∧ ∀ l ∈ ls, H l = none ∧ H' l = some (.lst [])) ⟨Same.refl H, [], rfl, rfl, List.nodup_nil, fun l hl => by cases hl⟩ (fun k ys H' hk pv => ?_) (fun k ys H' hk pv => ?_) (fun ys H' pv p hp => ?_)
    · obtain ⟨_, ls, rfl, e, _⟩ := pv
      rw [List.length_map, e]
      exact Nat.le_of_lt (small1000 (by omega))
    · obtain ⟨e, ls, rfl, el, nd, ea⟩ := pv
      refine ⟨rfl, by show 0 ≤ sizeLine; decide, fun l hl => .mk hk ⟨e.trans (Same.upd hl), ls ++ [l], by simp, by simp [el], ?_, fun l' hl' => ?_⟩⟩
      · refine List.nodup_append.mpr ⟨nd, by simp, fun a ha b hb => ?_⟩
        have : b = l := by simpa using hb
        subst this
        exact ne_of_none (ea a ha).2 hl
      · rcases List.mem_append.mp hl' with hl' | hl'
        · exact ⟨(ea l' hl').1, Same.upd hl _ _ (ea l' hl').2⟩
        · have : l' = l := by simpa using hl'
          subst this
          exact ⟨e.free hl, upd_same⟩
    · obtain ⟨e, ls, rfl, el, nd, ea⟩ := pv
      have A0 : Adj H p ls [] (upd H' p (.lst (ls.map V.ref))) := by
        have np : ∀ l ∈ ls, l ≠ p := fun l hl => ne_of_none (ea l hl).2 hp
        refine ⟨e.trans (Same.upd hp), upd_same, nd, fun z => np p z rfl, e.free hp, fun l hl => (ea l hl).1, fun j l hj => ?_⟩
        have hl := List.mem_of_getElem? hj
        rw [upd_ne (np l hl)]
        exact (ea l hl).2
      have s0 := A0.same
      refine ⟨_, rfl, wb, [.int many, .ref t], 1, _, rfl, rfl, .inl (.inl (s0 _ _ h1)), rfl, t, rfl, ⟨bs, .inl (.inl (s0 _ _ h2))⟩, ?_⟩
      refine for_tup (K := K) (a := t) (xs := bs) (fun k σ H' => ∃ v2 v3, σ = [some (.ref wb), some (.ref p), v2, v3] ∧ Adj H p ls (ties.take k) H') ⟨none, none, rfl, A0⟩ (fun k σ H' hk ⟨_, _, _, A⟩ => .inl (.inl (A.same _ _ h2))) ?_ ?_
      · rintro k x σ H2 hk ⟨v2, v3, rfl, A⟩
        obtain ⟨tt, ht, a, rfl, ha⟩ := Paired.get h3 hk
        obtain ⟨g1, g2, g3⟩ := web.good tt (List.mem_of_getElem? ht)
        obtain ⟨na, ea'⟩ : ∃ n : Nat, tt.1 = n := ⟨tt.1.toNat, by omega⟩
        obtain ⟨nb', eb'⟩ : ∃ n : Nat, tt.2 = n := ⟨tt.2.toNat, by omega⟩
        have la : ls[na]? = some ls[na] := List.getElem?_eq_getElem (by omega)
        have lb : ls[nb']? = some ls[nb'] := List.getElem?_eq_getElem (by omega)
        have hla := A.lst na _ la
        have hlb := A.lst nb' _ lb
        have nab : ls[na] ≠ ls[nb'] := fun z => by
          have := A.inj la (z ▸ lb)
          omega
        have lenN : ∀ j : Int, (nb j (ties.take k)).length ≤ 60 := fun j => by
          have := nb_len j (ties.take k)
          rw [List.length_take] at this
          omega
        refine ⟨a, [.int tt.1, .int tt.2], rfl, .inl (.inl (A.same _ _ ha)), rfl, _, _, rfl, _, _, rfl, rfl, ?_⟩
        refine ⟨_, rfl, _, rfl, p, ls.map V.ref, tt.1, .ref ls[na], rfl, rfl, .inl (.inl A.at_), by rw [ea']; exact atI_nat (by rw [List.getElem?_map, la]; rfl), ?_⟩
        refine ⟨.inl ⟨rfl, _, .inl (.inl hla)⟩, _, rfl, ls[na], _, _, rfl, rfl, hla, small1000 (by rw [List.length_map]; have := lenN na; omega), ?_⟩
        have p2 : (upd H2 ls[na] (.lst ((nb na (ties.take k)).map V.int ++ [.int tt.2]))) p = some (.lst (ls.map V.ref)) := by
          rw [upd_ne (fun z : p = ls[na] => A.np (by rw [z]; exact List.getElem_mem _))]; exact A.at_
        have hlb2 : (upd H2 ls[na] (.lst ((nb na (ties.take k)).map V.int ++ [.int tt.2]))) ls[nb'] = some (.lst ((nb nb' (ties.take k)).map V.int)) := by
          rw [upd_ne (Ne.symm nab)]; exact hlb
        refine ⟨_, rfl, _, rfl, p, ls.map V.ref, tt.2, .ref ls[nb'], rfl, rfl, .inl (.inl p2), by rw [eb']; exact atI_nat (by rw [List.getElem?_map, lb]; rfl), ?_⟩
        refine ⟨.inl ⟨rfl, _, .inl (.inl hlb2)⟩, _, rfl, ls[nb'], _, _, rfl, rfl, hlb2, small1000 (by rw [List.length_map]; have := lenN nb'; omega), ?_⟩
        refine ⟨_, _, rfl, ?_⟩
        have st := A.step la lb (by omega)
        have e1 : ties.take (k + 1) = ties.take k ++ [((na : Int), (nb' : Int))] := by
          rw [List.take_add_one, ht]
          show _ ++ [tt] = _
          rw [← ea', ← eb']
        rw [e1, ea', eb']
        rw [List.map_append, List.map_append] at st
        exact st
      · rintro σ H2 ⟨v2, v3, rfl, A⟩
        refine ⟨_, rfl, q p ls H2 el ?_⟩
        rw [bl, List.take_length] at A
        exact A
def spCounts (K : PySem.W.Frag) : Sp := fun vs H Q _ => ∃ wb many ties, vs = [.ref wb] ∧ WebAt K H wb many ties ∧ 1 ≤ many ∧ many ≤ 40 ∧ ∀ p H', Same H H' → H' p = some (.tup ((List.range many.toNat).map fun j => V.int ((nb (j : Nat) ties).length : Nat))) → Q (.ref p) H'
theorem scCounts : FnScope ["web"] ["web"] (defScope (top 6)) := ⟨rfl, rfl, rfl, by decide +kernel, rfl, by decide +kernel, by decide +kernel⟩
def scCountsC : Scope := { kind := .function, names := [(".0", .local), ("others", .local), ("len", .globalImplicit)], isGenerator := false, isCoroutine := false, more := [] }
theorem bkCounts : BlkD (defScope (top 6)) ["web"] scCountsC ["web"] ["others"] := ⟨rfl, by decide +kernel, by decide +kernel, by decide +kernel, rfl, by decide +kernel, by decide +kernel, by decide +kernel, by decide +kernel⟩
theorem ok_counts (h : Has K mg "tie_counts" (top 6) ["web"]) (T : Txt mg) (G : Ok P w K mg base "tied_places" ["web"] 1 (spTied K)) : Ok P w K mg base "tie_counts" ["web"] 2 (spCounts K) := by
  refine h.ok scCounts (fun vs H Q E h => ?_) (fun f cdv A outer s H vs Q E hr h => ?_)
  · obtain ⟨wb, many, ties, rfl, _⟩ := h; rfl
  · obtain ⟨wb, many, ties, rfl, web, m0, m1, q⟩ := h
    refine ⟨_, pss_one (ps_ret (pe_callTy call_tuple_of (by rfl) T.tuple PyProof.Rows.boot_tuple (pa_cons
      (pe_comp (M := ["web"]) (tgs := ["others"]) rfl bkCounts.ok (pi_list (pe_callG G hr (by rfl) (pa_cons (pv 0) pa_nil)))
        (fun cl C fp s H => pg_name (i := 1) bkCounts.nd rfl (Or.inl rfl)) (fun cl C fp s H => pif0) (fun cl C fp s H => pe_callB (r := rLenS K) call_lenS (by rfl) T.len PySem.boot_len (pa_cons (pv 1) pa_nil))) pa_nil))), ?_⟩
    refine ⟨_, rfl, wb, many, ties, rfl, web, m0, m1, fun p ls H1 el A => ⟨p, rfl, ⟨_, .inl (.inl A.at_)⟩, ?_⟩⟩
    refine comp_lst (K := K) (a := p) (xs := ls.map V.ref) (fun k ys H' => Same H1 H' ∧ ys = (List.range k).map fun j => V.int ((nb (j : Nat) ties).length : Nat)) ⟨Same.refl _, rfl⟩ (fun k ys H' hk pv => ?_) (fun k x ys H' hx hk pv => ?_) (fun ys H' pv l hl => ?_)
    · obtain ⟨e, rfl⟩ := pv
      refine ⟨.inl (.inl (e _ _ A.at_)), Nat.le_of_lt (small1000 ?_)⟩
      rw [List.length_map, List.length_range]
      rw [List.length_map] at hk
      omega
    · obtain ⟨e, rfl⟩ := pv
      rw [List.getElem?_map] at hx
      cases hl : ls[k]? with
      | none => rw [hl] at hx; cases hx
      | some l =>
        rw [hl] at hx
        cases hx
        refine ⟨rfl, _, rfl, l, _, rfl, .inl (.inl (.inl (e _ _ (A.lst k l hl)))), .mk hk ⟨e, ?_⟩⟩
        rw [List.range_succ, List.map_append, List.length_map]
        rfl
    · obtain ⟨e, rfl⟩ := pv
      have el2 : (ls.map V.ref).length = many.toNat := by rw [List.length_map, el]
      rw [el2] at *
      refine ⟨l, _, rfl, .inl ⟨.inl (.inl upd_same), fun tp htp => q tp _ ?_ upd_same⟩⟩
      exact A.same.trans (e.trans ((Same.upd hl).trans (Same.upd htp)))
end
end K49

namespace K49
open PySem L2 PyProof.Rows
theorem allW {ds : List Dt} (h : ds.all isIntD = true) : ∃ ns : List Int, ds = ns.map Dt.int := by
  induction ds with
  | nil => exact ⟨[], rfl⟩
  | cons d ds ih =>
    rw [List.all_cons, Bool.and_eq_true] at h
    obtain ⟨i, rfl⟩ := isIntD_of h.1
    obtain ⟨ns, rfl⟩ := ih h.2
    exact ⟨i :: ns, rfl⟩
def cntL (ties : List (Int × Int)) (n : Nat) : List Int := (List.range n).map fun j => ((nb (j : Nat) ties).length : Nat)
theorem cntL_len (ties : List (Int × Int)) (n : Nat) : (cntL ties n).length = n := by unfold cntL; rw [List.length_map, List.length_range]
theorem cntL_get {ties : List (Int × Int)} {n j : Nat} (h : j < n) : (cntL ties n).getD j 0 = ((nb (j : Nat) ties).length : Nat) := by
  unfold cntL
  rw [List.getD_eq_getElem?_getD, List.getElem?_map, List.getElem?_range h]; rfl
theorem cntL_step {ties : List (Int × Int)} {n A B : Nat} (ha : A < n) (hb : B < n) (ne : A ≠ B) :
    ((cntL ties n).set A ((cntL ties n).getD A 0 + 1)).set B (((cntL ties n).set A ((cntL ties n).getD A 0 + 1)).getD B 0 + 1) = cntL (ties ++ [(((A : Nat) : Int), ((B : Nat) : Int))]) n := by
  have gB : ((cntL ties n).set A ((cntL ties n).getD A 0 + 1)).getD B 0 = (cntL ties n).getD B 0 := by
    rw [List.getD_eq_getElem?_getD, List.getElem?_set_ne ne, ← List.getD_eq_getElem?_getD]
  rw [gB, cntL_get ha, cntL_get hb]
  refine List.ext_getElem? fun j => ?_
  by_cases hj : j < n
  · have new : (cntL (ties ++ [(((A : Nat) : Int), ((B : Nat) : Int))]) n)[j]? = some (((nb (j : Nat) ties).length + (nb (j : Nat) [(((A : Nat) : Int), ((B : Nat) : Int))]).length : Nat) : Int) := by
      unfold cntL
      rw [List.getElem?_map, List.getElem?_range hj, Option.map_some, nb_append, List.length_append]
    have old : (cntL ties n)[j]? = some ((nb (j : Nat) ties).length : Nat) := by
      unfold cntL
      rw [List.getElem?_map, List.getElem?_range hj]; rfl
    rw [new]
    have one : (nb (j : Nat) [(((A : Nat) : Int), ((B : Nat) : Int))]) = (if ((j : Nat) : Int) = (A : Nat) then [((B : Nat) : Int)] else if ((j : Nat) : Int) = (B : Nat) then [((A : Nat) : Int)] else []) ++ [] := rfl
    rw [one, List.append_nil]
    by_cases jB : j = B
    · subst jB
      rw [List.getElem?_set_self (by rw [List.length_set, cntL_len]; exact hb), if_neg (by omega), if_pos rfl]
      simp
    · rw [List.getElem?_set_ne (Ne.symm jB)]
      by_cases jA : j = A
      · subst jA
        rw [List.getElem?_set_self (by rw [cntL_len]; exact ha), if_pos rfl]
        simp
      · rw [List.getElem?_set_ne (Ne.symm jA), old, if_neg (by omega), if_neg (by omega)]
        simp
  · rw [List.getElem?_eq_none (by rw [List.length_set, List.length_set, cntL_len]; omega), List.getElem?_eq_none (by rw [cntL_len]; omega)]
theorem cut_from {xs : List V} {r : Nat} (h : r ≤ xs.length) : cutV xs (some (r : Int)) none = xs.drop r := by
  unfold cutV
  rw [HT.sIx_nat, HT.sIx_none, Nat.min_eq_left h]
  exact List.take_of_length_le (by rw [List.length_drop]; exact Nat.le_refl _)
theorem at0 {x : V} {xs : List V} : atI (x :: xs) 0 = some x := atI_nat (j := 0) rfl
theorem at1 {x y : V} {xs : List V} : atI (x :: y :: xs) 1 = some y := atI_nat (j := 1) rfl
def flatD : Dt → Bool
  | .non => true | .bl _ => true | .int _ => true | .str _ => true | _ => false
def vOf : Dt → V
  | .non => .non | .bl b => .bl b | .int i => .int i | .str x => .str x | _ => .non
theorem rep_flat {K : PySem.W.Frag} {H : Hp} {d : Dt} {v : V} (f : flatD d = true) (r : Rep K H d v) : v = vOf d ∧ flatV (vOf d) = true := by
  cases d <;> first | (cases r; exact ⟨rfl, rfl⟩) | (exact absurd (show false = true from f) Bool.false_ne_true)
def HeadFT (d : Dt) : Prop := ∀ d0 ds, d = .tup (d0 :: ds) → flatD d0 = true ∨ ∃ es, d0 = .tup es
def formB (rows : List (List V)) : Dt → Bool
  | .tup (d0 :: ds) => (rows.any fun row => eqVs row [vOf d0, .int (ds.length : Nat)]) && ds.all isIntD
  | _ => false
theorem str_dt {s : Str} {d : Dt} (h : eqV (.str s) (vOf d) = true) : d = .str s := by
  cases d <;> first | (exact absurd (show false = true from h) Bool.false_ne_true) | skip
  rw [eq_of_beq (show (s == _) = true from h)]
theorem cnt_map (ties : List (Int × Int)) (n : Nat) : (List.range n).map (fun j => V.int ((nb (j : Nat) ties).length : Nat)) = (cntL ties n).map V.int := by unfold cntL; rw [List.map_map]; rfl
theorem repL_one {K : PySem.W.Frag} {H : Hp} {d : Dt} {xs : List V} (h : RepL K H [d] xs) : ∃ x, xs = [x] ∧ Rep K H d x := by
  match xs, h with
  | [x], h => exact ⟨x, rfl, h.1⟩
  | [], h => exact h.elim
  | _ :: _ :: _, h => exact h.2.elim
theorem repL_two {K : PySem.W.Frag} {H : Hp} {d e : Dt} {xs : List V} (h : RepL K H [d, e] xs) : ∃ x y, xs = [x, y] ∧ Rep K H d x ∧ Rep K H e y := by
  match xs, h with
  | [x, y], h => exact ⟨x, y, rfl, h.1, h.2.1⟩
  | [], h => exact h.elim
  | [_], h => exact h.2.elim
  | _ :: _ :: _ :: _, h => exact h.2.2.elim
def ifBody : Stmt → List Stmt
  | .If _ b _ _ => b
  | _ => []
def forBody : Stmt → List Stmt
  | .For _ _ b _ _ => b
  | _ => []
section
variable {P : Program} {w : World} {K : PySem.W.Frag} {mg : Str → Option Value} {base : Heap}
/-- rows of a word and a number -/
def FormRows (rows : List (List V)) : Prop := ∀ row ∈ rows, ∃ (x : Str) (m : Int), row = [.str x, .int m]
def spBF (K : PySem.W.Frag) : Sp := fun vs H Q _ => ∃ fm cs rows d v, vs = [.ref fm, v] ∧ SqT K H fm (List.map V.ref cs) ∧ cs.Nodup ∧ FormRows rows ∧ Flats K H rows cs ∧ Rep K H d v ∧ HeadFT d ∧ (∀ ds, d = .tup ds → ds.length ≤ 1000) ∧ ∀ H', Same H H' → Q (.bl (formB rows d)) H'
theorem scBF : FnScope ["forms", "thing"] ["forms", "thing"] (defScope (top 3)) := ⟨rfl, rfl, rfl, by decide +kernel, rfl, by decide +kernel, by decide +kernel⟩
def scBFC : Scope := { kind := .function, names := [(".0", .local), ("number", .local), ("is_whole", .globalImplicit)], isGenerator := false, isCoroutine := false, more := [] }
theorem bkBF : BlkD (defScope (top 3)) ["forms", "thing"] scBFC ["forms", "thing"] ["number"] := ⟨rfl, by decide +kernel, by decide +kernel, by decide +kernel, rfl, by decide +kernel, by decide +kernel, by decide +kernel, by decide +kernel⟩
theorem flats_same {H H' : Hp} {rows : List (List V)} {cs : List Addr} (s : Same H H') (h : Flats K H rows cs) : Flats K H' rows cs := Paired.mapP h fun _ _ ⟨a, b⟩ => ⟨s.tup a, b⟩
def rInX (K : PySem.W.Frag) : R2 := fun x y H Q => ∃ (a b : Addr) (v0 : V) (d0 : Dt) (n : Int) (rows : List (List V)) (cs : List Addr), x = .ref a ∧ y = .ref b ∧ SqT K H a [v0, .int n] ∧ Rep K H d0 v0 ∧ (flatD d0 = true ∨ ∃ es, d0 = .tup es) ∧ FormRows rows ∧ SqT K H b (cs.map V.ref) ∧ Flats K H rows cs ∧ cs.Nodup ∧ Q (.bl (rows.any fun row => eqVs row [vOf d0, .int n])) H
theorem eqVs_two {a b x y : V} : eqVs [a, b] [x, y] = (eqV a x && eqV b y) := by
  show ((List.range 2).all _ && _) = _
  simp [List.range, List.range.loop, eqVs]
theorem lk_mem {β : Type} : ∀ {l : List (Addr × β)} {a : Addr} {b : β}, l.lookup a = some b → (a, b) ∈ l
  | [], _, _, h => by simp at h
  | (c, d) :: l, a, b, h => by
    rw [List.lookup_cons] at h
    cases q : a == c with
    | true =>
      rw [q] at h
      have e : a = c := by simpa using q
      have : d = b := Option.some.inj h
      subst e this
      exact List.mem_cons_self
    | false => rw [q] at h; exact List.mem_cons_of_mem _ (lk_mem h)
theorem op_inX {X : Cx} (hu : X.A.units + 64 < cLine) : OpR X (compareOp .In) (rInX X.K) := by
  intro pins s σ H x y v u Q I rx ry h
  obtain ⟨a, b, v0, d0, n, rows, cs, rfl, rfl, ha, h0, hd, fr, hb, fl, nd, q⟩ := h
  rcases hd with hd | ⟨es, rfl⟩
  · obtain ⟨rfl, fx⟩ := rep_flat hd h0
    exact op_inF (show X.A.units + 1 < cLine by omega) pins s σ H _ _ v u Q I rx ry ⟨a, b, [vOf d0, .int n], rows, cs, rfl, rfl, ha, by show (flatV (vOf d0) && (true && true)) = true; rw [fx]; rfl, hb, fl, nd, q⟩
  · obtain ⟨p, xs, rfl, hp, _⟩ := h0
    cases rx
    cases ry
    have no : (rows.any fun row => eqVs row [vOf (.tup es), .int n]) = false := by
      rw [List.any_eq_false]
      intro row hr
      obtain ⟨x, m, rfl⟩ := fr row hr
      rw [eqVs_two]
      show ¬ (false && _) = true
      simp
    rw [no] at q
    obtain ⟨its, r, pl, _⟩ := I.tuple hb
    have e := vals_reft r
    subst e
    obtain ⟨ita, ra, pla, _⟩ := I.tuple ha
    obtain ⟨itp, rp, plp, _⟩ := I.tuple hp
    refine SeqAt.in_tupleAt (fun _ => false) pl (fun w hw => ?_) ⟨.bl _, H, I, rfl, ?_⟩
    · obtain ⟨c, hc, rfl⟩ := List.mem_map.mp (by simpa using hw)
      obtain ⟨row, e1, e2, e3⟩ := flats_at fl c hc
      have hrow : row ∈ rows := (List.of_mem_zip (lk_mem e1)).2
      obtain ⟨x, m, rfl⟩ := fr row hrow
      obtain ⟨itc, rc, plc, _⟩ := I.tuple e2
      have la := ra.length
      have lc := rc.length
      have nac : c ≠ a := fun z => by
        subst z
        have : ([V.str x, .int m] : List V) = [.ref p, .int n] := I.tuple_inj e2 ha
        cases this
      have z := SeqAt.EqAt.of_refs nac (SeqAt.RcAt.tuples (A := X.A.in1) (s := s) (show s.heap.IsTuple c itc.toArray from plc) (show s.heap.IsTuple a ita.toArray from pla) (by show X.A.units + 1 < cLine; omega) (e := fun j => if j = 0 then false else decide (m = n)) (fun j h1 h2 => by
        have h1' : j < itc.length := by simpa using h1
        have h2' : j < ita.length := by simpa using h2
        rcases (show j = 0 ∨ j = 1 by rw [← lc] at h1'; have : j < 2 := h1'; omega) with rfl | rfl
        · obtain ⟨u1, f1, t1, rfl⟩ := rc.get (i := 0) (x := .str x) rfl
          obtain ⟨u2, f2, rfl⟩ := ra.get (i := 0) (x := .ref p) rfl
          have g1 : itc.toArray[0] = .str x t1 := by rw [List.getElem?_eq_getElem h1'] at f1; simpa using Option.some.inj f1
          have g2 : ita.toArray[0] = .ref p := by rw [List.getElem?_eq_getElem h2'] at f2; simpa using Option.some.inj f2
          rw [g1, g2, if_pos rfl]
          exact SeqAt.EqAt.str_tuple x t1 (show s.heap.IsTuple p itp.toArray from plp) (by show X.A.units + 1 + 1 < cLine; omega)
        · obtain ⟨u1, f1, t1, rfl⟩ := rc.get (i := 1) (x := .int m) rfl
          obtain ⟨u2, f2, t2, rfl⟩ := ra.get (i := 1) (x := .int n) rfl
          have g1 : itc.toArray[1] = .int m t1 := by rw [List.getElem?_eq_getElem h1'] at f1; simpa using Option.some.inj f1
          have g2 : ita.toArray[1] = .int n t2 := by rw [List.getElem?_eq_getElem h2'] at f2; simpa using Option.some.inj f2
          rw [g1, g2, if_neg (by decide)]
          exact SeqAt.EqAt.int_int m t1 n t2))
      have e0 : ((List.range (min itc.toArray.size ita.toArray.size)).all (fun j => if j = 0 then false else decide (m = n)) && itc.toArray.size == ita.toArray.size) = false := by
        rw [List.size_toArray, List.size_toArray, ← la, ← lc]
        show ((List.range 2).all _ && _) = false
        simp [List.range, List.range.loop]
      rw [e0] at z
      exact z
    · have : (((cs.map Value.ref).toArray).any fun _ => false) = false := by simp
      rw [this]
      exact q
theorem ok_bf (h : Has K mg "bar_formed" (top 3) ["forms", "thing"]) (T : Txt mg) (GW : Ok P w K mg base "is_whole" ["thing"] 1 (spWhole K)) : Ok P w K mg base "bar_formed" ["forms", "thing"] 2 (spBF K) := by
  refine h.ok scBF (fun vs H Q E h => ?_) (fun f cdv A outer s H vs Q E hr h => ?_)
  · obtain ⟨fm, cs, rows, d, v, rfl, _⟩ := h; rfl
  · obtain ⟨fm, cs, rows, d, v, rfl, hf, nd, fr, fl, hd, hfl, l1000, q⟩ := h
    have hu := hr.units
    refine ⟨_, pss_cons (ps_if (PW.pt (pw_or (pt_not (pt_val (isi_t T (pv 1) (by rfl) (by rfl)))) (pw_or1 (pt_cmpR op_eq (pe_callB call_len_seq (by rfl) T.len PySem.boot_len (pa_cons (pv 1) pa_nil)) pe_int (nomark _))))) (pss_one (ps_ret pe_bl)) pss_nil)
      (pss_one (ps_ret (pe_and (pe_cmpR (op_inX hu) (pe_tup (pa_cons (pe_ix ix_tup (pv 1) pe_int (fun _ _ => rfl)) (pa_cons (pe_op op_sub (pe_callB call_len_seq (by rfl) T.len PySem.boot_len (pa_cons (pv 1) pa_nil)) pe_int) pa_nil))) (pv 0) rfl)
        (pe_one (pe_callB (call_all rfl) (by rfl) T.all PyProof.Rows.boot_all (pa_cons (pe_comp (M := ["forms", "thing"]) (tgs := ["number"]) rfl bkBF.ok (pi_tup (pe_slice sl_tupU (pv 1) (po_some pe_int) po_none)) (fun cl C fp s H => pg_name (i := 2) bkBF.nd rfl (Or.inl rfl)) (fun cl C fp s H => pif0)
          (fun cl C fp s H => pe_callG GW hr (by rfl) (pa_cons (pv 2) pa_nil))) pa_nil)))))), ?_⟩
    refine ⟨v, rfl, v, d.ty, "tuple", rfl, .inr (.inr (.inl rfl)), hd.kind, _, rfl, iteB (fun c => ?_) fun c => ?_⟩
    · have e : formB rows d = false := by cases d <;> first | rfl | exact absurd c (by simp [Dt.ty, isiB])
      have := q H (Same.refl H)
      rw [e] at this
      exact iteT this
    obtain ⟨ds, rfl⟩ := isi_tup (by simpa using c)
    obtain ⟨p, xs, rfl, hx, hl⟩ := hd
    have lx := hl.len
    have l1 := l1000 ds rfl
    refine ⟨_, rfl, p, xs, rfl, .inr hx, rfl, _, rfl, ?_⟩
    cases ds with
    | nil =>
      have : xs = [] := List.length_eq_zero_iff.mp lx.symm
      subst this
      exact iteB (fun _ => q H (Same.refl H)) fun c => absurd c (by decide)
    | cons d0 ds =>
      cases xs with
      | nil => cases lx
      | cons x0 xs =>
        obtain ⟨h0, hl'⟩ := hl
        have lx' := hl'.len
        rw [decide_eq_false (fun z => by have z := V.int.inj z; rw [List.length_cons] at z; omega)]
        refine iteB (fun c => absurd c (by decide)) fun _ => ?_
        refine ⟨_, rfl, p, _, 0, _, rfl, rfl, hx, at0, _, rfl, p, _, rfl, .inr hx, _, _, rfl, rfl, by show 2 ≤ sizeLine; decide, fun a ha => ?_⟩
        have b1 := Same.upd (o := .tup [x0, .int (((x0 :: xs).length : Nat) - 1)]) ha
        refine ⟨_, rfl, a, fm, x0, d0, ((ds.length : Nat) : Int), rows, cs, rfl, rfl, .inl (.inl ?_), b1.rep h0, hfl d0 ds rfl, fr, b1.tup hf, flats_same b1 fl, nd, _, rfl, ?_⟩
        · rw [upd_same]
          show some (HO.tup [x0, V.int (((xs.length + 1 : Nat) : Int) - 1)]) = _
          rw [show (((xs.length + 1 : Nat) : Int) - 1) = ((ds.length : Nat) : Int) by omega]
        have q' : ∀ H', Same H H' → Q (.bl ((rows.any fun row => eqVs row [vOf d0, .int (ds.length : Nat)]) && ds.all isIntD)) H' := q
        cases cr : rows.any fun row => eqVs row [vOf d0, .int (ds.length : Nat)] with
        | false =>
          rw [cr] at q'
          exact iteB (fun c => absurd c (by decide)) fun _ => q' _ b1
        | true =>
          rw [cr] at q'
          refine iteB (fun _ => ?_) fun c => absurd c (by decide)
          refine ⟨_, rfl, _, rfl, p, _, rfl, b1.tup hx, fun y H2 hy s2 => ?_⟩
          rw [show (some (1 : Int)) = some ((1 : Nat) : Int) from rfl, cut_from (by rw [List.length_cons]; omega)] at hy
          have hy : SqT K H2 y xs := hy
          have s12 := b1.trans s2
          refine ⟨y, rfl, ⟨_, hy⟩, comp_tup (K := K) (a := y) (xs := xs) (fun i ys H' => Same H2 H' ∧ ys = ((ds.map isIntD).take i).map V.bl) ⟨Same.refl _, rfl⟩ (fun i ys H' hi pv => ?_) (fun i x ys H' hx' hi pv => ?_) (fun ys H' pv l hl2 => ?_)⟩
          · obtain ⟨e, rfl⟩ := pv
            refine ⟨e.tup hy, Nat.le_of_lt (small1000 ?_)⟩
            rw [List.length_map, List.length_take, List.length_map]
            rw [List.length_cons] at l1
            omega
          · obtain ⟨e, rfl⟩ := pv
            obtain ⟨d, e1, e2⟩ := hl'.get hx'
            refine ⟨rfl, _, rfl, d, x, rfl, (s12.trans e).rep e2, .mk hi ⟨e, ?_⟩⟩
            have : (ds.map isIntD)[i]? = some (isIntD d) := by rw [List.getElem?_map, e1]; rfl
            rw [List.take_add_one, this]
            simp
          · obtain ⟨e, rfl⟩ := pv
            rw [List.take_of_length_le (by rw [List.length_map]; omega)]
            refine ⟨l, ds.map isIntD, rfl, .inl (.inl upd_same), ?_⟩
            have ea : (ds.map isIntD).all id = ds.all isIntD := by rw [List.all_map]; rfl
            rw [ea]
            exact q' _ (s12.trans (e.trans (Same.upd hl2)))
def spCL (K : PySem.W.Frag) : Sp := fun vs H Q _ => ∃ wb many ties, vs = [.ref wb] ∧ WebAt K H wb many ties ∧ 1 ≤ many ∧ many ≤ 40 ∧ ∀ l H', Same H H' → H' l = some (.lst ((cntL ties many.toNat).map V.int)) → Q (.ref l) H'
def hbN : List Str := ["web", "counts", "one", "other"]
def spPlace (K : PySem.W.Frag) : Sp := fun vs H Q _ => ∃ d v m, vs = [.int m, v] ∧ Rep K H d v ∧ Q (.bl (within d 0 (m - 1))) H
end
end K49

namespace K49
open PySem L2 PyProof.Rows
def allS (ties : List (Int × Int)) (n : Nat) (s : Int) : Bool := (cntL ties n).all fun c => decide ((c - 1) % s = 0)
def numN (many : Int) (ties : List (Int × Int)) : Int := many + (ties.length : Nat)
def shareB (many : Int) (ties : List (Int × Int)) (s : Int) : Bool := decide (2 ≤ s) && (decide (((ties.length : Nat) : Int) % s = 0) && (!decide (numN many ties * (numN many ties + 1) / 2 % s = 0) && allS ties many.toNat s))
def tiesB (many : Int) (ties : List (Int × Int)) : Bool := decide (((ties.length : Nat) : Int) > 2 * many - 3)
def TB (many : Int) (ties : List (Int × Int)) (d : Dt) : Prop := (d = .tup [.str "ties"] ∧ tiesB many ties = true) ∨ ∃ s, d = .tup [.str "share", .int s] ∧ shareB many ties s = true
theorem tb_ties {many : Int} {ties : List (Int × Int)} : TB many ties (.tup [.str "ties"]) ↔ tiesB many ties = true := by
  constructor
  · rintro (⟨_, h⟩ | ⟨s, e, _⟩)
    · exact h
    · cases e
  · intro h; exact .inl ⟨rfl, h⟩
theorem tb_share {many : Int} {ties : List (Int × Int)} {s : Int} : TB many ties (.tup [.str "share", .int s]) ↔ shareB many ties s = true := by
  constructor
  · rintro (⟨e, _⟩ | ⟨s', e, h⟩)
    · cases e
    · cases e; exact h
  · intro h; exact .inr ⟨s, rfl, h⟩
def tForms : List (List V) := [[.str "share", .int 1], [.str "ties", .int 0]]
theorem tForms_rows : FormRows tForms := fun row h => by
  rcases List.mem_cons.mp h with rfl | h
  · exact ⟨_, _, rfl⟩
  · rcases List.mem_cons.mp h with rfl | h
    · exact ⟨_, _, rfl⟩
    · cases h
theorem form_is {d : Dt} (h : formB tForms d = true) : (∃ k : Int, d = .tup [.str "share", .int k]) ∨ d = .tup [.str "ties"] := by
  cases d with
  | tup ds =>
    cases ds with
    | nil => cases h
    | cons d0 ds =>
      have h : ((tForms.any fun row => eqVs row [vOf d0, .int (ds.length : Nat)]) && ds.all isIntD) = true := h
      rw [Bool.and_eq_true] at h
      obtain ⟨h1, h2⟩ := h
      obtain ⟨ns, rfl⟩ := allW h2
      unfold tForms at h1
      simp only [List.any_cons, List.any_nil, Bool.or_false, Bool.or_eq_true, eqVs_two, Bool.and_eq_true] at h1
      rcases h1 with ⟨e1, e2⟩ | ⟨e1, e2⟩
      · have e1 := str_dt e1
        subst e1
        have e2 : (1 : Int) = ((ns.map Dt.int).length : Nat) := by simpa [eqV] using e2
        rw [List.length_map] at e2
        match ns, e2 with
        | [k], _ => exact .inl ⟨k, rfl⟩
        | [], e => exact absurd e (by decide)
        | _ :: _ :: _, e => exact absurd e (by simp only [List.length_cons]; omega)
      · have e1 := str_dt e1
        subst e1
        have e2 : (0 : Int) = ((ns.map Dt.int).length : Nat) := by simpa [eqV] using e2
        rw [List.length_map] at e2
        match ns, e2 with
        | [], _ => exact .inr rfl
        | _ :: _, e => exact absurd e (by simp only [List.length_cons]; omega)
  | _ => cases h
theorem form_no {many : Int} {ties : List (Int × Int)} {d : Dt} (h : formB tForms d = false) : ¬ TB many ties d := by
  rintro (⟨rfl, _⟩ | ⟨k, rfl, _⟩)
  · exact absurd h (by
      have : formB tForms (.tup [.str "ties"]) = true := rfl
      rw [this]; decide)
  · exact absurd h (by
      have : formB tForms (.tup [.str "share", .int k]) = true := rfl
      rw [this]; decide)
section
variable {P : Program} {w : World} {K : PySem.W.Frag} {mg : Str → Option Value} {base : Heap}
/-! ### share_bars_totals -/
def spST (K : PySem.W.Frag) : Sp := fun vs H Q _ => ∃ wb many ties s, vs = [.ref wb, .int s] ∧ WebAt K H wb many ties ∧ 1 ≤ many ∧ many ≤ 40 ∧ ∀ H', Same H H' → Q (.bl (shareB many ties s)) H'
def stN : List Str := ["web", "share", "numbers"]
theorem scSt : FnScope stN ["web", "share"] (defScope (top 11)) := ⟨rfl, rfl, rfl, by decide +kernel, rfl, by decide +kernel, by decide +kernel⟩
def scStC : Scope := { kind := .function, names := [(".0", .local), ("count", .local), ("share", .free)], isGenerator := false, isCoroutine := false, more := [] }
theorem bkSt : BlkD (defScope (top 11)) stN scStC stN ["count"] := ⟨rfl, by decide +kernel, by decide +kernel, by decide +kernel, rfl, by decide +kernel, by decide +kernel, by decide +kernel, by decide +kernel⟩
theorem decI {x y : Int} : decide (V.int x = V.int y) = decide (x = y) := decide_eq_decide.mpr ⟨fun h => V.int.inj h, fun h => by rw [h]⟩
theorem ok_st (h : Has K mg "share_bars_totals" (top 11) ["web", "share"]) (T : Txt mg) (GC : Ok P w K mg base "tie_counts" ["web"] 2 (spCounts K)) : Ok P w K mg base "share_bars_totals" ["web", "share"] 3 (spST K) := by
  refine h.ok scSt (fun vs H Q E h => ?_) (fun f cdv A outer s H vs Q E hr h => ?_)
  · obtain ⟨wb, many, ties, k, rfl, _⟩ := h; rfl
  · obtain ⟨wb, many, ties, k, rfl, web, m1, m40, q⟩ := h
    obtain ⟨t, bs, o1, o2, o3⟩ := web.at_
    have bl : bs.length = ties.length := Paired.length o3
    have t60 := web.len
    refine ⟨_, pss_cons (ps_set (i := 2) scSt.nd rfl (Or.inl rfl) (pe_op op_add (pe_ix ix_tup (pv 0) pe_int (fun _ _ => rfl)) (pe_callB call_len_seq (by rfl) T.len PySem.boot_len (pa_cons (pe_ix ix_tup (pv 0) pe_int (fun _ _ => rfl)) pa_nil))))
      (pss_cons (ps_if (PW.pt (pw_or (pt_cmpR op_lt (pv 1) pe_int (nomark _)) (pw_or (pt_cmpR op_ne (pe_op op_mod (pe_callB call_len_seq (by rfl) T.len PySem.boot_len (pa_cons (pe_ix ix_tup (pv 0) pe_int (fun _ _ => rfl)) pa_nil)) (pv 1)) pe_int (nomark _)) (pw_or1 (pt_cmpR op_eq (pe_op op_mod (pe_op op_fdiv (pe_op op_mul (pv 2) (pe_op op_add (pv 2) pe_int)) pe_int) (pv 1)) pe_int (nomark _)))))) (pss_one (ps_ret pe_bl)) pss_nil)
      (pss_one (ps_ret (pe_callB (call_all rfl) (by rfl) T.all PyProof.Rows.boot_all (pa_cons (pe_comp (M := stN) (tgs := ["count"]) rfl bkSt.ok (pi_tup (pe_callG GC hr (by rfl) (pa_cons (pv 0) pa_nil))) (fun cl C fp s H => pg_name (i := 3) bkSt.nd rfl (Or.inl rfl)) (fun cl C fp s H => pif0)
        (fun cl C fp s H => pe_cmpR op_eq (pe_op op_mod (pe_op op_sub (pv 3) pe_int) (pv 1)) pe_int (nomark _))) pa_nil))))), ?_⟩
    have w0 : SqT K H wb [.int many, .ref t] := .inl (.inl o1)
    refine ⟨_, rfl, wb, _, 0, _, rfl, rfl, w0, rfl, _, rfl, wb, _, 1, _, rfl, rfl, w0, rfl, t, _, rfl, .inr (.inl (.inl o2)), _, _, rfl, rfl, ?_⟩
    refine ⟨_, rfl, _, _, rfl, rfl, _, rfl, iteB (fun c1 => ?_) fun c1 => ?_⟩
    · have c1 : k < 2 := of_decide_eq_true c1
      have fin := q H (Same.refl _)
      unfold shareB at fin
      rw [decide_eq_false (by omega), Bool.false_and] at fin
      exact iteT fin
    have c1 : ¬ k < 2 := of_decide_eq_false c1
    have kp : (0 : Int) < k := by omega
    refine ⟨_, rfl, wb, _, 1, _, rfl, rfl, w0, rfl, t, _, rfl, .inr (.inl (.inl o2)), _, rfl, _, _, rfl, rfl, kp, rfl, _, rfl, ?_⟩
    rw [decI, bl]
    have fin : ∀ H', Same H H' → Q (.bl (decide (((ties.length : Nat) : Int) % k = 0) && (!decide (numN many ties * (numN many ties + 1) / 2 % k = 0) && allS ties many.toNat k))) H' := fun H' s' => by
      have := q H' s'
      unfold shareB at this
      rw [decide_eq_true (by omega), Bool.true_and] at this
      exact this
    by_cases c2 : ((ties.length : Nat) : Int) % k = 0
    · rw [decide_eq_true c2] at fin ⊢
      refine iteF ?_
      refine ⟨_, rfl, _, rfl, _, _, rfl, rfl, _, _, rfl, rfl, .inl ⟨by omega, by omega⟩, _, _, rfl, rfl, show (0 : Int) < 2 ∧ (2 : Int) < 1073741824 by decide, _, rfl, _, _, rfl, rfl, kp, rfl, _, rfl, ?_⟩
      rw [decI]
      show if decide (numN many ties * (numN many ties + 1) / 2 % k = 0) = true then _ else _
      by_cases c3 : numN many ties * (numN many ties + 1) / 2 % k = 0
      · rw [decide_eq_true c3] at fin ⊢
        exact iteT (fin H (Same.refl _))
      · rw [decide_eq_false c3] at fin ⊢
        refine iteF ⟨_, rfl, wb, many, ties, rfl, web, m1, m40, fun c H3 s3 hc => ?_⟩
        rw [cnt_map] at hc
        have lc := cntL_len ties many.toNat
        refine ⟨c, rfl, ⟨_, .inl (.inl hc)⟩, comp_tup (K := K) (a := c) (xs := (cntL ties many.toNat).map V.int) (fun i ys H' => Same H3 H' ∧ ys = (((cntL ties many.toNat).map fun c => decide ((c - 1) % k = 0)).take i).map V.bl) ⟨Same.refl _, rfl⟩ (fun i ys H' hi pv => ?_) (fun i x ys H' hx hi pv => ?_) (fun ys H' pv l hl => ?_)⟩
        · obtain ⟨e, rfl⟩ := pv
          refine ⟨.inl (.inl (e _ _ hc)), Nat.le_of_lt (small1000 ?_)⟩
          rw [List.length_map, List.length_take, List.length_map, lc]
          omega
        · obtain ⟨e, rfl⟩ := pv
          rw [List.getElem?_map] at hx
          obtain ⟨z, hz, rfl⟩ := Option.map_eq_some_iff.mp hx
          refine ⟨rfl, _, rfl, _, _, rfl, rfl, _, rfl, _, _, rfl, rfl, kp, rfl, .mk hi ⟨e, ?_⟩⟩
          have : ((cntL ties many.toNat).map fun c => decide ((c - 1) % k = 0))[i]? = some (decide ((z - 1) % k = 0)) := by rw [List.getElem?_map, hz]; rfl
          rw [List.take_add_one, this, List.map_append]
          refine congrArg (_ ++ ·) ?_
          show [V.bl (decide (V.int ((z - 1) % k) = V.int 0))] = [V.bl (decide ((z - 1) % k = 0))]
          rw [decI]
        · obtain ⟨e, rfl⟩ := pv
          rw [List.take_of_length_le (by rw [List.length_map, List.length_map]; exact Nat.le_refl _)]
          refine ⟨l, _, rfl, .inl (.inl upd_same), ?_⟩
          have ea : (((cntL ties many.toNat).map fun c => decide ((c - 1) % k = 0)).all id) = allS ties many.toNat k := by unfold allS; rw [List.all_map]; rfl
          rw [ea]
          exact fin _ (s3.trans (e.trans (Same.upd hl)))
    · rw [decide_eq_false c2] at fin ⊢
      exact iteT (iteT (fin H (Same.refl _)))
/-! ### total_bar_holds -/
structure Forms (K : PySem.W.Frag) (mg : Str → Option Value) : Prop where
  ex : ∃ B cs, mg "TOTAL_FORMS" = some (.ref B) ∧ cs.Nodup ∧ ∀ H, SqT K H B (cs.map V.ref) ∧ Flats K H tForms cs
def spTH (K : PySem.W.Frag) : Sp := fun vs H Q _ => ∃ wb many ties d v, vs = [.ref wb, v] ∧ WebAt K H wb many ties ∧ 1 ≤ many ∧ many ≤ 40 ∧ Rep K H d v ∧ HeadFT d ∧ (∀ ds, d = .tup ds → ds.length ≤ 1000) ∧ (TB many ties d → ∀ H', Same H H' → Q (.bl true) H') ∧ (¬ TB many ties d → ∀ H', Same H H' → Q (.bl false) H')
theorem scTh : FnScope ["web", "thing"] ["web", "thing"] (defScope (top 10)) := ⟨rfl, rfl, rfl, by decide +kernel, rfl, by decide +kernel, by decide +kernel⟩
theorem ok_th (h : Has K mg "total_bar_holds" (top 10) ["web", "thing"]) (T : Txt mg) (FF : Forms K mg) (GB : Ok P w K mg base "bar_formed" ["forms", "thing"] 2 (spBF K)) (GS : Ok P w K mg base "share_bars_totals" ["web", "share"] 3 (spST K)) : Ok P w K mg base "total_bar_holds" ["web", "thing"] 4 (spTH K) := by
  refine h.ok scTh (fun vs H Q E h => ?_) (fun f cdv A outer s H vs Q E hr h => ?_)
  · obtain ⟨wb, many, ties, d, v, rfl, _⟩ := h; rfl
  · obtain ⟨wb, many, ties, d, v, rfl, web, m1, m40, hd, hfl, l1000, q1, q2⟩ := h
    obtain ⟨B, cs, hm, nd, sq⟩ := FF.ex
    have r2 := hr.mono (show 2 ≤ 3 by decide)
    obtain ⟨t, bs, o1, o2, o3⟩ := web.at_
    have bl : bs.length = ties.length := Paired.length o3
    refine ⟨_, pss_cons (ps_if (pt_not (pt_val (pe_callG GB r2 (by rfl) (pa_cons (pe_glob (v := .ref B) (by rfl) hm rfl) (pa_cons (pv 1) pa_nil))))) (pss_one (ps_ret pe_bl)) pss_nil)
      (pss_cons (ps_if (pt_cmpR op_eq (pe_ix ix_tup (pv 1) pe_int (fun _ _ => rfl)) pe_str (nomark _)) (pss_one (ps_ret (pe_cmpR op_gt (pe_callB call_len_seq (by rfl) T.len PySem.boot_len (pa_cons (pe_ix ix_tup (pv 0) pe_int (fun _ _ => rfl)) pa_nil)) (pe_op op_sub (pe_op op_mul pe_int (pe_ix ix_tup (pv 0) pe_int (fun _ _ => rfl))) pe_int) (nomark _)))) pss_nil)
      (pss_one (ps_ret (pe_callG GS hr (by rfl) (pa_cons (pv 0) (pa_cons (pe_ix ix_tup (pv 1) pe_int (fun _ _ => rfl)) pa_nil)))))), ?_⟩
    refine ⟨_, rfl, B, cs, tForms, d, v, rfl, (sq H).1, nd, tForms_rows, (sq H).2, hd, hfl, l1000, fun H2 s2 => ⟨_, rfl, ?_⟩⟩
    have w0 : SqT K H2 wb [.int many, .ref t] := .inl (.inl (s2 _ _ o1))
    cases hf : formB tForms d with
    | false => exact iteT (q2 (form_no hf) H2 s2)
    | true =>
      refine iteF ?_
      rcases form_is hf with ⟨k, rfl⟩ | rfl
      · obtain ⟨p, xs, rfl, hx, hl⟩ := s2.rep hd
        obtain ⟨x, y, rfl, h1, h2⟩ := repL_two hl
        cases h1
        cases h2
        refine ⟨_, rfl, p, _, 0, _, rfl, rfl, hx, at0, rfl, _, rfl, iteF ?_⟩
        refine ⟨_, rfl, _, rfl, p, _, 1, _, rfl, rfl, hx, at1, wb, many, ties, k, rfl, web.keep s2.tups, m1, m40, fun H3 s3 => ?_⟩
        cases cs : shareB many ties k with
        | true => exact q1 (tb_share.mpr cs) H3 (s2.trans s3)
        | false => exact q2 (fun z => by rw [tb_share.mp z] at cs; cases cs) H3 (s2.trans s3)
      · obtain ⟨p, xs, rfl, hx, hl⟩ := s2.rep hd
        obtain ⟨x, rfl, h1⟩ := repL_one hl
        cases h1
        refine ⟨_, rfl, p, _, 0, _, rfl, rfl, hx, at0, rfl, _, rfl, iteT ?_⟩
        refine ⟨_, rfl, wb, _, 1, _, rfl, rfl, w0, rfl, t, _, rfl, .inr (.inl (.inl (s2 _ _ o2))), _, rfl, wb, _, 0, _, rfl, rfl, w0, rfl, _, _, rfl, rfl, .inl ⟨by decide, by decide⟩, _, _, rfl, rfl, _, _, rfl, rfl, ?_⟩
        rw [bl]
        cases cs : tiesB many ties with
        | true =>
          have := q1 (tb_ties.mpr cs) H2 s2
          rw [← cs] at this
          exact this
        | false =>
          have := q2 (fun z => by rw [tb_ties.mp z] at cs; cases cs) H2 s2
          rw [← cs] at this
          exact this
end
end K49

namespace K49
open PySem L2 PyProof.Rows
def showB (d : PyData) : Bool := d.showable && !d.hasDict && decide (d.shown.length ≤ 100) && decide (d.depth ≤ 40)
theorem showB_y {d : PyData} (h : showB d = true) : Showy d := by
  unfold showB at h
  simp only [Bool.and_eq_true, Bool.not_eq_true', decide_eq_true_eq] at h
  exact ⟨h.1.1.1, .inr h.1.1.2, Nat.le_trans h.1.2 (by show 100 ≤ 2 ^ 24; decide), by omega⟩
theorem join_le : ∀ (ts : List Str), (∀ t ∈ ts, t.length ≤ 100) → (Str.join ", " ts).length ≤ 102 * ts.length
  | [], _ => by decide
  | [t], h => by
    have := h t List.mem_cons_self
    show t.length ≤ 102 * 1
    omega
  | t :: u :: ts, h => by
    have h1 := h t List.mem_cons_self
    have h2 := join_le (u :: ts) fun x hx => h x (List.mem_cons_of_mem _ hx)
    show (t ++ ", " ++ Str.join ", " (u :: ts)).length ≤ _
    rw [Str.length_append, Str.length_append, List.length_cons]
    have : (", " : Str).length = 2 := by decide
    omega
theorem list_showy {ds : List PyData} (h : ∀ d ∈ ds, showB d = true) (hl : ds.length ≤ 100) : Showy (.list ds) := by
  have all : ∀ ds : List PyData, (∀ d ∈ ds, showB d = true) → PyData.showableAll ds = true ∧ PyData.hasDictAll ds = false ∧ PyData.depthAll ds ≤ 40 ∧ ∀ t ∈ PyData.shownAll ds, t.length ≤ 100 := by
    intro ds
    induction ds with
    | nil => intro _; exact ⟨by simp [PyData.showableAll], by simp [PyData.hasDictAll], by simp [PyData.depthAll], fun t ht => by simp [PyData.shownAll] at ht⟩
    | cons d ds ih =>
      intro h
      obtain ⟨i1, i2, i3, i4⟩ := ih fun x hx => h x (List.mem_cons_of_mem _ hx)
      have hd := h d List.mem_cons_self
      unfold showB at hd
      simp only [Bool.and_eq_true, Bool.not_eq_true', decide_eq_true_eq] at hd
      obtain ⟨⟨⟨h1, h2⟩, h3⟩, h4⟩ := hd
      refine ⟨by simp [PyData.showableAll, h1, i1], by simp [PyData.hasDictAll, h2, i2], by simp only [PyData.depthAll]; omega, fun t ht => ?_⟩
      rw [PyData.shownAll_cons] at ht
      rcases List.mem_cons.mp ht with rfl | ht
      · exact h3
      · exact i4 t ht
  obtain ⟨a1, a2, a3, a4⟩ := all ds h
  refine ⟨by simp only [PyData.showable]; exact a1, .inr (by simp only [PyData.hasDict]; exact a2), ?_, by simp only [PyData.depth]; omega⟩
  rw [PyData.shown_list, Str.length_append, Str.length_append]
  have := join_le _ a4
  rw [PyData.shownAll_length] at this
  have e1 : ("[" : Str).length = 1 := by decide
  have e2 : ("]" : Str).length = 1 := by decide
  show _ ≤ 2 ^ 24
  omega
end K49

namespace K49
open PySem L2 PyProof.Rows
def shD (k : Nat) : PyData := .tuple [.str "share", .int ((2 + k : Nat) : Int)]
def shP (n : Nat) : List PyData := (List.range n).map shD
def tiesP : PyData := .tuple [.str "ties"]
theorem shP_succ (n : Nat) : shP (n + 1) = shP n ++ [shD n] := by unfold shP; rw [List.range_succ, List.map_append]; rfl
theorem shP_len (n : Nat) : (shP n).length = n := by unfold shP; rw [List.length_map, List.length_range]
noncomputable def tbB (many : Int) (ties : List (Int × Int)) (y : PyData) : Bool := @decide (TB many ties (PyDt y)) (Classical.propDecidable _)
theorem tbB_t {many : Int} {ties : List (Int × Int)} {y : PyData} (h : TB many ties (PyDt y)) : tbB many ties y = true := @decide_eq_true _ (Classical.propDecidable _) h
theorem tbB_f {many : Int} {ties : List (Int × Int)} {y : PyData} (h : ¬ TB many ties (PyDt y)) : tbB many ties y = false := @decide_eq_false _ (Classical.propDecidable _) h
theorem py_sh (k : Nat) : PyDt (shD k) = .tup [.str "share", .int ((2 + k : Nat) : Int)] := by unfold shD; simp [PyDt]
theorem py_ti : PyDt tiesP = .tup [.str "ties"] := by unfold tiesP; simp [PyDt]
/-- what is asked of a thing -/
def factB (y : PyData) : Bool := (y.showable && (y.hasDict == false || (match y with | .dict [] => true | _ => false)) && decide (y.shown.length ≤ 100) && decide (y.depth ≤ 40)) && (decide (V.str y.shown = V.str "('ties',)") == eqW "ties" y) &&
  (match y with | .tuple [h, _] => showB h && (decide (V.str h.shown = V.str "'share'") == eqE "share" h) | _ => true) && (match y with | .tuple (h :: _) => (match h with | .list _ => false | .dict _ => false | _ => true) | _ => true) && (match y with | .tuple ds => decide (ds.length ≤ 3) | _ => true)
theorem fact_show {y : PyData} (h : factB y = true) : Showy y := by
  unfold factB at h
  simp only [Bool.and_eq_true, Bool.or_eq_true, beq_iff_eq, decide_eq_true_eq] at h
  obtain ⟨⟨⟨⟨⟨⟨⟨h1, h2⟩, h3⟩, h4⟩, _⟩, _⟩, _⟩, _⟩ := h
  refine ⟨h1, ?_, Nat.le_trans h3 (by show 100 ≤ 2 ^ 24; decide), by omega⟩
  rcases h2 with h2 | h2
  · exact .inr h2
  · left
    split at h2
    · rfl
    · cases h2
theorem fact_ties {y : PyData} (h : factB y = true) : decide (V.str y.shown = V.str "('ties',)") = eqW "ties" y := by
  unfold factB at h
  simp only [Bool.and_eq_true, beq_iff_eq] at h
  exact h.1.1.1.2
theorem fact_head {d0 d1 : PyData} (h : factB (.tuple [d0, d1]) = true) : Showy d0 ∧ decide (V.str d0.shown = V.str "'share'") = eqE "share" d0 := by
  unfold factB at h
  simp only [Bool.and_eq_true, beq_iff_eq] at h
  exact ⟨showB_y h.1.1.2.1, h.1.1.2.2⟩
theorem fact_ft {y : PyData} (h : factB y = true) : HeadFT (PyDt y) ∧ ∀ ds, PyDt y = .tup ds → ds.length ≤ 1000 := by
  unfold factB at h
  simp only [Bool.and_eq_true] at h
  obtain ⟨⟨_, h1⟩, h2⟩ := h
  cases y with
  | tuple ds =>
    have e : PyDt (.tuple ds) = .tup (ds.map PyDt) := by simp [PyDt]
    rw [e]
    refine ⟨fun d0 es z => ?_, fun es z => ?_⟩
    · cases ds with
      | nil => cases z
      | cons a ds =>
        have z := (List.cons.inj (Dt.tup.inj z)).1
        subst z
        cases a with
        | list _ => cases h1
        | dict _ => cases h1
        | tuple es => exact .inr ⟨_, by simp only [PyDt]; rfl⟩
        | _ => exact .inl (by simp only [PyDt]; rfl)
    · rw [← Dt.tup.inj z, List.length_map]
      have : ds.length ≤ 3 := of_decide_eq_true h2
      omega
  | _ => exact ⟨fun d0 es z => by simp [PyDt] at z, fun es z => by simp [PyDt] at z⟩
section
variable {P : Program} {w : World} {K : PySem.W.Frag} {mg : Str → Option Value} {base : Heap}
theorem repP_2 {H : Hp} {a : Addr} {x : Str} {i : Int} (e : H a = some (.tup [.str x, .int i])) : RepP K H (.tuple [.str x, .int i]) (.ref a) := ⟨a, [.str x, .int i], rfl, .inl (.inl e), rfl, rfl, trivial⟩
theorem repP_1 {H : Hp} {a : Addr} {x : Str} (e : H a = some (.tup [.str x])) : RepP K H (.tuple [.str x]) (.ref a) := ⟨a, [.str x], rfl, .inl (.inl e), rfl, trivial⟩
theorem repPL_app {H : Hp} : ∀ {ds es : List PyData} {xs ys : List V}, RepPL K H ds xs → RepPL K H es ys → RepPL K H (ds ++ es) (xs ++ ys)
  | [], _, [], _, _, h => h
  | _ :: _, _, _ :: _, _, h, h' => ⟨h.1, repPL_app h.2 h'⟩
  | [], _, _ :: _, _, h, _ => h.elim
  | _ :: _, _, [], _, h, _ => h.elim
theorem share_comp {n m : Nat} {lo hi : Int} {te : TE} {σ : L2.St} {H : Hp} {Q : VK} (hn : σ.length = m) (n61 : n ≤ 61) (h1 : lo = 2) (h2 : (hi - lo).toNat = n)
    (step : ∀ (k : Nat) H' (Q' : VK), Same H H' → (∀ y H'', Same H' H'' → H'' y = some (.tup [.str "share", .int ((2 + k : Nat) : Int)]) → Q' (.ref y) H'') → te (σ ++ [some (.int ((2 + k : Nat) : Int))]) H' Q')
    (fin : ∀ ys H', Same H H' → ys.length = n → RepPL K H' (shP n) ys → ∀ l, H' l = none → Q (.ref l) (upd H' l (.lst ys))) : CompW (Itr lo (hi - lo).toNat) 1 (gName m) tNoIf te σ Q H := by
  rw [h2]
  refine comp_range (lo := lo) (n := n) (fun k ys H' => Same H H' ∧ ys.length = k ∧ RepPL K H' (shP k) ys) ⟨Same.refl _, rfl, trivial⟩ (fun k ys H' hk pv => Nat.le_of_lt (small1000 (by have := pv.2.1; omega))) (fun k ys H' hk pv => ?_) (fun ys H' pv l hl => fin ys H' pv.1 pv.2.1 pv.2.2 l hl)
  have ek : lo + (k : Nat) = ((2 + k : Nat) : Int) := by omega
  rw [ek]
  have e : (σ ++ List.replicate 1 none).set m (some (.int ((2 + k : Nat) : Int))) = σ ++ [some (.int ((2 + k : Nat) : Int))] := by subst hn; simp
  show ((σ ++ List.replicate 1 none).set m (some (.int ((2 + k : Nat) : Int)))).take σ.length = σ ∧ tNoIf ((σ ++ List.replicate 1 none).set m (some (.int ((2 + k : Nat) : Int)))) H' _
  rw [e]
  refine ⟨by simp, ?_⟩
  refine step k H' _ pv.1 fun y H'' s'' hy => .mk hk ⟨pv.1.trans s'', by rw [List.length_append, pv.2.1]; rfl, ?_⟩
  rw [shP_succ]
  exact repPL_app (s''.repPL pv.2.2) ⟨repP_2 hy, trivial⟩
/-! ### share_bars -/
def spSh (K : PySem.W.Frag) : Sp := fun vs H Q _ => ∃ q : Nat, vs = [.int (q : Nat)] ∧ 1 ≤ q ∧ q ≤ 60 ∧ ∀ l ts H', Same H H' → H' l = some (.lst ts) → RepPL K H' (shP (q - 1)) ts → Q (.ref l) H'
theorem scSh : FnScope ["most"] ["most"] (defScope (top 4)) := ⟨rfl, rfl, rfl, by decide +kernel, rfl, by decide +kernel, by decide +kernel⟩
def scShC : Scope := { kind := .function, names := [(".0", .local), ("share", .local)], isGenerator := false, isCoroutine := false, more := [] }
theorem bkSh : BlkD (defScope (top 4)) ["most"] scShC ["most"] ["share"] := ⟨rfl, by decide +kernel, by decide +kernel, by decide +kernel, rfl, by decide +kernel, by decide +kernel, by decide +kernel, by decide +kernel⟩
theorem ok_sh (h : Has K mg "share_bars" (top 4) ["most"]) (T : Txt mg) : Ok P w K mg base "share_bars" ["most"] 1 (spSh K) := by
  refine h.ok scSh (fun vs H Q E h => ?_) (fun f cdv A outer s H vs Q E hr h => ?_)
  · obtain ⟨q, rfl, _⟩ := h; rfl
  · obtain ⟨n, rfl, n1, n60, q⟩ := h
    refine ⟨_, pss_one (ps_ret (pe_comp (M := ["most"]) (tgs := ["share"]) rfl bkSh.ok (pi_range2 (by rfl) T.range (pa_cons pe_int (pa_cons (pe_op op_add (pv 0) pe_int) pa_nil))) (fun cl C fp s H => pg_name (i := 1) bkSh.nd rfl (Or.inl rfl)) (fun cl C fp s H => pif0) (fun cl C fp s H => pe_tup (pa_cons pe_str (pa_cons (pv 1) pa_nil))))), ?_⟩
    refine ⟨_, rfl, _, _, rfl, rfl, _, _, rfl, ⟨by omega, by omega, by omega, by omega⟩, ?_⟩
    refine share_comp (K := K) (n := n - 1) rfl (by omega) rfl (by omega) (fun k H' Q' s' q' => ⟨_, rfl, by show 2 ≤ sizeLine; decide, fun y hy => q' _ _ (Same.upd hy) upd_same⟩) (fun ys H4 s4 ly ry lg hlg => ?_)
    exact q lg ys _ (s4.trans (Same.upd hlg)) upd_same ((Same.upd hlg).repPL ry)
/-! ### total_bars -/
def spBars (K : PySem.W.Frag) : Sp := fun vs H Q _ => ∃ wb many ties, vs = [.ref wb] ∧ WebAt K H wb many ties ∧ 1 ≤ many ∧ many ≤ 40 ∧ ties ≠ [] ∧ ∀ l ys H', H l = none → Same H H' → H' l = some (.lst ys) → RepPL K H' ((shP (ties.length - 1) ++ [tiesP]).filter (tbB many ties)) ys → Q (.ref l) H'
theorem scTb : FnScope ["web"] ["web"] (defScope (top 12)) := ⟨rfl, rfl, rfl, by decide +kernel, rfl, by decide +kernel, by decide +kernel⟩
def scTbC : Scope := { kind := .function, names := [(".0", .local), ("bar", .local), ("total_bar_holds", .globalImplicit), ("web", .free)], isGenerator := false, isCoroutine := false, more := [] }
theorem bkTb : BlkD (defScope (top 12)) ["web"] scTbC ["web"] ["bar"] := ⟨rfl, by decide +kernel, by decide +kernel, by decide +kernel, rfl, by decide +kernel, by decide +kernel, by decide +kernel, by decide +kernel⟩
theorem sh_fact : ∀ k : Nat, k < 61 → factB (shD k) = true := by decide +kernel
theorem ti_fact : factB tiesP = true := by decide +kernel
theorem bars_fact {n : Nat} (hn : n ≤ 61) : ∀ d ∈ shP n ++ [tiesP], factB d = true := fun d hd => by
  rcases List.mem_append.mp hd with h | h
  · obtain ⟨k, hk, rfl⟩ := List.mem_map.mp h
    exact sh_fact k (by have := List.mem_range.mp hk; omega)
  · have : d = tiesP := by simpa using h
    rw [this]; exact ti_fact
theorem ok_tb (h : Has K mg "total_bars" (top 12) ["web"]) (T : Txt mg) (GS : Ok P w K mg base "share_bars" ["most"] 1 (spSh K)) (GH : Ok P w K mg base "total_bar_holds" ["web", "thing"] 4 (spTH K)) : Ok P w K mg base "total_bars" ["web"] 5 (spBars K) := by
  refine h.ok scTb (fun vs H Q E h => ?_) (fun f cdv A outer s H vs Q E hr h => ?_)
  · obtain ⟨wb, many, ties, rfl, _⟩ := h; rfl
  · obtain ⟨wb, many, ties, rfl, web, m1, m40, ne, q⟩ := h
    obtain ⟨t, bs, o1, o2, o3⟩ := web.at_
    have bl : bs.length = ties.length := Paired.length o3
    have t60 := web.len
    have q1 : 1 ≤ ties.length := List.length_pos_iff.mpr ne
    have w0 : SqT K H wb [.int many, .ref t] := .inl (.inl o1)
    refine ⟨_, pss_one (ps_ret (pe_comp (M := ["web"]) (tgs := ["bar"]) rfl bkTb.ok (pi_list (pe_op op_cat (pe_callG GS (hr.mono (by decide)) (by rfl) (pa_cons (pe_callB call_len_seq (by rfl) T.len PySem.boot_len (pa_cons (pe_ix ix_tup (pv 0) pe_int (fun _ _ => rfl)) pa_nil)) pa_nil)) (pe_lst (pa_cons (pe_tup (pa_cons pe_str pa_nil)) pa_nil)))) (fun cl C fp s H => pg_name (i := 1) bkTb.nd rfl (Or.inl rfl)) (fun cl C fp s H => pif1 (pt_val (pe_callG GH hr (by rfl) (pa_cons (pv 0) (pa_cons (pv 1) pa_nil))))) (fun cl C fp s H => pv 1))), ?_⟩
    refine ⟨_, rfl, wb, _, 1, _, rfl, rfl, w0, rfl, t, _, rfl, .inr (.inl (.inl o2)), ties.length, by rw [bl]; rfl, q1, t60, fun l ts H1 s1 h1 r1 => ?_⟩
    refine ⟨by show 1 ≤ sizeLine; decide, fun a ha => ⟨by show 1 ≤ sizeLine; decide, fun l2 hl2 => ?_⟩⟩
    have b1 := Same.upd (o := .tup [.str "ties"]) ha
    have b2 := Same.upd (o := .lst [.ref a]) hl2
    have lts := r1.len
    rw [shP_len] at lts
    refine ⟨l, l2, ts, [.ref a], rfl, rfl, (b1.trans b2) _ _ h1, upd_same, Nat.le_of_lt (small1000 (by show ts.length + 1 ≤ 1000; omega)), fun l3 hl3 => ?_⟩
    have b3 := Same.upd (o := .lst (ts ++ [.ref a])) hl3
    have s3 := s1.trans (b1.trans (b2.trans b3))
    have r3 : RepPL K _ (shP (ties.length - 1) ++ [tiesP]) (ts ++ [.ref a]) := repPL_app ((b1.trans (b2.trans b3)).repPL r1) ⟨(b2.trans b3).repP (repP_1 upd_same), trivial⟩
    have h3 : (upd (upd (upd H1 a (.tup [.str "ties"])) l2 (.lst [.ref a])) l3 (.lst (ts ++ [.ref a]))) l3 = some (.lst (ts ++ [.ref a])) := upd_same
    refine ⟨l3, rfl, ⟨_, .inl (.inl h3)⟩, ?_⟩
    generalize (upd (upd (upd H1 a (.tup [.str "ties"])) l2 (.lst [.ref a])) l3 (.lst (ts ++ [.ref a]))) = H3 at s3 r3 h3 ⊢
    have lxs : (ts ++ [V.ref a]).length = ties.length := by rw [List.length_append]; show ts.length + 1 = _; omega
    generalize ts ++ [V.ref a] = xs at r3 h3 lxs
    have ld := r3.len
    have fb := bars_fact (n := ties.length - 1) (by omega)
    generalize shP (ties.length - 1) ++ [tiesP] = ds at r3 ld fb q
    refine comp_lst (K := K) (a := l3) (xs := xs) (fun k ys H' => Same H3 H' ∧ ys.length ≤ k ∧ RepPL K H' ((ds.take k).filter (tbB many ties)) ys) ⟨Same.refl _, Nat.le_refl _, trivial⟩ (fun k ys H' hk pv => ⟨.inl (.inl (pv.1 _ _ h3)), Nat.le_of_lt (small1000 (by have := pv.2.1; omega))⟩) (fun k x ys H' hx hk pv => ?_) (fun ys H' pv l4 hl4 => ?_)
    · obtain ⟨e, ly, ry⟩ := pv
      obtain ⟨d, hd, rd⟩ := r3.get hx
      have df := fb d (List.mem_of_getElem? hd)
      have tk : ds.take (k + 1) = ds.take k ++ [d] := by rw [List.take_add_one, hd]; rfl
      refine ⟨rfl, _, rfl, _, rfl, wb, many, ties, PyDt d, x, rfl, web.keep (s3.trans e).tups, m1, m40, (e.repP rd).rep, (fact_ft df).1, (fact_ft df).2, fun yes H5 s5 => ⟨_, rfl, iteT ⟨_, rfl, .mk hk ⟨e.trans s5, by rw [List.length_append]; show ys.length + 1 ≤ k + 1; omega, ?_⟩⟩⟩, fun no H5 s5 => ⟨_, rfl, iteF (.mk hk ⟨e.trans s5, by omega, ?_⟩)⟩⟩
      · rw [tk, List.filter_append, List.filter_cons_of_pos (tbB_t yes)]
        exact repPL_app (s5.repPL ry) ⟨(e.trans s5).repP rd, trivial⟩
      · rw [tk, List.filter_append, List.filter_cons_of_neg (by rw [tbB_f no]; decide), List.filter_nil, List.append_nil]
        exact s5.repPL ry
    · obtain ⟨e, ly, ry⟩ := pv
      rw [List.take_of_length_le (by omega)] at ry
      exact q l4 ys _ ((s3.trans e).free hl4) (s3.trans (e.trans (Same.upd hl4))) upd_same ((Same.upd hl4).repPL ry)
end
end K49

namespace K49
open PySem L2 PyProof.Rows
theorem eqE_is {x : Str} {d : PyData} (h : eqE x d = true) : d = .str x := by
  cases d with
  | str t =>
    have : t = x := by simpa [eqE] using h
    rw [this]
  | _ => cases h
theorem eqW_is {x : Str} {y : PyData} (h : eqW x y = true) : y = .tuple [.str x] := by
  unfold eqW at h
  split at h
  · rename_i d
    unfold eqE at h
    split at h
    · rename_i t
      have : t = x := by simpa using h
      rw [this]
    · cases h
  · cases h
theorem py_map2 {ds : List PyData} {a b : Dt} (h : ds.map PyDt = [a, b]) : ∃ x y, ds = [x, y] ∧ PyDt x = a ∧ PyDt y = b := by
  match ds, h with
  | [x, y], h => exact ⟨x, y, rfl, (List.cons.inj h).1, (List.cons.inj (List.cons.inj h).2).1⟩
  | [], h => cases h
  | [_], h => cases (List.cons.inj h).2
  | _ :: _ :: _ :: _, h => cases (List.cons.inj (List.cons.inj h).2).2
theorem py_str {y : PyData} {x : Str} (h : PyDt y = .str x) : y = .str x := by
  cases y <;> simp [PyDt] at h
  rw [h]
theorem py_int {y : PyData} {i : Int} (h : PyDt y = .int i) : y = .int i := by
  cases y <;> simp [PyDt] at h
  rw [h]
theorem tb_is {many : Int} {ties : List (Int × Int)} {y : PyData} (h : TB many ties (PyDt y)) : (y = tiesP ∧ tiesB many ties = true) ∨ ∃ s, y = .tuple [.str "share", .int s] ∧ shareB many ties s = true := by
  rcases h with ⟨e, h⟩ | ⟨s, e, h⟩
  · left
    refine ⟨?_, h⟩
    cases y <;> simp [PyDt] at e
    rename_i ds
    match ds, e with
    | [x], e =>
      have := py_str (by simpa using e)
      rw [this]; rfl
    | [], e => simp at e
    | _ :: _ :: _, e => simp at e
  · right
    refine ⟨s, ?_, h⟩
    cases y <;> simp only [PyDt] at e <;> first | cases e | skip
    rename_i ds
    obtain ⟨x, z, rfl, h1, h2⟩ := py_map2 (Dt.tup.inj e)
    rw [py_str h1, py_int h2]
theorem sum_all : ∀ n : Nat, n < 101 → ((List.range (n + 1)).map fun k => (0 : Int) + ((k : Nat) : Int)).sum = ((n : Nat) : Int) * (((n : Nat) : Int) + 1) / 2 := by decide +kernel
section
variable {P : Program} {w : World} {K : PySem.W.Frag} {mg : Str → Option Value} {base : Heap}
theorem sc18 : FnScope ["found"] ["found"] (defScope (top 18)) := ⟨rfl, rfl, rfl, by decide +kernel, rfl, by decide +kernel, by decide +kernel⟩
theorem ok_law_whole (h : Has K mg "_law_whole" (top 18) ["found"]) (T : Txt mg) : Ok P w K mg base "_law_whole" ["found"] 1 (spWhole K) := by
  refine h.ok sc18 (fun vs H Q E h => ?_) (fun f cdv A outer s H vs Q E hr h => ?_)
  · obtain ⟨d, v, rfl, _⟩ := h; rfl
  · obtain ⟨d, v, rfl, hd, q⟩ := h
    refine ⟨_, pss_one (ps_ret (pe_and (isi_i T (pv 0) (by rfl) (by rfl)) (pe_one (pe_not (isi_b T (pv 0) (by rfl) (by rfl)))))), ?_⟩
    refine ⟨v, rfl, v, d.ty, "int", rfl, .inl rfl, hd.kind, _, rfl, iteB (fun c => ?_) fun c => ?_⟩
    · refine ⟨v, rfl, v, d.ty, "bool", rfl, .inr (.inl rfl), hd.kind, _, rfl, ?_⟩
      have e : isIntD d = !isiB d.ty "bool" := by unfold isIntD; rw [c, Bool.true_and]
      rw [e] at q
      exact q
    · have e : isIntD d = false := by unfold isIntD; rw [c, Bool.false_and]
      rw [e] at q
      exact q

def spDue (K : PySem.W.Frag) : Sp := fun vs H Q _ => ∃ wb many ties y v, vs = [.ref wb, v] ∧ WebAt K H wb many ties ∧ 1 ≤ many ∧ many ≤ 40 ∧ RepP K H y v ∧ factB y = true ∧ (TB many ties (PyDt y) → ∀ H', Same H H' → Q (.bl true) H') ∧ (¬ TB many ties (PyDt y) → ∀ H', Same H H' → Q (.bl false) H')
def duN : List Str := ["web", "thing", "share", "counts", "a", "b", "last"]
theorem scDu : FnScope duN ["web", "thing"] (defScope (top 22)) := ⟨rfl, rfl, rfl, by decide +kernel, rfl, by decide +kernel, by decide +kernel⟩
def scDuC : Scope := { kind := .function, names := [(".0", .local), ("count", .local), ("share", .free)], isGenerator := false, isCoroutine := false, more := [] }
theorem bkDu : BlkD (defScope (top 22)) duN scDuC duN ["count"] := ⟨rfl, by decide +kernel, by decide +kernel, by decide +kernel, rfl, by decide +kernel, by decide +kernel, by decide +kernel, by decide +kernel⟩
theorem ok_due (h : Has K mg "_law_due_of" (top 22) ["web", "thing"]) (T : Txt mg) (GW : Ok P w K mg base "_law_whole" ["found"] 1 (spWhole K)) : Ok P w K mg base "_law_due_of" ["web", "thing"] 2 (spDue K) := by
  refine h.ok scDu (fun vs H Q E h => ?_) (fun f cdv A outer s H vs Q E hr h => ?_)
  · obtain ⟨wb, many, ties, d, v, rfl, _⟩ := h; rfl
  · obtain ⟨wb, many, ties, y, v, rfl, web, m1, m40, hd, fy, q1, q2⟩ := h
    have t60 := web.len
    have g := web.good
    obtain ⟨t, bs, o1, o2, o3⟩ := web.at_
    have bl : bs.length = ties.length := Paired.length o3
    obtain ⟨n, rfl⟩ : ∃ n : Nat, many = n := ⟨many.toNat, by omega⟩
    have n40 : n ≤ 40 := by omega
    let X := (cxOf CX0 P w K mg base duN "_law_due_of" (defScope (top 22)) f cdv A outer s H E).nox
    have cr : CallR X (.builtin "repr") (rRepr K) := call_repr hr.gd hr.units
    have w0 : SqT K H wb [.int (n : Nat), .ref t] := .inl (.inl o1)
    refine ⟨_, pss_cons (ps_if (pt_cmpR op_eq (pe_callB cr (by rfl) T.repr boot_repr (pa_cons (pv 1) pa_nil)) pe_str (nomark _)) (pss_one (ps_ret (pe_cmpR op_gt (pe_callB call_len_seq (by rfl) T.len PySem.boot_len (pa_cons (pe_ix ix_tup (pv 0) pe_int (fun _ _ => rfl)) pa_nil)) (pe_op op_sub (pe_op op_mul pe_int (pe_ix ix_tup (pv 0) pe_int (fun _ _ => rfl))) pe_int) (nomark _)))) pss_nil)
      (pss_cons (ps_if (PW.pt (pw_or (pt_not (pt_val (isi_t T (pv 1) (by rfl) (by rfl)))) (pw_or (pt_cmpR op_ne (pe_callB call_len_seq (by rfl) T.len PySem.boot_len (pa_cons (pv 1) pa_nil)) pe_int (nomark _)) (pw_or (pt_cmpR op_ne (pe_callB cr (by rfl) T.repr boot_repr (pa_cons (pe_ix ix_tup (pv 1) pe_int (fun _ _ => rfl)) pa_nil)) pe_str (nomark _)) (pw_or1 (pt_not (pt_val (pe_callG GW hr (by rfl) (pa_cons (pe_ix ix_tup (pv 1) pe_int (fun _ _ => rfl)) pa_nil))))))))) (pss_one (ps_ret pe_bl)) pss_nil)
      (pss_cons (ps_set (i := 2) scDu.nd rfl (Or.inr rfl) (pe_ix ix_tup (pv 1) pe_int (fun _ _ => rfl)))
      (pss_cons (ps_if (PW.pt (pw_or (pt_cmpR op_lt (pv 2) pe_int (nomark _)) (pw_or1 (pt_cmpR op_gt (pe_op op_mod (pe_callB call_len_seq (by rfl) T.len PySem.boot_len (pa_cons (pe_ix ix_tup (pv 0) pe_int (fun _ _ => rfl)) pa_nil)) (pv 2)) pe_int (nomark _))))) (pss_one (ps_ret pe_bl)) pss_nil)
      (pss_cons (ps_set (i := 3) scDu.nd rfl (Or.inl rfl) (pe_op op_rep (pe_lst (pa_cons pe_int pa_nil)) (pe_ix ix_tup (pv 0) pe_int (fun _ _ => rfl))))
      (pss_cons (ps_for PassesOwn.never rfl (pi_tup (pe_ix ix_tup (pv 0) pe_int (fun _ _ => rfl))) (pg_tup rfl (pgs_cons (pg_name (i := 4) scDu.nd rfl (Or.inl rfl)) (pgs_cons (pg_name (i := 5) scDu.nd rfl (Or.inl rfl)) pgs_nil)))
        (pss_cons (ps_augS (pv 3) (pv 4) get_list pe_int ip_add set_list)
        (pss_one (ps_augS (pv 3) (pv 5) get_list pe_int ip_add set_list))))
      (pss_cons (ps_set (i := 6) scDu.nd rfl (Or.inl rfl) (pe_op op_add (pe_ix ix_tup (pv 0) pe_int (fun _ _ => rfl)) (pe_callB call_len_seq (by rfl) T.len PySem.boot_len (pa_cons (pe_ix ix_tup (pv 0) pe_int (fun _ _ => rfl)) pa_nil))))
      (pss_one (ps_ret (pe_and (pe_callB (call_all rfl) (by rfl) T.all PyProof.Rows.boot_all (pa_cons (pe_comp (M := duN) (tgs := ["count"]) rfl bkDu.ok (pi_list (pv 3)) (fun cl C fp s H => pg_name (i := 7) bkDu.nd rfl (Or.inl rfl)) (fun cl C fp s H => pif0)
          (fun cl C fp s H => pe_cmpR op_eq (pe_op op_mod (pe_op op_sub (pv 7) pe_int) (pv 2)) pe_int (nomark _))) pa_nil)) (pe_one (pe_cmpR op_gt (pe_op op_mod (pe_callB (call_sumR rfl) (by rfl) T.sum PyProof.Rows.boot_sum (pa_cons (pe_callTy call_rng (by rfl) T.range PyProof.Rows.boot_range (pa_cons (pe_op op_add (pv 6) pe_int) pa_nil)) pa_nil)) (pv 2)) pe_int (nomark _)))))))))))), ?_⟩
    refine ⟨_, rfl, v, y, rfl, hd, fact_show fy, rfl, _, rfl, ?_⟩
    rw [fact_ties fy]
    cases c0 : eqW "ties" y with
    | true =>
      have ey := eqW_is c0
      subst ey
      refine iteT ⟨_, rfl, wb, _, 1, _, rfl, rfl, w0, rfl, t, _, rfl, .inr (.inl (.inl o2)), _, rfl, wb, _, 0, _, rfl, rfl, w0, rfl, _, _, rfl, rfl, .inl ⟨by decide, by decide⟩, _, _, rfl, rfl, _, _, rfl, rfl, ?_⟩
      rw [bl]
      have ep : PyDt (PyData.tuple [.str "ties"]) = .tup [.str "ties"] := py_ti
      rw [ep] at q1 q2
      cases cs : tiesB (n : Nat) ties with
      | true =>
        have := q1 (tb_ties.mpr cs) H (Same.refl _)
        rw [← cs] at this
        exact this
      | false =>
        have := q2 (fun z => by rw [tb_ties.mp z] at cs; cases cs) H (Same.refl _)
        rw [← cs] at this
        exact this
    | false =>
      have nt : y ≠ tiesP := fun z => by rw [z] at c0; exact absurd c0 (by decide)
      have no : (∀ s, y ≠ .tuple [.str "share", .int s]) → ¬ TB (n : Nat) ties (PyDt y) := fun ns z => by
        rcases tb_is z with ⟨e, _⟩ | ⟨s, e, _⟩
        · exact nt e
        · exact ns s e
      refine iteF ?_
      have rd := hd.rep
      refine ⟨_, rfl, v, (PyDt y).ty, "tuple", rfl, .inr (.inr (.inl rfl)), rd.kind, _, rfl, iteB (fun c => ?_) fun c => ?_⟩
      · refine iteT (q2 (no fun s e => ?_) H (Same.refl _))
        subst e
        exact absurd c (by simp [PyDt, Dt.ty, isiB])
      obtain ⟨es, ees⟩ := isi_tup (by simpa using c)
      have yt : ∃ ds, y = .tuple ds := by
        cases y <;> first | exact ⟨_, rfl⟩ | simp [PyDt] at ees
      obtain ⟨ds, rfl⟩ := yt
      obtain ⟨p, xs, rfl, hx, hl⟩ := hd
      have lx := hl.len
      refine ⟨_, rfl, p, xs, rfl, .inr hx, rfl, _, rfl, ?_⟩
      rw [decI]
      by_cases c2 : ds.length = 2
      · rw [decide_eq_true (show ((xs.length : Nat) : Int) = 2 by omega)]
        refine iteF ?_
        match ds, c2, xs, hl, hx, fy, no, q1, q2 with
        | [d0, d1], _, [x0, x1], hl, hx, fy, no, q1, q2 =>
          obtain ⟨r0, r1, _⟩ := hl
          obtain ⟨sy0, hs0⟩ := fact_head fy
          refine ⟨_, rfl, p, _, 0, _, rfl, rfl, hx, at0, x0, d0, rfl, r0, sy0, rfl, _, rfl, ?_⟩
          rw [hs0]
          cases e0 : eqE "share" d0 with
          | false =>
            refine iteT (iteT (q2 (no fun s e => ?_) H (Same.refl _)))
            have := (List.cons.inj (PyData.tuple.inj e)).1
            subst this
            exact absurd e0 (by decide)
          | true =>
            have ed0 : d0 = .str "share" := eqE_is e0
            subst ed0
            refine iteF ⟨_, rfl, p, _, 1, _, rfl, rfl, hx, at1, PyDt d1, x1, rfl, r1.rep, _, rfl, ?_⟩
            cases ci : isIntD (PyDt d1) with
            | false =>
              refine iteT (q2 (no fun s e => ?_) H (Same.refl _))
              have := (List.cons.inj (List.cons.inj (PyData.tuple.inj e)).2).1
              subst this
              exact absurd ci (by simp [PyDt, isIntD, Dt.ty, isiB])
            | true =>
              obtain ⟨k, ek⟩ := isIntD_of ci
              have ed1 := py_int ek
              subst ed1
              cases r0
              cases r1
              have ep : PyDt (PyData.tuple [.str "share", .int k]) = .tup [.str "share", .int k] := by simp [PyDt]
              rw [ep] at q1 q2
              have fin : ∀ H', Same H H' → Q (.bl (shareB (n : Nat) ties k)) H' := fun H' s' => by
                cases cs : shareB (n : Nat) ties k with
                | true => exact q1 (tb_share.mpr cs) H' s'
                | false => exact q2 (fun z => by rw [tb_share.mp z] at cs; cases cs) H' s'
              refine iteF ⟨_, rfl, p, _, 1, _, rfl, rfl, hx, at1, ?_⟩
              refine ⟨_, rfl, _, _, rfl, rfl, _, rfl, iteB (fun c1 => ?_) fun c1 => ?_⟩
              · have c1 : k < 2 := of_decide_eq_true c1
                have fin := fin H (Same.refl _)
                unfold shareB at fin
                rw [decide_eq_false (by omega), Bool.false_and] at fin
                exact iteT fin
              have c1 : ¬ k < 2 := of_decide_eq_false c1
              have kp : (0 : Int) < k := by omega
              refine ⟨_, rfl, wb, _, 1, _, rfl, rfl, w0, rfl, t, _, rfl, .inr (.inl (.inl o2)), _, rfl, _, _, rfl, rfl, kp, _, _, rfl, rfl, _, rfl, ?_⟩
              rw [bl]
              have fin : ∀ H', Same H H' → Q (.bl (decide (((ties.length : Nat) : Int) % k = 0) && (!decide (numN (n : Nat) ties * (numN (n : Nat) ties + 1) / 2 % k = 0) && allS ties n k))) H' := fun H' s' => by
                have := fin H' s'
                unfold shareB at this
                rw [decide_eq_true (by omega), Bool.true_and, Int.toNat_natCast] at this
                exact this
              have md := Int.emod_nonneg ((ties.length : Nat) : Int) (show k ≠ 0 by omega)
              by_cases c3 : ((ties.length : Nat) : Int) % k = 0
              · rw [decide_eq_true c3, Bool.true_and] at fin
                rw [decide_eq_false (show ¬ ((ties.length : Nat) : Int) % k > 0 by omega)]
                refine iteF ?_
                refine ⟨by show 1 ≤ sizeLine; decide, fun l0 hl0 => ?_⟩
                have a1 := Same.upd (o := .lst [.int 0]) hl0
                refine ⟨_, rfl, wb, _, 0, _, rfl, rfl, a1.tup w0, rfl, l0, _, [.int 0], rfl, rfl, upd_same, by omega, by omega, ?_, fun sl hsl => ?_⟩
                · show 1 * ((n : Nat) : Int).toNat ≤ sizeLine
                  exact Nat.le_of_lt (small1000 (by omega))
                rw [rep_one, Int.toNat_natCast]
                have a2 := a1.trans (Same.upd (o := .lst (List.replicate n (.int 0))) hsl)
                have hslH : H sl = none := a1.free hsl
                have e0 : List.replicate n (V.int 0) = (cntL [] n).map V.int := by
                  unfold cntL
                  rw [List.map_map]
                  refine (List.eq_replicate_iff.mpr ⟨by simp, fun b hb => ?_⟩).symm
                  obtain ⟨j, _, rfl⟩ := List.mem_map.mp hb
                  rfl
                refine ⟨_, rfl, wb, _, 1, _, rfl, rfl, .inl (.inl (a2 _ _ o1)), rfl, t, rfl, ⟨bs, .inl (.inl (a2 _ _ o2))⟩, ?_⟩
                refine for_tup (K := K) (a := t) (xs := bs) (fun j σ H' => ∃ v4 v5, σ = [some (.ref wb), some (.ref p), some (.int k), some (.ref sl), v4, v5, none] ∧ Same H H' ∧ H' sl = some (.lst ((cntL (ties.take j) n).map V.int))) ⟨_, _, rfl, a2, by rw [upd_same, e0]; rfl⟩ (fun j σ H' hk hP => by obtain ⟨_, _, _, e, _⟩ := hP; exact .inl (.inl (e _ _ o2))) ?_ ?_
                · rintro j x σ H2 hx ⟨v2, v3, rfl, e, hs⟩
                  obtain ⟨tn, htn, a, rfl, ha⟩ := Paired.get o3 hx
                  have gt := g tn (List.mem_of_getElem? htn)
                  obtain ⟨ta, tb⟩ := tn
                  obtain ⟨C, rfl⟩ : ∃ A : Nat, ta = A := ⟨ta.toNat, by omega⟩
                  obtain ⟨D, rfl⟩ : ∃ B : Nat, tb = B := ⟨tb.toNat, by omega⟩
                  dsimp only at gt
                  have cN : C < n := by omega
                  have dN : D < n := by omega
                  have lc := cntL_len (ties.take j) n
                  refine ⟨a, [.int (C : Nat), .int (D : Nat)], rfl, .inl (.inl (e _ _ ha)), rfl, _, _, rfl, _, _, rfl, rfl, ?_⟩
                  refine ⟨_, rfl, _, rfl, sl, _, C, .int ((cntL (ties.take j) n).getD C 0), rfl, rfl, .inl (.inl hs), ?_, _, _, rfl, rfl, sl, _, _, C, rfl, rfl, hs, ixN_nat (by rw [List.length_map]; omega), ?_⟩
                  · rw [List.getElem?_map, List.getElem?_eq_getElem (by omega)]
                    simp [lc, cN]
                  rw [set_int]
                  have st := cntL_step (ties := ties.take j) cN dN (by omega)
                  generalize hc1 : (cntL (ties.take j) n).set C ((cntL (ties.take j) n).getD C 0 + 1) = c1 at st
                  have l1 : c1.length = n := by rw [← hc1, List.length_set, lc]
                  have hs3 : (upd H2 sl (.lst (c1.map V.int))) sl = some (.lst (c1.map V.int)) := upd_same
                  refine ⟨_, rfl, _, rfl, sl, _, D, .int (c1.getD D 0), rfl, rfl, .inl (.inl hs3), ?_, _, _, rfl, rfl, sl, _, _, D, rfl, rfl, hs3, ixN_nat (by rw [List.length_map]; omega), _, _, rfl, fun b o z => ?_, ?_⟩
                  · rw [List.getElem?_map, List.getElem?_eq_getElem (by omega)]
                    simp [l1, dN]
                  · rw [upd_ne (ne_of_none z hslH), upd_ne (ne_of_none z hslH)]
                    exact e _ _ z
                  · rw [upd_same, set_int, List.take_add_one, htn]
                    show some (HO.lst ((c1.set D (c1.getD D 0 + 1)).map V.int)) = some (HO.lst ((cntL (ties.take j ++ [(((C : Nat) : Int), ((D : Nat) : Int))]) n).map V.int))
                    rw [st]
                · rintro σ H2 ⟨v4, v5, rfl, e, hs⟩
                  rw [bl, List.take_length] at hs
                  have w2 := e.tup w0
                  refine ⟨_, rfl, wb, _, 0, _, rfl, rfl, w2, rfl, _, rfl, wb, _, 1, _, rfl, rfl, w2, rfl, t, _, rfl, .inr (.inl (.inl (e _ _ o2))), _, _, rfl, rfl, ?_⟩
                  have lc := cntL_len ties n
                  refine ⟨_, rfl, sl, rfl, ⟨_, .inl (.inl hs)⟩, ?_⟩
                  refine comp_lst (K := K) (a := sl) (xs := (cntL ties n).map V.int) (fun i ys H' => Same H2 H' ∧ ys = (((cntL ties n).map fun c => decide ((c - 1) % k = 0)).take i).map V.bl) ⟨Same.refl _, rfl⟩ (fun i ys H' hi pv => ?_) (fun i x ys H' hx hi pv => ?_) (fun ys H' pv l hl => ?_)
                  · obtain ⟨e, rfl⟩ := pv
                    refine ⟨.inl (.inl (e _ _ hs)), Nat.le_of_lt (small1000 ?_)⟩
                    rw [List.length_map, List.length_take, List.length_map, lc]
                    omega
                  · obtain ⟨e, rfl⟩ := pv
                    rw [List.getElem?_map] at hx
                    obtain ⟨z, hz, rfl⟩ := Option.map_eq_some_iff.mp hx
                    refine ⟨rfl, _, rfl, _, _, rfl, rfl, _, rfl, _, _, rfl, rfl, kp, rfl, .mk hi ⟨e, ?_⟩⟩
                    have : ((cntL ties n).map fun c => decide ((c - 1) % k = 0))[i]? = some (decide ((z - 1) % k = 0)) := by rw [List.getElem?_map, hz]; rfl
                    rw [List.take_add_one, this, List.map_append]
                    refine congrArg (_ ++ ·) ?_
                    show [V.bl (decide (V.int ((z - 1) % k) = V.int 0))] = [V.bl (decide ((z - 1) % k = 0))]
                    rw [decI]
                  · obtain ⟨e2, rfl⟩ := pv
                    rw [List.take_of_length_le (by rw [List.length_map, List.length_map]; exact Nat.le_refl _)]
                    refine ⟨l, _, rfl, .inl (.inl upd_same), _, rfl, ?_⟩
                    have ea : (((cntL ties n).map fun c => decide ((c - 1) % k = 0)).all id) = allS ties n k := by unfold allS; rw [List.all_map]; rfl
                    rw [ea]
                    have s4 := e.trans (e2.trans (Same.upd (o := .lst (((cntL ties n).map fun c => decide ((c - 1) % k = 0)).map V.bl)) hl))
                    cases ca : allS ties n k with
                    | false =>
                      rw [ca, Bool.and_false] at fin
                      exact iteF (fin _ s4)
                    | true =>
                      rw [ca, Bool.and_true] at fin
                      refine iteT ⟨_, rfl, _, _, rfl, rfl, .inl ⟨_, rfl, fun rg hrg => ⟨rg, 0, _, rfl, upd_same, by decide, by decide, by omega, by omega, ?_⟩⟩⟩
                      have s5 := s4.trans (Same.upd (o := .rng 0 (((n : Nat) : Int) + ((bs.length : Nat) : Int) + 1)) hrg)
                      refine ⟨_, rfl, _, _, rfl, rfl, kp, _, _, rfl, rfl, ?_⟩
                      have es : ((List.range ((((n : Nat) : Int) + ((bs.length : Nat) : Int) + 1) - 0).toNat).map fun k => (0 : Int) + ((k : Nat) : Int)).sum = numN (n : Nat) ties * (numN (n : Nat) ties + 1) / 2 := by
                        rw [show ((((n : Nat) : Int) + ((bs.length : Nat) : Int) + 1) - 0).toNat = (n + ties.length) + 1 by omega, sum_all _ (by omega)]
                        unfold numN
                        rw [Int.natCast_add]
                      have fin := fin _ s5
                      show Q (.bl (decide (0 < ((List.range ((((n : Nat) : Int) + ((bs.length : Nat) : Int) + 1) - 0).toNat).map fun k => (0 : Int) + ((k : Nat) : Int)).sum % k))) _
                      rw [es]
                      have nn := Int.emod_nonneg (numN (n : Nat) ties * (numN (n : Nat) ties + 1) / 2) (show k ≠ 0 by omega)
                      by_cases cz : numN (n : Nat) ties * (numN (n : Nat) ties + 1) / 2 % k = 0
                      · rw [decide_eq_true cz] at fin
                        rw [decide_eq_false (by omega)]
                        exact fin
                      · rw [decide_eq_false cz] at fin
                        rw [decide_eq_true (by omega)]
                        exact fin
              · rw [decide_eq_false c3, Bool.false_and] at fin
                rw [decide_eq_true (show ((ties.length : Nat) : Int) % k > 0 by omega)]
                exact iteT (fin H (Same.refl _))
        | [_, _], _, [], hl, hx, fy, no, q1, q2 => exact hl.elim
        | [_, _], _, [_], hl, hx, fy, no, q1, q2 => exact hl.2.elim
        | [_, _], _, _ :: _ :: _ :: _, hl, hx, fy, no, q1, q2 => exact hl.2.2.elim
      · rw [decide_eq_false (show ¬ ((xs.length : Nat) : Int) = 2 by omega)]
        refine iteT (iteT (q2 (no fun s e => ?_) H (Same.refl _)))
        rw [PyData.tuple.inj e] at c2
        exact c2 rfl
end
end K49

namespace K49
open PySem L2 PyProof.Rows
def IsP (K : PySem.W.Frag) (d : PyData) (H : Hp) (v : V) : Prop := RepP K H d v
def IsL (K : PySem.W.Frag) (ds : List PyData) (H : Hp) (v : V) : Prop := ∃ p xs, v = .ref p ∧ H p = some (.lst xs) ∧ RepPL K H ds xs
def tRPs (K : PySem.W.Frag) (ds : List PyData) (Pre : L2.St → Hp → Prop) : TA := fun σ H Q => Pre σ H ∧ ∀ vs H', Same H H' → RepPL K H' ds vs → Q vs H'
theorem IsL.gr {K : PySem.W.Frag} {ds : List PyData} : GrowsR (IsL K ds) := fun _ _ _ ⟨p, xs, e, h, r⟩ s => ⟨p, xs, e, s _ _ h, s.repPL r⟩
theorem sm {n : Nat} (h : n ≤ 1000) : n ≤ sizeLine := Nat.le_of_lt (small1000 h)
section
variable {X : Cx} {Pre : L2.St → Hp → Prop}
theorem zd_int {i j pos} : ZE X (.Constant (.int i) j pos) (tR (IsP X.K (.int i)) Pre) := zx_of (ze_of pe_int) fun σ H Q _ q => q _ _ (Same.refl _) rfl
theorem zd_str {y j pos} : ZE X (.Constant (.str y) j pos) (tR (IsP X.K (.str y)) Pre) := zx_of (ze_of pe_str) fun σ H Q _ q => q _ _ (Same.refl _) rfl
theorem zd_bl {y j pos} : ZE X (.Constant (.bool y) j pos) (tR (IsP X.K (.bool y)) Pre) := zx_of (ze_of pe_bl) fun σ H Q _ q => q _ _ (Same.refl _) rfl
theorem zd_non {j pos} : ZE X (.Constant .none j pos) (tR (IsP X.K .none) Pre) := zx_of (ze_of pe_non) fun σ H Q _ q => q _ _ (Same.refl _) rfl
theorem zd_dct {pos : Pos} : ZE X (.Dict [] [] pos) (tR (IsP X.K (.dict [])) Pre) := zx_of (ze_of pe_dnewT) fun σ H Q _ q => fun d hd => q _ _ (Same.upd hd) ⟨rfl, d, rfl, .inr upd_same⟩
theorem zd_nil : ZA X [] (tRPs X.K [] Pre) := ⟨fun pos pins s σ H Q I h => pa_nil pos pins s σ H Q I (h.2 [] H (Same.refl _) trivial)⟩
theorem zd_cons {e : Expr} {es : List Expr} {d : PyData} {ds : List PyData} (g : Grows Pre) (ha : ZE X e (tR (IsP X.K d) Pre)) (hr : ZA X es (tRPs X.K ds Pre)) (hs : starEach (e :: es) X.env = (false, eval e X.env) :: starEach es X.env := by rfl) : ZA X (e :: es) (tRPs X.K (d :: ds) Pre) :=
  ⟨fun pos pins s σ H Q I h => pa_cons ha.p hr.p hs pos pins s σ H Q I ⟨h.1, fun v H1 s1 r1 => ⟨g _ _ _ h.1 s1, fun vs H2 s2 r2 => h.2 _ _ (s1.trans s2) ⟨s2.repP r1, r2⟩⟩⟩⟩
theorem zd_tup {es : List Expr} {ds : List PyData} {x1 : Nat} {pos : Pos} (hn : ds.length ≤ 1000) (h : ZA X es (tRPs X.K ds Pre)) : ZE X (.Tuple es x1 pos) (tR (IsP X.K (.tuple ds)) Pre) := zx_of (ze_tup h) fun σ H Q p q => ⟨p, fun vs H1 e1 r1 => ⟨sm (by have := r1.len; omega), fun a ha => q _ _ (e1.trans (Same.upd ha)) ⟨a, vs, rfl, .inl (.inl upd_same), (Same.upd ha).repPL r1⟩⟩⟩
theorem zd_lst {es : List Expr} {ds : List PyData} {pos : Pos} (hn : ds.length ≤ 1000) (h : ZA X es (tRPs X.K ds Pre)) : ZE X (.List es pos) (tR (IsL X.K ds) Pre) := zx_of (ze_lst h) fun σ H Q p q => ⟨p, fun vs H1 e1 r1 => ⟨sm (by have := r1.len; omega), fun a ha => q _ _ (e1.trans (Same.upd ha)) ⟨a, vs, rfl, upd_same, (Same.upd ha).repPL r1⟩⟩⟩
theorem zd_l {e : Expr} {ds : List PyData} (h : ZE X e (tR (IsL X.K ds) Pre)) : ZE X e (tR (IsP X.K (.list ds)) Pre) := zk_w h fun _ _ ⟨p, xs, e, h, r⟩ => ⟨p, xs, e, .inl (.inl h), r⟩
theorem zd_cat {a b : Expr} {pos : Pos} {ds es : List PyData} (g : Grows Pre) (hn : ds.length + es.length ≤ 1000) (ha : ZE X a (tR (IsL X.K ds) Pre)) (hb : ZE X b (tR (IsL X.K es) Pre)) : ZE X (.BinOp a .Add b pos) (tR (IsL X.K (ds ++ es)) Pre) := zx_of (ze_of (pe_op op_cat ha.p hb.p)) fun σ H Q p q => by
  refine ⟨p, fun v H1 s1 k1 => ⟨g _ _ _ p s1, fun u H2 s2 k2 => ?_⟩⟩
  obtain ⟨a, xs, rfl, hx, rx⟩ := IsL.gr _ _ _ k1 s2
  obtain ⟨b, ys, rfl, hy, ry⟩ := k2
  have lx := rx.len
  have ly := ry.len
  exact ⟨a, b, xs, ys, rfl, rfl, hx, hy, sm (by omega), fun c hc => q _ _ (s1.trans (s2.trans (Same.upd hc))) ⟨c, _, rfl, upd_same, (Same.upd hc).repPL (repPL_app rx ry)⟩⟩
theorem zs_set {i : Nat} {x : Str} {e : Expr} {te : TE} {pos pos' : Pos} (hN : X.N.Nodup) (hi : X.N[i]? = some x) (hx : Loc X.env.scope x) (he : ZE X e te) (hs : swapsWith e (some (.Name x pos')) pos.line X.env = pure false := by rfl) (hf : X.fn x = true ∨ X.env.scope.names.lookup x = some .local := by first | exact .inl rfl | exact .inr rfl | assumption) :
    ZS X (.Assign [.Name x pos'] e pos) (tAsg te (gName i)) := ⟨ps_set hN hi hx he.p hs hf⟩
end
section
variable {X : Cx} {Pre : L2.St → Hp → Prop}
theorem zd_neg {i : Int} {j pos pos'} : ZE X (.UnaryOp .USub (.Constant (.int i) j pos) pos') (tR (IsP X.K (.int (-i))) Pre) := zx_of (ze_of (pe_un un_neg pe_int)) fun σ H Q _ q => ⟨_, rfl, q _ _ (Same.refl _) rfl⟩
theorem zd_pow {i k : Int} {j j' : Nat} {p1 p2 pos : Pos} (h1 : 0 ≤ k) (h2 : k ≤ 1000000) (h3 : i.natAbs < 2 ^ 64) : ZE X (.BinOp (.Constant (.int i) j p1) .Pow (.Constant (.int k) j' p2) pos) (tR (IsP X.K (.int (i ^ k.toNat))) Pre) := zx_of (ze_of (pe_op op_pow pe_int pe_int)) fun σ H Q _ q => ⟨_, _, rfl, rfl, ⟨h1, h2, h3⟩, q _ _ (Same.refl _) rfl⟩
end
def odd1 : List PyData := [.tuple [.str "share", .int 0], .tuple [.str "share", .int 1], .tuple [.str "share", .int (-2)], .tuple [.str "share", .bool true], .tuple [.str "share", .none], .tuple [.str "share"], .tuple [.str "share", .int 2, .int 2]]
def odd2 : List PyData := [.list [.str "share", .int 2], .list [.str "ties"], .str "ties", .tuple [.str "ties", .int 2], .tuple [.str "tie"], .tuple [], .none, .int 0, .dict [], .tuple [.str "Share", .int 2], .tuple [.tuple [.str "ties"]]]
def odd3 : List PyData := [.tuple [.str "share", .str "2"], .tuple [.str "share", .list [.int 2]], .tuple [.str "share", .int (10 ^ (20 : Int).toNat)], .tuple [.int 2, .str "share"]]
theorem odd_ok : (odd1 ++ odd2 ++ odd3).all factB = true := by decide +kernel
theorem sh_show : ∀ k : Nat, k < 61 → showB (shD k) = true := by decide +kernel
theorem ti_show : showB tiesP = true := by decide +kernel
def goodP (q : Nat) : List PyData := shP q ++ [tiesP]
theorem goodP_len (q : Nat) : (goodP q).length = q + 1 := by unfold goodP; rw [List.length_append, shP_len]; rfl
theorem good_show {n : Nat} (hn : n ≤ 60) : ∀ d ∈ goodP n, showB d = true := fun d hd => by
  rcases List.mem_append.mp hd with h | h
  · obtain ⟨k, hk, rfl⟩ := List.mem_map.mp h
    exact sh_show k (by have := List.mem_range.mp hk; omega)
  · have : d = tiesP := by simpa using h
    rw [this]; exact ti_show
theorem filt_eq {many : Int} {ties : List (Int × Int)} (ne : ties ≠ []) : (goodP ties.length).filter (tbB many ties) = (goodP (ties.length - 1)).filter (tbB many ties) := by
  have q1 : 1 ≤ ties.length := List.length_pos_iff.mpr ne
  unfold goodP
  rw [List.filter_append, List.filter_append]
  refine congrArg (· ++ _) ?_
  obtain ⟨m, hm⟩ : ∃ m, ties.length = m + 1 := ⟨ties.length - 1, by omega⟩
  rw [show ties.length - 1 = m by omega, hm, shP_succ, List.filter_append]
  have no : tbB many ties (shD m) = false := tbB_f (fun z => by
    rw [py_sh] at z
    have := tb_share.mp z
    unfold shareB at this
    simp only [Bool.and_eq_true, decide_eq_true_eq] at this
    have e := this.2.1
    rw [hm] at e
    have : ((m + 1 : Nat) : Int) % ((2 + m : Nat) : Int) = ((m + 1 : Nat) : Int) := Int.emod_eq_of_lt (by omega) (by omega)
    omega)
  rw [List.filter_cons_of_neg (by rw [no]; decide), List.filter_nil, List.append_nil]
section
variable {P : Program} {w : World} {K : PySem.W.Frag} {mg : Str → Option Value} {base : Heap}
def PrT : L2.St → Hp → Prop := fun _ _ => True
def PrS (K : PySem.W.Frag) (σ : L2.St) (H : Hp) : Prop := ∃ (v0 v1 : Option V) (o : V) (r : L2.St), σ = v0 :: v1 :: some o :: r ∧ IsL K odd1 H o
theorem PrS.grows {K : PySem.W.Frag} : Grows (PrS K) := fun _ _ _ ⟨v0, v1, g, r, e, h⟩ s => ⟨v0, v1, g, r, e, IsL.gr _ _ _ h s⟩
def PrB (K : PySem.W.Frag) (q : Nat) (σ : L2.St) (H : Hp) : Prop := ∃ (v0 : Option V) (g o : V) (r : L2.St), σ = v0 :: some g :: some o :: r ∧ IsL K (goodP q) H g ∧ IsL K (odd1 ++ odd2) H o
theorem PrB.grows {K : PySem.W.Frag} {q : Nat} : Grows (PrB K q) := fun _ _ _ ⟨v0, g, o, r, e, h, h'⟩ s => ⟨v0, g, o, r, e, IsL.gr _ _ _ h s, IsL.gr _ _ _ h' s⟩
def spRight (K : PySem.W.Frag) : Sp := fun vs H Q _ => ∃ wb many ties, vs = [.ref wb] ∧ WebAt K H wb many ties ∧ 1 ≤ many ∧ many ≤ 40 ∧ ties ≠ [] ∧ ∀ H', Same H H' → Q (.bl true) H'
def rtN : List Str := ["web", "good", "odd", "thing", "found", "due", "turn"]
theorem scRt : FnScope rtN ["web"] (defScope (top 23)) := ⟨rfl, rfl, rfl, by decide +kernel, rfl, by decide +kernel, by decide +kernel⟩
def scRtA : Scope := { kind := .function, names := [(".0", .local), ("share", .local)], isGenerator := false, isCoroutine := false, more := [] }
theorem bkRtA : BlkD (defScope (top 23)) rtN scRtA rtN ["share"] := ⟨rfl, by decide +kernel, by decide +kernel, by decide +kernel, rfl, by decide +kernel, by decide +kernel, by decide +kernel, by decide +kernel⟩
def scRtC : Scope := { kind := .function, names := [(".0", .local), ("bar", .local), ("_law_due_of", .globalImplicit), ("web", .free)], isGenerator := false, isCoroutine := false, more := [] }
theorem bkRtC : BlkD (defScope (top 23)) rtN scRtC rtN ["bar"] := ⟨rfl, by decide +kernel, by decide +kernel, by decide +kernel, rfl, by decide +kernel, by decide +kernel, by decide +kernel, by decide +kernel⟩
theorem ok_right (h : Has K mg "_law_right" (top 23) ["web"]) (T : Txt mg) (GH : Ok P w K mg base "total_bar_holds" ["web", "thing"] 4 (spTH K)) (GB : Ok P w K mg base "total_bars" ["web"] 5 (spBars K)) (GD : Ok P w K mg base "_law_due_of" ["web", "thing"] 2 (spDue K)) : Ok P w K mg base "_law_right" ["web"] 6 (spRight K) := by
  refine h.ok scRt (fun vs H Q E h => ?_) (fun f cdv A outer s H vs Q E hr h => ?_)
  · obtain ⟨wb, many, ties, rfl, _⟩ := h; rfl
  · obtain ⟨wb, many, ties, rfl, web, m1, m40, ne, q⟩ := h
    have r2 := hr.mono (show 2 ≤ 5 by decide)
    have r4 := hr.mono (show 4 ≤ 5 by decide)
    obtain ⟨t, bs, o1, o2, o3⟩ := web.at_
    have bl : bs.length = ties.length := Paired.length o3
    have t60 := web.len
    have gl := goodP_len ties.length
    have q1 : 1 ≤ ties.length := List.length_pos_iff.mpr ne
    let X := (cxOf CX0 P w K mg base rtN "_law_right" (defScope (top 23)) f cdv A outer s H E).nox
    have cr : CallR X (.builtin "repr") (rRepr K) := call_repr hr.gd hr.units
    let D : Ends := { nx := fun _ H' => Q .non H', rt := Q }
    have gs : Grows (PrS K) := PrS.grows
    have gt : Grows PrT := fun _ _ _ _ _ => trivial
    have gb : Grows (PrB K ties.length) := PrB.grows
    have w0 : SqT K H wb [.int many, .ref t] := .inl (.inl o1)
    have up : ∀ {lg : Addr} {H0 H1 : Hp} {xs : List V}, H0 lg = none → Same H0 H1 → Same H0 (upd H1 lg (.lst xs)) := fun g0 e b o z => by rw [upd_ne (ne_of_none z g0)]; exact e _ _ z
    have fll := List.length_filter_le (tbB many ties) (goodP ties.length)
    -- all bars told
    have tail5 : ∃ tr, PSs X ((defBody (top 23)).drop 5) tr ∧ ∀ (v1 v2 v3 v4 v6 : Option V) (ld : Addr) (es : List V) (H2 : Hp), Same H H2 → H2 ld = some (.lst es) → RepPL K H2 ((goodP ties.length).filter (tbB many ties)) es → tr D [some (.ref wb), v1, v2, v3, v4, some (.ref ld), v6] H2 := by
      refine ⟨_, pss_cons (ps_for PassesOwn.never rfl (pi_range1 (by rfl) T.range (pa_cons pe_int pa_nil)) (pg_name (i := 6) scRt.nd rfl (Or.inl rfl))
          (pss_cons (ps_set (i := 4) scRt.nd rfl (Or.inl rfl) (pe_callG GB hr (by rfl) (pa_cons (pv 0) pa_nil)))
          (pss_cons (ps_if (PW.pt (pw_or (pt_not (pt_val (isi_l T (pv 4) (by rfl) (by rfl)))) (pw_or1 (pt_cmpR op_ne (pe_callB cr (by rfl) T.repr boot_repr (pa_cons (pv 4) pa_nil)) (pe_callB cr (by rfl) T.repr boot_repr (pa_cons (pv 5) pa_nil)) (nomark _))))) (pss_one (ps_ret pe_bl)) pss_nil)
          (pss_one (ps_expr (pe_bm PySem.F.plainAttrs_list PySem.F.slot_list_append PySem.F.type_list_append mt_append (pv 4) (pa_cons (pe_tup (pa_cons pe_str pa_nil)) pa_nil)))))))
        (pss_one (ps_ret pe_bl)), ?_⟩
      intro v1 v2 v3 v4 v6 ld es H2 s2 h2 rd
      refine ⟨_, rfl, by omega, by omega, for_range (lo := 0) (n := (2 : Int).toNat) (fun k σ H' => ∃ v4 v6 : Option V, σ = [some (.ref wb), v1, v2, v3, v4, some (.ref ld), v6] ∧ Same H2 H') ⟨_, _, rfl, Same.refl _⟩ ?_ ?_⟩
      · rintro k σ H3 hk ⟨v4, v6, rfl, s3⟩
        have s23 := s2.trans s3
        refine ⟨_, rfl, wb, many, ties, rfl, web.keep s23.tups, m1, m40, ne, fun l ys H4 fl s4 h4 ry => ?_⟩
        have s34 := s3.trans s4
        refine ⟨_, rfl, _, "list", "list", rfl, .inr (.inr (.inr (.inl rfl))), .inl ⟨rfl, _, .inl (.inl h4)⟩, _, rfl, iteF ?_⟩
        have sy : Showy (.list ((goodP ties.length).filter (tbB many ties))) := list_showy (fun d hd => good_show t60 d (List.mem_filter.mp hd).1) (by omega)
        have e2 : (shP (ties.length - 1) ++ [tiesP]).filter (tbB many ties) = (goodP ties.length).filter (tbB many ties) := (filt_eq ne).symm
        rw [e2] at ry
        refine ⟨_, rfl, .ref l, .list _, rfl, ⟨l, ys, rfl, .inl (.inl h4), ry⟩, sy, _, rfl, .ref ld, .list _, rfl, ⟨ld, es, rfl, .inl (.inl (s34 _ _ h2)), s34.repPL rd⟩, sy, rfl, _, rfl, ?_⟩
        rw [decide_eq_true rfl]
        refine iteF ⟨_, rfl, .inl ⟨rfl, _, .inl (.inl h4)⟩, by show 1 ≤ sizeLine; decide, fun a ha => ?_⟩
        have b5 := Same.upd (o := .tup [.str "ties"]) ha
        have ly := ry.len
        refine ⟨l, ys, .ref a, rfl, rfl, b5 _ _ h4, small1000 (by omega), ?_⟩
        exact ⟨_, _, rfl, up (s3.free fl) (s34.trans b5)⟩
      · rintro σ H3 ⟨v4, v6, rfl, s3⟩
        exact q _ (s2.trans s3)
    obtain ⟨t5, p5, g5⟩ := tail5
    have oddF : ∀ d ∈ goodP ties.length ++ (odd1 ++ odd2) ++ odd3, factB d = true := fun d hd => by
      rcases List.mem_append.mp hd with h | h
      · rcases List.mem_append.mp h with h | h
        · exact bars_fact (by omega) d h
        · exact List.all_eq_true.mp odd_ok d (List.mem_append_left _ h)
      · exact List.all_eq_true.mp odd_ok d (List.mem_append_right _ h)
    have tail3 : ∃ tr, PSs X ((defBody (top 23)).drop 3) tr ∧ ∀ (v3 v4 v5 v6 : Option V) (g o : V) (H2 : Hp), Same H H2 → IsL K (goodP ties.length) H2 g → IsL K (odd1 ++ odd2) H2 o → tr D [some (.ref wb), some g, some o, v3, v4, v5, v6] H2 := by
      have kG : ∀ {p1}, ZE X (.Name "good" p1) (tR (IsL K (goodP ties.length)) (PrB K ties.length)) := fun {p1} => zk_var 1 fun σ H ⟨v0, g, o, r, e, h1, h2⟩ => ⟨_, by rw [e]; rfl, h1⟩
      have kO : ∀ {p1}, ZE X (.Name "odd" p1) (tR (IsL K (odd1 ++ odd2)) (PrB K ties.length)) := fun {p1} => zk_var 2 fun σ H ⟨v0, g, o, r, e, h1, h2⟩ => ⟨_, by rw [e]; rfl, h2⟩
      have e18 : (odd1 ++ odd2).length = 18 := rfl
      refine zss_out ⟨_, zss_cons (zs_for PassesOwn.never rfl (zi_list (zd_cat (ds := goodP ties.length ++ (odd1 ++ odd2)) (es := odd3) gb (by rw [List.length_append, gl, e18]; show ties.length + 1 + 18 + 4 ≤ 1000; omega) (zd_cat (ds := goodP ties.length) (es := odd1 ++ odd2) gb (by rw [gl, e18]; omega) kG kO) (zd_lst (ds := odd3) (by decide) (zd_cons gb (zd_tup (by decide) (zd_cons gb zd_str (zd_cons gb zd_str zd_nil))) (zd_cons gb (zd_tup (by decide) (zd_cons gb zd_str (zd_cons gb (zd_l (zd_lst (by decide) (zd_cons gb zd_int zd_nil))) zd_nil))) (zd_cons gb (zd_tup (by decide) (zd_cons gb zd_str (zd_cons gb (zd_pow (by decide) (by decide) (by decide)) zd_nil))) (zd_cons gb (zd_tup (by decide) (zd_cons gb zd_int (zd_cons gb zd_str zd_nil))) zd_nil))))))) (pg_name (i := 3) scRt.nd rfl (Or.inl rfl))
          (pss_cons (ps_set (i := 4) scRt.nd rfl (Or.inl rfl) (pe_callG GH r4 (by rfl) (pa_cons (pv 0) (pa_cons (pv 3) pa_nil))))
          (pss_one (ps_if (PW.pt (pw_or (pt_not (pt_val (isi_b T (pv 4) (by rfl) (by rfl)))) (pw_or1 (pt_cmpR op_ne (pv 4) (pe_callG GD r2 (by rfl) (pa_cons (pv 0) (pa_cons (pv 3) pa_nil))) (nomark _))))) (pss_one (ps_ret pe_bl)) pss_nil))))
        (zss_of (pss_cons (ps_compSet (j := 5) (M := rtN) (tgs := ["bar"]) rfl bkRtC.ok (pi_list (pv 1)) (fun cl C fp s H => pg_name (i := 7) bkRtC.nd rfl (Or.inl rfl)) (fun cl C fp s H => pif1 (pt_val (pe_callG GD r2 (by rfl) (pa_cons (pv 0) (pa_cons (pv 7) pa_nil))))) (fun cl C fp s H => pv 7) scRt.nd rfl rfl)
        p5)), ?_⟩
      intro v3 v4 v5 v6 g o H2 s2 hg ho
      refine ⟨⟨_, g, o, _, rfl, hg, ho⟩, fun vl H3 s3 kl => ?_⟩
      obtain ⟨pl, xs, rfl, hl, rl⟩ := kl
      refine ⟨pl, rfl, ⟨_, .inl (.inl hl)⟩, ?_⟩
      refine for_list (K := K) (a := pl) (xs := xs) (fun i σ H' => ∃ v3 v4 : Option V, σ = [some (.ref wb), some g, some o, v3, v4, v5, v6] ∧ Same H3 H') ⟨_, _, rfl, Same.refl _⟩ (fun i σ H' hi hP => by obtain ⟨_, _, _, e⟩ := hP; exact .inl (.inl (e _ _ hl))) ?_ ?_
      · rintro i x σ H4 hx ⟨v3, v4, rfl, e⟩
        obtain ⟨d, hd, rd⟩ := rl.get hx
        have fd := oddF d (List.mem_of_getElem? hd)
        have s4 := s2.trans (s3.trans e)
        have isb : ∀ {b : Bool} {H5 : Hp}, Rep K H5 (.bl b) (.bl b) := rfl
        refine ⟨_, rfl, _, rfl, wb, many, ties, PyDt d, x, rfl, web.keep s4.tups, m1, m40, (e.repP rd).rep, (fact_ft fd).1, (fact_ft fd).2, fun yes H5 s5 => ?_, fun no H5 s5 => ?_⟩
        · refine ⟨_, rfl, .bl true, (Dt.bl true).ty, "bool", rfl, .inr (.inl rfl), (isb (H5 := H5)).kind, _, rfl, iteF ?_⟩
          refine ⟨_, rfl, _, rfl, _, rfl, wb, many, ties, d, x, rfl, web.keep (s4.trans s5).tups, m1, m40, (e.trans s5).repP rd, fd, fun _ H6 s6 => ?_, fun no => absurd yes no⟩
          exact ⟨rfl, _, rfl, iteF ⟨_, _, rfl, e.trans (s5.trans s6)⟩⟩
        · refine ⟨_, rfl, .bl false, (Dt.bl false).ty, "bool", rfl, .inr (.inl rfl), (isb (H5 := H5)).kind, _, rfl, iteF ?_⟩
          refine ⟨_, rfl, _, rfl, _, rfl, wb, many, ties, d, x, rfl, web.keep (s4.trans s5).tups, m1, m40, (e.trans s5).repP rd, fd, fun yes => absurd yes no, fun _ H6 s6 => ?_⟩
          exact ⟨rfl, _, rfl, iteF ⟨_, _, rfl, e.trans (s5.trans s6)⟩⟩
      · rintro σ H4 ⟨v3, v4, rfl, e⟩
        have s4 := s2.trans (s3.trans e)
        obtain ⟨pg, gs', rfl, hgl, rg⟩ := IsL.gr _ _ _ hg (s3.trans e)
        have lg := rg.len
        have gf := bars_fact (n := ties.length) (by omega)
        refine ⟨_, rfl, pg, rfl, ⟨_, .inl (.inl hgl)⟩, ?_⟩
        refine comp_lst (K := K) (a := pg) (xs := gs') (fun k ys H' => Same H4 H' ∧ ys.length ≤ k ∧ RepPL K H' (((goodP ties.length).take k).filter (tbB many ties)) ys) ⟨Same.refl _, Nat.le_refl _, trivial⟩ (fun k ys H' hk pv => ⟨.inl (.inl (pv.1 _ _ hgl)), sm (by have := pv.2.1; omega)⟩) (fun k x ys H' hx hk pv => ?_) (fun ys H' pv l4 hl4 => ?_)
        · obtain ⟨e5, ly, ry⟩ := pv
          obtain ⟨d, hd, rd⟩ := rg.get hx
          have df := gf d (List.mem_of_getElem? hd)
          have tk : (goodP ties.length).take (k + 1) = (goodP ties.length).take k ++ [d] := by rw [List.take_add_one, hd]; rfl
          refine ⟨rfl, _, rfl, _, rfl, wb, many, ties, d, x, rfl, web.keep (s4.trans e5).tups, m1, m40, e5.repP rd, df, fun yes H5 s5 => ⟨_, rfl, iteT ⟨_, rfl, .mk hk ⟨e5.trans s5, by rw [List.length_append]; show ys.length + 1 ≤ k + 1; omega, ?_⟩⟩⟩, fun no H5 s5 => ⟨_, rfl, iteF (.mk hk ⟨e5.trans s5, by omega, ?_⟩)⟩⟩
          · rw [tk, List.filter_append, List.filter_cons_of_pos (tbB_t yes)]
            exact repPL_app (s5.repPL ry) ⟨(e5.trans s5).repP rd, trivial⟩
          · rw [tk, List.filter_append, List.filter_cons_of_neg (by rw [tbB_f no]; decide), List.filter_nil, List.append_nil]
            exact s5.repPL ry
        · obtain ⟨e5, ly, ry⟩ := pv
          rw [List.take_of_length_le (by omega)] at ry
          have b5 := Same.upd (o := .lst ys) hl4
          exact g5 _ _ _ _ _ l4 ys _ (s4.trans (e5.trans b5)) upd_same (b5.repPL ry)
    obtain ⟨t3, p3, g3⟩ := tail3
    have kS : ∀ {p1}, ZE X (.Name "odd" p1) (tR (IsL K odd1) (PrS K)) := fun {p1} => zk_var 2 fun σ H ⟨v0, v1, g, r, e, h⟩ => ⟨_, by rw [e]; rfl, h⟩
    refine zss_out ⟨_, zss_cons (zs_set (i := 1) scRt.nd rfl (Or.inl rfl) (ze_of (pe_op op_cat (pe_comp (M := rtN) (tgs := ["share"]) rfl bkRtA.ok (pi_range2 (by rfl) T.range (pa_cons pe_int (pa_cons (pe_op op_add (pe_callB call_len_seq (by rfl) T.len PySem.boot_len (pa_cons (pe_ix ix_tup (pv 0) pe_int (fun _ _ => rfl)) pa_nil)) pe_int) pa_nil))) (fun cl C fp s H => pg_name (i := 7) bkRtA.nd rfl (Or.inl rfl)) (fun cl C fp s H => pif0) (fun cl C fp s H => pe_tup (pa_cons pe_str (pa_cons (pv 7) pa_nil)))) (pe_lst (pa_cons (pe_tup (pa_cons pe_str pa_nil)) pa_nil)))))
      (zss_cons (zs_set (i := 2) scRt.nd rfl (Or.inl rfl) (zd_lst (ds := odd1) (by decide) (zd_cons gt (zd_tup (by decide) (zd_cons gt zd_str (zd_cons gt zd_int zd_nil))) (zd_cons gt (zd_tup (by decide) (zd_cons gt zd_str (zd_cons gt zd_int zd_nil))) (zd_cons gt (zd_tup (by decide) (zd_cons gt zd_str (zd_cons gt zd_neg zd_nil))) (zd_cons gt (zd_tup (by decide) (zd_cons gt zd_str (zd_cons gt zd_bl zd_nil))) (zd_cons gt (zd_tup (by decide) (zd_cons gt zd_str (zd_cons gt zd_non zd_nil))) (zd_cons gt (zd_tup (by decide) (zd_cons gt zd_str zd_nil)) (zd_cons gt (zd_tup (by decide) (zd_cons gt zd_str (zd_cons gt zd_int (zd_cons gt zd_int zd_nil)))) zd_nil)))))))))
      (zss_cons (zs_set (i := 2) scRt.nd rfl (Or.inl rfl) (zd_cat (ds := odd1) (es := odd2) gs (by decide) kS (zd_lst (ds := odd2) (by decide) (zd_cons gs (zd_l (zd_lst (by decide) (zd_cons gs zd_str (zd_cons gs zd_int zd_nil)))) (zd_cons gs (zd_l (zd_lst (by decide) (zd_cons gs zd_str zd_nil))) (zd_cons gs zd_str (zd_cons gs (zd_tup (by decide) (zd_cons gs zd_str (zd_cons gs zd_int zd_nil))) (zd_cons gs (zd_tup (by decide) (zd_cons gs zd_str zd_nil)) (zd_cons gs (zd_tup (by decide) zd_nil) (zd_cons gs zd_non (zd_cons gs zd_int (zd_cons gs zd_dct (zd_cons gs (zd_tup (by decide) (zd_cons gs zd_str (zd_cons gs zd_int zd_nil))) (zd_cons gs (zd_tup (by decide) (zd_cons gs (zd_tup (by decide) (zd_cons gs zd_str zd_nil)) zd_nil)) zd_nil))))))))))))))
      (zss_of p3))), ?_⟩
    refine ⟨_, rfl, wb, _, 1, _, rfl, rfl, w0, rfl, t, _, rfl, .inr (.inl (.inl o2)), _, _, rfl, rfl, _, _, rfl, ⟨by omega, by omega, by omega, by omega⟩, ?_⟩
    refine share_comp (K := K) (n := ties.length) rfl (by omega) rfl (by omega) (fun k H' Q' s' q' => ⟨_, rfl, by show 2 ≤ sizeLine; decide, fun y hy => q' _ _ (Same.upd hy) upd_same⟩) (fun ts H1 s1 lts r1 l hl => ?_)
    have b0 := Same.upd (o := .lst ts) hl
    refine ⟨by show 1 ≤ sizeLine; decide, fun a ha => ⟨by show 1 ≤ sizeLine; decide, fun l2 hl2 => ?_⟩⟩
    have b1 := Same.upd (o := .tup [.str "ties"]) ha
    have b2 := Same.upd (o := .lst [.ref a]) hl2
    refine ⟨l, l2, ts, [.ref a], rfl, rfl, (b1.trans b2) _ _ upd_same, upd_same, sm (by show ts.length + 1 ≤ 1000; omega), fun l3 hl3 => ?_⟩
    have b3 := Same.upd (o := .lst (ts ++ [.ref a])) hl3
    have s3 := s1.trans (b0.trans (b1.trans (b2.trans b3)))
    have hg : IsL K (goodP ties.length) (upd (upd (upd (upd H1 l (.lst ts)) a (.tup [.str "ties"])) l2 (.lst [.ref a])) l3 (.lst (ts ++ [.ref a]))) (.ref l3) := ⟨l3, _, rfl, upd_same, repPL_app ((b0.trans (b1.trans (b2.trans b3))).repPL r1) ⟨(b2.trans b3).repP (repP_1 upd_same), trivial⟩⟩
    generalize (upd (upd (upd (upd H1 l (.lst ts)) a (.tup [.str "ties"])) l2 (.lst [.ref a])) l3 (.lst (ts ++ [.ref a]))) = H3 at s3 hg ⊢
    refine ⟨trivial, fun vo H4 s4 k4 => ⟨⟨_, _, vo, _, rfl, k4⟩, fun vo' H5 s5 k5 => ?_⟩⟩
    exact g3 _ _ _ _ (.ref l3) vo' H5 (s3.trans (s4.trans s5)) (IsL.gr _ _ _ hg (s4.trans s5)) k5
end
end K49

namespace K49
open PySem L2 PyProof.Rows
theorem pair_app {α β : Type} {R : α → β → Prop} : ∀ {l1 l1' : List α} {l2 l2' : List β}, Paired R l1 l2 → Paired R l1' l2' → Paired R (l1 ++ l1') (l2 ++ l2')
  | _, _, _, _, .nil, h => h
  | _, _, _, _, .cons r t, h => .cons r (pair_app t h)
theorem oth {a s M : Int} (h0 : 0 ≤ a) (h1 : a < M) (h2 : 1 ≤ s) (h3 : s < M) : 0 ≤ (a + s) % M ∧ (a + s) % M < M ∧ (a + s) % M ≠ a := by
  by_cases c : a + s < M
  · rw [Int.emod_eq_of_lt (by omega) c]
    omega
  · have : (a + s) % M = a + s - M := by
      have e : a + s = (a + s - M) + M := by omega
      conv => lhs; rw [e]
      first | rw [Int.add_emod_right] | rw [Int.add_emod_self]
      exact Int.emod_eq_of_lt (by omega) (by omega)
    rw [this]
    omega
def fC (i : Nat) : Nat := i * (19 - i) / 2
theorem fC_step : ∀ i : Nat, i < 10 → fC i + (9 - i) ≤ fC (i + 1) := by decide
theorem fC_le : ∀ i : Nat, i < 11 → fC i ≤ 45 := by decide
def VB (kvs : List (List Key × V)) : Prop := ∀ k v, valV kvs k = some v → ∃ b, v = V.bl b
theorem VB.put {kvs : List (List Key × V)} (h : VB kvs) {k : List Key} {b : Bool} : VB (putK kvs k (.bl b)) := fun j v e => by
  rw [valV_put] at e
  split at e
  · exact ⟨b, (Option.some.inj e).symm⟩
  · exact h j v e
structure MidD (H : Hp) (p d : Addr) (many : Int) (n : Nat) (H' : Hp) : Prop where
  pen : Pen H' p
  same : SameBut p H H'
  dict : ∃ kvs, H' d = some (.dT kvs) ∧ kvs.length ≤ n ∧ (∀ k ∈ kvs.map (·.1), goodKey many k) ∧ VB kvs
theorem MidD.draw {H H1 H2 : Hp} {p d : Addr} {many : Int} {n : Nat} (m : MidD H p d many n H1) (hpd : p ≠ d) (pen : Pen H2 p) (e : ∀ b, b ≠ p → H2 b = H1 b) : MidD H p d many n H2 := by
  obtain ⟨kvs, h1, h2⟩ := m.dict
  exact ⟨pen, fun b o nb q => by rw [e b nb]; exact m.same b o nb q, kvs, by rw [e d hpd.symm]; exact h1, h2⟩
theorem MidD.more {H H1 : Hp} {p d : Addr} {many many' : Int} {n n' : Nat} (m : MidD H p d many n H1) (h : many ≤ many') (hn : n ≤ n') : MidD H p d many' n' H1 := by
  obtain ⟨kvs, h1, h2, h3, h4⟩ := m.dict
  exact ⟨m.pen, m.same, kvs, h1, by omega, fun k hk => by obtain ⟨x, y, e, a, b, c⟩ := h3 k hk; exact ⟨x, y, e, a, b, by omega⟩, h4⟩
theorem MidD.put {H H1 : Hp} {p d t : Addr} {many : Int} {n : Nat} {x y : Int} {b : Bool} (m : MidD H p d many n H1) (hd : H d = none) (hpd : p ≠ d) (ht : H1 t = none) (g : goodKey many [Sum.inl x, Sum.inl y]) (hn : n < 1000) :
    ∃ H3, DPut (upd H1 t (.tup [.int x, .int y])) d (.ref t) (.bl b) H3 ∧ MidD H p d many (n + 1) H3 := by
  obtain ⟨kvs, h1, h2, h3, h4⟩ := m.dict
  have ntd : d ≠ t := ne_of_none h1 ht
  have npt : p ≠ t := m.pen.ne ht
  have e1 : (upd H1 t (.tup [.int x, .int y])) d = some (.dT kvs) := by rw [upd_ne ntd]; exact h1
  refine ⟨_, DPut.t (k := [Sum.inl x, Sum.inl y]) e1 upd_same (small1000 (by omega)), ?_, ?_, putK kvs [Sum.inl x, Sum.inl y] (.bl b), upd_same, ?_, fun k hk => ?_, h4.put⟩
  · obtain ⟨a, f, s, q⟩ := m.pen
    exact ⟨a, f, s, by rw [upd_ne hpd, upd_ne npt]; exact q⟩
  · intro b o nb q
    have q1 := m.same b o nb q
    rw [upd_ne (ne_of_none q hd), upd_ne (ne_of_none q1 ht)]
    exact q1
  · exact Nat.le_trans (length_putK _ _ _) (Nat.succ_le_succ h2)
  · rcases putK_keys hk with rfl | hk
    · exact g
    · exact h3 k hk
section
variable {P : Program} {w : World} {K : PySem.W.Frag} {mg : Str → Option Value} {base : Heap}
def spRW (K : PySem.W.Frag) : Sp := fun vs H Q _ => ∃ p, vs = [.ref p] ∧ Pen H p ∧ ∀ w H' many ties, WebAt K H' w many ties → 1 ≤ many → many ≤ 40 → Pen H' p → SameBut p H H' → Q (.ref w) H'
def rwN : List Str := ["pen", "way", "ties", "many", "place", "step", "other", "leaves", "turn", "leaf", "one"]
theorem scRw : FnScope rwN ["pen"] (defScope (top 21)) := ⟨rfl, rfl, rfl, by decide +kernel, rfl, by decide +kernel, by decide +kernel⟩
def scRwC : Scope := { kind := .function, names := [(".0", .local), ("tie", .local), ("ties", .free)], isGenerator := false, isCoroutine := false, more := [] }
theorem bkRw : BlkD (defScope (top 21)) rwN scRwC rwN ["tie"] := ⟨rfl, by decide +kernel, by decide +kernel, by decide +kernel, rfl, by decide +kernel, by decide +kernel, by decide +kernel, by decide +kernel⟩
theorem ok_rw (h : Has K mg "_law_round_web" (top 21) ["pen"]) (T : Txt mg) (G : Ok P w K mg base "_law_draw" ["pen", "many"] 2 spDraw) : Ok P w K mg base "_law_round_web" ["pen"] 3 (spRW K) := by
  refine h.ok scRw (fun vs H Q E h => ?_) (fun f cdv A outer s H vs Q E hr h => ?_)
  · obtain ⟨p, rfl, _⟩ := h; rfl
  · obtain ⟨p, rfl, hpen, q⟩ := h
    have hu := hu_of hr
    have small : ∀ {n : Nat}, n ≤ 1000 → n ≤ sizeLine := fun h => Nat.le_of_lt (small1000 h)
    let X := (cxOf CX0 P w K mg base rwN "_law_round_web" (defScope (top 21)) f cdv A outer s H E).nox
    let D : Ends := { nx := fun _ H' => Q .non H', rt := Q }
    have tail3 : ∃ tr, PSs X ((defBody (top 21)).drop 3) tr ∧ ∀ (v1 v4 v5 v6 v7 v8 v9 v10 : Option V) (d : Addr) (m : Int) (H2 : Hp), H d = none → p ≠ d → MidD H p d m 60 H2 → 1 ≤ m → m ≤ 40 → tr D [some (.ref p), v1, some (.ref d), some (.int m), v4, v5, v6, v7, v8, v9, v10] H2 := by
      refine ⟨_, pss_one (ps_ret (pe_tup (pa_cons (pv 3) (pa_cons (pe_callTy call_tuple_of (by rfl) T.tuple PyProof.Rows.boot_tuple (pa_cons (pe_callB call_sortedT (by rfl) T.sorted PyProof.Rows.boot_sorted (pa_cons (pe_comp (M := rwN) (tgs := ["tie"]) rfl bkRw.ok (pi_dT (pv 2)) (fun cl C fp s H => pg_name (i := 11) bkRw.nd rfl (Or.inl rfl)) (fun cl C fp s H => pif1 (PW.pt (pw_and (pt_val (pe_dget hu (pv 2) (pv 11) (fun _ _ => rfl))) (pw_and1 (pt_cmpR op_ne (pe_ix (r := rIxT K) ix_tup (pv 11) pe_int (fun _ _ => rfl)) (pe_ix (r := rIxT K) ix_tup (pv 11) pe_int (fun _ _ => rfl)) (nomark _)))))) (fun cl C fp s H => pv 11)) pa_nil)) pa_nil)) pa_nil)))), ?_⟩
      intro v1 v4 v5 v6 v7 v8 v9 v10 d m H2 hd hpd mid m1 m40
      obtain ⟨kvs, k1, k2, k3, k4⟩ := mid.dict
      refine ⟨_, rfl, _, rfl, d, kvs, rfl, k1, fun nd o => ?_⟩
      have fz : (upd H2 d (.frz o (.dT kvs))) d = some (.frz o (.dT kvs)) := upd_same
      have pen3 : Pen (upd H2 d (.frz o (.dT kvs))) p := by
        obtain ⟨x1, x2, x3, hx⟩ := mid.pen
        exact ⟨x1, x2, x3, by rw [upd_ne hpd]; exact hx⟩
      have sb3 : SameBut p H (upd H2 d (.frz o (.dT kvs))) := fun b ob nb z => by rw [upd_ne (ne_of_none z hd)]; exact mid.same b ob nb z
      generalize (upd H2 d (.frz o (.dT kvs))) = H3 at fz pen3 sb3 ⊢
      refine comp_dT (a := d) (o := o) (kvs := kvs) (fun i ys H' => Same H3 H' ∧ ys.length ≤ i ∧ ∃ ts, Paired (TieAt K H') ys ts ∧ ts.Sublist ((kvs.map fun kv => keyTie kv.1).take i)) ⟨Same.refl _, Nat.le_refl _, [], .nil, List.Sublist.refl _⟩ (fun i ys H' hi pv => ⟨pv.1 _ _ fz, small (by have := pv.2.1; omega)⟩) (fun i kk v b ys H' hk hi hb pv => ?_) (fun ys H4 pv l4 hl4 => ?_)
      · obtain ⟨e, ly, ts, pr, sl⟩ := pv
        have gk := k3 kk (List.mem_map.mpr ⟨(kk, v), List.mem_of_getElem? hk, rfl⟩)
        obtain ⟨x, y, rfl, x0, xy, ym⟩ := gk
        have hv : ∃ v', valV kvs [Sum.inl x, Sum.inl y] = some v' := by
          cases hc : valV kvs [Sum.inl x, Sum.inl y] with
          | some v' => exact ⟨v', rfl⟩
          | none => exact absurd (List.mem_map.mpr ⟨([Sum.inl x, Sum.inl y], v), List.mem_of_getElem? hk, rfl⟩) (valV_not hc)
        obtain ⟨v', hv'⟩ := hv
        obtain ⟨bb, rfl⟩ := k4 _ _ hv'
        have hb' : H' b = some (.tup [.int x, .int y]) := hb
        have tk : (kvs.map fun kv => keyTie kv.1).take (i + 1) = (kvs.map fun kv => keyTie kv.1).take i ++ [(x, y)] := by rw [List.take_add_one, List.getElem?_map, hk]; rfl
        have sub0 : ts.Sublist ((kvs.map fun kv => keyTie kv.1).take (i + 1)) := by rw [tk]; exact sl.trans (List.sublist_append_left _ _)
        refine ⟨rfl, _, rfl, _, rfl, d, .bl bb, rfl, hv' ▸ DGet.f (e _ _ fz) hb, _, rfl, ?_⟩
        cases bb with
        | false => exact iteF (iteF (.mk hi ⟨e, by omega, ts, pr, sub0⟩))
        | true =>
          refine iteT ⟨_, rfl, b, _, 0, _, rfl, rfl, .inl (.inl hb'), at0, _, rfl, b, _, 1, _, rfl, rfl, .inl (.inl hb'), at1, rfl, _, rfl, ?_⟩
          rw [decI, decide_eq_false (show ¬ x = y by omega)]
          refine iteT ⟨_, rfl, .mk hi ⟨e, by rw [List.length_append]; show ys.length + 1 ≤ i + 1; omega, ts ++ [(x, y)], ?_, by rw [tk]; exact sl.append (List.Sublist.refl _)⟩⟩
          exact pair_app pr (.cons ⟨b, rfl, hb'⟩ .nil)
      · obtain ⟨e4, ly, ts, py, sl⟩ := pv
        rw [List.take_of_length_le (by rw [List.length_map]; exact Nat.le_refl _)] at sl
        have lts : ys.length = ts.length := Paired.length py
        have tg : ∀ t ∈ ts, 0 ≤ t.1 ∧ t.1 < t.2 ∧ t.2 < m := fun t ht => by
          obtain ⟨kv, hkv, e⟩ := List.mem_map.mp (sl.subset ht)
          obtain ⟨x, y, g1, g2, g3, g4⟩ := k3 kv.1 (List.mem_map.mpr ⟨kv, hkv, rfl⟩)
          rw [← e, g1]
          exact ⟨g2, g3, g4⟩
        have tnd : ts.Nodup := by
          have := keyTie_nd k3 nd
          rw [List.map_map] at this
          exact this.sublist sl
        have s1 : Same H4 (upd H4 l4 (.lst ys)) := Same.upd hl4
        refine ⟨l4, ys, rfl, .inl (.inl upd_same), by omega, fun b hb => ?_, fun l2 bs' hl2 hp' => ?_⟩
        · obtain ⟨t, _, a, rfl, e⟩ := Paired.mem py hb
          exact ⟨a, [t.1, t.2], rfl, .inl (.inl (s1 _ _ e)), by simp⟩
        · have s2 : Same H4 (upd (upd H4 l4 (.lst ys)) l2 (.lst bs')) := s1.trans (Same.upd hl2)
          refine ⟨l2, bs', rfl, .inl ⟨.inl (.inl upd_same), fun t ht => ⟨by show 2 ≤ sizeLine; decide, fun w' hw' => ?_⟩⟩⟩
          have s4 := s2.trans ((Same.upd (o := .tup bs') ht).trans (Same.upd (o := .tup [.int m, .ref t]) hw'))
          obtain ⟨ties, tp, pr'⟩ := Paired.perm hp' py
          have sA := e4.trans s4
          refine q w' _ m ties ⟨⟨t, bs', upd_same, Same.upd (o := .tup [.int m, .ref t]) hw' _ _ upd_same, Paired.imp (fun a b ⟨c, q1, q2⟩ => ⟨c, q1, s4 _ _ q2⟩) pr'⟩, ?_, fun u hu => ?_, ?_⟩ m1 m40 (pen3.same sA) (sb3.same sA)
          · rw [tp.length_eq]; omega
          · exact tg u (tp.mem_iff.mp hu)
          · exact tp.nodup_iff.mpr tnd
    obtain ⟨t3, p3, g3⟩ := tail3
    refine ⟨_, pss_cons (ps_set (i := 1) scRw.nd rfl (Or.inl rfl) (pe_callG G hr (by rfl) (pa_cons (pv 0) (pa_cons pe_int pa_nil))))
      (pss_cons (ps_set (i := 2) scRw.nd rfl (Or.inr rfl) pe_dnewT)
      (pss_cons (ps_if (pt_cmpR op_eq (pv 1) pe_int (nomark _))
        (pss_cons (ps_set (i := 3) scRw.nd rfl (Or.inl rfl) (pe_op op_add pe_int (pe_callG G hr (by rfl) (pa_cons (pv 0) (pa_cons pe_int pa_nil)))))
        (pss_one (ps_for PassesOwn.never rfl (pi_range1 (by rfl) T.range (pa_cons (pv 3) pa_nil)) (pg_name (i := 4) scRw.nd rfl (Or.inl rfl))
          (pss_one (ps_for PassesOwn.never rfl (pi_range2 (by rfl) T.range (pa_cons pe_int (pa_cons (pe_op op_add pe_int (pe_callB (call_max2 rfl) (by rfl) T.max PyProof.Rows.boot_max (pa_cons pe_int (pa_cons (pe_callG G hr (by rfl) (pa_cons (pv 0) (pa_cons pe_int pa_nil))) pa_nil)))) pa_nil))) (pg_name (i := 5) scRw.nd rfl (Or.inl rfl))
            (pss_cons (ps_set (i := 6) scRw.nd rfl (Or.inl rfl) (pe_op op_mod (pe_op op_add (pv 4) (pv 5)) (pv 3)))
            (pss_one (ps_dput hu (pv 2) (pe_tup (pa_cons (pe_callB (call_min2 rfl) (by rfl) T.min PyProof.Rows.boot_min (pa_cons (pv 4) (pa_cons (pv 6) pa_nil))) (pa_cons (pe_callB (call_max2 rfl) (by rfl) T.max PyProof.Rows.boot_max (pa_cons (pv 4) (pa_cons (pv 6) pa_nil))) pa_nil))) pe_bl rfl))))))))
        (pss_one (ps_if (pt_cmpR op_eq (pv 1) pe_int (nomark _))
          (pss_cons (ps_set (i := 7) scRw.nd rfl (Or.inl rfl) (pe_op op_add pe_int (pe_callG G hr (by rfl) (pa_cons (pv 0) (pa_cons pe_int pa_nil)))))
          (pss_cons (ps_set (i := 3) scRw.nd rfl (Or.inl rfl) pe_int)
          (pss_one (ps_for PassesOwn.never rfl (pi_range1 (by rfl) T.range (pa_cons (pe_op op_add pe_int (pe_callG G hr (by rfl) (pa_cons (pv 0) (pa_cons pe_int pa_nil)))) pa_nil)) (pg_name (i := 8) scRw.nd rfl (Or.inl rfl))
            (pss_cons (ps_for PassesOwn.never rfl (pi_range1 (by rfl) T.range (pa_cons (pv 7) pa_nil)) (pg_name (i := 9) scRw.nd rfl (Or.inl rfl))
              (pss_one (ps_dput hu (pv 2) (pe_tup (pa_cons (pv 3) (pa_cons (pe_op op_add (pe_op op_add (pv 3) pe_int) (pv 9)) pa_nil))) pe_bl rfl)))
            (pss_one (ps_set (i := 3) scRw.nd rfl (Or.inl rfl) (pe_op op_add (pe_op op_add (pv 3) (pv 7)) pe_int))))))))
          (pss_cons (ps_set (i := 3) scRw.nd rfl (Or.inl rfl) (pe_op op_add pe_int (pe_callG G hr (by rfl) (pa_cons (pv 0) (pa_cons pe_int pa_nil)))))
          (pss_one (ps_for PassesOwn.never rfl (pi_range1 (by rfl) T.range (pa_cons (pv 3) pa_nil)) (pg_name (i := 10) scRw.nd rfl (Or.inl rfl))
            (pss_one (ps_for PassesOwn.never rfl (pi_range2 (by rfl) T.range (pa_cons (pe_op op_add (pv 10) pe_int) (pa_cons (pv 3) pa_nil))) (pg_name (i := 6) scRw.nd rfl (Or.inl rfl))
              (pss_one (ps_dput hu (pv 2) (pe_tup (pa_cons (pv 10) (pa_cons (pv 6) pa_nil))) (pe_or (pe_cmpR op_eq (pv 1) pe_int (nomark _)) (pe_one (pe_cmpR op_eq (pe_op op_mod (pe_op op_add (pv 10) (pv 6)) pe_int) pe_int (nomark _)))) rfl))))))))))
      p3)), ?_⟩
    refine ⟨_, rfl, p, 4, rfl, hpen, by decide, by decide, fun wy H1 wa wb pen1 e1 d hd1 => ?_⟩
    have hpd : p ≠ d := pen1.ne hd1
    have hd : H d = none := by rw [← e1 d hpd.symm]; exact hd1
    have mid0 : MidD H p d 0 0 (upd H1 d (.dT [])) := by
      refine ⟨?_, fun b o nb qq => ?_, [], upd_same, Nat.le_refl _, (fun k hk => by cases hk), fun k v e => by cases e⟩
      · obtain ⟨a, f, s, qq⟩ := pen1
        exact ⟨a, f, s, by rw [upd_ne hpd]; exact qq⟩
      · rw [upd_ne (ne_of_none qq hd), e1 b nb]; exact qq
    generalize (upd H1 d (.dT [])) = H2 at mid0 ⊢
    refine ⟨_, rfl, rfl, _, rfl, iteB (fun c0 => ?_) fun c0 => ⟨_, rfl, rfl, _, rfl, iteB (fun c1 => ?_) fun c1 => ?_⟩⟩
    · -- round
      refine ⟨_, rfl, p, 18, rfl, mid0.pen, by decide, by decide, fun r H3 r0 r1 pen3 e3 => ?_⟩
      have mid3 := (mid0.draw hpd pen3 e3).more (many' := 3 + r) (n' := 0) (by omega) (Nat.le_refl _)
      refine ⟨_, _, rfl, rfl, _, rfl, _, rfl, by omega, by omega, for_range (lo := 0) (n := (3 + r).toNat) (fun i σ H' => ∃ v4 v5 v6 : Option V, σ = [some (.ref p), some (.int wy), some (.ref d), some (.int (3 + r)), v4, v5, v6, none, none, none, none] ∧ MidD H p d (3 + r) (2 * i) H') ⟨_, _, _, rfl, mid3⟩ ?_ ?_⟩
      · rintro i σ H4 hi ⟨v4, v5, v6, rfl, mid4⟩
        refine ⟨_, rfl, p, 3, rfl, mid4.pen, by decide, by decide, fun r5 H5 r50 r51 pen5 e5 => ?_⟩
        have mid5 := mid4.draw hpd pen5 e5
        refine ⟨1, r5, rfl, ?_⟩
        obtain ⟨mx, emx, mx1, mx2⟩ : ∃ mx : Int, (if r5 > 1 then r5 else 1) = mx ∧ 1 ≤ mx ∧ mx ≤ 2 := by
          by_cases z : r5 > 1
          · exact ⟨r5, by rw [if_pos z], by omega, by omega⟩
          · exact ⟨1, by rw [if_neg z], by omega, by omega⟩
        rw [emx]
        refine ⟨_, _, rfl, rfl, _, _, rfl, ⟨by omega, by omega, by omega, by omega⟩, for_range (lo := 1) (n := (1 + mx - 1).toNat) (fun j σ H' => ∃ v5 v6 : Option V, σ = [some (.ref p), some (.int wy), some (.ref d), some (.int (3 + r)), some (.int (0 + (i : Nat))), v5, v6, none, none, none, none] ∧ MidD H p d (3 + r) (2 * i + j) H') ⟨_, _, rfl, mid5⟩ ?_ ?_⟩
        · rintro j σ H6 hj ⟨v5, v6, rfl, mid6⟩
          refine ⟨_, rfl, _, rfl, _, _, rfl, rfl, _, rfl, _, _, rfl, rfl, show (0 : Int) < 3 + r by omega, ?_⟩
          obtain ⟨t0, t1, t2⟩ := oth (a := 0 + (i : Nat)) (s := 1 + (j : Nat)) (M := 3 + r) (by omega) (by omega) (by omega) (by omega)
          refine ⟨_, rfl, _, rfl, _, rfl, _, _, rfl, _, rfl, _, rfl, _, _, rfl, by show 2 ≤ sizeLine; decide, fun t ht => ?_⟩
          obtain ⟨H7, p7, mid7⟩ := mid6.put (b := true) (x := if (0 + ((i : Nat) : Int) + (1 + ((j : Nat) : Int))) % (3 + r) < 0 + ((i : Nat) : Int) then (0 + ((i : Nat) : Int) + (1 + ((j : Nat) : Int))) % (3 + r) else 0 + ((i : Nat) : Int)) (y := if (0 + ((i : Nat) : Int) + (1 + ((j : Nat) : Int))) % (3 + r) > 0 + ((i : Nat) : Int) then (0 + ((i : Nat) : Int) + (1 + ((j : Nat) : Int))) % (3 + r) else 0 + ((i : Nat) : Int)) hd hpd ht ⟨_, _, rfl, by split <;> omega, by split <;> split <;> omega, by split <;> omega⟩ (by omega)
          exact ⟨d, H7, rfl, p7, _, _, rfl, mid7⟩
        · rintro σ H6 ⟨v5, v6, rfl, mid6⟩
          exact ⟨_, _, _, rfl, mid6.more (Int.le_refl _) (by omega)⟩
      · rintro σ H4 ⟨v4, v5, v6, rfl, mid4⟩
        exact g3 _ _ _ _ _ _ _ _ d (3 + r) H4 hd hpd (mid4.more (Int.le_refl _) (by omega)) (by omega) (by omega)
    · -- stars
      refine ⟨_, rfl, p, 6, rfl, mid0.pen, by decide, by decide, fun r H3 r0 r1 pen3 e3 => ?_⟩
      have mid3 := mid0.draw hpd pen3 e3
      refine ⟨_, _, rfl, rfl, ?_⟩
      refine ⟨_, rfl, p, 5, rfl, mid3.pen, by decide, by decide, fun r4 H4 r40 r41 pen4 e4 => ?_⟩
      have mid4 := mid3.draw hpd pen4 e4
      refine ⟨_, _, rfl, rfl, _, rfl, by omega, by omega, for_range (lo := 0) (n := (1 + r4).toNat) (fun i σ H' => ∃ (v8 v9 : Option V) (m : Int), σ = [some (.ref p), some (.int wy), some (.ref d), some (.int m), none, none, none, some (.int (1 + r)), v8, v9, none] ∧ MidD H p d m (6 * i) H' ∧ 0 ≤ m ∧ m ≤ 7 * i ∧ (1 ≤ i → 1 ≤ m)) ⟨_, _, 0, rfl, mid4, by omega, by omega, fun z => absurd z (by decide)⟩ ?_ ?_⟩
      · rintro i σ H5 hi ⟨v8, v9, m, rfl, mid5, k0, k1, _⟩
        refine ⟨_, rfl, _, rfl, by omega, by omega, for_range (lo := 0) (n := (1 + r).toNat) (fun j σ H' => ∃ v9 : Option V, σ = [some (.ref p), some (.int wy), some (.ref d), some (.int m), none, none, none, some (.int (1 + r)), some (.int (0 + (i : Nat))), v9, none] ∧ MidD H p d (m + (1 + r) + 1) (6 * i + j) H') ⟨_, rfl, mid5.more (by omega) (by omega)⟩ ?_ ?_⟩
        · rintro j σ H6 hj ⟨v9, rfl, mid6⟩
          refine ⟨_, rfl, _, rfl, _, rfl, _, _, rfl, rfl, _, rfl, _, _, rfl, rfl, by show 2 ≤ sizeLine; decide, fun t ht => ?_⟩
          obtain ⟨H7, p7, mid7⟩ := mid6.put (b := true) (x := m) (y := m + 1 + (0 + ((j : Nat) : Int))) hd hpd ht ⟨_, _, rfl, by omega, by omega, by omega⟩ (by omega)
          exact ⟨d, H7, rfl, p7, _, rfl, mid7⟩
        · rintro σ H6 ⟨v9, rfl, mid6⟩
          exact ⟨_, rfl, _, rfl, _, _, rfl, rfl, _, _, rfl, rfl, _, _, m + (1 + r) + 1, rfl, mid6.more (Int.le_refl _) (by omega), by omega, by omega, fun _ => by omega⟩
      · rintro σ H5 ⟨v8, v9, m, rfl, mid5, k0, k1, k2⟩
        exact g3 _ _ _ _ _ _ _ _ d m H5 hd hpd (mid5.more (Int.le_refl _) (by omega)) (k2 (by omega)) (by omega)
    · -- all, or half of them
      refine ⟨_, rfl, p, 9, rfl, mid0.pen, by decide, by decide, fun r H3 r0 r1 pen3 e3 => ?_⟩
      have mid3 := (mid0.draw hpd pen3 e3).more (many' := 2 + r) (n' := 0) (by omega) (Nat.le_refl _)
      refine ⟨_, _, rfl, rfl, _, rfl, _, rfl, by omega, by omega, for_range (lo := 0) (n := (2 + r).toNat) (fun i σ H' => ∃ v6 v10 : Option V, σ = [some (.ref p), some (.int wy), some (.ref d), some (.int (2 + r)), none, none, v6, none, none, none, v10] ∧ MidD H p d (2 + r) (fC i) H') ⟨_, _, rfl, mid3⟩ ?_ ?_⟩
      · rintro i σ H4 hi ⟨v6, v10, rfl, mid4⟩
        have st := fC_step i (by omega)
        have le := fC_le i (by omega)
        refine ⟨_, rfl, _, _, rfl, rfl, _, rfl, _, _, rfl, ⟨by omega, by omega, by omega, by omega⟩, for_range (lo := 0 + ((i : Nat) : Int) + 1) (n := (2 + r - (0 + ((i : Nat) : Int) + 1)).toNat) (fun j σ H' => ∃ v6 : Option V, σ = [some (.ref p), some (.int wy), some (.ref d), some (.int (2 + r)), none, none, v6, none, none, none, some (.int (0 + (i : Nat)))] ∧ MidD H p d (2 + r) (fC i + j) H') ⟨_, rfl, mid4⟩ ?_ ?_⟩
        · rintro j σ H5 hj ⟨v6, rfl, mid5⟩
          have put : ∀ (b : Bool), ∃ _ : True, ∀ t, H5 t = none → ∃ H7, DPut (upd H5 t (.tup [.int (0 + ((i : Nat) : Int)), .int (0 + ((i : Nat) : Int) + 1 + ((j : Nat) : Int))])) d (.ref t) (.bl b) H7 ∧ MidD H p d (2 + r) (fC i + j + 1) H7 := fun b => ⟨trivial, fun t ht => mid5.put hd hpd ht ⟨_, _, rfl, by omega, by omega, by omega⟩ (by omega)⟩
          refine ⟨_, rfl, rfl, _, rfl, iteB (fun c => ?_) fun c => ?_⟩
          · refine ⟨_, rfl, _, rfl, _, rfl, by show 2 ≤ sizeLine; decide, fun t ht => ?_⟩
            obtain ⟨H7, p7, mid7⟩ := (put true).2 t ht
            exact ⟨d, H7, rfl, p7, _, rfl, mid7⟩
          · refine ⟨_, rfl, _, rfl, _, _, rfl, rfl, _, _, rfl, rfl, show (0 : Int) < 2 by decide, rfl, _, rfl, _, rfl, _, rfl, by show 2 ≤ sizeLine; decide, fun t ht => ?_⟩
            obtain ⟨H7, p7, mid7⟩ := (put _).2 t ht
            exact ⟨d, H7, rfl, p7, _, rfl, mid7⟩
        · rintro σ H5 ⟨v6, rfl, mid5⟩
          exact ⟨_, _, rfl, mid5.more (Int.le_refl _) (by omega)⟩
      · rintro σ H4 ⟨v6, v10, rfl, mid4⟩
        have le := fC_le (2 + r).toNat (by omega)
        exact g3 _ _ _ _ _ _ _ _ d (2 + r) H4 hd hpd (mid4.more (Int.le_refl _) (by omega)) (by omega) (by omega)
end
end K49

namespace K49
open PySem L2 PyProof.Rows
def WebR (K : PySem.W.Frag) (H : Hp) (v : V) : Prop := ∃ wb many ties, v = .ref wb ∧ WebAt K H wb many ties ∧ 1 ≤ many ∧ many ≤ 40 ∧ ties ≠ []
def tTs (K : PySem.W.Frag) (ts : List (Int × Int)) : TA := fun σ H Q => ∀ vs H', Same H H' → Paired (TieAt K H') vs ts → Q vs H'
section
variable {X : Cx} {Pre : L2.St → Hp → Prop}
theorem zti_nil {K : PySem.W.Frag} : ZA X [] (tTs K []) := ⟨fun pos pins s σ H Q I h => pa_nil pos pins s σ H Q I (h [] H (Same.refl _) .nil)⟩
theorem zti_cons {K : PySem.W.Frag} {i j : Int} {j1 j2 x1 : Nat} {p1 p2 p3 : Pos} {es : List Expr} {ts : List (Int × Int)} (h : ZA X es (tTs K ts)) (hs : starEach (.Tuple [.Constant (.int i) j1 p1, .Constant (.int j) j2 p2] x1 p3 :: es) X.env = (false, eval (.Tuple [.Constant (.int i) j1 p1, .Constant (.int j) j2 p2] x1 p3) X.env) :: starEach es X.env := by rfl) : ZA X (.Tuple [.Constant (.int i) j1 p1, .Constant (.int j) j2 p2] x1 p3 :: es) (tTs K ((i, j) :: ts)) :=
  ⟨fun pos pins s σ H Q I hq => pa_cons (pe_tup (pa_cons pe_int (pa_cons pe_int pa_nil))) h.p hs pos pins s σ H Q I ⟨sm (show 2 ≤ 1000 by decide), fun a ha => fun vs H' s' pr => hq _ _ ((Same.upd ha).trans s') (.cons ⟨a, rfl, s' _ _ upd_same⟩ pr)⟩⟩
theorem zt_web {n : Int} {j x1 x2 : Nat} {p1 p2 p3 : Pos} {es : List Expr} {ts : List (Int × Int)} (h : ZA X es (tTs X.K ts)) (hl : ts.length ≤ 60) (hg : ∀ t ∈ ts, 0 ≤ t.1 ∧ t.1 < t.2 ∧ t.2 < n) (nd : ts.Nodup) (n1 : 1 ≤ n) (n40 : n ≤ 40) (ne : ts ≠ []) : ZE X (.Tuple [.Constant (.int n) j p1, .Tuple es x1 p2] x2 p3) (tR (WebR X.K) Pre) :=
  zx_of (ze_of (pe_tup (pa_cons pe_int (pa_cons (pe_tup h.p) pa_nil)))) fun σ H Q p q => fun vs H1 s1 pr => ⟨sm (by rw [Paired.length pr]; omega), fun t ht => ⟨sm (show 2 ≤ 1000 by decide), fun w hw => q _ _ (s1.trans ((Same.upd ht).trans (Same.upd hw))) ⟨w, n, ts, rfl, ⟨⟨t, vs, upd_same, Same.upd hw _ _ upd_same, Paired.imp (fun _ _ ⟨c, q1, q2⟩ => ⟨c, q1, (Same.upd hw) _ _ ((Same.upd ht) _ _ q2)⟩) pr⟩, hl, hg, nd⟩, n1, n40, ne⟩⟩⟩
end
theorem zw1 {X : Cx} {j0 j1 j2 x0 x1 x2 : Nat} {p0 p1 p2 p3 p4 p5 : Pos} : ZE X (.Tuple [.Constant (.int 2) j2 p4, .Tuple [.Tuple [.Constant (.int 0) j0 p0, .Constant (.int 1) j1 p1] x0 p2] x1 p3] x2 p5) (tR (WebR X.K) PrT) := zt_web (zti_cons zti_nil) (by decide) (by decide) (by decide) (by decide) (by decide) (by decide)
theorem zw2 {X : Cx} {j0 j1 j2 j3 j4 x0 x1 x2 x3 : Nat} {p0 p1 p2 p3 p4 p5 p6 p7 p8 : Pos} : ZE X (.Tuple [.Constant (.int 4) j4 p7, .Tuple [.Tuple [.Constant (.int 0) j0 p0, .Constant (.int 1) j1 p1] x0 p2, .Tuple [.Constant (.int 2) j2 p3, .Constant (.int 3) j3 p4] x1 p5] x2 p6] x3 p8) (tR (WebR X.K) PrT) := zt_web (zti_cons (zti_cons zti_nil)) (by decide) (by decide) (by decide) (by decide) (by decide) (by decide)
theorem zw6 {X : Cx} {j0 j1 j2 j3 j4 j5 j6 j7 j8 j9 j10 j11 j12 x0 x1 x2 x3 x4 x5 x6 x7 : Nat} {p0 p1 p2 p3 p4 p5 p6 p7 p8 p9 p10 p11 p12 p13 p14 p15 p16 p17 p18 p19 p20 : Pos} : ZE X (.Tuple [.Constant (.int 4) j12 p19, .Tuple [.Tuple [.Constant (.int 0) j0 p0, .Constant (.int 1) j1 p1] x0 p2, .Tuple [.Constant (.int 0) j2 p3, .Constant (.int 2) j3 p4] x1 p5, .Tuple [.Constant (.int 0) j4 p6, .Constant (.int 3) j5 p7] x2 p8, .Tuple [.Constant (.int 1) j6 p9, .Constant (.int 2) j7 p10] x3 p11, .Tuple [.Constant (.int 1) j8 p12, .Constant (.int 3) j9 p13] x4 p14, .Tuple [.Constant (.int 2) j10 p15, .Constant (.int 3) j11 p16] x5 p17] x6 p18] x7 p20) (tR (WebR X.K) PrT) := zt_web (zti_cons (zti_cons (zti_cons (zti_cons (zti_cons (zti_cons zti_nil)))))) (by decide) (by decide) (by decide) (by decide) (by decide) (by decide)
section
variable {X : Cx}
/-- a tuple is not the empty one -/
def rNeT0 (K : PySem.W.Frag) : R2 := fun x y H Q => ∃ (a b : Addr) (xs : List V), x = .ref a ∧ y = .ref b ∧ SqT K H a xs ∧ SqT K H b [] ∧ Q (.bl (!xs.isEmpty)) H
theorem op_neT0 (hu : X.A.units < cLine) : OpR X (compareOp .NotEq) (rNeT0 X.K) := by
  intro pins s σ H x y v u Q I rx ry h
  obtain ⟨a, b, xs, rfl, rfl, ha, hb, q⟩ := h
  cases rx
  cases ry
  obtain ⟨its, r1, p1, _⟩ := I.tuple ha
  obtain ⟨its2, r2, p2, _⟩ := I.tuple hb
  cases r2
  have l1 := r1.length
  refine SeqAt.RcNeAt.tuples (show s.heap.IsTuple a its.toArray from p1) (show s.heap.IsTuple b ([] : List Value).toArray from p2) hu (e := fun _ => true) (fun j h1 h2 => absurd h2 (Nat.not_lt_zero _)) _ _ _ _ ⟨.bl _, H, I, rfl, ?_⟩
  have e : xs.isEmpty = ((List.range (min its.toArray.size ([] : List Value).toArray.size)).all (fun _ => true) && its.toArray.size == ([] : List Value).toArray.size) := by
    cases xs with
    | nil => cases its with
      | nil => rfl
      | cons y r => cases l1
    | cons x r => cases its with
      | nil => cases l1
      | cons y r => simp
  rw [← e]
  exact q
end
section
variable {P : Program} {w : World} {K : PySem.W.Frag} {mg : Str → Option Value} {base : Heap}
/-! ### _law_tied_web -/
def spTied2 (K : PySem.W.Frag) : Sp := fun vs H Q _ => ∃ p m, vs = [.ref p, .int m] ∧ Pen H p ∧ 0 < m ∧ m ≤ 40 ∧ ∀ w H' many ties, WebAt K H' w many ties → 1 ≤ many → many ≤ 40 → ties ≠ [] → Pen H' p → SameBut p H H' → Q (.ref w) H'
theorem scTw : FnScope ["pen", "most", "web"] ["pen", "most"] (defScope (top 20)) := ⟨rfl, rfl, rfl, by decide +kernel, rfl, by decide +kernel, by decide +kernel⟩
theorem ok_tw (h : Has K mg "_law_tied_web" (top 20) ["pen", "most"]) (T : Txt mg) (GW : Ok P w K mg base "_law_web_by" ["pen", "most"] 3 (spWebBy K)) : Ok P w K mg base "_law_tied_web" ["pen", "most"] 4 (spTied2 K) := by
  refine h.ok scTw (fun vs H Q E h => ?_) (fun f cdv A outer s H vs Q E hr h => ?_)
  · obtain ⟨p, m, rfl, _⟩ := h; rfl
  · obtain ⟨p, m, rfl, hpen, m0, m40, q⟩ := h
    have hu := Nat.lt_of_succ_lt (hu_of hr)
    refine ⟨_, pss_cons (ps_set (i := 2) scTw.nd rfl (Or.inl rfl) (pe_callG GW hr (by rfl) (pa_cons (pv 0) (pa_cons (pv 1) pa_nil))))
      (pss_cons (ps_if (pt_cmpR (op_eqT0 hu) (pe_ix ix_tup (pv 2) pe_int (fun _ _ => rfl)) (pe_tup pa_nil) (nomark _)) (pss_one (ps_ret (pe_tup (pa_cons (pe_callB (call_max2 rfl) (by rfl) T.max PyProof.Rows.boot_max (pa_cons pe_int (pa_cons (pe_ix ix_tup (pv 2) pe_int (fun _ _ => rfl)) pa_nil))) (pa_cons (pe_tup (pa_cons (pe_tup (pa_cons pe_int (pa_cons pe_int pa_nil))) pa_nil)) pa_nil))))) pss_nil)
      (pss_one (ps_ret (pv 2)))), ?_⟩
    refine ⟨_, rfl, _, rfl, p, m, rfl, hpen, m0, m40, fun wb H1 many ties web k1 k2 pen1 sb1 => ?_⟩
    obtain ⟨t, bs, o1, o2, o3⟩ := web.at_
    have bl : bs.length = ties.length := Paired.length o3
    refine ⟨_, rfl, wb, _, 1, _, rfl, rfl, .inl (.inl o1), rfl, ?_⟩
    refine ⟨by show 0 ≤ sizeLine; exact Nat.zero_le _, fun e0 he0 => ?_⟩
    have b1 := Same.upd (o := .tup []) he0
    refine ⟨t, e0, bs, rfl, rfl, .inl (.inl (b1 _ _ o2)), .inl (.inl upd_same), _, rfl, ?_⟩
    cases ht : ties with
    | nil =>
      have hb0 : bs = [] := List.eq_nil_of_length_eq_zero (by rw [bl, ht]; rfl)
      subst hb0
      refine iteT ?_
      refine ⟨_, rfl, wb, _, 0, _, rfl, rfl, .inl (.inl (b1 _ _ o1)), rfl, 2, many, rfl, ?_⟩
      obtain ⟨mx, emx, mx1, mx2⟩ : ∃ mx : Int, (if many > 2 then many else 2) = mx ∧ 2 ≤ mx ∧ mx ≤ 40 := by
        by_cases z : many > 2
        · exact ⟨many, by rw [if_pos z], by omega, by omega⟩
        · exact ⟨2, by rw [if_neg z], by omega, by omega⟩
      rw [emx]
      refine ⟨by show 2 ≤ sizeLine; decide, fun t1 ht1 => ⟨by show 1 ≤ sizeLine; decide, fun t2 ht2 => ⟨by show 2 ≤ sizeLine; decide, fun w3 hw3 => ?_⟩⟩⟩
      have c1 := Same.upd (o := .tup [.int 0, .int 1]) ht1
      have c2 := Same.upd (o := .tup [.ref t1]) ht2
      have c3 := Same.upd (o := .tup [.int mx, .ref t2]) hw3
      have sC := b1.trans (c1.trans (c2.trans c3))
      refine q w3 _ mx [(0, 1)] ⟨⟨t2, [.ref t1], upd_same, c3 _ _ upd_same, .cons ⟨t1, rfl, (c2.trans c3) _ _ upd_same⟩ .nil⟩, by decide, fun u hu => ?_, by decide⟩ (by omega) mx2 (by decide) (pen1.same sC) (sb1.same sC)
      have : u = (0, 1) := by simpa using hu
      subst this
      exact ⟨by decide, by decide, by show (1 : Int) < mx; omega⟩
    | cons t0 tr =>
      have hne : bs.isEmpty = false := by
        cases bs with
        | nil => rw [ht] at bl; cases bl
        | cons b0 br => rfl
      rw [hne]
      exact iteF ⟨_, rfl, q wb _ many ties (web.keep b1.tups) k1 (by omega) (by rw [ht]; exact List.cons_ne_nil _ _) (pen1.same b1) (sb1.same b1)⟩
theorem pt_rw {X : Cx} {e : Expr} {p pos pos' : Pos} {k : Nat} (hz : ZE X e (tR (WebR X.K) PrT)) (GR : Ok X.prog X.w X.K X.mg X.base "_law_right" ["web"] k (spRight X.K)) (hr : Room k X.A) (hg : Gl X "_law_right") (hs : starEach [e] X.env = [(false, eval e X.env)]) : PT X (.UnaryOp .Not (.Call (.Name "_law_right" p) [e] [] pos) pos') (fun σ H Q => ∀ H', Same H H' → Q false H') := by
  intro pins s σ H Q I h
  refine pt_not (pt_val (pe_callG GR hr hg (pa_cons hz.p pa_nil (by rw [hs]; rfl)) (by decide) (by rw [hs]; rfl) rfl)) pins s σ H Q I ?_
  exact ⟨trivial, fun v H1 s1 w => by obtain ⟨wb, m, t, rfl, web, a1, a2, a3⟩ := w; exact ⟨wb, m, t, rfl, web, a1, a2, a3, fun H2 s2 => ⟨_, rfl, h H2 (s1.trans s2)⟩⟩⟩
/-! ### law -/
def spLaw (K : PySem.W.Frag) : Sp := fun vs H Q _ => ∃ (a : Addr) (ns : List Int), vs = [.ref a] ∧ SqL K H a (ns.map V.int) ∧ ns.length ≤ 63 ∧ ∀ H', Q (.bl true) H'
def lawN : List Str := ["script", "cell", "pen", "web"]
theorem scLaw : FnScope lawN ["script"] (defScope (top 24)) := ⟨rfl, rfl, rfl, by decide +kernel, rfl, by decide +kernel, by decide +kernel⟩
theorem but_same {H H1 H2 : Hp} {p : Addr} (hp : H p = none) (s : Same H H1) (b : SameBut p H1 H2) : Same H H2 := fun c o e => b c o (ne_of_none e hp) (s _ _ e)
theorem ok_law {f : Addr} {fd : FuncData} (F : Fun K "law" "law" (top 24) f fd) (T : Txt mg) (GR : Ok P w K mg base "_law_right" ["web"] 6 (spRight K)) (GT : Ok P w K mg base "_law_tied_web" ["pen", "most"] 4 (spTied2 K)) (GD : Ok P w K mg base "_law_draw" ["pen", "many"] 2 spDraw) (GI : Ok P w K mg base "_law_round_web" ["pen"] 3 (spRW K))
    (GC : Ok P w K mg base "_law_cell_at" ["script", "k"] 1 (spCell K)) (GP : Ok P w K mg base "_law_pen_of" ["cell"] 1 spPen) : FnOk P w K mg base CX0 7 f fd ["script"] (spLaw K) := by
  refine F.ok scLaw (fun vs H Q E h => ?_) (fun cdv A outer s H vs Q E hr h => ?_)
  · obtain ⟨a, ns, rfl, _⟩ := h; rfl
  · obtain ⟨a, ns, rfl, hS, hlen, q⟩ := h
    have small : ∀ {n : Nat}, n ≤ 1000 → n ≤ sizeLine := fun h => Nat.le_of_lt (small1000 h)
    have hr1 := hr.mono (show 1 ≤ 6 by decide)
    have hr2 := hr.mono (show 2 ≤ 6 by decide)
    have hr3 := hr.mono (show 3 ≤ 6 by decide)
    have hr4 := hr.mono (show 4 ≤ 6 by decide)
    have hu := Nat.lt_of_succ_lt (hu_of hr)
    let X := (cxOf CX0 P w K mg base lawN "law" (defScope (top 24)) f cdv A outer s H E).nox
    refine ⟨_, pss_cons (ps_if (PW.pt (pw_or (pt_rw zw1 GR hr (by rfl) rfl) (pw_or1 (pt_rw zw2 GR hr (by rfl) rfl)))) (pss_one (ps_ret pe_bl)) pss_nil)
      (pss_cons (ps_if (pt_rw zw6 GR hr (by rfl) rfl) (pss_one (ps_ret pe_bl)) pss_nil)
      (pss_cons (ps_for PassesOwn.never rfl (pi_list (pe_op op_cat (pe_lst (pa_cons (pe_callG GC hr1 (by rfl) (pa_cons (pv 0) (pa_cons pe_int pa_nil))) pa_nil)) (pe_slice sl_list (pv 0) (po_some pe_int) (po_some pe_int)))) (pg_name (i := 1) scLaw.nd rfl (Or.inl rfl))
        (pss_cons (ps_set (i := 2) scLaw.nd rfl (Or.inl rfl) (pe_callG GP hr1 (by rfl) (pa_cons (pv 1) pa_nil)))
        (pss_cons (ps_set (i := 3) scLaw.nd rfl (Or.inl rfl) (pe_callG GI hr3 (by rfl) (pa_cons (pv 2) pa_nil)))
        (pss_cons (ps_if (PW.pt (pw_and (pt_cmpR (op_neT0 hu) (pe_ix ix_tup (pv 3) pe_int (fun _ _ => rfl)) (pe_tup pa_nil) (nomark _)) (pw_and1 (pt_not (pt_val (pe_callG GR hr (by rfl) (pa_cons (pv 3) pa_nil))))))) (pss_one (ps_ret pe_bl)) pss_nil)
        (pss_one (ps_if (pt_not (pt_val (pe_callG GR hr (by rfl) (pa_cons (pe_callG GT hr4 (by rfl) (pa_cons (pv 2) (pa_cons (pe_ix ix_list (pe_lst (pa_cons pe_int (pa_cons pe_int (pa_cons pe_int pa_nil)))) (pe_callG GD hr2 (by rfl) (pa_cons (pv 2) (pa_cons pe_int pa_nil))) (fun _ _ => rfl)) pa_nil))) pa_nil)))) (pss_one (ps_ret pe_bl)) pss_nil))))))
      (pss_one (ps_ret pe_bl)))), ?_⟩
    refine fun H2 s2 => iteF fun H4 s4 => iteF fun H6 s6 => iteF ?_
    have sX := s2.trans (s4.trans s6)
    refine ⟨_, rfl, a, ns, 0, rfl, sX.seq hS, by decide, fun c0 => ⟨by show 1 ≤ sizeLine; decide, fun l6 hl6 => ?_⟩⟩
    have b6 := Same.upd (o := .lst [.int c0]) hl6
    refine ⟨_, rfl, _, rfl, _, rfl, a, _, rfl, (sX.trans b6).seq hS, fun l7 hl7 => ⟨l6, l7, _, _, rfl, rfl, Same.upd hl7 _ _ upd_same, upd_same, small ?_, fun lc hlc => ?_⟩⟩
    · have := cutV_length (ns.map V.int) (some 1) (some 8)
      rw [List.length_map] at this
      show 1 + _ ≤ 1000
      omega
    have cells : ∀ x ∈ [V.int c0] ++ cutV (ns.map V.int) (some 1) (some 8), ∃ i, x = .int i := fun x hx => by
      rcases List.mem_append.mp hx with hx | hx
      · exact ⟨c0, by simpa using hx⟩
      · obtain ⟨i, _, e⟩ := List.mem_map.mp (List.mem_of_mem_drop (List.mem_of_mem_take hx))
        exact ⟨i, e.symm⟩
    refine ⟨lc, rfl, ⟨_, .inl (.inl upd_same)⟩, ?_⟩
    have h8 : (upd (upd (upd H6 l6 (.lst [.int c0])) l7 (.lst (cutV (ns.map V.int) (some 1) (some 8)))) lc (.lst ([V.int c0] ++ cutV (ns.map V.int) (some 1) (some 8)))) lc = some (.lst ([V.int c0] ++ cutV (ns.map V.int) (some 1) (some 8))) := upd_same
    generalize (upd (upd (upd H6 l6 (.lst [.int c0])) l7 (.lst (cutV (ns.map V.int) (some 1) (some 8)))) lc (.lst ([V.int c0] ++ cutV (ns.map V.int) (some 1) (some 8)))) = H8 at h8 ⊢
    generalize [V.int c0] ++ cutV (ns.map V.int) (some 1) (some 8) = cs at cells h8
    refine for_list (K := K) (a := lc) (xs := cs) (fun i σ H' => ∃ v1 v2 v3, σ = [some (.ref a), v1, v2, v3] ∧ Same H8 H') ⟨_, _, _, rfl, Same.refl _⟩ (fun i σ H' hi hP => by obtain ⟨_, _, _, _, e⟩ := hP; exact .inl (.inl (e _ _ h8))) ?_ ?_
    · rintro i x σ H9 hi ⟨x1, x2, x3, rfl, e9⟩
      obtain ⟨ci, rfl⟩ := cells x (List.mem_of_getElem? hi)
      refine ⟨_, rfl, ci, rfl, fun p HA hp penA sA => ?_⟩
      refine ⟨_, rfl, p, rfl, penA, fun wr HB many ties web k1 k2 penB sB => ?_⟩
      have sB' := but_same hp sA sB
      obtain ⟨t, bs, o1, o2, o3⟩ := web.at_
      have bl : bs.length = ties.length := Paired.length o3
      -- the second web of a cell
      have second : ∀ {HC : Hp}, Same H9 HC → Pen HC p → tIfS (tNot (tB (tCall (spRight K) [] E0 (tCons (tCall (spTied2 K) [] E0 (tCons (tVar 2) (tCons (tOp (rIxL K) (tLst (tCons (tC (.int 4)) (tCons (tC (.int 12)) (tCons (tC (.int 40)) tNil)))) (tCall spDraw [] E0 (tCons (tVar 2) (tCons (tC (.int 3)) tNil)))) tNil))) tNil)))) (tRet (tC (.bl false))) tNext { nx := fun σ H' => ∃ v1 v2 v3, σ = [some (V.ref a), v1, v2, v3] ∧ Same H8 H', rt := Q } [some (.ref a), some (.int ci), some (.ref p), some (.ref wr)] HC := fun {HC} sC penC => by
        refine ⟨_, rfl, by show 3 ≤ sizeLine; decide, fun lm hlm => ?_⟩
        have bD := Same.upd (o := .lst [.int 4, .int 12, .int 40]) hlm
        have nlm : lm ≠ p := (penC.ne hlm).symm
        refine ⟨_, rfl, p, 3, rfl, penC.same bD, by decide, by decide, fun r HE r0 r1 penE eE => ?_⟩
        have hm : HE lm = some (.lst [.int 4, .int 12, .int 40]) := by rw [eE lm nlm]; exact upd_same
        have sE : SameBut p (upd HC lm (.lst [.int 4, .int 12, .int 40])) HE := but_of eE
        have pick : ∃ m : Int, atI [V.int 4, .int 12, .int 40] r = some (.int m) ∧ 0 < m ∧ m ≤ 40 := by
          have : r = 0 ∨ r = 1 ∨ r = 2 := by omega
          rcases this with rfl | rfl | rfl
          · exact ⟨4, rfl, by decide, by decide⟩
          · exact ⟨12, rfl, by decide, by decide⟩
          · exact ⟨40, rfl, by decide, by decide⟩
        obtain ⟨m, hmm, m0, m40⟩ := pick
        refine ⟨lm, _, r, _, rfl, rfl, .inl (.inl hm), hmm, p, m, rfl, penE, m0, m40, fun w2 HF many2 ties2 web2 j1 j2 j3 penF sF => ?_⟩
        refine ⟨w2, many2, ties2, rfl, web2, j1, j2, j3, fun HG sG => ⟨_, rfl, iteF ⟨_, _, _, rfl, e9.trans ((but_same hp (but_same hp (sC.trans bD) sE) sF).trans sG)⟩⟩⟩
      refine ⟨_, rfl, wr, _, 1, _, rfl, rfl, .inl (.inl o1), rfl, by show 0 ≤ sizeLine; exact Nat.zero_le _, fun e0 he0 => ?_⟩
      have bC := Same.upd (o := .tup []) he0
      refine ⟨t, e0, bs, rfl, rfl, .inl (.inl (bC _ _ o2)), .inl (.inl upd_same), _, rfl, ?_⟩
      cases hb : bs.isEmpty with
      | true => exact iteF (iteF (second (sB'.trans bC) (penB.same bC)))
      | false =>
        have ne : ties ≠ [] := fun z => by
          rw [z] at bl
          rw [List.eq_nil_of_length_eq_zero bl] at hb
          cases hb
        exact iteT ⟨_, rfl, wr, many, ties, rfl, web.keep bC.tups, k1, k2, ne, fun HD sD => ⟨_, rfl, iteF (second (sB'.trans (bC.trans sD)) ((penB.same bC).same sD))⟩⟩
    · rintro σ H9 ⟨x1, x2, x3, rfl, e9⟩
      exact q H9
end
end K49

namespace K49
open PySem L2 PyProof.Rows
theorem has_of {K : PySem.W.Frag} {mg : Str → Option Value} {h : Heap} (X : K.In h) (G : h.Ns mainGlobals mg) {x : Str} {st : Stmt} {ps : List Str} {f : Addr} {oc : Value} {od an : Option Addr} {osl : Array (Option Value)} {kV doc pm cdv ct : Value} (a : PySem.W.nsIn K mainGlobals x = some (some (.ref f)))
    (l : K.lookup f = some ⟨oc, od, .func (PySem.W.fnOf x x (defArgs st) (defBody st) (defScope st) .none kV doc pm an cdv ct), osl⟩) (c : PySem.W.codeIn K cdv x = true) (k : PySem.W.keepIn K (.ref f) = true)
    (hb : ∀ (kV doc pm : Value) (an : Option Addr) (cdv ct : Value) (us : List Value), us.length = ps.length → bindArgs (PySem.W.fnOf x x (defArgs st) (defBody st) (defScope st) .none kV doc pm an cdv ct) ⟨us, []⟩ = pure (ps.zip us)) : Has K mg x st ps :=
  ⟨f, _, fun_mk l c k, PySem.W.mg_of X G a, (fun_mk (st := st) l c k).binds hb⟩
def headStr : List Value → Str
  | .str x _ :: _ => x
  | _ => ""
def firstStr (o : Obj) : Str := match o.data with
  | .seq a _ => headStr a.toList
  | _ => ""
theorem ne_of_first {K : PySem.W.Frag} {b c : Addr} {o o2 : Obj} (h1 : K.lookup b = some o) (h2 : K.lookup c = some o2) (n : firstStr o ≠ firstStr o2) : b ≠ c := fun e => n (by subst e; rw [h1] at h2; rw [Option.some.inj h2])
theorem all_mk {l : PySem.W.OpenLaw} {w : World} {K : PySem.W.Frag} {h : Heap} {mg : Str → Option Value} {fa : Addr} (X : K.In h) (G : h.Ns mainGlobals mg) (hfa : mg "law" = some (.ref fa))
    {f0 : Addr} {od0 an0 : Option Addr} {sl0 : Array (Option Value)} {oc0 kV0 dc0 pm0 cd0 ct0 : Value}
    {f1 : Addr} {od1 an1 : Option Addr} {sl1 : Array (Option Value)} {oc1 kV1 dc1 pm1 cd1 ct1 : Value}
    {f2 : Addr} {od2 an2 : Option Addr} {sl2 : Array (Option Value)} {oc2 kV2 dc2 pm2 cd2 ct2 : Value}
    {f3 : Addr} {od3 an3 : Option Addr} {sl3 : Array (Option Value)} {oc3 kV3 dc3 pm3 cd3 ct3 : Value}
    {f4 : Addr} {od4 an4 : Option Addr} {sl4 : Array (Option Value)} {oc4 kV4 dc4 pm4 cd4 ct4 : Value}
    {f5 : Addr} {od5 an5 : Option Addr} {sl5 : Array (Option Value)} {oc5 kV5 dc5 pm5 cd5 ct5 : Value}
    {f6 : Addr} {od6 an6 : Option Addr} {sl6 : Array (Option Value)} {oc6 kV6 dc6 pm6 cd6 ct6 : Value}
    {f7 : Addr} {od7 an7 : Option Addr} {sl7 : Array (Option Value)} {oc7 kV7 dc7 pm7 cd7 ct7 : Value}
    {f8 : Addr} {od8 an8 : Option Addr} {sl8 : Array (Option Value)} {oc8 kV8 dc8 pm8 cd8 ct8 : Value}
    {f9 : Addr} {od9 an9 : Option Addr} {sl9 : Array (Option Value)} {oc9 kV9 dc9 pm9 cd9 ct9 : Value}
    {f10 : Addr} {od10 an10 : Option Addr} {sl10 : Array (Option Value)} {oc10 kV10 dc10 pm10 cd10 ct10 : Value}
    {f11 : Addr} {od11 an11 : Option Addr} {sl11 : Array (Option Value)} {oc11 kV11 dc11 pm11 cd11 ct11 : Value}
    {f12 : Addr} {od12 an12 : Option Addr} {sl12 : Array (Option Value)} {oc12 kV12 dc12 pm12 cd12 ct12 : Value}
    {f13 : Addr} {od13 an13 : Option Addr} {sl13 : Array (Option Value)} {oc13 kV13 dc13 pm13 cd13 ct13 : Value}
    {f14 : Addr} {od14 an14 : Option Addr} {sl14 : Array (Option Value)} {oc14 kV14 dc14 pm14 cd14 ct14 : Value}
    {f15 : Addr} {od15 an15 : Option Addr} {sl15 : Array (Option Value)} {oc15 kV15 dc15 pm15 cd15 ct15 : Value}
    {f16 : Addr} {od16 an16 : Option Addr} {sl16 : Array (Option Value)} {oc16 kV16 dc16 pm16 cd16 ct16 : Value}
    {f17 : Addr} {od17 an17 : Option Addr} {sl17 : Array (Option Value)} {oc17 kV17 dc17 pm17 cd17 ct17 : Value}
    {f18 : Addr} {od18 an18 : Option Addr} {sl18 : Array (Option Value)} {oc18 kV18 dc18 pm18 cd18 ct18 : Value}
    (a0 : PySem.W.nsIn K mainGlobals "is_whole" = some (some (.ref f0))) (l0 : K.lookup f0 = some ⟨oc0, od0, .func (PySem.W.fnOf "is_whole" "is_whole" (defArgs (top 1)) (defBody (top 1)) (defScope (top 1)) .none kV0 dc0 pm0 an0 cd0 ct0), sl0⟩) (c0 : PySem.W.codeIn K cd0 "is_whole" = true) (k0 : PySem.W.keepIn K (.ref f0) = true)
    (a1 : PySem.W.nsIn K mainGlobals "bar_formed" = some (some (.ref f1))) (l1 : K.lookup f1 = some ⟨oc1, od1, .func (PySem.W.fnOf "bar_formed" "bar_formed" (defArgs (top 3)) (defBody (top 3)) (defScope (top 3)) .none kV1 dc1 pm1 an1 cd1 ct1), sl1⟩) (c1 : PySem.W.codeIn K cd1 "bar_formed" = true) (k1 : PySem.W.keepIn K (.ref f1) = true)
    (a2 : PySem.W.nsIn K mainGlobals "share_bars" = some (some (.ref f2))) (l2 : K.lookup f2 = some ⟨oc2, od2, .func (PySem.W.fnOf "share_bars" "share_bars" (defArgs (top 4)) (defBody (top 4)) (defScope (top 4)) .none kV2 dc2 pm2 an2 cd2 ct2), sl2⟩) (c2 : PySem.W.codeIn K cd2 "share_bars" = true) (k2 : PySem.W.keepIn K (.ref f2) = true)
    (a3 : PySem.W.nsIn K mainGlobals "tie_counts" = some (some (.ref f3))) (l3 : K.lookup f3 = some ⟨oc3, od3, .func (PySem.W.fnOf "tie_counts" "tie_counts" (defArgs (top 6)) (defBody (top 6)) (defScope (top 6)) .none kV3 dc3 pm3 an3 cd3 ct3), sl3⟩) (c3 : PySem.W.codeIn K cd3 "tie_counts" = true) (k3 : PySem.W.keepIn K (.ref f3) = true)
    (a4 : PySem.W.nsIn K mainGlobals "tied_places" = some (some (.ref f4))) (l4 : K.lookup f4 = some ⟨oc4, od4, .func (PySem.W.fnOf "tied_places" "tied_places" (defArgs (top 7)) (defBody (top 7)) (defScope (top 7)) .none kV4 dc4 pm4 an4 cd4 ct4), sl4⟩) (c4 : PySem.W.codeIn K cd4 "tied_places" = true) (k4 : PySem.W.keepIn K (.ref f4) = true)
    (a5 : PySem.W.nsIn K mainGlobals "total_bar_holds" = some (some (.ref f5))) (l5 : K.lookup f5 = some ⟨oc5, od5, .func (PySem.W.fnOf "total_bar_holds" "total_bar_holds" (defArgs (top 10)) (defBody (top 10)) (defScope (top 10)) .none kV5 dc5 pm5 an5 cd5 ct5), sl5⟩) (c5 : PySem.W.codeIn K cd5 "total_bar_holds" = true) (k5 : PySem.W.keepIn K (.ref f5) = true)
    (a6 : PySem.W.nsIn K mainGlobals "share_bars_totals" = some (some (.ref f6))) (l6 : K.lookup f6 = some ⟨oc6, od6, .func (PySem.W.fnOf "share_bars_totals" "share_bars_totals" (defArgs (top 11)) (defBody (top 11)) (defScope (top 11)) .none kV6 dc6 pm6 an6 cd6 ct6), sl6⟩) (c6 : PySem.W.codeIn K cd6 "share_bars_totals" = true) (k6 : PySem.W.keepIn K (.ref f6) = true)
    (a7 : PySem.W.nsIn K mainGlobals "total_bars" = some (some (.ref f7))) (l7 : K.lookup f7 = some ⟨oc7, od7, .func (PySem.W.fnOf "total_bars" "total_bars" (defArgs (top 12)) (defBody (top 12)) (defScope (top 12)) .none kV7 dc7 pm7 an7 cd7 ct7), sl7⟩) (c7 : PySem.W.codeIn K cd7 "total_bars" = true) (k7 : PySem.W.keepIn K (.ref f7) = true)
    (a8 : PySem.W.nsIn K mainGlobals "_law_cell_at" = some (some (.ref f8))) (l8 : K.lookup f8 = some ⟨oc8, od8, .func (PySem.W.fnOf "_law_cell_at" "_law_cell_at" (defArgs (top 14)) (defBody (top 14)) (defScope (top 14)) .none kV8 dc8 pm8 an8 cd8 ct8), sl8⟩) (c8 : PySem.W.codeIn K cd8 "_law_cell_at" = true) (k8 : PySem.W.keepIn K (.ref f8) = true)
    (a9 : PySem.W.nsIn K mainGlobals "_law_next" = some (some (.ref f9))) (l9 : K.lookup f9 = some ⟨oc9, od9, .func (PySem.W.fnOf "_law_next" "_law_next" (defArgs (top 15)) (defBody (top 15)) (defScope (top 15)) .none kV9 dc9 pm9 an9 cd9 ct9), sl9⟩) (c9 : PySem.W.codeIn K cd9 "_law_next" = true) (k9 : PySem.W.keepIn K (.ref f9) = true)
    (a10 : PySem.W.nsIn K mainGlobals "_law_pen_of" = some (some (.ref f10))) (l10 : K.lookup f10 = some ⟨oc10, od10, .func (PySem.W.fnOf "_law_pen_of" "_law_pen_of" (defArgs (top 16)) (defBody (top 16)) (defScope (top 16)) .none kV10 dc10 pm10 an10 cd10 ct10), sl10⟩) (c10 : PySem.W.codeIn K cd10 "_law_pen_of" = true) (k10 : PySem.W.keepIn K (.ref f10) = true)
    (a11 : PySem.W.nsIn K mainGlobals "_law_draw" = some (some (.ref f11))) (l11 : K.lookup f11 = some ⟨oc11, od11, .func (PySem.W.fnOf "_law_draw" "_law_draw" (defArgs (top 17)) (defBody (top 17)) (defScope (top 17)) .none kV11 dc11 pm11 an11 cd11 ct11), sl11⟩) (c11 : PySem.W.codeIn K cd11 "_law_draw" = true) (k11 : PySem.W.keepIn K (.ref f11) = true)
    (a12 : PySem.W.nsIn K mainGlobals "_law_whole" = some (some (.ref f12))) (l12 : K.lookup f12 = some ⟨oc12, od12, .func (PySem.W.fnOf "_law_whole" "_law_whole" (defArgs (top 18)) (defBody (top 18)) (defScope (top 18)) .none kV12 dc12 pm12 an12 cd12 ct12), sl12⟩) (c12 : PySem.W.codeIn K cd12 "_law_whole" = true) (k12 : PySem.W.keepIn K (.ref f12) = true)
    (a13 : PySem.W.nsIn K mainGlobals "_law_web_by" = some (some (.ref f13))) (l13 : K.lookup f13 = some ⟨oc13, od13, .func (PySem.W.fnOf "_law_web_by" "_law_web_by" (defArgs (top 19)) (defBody (top 19)) (defScope (top 19)) .none kV13 dc13 pm13 an13 cd13 ct13), sl13⟩) (c13 : PySem.W.codeIn K cd13 "_law_web_by" = true) (k13 : PySem.W.keepIn K (.ref f13) = true)
    (a14 : PySem.W.nsIn K mainGlobals "_law_tied_web" = some (some (.ref f14))) (l14 : K.lookup f14 = some ⟨oc14, od14, .func (PySem.W.fnOf "_law_tied_web" "_law_tied_web" (defArgs (top 20)) (defBody (top 20)) (defScope (top 20)) .none kV14 dc14 pm14 an14 cd14 ct14), sl14⟩) (c14 : PySem.W.codeIn K cd14 "_law_tied_web" = true) (k14 : PySem.W.keepIn K (.ref f14) = true)
    (a15 : PySem.W.nsIn K mainGlobals "_law_round_web" = some (some (.ref f15))) (l15 : K.lookup f15 = some ⟨oc15, od15, .func (PySem.W.fnOf "_law_round_web" "_law_round_web" (defArgs (top 21)) (defBody (top 21)) (defScope (top 21)) .none kV15 dc15 pm15 an15 cd15 ct15), sl15⟩) (c15 : PySem.W.codeIn K cd15 "_law_round_web" = true) (k15 : PySem.W.keepIn K (.ref f15) = true)
    (a16 : PySem.W.nsIn K mainGlobals "_law_due_of" = some (some (.ref f16))) (l16 : K.lookup f16 = some ⟨oc16, od16, .func (PySem.W.fnOf "_law_due_of" "_law_due_of" (defArgs (top 22)) (defBody (top 22)) (defScope (top 22)) .none kV16 dc16 pm16 an16 cd16 ct16), sl16⟩) (c16 : PySem.W.codeIn K cd16 "_law_due_of" = true) (k16 : PySem.W.keepIn K (.ref f16) = true)
    (a17 : PySem.W.nsIn K mainGlobals "_law_right" = some (some (.ref f17))) (l17 : K.lookup f17 = some ⟨oc17, od17, .func (PySem.W.fnOf "_law_right" "_law_right" (defArgs (top 23)) (defBody (top 23)) (defScope (top 23)) .none kV17 dc17 pm17 an17 cd17 ct17), sl17⟩) (c17 : PySem.W.codeIn K cd17 "_law_right" = true) (k17 : PySem.W.keepIn K (.ref f17) = true)
    (a18 : PySem.W.nsIn K mainGlobals "law" = some (some (.ref f18))) (l18 : K.lookup f18 = some ⟨oc18, od18, .func (PySem.W.fnOf "law" "law" (defArgs (top 24)) (defBody (top 24)) (defScope (top 24)) .none kV18 dc18 pm18 an18 cd18 ct18), sl18⟩) (c18 : PySem.W.codeIn K cd18 "law" = true) (k18 : PySem.W.keepIn K (.ref f18) = true)
    (z_isinstance : PySem.W.nsIn K mainGlobals "isinstance" = some none)
    (z_int : PySem.W.nsIn K mainGlobals "int" = some none)
    (z_bool : PySem.W.nsIn K mainGlobals "bool" = some none)
    (z_tuple : PySem.W.nsIn K mainGlobals "tuple" = some none)
    (z_len : PySem.W.nsIn K mainGlobals "len" = some none)
    (z_all : PySem.W.nsIn K mainGlobals "all" = some none)
    (z_min : PySem.W.nsIn K mainGlobals "min" = some none)
    (z_max : PySem.W.nsIn K mainGlobals "max" = some none)
    (z_range : PySem.W.nsIn K mainGlobals "range" = some none)
    (z_sorted : PySem.W.nsIn K mainGlobals "sorted" = some none)
    (z_list : PySem.W.nsIn K mainGlobals "list" = some none)
    (z_sum : PySem.W.nsIn K mainGlobals "sum" = some none)
    (z_str : PySem.W.nsIn K mainGlobals "str" = some none)
    (z_set : PySem.W.nsIn K mainGlobals "set" = some none)
    (z_zip : PySem.W.nsIn K mainGlobals "zip" = some none)
    (z_repr : PySem.W.nsIn K mainGlobals "repr" = some none)
    {BB b1 b2 : Addr} {dB d1 d2 : Option Addr} {nB n1 n2 : Nat} {sB s1 s2 : Array (Option Value)} {q1 q2 r1 r2 : Tok}
    (sb : PySem.W.nsIn K mainGlobals "TOTAL_FORMS" = some (some (.ref BB)))
    (lb : K.lookup BB = some ⟨.type "tuple", dB, .seq #[.ref b1, .ref b2] nB, sB⟩)
    (lb1 : K.lookup b1 = some ⟨.type "tuple", d1, .seq #[.str "share" q1, .int 1 r1] n1, s1⟩)
    (lb2 : K.lookup b2 = some ⟨.type "tuple", d2, .seq #[.str "ties" q2, .int 0 r2] n2, s2⟩)
    : ∃ fd : FuncData, (∀ (s : Shared) (v : Value), BindsTo s fd ⟨[v], []⟩ [("script", v)]) ∧ ∀ base : Heap, K.In base → base.Ns mainGlobals mg → FnOk l.prog w K mg base CX0 7 fa fd ["script"] (spLaw K) := by
  cases hfa.symm.trans (PySem.W.mg_of X G a18)
  have T : Txt mg := ⟨PySem.W.mg_none_of X G z_isinstance, PySem.W.mg_none_of X G z_int, PySem.W.mg_none_of X G z_bool, PySem.W.mg_none_of X G z_tuple, PySem.W.mg_none_of X G z_len, PySem.W.mg_none_of X G z_all, PySem.W.mg_none_of X G z_min, PySem.W.mg_none_of X G z_max, PySem.W.mg_none_of X G z_range, PySem.W.mg_none_of X G z_sorted, PySem.W.mg_none_of X G z_list, PySem.W.mg_none_of X G z_sum, PySem.W.mg_none_of X G z_str, PySem.W.mg_none_of X G z_set, PySem.W.mg_none_of X G z_zip, PySem.W.mg_none_of X G z_repr⟩
  have D0 : Has K mg "is_whole" (top 1) ["thing"] := has_of X G a0 l0 c0 k0 fun _ _ _ _ _ _ us hl => match us, hl with | [_], _ => rfl
  have D1 : Has K mg "bar_formed" (top 3) ["forms", "thing"] := has_of X G a1 l1 c1 k1 fun _ _ _ _ _ _ us hl => match us, hl with | [_, _], _ => rfl
  have D2 : Has K mg "share_bars" (top 4) ["most"] := has_of X G a2 l2 c2 k2 fun _ _ _ _ _ _ us hl => match us, hl with | [_], _ => rfl
  have D3 : Has K mg "tie_counts" (top 6) ["web"] := has_of X G a3 l3 c3 k3 fun _ _ _ _ _ _ us hl => match us, hl with | [_], _ => rfl
  have D4 : Has K mg "tied_places" (top 7) ["web"] := has_of X G a4 l4 c4 k4 fun _ _ _ _ _ _ us hl => match us, hl with | [_], _ => rfl
  have D5 : Has K mg "total_bar_holds" (top 10) ["web", "thing"] := has_of X G a5 l5 c5 k5 fun _ _ _ _ _ _ us hl => match us, hl with | [_, _], _ => rfl
  have D6 : Has K mg "share_bars_totals" (top 11) ["web", "share"] := has_of X G a6 l6 c6 k6 fun _ _ _ _ _ _ us hl => match us, hl with | [_, _], _ => rfl
  have D7 : Has K mg "total_bars" (top 12) ["web"] := has_of X G a7 l7 c7 k7 fun _ _ _ _ _ _ us hl => match us, hl with | [_], _ => rfl
  have D8 : Has K mg "_law_cell_at" (top 14) ["script", "k"] := has_of X G a8 l8 c8 k8 fun _ _ _ _ _ _ us hl => match us, hl with | [_, _], _ => rfl
  have D9 : Has K mg "_law_next" (top 15) ["seed"] := has_of X G a9 l9 c9 k9 fun _ _ _ _ _ _ us hl => match us, hl with | [_], _ => rfl
  have D10 : Has K mg "_law_pen_of" (top 16) ["cell"] := has_of X G a10 l10 c10 k10 fun _ _ _ _ _ _ us hl => match us, hl with | [_], _ => rfl
  have D11 : Has K mg "_law_draw" (top 17) ["pen", "many"] := has_of X G a11 l11 c11 k11 fun _ _ _ _ _ _ us hl => match us, hl with | [_, _], _ => rfl
  have D12 : Has K mg "_law_whole" (top 18) ["found"] := has_of X G a12 l12 c12 k12 fun _ _ _ _ _ _ us hl => match us, hl with | [_], _ => rfl
  have D13 : Has K mg "_law_web_by" (top 19) ["pen", "most"] := has_of X G a13 l13 c13 k13 fun _ _ _ _ _ _ us hl => match us, hl with | [_, _], _ => rfl
  have D14 : Has K mg "_law_tied_web" (top 20) ["pen", "most"] := has_of X G a14 l14 c14 k14 fun _ _ _ _ _ _ us hl => match us, hl with | [_, _], _ => rfl
  have D15 : Has K mg "_law_round_web" (top 21) ["pen"] := has_of X G a15 l15 c15 k15 fun _ _ _ _ _ _ us hl => match us, hl with | [_], _ => rfl
  have D16 : Has K mg "_law_due_of" (top 22) ["web", "thing"] := has_of X G a16 l16 c16 k16 fun _ _ _ _ _ _ us hl => match us, hl with | [_, _], _ => rfl
  have D17 : Has K mg "_law_right" (top 23) ["web"] := has_of X G a17 l17 c17 k17 fun _ _ _ _ _ _ us hl => match us, hl with | [_], _ => rfl
  have D18 : Has K mg "law" (top 24) ["script"] := has_of X G a18 l18 c18 k18 fun _ _ _ _ _ _ us hl => match us, hl with | [_], _ => rfl
  refine ⟨PySem.W.fnOf "law" "law" (defArgs (top 24)) (defBody (top 24)) (defScope (top 24)) .none kV18 dc18 pm18 an18 cd18 ct18, fun s v => .of_eq rfl, fun base _ _ => ?_⟩
  have n_1_2 : b1 ≠ b2 := ne_of_first lb1 lb2 (by show ("share" : Str) ≠ "ties"; decide)
  have FF : Forms K mg := ⟨⟨BB, [b1, b2], PySem.W.mg_of X G sb, by simp [n_1_2], fun H => ⟨.inr ⟨_, #[.ref b1, .ref b2], nB, lb, rfl, rfl, by show 2 ≤ sizeLine; decide, (.cons rfl (.cons rfl .nil))⟩, (.cons ⟨.inr ⟨_, #[.str "share" q1, .int 1 r1], n1, lb1, rfl, rfl, by show 2 ≤ sizeLine; decide, .cons ⟨_, rfl⟩ (.cons ⟨_, rfl⟩ .nil)⟩, rfl⟩ (.cons ⟨.inr ⟨_, #[.str "ties" q2, .int 0 r2], n2, lb2, rfl, rfl, by show 2 ≤ sizeLine; decide, .cons ⟨_, rfl⟩ (.cons ⟨_, rfl⟩ .nil)⟩, rfl⟩ .nil))⟩⟩⟩
  have G1 := ok_is_whole (P := l.prog) (w := w) (base := base) D0 T
  have G3 := ok_tied (P := l.prog) (w := w) (base := base) D4 T
  have G0 := ok_counts D3 T G3
  have G8 := ok_bf D1 T G1
  have GA := ok_st D6 T G0
  have GF := ok_th D5 T FF G8 GA
  have GS := ok_sh (P := l.prog) (w := w) (base := base) D2 T
  have GB := ok_tb D7 T GS GF
  have G10 := ok_next (P := l.prog) (w := w) (base := base) D9
  have G11 := ok_draw D11 G10
  have G12 := ok_pen (P := l.prog) (w := w) (base := base) D10 T
  have G13 := ok_cell (P := l.prog) (w := w) (base := base) D8 T
  have G14 := ok_web_by D13 T G11
  have G15 := ok_law_whole (P := l.prog) (w := w) (base := base) D12 T
  have G16 := ok_due D16 T G15
  have G17 := ok_tw D14 T G14
  have G18 := ok_rw D15 T G11
  have GK := ok_right D17 T GF GB G16
  exact ok_law (fun_mk l18 c18 k18) T GK G17 G11 G18 G13 G12
end K49
open PySem PySem.W PyProof.Rows
set_option maxRecDepth 100000 in
set_option maxHeartbeats 0 in
theorem PySem.Challenge.cw_tienumbers_k49_total_bars_holds : PySem.Challenge.rw_tienumbers_k49_total_bars.Holds := by
  w_on; o_law; k_head; (case hw => w_witness2)
  k_fill
  refine L2.walk_of (l := PySem.Challenge.rw_tienumbers_k49_total_bars) (n := 63) (k := 7) (x := "script") (CX := fun _ => L2.CX0) (sp := fun w => K49.spLaw _) rfl (by decide) rfl ⟨rfl, by decide, by decide, rfl⟩ (fun w h Y => PySem.W.kIn_of Y) ?F (fun _ _ a ns hl _ hS => ⟨a, ns, rfl, hS, hl, fun _ => rfl⟩) fun _ _ _ _ _ z => z
  case F =>
    intro w mg fa h KX G hmg
    refine' K49.all_mk KX G hmg ?a0 ?l0 ?c0 ?k0 ?a1 ?l1 ?c1 ?k1 ?a2 ?l2 ?c2 ?k2 ?a3 ?l3 ?c3 ?k3 ?a4 ?l4 ?c4 ?k4 ?a5 ?l5 ?c5 ?k5 ?a6 ?l6 ?c6 ?k6 ?a7 ?l7 ?c7 ?k7 ?a8 ?l8 ?c8 ?k8 ?a9 ?l9 ?c9 ?k9 ?a10 ?l10 ?c10 ?k10 ?a11 ?l11 ?c11 ?k11 ?a12 ?l12 ?c12 ?k12 ?a13 ?l13 ?c13 ?k13 ?a14 ?l14 ?c14 ?k14 ?a15 ?l15 ?c15 ?k15 ?a16 ?l16 ?c16 ?k16 ?a17 ?l17 ?c17 ?k17 ?a18 ?l18 ?c18 ?k18 ?z_isinstance ?z_int ?z_bool ?z_tuple ?z_len ?z_all ?z_min ?z_max ?z_range ?z_sorted ?z_list ?z_sum ?z_str ?z_set ?z_zip ?z_repr ?sb ?lb ?lb1 ?lb2
    (case a0 => k_is)
    (case l0 => k_is)
    (case c0 => k_is)
    (case k0 => k_is)
    (case a1 => k_is)
    (case l1 => k_is)
    (case c1 => k_is)
    (case k1 => k_is)
    (case a2 => k_is)
    (case l2 => k_is)
    (case c2 => k_is)
    (case k2 => k_is)
    (case a3 => k_is)
    (case l3 => k_is)
    (case c3 => k_is)
    (case k3 => k_is)
    (case a4 => k_is)
    (case l4 => k_is)
    (case c4 => k_is)
    (case k4 => k_is)
    (case a5 => k_is)
    (case l5 => k_is)
    (case c5 => k_is)
    (case k5 => k_is)
    (case a6 => k_is)
    (case l6 => k_is)
    (case c6 => k_is)
    (case k6 => k_is)
    (case a7 => k_is)
    (case l7 => k_is)
    (case c7 => k_is)
    (case k7 => k_is)
    (case a8 => k_is)
    (case l8 => k_is)
    (case c8 => k_is)
    (case k8 => k_is)
    (case a9 => k_is)
    (case l9 => k_is)
    (case c9 => k_is)
    (case k9 => k_is)
    (case a10 => k_is)
    (case l10 => k_is)
    (case c10 => k_is)
    (case k10 => k_is)
    (case a11 => k_is)
    (case l11 => k_is)
    (case c11 => k_is)
    (case k11 => k_is)
    (case a12 => k_is)
    (case l12 => k_is)
    (case c12 => k_is)
    (case k12 => k_is)
    (case a13 => k_is)
    (case l13 => k_is)
    (case c13 => k_is)
    (case k13 => k_is)
    (case a14 => k_is)
    (case l14 => k_is)
    (case c14 => k_is)
    (case k14 => k_is)
    (case a15 => k_is)
    (case l15 => k_is)
    (case c15 => k_is)
    (case k15 => k_is)
    (case a16 => k_is)
    (case l16 => k_is)
    (case c16 => k_is)
    (case k16 => k_is)
    (case a17 => k_is)
    (case l17 => k_is)
    (case c17 => k_is)
    (case k17 => k_is)
    (case a18 => k_is)
    (case l18 => k_is)
    (case c18 => k_is)
    (case k18 => k_is)
    (case z_isinstance => k_is)
    (case z_int => k_is)
    (case z_bool => k_is)
    (case z_tuple => k_is)
    (case z_len => k_is)
    (case z_all => k_is)
    (case z_min => k_is)
    (case z_max => k_is)
    (case z_range => k_is)
    (case z_sorted => k_is)
    (case z_list => k_is)
    (case z_sum => k_is)
    (case z_str => k_is)
    (case z_set => k_is)
    (case z_zip => k_is)
    (case z_repr => k_is)
    (case sb => k_is)
    (case lb => k_is)
    (case lb1 => k_is)
    (case lb2 => k_is)
