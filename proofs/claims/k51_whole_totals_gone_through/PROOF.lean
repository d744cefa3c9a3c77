import PyProof.Rows.All
import Wide.All
import OpenK.AllK
import Wide.FinOn
import Lean
import PyProof.EqAt
import PyProof.EqKinds
import PyProof.TupleCall
import PyProof.CallFns
import PyProof.Draws
import PyProof.EnumMake
import PyProof.ExcArgsOwn
import PyProof.FactsAll.dict_1
import PyProof.FactsAll.dict_4
import PyProof.FactsAll.subtypes_4
import PyProof.FactsAll.tuple_2
import PyProof.ListMulRoad
import PyProof.ListRange
import PyProof.MaxThree
import PyProof.NeKinds
import PyProof.ReprRoads
import PyProof.Rows.CallKwBuiltin
import PyProof.Rows.EnumRows
import PyProof.Rows.SetFrom
import PyProof.Rows.SortRev
import PyProof.TupleOfStr
import PySem.Challenge.RW_tienumbers_k51_whole_totals_gone_through
set_option Elab.async false
set_option linter.all false
set_option maxRecDepth 100000
set_option maxHeartbeats 4000000
namespace L2
open PySem PySem.Spec PyProof.Rows
abbrev Key := Sum Int Str
def keyIs : Key → Value → Bool
  | .inl k, v => Value.isInt k v
  | .inr x, v => Value.isStrOf x v
def keyH (w : World) : Key → Int
  | .inl k => hashInt k
  | .inr x => hashStr w x
theorem keyIs_shape : ∀ {k : Key} {v : Value}, keyIs k v = true → (∃ i t, k = Sum.inl i ∧ v = Value.int i t) ∨ (∃ x t, k = Sum.inr x ∧ v = Value.str x t)
  | .inl i, v, h => by
    obtain ⟨t, e⟩ := Value.isInt_shape (k := i) (v := v) h
    exact .inl ⟨i, t, rfl, e⟩
  | .inr x, v, h => by
    obtain ⟨t, e⟩ := Value.isStrOf_shape (x := x) (v := v) h
    exact .inr ⟨x, t, rfl, e⟩
theorem keyIs_int (i : Int) (t : Tok) : keyIs (.inl i) (.int i t) = true := by simp [keyIs, Value.isInt]
theorem keyIs_str (x : Str) (t : Tok) : keyIs (.inr x) (.str x t) = true := by simp [keyIs, Value.isStrOf]
theorem key_ll (a b : Int) : decide ((Sum.inl a : Key) = Sum.inl b) = (a == b) := by
  by_cases e : a = b
  · subst e; simp
  · have h : ¬ (Sum.inl a : Key) = Sum.inl b := fun q => e (Sum.inl.inj q)
    rw [decide_eq_false h]
    exact (beq_eq_false_iff_ne.mpr e).symm
theorem key_rr (a b : Str) : decide ((Sum.inr a : Key) = Sum.inr b) = decide (a = b) := by
  by_cases e : a = b
  · subst e; simp
  · have h : ¬ (Sum.inr a : Key) = Sum.inr b := fun q => e (Sum.inr.inj q)
    rw [decide_eq_false h, decide_eq_false e]
theorem key_lr (a : Int) (b : Str) : decide ((Sum.inl a : Key) = Sum.inr b) = false := decide_eq_false (fun q => nomatch q)
theorem key_rl (a : Str) (b : Int) : decide ((Sum.inr a : Key) = Sum.inl b) = false := decide_eq_false (fun q => nomatch q)
def mixKind (prog : Program) (w : World) : PySem.KeyKind prog w Key where
  is := keyIs
  hash := keyH w
  inj := fun v a b ha hb => by
    rcases keyIs_shape ha with ⟨i, t, rfl, rfl⟩ | ⟨x, t, rfl, rfl⟩
    · rcases keyIs_shape hb with ⟨j, u, rfl, e⟩ | ⟨y, u, rfl, e⟩
      · injection e with e1 _; rw [e1]
      · exact nomatch e
    · rcases keyIs_shape hb with ⟨j, u, rfl, e⟩ | ⟨y, u, rfl, e⟩
      · exact nomatch e
      · injection e with e1 _; rw [e1]
  byValue := fun k v h => by
    rcases keyIs_shape h with ⟨i, t, rfl, rfl⟩ | ⟨x, t, rfl, rfl⟩ <;> rfl
  pyHash := fun hv h => by
    rcases keyIs_shape hv with ⟨i, t, rfl, rfl⟩ | ⟨x, t, rfl, rfl⟩
    · exact wpAny_pyHash_int h
    · exact wpAny_pyHash_str h
  eqBool := fun hu hv h => by
    rcases keyIs_shape hu with ⟨i, t, rfl, rfl⟩ | ⟨x, t, rfl, rfl⟩
    · rcases keyIs_shape hv with ⟨j, u, rfl, rfl⟩ | ⟨y, u, rfl, rfl⟩
      · rw [key_ll] at h; exact wpAny_eqBool_int h
      · rw [key_lr] at h; exact SeqAt.EqAt.int_str i t y u _ _ _ _ h
    · rcases keyIs_shape hv with ⟨j, u, rfl, rfl⟩ | ⟨y, u, rfl, rfl⟩
      · rw [key_rl] at h; exact SeqAt.EqAt.str_int x t j u _ _ _ _ h
      · rw [key_rr] at h; exact wpAny_eqBool_str h
  «strs» := fun k x t v h => by
    rcases keyIs_shape h with ⟨i, u, rfl, e⟩ | ⟨y, u, rfl, e⟩
    · exact nomatch e
    · injection e with e1 _
      subst e1
      cases v <;> rfl
theorem mixKind_int (prog : Program) (w : World) (i : Int) (t : Tok) : (mixKind prog w).is (.inl i) (.int i t) = true := keyIs_int i t
theorem mixKind_str (prog : Program) (w : World) (x : Str) (t : Tok) : (mixKind prog w).is (.inr x) (.str x t) = true := keyIs_str x t
end L2
namespace L2
open PySem PySem.Spec PyProof.Rows
inductive V where
  | non | bl (b : Bool) | int (i : Int) | str (x : Str) | byt (b : Array UInt8) | flt (b : UInt64) | ref (a : Addr) | ty (n : String)
  deriving DecidableEq
def RelV : V → Value → Prop
  | .non, u => u = Value.none
  | .bl b, u => u = Value.bool b
  | .int i, u => ∃ t, u = Value.int i t
  | .str x, u => ∃ t, u = Value.str x t
  | .byt b, u => ∃ t, u = Value.bytes b t
  | .flt b, u => ∃ t, u = Value.float b t
  | .ref a, u => u = Value.ref a
  | .ty n, u => u = Value.type n
abbrev Vals : List V → List Value → Prop := Paired RelV
theorem Vals.length {xs : List V} {us : List Value} (r : Vals xs us) : xs.length = us.length := Paired.length r
theorem Vals.get : ∀ {xs : List V} {us : List Value} {i : Nat} {x : V}, Vals xs us → xs[i]? = some x → ∃ u, us[i]? = some u ∧ RelV x u
  | _, _, _, _, .nil, e => by simp at e
  | _, _, 0, _, .cons r _, e => by simp at e; subst e; exact ⟨_, rfl, r⟩
  | _, _, i + 1, x, .cons _ t, e => by
    obtain ⟨u, h1, h2⟩ := Vals.get (i := i) (x := x) t (by simpa using e)
    exact ⟨u, by simpa using h1, h2⟩
theorem Vals.set {x : V} {u : Value} (r : RelV x u) : ∀ {xs : List V} {us : List Value} (i : Nat), Vals xs us → Vals (xs.set i x) (us.set i u)
  | _, _, _, .nil => .nil
  | _, _, 0, .cons _ t => .cons r t
  | _, _, i + 1, .cons q t => .cons q (Vals.set r i t)
theorem Vals.append : ∀ {xs ys : List V} {us ws : List Value}, Vals xs us → Vals ys ws → Vals (xs ++ ys) (us ++ ws)
  | _, _, _, _, .nil, s => s
  | _, _, _, _, .cons r t, s => .cons r (Vals.append t s)
theorem Vals.take : ∀ {xs : List V} {us : List Value} (n : Nat), Vals xs us → Vals (xs.take n) (us.take n)
  | _, _, 0, _ => .nil
  | _, _, _ + 1, .nil => .nil
  | _, _, n + 1, .cons r t => .cons r (Vals.take n t)
theorem Vals.drop : ∀ {xs : List V} {us : List Value} (n : Nat), Vals xs us → Vals (xs.drop n) (us.drop n)
  | _, _, 0, r => r
  | _, _, _ + 1, .nil => .nil
  | _, _, n + 1, .cons _ t => Vals.drop n t
def RelO : Option V → Option Value → Prop
  | some v, some u => RelV v u
  | none, none => True
  | _, _ => False
def KV {κ : Type} : List (κ × V) → List (κ × Value) → Prop := Paired fun (p : κ × V) (q : κ × Value) => p.1 = q.1 ∧ RelV p.2 q.2
def kV : Key → V
  | .inl i => .int i
  | .inr x => .str x
inductive HO where
  | lst (xs : List V)
  | tup (xs : List V)
  | dK (kvs : List (Key × V)) | dT (kvs : List (List Key × V))
  | set (S : Int → Bool) (n : Nat)
  | ins (C dx : Addr) (fs : List (Str × V))
  | own (x : Addr)
  | xd (fs : List (Str × V))
  | met (f x : Addr)
  | rng (lo hi : Int)
  | frz (o : Obj) (u : HO)
  | tbl (ps : Array Value)
  | ext (φ : Heap → Prop)
abbrev Hp := Addr → Option HO
def upd (H : Hp) (a : Addr) (o : HO) : Hp := fun b => if b = a then some o else H b
theorem upd_same {H : Hp} {a : Addr} {o : HO} : upd H a o a = some o := by unfold upd; rw [if_pos rfl]
theorem upd_ne {H : Hp} {a b : Addr} {o : HO} (h : b ≠ a) : upd H a o b = H b := by unfold upd; rw [if_neg h]
theorem ne_of {H : Hp} {a b : Addr} {o u : HO} (h : H a = some o) (h' : H b = some u) (d : o ≠ u) : a ≠ b := by
  intro e; subst e; rw [h] at h'; exact d (Option.some.inj h')
theorem ne_of_none {H : Hp} {a b : Addr} {o : HO} (h : H a = some o) (h' : H b = none) : a ≠ b := by
  intro e; subst e; rw [h] at h'; cases h'
section
variable (P : Program) (w : World)
def ObjOk (H : Hp) (h : Heap) (a : Addr) : HO → Prop
  | .lst xs => xs.length ≤ sizeLine ∧ ∃ (its : List Value) (n : Nat), Vals xs its ∧ h.get? a = some { cls := .type "list", data := .seq its.toArray n }
  | .tup xs => xs.length ≤ sizeLine ∧ ∃ its : List Value, Vals xs its ∧ IsTup h a its.toArray
  | .dK kvs => kvs.length ≤ sizeLine ∧ (a == sysModules) = false ∧ ∃ vs, KV kvs vs ∧ h.DictOf (mixKind P w) a vs
  | .dT kvs => kvs.length ≤ sizeLine ∧ (a == sysModules) = false ∧ ∃ xs : List (List Key × Addr × Value),
      Paired (fun (p : List Key × V) (q : List Key × Addr × Value) => p.1 = q.1 ∧ H q.2.1 = some (.tup (p.1.map kV)) ∧ RelV p.2 q.2.2) kvs xs ∧
      ∃ o es ep, h.get? a = some o ∧ o.ExactDict ∧ o.data = .dict es ep ∧ es.toList = xs.map (entryOfKey (tupleKind (mixKind P w))) ∧ (xs.map (·.1)).Nodup
  | .set S n => h.SetOf (intKind P w) a S n
  | .ins C dx fs => H dx = some (.own a) ∧ fs.length ≤ 1000 ∧ dx ≠ a ∧ h.get? a = some (PySem.W.instObj C dx) ∧
      ∃ mA, h.Ns1 dx mA ∧ (∀ f, RelO (fs.lookup f) (mA f)) ∧ PySem.Within mA (fs.map (·.1))
  | .own _ => ∃ o, h.get? a = some o
  | .xd fs => ∃ mA, h.Ns1 a mA ∧ ∀ f, RelO (fs.lookup f) (mA f)
  | .rng lo hi => ∃ t u v, h.get? a = some { cls := .type "range", data := .fields #[.int lo t, .int hi u, .int 1 v] }
  | .frz o u => h.get? a = some o ∧ ObjOk H h a u
  | .tbl ps => h.get? a = some { cls := .none, data := .fields ps }
  | .met f x => h.get? a = some (PySem.W.methodObj (.ref f) (.ref x))
  | .ext φ => φ h ∧ (∃ o, h.get? a = some o) ∧ ∀ h1 h2 : Heap, φ h1 → (∀ o, h1.get? a = some o → h2.get? a = some o) → φ h2
def HOk (H : Hp) (h : Heap) : Prop := ∀ a o, H a = some o → ObjOk P w H h a o
end
section
variable {P : Program} {w : World} {H H' : Hp} {h h' : Heap} {a : Addr} {o : HO}
theorem ObjOk.lt (x : ObjOk P w H h a o) : a < h.objs.size := by
  cases o with
  | lst xs => obtain ⟨_, _, _, _, e⟩ := x; exact Heap.lt_size e
  | tup xs => obtain ⟨_, _, _, p⟩ := x; exact p.lt
  | dK kvs => obtain ⟨_, _, _, _, o, _, _, e, _⟩ := x; exact Heap.lt_size e
  | dT kvs => obtain ⟨_, _, _, _, o, _, _, e, _⟩ := x; exact Heap.lt_size e
  | set S n => obtain ⟨o, _, _, _, e, _⟩ := x; exact Heap.lt_size e
  | ins C dx fs => obtain ⟨_, _, _, e, _⟩ := x; exact Heap.lt_size e
  | own y => obtain ⟨_, e⟩ := x; exact Heap.lt_size e
  | xd fs => obtain ⟨_, ⟨_, _, _, e, _⟩, _⟩ := x; exact Heap.lt_size e
  | rng lo hi => obtain ⟨_, _, _, e⟩ := x; exact Heap.lt_size e
  | frz ob u => obtain ⟨e, _⟩ := x; exact Heap.lt_size e
  | tbl ps => exact Heap.lt_size (show h.get? a = some _ from x)
  | met f y => exact Heap.lt_size (show h.get? a = some _ from x)
  | ext φ => obtain ⟨_, ⟨_, e⟩, _⟩ := x; exact Heap.lt_size e
theorem Paired.mapP {α β : Type} {F G : α → β → Prop} : ∀ {l₁ : List α} {l₂ : List β}, Paired F l₁ l₂ → (∀ a b, F a b → G a b) → Paired G l₁ l₂
  | _, _, .nil, _ => .nil
  | _, _, .cons r t, f => .cons (f _ _ r) (Paired.mapP t f)
theorem ObjOk.stay (x : ObjOk P w H h a o) (k : ∀ b u, (b = a ∨ H b = some (.own a)) → h.get? b = some u → h'.get? b = some u)
    (ho : ∀ b, H b = some (.own a) → H' b = some (.own a)) (ht : ∀ b xs, H b = some (.tup xs) → H' b = some (.tup xs)) : ObjOk P w H' h' a o := by
  induction o with
  | lst xs => obtain ⟨z, its, n, r, e⟩ := x; exact ⟨z, its, n, r, k _ _ (.inl rfl) e⟩
  | tup xs => obtain ⟨z, its, r, ob, e, c⟩ := x; exact ⟨z, its, r, ob, k _ _ (.inl rfl) e, c⟩
  | dK kvs => obtain ⟨z, y, vs, r, ob, es, ep, e, c⟩ := x; exact ⟨z, y, vs, r, ob, es, ep, k _ _ (.inl rfl) e, c⟩
  | dT kvs =>
    obtain ⟨z, y, xs, r, ob, es, ep, e, c⟩ := x
    exact ⟨z, y, xs, Paired.mapP r fun p q z => ⟨z.1, ht _ _ z.2.1, z.2.2⟩, ob, es, ep, k _ _ (.inl rfl) e, c⟩
  | set S n => obtain ⟨ob, es, ep, t, e, c⟩ := x; exact ⟨ob, es, ep, t, k _ _ (.inl rfl) e, c⟩
  | ins C dx fs =>
    obtain ⟨d, z, ne, e, mA, ⟨od, es, ep, e2, c⟩, r⟩ := x
    exact ⟨ho _ d, z, ne, k _ _ (.inl rfl) e, mA, ⟨od, es, ep, k _ _ (.inr d) e2, c⟩, r⟩
  | own y => obtain ⟨ob, e⟩ := x; exact ⟨ob, k _ _ (.inl rfl) e⟩
  | xd fs => obtain ⟨mA, ⟨od, es, ep, e, c⟩, r⟩ := x; exact ⟨mA, ⟨od, es, ep, k _ _ (.inl rfl) e, c⟩, r⟩
  | rng lo hi => obtain ⟨t, u, v, e⟩ := x; exact ⟨t, u, v, k _ _ (.inl rfl) e⟩
  | frz ob u ih => obtain ⟨e, q⟩ := x; exact ⟨k _ _ (.inl rfl) e, ih q⟩
  | tbl ps =>
    have e : h.get? a = some { cls := .none, data := .fields ps } := x
    show h'.get? a = some { cls := .none, data := .fields ps }
    exact k a _ (.inl rfl) e
  | met f y =>
    have e : h.get? a = some (PySem.W.methodObj (.ref f) (.ref y)) := x
    show h'.get? a = some (PySem.W.methodObj (.ref f) (.ref y))
    exact k a _ (.inl rfl) e
  | ext φ => obtain ⟨p, ⟨o, e⟩, st⟩ := x; exact ⟨st _ _ p fun o q => k _ _ (.inl rfl) q, ⟨o, k _ _ (.inl rfl) e⟩, st⟩
theorem HOk.lt (x : HOk P w H h) (e : H a = some o) : a < h.objs.size := (x a o e).lt
theorem HOk.fresh (x : HOk P w H h) (e : h.objs.size ≤ a) : H a = none := by
  cases q : H a with
  | none => rfl
  | some u => exact absurd (Nat.lt_of_lt_of_le (x.lt q) e) (Nat.lt_irrefl _)
theorem HOk.kept (x : HOk P w H h) (k : ∀ b u, h.get? b = some u → h'.get? b = some u) : HOk P w H h' := fun a o e =>
  (x a o e).stay (fun b u _ q => k b u q) (fun _ q => q) fun _ _ q => q
theorem HOk.laid (x : HOk P w H h) (k : ∀ b u, h.get? b = some u → h'.get? b = some u) (hp : h.objs.size ≤ a) (new : ObjOk P w (upd H a o) h' a o) : HOk P w (upd H a o) h' := fun b u e => by
  have hn := x.fresh hp
  by_cases hb : b = a
  · subst hb; rw [upd_same] at e; cases e; exact new
  · rw [upd_ne hb] at e
    exact (x b u e).stay (fun c v _ q => k c v q) (fun c q => by rw [upd_ne (ne_of_none q hn)]; exact q) fun c xs q => by rw [upd_ne (ne_of_none q hn)]; exact q
end
def Rd (H : Hp) (a : Addr) (u : HO) : Prop := H a = some u ∨ ∃ o, H a = some (.frz o u)
theorem Rd.ok {P : Program} {w : World} {H : Hp} {h : Heap} {a : Addr} {u : HO} (r : Rd H a u) (x : HOk P w H h) : ObjOk P w H h a u := by
  rcases r with r | ⟨o, r⟩
  · exact x a u r
  · obtain ⟨_, q⟩ := x a _ r
    exact q
def Mut : Option HO → Prop
  | some (.lst _) => True
  | some (.dK _) => True
  | some (.dT _) => True
  | some (.set _ _) => True
  | some (.ins _ _ _) => True
  | some (.ext _) => True
  | _ => False
section
variable {P : Program} {w : World} {H : Hp} {h h' : Heap} {x e : Addr} {o' : HO}
theorem HOk.write (ok : HOk P w H h) (mu : Mut (H x)) (he : e = x ∨ H e = some (.own x)) (k : ∀ b u, b ≠ e → h.get? b = some u → h'.get? b = some u) (heo : ∃ u, h'.get? e = some u)
    (new : ObjOk P w (upd H x o') h' x o') : HOk P w (upd H x o') h' := fun b u q => by
  have nown : ∀ c y, H c = some (.own y) → c ≠ x := fun c y r z => by subst z; rw [r] at mu; exact mu
  have ntup : ∀ c xs, H c = some (.tup xs) → c ≠ x := fun c xs r z => by subst z; rw [r] at mu; exact mu
  by_cases hb : b = x
  · subst hb; rw [upd_same] at q; cases q; exact new
  · rw [upd_ne hb] at q
    by_cases hbe : b = e
    · have q' : H b = some (.own x) := by
        rcases he with z | z
        · exact absurd (hbe.trans z) hb
        · rw [hbe]; exact z
      rw [q] at q'; cases q'
      obtain ⟨v, hv⟩ := heo
      exact ⟨v, by rw [hbe]; exact hv⟩
    · refine (ok b u q).stay (fun c v hc r => k c v ?_ r) (fun c r => by rw [upd_ne (nown c b r)]; exact r) fun c xs r => by rw [upd_ne (ntup c xs r)]; exact r
      rcases hc with rfl | hc
      · exact hbe
      · rintro rfl
        rcases he with z | z
        · exact nown c b hc z
        · rw [hc] at z; cases z; exact hb rfl
end
structure Un (fs ex : List Addr) (H H' : Hp) (h h' : Heap) : Prop where
  keep : ∀ b o, h.get? b = some o → H b = none → b ∉ fs → b ∉ ex → h'.get? b = some o
  slot : ∀ b o, h.get? b = some o → H b = none → b ∈ fs → b ∉ ex → ∃ sl, h'.get? b = some { o with slots := sl }
  free : ∀ b o, h.get? b = some o → H b = none → b ∉ ex → H' b = none
  there : ∀ b o, h.get? b = some o → b ∉ ex → ∃ o', h'.get? b = some o'
  tups : ∀ b xs, H b = some (.tup xs) → H' b = some (.tup xs)
  frzs : ∀ b o u, H b = some (.frz o u) → H' b = some (.frz o u)
  tbls : ∀ b ps, H b = some (.tbl ps) → ∃ more, H' b = some (.tbl (ps ++ more))
section
variable {fs fs' ex ex' : List Addr} {H H1 H2 : Hp} {h h1 h2 h' : Heap} {a x e : Addr} {o : HO}
theorem Un.any (u : Un fs ex H H1 h h1) {b : Addr} {ob : Obj} (q : h.get? b = some ob) (n : H b = none) (hx : b ∉ ex) : ∃ sl, h1.get? b = some { ob with slots := sl } := by
  by_cases hb : b ∈ fs
  · exact u.slot b ob q n hb hx
  · exact ⟨ob.slots, u.keep b ob q n hb hx⟩
theorem Un.kept (k : ∀ b u, h.get? b = some u → h'.get? b = some u) : Un fs ex H H h h' :=
  ⟨fun b ob q _ _ _ => k b ob q, fun b ob q _ _ _ => ⟨ob.slots, k b ob q⟩, fun _ _ _ n _ => n, fun b ob q _ => ⟨ob, k b ob q⟩, fun _ _ q => q, fun _ _ _ q => q, fun _ ps q => ⟨#[], by rw [q]; simp⟩⟩
theorem Un.refl : Un fs ex H H h h := Un.kept fun _ _ q => q
theorem Un.laid (k : ∀ b u, h.get? b = some u → h'.get? b = some u) (hp : h.objs.size ≤ a) (hn : H a = none) : Un fs ex H (upd H a o) h h' where
  keep := fun b u q _ _ _ => k b u q
  slot := fun b u q _ _ _ => ⟨u.slots, k b u q⟩
  free := fun b u q n _ => by rw [upd_ne (Nat.ne_of_lt (Nat.lt_of_lt_of_le (Heap.lt_size q) hp))]; exact n
  there := fun b u q _ => ⟨u, k b u q⟩
  tups := fun b xs q => by rw [upd_ne (ne_of_none q hn)]; exact q
  frzs := fun b u xs q => by rw [upd_ne (ne_of_none q hn)]; exact q
  tbls := fun b ps q => ⟨#[], by rw [upd_ne (ne_of_none q hn), q]; simp⟩
theorem Un.write (mu : Mut (H x)) (he : e = x ∨ H e = some (.own x)) (k : ∀ b u, b ≠ e → h.get? b = some u → h'.get? b = some u) (heo : ∃ u, h'.get? e = some u) : Un fs ex H (upd H x o) h h' := by
  have hx : ∀ b, H b = none → b ≠ x := fun b n z => by subst z; rw [n] at mu; exact mu
  have hb : ∀ b, H b = none → b ≠ e := fun b n z => by
    subst z
    rcases he with r | r
    · exact hx b n r
    · rw [n] at r; cases r
  have hm : ∀ b u, H b = some u → ¬ Mut (some u) → b ≠ x := fun b u q nm z => by subst z; rw [q] at mu; exact nm mu
  refine ⟨fun b u q n _ _ => k b u (hb b n) q, fun b u q n _ _ => ⟨u.slots, k b u (hb b n) q⟩, fun b u q n _ => by rw [upd_ne (hx b n)]; exact n, fun b u q _ => ?_,
    fun b xs q => by rw [upd_ne (hm b _ q fun z => z)]; exact q, fun b u xs q => by rw [upd_ne (hm b _ q fun z => z)]; exact q, fun b ps q => ⟨#[], by rw [upd_ne (hm b _ q fun z => z), q]; simp⟩⟩
  by_cases hbe : b = e
  · subst hbe; exact heo
  · exact ⟨u, k b u hbe q⟩
end
def trk (h : Heap) (H : Hp) : List Addr := (List.range h.objs.size).filter fun a => (H a).isSome
def hidT (h : Heap) (H : Hp) : Heap := PySem.W.hideAll h (trk h H)
theorem hidT_size (h : Heap) (H : Hp) : (hidT h H).objs.size = h.objs.size := PySem.W.hideAll_size _ _
theorem hidT_get {h : Heap} {H : Hp} {b : Addr} {o : Obj} (e : h.get? b = some o) (n : H b = none) : (hidT h H).get? b = some o :=
  PySem.W.hideAll_get _ e fun hm => by
    have q : (H b).isSome = true := (List.mem_filter.mp hm).2
    rw [n] at q; simp at q
theorem of_hidT {h : Heap} {H : Hp} {b : Addr} {o : Obj} (e : (hidT h H).get? b = some o) : h.get? b = some o ∧ H b = none := by
  have e' : h.get? b = some o := PySem.W.of_hideAll (trk h H) e
  refine ⟨e', ?_⟩
  cases q : H b with
  | none => rfl
  | some x =>
    have hm : b ∈ trk h H := List.mem_filter.mpr ⟨List.mem_range.mpr (Heap.lt_size e'), by simp [q]⟩
    have z : (hidT h H).get? b = none := PySem.W.hideAll_none (trk h H) hm
    rw [z] at e; cases e
end L2
namespace L2
open PySem PySem.Spec PyProof.Rows
structure Mod (K : PySem.W.Frag) (mg : Str → Option Value) (base : Heap) : Prop where
  kin : K.In base
  glob : base.Ns mainGlobals mg
  blt : ∃ mb, base.Ns builtinsNs mb ∧ ∀ x : Str, x ≠ "__name__" → mb x = bootBuiltins x
  nolimit : base.NoLimit
structure Cx where
  prog : Program
  w : World
  K : PySem.W.Frag
  mg : Str → Option Value
  base : Heap
  A : Around
  N : List Str
  s₀ : Shared
  H₀ : Hp
  env : Env
  outer : List Env
  stack : List Env
  ex : List Addr
  fn : Str → Bool
  calm : Bool
  pn : List (Addr × Obj)
  xe : Value → Shared → Prop
def frs (l : List Env) : List Addr := l.filterMap (·.frame)
abbrev Cx.fs (X : Cx) : List Addr := frs X.outer
def Vis (sc : Scope) (x : Str) : Prop := sc.names.lookup x = some .local ∨ sc.names.lookup x = some .cell ∨ sc.names.lookup x = some .free
def Loc (sc : Scope) (x : Str) : Prop := sc.names.lookup x = some .local ∨ sc.names.lookup x = some .cell
def Look (env : Env) (h : Heap) (m : Str → Option Value) (x : Str) (u : Value) : Prop :=
  (env.kindOf x = some .local ∧ m x = some u) ∨ ((env.kindOf x = some .cell ∨ env.kindOf x = some .free) ∧ ∃ c, env.cells.lookup x = some c ∧ h.IsCell c (some u))
structure Cx.Ok (X : Cx) : Prop where
  mod : Mod X.K X.mg X.base
  kind : X.env.scope.kind = .function
  glob : X.env.globals = mainGlobals
  blt : X.env.builtins = builtinsNs
  above : X.s₀.heap.objs.size ≤ X.env.locals
  inj : ∀ x y c, X.env.cells.lookup x = some c → X.env.cells.lookup y = some c → x = y
  has : ∀ x, (X.env.kindOf x = some .cell ∨ X.env.kindOf x = some .free) → ∃ c, X.env.cells.lookup x = some c
  cab : ∀ x c, X.fn x = true → X.env.cells.lookup x = some c → X.s₀.heap.objs.size ≤ c
  hd : X.calm = true → X.A.handled = none
  frames : X.A.frames = some X.stack
  stk : X.stack = X.outer ∨ (X.stack = X.env :: X.outer ∧ X.env.frame = some X.env.locals)
  exf : ∀ b ∈ X.ex, b ≠ X.env.locals ∧ ∀ x c, X.env.cells.lookup x = some c → c ≠ b
  bs : ∀ b o, X.base.get? b = some o → X.s₀.heap.get? b = some o ∧ X.H₀ b = none
  bsz : X.base.objs.size ≤ X.s₀.heap.objs.size
  noex : ∀ b o, X.base.get? b = some o → b ∉ X.ex
  exfs : ∀ b ∈ X.ex, b ∉ X.fs
  funs : X.s₀.heap.FunFrames X.base X.outer
  frf : ∀ b ∈ X.fs, X.H₀ b = none
structure Inv (X : Cx) (pins : List (Addr × Obj)) (σ : List (Option V)) (H : Hp) (s : Shared) : Prop where
  ok : X.Ok
  os : s.os = X.s₀.os
  bare : AllBare s.gens
  base : Un X.fs X.ex X.H₀ H X.s₀.heap s.heap
  loc : ∃ m, s.heap.Ns X.env.locals m ∧ ∀ (i : Nat) (x : Str) (v : V), X.N[i]? = some x → σ[i]? = some (some v) → Vis X.env.scope x → ∃ u, RelV v u ∧ Look X.env s.heap m x u
  cell : ∀ x c, X.env.cells.lookup x = some c → ∃ v, s.heap.IsCell c v
  free : H X.env.locals = none
  freeC : ∀ x c, X.env.cells.lookup x = some c → H c = none
  pin : ∀ p ∈ X.pn ++ pins, s.heap.get? p.1 = some p.2 ∧ H p.1 = none ∧ p.1 ≠ X.env.locals ∧ p.1 ∉ X.fs ∧ ∀ v, p.2.data ≠ .cell v
  hok : HOk X.prog X.w H s.heap
  len : σ.length = X.N.length
section
variable {X : Cx} {pins : List (Addr × Obj)} {σ : List (Option V)} {H H' : Hp} {s : Shared} {h' : Heap}
theorem Cx.Ok.nofr (ok : X.Ok) {b : Addr} {o : Obj} (e : X.base.get? b = some o) : b ∉ X.fs := fun hb => by
  have := (ok.funs.mem hb).1
  rw [e] at this; cases this
theorem Inv.bs (I : Inv X pins σ H s) : ∀ b o, X.base.get? b = some o → s.heap.get? b = some o ∧ H b = none := fun b o e =>
  ⟨I.base.keep b o (I.ok.bs b o e).1 (I.ok.bs b o e).2 (I.ok.nofr e) (I.ok.noex b o e), I.base.free b o (I.ok.bs b o e).1 (I.ok.bs b o e).2 (I.ok.noex b o e)⟩
theorem Inv.bk (I : Inv X pins σ H s) : ∀ b o, X.base.get? b = some o → s.heap.get? b = some o := fun b o e => (I.bs b o e).1
theorem Inv.mod (I : Inv X pins σ H s) : Mod X.K X.mg X.base := I.ok.mod
theorem Inv.kIn (I : Inv X pins σ H s) : X.K.In s.heap := I.ok.mod.kin.keeps I.bk
theorem Inv.fr (I : Inv X pins σ H s) : ∃ m, Fr X.base X.env.locals s.heap m :=
  let ⟨m, hn, _⟩ := I.loc
  ⟨m, hn, I.bk, Nat.le_trans I.ok.bsz I.ok.above⟩
theorem Inv.lt (I : Inv X pins σ H s) : X.env.locals < s.heap.objs.size := let ⟨_, hn, _⟩ := I.loc; hn.lt
theorem Inv.sz (I : Inv X pins σ H s) : X.s₀.heap.objs.size ≤ s.heap.objs.size := Nat.le_trans I.ok.above (Nat.le_of_lt I.lt)
theorem Inv.nofs (I : Inv X pins σ H s) {a : Addr} (h : s.heap.objs.size ≤ a) : a ∉ X.fs := fun hb => by
  obtain ⟨_, o, ho, _⟩ := I.ok.funs.mem hb
  exact absurd (Nat.lt_of_lt_of_le (Heap.lt_size ho) (Nat.le_trans I.sz h)) (Nat.lt_irrefl _)
theorem Inv.cne (I : Inv X pins σ H s) : ∀ x c, X.env.cells.lookup x = some c → c ≠ X.env.locals := fun x c e z => by
  obtain ⟨v, o, ho, hd⟩ := I.cell x c e
  obtain ⟨m, ⟨o', es, ep, ho', hd', _⟩, _⟩ := I.loc
  rw [z, ho'] at ho; cases ho; rw [hd'] at hd; cases hd
theorem Inv.funs (I : Inv X pins σ H s) : s.heap.FunFrames X.base X.outer := by
  have all : ∀ (l : List Env), (∀ b ∈ frs l, b ∈ X.fs) → X.s₀.heap.FunFrames X.base l → s.heap.FunFrames X.base l := by
    intro l
    induction l with
    | nil => intro _ _; trivial
    | cons env r ih =>
      intro hs hl
      obtain ⟨hk, ⟨L, o, hf, hn, ho, hd⟩, hr⟩ := hl
      have hL : L ∈ X.fs := hs L (by unfold frs; rw [List.filterMap_cons, hf]; exact List.mem_cons_self)
      obtain ⟨sl, e⟩ := I.base.slot L o ho (I.ok.frf L hL) hL fun z => I.ok.exfs L z hL
      exact ⟨hk, ⟨L, _, hf, hn, e, hd⟩, ih (fun b hb => hs b (by unfold frs; rw [List.filterMap_cons, hf]; exact List.mem_cons_of_mem _ hb)) hr⟩
  exact all X.outer (fun _ hb => hb) I.ok.funs
theorem Inv.stack (I : Inv X pins σ H s) : s.heap.FunFrames X.base X.stack := by
  rcases I.ok.stk with e | ⟨e, hf⟩
  · rw [e]; exact I.funs
  · rw [e]
    obtain ⟨m, hn, _⟩ := I.loc
    refine .cons (by rw [I.ok.kind]; decide) hf hn ?_ I.funs
    exact Heap.get?_none_of_le (Nat.le_trans I.ok.bsz I.ok.above)
theorem Inv.stkSub (I : Inv X pins σ H s) : ∀ b ∈ frs X.stack, b ∈ X.env.locals :: X.fs := fun b hb => by
  rcases I.ok.stk with e | ⟨e, hf⟩
  · rw [e] at hb; exact List.mem_cons_of_mem _ hb
  · rw [e] at hb
    unfold frs at hb
    rw [List.filterMap_cons, hf] at hb
    exact hb
theorem Inv.stkFree (I : Inv X pins σ H s) : ∀ b ∈ frs X.stack, H b = none := fun b hb => by
  rcases List.mem_cons.mp (I.stkSub b hb) with e | hb
  · rw [e]; exact I.free
  · obtain ⟨_, o, ho, _⟩ := I.ok.funs.mem hb
    exact I.base.free b o ho (I.ok.frf b hb) fun z => I.ok.exfs b z hb
theorem Inv.step {g' : Array GenState} {t' : Nat} {d' : Drawn} {ch : List Addr} (I : Inv X pins σ H s)
    (hch : ∀ b ∈ ch, (b ∈ X.ex ∨ X.s₀.heap.objs.size ≤ b) ∧ b ≠ X.env.locals ∧ (∀ x c, X.env.cells.lookup x = some c → c ≠ b) ∧ ∀ p ∈ X.pn ++ pins, p.1 ≠ b)
    (keep : ∀ b o, b ≠ X.env.locals → b ∉ X.fs → b ∉ ch → s.heap.get? b = some o → H b = none → h'.get? b = some o)
    (slot : ∀ b o, b ≠ X.env.locals → b ∈ X.fs → b ∉ ch → s.heap.get? b = some o → H b = none → ∃ sl, h'.get? b = some { o with slots := sl }) (free : ∀ b o, b ∉ ch → s.heap.get? b = some o → H b = none → H' b = none)
    (there : ∀ b o, b ∉ ch → s.heap.get? b = some o → ∃ o', h'.get? b = some o')
    (tups : ∀ b xs, H b = some (.tup xs) → H' b = some (.tup xs)) (frzs : ∀ b o u, H b = some (.frz o u) → H' b = some (.frz o u)) (tbls : ∀ b ps, H b = some (.tbl ps) → ∃ more, H' b = some (.tbl (ps ++ more)))
    (ns : ∀ m, s.heap.Ns X.env.locals m → h'.Ns X.env.locals m) (hok : HOk X.prog X.w H' h') (hg : AllBare g') :
    Inv X pins σ H' { s with heap := h', gens := g', drawn := d', toks := t' } := by
  have neL : ∀ b o, X.s₀.heap.get? b = some o → b ≠ X.env.locals := fun b o e => Nat.ne_of_lt (Nat.lt_of_lt_of_le (Heap.lt_size e) I.ok.above)
  have neC : ∀ b o, X.s₀.heap.get? b = some o → b ∉ X.ex → b ∉ ch := fun b o e hx hb => by
    rcases (hch b hb).1 with z | z
    · exact hx z
    · exact absurd (Nat.lt_of_lt_of_le (Heap.lt_size e) z) (Nat.lt_irrefl _)
  have cellK : ∀ x c, X.env.cells.lookup x = some c → ∀ v, s.heap.IsCell c v → h'.IsCell c v := fun x c e v ⟨o, ho, hd⟩ => by
    have nch : c ∉ ch := fun z => (hch c z).2.2.1 x c e rfl
    by_cases hc : c ∈ X.fs
    · obtain ⟨sl, q⟩ := slot c o (I.cne x c e) hc nch ho (I.freeC x c e)
      exact ⟨_, q, hd⟩
    · exact ⟨o, keep c o (I.cne x c e) hc nch ho (I.freeC x c e), hd⟩
  refine ⟨I.ok, I.os, hg, ⟨fun b o e n hb hx => ?_, fun b o e n hb hx => ?_, fun b o e n hx => ?_, fun b o e hx => ?_, fun b xs e => tups b xs (I.base.tups b xs e), fun b o xs e => frzs b o xs (I.base.frzs b o xs e), fun b ps e => ?_⟩, ?_, fun x c e => ?_, ?_, fun x c e => ?_, fun p hp => ?_, hok, I.len⟩
  · exact keep b o (neL b o e) hb (neC b o e hx) (I.base.keep b o e n hb hx) (I.base.free b o e n hx)
  · obtain ⟨sl, e1⟩ := I.base.slot b o e n hb hx
    obtain ⟨sl', e2⟩ := slot b _ (neL b o e) hb (neC b o e hx) e1 (I.base.free b o e n hx)
    exact ⟨sl', e2⟩
  · obtain ⟨o', e1⟩ := I.base.there b o e hx
    exact free b o' (neC b o e hx) e1 (I.base.free b o e n hx)
  · obtain ⟨o', e1⟩ := I.base.there b o e hx
    exact there b o' (neC b o e hx) e1
  · obtain ⟨m1, e1⟩ := I.base.tbls b ps e
    obtain ⟨m2, e2⟩ := tbls b _ e1
    exact ⟨m1 ++ m2, by rw [e2, Array.append_assoc]⟩
  · obtain ⟨m, hn, hl⟩ := I.loc
    refine ⟨m, ns m hn, fun i x v e1 e2 e3 => ?_⟩
    obtain ⟨u, r, l⟩ := hl i x v e1 e2 e3
    refine ⟨u, r, ?_⟩
    rcases l with l | ⟨k, c, e, z⟩
    · exact .inl l
    · exact .inr ⟨k, c, e, cellK x c e _ z⟩
  · obtain ⟨v, z⟩ := I.cell x c e
    exact ⟨v, cellK x c e v z⟩
  · obtain ⟨m, ⟨o, _, _, ho, _⟩, _⟩ := I.loc
    exact free _ o (fun z => (hch _ z).2.1 rfl) ho I.free
  · obtain ⟨v, o, ho, hd⟩ := I.cell x c e
    exact free c o (fun z => (hch c z).2.2.1 x c e rfl) ho (I.freeC x c e)
  · obtain ⟨e, n, ne, nf, d⟩ := I.pin p hp
    have nch : p.1 ∉ ch := fun z => (hch p.1 z).2.2.2 p hp rfl
    exact ⟨keep p.1 p.2 ne nf nch e n, free p.1 p.2 nch e n, ne, nf, d⟩
theorem Inv.un {t' : Nat} (I : Inv X pins σ H s) (u : Un X.fs [] H H' s.heap h') (hok : HOk X.prog X.w H' h') : Inv X pins σ H' { s with heap := h', toks := t' } := by
  obtain ⟨m, ⟨o, es, ep, ho, r⟩, _⟩ := id I.loc
  obtain ⟨sl, hL⟩ := u.any ho I.free (by simp)
  exact I.step (g' := s.gens) (d' := s.drawn) (ch := []) (fun _ z => nomatch z) (fun b o _ hb _ e n => u.keep b o e n hb (by simp)) (fun b o _ hb _ e n => u.slot b o e n hb (by simp)) (fun b o _ e n => u.free b o e n (by simp)) (fun b o _ e => u.there b o e (by simp)) u.tups u.frzs u.tbls (fun m' hm => by
    obtain ⟨o', es', ep', ho', r'⟩ := hm
    rw [ho] at ho'; cases ho'
    exact ⟨_, es', ep', hL, r'⟩) hok I.bare
theorem Inv.call {g' : Array GenState} {t' : Nat} {d' : Drawn} {ch : List Addr} (I : Inv X pins σ H s) (u : Un (frs X.stack) ch H H' s.heap h') (hok : HOk X.prog X.w H' h') (hg : AllBare g')
    (hch : ∀ b ∈ ch, (b ∈ X.ex ∨ X.s₀.heap.objs.size ≤ b) ∧ b ≠ X.env.locals ∧ (∀ x c, X.env.cells.lookup x = some c → c ≠ b) ∧ ∀ p ∈ X.pn ++ pins, p.1 ≠ b) :
    Inv X pins σ H' { s with heap := h', gens := g', drawn := d', toks := t' } := by
  obtain ⟨m, ⟨o, es, ep, ho, r⟩, _⟩ := id I.loc
  obtain ⟨sl, hL⟩ := u.any ho I.free fun z => (hch _ z).2.1 rfl
  exact I.step (ch := ch) hch (fun b o hL hb hc e n => u.keep b o e n (fun z => (List.mem_cons.mp (I.stkSub b z)).elim hL hb) hc) (fun b o _ _ hc e n => u.any e n hc) (fun b o hc e n => u.free b o e n hc) (fun b o hc e => u.there b o e hc) u.tups u.frzs u.tbls (fun m' hm => by
    obtain ⟨o', es', ep', ho', r'⟩ := hm
    rw [ho] at ho'; cases ho'
    exact ⟨_, es', ep', hL, r'⟩) hok hg
theorem Inv.turned {t' : Nat} {it : Addr} (I : Inv X pins σ H s) (k : ∀ b o, b ≠ it → s.heap.get? b = some o → h'.get? b = some o) (hn : H it = none) (hL : it ≠ X.env.locals)
    (h1 : it ∈ X.ex ∨ X.s₀.heap.objs.size ≤ it) (h2 : ∀ x c, X.env.cells.lookup x = some c → c ≠ it) (h3 : ∀ p ∈ X.pn ++ pins, p.1 ≠ it) : Inv X pins σ H { s with heap := h', toks := t' } := by
  have nit : ∀ b u, H b = some u → b ≠ it := fun b u e z => by rw [z, hn] at e; cases e
  refine I.step (g' := s.gens) (d' := s.drawn) (ch := [it]) (fun b hb => ?_) (fun b o _ _ hc e _ => k b o (fun z => hc (by simp [z])) e) (fun b o _ _ hc e _ => ⟨o.slots, k b o (fun z => hc (by simp [z])) e⟩) (fun _ _ _ _ n => n)
    (fun b o hc e => ⟨o, k b o (fun z => hc (by simp [z])) e⟩) (fun _ _ e => e) (fun _ _ _ e => e) (fun b ps e => ⟨#[], by rw [e]; simp⟩) (fun m hm => ?_) (fun b u e => ?_) I.bare
  · have e : b = it := by simpa using hb
    subst e
    exact ⟨h1, hL, h2, h3⟩
  · obtain ⟨o, es, ep, ho, r⟩ := hm
    exact ⟨o, es, ep, k _ o (Ne.symm hL) ho, r⟩
  · refine (I.hok b u e).stay (fun c v hc q => k c v ?_ q) (fun _ q => q) fun _ _ q => q
    rcases hc with z | z
    · rw [z]; exact nit b u e
    · exact nit c _ z
theorem Inv.tok (I : Inv X pins σ H s) (t : Nat) : Inv X pins σ H { s with toks := t } := I.un (h' := s.heap) (t' := t) Un.refl I.hok
theorem Inv.kept {t' : Nat} (I : Inv X pins σ H s) (k : ∀ b u, s.heap.get? b = some u → h'.get? b = some u) : Inv X pins σ H { s with heap := h', toks := t' } := I.un (Un.kept k) (I.hok.kept k)
theorem Inv.laid {a : Addr} {o : HO} {t' : Nat} (I : Inv X pins σ H s) (k : ∀ b u, s.heap.get? b = some u → h'.get? b = some u) (hp : s.heap.objs.size ≤ a) (new : ObjOk X.prog X.w (upd H a o) h' a o) :
    Inv X pins σ (upd H a o) { s with heap := h', toks := t' } := I.un (Un.laid k hp (I.hok.fresh hp)) (I.hok.laid k hp new)
theorem Inv.write {x e : Addr} {o : HO} {t' : Nat} (I : Inv X pins σ H s) (mu : Mut (H x)) (he : e = x ∨ H e = some (.own x)) (k : ∀ b u, b ≠ e → s.heap.get? b = some u → h'.get? b = some u) (heo : ∃ u, h'.get? e = some u)
    (new : ObjOk X.prog X.w (upd H x o) h' x o) : Inv X pins σ (upd H x o) { s with heap := h', toks := t' } := I.un (Un.write mu he k heo) (I.hok.write mu he k heo new)
theorem Inv.weak {σ' : List (Option V)} (I : Inv X pins σ H s) (hl : σ'.length = σ.length) (w : ∀ (i : Nat) v, σ'[i]? = some (some v) → σ[i]? = some (some v)) : Inv X pins σ' H s :=
  ⟨I.ok, I.os, I.bare, I.base, let ⟨m, hn, hl'⟩ := I.loc; ⟨m, hn, fun i x v e1 e2 e3 => hl' i x v e1 (w i v e2) e3⟩, I.cell, I.free, I.freeC, I.pin, I.hok, hl.trans I.len⟩
theorem Inv.pins_of {pins' : List (Addr × Obj)} (I : Inv X pins σ H s) (h : ∀ p ∈ pins', s.heap.get? p.1 = some p.2 ∧ H p.1 = none ∧ p.1 ≠ X.env.locals ∧ p.1 ∉ X.fs ∧ ∀ v, p.2.data ≠ .cell v) : Inv X pins' σ H s :=
  ⟨I.ok, I.os, I.bare, I.base, I.loc, I.cell, I.free, I.freeC, fun p hp => (List.mem_append.mp hp).elim (fun z => I.pin p (List.mem_append_left _ z)) (h p), I.hok, I.len⟩
theorem nodup_ix {N : List Str} (hN : N.Nodup) {i j : Nat} {x : Str} (a : N[i]? = some x) (b : N[j]? = some x) : i = j := by
  obtain ⟨h1, e1⟩ := List.getElem?_eq_some_iff.mp a
  obtain ⟨h2, e2⟩ := List.getElem?_eq_some_iff.mp b
  exact (List.getElem_inj hN).mp (e1.trans e2.symm)
theorem store_ok2 {M : Model} {A : Around} {E : Value → Shared → Prop} {i : Nat} {x : Str} {v : V} {u : Value} {Q : Unit → Shared → Prop} (I : Inv X pins σ H s) (hN : X.N.Nodup) (hi : X.N[i]? = some x) (hx : Loc X.env.scope x) (r : RelV v u)
    (h : ∀ s', Inv X pins (σ.set i (some v)) H s' → (∃ a, Heap.SameBut a s.heap s'.heap ∧ (a = X.env.locals ∨ X.env.cells.lookup x = some a)) → Q () s') (hf : X.fn x = true ∨ X.env.scope.names.lookup x = some .local := by first | exact .inl rfl | exact .inr rfl | assumption) : wpAny M A (storeName X.env x u) Q E s := by
  obtain ⟨m, hn, hl⟩ := id I.loc
  have hcls : (X.env.scope.kind == .class || (X.env.scope.kind == .module && X.env.locals != X.env.globals)) = false := by rw [I.ok.kind]; rfl
  have hiσ : i < σ.length := by rw [I.len]; exact (List.getElem?_eq_some_iff.mp hi).1
  have cne := I.cne
  have tracked : ∀ {a : Addr} {h' : Heap}, (∃ o, s.heap.get? a = some o ∧ H a = none) → Heap.SameBut a s.heap h' → HOk X.prog X.w H h' := fun {a h'} ha hs b ob e => by
    obtain ⟨_, _, hfree⟩ := ha
    refine (I.hok b ob e).stay (fun c w' hc q => (hs.2 c ?_).trans q) (fun _ q => q) fun _ _ q => q
    rintro rfl
    rcases hc with rfl | hc
    · rw [hfree] at e; cases e
    · rw [hfree] at hc; cases hc
  rcases hx with hk | hk
  · refine wpAny_storeName_local hk hn (fun h' hn' hs => ?_) hcls
    obtain ⟨oL, _, _, hoL, _⟩ := id hn
    refine h _ ⟨I.ok, I.os, I.bare, ⟨fun b o e n hb hx => ?_, fun b o e n hb hx => ?_, I.base.free, fun b o e hx => ?_, I.base.tups, I.base.frzs, I.base.tbls⟩, ⟨_, hn', fun j y v' e1 e2 e3 => ?_⟩, fun y c e => ?_, I.free, I.freeC, fun p hp => ?_, tracked ⟨oL, hoL, I.free⟩ hs, by simpa using I.len⟩ ⟨_, hs, .inl rfl⟩
    · exact (hs.2 b (Nat.ne_of_lt (Nat.lt_of_lt_of_le (Heap.lt_size e) I.ok.above))).trans (I.base.keep b o e n hb hx)
    · obtain ⟨sl, e1⟩ := I.base.slot b o e n hb hx
      exact ⟨sl, (hs.2 b (Nat.ne_of_lt (Nat.lt_of_lt_of_le (Heap.lt_size e) I.ok.above))).trans e1⟩
    · obtain ⟨o', e1⟩ := I.base.there b o e hx
      exact ⟨o', (hs.2 b (Nat.ne_of_lt (Nat.lt_of_lt_of_le (Heap.lt_size e) I.ok.above))).trans e1⟩
    · by_cases hj : j = i
      · subst hj
        rw [hi] at e1; cases e1
        rw [List.getElem?_set_self hiσ] at e2
        cases e2
        exact ⟨u, r, .inl ⟨hk, by simp⟩⟩
      · rw [List.getElem?_set_ne (Ne.symm hj)] at e2
        obtain ⟨u', r', q⟩ := hl j y v' e1 e2 e3
        refine ⟨u', r', ?_⟩
        rcases q with ⟨k, e⟩ | ⟨k, c, e, z⟩
        · refine .inl ⟨k, ?_⟩
          have : y ≠ x := fun e => hj (nodup_ix hN e1 (e ▸ hi))
          simp [this, e]
        · exact .inr ⟨k, c, e, z.sameBut hs (cne y c e)⟩
    · obtain ⟨w', z⟩ := I.cell y c e
      exact ⟨w', z.sameBut hs (cne y c e)⟩
    · obtain ⟨e, n, ne, nf, d⟩ := I.pin p hp
      exact ⟨(hs.2 p.1 ne).trans e, n, ne, nf, d⟩
  · have hfn : X.fn x = true := by
      rcases hf with z | z
      · exact z
      · rw [z] at hk; cases hk
    obtain ⟨c, hc⟩ := I.ok.has x (.inl hk)
    obtain ⟨w', z⟩ := I.cell x c hc
    refine wpAny_storeName_cell I.ok.kind hk hc z (fun h' hc' hs => ?_)
    obtain ⟨oc, hoc, hocd⟩ := id z
    refine h { s with heap := h' } ⟨I.ok, I.os, I.bare, ⟨fun b o e n hb hx => ?_, fun b o e n hb hx => ?_, I.base.free, fun b o e hx => ?_, I.base.tups, I.base.frzs, I.base.tbls⟩, ⟨m, hn.sameBut hs (Ne.symm (cne x c hc)), fun j y v' e1 e2 e3 => ?_⟩, fun y c' e => ?_, I.free, I.freeC, fun p hp => ?_, tracked ⟨oc, hoc, I.freeC x c hc⟩ hs, by simpa using I.len⟩ ⟨c, hs, .inr hc⟩
    · exact (hs.2 b (Nat.ne_of_lt (Nat.lt_of_lt_of_le (Heap.lt_size e) (I.ok.cab x c hfn hc)))).trans (I.base.keep b o e n hb hx)
    · obtain ⟨sl, e1⟩ := I.base.slot b o e n hb hx
      exact ⟨sl, (hs.2 b (Nat.ne_of_lt (Nat.lt_of_lt_of_le (Heap.lt_size e) (I.ok.cab x c hfn hc)))).trans e1⟩
    · obtain ⟨o', e1⟩ := I.base.there b o e hx
      exact ⟨o', (hs.2 b (Nat.ne_of_lt (Nat.lt_of_lt_of_le (Heap.lt_size e) (I.ok.cab x c hfn hc)))).trans e1⟩
    · by_cases hj : j = i
      · subst hj
        rw [hi] at e1; cases e1
        rw [List.getElem?_set_self hiσ] at e2
        cases e2
        exact ⟨u, r, .inr ⟨.inl hk, c, hc, hc'⟩⟩
      · rw [List.getElem?_set_ne (Ne.symm hj)] at e2
        obtain ⟨u', r', q⟩ := hl j y v' e1 e2 e3
        refine ⟨u', r', ?_⟩
        rcases q with q | ⟨k, c', e, z'⟩
        · exact .inl q
        · refine .inr ⟨k, c', e, z'.sameBut hs ?_⟩
          rintro rfl
          exact hj (nodup_ix hN e1 (I.ok.inj _ _ _ e hc ▸ hi))
    · by_cases hcc : c' = c
      · subst hcc; exact ⟨_, hc'⟩
      · obtain ⟨w2, z2⟩ := I.cell y c' e
        exact ⟨w2, z2.sameBut hs hcc⟩
    · obtain ⟨e, n, ne, nf, d⟩ := I.pin p hp
      refine ⟨(hs.2 p.1 ?_).trans e, n, ne, nf, d⟩
      intro q
      rw [q, hoc] at e
      have q' : oc = p.2 := Option.some.inj e
      exact d w' (by rw [← q']; exact hocd)
theorem store_ok {M : Model} {A : Around} {E : Value → Shared → Prop} {i : Nat} {x : Str} {v : V} {u : Value} {Q : Unit → Shared → Prop} (I : Inv X pins σ H s) (hN : X.N.Nodup) (hi : X.N[i]? = some x) (hx : Loc X.env.scope x) (r : RelV v u)
    (h : ∀ s', Inv X pins (σ.set i (some v)) H s' → Q () s') (hf : X.fn x = true ∨ X.env.scope.names.lookup x = some .local := by first | exact .inl rfl | exact .inr rfl | assumption) : wpAny M A (storeName X.env x u) Q E s :=
  store_ok2 I hN hi hx r (fun s' I' _ => h s' I') hf
theorem Inv.call' {s' : Shared} {ch : List Addr} (I : Inv X pins σ H s) (ho : s'.os = s.os) (u : Un (frs X.stack) ch H H' s.heap s'.heap) (hok : HOk X.prog X.w H' s'.heap) (hg : AllBare s'.gens)
    (hch : ∀ b ∈ ch, (b ∈ X.ex ∨ X.s₀.heap.objs.size ≤ b) ∧ b ≠ X.env.locals ∧ (∀ x c, X.env.cells.lookup x = some c → c ≠ b) ∧ ∀ p ∈ X.pn ++ pins, p.1 ≠ b) : Inv X pins σ H' s' := by
  obtain ⟨h', g', d', t', o'⟩ := s'
  have e : o' = s.os := ho
  subst e
  exact I.call (g' := g') (t' := t') (d' := d') u hok hg hch
end
abbrev XK := Value → Option Addr → Hp → Prop
abbrev St := List (Option V)
abbrev VK := V → Hp → Prop
abbrev TE := St → Hp → VK → Prop
abbrev TT := St → Hp → (Bool → Hp → Prop) → Prop
abbrev TA := St → Hp → (List V → Hp → Prop) → Prop
structure Ends where
  nx : St → Hp → Prop
  rt : VK
  bk : St → Hp → Prop := fun _ _ => False
  ct : St → Hp → Prop := fun _ _ => False
abbrev TS := Ends → St → Hp → Prop
def EP (X : Cx) (pins : List (Addr × Obj)) (σ : St) (Q : VK) (u : Value) (s' : Shared) : Prop := ∃ v H', Inv X pins σ H' s' ∧ RelV v u ∧ Q v H'
def TP (X : Cx) (pins : List (Addr × Obj)) (σ : St) (Q : Bool → Hp → Prop) (b : Bool) (s' : Shared) : Prop := ∃ H', Inv X pins σ H' s' ∧ Q b H'
def AP (X : Cx) (pins : List (Addr × Obj)) (σ : St) (Q : List V → Hp → Prop) (us : List Value) (s' : Shared) : Prop := ∃ vs H', Inv X pins σ H' s' ∧ Vals vs us ∧ Q vs H'
def SP (X : Cx) (pins : List (Addr × Obj)) (D : Ends) (f : Flow) (s' : Shared) : Prop :=
  match f with
  | .next => ∃ σ' H', Inv X pins σ' H' s' ∧ D.nx σ' H'
  | .brk => ∃ σ' H', Inv X pins σ' H' s' ∧ D.bk σ' H'
  | .cont => ∃ σ' H', Inv X pins σ' H' s' ∧ D.ct σ' H'
  | .ret u => ∃ v σ' H', Inv X pins σ' H' s' ∧ RelV v u ∧ D.rt v H'
def PE (X : Cx) (e : Expr) (t : TE) : Prop :=
  ∀ (pins : List (Addr × Obj)) (s : Shared) (σ : St) (H : Hp) (Q : VK), Inv X pins σ H s → t σ H Q → wpAny (model X.prog X.w) X.A (eval e X.env) (EP X pins σ Q) X.xe s
def PT (X : Cx) (e : Expr) (t : TT) : Prop :=
  ∀ (pins : List (Addr × Obj)) (s : Shared) (σ : St) (H : Hp) (Q : Bool → Hp → Prop), Inv X pins σ H s → t σ H Q → wpAny (model X.prog X.w) X.A (isTrue e X.env (eval e X.env)) (TP X pins σ Q) X.xe s
def PW (X : Cx) (e : Expr) (t : TT) : Prop :=
  ∀ (whole : Sem Value) (pins : List (Addr × Obj)) (s : Shared) (σ : St) (H : Hp) (Q : Bool → Hp → Prop), Inv X pins σ H s → t σ H Q → wpAny (model X.prog X.w) X.A (isTrue e X.env whole) (TP X pins σ Q) X.xe s
theorem PW.pt {X : Cx} {e : Expr} {t : TT} (h : PW X e t) : PT X e t := h _
def PA (X : Cx) (es : List Expr) (t : TA) : Prop :=
  ∀ (pos : Pos) (pins : List (Addr × Obj)) (s : Shared) (σ : St) (H : Hp) (Q : List V → Hp → Prop), Inv X pins σ H s → t σ H Q → wpAny (model X.prog X.w) X.A (spliced (backTo pos (starEach es X.env))) (AP X pins σ Q) X.xe s
def PS (X : Cx) (st : Stmt) (t : TS) : Prop :=
  ∀ (pins : List (Addr × Obj)) (s : Shared) (σ : St) (H : Hp) (D : Ends), Inv X pins σ H s → t D σ H → wpAny (model X.prog X.w) X.A (exec st X.env) (SP X pins D) X.xe s
def PSs (X : Cx) (st : List Stmt) (t : TS) : Prop :=
  ∀ (pins : List (Addr × Obj)) (s : Shared) (σ : St) (H : Hp) (D : Ends), Inv X pins σ H s → t D σ H → wpAny (model X.prog X.w) X.A (execs st X.env) (SP X pins D) X.xe s
theorem thn {α : Type} {t : Sem α} {Q Q' : α → Shared → Prop} {M : Model} {A : Around} {E : Value → Shared → Prop} {s : Shared} (h : wpAny M A t Q E s) (hQ : ∀ a s, Q a s → Q' a s) : wpAny M A t Q' E s := wpAny_mono h hQ fun _ _ x => x
end L2
namespace L2
open PySem PySem.Spec PyProof.Rows
section
variable {X : Cx}
theorem bin {a b : Expr} {ta tb : TE} (ha : PE X a ta) (hb : PE X b tb) {pins : List (Addr × Obj)} {s : Shared} {σ : St} {H : Hp} {R : V → V → Hp → Prop} (I : Inv X pins σ H s) (h : ta σ H fun x H1 => tb σ H1 fun y H2 => R x y H2)
    {α : Type} {Q : α → Shared → Prop} {f : Value → Value → Sem α}
    (hf : ∀ v u s2 x y H2, Inv X pins σ H2 s2 → RelV x v → RelV y u → R x y H2 → wpAny (model X.prog X.w) X.A (f v u) Q X.xe s2) :
    wpAny (model X.prog X.w) X.A (eval a X.env) (fun v s₁ => wpAny (model X.prog X.w) X.A (eval b X.env) (fun u s₂ => wpAny (model X.prog X.w) X.A (f v u) Q X.xe s₂) X.xe s₁) X.xe s := by
  refine thn (ha pins s σ H _ I h) fun v s1 ⟨x, H1, I1, r1, q1⟩ => ?_
  refine thn (hb pins s1 σ H1 _ I1 q1) fun u s2 ⟨y, H2, I2, r2, q2⟩ => ?_
  exact hf v u s2 x y H2 I2 r1 r2 q2
def tVar (i : Nat) : TE := fun σ H Q => ∃ v, σ[i]? = some (some v) ∧ Q v H
def tC (v : V) : TE := fun _ H Q => Q v H
theorem pe_var {i : Nat} {x : Str} {pos : Pos} (hN : X.N[i]? = some x) (hv : Vis X.env.scope x) (hd : (x == ("__debug__" : Str)) = false := by decide) (hcd : (x == ("__classdict__" : Str)) = false := by decide) : PE X (.Name x pos) (tVar i) := by
  intro pins s σ H Q I h
  obtain ⟨v, e, h⟩ := h
  obtain ⟨m, hn, hl⟩ := I.loc
  obtain ⟨u, r, l⟩ := hl i x v hN e hv
  have fin : EP X pins σ Q u s := ⟨v, H, I, r, h⟩
  rcases l with ⟨hk, hm⟩ | ⟨hk, c, hc, hcell⟩
  · exact wpAny_Name (wpAny_loadName_local I.ok.kind hk hn hm fin) hd
  · rcases hk with hk | hk
    · exact wpAny_Name (wpAny_loadName_cell I.ok.kind hk hc hcell fin) hd
    · exact wpAny_Name (wpAny_loadName_free I.ok.kind hk hc hcell fin hcd) hd
theorem pe_int {i j pos} : PE X (.Constant (.int i) j pos) (tC (.int i)) := fun _ _ _ H _ I h => wpAny_Constant_int ⟨.int i, H, I.tok _, ⟨_, rfl⟩, h⟩
theorem pe_bl {b j pos} : PE X (.Constant (.bool b) j pos) (tC (.bl b)) := fun _ _ _ H _ I h => Constant_bool ⟨.bl b, H, I, rfl, h⟩
theorem pe_str {x j pos} : PE X (.Constant (.str x) j pos) (tC (.str x)) := fun _ _ _ H _ I h => Calls.Constant_str ⟨.str x, H, I.tok _, ⟨_, rfl⟩, h⟩
def Gl (X : Cx) (x : Str) : Prop := X.env.kindOf x = some .globalImplicit
theorem ld_glob {E : Value → Shared → Prop} {pins : List (Addr × Obj)} {s : Shared} {σ : St} {H : Hp} {x : Str} {u : Value} {pos : Pos} {Q : Value → Shared → Prop} (I : Inv X pins σ H s) (hg : Gl X x) (hm : X.mg x = some u) (h : Q u s)
    (hd : (x == ("__debug__" : Str)) = false := by decide) : wpAny (model X.prog X.w) X.A (eval (.Name x pos) X.env) Q E s :=
  Calls.Name_function_global I.ok.kind hg (Calls.loadGlobal_global (by rw [I.ok.glob]; exact I.mod.glob.keeps I.bk) hm h) hd
theorem ld_blt {E : Value → Shared → Prop} {pins : List (Addr × Obj)} {s : Shared} {σ : St} {H : Hp} {x : Str} {u : Value} {pos : Pos} {Q : Value → Shared → Prop} (I : Inv X pins σ H s) (hg : Gl X x) (hm : X.mg x = none) (hv : bootBuiltins x = some u) (h : Q u s)
    (hn : x ≠ "__name__" := by decide) (hd : (x == ("__debug__" : Str)) = false := by decide) : wpAny (model X.prog X.w) X.A (eval (.Name x pos) X.env) Q E s := by
  obtain ⟨mb, h1, h2⟩ := I.mod.blt
  exact Calls.Name_function_global I.ok.kind hg (Calls.loadGlobal_builtin (by rw [I.ok.glob]; exact I.mod.glob.keeps I.bk) hm (by rw [I.ok.blt]; exact h1.keeps I.bk) ((h2 x hn).trans hv) h) hd
theorem pe_glob {x : Str} {v : V} {u : Value} {pos : Pos} (hg : Gl X x) (hm : X.mg x = some u) (r : RelV v u) (hd : (x == ("__debug__" : Str)) = false := by decide) : PE X (.Name x pos) (tC v) :=
  fun _ _ _ H _ I h => ld_glob I hg hm ⟨v, H, I, r, h⟩ hd
theorem pe_bltn {x : Str} {v : V} {u : Value} {pos : Pos} (hg : Gl X x) (hm : X.mg x = none) (hv : bootBuiltins x = some u) (r : RelV v u) (hn : x ≠ "__name__" := by decide) (hd : (x == ("__debug__" : Str)) = false := by decide) : PE X (.Name x pos) (tC v) :=
  fun _ _ _ H _ I h => ld_blt I hg hm hv ⟨v, H, I, r, h⟩ hn hd
variable {a b : Expr} {ta tb : TE} {pos : Pos}
variable {tA tB' : TT} {rest : List Expr}
def tAnd (t u : TT) : TT := fun σ H Q => t σ H fun c H1 => if c = true then u σ H1 Q else Q false H1
def tOr (t u : TT) : TT := fun σ H Q => t σ H fun c H1 => if c = true then Q true H1 else u σ H1 Q
def tNot (t : TT) : TT := fun σ H Q => t σ H fun c H1 => Q (!c) H1
theorem pw_and1 (ha : PT X a tA) : PW X (.BoolOp .And [a] pos) tA := by
  intro wh pins s σ H Q I h
  refine isTrue_and (thn (ha pins s σ H Q I h) fun c s1 e => ?_)
  cases c with
  | true => exact isTrue_and_nil e
  | false => exact e
theorem pw_or1 (ha : PT X a tA) : PW X (.BoolOp .Or [a] pos) tA := by
  intro wh pins s σ H Q I h
  refine isTrue_or (thn (ha pins s σ H Q I h) fun c s1 e => ?_)
  cases c with
  | false => exact isTrue_or_nil e
  | true => exact e
theorem pw_and (ha : PT X a tA) (hb : PW X (.BoolOp .And (b :: rest) pos) tB') : PW X (.BoolOp .And (a :: b :: rest) pos) (tAnd tA tB') := by
  intro wh pins s σ H Q I h
  refine isTrue_and (thn (ha pins s σ H _ I h) fun c s1 ⟨H1, I1, q1⟩ => ?_)
  cases c with
  | true => exact hb wh pins s1 σ H1 Q I1 q1
  | false => exact ⟨H1, I1, q1⟩
theorem pw_or (ha : PT X a tA) (hb : PW X (.BoolOp .Or (b :: rest) pos) tB') : PW X (.BoolOp .Or (a :: b :: rest) pos) (tOr tA tB') := by
  intro wh pins s σ H Q I h
  refine isTrue_or (thn (ha pins s σ H _ I h) fun c s1 ⟨H1, I1, q1⟩ => ?_)
  cases c with
  | true => exact ⟨H1, I1, q1⟩
  | false => exact hb wh pins s1 σ H1 Q I1 q1
theorem pt_not (ha : PT X a tA) : PT X (.UnaryOp .Not a pos) (tNot tA) := by
  intro pins s σ H Q I h
  exact isTrue_not (ha pins s σ H (fun c H1 => Q (!c) H1) I h)
def tAndV (ta tb : TE) : TE := fun σ H Q => ta σ H fun x H1 => ∃ c, x = .bl c ∧ if c = true then tb σ H1 Q else Q (.bl false) H1
def tOrV (ta tb : TE) : TE := fun σ H Q => ta σ H fun x H1 => ∃ c, x = .bl c ∧ if c = true then Q (.bl true) H1 else tb σ H1 Q
def tNotV (ta : TE) : TE := fun σ H Q => ta σ H fun x H1 => ∃ c, x = .bl c ∧ Q (.bl (!c)) H1
theorem pe_one {op} {t : TE} (h : PE X a t) : PE X (.BoolOp op [a] pos) t := fun pins s σ H Q I hw => BoolOp_one (h pins s σ H Q I hw)
theorem pe_and (ha : PE X a ta) (hb : PE X (.BoolOp .And (b :: rest) pos) tb) : PE X (.BoolOp .And (a :: b :: rest) pos) (tAndV ta tb) := by
  intro pins s σ H Q I h
  refine BoolOp_and (thn (ha pins s σ H _ I h) fun v s1 ⟨x, H1, I1, r1, q1⟩ => ?_)
  obtain ⟨c, rfl, q1⟩ := q1
  cases r1
  refine wpAny_truthy_bool ?_
  cases c with
  | true => exact hb pins s1 σ H1 Q I1 q1
  | false => exact ⟨.bl false, H1, I1, rfl, q1⟩
theorem pe_or (ha : PE X a ta) (hb : PE X (.BoolOp .Or (b :: rest) pos) tb) : PE X (.BoolOp .Or (a :: b :: rest) pos) (tOrV ta tb) := by
  intro pins s σ H Q I h
  refine BoolOp_or (thn (ha pins s σ H _ I h) fun v s1 ⟨x, H1, I1, r1, q1⟩ => ?_)
  obtain ⟨c, rfl, q1⟩ := q1
  cases r1
  refine wpAny_truthy_bool ?_
  cases c with
  | false => exact hb pins s1 σ H1 Q I1 q1
  | true => exact ⟨.bl true, H1, I1, rfl, q1⟩
theorem pe_not (ha : PE X a ta) : PE X (.UnaryOp .Not a pos) (tNotV ta) := by
  intro pins s σ H Q I h
  refine UnaryOp_ (thn (ha pins s σ H _ I h) fun v s1 ⟨x, H1, I1, r1, q1⟩ => ?_)
  obtain ⟨c, rfl, q1⟩ := q1
  cases r1
  exact not_of (wpAny_truthy_bool ⟨.bl (!c), H1, I1, rfl, q1⟩)
end
end L2
namespace L2
open PySem PySem.Spec PyProof.Rows
def SqL (K : PySem.W.Frag) (H : Hp) (a : Addr) (xs : List V) : Prop :=
  Rd H a (.lst xs) ∨
    ∃ (o : Obj) (its : Array Value) (n : Nat), K.lookup a = some o ∧ o.cls = .type "list" ∧ o.dict = none ∧ o.data = .seq its n ∧ its.size ≤ sizeLine ∧ Vals xs its.toList
def SqT (K : PySem.W.Frag) (H : Hp) (a : Addr) (xs : List V) : Prop :=
  Rd H a (.tup xs) ∨
    ∃ (o : Obj) (its : Array Value) (n : Nat), K.lookup a = some o ∧ o.cls = .type "tuple" ∧ o.data = .seq its n ∧ its.size ≤ sizeLine ∧ Vals xs its.toList
def absV : Value → Option V
  | .none => some .non
  | .bool b => some (.bl b)
  | .int i _ => some (.int i)
  | .str x _ => some (.str x)
  | .bytes b _ => some (.byt b)
  | .float b _ => some (.flt b)
  | .ref a => some (.ref a)
  | .type n => some (.ty n)
  | _ => none
theorem RelV.abs {x : V} {u : Value} (r : RelV x u) : absV u = some x := by
  cases x with
  | non => cases r; rfl
  | bl _ => cases r; rfl
  | int _ => obtain ⟨t, rfl⟩ := r; rfl
  | str _ => obtain ⟨t, rfl⟩ := r; rfl
  | byt _ => obtain ⟨t, rfl⟩ := r; rfl
  | flt _ => obtain ⟨t, rfl⟩ := r; rfl
  | ref _ => cases r; rfl
  | ty _ => cases r; rfl
theorem RelV.inj {x y : V} {u : Value} (r : RelV x u) (q : RelV y u) : x = y := Option.some.inj (r.abs.symm.trans q.abs)
theorem Vals.inj : ∀ {xs ys : List V} {us : List Value}, Vals xs us → Vals ys us → xs = ys
  | _, _, _, .nil, .nil => rfl
  | _, _, _, .cons r t, .cons r' t' => by rw [r.inj r', Vals.inj t t']
section
variable {X : Cx} {pins : List (Addr × Obj)} {σ : St} {H : Hp} {s : Shared} {a : Addr} {xs ys : List V}
theorem Inv.list (I : Inv X pins σ H s) (h : SqL X.K H a xs) : ∃ its : List Value, Vals xs its ∧ PlainL s.heap a its.toArray ∧ xs.length ≤ sizeLine := by
  rcases h with h | ⟨o, its, n, hk, hc, hd, hs, hz, r⟩
  · obtain ⟨z, its, n, r, e⟩ := h.ok I.hok
    exact ⟨its, r, ⟨_, n, e, rfl, rfl, rfl⟩, z⟩
  · refine ⟨its.toList, r, ⟨o, n, I.kIn a o hk, hc, hd, by simpa using hs⟩, ?_⟩
    have e := r.length
    simp only [Array.length_toList] at e
    omega
theorem Inv.tuple (I : Inv X pins σ H s) (h : SqT X.K H a xs) : ∃ its : List Value, Vals xs its ∧ IsTup s.heap a its.toArray ∧ xs.length ≤ sizeLine := by
  rcases h with h | ⟨o, its, n, hk, hc, hs, hz, r⟩
  · obtain ⟨z, its, r, p⟩ := h.ok I.hok
    exact ⟨its, r, p, z⟩
  · refine ⟨its.toList, r, ⟨o, I.kIn a o hk, hc, n, by simpa using hs⟩, ?_⟩
    have e := r.length
    simp only [Array.length_toList] at e
    omega
theorem Inv.list_inj (I : Inv X pins σ H s) (h : SqL X.K H a xs) (h' : SqL X.K H a ys) : xs = ys := by
  obtain ⟨its, r, ⟨o, n, e, _, _, d⟩, _⟩ := I.list h
  obtain ⟨its', r', ⟨o', n', e', _, _, d'⟩, _⟩ := I.list h'
  rw [e] at e'; cases e'
  rw [d] at d'
  injection d' with d1 _
  have : its = its' := by simpa using congrArg Array.toList d1
  subst this
  exact r.inj r'
theorem Inv.tuple_inj (I : Inv X pins σ H s) (h : SqT X.K H a xs) (h' : SqT X.K H a ys) : xs = ys := by
  obtain ⟨its, r, ⟨o, e, _, n, d⟩, _⟩ := I.tuple h
  obtain ⟨its', r', ⟨o', e', _, n', d'⟩, _⟩ := I.tuple h'
  rw [e] at e'; cases e'
  rw [d] at d'
  injection d' with d1 _
  have : its = its' := by simpa using congrArg Array.toList d1
  subst this
  exact r.inj r'
end
abbrev Cx.wish (X : Cx) (E : Value → Shared → Prop) : Cx := { X with xe := E }
abbrev Cx.nox (X : Cx) : Cx := X.wish fun _ _ => False
theorem Cx.Ok.wish {X : Cx} (ok : X.Ok) (E : Value → Shared → Prop) : (X.wish E).Ok :=
  ⟨ok.mod, ok.kind, ok.glob, ok.blt, ok.above, ok.inj, ok.has, ok.cab, ok.hd, ok.frames, ok.stk, ok.exf, ok.bs, ok.bsz, ok.noex, ok.exfs, ok.funs, ok.frf⟩
theorem Cx.Ok.unwish {X : Cx} {E : Value → Shared → Prop} (ok : (X.wish E).Ok) : X.Ok :=
  ⟨ok.mod, ok.kind, ok.glob, ok.blt, ok.above, ok.inj, ok.has, ok.cab, ok.hd, ok.frames, ok.stk, ok.exf, ok.bs, ok.bsz, ok.noex, ok.exfs, ok.funs, ok.frf⟩
section
variable {X : Cx} {pins : List (Addr × Obj)} {σ : St} {H : Hp} {s : Shared} {E : Value → Shared → Prop}
theorem Inv.wish (I : Inv X pins σ H s) (E : Value → Shared → Prop) : Inv (X.wish E) pins σ H s := ⟨I.ok.wish E, I.os, I.bare, I.base, I.loc, I.cell, I.free, I.freeC, I.pin, I.hok, I.len⟩
theorem Inv.unwish (I : Inv (X.wish E) pins σ H s) : Inv X pins σ H s := ⟨I.ok.unwish, I.os, I.bare, I.base, I.loc, I.cell, I.free, I.freeC, I.pin, I.hok, I.len⟩
theorem SP.unwish {D : Ends} {f : Flow} {s' : Shared} (h : SP (X.wish E) pins D f s') : SP X pins D f s' := by
  cases f with
  | next => obtain ⟨σ', H', I, q⟩ := h; exact ⟨σ', H', I.unwish, q⟩
  | brk => obtain ⟨σ', H', I, q⟩ := h; exact ⟨σ', H', I.unwish, q⟩
  | cont => obtain ⟨σ', H', I, q⟩ := h; exact ⟨σ', H', I.unwish, q⟩
  | ret u => obtain ⟨v, σ', H', I, r, q⟩ := h; exact ⟨v, σ', H', I.unwish, r, q⟩
theorem PSs.nox {st : List Stmt} {t : TS} (h : PSs X.nox st t) : PSs X st t := fun pins s σ H D I hw =>
  wpAny_mono (h pins s σ H D (I.wish _) hw) (fun _ _ q => q.unwish) fun _ _ z => False.elim z
end
section
variable {X : Cx} {st : Stmt} {rest : List Stmt} {t u : TS} {e : Expr} {te : TE} {pos : Pos}
def tNext : TS := fun D σ H => D.nx σ H
def tSeq (t u : TS) : TS := fun D σ H => t { D with nx := u D } σ H
theorem pss_nil : PSs X [] tNext := fun _ _ σ H _ I h => wpAny_execs_nil ⟨σ, H, I, h⟩
theorem pss_cons (h1 : PS X st t) (h2 : PSs X rest u) : PSs X (st :: rest) (tSeq t u) := by
  intro pins s σ H D I h
  refine wpAny_execs_cons (thn (h1 pins s σ H { D with nx := u D } I h) fun f s1 q => ?_)
  cases f with
  | next =>
    obtain ⟨σ', H', I', q⟩ := q
    exact h2 pins s1 σ' H' D I' q
  | ret v => exact q
  | brk => exact q
  | cont => exact q
theorem pss_one (h1 : PS X st t) : PSs X [st] t := by
  intro pins s σ H D I h
  refine wpAny_execs_cons (thn (h1 pins s σ H D I h) fun f s1 q => ?_)
  cases f with
  | next => exact wpAny_execs_nil q
  | ret v => exact q
  | brk => exact q
  | cont => exact q
theorem Inv.quiet {pins : List (Addr × Obj)} {σ : St} {H : Hp} {s : Shared} (I : Inv X pins σ H s) : interactive X.env = false := by simp [interactive, I.ok.kind]
def tDrop (te : TE) : TS := fun D σ H => te σ H fun _ H1 => D.nx σ H1
theorem ps_expr (he : PE X e te) (hs : swapsWith e none pos.line X.env = pure false := by rfl) : PS X (.Expr e pos) (tDrop te) := by
  intro pins s σ H D I h
  exact wpAny_Expr_any (thn (he pins s σ H _ I h) fun v s1 ⟨x, H1, I1, r1, q1⟩ => ⟨σ, H1, I1, q1⟩) I.quiet hs
def tRet (te : TE) : TS := fun D σ H => te σ H D.rt
theorem ps_ret (he : PE X e te) : PS X (.Return (some e) pos) (tRet te) := by
  intro pins s σ H D I h
  exact wpAny_Return_some (thn (he pins s σ H _ I h) fun v s1 ⟨x, H1, I1, r1, q1⟩ => ⟨x, σ, H1, I1, r1, q1⟩)
def tIfS (c : TT) (t u : TS) : TS := fun D σ H => c σ H fun b H1 => if b = true then t D σ H1 else u D σ H1
theorem ps_if {c : Expr} {a b : List Stmt} {tc : TT} (hc : PT X c tc) (ha : PSs X a t) (hb : PSs X b u) : PS X (.If c a b pos) (tIfS tc t u) := by
  intro pins s σ H D I h
  refine wpAny_If (thn (hc pins s σ H _ I h) fun d s1 ⟨H1, I1, q1⟩ => ?_)
  cases d with
  | true => exact ha pins s1 σ H1 D I1 q1
  | false => exact hb pins s1 σ H1 D I1 q1
end
abbrev TG := V → St → Hp → (St → Hp → Prop) → Prop
abbrev TGs := List V → St → Hp → (St → Hp → Prop) → Prop
def PG (X : Cx) (target : Expr) (t : TG) : Prop :=
  ∀ (pins : List (Addr × Obj)) (s : Shared) (σ : St) (H : Hp) (v : V) (u : Value) (Q : St → Hp → Prop), Inv X pins σ H s → RelV v u → t v σ H Q →
    wpAny (model X.prog X.w) X.A (assign target X.env u) (fun _ s' => ∃ σ' H', Inv X pins σ' H' s' ∧ Q σ' H') X.xe s
def PGs (X : Cx) (ts : List Expr) (t : TGs) : Prop :=
  ∀ (pins : List (Addr × Obj)) (s : Shared) (σ : St) (H : Hp) (vs : List V) (us : List Value) (Q : St → Hp → Prop), Inv X pins σ H s → Vals vs us → t vs σ H Q →
    wpAny (model X.prog X.w) X.A (assignInOrder ((assignEach ts X.env).map (·.2)) us) (fun _ s' => ∃ σ' H', Inv X pins σ' H' s' ∧ Q σ' H') X.xe s
abbrev TSet := V → V → V → Hp → (Hp → Prop) → Prop
def PSet (X : Cx) (t : TSet) : Prop :=
  ∀ (pins : List (Addr × Obj)) (s : Shared) (σ : St) (H : Hp) (o i v : V) (ov iv u : Value) (Q : Hp → Prop), Inv X pins σ H s → RelV o ov → RelV i iv → RelV v u → t o i v H Q →
    wpAny (model X.prog X.w) X.A (setItem ov iv u) (fun _ s' => ∃ H', Inv X pins σ H' s' ∧ Q H') X.xe s
abbrev TIp := V → V → Hp → VK → Prop
def PIp (X : Cx) (op : Operator) (t : TIp) : Prop :=
  ∀ (pins : List (Addr × Obj)) (s : Shared) (σ : St) (H : Hp) (x y : V) (v u : Value) (Q : VK), Inv X pins σ H s → RelV x v → RelV y u → t x y H Q →
    wpAny (model X.prog X.w) X.A (inplaceOp op v u) (EP X pins σ Q) X.xe s
section
variable {X : Cx} {pos : Pos}
def gName (i : Nat) : TG := fun v σ H Q => Q (σ.set i (some v)) H
theorem pg_name {i : Nat} {x : Str} (hN : X.N.Nodup) (hi : X.N[i]? = some x) (hx : Loc X.env.scope x) (hf : X.fn x = true ∨ X.env.scope.names.lookup x = some .local := by first | exact .inl rfl | exact .inr rfl | assumption) : PG X (.Name x pos) (gName i) := by
  intro pins s σ H v u Q I r h
  exact wpAny_assign_Name (store_ok I hN hi hx r (fun s' I' => ⟨_, H, I', h⟩) hf)
def gNil : TGs := fun vs σ H Q => vs = [] ∧ Q σ H
def gCons (t : TG) (u : TGs) : TGs := fun vs σ H Q => ∃ v r, vs = v :: r ∧ t v σ H fun σ' H' => u r σ' H' Q
theorem pgs_nil : PGs X [] gNil := by
  intro pins s σ H vs us Q I r h
  obtain ⟨e, h⟩ := h
  subst e
  cases r
  exact assignInOrder_nil ⟨σ, H, I, h⟩
theorem pgs_cons {e : Expr} {es : List Expr} {t : TG} {u : TGs} (h1 : PG X e t) (h2 : PGs X es u)
    (hs : (assignEach (e :: es) X.env).map (·.2) = assign e X.env :: (assignEach es X.env).map (·.2) := by rfl) : PGs X (e :: es) (gCons t u) := by
  intro pins s σ H vs us Q I r h
  obtain ⟨v, vr, e1, h⟩ := h
  subst e1
  cases r with
  | cons r rr =>
    rw [hs]
    refine assignInOrder_cons (thn (h1 pins s σ H _ _ _ I r h) fun _ s1 ⟨σ1, H1, I1, q1⟩ => ?_)
    exact h2 pins s1 σ1 H1 _ _ Q I1 rr q1
def gTup (K : PySem.W.Frag) (n : Nat) (t : TGs) : TG := fun v σ H Q => ∃ a xs, v = .ref a ∧ SqT K H a xs ∧ xs.length = n ∧ t xs σ H Q
theorem pg_tup {es : List Expr} {k : Nat} {t : TGs} {n : Nat} (hc : X.calm = true) (h : PGs X es t)
    (hn : (assignEach es X.env).length = n := by rfl) (hst : (assignEach es X.env).findIdx? (·.1) = none := by rfl) : PG X (.Tuple es k pos) (gTup X.K n t) := by
  intro pins s σ H v u Q I r hw
  obtain ⟨a, xs, e1, hq, hl, hw⟩ := hw
  subst e1
  cases r
  obtain ⟨its, rv, ht, hz⟩ := I.tuple hq
  refine assign_Tuple_tuple (I.ok.hd hc) ht (by simp [hn, ← hl, rv.length]) hst fun h' hx => ?_
  have I1 : Inv X pins σ H { s with heap := h' } := I.kept (t' := s.toks) fun b o e => hx b o (Nat.ne_of_lt (Heap.lt_size e)) e
  exact h pins _ σ H xs _ Q I1 (by simpa using rv) hw
def gSub (to ti : TE) (t : TSet) : TG := fun v σ H Q => to σ H fun o H1 => ti σ H1 fun i H2 => t o i v H2 fun H3 => Q σ H3
theorem pg_sub {o i : Expr} {to ti : TE} {t : TSet} (ho : PE X o to) (hi : PE X i ti) (hs : PSet X t)
    (ha : ∀ v, assign (.Subscript o i pos) X.env v = (do
      let ov ← holding [v] (eval o X.env)
      let iv ← holding [v, ov] (eval i X.env)
      standAt pos
      holding [v, ov, iv] (setItem ov iv v)
      release [v, ov, iv] []) := by intro _; rfl) : PG X (.Subscript o i pos) (gSub to ti t) := by
  intro pins s σ H v u Q I r h
  rw [ha]
  refine wpAny_bind (wpAny_holding (thn (ho pins s σ H _ I h) fun ov s1 ⟨x, H1, I1, r1, q1⟩ => ?_))
  refine wpAny_bind (wpAny_holding (thn (hi pins s1 σ H1 _ I1 q1) fun iv s2 ⟨y, H2, I2, r2, q2⟩ => ?_))
  refine wpAny_bind (wpAny_standAt (wpAny_bind (wpAny_holding (thn (hs pins s2 σ H2 x y v ov iv u _ I2 r1 r2 r q2) fun _ s3 ⟨H3, I3, q3⟩ => ?_))))
  exact wpAny_release ⟨σ, H3, I3, q3⟩
def tAsg (te : TE) (g : TG) : TS := fun D σ H => te σ H fun x H1 => g x σ H1 D.nx
theorem ps_asg {tg e : Expr} {te : TE} {g : TG} (he : PE X e te) (hg : PG X tg g) (hs : swapsWithSole [tg] e pos.line X.env = pure false := by rfl) (hw : swappedStores [tg] e X.env = pure none := by rfl)
    (h1 : (assignEach [tg] X.env).map (·.2) = [assign tg X.env] := by rfl) : PS X (.Assign [tg] e pos) (tAsg te g) := by
  intro pins s σ H D I h
  refine wpAny_Assign_stores (thn (he pins s σ H _ I h) fun v s1 ⟨x, H1, I1, r1, q1⟩ => ?_) hs hw
  rw [h1]
  exact thn (hg pins s1 σ H1 x v _ I1 r1 q1) fun _ s2 q => q
theorem ps_set {i : Nat} {x : Str} {e : Expr} {te : TE} {pos' : Pos} (hN : X.N.Nodup) (hi : X.N[i]? = some x) (hx : Loc X.env.scope x) (he : PE X e te) (hs : swapsWith e (some (.Name x pos')) pos.line X.env = pure false := by rfl) (hf : X.fn x = true ∨ X.env.scope.names.lookup x = some .local := by first | exact .inl rfl | exact .inr rfl | assumption) :
    PS X (.Assign [.Name x pos'] e pos) (tAsg te (gName i)) := by
  intro pins s σ H D I h
  refine wpAny_Assign_Name (thn (he pins s σ H _ I h) fun v s1 ⟨y, H1, I1, r1, q1⟩ => ?_) hs
  exact store_ok I1 hN hi hx r1 (fun s2 I2 => ⟨_, H1, I2, q1⟩) hf
def tAug (i : Nat) (te : TE) (ti : TIp) : TS := fun D σ H => ∃ x, σ[i]? = some (some x) ∧ te σ H fun y H1 => ti x y H1 fun z H2 => D.nx (σ.set i (some z)) H2
theorem ps_aug {i : Nat} {x : Str} {e : Expr} {te : TE} {op : Operator} {ti : TIp} {pos' : Pos} (hN : X.N.Nodup) (hi : X.N[i]? = some x) (hx : Loc X.env.scope x) (he : PE X e te) (ho : PIp X op ti) (hf : X.fn x = true ∨ X.env.scope.names.lookup x = some .local := by first | exact .inl rfl | exact .inr rfl | assumption) :
    PS X (.AugAssign (.Name x pos') op e pos) (tAug i te ti) := by
  intro pins s σ H D I h
  obtain ⟨v, e1, h⟩ := h
  obtain ⟨m, hn, hl⟩ := I.loc
  have vis : Vis X.env.scope x := by rcases hx with k | k; exact .inl k; exact .inr (.inl k)
  obtain ⟨u, r, l⟩ := hl i x v hi e1 vis
  refine wpAny_AugAssign_Name ?_
  have go : wpAny (model X.prog X.w) X.A (eval e X.env) (fun w s₂ => wpAny (model X.prog X.w) X.A (inplaceOp op u w) (fun r s₃ => wpAny (model X.prog X.w) X.A (storeName X.env x r) (fun _ => SP X pins D .next) X.xe s₃) X.xe s₂) X.xe s := by
    refine thn (he pins s σ H _ I h) fun w s1 ⟨y, H1, I1, r1, q1⟩ => ?_
    refine thn (ho pins s1 σ H1 v y u w _ I1 r r1 q1) fun z s2 ⟨zv, H2, I2, r2, q2⟩ => ?_
    exact store_ok I2 hN hi hx r2 (fun s3 I3 => ⟨_, H2, I3, q2⟩) hf
  rcases l with ⟨hk, hm⟩ | ⟨hk, c, hc, hcell⟩
  · exact wpAny_loadName_local I.ok.kind hk hn hm go
  · rcases hk with hk | hk
    · exact wpAny_loadName_cell I.ok.kind hk hc hcell go
    · rcases hx with k | k
      · have : X.env.scope.names.lookup x = some .free := hk
        rw [k] at this; cases this
      · have : X.env.scope.names.lookup x = some .free := hk
        rw [k] at this; cases this
def ipI (f : Int → Int → Int) : TIp := fun x y H Q => ∃ i j, x = .int i ∧ y = .int j ∧ Q (.int (f i j)) H
theorem ip_add : PIp X .Add (ipI fun i j => i + j) := by
  intro pins s σ H x y v u Q I r1 r2 h
  obtain ⟨i, j, e1, e2, q⟩ := h
  subst e1; subst e2
  obtain ⟨t, rfl⟩ := r1
  obtain ⟨t', rfl⟩ := r2
  exact iadd_int ⟨.int _, H, I.tok _, ⟨_, rfl⟩, q⟩
end
section
variable {X : Cx} {pos : Pos}
end
structure It where
  go : Nat → Hp → Prop
  yld : Nat → Hp → V → Hp → Prop
  stop : Nat → Hp → Prop
def FpOk (X : Cx) (pins : List (Addr × Obj)) (H : Hp) (b : Addr) : Prop :=
  H b = none ∧ b ≠ X.env.locals ∧ b ∉ X.fs ∧ (b ∈ X.ex ∨ X.s₀.heap.objs.size ≤ b) ∧ (∀ x c, X.env.cells.lookup x = some c → c ≠ b) ∧ ∀ p ∈ X.pn ++ pins, p.1 ≠ b
theorem Inv.fpOk {X : Cx} {pins : List (Addr × Obj)} {σ : St} {H H' : Hp} {s : Shared} {b : Addr} (I : Inv X pins σ H s) (hb : s.heap.objs.size ≤ b) (hn : H' b = none) : FpOk X pins H' b := by
  refine ⟨hn, Nat.ne_of_gt (Nat.lt_of_lt_of_le I.lt hb), I.nofs hb, .inr (Nat.le_trans I.sz hb), fun x c e z => ?_, fun p hp z => ?_⟩
  · obtain ⟨v, q⟩ := I.cell x c e
    exact absurd (Nat.lt_of_lt_of_le q.lt (by rw [z]; exact hb)) (Nat.lt_irrefl _)
  · exact absurd (Nat.lt_of_lt_of_le (Heap.lt_size (I.pin p hp).1) (by rw [z]; exact hb)) (Nat.lt_irrefl _)
structure Turn (P : Program) (w : World) (K : PySem.W.Frag) (tg : Expr) (J : It) (fp : List Addr) (it : Addr) (tn : Nat → Heap → Prop) : Prop where
  mem : it ∈ fp
  obj : ∀ i h, tn i h → ∀ b ∈ fp, ∃ o, h.get? b = some o ∧ ∀ v, o.data ≠ .cell v
  keep : ∀ i h h', tn i h → (∀ b ∈ fp, ∀ o, h.get? b = some o → h'.get? b = some o) → tn i h'
  item : ∀ (X : Cx), X.prog = P → X.w = w → X.K = K → X.calm = true → ∀ (i : Nat) (pins : List (Addr × Obj)) (s : Shared) (σ : St) (H : Hp) (E : Value → Shared → Prop), Inv X pins σ H s → (∀ b ∈ fp, FpOk X pins H b) → tn i s.heap → J.go i H →
    wpAny (model P w) X.A (pyNext (.ref it)) (fun r s1 => ∃ u, r = some u ∧
      wpAny (model P w) X.A (letOwnedTupleGo tg (.ref it) u) (fun _ s2 => ∃ x H', Inv X pins σ H' s2 ∧ RelV x u ∧ J.yld i H x H' ∧ tn (i + 1) s2.heap ∧ ∀ b ∈ fp, H' b = none) E s1) E s
  done : ∀ (X : Cx), X.prog = P → X.w = w → X.K = K → X.calm = true → ∀ (i : Nat) (pins : List (Addr × Obj)) (s : Shared) (σ : St) (H : Hp) (E : Value → Shared → Prop), Inv X pins σ H s → (∀ b ∈ fp, FpOk X pins H b) → tn i s.heap → J.stop i H →
    wpAny (model P w) X.A (pyNext (.ref it)) (fun r s1 => r = none ∧ Inv X pins σ H s1) E s
  self : ∀ (A : Around) (i : Nat) (s : Shared) (Q : Value → Shared → Prop) (E : Value → Shared → Prop), tn i s.heap → Q (.ref it) s → wpAny (model P w) A (pyIter (.ref it)) Q E s
abbrev TI := St → Hp → (It → Hp → Prop) → Prop
def PIE (X : Cx) (pins : List (Addr × Obj)) (σ : St) (tg : Expr) (R : It → Hp → Prop) (itv : Value) (s2 : Shared) : Prop :=
  ∃ (it : Addr) (fp : List Addr) (tn : Nat → Heap → Prop) (J : It) (H' : Hp), itv = .ref it ∧ Inv X pins σ H' s2 ∧ Turn X.prog X.w X.K tg J fp it tn ∧ tn 0 s2.heap ∧ (∀ b ∈ fp, FpOk X pins H' b) ∧ R J H'
def PI (X : Cx) (tg iter : Expr) (wi : TI) : Prop :=
  ∀ (pins : List (Addr × Obj)) (s : Shared) (σ : St) (H : Hp) (R : It → Hp → Prop), Inv X pins σ H s → wi σ H R →
    wpAny (model X.prog X.w) X.A (eval iter X.env) (fun v s1 => wpAny (model X.prog X.w) X.A (pyIter v) (PIE X pins σ tg R) X.xe s1) X.xe s
theorem go_of {M : Model} {A : Around} {E : Value → Shared → Prop} {s : Shared} {tg : Expr} {it : Addr} {u : Value} {o : Obj} {n : String} {vs : Array Value} {Q : Unit → Shared → Prop} (ho : s.heap.get? it = some o) (hc : o.cls = .type n) (hd : o.data = .fields vs)
    (hn : ["enumerate", "zip", "dict_itemiterator", "dict_reverseitemiterator", "odict_iterator", "itertools.zip_longest", "itertools.pairwise"].contains n = false) (hQ : Q () s) : wpAny M A (letOwnedTupleGo tg (.ref it) u) Q E s := by
  unfold letOwnedTupleGo
  cases tg <;> first
    | exact wpAny_pure hQ
    | (cases u <;> first
        | exact wpAny_pure hQ
        | (refine wpAny_bind (wpAny_load ho ?_)
           rw [hc, hd]
           show wpAny M A (if (["enumerate", "zip", "dict_itemiterator", "dict_reverseitemiterator", "odict_iterator", "itertools.zip_longest", "itertools.pairwise"].contains n && vs[0]? == some (rawInt _)) = true then _ else _) Q E s
           rw [if_neg (by intro h; rw [hn, Bool.false_and] at h; cases h)]
           exact wpAny_pure hQ))
def Itl (K : PySem.W.Frag) (a : Addr) : It :=
  ⟨fun i H => ∃ xs x, SqL K H a xs ∧ xs[i]? = some x, fun i H x H' => H' = H ∧ ∀ xs, SqL K H a xs → xs[i]? = some x, fun i H => ∃ xs, SqL K H a xs ∧ xs.length ≤ i⟩
def Itt (K : PySem.W.Frag) (a : Addr) : It :=
  ⟨fun i H => ∃ xs x, SqT K H a xs ∧ xs[i]? = some x, fun i H x H' => H' = H ∧ ∀ xs, SqT K H a xs → xs[i]? = some x, fun i H => ∃ xs, SqT K H a xs ∧ xs.length ≤ i⟩
def Itr (lo : Int) (n : Nat) : It := ⟨fun i _ => i < n, fun i H x H' => H' = H ∧ x = .int (lo + i), fun i _ => n ≤ i⟩
theorem turn_list {P : Program} {w : World} {K : PySem.W.Frag} {tg : Expr} (a it : Addr) : Turn P w K tg (Itl K a) [it] it (fun i h => h.IsListIter it a i) where
  mem := by simp
  obj := fun i h st b hb => by
    have e : b = it := by simpa using hb
    subst e
    obtain ⟨o, e, c, d⟩ := st
    exact ⟨o, e, fun v z => by rw [d] at z; cases z⟩
  keep := fun i h h' st k => st.at fun o e => k it (by simp) o e
  item := by
    intro X hP hw hK hc i pins s σ H E I hf st hg
    subst hP hw hK
    obtain ⟨xs, x, hq, hx⟩ := hg
    obtain ⟨its, rv, p, hz⟩ := I.list hq
    obtain ⟨u, hu, ru⟩ := rv.get hx
    obtain ⟨f0, f1, f2, f3, f4, f5⟩ := hf it (by simp)
    refine wpAny_pyNext_list_item st p.isList (x := u) (by simpa using hu) fun h' st' sb => ?_
    have I1 : Inv X pins σ H { s with heap := h' } := I.turned (t' := s.toks) (fun b o hb e => (sb.2 b hb).trans e) f0 f1 f3 f4 f5
    obtain ⟨o, e, c, d⟩ := id st'
    exact ⟨u, rfl, go_of (s := { s with heap := h' }) e c d (by decide) ⟨x, H, I1, ru, ⟨rfl, fun ys hy => by rw [I.list_inj hy hq]; exact hx⟩, st', fun b hb => (hf b hb).1⟩⟩
  done := by
    intro X hP hw hK hc i pins s σ H E I hf st hg
    subst hP hw hK
    obtain ⟨xs, hq, hx⟩ := hg
    obtain ⟨its, rv, p, hz⟩ := I.list hq
    obtain ⟨f0, f1, f2, f3, f4, f5⟩ := hf it (by simp)
    have hl := rv.length
    exact wpAny_pyNext_list_end (I.ok.hd hc) st p.isList (by simp; omega) fun h' eb => ⟨rfl, I.turned (t' := s.toks) (fun b o hb e => eb b o hb e) f0 f1 f3 f4 f5⟩
  self := fun _ _ _ _ _ st h => wpAny_pyIter_listiter st h
theorem turn_tuple {P : Program} {w : World} {K : PySem.W.Frag} {tg : Expr} (a it : Addr) : Turn P w K tg (Itt K a) [it] it (fun i h => h.IsTupleIter it a i) where
  mem := by simp
  obj := fun i h st b hb => by
    have e : b = it := by simpa using hb
    subst e
    obtain ⟨o, e, c, d⟩ := st
    exact ⟨o, e, fun v z => by rw [d] at z; cases z⟩
  keep := fun i h h' st k => st.at fun o e => k it (by simp) o e
  item := by
    intro X hP hw hK hc i pins s σ H E I hf st hg
    subst hP hw hK
    obtain ⟨xs, x, hq, hx⟩ := hg
    obtain ⟨its, rv, p, hz⟩ := I.tuple hq
    obtain ⟨u, hu, ru⟩ := rv.get hx
    obtain ⟨f0, f1, f2, f3, f4, f5⟩ := hf it (by simp)
    refine wpAny_pyNext_tuple_item st (show s.heap.IsTuple a its.toArray from p) (x := u) (by simpa using hu) fun h' st' sb => ?_
    have I1 : Inv X pins σ H { s with heap := h' } := I.turned (t' := s.toks) (fun b o hb e => (sb.2 b hb).trans e) f0 f1 f3 f4 f5
    obtain ⟨o, e, c, d⟩ := id st'
    exact ⟨u, rfl, go_of (s := { s with heap := h' }) e c d (by decide) ⟨x, H, I1, ru, ⟨rfl, fun ys hy => by rw [I.tuple_inj hy hq]; exact hx⟩, st', fun b hb => (hf b hb).1⟩⟩
  done := by
    intro X hP hw hK hc i pins s σ H E I hf st hg
    subst hP hw hK
    obtain ⟨xs, hq, hx⟩ := hg
    obtain ⟨its, rv, p, hz⟩ := I.tuple hq
    obtain ⟨f0, f1, f2, f3, f4, f5⟩ := hf it (by simp)
    have hl := rv.length
    exact wpAny_pyNext_tuple_end (I.ok.hd hc) st (show s.heap.IsTuple a its.toArray from p) (by simp; omega) fun h' eb => ⟨rfl, I.turned (t' := s.toks) (fun b o hb e => eb b o hb e) f0 f1 f3 f4 f5⟩
  self := fun _ _ _ _ _ st h => wpAny_pyIter_tupleiter st h
theorem turn_range {P : Program} {w : World} {K : PySem.W.Frag} {tg : Expr} (it : Addr) (lo : Int) (n : Nat) : Turn P w K tg (Itr lo n) [it] it (fun i h => IsRangeIter h it (lo + (i : Nat) * 1) ((n : Int) - (i : Nat)) 1) where
  mem := by simp
  obj := fun i h st b hb => by
    have e : b = it := by simpa using hb
    subst e
    exact ⟨_, st, fun v z => by
      have z' : Data.fields _ = Data.cell v := z
      cases z'⟩
  keep := fun i h h' st k => k it (by simp) _ st
  item := by
    intro X hP hw hK hc i pins s σ H E I hf st hg
    subst hP hw hK
    obtain ⟨f0, f1, f2, f3, f4, f5⟩ := hf it (by simp)
    have W := Walks.range (prog := X.prog) (w := X.w) (I.ok.hd hc) it lo 1 n
    refine W.item i s _ _ hg st fun v h' tk hv st' kk => ?_
    obtain ⟨t, rfl⟩ := hv
    have I1 : Inv X pins σ H { s with heap := h', toks := tk } := I.turned (fun b o hb e => kk b o (by simpa using hb) e) f0 f1 f3 f4 f5
    refine ⟨_, rfl, go_of (s := { s with heap := h', toks := tk }) (n := "range_iterator") st' rfl rfl (by decide) ⟨.int (lo + i), H, I1, ⟨t, ?_⟩, ⟨rfl, rfl⟩, st', fun b hb => (hf b hb).1⟩⟩
    rw [Int.mul_one]
  done := by
    intro X hP hw hK hc i pins s σ H E I hf st hg
    subst hP hw hK
    obtain ⟨f0, f1, f2, f3, f4, f5⟩ := hf it (by simp)
    exact wpAny_pyNext_range_end (I.ok.hd hc) st (by have : n ≤ i := hg; omega) fun h' eb => ⟨rfl, I.turned (t' := s.toks) (fun b o hb e => eb b o hb e) f0 f1 f3 f4 f5⟩
  self := fun _ _ _ _ _ st h => wpAny_pyIter_rangeiter st h
end L2
namespace L2
open PySem PySem.Spec PyProof.Rows
section
variable {X : Cx} {tg : Expr}
def iTup (K : PySem.W.Frag) (tl : TE) : TI := fun σ H R => tl σ H fun x H1 => ∃ a, x = .ref a ∧ (∃ xs, SqT K H1 a xs) ∧ R (Itt K a) H1
theorem pi_tup {l : Expr} {tl : TE} (hl : PE X l tl) : PI X tg l (iTup X.K tl) := by
  intro pins s σ H R I h
  refine thn (hl pins s σ H _ I h) fun v s1 ⟨x, H1, I1, r1, q1⟩ => ?_
  obtain ⟨a, e, ⟨xs, hq⟩, q⟩ := q1
  subst e
  cases r1
  obtain ⟨its, rv, p, hz⟩ := I1.tuple hq
  refine wpAny_pyIter_tuple (show s1.heap.IsTuple a its.toArray from p) ?_
  refine ⟨s1.heap.objs.size, [s1.heap.objs.size], _, _, H1, rfl, I1.kept (t' := s1.toks) fun b o e => Heap.get?_push_of_some _ e, turn_tuple a _, ⟨_, Heap.get?_push_size _ rfl, rfl, rfl⟩, fun b hb => ?_, q⟩
  have e : b = s1.heap.objs.size := by simpa using hb
  subst e
  exact I1.fpOk (Nat.le_refl _) (I1.hok.fresh (Nat.le_refl _))
theorem range_it {pins : List (Addr × Obj)} {σ : St} {H : Hp} {s : Shared} {R : It → Hp → Prop} {E : Value → Shared → Prop} {lo hi : Int} {t u v : Tok} {tk : Nat} (I : Inv X pins σ H s) (h1 : -(2 ^ 62) ≤ lo) (h2 : lo < 2 ^ 62) (h3 : -(2 ^ 62) ≤ hi) (h4 : hi < 2 ^ 62)
    (q : R (Itr lo (hi - lo).toNat) H) : wpAny (model X.prog X.w) X.A (pyIter (.ref s.heap.objs.size)) (PIE X pins σ tg R) E { s with heap := s.heap.push { cls := .type "range", data := .fields #[.int lo t, .int hi u, .int 1 v] }, toks := tk } := by
  refine wpAny_pyIter_range (IsRange.new ..) (small_one h1 h2 h3 h4) ?_
  have I1 : Inv X pins σ H { s with heap := s.heap.push { cls := .type "range", data := .fields #[.int lo t, .int hi u, .int 1 v] }, toks := tk } := I.kept fun b o e => Heap.get?_push_of_some _ e
  refine ⟨(s.heap.push { cls := .type "range", data := .fields #[.int lo t, .int hi u, .int 1 v] }).objs.size, [(s.heap.push { cls := .type "range", data := .fields #[.int lo t, .int hi u, .int 1 v] }).objs.size], _, _, H, rfl,
    I1.kept (t' := tk) fun b o e => Heap.get?_push_of_some _ e, turn_range _ lo (hi - lo).toNat, ?_, fun b hb => ?_, q⟩
  · have e1 : lo + ((0 : Nat) : Int) * 1 = lo := by simp
    have e2 : (((hi - lo).toNat : Nat) : Int) - ((0 : Nat) : Int) = Builtin.Range.rangeSize lo hi 1 := by rw [rangeSize_one]; split <;> omega
    show IsRangeIter _ _ (lo + ((0 : Nat) : Int) * 1) ((((hi - lo).toNat : Nat) : Int) - ((0 : Nat) : Int)) 1
    rw [e1, e2]
    exact Heap.get?_push_size _ rfl
  · have e : b = (s.heap.push { cls := .type "range", data := .fields #[.int lo t, .int hi u, .int 1 v] }).objs.size := by simpa using hb
    subst e
    exact I1.fpOk (Nat.le_refl _) (I1.hok.fresh (Nat.le_refl _))
def iRng1 (ta : TA) : TI := fun σ H R => ta σ H fun vs H1 => ∃ j : Int, vs = [.int j] ∧ -(2 ^ 62) ≤ j ∧ j < 2 ^ 62 ∧ R (Itr 0 j.toNat) H1
def iRng2 (ta : TA) : TI := fun σ H R => ta σ H fun vs H1 => ∃ i j : Int, vs = [.int i, .int j] ∧ (-(2 ^ 62) ≤ i ∧ i < 2 ^ 62 ∧ -(2 ^ 62) ≤ j ∧ j < 2 ^ 62) ∧ R (Itr i (j - i).toNat) H1
theorem pi_range1 {a : Expr} {ta : TA} {p pos : Pos} (hg : Gl X "range") (hm : X.mg "range" = none) (ha : PA X [a] ta) (hs : starEach [a] X.env = [(false, eval a X.env)] := by rfl) : PI X tg (.Call (.Name "range" p) [a] [] pos) (iRng1 ta) := by
  intro pins s σ H R I h
  refine Call_ (ld_blt I hg hm boot_range (PyProof.Rows.callWith_type1 (thn (ha pos pins s σ H _ I h) fun us s1 ⟨vs, H1, I1, r1, q1⟩ => ?_) hs rfl))
  obtain ⟨j, e, q1, q2, q⟩ := q1
  subst e
  cases r1 with
  | cons r rr =>
    cases rr
    obtain ⟨t, rfl⟩ := r
    exact call_range_1 (range_it I1 (by omega) (by omega) q1 q2 (by simpa using q))
theorem pi_range2 {a b : Expr} {ta : TA} {p pos : Pos} (hg : Gl X "range") (hm : X.mg "range" = none) (ha : PA X [a, b] ta) (hs : starEach [a, b] X.env = [(false, eval a X.env), (false, eval b X.env)] := by rfl) (hs2 : starEach [b] X.env = [(false, eval b X.env)] := by rfl) :
    PI X tg (.Call (.Name "range" p) [a, b] [] pos) (iRng2 ta) := by
  intro pins s σ H R I h
  refine Call_ (ld_blt I hg hm boot_range (PyProof.Rows.callWith_type1 (thn (ha pos pins s σ H _ I h) fun us s1 ⟨vs, H1, I1, r1, q1⟩ => ?_) (by rw [hs, hs2]) (by rw [hs2]; rfl)))
  obtain ⟨i, j, e, ⟨q1, q2, q3, q4⟩, q⟩ := q1
  subst e
  cases r1 with
  | cons r rr =>
    cases rr with
    | cons r' rr =>
      cases rr
      obtain ⟨t, rfl⟩ := r
      obtain ⟨t', rfl⟩ := r'
      exact call_range_2 (range_it I1 q1 q2 q3 q4 q)
def tFor (wi : TI) (g : TG) (tb : TS) : TS := fun D σ H => wi σ H fun J H1 => ∃ W : Nat → Nat → St → Hp → Prop, (∃ m, W 0 m σ H1) ∧ ∀ i m σ H, W i m σ H →
  (J.stop i H ∧ D.nx σ H) ∨ (J.go i H ∧ ∃ N : St → Hp → Prop, (∀ σ' H', N σ' H' → ∃ m', m' < m ∧ W (i + 1) m' σ' H') ∧ ∀ x H', J.yld i H x H' → g x σ H' fun σ2 H2 => tb { D with nx := N, ct := N, bk := D.nx } σ2 H2)
def pinsAt (fp : List Addr) (h : Heap) : List (Addr × Obj) := fp.filterMap fun b => (h.get? b).map fun o => (b, o)
theorem mem_pinsAt {fp : List Addr} {h : Heap} {b : Addr} {o : Obj} (hb : b ∈ fp) (e : h.get? b = some o) : (b, o) ∈ pinsAt fp h := List.mem_filterMap.mpr ⟨b, hb, by rw [e]; rfl⟩
theorem of_pinsAt {fp : List Addr} {h : Heap} {p : Addr × Obj} (hp : p ∈ pinsAt fp h) : p.1 ∈ fp ∧ h.get? p.1 = some p.2 := by
  obtain ⟨b, hb, e⟩ := List.mem_filterMap.mp hp
  cases q : h.get? b with
  | none => rw [q] at e; cases e
  | some o =>
    rw [q] at e
    have e' : (b, o) = p := Option.some.inj e
    subst e'
    exact ⟨hb, q⟩
theorem Inv.pinned {pins : List (Addr × Obj)} {σ : St} {H : Hp} {s : Shared} {fp : List Addr} (I : Inv X pins σ H s) (hf : ∀ b ∈ fp, FpOk X pins H b) (ho : ∀ b ∈ fp, ∃ o, s.heap.get? b = some o ∧ ∀ v, o.data ≠ .cell v) : Inv X (pins ++ pinsAt fp s.heap) σ H s :=
  I.pins_of fun p hp => (List.mem_append.mp hp).elim (fun z => I.pin p (List.mem_append_right _ z)) fun z => by
    obtain ⟨hb, e⟩ := of_pinsAt z
    obtain ⟨f0, f1, f2, _⟩ := hf p.1 hb
    obtain ⟨o, e', d⟩ := ho p.1 hb
    rw [e] at e'; cases e'
    exact ⟨e, f0, f1, f2, d⟩
theorem Inv.unpinned {pins pl : List (Addr × Obj)} {σ : St} {H : Hp} {s : Shared} (I : Inv X (pins ++ pl) σ H s) : Inv X pins σ H s := I.pins_of fun p hp => I.pin p (List.mem_append_right _ (List.mem_append_left _ hp))
theorem ps_for {iter : Expr} {body : List Stmt} {wi : TI} {g : TG} {tb : TS} {pos : Pos} (hp : PassesOwn (model X.prog X.w) X.A X.env X.xe) (hc : X.calm = true) (hi : PI X tg iter wi) (hg : PG X tg g) (hb : PSs X body tb)
    (hs : ∀ x, foldedSetIterable iter X.env x = pure x := by intro _; rfl) : PS X (.For tg iter body [] pos) (tFor wi g tb) := by
  intro pins s σ H D I h
  refine wpAny_For (thn (hi pins s σ H _ I h) fun v s1 h1 => thn h1 fun itv s2 h2 => ?_) hs
  obtain ⟨it, fp, tn, J, H2, e, I2, T, st2, f2, W, ⟨m0, w0⟩, turn⟩ := h2
  subst e
  -- what stays true of the iterator's objects through the loop
  have stat : ∀ {H' : Hp}, (∀ b ∈ fp, H' b = none) → ∀ b ∈ fp, FpOk X pins H' b := fun hn b hb => ⟨hn b hb, (f2 b hb).2⟩
  refine codeAny_forLoop_any (fun n s' => ∃ i σ' H', Inv X pins σ' H' s' ∧ tn i s'.heap ∧ (∀ b ∈ fp, H' b = none) ∧ W i n σ' H') ?_ m0 ⟨0, σ, H2, I2, st2, fun b hb => (f2 b hb).1, w0⟩
  rintro n s3 ⟨i, σ3, H3, I3, st3, fr3, w3⟩
  rcases turn i n σ3 H3 w3 with ⟨stop, qn⟩ | ⟨go, N, hN, step⟩
  · refine wpAny_passesOwn hp (thn (T.done X rfl rfl rfl hc i pins s3 σ3 H3 X.xe I3 (stat fr3) st3 stop) fun r s4 ⟨hr, I4⟩ => ?_)
    subst hr
    exact wpAny_execs_nil ⟨σ3, H3, I4, qn⟩
  · refine wpAny_passesOwn hp (thn (T.item X rfl rfl rfl hc i pins s3 σ3 H3 X.xe I3 (stat fr3) st3 go) fun r s4 ⟨u, hr, h4⟩ => ?_)
    subst hr
    refine wpAny_passesOwn hp (thn h4 fun _ s5 ⟨x, H5, I5, r5, y5, st5, fr5⟩ => ?_)
    have I5' := I5.pinned (stat fr5) (T.obj _ _ st5)
    refine wpAny_passesOwn hp (thn (hg _ s5 σ3 H5 x u _ I5' r5 (step x H5 y5)) fun _ s6 ⟨σ6, H6, I6, q6⟩ => ?_)
    refine wpAny_passesOwn hp (thn (hb _ s6 σ6 H6 _ I6 q6) fun f s7 q7 => ?_)
    have again : ∀ {σ7 : St} {H7 : Hp}, Inv X (pins ++ pinsAt fp s5.heap) σ7 H7 s7 → N σ7 H7 → ∃ m, m < n ∧ ∃ i σ' H', Inv X pins σ' H' s7 ∧ tn i s7.heap ∧ (∀ b ∈ fp, H' b = none) ∧ W i m σ' H' := fun {σ7 H7} I7 n7 => by
      obtain ⟨m', hm, w7⟩ := hN σ7 H7 n7
      refine ⟨m', hm, i + 1, σ7, H7, I7.unpinned, T.keep _ _ _ st5 fun b hb o e => (I7.pin (b, o) (List.mem_append_right _ (List.mem_append_right _ (mem_pinsAt hb e)))).1, fun b hb => ?_, w7⟩
      obtain ⟨o, e, d⟩ := T.obj _ _ st5 b hb
      exact (I7.pin (b, o) (List.mem_append_right _ (List.mem_append_right _ (mem_pinsAt hb e)))).2.1
    cases f with
    | next => obtain ⟨σ7, H7, I7, n7⟩ := q7; exact again I7 n7
    | cont => obtain ⟨σ7, H7, I7, n7⟩ := q7; exact again I7 n7
    | brk => obtain ⟨σ7, H7, I7, q7⟩ := q7; exact ⟨σ7, H7, I7.unpinned, q7⟩
    | ret v => obtain ⟨x7, σ7, H7, I7, r7, q7⟩ := q7; exact ⟨x7, σ7, H7, I7.unpinned, r7, q7⟩
end
theorem for_list {K : PySem.W.Frag} {a : Addr} {xs : List V} {g : TG} {tb : TS} {D : Ends} {σ : St} {H : Hp} (Pv : Nat → St → Hp → Prop) (h0 : Pv 0 σ H) (hl : ∀ i σ H, i ≤ xs.length → Pv i σ H → SqL K H a xs)
    (hs : ∀ i x σ H, xs[i]? = some x → Pv i σ H → g x σ H fun σ2 H2 => tb { D with nx := Pv (i + 1), ct := Pv (i + 1), bk := D.nx } σ2 H2) (hd : ∀ σ H, Pv xs.length σ H → D.nx σ H) :
    ∃ W : Nat → Nat → St → Hp → Prop, (∃ m, W 0 m σ H) ∧ ∀ i m σ H, W i m σ H →
      ((Itl K a).stop i H ∧ D.nx σ H) ∨ ((Itl K a).go i H ∧ ∃ N : St → Hp → Prop, (∀ σ' H', N σ' H' → ∃ m', m' < m ∧ W (i + 1) m' σ' H') ∧ ∀ x H', (Itl K a).yld i H x H' → g x σ H' fun σ2 H2 => tb { D with nx := N, ct := N, bk := D.nx } σ2 H2) := by
  refine ⟨fun i m σ H => m = xs.length - i ∧ i ≤ xs.length ∧ Pv i σ H, ⟨xs.length, by simp, Nat.zero_le _, h0⟩, ?_⟩
  rintro i m σ H ⟨rfl, hi, p⟩
  have q := hl i σ H hi p
  by_cases hlt : i < xs.length
  · refine .inr ⟨⟨xs, xs[i], q, by simp [hlt]⟩, Pv (i + 1), fun σ' H' p' => ⟨xs.length - (i + 1), by omega, rfl, hlt, p'⟩, fun x H' y => ?_⟩
    obtain ⟨e, y⟩ := y
    subst e
    exact hs i x σ _ (y xs q) p
  · have e : i = xs.length := by omega
    subst e
    exact .inl ⟨⟨xs, q, Nat.le_refl _⟩, hd σ H p⟩
theorem for_tup {K : PySem.W.Frag} {a : Addr} {xs : List V} {g : TG} {tb : TS} {D : Ends} {σ : St} {H : Hp} (Pv : Nat → St → Hp → Prop) (h0 : Pv 0 σ H) (hl : ∀ i σ H, i ≤ xs.length → Pv i σ H → SqT K H a xs)
    (hs : ∀ i x σ H, xs[i]? = some x → Pv i σ H → g x σ H fun σ2 H2 => tb { D with nx := Pv (i + 1), ct := Pv (i + 1), bk := D.nx } σ2 H2) (hd : ∀ σ H, Pv xs.length σ H → D.nx σ H) :
    ∃ W : Nat → Nat → St → Hp → Prop, (∃ m, W 0 m σ H) ∧ ∀ i m σ H, W i m σ H →
      ((Itt K a).stop i H ∧ D.nx σ H) ∨ ((Itt K a).go i H ∧ ∃ N : St → Hp → Prop, (∀ σ' H', N σ' H' → ∃ m', m' < m ∧ W (i + 1) m' σ' H') ∧ ∀ x H', (Itt K a).yld i H x H' → g x σ H' fun σ2 H2 => tb { D with nx := N, ct := N, bk := D.nx } σ2 H2) := by
  refine ⟨fun i m σ H => m = xs.length - i ∧ i ≤ xs.length ∧ Pv i σ H, ⟨xs.length, by simp, Nat.zero_le _, h0⟩, ?_⟩
  rintro i m σ H ⟨rfl, hi, p⟩
  have q := hl i σ H hi p
  by_cases hlt : i < xs.length
  · refine .inr ⟨⟨xs, xs[i], q, by simp [hlt]⟩, Pv (i + 1), fun σ' H' p' => ⟨xs.length - (i + 1), by omega, rfl, hlt, p'⟩, fun x H' y => ?_⟩
    obtain ⟨e, y⟩ := y
    subst e
    exact hs i x σ _ (y xs q) p
  · have e : i = xs.length := by omega
    subst e
    exact .inl ⟨⟨xs, q, Nat.le_refl _⟩, hd σ H p⟩
end L2
namespace L2
open PySem PySem.Spec PyProof.Rows
abbrev R2 := V → V → Hp → VK → Prop
def OpR (X : Cx) (f : Value → Value → Sem Value) (r : R2) : Prop :=
  ∀ (pins : List (Addr × Obj)) (s : Shared) (σ : St) (H : Hp) (x y : V) (v u : Value) (Q : VK), Inv X pins σ H s → RelV x v → RelV y u → r x y H Q →
    wpAny (model X.prog X.w) X.A (f v u) (EP X pins σ Q) X.xe s
def CallR (X : Cx) (f : Value) (r : List V → Hp → VK → Prop) : Prop :=
  ∀ (pins : List (Addr × Obj)) (s : Shared) (σ : St) (H : Hp) (xs : List V) (us : List Value) (Q : VK), Inv X pins σ H s → Vals xs us → r xs H Q →
    wpAny (model X.prog X.w) X.A (call f us) (EP X pins σ Q) X.xe s
def TruR (X : Cx) (r : V → Hp → (Bool → Hp → Prop) → Prop) : Prop :=
  ∀ (pins : List (Addr × Obj)) (s : Shared) (σ : St) (H : Hp) (x : V) (v : Value) (Q : Bool → Hp → Prop), Inv X pins σ H s → RelV x v → r x H Q →
    wpAny (model X.prog X.w) X.A (truthy v) (TP X pins σ Q) X.xe s
def tOp (r : R2) (ta tb : TE) : TE := fun σ H Q => ta σ H fun x H1 => tb σ H1 fun y H2 => r x y H2 Q
def rI (C : Int → Int → Prop) (g : Int → Int → V) : R2 := fun x y H Q => ∃ i j, x = .int i ∧ y = .int j ∧ C i j ∧ Q (g i j) H
def rI0 (g : Int → Int → V) : R2 := fun x y H Q => ∃ i j, x = .int i ∧ y = .int j ∧ Q (g i j) H
section
variable {X : Cx} {a b c : Expr} {ta tb tc : TE} {pos : Pos}
theorem binT (ha : PE X a ta) (hb : PE X b tb) {pins : List (Addr × Obj)} {s : Shared} {σ : St} {H : Hp} {R : V → V → Hp → Prop} (I : Inv X pins σ H s)
    (h : ta σ H fun x H1 => tb σ H1 fun y H2 => R x y H2) {Q : Value → Shared → Prop} {f : Value → Value → Sem Value}
    (hf : ∀ v u s2 x y H2, Inv X pins σ H2 s2 → RelV x v → RelV y u → R x y H2 → wpAny (model X.prog X.w) X.A (f v u) Q X.xe s2) :
    wpAny (model X.prog X.w) X.A (eval a X.env) (fun v s₁ => wpAny (model X.prog X.w) X.A (eval b X.env) (fun u s₂ => wpAny (model X.prog X.w) X.A (f v u) Q X.xe s₂) X.xe s₁) X.xe s := by
  refine thn (ha pins s σ H _ I h) fun v s1 ⟨x, H1, I1, r1, q1⟩ => ?_
  refine thn (hb pins s1 σ H1 _ I1 q1) fun u s2 ⟨y, H2, I2, r2, q2⟩ => ?_
  exact hf v u s2 x y H2 I2 r1 r2 q2
theorem pe_op {op : Operator} {r : R2} (ho : OpR X (binaryOp op) r) (ha : PE X a ta) (hb : PE X b tb) : PE X (.BinOp a op b pos) (tOp r ta tb) := by
  intro pins s σ H Q I h
  exact wpAny_BinOp (binT ha hb I h fun v u s2 x y H2 I2 rx ry q => ho pins s2 σ H2 x y v u Q I2 rx ry q)
theorem opI {f : Value → Value → Sem Value} {C : Int → Int → Prop} {g : Int → Int → Int}
    (rule : ∀ (i j : Int) (t u : Tok) (s : Shared) (Q : Value → Shared → Prop) (E : Value → Shared → Prop), C i j → Q (.int (g i j) s.toks) { s with toks := s.toks + 1 } → wpAny (model X.prog X.w) X.A (f (.int i t) (.int j u)) Q E s) :
    OpR X f (rI C fun i j => .int (g i j)) := by
  intro pins s σ H x y v u Q I rx ry h
  obtain ⟨i, j, rfl, rfl, hc, q⟩ := h
  obtain ⟨t, rfl⟩ := rx
  obtain ⟨t', rfl⟩ := ry
  exact rule i j t t' s _ _ hc ⟨.int (g i j), H, I.tok _, ⟨_, rfl⟩, q⟩
theorem opI0 {f : Value → Value → Sem Value} {g : Int → Int → Int}
    (rule : ∀ (i j : Int) (t u : Tok) (s : Shared) (Q : Value → Shared → Prop) (E : Value → Shared → Prop), Q (.int (g i j) s.toks) { s with toks := s.toks + 1 } → wpAny (model X.prog X.w) X.A (f (.int i t) (.int j u)) Q E s) :
    OpR X f (rI0 fun i j => .int (g i j)) := by
  intro pins s σ H x y v u Q I rx ry h
  obtain ⟨i, j, rfl, rfl, q⟩ := h
  obtain ⟨t, rfl⟩ := rx
  obtain ⟨t', rfl⟩ := ry
  exact rule i j t t' s _ _ ⟨.int (g i j), H, I.tok _, ⟨_, rfl⟩, q⟩
theorem opB0 {f : Value → Value → Sem Value} {g : Int → Int → Bool}
    (rule : ∀ (i j : Int) (t u : Tok) (s : Shared) (Q : Value → Shared → Prop) (E : Value → Shared → Prop), Q (.bool (g i j)) s → wpAny (model X.prog X.w) X.A (f (.int i t) (.int j u)) Q E s) :
    OpR X f (rI0 fun i j => .bl (g i j)) := by
  intro pins s σ H x y v u Q I rx ry h
  obtain ⟨i, j, rfl, rfl, q⟩ := h
  obtain ⟨t, rfl⟩ := rx
  obtain ⟨t', rfl⟩ := ry
  exact rule i j t t' s _ _ ⟨.bl (g i j), H, I, rfl, q⟩
def CDiv (i j : Int) : Prop := 0 < j ∧ j < 1073741824
def CPow (i j : Int) : Prop := 0 ≤ j ∧ j ≤ 1000000 ∧ i.natAbs < 2 ^ 64
def CMul (i j : Int) : Prop := (-(2 ^ 64) < i ∧ i < 2 ^ 64) ∨ (-(2 ^ 64) < j ∧ j < 2 ^ 64)
theorem CMul.ok {i j : Int} (h : CMul i j) : IntMulOk i j := by
  rcases h with ⟨h1, h2⟩ | ⟨h1, h2⟩
  · exact .of_left (intBits_le_64 h1 h2)
  · exact .of_right (intBits_le_64 h1 h2)
theorem op_add : OpR X (binaryOp .Add) (rI0 fun i j => .int (i + j)) := opI0 fun _ _ _ _ _ _ _ q => add_int q
theorem op_sub : OpR X (binaryOp .Sub) (rI0 fun i j => .int (i - j)) := opI0 fun _ _ _ _ _ _ _ q => sub_int q
theorem op_mul : OpR X (binaryOp .Mult) (rI CMul fun i j => .int (i * j)) := opI fun _ _ _ _ _ _ _ hc q => mul_int q hc.ok
theorem op_fdiv : OpR X (binaryOp .FloorDiv) (rI CDiv fun i j => .int (i / j)) := opI fun i j _ _ _ _ _ hc q => by
  have h1 : (0 : Int) < j := hc.1
  have h2 : j < 1073741824 := hc.2
  exact floordiv_int (by omega) (by rw [Int.fdiv_eq_ediv_of_nonneg i (by omega)]; exact q) (.inl (PyProof.noPylong_small (by omega)))
theorem op_mod : OpR X (binaryOp .Mod) (rI (fun _ j => 0 < j) fun i j => .int (i % j)) := opI fun i j _ _ _ _ _ hc q => by
  have h1 : (0 : Int) < j := hc
  exact mod_int' (by omega) (by rw [Int.fmod_eq_emod_of_nonneg i (by omega)]; exact q)
theorem op_pow : OpR X (binaryOp .Pow) (rI CPow fun i j => .int (i ^ j.toNat)) := opI fun _ _ _ _ _ _ _ hc q => pow_int_small hc.1 hc.2.1 hc.2.2 q
end
section
variable {X : Cx} {a b c : Expr} {ta tb tc : TE} {pos : Pos}
theorem op_lt : OpR X (compareOp .Lt) (rI0 fun i j => .bl (decide (i < j))) := opB0 fun _ _ _ _ _ _ _ q => lt_int q
theorem op_le : OpR X (compareOp .LtE) (rI0 fun i j => .bl (decide (i ≤ j))) := opB0 fun _ _ _ _ _ _ _ q => le_int q
theorem op_gt : OpR X (compareOp .Gt) (rI0 fun i j => .bl (decide (j < i))) := opB0 fun _ _ _ _ _ _ _ q => gt_int q
theorem op_ge : OpR X (compareOp .GtE) (rI0 fun i j => .bl (decide (j ≤ i))) := opB0 fun _ _ _ _ _ _ _ q => ge_int q
theorem OpR.or {f : Value → Value → Sem Value} {r r' : R2} (h : OpR X f r) (h' : OpR X f r') : OpR X f (fun x y H Q => r x y H Q ∨ r' x y H Q) := by
  intro pins s σ H x y v u Q I rx ry q
  rcases q with q | q
  · exact h pins s σ H x y v u Q I rx ry q
  · exact h' pins s σ H x y v u Q I rx ry q
theorem nomark (b : Expr) {op : CmpOp} (h : op ≠ .In := by decide) (h2 : op ≠ .NotIn := by decide) : behindInMarks op b = false := by
  have e1 : (op == CmpOp.In) = false := by cases op <;> first | rfl | exact absurd rfl h
  have e2 : (op == CmpOp.NotIn) = false := by cases op <;> first | rfl | exact absurd rfl h2
  cases b <;> simp [behindInMarks, e1, e2]
theorem pe_cmpR {op : CmpOp} {r : R2} (ho : OpR X (compareOp op) r) (ha : PE X a ta) (hb : PE X b tb) (hm : behindInMarks op b = false) : PE X (.Compare a [op] [b] pos) (tOp r ta tb) := by
  intro pins s σ H Q I h
  exact wpAny_Compare1 (binT ha hb I h fun v u s2 x y H2 I2 rx ry q => ho pins s2 σ H2 x y v u Q I2 rx ry q) hm
def tTest (t : TE) : TT := fun σ H Q => t σ H fun x H' => ∃ k, x = .bl k ∧ Q k H'
theorem pt_cmpR {op : CmpOp} {r : R2} (ho : OpR X (compareOp op) r) (ha : PE X a ta) (hb : PE X b tb) (hm : behindInMarks op b = false) : PT X (.Compare a [op] [b] pos) (tTest (tOp r ta tb)) := by
  intro pins s σ H Q I h
  refine wpAny_isTrue_Compare1 (thn (ha pins s σ H _ I h) fun v s1 ⟨x, H1, I1, r1, q1⟩ => thn (hb pins s1 σ H1 _ I1 q1) fun u s2 ⟨y, H2, I2, r2, q2⟩ =>
    thn (ho pins s2 σ H2 x y v u _ I2 r1 r2 q2) fun c s3 ⟨z, H3, I3, r3, k, e, q3⟩ => ?_) hm
  subst e
  cases r3
  exact wpAny_truthy_bool ⟨H3, I3, q3⟩
def tChain (r r' : R2) (ta tb tc : TE) : TE := fun σ H Q => ta σ H fun x H1 => tb σ H1 fun y H2 => r x y H2 fun z H3 => ∃ k, z = .bl k ∧
  (if k = true then tc σ H3 fun w' H4 => r' y w' H4 Q else Q (.bl false) H3)
theorem pe_chain {op op' : CmpOp} {r r' : R2} (ho : OpR X (compareOp op) r) (ho' : OpR X (compareOp op') r') (ha : PE X a ta) (hb : PE X b tb) (hc : PE X c tc)
    (hm : lastMarks [op, op'] [b, c] = false := by with_unfolding_all rfl) : PE X (.Compare a [op, op'] [b, c] pos) (tChain r r' ta tb tc) := by
  intro pins s σ H Q I h
  refine Compare_chain (thn (ha pins s σ H _ I h) fun v s1 ⟨x, H1, I1, r1, q1⟩ => chain_link (thn (hb pins s1 σ H1 _ I1 q1) fun u s2 ⟨y, H2, I2, r2, q2⟩ =>
    thn (ho pins s2 σ H2 x y v u _ I2 r1 r2 q2) fun d s3 ⟨z, H3, I3, r3, k, e, q3⟩ => ?_)) hm
  subst e
  cases r3
  refine wpAny_truthy_bool ?_
  cases k with
  | false => exact ite_ff ⟨.bl false, H3, I3, rfl, q3⟩
  | true => exact ite_tt (chain_last (thn (hc pins s3 σ H3 _ I3 q3) fun w' s4 ⟨z', H4, I4, r4, q4⟩ => ho' pins s4 σ H4 y z' u w' Q I4 r2 r4 q4))
theorem pt_chain {op op' : CmpOp} {r r' : R2} (ho : OpR X (compareOp op) r) (ho' : OpR X (compareOp op') r') (ha : PE X a ta) (hb : PE X b tb) (hc : PE X c tc)
    (hm : lastMarks [op, op'] [b, c] = false := by with_unfolding_all rfl) : PT X (.Compare a [op, op'] [b, c] pos) (tTest (tChain r r' ta tb tc)) := by
  intro pins s σ H Q I h
  refine isTrue_chain (thn (ha pins s σ H _ I h) fun v s1 ⟨x, H1, I1, r1, q1⟩ => test_link (thn (hb pins s1 σ H1 _ I1 q1) fun u s2 ⟨y, H2, I2, r2, q2⟩ =>
    thn (ho pins s2 σ H2 x y v u _ I2 r1 r2 q2) fun d s3 ⟨z, H3, I3, r3, k, e, q3⟩ => ?_)) hm
  subst e
  cases r3
  refine wpAny_truthy_bool ?_
  cases k with
  | false =>
    obtain ⟨k', e', q'⟩ := q3
    cases e'
    exact ite_ff ⟨H3, I3, q'⟩
  | true =>
    refine ite_tt (test_last (thn (hc pins s3 σ H3 _ I3 q3) fun w' s4 ⟨z', H4, I4, r4, q4⟩ => thn (ho' pins s4 σ H4 y z' u w' _ I4 r2 r4 q4) fun d' s5 ⟨z2, H5, I5, r5, k2, e2, q5⟩ => ?_))
    subst e2
    cases r5
    exact wpAny_truthy_bool ⟨H5, I5, q5⟩
def TruV (K : PySem.W.Frag) (x : V) (H : Hp) (k : Bool) : Prop :=
  match x with
  | .non => k = false
  | .bl b => k = b
  | .int i => k = (i != 0)
  | .str y => y.length ≤ sizeLine ∧ k = ((y.length : Int) != 0)
  | .byt y => y.size ≤ sizeLine ∧ k = ((y.size : Int) != 0)
  | .ref p => (∃ xs, SqL K H p xs ∧ k = !xs.isEmpty) ∨ (∃ xs, SqT K H p xs ∧ k = !xs.isEmpty) ∨ ∃ kvs, H p = some (.dK kvs) ∧ k = !kvs.isEmpty
  | _ => False
theorem isEmpty_kv {κ : Type} {kvs : List (κ × V)} {vs : List (κ × Value)} (r : KV kvs vs) : (!vs.isEmpty) = !kvs.isEmpty := by
  cases r <;> rfl
theorem isEmpty_of {xs : List V} {its : List Value} (r : Vals xs its) : (!its.toArray.isEmpty) = !xs.isEmpty := by
  cases r <;> simp
theorem line63 : (sizeLine : Nat) < 2 ^ 63 := by rw [sizeLine_eq]; decide
theorem tru_ok : TruR X (fun x H Q => ∃ k, TruV X.K x H k ∧ Q k H) := by
  intro pins s σ H x v Q I rx h
  obtain ⟨k, e, q⟩ := h
  have hl := line63
  have hs : sizeLine = 16777216 := sizeLine_eq
  cases x with
  | non =>
    cases rx
    have e' : k = false := e
    subst e'
    exact truthy_none ⟨H, I, q⟩
  | bl b =>
    cases rx
    have e' : k = b := e
    subst e'
    exact wpAny_truthy_bool ⟨H, I, q⟩
  | int i =>
    obtain ⟨t, rfl⟩ := rx
    have e' : k = (i != 0) := e
    subst e'
    exact PySem.P.truthy_int ⟨H, I, q⟩
  | str y =>
    obtain ⟨t, rfl⟩ := rx
    obtain ⟨hy, e'⟩ : y.length ≤ sizeLine ∧ k = ((y.length : Int) != 0) := e
    subst e'
    exact PySem.P.truthy_str (by omega) ⟨H, I.tok _, q⟩
  | byt y =>
    obtain ⟨t, rfl⟩ := rx
    obtain ⟨hy, e'⟩ : y.size ≤ sizeLine ∧ k = ((y.size : Int) != 0) := e
    subst e'
    exact PySem.W.truthy_bytes (by omega) ⟨H, I.tok _, q⟩
  | ref p =>
    cases rx
    have e' : (∃ xs, SqL X.K H p xs ∧ k = !xs.isEmpty) ∨ (∃ xs, SqT X.K H p xs ∧ k = !xs.isEmpty) ∨ ∃ kvs, H p = some (.dK kvs) ∧ k = !kvs.isEmpty := e
    rcases e' with ⟨xs, hx, e'⟩ | ⟨xs, hx, e'⟩ | ⟨kvs, hx, e'⟩
    · subst e'
      obtain ⟨its, r, pl, hz⟩ := I.list hx
      have hlen := r.length
      exact wpAny_truthy_list pl.isList (by simp only [List.size_toArray]; omega) ⟨H, I.tok _, by rw [isEmpty_of r]; exact q⟩
    · subst e'
      obtain ⟨its, r, pl, hz⟩ := I.tuple hx
      have hlen := r.length
      exact truthy_tuple pl (by simp only [List.size_toArray]; omega) ⟨H, I.tok _, by rw [isEmpty_of r]; exact q⟩
    · subst e'
      obtain ⟨hz, hS, vs, r, m⟩ : kvs.length ≤ sizeLine ∧ (p == sysModules) = false ∧ ∃ vs, KV kvs vs ∧ s.heap.DictOf (mixKind X.prog X.w) p vs := I.hok p _ hx
      have hlen : kvs.length = vs.length := Paired.length r
      exact wpAny_truthy_dict hS m (by omega) ⟨H, I.tok _, by rw [isEmpty_kv r]; exact q⟩
  | _ => exact (show False from e).elim
theorem pt_truth (ha : PE X a ta) (he : ∀ whole, isTrue a X.env whole = (do let v ← whole; standAt a.pos; holding [v] (truthy v))) :
    PT X a (fun σ H Q => ta σ H fun x H' => ∃ k, TruV X.K x H' k ∧ Q k H') := by
  intro pins s σ H Q I h
  exact isTrue_plain (thn (ha pins s σ H _ I h) fun v s1 ⟨x, H1, I1, r1, q1⟩ => tru_ok pins s1 σ H1 x v Q I1 r1 q1) (he _)
theorem vals1 {x : V} {us : List Value} (r : Vals [x] us) : ∃ u, us = [u] ∧ RelV x u := by
  cases r with
  | cons r1 r2 => cases r2; exact ⟨_, rfl, r1⟩
theorem vals2 {x y : V} {us : List Value} (r : Vals [x, y] us) : ∃ u w', us = [u, w'] ∧ RelV x u ∧ RelV y w' := by
  cases r with
  | cons r1 r2 =>
    cases r2 with
    | cons r3 r4 => cases r4; exact ⟨_, _, rfl, r1, r3⟩
theorem call_max2 (hc : X.calm = true) : CallR X (.builtin "max") (fun xs H Q => ∃ i j, xs = [.int i, .int j] ∧ Q (.int (if j > i then j else i)) H) := by
  intro pins s σ H xs us Q I r h
  obtain ⟨i, j, rfl, q⟩ := h
  obtain ⟨u, w', rfl, ⟨t, rfl⟩, ⟨t', rfl⟩⟩ := vals2 r
  refine max_two_ints (I.ok.hd hc) fun h' tk k => ⟨_, H, I.kept k, ?_, q⟩
  by_cases hj : j > i
  · rw [if_pos hj, if_pos hj]; exact ⟨_, rfl⟩
  · rw [if_neg hj, if_neg hj]; exact ⟨_, rfl⟩
theorem call_min2 (hc : X.calm = true) : CallR X (.builtin "min") (fun xs H Q => ∃ i j, xs = [.int i, .int j] ∧ Q (.int (if j < i then j else i)) H) := by
  intro pins s σ H xs us Q I r h
  obtain ⟨i, j, rfl, q⟩ := h
  obtain ⟨u, w', rfl, ⟨t, rfl⟩, ⟨t', rfl⟩⟩ := vals2 r
  refine min_two_ints (I.ok.hd hc) fun h' tk k => ⟨_, H, I.kept k, ?_, q⟩
  by_cases hj : j < i
  · rw [if_pos hj, if_pos hj]; exact ⟨_, rfl⟩
  · rw [if_neg hj, if_neg hj]; exact ⟨_, rfl⟩
theorem call_int1 : CallR X (.type "int") (fun xs H Q => (∃ i, xs = [.int i] ∧ Q (.int i) H) ∨ ∃ k, xs = [.bl k] ∧ Q (.int (if k then 1 else 0)) H) := by
  intro pins s σ H xs us Q I r h
  rcases h with ⟨i, rfl, q⟩ | ⟨k, rfl, q⟩
  · obtain ⟨u, rfl, t, rfl⟩ := vals1 r
    exact call_int_int ⟨.int i, H, I, ⟨_, rfl⟩, q⟩
  · obtain ⟨u, rfl, r1⟩ := vals1 r
    cases r1
    exact call_int_bool ⟨.int (if k then 1 else 0), H, I.tok _, ⟨_, rfl⟩, q⟩
end
end L2
namespace L2
open PySem PySem.Spec PyProof.Rows
section
variable {prog : Program} {w : World} {A : Around} {E : Value → Shared → Prop} {s : Shared} {K : PySem.W.Frag} {x dx C f : Addr} {mA : Str → Option Value} {name : Str} {v : Value}
end
section
variable {P : Program} {w : World} {H H' : Hp} {h h' : Heap} {a C dx : Addr} {fs fs' : List (Str × V)}
end
structure Cls (K : PySem.W.Frag) (C : Addr) : Prop where
  pg : PySem.W.plainGet K C Str.empty = true
  hd : PySem.W.hasDictIn K C = true
  po : PySem.W.plainOver K C = true
  sa : PySem.W.findIn K (.ref C) "__setattr__" = some (some (.builtin "object.__setattr__"))
section
variable {X : Cx} {pins : List (Addr × Obj)} {σ : St} {H : Hp} {s : Shared} {a C dx : Addr} {fs : List (Str × V)} {f : Str} {v : V} {A : Around} {E : Value → Shared → Prop}
end
section
variable {X : Cx} {o e value : Expr} {f : Str} {pos pos' tpos : Pos} {ta tv : TE}
end
section
variable {X : Cx} {pins : List (Addr × Obj)} {σ : St} {H : Hp} {s : Shared} {A : Around} {E : Value → Shared → Prop} {Q : Value → Shared → Prop} {c : Value} {b : Bool}
inductive TyOf (K : PySem.W.Frag) (H : Hp) : V → Value → Prop where
  | non : TyOf K H .non (.type "NoneType")
  | bl (x : Bool) : TyOf K H (.bl x) (.type "bool")
  | int (i : Int) : TyOf K H (.int i) (.type "int")
  | str (x : Str) : TyOf K H (.str x) (.type "str")
  | flt (x : UInt64) : TyOf K H (.flt x) (.type "float")
  | lst {a : Addr} {xs : List V} (e : H a = some (.lst xs)) : TyOf K H (.ref a) (.type "list")
  | frz {a : Addr} {o : Obj} {xs : List V} (e : H a = some (.frz o (.lst xs))) : TyOf K H (.ref a) (.type "list")
  | tup {a : Addr} {xs : List V} (e : H a = some (.tup xs)) : TyOf K H (.ref a) (.type "tuple")
  | dK {a : Addr} {kvs : List (Key × V)} (e : H a = some (.dK kvs)) : TyOf K H (.ref a) (.type "dict")
  | dT {a : Addr} {kvs : List (List Key × V)} (e : H a = some (.dT kvs)) : TyOf K H (.ref a) (.type "dict")
  | ins {a C dx : Addr} {fs : List (Str × V)} (e : H a = some (.ins C dx fs)) (cl : Cls K C) (ha : PySem.W.findIn K (.ref C) "__class__" = some (some (.builtin "object.__class__")))
      (hn : PySem.W.specialIn K (.builtin "object.__class__") "__get__" = some (some (.builtin "getset_descriptor.__get__"))) (htk : PySem.W.takesIn K (.builtin "object.__class__") = some true)
      (hm : PySem.W.mroIn K C (.type "object") = some true) : TyOf K H (.ref a) (.ref C)
end
end L2
namespace L2
open PySem PySem.Spec PyProof.Rows
structure Room (k : Nat) (A : Around) : Prop where
  hd : A.handled = none
  dp : A.depth + 3 * k + 5 < recursionLimit
  un : A.units + 16 * k + 200 < cLine
  gd : A.guards = some [] := by rfl
theorem Room.mono {j k : Nat} {A : Around} (r : Room k A) (h : j ≤ k) : Room j A := ⟨r.hd, by have := r.dp; omega, by have := r.un; omega, r.gd⟩
theorem Room.deeper {k : Nat} {A : Around} (r : Room (k + 1) A) (env : Env) : Room k (A.deeper env) :=
  ⟨r.hd, by have := r.dp; show A.depth + 1 + 3 * k + 5 < _; omega, by have := r.un; show A.units + 3 + 16 * k + 200 < _; omega, r.gd⟩
theorem Room.depth {k : Nat} {A : Around} (r : Room k A) : A.depth < recursionLimit := by have := r.dp; omega
theorem Room.units {k : Nat} {A : Around} (r : Room k A) : A.units + 64 < cLine := by have := r.un; omega
def tNil : TA := fun _ H Q => Q [] H
def tCons (ta : TE) (tr : TA) : TA := fun σ H Q => ta σ H fun x H1 => tr σ H1 fun xs H2 => Q (x :: xs) H2
section
variable {X : Cx} {e : Expr} {es : List Expr} {te : TE} {t : TA} {pos : Pos}
theorem pa_nil : PA X [] tNil := fun _ _ _ _ H Q I h => Calls.spliced_nil ⟨[], H, I, .nil, h⟩
theorem pa_cons (ha : PE X e te) (hr : PA X es t) (hs : starEach (e :: es) X.env = (false, eval e X.env) :: starEach es X.env := by rfl) : PA X (e :: es) (tCons te t) := by
  intro pos pins s σ H Q I h
  rw [hs]
  show wpAny _ _ (spliced ((false, eval e X.env) :: backTo pos (starEach es X.env))) _ _ s
  refine Calls.spliced_cons (thn (ha pins s σ H _ I h) fun u s1 ⟨x, H1, I1, r1, q1⟩ => ?_)
  exact thn (hr pos pins s1 σ H1 _ I1 q1) fun us s2 ⟨xs, H2, I2, r2, q2⟩ => ⟨x :: xs, H2, I2, .cons r1 r2, q2⟩
def tTup (t : TA) : TE := fun σ H Q => t σ H fun xs H1 => xs.length ≤ sizeLine ∧ ∀ p, H1 p = none → Q (.ref p) (upd H1 p (.tup xs))
def tLst (t : TA) : TE := fun σ H Q => t σ H fun xs H1 => xs.length ≤ sizeLine ∧ ∀ p, H1 p = none → Q (.ref p) (upd H1 p (.lst xs))
theorem pe_tup {x1} (h : PA X es t) : PE X (.Tuple es x1 pos) (tTup t) := by
  intro pins s σ H Q I hq
  refine wpAny_Tuple_spliced (thn (h pos pins s σ H _ I hq) fun us s1 ⟨xs, H1, I1, r, z, q⟩ => ⟨by rw [← r.length]; exact z, ?_⟩)
  have hf : H1 s1.heap.objs.size = none := I1.hok.fresh (Nat.le_refl _)
  refine ⟨.ref s1.heap.objs.size, upd H1 s1.heap.objs.size (.tup xs), I1.laid (t' := s1.toks) (fun b u e => Heap.get?_push_of_some _ e) (Nat.le_refl _) ?_, rfl, q _ hf⟩
  exact ⟨z, us, r, ⟨_, Heap.get?_push_size _ rfl, rfl, _, rfl⟩⟩
theorem pe_lst (h : PA X es t) : PE X (.List es pos) (tLst t) := by
  intro pins s σ H Q I hq
  refine wpAny_List_spliced (thn (h pos pins s σ H _ I hq) fun us s1 ⟨xs, H1, I1, r, z, q⟩ => ⟨by rw [← r.length]; exact z, ?_⟩)
  have hf : H1 s1.heap.objs.size = none := I1.hok.fresh (Nat.le_refl _)
  refine ⟨.ref s1.heap.objs.size, upd H1 s1.heap.objs.size (.lst xs), I1.laid (t' := s1.toks) (fun b u e => Heap.get?_push_of_some _ e) (Nat.le_refl _) ?_, rfl, q _ hf⟩
  exact ⟨z, us, 0, r, Heap.get?_push_size _ rfl⟩
end
abbrev Sp := List V → Hp → VK → XK → Prop
abbrev CXT := List Env → Hp → Shared → XK → Value → Shared → Prop
structure Env0 (P : Program) (w : World) (K : PySem.W.Frag) (mg : Str → Option Value) (base : Heap) (A : Around) (outer : List Env) (s : Shared) (H : Hp) : Prop where
  frames : A.frames = some outer
  mod : Mod K mg base
  bs : ∀ b o, base.get? b = some o → s.heap.get? b = some o ∧ H b = none
  bsz : base.objs.size ≤ s.heap.objs.size
  funs : s.heap.FunFrames base outer
  frf : ∀ b ∈ frs outer, H b = none
  hok : HOk P w H s.heap
  bare : AllBare s.gens
def CE (outer : List Env) (P : Program) (w : World) (H : Hp) (s : Shared) (Q : VK) (u : Value) (s' : Shared) : Prop :=
  ∃ v H', s'.os = s.os ∧ AllBare s'.gens ∧ Un (frs outer) [] H H' s.heap s'.heap ∧ HOk P w H' s'.heap ∧ RelV v u ∧ Q v H'
def CR (CX : CXT) (outer : List Env) (P : Program) (w : World) (H : Hp) (s : Shared) (Q : VK) (E : XK) (r : Result) (s' : Shared) : Prop :=
  match r with
  | .ok (.ret u) => CE outer P w H s Q u s'
  | .ok _ => False
  | .error e => CX outer H s E e s'
structure FnOk (P : Program) (w : World) (K : PySem.W.Frag) (mg : Str → Option Value) (base : Heap) (CX : CXT) (k : Nat) (f : Addr) (fd : FuncData) (ps : List Str) (sp : Sp) : Prop where
  len : ∀ vs H Q E, sp vs H Q E → vs.length = ps.length
  run : ∀ (A : Around) (outer : List Env) (s : Shared) (H : Hp) (args : Args) (us : List Value) (vs : List V) (Q : VK) (E : XK), Room k A → Env0 P w K mg base A outer s H → BindsTo s fd args (ps.zip us) → Vals vs us → sp vs H Q E →
    codeAny (model P w) A (.call (.ref f) args) (CR CX outer P w H s Q E) s
section
variable {X : Cx} {pins : List (Addr × Obj)} {σ : St} {H : Hp} {s s' : Shared}
theorem Inv.env0 (I : Inv X pins σ H s) : Env0 X.prog X.w X.K X.mg X.base X.A X.stack s H :=
  ⟨I.ok.frames, I.ok.mod, I.bs, Nat.le_trans I.ok.bsz I.sz, I.stack, I.stkFree, I.hok, I.bare⟩
theorem Inv.after {Q : VK} {u : Value} (I : Inv X pins σ H s) (h : CE X.stack X.prog X.w H s Q u s') : EP X pins σ Q u s' := by
  obtain ⟨v, H', os, bare, un, hok, r, q⟩ := h
  obtain ⟨hh, g, d, t, os'⟩ := s'
  obtain rfl : os' = s.os := os
  exact ⟨v, H', I.call (h' := hh) (g' := g) (d' := d) (t' := t) (ch := []) un hok bare (fun b z => absurd z (by simp)), r, q⟩
end
def tCall (sp : Sp) (dvs : List V) (E : XK) (t : TA) : TE := fun σ H Q => t σ H fun vs H1 => sp (vs ++ dvs) H1 Q E
def Binds (K : PySem.W.Frag) (fd : FuncData) (ps : List Str) (ds : List Value) : Prop :=
  ∀ (s : Shared) (us : List Value), K.In s.heap → (us ++ ds).length = ps.length → BindsTo s fd ⟨us, []⟩ (ps.zip (us ++ ds))
theorem Binds.all {K : PySem.W.Frag} {fd : FuncData} {ps : List Str} (h : ∀ us : List Value, us.length = ps.length → bindArgs fd ⟨us, []⟩ = pure (ps.zip us)) : Binds K fd ps [] := fun s us _ hl => by
  rw [List.append_nil] at hl ⊢
  exact .of_eq (h us hl)
def Passes (CX : CXT) (X : Cx) (E : XK) : Prop := ∀ (pins : List (Addr × Obj)) (σ : St) (H : Hp) (s : Shared) (e : Value) (s' : Shared), Inv X pins σ H s → CX X.stack H s E e s' → X.xe e s'
section
variable {X : Cx} {CX : CXT} {k : Nat} {f C : Addr} {fd : FuncData} {ps : List Str} {sp : Sp} {dvs : List V} {ds : List Value} {E : XK} {x m : Str} {p pos apos : Pos} {e o : Expr} {es : List Expr} {ta : TE} {t : TA}
theorem run_fn {pins : List (Addr × Obj)} {σ : St} {H : Hp} {s : Shared} {Q : VK} {us : List Value} {vs : List V} (F : FnOk X.prog X.w X.K X.mg X.base CX k f fd ps sp) (hr : Room k X.A) (hb : Binds X.K fd ps ds) (hd : Vals dvs ds) (hx : Passes CX X E)
    (I : Inv X pins σ H s) (r : Vals vs us) (h : sp (vs ++ dvs) H Q E) : wpAny (model X.prog X.w) X.A (call (.ref f) us) (EP X pins σ Q) X.xe s := by
  have r2 : Vals (vs ++ dvs) (us ++ ds) := r.append hd
  have hl : (us ++ ds).length = ps.length := by rw [← r2.length]; exact F.len _ _ _ _ h
  refine wpAny_call (codeAny_mono (F.run X.A X.stack s H ⟨us, []⟩ (us ++ ds) (vs ++ dvs) Q E hr I.env0 (hb s us I.kIn hl) r2 h) fun r s' hq => ?_)
  cases r with
  | error e => exact hx pins σ H s e s' I hq
  | ok fl =>
    cases fl with
    | ret u => exact I.after hq
    | next => exact False.elim hq
    | brk => exact False.elim hq
    | cont => exact False.elim hq
theorem pe_call (F : FnOk X.prog X.w X.K X.mg X.base CX k f fd ps sp) (hr : Room k X.A) (hg : Gl X x) (hm : X.mg x = some (.ref f)) (hk : PySem.W.keepIn X.K (.ref f) = true) (hb : Binds X.K fd ps ds) (hd : Vals dvs ds) (hx : Passes CX X E)
    (ha : PA X (e :: es) t) (hdb : (x == ("__debug__" : Str)) = false := by decide) (he : starEach (e :: es) X.env = (false, eval e X.env) :: starEach es X.env := by rfl) (hpl : (backTo pos (starEach es X.env)).any (·.1) = false := by rfl) :
    PE X (.Call (.Name x p) (e :: es) [] pos) (tCall sp dvs E t) := by
  intro pins s σ H Q I h
  refine wpAny_Call_Name_kw (ld_glob I hg hm ?_ hdb)
  refine PySem.W.callWith_K (h₀ := X.base) I.ok.mod.kin hk (thn (ha pos pins s σ H _ I h) fun us s1 ⟨vs, H1, I1, r, q⟩ => ⟨I1.kIn, ?_⟩) he hpl
  exact run_fn F hr hb hd hx I1 r q
end
def PK (X : Cx) (kws : List Keyword) (t : TA) : Prop :=
  ∀ (pos : Pos) (pins : List (Addr × Obj)) (s : Shared) (σ : St) (H : Hp) (Q : List V → Hp → Prop), Inv X pins σ H s → t σ H Q → wpAny (model X.prog X.w) X.A (evalAll ((backToKw pos (keywordEach kws X.env)).map (·.2))) (AP X pins σ Q) X.xe s
section
variable {X : Cx} {CX : CXT} {k : Nat} {f C : Addr} {fd : FuncData} {ps ks : List Str} {sp : Sp} {E : XK} {x m : Str} {p pos apos kpos : Pos} {e o : Expr} {es : List Expr} {kws : List Keyword} {te ta : TE} {t tk : TA} {nm : Option Str}
theorem pk_nil : PK X [] tNil := fun _ _ _ _ H Q I h => wpAny_evalAll_nil ⟨[], H, I, .nil, h⟩
theorem pk_cons (ha : PE X e te) (hr : PK X kws t) : PK X (⟨nm, e, kpos⟩ :: kws) (tCons te t) := by
  intro pos pins s σ H Q I h
  show wpAny _ _ (evalAll ((do let v ← eval e X.env; standAt pos; pure v) :: (backToKw pos (keywordEach kws X.env)).map (·.2))) _ _ s
  refine wpAny_evalAll_cons (wpAny_bind (thn (ha pins s σ H _ I h) fun u s1 ⟨x, H1, I1, r1, q1⟩ => wpAny_bind (wpAny_standAt (wpAny_pure ?_))))
  exact thn (hr pos pins s1 σ H1 _ I1 q1) fun us s2 ⟨xs, H2, I2, r2, q2⟩ => ⟨x :: xs, H2, I2, .cons r1 r2, q2⟩
variable {g : List Value → List Value → List Value} {gV : List V → List V → List V}
end
structure FnScope (N P : List Str) (sc : Scope) : Prop where
  kind : sc.kind = .function
  co : sc.isCoroutine = false
  gen : sc.isGenerator = false
  nd : N.Nodup
  pre : N.take P.length = P
  par : ∀ x ∈ P, sc.names.lookup x = some .local ∨ sc.names.lookup x = some .cell
  nofree : ∀ y ∈ sc.names, y.2 ≠ .free
theorem bindL_out {kindOf : Str → Option NameKind} {x : Str} : ∀ {binds : List (Str × Value)} {m : Str → Option Value}, (∀ v, (x, v) ∉ binds) → bindL kindOf binds m x = m x
  | [], _, _ => rfl
  | (n, v) :: r, m, h => by
    unfold bindL
    rw [bindL_out fun w hw => h w (List.mem_cons_of_mem _ hw)]
    split
    · have : x ≠ n := by rintro rfl; exact h v List.mem_cons_self
      simp [this]
    · rfl
theorem bindC_out {kindOf : Str → Option NameKind} {x : Str} : ∀ {binds : List (Str × Value)} {m : Str → Option Value}, (∀ v, (x, v) ∉ binds) → bindC kindOf binds m x = m x
  | [], _, _ => rfl
  | (n, v) :: r, m, h => by
    unfold bindC
    rw [bindC_out fun w hw => h w (List.mem_cons_of_mem _ hw)]
    split
    · rfl
    · have : x ≠ n := by rintro rfl; exact h v List.mem_cons_self
      simp [this]
theorem bindL_get {kindOf : Str → Option NameKind} {x : Str} {v : Value} : ∀ {P : List Str} {vs : List Value} {i : Nat} {m : Str → Option Value}, P.Nodup → P[i]? = some x → vs[i]? = some v → kindOf x = some .local →
    bindL kindOf (P.zip vs) m x = some v
  | [], _, _, _, _, h, _, _ => by simp at h
  | _ :: _, [], _, _, _, _, h, _ => by simp at h
  | p :: P, w :: vs, 0, m, nd, h1, h2, hk => by
    simp at h1 h2; subst h1; subst h2
    show bindL kindOf ((p, w) :: P.zip vs) m p = _
    unfold bindL
    rw [bindL_out fun v hv => (List.nodup_cons.mp nd).1 (List.of_mem_zip hv).1, if_pos hk]
    simp
  | p :: P, w :: vs, i + 1, m, nd, h1, h2, hk => by
    show bindL kindOf ((p, w) :: P.zip vs) m x = _
    unfold bindL
    exact bindL_get (i := i) (List.nodup_cons.mp nd).2 (by simpa using h1) (by simpa using h2) hk
theorem bindC_get {kindOf : Str → Option NameKind} {x : Str} {v : Value} : ∀ {P : List Str} {vs : List Value} {i : Nat} {m : Str → Option Value}, P.Nodup → P[i]? = some x → vs[i]? = some v → kindOf x ≠ some .local →
    bindC kindOf (P.zip vs) m x = some v
  | [], _, _, _, _, h, _, _ => by simp at h
  | _ :: _, [], _, _, _, _, h, _ => by simp at h
  | p :: P, w :: vs, 0, m, nd, h1, h2, hk => by
    simp at h1 h2; subst h1; subst h2
    show bindC kindOf ((p, w) :: P.zip vs) m p = _
    unfold bindC
    rw [bindC_out fun v hv => (List.nodup_cons.mp nd).1 (List.of_mem_zip hv).1, if_neg hk]
    simp
  | p :: P, w :: vs, i + 1, m, nd, h1, h2, hk => by
    show bindC kindOf ((p, w) :: P.zip vs) m x = _
    unfold bindC
    exact bindC_get (i := i) (List.nodup_cons.mp nd).2 (by simpa using h1) (by simpa using h2) hk
def start (N : List Str) (vs : List V) : St := vs.map some ++ List.replicate (N.length - vs.length) none
def cxOf (CX : CXT) (P : Program) (w : World) (K : PySem.W.Frag) (mg : Str → Option Value) (base : Heap) (N : List Str) (qual : Str) (scope : Scope) (f : Addr) (cd : Value) (A : Around) (outer : List Env) (s : Shared) (H : Hp) (E : XK) : Cx where
  prog := P
  w := w
  K := K
  mg := mg
  base := base
  A := A.deeper (envOfC qual scope s.heap.objs.size f cd)
  N := N
  s₀ := s
  H₀ := H
  env := envOfC qual scope s.heap.objs.size f cd
  outer := outer
  stack := envOfC qual scope s.heap.objs.size f cd :: outer
  ex := []
  calm := true
  fn := fun _ => true
  pn := []
  xe := fun e s' => wpAny (model P w) (A.deeper (envOfC qual scope s.heap.objs.size f cd)) (leaving (envOfC qual scope s.heap.objs.size f cd) e) (fun _ s'' => CX outer H s E e s'') (fun e' s'' => CX outer H s E e' s'') s'
theorem cell_has {sc : Scope} {n : Nat} {x : Str} (h : sc.names.lookup x = some .cell) : ∃ c, (cellsFrom n sc.names []).lookup x = some c := by
  have q := PySem.W.cellsFrom_some sc.names n [] (.inl h)
  exact Option.isSome_iff_exists.mp q
theorem inv_start {CX : CXT} {P : Program} {w : World} {K : PySem.W.Frag} {mg : Str → Option Value} {base : Heap} {N ps : List Str} {qual : Str} {scope : Scope} {f : Addr} {cd : Value} {A : Around} {outer : List Env} {s s1 : Shared} {H : Hp} {E : XK} {us : List Value} {vs : List V}
    (S : FnScope N ps scope) (hd : A.handled = none) (e0 : Env0 P w K mg base A outer s H) (hl : vs.length = ps.length) (r : Vals vs us)
    (x : InCallC s s.heap.objs.size (bindL (envOfC qual scope s.heap.objs.size f cd).kindOf (ps.zip us) fun _ => none) (cellsFrom (s.heap.objs.size + 1) scope.names []) (bindC (envOfC qual scope s.heap.objs.size f cd).kindOf (ps.zip us) fun _ => none) s1) :
    Inv (cxOf CX P w K mg base N qual scope f cd A outer s H E) [] (start N vs) H s1 := by
  have hpl : ps.length ≤ N.length := by have := congrArg List.length S.pre; rw [List.length_take] at this; omega
  obtain ⟨h1, tk, rfl, hk⟩ := x.done
  have noA : ∀ b : Addr, b ∉ (cxOf CX P w K mg base N qual scope f cd A outer s H E).ex := fun b z => absurd (show b ∈ ([] : List Addr) from z) (by simp)
  refine ⟨⟨e0.mod, S.kind, rfl, rfl, Nat.le_refl _, fun y z c h1 h2 => ?_, fun y hy => ?_, fun y c _ h => ?_, fun _ => hd, Around.frames_deeper e0.frames, .inr ⟨rfl, rfl⟩, fun b z => absurd z (noA b), e0.bs, e0.bsz, fun b _ _ => noA b, fun b z => absurd z (noA b), e0.funs, e0.frf⟩,
    rfl, e0.bare, Un.kept hk, ⟨_, x.toInCall.ns, fun i y v h1 h2 h3 => ?_⟩, fun y c h => ⟨_, x.cell y c h⟩, e0.hok.fresh (Nat.le_refl _), fun y c h => ?_, fun p hp => absurd (show p ∈ ([] : List (Addr × Obj)) from hp) (by simp), e0.hok.kept hk, ?_⟩
  · exact name_of_addr x.apart (PySem.mem_of_lookup h1) (PySem.mem_of_lookup h2)
  · have hy : scope.names.lookup y = some .cell ∨ scope.names.lookup y = some .free := hy
    rcases hy with hy | hy
    · exact cell_has hy
    · exact absurd rfl (S.nofree _ (PySem.mem_of_lookup hy))
  · exact Nat.le_of_lt (x.above y c (PySem.mem_of_lookup h))
  · have hi : i < vs.length := by
      unfold start at h2
      by_cases hi : i < vs.length
      · exact hi
      · rw [List.getElem?_append_right (by simpa using hi)] at h2
        rw [List.getElem?_replicate] at h2
        split at h2 <;> cases h2
    have ha : vs[i]? = some v := by
      unfold start at h2
      rw [List.getElem?_append_left (by simpa using hi), List.getElem?_map] at h2
      cases e : vs[i]? with
      | none => rw [e] at h2; cases h2
      | some a => rw [e] at h2; cases h2; rfl
    obtain ⟨u, hu, rv⟩ := r.get ha
    have hp : ps[i]? = some y := by
      rw [← S.pre, List.getElem?_take_of_lt (by omega)]; exact h1
    have ndP : ps.Nodup := by rw [← S.pre]; exact S.nd.sublist (List.take_sublist _ _)
    refine ⟨u, rv, ?_⟩
    rcases S.par y (List.mem_of_getElem? hp) with k | k
    · exact .inl ⟨k, bindL_get ndP hp hu k⟩
    · obtain ⟨c, e⟩ := cell_has (n := s.heap.objs.size + 1) k
      refine .inr ⟨.inl k, c, e, ?_⟩
      have q := x.cell y c e
      rw [bindC_get ndP hp hu (by show scope.names.lookup y ≠ _; rw [k]; decide)] at q
      exact q
  · exact e0.hok.fresh (Nat.le_of_lt (x.above y c (PySem.mem_of_lookup h)))
  · unfold start
    show _ = N.length
    rw [List.length_append, List.length_map, List.length_replicate]
    omega
theorem fn_of {CX : CXT} {P : Program} {w : World} {K : PySem.W.Frag} {mg : Str → Option Value} {base : Heap} {k : Nat} {f : Addr} {name qual : Str} {params : Arguments} {body : List Stmt} {scope : Scope} {dV kV doc pm cdv ct oc : Value} {an od : Option Addr}
    {osl : Array (Option Value)} {N ps : List Str} {sp : Sp} (lk : K.lookup f = some ⟨oc, od, .func (PySem.W.fnOf name qual params body scope dV kV doc pm an cdv ct), osl⟩) (hcd : PySem.W.codeIn K cdv qual = true) (S : FnScope N ps scope)
    (len : ∀ vs H Q E, sp vs H Q E → vs.length = ps.length)
    (hbody : ∀ (A : Around) (outer : List Env) (s : Shared) (H : Hp) (vs : List V) (Q : VK) (E : XK), Room k (A.deeper (envOfC qual scope s.heap.objs.size f cdv)) → sp vs H Q E →
      ∃ t, PSs (cxOf CX P w K mg base N qual scope f cdv A outer s H E) body t ∧ t { nx := fun _ H' => Q .non H', rt := Q } (start N vs) H) :
    FnOk P w K mg base CX (k + 1) f (PySem.W.fnOf name qual params body scope dV kV doc pm an cdv ct) ps sp := by
  refine ⟨len, fun A outer s H args us vs Q E hr e0 hb r hsp => ?_⟩
  have hl := len _ _ _ _ hsp
  have KX : K.In s.heap := e0.mod.kin.keeps fun b o e => (e0.bs b o e).1
  have lim : s.heap.NoLimit := e0.mod.nolimit.keeps fun b o e => (e0.bs b o e).1
  have hkind : ∀ y ∈ ps.zip us, scope.names.lookup y.1 = some .local ∨ (scope.names.lookup y.1 = some .cell ∧ ((cellsFrom (s.heap.objs.size + 1) scope.names []).lookup y.1).isSome = true) := fun ⟨n, v⟩ hy => by
    rcases S.par n (List.of_mem_zip hy).1 with q | q
    · exact .inl q
    · exact .inr ⟨q, PySem.W.cellsFrom_some _ _ _ (.inl q)⟩
  refine codeAny_call_function hr.depth (KX _ _ lk) rfl S.co S.gen rfl (PySem.W.codeRec_of KX hcd) (hb _ _ _ _ ?_)
  refine wpAny_newFunctionEnv_cells S.kind hkind fun env he s1 x => ?_
  subst he
  refine ⟨lim.keeps x.toInCall.keep, codeAny_func ?_⟩
  obtain ⟨t, ht, hq⟩ := hbody A outer s H vs Q E (hr.deeper _) hsp
  have I : Inv (cxOf CX P w K mg base N qual scope f cdv A outer s H E) [] (start N vs) H s1 := inv_start S hr.hd e0 hl r x
  refine wpAny_mono (ht [] s1 (start N vs) H _ I hq) (fun fl s' hs => ?_) fun e s' hs => hs
  have fin : ∀ {σ' : St} {H' : Hp} {v : V} {u : Value}, Inv (cxOf CX P w K mg base N qual scope f cdv A outer s H E) [] σ' H' s' → RelV v u → Q v H' → CE outer P w H s Q u s' :=
    fun {σ' H' v u} J rv q => ⟨v, H', J.os, J.bare, J.base, J.hok, rv, q⟩
  cases fl with
  | ret u =>
    obtain ⟨v, σ', H', J, rv, q⟩ := hs
    exact fin J rv q
  | next =>
    obtain ⟨σ', H', J, q⟩ := hs
    exact fin (v := V.non) (u := Value.none) J rfl q
  | brk =>
    obtain ⟨_, _, _, q⟩ := hs
    exact False.elim q
  | cont =>
    obtain ⟨_, _, _, q⟩ := hs
    exact False.elim q
end L2
namespace L2
open PySem PySem.Spec PyProof.Rows
section
variable {X : Cx} {x : Str} {p pos : Pos} {e : Expr} {es : List Expr} {t : TA} {id T : String} {r : List V → Hp → VK → Prop}
def tCB (r : List V → Hp → VK → Prop) (t : TA) : TE := fun σ H Q => t σ H fun vs H1 => r vs H1 Q
theorem pe_callB (hc : CallR X (.builtin id) r) (hg : Gl X x) (hm : X.mg x = none) (hv : bootBuiltins x = some (.builtin id)) (ha : PA X (e :: es) t) (hn : x ≠ "__name__" := by decide) (hdb : (x == ("__debug__" : Str)) = false := by decide)
    (he : starEach (e :: es) X.env = (false, eval e X.env) :: starEach es X.env := by rfl) (hpl : (backTo pos (starEach es X.env)).any (·.1) = false := by rfl) : PE X (.Call (.Name x p) (e :: es) [] pos) (tCB r t) := by
  intro pins s σ H Q I h
  refine wpAny_Call_Name_kw (ld_blt I hg hm hv ?_ hn hdb)
  exact PyProof.Rows.callWith_builtin1 (thn (ha pos pins s σ H _ I h) fun us s1 ⟨vs, H1, I1, r1, q1⟩ => hc pins s1 σ H1 vs us Q I1 r1 q1) he hpl
theorem pe_callTy (hc : CallR X (.type T) r) (hg : Gl X x) (hm : X.mg x = none) (hv : bootBuiltins x = some (.type T)) (ha : PA X (e :: es) t) (hn : x ≠ "__name__" := by decide) (hdb : (x == ("__debug__" : Str)) = false := by decide)
    (he : starEach (e :: es) X.env = (false, eval e X.env) :: starEach es X.env := by rfl) (hpl : (backTo pos (starEach es X.env)).any (·.1) = false := by rfl) : PE X (.Call (.Name x p) (e :: es) [] pos) (tCB r t) := by
  intro pins s σ H Q I h
  refine wpAny_Call_Name_kw (ld_blt I hg hm hv ?_ hn hdb)
  exact PyProof.Rows.callWith_type1 (thn (ha pos pins s σ H _ I h) fun us s1 ⟨vs, H1, I1, r1, q1⟩ => hc pins s1 σ H1 vs us Q I1 r1 q1) he hpl
end
end L2
namespace L2
open PySem PySem.Spec PyProof.Rows
section
variable {κ : Type} [DecidableEq κ]
def valV (kvs : List (κ × V)) (k : κ) : Option V := (kvs.find? fun kv => decide (kv.1 = k)).map (·.2)
theorem valV_pos {p : κ × V} {r : List (κ × V)} {k : κ} (e : p.1 = k) : valV (p :: r) k = some p.2 := by simp [valV, List.find?_cons, e]
theorem valV_neg {p : κ × V} {r : List (κ × V)} {k : κ} (e : ¬ p.1 = k) : valV (p :: r) k = valV r k := by simp [valV, List.find?_cons, e]
theorem RelO.isSome_eq {o : Option V} {u : Option Value} (r : RelO o u) : o.isSome = u.isSome := by
  cases o with
  | none => cases u with
    | none => rfl
    | some _ => exact (show False from r).elim
  | some _ => cases u with
    | none => exact (show False from r).elim
    | some _ => rfl
theorem KV.val {kvs : List (κ × V)} {vs : List (κ × Value)} (r : KV kvs vs) (k : κ) : RelO (valV kvs k) (valueAt vs k) := by
  unfold KV at r
  induction r with
  | nil => exact True.intro
  | @cons p q ps qs h t ih =>
    obtain ⟨h1, h2⟩ := h
    by_cases e : p.1 = k
    · have e' : q.1 = k := h1.symm.trans e
      have b : valueAt (q :: qs) k = some q.2 := by simp [valueAt, List.find?_cons, e']
      rw [valV_pos e, b]; exact h2
    · have e' : ¬ q.1 = k := fun z => e (h1.trans z)
      have b : valueAt (q :: qs) k = valueAt qs k := by simp [valueAt, List.find?_cons, e']
      rw [valV_neg e, b]; exact ih
theorem KV.length {kvs : List (κ × V)} {vs : List (κ × Value)} (r : KV kvs vs) : kvs.length = vs.length := Paired.length r
end
theorem kV_is {P : Program} {w : World} {k : Key} {u : Value} (r : RelV (kV k) u) : (mixKind P w).is k u = true := by
  cases k with
  | inl i => obtain ⟨t, e⟩ := (show ∃ t, u = Value.int i t from r); subst e; exact mixKind_int P w i t
  | inr x => obtain ⟨t, e⟩ := (show ∃ t, u = Value.str x t from r); subst e; exact mixKind_str P w x t
theorem items_are {P : Program} {w : World} : ∀ {ks : List Key} {us : List Value}, Vals (ks.map kV) us → ItemsAre (mixKind P w) ks us
  | [], _, r => by rw [List.map_nil] at r; cases r; exact .nil
  | k :: ks, _, r => by
    rw [List.map_cons] at r
    cases r with
    | cons h t => exact .cons (kV_is h) (items_are t)
abbrev KT (H : Hp) : List (List Key × V) → List (List Key × Addr × Value) → Prop := Paired fun p q => p.1 = q.1 ∧ H q.2.1 = some (.tup (p.1.map kV)) ∧ RelV p.2 q.2.2
theorem KT.val {H : Hp} {kvs : List (List Key × V)} {xs : List (List Key × Addr × Value)} (r : KT H kvs xs) (k : List Key) : RelO (valV kvs k) ((atKey xs k).map (·.2)) := by
  induction r with
  | nil => exact True.intro
  | @cons p q ps qs h t ih =>
    obtain ⟨h1, _, h2⟩ := h
    by_cases e : p.1 = k
    · have e' : q.1 = k := h1.symm.trans e
      have b : atKey (q :: qs) k = some q.2 := by simp [atKey, List.find?_cons, e']
      rw [valV_pos e, b]; exact h2
    · have e' : ¬ q.1 = k := fun z => e (h1.trans z)
      have b : atKey (q :: qs) k = atKey qs k := by simp [atKey, List.find?_cons, e']
      rw [valV_neg e, b]; exact ih
section
variable {P : Program} {w : World} {H : Hp} {h : Heap} {a : Addr}
theorem rd_of {u : HO} (ok : HOk P w H h) (e : Rd H a u) : ObjOk P w H h a u := e.ok ok
theorem dk_rd {kvs : List (Key × V)} (ok : HOk P w H h) (e : Rd H a (.dK kvs)) : kvs.length ≤ sizeLine ∧ (a == sysModules) = false ∧ ∃ vs, KV kvs vs ∧ h.DictOf (mixKind P w) a vs :=
  show ObjOk P w H h a (.dK kvs) from rd_of ok e
theorem key_of {ks : List Key} (ok : HOk P w H h) (e : H a = some (.tup (ks.map kV))) : (tupleKind (mixKind P w)).is h ks a := by
  obtain ⟨_, its, r, o, h1, h2, n, h3⟩ := (show ObjOk P w H h a (.tup (ks.map kV)) from ok a _ e)
  exact ⟨o, its.toArray, n, h1, h2, h3, by simpa using items_are r⟩
theorem dt_rd {kvs : List (List Key × V)} (ok : HOk P w H h) (e : Rd H a (.dT kvs)) : kvs.length ≤ sizeLine ∧ (a == sysModules) = false ∧
    ∃ xs, KT H kvs xs ∧ h.DictOfH (tupleKind (mixKind P w)) a xs := by
  obtain ⟨z, y, xs, r, o, es, ep, h1, h2, h3, h4, h5⟩ := (show ObjOk P w H h a (.dT kvs) from rd_of ok e)
  refine ⟨z, y, xs, r, o, es, ep, h1, h2, h3, h4, fun x hx => ?_, h5⟩
  have all : ∀ {l : List (List Key × V)} {m : List (List Key × Addr × Value)}, KT H l m → ∀ x ∈ m, (tupleKind (mixKind P w)).is h x.1 x.2.1 := by
    intro l m q
    induction q with
    | nil => intro x hx; exact nomatch hx
    | @cons p q ps qs hq t ih =>
      intro x hx
      rcases List.mem_cons.mp hx with e | hx
      · subst e
        exact key_of ok (by rw [← hq.1]; exact hq.2.1)
      · exact ih x hx
  exact all r x hx
end
def DGet (H : Hp) (a : Addr) (y : V) (r : Option V) : Prop :=
  (∃ kvs k, Rd H a (.dK kvs) ∧ y = kV k ∧ r = valV kvs k) ∨ ∃ kvs k b, Rd H a (.dT kvs) ∧ y = .ref b ∧ H b = some (.tup (k.map kV)) ∧ r = valV kvs k
theorem DGet.k {H : Hp} {a : Addr} {kvs : List (Key × V)} {k : Key} (e : H a = some (.dK kvs)) : DGet H a (kV k) (valV kvs k) := .inl ⟨kvs, k, .inl e, rfl, rfl⟩
theorem DGet.t {H : Hp} {a b : Addr} {kvs : List (List Key × V)} {k : List Key} (e : H a = some (.dT kvs)) (eb : H b = some (.tup (k.map kV))) : DGet H a (.ref b) (valV kvs k) := .inr ⟨kvs, k, b, .inl e, rfl, eb, rfl⟩
section
variable {X : Cx} {pins : List (Addr × Obj)} {σ : St} {H : Hp} {s : Shared} {a : Addr} {y v : V} {u r : Value} {o : Option V} {A : Around} {E : Value → Shared → Prop}
theorem d_in {Q : Value → Shared → Prop} (hu : A.units + 1 < cLine) (I : Inv X pins σ H s) (g : DGet H a y o) (ry : RelV y u) (h : ∀ s', Inv X pins σ H s' → Q (.bool o.isSome) s') :
    wpAny (model X.prog X.w) A (compareOp .In u (.ref a)) Q E s := by
  rcases g with ⟨kvs, k, e, ey, l⟩ | ⟨kvs, k, b, e, ey, eb, l⟩
  · subst ey
    obtain ⟨z, hd, vs, rel, dd⟩ := dk_rd I.hok e
    refine wpAny_in_of (kV_is ry) hd dd.mapOf ?_
    rw [← (rel.val k).isSome_eq, ← l]
    exact h _ (I.tok _)
  · subst ey
    cases (show u = Value.ref b from ry)
    obtain ⟨z, hd, xs, rel, dd⟩ := dt_rd I.hok e
    refine wpAny_in_heap (tupleKind_room_in1 hu) (key_of I.hok eb) hd dd ?_
    have q := (rel.val k).isSome_eq
    rw [Option.isSome_map] at q
    rw [← q, ← l]
    exact h _ (I.tok _)
theorem d_notIn {Q : Value → Shared → Prop} (hu : A.units + 1 < cLine) (I : Inv X pins σ H s) (g : DGet H a y o) (ry : RelV y u) (h : ∀ s', Inv X pins σ H s' → Q (.bool (!o.isSome)) s') :
    wpAny (model X.prog X.w) A (compareOp .NotIn u (.ref a)) Q E s := by
  rcases g with ⟨kvs, k, e, ey, l⟩ | ⟨kvs, k, b, e, ey, eb, l⟩
  · subst ey
    obtain ⟨z, hd, vs, rel, dd⟩ := dk_rd I.hok e
    refine wpAny_notIn_of (kV_is ry) hd dd.mapOf ?_
    rw [← (rel.val k).isSome_eq, ← l]
    exact h _ (I.tok _)
  · subst ey
    cases (show u = Value.ref b from ry)
    obtain ⟨z, hd, xs, rel, dd⟩ := dt_rd I.hok e
    refine wpAny_notIn_heap (tupleKind_room_in1 hu) (key_of I.hok eb) hd dd ?_
    have q := (rel.val k).isSome_eq
    rw [Option.isSome_map] at q
    rw [← q, ← l]
    exact h _ (I.tok _)
end
section
variable {X : Cx} {pins : List (Addr × Obj)} {σ : St} {H : Hp} {s : Shared} {a : Addr} {kvs : List (Key × V)} {k : Key} {u : Value} {A : Around} {E : Value → Shared → Prop}
theorem d_len {Q : Value → Shared → Prop} (I : Inv X pins σ H s) (e : Rd H a (.dK kvs)) (h : ∀ t s', Inv X pins σ H s' → Q (.int kvs.length t) s') : wpAny (model X.prog X.w) A (call (.builtin "len") [.ref a]) Q E s := by
  obtain ⟨z, hd, vs, rel, dd⟩ := dk_rd I.hok e
  refine call_len_dict hd dd (by rw [← rel.length]; rw [sizeLine_eq] at z; omega) ?_
  rw [← rel.length]
  exact h _ _ (I.tok _)
end
section
variable {X : Cx} {o i e value : Expr} {pos pos' tpos : Pos} {td ty tv : TE}
end
section
variable {X : Cx} {pos : Pos}
end
section
variable {X : Cx} {pins : List (Addr × Obj)} {σ : St} {H : Hp} {s : Shared} {a : Addr} {y d : V} {u r : Value} {o : Option V} {A : Around} {E : Value → Shared → Prop}
end
section
variable {X : Cx} {o e f : Expr} {apos cpos : Pos} {td ty tx : TE}
end
section
variable {X : Cx} {pins : List (Addr × Obj)} {σ : St} {H : Hp} {s : Shared} {a : Addr} {kvs : List (Key × V)} {A : Around} {E : Value → Shared → Prop}
end
section
variable {X : Cx} {pins : List (Addr × Obj)} {σ : St} {H : Hp} {s : Shared} {a : Addr} {y : V} {u : Value} {A : Around} {E : Value → Shared → Prop}
end
end L2
namespace HT
open PySem PyProof.Rows
section
open PySem.SeqAt
open PySem.AutoSeq1 (wpAny_loadPart')
open PySem.MeetsSeq PySem.MeetsSeq2 PySem.MeetsSeq3
end
section
variable {prog : Program} {w : World} {A : Around} {E : Value → Shared → Prop} {s : Shared}
theorem cat_tup {t b : Addr} {vs ws : List Value} {Q : Value → Shared → Prop} (ht : IsTup s.heap t vs.toArray) (hb : IsTup s.heap b ws.toArray) (hv : vs ≠ [])
    (h1 : ws = [] → Q (.ref t) s) (h2 : ws ≠ [] → Q (.ref s.heap.objs.size) { s with heap := s.heap.push { cls := .type "tuple", data := .seq (vs ++ ws).toArray } })
    (hsz : vs.length + ws.length ≤ sizeLine) : wpAny (model prog w) A (binaryOp .Add (.ref t) (.ref b)) Q E s := by
  obtain ⟨⟨cls, dd, data, sl⟩, ho, hc, n, hd⟩ := id ht
  obtain ⟨⟨cls2, dd2, data2, sl2⟩, ho2, hc2, n2, hd2⟩ := id hb
  simp only at hc hd hc2 hd2
  subst hc hd hc2 hd2
  have e : vs.toArray ++ ws.toArray = (vs ++ ws).toArray := by simp
  by_cases hw : ws = []
  · exact concat_meets ⟨_, ho, rfl⟩ ⟨_, ho2, rfl⟩ noFill_tuple_add seq_tuple_add PySem.F.slot_tuple_add PySem.F.entry_tuple_add (PySem.F.args_tuple_add_2 _ _)
      (tuple_addW1 t b vs.toArray ws.toArray n n2 dd dd2 sl sl2 (by simpa using hv) (by simp [hw])) ⟨ho, ho2, h1 hw⟩
  · refine concat_meets ⟨_, ho, rfl⟩ ⟨_, ho2, rfl⟩ noFill_tuple_add seq_tuple_add PySem.F.slot_tuple_add PySem.F.entry_tuple_add (PySem.F.args_tuple_add_2 _ _)
      (tuple_addW2 t b vs.toArray ws.toArray n n2 dd dd2 sl sl2 (by simpa using hv) (by simpa using hw) (by rw [List.size_toArray, List.size_toArray]; exact hsz)) ⟨ho, ho2, ?_⟩
    rw [e]
    exact h2 hw
def sIx (n d : Nat) : Option Int → Nat
  | none => d
  | some v => if v < 0 then (v + (n : Int)).toNat else min v.toNat n
theorem sIx_le (n d : Nat) (hd : d ≤ n) (o : Option Int) : sIx n d o ≤ n := by
  cases o with
  | none => exact hd
  | some v =>
    show (if v < 0 then (v + (n : Int)).toNat else min v.toNat n) ≤ n
    by_cases hv : v < 0
    · rw [if_pos hv]; omega
    · rw [if_neg hv]; exact Nat.min_le_right _ _
theorem clip_eq (v : Int) (n d : Nat) : (if v < 0 then max (v + (n : Int)) 0 else min v (n : Int)) = ((sIx n d (some v) : Nat) : Int) := by
  show (if v < 0 then max (v + (n : Int)) 0 else min v (n : Int)) = (((if v < 0 then (v + (n : Int)).toNat else min v.toNat n) : Nat) : Int)
  by_cases hv : v < 0
  · simp only [if_pos hv]; omega
  · simp only [if_neg hv]; omega
theorem adjust_gen (lo hi : Option Int) (n : Nat) : Builtin.Slice.sliceAdjust lo hi 1 (n : Int) = (((sIx n 0 lo : Nat) : Int), ((sIx n n hi : Nat) : Int)) := by
  have h1 : ¬ ((1 : Int) < 0) := by omega
  unfold Builtin.Slice.sliceAdjust
  simp only [h1, if_false]
  refine Prod.ext ?_ ?_
  · cases lo with
    | none => rfl
    | some v => exact clip_eq v n 0
  · cases hi with
    | none => rfl
    | some v => exact clip_eq v n n
theorem places_gen (i j : Nat) : Builtin.Slice.slicePlaces (i : Int) (j : Int) 1 = j - i := by
  unfold Builtin.Slice.slicePlaces
  have h1 : (1 : Int) > 0 := by omega
  simp only [h1, if_true, Int.ediv_one]
  split <;> omega
theorem slicePart_ {v : Value} {o : Option Int} {Q : Option Int → Shared → Prop} (p : IsPart v o) (h : Q o s) : wpAny (model prog w) A (Builtin.Slice.slicePartIndex v) Q E s := by
  cases p with
  | none => exact slicePart_none h
  | int i t => exact slicePart_int h
theorem sliceApplied_gen {sl : Addr} {vl vu : Value} {lo hi : Option Int} {n : Nat} {Q : Int × Int × Nat → Shared → Prop} (hs : s.heap.IsSliceOf sl vl vu .none) (pl : IsPart vl lo) (pu : IsPart vu hi)
    (h : Q (((sIx n 0 lo : Nat) : Int), 1, sIx n n hi - sIx n 0 lo) s) : wpAny (model prog w) A (Builtin.Slice.sliceApplied (.ref sl) (pure (n : Int))) Q E s := by
  obtain ⟨os, hos, hcs, hds⟩ := id hs
  unfold Builtin.Slice.sliceApplied Builtin.Slice.sliceFields
  refine wpAny_bind (wpAny_bind (wpAny_field hos hds (x := vl) rfl (wpAny_bind (wpAny_field hos hds (x := vu) rfl (wpAny_bind (wpAny_field hos hds (x := .none) rfl (wpAny_pure ?_)))))))
  refine wpAny_bind (slicePart_none ?_)
  show wpAny _ _ (if ((1 : Int) == 0) = true then _ else _) _ _ s
  rw [if_neg (by decide)]
  refine wpAny_bind (slicePart_ pl (wpAny_bind (slicePart_ pu (wpAny_bind (wpAny_pure ?_)))))
  show wpAny _ _ (match Builtin.Slice.sliceAdjust lo hi 1 (n : Int) with | (lo, hi) => pure (lo, (1 : Int), Builtin.Slice.slicePlaces lo hi 1)) _ _ s
  rw [adjust_gen lo hi n]
  show wpAny _ _ (pure (((sIx n 0 lo : Nat) : Int), (1 : Int), Builtin.Slice.slicePlaces ((sIx n 0 lo : Nat) : Int) ((sIx n n hi : Nat) : Int) 1)) _ _ s
  rw [places_gen]
  exact wpAny_pure h
theorem pick_gen (xs : Array Value) (i k : Nat) : ((List.range k).filterMap fun (m : Nat) => xs[((i : Int) + (m : Int) * 1).toNat]?).toArray = ((xs.toList.drop i).take k).toArray := by
  have e : (fun (m : Nat) => xs[((i : Int) + (m : Int) * 1).toNat]?) = fun m => xs[i + m]? := by
    funext m
    have : ((i : Int) + (m : Int) * 1).toNat = i + m := by omega
    rw [this]
  rw [e]
  have := pick_run xs i k
  rw [List.filterMap_map] at this
  have e2 : ((fun x => xs[x]?) ∘ fun x => i + x) = fun m => xs[i + m]? := rfl
  rw [e2] at this
  rw [this]
theorem getItem_tuple_cut {t sl : Addr} {items : Array Value} {vl vu : Value} {lo hi : Option Int} {Q : Value → Shared → Prop} (ht : IsTup s.heap t items) (hs : s.heap.IsSliceOf sl vl vu .none) (pl : IsPart vl lo) (pu : IsPart vu hi)
    (hw : ¬ (sIx items.size 0 lo = 0 ∧ sIx items.size items.size hi = items.size))
    (h : Q (.ref s.heap.objs.size) { s with heap := s.heap.push { cls := .type "tuple", data := .seq ((items.toList.drop (sIx items.size 0 lo)).take (sIx items.size items.size hi - sIx items.size 0 lo)).toArray } })
    (hsz : items.size ≤ sizeLine) : wpAny (model prog w) A (getItem (.ref t) (.ref sl)) Q E s := by
  have htake : sizeOk (.seq ((items.toList.drop (sIx items.size 0 lo)).take (sIx items.size items.size hi - sIx items.size 0 lo)).toArray) := by
    show ((items.toList.drop (sIx items.size 0 lo)).take (sIx items.size items.size hi - sIx items.size 0 lo)).toArray.size ≤ sizeLine
    rw [List.size_toArray, List.length_take, List.length_drop, Array.length_toList]
    omega
  have hj : sIx items.size items.size hi ≤ items.size := sIx_le _ _ (Nat.le_refl _) hi
  obtain ⟨os, hos, hcs, hds⟩ := id hs
  have hTs : s.TypeIs (.ref sl) "slice" := ⟨os, hos, hcs⟩
  unfold getItem
  try with_reducible refine wpAny_holding ?_
  first | refine wpAny_bind (wpAny_pure ?_) | skip
  refine wpAny_bind (wpAny_sequenceKey ht.typeIs (by decide) ?_)
  refine wpAny_bind (wpAny_callSpecial?_slot (name := Str.ofString "__getitem__") ht.typeIs PyProof.Rows.slot_tuple_getitem
    (wpAny_call_entry PyProof.Rows.slot_tuple_getitem ht.typeIs entry_tuple_getitem ?_ (args_tuple_getitem _ _)))
  show wpAny _ _ (Builtin.Tuple.tupleItemsOf (.ref t) >>= _) _ _ s
  refine wpAny_bind (tupleItemsOf_ ht ?_)
  refine wpAny_bind (wpAny_typeOf hTs ?_)
  rw [if_pos (by decide)]
  refine wpAny_bind (sliceApplied_gen hs pl pu ?_)
  have hno : ¬ ((((sIx items.size 0 lo : Nat) : Int) == 0 && (1 : Int) == 1 && (sIx items.size items.size hi - sIx items.size 0 lo) == items.size) = true) := by
    intro q
    rw [Bool.and_eq_true, Bool.and_eq_true] at q
    have q1 : ((sIx items.size 0 lo : Nat) : Int) = 0 := eq_of_beq q.1.1
    have q2 : sIx items.size items.size hi - sIx items.size 0 lo = items.size := eq_of_beq q.2
    exact hw ⟨by omega, by omega⟩
  show wpAny _ _ (if (((sIx items.size 0 lo : Nat) : Int) == 0 && (1 : Int) == 1 && (sIx items.size items.size hi - sIx items.size 0 lo) == items.size) = true then _ else _) _ _ s
  rw [if_neg hno, pick_gen]
  first
    | exact wpAny_bind (m := Builtin.Tuple.tupleExact _) (wpAny_newObj_type (wpAny_pure ⟨_, rfl, wpAny_pure h⟩) htake)
    | exact wpAny_bind (m := Builtin.Tuple.tupleExact _) (wpAny_newObj_type (wpAny_bind (wpAny_pure (wpAny_pure ⟨_, rfl, wpAny_pure h⟩))) htake)
    | exact wpAny_bind (wpAny_bind (m := Builtin.Tuple.tupleExact _) (wpAny_newObj_type (wpAny_pure (wpAny_pure ⟨_, rfl, wpAny_pure h⟩)) htake))
    | exact wpAny_bind (wpAny_bind (m := Builtin.Tuple.tupleExact _) (wpAny_newObj_type (wpAny_pure ⟨_, rfl, wpAny_pure h⟩) htake))
end
end HT
namespace L2
open PySem PySem.Spec PyProof.Rows
abbrev TO := St → Hp → (Option Int → Hp → Prop) → Prop
def PO (X : Cx) (e : Option Expr) (t : TO) : Prop :=
  ∀ (pins : List (Addr × Obj)) (s : Shared) (σ : St) (H : Hp) (Q : Option Int → Hp → Prop), Inv X pins σ H s → t σ H Q →
    wpAny (model X.prog X.w) X.A (evalPart e X.env) (fun u s' => ∃ o H', Inv X pins σ H' s' ∧ IsPart u o ∧ Q o H') X.xe s
def tNoPart : TO := fun _ H Q => Q none H
def tPart (t : TE) : TO := fun σ H Q => t σ H fun x H1 => ∃ i, x = .int i ∧ Q (some i) H1
theorem intsAre_of {ns : List Int} : ∀ {us : List Value}, Vals (ns.map V.int) us → IntsAre us ns := by
  induction ns with
  | nil => intro us r; rw [List.map_nil] at r; cases r; exact .nil
  | cons n ns ih =>
    intro us r
    rw [List.map_cons] at r
    cases r with
    | cons r1 r2 =>
      obtain ⟨t, e⟩ := r1
      subst e
      exact .cons n t (ih r2)
section
variable {X : Cx} {e : Expr} {te : TE} {lo hi : Option Expr} {tl th : TO} {pos p2 : Pos}
theorem po_none : PO X none tNoPart := by
  intro pins s σ H Q I h
  rw [evalPart_none]
  exact wpAny_pure ⟨none, H, I, .none, h⟩
theorem po_some (h : PE X e te) : PO X (some e) (tPart te) := by
  intro pins s σ H Q I hw
  rw [evalPart_some]
  refine thn (h pins s σ H _ I hw) fun u s1 ⟨x, H1, I1, r1, q1⟩ => ?_
  obtain ⟨i, rfl, q⟩ := q1
  obtain ⟨t, rfl⟩ := r1
  exact ⟨some i, H1, I1, .int i t, q⟩
def SlR (X : Cx) (r : V → Option Int → Option Int → Hp → VK → Prop) : Prop :=
  ∀ (pins : List (Addr × Obj)) (s : Shared) (σ : St) (H : Hp) (x : V) (v vl vu : Value) (lo hi : Option Int) (sl : Addr) (Q : VK), Inv X pins σ H s → RelV x v → s.heap.IsSliceOf sl vl vu .none → IsPart vl lo → IsPart vu hi → r x lo hi H Q →
    ∃ T id, typeLookup (.type T) "__getitem__" = pure (some (.builtin id)) ∧ s.TypeIs v T ∧ wpAny (model X.prog X.w) X.A (getItem v (.ref sl)) (EP X pins σ Q) X.xe s
theorem SlR.or {r r' : V → Option Int → Option Int → Hp → VK → Prop} (h : SlR X r) (h' : SlR X r') : SlR X (fun x lo hi H Q => r x lo hi H Q ∨ r' x lo hi H Q) := by
  intro pins s σ H x v vl vu lo hi sl Q I rx hs pl pu q
  rcases q with q | q
  · exact h pins s σ H x v vl vu lo hi sl Q I rx hs pl pu q
  · exact h' pins s σ H x v vl vu lo hi sl Q I rx hs pl pu q
def tSl (r : V → Option Int → Option Int → Hp → VK → Prop) (te : TE) (tl th : TO) : TE := fun σ H Q => te σ H fun x H1 => tl σ H1 fun l H2 => th σ H2 fun u H3 => r x l u H3 Q
theorem pe_slice {r : V → Option Int → Option Int → Hp → VK → Prop} (hr : SlR X r) (he : PE X e te) (hl : PO X lo tl) (hu : PO X hi th) : PE X (.Subscript e (.Slice lo hi none p2) pos) (tSl r te tl th) := by
  intro pins s σ H Q I h
  refine Subscript_ (thn (he pins s σ H _ I h) fun v s1 ⟨x, H1, I1, r1, q1⟩ => ?_)
  refine wpAny_Slice (thn (hl pins s1 σ H1 _ I1 q1) fun vl s2 ⟨l, H2, I2, pl, q2⟩ => thn (hu pins s2 σ H2 _ I2 q2) fun vu s3 ⟨u, H3, I3, pu, q3⟩ => ?_)
  rw [evalPart_none]
  refine wpAny_pure ?_
  have I4 : Inv X pins σ H3 { s3 with heap := s3.heap.push { cls := .type "slice", data := .fields #[vl, vu, .none] } } := I3.kept (t' := s3.toks) fun b ob q => Heap.get?_push_of_some _ q
  obtain ⟨T, id, hT, ht, hg⟩ := hr pins { s3 with heap := s3.heap.push { cls := .type "slice", data := .fields #[vl, vu, .none] } } σ H3 x v vl vu l u s3.heap.objs.size Q I4 r1 (Heap.IsSliceOf.new ..) pl pu q3
  show wpAny (model X.prog X.w) X.A (subscriptTail e (.Slice lo hi none p2) v (.ref s3.heap.objs.size)) (EP X pins σ Q) X.xe { s3 with heap := s3.heap.push { cls := .type "slice", data := .fields #[vl, vu, .none] } }
  exact tail_any (ops := [.ref s3.heap.objs.size, v]) ht hT hg (by with_unfolding_all rfl)
def cutV (xs : List V) (lo hi : Option Int) : List V := (xs.drop (HT.sIx xs.length 0 lo)).take (HT.sIx xs.length xs.length hi - HT.sIx xs.length 0 lo)
theorem cutV_length (xs : List V) (lo hi : Option Int) : (cutV xs lo hi).length ≤ xs.length := by
  unfold cutV
  rw [List.length_take, List.length_drop]
  omega
def rSlT (K : PySem.W.Frag) : V → Option Int → Option Int → Hp → VK → Prop := fun x lo hi H Q => ∃ a xs, x = .ref a ∧ SqT K H a xs ∧
  ¬ (HT.sIx xs.length 0 lo = 0 ∧ HT.sIx xs.length xs.length hi = xs.length) ∧ ∀ p, H p = none → Q (.ref p) (upd H p (.tup (cutV xs lo hi)))
theorem sl_tup : SlR X (rSlT X.K) := by
  intro pins s σ H x v vl vu lo hi sl Q I rx hs pl pu h
  obtain ⟨a, xs, rfl, hx, hw, q⟩ := h
  cases rx
  obtain ⟨its, r, ht, hz⟩ := I.tuple hx
  have hlen : its.toArray.size = xs.length := by rw [List.size_toArray]; exact r.length.symm
  refine ⟨"tuple", _, PyProof.Rows.slot_tuple_getitem.lookup, ht.typeIs, ?_⟩
  refine HT.getItem_tuple_cut ht hs pl pu (by rw [hlen]; exact hw) ?_ (by rw [hlen]; exact hz)
  rw [hlen]
  refine ⟨.ref s.heap.objs.size, _, I.laid (t' := s.toks) (o := .tup (cutV xs lo hi)) (fun b ob q => Heap.get?_push_of_some _ q) (Nat.le_refl _) ?_, rfl, q _ (I.hok.fresh (Nat.le_refl _))⟩
  exact ⟨Nat.le_trans (cutV_length xs lo hi) hz, _, (r.drop (HT.sIx xs.length 0 lo)).take (HT.sIx xs.length xs.length hi - HT.sIx xs.length 0 lo), IsTup.new _ _⟩
def rCatT (K : PySem.W.Frag) : R2 := fun x y H Q => ∃ a b xs ys, x = .ref a ∧ y = .ref b ∧ SqT K H a xs ∧ SqT K H b ys ∧ xs ≠ [] ∧ xs.length + ys.length ≤ sizeLine ∧
  (ys = [] → Q (.ref a) H) ∧ (ys ≠ [] → ∀ p, H p = none → Q (.ref p) (upd H p (.tup (xs ++ ys))))
theorem Vals.nil_iff {xs : List V} {us : List Value} (r : Vals xs us) : us = [] ↔ xs = [] := by
  cases r with
  | nil => simp
  | cons _ _ => simp
theorem op_catT : OpR X (binaryOp .Add) (rCatT X.K) := by
  intro pins s σ H x y v u Q I rx ry h
  obtain ⟨a, b, xs, ys, rfl, rfl, ha, hb, hx, hz, q1, q2⟩ := h
  cases rx
  cases ry
  obtain ⟨its, r1, p1, _⟩ := I.tuple ha
  obtain ⟨its2, r2, p2, _⟩ := I.tuple hb
  refine HT.cat_tup p1 p2 (fun z => hx (r1.nil_iff.mp z)) (fun z => ⟨.ref a, H, I, rfl, q1 (r2.nil_iff.mp z)⟩) (fun z => ?_) (by rw [← r1.length, ← r2.length]; exact hz)
  refine ⟨.ref s.heap.objs.size, _, I.laid (t' := s.toks) (o := .tup (xs ++ ys)) (fun b ob q => Heap.get?_push_of_some _ q) (Nat.le_refl _) ?_, rfl, q2 (fun w => z (r2.nil_iff.mpr w)) _ (I.hok.fresh (Nat.le_refl _))⟩
  exact ⟨by rw [List.length_append]; exact hz, _, r1.append r2, IsTup.new _ _⟩
end
end L2
namespace L2
open PySem PySem.Spec PyProof.Rows
def ixN (n : Nat) (i : Int) : Option Nat := if 0 ≤ i then (if i < n then some i.toNat else none) else if -(n : Int) ≤ i then some (i + n).toNat else none
def atI {α : Type} (xs : List α) (i : Int) : Option α := (ixN xs.length i).bind fun j => xs[j]?
theorem ixN_seq {n : Nat} {i : Int} {j : Nat} (h : ixN n i = some j) : seqIndex? i n = some j ∧ j < n ∧ -(n : Int) ≤ i ∧ i < n := by
  unfold ixN at h
  by_cases h0 : 0 ≤ i
  · rw [if_pos h0] at h
    by_cases h1 : i < n
    · rw [if_pos h1] at h
      have e : i.toNat = j := Option.some.inj h
      exact ⟨by rw [seqIndex_of h0 h1, e], by omega, by omega, h1⟩
    · rw [if_neg h1] at h; cases h
  · rw [if_neg h0] at h
    by_cases h1 : -(n : Int) ≤ i
    · rw [if_pos h1] at h
      have e : (i + n).toNat = j := Option.some.inj h
      exact ⟨by rw [seqIndex_neg (by omega) h1, e], by omega, h1, by omega⟩
    · rw [if_neg h1] at h; cases h
theorem atI_get {α : Type} {xs : List α} {i : Int} {v : α} (h : atI xs i = some v) : ∃ j, seqIndex? i xs.length = some j ∧ xs[j]? = some v ∧ j < xs.length ∧ -(xs.length : Int) ≤ i ∧ i < xs.length := by
  unfold atI at h
  cases e : ixN xs.length i with
  | none => rw [e] at h; cases h
  | some j =>
    rw [e] at h
    obtain ⟨h1, h2, h3, h4⟩ := ixN_seq e
    exact ⟨j, h1, h, h2, h3, h4⟩
theorem atI_nat {α : Type} {xs : List α} {j : Nat} {v : α} (h : xs[j]? = some v) : atI xs (j : Int) = some v := by
  have hj : j < xs.length := (List.getElem?_eq_some_iff.mp h).1
  have e : ixN xs.length (j : Int) = some j := by
    unfold ixN
    rw [if_pos (by omega), if_pos (by omega)]; simp
  unfold atI; rw [e]; exact h
def PlainIx (b : Expr) : Prop := ∀ o i, subscripted b false o i = operate [o, i] (getItem o i)
def IxR (X : Cx) (r : R2) : Prop :=
  ∀ (value slice : Expr) (pins : List (Addr × Obj)) (s : Shared) (σ : St) (H : Hp) (x y : V) (v u : Value) (Q : VK), Inv X pins σ H s → RelV x v → RelV y u → r x y H Q →
    subscripted slice false v u = operate [v, u] (getItem v u) → wpAny (model X.prog X.w) X.A (subscriptTail value slice v u) (EP X pins σ Q) X.xe s
def MtR (X : Cx) (id : String) (r : V → List V → Hp → VK → Prop) : Prop :=
  ∀ (pins : List (Addr × Obj)) (s : Shared) (σ : St) (H : Hp) (x : V) (xs : List V) (v : Value) (us : List Value) (Q : VK), Inv X pins σ H s → RelV x v → Vals xs us → r x xs H Q →
    wpAny (model X.prog X.w) X.A (call (.builtin id) (v :: us)) (EP X pins σ Q) X.xe s
section
variable {X : Cx} {a b : Expr} {ta tb : TE} {pos : Pos}
theorem IxR.or {r r' : R2} (h : IxR X r) (h' : IxR X r') : IxR X (fun x y H Q => r x y H Q ∨ r' x y H Q) := by
  intro value slice pins s σ H x y v u Q I rx ry q hs
  rcases q with q | q
  · exact h value slice pins s σ H x y v u Q I rx ry q hs
  · exact h' value slice pins s σ H x y v u Q I rx ry q hs
theorem pe_ix {r : R2} (hr : IxR X r) (ha : PE X a ta) (hb : PE X b tb) (hs : PlainIx b) : PE X (.Subscript a b pos) (tOp r ta tb) := by
  intro pins s σ H Q I h
  exact Subscript_ (binT ha hb I h fun v u s2 x y H2 I2 rx ry q => hr a b pins s2 σ H2 x y v u Q I2 rx ry q (hs _ _))
def rIxL (K : PySem.W.Frag) : R2 := fun x y H Q => ∃ p xs i v, x = .ref p ∧ y = .int i ∧ SqL K H p xs ∧ atI xs i = some v ∧ Q v H
def rIxT (K : PySem.W.Frag) : R2 := fun x y H Q => ∃ p xs i v, x = .ref p ∧ y = .int i ∧ SqT K H p xs ∧ atI xs i = some v ∧ Q v H
def rIxS : R2 := fun x y H Q => ∃ z i c, x = .str z ∧ y = .int i ∧ z.length ≤ sizeLine ∧ atI z.cps.toList i = some c ∧ Q (.str ⟨#[c]⟩) H
theorem ix_list : IxR X (rIxL X.K) := by
  intro value slice pins s σ H x y v u Q I rx ry h hs
  obtain ⟨p, xs, i, z, rfl, rfl, hq, he, q⟩ := h
  cases rx
  obtain ⟨t, rfl⟩ := ry
  obtain ⟨its, r, pl, hz⟩ := I.list hq
  obtain ⟨j, h1, h2, h3, h4, h5⟩ := atI_get he
  obtain ⟨w, ew, rw'⟩ := r.get h2
  have hl := r.length
  have hn := line63
  have fin : EP X pins σ Q w s := ⟨z, H, I, rw', q⟩
  by_cases h0 : 0 ≤ i
  · have hj : i.toNat = j := by
      rw [seqIndex_of h0 h5] at h1
      exact Option.some.inj h1
    exact item_listR pl.isList h0 (by omega) (by rw [hj]; simpa using ew) fin hs
  · have hj : (i + (its.toArray.size : Int)).toNat = j := by
      rw [seqIndex_neg (by omega) h4] at h1
      rw [List.size_toArray, ← hl]
      exact Option.some.inj h1
    exact subscriptTail_builtinR (x := w) pl.isList.typeIs slot_list_getitem.lookup
      (wpAny_getItem_list_neg (Q := fun r s' => r = w ∧ EP X pins σ Q r s') pl.isList (by omega) (by rw [List.size_toArray] <;> omega) (by omega) (by rw [hj]; simpa using ew) ⟨rfl, fin⟩) hs
theorem ix_tup : IxR X (rIxT X.K) := by
  intro value slice pins s σ H x y v u Q I rx ry h hs
  obtain ⟨p, xs, i, z, rfl, rfl, hq, he, q⟩ := h
  cases rx
  obtain ⟨t, rfl⟩ := ry
  obtain ⟨its, r, pl, hz⟩ := I.tuple hq
  obtain ⟨j, h1, h2, h3, h4, h5⟩ := atI_get he
  obtain ⟨w, ew, rw'⟩ := r.get h2
  have hl := r.length
  have hn := line63
  have fin : EP X pins σ Q w s := ⟨z, H, I, rw', q⟩
  exact subscriptTail_builtinR (x := w) pl.typeIs slot_tuple_getitem.lookup
    (getItem_tuple (j := j) (Q := fun r s' => r = w ∧ EP X pins σ Q r s') pl (by omega) (by omega) (by rw [List.size_toArray, ← hl]; exact h1) (by simpa using ew) ⟨rfl, fin⟩) hs
theorem ix_str : IxR X rIxS := by
  intro value slice pins s σ H x y v u Q I rx ry h hs
  obtain ⟨z, i, c, rfl, rfl, hz, he, q⟩ := h
  obtain ⟨t, rfl⟩ := rx
  obtain ⟨t', rfl⟩ := ry
  obtain ⟨j, h1, h2, h3, h4, h5⟩ := atI_get he
  have hl : z.cps.toList.length = z.length := by simp [Str.length]
  rw [hl] at h1 h4 h5
  have hn := line63
  exact tail_any (typeIs_str s z t) slot_str_getitem.lookup (getItem_str (c := c) (by
    have e1 : decide (i < -(2 ^ 63 : Int)) = false := decide_eq_false (by omega)
    have e2 : decide (i ≥ 2 ^ 63) = false := decide_eq_false (by omega)
    rw [e1, e2, Bool.or_false]) (by rw [h1]; simpa using h2) ⟨.str ⟨#[c]⟩, H, I.tok _, ⟨_, rfl⟩, q⟩) hs
def rIx (K : PySem.W.Frag) : R2 := fun x y H Q => rIxL K x y H Q ∨ rIxT K x y H Q ∨ rIxS x y H Q
theorem ix_seq : IxR X (rIx X.K) := ix_list.or (ix_tup.or ix_str)
theorem mapSeq_set (its : List Value) (n j : Nat) (u : Value) : Obj.mapSeq (·.setIfInBounds j u) { cls := .type "list", data := .seq its.toArray n } = { cls := .type "list", data := .seq (its.set j u).toArray n } := by
  simp [Obj.mapSeq]
theorem Inv.lst {pins : List (Addr × Obj)} {σ : St} {H : Hp} {s : Shared} {p : Addr} {xs : List V} (I : Inv X pins σ H s) (h : H p = some (.lst xs)) :
    ∃ (its : List Value) (n : Nat), Vals xs its ∧ s.heap.get? p = some { cls := .type "list", data := .seq its.toArray n } ∧ xs.length ≤ sizeLine := by
  obtain ⟨z, its, n, r, e⟩ := I.hok p _ h
  exact ⟨its, n, r, e, z⟩
theorem Inv.lstUpd {pins : List (Addr × Obj)} {σ : St} {H : Hp} {s : Shared} {p : Addr} {xs ys : List V} {its its' : List Value} {n n' : Nat} {f : Obj → Obj} (I : Inv X pins σ H s) (h : H p = some (.lst xs))
    (ho : s.heap.get? p = some { cls := .type "list", data := .seq its.toArray n }) (hf : f { cls := .type "list", data := .seq its.toArray n } = { cls := .type "list", data := .seq its'.toArray n' }) (r : Vals ys its') (hz : ys.length ≤ sizeLine) (t : Nat) :
    Inv X pins σ (upd H p (.lst ys)) { s with heap := s.heap.update p f, toks := t } := by
  have e : (s.heap.update p f).get? p = some { cls := .type "list", data := .seq its'.toArray n' } := by
    rw [Heap.get?_update_self f ho (by rw [hf] <;> rfl), hf]
  refine I.write (x := p) (e := p) (by rw [h]; trivial) (.inl rfl) (fun b u hb q => (Heap.get?_update_other _ _ (Ne.symm hb)).trans q) ⟨_, e⟩ ?_
  exact ⟨hz, its', n', r, e⟩
def rSetL : V → V → V → Hp → (Hp → Prop) → Prop := fun o i v H Q => ∃ p xs k j, o = .ref p ∧ i = .int k ∧ H p = some (.lst xs) ∧ ixN xs.length k = some j ∧ Q (upd H p (.lst (xs.set j v)))
theorem set_list : PSet X rSetL := by
  intro pins s σ H o i v ov iv u Q I ro ri rv h
  obtain ⟨p, xs, k, j, rfl, rfl, hp, hj, q⟩ := h
  cases ro
  obtain ⟨t, rfl⟩ := ri
  obtain ⟨its, n, r, ho, hz⟩ := I.lst hp
  obtain ⟨h1, h2, h3, h4⟩ := ixN_seq hj
  have hl := r.length
  have hn := line63
  have I' : Inv X pins σ (upd H p (.lst (xs.set j v))) { s with heap := s.heap.update p (Obj.mapSeq (·.setIfInBounds j u)) } :=
    I.lstUpd hp ho (mapSeq_set its n j u) (r.set rv j) (by rw [List.length_set]; exact hz) s.toks
  by_cases h0 : 0 ≤ k
  · have hk : k.toNat = j := by
      rw [seqIndex_of h0 h4] at h1
      exact Option.some.inj h1
    exact PySem.W.ki_setAt ho h0 (by omega) (by rw [List.size_toArray, ← hl]; exact h4) (by rw [hk]; exact ⟨_, I', q⟩)
  · have hk : (k + (its.toArray.size : Int)).toNat = j := by
      rw [seqIndex_neg (by omega) h3] at h1
      rw [List.size_toArray, ← hl]
      exact Option.some.inj h1
    exact PySem.W.ki_setBack ho (by omega) (by rw [List.size_toArray, ← hl]; exact h3) (by omega) (by rw [hk]; exact ⟨_, I', q⟩)
theorem slice_bounds (lo hi : Option Int) (n : Nat) : (sliceBounds lo hi none n).1 = ((HT.sIx n 0 lo : Nat) : Int) ∧ (sliceBounds lo hi none n).2.1 = ((HT.sIx n n hi : Nat) : Int) ∧ (sliceBounds lo hi none n).2.2 = 1 := by
  refine ⟨?_, ?_, rfl⟩
  · cases lo with
    | none => simp [sliceBounds, HT.sIx]
    | some i =>
      simp only [sliceBounds, HT.sIx, Option.getD_none, show (1 : Int) > 0 by decide, if_true]
      by_cases h : i < 0
      · simp only [h, if_true] <;> omega
      · simp only [h, if_false] <;> omega
  · cases hi with
    | none => simp [sliceBounds, HT.sIx]
    | some i =>
      simp only [sliceBounds, HT.sIx, Option.getD_none, show (1 : Int) > 0 by decide, if_true]
      by_cases h : i < 0
      · simp only [h, if_true] <;> omega
      · simp only [h, if_false] <;> omega
theorem slicePick_cut (its : List Value) (lo hi : Option Int) : slicePick its.toArray lo hi none = ((its.drop (HT.sIx its.length 0 lo)).take (HT.sIx its.length its.length hi - HT.sIx its.length 0 lo)).toArray := by
  obtain ⟨h1, h2, h3⟩ := slice_bounds lo hi its.toArray.size
  unfold slicePick
  rw [h1, h2, h3]
  simp only [sliceRange_one, pick_run, List.size_toArray] <;> rfl
def rSlL (K : PySem.W.Frag) : V → Option Int → Option Int → Hp → VK → Prop := fun x lo hi H Q => ∃ a xs, x = .ref a ∧ SqL K H a xs ∧ ∀ p, H p = none → Q (.ref p) (upd H p (.lst (cutV xs lo hi)))
theorem sl_list : SlR X (rSlL X.K) := by
  intro pins s σ H x v vl vu lo hi sl Q I rx hs pl pu h
  obtain ⟨a, xs, rfl, hx, q⟩ := h
  cases rx
  obtain ⟨its, r, ht, hz⟩ := I.list hx
  have hlen := r.length
  refine ⟨"list", _, slot_list_getitem.lookup, ht.isList.typeIs, ?_⟩
  refine wpAny_getItem_list_slice ht.isList hs pl pu .none (by simp) ?_ (by rw [List.size_toArray] <;> omega)
  rw [slicePick_cut, ← hlen]
  refine ⟨.ref s.heap.objs.size, _, I.laid (t' := s.toks) (o := .lst (cutV xs lo hi)) (fun b ob q => Heap.get?_push_of_some _ q) (Nat.le_refl _) ?_, rfl, q _ (I.hok.fresh (Nat.le_refl _))⟩
  exact ⟨Nat.le_trans (cutV_length xs lo hi) hz, _, 0, (r.drop (HT.sIx xs.length 0 lo)).take (HT.sIx xs.length xs.length hi - HT.sIx xs.length 0 lo), Heap.get?_push_size _ rfl⟩
theorem call_len_seq : CallR X (.builtin "len") (fun xs H Q => ∃ p ys, xs = [.ref p] ∧ (SqL X.K H p ys ∨ SqT X.K H p ys) ∧ Q (.int ys.length) H) := by
  intro pins s σ H xs us Q I r h
  obtain ⟨p, ys, rfl, hq, q⟩ := h
  obtain ⟨u, rfl, rx⟩ := vals1 r
  cases rx
  have hn := line63
  rcases hq with hq | hq
  · obtain ⟨its, r', pl, hz⟩ := I.list hq
    have hlen := r'.length
    exact Calls.call_len_list pl.isList (by simp only [List.size_toArray] <;> omega) ⟨.int ys.length, H, I.tok _, ⟨s.toks + 1, by rw [List.size_toArray, hlen]⟩, q⟩
  · obtain ⟨its, r', pl, hz⟩ := I.tuple hq
    have hlen := r'.length
    exact len_tuple pl (by simp only [List.size_toArray] <;> omega) ⟨.int ys.length, H, I.tok _, ⟨s.toks + 1, by rw [List.size_toArray, hlen]⟩, q⟩
theorem CallR.or {f : Value} {r r' : List V → Hp → VK → Prop} (h : CallR X f r) (h' : CallR X f r') : CallR X f (fun xs H Q => r xs H Q ∨ r' xs H Q) := by
  intro pins s σ H xs us Q I rs q
  rcases q with q | q
  · exact h pins s σ H xs us Q I rs q
  · exact h' pins s σ H xs us Q I rs q
theorem call_list_of : CallR X (.type "list") (fun xs H Q => ∃ p ys, xs = [.ref p] ∧ (SqL X.K H p ys ∨ SqT X.K H p ys) ∧ ∀ l, H l = none → Q (.ref l) (upd H l (.lst ys))) := by
  intro pins s σ H xs us Q I r h
  obtain ⟨p, ys, rfl, hq, q⟩ := h
  obtain ⟨u, rfl, rx⟩ := vals1 r
  cases rx
  have fin : ∀ (its : List Value), Vals ys its → ys.length ≤ sizeLine → ∀ (h' : Heap) (c' : Nat), (∀ b o', s.heap.get? b = some o' → h'.get? b = some o') →
      h'.get? s.heap.objs.size = some { cls := .type "list", dict := none, data := .seq its.toArray c', slots := #[] } → EP X pins σ Q (.ref s.heap.objs.size) { s with heap := h' } := fun its r' hz h' c' kp e =>
    ⟨.ref s.heap.objs.size, _, I.laid (t' := s.toks) kp (Nat.le_refl _) (show ObjOk X.prog X.w _ h' _ (.lst ys) from ⟨hz, its, c', r', e⟩), rfl, q _ (I.hok.fresh (Nat.le_refl _))⟩
  rcases hq with hq | hq
  · obtain ⟨its, r', pl, hz⟩ := I.list hq
    have hlen := r'.length
    obtain ⟨o, ho, hc, n, hd⟩ := pl.isList
    exact call_list_seq p (.inl rfl) ho hc hd (fun h' c' kp e => fin its r' hz h' c' kp e) (by simp only [List.size_toArray] <;> omega)
  · obtain ⟨its, r', pl, hz⟩ := I.tuple hq
    have hlen := r'.length
    obtain ⟨o, ho, hc, n, hd⟩ := pl
    exact call_list_seq p (.inr rfl) ho hc hd (fun h' c' kp e => fin its r' hz h' c' kp e) (by simp only [List.size_toArray] <;> omega)
theorem call_tuple_of : CallR X (.type "tuple") (fun xs H Q => ∃ p ys, xs = [.ref p] ∧ ((SqL X.K H p ys ∧ ∀ l, H l = none → Q (.ref l) (upd H l (.tup ys))) ∨ (SqT X.K H p ys ∧ Q (.ref p) H))) := by
  intro pins s σ H xs us Q I r h
  obtain ⟨p, ys, rfl, h⟩ := h
  obtain ⟨u, rfl, rx⟩ := vals1 r
  cases rx
  rcases h with ⟨hq, q⟩ | ⟨hq, q⟩
  · obtain ⟨its, r', pl, hz⟩ := I.list hq
    have hlen := r'.length
    refine call_tuple_list pl.isList (fun h' kp => ?_) (by simp only [List.size_toArray] <;> omega)
    have I1 : Inv X pins σ H { s with heap := h' } := I.kept (t' := s.toks) kp
    have I2 : Inv X pins σ (upd H h'.objs.size (.tup ys)) { s with heap := h'.push { cls := .type "tuple", data := .seq its.toArray } } :=
      I1.laid (t' := s.toks) (fun b o e => Heap.get?_push_of_some _ e) (Nat.le_refl _) (show ObjOk X.prog X.w _ _ _ (.tup ys) from ⟨hz, its, r', IsTup.new _ _⟩)
    exact ⟨.ref h'.objs.size, _, I2, rfl, q _ (I1.hok.fresh (Nat.le_refl _))⟩
  · obtain ⟨its, r', pl, hz⟩ := I.tuple hq
    exact call_tuple_same pl ⟨.ref p, H, I, rfl, q⟩
def tyV (K : PySem.W.Frag) (T : String) (x : V) (H : Hp) : Prop := match x with
  | .str _ => T = "str"
  | .int _ => T = "int"
  | .ref p => (T = "list" ∧ ∃ xs, SqL K H p xs) ∨ (T = "tuple" ∧ ∃ o, K.lookup p = some o ∧ o.cls = .type "tuple" ∧ o.dict = none) ∨
      (T = "dict" ∧ ((∃ kvs, H p = some (.dK kvs)) ∨ ∃ kvs, H p = some (.dT kvs))) ∨ (T = "set" ∧ ∃ S n, H p = some (.set S n))
  | _ => False
theorem tyV_is {pins : List (Addr × Obj)} {σ : St} {H : Hp} {s : Shared} {T : String} {x : V} {v : Value} (I : Inv X pins σ H s) (r : RelV x v) (ty : tyV X.K T x H) :
    s.TypeIs v T ∧ ∀ a, v = .ref a → ∃ ob, s.heap.get? a = some ob ∧ ob.dict = none := by
  cases x with
  | str z =>
    obtain ⟨t, rfl⟩ := r
    cases (show T = "str" from ty)
    exact ⟨typeIs_str s z t, fun _ e => nomatch e⟩
  | int i =>
    obtain ⟨t, rfl⟩ := r
    cases (show T = "int" from ty)
    exact ⟨typeIs_int s i t, fun _ e => nomatch e⟩
  | ref p =>
    cases r
    rcases ty with ⟨rfl, xs, hq⟩ | ⟨rfl, o, hk, hc, hd⟩ | ⟨rfl, hk⟩ | ⟨rfl, S, n, hk⟩
    · obtain ⟨its, _, pl, _⟩ := I.list hq
      refine ⟨pl.isList.typeIs, fun a e => ?_⟩
      cases e
      obtain ⟨o, n, e, c, hd, _⟩ := pl
      exact ⟨o, e, hd⟩
    · refine ⟨⟨o, I.kIn p o hk, hc⟩, fun a e => ?_⟩
      cases e
      exact ⟨o, I.kIn _ o hk, hd⟩
    · have z : ∃ o, s.heap.get? p = some o ∧ o.ExactDict := by
        rcases hk with ⟨kvs, hk⟩ | ⟨kvs, hk⟩
        · obtain ⟨_, _, _, _, o, _, _, e, ex, _⟩ := I.hok p _ hk
          exact ⟨o, e, ex⟩
        · obtain ⟨_, _, _, _, o, _, _, e, ex, _⟩ := I.hok p _ hk
          exact ⟨o, e, ex⟩
      obtain ⟨o, e, ex⟩ := z
      refine ⟨⟨o, e, ex.1⟩, fun a e2 => ?_⟩
      cases e2
      exact ⟨o, e, ex.2.1⟩
    · obtain ⟨o, _, _, _, e, ex, _⟩ := I.hok p _ hk
      refine ⟨⟨o, e, ex.1⟩, fun a e2 => ?_⟩
      cases e2
      exact ⟨o, e, ex.2.1⟩
  | _ => exact False.elim ty
def tBM (K : PySem.W.Frag) (T : String) (r : V → List V → Hp → VK → Prop) (to : TE) (t : TA) : TE := fun σ H Q => to σ H fun x H1 => tyV K T x H1 ∧ t σ H1 fun xs H2 => r x xs H2 Q
variable {o e : Expr} {es : List Expr} {to : TE} {t : TA} {name : Str} {apos cpos : Pos} {T id : String} {r : V → List V → Hp → VK → Prop}
theorem pe_bm (pa : PlainAttrs T) (slot : Slot T name id) (hty : typeOf (.builtin id) = pure (.type "method_descriptor")) (hm : MtR X id r) (ho : PE X o to) (ha : PA X (e :: es) t)
    (hbase : attributeBase o name X.env (eval o X.env) = eval o X.env := by rfl)
    (hfew : ((backTo cpos (starEach (e :: es) X.env)).all (fun x => !x.1) && (backToKw cpos (keywordEach [] X.env)).all (fun x => x.1.isSome)
      && decide ((e :: es).length + ([] : List Keyword).length + (if ([] : List Keyword).isEmpty then 0 else 1) < 30)) = true := by rfl)
    (hline : (apos.endLine == cpos.line) = true := by rfl) (hs : starEach (e :: es) X.env = (false, eval e X.env) :: starEach es X.env := by rfl) (hplain : (backTo cpos (starEach es X.env)).any (·.1) = false := by rfl) :
    PE X (.Call (.Attribute o name apos) (e :: es) [] cpos) (tBM X.K T r to t) := by
  intro pins s σ H Q I h
  refine wpAny_Call_method_late hbase hfew hline rfl (thn (ho pins s σ H _ I h) fun v s1 ⟨x, H1, I1, r1, ty, q1⟩ => ?_)
  obtain ⟨h1, h2⟩ := tyV_is I1 r1 ty
  refine ⟨T, id, pa, slot, hty, h1, h2, ?_⟩
  have hA := ha cpos pins s1 σ H1 _ I1 q1
  rw [hs] at hA ⊢
  refine Calls.callWith_builtin (by show (false || (backTo cpos (starEach es X.env)).any (·.1)) = false; rw [hplain] <;> rfl) (Calls.evalArgs_plain ?_)
  exact thn hA fun us s2 ⟨vs, H2, I2, r2, q2⟩ => hm pins s2 σ H2 x vs v us Q I2 r1 r2 q2
/- xs.append(e), list.index on a module's tuple .. are MtR facts of 06m -/
end
end L2
namespace L2
open PySem PySem.Spec PyProof.Rows
def MtM (X : Cx) (id : String) (r : V → List V → Hp → VK → Prop) : Prop :=
  ∀ (pins : List (Addr × Obj)) (s : Shared) (σ : St) (H : Hp) (x : V) (xs : List V) (v : Value) (us : List Value) (Q : VK), Inv X pins σ H s → RelV x v → Vals xs us → r x xs H Q →
    wpAny (model X.prog X.w) X.A (call (.builtin id) (v :: us)) (EP X pins σ Q) X.xe s
theorem Vals.one : ∀ {x : V} {us : List Value}, Vals [x] us → ∃ u, us = [u] ∧ RelV x u
  | _, _, .cons r .nil => ⟨_, rfl, r⟩
theorem Vals.rep {xs : List V} {us : List Value} (h : Vals xs us) : ∀ k : Nat, Vals (List.replicate k xs).flatten (List.replicate k us).flatten
  | 0 => .nil
  | k + 1 => by
    rw [List.replicate_succ, List.replicate_succ, List.flatten_cons, List.flatten_cons]
    exact Vals.append h (Vals.rep h k)
theorem foldl_rep (its : List Value) : ∀ (k : Nat) (acc : List Value),
    List.foldl (fun x1 x2 => x1 ++ x2) acc.toArray (List.replicate k its.toArray) = (acc ++ (List.replicate k its).flatten).toArray
  | 0, acc => by simp
  | k + 1, acc => by
    have e : acc.toArray ++ its.toArray = (acc ++ its).toArray := by simp
    have e2 : (acc ++ its) ++ (List.replicate k its).flatten = acc ++ (List.replicate (k + 1) its).flatten := by
      rw [List.replicate_succ, List.flatten_cons, List.append_assoc]
    rw [← e2, ← foldl_rep its k (acc ++ its), ← e, List.replicate_succ, List.foldl_cons]
section
variable {X : Cx} {pins : List (Addr × Obj)} {σ : St} {H : Hp} {s : Shared} {l b : Addr} {xs ys zs : List V}
theorem Inv.lset {its its' : List Value} {n : Nat} {f : Array Value → Array Value} {t' : Nat} (I : Inv X pins σ H s) (hH : H l = some (.lst xs))
    (e : s.heap.get? l = some { cls := .type "list", data := .seq its.toArray n }) (hf : f its.toArray = its'.toArray) (hv : Vals ys its') (hz : ys.length ≤ sizeLine) :
    Inv X pins σ (upd H l (.lst ys)) { s with heap := s.heap.update l (Obj.mapSeq f), toks := t' } := by
  have q := PySem.IsL.update e f
  rw [hf] at q
  refine I.write (x := l) (e := l) (by rw [hH]; exact trivial) (.inl rfl) (fun b' u hb hu => (Heap.get?_update_other s.heap (Obj.mapSeq f) (Ne.symm hb)).trans hu) ⟨_, q⟩ ?_
  exact ⟨hz, its', _, hv, q⟩
theorem Inv.lnew {its : List Value} {t' : Nat} (I : Inv X pins σ H s) (hv : Vals ys its) (hz : ys.length ≤ sizeLine) :
    Inv X pins σ (upd H s.heap.objs.size (.lst ys)) { s with heap := s.heap.push { cls := .type "list", data := .seq its.toArray }, toks := t' } :=
  I.laid (fun _ _ q => Heap.get?_push_of_some _ q) (Nat.le_refl _) ⟨hz, its, 0, hv, Heap.get?_push_size _ rfl⟩
theorem Inv.fresh (I : Inv X pins σ H s) : H s.heap.objs.size = none := I.hok.fresh (Nat.le_refl _)
theorem Inv.lstM (I : Inv X pins σ H s) (hH : H l = some (.lst xs)) : xs.length ≤ sizeLine ∧ ∃ (its : List Value) (n : Nat), Vals xs its ∧ xs.length = its.length ∧ s.heap.get? l = some { cls := .type "list", data := .seq its.toArray n } := by
  obtain ⟨z, its, n, r, e⟩ := I.hok l _ hH
  exact ⟨z, its, n, r, r.length, e⟩
theorem notLongL {n : Nat} (h : n ≤ sizeLine) : Builtin.List.listTooLong n = false := by
  unfold Builtin.List.listTooLong
  exact decide_eq_false (by omega)
end
section
variable {X : Cx}
def rAppend : V → List V → Hp → VK → Prop := fun x vs H Q => ∃ l xs y, x = .ref l ∧ vs = [y] ∧ H l = some (.lst xs) ∧ xs.length < sizeLine ∧ Q .non (upd H l (.lst (xs ++ [y])))
theorem mt_append : MtM X "list.append" rAppend := by
  intro pins s σ H x vs v us Q I rx rv h
  obtain ⟨l, xs, y, rfl, rfl, hH, hz, q⟩ := h
  cases rx
  obtain ⟨u, rfl, ru⟩ := rv.one
  obtain ⟨z, its, n, r, hl, e⟩ := I.lstM hH
  refine call_meets F.slot_list_append ⟨_, e, rfl⟩ F.entry_list_append (F.args_list_append_2 _ _) (PySem.list_append l its.toArray n u (by rw [List.size_toArray]; omega)) ⟨e, ?_⟩
  refine ⟨.non, _, I.lset (its' := its ++ [u]) hH e (by simp) (r.append (.cons ru .nil)) ?_, rfl, q⟩
  rw [List.length_append, List.length_singleton]
  omega
def rExtend : V → List V → Hp → VK → Prop := fun x vs H Q => ∃ l b xs zs, x = .ref l ∧ vs = [.ref b] ∧ H l = some (.lst xs) ∧ H b = some (.lst zs) ∧ xs.length + zs.length ≤ sizeLine ∧ Q .non (upd H l (.lst (xs ++ zs)))
theorem mt_extend : MtM X "list.extend" rExtend := by
  intro pins s σ H x vs v us Q I rx rv h
  obtain ⟨l, b, xs, zs, rfl, rfl, hH, hB, hz, q⟩ := h
  cases rx
  obtain ⟨u, rfl, ru⟩ := rv.one
  cases ru
  obtain ⟨z, its, n, r, hl, e⟩ := I.lstM hH
  obtain ⟨z2, its2, n2, r2, hl2, e2⟩ := I.lstM hB
  have hsz : its.toArray.size + its2.toArray.size ≤ sizeLine := by rw [List.size_toArray, List.size_toArray]; omega
  have hlong : ¬ (!its.toArray.isEmpty && Builtin.List.listTooLong (its.toArray.size + its2.toArray.size)) = true := by
    rw [notLongL hsz, Bool.and_false]
    exact Bool.false_ne_true
  refine call_meets F.slot_list_extend ⟨_, e, rfl⟩ F.entry_list_extend (F.args_list_extend_2 _ _)
    (AutoSeq1.list_extend_list_list_0 l its.toArray n b its2.toArray n2 hlong (by rw [List.size_toArray]; omega) (by omega)) ⟨e, e2, ?_⟩
  refine ⟨.non, _, I.lset (its' := its ++ its2) hH e (by simp) (r.append r2) ?_, rfl, q⟩
  rw [List.length_append]
  omega
def rCat : R2 := fun x y H Q => ∃ l b xs zs, x = .ref l ∧ y = .ref b ∧ H l = some (.lst xs) ∧ H b = some (.lst zs) ∧ xs.length + zs.length ≤ sizeLine ∧ ∀ p, H p = none → Q (.ref p) (upd H p (.lst (xs ++ zs)))
theorem op_cat : OpR X (binaryOp .Add) rCat := by
  intro pins s σ H x y v u Q I rx ry h
  obtain ⟨l, b, xs, zs, rfl, rfl, hH, hB, hz, q⟩ := h
  cases rx
  cases ry
  obtain ⟨z, its, n, r, hl, e⟩ := I.lstM hH
  obtain ⟨z2, its2, n2, r2, hl2, e2⟩ := I.lstM hB
  refine PySem.P.add_list e e2 ?_ (by rw [List.size_toArray, List.size_toArray]; omega)
  have ea : its.toArray ++ its2.toArray = (its ++ its2).toArray := by simp
  rw [ea]
  exact ⟨.ref _, _, I.lnew (t' := s.toks) (r.append r2) (by rw [List.length_append]; omega), rfl, q _ I.fresh⟩
def rRep : R2 := fun x y H Q => ∃ l k xs, x = .ref l ∧ y = .int k ∧ H l = some (.lst xs) ∧ -(2 ^ 63) ≤ k ∧ k < 2 ^ 63 ∧ xs.length * k.toNat ≤ sizeLine ∧
  ∀ p, H p = none → Q (.ref p) (upd H p (.lst (List.replicate k.toNat xs).flatten))
theorem len_rep {α : Type} (xs : List α) (k : Nat) : (List.replicate k xs).flatten.length = k * xs.length := by
  induction k with
  | zero => simp
  | succ k ih => rw [List.replicate_succ, List.flatten_cons, List.length_append, ih, Nat.succ_mul, Nat.add_comm]
theorem op_rep : OpR X (binaryOp .Mult) rRep := by
  intro pins s σ H x y v u Q I rx ry h
  obtain ⟨l, k, xs, rfl, rfl, hH, h1, h2, hz, q⟩ := h
  cases rx
  obtain ⟨t, rfl⟩ := ry
  obtain ⟨z, its, n, r, hl, e⟩ := I.lstM hH
  have hlen : its.toArray.size * k.toNat ≤ sizeLine := by rw [List.size_toArray, ← hl]; exact hz
  have hcap : ¬ its.toArray.size * k.toNat > (2 ^ 63 - 1) / 8 := by
    have : (sizeLine : Nat) ≤ (2 ^ 63 - 1) / 8 := by decide
    omega
  have hfit : ¬ (!Builtin.List.listFitsIndex k) = true := by
    rw [fitsIndex_both h1 h2]
    exact Bool.false_ne_true
  have hlong : ¬ Builtin.List.listTooLong (its.toArray.size * k.toNat) = true := by
    rw [notLongL hlen]
    exact Bool.false_ne_true
  have hnew : List.foldl (fun x1 x2 => x1 ++ x2) #[] (List.replicate (if its.toArray.isEmpty = true then 0 else k.toNat) its.toArray) = (List.replicate k.toNat its).flatten.toArray := by
    have f0 : ∀ m : Nat, List.foldl (fun x1 x2 => x1 ++ x2) #[] (List.replicate m its.toArray) = (List.replicate m its).flatten.toArray := fun m => by
      have := foldl_rep its m []
      rw [List.nil_append] at this
      exact this
    rw [f0]
    cases its with
    | nil => simp
    | cons a r' => rw [if_neg (by simp)]
  refine wpAny_binaryOp_repeat_ref (T := "list") (U := "int") (by decide) ⟨_, e, rfl⟩ (fun s' => typeIs_int s' k t) noFill_list_mul F.fills_int_mul F.slot_int_rmul repeat_list F.slot_int_index.lookup
    (call_meets F.slot_int_rmul (typeIs_int s k t) F.entry_int_rmul (F.args_int_rmul_2 _ _) (int___rmul___int_list k t l its.toArray n)
      ⟨e, rfl, ⟨_, e, rfl⟩, call_meets F.slot_list_mul ⟨_, e, rfl⟩ F.entry_list_mul (F.args_list_mul_2 _ _) (AutoListH.list___mul___list_int_3 l its.toArray n k t hfit hcap hlong) ⟨e, ?_⟩⟩)
  rw [hnew]
  exact ⟨.ref _, _, I.lnew (t' := s.toks) (r.rep k.toNat) (by rw [len_rep, Nat.mul_comm]; exact hz), rfl, q _ I.fresh⟩
end
section
variable {prog : Program} {w : World} {A : Around} {E : Value → Shared → Prop} {s : Shared}
end
section
variable {X : Cx}
end
end L2
namespace Att
open PySem PySem.W PySem.Calls PyProof.Rows
theorem ints_of_wellAll {P : Params} {h : Heap} : ∀ (ns : List Int) (vs : List Value), WellAll P h vs (ns.map WData.int) → IntsAre vs ns := by
  intro ns
  induction ns with
  | nil =>
    intro vs w
    rw [List.map_nil] at w
    cases w
    exact .nil
  | cons n ns ih =>
    intro vs w
    rw [List.map_cons] at w
    cases w with
    | cons a b =>
      cases a
      exact .cons _ _ (ih _ b)
theorem script_of {l : OpenLaw} {n : Nat} (hn : l.most = some n) {P : Params} {h : Heap} {args : List WData} {vals : List Value}
    (hpre : l.row.toRowW.claim.pre args = true) (hwl : WellAll P h vals args) :
    ∃ a vs ns, vals = [Value.ref a] ∧ args = [WData.list (ns.map WData.int)] ∧ h.get? a = some { cls := .type "list", data := .seq vs.toArray } ∧ IntsAre vs ns ∧ ns.length ≤ n := by
  have hsh : WShape.hasAll [] args [.list .int] = true := (pre_splitW hpre).1
  have hc : l.pre.holds [] { args := args } = true := (pre_splitW hpre).2
  obtain ⟨d, r, rfl, h1, h2⟩ := hasAllW_cons hsh
  obtain rfl := hasAllW_nil h2
  obtain ⟨xs, rfl, h3⟩ := hasW_list h1
  obtain ⟨ns, rfl⟩ := items_int h3
  have hlen : ns.length ≤ n := by
    unfold OpenLaw.pre at hc
    have h4 : (WTm.not (.lt (.lit (.int (n : Int))) (.len (.arg 0)))).holds [] { args := [.list (ns.map .int)] } = true := by
      have h4 := (holds_andW hc).1
      rw [hn] at h4
      exact h4
    have h5 := condW_of h4 (w_not (w_lt w_lit (w_len_list (w_arg rfl))))
    rw [List.length_map] at h5
    refine Nat.le_of_not_lt fun q => ?_
    have q' : (n : Int) < ((ns.length : Nat) : Int) := by omega
    first
      | (rw [decide_eq_true q'] at h5; exact absurd h5 (by decide))
      | (simp at h5; omega)
  cases hwl with
  | cons w1 w2 =>
    cases w2
    cases w1 with
    | list ho hall => exact ⟨_, _, ns, rfl, rfl, ho, ints_of_wellAll ns _ hall, hlen⟩
theorem post_true (l : OpenLaw) (args : List WData) : l.row.toRowW.claim.post args (.bool true) args = true :=
  postW_of (r := l.row.toRowW) (X := (true == true))
    (show WShape.has [] (.bool true) .bool = true by first | rfl | decide | simp [WShape.has, WShape.arms, WShape.armsAll])
    (show (WTm.eq .res (.lit (.bool true))).value [] { args := args, res := some (.bool true), after := args } = some (.bool (true == true)) from w_eq_bool (w_res rfl) w_lit) rfl
theorem attach_call {l : OpenLaw} {n : Nat} {q : Program} {loose : List Str} {XP : (Str → Option Value) → Heap → Prop} {YP : World → Heap → Prop} {d : DefRec}
    (hn : l.most = some n) (hdf : d.params.defaults = [])
    (call : ∀ (w : World) (s₀ s₁ : Shared) (mg mb : Str → Option Value) (fa : Addr) (o : Obj) (pm cd doc : Value) (a : Addr) (vs : List Value) (ns : List Int),
      Ground q loose [] XP w s₀ mg mb s₁.heap → YP w s₁.heap →
      s₁.heap.get? fa = some o → o.data = .func (docDef d.name d.params d.body d.scope pm cd doc) → s₁.heap.CodeRec cd d.name → mg d.name = some (.ref fa) →
      s₁.heap.get? a = some { cls := .type "list", data := .seq vs.toArray } → IntsAre vs ns → ns.length ≤ n → s₁.gens = #[] →
      codeAny (model l.prog w) callerA (.call (.ref fa) ⟨[.ref a], []⟩) (fun r s' => r = .ok (.ret (.bool true)) ∧ OldK s₁.heap s'.heap ∧ s'.os = s₁.os ∧ AllBare s'.gens) s₁) :
    WalkO q loose XP YP l.row.toRowW d [] (fun f vs => PySem.call f vs) := by
  intro w s₀ s₁ mg mb G Y fa o pm cd doc dV kV ho hd hcd hD hmg hg args vals as hpre hlay hrd hwl hlo
  obtain rfl : dV = .none := Dflts.none hD hdf
  obtain rfl : kV = .none := Dflts.noKw hD
  obtain ⟨a, vs, ns, rfl, rfl, hobj, hints, hlen⟩ := script_of hn hpre hwl
  refine enter_call (codeAny_mono (call w s₀ s₁ mg mb fa o pm cd doc a vs ns G Y ho (fd_plain hd) hcd hmg hobj hints hlen hg) fun r s' hq => ?_)
  obtain ⟨rfl, h2, h3, h4⟩ := hq
  exact ⟨.inl ⟨.bool true, .bool true, [], rfl, fun _ => rfl, .bool true, post_true l _, fun _ => ⟨List.Pairwise.nil, fun _ hm => (nomatch hm)⟩⟩, h2, h3, h4⟩
section
variable {prog : Program} {w : World} {A : Around} {E : Value → Shared → Prop} {s : Shared} {K : Frag}
end
end Att
namespace L2
open PySem PySem.Spec PyProof.Rows
theorem vals_ints : ∀ {vs : List Value} {ns : List Int}, IntsAre vs ns → Vals (ns.map V.int) vs
  | _, _, .nil => .nil
  | _, _, .cons n t h => .cons ⟨t, rfl⟩ (vals_ints h)
def Only (H : Hp) : Prop := ∀ b, H b = none ∨ ∃ o xs, H b = some (.frz o (.lst xs))
theorem law_call {P : Program} {w : World} {K : PySem.W.Frag} {mg mb : Str → Option Value} {CX : CXT} {k : Nat} {fa a : Addr} {fd : FuncData} {x : Str} {sp : Sp} {s₁ : Shared} {vs : List Value} {ns : List Int}
    (KX : K.In s₁.heap) (hns : s₁.heap.Ns mainGlobals mg) (hb : s₁.heap.Ns builtinsNs mb) (hbb : ∀ x : Str, x ≠ "__name__" → mb x = bootBuiltins x) (hlim : s₁.heap.NoLimit) (hg : s₁.gens = #[])
    (ha : s₁.heap.get? a = some { cls := .type "list", data := .seq vs.toArray }) (hi : IntsAre vs ns) (hl : ns.length ≤ sizeLine) (hr : Room k callerA)
    (F : ∀ base : Heap, K.In base → base.Ns mainGlobals mg → FnOk P w K mg base CX k fa fd [x] sp) (hbind : ∀ (s : Shared) (u : Value), BindsTo s fd ⟨[u], []⟩ [(x, u)])
    (hsp : ∀ H : Hp, Only H → SqL K H a (ns.map V.int) → sp [.ref a] H (fun v _ => v = .bl true) fun _ _ _ => False)
    (hCX : ∀ H e s', CX [] H s₁ (fun _ _ _ => False) e s' → False) :
    codeAny (model P w) callerA (.call (.ref fa) ⟨[.ref a], []⟩) (fun r s' => r = .ok (.ret (.bool true)) ∧ OldK s₁.heap s'.heap ∧ s'.os = s₁.os ∧ AllBare s'.gens) s₁ := by
  have rv := vals_ints hi
  have lenV := hi.length
  -- from an abstract heap in which nothing but the script may be tracked
  have core : ∀ H : Hp, Only H → SqL K H a (ns.map V.int) → HOk P w H s₁.heap → (∀ b, H b ≠ none → b = a) → (H a ≠ none → K.lookup a = none) →
      codeAny (model P w) callerA (.call (.ref fa) ⟨[.ref a], []⟩) (fun r s' => r = .ok (.ret (.bool true)) ∧ OldK s₁.heap s'.heap ∧ s'.os = s₁.os ∧ AllBare s'.gens) s₁ := by
    intro H hO hS hok hA hK
    have base_of : ∀ {b : Addr} {o : Obj}, s₁.heap.get? b = some o → H b = none → (hidT s₁.heap H).get? b = some o := fun e n => hidT_get e n
    have noA : ∀ {b : Addr} {o : Obj} {es : Array DictEntry} {ep : Nat}, s₁.heap.get? b = some o → o.data = .dict es ep → H b = none := fun {b o es ep} e d => by
      cases q : H b with
      | none => rfl
      | some u =>
        have e' : b = a := hA b (by rw [q]; simp)
        subst e'
        rw [ha] at e; cases e
        have d' : Data.seq vs.toArray _ = Data.dict es ep := d
        cases d'
    have nsK : ∀ {b : Addr} {m : Str → Option Value}, s₁.heap.Ns b m → (hidT s₁.heap H).Ns b m := fun {b m} ⟨o, es, ep, e, d, r⟩ => ⟨o, es, ep, base_of e (noA e d), d, r⟩
    have hKb : K.In (hidT s₁.heap H) := fun b o e => base_of (KX b o e) (by
      cases q : H b with
      | none => rfl
      | some u =>
        have e' : b = a := hA b (by rw [q]; simp)
        subst e'
        rw [hK (by rw [q]; simp)] at e; cases e)
    have hM : Mod K mg (hidT s₁.heap H) := ⟨hKb, nsK hns, ⟨mb, nsK hb, hbb⟩, let ⟨mc, h1, h2⟩ := hlim; ⟨mc, nsK h1, h2⟩⟩
    have e0 : Env0 P w K mg (hidT s₁.heap H) callerA [] s₁ H := ⟨rfl, hM, fun b o e => of_hidT e, Nat.le_of_eq (hidT_size _ _), trivial, fun b hb => absurd (show b ∈ ([] : List Addr) from hb) (by simp), hok, .of_eq hg⟩
    refine codeAny_mono ((F _ hKb (nsK hns)).run callerA [] s₁ H ⟨[.ref a], []⟩ [.ref a] [.ref a] _ _ hr e0 (hbind s₁ (.ref a)) (.cons rfl .nil) (hsp H hO hS)) fun r s' h => ?_
    cases r with
    | error e => exact (hCX H e s' h).elim
    | ok fl =>
      cases fl with
      | next => exact False.elim h
      | brk => exact False.elim h
      | cont => exact False.elim h
      | ret u =>
        obtain ⟨v, H', os, bare, un, hok', r', q⟩ := h
        have q' : v = .bl true := q
        subst q'
        obtain rfl : u = Value.bool true := r'
        refine ⟨rfl, OldK.of_keep fun b o e => ?_, os, bare⟩
        cases q : H b with
        | none => exact un.keep b o e q (by intro z; exact absurd (show b ∈ ([] : List Addr) from z) (by simp)) (by simp)
        | some u =>
          rcases hO b with z | ⟨ob, xs, z⟩
          · rw [q] at z; cases z
          · have z2 := un.frzs b ob _ z
            obtain ⟨e1, _⟩ := hok b _ z
            obtain ⟨e2, _⟩ := hok' b _ z2
            rw [e] at e1; cases e1
            exact e2
  cases hk : K.lookup a with
  | some o =>
    -- the script is one of the module's own objects
    have e := KX a o hk
    rw [ha] at e
    cases e
    refine core (fun _ => none) (fun _ => .inl rfl) (.inr ⟨_, vs.toArray, _, hk, rfl, rfl, rfl, by rw [List.size_toArray, lenV]; exact hl, by simpa using rv⟩) (fun b u z => by have z' : (none : Option HO) = some u := z; cases z') (fun b z => absurd rfl z) fun z => absurd rfl z
  | none =>
    refine core (fun b => if b = a then some (.frz { cls := .type "list", data := .seq vs.toArray } (.lst (ns.map V.int))) else none) (fun b => ?_) (.inl (.inr ⟨{ cls := .type "list", data := .seq vs.toArray }, if_pos rfl⟩)) (fun b u z => ?_) (fun b z => ?_) fun _ => hk
    · by_cases hb : b = a
      · exact .inr ⟨_, _, if_pos hb⟩
      · exact .inl (if_neg hb)
    · by_cases hb : b = a
      · have z' := (if_pos hb).symm.trans z
        cases z'
        subst hb
        exact ⟨ha, by rw [List.length_map]; exact hl, vs, _, rv, ha⟩
      · have z' := (if_neg hb).symm.trans z
        cases z'
    · by_cases hb : b = a
      · exact hb
      · exact absurd (if_neg hb) z
end L2
namespace L2
open PySem PySem.Spec PyProof.Rows
theorem walk_of {l : PySem.W.OpenLaw} {n k : Nat} {q : Program} {loose : List Str} {XP : (Str → Option Value) → Heap → Prop} {YP : World → Heap → Prop} {d : DefRec} {K : Params → PySem.W.Frag} {CX : World → CXT} {sp : World → Sp} {x : Str}
    (hn : l.most = some n) (hn2 : n ≤ sizeLine) (hdf : d.params.defaults = []) (hr : Room k callerA)
    (hY : ∀ (w : World) (h : Heap), YP w h → (K w.params).In h)
    (F : ∀ (w : World) (mg : Str → Option Value) (fa : Addr) (h : Heap), (K w.params).In h → h.Ns mainGlobals mg → mg d.name = some (.ref fa) →
      ∃ fd : FuncData, (∀ (s : Shared) (u : Value), BindsTo s fd ⟨[u], []⟩ [(x, u)]) ∧
        ∀ base : Heap, (K w.params).In base → base.Ns mainGlobals mg → FnOk l.prog w (K w.params) mg base (CX w) k fa fd [x] (sp w))
    (hsp : ∀ (w : World) (H : Hp) (a : Addr) (ns : List Int), ns.length ≤ n → Only H → SqL (K w.params) H a (ns.map V.int) → sp w [.ref a] H (fun v _ => v = .bl true) fun _ _ _ => False)
    (hCX : ∀ (w : World) (H : Hp) (s : Shared) (e : Value) (s' : Shared), CX w [] H s (fun _ _ _ => False) e s' → False) :
    PySem.W.WalkO q loose XP YP l.row.toRowW d [] (fun f vs => PySem.call f vs) := by
  refine Att.attach_call hn hdf fun w s₀ s₁ mg mb fa o pm cd doc a vs ns G Y ho hd hcd hmg hobj hints hlen hg => ?_
  have KX := hY w _ Y
  obtain ⟨fd, hb, hF⟩ := F w mg fa _ KX G.T.g hmg
  exact law_call KX G.T.g G.T.b G.T.builtins G.T.nolimit hg hobj hints (Nat.le_trans hlen hn2) hr hF hb (fun H hO hS => hsp w H a ns hlen hO hS) fun H e s' => hCX w H s₁ e s'
end L2
/- THE LAST THEOREM (shape; LID, My.* are yours):
   My.Adr: a structure of the addresses that your layer names (classes, functions); My.Txt K t: a structure (Prop) of the equations over K;
   My.txt_mk : {K} {implicit addresses ..} (e1 : nsIn K mainGlobals "law" = some (some (.ref f))) (e2 : K.lookup f = some ⟨oc, od, .func (fnOf "law" "law" params body scope dV kV doc pm an cdv ct), sl⟩) (e3 : codeIn K cdv "law" = true) .. : ∃ t, My.Txt K t
set_option maxRecDepth 100000 in
set_option maxHeartbeats 0 in
theorem PySem.Challenge.cw_LID_holds : PySem.Challenge.rw_LID.Holds := by
  w_on; o_law; k_head; (case hw => w_witness2)
  k_fill
  refine L2.walk_of (l := PySem.Challenge.rw_LID) (n := 63) (k := 40) (x := "script") (CX := fun w => ..) (sp := fun _ => My.sp_law) rfl (by decide) rfl ⟨rfl, by decide, by decide⟩ (fun w h Y => PySem.W.kIn_of Y) ?F ?S ?C
  case F =>
    intro w mg fa h KX G hmg
    have T : ∃ t, My.Txt (L2.KOf KX) t := by
      dsimp only [L2.KOf]                          -- K must stand as «<heap const> w.params» for k_is
      refine' My.txt_mk ?e1 ?e2 ?e3 ..
      (case e1 => PySem.W.k_is)                    -- in the order: a name -> its address -> its object -> its parts
      (case e2 => PySem.W.k_is)
      ..
    obtain ⟨t, T⟩ := T
    have e0 := hmg.symm.trans (PySem.W.mg_of KX G T.law)
    cases e0                                       -- fa is the law's own address
    exact ⟨_, fun s u => .of_eq rfl, fun base kb nb => My.law_fn T kb nb⟩     -- if «.of_eq rfl» comes too early: refine' ⟨_, ?b, fun base kb nb => My.law_fn T kb nb⟩; exact fun s u => .of_eq rfl
  case S => exact fun w H a ns hl hO hS => ..
  case C => exact ..
(the tactic k_is has no namespace: write k_is) -/
namespace L2
open PySem PySem.Spec PyProof.Rows
def defArgs (s : Stmt) : Arguments := match s with
  | .FunctionDef _ a _ _ _ _ _ _ _ _ => a
  | _ => { posonlyargs := [], args := [], vararg := none, kwonlyargs := [], kw_defaults := [], kwarg := none, defaults := [] }
def defBody (s : Stmt) : List Stmt := match s with
  | .FunctionDef _ _ b _ _ _ _ _ _ _ => b
  | _ => []
def defScope (s : Stmt) : Scope := match s with
  | .FunctionDef _ _ _ _ _ _ sc _ _ _ => sc
  | _ => { kind := .function, names := [], isGenerator := false, isCoroutine := false }
abbrev CX0 : CXT := fun _ _ _ _ _ _ => False
structure Fun (K : PySem.W.Frag) (x qual : Str) (st : Stmt) (f : Addr) (fd : FuncData) : Prop where
  ex : ∃ (oc : Value) (od : Option Addr) (kV doc pm : Value) (an : Option Addr) (cdv ct : Value) (osl : Array (Option Value)),
    fd = PySem.W.fnOf x qual (defArgs st) (defBody st) (defScope st) .none kV doc pm an cdv ct ∧ K.lookup f = some ⟨oc, od, .func fd, osl⟩ ∧ PySem.W.codeIn K cdv qual = true
  kp : PySem.W.keepIn K (.ref f) = true
section
variable {P : Program} {w : World} {K : PySem.W.Frag} {mg : Str → Option Value} {base : Heap}
theorem Fun.ok {x qual : Str} {st : Stmt} {f : Addr} {fd : FuncData} {N ps : List Str} {k : Nat} {sp : Sp} (F : Fun K x qual st f fd) (S : FnScope N ps (defScope st)) (len : ∀ vs H Q E, sp vs H Q E → vs.length = ps.length)
    (hbody : ∀ (cdv : Value) (A : Around) (outer : List Env) (s : Shared) (H : Hp) (vs : List V) (Q : VK) (E : XK), Room k (A.deeper (envOfC qual (defScope st) s.heap.objs.size f cdv)) → sp vs H Q E →
      ∃ t, PSs (cxOf CX0 P w K mg base N qual (defScope st) f cdv A outer s H E).nox (defBody st) t ∧ t { nx := fun _ H' => Q .non H', rt := Q } (start N vs) H) : FnOk P w K mg base CX0 (k + 1) f fd ps sp := by
  obtain ⟨oc, od, kV, doc, pm, an, cdv, ct, osl, rfl, lk, hcd⟩ := F.ex
  refine fn_of lk hcd S len fun A outer s H vs Q E hr hsp => ?_
  obtain ⟨t, h, q⟩ := hbody cdv A outer s H vs Q E hr hsp
  exact ⟨t, h.nox, q⟩
theorem Fun.binds {x qual : Str} {st : Stmt} {f : Addr} {fd : FuncData} {ps : List Str} (F : Fun K x qual st f fd)
    (h : ∀ (kV doc pm : Value) (an : Option Addr) (cdv ct : Value) (us : List Value), us.length = ps.length → bindArgs (PySem.W.fnOf x qual (defArgs st) (defBody st) (defScope st) .none kV doc pm an cdv ct) ⟨us, []⟩ = pure (ps.zip us)) : Binds K fd ps [] := by
  obtain ⟨oc, od, kV, doc, pm, an, cdv, ct, osl, rfl, lk, hcd⟩ := F.ex
  exact .all (h kV doc pm an cdv ct)
theorem fun_mk {x qual : Str} {st : Stmt} {f : Addr} {oc : Value} {od an : Option Addr} {osl : Array (Option Value)} {kV doc pm cdv ct : Value} (l : K.lookup f = some ⟨oc, od, .func (PySem.W.fnOf x qual (defArgs st) (defBody st) (defScope st) .none kV doc pm an cdv ct), osl⟩)
    (c : PySem.W.codeIn K cdv qual = true) (k : PySem.W.keepIn K (.ref f) = true) : Fun K x qual st f (PySem.W.fnOf x qual (defArgs st) (defBody st) (defScope st) .none kV doc pm an cdv ct) := ⟨⟨oc, od, kV, doc, pm, an, cdv, ct, osl, rfl, l, c⟩, k⟩
end
theorem small1000 {n : Nat} (h : n ≤ 1000) : n < sizeLine := Nat.lt_of_le_of_lt h (by decide)
section
variable {X : Cx}
theorem pv (i : Nat) {x : Str} {pos : Pos} (hN : X.N[i]? = some x := by rfl) (hv : Vis X.env.scope x := by first | exact Or.inl rfl | exact Or.inr (Or.inl rfl) | exact Or.inr (Or.inr rfl)) (hd : (x == ("__debug__" : Str)) = false := by decide)
    (hcd : (x == ("__classdict__" : Str)) = false := by decide) : PE X (.Name x pos) (tVar i) := pe_var hN hv hd hcd
theorem call_lenD : CallR X (.builtin "len") (fun xs H Q => ∃ a kvs, xs = [V.ref a] ∧ H a = some (.dK kvs) ∧ Q (.int kvs.length) H) := by
  intro pins s σ H xs us Q I r h
  obtain ⟨a, kvs, rfl, ha, q⟩ := h
  obtain ⟨u, rfl, ru⟩ := vals1 r
  cases ru
  exact d_len I (.inl ha) fun t s' I' => ⟨.int kvs.length, H, I', ⟨t, rfl⟩, q⟩
end
def Same (H H' : Hp) : Prop := ∀ b o, H b = some o → H' b = some o
theorem Same.refl (H : Hp) : Same H H := fun _ _ h => h
theorem Same.trans {H H1 H2 : Hp} (a : Same H H1) (b : Same H1 H2) : Same H H2 := fun c o h => b c o (a c o h)
theorem Same.free {H H' : Hp} (e : Same H H') {l : Addr} (h : H' l = Option.none) : H l = Option.none := by
  cases q : H l with
  | none => rfl
  | some o =>
    rw [e l o q] at h
    cases h
theorem Same.seq {K : PySem.W.Frag} {H H' : Hp} {a : Addr} {xs : List V} (e : Same H H') (h : SqL K H a xs) : SqL K H' a xs := by
  rcases h with (h | ⟨o, h⟩) | h
  · exact .inl (.inl (e _ _ h))
  · exact .inl (.inr ⟨o, e _ _ h⟩)
  · exact .inr h
section
variable {κ : Type} [DecidableEq κ]
end
end L2
namespace L2
open PySem PySem.Spec PyProof.Rows
def clF (env : Env) : List (Str × NameKind) → List (Str × Addr) → List (Str × Addr)
  | [], acc => acc
  | (n, k) :: r, acc => clF env r (if k == NameKind.free then (n, (env.cells.lookup n).getD 0) :: acc else acc)
theorem closure_eq {env : Env} {scope : Scope} (h : ∀ y ∈ scope.names, y.2 = .free → ∃ c, env.cells.lookup y.1 = some c) : closureFor scope env = pure (clF env scope.names []) := by
  have go : ∀ (names : List (Str × NameKind)) (acc : List (Str × Addr)), (∀ y ∈ names, y.2 = .free → ∃ c, env.cells.lookup y.1 = some c) →
      (forIn names acc fun (x : Str × NameKind) (r : List (Str × Addr)) => (match x with
        | (name, kind) => if (kind == NameKind.free) = true then do let a ← cellOf env name; pure (ForInStep.yield ((name, a) :: r)) else pure (ForInStep.yield r) : Sem (ForInStep (List (Str × Addr))))) = (pure (clF env names acc) : Sem (List (Str × Addr))) := by
    intro names
    induction names with
    | nil => intro acc _; rfl
    | cons x r ih =>
      intro acc hy
      obtain ⟨n, k⟩ := x
      have ih' := fun a => ih a fun y m => hy y (List.mem_cons_of_mem _ m)
      rw [List.forIn_cons]
      cases hk : (k == NameKind.free) with
      | false =>
        dsimp only
        rw [hk, if_neg Bool.false_ne_true, pure_bind]
        show _ = pure (clF env r (if (k == NameKind.free) = true then _ else acc))
        rw [hk, if_neg Bool.false_ne_true]
        exact ih' acc
      | true =>
        obtain ⟨c, hc⟩ := hy (n, k) List.mem_cons_self (by simpa using hk)
        have e : cellOf env n = pure c := by unfold cellOf; rw [hc]
        dsimp only
        rw [hk, if_pos rfl, e, pure_bind, pure_bind]
        show _ = pure (clF env r (if (k == NameKind.free) = true then _ else acc))
        rw [hk, if_pos rfl, hc]
        exact ih' _
  unfold closureFor
  have e := go scope.names [] h
  show (forIn scope.names [] _ >>= _) = _
  refine (congrArg (fun z => z >>= fun cs => pure cs) e).trans ?_
  rfl
theorem clF_sub {env : Env} : ∀ (names : List (Str × NameKind)) (acc : List (Str × Addr)), (∀ y ∈ names, y.2 = .free → ∃ c, env.cells.lookup y.1 = some c) →
    (∀ x c, acc.lookup x = some c → env.cells.lookup x = some c) → ∀ x c, (clF env names acc).lookup x = some c → env.cells.lookup x = some c
  | [], acc, _, h, x, c, e => h x c e
  | (n, k) :: r, acc, hy, h, x, c, e => by
    refine clF_sub r _ (fun y m => hy y (List.mem_cons_of_mem _ m)) (fun y d z => ?_) x c e
    cases hk : (k == NameKind.free) with
    | false => rw [hk, if_neg Bool.false_ne_true] at z; exact h y d z
    | true =>
      rw [hk, if_pos rfl] at z
      obtain ⟨c', hc⟩ := hy (n, k) List.mem_cons_self (by simpa using hk)
      rw [List.lookup_cons] at z
      cases q : y == n with
      | true =>
        rw [q] at z
        have q' : y = n := by simpa using q
        subst q'
        have hc' : env.cells.lookup y = some c' := hc
        rw [hc'] at z ⊢
        exact z
      | false => rw [q] at z; exact h y d z
theorem clF_has {env : Env} : ∀ (names : List (Str × NameKind)) (acc : List (Str × Addr)) (x : Str), ((x, NameKind.free) ∈ names ∨ ∃ c, acc.lookup x = some c) → ∃ c, (clF env names acc).lookup x = some c
  | [], acc, x, h => by
    rcases h with h | h
    · cases h
    · exact h
  | (n, k) :: r, acc, x, h => by
    refine clF_has r _ x ?_
    have keep : (∃ c, acc.lookup x = some c) → ∃ c, (if (k == NameKind.free) = true then (n, (env.cells.lookup n).getD 0) :: acc else acc).lookup x = some c := fun hZ => by
      obtain ⟨c, hc⟩ := hZ
      split
      · rw [List.lookup_cons]
        split
        · exact ⟨_, rfl⟩
        · exact ⟨c, hc⟩
      · exact ⟨c, hc⟩
    rcases h with h | h
    · rcases List.mem_cons.mp h with e | e
      · have e1 : x = n := congrArg Prod.fst e
        have e2 : NameKind.free = k := congrArg Prod.snd e
        subst e1 e2
        refine .inr ⟨(List.lookup x env.cells).getD 0, ?_⟩
        rw [if_pos (by rfl), List.lookup_cons, beq_self_eq_true]
      · exact .inl e
    · exact .inr (keep h)
theorem rel_kind {env : Env} : ∀ {names : List (Str × NameKind)} {x : Str} {k : NameKind},
    (names.map fun (n, k) => if (k == NameKind.free && env.scope.kind == .function && env.kindOf n == some .cell) then (n, NameKind.cell) else (n, k)).lookup x = some k →
    (names.lookup x = some k) ∨ (k = .cell ∧ names.lookup x = some .free)
  | [], _, _, h => by simp at h
  | (n, k') :: r, x, k, h => by
    have ih := @rel_kind env r x k
    have h : List.lookup x ((if (k' == NameKind.free && env.scope.kind == .function && env.kindOf n == some .cell) = true then (n, NameKind.cell) else (n, k')) :: _) = some k := h
    by_cases hc : (k' == NameKind.free && env.scope.kind == .function && env.kindOf n == some .cell) = true
    · rw [if_pos hc, List.lookup_cons] at h
      rw [List.lookup_cons]
      cases hx : x == n with
      | true =>
        rw [hx] at h
        have h' : some NameKind.cell = some k := h
        cases h'
        have : k' = NameKind.free := by
          have := (Bool.and_eq_true _ _).mp ((Bool.and_eq_true _ _).mp hc).1
          simpa using this.1
        subst this
        exact .inr ⟨rfl, rfl⟩
      | false => rw [hx] at h; exact ih h
    · rw [if_neg hc, List.lookup_cons] at h
      rw [List.lookup_cons]
      cases hx : x == n with
      | true => rw [hx] at h; exact .inl h
      | false => rw [hx] at h; exact ih h
def blk (X : Cx) (sc : Scope) (cl : List (Str × Addr)) (C : Addr) (fp : List Addr) (s : Shared) (H : Hp) (N : List Str) : Cx :=
  { X with env := compEnvC sc cl C X.env, N := N, s₀ := s, H₀ := H, outer := X.stack, ex := fp, fn := fun _ => false, pn := [], xe := fun _ _ => False }
structure BlkOk (X : Cx) (sc : Scope) (M tgs : List Str) : Prop where
  kind : sc.kind = .function
  names : ∀ y ∈ sc.names, y.2 = .local → sc.names.lookup y.1 = some .local
  nocell : ∀ y ∈ sc.names, y.2 ≠ .cell
  free : ∀ y ∈ sc.names, y.2 = .free → X.env.kindOf y.1 = some .cell ∨ X.env.kindOf y.1 = some .free
  len : M.length = X.N.length
  same : ∀ p ∈ M.zip X.N, p.1 = p.2 ∨ p.1 = ("" : Str)
  dummy : sc.names.lookup ("" : Str) = none
  hid : ∀ x ∈ M, sc.names.lookup x ≠ some .local
section
variable {X : Cx}
theorem Inv.blk {pins : List (Addr × Obj)} {σ : St} {H : Hp} {s s4 : Shared} {sc : Scope} {M tgs : List Str} {C : Addr} {fp : List Addr} {m : Str → Option Value} (I : Inv X pins σ H s) (B : BlkOk X sc M tgs) (hf : ∀ b ∈ fp, FpOk X pins H b) (hfl : ∀ b ∈ fp, b < s.heap.objs.size)
    (hC : s.heap.objs.size ≤ C) (hn : s4.heap.Ns C m) (hk : ∀ b o, s.heap.get? b = some o → s4.heap.get? b = some o) (ho : s4.os = s.os) (hg : s4.gens = s.gens) :
    Inv (blk X sc (clF X.env sc.names []) C fp s H (M ++ tgs)) [] (σ ++ List.replicate tgs.length none) H s4 := by
  have hfr : ∀ y ∈ sc.names, y.2 = .free → ∃ c, X.env.cells.lookup y.1 = some c := fun y hy e => I.ok.has _ (B.free y hy e)
  have hsub : ∀ x c, (clF X.env sc.names []).lookup x = some c → X.env.cells.lookup x = some c := clF_sub sc.names [] hfr fun _ _ z => by simp at z
  have hin : ∀ x c, (clF X.env sc.names []).lookup x = some c → c < s.heap.objs.size := fun x c e => by
    obtain ⟨v, q⟩ := I.cell x c (hsub x c e)
    exact q.lt
  have hfree : ∀ x, ((relabel sc X.env).names.lookup x = some .cell ∨ (relabel sc X.env).names.lookup x = some .free) → sc.names.lookup x = some .free := fun x hx => by
    rcases hx with q | q
    · rcases rel_kind q with z | z
      · exact absurd rfl (B.nocell _ (PySem.mem_of_lookup z))
      · exact z.2
    · rcases rel_kind q with z | z
      · exact z
      · exact absurd z.1 (by decide)
  refine ⟨⟨I.ok.mod, B.kind, I.ok.glob, I.ok.blt, hC, fun x y c h1 h2 => I.ok.inj x y c (hsub x c h1) (hsub y c h2), fun x hx => ?_, fun x c z => absurd z Bool.false_ne_true, I.ok.hd, I.ok.frames, .inl rfl, fun b hb => ⟨?_, fun x c e => ?_⟩, I.bs, ?_, fun b o e z => ?_, fun b hb => ?_, I.stack, I.stkFree⟩,
    ho, ?_, Un.kept hk, ⟨m, hn, fun i x v h1 h2 h3 => ?_⟩, fun x c e => ?_, I.hok.fresh hC, fun x c e => I.freeC x c (hsub x c e), fun p hp => absurd (show p ∈ ([] : List (Addr × Obj)) from hp) (by simp), I.hok.kept hk, ?_⟩
  · exact clF_has sc.names [] x (.inl (PySem.mem_of_lookup (hfree x hx)))
  · exact Nat.ne_of_lt (Nat.lt_of_lt_of_le (hfl b hb) hC)
  · exact (hf b hb).2.2.2.2.1 x c (hsub x c e)
  · exact Nat.le_trans I.ok.bsz I.sz
  · rcases (hf b z).2.2.2.1 with q | q
    · exact I.ok.noex b o e q
    · exact absurd (Nat.lt_of_lt_of_le (Heap.lt_size e) I.ok.bsz) (Nat.not_lt.mpr q)
  · intro z
    rcases List.mem_cons.mp (I.stkSub b z) with q | q
    · exact (hf b hb).2.1 q
    · exact (hf b hb).2.2.1 q
  · rw [hg]; exact I.bare
  · have hl : M.length = σ.length := B.len.trans I.len.symm
    have hi : i < σ.length := by
      by_cases hi : i < σ.length
      · exact hi
      · rw [List.getElem?_append_right (by omega), List.getElem?_replicate] at h2
        split at h2 <;> cases h2
    rw [List.getElem?_append_left hi] at h2
    have h1 : (M ++ tgs)[i]? = some x := h1
    rw [List.getElem?_append_left (by omega)] at h1
    have hmem : x ∈ M := List.mem_of_getElem? h1
    have hx : sc.names.lookup x = some .free := by
      rcases h3 with q | q | q
      · rcases rel_kind q with z | z
        · exact absurd z (B.hid x hmem)
        · exact absurd z.1 (by decide)
      · exact hfree x (.inl q)
      · exact hfree x (.inr q)
    have hNi : X.N[i]? = some x := by
      have hi2 : i < X.N.length := by rw [← I.len]; exact hi
      have hz : (M.zip X.N)[i]? = some (x, X.N[i]) := by
        rw [List.getElem?_zip_eq_some]
        exact ⟨h1, List.getElem?_eq_getElem hi2⟩
      rcases B.same _ (List.mem_of_getElem? hz) with q | q
      · have q' : x = X.N[i] := q
        rw [List.getElem?_eq_getElem hi2, q']
      · have q' : x = ("" : Str) := q
        rw [q', B.dummy] at hx
        cases hx
    have hk2 := B.free (x, .free) (PySem.mem_of_lookup hx) rfl
    obtain ⟨m0, _, hl0⟩ := I.loc
    obtain ⟨u, r, l⟩ := hl0 i x v hNi h2 (.inr hk2)
    refine ⟨u, r, .inr ?_⟩
    rcases l with ⟨k, _⟩ | ⟨_, c, ec, hcell⟩
    · have k' : X.env.kindOf x = some .local := k
      rcases hk2 with q | q
      · have q' : X.env.kindOf x = some .cell := q
        rw [k'] at q'; cases q'
      · have q' : X.env.kindOf x = some .free := q
        rw [k'] at q'; cases q'
    · obtain ⟨c', ec'⟩ := clF_has (env := X.env) sc.names [] x (.inl (PySem.mem_of_lookup hx))
      have : c' = c := by
        have := hsub x c' ec'
        rw [ec] at this
        exact (Option.some.inj this).symm
      subst this
      refine ⟨?_, c', ec', ?_⟩
      · rcases h3 with q | q | q
        · rcases rel_kind q with z | z
          · rw [hx] at z; cases z
          · exact absurd z.1 (by decide)
        · exact .inl q
        · exact .inr q
      · obtain ⟨o, e1, e2⟩ := hcell
        exact ⟨o, hk _ _ e1, e2⟩
  · obtain ⟨v, o, e1, e2⟩ := I.cell x c (hsub x c e)
    exact ⟨v, o, hk _ _ e1, e2⟩
  · show (σ ++ _).length = (M ++ tgs).length
    rw [List.length_append, List.length_append, List.length_replicate, B.len, I.len]
def PIfs (X : Cx) (ifs : List Expr) (t : TT) : Prop :=
  ∀ (pins : List (Addr × Obj)) (s : Shared) (σ : St) (H : Hp) (Q : Bool → Hp → Prop), Inv X pins σ H s → t σ H Q →
    wpAny (model X.prog X.w) X.A (forIn ifs true fun c r => if r = true then do let ok ← isTrue c X.env (eval c X.env); pure (ForInStep.yield ok) else pure (ForInStep.yield r)) (TP X pins σ Q) X.xe s
def tNoIf : TT := fun _ H Q => Q true H
theorem pif0 : PIfs X [] tNoIf := fun pins s σ H Q I h => wpAny_tests_nil ⟨H, I, h⟩
theorem pif1 {c : Expr} {t : TT} (h : PT X c t) : PIfs X [c] t := fun pins s σ H Q I hw => wpAny_tests_one (h pins s σ H Q I hw)
theorem compLoop_gen {prog : Program} {w : World} {A : Around} {R : Result → Shared → Prop} {s : Shared} {elt target iter : Expr} {ifs : List Expr} {scope : Scope} {pos : Pos} {it acc : Value} {env : Env} (I : Nat → Shared → Prop)
    (turn : ∀ n s, I n s → wpAny (model prog w) A (pyNext it) (fun r s₁ => match r with
      | none => R (.ok .next) s₁
      | some v => wpAny (model prog w) A (letOwnedTupleGo target it v) (fun _ s₁' => wpAny (model prog w) A (assign target env v) (fun _ s₂ =>
          wpAny (model prog w) A (forIn ifs true fun c r => if r = true then do let ok ← isTrue c env (eval c env); pure (ForInStep.yield ok) else pure (ForInStep.yield r)) (fun ok s₃ =>
            if ok = true then wpAny (model prog w) A (eval elt env) (fun x s₄ =>
              wpAny (model prog w) A (call (.builtin "list.append") [acc, x]) (fun _ s₅ => ∃ m, m < n ∧ I m s₅) (fun _ _ => False) s₄) (fun _ _ => False) s₃
            else ∃ m, m < n ∧ I m s₃) (fun _ _ => False) s₂) (fun _ _ => False) s₁') (fun _ _ => False) s₁) (fun _ _ => False) s)
    (n : Nat) (h : I n s) :
    codeAny (model prog w) A (.compLoop (.ListComp elt [⟨target, iter, ifs, 0⟩] scope pos) 0 it acc env) R s := by
  refine codeAny_loop rfl I (fun n s hI => ?_) n h
  show wpAny _ A ((compTurn (.ListComp elt [⟨target, iter, ifs, 0⟩] scope pos) 0 it acc env).onRaise (fun x => do noteFrame x env; theTreesLotGoes x)) _ _ s
  refine wpAny_noted ?_
  rw [compTurn_list]
  refine wpAny_bind (wpAny_standAt (wpAny_bind (wpAny_mono (turn n s hI) (fun r s₁ h₁ => ?_) fun _ _ z => z.elim)))
  cases r with
  | none => exact wpAny_pure h₁
  | some v =>
    refine wpAny_bind (wpAny_mono h₁ (fun _ s₁' h₁' => ?_) fun _ _ z => z.elim)
    refine wpAny_bind (wpAny_mono h₁' (fun _ s₂ h₂ => wpAny_bind (wpAny_mono h₂ (fun ok s₃ h₃ => ?_) fun _ _ z => z.elim)) fun _ _ z => z.elim)
    cases ok with
    | false => exact wpAny_pure ⟨rfl, h₃⟩
    | true =>
      exact wpAny_bind (wpAny_bind (wpAny_mono h₃ (fun x s₄ h₄ => wpAny_bind (wpAny_mono h₄ (fun _ s₅ h₅ => wpAny_pure (wpAny_pure ⟨rfl, h₅⟩)) fun _ _ z => z.elim)) fun _ _ z => z.elim))
def CompW (J : It) (k : Nat) (g : TG) (tt : TT) (te : TE) (σ : St) (Q : VK) (H1 : Hp) : Prop := ∃ W : Nat → Nat → List V → Hp → Prop, (∃ m, W 0 m [] H1) ∧ ∀ i m ys H, W i m ys H → ys.length ≤ sizeLine ∧
  ((J.stop i H ∧ ∀ l, H l = none → Q (.ref l) (upd H l (.lst ys))) ∨ (J.go i H ∧ ∀ x H', J.yld i H x H' → g x (σ ++ List.replicate k none) H' fun σ2 H2 => σ2.take σ.length = σ ∧ tt σ2 H2 fun b H3 =>
    if b = true then te σ2 H3 fun y H4 => ∃ m', m' < m ∧ W (i + 1) m' (ys ++ [y]) H4 else ∃ m', m' < m ∧ W (i + 1) m' ys H3))
def tComp (wi : TI) (k : Nat) (g : TG) (tt : TT) (te : TE) : TE := fun σ H Q => wi σ H fun J H1 => CompW J k g tt te σ Q H1
theorem HOk.track {P : Program} {w : World} {H : Hp} {h : Heap} {a : Addr} {o : HO} (x : HOk P w H h) (hn : H a = none) (new : ObjOk P w (upd H a o) h a o) : HOk P w (upd H a o) h := fun b u e => by
  by_cases hb : b = a
  · subst hb
    rw [upd_same] at e
    cases e
    exact new
  · rw [upd_ne hb] at e
    exact (x b u e).stay (fun _ _ _ q => q) (fun c q => by rw [upd_ne (ne_of_none q hn)]; exact q) fun c xs q => by rw [upd_ne (ne_of_none q hn)]; exact q
theorem st_back {σ σ' : St} {k : Nat} (h : σ'.take σ.length = σ) : ∀ (i : Nat) v, (σ ++ List.replicate k (none : Option V))[i]? = some (some v) → σ'[i]? = some (some v) := fun i v e => by
  by_cases hi : i < σ.length
  · rw [List.getElem?_append_left hi, ← h, List.getElem?_take_of_lt hi] at e
    exact e
  · rw [List.getElem?_append_right (by omega), List.getElem?_replicate] at e
    split at e <;> cases e
theorem pe_comp {elt tg iter : Expr} {ifs : List Expr} {sc : Scope} {M tgs : List Str} {pos : Pos} {wi : TI} {g : TG} {tt : TT} {te : TE} (hc : X.calm = true) (B : BlkOk X sc M tgs) (hi : PI X tg iter wi)
    (hg : ∀ cl C fp s H, PG (blk X sc cl C fp s H (M ++ tgs)) tg g) (ht : ∀ cl C fp s H, PIfs (blk X sc cl C fp s H (M ++ tgs)) ifs tt) (he : ∀ cl C fp s H, PE (blk X sc cl C fp s H (M ++ tgs)) elt te)
    (hs : ∀ x, foldedSetIterable iter X.env x = pure x := by intro _; rfl) : PE X (.ListComp elt [⟨tg, iter, ifs, 0⟩] sc pos) (tComp wi tgs.length g tt te) := by
  intro pins s σ H Q I h
  have hfr : ∀ y ∈ sc.names, y.2 = .free → ∃ c, X.env.cells.lookup y.1 = some c := fun y hy e => I.ok.has _ (B.free y hy e)
  have hsub : ∀ x c, (clF X.env sc.names []).lookup x = some c → X.env.cells.lookup x = some c := clF_sub sc.names [] hfr fun _ _ z => by simp at z
  rw [eval_ListComp]
  refine wpAny_comprehension_free (use := none) rfl hs (closure_eq hfr) B.kind B.names (thn (hi pins s σ H _ I h) fun xv s₁ h₁ => thn h₁ fun itv s₂ h₂ => ?_)
  obtain ⟨it, fp, tn, J, H2, rfl, I2, T, st2, f2, W, ⟨m0, w0⟩, turn⟩ := h₂
  have hfl : ∀ b ∈ fp, b < s₂.heap.objs.size := fun b hb => by
    obtain ⟨o, e, _⟩ := T.obj _ _ st2 b hb
    exact Heap.lt_size e
  refine wpAny_newObj_type (wpAny_newFunctionEnv B.nocell (by intro y hy; simp at hy) (fun h₁ hns₁ hsb₁ => ?_) B.kind)
  dsimp only at hns₁ hsb₁ ⊢
  generalize hH2 : s₂.heap.push { cls := .type "list", dict := none, data := .seq ([] : List Value).toArray } = HH at hns₁ hsb₁ ⊢
  have hC : HH.objs.size = s₂.heap.objs.size + 1 := by rw [← hH2, Heap.size_push]
  generalize hCC : HH.objs.size = C at hC hns₁ hsb₁ ⊢
  generalize hDD : s₂.heap.objs.size = D at hC ⊢
  have hDC : D ≠ C := by omega
  have below : ∀ b, b < D → b ≠ C ∧ b ≠ D := fun b hb => ⟨by omega, by omega⟩
  have old : ∀ b o, s₂.heap.get? b = some o → h₁.get? b = some o := fun b o e => hsb₁.extBut b o (below b (hDD ▸ Heap.lt_size e)).1 (Heap.get?_push_of_some _ (hH2 ▸ Heap.get?_push_of_some _ e))
  have hacc : h₁.PlainList D #[] := ⟨_, hsb₁.extBut _ _ hDC (Heap.get?_push_of_some _ (by rw [← hH2, ← hDD]; exact Heap.get?_push_size _ rfl))⟩
  have hCs : s₂.heap.objs.size ≤ C := by omega
  generalize hS4 : ({ s₂ with heap := h₁, toks := s₂.toks + ([] : List (Str × Value)).length } : Shared) = s₄
  have I4 : Inv (blk X sc (clF X.env sc.names []) C fp s₂ H2 (M ++ tgs)) [] (σ ++ List.replicate tgs.length none) H2 s₄ :=
    I2.blk B f2 hfl hCs (by rw [← hS4]; exact hns₁) (by rw [← hS4]; exact old) (by rw [← hS4]) (by rw [← hS4])
  have hD4 : s₄.heap.PlainList D #[] := by rw [← hS4]; exact hacc
  have st4 : tn 0 s₄.heap := by rw [← hS4]; exact T.keep _ _ _ st2 fun b _ o e => old b o e
  -- what holds through the loop
  let X' := blk X sc (clF X.env sc.names []) C fp s₂ H2 (M ++ tgs)
  have nfs : ∀ b, s₂.heap.objs.size ≤ b → b ∉ frs X.stack := fun b hb z => by
    rcases List.mem_cons.mp (I2.stkSub b z) with q | q
    · rw [q] at hb; exact absurd I2.lt (Nat.not_lt.mpr hb)
    · exact I2.nofs hb q
  have Dpin : ∀ {s' : Shared} {H' : Hp} {its : Array Value} {n : Nat}, s'.heap.get? D = some { cls := .type "list", data := .seq its n } → H' D = none →
      ∀ p ∈ [(D, ({ cls := .type "list", data := .seq its n } : Obj))], s'.heap.get? p.1 = some p.2 ∧ H' p.1 = none ∧ p.1 ≠ X'.env.locals ∧ p.1 ∉ X'.fs ∧ ∀ v, p.2.data ≠ .cell v := fun {s' H' its n} e hn p hp => by
    have e1 : p = (D, ({ cls := .type "list", data := .seq its n } : Obj)) := by simpa using hp
    subst e1
    exact ⟨e, hn, hDC, nfs D (by omega), fun v z => by cases z⟩
  have fpk : ∀ {pl : List (Addr × Obj)} {H' : Hp}, (∀ p ∈ pl, p.1 = D) → (∀ b ∈ fp, H' b = none) → ∀ b ∈ fp, FpOk X' pl H' b := fun {pl H'} hpl hn b hb => by
    refine ⟨hn b hb, (below b (hDD ▸ hfl b hb)).1, fun z => ?_, .inl hb, fun x c e => (f2 b hb).2.2.2.2.1 x c (hsub x c e), fun p hp => ?_⟩
    · rcases List.mem_cons.mp (I2.stkSub b z) with q | q
      · exact (f2 b hb).2.1 q
      · exact (f2 b hb).2.2.1 q
    · have hp' : p ∈ pl := by simpa [X', blk] using hp
      rw [hpl p hp']
      exact Ne.symm (below b (hDD ▸ hfl b hb)).2
  have cellD : ∀ x c, X'.env.cells.lookup x = some c → c ≠ D := fun x c e z => by
    obtain ⟨v, q⟩ := I2.cell x c (hsub x c e)
    have q := q.lt
    rw [z, hDD] at q
    exact Nat.lt_irrefl _ q
  have loop : codeAny (model X.prog X.w) X.A (.compLoop (.ListComp elt [⟨tg, iter, ifs, 0⟩] sc pos) 0 (.ref it) (.ref D) (compEnvC sc (clF X.env sc.names []) C X.env))
      (compPost (model X.prog X.w) X.A X.xe none (EP X pins σ Q) (.ref D) C) s₄ := by
    refine compLoop_gen (fun n s' => ∃ i ys its k H', Inv X' [(D, { cls := .type "list", data := .seq its k })] (σ ++ List.replicate tgs.length none) H' s' ∧ Vals ys its.toList ∧ tn i s'.heap ∧ (∀ b ∈ fp, H' b = none) ∧ W i n ys H') ?_ m0 ?_
    · rintro n s5 ⟨i, ys, its, k, H5, I5, hv, st5, fr5, w5⟩
      obtain ⟨hz, w5⟩ := turn i n ys H5 w5
      have hD5 := I5.pin (D, { cls := .type "list", data := .seq its k }) (List.mem_append_right _ (by simp))
      have one : ∀ p ∈ [(D, ({ cls := .type "list", data := .seq its k } : Obj))], p.1 = D := fun p hp => by
        have : p = (D, ({ cls := .type "list", data := .seq its k } : Obj)) := by simpa using hp
        rw [this]
      rcases w5 with ⟨stop, qn⟩ | ⟨go, step⟩
      · refine thn (T.done X' rfl rfl rfl hc i _ s5 _ H5 _ I5 (fpk one fr5) st5 stop) fun r s6 ⟨hr, I6⟩ => ?_
        subst hr
        obtain ⟨m6, hn6, _⟩ := I6.loc
        refine ⟨m6, hn6, fun h7 hs7 => ?_⟩
        have hs7 : Heap.SameBut C s6.heap h7 := hs7
        obtain ⟨e6, n6, _⟩ := I6.pin (D, { cls := .type "list", data := .seq its k }) (List.mem_append_right _ (by simp))
        have hC6 : H5 C = none := I6.free
        have ok7 : HOk X.prog X.w H5 h7 := fun b o e => (I6.hok b o e).stay (fun c w' hc' q => (hs7.2 c (by
          rintro rfl
          rcases hc' with rfl | hc'
          · rw [hC6] at e; cases e
          · rw [hC6] at hc'; cases hc')).trans q) (fun _ q => q) fun _ _ q => q
        have e7 : h7.get? D = some { cls := .type "list", data := .seq its k } := (hs7.2 D hDC).trans e6
        have hln : ys.length ≤ sizeLine := hz
        have ok8 : HOk X.prog X.w (upd H5 D (.lst ys)) h7 := ok7.track n6 ⟨hln, its.toList, k, hv, by simpa using e7⟩
        have un : Un (frs X.stack) fp H2 H5 s₂.heap s6.heap := I6.base
        have neC : ∀ b o, s₂.heap.get? b = some o → b ≠ C ∧ b ≠ D := fun b o e => below b (hDD ▸ Heap.lt_size e)
        have un7 : Un (frs X.stack) fp H2 (upd H5 D (.lst ys)) s₂.heap h7 := by
          refine ⟨fun b o e n hb hx => (hs7.2 b (neC b o e).1).trans (un.keep b o e n hb hx), fun b o e n hb hx => ?_, fun b o e n hx => ?_, fun b o e hx => ?_, fun b xs e => ?_, fun b o u e => ?_, fun b ps e => ?_⟩
          · obtain ⟨sl, q⟩ := un.slot b o e n hb hx
            exact ⟨sl, (hs7.2 b (neC b o e).1).trans q⟩
          · rw [upd_ne (neC b o e).2]; exact un.free b o e n hx
          · obtain ⟨o', q⟩ := un.there b o e hx
            exact ⟨o', (hs7.2 b (neC b o e).1).trans q⟩
          · have q := un.tups b xs e
            rw [upd_ne (ne_of_none q n6)]; exact q
          · have q := un.frzs b o u e
            rw [upd_ne (ne_of_none q n6)]; exact q
          · obtain ⟨more, q⟩ := un.tbls b ps e
            exact ⟨more, by rw [upd_ne (ne_of_none q n6)]; exact q⟩
        refine ⟨.ref D, upd H5 D (.lst ys), I2.call' (ch := fp) ?_ un7 ok8 I6.bare (fun b hb => ⟨(f2 b hb).2.2.2.1, (f2 b hb).2.1, (f2 b hb).2.2.2.2.1, (f2 b hb).2.2.2.2.2⟩), rfl, qn D n6⟩
        exact I6.os
      · refine thn (T.item X' rfl rfl rfl hc i _ s5 _ H5 _ I5 (fpk one fr5) st5 go) fun r s6 ⟨u, hr, h6⟩ => ?_
        subst hr
        refine thn h6 fun _ s7 ⟨x, H7, I7, r7, y7, st7, fr7⟩ => ?_
        have I7' := I7.pinned (fpk one fr7) (T.obj _ _ st7)
        refine thn (hg _ _ _ _ _ _ s7 _ H7 x u _ I7' r7 (step x H7 y7)) fun _ s8 ⟨σ8, H8, I8, tk8, q8⟩ => ?_
        refine thn (ht _ _ _ _ _ _ s8 σ8 H8 _ I8 q8) fun b s9 ⟨H9, I9, q9⟩ => ?_
        -- the turn's end, from a state in which nothing but the list has changed
        have weak : ∀ {pl : List (Addr × Obj)} {H' : Hp} {s' : Shared}, Inv X' pl σ8 H' s' → Inv X' pl (σ ++ List.replicate tgs.length none) H' s' := fun {pl H' s'} J => J.weak (by
          have e1 : σ8.length = (M ++ tgs).length := J.len
          rw [e1, List.length_append, List.length_append, List.length_replicate, B.len, I2.len]) (st_back tk8)
        have fin : ∀ {H' : Hp} {s' : Shared}, Inv X' ([(D, { cls := .type "list", data := .seq its k })] ++ pinsAt fp s7.heap) σ8 H' s' → tn (i + 1) s'.heap ∧ ∀ b ∈ fp, H' b = none := fun {H' s'} J => by
          refine ⟨T.keep _ _ _ st7 fun b hb o e => (J.pin (b, o) (List.mem_append_right _ (List.mem_append_right _ (mem_pinsAt hb e)))).1, fun b hb => ?_⟩
          obtain ⟨o, e, d⟩ := T.obj _ _ st7 b hb
          exact (J.pin (b, o) (List.mem_append_right _ (List.mem_append_right _ (mem_pinsAt hb e)))).2.1
        cases b with
        | false =>
          rw [if_neg Bool.false_ne_true] at q9 ⊢
          obtain ⟨m', hm, w9⟩ := q9
          exact ⟨m', hm, i + 1, ys, its, k, H9, weak I9.unpinned, hv, (fin I9).1, (fin I9).2, w9⟩
        | true =>
          rw [if_pos rfl] at q9 ⊢
          refine thn (he _ _ _ _ _ _ s9 σ8 H9 _ I9 q9) fun y s10 ⟨yv, H10, I10, r10, q10⟩ => ?_
          obtain ⟨m', hm, w10⟩ := q10
          obtain ⟨e10, n10, _⟩ := I10.pin (D, { cls := .type "list", data := .seq its k }) (List.mem_append_right _ (List.mem_append_left _ (by simp)))
          have hsz : its.size ≤ sizeLine := by
            have e1 := hv.length
            have e2 : its.toList.length = its.size := by simp
            omega
          refine wpAny_list_append_plain (hsz := hsz) ⟨k, e10⟩ fun h11 hl11 hs11 => ?_
          obtain ⟨k', e11⟩ := hl11
          have J0 : Inv X' [] σ8 H10 s10 := I10.pins_of fun p hp => by simp at hp
          have J1 : Inv X' [] σ8 H10 { s10 with heap := h11 } := J0.turned (t' := s10.toks) (it := D) (fun b o hb e => (hs11.2 b hb).trans e) n10 hDC (.inr (by show s₂.heap.objs.size ≤ D; omega)) cellD (fun p hp => by
            have hp' : p ∈ ([] : List (Addr × Obj)) := by simpa [X', blk] using hp
            simp at hp')
          have J2 : Inv X' [(D, { cls := .type "list", data := .seq (its.push y) k' })] σ8 H10 { s10 with heap := h11 } := J1.pins_of (Dpin e11 n10)
          refine ⟨m', hm, i + 1, ys ++ [yv], its.push y, k', H10, weak J2, ?_, ?_, (fin I10).2, w10⟩
          · rw [Array.toList_push]
            exact hv.append (.cons r10 .nil)
          · refine T.keep _ _ _ (fin I10).1 fun b hb o e => (hs11.2 b ?_).trans e
            exact (below b (hDD ▸ hfl b hb)).2
    · obtain ⟨k, e⟩ := hD4
      exact ⟨0, [], #[], k, H2, I4.pins_of (Dpin e (I2.hok.fresh (by omega))), .nil, st4, fun b hb => (f2 b hb).1, w0⟩
  exact codeAny_compStart_list loop (T.self _ _ _ _ _ st4 loop)
end
end L2
namespace HT
open PySem PySem.Spec PyProof.Rows PySem.SeqAt
section
open PySem.SeqAt
open PySem.AutoSeq1 (wpAny_loadPart')
open PySem.MeetsSeq PySem.MeetsSeq2 PySem.MeetsSeq3
end
section
variable {prog : Program} {w : World} {A : Around} {E : Value → Shared → Prop} {s : Shared}
end
end HT
namespace L2
open PySem PySem.Spec PyProof.Rows
section
variable {X : Cx}
def kindV (K : PySem.W.Frag) (H : Hp) (T : String) : V → Prop
  | .non => T = "NoneType"
  | .bl _ => T = "bool"
  | .int _ => T = "int"
  | .str _ => T = "str"
  | .ref p => (T = "list" ∧ ∃ xs, SqL K H p xs) ∨ (T = "tuple" ∧ ∃ xs, SqT K H p xs) ∨ (T = "dict" ∧ ((∃ kvs, H p = some (.dK kvs)) ∨ ∃ kvs, H p = some (.dT kvs)))
  | _ => False
def isiB (T C : String) : Bool := T == C || (T == "bool" && C == "int")
def isiC (C : String) : Prop := C = "int" ∨ C = "bool" ∨ C = "tuple" ∨ C = "list" ∨ C = "str"
def rIsi (K : PySem.W.Frag) : List V → Hp → VK → Prop := fun xs H Q => ∃ x T C, xs = [x, .ty C] ∧ isiC C ∧ kindV K H T x ∧ Q (.bl (isiB T C)) H
theorem call_isi : CallR X (.builtin "isinstance") (rIsi X.K) := by
  intro pins s σ H xs us Q I r h
  obtain ⟨x, T, C, rfl, hC, hk, q⟩ := h
  obtain ⟨u, w', rfl, rx, rc⟩ := vals2 r
  cases rc
  have fin : ∀ (b : Bool) (t : Nat), b = isiB T C → EP X pins σ Q (.bool b) { s with toks := t } := fun b t e => ⟨.bl b, H, I.tok t, rfl, by rw [e]; exact q⟩
  have fin0 : ∀ (b : Bool), b = isiB T C → EP X pins σ Q (.bool b) s := fun b e => ⟨.bl b, H, I, rfl, by rw [e]; exact q⟩
  cases x with
  | non =>
    cases rx
    cases (show T = "NoneType" from hk)
    rcases hC with rfl | rfl | rfl | rfl | rfl
    · exact IsiPair.NoneType_int (fin _ _ rfl)
    · exact IsiPair.NoneType_bool (fin _ _ rfl)
    · exact IsiPair.NoneType_tuple (fin _ _ rfl)
    · exact IsiPair.NoneType_list (fin _ _ rfl)
    · exact IsiPair.NoneType_str (fin _ _ rfl)
  | bl b =>
    cases rx
    cases (show T = "bool" from hk)
    rcases hC with rfl | rfl | rfl | rfl | rfl
    · exact IsiPair.bool_int (fin0 _ rfl)
    · exact IsiPair.bool_bool (fin0 _ rfl)
    · exact IsiPair.bool_tuple (fin _ _ rfl)
    · exact IsiPair.bool_list (fin _ _ rfl)
    · exact IsiPair.bool_str (fin _ _ rfl)
  | int i =>
    obtain ⟨t, rfl⟩ := rx
    cases (show T = "int" from hk)
    rcases hC with rfl | rfl | rfl | rfl | rfl
    · exact IsiPair.int_int (fin0 _ rfl)
    · exact IsiPair.int_bool (fin _ _ rfl)
    · exact IsiPair.int_tuple (fin _ _ rfl)
    · exact IsiPair.int_list (fin _ _ rfl)
    · exact IsiPair.int_str (fin _ _ rfl)
  | str z =>
    obtain ⟨t, rfl⟩ := rx
    cases (show T = "str" from hk)
    rcases hC with rfl | rfl | rfl | rfl | rfl
    · exact IsiPair.str_int (fin _ _ rfl)
    · exact IsiPair.str_bool (fin _ _ rfl)
    · exact IsiPair.str_tuple (fin _ _ rfl)
    · exact IsiPair.str_list (fin _ _ rfl)
    · exact IsiPair.str_str (fin0 _ rfl)
  | ref p =>
    cases rx
    rcases hk with ⟨rfl, xs, hq⟩ | ⟨rfl, xs, hq⟩ | ⟨rfl, hk⟩
    · obtain ⟨its, _, pl, _⟩ := I.list hq
      obtain ⟨o, n, e, c, hd, _⟩ := pl
      rcases hC with rfl | rfl | rfl | rfl | rfl
      · exact IsiPair.list_int e c (fin _ _ rfl)
      · exact IsiPair.list_bool e c (fin _ _ rfl)
      · exact IsiPair.list_tuple e c (fin _ _ rfl)
      · exact IsiPair.list_list e c (fin0 _ rfl)
      · exact IsiPair.list_str e c (fin _ _ rfl)
    · obtain ⟨its, _, ⟨o, e, c, _⟩, _⟩ := I.tuple hq
      rcases hC with rfl | rfl | rfl | rfl | rfl
      · exact IsiPair.tuple_int e c (fin _ _ rfl)
      · exact IsiPair.tuple_bool e c (fin _ _ rfl)
      · exact IsiPair.tuple_tuple e c (fin0 _ rfl)
      · exact IsiPair.tuple_list e c (fin _ _ rfl)
      · exact IsiPair.tuple_str e c (fin _ _ rfl)
    · have z : ∃ o, s.heap.get? p = some o ∧ o.cls = .type "dict" := by
        rcases hk with ⟨kvs, hk⟩ | ⟨kvs, hk⟩
        · obtain ⟨_, _, _, _, o, _, _, e, ex, _⟩ := I.hok p _ hk
          exact ⟨o, e, ex.1⟩
        · obtain ⟨_, _, _, _, o, _, _, e, ex, _⟩ := I.hok p _ hk
          exact ⟨o, e, ex.1⟩
      obtain ⟨o, e, c⟩ := z
      rcases hC with rfl | rfl | rfl | rfl | rfl
      · exact IsiPair.dict_int e c (fin _ _ rfl)
      · exact IsiPair.dict_bool e c (fin _ _ rfl)
      · exact IsiPair.dict_tuple e c (fin _ _ rfl)
      · exact IsiPair.dict_list e c (fin _ _ rfl)
      · exact IsiPair.dict_str e c (fin _ _ rfl)
  | _ => exact False.elim hk
end
end L2
namespace RawD
open PySem PySem.Spec PyProof.Rows PySem.W
def At (h : Heap) (d : Addr) (es : Array DictEntry) (ep : Nat) : Prop := ∃ o, h.get? d = some o ∧ o.ExactDict ∧ o.data = .dict es ep
theorem At.ty {s : Shared} {d : Addr} {es : Array DictEntry} {ep : Nat} (x : At s.heap d es ep) : s.TypeIs (.ref d) "dict" := let ⟨o, a, b, _⟩ := x; ⟨o, a, b.1⟩
section
variable {prog : Program} {w : World} {A : Around} {E : Value → Shared → Prop} {s : Shared} {d it : Addr} {es : Array DictEntry} {ep i : Nat}
end
end RawD
namespace RawD
open PySem PySem.Spec PyProof.Rows PySem.W
section
variable {prog : Program} {w : World} {A : Around} {E : Value → Shared → Prop} {s : Shared} {d : Addr} {es : Array DictEntry} {ep : Nat}
theorem meets_len (lo : (d == sysModules) = false) :
    MeetsIn prog w (Builtin.«dict.__len__» ⟨[.ref d], []⟩) (fun _ R s => ∃ es ep, At s.heap d es ep ∧ R (.ok (.ret (.int es.size s.toks))) { s with toks := s.toks + 1 }) :=
  .of_wp fun A R s hZ => by
    obtain ⟨es, ep, x, h⟩ := hZ
    obtain ⟨o, a1, a2, a3⟩ := x
    show wpAny _ _ (dictSize d >>= _) _ _ s
    unfold dictSize
    refine wpAny_bind (wpAny_bind (wpAny_dictEntries a1 a3 (wpAny_pure ?_)))
    show wpAny _ _ (Builtin.Dict.pendingCount d >>= _) _ _ s
    refine wpAny_bind (wpAny_pendingCount_other lo (wpAny_ret_mkInt ?_))
    rw [Nat.add_zero]; exact h
theorem len {Q : Value → Shared → Prop} (lo : (d == sysModules) = false) (x : At s.heap d es ep) (fit : (es.size : Int) < 2 ^ 63)
    (h : Q (.int es.size (s.toks + 1)) { s with toks := s.toks + 1 + 1 }) : wpAny (model prog w) A (call (.builtin "len") [.ref d]) Q E s := by
  refine Calls.call_function_entry kind_len plain_len entry_len (args_len1 _) ?_
  unfold Builtin.«len»
  refine wpAny_bind (m := oneArg "len" _) (wpAny_pure ?_)
  refine wpAny_bind (m := callSpecial? (.ref d) (Str.ofString "__len__")) (wpAny_callSpecial?_slot (name := Str.ofString "__len__") x.ty F.slot_dict_len
    (call_meetsIn F.slot_dict_len x.ty F.entry_dict_len (F.args_dict_len_1 _) (meets_len lo) ⟨es, ep, x, ?_⟩))
  show wpAny _ _ _ _ _ { s with toks := s.toks + 1 }
  refine wpAny_bind (wpAny_holding (wpAny_pure (wpAny_bind (wpAny_letGo ?_))))
  show wpAny _ _ (if ((es.size : Nat) : Int) < 0 then _ else _) _ _ _
  rw [if_neg (by omega)]
  show wpAny _ _ (if ((es.size : Nat) : Int) ≥ 2 ^ 63 then _ else _) _ _ _
  rw [if_neg (by omega)]
  exact wpAny_bind (wpAny_mkInt (wpAny_pure ⟨_, rfl, h⟩))
end
end RawD
namespace L2
open PySem PySem.Spec PyProof.Rows
section
variable {X : Cx}
theorem raw_dT {P : Program} {w : World} {H : Hp} {h : Heap} {a : Addr} {kvs : List (List Key × V)} (ok : HOk P w H h) (e : H a = some (.dT kvs)) :
    kvs.length ≤ sizeLine ∧ (a == sysModules) = false ∧ (kvs.map (·.1)).Nodup ∧ ∃ es ep, RawD.At h a es ep ∧ es.size = kvs.length ∧ ∀ i (hi : i < es.size), ∃ b k v, es[i].key = .ref b ∧ kvs[i]? = some (k, v) ∧ H b = some (.tup (k.map kV)) := by
  obtain ⟨z, y, xs, r, o, es, ep, h1, h2, h3, h4, h5⟩ := (show ObjOk P w H h a (.dT kvs) from ok a _ e)
  have hl := r.length
  have hl2 : es.size = xs.length := by
    have := congrArg List.length h4
    simpa using this
  have keys : ∀ {l : List (List Key × V)} {m : List (List Key × Addr × Value)},
      Paired (fun (p : List Key × V) (q : List Key × Addr × Value) => p.1 = q.1 ∧ H q.2.1 = some (.tup (p.1.map kV)) ∧ RelV p.2 q.2.2) l m → l.map (·.1) = m.map (·.1) := by
    intro l m pr
    induction pr with
    | nil => rfl
    | cons hd _ ih => rw [List.map_cons, List.map_cons, ih, hd.1]
  refine ⟨z, y, by rw [keys r]; exact h5, es, ep, ⟨o, h1, h2, h3⟩, hl2.trans hl.symm, fun i hi => ?_⟩
  have hx : i < xs.length := by omega
  have get : ∀ {l : List (List Key × V)} {m : List (List Key × Addr × Value)} {i : Nat} {q : List Key × Addr × Value},
      Paired (fun (p : List Key × V) (q : List Key × Addr × Value) => p.1 = q.1 ∧ H q.2.1 = some (.tup (p.1.map kV)) ∧ RelV p.2 q.2.2) l m → m[i]? = some q → ∃ p, l[i]? = some p ∧ p.1 = q.1 ∧ H q.2.1 = some (.tup (p.1.map kV)) := by
    intro l m i q pr
    induction pr generalizing i with
    | nil => intro e; simp at e
    | cons hd _ ih =>
      intro e
      cases i with
      | zero => simp at e; subst e; exact ⟨_, rfl, hd.1, hd.2.1⟩
      | succ i => simp at e; exact ih e
  obtain ⟨p, e1, _, e2⟩ := get (i := i) r (List.getElem?_eq_getElem hx)
  refine ⟨xs[i].2.1, p.1, p.2, ?_, e1, e2⟩
  have : es[i] = entryOfKey (tupleKind (mixKind P w)) xs[i] := by
    have q : es.toList[i]? = some (entryOfKey (tupleKind (mixKind P w)) xs[i]) := by rw [h4]; simp [hx]
    rw [Array.getElem?_toList, Array.getElem?_eq_getElem hi] at q
    exact Option.some.inj q
  rw [this]
  rfl
theorem call_lenT : CallR X (.builtin "len") (fun xs H Q => ∃ a kvs, xs = [V.ref a] ∧ H a = some (.dT kvs) ∧ Q (.int kvs.length) H) := by
  intro pins s σ H xs us Q I r h
  obtain ⟨a, kvs, rfl, ha, q⟩ := h
  obtain ⟨u, rfl, ru⟩ := vals1 r
  cases ru
  obtain ⟨z, lo, _, es, ep, x, hl, _⟩ := raw_dT I.hok ha
  exact RawD.len lo x (by rw [hl]; rw [sizeLine_eq] at z; omega) ⟨.int kvs.length, H, I.tok _, ⟨_, by rw [hl]⟩, q⟩
theorem all_range : ∀ (bs : List Bool), (List.range bs.length).all (fun i => bs.getD i false) = bs.all id := fun bs => by
  rw [Bool.eq_iff_iff]
  simp only [List.all_eq_true, List.mem_range]
  constructor
  · intro h b hb
    obtain ⟨i, hi, e⟩ := List.mem_iff_getElem.mp hb
    have := h i hi
    rw [List.getD_eq_getElem?_getD, List.getElem?_eq_getElem hi, e] at this
    exact this
  · intro h i hi
    rw [List.getD_eq_getElem?_getD, List.getElem?_eq_getElem hi]
    exact h _ (List.getElem_mem hi)
theorem call_all (hc : X.calm = true) : CallR X (.builtin "all") (fun xs H Q => ∃ (p : Addr) (bs : List Bool), xs = [V.ref p] ∧ SqL X.K H p (bs.map V.bl) ∧ Q (.bl (bs.all id)) H) := by
  intro pins s σ H xs us Q I r h
  obtain ⟨p, bs, rfl, hq, q⟩ := h
  obtain ⟨u, rfl, ru⟩ := vals1 r
  cases ru
  obtain ⟨its, rv, pl, hz⟩ := I.list hq
  have hlen := rv.length
  rw [List.length_map] at hlen
  have hlt : p < s.heap.objs.size := by
    obtain ⟨o, n, e, _⟩ := pl
    exact Heap.lt_size e
  refine call_all_walk (wpAny_pyIter_list pl.isList ⟨s.heap.objs.size, _, _, its.toArray.size, _, _, fun i => bs.getD i false, rfl, Walks.list (show X.A.in1.handled = none from I.ok.hd hc) s.heap.objs.size p (Nat.ne_of_lt hlt) its.toArray,
    ⟨⟨_, Heap.get?_push_size _ rfl, rfl, rfl⟩, pl.isList.at fun o e => Heap.get?_push_of_some _ e⟩, fun i v s' Q' E' hP hQ' => ?_, fun h' tk hk => ?_⟩)
  · have hP : its.toArray[i]? = some v := hP
    have hi : i < bs.length := by
      have := (Array.getElem?_eq_some_iff.mp hP).1
      rw [List.size_toArray] at this
      omega
    obtain ⟨u, e1, e2⟩ := rv.get (i := i) (x := V.bl bs[i]) (by simp [hi])
    have : v = .bool bs[i] := by
      rw [show its.toArray[i]? = its[i]? by simp, e1] at hP
      cases hP
      exact e2
    subst this
    have hQ' : Q' (bs.getD i false) s' := hQ'
    rw [show bs.getD i false = bs[i] by simp [List.getD_eq_getElem?_getD, hi]] at hQ'
    exact wpAny_truthy_bool hQ'
  · refine ⟨.bl (bs.all id), H, ?_, ?_, q⟩
    · exact I.kept (h' := h') (t' := tk) fun b o e => hk b o (by have := Heap.lt_size e; simp; exact Nat.ne_of_lt this) (Heap.get?_push_of_some _ e)
    · show Value.bool _ = Value.bool _
      rw [List.size_toArray, ← hlen, all_range]
theorem place_in (lo hi i : Int) : (Builtin.Range.rangePlace? lo hi 1 i).isSome = decide (lo ≤ i ∧ i < hi) := by
  unfold Builtin.Range.rangePlace?
  by_cases h : lo ≤ i ∧ i < hi
  · rw [decide_eq_true h]
    simp [h.1, h.2, Int.emod_one]
  · rw [decide_eq_false h]
    by_cases h1 : lo ≤ i
    · have h2 : ¬ i < hi := fun q => h ⟨h1, q⟩
      simp [h1, h2]
    · simp [h1]
section
open PySem.SeqAt
open PySem.AutoSeq1 (wpAny_loadPart')
open PySem.MeetsSeq PySem.MeetsSeq2 PySem.MeetsSeq3
theorem range_has (l : Addr) (lo hi i : Int) (a b c t : Tok) : Meets (Builtin.«range.__contains__» ⟨[.ref l, .int i t], []⟩)
    (fun _ R s => s.heap.get? l = some { cls := .type "range", data := .fields #[.int lo a, .int hi b, .int 1 c] } ∧ R (.ok (.ret (.bool (decide (lo ≤ i ∧ i < hi))))) s) :=
  .of_wp fun prog w A R s h => by
    obtain ⟨hp, g, d, tk, os⟩ := s; obtain ⟨hl, h⟩ := h
    rw [← place_in] at h
    wp_walk using wpAny_loadPart' hl
    exact ⟨_, rfl, h⟩
end
def rInR (neg : Bool) : R2 := fun x y H Q => ∃ (l : Addr) (i lo hi : Int), x = .int i ∧ y = .ref l ∧ H l = some (.rng lo hi) ∧ Q (.bl (if neg then !decide (lo ≤ i ∧ i < hi) else decide (lo ≤ i ∧ i < hi))) H
theorem op_inR : OpR X (compareOp .In) (rInR false) := by
  intro pins s σ H x y v u Q I rx ry h
  obtain ⟨l, i, lo, hi, rfl, rfl, hl, q⟩ := h
  obtain ⟨t, rfl⟩ := rx
  cases ry
  obtain ⟨a, b, c, e⟩ := (show ObjOk X.prog X.w H s.heap l (.rng lo hi) from I.hok l _ hl)
  exact PySem.SeqRoads2.in_meets ⟨_, e, rfl⟩ F.slot_range_contains F.entry_range_contains (F.args_range_contains_2 _ _) (range_has l lo hi i a b c t) ⟨e, _, rfl, ⟨.bl _, H, I, rfl, q⟩⟩
theorem op_notInR : OpR X (compareOp .NotIn) (rInR true) := by
  intro pins s σ H x y v u Q I rx ry h
  obtain ⟨l, i, lo, hi, rfl, rfl, hl, q⟩ := h
  obtain ⟨t, rfl⟩ := rx
  cases ry
  obtain ⟨a, b, c, e⟩ := (show ObjOk X.prog X.w H s.heap l (.rng lo hi) from I.hok l _ hl)
  exact PySem.SeqRoads2.notIn_meets ⟨_, e, rfl⟩ F.slot_range_contains F.entry_range_contains (F.args_range_contains_2 _ _) (range_has l lo hi i a b c t) ⟨e, _, rfl, ⟨.bl _, H, I, rfl, q⟩⟩
theorem cat_nil {prog : Program} {w : World} {A : Around} {E : Value → Shared → Prop} {s : Shared} {t b : Addr} {ws : List Value} {Q : Value → Shared → Prop} (ht : IsTup s.heap t #[]) (hb : IsTup s.heap b ws.toArray) (h : Q (.ref b) s) :
    wpAny (model prog w) A (binaryOp .Add (.ref t) (.ref b)) Q E s := by
  obtain ⟨⟨cls, dd, data, sl⟩, ho, hc, n, hd⟩ := id ht
  obtain ⟨⟨cls2, dd2, data2, sl2⟩, ho2, hc2, n2, hd2⟩ := id hb
  simp only at hc hd hc2 hd2
  subst hc hd hc2 hd2
  exact concat_meets ⟨_, ho, rfl⟩ ⟨_, ho2, rfl⟩ noFill_tuple_add seq_tuple_add PySem.F.slot_tuple_add PySem.F.entry_tuple_add (PySem.F.args_tuple_add_2 _ _)
    (tuple_addW0 t b #[] ws.toArray n n2 dd dd2 sl sl2 (by simp)) ⟨ho, ho2, h⟩
end
end L2
namespace HT
open PySem PySem.Spec PyProof.Rows
section
variable {prog : Program} {w : World} {A : Around} {E : Value → Shared → Prop} {s : Shared}
theorem getItem_tuple_whole {t sl : Addr} {items : Array Value} {vl vu : Value} {lo hi : Option Int} {Q : Value → Shared → Prop} (ht : IsTup s.heap t items) (hs : s.heap.IsSliceOf sl vl vu .none) (pl : IsPart vl lo) (pu : IsPart vu hi)
    (hw : sIx items.size 0 lo = 0 ∧ sIx items.size items.size hi = items.size) (h : Q (.ref t) s) : wpAny (model prog w) A (getItem (.ref t) (.ref sl)) Q E s := by
  obtain ⟨os, hos, hcs, hds⟩ := id hs
  have hTs : s.TypeIs (.ref sl) "slice" := ⟨os, hos, hcs⟩
  unfold getItem
  try with_reducible refine wpAny_holding ?_
  first | refine wpAny_bind (wpAny_pure ?_) | skip
  refine wpAny_bind (wpAny_sequenceKey ht.typeIs (by decide) ?_)
  refine wpAny_bind (wpAny_callSpecial?_slot (name := Str.ofString "__getitem__") ht.typeIs PyProof.Rows.slot_tuple_getitem
    (wpAny_call_entry PyProof.Rows.slot_tuple_getitem ht.typeIs entry_tuple_getitem ?_ (args_tuple_getitem _ _)))
  show wpAny _ _ (Builtin.Tuple.tupleItemsOf (.ref t) >>= _) _ _ s
  refine wpAny_bind (tupleItemsOf_ ht (wpAny_bind (wpAny_typeOf hTs ?_)))
  rw [if_pos (by decide)]
  refine wpAny_bind (sliceApplied_gen hs pl pu ?_)
  show wpAny _ _ (if (((sIx items.size 0 lo : Nat) : Int) == 0 && (1 : Int) == 1 && (sIx items.size items.size hi - sIx items.size 0 lo) == items.size) = true then _ else _) _ _ s
  rw [if_pos (by rw [hw.1, hw.2]; simp)]
  unfold Builtin.Tuple.tupleIsExact
  refine wpAny_bind (wpAny_bind (wpAny_typeOf ht.typeIs (wpAny_pure ?_)))
  rw [if_pos (by decide)]
  exact wpAny_bind (wpAny_rule (wpAny_pure ⟨_, rfl, wpAny_pure h⟩))
end
end HT
namespace L2
open PySem PySem.Spec PyProof.Rows
section
variable {X : Cx}
end
end L2
namespace Srt
open PySem PySem.W PyProof.Rows
section
variable {prog : Program} {w : World} {A : Around} {E : Value → Shared → Prop} {s : Shared}
end
end Srt
namespace L2
open PySem PySem.Spec PyProof.Rows
section
variable {X : Cx}
end
end L2
namespace L2
open PySem PySem.Spec PyProof.Rows
inductive Dt where
  | non | bl (b : Bool) | int (i : Int) | str (x : Str) | lst | dct | tup (ds : List Dt)
mutual
def Rep (K : PySem.W.Frag) (H : Hp) : Dt → V → Prop
  | .non, v => v = .non
  | .bl b, v => v = .bl b
  | .int i, v => v = .int i
  | .str x, v => v = .str x
  | .lst, v => ∃ p xs, v = .ref p ∧ SqL K H p xs
  | .dct, v => ∃ p, v = .ref p ∧ ((∃ kvs, H p = some (.dK kvs)) ∨ ∃ kvs, H p = some (.dT kvs))
  | .tup ds, v => ∃ p xs, v = .ref p ∧ SqT K H p xs ∧ RepL K H ds xs
def RepL (K : PySem.W.Frag) (H : Hp) : List Dt → List V → Prop
  | [], [] => True
  | d :: ds, x :: xs => Rep K H d x ∧ RepL K H ds xs
  | _, _ => False
end
theorem Same.tup {K : PySem.W.Frag} {H H' : Hp} {a : Addr} {xs : List V} (e : Same H H') (h : SqT K H a xs) : SqT K H' a xs := by
  rcases h with (h | ⟨o, h⟩) | h
  · exact .inl (.inl (e _ _ h))
  · exact .inl (.inr ⟨o, e _ _ h⟩)
  · exact .inr h
theorem Same.upd {H : Hp} {p : Addr} {o : HO} (h : H p = none) : Same H (L2.upd H p o) := fun b u e => by rw [upd_ne (ne_of_none e h)]; exact e
mutual
theorem Same.rep {K : PySem.W.Frag} {H H' : Hp} (e : Same H H') : ∀ {d : Dt} {v : V}, Rep K H d v → Rep K H' d v
  | .non, _, h => h
  | .bl _, _, h => h
  | .int _, _, h => h
  | .str _, _, h => h
  | .lst, _, ⟨p, xs, h1, h2⟩ => ⟨p, xs, h1, e.seq h2⟩
  | .dct, _, ⟨p, h1, h2⟩ => ⟨p, h1, h2.elim (fun hZ => (by obtain ⟨k, q⟩ := hZ; exact .inl ⟨k, e _ _ q⟩)) fun hZ => (by obtain ⟨k, q⟩ := hZ; exact .inr ⟨k, e _ _ q⟩)⟩
  | .tup _, _, ⟨p, xs, h1, h2, h3⟩ => ⟨p, xs, h1, e.tup h2, e.repL h3⟩
theorem Same.repL {K : PySem.W.Frag} {H H' : Hp} (e : Same H H') : ∀ {ds : List Dt} {xs : List V}, RepL K H ds xs → RepL K H' ds xs
  | [], [], _ => trivial
  | _ :: _, _ :: _, h => ⟨e.rep h.1, e.repL h.2⟩
  | [], _ :: _, h => h.elim
  | _ :: _, [], h => h.elim
end
structure Has (K : PySem.W.Frag) (mg : Str → Option Value) (x : Str) (st : Stmt) (ps : List Str) : Prop where
  ex : ∃ f fd, Fun K x x st f fd ∧ mg x = some (.ref f) ∧ Binds K fd ps []
structure Ok (P : Program) (w : World) (K : PySem.W.Frag) (mg : Str → Option Value) (base : Heap) (x : Str) (ps : List Str) (k : Nat) (sp : Sp) : Prop where
  ex : ∃ f fd, mg x = some (.ref f) ∧ PySem.W.keepIn K (.ref f) = true ∧ Binds K fd ps [] ∧ FnOk P w K mg base CX0 k f fd ps sp
theorem Has.ok {P : Program} {w : World} {K : PySem.W.Frag} {mg : Str → Option Value} {base : Heap} {x : Str} {st : Stmt} {N ps : List Str} {k : Nat} {sp : Sp} (h : Has K mg x st ps) (S : FnScope N ps (defScope st)) (len : ∀ vs H Q E, sp vs H Q E → vs.length = ps.length)
    (hbody : ∀ (f : Addr) (cdv : Value) (A : Around) (outer : List Env) (s : Shared) (H : Hp) (vs : List V) (Q : VK) (E : XK), Room k (A.deeper (envOfC x (defScope st) s.heap.objs.size f cdv)) → sp vs H Q E →
      ∃ t, PSs (cxOf CX0 P w K mg base N x (defScope st) f cdv A outer s H E).nox (defBody st) t ∧ t { nx := fun _ H' => Q .non H', rt := Q } (start N vs) H) : Ok P w K mg base x ps (k + 1) sp := by
  obtain ⟨f, fd, F, hm, hb⟩ := h.ex
  exact ⟨f, fd, hm, F.kp, hb, F.ok S len (hbody f)⟩
section
variable {X : Cx} {e : Expr} {es : List Expr} {t : TA} {x : Str} {ps : List Str} {k : Nat} {sp : Sp} {p pos : Pos}
end
section
variable {X : Cx} {Pre : St → Hp → Prop}
end
end L2
namespace L2
open PySem PySem.Spec PyProof.Rows
structure BlkD (osc : Scope) (N : List Str) (sc : Scope) (M tgs : List Str) : Prop where
  kind : sc.kind = .function
  names : ∀ y ∈ sc.names, y.2 = .local → sc.names.lookup y.1 = some .local
  nocell : ∀ y ∈ sc.names, y.2 ≠ .cell
  free : ∀ y ∈ sc.names, y.2 = .free → osc.names.lookup y.1 = some .cell ∨ osc.names.lookup y.1 = some .free
  len : M.length = N.length
  same : ∀ p ∈ M.zip N, p.1 = p.2 ∨ p.1 = ("" : Str)
  dummy : sc.names.lookup ("" : Str) = none
  hid : ∀ x ∈ M, sc.names.lookup x ≠ some .local
  nd : (M ++ tgs).Nodup
theorem BlkD.ok {X : Cx} {osc : Scope} {N : List Str} {sc : Scope} {M tgs : List Str} (b : BlkD osc N sc M tgs) (h1 : X.env.scope = osc := by rfl) (h2 : X.N = N := by rfl) : BlkOk X sc M tgs := by
  subst h1 h2
  exact ⟨b.kind, b.names, b.nocell, b.free, b.len, b.same, b.dummy, b.hid⟩
def Nx (n i : Nat) (Pv : Nat → List V → Hp → Prop) (ys : List V) (H : Hp) : Prop := ∃ m', m' < n - i ∧ (m' = n - (i + 1) ∧ i + 1 ≤ n ∧ Pv (i + 1) ys H)
theorem Nx.mk {n i : Nat} {Pv : Nat → List V → Hp → Prop} {ys : List V} {H : Hp} (hi : i < n) (h : Pv (i + 1) ys H) : Nx n i Pv ys H := ⟨n - (i + 1), by omega, rfl, hi, h⟩
theorem comp_range {lo : Int} {n : Nat} {k : Nat} {g : TG} {tt : TT} {te : TE} {σ : St} {H : Hp} {Q : VK} (Pv : Nat → List V → Hp → Prop) (h0 : Pv 0 [] H) (hl : ∀ i ys H, i ≤ n → Pv i ys H → ys.length ≤ sizeLine)
    (hs : ∀ i ys H, i < n → Pv i ys H → g (.int (lo + i)) (σ ++ List.replicate k none) H fun σ2 H2 => σ2.take σ.length = σ ∧ tt σ2 H2 fun b H3 =>
      if b = true then te σ2 H3 fun y H4 => Nx n i Pv (ys ++ [y]) H4 else Nx n i Pv ys H3)
    (hd : ∀ ys H, Pv n ys H → ∀ l, H l = none → Q (.ref l) (upd H l (.lst ys))) : CompW (Itr lo n) k g tt te σ Q H := by
  refine ⟨fun i m ys H => m = n - i ∧ i ≤ n ∧ Pv i ys H, ⟨n, by simp, Nat.zero_le _, h0⟩, ?_⟩
  rintro i m ys H ⟨rfl, hi, p⟩
  refine ⟨hl i ys H hi p, ?_⟩
  by_cases hlt : i < n
  · refine .inr ⟨hlt, fun x H' y => ?_⟩
    obtain ⟨e, y⟩ := y
    subst e y
    exact hs i ys _ hlt p
  · have e : i = n := by omega
    subst e
    exact .inl ⟨Nat.le_refl _, hd ys H p⟩
end L2
namespace L2
open PySem PySem.Spec PyProof.Rows
section
variable {κ : Type} [DecidableEq κ]
end
def TieAt (K : PySem.W.Frag) (H : Hp) (b : V) (t : Int × Int) : Prop := ∃ a, b = .ref a ∧ H a = some (.tup [.int t.1, .int t.2])
structure WebAt (K : PySem.W.Frag) (H : Hp) (w : Addr) (many : Int) (ties : List (Int × Int)) : Prop where
  at_ : ∃ t bs, H w = some (.tup [.int many, .ref t]) ∧ H t = some (.tup bs) ∧ Paired (TieAt K H) bs ties
  len : ties.length ≤ 60
  good : ∀ t ∈ ties, 0 ≤ t.1 ∧ t.1 < t.2 ∧ t.2 < many
  nd : ties.Nodup
end L2
namespace L2
open PySem PySem.Spec PyProof.Rows
theorem ObjOk.there {P : Program} {w : World} {H : Hp} {h : Heap} {a : Addr} {o : HO} (x : ObjOk P w H h a o) : ∃ ob, h.get? a = some ob := by
  cases o with
  | lst xs => obtain ⟨_, _, _, _, e⟩ := x; exact ⟨_, e⟩
  | tup xs => obtain ⟨_, _, _, ob, e, _⟩ := x; exact ⟨ob, e⟩
  | dK kvs => obtain ⟨_, _, _, _, o, _, _, e, _⟩ := x; exact ⟨_, e⟩
  | dT kvs => obtain ⟨_, _, _, _, o, _, _, e, _⟩ := x; exact ⟨_, e⟩
  | set S n => obtain ⟨o, _, _, _, e, _⟩ := x; exact ⟨_, e⟩
  | ins C dx fs => obtain ⟨_, _, _, e, _⟩ := x; exact ⟨_, e⟩
  | own y => exact x
  | xd fs => obtain ⟨_, ⟨_, _, _, e, _⟩, _⟩ := x; exact ⟨_, e⟩
  | rng lo hi => obtain ⟨_, _, _, e⟩ := x; exact ⟨_, e⟩
  | frz ob u => obtain ⟨e, _⟩ := x; exact ⟨_, e⟩
  | tbl ps => exact ⟨_, (show h.get? a = some _ from x)⟩
  | met f y => exact ⟨_, (show h.get? a = some _ from x)⟩
  | ext φ => obtain ⟨_, e, _⟩ := x; exact e
theorem HOk.none_of {P : Program} {w : World} {H : Hp} {h : Heap} {a : Addr} (x : HOk P w H h) (e : h.get? a = none) : H a = none := by
  cases q : H a with
  | none => rfl
  | some u =>
    obtain ⟨ob, z⟩ := (x a u q).there
    rw [e] at z; cases z
structure Veer (fs : List Addr) (ea T : Addr) (h h' : Heap) : Prop where
  keep : ∀ b o, h.get? b = some o → b ∉ fs → b ≠ ea → b ≠ T → h'.get? b = some o
  slot : ∀ b o, h.get? b = some o → b ∈ fs → ∃ sl, h'.get? b = some { o with slots := sl }
structure FlyAt (g : Heap) (H : Hp) (ea T : Addr) (cls : Value) (h : Heap) : Prop where
  obj : ∃ (oe : Obj) (vs : Array Value) (oT : Obj) (ts : Array Value) (a0 : Value), h.get? ea = some oe ∧ (oe.cls = cls ∧ vs[0]? = some a0) ∧ oe.data = .fields vs ∧ vs[1]? = some (.ref T) ∧ T ≠ ea ∧ h.get? T = some oT ∧ oT.data = .fields ts ∧ ts[3]? = some .none
  he : H ea = none
  hT : H T = none
  ge : g.get? ea = none
  gT : g.get? T = none
section
variable {P : Program} {w : World} {fs fs' ex : List Addr} {H₀ H : Hp} {g g₀ h h' base : Heap} {ea T : Addr} {cls : Value} {l l' : List Env}
theorem FlyAt.older (F : FlyAt g H ea T cls h) (k : ∀ b o, g₀.get? b = some o → ∃ o', g.get? b = some o') : FlyAt g₀ H ea T cls h := by
  refine ⟨F.obj, F.he, F.hT, ?_, ?_⟩
  · cases q : g₀.get? ea with
    | none => rfl
    | some o => obtain ⟨o', z⟩ := k _ _ q; rw [F.ge] at z; cases z
  · cases q : g₀.get? T with
    | none => rfl
    | some o => obtain ⟨o', z⟩ := k _ _ q; rw [F.gT] at z; cases z
theorem FlyAt.flyingW (F : FlyAt g H ea T cls h) (hl : h.FunFrames base l) : ∃ a0, Heap.FlyingW (PySem.W.hideAll h (ea :: T :: frs l)) l ea cls a0 h := by
  obtain ⟨oe, vs, oT, ts, a0, h1, h2, h3, h4, h5, h6, h7, h8⟩ := F.obj
  refine ⟨a0, fun b o e => PySem.W.of_hideAll _ e, PySem.W.hideAll_none _ List.mem_cons_self, PySem.W.funFrames_hide hl (fun env he a hf => ?_), oe, vs, T, oT, ts, h1, h2, h3, h4, PySem.W.hideAll_none _ (List.mem_cons_of_mem _ List.mem_cons_self), h5, h6, h7, h8⟩
  exact List.mem_cons_of_mem _ (List.mem_cons_of_mem _ (List.mem_filterMap.mpr ⟨env, he, hf⟩))
theorem fly_turn (F : FlyAt g H ea T cls h) (hl : h.FunFrames base l) (hok : HOk P w H h) (hg : ∀ b o, g.get? b = some o → ∃ o', h.get? b = some o') {a0 : Value}
    (x : Heap.FlyingW (PySem.W.hideAll h (ea :: T :: frs l)) l' ea cls a0 h') (up : h.UpToSlots h') : Veer (frs l) ea T h h' ∧ ∃ T', FlyAt g H ea T' cls h' := by
  obtain ⟨x1, x2, x3, oe, vs, T', oT, ts, y1, y2, y3, y4, y5, y6, y7, y8, y9⟩ := x
  have slot : ∀ b o, h.get? b = some o → b ∈ frs l → ∃ sl, h'.get? b = some { o with slots := sl } := fun b o e hb => by
    obtain ⟨_, o', ho', nf⟩ := hl.mem hb
    rw [e] at ho'; cases ho'
    exact up b o e nf
  refine ⟨⟨fun b o e n1 n2 n3 => x1 b o (PySem.W.hideAll_get _ e (by simp [n1, n2, n3])), slot⟩, T', ?_⟩
  have fr : H T' = none ∧ g.get? T' = none := by
    by_cases q : T' = T
    · subst q; exact ⟨F.hT, F.gT⟩
    · have nf : T' ∉ frs l := fun hb => by
        obtain ⟨_, o, ho, nf⟩ := hl.mem hb
        obtain ⟨sl, z⟩ := slot T' o ho hb
        rw [y7] at z; cases z
        exact nf ts y8
      have hn : h.get? T' = none := by
        cases z : h.get? T' with
        | none => rfl
        | some o =>
          have := PySem.W.hideAll_get (ea :: T :: frs l) z (by simp [nf, q, y6])
          rw [y5] at this; cases this
      refine ⟨hok.none_of hn, ?_⟩
      cases z : g.get? T' with
      | none => rfl
      | some o => obtain ⟨o', z'⟩ := hg _ _ z; rw [hn] at z'; cases z'
  exact ⟨⟨oe, vs, oT, ts, a0, y1, y2, y3, y4, y6, y7, y8, y9⟩, F.he, fr.1, F.ge, fr.2⟩
theorem Un.turn (u : Un fs ex H₀ H g h) (t : Veer fs' ea T h h') (ge : g.get? ea = none) (gT : g.get? T = none) (h1 : ∀ b ∈ fs, b ∈ fs') (h2 : ∀ b ∈ fs', b ∉ fs → g.get? b = none) : Un fs ex H₀ H g h' where
  keep := fun b o q n hb hx => t.keep b o (u.keep b o q n hb hx) (fun z => by rw [h2 b z hb] at q; cases q) (fun z => by rw [z, ge] at q; cases q) (fun z => by rw [z, gT] at q; cases q)
  slot := fun b o q n hb hx => by
    obtain ⟨sl, e⟩ := u.slot b o q n hb hx
    obtain ⟨sl', e'⟩ := t.slot b _ e (h1 b hb)
    exact ⟨sl', e'⟩
  free := u.free
  there := fun b o q hx => by
    obtain ⟨o', e⟩ := u.there b o q hx
    by_cases hb : b ∈ fs'
    · obtain ⟨sl, e'⟩ := t.slot b o' e hb
      exact ⟨_, e'⟩
    · exact ⟨o', t.keep b o' e hb (fun z => by rw [z, ge] at q; cases q) (fun z => by rw [z, gT] at q; cases q)⟩
  tups := u.tups
  frzs := u.frzs
  tbls := u.tbls
theorem HOk.turn (x : HOk P w H h) (t : Veer fs ea T h h') (he : H ea = none) (hT : H T = none) (hf : ∀ b ∈ fs, H b = none) : HOk P w H h' := fun a o e => by
  have ne : ∀ b, (b = a ∨ H b = some (.own a)) → H b ≠ none := fun b hb z => by
    rcases hb with rfl | hb
    · rw [z] at e; cases e
    · rw [z] at hb; cases hb
  exact (x a o e).stay (fun b u hb q => t.keep b u q (fun z => ne b hb (hf b z)) (fun z => ne b hb (z ▸ he)) (fun z => ne b hb (z ▸ hT))) (fun _ q => q) fun _ _ q => q
end
def CXr (P : Program) (w : World) : CXT := fun outer H s E e s' => ∃ ea T cls H', e = .ref ea ∧ s'.os = s.os ∧ AllBare s'.gens ∧ Un (frs outer) [] H H' s.heap s'.heap ∧ HOk P w H' s'.heap ∧ FlyAt s.heap H' ea T cls s'.heap ∧ E cls none H'
section
variable {P : Program} {w : World} {K : PySem.W.Frag} {mg : Str → Option Value} {base : Heap} {N : List Str} {qual : Str} {scope : Scope} {f : Addr} {cd : Value} {A : Around} {outer : List Env} {s : Shared} {H : Hp} {E E' : XK}
theorem frs_cons {env : Env} {L : Addr} {l : List Env} (h : env.frame = some L) : frs (env :: l) = L :: frs l := by unfold frs; rw [List.filterMap_cons, h]
theorem passes_r (himp : ∀ c d H, E' c d H → E c d H) : Passes (CXr P w) (cxOf (CXr P w) P w K mg base N qual scope f cd A outer s H E) E' := by
  intro pins σ H1 s1 e s2 I hx
  obtain ⟨ea, T, cls, H2, rfl, os, bare, un, hok, fl, e1⟩ := hx
  have I2 : Inv (cxOf (CXr P w) P w K mg base N qual scope f cd A outer s H E) pins σ H2 s2 := I.call' (ch := []) os un hok bare fun b z => absurd z (by simp)
  have fl := fl.older (g₀ := s.heap) fun b o q => I.base.there b o q (by show b ∉ []; simp)
  obtain ⟨a0, fw⟩ := fl.flyingW I2.stack
  refine wpAny_leaves_onW I2.ok.frames rfl fw fun h' x1 x2 => ?_
  obtain ⟨tn, T', fl'⟩ := fly_turn fl I2.stack hok (fun b o q => I2.base.there b o q (by show b ∉ []; simp)) x1 x2
  have e2 : frs (cxOf (CXr P w) P w K mg base N qual scope f cd A outer s H E).stack = s.heap.objs.size :: frs outer := frs_cons rfl
  refine ⟨ea, T', cls, H2, rfl, I2.os, bare, Un.turn I2.base tn fl.ge fl.gT (fun b hb => ?_) (fun b hb nb => ?_), hok.turn tn fl.he fl.hT I2.stkFree, fl', himp _ _ _ e1⟩
  · rw [e2]; exact List.mem_cons_of_mem _ hb
  · rw [e2] at hb
    rcases List.mem_cons.mp hb with rfl | hb
    · exact Heap.get?_none_of_le (Nat.le_refl _)
    · exact absurd hb nb
def tRaise (C : Addr) (E : XK) : TS := fun _ _ H => E (.ref C) none H
theorem ps_raise0 {x : Str} {C : Addr} {bm : List Value} {B newId initId : String} {np cpos pos : Pos} (O : OwnCls x C bm newId mg base) (FB : ExcBaseFacts B newId initId bm) (hh : (A.deeper (envOfC qual scope s.heap.objs.size f cd)).handled = none)
    (hg : Gl (cxOf (CXr P w) P w K mg base N qual scope f cd A outer s H E) x) (hd : (x == ("__debug__" : Str)) = false := by decide) : PS (cxOf (CXr P w) P w K mg base N qual scope f cd A outer s H E) (.Raise (some (.Call (.Name x np) [] [] cpos)) none pos) (tRaise C E) := by
  intro pins s1 σ H1 D I h
  obtain ⟨tl, N', nm, q, bs, hdct, sn, sub, ab, col, dd, k0, k1, k2, k3, k5, mN, hC, hN, hni, T⟩ := O.obj
  refine wpAny_Raise_call_subT (C := C) (nm := nm) (q := q) (N := N') (bs := bs) (bm := tl) (hdct := hdct) (sn := sn) (sub := sub) (ab := ab) (col := col) (dd := dd) (k0 := k0) (k1 := k1) (k2 := k2) (k3 := k3) (k5 := k5)
    FB (mN := mN) (T.hasType FB.hasBase) hh rfl hni (ld_glob I hg O.bound ⟨rfl, ?_⟩ hd)
  refine evalArgs_empty ⟨rfl, Nat.zero_le _, I.bk _ _ hC, hN.keeps I.bk, T.keeps I.bk, fun h' e hm => ?_⟩
  have hin : ∀ env ∈ (cxOf (CXr P w) P w K mg base N qual scope f cd A outer s H E).stack, ∀ b, env.frame = some b → b ∈ frs (cxOf (CXr P w) P w K mg base N qual scope f cd A outer s H E).stack := fun env he b hb => List.mem_filterMap.mpr ⟨env, he, hb⟩
  refine wpAny_leaves_madeW (base := PySem.W.hideAll s1.heap (frs (cxOf (CXr P w) P w K mg base N qual scope f cd A outer s H E).stack)) (h := s1.heap) I.ok.frames rfl (fun b o q => PySem.W.of_hideAll _ q) (PySem.W.funFrames_hide I.stack hin) hm fun h'' t x1 x2 x3 x4 => ?_
  obtain ⟨y1, y2, y3, oe, vs, T', oT, ts, z1, z2, z3, z4, z5, z6, z7, z8, z9⟩ := x1
  have tn : Veer (frs (cxOf (CXr P w) P w K mg base N qual scope f cd A outer s H E).stack) e T' s1.heap h'' := by
    refine ⟨fun b o q n1 _ _ => y1 b o (PySem.W.hideAll_get _ q n1), fun b o q hb => ?_⟩
    obtain ⟨_, o', ho', nf⟩ := I.stack.mem hb
    rw [q] at ho'; cases ho'
    exact x4 b o (hm.keeps b o q) nf
  have hT : s1.heap.get? T' = none := by
    have nf : T' ∉ frs (cxOf (CXr P w) P w K mg base N qual scope f cd A outer s H E).stack := fun hb => by
      obtain ⟨_, o, ho, nf⟩ := I.stack.mem hb
      obtain ⟨sl, z⟩ := tn.slot T' o ho hb
      rw [z7] at z; cases z
      exact nf ts z8
    cases z : s1.heap.get? T' with
    | none => rfl
    | some o =>
      have := PySem.W.hideAll_get _ z nf
      rw [z5] at this; cases this
  have e2 : frs (cxOf (CXr P w) P w K mg base N qual scope f cd A outer s H E).stack = s.heap.objs.size :: frs outer := frs_cons rfl
  have fl : FlyAt s.heap H1 e T' (.ref C) h'' := by
    refine FlyAt.older (g := s1.heap) ⟨⟨oe, vs, oT, ts, _, z1, z2, z3, z4, z6, z7, z8, z9⟩, I.hok.none_of hm.new, I.hok.none_of hT, hm.new, hT⟩ fun b o q => I.base.there b o q (by show b ∉ []; simp)
  refine ⟨e, T', .ref C, H1, rfl, I.os, I.bare, Un.turn I.base tn fl.ge fl.gT (fun b hb => ?_) (fun b hb nb => ?_), I.hok.turn tn fl.he fl.hT I.stkFree, fl, h⟩
  · rw [e2]; exact List.mem_cons_of_mem _ hb
  · rw [e2] at hb
    rcases List.mem_cons.mp hb with rfl | hb
    · exact Heap.get?_none_of_le (Nat.le_refl _)
    · exact absurd hb nb
end
structure OkX (P : Program) (w : World) (K : PySem.W.Frag) (mg : Str → Option Value) (base : Heap) (x : Str) (ps : List Str) (k : Nat) (sp : Sp) : Prop where
  ex : ∃ f fd, mg x = some (.ref f) ∧ PySem.W.keepIn K (.ref f) = true ∧ Binds K fd ps [] ∧ FnOk P w K mg base (CXr P w) k f fd ps sp
theorem Has.okX {P : Program} {w : World} {K : PySem.W.Frag} {mg : Str → Option Value} {base : Heap} {x : Str} {st : Stmt} {N ps : List Str} {k : Nat} {sp : Sp} (h : Has K mg x st ps) (S : FnScope N ps (defScope st)) (len : ∀ vs H Q E, sp vs H Q E → vs.length = ps.length)
    (hbody : ∀ (f : Addr) (cdv : Value) (A : Around) (outer : List Env) (s : Shared) (H : Hp) (vs : List V) (Q : VK) (E : XK), Room k (A.deeper (envOfC x (defScope st) s.heap.objs.size f cdv)) → sp vs H Q E →
      ∃ t, PSs (cxOf (CXr P w) P w K mg base N x (defScope st) f cdv A outer s H E) (defBody st) t ∧ t { nx := fun _ H' => Q .non H', rt := Q } (start N vs) H) : OkX P w K mg base x ps (k + 1) sp := by
  obtain ⟨f, fd, F, hm, hb⟩ := h.ex
  obtain ⟨oc, od, kV, doc, pm, an, cdv, ct, osl, rfl, lk, hcd⟩ := F.ex
  exact ⟨f, _, hm, F.kp, hb, fn_of lk hcd S len fun A outer s H vs Q E hr hsp => hbody f cdv A outer s H vs Q E hr hsp⟩
section
variable {X : Cx} {e : Expr} {es : List Expr} {t : TA} {x : Str} {ps : List Str} {k : Nat} {sp : Sp} {p pos : Pos}
end
end L2
namespace L2
open PySem PySem.Spec PyProof.Rows
def excO (ea C : Addr) : HO := .ext fun h => ∃ o, h.get? ea = some o ∧ o.cls = .ref C
end L2
namespace L2
open PySem PySem.Spec PyProof.Rows
section
variable {X : Cx}
end
end L2
namespace EnT
open PySem PySem.Spec PyProof.Rows
open AutoSeq1 (wpAny_loadPart')
theorem meets_new (l : Addr) (items : Array Value) (n : Nat) (dct : Option Addr) (sl : Array (Option Value)) :
    Meets (Builtin.«enumerate.__new__» ⟨[.type "enumerate", .ref l], []⟩) (fun _ R s => s.heap.get? l = some { cls := .type "tuple", dict := dct, data := .seq items n, slots := sl } ∧
      R (.ok (.ret (.ref (s.heap.push { cls := .type "tuple_iterator", data := .fields #[.ref l, .int 0 0] }).objs.size)))
        { s with heap := (s.heap.push { cls := .type "tuple_iterator", data := .fields #[.ref l, .int 0 0] }).push { cls := .type "enumerate", data := .fields #[.none, .bool false, .ref s.heap.objs.size, rawInt 0, .none, .none] } }) :=
  .of_wp fun prog w A R s h => by
    obtain ⟨hp, g, d, tk, os⟩ := s; obtain ⟨hl, h⟩ := h
    have hsub := sub_enumerate
    have hL : Heap.IsTuple (Shared.heap ⟨hp, g, d, tk, os⟩) l items := ⟨_, hl, rfl, n, rfl⟩
    wp_walk using wpAny_loadPart' hl
    refine wpAny_stack_any fun st => wpAny_pure ?_
    split
    · rename_i c _ _ _ _ _
      cases (c == Value.type "enumerate")
      · wp_walk using wpAny_loadPart' hl, wpAny_pyIter_tuple hL
        exact ⟨_, rfl, h⟩
      · wp_walk using wpAny_loadPart' hl, wpAny_pyIter_tuple hL
        exact ⟨_, rfl, h⟩
    · wp_walk using wpAny_loadPart' hl, wpAny_pyIter_tuple hL
      exact ⟨_, rfl, h⟩
section
variable {prog : Program} {w : World} {A : Around} {E : Value → Shared → Prop} {s : Shared}
theorem call_new {l : Addr} {items : Array Value} {Q : Value → Shared → Prop} (hL : s.heap.IsTuple l items)
    (h : ∀ h', IsEnum h' (s.heap.objs.size + 1) s.heap.objs.size 0 .none → h'.IsTupleIter s.heap.objs.size l 0 → h'.objs.size = s.heap.objs.size + 2 →
      (∀ b o, s.heap.get? b = some o → h'.get? b = some o) → Q (.ref (s.heap.objs.size + 1)) { s with heap := h' }) :
    wpAny (model prog w) A (call (.type "enumerate") [.ref l]) Q E s := by
  obtain ⟨⟨c, dct, dt, sl⟩, hl, hc, n, hd⟩ := hL
  replace hc : c = .type "tuple" := hc
  replace hd : dt = .seq items n := hd
  subst hc hd
  refine callType_new F.called_enumerate (by decide) (F.typeCall_enumerate_1 _) (F.newCall_enumerate_1 _) (fun obj => F.args_object_init_2 obj _) F.entry_enumerate_new
    (meets_new l items n dct sl) ⟨hl, ?_⟩
  have hz : (s.heap.push { cls := .type "tuple_iterator", data := .fields #[.ref l, .int 0 0] }).objs.size = s.heap.objs.size + 1 := Heap.size_push ..
  show _ ∧ _
  rw [hz]
  have he : IsEnum ((s.heap.push { cls := .type "tuple_iterator", data := .fields #[.ref l, .int 0 0] }).push
      { cls := .type "enumerate", data := .fields #[.none, .bool false, .ref s.heap.objs.size, rawInt 0, .none, .none] }) (s.heap.objs.size + 1) s.heap.objs.size 0 .none := by
    have := Heap.get?_push_size (s.heap.push { cls := .type "tuple_iterator", data := .fields #[.ref l, .int 0 0] })
      (o := { cls := .type "enumerate", data := .fields #[.none, .bool false, .ref s.heap.objs.size, rawInt 0, .none, .none] }) rfl
    rw [hz] at this; exact this
  refine ⟨⟨_, he, rfl⟩, h _ he ⟨_, Heap.get?_push_of_some _ (Heap.get?_push_size _ rfl), rfl, rfl⟩ (by rw [Heap.size_push, hz]) fun b o x => Heap.get?_push_of_some _ (Heap.get?_push_of_some _ x)⟩
theorem next_item {it l : Addr} {i : Nat} {items} {x : Value} {Q : Value → Shared → Prop} (hit : s.heap.IsTupleIter it l i)
    (hl : s.heap.IsTuple l items) (hx : items[i]? = some x)
    (hQ : ∀ h', h'.IsTupleIter it l (i + 1) → Heap.SameBut it s.heap h' → Q x { s with heap := h' }) :
    wpAny (model prog w) A (Builtin.SmallTypes.nextOf (.ref it)) Q E s := by
  obtain ⟨o, ho, hc, hd⟩ := id hit
  obtain ⟨ol, hol, _, nl, hdl⟩ := hl
  unfold Builtin.SmallTypes.nextOf
  refine wpAny_bind (wpAny_callSpecial?_slot (name := Str.ofString "__next__") hit.typeIs F.slot_tuple_iterator_next
    (wpAny_call_entry F.slot_tuple_iterator_next hit.typeIs F.entry_tuple_iterator_next ?_ (F.args_tuple_iterator_next_1 _)))
  show wpAny _ _ (field (.ref it) 0 >>= _) _ _ s
  refine wpAny_bind (wpAny_field ho hd (x := .ref l) rfl ?_)
  show wpAny _ _ (if (Value.ref l == Value.none) = true then _ else _) _ _ s
  rw [if_neg (show ¬ ((Value.ref l == Value.none) = true) from Bool.false_ne_true)]
  show wpAny _ _ (field (.ref it) 1 >>= _) _ _ s
  refine wpAny_bind (wpAny_field ho hd (x := .int i 0) rfl ?_)
  show wpAny _ _ (seqItems? (.ref l) >>= _) _ _ s
  refine wpAny_bind (wpAny_seqItems hol hdl ?_)
  simp only [Int.toNat_natCast, hx]
  refine wpAny_bind (wpAny_setField ho hd (by simp) (wpAny_pure ⟨x, rfl, wpAny_pure (hQ _ ?_ (Heap.SameBut.update ..))⟩))
  exact ⟨_, Heap.get?_update_self _ ho (Obj.isFreed_of_fields (Obj.data_mapFields hd _)), (Obj.cls_mapFields ..).trans hc, by
    rw [Obj.data_mapFields hd]; simp [rawInt]⟩
theorem next_end {it l : Addr} {i : Nat} {items} {Q : Value → Shared → Prop} (hh : A.handled = none)
    (hit : s.heap.IsTupleIter it l i) (hl : s.heap.IsTuple l items) (hx : items[i]? = none)
    (hE : ∀ h' e, Heap.ExtBut it s.heap h' → (∃ o, h'.get? e = some o ∧ o.cls = .type "StopIteration") → E (.ref e) { s with heap := h' }) :
    wpAny (model prog w) A (Builtin.SmallTypes.nextOf (.ref it)) Q E s := by
  obtain ⟨o, ho, hc, hd⟩ := id hit
  obtain ⟨ol, hol, _, nl, hdl⟩ := hl
  unfold Builtin.SmallTypes.nextOf
  refine wpAny_bind (wpAny_callSpecial?_slot (name := Str.ofString "__next__") hit.typeIs F.slot_tuple_iterator_next
    (wpAny_call_entry F.slot_tuple_iterator_next hit.typeIs F.entry_tuple_iterator_next ?_ (F.args_tuple_iterator_next_1 _)))
  show wpAny _ _ (field (.ref it) 0 >>= _) _ _ s
  refine wpAny_bind (wpAny_field ho hd (x := .ref l) rfl ?_)
  show wpAny _ _ (if (Value.ref l == Value.none) = true then _ else _) _ _ s
  rw [if_neg (show ¬ ((Value.ref l == Value.none) = true) from Bool.false_ne_true)]
  show wpAny _ _ (field (.ref it) 1 >>= _) _ _ s
  refine wpAny_bind (wpAny_field ho hd (x := .int i 0) rfl ?_)
  show wpAny _ _ (seqItems? (.ref l) >>= _) _ _ s
  refine wpAny_bind (wpAny_seqItems hol hdl ?_)
  simp only [Int.toNat_natCast, hx]
  refine wpAny_bind (wpAny_rule (wpAny_bind (wpAny_setField ho hd (by simp) ?_)))
  show wpAny _ _ (newExc (.type "StopIteration") [] >>= _) _ _ _
  refine wpAny_bind ?_
  simp only [newExc, newTuple]
  refine wpAny_bind (wpAny_newObj_type ?_ (by size_fits))
  refine wpAny_bind (m := firstArgMember _ _) (wpAny_of_eq (a := Value.none) (by first | rfl | (simp only [firstArgMember]; rfl)) ?_)
  refine wpAny_newObj_type ?_ (by size_fits)
  simp only [raiseNew]
  refine wpAny_bind (wpAny_handled ?_)
  first | rw [show A.in1.handled = none from hh] | rw [hh]
  refine wpAny_bind (wpAny_pure (wpAny_throw ?_))
  exact hE _ _ (((Heap.SameBut.update ..).extBut.push _).push _) ⟨_, Heap.get?_push_size _ rfl, rfl⟩
end
end EnT
namespace L2
open PySem PySem.Spec PyProof.Rows
section
variable {X : Cx}
end
end L2
namespace XK
open PySem PySem.W PySem.Spec PySem.Calls PyProof.Rows PySem.Builtin PySem.Builtin.ObjectAttr PySem.Builtin.Getset_descriptor
section
variable {prog : Program} {w : World} {A : Around} {E : Value → Shared → Prop} {h : Heap} {g : Array GenState} {d : Drawn} {t : Nat} {os : OsState} {a : Addr} {o : Obj} {C : Addr} {K : Frag}
end
end XK
namespace L2
open PySem PySem.Spec PyProof.Rows
section
variable {X : Cx} {e : Expr} {te : TE} {x : Str} {p1 p2 pos : Pos}
end
end L2
namespace L2
open PySem PySem.Spec PyProof.Rows
section
variable {X : Cx}
theorem ps_compSet {elt tg iter : Expr} {ifs : List Expr} {sc : Scope} {M tgs : List Str} {pos : Pos} {wi : TI} {g : TG} {tt : TT} {te : TE} {j : Nat} {y : Str} {py spos : Pos} (hc : X.calm = true) (B : BlkOk X sc M tgs) (hi : PI X tg iter wi)
    (hg : ∀ cl C fp s H, PG (blk X sc cl C fp s H (M ++ tgs)) tg g) (ht : ∀ cl C fp s H, PIfs (blk X sc cl C fp s H (M ++ tgs)) ifs tt) (he : ∀ cl C fp s H, PE (blk X sc cl C fp s H (M ++ tgs)) elt te)
    (hN : X.N.Nodup) (hjy : X.N[j]? = some y) (hy : X.env.scope.names.lookup y = some .local) (hsw : swapsWith (.ListComp elt [⟨tg, iter, ifs, 0⟩] sc pos) (some (.Name y py)) spos.line X.env = pure true := by rfl)
    (hs : ∀ x, foldedSetIterable iter X.env x = pure x := by intro _; rfl) : PS X (.Assign [.Name y py] (.ListComp elt [⟨tg, iter, ifs, 0⟩] sc pos) spos) (tAsg (tComp wi tgs.length g tt te) (gName j)) := by
  intro pins s σ H Dn I h
  let Q : VK := fun x H1 => Dn.nx (σ.set j (some x)) H1
  have h : tComp wi tgs.length g tt te σ H Q := h
  have hfr : ∀ y ∈ sc.names, y.2 = .free → ∃ c, X.env.cells.lookup y.1 = some c := fun y hy e => I.ok.has _ (B.free y hy e)
  have hsub : ∀ x c, (clF X.env sc.names []).lookup x = some c → X.env.cells.lookup x = some c := clF_sub sc.names [] hfr fun _ _ z => by simp at z
  rw [exec_Assign_Name_used _ _ _ _ hsw]
  refine wpAny_bind (wpAny_standAt (wpAny_bind ?_))
  show wpAny _ X.A (do let _ ← comprehension (.ListComp elt [⟨tg, iter, ifs, 0⟩] sc pos) sc X.env _ (newList []) false (eval iter X.env) (some (assign (.Name y py) X.env))) _ _ s
  refine wpAny_bind (wpAny_mono (wpAny_comprehension_free (use := some (assign (.Name y py) X.env)) (Q := fun _ s' => SP X pins Dn .next s') rfl hs (closure_eq hfr) B.kind B.names (thn (hi pins s σ H _ I h) fun xv s₁ h₁ => thn h₁ fun itv s₂ h₂ => ?_)) (fun _ s' hq => wpAny_pure (wpAny_pure hq)) fun _ _ e => e)
  obtain ⟨it, fp, tn, J, H2, rfl, I2, T, st2, f2, W, ⟨m0, w0⟩, turn⟩ := h₂
  have hfl : ∀ b ∈ fp, b < s₂.heap.objs.size := fun b hb => by
    obtain ⟨o, e, _⟩ := T.obj _ _ st2 b hb
    exact Heap.lt_size e
  refine wpAny_newObj_type (wpAny_newFunctionEnv B.nocell (by intro y hy; simp at hy) (fun h₁ hns₁ hsb₁ => ?_) B.kind)
  dsimp only at hns₁ hsb₁ ⊢
  generalize hH2 : s₂.heap.push { cls := .type "list", dict := none, data := .seq ([] : List Value).toArray } = HH at hns₁ hsb₁ ⊢
  have hC : HH.objs.size = s₂.heap.objs.size + 1 := by rw [← hH2, Heap.size_push]
  generalize hCC : HH.objs.size = C at hC hns₁ hsb₁ ⊢
  generalize hDD : s₂.heap.objs.size = D at hC ⊢
  have hDC : D ≠ C := by omega
  have below : ∀ b, b < D → b ≠ C ∧ b ≠ D := fun b hb => ⟨by omega, by omega⟩
  have old : ∀ b o, s₂.heap.get? b = some o → h₁.get? b = some o := fun b o e => hsb₁.extBut b o (below b (hDD ▸ Heap.lt_size e)).1 (Heap.get?_push_of_some _ (hH2 ▸ Heap.get?_push_of_some _ e))
  have hacc : h₁.PlainList D #[] := ⟨_, hsb₁.extBut _ _ hDC (Heap.get?_push_of_some _ (by rw [← hH2, ← hDD]; exact Heap.get?_push_size _ rfl))⟩
  have hCs : s₂.heap.objs.size ≤ C := by omega
  generalize hS4 : ({ s₂ with heap := h₁, toks := s₂.toks + ([] : List (Str × Value)).length } : Shared) = s₄
  have I4 : Inv (blk X sc (clF X.env sc.names []) C fp s₂ H2 (M ++ tgs)) [] (σ ++ List.replicate tgs.length none) H2 s₄ :=
    I2.blk B f2 hfl hCs (by rw [← hS4]; exact hns₁) (by rw [← hS4]; exact old) (by rw [← hS4]) (by rw [← hS4])
  have hD4 : s₄.heap.PlainList D #[] := by rw [← hS4]; exact hacc
  have st4 : tn 0 s₄.heap := by rw [← hS4]; exact T.keep _ _ _ st2 fun b _ o e => old b o e
  -- what holds through the loop
  let X' := blk X sc (clF X.env sc.names []) C fp s₂ H2 (M ++ tgs)
  have nfs : ∀ b, s₂.heap.objs.size ≤ b → b ∉ frs X.stack := fun b hb z => by
    rcases List.mem_cons.mp (I2.stkSub b z) with q | q
    · rw [q] at hb; exact absurd I2.lt (Nat.not_lt.mpr hb)
    · exact I2.nofs hb q
  have Dpin : ∀ {s' : Shared} {H' : Hp} {its : Array Value} {n : Nat}, s'.heap.get? D = some { cls := .type "list", data := .seq its n } → H' D = none →
      ∀ p ∈ [(D, ({ cls := .type "list", data := .seq its n } : Obj))], s'.heap.get? p.1 = some p.2 ∧ H' p.1 = none ∧ p.1 ≠ X'.env.locals ∧ p.1 ∉ X'.fs ∧ ∀ v, p.2.data ≠ .cell v := fun {s' H' its n} e hn p hp => by
    have e1 : p = (D, ({ cls := .type "list", data := .seq its n } : Obj)) := by simpa using hp
    subst e1
    exact ⟨e, hn, hDC, nfs D (by omega), fun v z => by cases z⟩
  have fpk : ∀ {pl : List (Addr × Obj)} {H' : Hp}, (∀ p ∈ pl, p.1 = D) → (∀ b ∈ fp, H' b = none) → ∀ b ∈ fp, FpOk X' pl H' b := fun {pl H'} hpl hn b hb => by
    refine ⟨hn b hb, (below b (hDD ▸ hfl b hb)).1, fun z => ?_, .inl hb, fun x c e => (f2 b hb).2.2.2.2.1 x c (hsub x c e), fun p hp => ?_⟩
    · rcases List.mem_cons.mp (I2.stkSub b z) with q | q
      · exact (f2 b hb).2.1 q
      · exact (f2 b hb).2.2.1 q
    · have hp' : p ∈ pl := by simpa [X', blk] using hp
      rw [hpl p hp']
      exact Ne.symm (below b (hDD ▸ hfl b hb)).2
  have cellD : ∀ x c, X'.env.cells.lookup x = some c → c ≠ D := fun x c e z => by
    obtain ⟨v, q⟩ := I2.cell x c (hsub x c e)
    have q := q.lt
    rw [z, hDD] at q
    exact Nat.lt_irrefl _ q
  have loop : codeAny (model X.prog X.w) X.A (.compLoop (.ListComp elt [⟨tg, iter, ifs, 0⟩] sc pos) 0 (.ref it) (.ref D) (compEnvC sc (clF X.env sc.names []) C X.env))
      (compPost (model X.prog X.w) X.A X.xe (some (assign (.Name y py) X.env)) (fun _ s' => SP X pins Dn .next s') (.ref D) C) s₄ := by
    refine compLoop_gen (fun n s' => ∃ i ys its k H', Inv X' [(D, { cls := .type "list", data := .seq its k })] (σ ++ List.replicate tgs.length none) H' s' ∧ Vals ys its.toList ∧ tn i s'.heap ∧ (∀ b ∈ fp, H' b = none) ∧ W i n ys H') ?_ m0 ?_
    · rintro n s5 ⟨i, ys, its, k, H5, I5, hv, st5, fr5, w5⟩
      obtain ⟨hz, w5⟩ := turn i n ys H5 w5
      have hD5 := I5.pin (D, { cls := .type "list", data := .seq its k }) (List.mem_append_right _ (by simp))
      have one : ∀ p ∈ [(D, ({ cls := .type "list", data := .seq its k } : Obj))], p.1 = D := fun p hp => by
        have : p = (D, ({ cls := .type "list", data := .seq its k } : Obj)) := by simpa using hp
        rw [this]
      rcases w5 with ⟨stop, qn⟩ | ⟨go, step⟩
      · refine thn (T.done X' rfl rfl rfl hc i _ s5 _ H5 _ I5 (fpk one fr5) st5 stop) fun r s6 ⟨hr, I6⟩ => ?_
        subst hr
        obtain ⟨m6, hn6, _⟩ := I6.loc
        have hn6 : s6.heap.Ns C m6 := hn6
        obtain ⟨e6, n6, _⟩ := I6.pin (D, { cls := .type "list", data := .seq its k }) (List.mem_append_right _ (by simp))
        have hC6 : H5 C = none := I6.free
        have hln : ys.length ≤ sizeLine := hz
        have ok8 : HOk X.prog X.w (upd H5 D (.lst ys)) s6.heap := I6.hok.track n6 ⟨hln, its.toList, k, hv, by simpa using e6⟩
        have un : Un (frs X.stack) fp H2 H5 s₂.heap s6.heap := I6.base
        have neC : ∀ b o, s₂.heap.get? b = some o → b ≠ C ∧ b ≠ D := fun b o e => below b (hDD ▸ Heap.lt_size e)
        have un7 : Un (frs X.stack) fp H2 (upd H5 D (.lst ys)) s₂.heap s6.heap := by
          refine ⟨un.keep, un.slot, fun b o e n hx => ?_, un.there, fun b xs e => ?_, fun b o u e => ?_, fun b ps e => ?_⟩
          · rw [upd_ne (neC b o e).2]; exact un.free b o e n hx
          · have q := un.tups b xs e
            rw [upd_ne (ne_of_none q n6)]; exact q
          · have q := un.frzs b o u e
            rw [upd_ne (ne_of_none q n6)]; exact q
          · obtain ⟨more, q⟩ := un.tbls b ps e
            exact ⟨more, by rw [upd_ne (ne_of_none q n6)]; exact q⟩
        have I8 : Inv X pins σ (upd H5 D (.lst ys)) s6 := I2.call' (ch := fp) I6.os un7 ok8 I6.bare (fun b hb => ⟨(f2 b hb).2.2.2.1, (f2 b hb).2.1, (f2 b hb).2.2.2.2.1, (f2 b hb).2.2.2.2.2⟩)
        have hLC : X.env.locals < C := Nat.lt_of_lt_of_le I2.lt hCs
        have hcC : ∀ x c, X.env.cells.lookup x = some c → c ≠ C := fun x c e z => by
          obtain ⟨v, q⟩ := I2.cell x c e
          have q := q.lt
          rw [z] at q
          exact absurd q (Nat.not_lt.mpr hCs)
        show wpAny _ _ (assign (.Name y py) X.env (.ref D)) _ _ _
        refine wpAny_assign_Name (store_ok2 I8 hN hjy (.inl hy) (v := .ref D) rfl (fun s9 I9 hsb => ?_) (.inr hy))
        obtain ⟨a, sb, ha⟩ := hsb
        have haC : C ≠ a := by
          rcases ha with rfl | ha
          · exact Nat.ne_of_gt hLC
          · exact Ne.symm (hcC _ _ ha)
        refine ⟨m6, hn6.sameBut sb haC, fun h' hs' => ⟨_, upd H5 D (.lst ys), I9.turned (t' := s9.toks) (it := C) (fun b o hb e => (hs'.2 b hb).trans e) (by rw [upd_ne (Ne.symm hDC)]; exact hC6) (Nat.ne_of_gt hLC) (.inr (Nat.le_trans I2.sz hCs)) hcC (fun p hp z => ?_), qn D n6⟩⟩
        have := Heap.lt_size (I2.pin p hp).1
        rw [z] at this
        exact absurd this (Nat.not_lt.mpr hCs)
      · refine thn (T.item X' rfl rfl rfl hc i _ s5 _ H5 _ I5 (fpk one fr5) st5 go) fun r s6 ⟨u, hr, h6⟩ => ?_
        subst hr
        refine thn h6 fun _ s7 ⟨x, H7, I7, r7, y7, st7, fr7⟩ => ?_
        have I7' := I7.pinned (fpk one fr7) (T.obj _ _ st7)
        refine thn (hg _ _ _ _ _ _ s7 _ H7 x u _ I7' r7 (step x H7 y7)) fun _ s8 ⟨σ8, H8, I8, tk8, q8⟩ => ?_
        refine thn (ht _ _ _ _ _ _ s8 σ8 H8 _ I8 q8) fun b s9 ⟨H9, I9, q9⟩ => ?_
        -- the turn's end, from a state in which nothing but the list has changed
        have weak : ∀ {pl : List (Addr × Obj)} {H' : Hp} {s' : Shared}, Inv X' pl σ8 H' s' → Inv X' pl (σ ++ List.replicate tgs.length none) H' s' := fun {pl H' s'} J => J.weak (by
          have e1 : σ8.length = (M ++ tgs).length := J.len
          rw [e1, List.length_append, List.length_append, List.length_replicate, B.len, I2.len]) (st_back tk8)
        have fin : ∀ {H' : Hp} {s' : Shared}, Inv X' ([(D, { cls := .type "list", data := .seq its k })] ++ pinsAt fp s7.heap) σ8 H' s' → tn (i + 1) s'.heap ∧ ∀ b ∈ fp, H' b = none := fun {H' s'} J => by
          refine ⟨T.keep _ _ _ st7 fun b hb o e => (J.pin (b, o) (List.mem_append_right _ (List.mem_append_right _ (mem_pinsAt hb e)))).1, fun b hb => ?_⟩
          obtain ⟨o, e, d⟩ := T.obj _ _ st7 b hb
          exact (J.pin (b, o) (List.mem_append_right _ (List.mem_append_right _ (mem_pinsAt hb e)))).2.1
        cases b with
        | false =>
          rw [if_neg Bool.false_ne_true] at q9 ⊢
          obtain ⟨m', hm, w9⟩ := q9
          exact ⟨m', hm, i + 1, ys, its, k, H9, weak I9.unpinned, hv, (fin I9).1, (fin I9).2, w9⟩
        | true =>
          rw [if_pos rfl] at q9 ⊢
          refine thn (he _ _ _ _ _ _ s9 σ8 H9 _ I9 q9) fun y s10 ⟨yv, H10, I10, r10, q10⟩ => ?_
          obtain ⟨m', hm, w10⟩ := q10
          obtain ⟨e10, n10, _⟩ := I10.pin (D, { cls := .type "list", data := .seq its k }) (List.mem_append_right _ (List.mem_append_left _ (by simp)))
          have hsz : its.size ≤ sizeLine := by
            have e1 := hv.length
            have e2 : its.toList.length = its.size := by simp
            omega
          refine wpAny_list_append_plain (hsz := hsz) ⟨k, e10⟩ fun h11 hl11 hs11 => ?_
          obtain ⟨k', e11⟩ := hl11
          have J0 : Inv X' [] σ8 H10 s10 := I10.pins_of fun p hp => by simp at hp
          have J1 : Inv X' [] σ8 H10 { s10 with heap := h11 } := J0.turned (t' := s10.toks) (it := D) (fun b o hb e => (hs11.2 b hb).trans e) n10 hDC (.inr (by show s₂.heap.objs.size ≤ D; omega)) cellD (fun p hp => by
            have hp' : p ∈ ([] : List (Addr × Obj)) := by simpa [X', blk] using hp
            simp at hp')
          have J2 : Inv X' [(D, { cls := .type "list", data := .seq (its.push y) k' })] σ8 H10 { s10 with heap := h11 } := J1.pins_of (Dpin e11 n10)
          refine ⟨m', hm, i + 1, ys ++ [yv], its.push y, k', H10, weak J2, ?_, ?_, (fin I10).2, w10⟩
          · rw [Array.toList_push]
            exact hv.append (.cons r10 .nil)
          · refine T.keep _ _ _ (fin I10).1 fun b hb o e => (hs11.2 b ?_).trans e
            exact (below b (hDD ▸ hfl b hb)).2
    · obtain ⟨k, e⟩ := hD4
      exact ⟨0, [], #[], k, H2, I4.pins_of (Dpin e (I2.hok.fresh (by omega))), .nil, st4, fun b hb => (f2 b hb).1, w0⟩
  exact codeAny_compStart_list loop (T.self _ _ _ _ _ st4 loop)
end
end L2
namespace L2
open PySem PySem.Spec PyProof.Rows
section
variable {X : Cx}
def rSortI (K : PySem.W.Frag) : List V → Hp → (V → Hp → Prop) → Prop := fun xs H Q => ∃ (p : Addr) (ns : List Int), xs = [V.ref p] ∧ SqL K H p (ns.map V.int) ∧ ns.length < 64 ∧
  ∀ l (ms : List Int), H l = none → List.Perm ms ns → ms.Pairwise (· ≤ ·) → Q (.ref l) (upd H l (.lst (ms.map V.int)))
theorem vals_ofInts {us : List Value} {ns : List Int} (h : IntsAre us ns) : Vals (ns.map V.int) us := by
  induction h with
  | nil => exact .nil
  | cons a t _ ih => exact .cons ⟨t, rfl⟩ ih
theorem call_sortedI : CallR X (.builtin "sorted") (rSortI X.K) := by
  intro pins s σ H xs us Q I r h
  obtain ⟨p, ns, rfl, hq, h64, q⟩ := h
  obtain ⟨u, rfl, ru⟩ := vals1 r
  cases ru
  obtain ⟨its, rv, pl, hz⟩ := I.list hq
  have hlen := rv.length
  rw [List.length_map] at hlen
  refine sorted_ints pl.isList (intsAre_of rv) (by omega) fun out ms hi hp hs => ?_
  have hf : H (s.heap.objs.size + 1) = none := I.hok.fresh (Nat.le_succ _)
  obtain ⟨e, he⟩ := sortedAll_at s.heap its out
  refine ⟨.ref (s.heap.objs.size + 1), upd H (s.heap.objs.size + 1) (.lst (ms.map V.int)), I.laid (t' := s.toks) (fun b o => sortedAll_old) (Nat.le_succ _) ⟨?_, out.toList, e, vals_ofInts hi, by simpa using he⟩, rfl, q _ _ hf hp hs⟩
  rw [List.length_map, hp.length_eq]
  rwa [List.length_map] at hz
def rListR : List V → Hp → (V → Hp → Prop) → Prop := fun xs H Q => ∃ (p : Addr) (lo hi : Int), xs = [V.ref p] ∧ H p = some (.rng lo hi) ∧ -(2 ^ 62) ≤ lo ∧ lo < 2 ^ 62 ∧ -(2 ^ 62) ≤ hi ∧ hi < 2 ^ 62 ∧ (hi - lo).toNat ≤ 1000 ∧
  ∀ l, H l = none → Q (.ref l) (upd H l (.lst ((List.range (hi - lo).toNat).map fun k => V.int (lo + (k : Nat)))))
theorem vals_of_get : ∀ {xs : List V} {us : List Value}, xs.length = us.length → (∀ (i : Nat) (x : V) (u : Value), xs[i]? = some x → us[i]? = some u → RelV x u) → Vals xs us
  | [], [], _, _ => .nil
  | x :: xs, u :: us, h, q => .cons (q 0 x u rfl rfl) (vals_of_get (by simpa using h) fun i x' u' h1 h2 => q (i + 1) x' u' (by simpa using h1) (by simpa using h2))
  | [], _ :: _, h, _ => by simp at h
  | _ :: _, [], h, _ => by simp at h
theorem call_listR (hc : X.calm = true) : CallR X (.type "list") rListR := by
  intro pins s σ H xs us Q I r h
  obtain ⟨p, lo, hi, rfl, hp, h1, h2, h3, h4, hn, q⟩ := h
  obtain ⟨u, rfl, ru⟩ := vals1 r
  cases ru
  obtain ⟨t, u, v, e⟩ := (show ObjOk X.prog X.w H s.heap p (.rng lo hi) from I.hok p _ hp)
  have hsz : Builtin.Range.rangeSize lo hi 1 = ((hi - lo).toNat : Nat) := by rw [rangeSize_one]; split <;> omega
  refine call_list_range (n := (hi - lo).toNat) (I.ok.hd hc) (show IsRange s.heap p lo hi 1 t u v from e) (small_one h1 h2 h3 h4) hsz (by omega) fun h' tk acc c hk hS hacc => ?_
  have hf : H s.heap.objs.size = none := I.hok.fresh (Nat.le_refl _)
  refine ⟨.ref s.heap.objs.size, _, I.laid (o := .lst ((List.range (hi - lo).toNat).map fun k => V.int (lo + (k : Nat)))) hk (Nat.le_refl _) ⟨?_, acc.toList, c, vals_of_get ?_ ?_, by simpa using hS⟩, rfl, q _ hf⟩
  · rw [List.length_map, List.length_range]; exact Nat.le_of_lt (small1000 hn)
  · rw [List.length_map, List.length_range, Array.length_toList, hacc.1]
  · intro i x w hx hw
    rw [List.getElem?_map] at hx
    obtain ⟨k, hk', rfl⟩ := Option.map_eq_some_iff.mp hx
    have ek : i = k := by
      rw [List.getElem?_eq_some_iff] at hk'
      obtain ⟨z, e⟩ := hk'
      simpa using e
    subst ek
    obtain ⟨t', rfl⟩ := hacc.2 i w (by simpa using hw)
    refine ⟨t', ?_⟩
    rw [Int.mul_one]
end
end L2
namespace St2
open PySem PyProof.Rows
abbrev kinds (ns : List Int) (k : Nat) : List Int := firstMet (fun j => ns.getD j 0) k
abbrev newS (led : Bool) : Obj := { cls := .type "set", dict := none, data := .set #[] 0 (.fresh 0 0 led) }
section
variable {prog : Program} {w : World} {A : Around} {E : Value → Shared → Prop} {s : Shared}
theorem set_tuple {a : Addr} {its : Array Value} {ns : List Int} {Q : Value → Shared → Prop} (calm : A.handled = none) (tu : IsTup s.heap a its) (inz : IntsAre its.toList ns) (few : its.size + 1 < scanBound)
    (q : ∀ (h' : Heap) (tk : Nat), h'.SetOf (intKind prog w) s.heap.objs.size (fun x => (kinds ns its.size).any (· == x)) (kinds ns its.size).length → (∀ b o, b < s.heap.objs.size → s.heap.get? b = some o → h'.get? b = some o) → Q (.ref s.heap.objs.size) { s with heap := h', toks := tk }) :
    wpAny (model prog w) A (call (.type "set") [.ref a]) Q E s := by
  obtain ⟨c0, tl0, mro0⟩ := F.called_set.mro
  have m1 := F.called_set.made
  have m2 := F.called_set.sub
  have m3 := F.called_set.notType
  have m4 := F.called_set.canCreate
  have m5 := F.typeCall_set_1 (.ref a)
  refine wpAny_call (codeAny_of_tree ?_)
  show wpAny _ _ (callAny (.type "set") _) _ _ _
  refine wpAny_pure ⟨Code.quiet_builtin _ (by decide +kernel), codeAny_builtin F.entry_type_call ?_⟩
  rw [Around.under_plain (weight_type_call_type "set" [.ref a] []) rfl]
  repeat (any_goals (first | assumption | wp_step))
  refine codeAny_mono (code_set_new_1 (.ref a) (E := E) (Q₁ := fun ob t1 => ∃ led : Bool, ob = .ref s.heap.objs.size ∧ t1 = { s with heap := s.heap.push (newS led) }) fun led => ⟨led, rfl, rfl⟩) fun res t1 hres => ?_
  cases res with
  | error x => exact hres
  | ok fl =>
    cases fl with
    | next => exact hres.elim
    | brk => exact hres.elim
    | cont => exact hres.elim
    | ret ob =>
      obtain ⟨led, rfl, rfl⟩ := hres
      have atS : (s.heap.push (newS led)).get? s.heap.objs.size = some (newS led) := Heap.get?_push_size _ rfl
      have tyS : Shared.TypeIs { s with heap := s.heap.push (newS led) } (.ref s.heap.objs.size) "set" := ⟨_, atS, rfl⟩
      have i1 := F.called_set.init.lookup
      have i2 := F.called_set.init.bind (.ref s.heap.objs.size)
      repeat (any_goals (first | assumption | wp_step))
      refine codeAny_mono (codeAny_call_builtin (R := wants (fun r t2 => r = .none ∧ ∃ h' tk, t2 = { s with heap := h', toks := tk } ∧ h'.SetOf (intKind prog w) s.heap.objs.size (fun x => (kinds ns its.size).any (· == x)) (kinds ns its.size).length ∧
          (∀ b o, b < s.heap.objs.size → s.heap.get? b = some o → h'.get? b = some o)) E) F.called_set.init.plain F.entry_set_init (check_set_init_1 tyS ?_)) fun r2 t2 hr2 => ?_
      · obtain ⟨⟨k1, k2, k3, k4⟩, e0, e1, n0, e2⟩ := id tu
        simp only at e1 e2
        subst e1 e2
        have e0' : (s.heap.push (newS led)).get? a = some ⟨.type "tuple", k2, .seq its n0, k4⟩ := Heap.get?_push_of_some _ e0
        have j1 := F.sub_tuple_set
        have j2 := F.sub_tuple_frozenset
        have j3 : (Value.type "tuple" == Value.type "dict") = false := by decide
        have tu1 : IsTup (s.heap.push (newS led)) a its := ⟨_, e0', rfl, n0, rfl⟩
        unfold Builtin.«set.__init__» noKeywords Builtin.Frozenset.updateFrom
        generalize hPy : pyIter = PY
        wp_walk
        subst hPy
        refine wpAny_pyIter_tuple (show (s.heap.push (newS led)).IsTuple a its from tu1) ?_
        refine wpAny_bind (wpAny_runValue ?_)
        have lt : a < s.heap.objs.size := Heap.lt_size e0
        have calm3 : A.in1.in1.in1.handled = none := by simp [calm]
        have ne1 : a ≠ (s.heap.push (newS led)).objs.size := by rw [Heap.size_push]; exact Nat.ne_of_lt (Nat.lt_succ_of_lt lt)
        have out : s.heap.objs.size ∉ [(s.heap.push (newS led)).objs.size, a] := by
          rw [Heap.size_push]
          simp only [List.mem_cons, List.not_mem_nil, or_false, not_or]
          exact ⟨Nat.ne_of_lt (Nat.lt_succ_self _), Nat.ne_of_gt lt⟩
        refine codeAny_set_update_loopS ((Walks.tuple calm3 _ a ne1 its).toS) s.heap.objs.size out (fun j => ns.getD j 0) (fun i v hv => IntsAre.int_at inz i v (by rw [Array.getElem?_toList]; exact hv)) few (its.size - 0) 0 _ (by omega) (Nat.zero_le _) ⟨⟨_, Heap.get?_push_size _ rfl, rfl, rfl⟩, ?T⟩ ?S ?R
        case T => exact ⟨_, Heap.get?_push_of_some _ e0', rfl, n0, rfl⟩
        case S => exact SetOf_congr ((setObjOf_fresh (knd := intKind prog w) led).setOf (Heap.get?_push_of_some _ atS) (by unfold scanBound; omega)) (fun _ => rfl) rfl
        case R =>
          rintro ⟨h', g', d', tk', os'⟩ mv st
          have w1 : g' = s.gens := mv.gens
          have w2 : d' = s.drawn := mv.drawn
          have w3 : os' = s.os := mv.os
          subst w1 w2 w3
          refine wpAny_pure ?_
          show wpAny _ _ (ret Value.none) _ _ _
          refine wpAny_pure ⟨rfl, h', tk', rfl, st, fun b o lb e => mv.heap b o ?_ (Heap.get?_push_of_some _ (Heap.get?_push_of_some _ e))⟩
          rw [Heap.size_push]
          simp only [List.mem_cons, List.not_mem_nil, or_false, not_or]
          exact ⟨Nat.ne_of_lt lb, Nat.ne_of_lt (Nat.lt_succ_of_lt lb)⟩
      · cases r2 with
        | error x => exact hr2
        | ok f2 =>
          cases f2 with
          | ret r =>
            obtain ⟨rfl, h', tk, rfl, st, kp⟩ := hr2
            repeat (any_goals (first | assumption | wp_step))
            exact q _ _ st kp
          | next => exact hr2.elim
          | brk => exact hr2.elim
          | cont => exact hr2.elim
end
end St2
namespace L2
open PySem PySem.Spec PyProof.Rows
section
variable {X : Cx}
def rLenSet : List V → Hp → VK → Prop := fun xs H Q => ∃ (p : Addr) (S : Int → Bool) (n : Nat), xs = [V.ref p] ∧ H p = some (.set S n) ∧ n ≤ 1000 ∧ Q (.int (n : Nat)) H
theorem call_lenSet : CallR X (.builtin "len") rLenSet := by
  intro pins s σ H xs us Q I r h
  obtain ⟨p, S, n, rfl, hp, hn, q⟩ := h
  obtain ⟨u, rfl, ru⟩ := vals1 r
  cases ru
  obtain ⟨o, es, ep, t, ho, ex, hd, _, _, _, hf, rfl⟩ := (show s.heap.SetOf (intKind X.prog X.w) p S n from I.hok p _ hp)
  exact call_len_set ho ex hd hf (by omega) ⟨.int (es.size : Nat), H, I.tok _, ⟨_, rfl⟩, q⟩
end
end L2
namespace St2
open PySem PyProof.Rows
theorem take_map (ns : List Int) : ∀ i, i ≤ ns.length → (List.range i).map (fun j => ns.getD j 0) = ns.take i
  | 0, _ => rfl
  | i + 1, h => by
    have hi : i < ns.length := by omega
    rw [List.range_succ, List.map_append, take_map ns i (by omega), List.take_add_one, List.getElem?_eq_getElem hi]
    simp [hi]
end St2
namespace Tr2
open PySem PyProof.Rows
section
variable {prog : Program} {w : World} {A : Around} {E : Value → Shared → Prop} {s : Shared}
theorem gather0 {R : Result → Shared → Prop} {r : Addr} {a b : Int} {t u v : Tok} {k : Nat} (calm : A.handled = none) (rg : IsRange s.heap r a b 1 t u v) (sm : Builtin.Range.small a b 1 = true) (sz : Builtin.Range.rangeSize a b 1 = k) (few : k ≤ 1000)
    (q : ∀ (h' : Heap) (tk : Nat) (acc : Array Value) (c0 : Nat), (∀ x o, s.heap.get? x = some o → h'.get? x = some o) → h'.get? s.heap.objs.size = some { cls := .type "list", dict := none, data := .seq acc c0, slots := #[] } → ItemsOf (fun i v => ∃ t, v = .int (a + i * 1) t) acc k → R (.ok (.ret (.ref s.heap.objs.size))) { s with heap := h', toks := tk }) :
    codeAny (model prog w) A (.builtin "proto.collect" ⟨[.ref r], []⟩) R s := by
  refine (codeAny_builtin PySem.F.entry_proto_collect ?_)
  rw [(Around.under_plainId PySem.F.plain_proto_collect _)]
  show wpAny _ A.in1 (newList [] >>= fun l => again (.builtin "list.__iadd__" ⟨[l, .ref r], []⟩)) (_) _ s
  refine wpAny_bind (wpAny_newObj_type (wpAny_pure ⟨plainId_quiet PySem.F.plain_list_iadd _, codeAny_builtin PySem.F.entry_list_iadd ?_⟩))
  rw [(Around.under_plainId PySem.F.plain_list_iadd _)]
  have at_ : (s.heap.push { cls := .type "list", data := .seq ([] : List Value).toArray }).get? s.heap.objs.size = some { cls := .type "list", data := .seq #[] 0 } := Heap.get?_push_size _ rfl
  show wpAny _ A.in1 (Builtin.List.listExtendWith (.ref s.heap.objs.size) (.ref r) (.ref s.heap.objs.size)) (_) _ _
  exact wpAny_extend_range (A := A) (R := R) (s := { s with heap := s.heap.push { cls := .type "list", data := .seq ([] : List Value).toArray } }) calm (Heap.get?_push_of_some _ rg) sm sz (by omega) s.heap.objs.size (.ref s.heap.objs.size) 0 at_ fun h' tk acc c0 kp hS it =>
    q h' tk acc c0 (fun x o e => kp x o (Nat.ne_of_lt (Heap.lt_size e)) (Heap.get?_push_of_some _ e)) hS it
theorem gather {Q : List Value → Shared → Prop} {r : Addr} {a b : Int} {t u v : Tok} {k : Nat} (calm : A.handled = none) (rg : IsRange s.heap r a b 1 t u v) (sm : Builtin.Range.small a b 1 = true) (sz : Builtin.Range.rangeSize a b 1 = k) (few : k ≤ 1000)
    (q : ∀ (h' : Heap) (tk : Nat) (acc : Array Value), s.heap.objs.size < h'.objs.size → (∀ x o, s.heap.get? x = some o → h'.get? x = some o) → ItemsOf (fun i v => ∃ t, v = .int (a + i * 1) t) acc k → Q acc.toList { s with heap := h', toks := tk }) : wpAny (model prog w) A (collect (.ref r)) Q E s := by
  unfold collect
  refine wpAny_bind (wpAny_runValue (gather0 calm rg sm sz few fun h' tk acc c0 kp hS it => ?_))
  show wpAny _ A (load s.heap.objs.size >>= _) (_) _ _
  refine wpAny_bind (wpAny_load hS ?_)
  exact wpAny_pure (q h' tk acc (Heap.lt_size hS) kp it)
theorem made {r : Addr} {a b : Int} {t u v : Tok} {k : Nat} (sm : Builtin.Range.small a b 1 = true) (sz : Builtin.Range.rangeSize a b 1 = k) (few : k ≤ 1000) : Meets (Builtin.«tuple.__new__» ⟨[.type "tuple", .ref r], []⟩)
    (fun A R s => A.handled = none ∧ IsRange s.heap r a b 1 t u v ∧ ∀ (h' : Heap) (tk : Nat) (acc : Array Value), s.heap.objs.size < h'.objs.size → (∀ x o, s.heap.get? x = some o → h'.get? x = some o) → ItemsOf (fun i v => ∃ t, v = .int (a + i * 1) t) acc k → R (.ok (.ret (.ref h'.objs.size))) { s with heap := h'.push { cls := .type "tuple", data := .seq acc }, toks := tk }) :=
  .of_wp fun prog w A R s h => by
    obtain ⟨calm, rg, h⟩ := h
    have f1 := sub_tuple_self
    have f2 := init_tuple_lookup
    have f3 := madeHere_tuple
    have ty : s.TypeIs (.ref r) "range" := ⟨_, rg, rfl⟩
    have calm1 : A.in1.handled = none := calm
    wp_walk using wpAny_typeOf ty, gather calm1 rg sm sz few
    intro h' tk acc lz kp it
    show wpAny _ _ (Builtin.Tuple.tupleExact acc.toList.toArray >>= fun v => ret v) (_) _ _
    unfold Builtin.Tuple.tupleExact
    refine (wpAny_bind (wpAny_newObj_type ?_ (show acc.toList.toArray.size ≤ sizeLine by simp only [Array.toArray_toList]; rw [it.1, sizeLine_eq]; omega)))
    refine wpAny_pure ⟨_, rfl, ?_⟩
    rw [show acc.toList.toArray = acc by simp]
    exact h h' tk acc lz kp it
theorem tuple_range {Q : Value → Shared → Prop} {r : Addr} {a b : Int} {t u v : Tok} {k : Nat} (calm : A.handled = none) (rg : IsRange s.heap r a b 1 t u v) (sm : Builtin.Range.small a b 1 = true) (sz : Builtin.Range.rangeSize a b 1 = k) (few : k ≤ 1000)
    (q : ∀ (h' : Heap) (tk : Nat) (acc : Array Value), s.heap.objs.size < h'.objs.size → (∀ x o, s.heap.get? x = some o → h'.get? x = some o) → ItemsOf (fun i v => ∃ t, v = .int (a + i * 1) t) acc k → Q (.ref h'.objs.size) { s with heap := h'.push { cls := .type "tuple", data := .seq acc }, toks := tk }) : wpAny (model prog w) A (call (.type "tuple") [.ref r]) Q E s :=
  callType_new PySem.F.called_tuple (by decide) (PySem.F.typeCall_tuple_1 _) (PySem.F.newCall_tuple_1 _) (fun obj => PySem.F.args_object_init_2 obj _) PySem.F.entry_tuple_new (made sm sz few) ⟨calm, rg, fun h' tk acc lz kp it => ⟨⟨_, Heap.get?_push_size _ rfl, rfl⟩, q h' tk acc lz kp it⟩⟩
end
end Tr2
namespace L2
open PySem PySem.Spec PyProof.Rows
section
variable {X : Cx}
def rTupR : List V → Hp → VK → Prop := fun xs H Q => ∃ (p : Addr) (lo hi : Int), xs = [V.ref p] ∧ H p = some (.rng lo hi) ∧ -(2 ^ 62) ≤ lo ∧ lo < 2 ^ 62 ∧ -(2 ^ 62) ≤ hi ∧ hi < 2 ^ 62 ∧ (hi - lo).toNat ≤ 1000 ∧
  ∀ l, H l = none → Q (.ref l) (upd H l (.tup ((List.range (hi - lo).toNat).map fun k => V.int (lo + (k : Nat)))))
theorem call_tupR (hc : X.calm = true) : CallR X (.type "tuple") rTupR := by
  intro pins s σ H xs us Q I r h
  obtain ⟨p, lo, hi, rfl, hp, h1, h2, h3, h4, hn, q⟩ := h
  obtain ⟨u, rfl, ru⟩ := vals1 r
  cases ru
  obtain ⟨t, u, v, e⟩ := (show ObjOk X.prog X.w H s.heap p (.rng lo hi) from I.hok p _ hp)
  have hsz : Builtin.Range.rangeSize lo hi 1 = ((hi - lo).toNat : Nat) := by rw [rangeSize_one]; split <;> omega
  refine Tr2.tuple_range (k := (hi - lo).toNat) (I.ok.hd hc) (show IsRange s.heap p lo hi 1 t u v from e) (small_one h1 h2 h3 h4) hsz hn fun h' tk acc lz kp it => ?_
  have ge : s.heap.objs.size ≤ h'.objs.size := Nat.le_of_lt lz
  have hf : H h'.objs.size = none := I.hok.fresh ge
  refine ⟨.ref h'.objs.size, _, I.laid (o := .tup ((List.range (hi - lo).toNat).map fun k => V.int (lo + (k : Nat)))) (fun b o z => Heap.get?_push_of_some _ (kp b o z)) ge ⟨?_, acc.toList, vals_of_get ?_ ?_, ⟨_, Heap.get?_push_size _ rfl, rfl, _, rfl⟩⟩, rfl, q _ hf⟩
  · rw [List.length_map, List.length_range]; exact Nat.le_of_lt (small1000 hn)
  · rw [List.length_map, List.length_range, Array.length_toList, it.1]
  · intro i x w hx hw
    rw [List.getElem?_map] at hx
    obtain ⟨k, hk', rfl⟩ := Option.map_eq_some_iff.mp hx
    have ek : i = k := by
      rw [List.getElem?_eq_some_iff] at hk'
      obtain ⟨z, e⟩ := hk'
      simpa using e
    subst ek
    obtain ⟨t', rfl⟩ := it.2 i w (by simpa using hw)
    refine ⟨t', ?_⟩
    rw [Int.mul_one]
end
end L2
namespace L2
open PySem PySem.Spec PyProof.Rows
section
variable {X : Cx}
end
end L2
namespace L2
open PySem PySem.Spec PyProof.Rows
section
variable {X : Cx}
end
end L2
namespace L2
open PySem PySem.Spec PyProof.Rows
theorem vals_toks : ∀ {ns : List Int} {us : List Value}, Vals (ns.map V.int) us → ∃ ps : List (Int × Tok), us = ps.map (fun p => Value.int p.1 p.2) ∧ ps.map (·.1) = ns
  | [], _, .nil => ⟨[], rfl, rfl⟩
  | n :: ns, _, .cons r1 r2 => by
    obtain ⟨t, rfl⟩ := r1
    obtain ⟨ps, rfl, e⟩ := vals_toks r2
    exact ⟨(n, t) :: ps, rfl, by rw [List.map_cons, e]⟩
theorem numAt_get {ps : List (Int × Tok)} {ns : List Int} (e : ps.map (·.1) = ns) {i : Nat} (h : i < ns.length) : numAt ps.toArray i = ns[i] := by
  subst e
  rw [List.length_map] at h
  unfold numAt
  simp [h]
section
variable {X : Cx}
def rMaxL (K : PySem.W.Frag) : List V → Hp → (V → Hp → Prop) → Prop := fun xs H Q => ∃ (p : Addr) (ns : List Int), xs = [V.ref p] ∧ SqL K H p (ns.map V.int) ∧ ns ≠ [] ∧ ∀ M, M ∈ ns → (∀ a ∈ ns, a ≤ M) → Q (.int M) H
def rMinL (K : PySem.W.Frag) : List V → Hp → (V → Hp → Prop) → Prop := fun xs H Q => ∃ (p : Addr) (ns : List Int), xs = [V.ref p] ∧ SqL K H p (ns.map V.int) ∧ ns ≠ [] ∧ ∀ M, M ∈ ns → (∀ a ∈ ns, M ≤ a) → Q (.int M) H
theorem call_maxL (hc : X.calm = true) : CallR X (.builtin "max") (rMaxL X.K) := by
  intro pins s σ H xs us Q I r h
  obtain ⟨p, ns, rfl, hq, ne, q⟩ := h
  obtain ⟨u, rfl, ru⟩ := vals1 r
  cases ru
  obtain ⟨its, rv, pl, hz⟩ := I.list hq
  obtain ⟨ps, rfl, e⟩ := vals_toks rv
  have lp : ps.length = ns.length := by rw [← e, List.length_map]
  have n0 : 0 < ns.length := List.length_pos_iff.mpr ne
  have ei : intItems ps.toArray = (ps.map fun p => Value.int p.1 p.2).toArray := by unfold intItems; simp
  obtain ⟨b1, b2⟩ := argBest_gt (numAt ps.toArray) (ps.toArray.size - 1)
  have sz : ps.toArray.size = ns.length := by simp [lp]
  refine max_intList (xs := ps.toArray) (I.ok.hd hc) (by rw [ei]; exact pl.isList) (by rw [sz]; exact n0) fun v h' tk hv k => ?_
  obtain ⟨t, rfl⟩ := intItems_at hv
  rw [sz] at b1 b2 ⊢
  refine ⟨.int _, H, I.kept k, ⟨t, rfl⟩, q _ ?_ fun a ha => ?_⟩
  · rw [numAt_get e (by omega)]
    exact List.getElem_mem _
  · obtain ⟨j, hj, rfl⟩ := List.getElem_of_mem ha
    have := b2 j (by omega)
    rw [numAt_get e hj] at this
    exact this
theorem call_minL (hc : X.calm = true) : CallR X (.builtin "min") (rMinL X.K) := by
  intro pins s σ H xs us Q I r h
  obtain ⟨p, ns, rfl, hq, ne, q⟩ := h
  obtain ⟨u, rfl, ru⟩ := vals1 r
  cases ru
  obtain ⟨its, rv, pl, hz⟩ := I.list hq
  obtain ⟨ps, rfl, e⟩ := vals_toks rv
  have lp : ps.length = ns.length := by rw [← e, List.length_map]
  have n0 : 0 < ns.length := List.length_pos_iff.mpr ne
  have ei : intItems ps.toArray = (ps.map fun p => Value.int p.1 p.2).toArray := by unfold intItems; simp
  obtain ⟨b1, b2⟩ := argBest_lt (numAt ps.toArray) (ps.toArray.size - 1)
  have sz : ps.toArray.size = ns.length := by simp [lp]
  refine min_intList (xs := ps.toArray) (I.ok.hd hc) (by rw [ei]; exact pl.isList) (by rw [sz]; exact n0) fun v h' tk hv k => ?_
  obtain ⟨t, rfl⟩ := intItems_at hv
  rw [sz] at b1 b2 ⊢
  refine ⟨.int _, H, I.kept k, ⟨t, rfl⟩, q _ ?_ fun a ha => ?_⟩
  · rw [numAt_get e (by omega)]
    exact List.getElem_mem _
  · obtain ⟨j, hj, rfl⟩ := List.getElem_of_mem ha
    have := b2 j (by omega)
    rw [numAt_get e hj] at this
    exact this
end
end L2
namespace L2
open PySem PySem.Spec PyProof.Rows
section
variable {X : Cx}
end
structure Ltn (p : Addr) (H H' : Hp) : Prop where
  was : ∃ xs, H p = some (.lst xs)
  is : ∃ xs, H' p = some (.lst xs)
  same : ∀ b, b ≠ p → H' b = H b
end L2
namespace ZpT
open PySem PySem.Spec PyProof.Rows
section
variable {prog : Program} {w : World} {A : Around} {E : Value → Shared → Prop} {s : Shared}
end
open AutoSeq1 (wpAny_loadPart')
section
variable {prog : Program} {w : World} {A : Around} {E : Value → Shared → Prop} {s : Shared}
end
end ZpT
namespace L2
open PySem PySem.Spec PyProof.Rows
section
variable {X : Cx}
end
end L2
namespace St2
open PySem PySem.Spec PyProof.Rows
section
variable {prog : Program} {w : World} {A : Around} {E : Value → Shared → Prop} {s : Shared}
theorem set_list {a : Addr} {its : Array Value} {ns : List Int} {Q : Value → Shared → Prop} (calm : A.handled = none) (tu : s.heap.IsList a its) (inz : IntsAre its.toList ns) (few : its.size + 1 < scanBound)
    (q : ∀ (h' : Heap) (tk : Nat), h'.SetOf (intKind prog w) s.heap.objs.size (fun x => (kinds ns its.size).any (· == x)) (kinds ns its.size).length → (∀ b o, b < s.heap.objs.size → s.heap.get? b = some o → h'.get? b = some o) → Q (.ref s.heap.objs.size) { s with heap := h', toks := tk }) :
    wpAny (model prog w) A (call (.type "set") [.ref a]) Q E s := by
  obtain ⟨c0, tl0, mro0⟩ := F.called_set.mro
  have m1 := F.called_set.made
  have m2 := F.called_set.sub
  have m3 := F.called_set.notType
  have m4 := F.called_set.canCreate
  have m5 := F.typeCall_set_1 (.ref a)
  refine wpAny_call (codeAny_of_tree ?_)
  show wpAny _ _ (callAny (.type "set") _) _ _ _
  refine wpAny_pure ⟨Code.quiet_builtin _ (by decide +kernel), codeAny_builtin F.entry_type_call ?_⟩
  rw [Around.under_plain (weight_type_call_type "set" [.ref a] []) rfl]
  repeat (any_goals (first | assumption | wp_step))
  refine codeAny_mono (code_set_new_1 (.ref a) (E := E) (Q₁ := fun ob t1 => ∃ led : Bool, ob = .ref s.heap.objs.size ∧ t1 = { s with heap := s.heap.push (newS led) }) fun led => ⟨led, rfl, rfl⟩) fun res t1 hres => ?_
  cases res with
  | error x => exact hres
  | ok fl =>
    cases fl with
    | next => exact hres.elim
    | brk => exact hres.elim
    | cont => exact hres.elim
    | ret ob =>
      obtain ⟨led, rfl, rfl⟩ := hres
      have atS : (s.heap.push (newS led)).get? s.heap.objs.size = some (newS led) := Heap.get?_push_size _ rfl
      have tyS : Shared.TypeIs { s with heap := s.heap.push (newS led) } (.ref s.heap.objs.size) "set" := ⟨_, atS, rfl⟩
      have i1 := F.called_set.init.lookup
      have i2 := F.called_set.init.bind (.ref s.heap.objs.size)
      repeat (any_goals (first | assumption | wp_step))
      refine codeAny_mono (codeAny_call_builtin (R := wants (fun r t2 => r = .none ∧ ∃ h' tk, t2 = { s with heap := h', toks := tk } ∧ h'.SetOf (intKind prog w) s.heap.objs.size (fun x => (kinds ns its.size).any (· == x)) (kinds ns its.size).length ∧
          (∀ b o, b < s.heap.objs.size → s.heap.get? b = some o → h'.get? b = some o)) E) F.called_set.init.plain F.entry_set_init (check_set_init_1 tyS ?_)) fun r2 t2 hr2 => ?_
      · obtain ⟨⟨k1, k2, k3, k4⟩, e0, e1, n0, e2⟩ := id tu
        simp only at e1 e2
        subst e1 e2
        have e0' : (s.heap.push (newS led)).get? a = some ⟨.type "list", k2, .seq its n0, k4⟩ := Heap.get?_push_of_some _ e0
        have j1 := F.sub_list_set
        have j2 := F.sub_list_frozenset
        have j3 : (Value.type "list" == Value.type "dict") = false := by decide
        have tu1 : (s.heap.push (newS led)).IsList a its := ⟨_, e0', rfl, n0, rfl⟩
        unfold Builtin.«set.__init__» noKeywords Builtin.Frozenset.updateFrom
        generalize hPy : pyIter = PY
        wp_walk
        subst hPy
        refine wpAny_pyIter_list tu1 ?_
        refine wpAny_bind (wpAny_runValue ?_)
        have lt : a < s.heap.objs.size := Heap.lt_size e0
        have calm3 : A.in1.in1.in1.handled = none := by simp [calm]
        have ne1 : a ≠ (s.heap.push (newS led)).objs.size := by rw [Heap.size_push]; exact Nat.ne_of_lt (Nat.lt_succ_of_lt lt)
        have out : s.heap.objs.size ∉ [(s.heap.push (newS led)).objs.size, a] := by
          rw [Heap.size_push]
          simp only [List.mem_cons, List.not_mem_nil, or_false, not_or]
          exact ⟨Nat.ne_of_lt (Nat.lt_succ_self _), Nat.ne_of_gt lt⟩
        refine codeAny_set_update_loopS ((Walks.list calm3 _ a ne1 its).toS) s.heap.objs.size out (fun j => ns.getD j 0) (fun i v hv => IntsAre.int_at inz i v (by rw [Array.getElem?_toList]; exact hv)) few (its.size - 0) 0 _ (by omega) (Nat.zero_le _) ⟨⟨_, Heap.get?_push_size _ rfl, rfl, rfl⟩, ?T⟩ ?S ?R
        case T => exact ⟨_, Heap.get?_push_of_some _ e0', rfl, n0, rfl⟩
        case S => exact SetOf_congr ((setObjOf_fresh (knd := intKind prog w) led).setOf (Heap.get?_push_of_some _ atS) (by unfold scanBound; omega)) (fun _ => rfl) rfl
        case R =>
          rintro ⟨h', g', d', tk', os'⟩ mv st
          have w1 : g' = s.gens := mv.gens
          have w2 : d' = s.drawn := mv.drawn
          have w3 : os' = s.os := mv.os
          subst w1 w2 w3
          refine wpAny_pure ?_
          show wpAny _ _ (ret Value.none) _ _ _
          refine wpAny_pure ⟨rfl, h', tk', rfl, st, fun b o lb e => mv.heap b o ?_ (Heap.get?_push_of_some _ (Heap.get?_push_of_some _ e))⟩
          rw [Heap.size_push]
          simp only [List.mem_cons, List.not_mem_nil, or_false, not_or]
          exact ⟨Nat.ne_of_lt lb, Nat.ne_of_lt (Nat.lt_succ_of_lt lb)⟩
      · cases r2 with
        | error x => exact hr2
        | ok f2 =>
          cases f2 with
          | ret r =>
            obtain ⟨rfl, h', tk, rfl, st, kp⟩ := hr2
            repeat (any_goals (first | assumption | wp_step))
            exact q _ _ st kp
          | next => exact hr2.elim
          | brk => exact hr2.elim
          | cont => exact hr2.elim
theorem collect_tuple {l : Addr} {vs : List Value} {Q : List Value → Shared → Prop} (hl : s.heap.IsTuple l vs.toArray)
    (h : Q vs { s with heap := (s.heap.push (seqObj "list" #[] 0)).update s.heap.objs.size (Obj.mapSeq (· ++ vs.toArray)) }) (hz : vs.length ≤ sizeLine) : wpAny (model prog w) A (collect (.ref l)) Q E s := by
  unfold collect
  refine wpAny_bind (wpAny_runValue (codeAny_builtin F.entry_proto_collect ?_))
  unfold Builtin.«proto.collect»
  show wpAny _ _ (newList [] >>= _) _ _ _
  refine wpAny_bind (wpAny_newList ?_ (by simp))
  refine wpAny_pure ⟨Code.quiet_builtin _ (by decide +kernel), codeAny_builtin F.entry_list_iadd ?_⟩
  obtain ⟨o, ho, hc, n, hd⟩ := id hl
  have ho' : (s.heap.push { cls := Value.type "list", data := Data.seq #[] }).get? l = some o := Heap.get?_push_of_some _ ho
  have hn : (s.heap.push { cls := Value.type "list", data := Data.seq #[] }).get? s.heap.objs.size = some { cls := Value.type "list", data := Data.seq #[] } := Heap.get?_push_size _ rfl
  have hT : Shared.TypeIs { s with heap := s.heap.push { cls := Value.type "list", data := Data.seq #[] } } (.ref l) "tuple" := ⟨o, ho', hc⟩
  show wpAny _ _ (Builtin.List.listExtendWith (.ref s.heap.objs.size) (.ref l) (.ref s.heap.objs.size)) _ _ _
  unfold Builtin.List.listExtendWith
  refine wpAny_bind (wpAny_typeOf hT ?_)
  have hb : (Builtin.List.listSameRef (.ref s.heap.objs.size) (.ref l) || Value.type "tuple" == Value.type "list" || Value.type "tuple" == Value.type "tuple") = true := by
    rw [show (Value.type "tuple" == Value.type "tuple") = true by decide, Bool.or_true]
  rw [if_pos hb]
  refine wpAny_bind (listItems_at ho' hd (wpAny_bind (listItems_at hn rfl ?_)))
  show wpAny _ _ (Builtin.List.listUpdate (.ref s.heap.objs.size) (fun x => x ++ vs.toArray) >>= _) _ _ _
  refine wpAny_bind (listUpdate_at hn rfl ?_ (by simp) (by simp; omega))
  refine wpAny_pure ?_
  have e := Heap.get?_update_self (Obj.mapSeq (· ++ vs.toArray)) hn rfl
  show wpAny _ _ (load s.heap.objs.size >>= _) _ _ _
  refine wpAny_bind (wpAny_load e ?_)
  show wpAny _ _ (pure (#[] ++ vs.toArray).toList) _ _ _
  refine wpAny_pure ?_
  simpa using h
end
end St2
namespace L2
open PySem PySem.Spec PyProof.Rows
section
variable {X : Cx}
def rSortU (K : PySem.W.Frag) : List V → Hp → (V → Hp → Prop) → Prop := fun xs H Q => ∃ (p : Addr) (ns : List Int), xs = [V.ref p] ∧ SqT K H p (ns.map V.int) ∧ ns.length < 64 ∧
  ∀ l (ms : List Int), H l = none → List.Perm ms ns → ms.Pairwise (· ≤ ·) → Q (.ref l) (upd H l (.lst (ms.map V.int)))
theorem call_sortedU : CallR X (.builtin "sorted") (rSortU X.K) := by
  intro pins s σ H xs us Q I r h
  obtain ⟨p, ns, rfl, hq, h64, q⟩ := h
  obtain ⟨u, rfl, ru⟩ := vals1 r
  cases ru
  obtain ⟨its, rv, pl, hz⟩ := I.tuple hq
  have hlen := rv.length
  rw [List.length_map] at hlen
  refine Calls.call_function_entry kind_sorted plain_sorted entry_sorted (args_sorted1 _) ?_
  unfold Builtin.«sorted»
  refine wpAny_bind (m := checkCount "sorted" 1 1 _) (wpAny_pure ?_)
  have lsz : sizeLine = 16777216 := sizeLine_eq
  refine wpAny_bind (St2.collect_tuple (show s.heap.IsTuple p its.toArray from pl) (wpAny_bind (wpAny_newList ?_ (by omega))) (by omega))
  generalize hh1 : (s.heap.push (seqObj "list" #[] 0)).update s.heap.objs.size (Obj.mapSeq (· ++ its.toArray)) = h1
  have hsz : h1.objs.size = s.heap.objs.size + 1 := by rw [← hh1, Heap.size_update, size_push']
  have k1 : ∀ b o, s.heap.get? b = some o → h1.get? b = some o := fun b o q => by
    rw [← hh1]
    exact (Heap.get?_update_other _ _ (Ne.symm (Nat.ne_of_lt (Heap.lt_size q)))).trans (Heap.get?_push_of_some _ q)
  show wpAny _ _ _ _ _ { s with heap := h1.push (seqObj "list" its.toArray 0) }
  have oL : (h1.push (seqObj "list" its.toArray 0)).get? h1.objs.size = some (seqObj "list" its.toArray 0) := Heap.get?_push_size _ rfl
  refine wpAny_bind (wpAny_holding (wpAny_call_entry slot_list_sort ⟨_, oL, rfl⟩ entry_list_sort (list_sort_tree oL (intsAre_of rv) (by omega) fun out ms hi hp hs => ⟨_, rfl, ?_⟩) (args_list_sort _)))
  have hle : s.heap.objs.size ≤ h1.objs.size := by rw [hsz]; exact Nat.le_succ _
  have hf : H h1.objs.size = none := I.hok.fresh hle
  obtain ⟨e, he⟩ := sortedHeap_at (out := out) oL
  refine wpAny_pure ⟨_, rfl, .ref h1.objs.size, upd H h1.objs.size (.lst (ms.map V.int)), I.laid (t' := s.toks) (fun b o q => ?_) hle ⟨?_, out.toList, e, vals_ofInts hi, by simpa using he⟩, rfl, q _ _ hf hp hs⟩
  · have lb := Heap.lt_size (k1 b o q)
    rw [sortedHeap_old (Nat.ne_of_lt lb) (by rw [Heap.size_push]; exact Nat.lt_succ_of_lt lb)]
    exact Heap.get?_push_of_some _ (k1 b o q)
  · rw [List.length_map, hp.length_eq]
    rwa [List.length_map] at hz
end
end L2
namespace L2
open PySem PySem.Spec PyProof.Rows
section
variable {X : Cx}
def rSumL (K : PySem.W.Frag) : List V → Hp → (V → Hp → Prop) → Prop := fun xs H Q => ∃ (p : Addr) (ns : List Int), xs = [V.ref p] ∧ SqL K H p (ns.map V.int) ∧ Q (.int ns.sum) H
theorem call_sumL (hc : X.calm = true) : CallR X (.builtin "sum") (rSumL X.K) := by
  intro pins s σ H xs us Q I r h
  obtain ⟨p, ns, rfl, hq, q⟩ := h
  obtain ⟨u, rfl, ru⟩ := vals1 r
  cases ru
  obtain ⟨its, rv, pl, hz⟩ := I.list hq
  obtain ⟨ps, rfl, e⟩ := vals_toks rv
  have ei : intItems ps.toArray = (ps.map fun p => Value.int p.1 p.2).toArray := by unfold intItems; simp
  refine sum_intListG (xs := ps.toArray) (I.ok.hd hc) (by rw [ei]; exact pl.isList) fun h' tk t' k => ?_
  have es : preSum (numAt ps.toArray) ps.toArray.size = ns.sum := by
    rw [preSum_eq, List.take_of_length_le (by simp), ← e]
  rw [es]
  exact ⟨.int _, H, I.kept k, ⟨t', rfl⟩, q⟩
def rSumU (K : PySem.W.Frag) : List V → Hp → (V → Hp → Prop) → Prop := fun xs H Q => ∃ (p : Addr) (ns : List Int), xs = [V.ref p] ∧ SqT K H p (ns.map V.int) ∧ Q (.int ns.sum) H
theorem call_sumU (hc : X.calm = true) : CallR X (.builtin "sum") (rSumU X.K) := by
  intro pins s σ H xs us Q I r h
  obtain ⟨p, ns, rfl, hq, q⟩ := h
  obtain ⟨u, rfl, ru⟩ := vals1 r
  cases ru
  obtain ⟨its, rv, pl, hz⟩ := I.tuple hq
  obtain ⟨ps, rfl, e⟩ := vals_toks rv
  have ei : intItems ps.toArray = (ps.map fun p => Value.int p.1 p.2).toArray := by unfold intItems; simp
  have ht : s.heap.IsTuple p (intItems ps.toArray) := by rw [ei]; exact pl
  have hlt : p < s.heap.objs.size := by obtain ⟨_, e, _⟩ := ht; exact Heap.lt_size e
  have sz : (intItems ps.toArray).size = ps.toArray.size := by unfold intItems; simp
  have es : preSum (numAt ps.toArray) (intItems ps.toArray).size = ns.sum := by
    rw [sz, preSum_eq, List.take_of_length_le (by simp), ← e]
  refine call_sum_walkG (wpAny_pyIter_tuple ht ?_)
  refine ⟨s.heap.objs.size, _, _, _, _, _, numAt ps.toArray, rfl, Walks.tuple (A := X.A.in1) (I.ok.hd hc) _ p (Nat.ne_of_lt hlt) (intItems ps.toArray), ⟨⟨_, Heap.get?_push_size _ rfl, rfl, rfl⟩, ht.push _⟩, fun b hb => ?_, fun _ _ => intItems_at, fun h' tk t' hk => ?_⟩
  · show b < (s.heap.push _).objs.size
    rw [Heap.size_push]
    have hb' : b = s.heap.objs.size ∨ b = p := by simpa using hb
    rcases hb' with rfl | rfl
    · exact Nat.lt_succ_self _
    · exact Nat.lt_succ_of_lt hlt
  · rw [es]
    exact ⟨.int _, H, I.kept fun b o hb => hk b o (by have := Nat.ne_of_lt (Heap.lt_size hb); simpa using this) (Heap.get?_push_of_some _ hb), ⟨t', rfl⟩, q⟩
theorem extend_tupO (l : Addr) (items : Array Value) (n : Nat) (b : Addr) (items2 : Array Value) (n2 : Nat) (dd : Option Addr) (ss : Array (Option Value)) (hs0 : ¬(!items.isEmpty && Builtin.List.listTooLong (items.size + items2.size)) = true) (hs1 : items.size ≤ sizeLine) (hs2 : items.size + items2.size ≤ sizeLine + 1) :
    Meets (Builtin.«list.extend» ⟨[.ref l, .ref b], []⟩) (fun _ R s => s.heap.get? l = some { cls := .type "list", dict := none, data := .seq items n, slots := #[] } ∧ s.heap.get? b = some { cls := .type "tuple", dict := dd, data := .seq items2 n2, slots := ss } ∧ R (.ok (.ret Value.none)) { s with heap := s.heap.update l (Obj.mapSeq fun x => x ++ items2), toks := s.toks }) :=
  .of_wp fun prog w A R s h => by
    obtain ⟨hp, g, d, tk, os⟩ := s; obtain ⟨hl, hb, h⟩ := h; have f1 := AutoSeq1.idx_int; have f2 := AutoSeq1.sub_tuple_tuple; have f3 := AutoSeq1.sub_list_list; have f4 := AutoSeq1.sub_tuple_list; have f5 := AutoSeq1.sub_list_tuple;
    have hz' : (items ++ items2).size ≤ sizeLine + 1 := by rw [Array.size_append]; exact hs2
    wp_walk using (wpAny_updateSeq hl rfl (hz := hs1) (_hz' := hz')), AutoSeq1.wpAny_loadPart' hl, AutoSeq1.wpAny_loadPart' hb; exact ⟨_, rfl, h⟩
def rExtendU : V → List V → Hp → VK → Prop := fun x vs H Q => ∃ l b xs zs, x = .ref l ∧ vs = [.ref b] ∧ H l = some (.lst xs) ∧ H b = some (.tup zs) ∧ xs.length + zs.length ≤ sizeLine ∧ Q .non (upd H l (.lst (xs ++ zs)))
theorem mt_extendU : MtM X "list.extend" rExtendU := by
  intro pins s σ H x vs v us Q I rx rv h
  obtain ⟨l, b, xs, zs, rfl, rfl, hH, hB, hz, q⟩ := h
  cases rx
  obtain ⟨u, rfl, ru⟩ := rv.one
  cases ru
  obtain ⟨z, its, n, r, hl, e⟩ := I.lstM hH
  obtain ⟨z2, its2, r2, ⟨cl, dd, dt, ss⟩, e2, ec, n2, ed⟩ := I.hok b _ hB
  dsimp only at ec ed
  subst ec ed
  have hl2 := r2.length
  have hsz : its.toArray.size + its2.toArray.size ≤ sizeLine := by rw [List.size_toArray, List.size_toArray]; omega
  have hlong : ¬ (!its.toArray.isEmpty && Builtin.List.listTooLong (its.toArray.size + its2.toArray.size)) = true := by
    rw [notLongL hsz, Bool.and_false]
    exact Bool.false_ne_true
  refine call_meets F.slot_list_extend ⟨_, e, rfl⟩ F.entry_list_extend (F.args_list_extend_2 _ _)
    (extend_tupO l its.toArray n b its2.toArray n2 dd ss hlong (by rw [List.size_toArray]; omega) (by omega)) ⟨e, e2, ?_⟩
  refine ⟨.non, _, I.lset (its' := its ++ its2) hH e (by simp) (r.append r2) ?_, rfl, q⟩
  rw [List.length_append]
  omega
end
end L2
namespace L2
open PySem PySem.Spec PyProof.Rows
section
variable {X : Cx}
end
end L2
namespace L2
open PySem PySem.Spec PyProof.Rows
section
variable {X : Cx}
end
section
variable {X : Cx} {o i : Expr} {pos : Pos} {td ty : TE}
end
end L2
namespace L2
open PySem PySem.Spec PyProof.Rows
section
variable {X : Cx} {Pre : St → Hp → Prop} {R : Hp → V → Prop}
end
section
variable {X : Cx} {Pre : St → Hp → Prop} {R : Hp → V → Prop}
end
end L2
namespace L2
open PySem PySem.Spec PyProof.Rows
section
variable {X : Cx}
end
end L2
namespace L2
open PySem PySem.Spec PyProof.Rows
section
variable {X : Cx}
end
end L2
namespace St2
open PySem PySem.Spec PyProof.Rows
section
variable {prog : Program} {w : World} {A : Around} {E : Value → Shared → Prop} {s : Shared}
end
end St2
namespace L2
open PySem PySem.Spec PyProof.Rows
section
variable {X : Cx}
end
end L2
namespace St3
open PySem PySem.Spec PyProof.Rows PySem.SeqAt PySem.MeetsSeq PySem.MeetsSeq2 PySem.MeetsSeq3
theorem kinds_mem (ns : List Int) (x : Int) : (St2.kinds ns ns.length).any (· == x) = true ↔ x ∈ ns := by
  have e := firstMet_any (fun j => ns.getD j 0) ns.length x
  rw [show (St2.kinds ns ns.length).any (· == x) = (firstMet (fun j => ns.getD j 0) ns.length).any (· == x) from rfl, e, St2.take_map ns ns.length (Nat.le_refl _), List.take_length]
  simp
end St3
namespace L2
open PySem PySem.Spec PyProof.Rows
section
variable {X : Cx}
def rSetLm (K : PySem.W.Frag) : List V → Hp → VK → Prop := fun xs H Q => ∃ (p : Addr) (ns : List Int), xs = [V.ref p] ∧ SqL K H p (ns.map V.int) ∧ ns.length ≤ 1000 ∧
  ∀ l S, H l = none → (∀ x, S x = true ↔ x ∈ ns) → Q (.ref l) (upd H l (.set S (St2.kinds ns ns.length).length))
theorem call_setLm (hc : X.calm = true) : CallR X (.type "set") (rSetLm X.K) := by
  intro pins s σ H xs us Q I r h
  obtain ⟨p, ns, rfl, hq, hn, q⟩ := h
  obtain ⟨u, rfl, ru⟩ := vals1 r
  cases ru
  obtain ⟨its, rv, pt, _⟩ := I.list hq
  have ln : its.length = ns.length := by rw [← rv.length, List.length_map]
  refine St2.set_list (ns := ns) (I.ok.hd hc) pt.isList (by simpa using intsAre_of rv) (by rw [List.size_toArray, ln]; unfold scanBound; omega) fun h' tk st kp => ?_
  have sz : its.toArray.size = ns.length := by rw [List.size_toArray, ln]
  rw [sz] at st
  have hf : H s.heap.objs.size = none := I.hok.fresh (Nat.le_refl _)
  exact ⟨.ref s.heap.objs.size, _, I.laid (o := .set _ _) (fun b o e => kp b o (Heap.lt_size e) e) (Nat.le_refl _) st, rfl, q _ _ hf (St3.kinds_mem ns)⟩
end
end L2
namespace L2
open PySem PySem.Spec PyProof.Rows
section
variable {X : Cx}
end
end L2
namespace L2
open PySem PySem.Spec PyProof.Rows
section
variable {X : Cx}
end
end L2
namespace St4
open PySem PySem.Spec PyProof.Rows PySem.W
section
variable {prog : Program} {w : World} {A : Around} {E : Value → Shared → Prop} {s : Shared} {T : String} {r d : Addr} {n : Nat} {P : Nat → Value → Prop} {OK : Heap → Prop}
end
end St4
namespace L2
open PySem PySem.Spec PyProof.Rows PySem.W
section
variable {X : Cx}
end
end L2
namespace L2
open PySem PySem.Spec PyProof.Rows PySem.W
section
variable {X : Cx}
end
end L2
namespace L2
open PySem PySem.Spec PyProof.Rows
section
variable {X : Cx}
end
end L2
namespace L2
open PySem PySem.Spec PyProof.Rows
section
variable {X : Cx}
end
end L2
namespace L2
open PySem PySem.Spec PyProof.Rows
section
variable {X : Cx}
variable {o e : Expr} {es : List Expr} {to : TE} {t : TA} {name : Str} {apos cpos : Pos} {id : String} {r : V → List V → Hp → VK → Prop}
end
end L2
namespace L2
open PySem PySem.Spec PyProof.Rows
section
variable {X : Cx} {Pre : St → Hp → Prop} {R R' : Hp → V → Prop}
end
end L2
namespace L2
open PySem PySem.Spec PyProof.Rows
mutual
def RepP (K : PySem.W.Frag) (H : Hp) : PyData → V → Prop
  | .none, v => v = .non
  | .bool b, v => v = .bl b
  | .int i, v => v = .int i
  | .str x, v => v = .str x
  | .list ds, v => ∃ p xs, v = .ref p ∧ SqL K H p xs ∧ RepPL K H ds xs
  | .tuple ds, v => ∃ p xs, v = .ref p ∧ SqT K H p xs ∧ RepPL K H ds xs
  | .dict kvs, v => kvs = [] ∧ ∃ p, v = .ref p ∧ (H p = some (.dK []) ∨ H p = some (.dT []))
def RepPL (K : PySem.W.Frag) (H : Hp) : List PyData → List V → Prop
  | [], [] => True
  | d :: ds, x :: xs => RepP K H d x ∧ RepPL K H ds xs
  | _, _ => False
end
mutual
theorem Same.repP {K : PySem.W.Frag} {H H' : Hp} (e : Same H H') : ∀ {d : PyData} {v : V}, RepP K H d v → RepP K H' d v
  | .none, _, h => h
  | .bool _, _, h => h
  | .int _, _, h => h
  | .str _, _, h => h
  | .list _, _, ⟨p, xs, h1, h2, h3⟩ => ⟨p, xs, h1, e.seq h2, e.repPL h3⟩
  | .tuple _, _, ⟨p, xs, h1, h2, h3⟩ => ⟨p, xs, h1, e.tup h2, e.repPL h3⟩
  | .dict _, _, ⟨h0, p, h1, h2⟩ => ⟨h0, p, h1, h2.elim (fun z => .inl (e _ _ z)) fun z => .inr (e _ _ z)⟩
theorem Same.repPL {K : PySem.W.Frag} {H H' : Hp} (e : Same H H') : ∀ {ds : List PyData} {xs : List V}, RepPL K H ds xs → RepPL K H' ds xs
  | [], [], _ => trivial
  | _ :: _, _ :: _, h => ⟨e.repP h.1, e.repPL h.2⟩
  | [], _ :: _, h => h.elim
  | _ :: _, [], h => h.elim
end
def PyDt : PyData → Dt
  | .none => .non | .bool b => .bl b | .int i => .int i | .str x => .str x | .list _ => .lst | .dict _ => .dct | .tuple ds => .tup (ds.map PyDt)
mutual
theorem RepP.rep {K : PySem.W.Frag} {H : Hp} : ∀ {d : PyData} {v : V}, RepP K H d v → Rep K H (PyDt d) v
  | .none, _, h => by unfold PyDt; exact h
  | .bool _, _, h => by unfold PyDt; exact h
  | .int _, _, h => by unfold PyDt; exact h
  | .str _, _, h => by unfold PyDt; exact h
  | .list _, _, ⟨p, xs, h1, h2, _⟩ => by unfold PyDt; exact ⟨p, xs, h1, h2⟩
  | .tuple _, _, ⟨p, xs, h1, h2, h3⟩ => by unfold PyDt; exact ⟨p, xs, h1, h2, RepPL.rep h3⟩
  | .dict _, _, ⟨_, p, h1, h2⟩ => by unfold PyDt; exact ⟨p, h1, h2.elim (fun z => .inl ⟨_, z⟩) fun z => .inr ⟨_, z⟩⟩
theorem RepPL.rep {K : PySem.W.Frag} {H : Hp} : ∀ {ds : List PyData} {xs : List V}, RepPL K H ds xs → RepL K H (ds.map PyDt) xs
  | [], [], _ => trivial
  | _ :: _, _ :: _, h => ⟨RepP.rep h.1, RepPL.rep h.2⟩
  | [], _ :: _, h => h.elim
  | _ :: _, [], h => h.elim
end
section
variable {X : Cx} {pins : List (Addr × Obj)} {σ : St} {H : Hp} {s : Shared}
mutual
theorem reads_of (I : Inv X pins σ H s) : ∀ {d : PyData} {v : V} {u : Value}, RepP X.K H d v → RelV v u → ∃ as, Reads s.heap u d as ∧ ((d = .dict [] ∨ d.hasDict = false) → d.hasDict = true → sysModules ∉ as)
  | .none, _, _, h, r => by cases h; cases r; exact ⟨[], .none, fun _ z => by simp [PyData.hasDict] at z⟩
  | .bool b, _, _, h, r => by cases h; cases r; exact ⟨[], .bool b, fun _ z => by simp [PyData.hasDict] at z⟩
  | .int i, _, _, h, r => by cases h; obtain ⟨t, rfl⟩ := r; exact ⟨[], .int i t, fun _ z => by simp [PyData.hasDict] at z⟩
  | .str x, _, _, h, r => by cases h; obtain ⟨t, rfl⟩ := r; exact ⟨[], .str x t, fun _ z => by simp [PyData.hasDict] at z⟩
  | .list ds, _, _, ⟨p, xs, h1, h2, h3⟩, r => by
    subst h1
    cases r
    obtain ⟨its, rv, pl, _⟩ := I.list h2
    obtain ⟨o, e1, e2, n, e3⟩ := pl.isList
    obtain ⟨as, ra⟩ := readsAll_of I h3 rv
    refine ⟨p :: as, .list e1 e2 e3 (by simpa using ra), fun z1 z2 => ?_⟩
    rcases z1 with z1 | z1
    · cases z1
    · rw [z2] at z1; cases z1
  | .tuple ds, _, _, ⟨p, xs, h1, h2, h3⟩, r => by
    subst h1
    cases r
    obtain ⟨its, rv, pl, _⟩ := I.tuple h2
    obtain ⟨o, e1, e2, n, e3⟩ := pl
    obtain ⟨as, ra⟩ := readsAll_of I h3 rv
    refine ⟨as, .tuple e1 e2 e3 (by simpa using ra), fun z1 z2 => ?_⟩
    rcases z1 with z1 | z1
    · cases z1
    · rw [z2] at z1; cases z1
  | .dict kvs, _, _, ⟨h0, p, h1, h2⟩, r => by
    subst h1 h0
    cases r
    have z : ∃ o es ep, s.heap.get? p = some o ∧ o.cls = .type "dict" ∧ o.data = .dict es ep ∧ es.toList = [] ∧ (p == sysModules) = false := by
      rcases h2 with h2 | h2
      · obtain ⟨_, ne, vs, kv, o, es, ep, e, ex, hd, _, pr, _⟩ := I.hok p _ h2
        cases kv
        refine ⟨o, es, ep, e, ex.1, hd, ?_, ne⟩
        cases hes : es.toList with
        | nil => rfl
        | cons a l => rw [hes] at pr; cases pr
      · obtain ⟨_, ne, xs, pr, o, es, ep, e, ex, hd, hl, _⟩ := I.hok p _ h2
        cases pr
        exact ⟨o, es, ep, e, ex.1, hd, hl, ne⟩
    obtain ⟨o, es, ep, e1, e2, e3, e4, ne⟩ := z
    refine ⟨_, .dict (as := []) (bs := []) e1 e2 e3 (by rw [e4]; exact .nil) (by rw [e4]; exact .nil), fun _ _ hm => ?_⟩
    have : sysModules = p := by simpa using hm
    rw [this] at ne
    simp at ne
theorem readsAll_of (I : Inv X pins σ H s) : ∀ {ds : List PyData} {xs : List V} {us : List Value}, RepPL X.K H ds xs → Vals xs us → ∃ as, ReadsAll s.heap us ds as
  | [], [], _, _, r => by cases r; exact ⟨[], .nil⟩
  | _ :: _, _ :: _, _, h, r => by
    cases r with
    | cons r t =>
      obtain ⟨a1, r1, _⟩ := reads_of I h.1 r
      obtain ⟨a2, r2⟩ := readsAll_of I h.2 t
      exact ⟨a1 ++ a2, .cons r1 r2⟩
  | [], _ :: _, _, h, _ => h.elim
  | _ :: _, [], _, h, _ => h.elim
end
end
section
variable {X : Cx}
end
end L2
namespace L2
open PySem PySem.Spec PyProof.Rows
section
variable {X : Cx} {a b c d : Expr} {ta tb tc td : TE} {pos : Pos}
end
end L2
namespace L2
open PySem PySem.Spec PyProof.Rows
section
open PySem.SeqAt PySem.MeetsSeq
open AutoSeq1 (wpAny_loadPart')
variable {A : Around} {s : Shared}
end
section
variable {X : Cx}
end
end L2
namespace L2
open PySem PySem.Spec PyProof.Rows
section
variable {X : Cx} {tg : Expr}
end
end L2
namespace ZpA
open PySem PySem.Spec PyProof.Rows
inductive Kd where
  | L | T
def nm : Kd → String
  | .L => "list"
  | .T => "tuple"
def It : Kd → Heap → Addr → Addr → Nat → Prop
  | .L => fun h it l i => h.IsListIter it l i
  | .T => fun h it l i => h.IsTupleIter it l i
def Sq : Kd → Heap → Addr → Array Value → Prop
  | .L => fun h l xs => h.IsList l xs
  | .T => fun h l xs => h.IsTuple l xs
def itObj : Kd → Addr → Obj
  | .L => fun l => { cls := .type "list_iterator", data := .fields #[.ref l, .int 0 0] }
  | .T => fun l => { cls := .type "tuple_iterator", data := .fields #[.ref l, .int 0 0] }
theorem It.at {c : Kd} {h h' : Heap} {it l : Addr} {i : Nat} (x : It c h it l i) (k : ∀ o, h.get? it = some o → h'.get? it = some o) : It c h' it l i := by
  cases c with
  | L => exact Heap.IsListIter.at (show h.IsListIter it l i from x) k
  | T => exact Heap.IsTupleIter.at (show h.IsTupleIter it l i from x) k
theorem It.obj {c : Kd} {h : Heap} {it l : Addr} {i : Nat} (x : It c h it l i) : ∃ o, h.get? it = some o ∧ (∃ vs, o.data = .fields vs) ∧ (o.cls = .type "list_iterator" ∨ o.cls = .type "tuple_iterator") := by
  cases c with
  | L => obtain ⟨o, ho, hc, hd⟩ := (show h.IsListIter it l i from x); exact ⟨o, ho, ⟨_, hd⟩, .inl hc⟩
  | T => obtain ⟨o, ho, hc, hd⟩ := (show h.IsTupleIter it l i from x); exact ⟨o, ho, ⟨_, hd⟩, .inr hc⟩
theorem Sq.at {c : Kd} {h h' : Heap} {l : Addr} {xs : Array Value} (x : Sq c h l xs) (k : ∀ o, h.get? l = some o → h'.get? l = some o) : Sq c h' l xs := by
  cases c with
  | L => obtain ⟨o, ho, r⟩ := (show h.IsList l xs from x); exact ⟨o, k o ho, r⟩
  | T => obtain ⟨o, ho, r⟩ := (show h.IsTuple l xs from x); exact ⟨o, k o ho, r⟩
theorem Sq.obj {c : Kd} {h : Heap} {l : Addr} {xs : Array Value} (x : Sq c h l xs) : ∃ o, h.get? l = some o ∧ (o.cls = .type "list" ∨ o.cls = .type "tuple") := by
  cases c with
  | L => obtain ⟨o, ho, r, _⟩ := (show h.IsList l xs from x); exact ⟨o, ho, .inl r⟩
  | T => obtain ⟨o, ho, r, _⟩ := (show h.IsTuple l xs from x); exact ⟨o, ho, .inr r⟩
theorem It.new {c : Kd} {h : Heap} {l : Addr} : It c (h.push (itObj c l)) h.objs.size l 0 := by
  cases c with
  | L => exact ⟨_, Heap.get?_push_size _ rfl, rfl, rfl⟩
  | T => exact ⟨_, Heap.get?_push_size _ rfl, rfl, rfl⟩
section
variable {prog : Program} {w : World} {A : Around} {E : Value → Shared → Prop} {s : Shared}
theorem next_item {c : Kd} {it l : Addr} {i : Nat} {items} {x : Value} {Q : Value → Shared → Prop} (hit : It c s.heap it l i) (hl : Sq c s.heap l items) (hx : items[i]? = some x)
    (hQ : ∀ h', It c h' it l (i + 1) → Heap.SameBut it s.heap h' → Q x { s with heap := h' }) : wpAny (model prog w) A (Builtin.SmallTypes.nextOf (.ref it)) Q E s := by
  cases c with
  | L => exact wpAny_nextOf_list_item (show s.heap.IsListIter it l i from hit) (show s.heap.IsList l items from hl) hx hQ
  | T => exact EnT.next_item (show s.heap.IsTupleIter it l i from hit) (show s.heap.IsTuple l items from hl) hx hQ
theorem next_end {c : Kd} {it l : Addr} {i : Nat} {items} {Q : Value → Shared → Prop} (hh : A.handled = none) (hit : It c s.heap it l i) (hl : Sq c s.heap l items) (hx : items[i]? = none)
    (hE : ∀ h' e, Heap.ExtBut it s.heap h' → (∃ o, h'.get? e = some o ∧ o.cls = .type "StopIteration") → E (.ref e) { s with heap := h' }) : wpAny (model prog w) A (Builtin.SmallTypes.nextOf (.ref it)) Q E s := by
  cases c with
  | L => exact wpAny_nextOf_list_end hh (show s.heap.IsListIter it l i from hit) (show s.heap.IsList l items from hl) hx hE
  | T => exact EnT.next_end hh (show s.heap.IsTupleIter it l i from hit) (show s.heap.IsTuple l items from hl) hx hE
end
theorem draws {prog : Program} {w : World} {A : Around} {c : Kd} (hh : A.handled = none) (it l : Addr) (hne : l ≠ it) (items : Array Value) :
    Draws prog w A it [it, l] items.size (fun i v => items[i]? = some v) (fun i h => It c h it l i ∧ Sq c h l items) where
  live := fun _ _ st => let ⟨o, ho, _⟩ := st.1.obj; ⟨o, ho⟩
  frame := fun _ _ _ st hk => ⟨st.1.at fun o e => hk it (by simp) o e, st.2.at fun o e => hk l (by simp) o e⟩
  item := fun i s Q E hi st hQ => by
    refine next_item st.1 st.2 (x := items[i]) (by simp [hi]) fun h' hit' hs' => ?_
    exact hQ _ h' s.toks (by simp [hi]) ⟨hit', st.2.at fun o e => hs'.extBut _ _ hne e⟩ hs'
  done := fun s Q E st hE => next_end hh st.1 st.2 (by simp) hE
section
variable {prog : Program} {w : World} {A : Around} {E : Value → Shared → Prop} {s : Shared}
theorem zip_item {c1 c2 : Kd} {z TI TO i1 i2 l1 l2 : Addr} {k : Nat} {xs ys : Array Value} {x y a b : Value} {Q : Option Value → Shared → Prop} (ap : ZipApart z TI TO i1 i2 l1 l2) (hz : IsZip s.heap z TI TO .none) (hTI : IsPair s.heap TI (.ref i1) (.ref i2)) (hTO : IsPair s.heap TO a b)
    (h1 : It c1 s.heap i1 l1 k) (h2 : It c2 s.heap i2 l2 k) (t1 : Sq c1 s.heap l1 xs) (t2 : Sq c2 s.heap l2 ys) (hx : xs[k]? = some x) (hy : ys[k]? = some y)
    (hQ : ∀ h', IsZip h' z TI TO (rawInt s.heap.objs.size) → IsPair h' TO x y → It c1 h' i1 l1 (k + 1) → It c2 h' i2 l2 (k + 1) → IsPair h' s.heap.objs.size x y → (∀ c o, c ≠ z → c ≠ TO → c ≠ i1 → c ≠ i2 → s.heap.get? c = some o → h'.get? c = some o) → Q (some (.ref s.heap.objs.size)) { s with heap := h' }) :
    wpAny (model prog w) A (pyNext (.ref z)) Q E s := by
  have hT : s.TypeIs (.ref z) "zip" := ⟨_, hz, rfl⟩
  unfold pyNext
  refine wpAny_bind (wpAny_attempt (wpAny_callSpecial?_slot (name := Str.ofString "__next__") hT F.slot_zip_next
    (wpAny_call_entry F.slot_zip_next hT F.entry_zip_next ?_ (F.args_zip_next_1 _))))
  show wpAny _ _ (field (.ref z) 2 >>= _) _ _ _
  refine wpAny_bind (wpAny_field hz rfl (x := .bool false) rfl ?_)
  show wpAny _ _ (field (.ref z) 3 >>= _) _ _ _
  refine wpAny_bind (wpAny_field hz rfl (x := .ref TI) rfl ?_)
  show wpAny _ _ (seqItems? (.ref TI) >>= _) _ _ _
  refine wpAny_bind (wpAny_seqItems hTI rfl ?_)
  show wpAny _ _ (Builtin.SmallTypes.ownedTupleIsFree (.ref z) >>= _) _ _ _
  unfold Builtin.SmallTypes.ownedTupleIsFree
  refine wpAny_bind (wpAny_bind (wpAny_field hz rfl (x := .none) rfl (wpAny_pure ?_)))
  show wpAny _ _ (rule "zip.__next__.owned-tuple-again" >>= _) _ _ _
  refine wpAny_bind (wpAny_rule ?_)
  show wpAny _ _ (field (.ref z) 4 >>= _) _ _ _
  refine wpAny_bind (wpAny_field hz rfl (x := .ref TO) rfl ?_)
  show wpAny _ _ (setField (.ref z) 0 .ellipsis >>= _) _ _ _
  refine wpAny_bind (wpAny_setField hz rfl (show 0 < 5 by decide) ?_)
  have zA : IsZip (s.heap.update z (Obj.mapFields fun q => q.setIfInBounds 0 .ellipsis)) z TI TO .ellipsis := Heap.get?_update_self _ hz rfl
  have sA : Heap.SameBut z s.heap (s.heap.update z (Obj.mapFields fun q => q.setIfInBounds 0 .ellipsis)) := Heap.SameBut.update ..
  generalize s.heap.update z (Obj.mapFields fun q => q.setIfInBounds 0 .ellipsis) = hA at zA sA ⊢
  have ksA : ∀ c o, c ≠ z → s.heap.get? c = some o → hA.get? c = some o := fun c o n q => (sA.2 c n).trans q
  have toA : IsPair hA TO a b := ksA _ _ ap.TOz hTO
  have i1A : It c1 hA i1 l1 k := h1.at fun o q => ksA i1 o ap.i1z q
  have i2A : It c2 hA i2 l2 k := h2.at fun o q => ksA i2 o ap.i2z q
  have t1A : Sq c1 hA l1 xs := t1.at fun o ho => ksA l1 o ap.l1z ho
  have t2A : Sq c2 hA l2 ys := t2.at fun o ho => ksA l2 o ap.l2z ho
  show wpAny _ _ (forIn [(Value.ref i1, 0), (Value.ref i2, 1)] ((none : Option Fin), ()) _ >>= _) _ _ _
  rw [List.forIn_cons]
  refine wpAny_bind (wpAny_bind (wpAny_bind (wpAny_onRaise ?_)))
  show wpAny _ _ (Builtin.SmallTypes.nextOf (.ref i1) >>= fun v => pure (some v)) _ _ _
  refine wpAny_bind (next_item (s := { s with heap := hA }) i1A t1A hx fun hB i1B sB => wpAny_pure ?_)
  have ksB : ∀ c o, c ≠ i1 → hA.get? c = some o → hB.get? c = some o := fun c o n q => (sB.2 c n).trans q
  have toB : IsPair hB TO a b := ksB _ _ ap.TOi1 toA
  show wpAny _ _ (seqItems? (.ref TO) >>= _) _ _ _
  refine wpAny_bind (wpAny_seqItems toB rfl ?_)
  show wpAny _ _ (updateSeq TO (fun q => q.setIfInBounds 0 x) >>= _) _ _ _
  refine wpAny_bind (wpAny_updateSeq_pair (s := { s with heap := hB }) toB fun hC toC sC => ?_)
  refine wpAny_bind (wpAny_letGo (wpAny_pure ?_))
  have ksC : ∀ c o, c ≠ TO → hB.get? c = some o → hC.get? c = some o := fun c o n q => (sC.2 c n).trans q
  have i1C : It c1 hC i1 l1 (k + 1) := i1B.at fun o q => ksC i1 o (Ne.symm ap.TOi1) q
  have i2C : It c2 hC i2 l2 k := (i2A.at fun o q => ksB i2 o (Ne.symm ap.i12) q).at fun o q => ksC i2 o (Ne.symm ap.TOi2) q
  have t2C : Sq c2 hC l2 ys := t2A.at fun o ho => ksC l2 o ap.l2TO (ksB l2 o ap.l2i1 ho)
  have zC : IsZip hC z TI TO .ellipsis := ksC _ _ (Ne.symm ap.TOz) (ksB _ _ (Ne.symm ap.i1z) zA)
  have toC : IsPair hC TO x b := toC
  show wpAny _ _ (forIn [(Value.ref i2, 1)] ((none : Option Fin), ()) _) _ _ _
  rw [List.forIn_cons]
  refine wpAny_bind (wpAny_bind (wpAny_onRaise ?_))
  show wpAny _ _ (Builtin.SmallTypes.nextOf (.ref i2) >>= fun v => pure (some v)) _ _ _
  refine wpAny_bind (next_item (s := { s with heap := hC }) i2C t2C hy fun hD i2D sD => wpAny_pure ?_)
  have ksD : ∀ c o, c ≠ i2 → hC.get? c = some o → hD.get? c = some o := fun c o n q => (sD.2 c n).trans q
  have toD : IsPair hD TO x b := ksD _ _ ap.TOi2 toC
  show wpAny _ _ (seqItems? (.ref TO) >>= _) _ _ _
  refine wpAny_bind (wpAny_seqItems toD rfl ?_)
  show wpAny _ _ (updateSeq TO (fun q => q.setIfInBounds 1 y) >>= _) _ _ _
  refine wpAny_bind (wpAny_updateSeq_pair (s := { s with heap := hD }) toD fun hF toF sF => ?_)
  refine wpAny_bind (wpAny_letGo (wpAny_pure ?_))
  have ksF : ∀ c o, c ≠ TO → hD.get? c = some o → hF.get? c = some o := fun c o n q => (sF.2 c n).trans q
  have toF : IsPair hF TO x y := toF
  have zF : IsZip hF z TI TO .ellipsis := ksF _ _ (Ne.symm ap.TOz) (ksD _ _ (Ne.symm ap.i2z) zC)
  have i1F : It c1 hF i1 l1 (k + 1) := (i1C.at fun o q => ksD i1 o ap.i12 q).at fun o q => ksF i1 o (Ne.symm ap.TOi1) q
  have i2F : It c2 hF i2 l2 (k + 1) := i2D.at fun o q => ksF i2 o (Ne.symm ap.TOi2) q
  show wpAny _ _ (forIn ([] : List (Value × Nat)) ((none : Option Fin), ()) _) _ _ _
  rw [List.forIn_nil]
  refine wpAny_pure ?_
  show wpAny _ _ (seqItems? (.ref TO) >>= _) _ _ _
  refine wpAny_bind (wpAny_seqItems toF rfl ?_)
  show wpAny _ _ (newTuple [x, y] >>= _) _ _ _
  unfold newTuple
  have sz : hF.objs.size = s.heap.objs.size := sF.1.trans (sD.1.trans (sC.1.trans (sB.1.trans sA.1)))
  refine wpAny_bind (wpAny_newObj_type ?_ (by size_fits))
  show wpAny _ _ (Builtin.SmallTypes.ownedTupleHandOut (.ref z) (.ref hF.objs.size) >>= _) _ _ { s with heap := hF.push { cls := .type "tuple", data := .seq #[x, y] } }
  have zG : IsZip (hF.push { cls := .type "tuple", data := .seq #[x, y] }) z TI TO .ellipsis := Heap.get?_push_of_some _ zF
  have pG : IsPair (hF.push { cls := .type "tuple", data := .seq #[x, y] }) hF.objs.size x y := Heap.get?_push_size _ rfl
  have ksG : ∀ c o, hF.get? c = some o → (hF.push { cls := .type "tuple", data := .seq #[x, y] }).get? c = some o := fun c o q => Heap.get?_push_of_some _ q
  generalize hF.push { cls := .type "tuple", data := .seq #[x, y] } = hG at zG pG ksG ⊢
  unfold Builtin.SmallTypes.ownedTupleHandOut
  show wpAny _ _ ((setField (.ref z) 0 (rawInt hF.objs.size) >>= fun _ => setField (.ref z) 1 (.bool false)) >>= _) _ _ _
  refine wpAny_bind (wpAny_bind (wpAny_setField zG rfl (show 0 < 5 by decide) ?_))
  have zH : IsZip (hG.update z (Obj.mapFields fun q => q.setIfInBounds 0 (rawInt hF.objs.size))) z TI TO (rawInt hF.objs.size) := Heap.get?_update_self _ zG rfl
  have sH : Heap.SameBut z hG (hG.update z (Obj.mapFields fun q => q.setIfInBounds 0 (rawInt hF.objs.size))) := Heap.SameBut.update ..
  generalize hG.update z (Obj.mapFields fun q => q.setIfInBounds 0 (rawInt hF.objs.size)) = hH at zH sH ⊢
  refine wpAny_setField zH rfl (show 1 < 5 by decide) ?_
  have zJ : IsZip (hH.update z (Obj.mapFields fun q => q.setIfInBounds 1 (.bool false))) z TI TO (rawInt hF.objs.size) := Heap.get?_update_self _ zH rfl
  have sJ : Heap.SameBut z hH (hH.update z (Obj.mapFields fun q => q.setIfInBounds 1 (.bool false))) := Heap.SameBut.update ..
  generalize hH.update z (Obj.mapFields fun q => q.setIfInBounds 1 (.bool false)) = hJ at zJ sJ ⊢
  have ksJ : ∀ c o, c ≠ z → hF.get? c = some o → hJ.get? c = some o := fun c o n q => (sJ.2 c n).trans ((sH.2 c n).trans (ksG c o q))
  have nz : hF.objs.size ≠ z := fun e => absurd (Heap.lt_size zF) (by rw [e]; exact Nat.lt_irrefl _)
  have pJ : IsPair hJ hF.objs.size x y := (sJ.2 _ nz).trans ((sH.2 _ nz).trans pG)
  refine wpAny_pure ⟨_, rfl, wpAny_pure ?_⟩
  rw [sz] at zJ pJ ⊢
  refine hQ hJ zJ (ksJ _ _ ap.TOz toF) (i1F.at fun o q => ksJ i1 o ap.i1z q) (i2F.at fun o q => ksJ i2 o ap.i2z q) pJ fun c o n1 n2 n3 n4 q => ?_
  exact ksJ _ _ n1 (ksF _ _ n2 (ksD _ _ n4 (ksC _ _ n2 (ksB _ _ n3 (ksA _ _ n1 q)))))
theorem zip_end {c1 : Kd} {z TI TO i1 i2 l1 l2 : Addr} {k : Nat} {xs : Array Value} {a b : Value} {Q : Option Value → Shared → Prop} (hh : A.handled = none) (ap : ZipApart z TI TO i1 i2 l1 l2) (hz : IsZip s.heap z TI TO .none) (hTI : IsPair s.heap TI (.ref i1) (.ref i2)) (hTO : IsPair s.heap TO a b)
    (h1 : It c1 s.heap i1 l1 k) (t1 : Sq c1 s.heap l1 xs) (hx : xs[k]? = none)
    (hQ : ∀ h', (∀ c o, c ≠ z → c ≠ i1 → s.heap.get? c = some o → h'.get? c = some o) → Q none { s with heap := h' }) :
    wpAny (model prog w) A (pyNext (.ref z)) Q E s := by
  have hT : s.TypeIs (.ref z) "zip" := ⟨_, hz, rfl⟩
  unfold pyNext
  refine wpAny_bind (wpAny_attempt (wpAny_callSpecial?_slot (name := Str.ofString "__next__") hT F.slot_zip_next
    (wpAny_call_entry F.slot_zip_next hT F.entry_zip_next ?_ (F.args_zip_next_1 _))))
  show wpAny _ _ (field (.ref z) 2 >>= _) _ _ _
  refine wpAny_bind (wpAny_field hz rfl (x := .bool false) rfl ?_)
  show wpAny _ _ (field (.ref z) 3 >>= _) _ _ _
  refine wpAny_bind (wpAny_field hz rfl (x := .ref TI) rfl ?_)
  show wpAny _ _ (seqItems? (.ref TI) >>= _) _ _ _
  refine wpAny_bind (wpAny_seqItems hTI rfl ?_)
  show wpAny _ _ (Builtin.SmallTypes.ownedTupleIsFree (.ref z) >>= _) _ _ _
  unfold Builtin.SmallTypes.ownedTupleIsFree
  refine wpAny_bind (wpAny_bind (wpAny_field hz rfl (x := .none) rfl (wpAny_pure ?_)))
  show wpAny _ _ (rule "zip.__next__.owned-tuple-again" >>= _) _ _ _
  refine wpAny_bind (wpAny_rule ?_)
  show wpAny _ _ (field (.ref z) 4 >>= _) _ _ _
  refine wpAny_bind (wpAny_field hz rfl (x := .ref TO) rfl ?_)
  show wpAny _ _ (setField (.ref z) 0 .ellipsis >>= _) _ _ _
  refine wpAny_bind (wpAny_setField hz rfl (show 0 < 5 by decide) ?_)
  have zA : IsZip (s.heap.update z (Obj.mapFields fun q => q.setIfInBounds 0 .ellipsis)) z TI TO .ellipsis := Heap.get?_update_self _ hz rfl
  have sA : Heap.SameBut z s.heap (s.heap.update z (Obj.mapFields fun q => q.setIfInBounds 0 .ellipsis)) := Heap.SameBut.update ..
  generalize s.heap.update z (Obj.mapFields fun q => q.setIfInBounds 0 .ellipsis) = hA at zA sA ⊢
  have ksA : ∀ c o, c ≠ z → s.heap.get? c = some o → hA.get? c = some o := fun c o n q => (sA.2 c n).trans q
  have i1A : It c1 hA i1 l1 k := h1.at fun o q => ksA i1 o ap.i1z q
  have t1A : Sq c1 hA l1 xs := t1.at fun o ho => ksA l1 o ap.l1z ho
  show wpAny _ _ (forIn [(Value.ref i1, 0), (Value.ref i2, 1)] ((none : Option Fin), ()) _ >>= _) _ _ _
  rw [List.forIn_cons]
  refine wpAny_bind (wpAny_bind (wpAny_bind (wpAny_onRaise ?_)))
  show wpAny _ _ (Builtin.SmallTypes.nextOf (.ref i1) >>= fun v => pure (some v)) _ _ _
  refine wpAny_bind (next_end (s := { s with heap := hA }) hh i1A t1A hx fun h' e eb he => ?_)
  have zB : IsZip h' z TI TO .ellipsis := eb _ _ (Ne.symm ap.i1z) zA
  refine wpAny_setField zB rfl (show 0 < 5 by decide) ?_
  have sC : Heap.SameBut z h' (h'.update z (Obj.mapFields fun q => q.setIfInBounds 0 .none)) := Heap.SameBut.update ..
  obtain ⟨o, ho, hc⟩ := he
  have ez : e ≠ z := fun q => by
    rw [q, zB] at ho
    cases ho
    exact absurd (show Value.type "zip" = Value.type "StopIteration" from hc) (by decide)
  have ho2 : (h'.update z (Obj.mapFields fun q => q.setIfInBounds 0 .none)).get? e = some o := (sC.2 e ez).trans ho
  refine wpAny_bind (wpAny_isInstance (T := "StopIteration") (b := true) ⟨o, ho2, hc⟩ isSubtype_stop ?_)
  refine wpAny_pure (hQ _ fun c o n1 n2 q => (sC.2 c n1).trans (eb c o n2 (ksA c o n1 q)))
end
abbrev H1 (c1 : Kd) (h : Heap) (l1 : Addr) : Heap := h.push (itObj c1 l1)
abbrev H2 (c1 c2 : Kd) (h : Heap) (l1 l2 : Addr) : Heap := (H1 c1 h l1).push (itObj c2 l2)
abbrev H3 (c1 c2 : Kd) (h : Heap) (l1 l2 : Addr) : Heap := (H2 c1 c2 h l1 l2).push { cls := .type "tuple", data := .seq #[.ref h.objs.size, .ref (H1 c1 h l1).objs.size] }
abbrev H4 (c1 c2 : Kd) (h : Heap) (l1 l2 : Addr) : Heap := (H3 c1 c2 h l1 l2).push { cls := .type "tuple", data := .seq #[.none, .none] }
abbrev H5 (c1 c2 : Kd) (h : Heap) (l1 l2 : Addr) : Heap := (H4 c1 c2 h l1 l2).push { cls := .type "zip", data := .fields #[.none, .bool false, .bool false, .ref (H2 c1 c2 h l1 l2).objs.size, .ref (H3 c1 c2 h l1 l2).objs.size] }
theorem meets_new (c1 c2 : Kd) (l1 l2 : Addr) (xs ys : Array Value) :
    Meets (Builtin.«zip.__new__» ⟨[.type "zip", .ref l1, .ref l2], []⟩) (fun _ R s => Sq c1 s.heap l1 xs ∧ Sq c2 s.heap l2 ys ∧
      R (.ok (.ret (.ref (H4 c1 c2 s.heap l1 l2).objs.size))) { s with heap := H5 c1 c2 s.heap l1 l2 }) := by
  cases c1 with
  | T =>
    cases c2 with
    | T =>
      refine .of_wp fun prog w A R s h => ?_
      obtain ⟨hp, g, d, tk, os⟩ := s; obtain ⟨hL1, hL2, h⟩ := h
      have hsub := sub_zip
      have hL1 : hp.IsTuple l1 xs := hL1
      have hL2' : Heap.IsTuple (H1 .T hp l1) l2 ys := let ⟨o, ho, r⟩ := (show hp.IsTuple l2 ys from hL2); ⟨o, Heap.get?_push_of_some _ ho, r⟩
      wp_walk using wpAny_pyIter_tuple hL1, wpAny_pyIter_tuple hL2'
      exact ⟨_, rfl, h⟩
    | L =>
      refine .of_wp fun prog w A R s h => ?_
      obtain ⟨hp, g, d, tk, os⟩ := s; obtain ⟨hL1, hL2, h⟩ := h
      have hsub := sub_zip
      have hL1 : hp.IsTuple l1 xs := hL1
      have hL2' : Heap.IsList (H1 .T hp l1) l2 ys := let ⟨o, ho, r⟩ := (show hp.IsList l2 ys from hL2); ⟨o, Heap.get?_push_of_some _ ho, r⟩
      wp_walk using wpAny_pyIter_tuple hL1, wpAny_pyIter_list hL2'
      exact ⟨_, rfl, h⟩
  | L =>
    cases c2 with
    | T =>
      refine .of_wp fun prog w A R s h => ?_
      obtain ⟨hp, g, d, tk, os⟩ := s; obtain ⟨hL1, hL2, h⟩ := h
      have hsub := sub_zip
      have hL1 : hp.IsList l1 xs := hL1
      have hL2' : Heap.IsTuple (H1 .L hp l1) l2 ys := let ⟨o, ho, r⟩ := (show hp.IsTuple l2 ys from hL2); ⟨o, Heap.get?_push_of_some _ ho, r⟩
      wp_walk using wpAny_pyIter_list hL1, wpAny_pyIter_tuple hL2'
      exact ⟨_, rfl, h⟩
    | L =>
      refine .of_wp fun prog w A R s h => ?_
      obtain ⟨hp, g, d, tk, os⟩ := s; obtain ⟨hL1, hL2, h⟩ := h
      have hsub := sub_zip
      have hL1 : hp.IsList l1 xs := hL1
      have hL2' : Heap.IsList (H1 .L hp l1) l2 ys := let ⟨o, ho, r⟩ := (show hp.IsList l2 ys from hL2); ⟨o, Heap.get?_push_of_some _ ho, r⟩
      wp_walk using wpAny_pyIter_list hL1, wpAny_pyIter_list hL2'
      exact ⟨_, rfl, h⟩
section
variable {prog : Program} {w : World} {A : Around} {E : Value → Shared → Prop} {s : Shared}
theorem call_new {c1 c2 : Kd} {l1 l2 : Addr} {xs ys : Array Value} {Q : Value → Shared → Prop} (h1 : Sq c1 s.heap l1 xs) (h2 : Sq c2 s.heap l2 ys)
    (h : ∀ h', IsZip h' (s.heap.objs.size + 4) (s.heap.objs.size + 2) (s.heap.objs.size + 3) .none → IsPair h' (s.heap.objs.size + 2) (.ref s.heap.objs.size) (.ref (s.heap.objs.size + 1)) → IsPair h' (s.heap.objs.size + 3) .none .none →
      It c1 h' s.heap.objs.size l1 0 → It c2 h' (s.heap.objs.size + 1) l2 0 → (∀ b o, s.heap.get? b = some o → h'.get? b = some o) → Q (.ref (s.heap.objs.size + 4)) { s with heap := h' }) :
    wpAny (model prog w) A (call (.type "zip") [.ref l1, .ref l2]) Q E s := by
  refine callType_new F.called_zip (by decide) (F.typeCall_zip_2 _ _) (F.newCall_zip_2 _ _) (fun obj => F.args_object_init_3 obj _ _) F.entry_zip_new (meets_new c1 c2 l1 l2 xs ys) ⟨h1, h2, ?_⟩
  have z1 : (H1 c1 s.heap l1).objs.size = s.heap.objs.size + 1 := Heap.size_push ..
  have z2 : (H2 c1 c2 s.heap l1 l2).objs.size = s.heap.objs.size + 2 := (Heap.size_push ..).trans (by rw [z1])
  have z3 : (H3 c1 c2 s.heap l1 l2).objs.size = s.heap.objs.size + 3 := (Heap.size_push ..).trans (by rw [z2])
  have z4 : (H4 c1 c2 s.heap l1 l2).objs.size = s.heap.objs.size + 4 := (Heap.size_push ..).trans (by rw [z3])
  have kz : ∀ {h0 : Heap} {o : Obj} (b : Addr) (u : Obj), h0.get? b = some u → (h0.push o).get? b = some u := fun b u q => Heap.get?_push_of_some _ q
  have hz : IsZip (H5 c1 c2 s.heap l1 l2) (s.heap.objs.size + 4) (s.heap.objs.size + 2) (s.heap.objs.size + 3) .none := by
    have := Heap.get?_push_size (H4 c1 c2 s.heap l1 l2) (o := { cls := .type "zip", data := .fields #[.none, .bool false, .bool false, .ref (H2 c1 c2 s.heap l1 l2).objs.size, .ref (H3 c1 c2 s.heap l1 l2).objs.size] }) rfl
    rw [z4] at this
    show (H5 c1 c2 s.heap l1 l2).get? _ = _
    rw [show H5 c1 c2 s.heap l1 l2 = (H4 c1 c2 s.heap l1 l2).push { cls := .type "zip", data := .fields #[.none, .bool false, .bool false, .ref (H2 c1 c2 s.heap l1 l2).objs.size, .ref (H3 c1 c2 s.heap l1 l2).objs.size] } from rfl, this, z2, z3]
  have hTO : IsPair (H5 c1 c2 s.heap l1 l2) (s.heap.objs.size + 3) .none .none := by
    have := Heap.get?_push_size (H3 c1 c2 s.heap l1 l2) (o := { cls := .type "tuple", data := .seq #[.none, .none] }) rfl
    rw [z3] at this
    exact kz _ _ this
  have hTI : IsPair (H5 c1 c2 s.heap l1 l2) (s.heap.objs.size + 2) (.ref s.heap.objs.size) (.ref (s.heap.objs.size + 1)) := by
    have := Heap.get?_push_size (H2 c1 c2 s.heap l1 l2) (o := { cls := .type "tuple", data := .seq #[.ref s.heap.objs.size, .ref (H1 c1 s.heap l1).objs.size] }) rfl
    rw [z2, z1] at this
    have e := kz (o := { cls := .type "zip", data := .fields #[.none, .bool false, .bool false, .ref (H2 c1 c2 s.heap l1 l2).objs.size, .ref (H3 c1 c2 s.heap l1 l2).objs.size] }) _ _ (kz (o := { cls := .type "tuple", data := .seq #[.none, .none] }) _ _ this)
    rw [← z1] at e ⊢
    exact e
  have hi2 : It c2 (H5 c1 c2 s.heap l1 l2) (s.heap.objs.size + 1) l2 0 := by
    have := It.new (c := c2) (h := H1 c1 s.heap l1) (l := l2)
    rw [z1] at this
    exact this.at fun o q => kz _ _ (kz _ _ (kz _ _ q))
  have hi1 : It c1 (H5 c1 c2 s.heap l1 l2) s.heap.objs.size l1 0 := (It.new (c := c1) (h := s.heap) (l := l1)).at fun o q => kz _ _ (kz _ _ (kz _ _ (kz _ _ q)))
  show _ ∧ _
  rw [z4]
  exact ⟨⟨_, hz, rfl⟩, h _ hz hTI hTO hi1 hi2 fun b o q => kz _ _ (kz _ _ (kz _ _ (kz _ _ (kz _ _ q))))⟩
end
end ZpA
namespace L2
open PySem PySem.Spec PyProof.Rows ZpA
def SqA : Kd → PySem.W.Frag → Hp → Addr → List V → Prop
  | .L => SqL
  | .T => SqT
theorem Inv.seqA {X : Cx} {pins : List (Addr × Obj)} {σ : St} {H : Hp} {s : Shared} {c : Kd} {a : Addr} {xs : List V} (I : Inv X pins σ H s) (h : SqA c X.K H a xs) : ∃ its : List Value, Vals xs its ∧ Sq c s.heap a its.toArray ∧ xs.length ≤ sizeLine := by
  cases c with
  | L => obtain ⟨its, r, p, z⟩ := I.list h; exact ⟨its, r, p.isList, z⟩
  | T => obtain ⟨its, r, p, z⟩ := I.tuple h; exact ⟨its, r, (show s.heap.IsTuple a its.toArray from p), z⟩
theorem Inv.seqA_inj {X : Cx} {pins : List (Addr × Obj)} {σ : St} {H : Hp} {s : Shared} {c : Kd} {a : Addr} {xs ys : List V} (I : Inv X pins σ H s) (h : SqA c X.K H a xs) (h' : SqA c X.K H a ys) : xs = ys := by
  cases c with
  | L => exact I.list_inj h h'
  | T => exact I.tuple_inj h h'
theorem enum_endA {prog : Program} {w : World} {A : Around} {E : Value → Shared → Prop} {s : Shared} {c : Kd} {e it l : Addr} {i : Nat} {j : Int} {items : Array Value} {old : Value} {Q : Option Value → Shared → Prop} (hh : A.handled = none)
    (he : IsEnum s.heap e it j old) (hit : ZpA.It c s.heap it l i) (hl : Sq c s.heap l items) (hx : items[i]? = none)
    (hQ : ∀ h', Heap.ExtBut it s.heap h' → Q none { s with heap := h' }) : wpAny (model prog w) A (pyNext (.ref e)) Q E s := by
  have hT : s.TypeIs (.ref e) "enumerate" := ⟨_, he, rfl⟩
  unfold pyNext
  refine wpAny_bind (wpAny_attempt (wpAny_callSpecial?_slot (name := Str.ofString "__next__") hT F.slot_enumerate_next
    (wpAny_call_entry F.slot_enumerate_next hT F.entry_enumerate_next ?_ (F.args_enumerate_next_1 _))))
  show wpAny _ _ (field (.ref e) 2 >>= _) _ _ _
  refine wpAny_bind (wpAny_field he rfl (x := .ref it) rfl ?_)
  refine wpAny_bind (ZpA.next_end hh hit hl hx fun h' x he' hx' => ?_)
  obtain ⟨o, ho, hc⟩ := hx'
  refine wpAny_bind (wpAny_isInstance (T := "StopIteration") (b := true) ⟨o, ho, hc⟩ isSubtype_stop ?_)
  exact wpAny_pure (hQ _ he')
theorem enum_new {prog : Program} {w : World} {A : Around} {E : Value → Shared → Prop} {s : Shared} {c : Kd} {l : Addr} {items : Array Value} {Q : Value → Shared → Prop} (hL : Sq c s.heap l items)
    (h : ∀ h', IsEnum h' (s.heap.objs.size + 1) s.heap.objs.size 0 .none → ZpA.It c h' s.heap.objs.size l 0 → h'.objs.size = s.heap.objs.size + 2 →
      (∀ b o, s.heap.get? b = some o → h'.get? b = some o) → Q (.ref (s.heap.objs.size + 1)) { s with heap := h' }) :
    wpAny (model prog w) A (call (.type "enumerate") [.ref l]) Q E s := by
  cases c with
  | L => exact call_enumerate_list (show s.heap.IsList l items from hL) h
  | T => exact EnT.call_new (show s.heap.IsTuple l items from hL) h
def IteA (c : Kd) (K : PySem.W.Frag) (a : Addr) : L2.It :=
  ⟨fun i H => ∃ xs x, SqA c K H a xs ∧ xs[i]? = some x, fun i H x H' => ∃ p y, x = .ref p ∧ H p = none ∧ H' = upd H p (.tup [.int (i : Nat), y]) ∧ ∀ xs, SqA c K H a xs → xs[i]? = some y, fun i H => ∃ xs, SqA c K H a xs ∧ xs.length ≤ i⟩
theorem turn_enumA {c : Kd} {P : Program} {w : World} {K : PySem.W.Frag} {elts : List Expr} {k} {tpos : Pos} (a e it : Addr) (hei : e ≠ it) : Turn P w K (.Tuple elts k tpos) (IteA c K a) [e, it] e (fun i h => (∃ old, IsEnum h e it (i : Nat) old) ∧ ZpA.It c h it a i) where
  mem := by simp
  obj := fun i h st b hb => by
    obtain ⟨⟨old, he⟩, hit⟩ := st
    obtain ⟨o, ho, ⟨vs, hd⟩, hc⟩ := hit.obj
    have hb' : b = e ∨ b = it := by simpa using hb
    rcases hb' with rfl | rfl
    · exact ⟨_, he, fun v z => by
        have z' : Data.fields _ = Data.cell v := z
        cases z'⟩
    · exact ⟨o, ho, fun v z => by rw [hd] at z; cases z⟩
  keep := fun i h h' st k => by
    obtain ⟨⟨old, he⟩, hit⟩ := st
    exact ⟨⟨old, k e (by simp) _ he⟩, hit.at fun o x => k it (by simp) o x⟩
  item := by
    intro X hP hw hK hc i pins s σ H E I hf st hg
    subst hP hw hK
    obtain ⟨xs, y, hq, hx⟩ := hg
    obtain ⟨its, rv, p, hz⟩ := I.seqA hq
    obtain ⟨u, hu, ru⟩ := rv.get hx
    obtain ⟨⟨old, he⟩, hit⟩ := st
    have pt := p
    have hea : e ≠ a := fun z => by
      obtain ⟨o, ho, hc⟩ := p.obj
      rw [← z, he] at ho; cases ho
      rcases hc with hc | hc
      · exact absurd (show Value.type "enumerate" = Value.type "list" from hc) (by decide)
      · exact absurd (show Value.type "enumerate" = Value.type "tuple" from hc) (by decide)
    have hia : a ≠ it := fun z => by
      obtain ⟨o, ho, hc⟩ := p.obj
      obtain ⟨o', ho', _, hc'⟩ := hit.obj
      rw [z, ho'] at ho; cases ho
      rcases hc with hc | hc <;> rcases hc' with hc' | hc' <;> (rw [hc] at hc'; exact absurd hc' (by decide))
    have hil : i < its.toArray.size := by
      have := (List.getElem?_eq_some_iff.mp hu).1
      simpa using this
    refine wpAny_pyNext_enum_itemD (ZpA.draws (c := c) (prog := X.prog) (w := X.w) (A := X.A.in1) (I.ok.hd hc) it a hia its.toArray) he ⟨hit, pt⟩ hil hei (by simp [hea, hei]) fun x h' tk hPx ho st' hT hsz hk => ?_
    have hxu : x = u := by
      have : its.toArray[i]? = some u := by simpa using hu
      rw [this] at hPx
      exact (Option.some.inj hPx).symm
    subst hxu
    refine ⟨_, rfl, wpAny_letOwnedTupleGo_enum ho fun h'' he' hs' => ?_⟩
    replace hs' : Heap.SameBut e h' h'' := hs'
    have hel : e < s.heap.objs.size := Heap.lt_size he
    have hil' : it < s.heap.objs.size := by obtain ⟨o, ho, _⟩ := hit.obj; exact Heap.lt_size ho
    have kp : ∀ b o, b ≠ e → b ≠ it → s.heap.get? b = some o → h''.get? b = some o := fun b o n1 n2 q => (hs'.2 b n1).trans (hk b o n1 n2 q)
    have hT2 : h''.get? s.heap.objs.size = some { cls := .type "tuple", data := .seq #[.int (i : Nat) tk, x] } := (hs'.2 _ (Nat.ne_of_gt hel)).trans hT
    have hTn : H s.heap.objs.size = none := I.hok.fresh (Nat.le_refl _)
    have fe := hf e (by simp)
    have fi := hf it (by simp)
    have nte : ∀ b u, H b = some u → b ≠ e := fun b u q z => by rw [z, fe.1] at q; cases q
    have nti : ∀ b u, H b = some u → b ≠ it := fun b u q z => by rw [z, fi.1] at q; cases q
    have hok : HOk X.prog X.w (upd H s.heap.objs.size (.tup [.int (i : Nat), y])) h'' := fun b ob q => by
      by_cases hb : b = s.heap.objs.size
      · subst hb
        rw [upd_same] at q
        cases q
        exact ⟨by show 2 ≤ sizeLine; decide, [.int (i : Nat) tk, x], .cons ⟨tk, rfl⟩ (.cons ru .nil), ⟨_, hT2, rfl, _, rfl⟩⟩
      · rw [upd_ne hb] at q
        refine (I.hok b ob q).stay (fun c v hc q' => ?_) (fun c q' => by rw [upd_ne (ne_of_none q' hTn)]; exact q') fun c xs q' => by rw [upd_ne (ne_of_none q' hTn)]; exact q'
        rcases hc with rfl | hc
        · exact kp _ _ (nte _ _ q) (nti _ _ q) q'
        · exact kp _ _ (nte _ _ hc) (nti _ _ hc) q'
    have mem2 : ∀ b, b ∉ [e, it] → b ≠ e ∧ b ≠ it := fun b hb => by
      have := hb
      simp at this
      exact this
    have I2 : Inv X pins σ (upd H s.heap.objs.size (.tup [.int (i : Nat), y])) { s with heap := h'', toks := tk + 1 } :=
      I.step (g' := s.gens) (d' := s.drawn) (ch := [e, it]) (fun b hb => by
          have hb' : b = e ∨ b = it := by simpa using hb
          rcases hb' with rfl | rfl
          · exact ⟨fe.2.2.2.1, fe.2.1, fe.2.2.2.2.1, fe.2.2.2.2.2⟩
          · exact ⟨fi.2.2.2.1, fi.2.1, fi.2.2.2.2.1, fi.2.2.2.2.2⟩)
        (fun b o _ _ hc q _ => kp b o (mem2 b hc).1 (mem2 b hc).2 q) (fun b o _ _ hc q _ => ⟨o.slots, kp b o (mem2 b hc).1 (mem2 b hc).2 q⟩)
        (fun b o _ q n => by rw [upd_ne (Nat.ne_of_lt (Heap.lt_size q))]; exact n) (fun b o hc q => ⟨o, kp b o (mem2 b hc).1 (mem2 b hc).2 q⟩)
        (fun b xs q => by rw [upd_ne (ne_of_none q hTn)]; exact q) (fun b o u q => by rw [upd_ne (ne_of_none q hTn)]; exact q) (fun b ps q => ⟨#[], by rw [upd_ne (ne_of_none q hTn), q]; simp⟩)
        (fun m hm => by obtain ⟨o, es, ep, ho, r⟩ := hm; exact ⟨o, es, ep, kp _ o (Ne.symm fe.2.1) (Ne.symm fi.2.1) ho, r⟩) hok I.bare
    refine ⟨.ref s.heap.objs.size, _, I2, rfl, ⟨_, y, rfl, hTn, rfl, fun ys hy => by rw [I.seqA_inj hy hq]; exact hx⟩, ⟨⟨x, ?_⟩, ?_⟩, fun b hb => ?_⟩
    · have : ((i + 1 : Nat) : Int) = (i : Int) + 1 := by push_cast; rfl
      rw [this]; exact he'
    · exact st'.1.at fun o q => (hs'.2 it (Ne.symm hei)).trans q
    · have hb' : b = e ∨ b = it := by simpa using hb
      rcases hb' with rfl | rfl
      · rw [upd_ne (Nat.ne_of_lt hel)]; exact fe.1
      · rw [upd_ne (Nat.ne_of_lt hil')]; exact fi.1
  done := by
    intro X hP hw hK hc i pins s σ H E I hf st hg
    subst hP hw hK
    obtain ⟨xs, hq, hx⟩ := hg
    obtain ⟨its, rv, p, hz⟩ := I.seqA hq
    obtain ⟨⟨old, he⟩, hit⟩ := st
    obtain ⟨f0, f1, f2, f3, f4, f5⟩ := hf it (by simp)
    have hl := rv.length
    have hia : a ≠ it := fun z => by
      obtain ⟨o, ho, hc⟩ := p.obj
      obtain ⟨o', ho', _, hc'⟩ := hit.obj
      rw [z, ho'] at ho; cases ho
      rcases hc with hc | hc <;> rcases hc' with hc' | hc' <;> (rw [hc] at hc'; exact absurd hc' (by decide))
    refine enum_endA (I.ok.hd hc) he hit p (by simp; omega) fun h' eb => ⟨rfl, I.turned (t' := s.toks) (fun b o hb e => eb b o hb e) f0 f1 f3 f4 f5⟩
  self := fun _ _ _ _ _ st h => by
    obtain ⟨⟨old, he⟩, _⟩ := st
    exact wpAny_pyIter_enum he h
section
variable {X : Cx}
def iEnumA (K : PySem.W.Frag) (ta : TA) : TI := fun σ H R => ta σ H fun vs H1 => ∃ a c, vs = [.ref a] ∧ (∃ xs, SqA c K H1 a xs ∧ (xs.length ≤ sizeLine → R (IteA c K a) H1))
theorem pi_enumA {elts : List Expr} {k} {tpos : Pos} {l : Expr} {ta : TA} {p pos : Pos} (hg : Gl X "enumerate") (hm : X.mg "enumerate" = none) (ha : PA X [l] ta) (hs : starEach [l] X.env = [(false, eval l X.env)] := by rfl) :
    PI X (.Tuple elts k tpos) (.Call (.Name "enumerate" p) [l] [] pos) (iEnumA X.K ta) := by
  intro pins s σ H R I h
  refine Call_ (ld_blt I hg hm boot_enumerate (PyProof.Rows.callWith_type1 (thn (ha pos pins s σ H _ I h) fun us s1 ⟨vs, H1, I1, r1, q1⟩ => ?_) hs rfl))
  obtain ⟨a, c, e, xs, hq, q⟩ := q1
  subst e
  cases r1 with
  | cons r rr =>
    cases rr
    cases r
    obtain ⟨its, rv, p, hz⟩ := I1.seqA hq
    refine enum_new p fun h' he hit hsz hk => ?_
    refine wpAny_pyIter_enum he ?_
    refine ⟨s1.heap.objs.size + 1, [s1.heap.objs.size + 1, s1.heap.objs.size], _, _, H1, rfl, I1.kept (t' := s1.toks) hk, turn_enumA a _ s1.heap.objs.size (Nat.ne_of_gt (Nat.lt_succ_self _)), ⟨⟨.none, he⟩, hit⟩, fun b hb => ?_, q hz⟩
    have hb' : b = s1.heap.objs.size + 1 ∨ b = s1.heap.objs.size := by simpa using hb
    rcases hb' with rfl | rfl
    · exact I1.fpOk (by omega) (I1.hok.fresh (by omega))
    · exact I1.fpOk (Nat.le_refl _) (I1.hok.fresh (Nat.le_refl _))
end
def ItzA (c1 c2 : Kd) (K : PySem.W.Frag) (a b : Addr) : L2.It :=
  ⟨fun i H => ∃ xs ys x y, SqA c1 K H a xs ∧ SqA c2 K H b ys ∧ xs[i]? = some x ∧ ys[i]? = some y, fun i H x H' => ∃ p y z, x = .ref p ∧ H p = none ∧ H' = upd H p (.tup [y, z]) ∧ (∀ xs, SqA c1 K H a xs → xs[i]? = some y) ∧ ∀ ys, SqA c2 K H b ys → ys[i]? = some z, fun i H => ∃ xs, SqA c1 K H a xs ∧ xs.length ≤ i⟩
def ZipStA (c1 c2 : Kd) (a b z TI TO i1 i2 : Addr) (i : Nat) (h : Heap) : Prop := IsZip h z TI TO .none ∧ IsPair h TI (.ref i1) (.ref i2) ∧ (∃ x y, IsPair h TO x y) ∧ ZpA.It c1 h i1 a i ∧ ZpA.It c2 h i2 b i
theorem turn_zipA {c1 c2 : Kd} {P : Program} {w : World} {K : PySem.W.Frag} {elts : List Expr} {k} {tpos : Pos} (a b z TI TO i1 i2 : Addr) (ap : ZipApart z TI TO i1 i2 a b) :
    Turn P w K (.Tuple elts k tpos) (ItzA c1 c2 K a b) [z, TI, TO, i1, i2] z (ZipStA c1 c2 a b z TI TO i1 i2) where
  mem := by simp
  obj := fun i h st c hc => by
    obtain ⟨hz, hTI, ⟨x, y, hTO⟩, j1, j2⟩ := st
    obtain ⟨o1, ho1, ⟨v1, hd1⟩, hc1⟩ := j1.obj
    obtain ⟨o2, ho2, ⟨v2, hd2⟩, hc2⟩ := j2.obj
    have hc' : c = z ∨ c = TI ∨ c = TO ∨ c = i1 ∨ c = i2 := by simpa using hc
    rcases hc' with rfl | rfl | rfl | rfl | rfl
    · exact ⟨_, hz, fun v q => by have q' : Data.fields _ = Data.cell v := q; cases q'⟩
    · exact ⟨_, hTI, fun v q => by have q' : Data.seq _ _ = Data.cell v := q; cases q'⟩
    · exact ⟨_, hTO, fun v q => by have q' : Data.seq _ _ = Data.cell v := q; cases q'⟩
    · exact ⟨o1, ho1, fun v q => by rw [hd1] at q; cases q⟩
    · exact ⟨o2, ho2, fun v q => by rw [hd2] at q; cases q⟩
  keep := fun i h h' st k => by
    obtain ⟨hz, hTI, ⟨x, y, hTO⟩, h1, h2⟩ := st
    exact ⟨k z (by simp) _ hz, k TI (by simp) _ hTI, ⟨x, y, k TO (by simp) _ hTO⟩, h1.at fun o q => k i1 (by simp) o q, h2.at fun o q => k i2 (by simp) o q⟩
  item := by
    intro X hP hw hK hc i pins s σ H E I hf st hg
    subst hP hw hK
    obtain ⟨xs, ys, y, y', hq, hq', hx, hx'⟩ := hg
    obtain ⟨its, rv, p, hz'⟩ := I.seqA hq
    obtain ⟨its', rv', p', hz''⟩ := I.seqA hq'
    obtain ⟨u, hu, ru⟩ := rv.get hx
    obtain ⟨u', hu', ru'⟩ := rv'.get hx'
    obtain ⟨hz, hTI, ⟨x0, y0, hTO⟩, h1, h2⟩ := st
    have hn : ∀ c, c ∈ [z, TI, TO, i1, i2] → H c = none := fun c hc => (hf c hc).1
    have hTn : H s.heap.objs.size = none := I.hok.fresh (Nat.le_refl _)
    refine ZpA.zip_item ap hz hTI hTO h1 h2 p p' (x := u) (y := u') (by simpa using hu) (by simpa using hu') fun h' z' to' i1' i2' pT ks => ⟨_, rfl, wpAny_letOwnedTupleGo_zip z' fun h'' zz hs => ?_⟩
    replace hs : Heap.SameBut z h' h'' := hs
    have lz : z < s.heap.objs.size := Heap.lt_size hz
    have lTI : TI < s.heap.objs.size := Heap.lt_size hTI
    have lTO : TO < s.heap.objs.size := Heap.lt_size hTO
    have li1 : i1 < s.heap.objs.size := by obtain ⟨o, ho, _⟩ := h1.obj; exact Heap.lt_size ho
    have li2 : i2 < s.heap.objs.size := by obtain ⟨o, ho, _⟩ := h2.obj; exact Heap.lt_size ho
    have kp : ∀ c o, c ≠ z → c ≠ TO → c ≠ i1 → c ≠ i2 → s.heap.get? c = some o → h''.get? c = some o := fun c o n1 n2 n3 n4 q => (hs.2 c n1).trans (ks c o n1 n2 n3 n4 q)
    have hT2 : IsPair h'' s.heap.objs.size u u' := (hs.2 _ (Nat.ne_of_gt lz)).trans pT
    have nt : ∀ c o, H c = some o → c ≠ z ∧ c ≠ TO ∧ c ≠ i1 ∧ c ≠ i2 := fun c o q => ⟨fun e => (by rw [e, hn z (by simp)] at q; cases q), fun e => (by rw [e, hn TO (by simp)] at q; cases q), fun e => (by rw [e, hn i1 (by simp)] at q; cases q), fun e => (by rw [e, hn i2 (by simp)] at q; cases q)⟩
    have kp' : ∀ c o u, H c = some u → s.heap.get? c = some o → h''.get? c = some o := fun c o u q q' => by
      obtain ⟨n1, n2, n3, n4⟩ := nt c u q
      exact kp c o n1 n2 n3 n4 q'
    have hok : HOk X.prog X.w (upd H s.heap.objs.size (.tup [y, y'])) h'' := fun c ob q => by
      by_cases hb : c = s.heap.objs.size
      · subst hb
        rw [upd_same] at q
        cases q
        exact ⟨by show 2 ≤ sizeLine; decide, [u, u'], .cons ru (.cons ru' .nil), ⟨_, hT2, rfl, _, rfl⟩⟩
      · rw [upd_ne hb] at q
        refine (I.hok c ob q).stay (fun e v he q' => ?_) (fun e q' => by rw [upd_ne (ne_of_none q' hTn)]; exact q') fun e xs q' => by rw [upd_ne (ne_of_none q' hTn)]; exact q'
        rcases he with rfl | he
        · exact kp' _ _ _ q q'
        · exact kp' _ _ _ he q'
    have mem4 : ∀ c, c ∉ [z, TO, i1, i2] → c ≠ z ∧ c ≠ TO ∧ c ≠ i1 ∧ c ≠ i2 := fun c hc => by
      have := hc
      simp at this
      exact this
    have I2 : Inv X pins σ (upd H s.heap.objs.size (.tup [y, y'])) { s with heap := h'' } :=
      I.step (g' := s.gens) (d' := s.drawn) (t' := s.toks) (ch := [z, TO, i1, i2]) (fun c hc => by
          have hc' : c ∈ [z, TI, TO, i1, i2] := by simp at hc ⊢; rcases hc with e | e | e | e <;> simp [e]
          have f := hf c hc'
          exact ⟨f.2.2.2.1, f.2.1, f.2.2.2.2.1, f.2.2.2.2.2⟩)
        (fun c o _ _ hc q _ => by obtain ⟨n1, n2, n3, n4⟩ := mem4 c hc; exact kp c o n1 n2 n3 n4 q) (fun c o _ _ hc q _ => by obtain ⟨n1, n2, n3, n4⟩ := mem4 c hc; exact ⟨o.slots, kp c o n1 n2 n3 n4 q⟩)
        (fun c o _ q n => by rw [upd_ne (Nat.ne_of_lt (Heap.lt_size q))]; exact n) (fun c o hc q => by obtain ⟨n1, n2, n3, n4⟩ := mem4 c hc; exact ⟨o, kp c o n1 n2 n3 n4 q⟩)
        (fun c xs q => by rw [upd_ne (ne_of_none q hTn)]; exact q) (fun c o u q => by rw [upd_ne (ne_of_none q hTn)]; exact q) (fun c ps q => ⟨#[], by rw [upd_ne (ne_of_none q hTn), q]; simp⟩)
        (fun m hm => by obtain ⟨o, es, ep, ho, r⟩ := hm; exact ⟨o, es, ep, kp _ o (Ne.symm (hf z (by simp)).2.1) (Ne.symm (hf TO (by simp)).2.1) (Ne.symm (hf i1 (by simp)).2.1) (Ne.symm (hf i2 (by simp)).2.1) ho, r⟩) hok I.bare
    refine ⟨.ref s.heap.objs.size, _, I2, rfl, ⟨_, y, y', rfl, hTn, rfl, fun zs hy => by rw [I.seqA_inj hy hq]; exact hx, fun zs hy => by rw [I.seqA_inj hy hq']; exact hx'⟩, ⟨zz, ?_, ⟨u, u', ?_⟩, ?_, ?_⟩, fun c hc => ?_⟩
    · exact kp TI _ ap.TIz ap.TITO ap.TIi1 ap.TIi2 hTI
    · exact (hs.2 TO ap.TOz).trans to'
    · exact i1'.at fun o q => (hs.2 i1 ap.i1z).trans q
    · exact i2'.at fun o q => (hs.2 i2 ap.i2z).trans q
    · have hc' : c = z ∨ c = TI ∨ c = TO ∨ c = i1 ∨ c = i2 := by simpa using hc
      have lc : c < s.heap.objs.size := by rcases hc' with rfl | rfl | rfl | rfl | rfl <;> assumption
      rw [upd_ne (Nat.ne_of_lt lc)]
      exact hn c hc
  done := by
    intro X hP hw hK hc i pins s σ H E I hf st hg
    subst hP hw hK
    obtain ⟨xs, hq, hx⟩ := hg
    obtain ⟨its, rv, p, hz'⟩ := I.seqA hq
    obtain ⟨hz, hTI, ⟨x0, y0, hTO⟩, h1, h2⟩ := st
    have hl := rv.length
    have hn : ∀ c, c ∈ [z, TI, TO, i1, i2] → H c = none := fun c hc => (hf c hc).1
    refine ZpA.zip_end (I.ok.hd hc) ap hz hTI hTO h1 p (by simp; omega) fun h' ks => ⟨rfl, ?_⟩
    have nt : ∀ c o, H c = some o → c ≠ z ∧ c ≠ i1 := fun c o q => ⟨fun e => (by rw [e, hn z (by simp)] at q; cases q), fun e => (by rw [e, hn i1 (by simp)] at q; cases q)⟩
    have kp' : ∀ c o u, H c = some u → s.heap.get? c = some o → h'.get? c = some o := fun c o u q q' => by
      obtain ⟨n1, n3⟩ := nt c u q
      exact ks c o n1 n3 q'
    have hok : HOk X.prog X.w H h' := fun c ob q => by
      refine (I.hok c ob q).stay (fun e v he q' => ?_) (fun e q' => q') fun e xs q' => q'
      rcases he with rfl | he
      · exact kp' _ _ _ q q'
      · exact kp' _ _ _ he q'
    have mem2 : ∀ c, c ∉ [z, i1] → c ≠ z ∧ c ≠ i1 := fun c hc => by
      have := hc
      simp at this
      exact this
    exact I.step (g' := s.gens) (d' := s.drawn) (t' := s.toks) (ch := [z, i1]) (fun c hc => by
          have hc' : c ∈ [z, TI, TO, i1, i2] := by simp at hc ⊢; rcases hc with e | e <;> simp [e]
          have f := hf c hc'
          exact ⟨f.2.2.2.1, f.2.1, f.2.2.2.2.1, f.2.2.2.2.2⟩)
        (fun c o _ _ hc q _ => by obtain ⟨n1, n3⟩ := mem2 c hc; exact ks c o n1 n3 q) (fun c o _ _ hc q _ => by obtain ⟨n1, n3⟩ := mem2 c hc; exact ⟨o.slots, ks c o n1 n3 q⟩)
        (fun c o _ q n => n) (fun c o hc q => by obtain ⟨n1, n3⟩ := mem2 c hc; exact ⟨o, ks c o n1 n3 q⟩)
        (fun c xs q => q) (fun c o u q => q) (fun c ps q => ⟨#[], by rw [q]; simp⟩)
        (fun m hm => by obtain ⟨o, es, ep, ho, r⟩ := hm; exact ⟨o, es, ep, ks _ o (Ne.symm (hf z (by simp)).2.1) (Ne.symm (hf i1 (by simp)).2.1) ho, r⟩) hok I.bare
  self := fun _ _ _ _ _ st h => wpAny_pyIter_zip st.1 h
section
variable {X : Cx}
def iZipA (K : PySem.W.Frag) (ta : TA) : TI := fun σ H R => ta σ H fun vs H1 => ∃ a b c1 c2, vs = [.ref a, .ref b] ∧ (∃ xs, SqA c1 K H1 a xs ∧ (xs.length ≤ sizeLine → (∃ ys, SqA c2 K H1 b ys) ∧ R (ItzA c1 c2 K a b) H1))
theorem pi_zipA {elts : List Expr} {k} {tpos : Pos} {l l' : Expr} {ta : TA} {p pos : Pos} (hg : Gl X "zip") (hm : X.mg "zip" = none) (ha : PA X [l, l'] ta) (hs : starEach [l, l'] X.env = [(false, eval l X.env), (false, eval l' X.env)] := by rfl) (hs2 : starEach [l'] X.env = [(false, eval l' X.env)] := by rfl) :
    PI X (.Tuple elts k tpos) (.Call (.Name "zip" p) [l, l'] [] pos) (iZipA X.K ta) := by
  intro pins s σ H R I h
  refine Call_ (ld_blt I hg hm boot_zip (PyProof.Rows.callWith_type1 (thn (ha pos pins s σ H _ I h) fun us s1 ⟨vs, H1, I1, r1, q1⟩ => ?_) (by rw [hs, hs2]) (by rw [hs2]; rfl)))
  obtain ⟨a, b, c1, c2, e, xs, hq, q⟩ := q1
  subst e
  obtain ⟨u, u', rfl, ru, ru'⟩ := vals2 r1
  cases ru
  cases ru'
  obtain ⟨its, rv, p, hz⟩ := I1.seqA hq
  obtain ⟨⟨ys, hq'⟩, q⟩ := q hz
  obtain ⟨its', rv', p', hz'⟩ := I1.seqA hq'
  have la : a < s1.heap.objs.size := by obtain ⟨o, ho, _⟩ := p.obj; exact Heap.lt_size ho
  have lb : b < s1.heap.objs.size := by obtain ⟨o, ho, _⟩ := p'.obj; exact Heap.lt_size ho
  refine ZpA.call_new p p' fun h' hz hTI hTO h1 h2 hk => ?_
  refine wpAny_pyIter_zip hz ?_
  refine ⟨s1.heap.objs.size + 4, [s1.heap.objs.size + 4, s1.heap.objs.size + 2, s1.heap.objs.size + 3, s1.heap.objs.size, s1.heap.objs.size + 1], _, _, H1, rfl, I1.kept (t' := s1.toks) hk, turn_zipA a b _ _ _ _ _ (zipApart_new la lb), ⟨hz, hTI, ⟨_, _, hTO⟩, h1, h2⟩, fun c hc => ?_, q⟩
  have hc' : c = s1.heap.objs.size + 4 ∨ c = s1.heap.objs.size + 2 ∨ c = s1.heap.objs.size + 3 ∨ c = s1.heap.objs.size ∨ c = s1.heap.objs.size + 1 := by simpa using hc
  have lc : s1.heap.objs.size ≤ c := by
    rcases hc' with rfl | rfl | rfl | rfl | rfl
    · exact Nat.le_add_right _ _
    · exact Nat.le_add_right _ _
    · exact Nat.le_add_right _ _
    · exact Nat.le_refl _
    · exact Nat.le_add_right _ _
  exact I1.fpOk lc (I1.hok.fresh lc)
end
end L2
namespace L2
open PySem PySem.Spec PyProof.Rows
inductive D where
  | non | bl (b : Bool) | int (i : Int) | str (x : Str) | tup (l : List D) | lst (l : List D) | ktup (l : List D) | klst (l : List D)
  | dK (ks : List Key) (vs : List D) | dT (ks : List (List Key)) (vs : List D) | set (l : List Int) | rng (lo hi : Int) | exc (C : Str)
def clsK (K : PySem.W.Frag) (nm : Str) (C : Addr) : Prop := PySem.W.nsIn K mainGlobals nm = some (some (.ref C))
mutual
def RepD (K : PySem.W.Frag) (H : Hp) : D → V → Prop
  | .non, v => v = .non
  | .bl b, v => v = .bl b
  | .int i, v => v = .int i
  | .str x, v => v = .str x
  | .tup ds, v => ∃ p xs, v = .ref p ∧ H p = some (.tup xs) ∧ RepDs K H ds xs
  | .lst ds, v => ∃ p xs, v = .ref p ∧ H p = some (.lst xs) ∧ RepDs K H ds xs
  | .klst ds, v => ∃ p xs, v = .ref p ∧ SqL K H p xs ∧ RepDs K H ds xs
  | .ktup ds, v => ∃ p xs, v = .ref p ∧ SqT K (fun _ => none) p xs ∧ RepDs K H ds xs
  | .dK ks ds, v => ∃ p xs, v = .ref p ∧ H p = some (.dK (ks.zip xs)) ∧ ks.length = xs.length ∧ RepDs K H ds xs
  | .dT ks ds, v => ∃ p xs, v = .ref p ∧ H p = some (.dT (ks.zip xs)) ∧ ks.length = xs.length ∧ RepDs K H ds xs
  | .set l, v => ∃ p S, v = .ref p ∧ H p = some (.set S l.length) ∧ ∀ x, S x = true ↔ x ∈ l
  | .rng lo hi, v => ∃ p, v = .ref p ∧ H p = some (.rng lo hi)
  | .exc nm, v => ∃ p C, v = .ref p ∧ clsK K nm C ∧ H p = some (excO p C)
def RepDs (K : PySem.W.Frag) (H : Hp) : List D → List V → Prop
  | [], [] => True
  | d :: ds, x :: xs => RepD K H d x ∧ RepDs K H ds xs
  | _, _ => False
end
mutual
theorem Same.repD {K : PySem.W.Frag} {H H' : Hp} (e : Same H H') : ∀ {d : D} {v : V}, RepD K H d v → RepD K H' d v
  | .non, _, h => h
  | .bl _, _, h => h
  | .int _, _, h => h
  | .str _, _, h => h
  | .tup _, _, ⟨p, xs, h1, h2, h3⟩ => ⟨p, xs, h1, e _ _ h2, e.repDs h3⟩
  | .lst _, _, ⟨p, xs, h1, h2, h3⟩ => ⟨p, xs, h1, e _ _ h2, e.repDs h3⟩
  | .klst _, _, ⟨p, xs, h1, h2, h3⟩ => ⟨p, xs, h1, e.seq h2, e.repDs h3⟩
  | .ktup _, _, ⟨p, xs, h1, h2, h3⟩ => ⟨p, xs, h1, h2, e.repDs h3⟩
  | .dK _ _, _, ⟨p, xs, h1, h2, h3, h4⟩ => ⟨p, xs, h1, e _ _ h2, h3, e.repDs h4⟩
  | .dT _ _, _, ⟨p, xs, h1, h2, h3, h4⟩ => ⟨p, xs, h1, e _ _ h2, h3, e.repDs h4⟩
  | .set _, _, ⟨p, S, h1, h2, h3⟩ => ⟨p, S, h1, e _ _ h2, h3⟩
  | .rng _ _, _, ⟨p, h1, h2⟩ => ⟨p, h1, e _ _ h2⟩
  | .exc _, _, ⟨p, C, h1, h2, h3⟩ => ⟨p, C, h1, h2, e _ _ h3⟩
theorem Same.repDs {K : PySem.W.Frag} {H H' : Hp} (e : Same H H') : ∀ {ds : List D} {xs : List V}, RepDs K H ds xs → RepDs K H' ds xs
  | [], [], _ => trivial
  | _ :: _, _ :: _, h => ⟨e.repD h.1, e.repDs h.2⟩
  | [], _ :: _, h => h.elim
  | _ :: _, [], h => h.elim
end
theorem RepDs.len {K : PySem.W.Frag} {H : Hp} : ∀ {ds : List D} {xs : List V}, RepDs K H ds xs → ds.length = xs.length
  | [], [], _ => rfl
  | _ :: _, _ :: _, h => by rw [List.length_cons, List.length_cons, RepDs.len h.2]
  | [], _ :: _, h => h.elim
  | _ :: _, [], h => h.elim
theorem RepDs.get {K : PySem.W.Frag} {H : Hp} : ∀ {ds : List D} {xs : List V} {i : Nat} {d : D}, RepDs K H ds xs → ds[i]? = some d → ∃ x, xs[i]? = some x ∧ RepD K H d x
  | _ :: _, x :: _, 0, d, h, e => ⟨x, rfl, by have : _ = d := Option.some.inj e; rw [← this]; exact h.1⟩
  | _ :: _, _ :: _, i + 1, d, h, e => RepDs.get (i := i) h.2 (by simpa using e)
  | [], [], _, _, _, e => by simp at e
  | [], _ :: _, _, _, h, _ => h.elim
  | _ :: _, [], _, _, h, _ => h.elim
theorem RepDs.get' {K : PySem.W.Frag} {H : Hp} {ds : List D} {xs : List V} {i : Nat} {x : V} (h : RepDs K H ds xs) (e : xs[i]? = some x) : ∃ d, ds[i]? = some d ∧ RepD K H d x := by
  have hi : i < ds.length := by rw [h.len]; exact (List.getElem?_eq_some_iff.mp e).1
  obtain ⟨y, e2, r⟩ := h.get (List.getElem?_eq_getElem hi)
  rw [e] at e2; cases e2
  exact ⟨_, List.getElem?_eq_getElem hi, r⟩
theorem RepDs.app {K : PySem.W.Frag} {H : Hp} : ∀ {ds es : List D} {xs ys : List V}, RepDs K H ds xs → RepDs K H es ys → RepDs K H (ds ++ es) (xs ++ ys)
  | [], _, [], _, _, h => h
  | _ :: _, _, _ :: _, _, g, h => ⟨g.1, RepDs.app g.2 h⟩
  | [], _, _ :: _, _, g, _ => g.elim
  | _ :: _, _, [], _, g, _ => g.elim
theorem RepDs.take {K : PySem.W.Frag} {H : Hp} : ∀ {ds : List D} {xs : List V} (n : Nat), RepDs K H ds xs → RepDs K H (ds.take n) (xs.take n)
  | [], [], n, _ => by simp; exact trivial
  | _ :: _, _ :: _, 0, _ => trivial
  | _ :: _, _ :: _, n + 1, h => ⟨h.1, RepDs.take n h.2⟩
  | [], _ :: _, _, h => h.elim
  | _ :: _, [], _, h => h.elim
theorem RepDs.drop {K : PySem.W.Frag} {H : Hp} : ∀ {ds : List D} {xs : List V} (n : Nat), RepDs K H ds xs → RepDs K H (ds.drop n) (xs.drop n)
  | [], [], n, _ => by simp; exact trivial
  | _ :: _, _ :: _, 0, h => h
  | _ :: _, _ :: _, n + 1, h => RepDs.drop n h.2
  | [], _ :: _, _, h => h.elim
  | _ :: _, [], _, h => h.elim
theorem RepDs.set {K : PySem.W.Frag} {H : Hp} {d : D} {x : V} (r : RepD K H d x) : ∀ {ds : List D} {xs : List V} (n : Nat), RepDs K H ds xs → RepDs K H (ds.set n d) (xs.set n x)
  | [], [], n, _ => by simp; exact trivial
  | _ :: _, _ :: _, 0, h => ⟨r, h.2⟩
  | _ :: _, _ :: _, n + 1, h => ⟨h.1, RepDs.set r n h.2⟩
  | [], _ :: _, _, h => h.elim
  | _ :: _, [], _, h => h.elim
theorem repDs_ints {K : PySem.W.Frag} {H : Hp} : ∀ (ns : List Int), RepDs K H (ns.map D.int) (ns.map V.int)
  | [] => trivial
  | _ :: ns => ⟨rfl, repDs_ints ns⟩
theorem ints_repDs {K : PySem.W.Frag} {H : Hp} : ∀ {ns : List Int} {xs : List V}, RepDs K H (ns.map D.int) xs → xs = ns.map V.int
  | [], [], _ => rfl
  | _ :: _, _ :: _, h => by rw [h.1, ints_repDs h.2]; rfl
  | [], _ :: _, h => h.elim
  | _ :: _, [], h => h.elim
theorem bls_repDs {K : PySem.W.Frag} {H : Hp} : ∀ {ns : List Bool} {xs : List V}, RepDs K H (ns.map D.bl) xs → xs = ns.map V.bl
  | [], [], _ => rfl
  | _ :: _, _ :: _, h => by rw [h.1, bls_repDs h.2]; rfl
  | [], _ :: _, h => h.elim
  | _ :: _, [], h => h.elim
def hid (L : List Addr) (H : Hp) : Hp := fun a => if a ∈ L then none else H a
theorem hid_some {L : List Addr} {H : Hp} {b : Addr} {o : HO} (h : hid L H b = some o) : b ∉ L ∧ H b = some o := by
  unfold hid at h
  split at h
  · cases h
  · exact ⟨‹_›, h⟩
theorem hid_ne {L : List Addr} {H : Hp} {b : Addr} (h : b ∉ L) : hid L H b = H b := if_neg h
theorem hid_same {L L' : List Addr} {H H' : Hp} (hL : ∀ b, b ∈ L' → b ∈ L ∨ H b = none) (h : ∀ b o, b ∉ L → H b = some o → H' b = some o) : Same (hid L H) (hid L' H') := fun b o e => by
  obtain ⟨h1, h2⟩ := hid_some e
  rw [hid_ne (fun z => (hL b z).elim h1 fun n => by rw [n] at h2; cases h2)]
  exact h b o h1 h2
theorem hid_sub {L : List Addr} {H : Hp} : Same (hid L H) H := fun b o e => (hid_some e).2
theorem hid_upd {L : List Addr} {H : Hp} {p : Addr} {o : HO} (h : p ∈ L) : hid L (upd H p o) = hid L H := by
  funext b
  unfold hid
  split
  · rfl
  · rw [upd_ne (fun z => by subst z; exact absurd h ‹_›)]
inductive Md where
  | fz | ow | io
  deriving DecidableEq
abbrev Rho := List (Option (D × Md))
structure Fx where
  Z : List Addr
  io : Nat → Option Addr
def OwnAt (K : PySem.W.Frag) (H Hh : Hp) (p : Addr) : D → Prop
  | .lst ds => ∃ xs, H p = some (.lst xs) ∧ RepDs K Hh ds xs
  | .dK ks ds => ∃ xs, H p = some (.dK (ks.zip xs)) ∧ ks.length = xs.length ∧ RepDs K Hh ds xs
  | .dT ks ds => ∃ xs, H p = some (.dT (ks.zip xs)) ∧ ks.length = xs.length ∧ RepDs K Hh ds xs
  | _ => False
def MutO : Option HO → Prop
  | some (.lst _) => True
  | some (.dK _) => True
  | some (.dT _) => True
  | _ => False
theorem OwnAt.mu {K : PySem.W.Frag} {H Hh : Hp} {p : Addr} {d : D} (h : OwnAt K H Hh p d) : MutO (H p) := by
  cases d <;> first | exact h.elim | (obtain ⟨xs, e, _⟩ := h; rw [e]; trivial)
theorem OwnAt.at {K : PySem.W.Frag} {H H' Hh Hh' : Hp} {p : Addr} {d : D} (h : OwnAt K H Hh p d) (e : H' p = H p) (s : Same Hh Hh') : OwnAt K H' Hh' p d := by
  cases d <;> first
    | exact h.elim
    | (obtain ⟨xs, h1, h2, h3⟩ := h; exact ⟨xs, e.trans h1, h2, s.repDs h3⟩)
    | (obtain ⟨xs, h1, h2⟩ := h; exact ⟨xs, e.trans h1, s.repDs h2⟩)
theorem OwnAt.rep {K : PySem.W.Frag} {H Hh Hh' : Hp} {p : Addr} {d : D} (h : OwnAt K H Hh p d) (e : Hh' p = H p) (s : Same Hh Hh') : RepD K Hh' d (.ref p) := by
  cases d <;> first
    | exact h.elim
    | (obtain ⟨xs, h1, h2, h3⟩ := h; exact ⟨p, xs, rfl, e.trans h1, h2, s.repDs h3⟩)
    | (obtain ⟨xs, h1, h2⟩ := h; exact ⟨p, xs, rfl, e.trans h1, s.repDs h2⟩)
def SlotOk (K : PySem.W.Frag) (F : Fx) (H : Hp) (W : List Addr) (i : Nat) (d : D) (v : V) : Md → Prop
  | .fz => RepD K (hid (W ++ F.Z) H) d v
  | .ow => ∃ p, v = .ref p ∧ p ∈ W ∧ OwnAt K H (hid (W ++ F.Z) H) p d
  | .io => ∃ p, v = .ref p ∧ p ∈ W ∧ OwnAt K H (hid (W ++ F.Z) H) p d ∧ F.io i = some p
structure Rel (K : PySem.W.Frag) (F : Fx) (σ : St) (H : Hp) (ρ : Rho) (W : List Addr) : Prop where
  slot : ∀ (i : Nat) (d : D) (m : Md), ρ[i]? = some (some (d, m)) → ∃ v, σ[i]? = some (some v) ∧ SlotOk K F H W i d v m
  apart : ∀ (i j : Nat) (d e : D) (m n : Md) (p : Addr), ρ[i]? = some (some (d, m)) → m ≠ .fz → ρ[j]? = some (some (e, n)) → n ≠ .fz → σ[i]? = some (some (.ref p)) → σ[j]? = some (some (.ref p)) → i = j
  wz : ∀ p ∈ W, p ∉ F.Z
  mt : ∀ p ∈ W ++ F.Z, MutO (H p)
  len : σ.length = ρ.length
structure Fr (W : List Addr) (H H' : Hp) : Prop where
  keep : ∀ b o, b ∉ W → H b = some o → H' b = some o
  dom : ∀ b, H' b = none → H b = none
theorem Fr.refl {W : List Addr} {H : Hp} : Fr W H H := ⟨fun _ _ _ h => h, fun _ h => h⟩
theorem Same.fr {W : List Addr} {H H' : Hp} (e : Same H H') : Fr W H H' := ⟨fun b o _ h => e b o h, fun b h => e.free h⟩
theorem Fr.trans {W W1 : List Addr} {H H1 H2 : Hp} (a : Fr W H H1) (b : Fr W1 H1 H2) (h : ∀ p ∈ W1, p ∈ W ∨ H p = none) : Fr W H H2 :=
  ⟨fun c o n e => b.keep c o (fun z => (h c z).elim n fun q => by rw [q] at e; cases e) (a.keep c o n e), fun c e => a.dom c (b.dom c e)⟩
theorem Fr.hid {W W' Z : List Addr} {H H' : Hp} (f : Fr W H H') (s : ∀ p ∈ W', p ∈ W ∨ H p = none) : Same (L2.hid (W ++ Z) H) (L2.hid (W' ++ Z) H') :=
  hid_same (fun b hb => by
    rcases List.mem_append.mp hb with q | q
    · exact (s b q).imp (fun z => List.mem_append_left _ z) id
    · exact .inl (List.mem_append_right _ q)) fun b o n e => f.keep b o (fun z => n (List.mem_append_left _ z)) e
section
variable {K : PySem.W.Frag} {F : Fx} {σ : St} {H H' : Hp} {ρ : Rho} {W : List Addr}
theorem MutO.some {o : Option HO} (h : MutO o) : ∃ u, o = Option.some u := by
  cases o with
  | none => exact h.elim
  | some u => exact ⟨u, rfl⟩
theorem Rel.same (R : Rel K F σ H ρ W) (e : Same H H') : Rel K F σ H' ρ W := by
  have eq : ∀ p, MutO (H p) → H' p = H p := fun p h => by obtain ⟨u, q⟩ := h.some; rw [q]; exact e _ _ q
  have sh : Same (hid (W ++ F.Z) H) (hid (W ++ F.Z) H') := hid_same (fun b hb => .inl hb) fun b o _ q => e b o q
  refine ⟨fun i d m h => ?_, R.apart, R.wz, fun p hp => by rw [eq p (R.mt p hp)]; exact R.mt p hp, R.len⟩
  obtain ⟨v, h1, h2⟩ := R.slot i d m h
  refine ⟨v, h1, ?_⟩
  cases m with
  | fz => exact sh.repD h2
  | ow => obtain ⟨p, e1, e2, e3⟩ := h2; exact ⟨p, e1, e2, e3.at (eq p e3.mu) sh⟩
  | io => obtain ⟨p, e1, e2, e3, e4⟩ := h2; exact ⟨p, e1, e2, e3.at (eq p e3.mu) sh, e4⟩
theorem Rel.fresh (R : Rel K F σ H ρ W) {p : Addr} (h : H p = none) : p ∉ W ++ F.Z := fun z => by
  have := R.mt p z
  rw [h] at this
  exact this
theorem set_get {α : Type} {l : List (Option α)} {i j : Nat} {o : Option α} {x : α} (h : (l.set i o)[j]? = some (some x)) : (j = i ∧ o = some x) ∨ (j ≠ i ∧ l[j]? = some (some x)) := by
  by_cases e : j = i
  · subst e
    rw [List.getElem?_set] at h
    split at h
    · split at h
      · exact .inl ⟨rfl, Option.some.inj h⟩
      · cases h
    · exact absurd rfl ‹_›
  · rw [List.getElem?_set_ne (Ne.symm e)] at h
    exact .inr ⟨e, h⟩
theorem Rel.freeze (R : Rel K F σ H ρ W) {i : Nat} {d : D} {p : Addr} (h : ρ[i]? = some (some (d, .ow))) (hp : σ[i]? = some (some (.ref p))) :
    Rel K F σ H (ρ.set i (some (d, .fz))) (W.filter fun a => decide (a ≠ p)) ∧ RepD K (hid ((W.filter fun a => decide (a ≠ p)) ++ F.Z) H) d (.ref p) := by
  obtain ⟨v, hv, q, rfl, hq, hO⟩ := R.slot i d .ow h
  rw [hp] at hv
  cases hv
  have sub : ∀ b, b ∈ W.filter (fun a => decide (a ≠ p)) → b ∈ W ∧ b ≠ p := fun b hb => by
    have := List.mem_filter.mp hb
    exact ⟨this.1, of_decide_eq_true this.2⟩
  have sh : Same (hid (W ++ F.Z) H) (hid ((W.filter fun a => decide (a ≠ p)) ++ F.Z) H) := hid_same (fun b hb => by
    rcases List.mem_append.mp hb with q | q
    · exact .inl (List.mem_append_left _ (sub b q).1)
    · exact .inl (List.mem_append_right _ q)) fun b o _ e => e
  have pn : p ∉ (W.filter fun a => decide (a ≠ p)) ++ F.Z := fun z => by
    rcases List.mem_append.mp z with q | q
    · exact (sub p q).2 rfl
    · exact R.wz p hq q
  have rep : RepD K (hid ((W.filter fun a => decide (a ≠ p)) ++ F.Z) H) d (.ref p) := hO.rep (hid_ne pn) sh
  refine ⟨⟨fun j e m hj => ?_, fun j k e f m n r h1 h2 h3 h4 h5 h6 => ?_, fun r hr => R.wz r (sub r hr).1, fun r hr => ?_, by rw [List.length_set]; exact R.len⟩, rep⟩
  · rcases set_get hj with ⟨rfl, e1⟩ | ⟨ne, e1⟩
    · cases e1
      exact ⟨_, hp, rep⟩
    · obtain ⟨v, g1, g2⟩ := R.slot j e m e1
      refine ⟨v, g1, ?_⟩
      have other : ∀ r, v = .ref r → m ≠ .fz → r ≠ p := fun r er hm z => by
        subst er z
        exact ne (R.apart j i _ _ _ _ _ e1 hm h (by decide) g1 hp)
      cases m with
      | fz => exact sh.repD g2
      | ow => obtain ⟨r, e2, e3, e4⟩ := g2; exact ⟨r, e2, List.mem_filter.mpr ⟨e3, decide_eq_true (other r e2 (by decide))⟩, e4.at rfl sh⟩
      | io => obtain ⟨r, e2, e3, e4, e5⟩ := g2; exact ⟨r, e2, List.mem_filter.mpr ⟨e3, decide_eq_true (other r e2 (by decide))⟩, e4.at rfl sh, e5⟩
  · rcases set_get h1 with ⟨rfl, z⟩ | ⟨_, z⟩
    · cases z; exact absurd rfl h2
    · rcases set_get h3 with ⟨rfl, z'⟩ | ⟨_, z'⟩
      · cases z'; exact absurd rfl h4
      · exact R.apart j k _ _ _ _ _ z h2 z' h4 h5 h6
  · rcases List.mem_append.mp hr with q | q
    · exact R.mt r (List.mem_append_left _ (sub r q).1)
    · exact R.mt r (List.mem_append_right _ q)
theorem Rel.write (R : Rel K F σ H ρ W) {i : Nat} {d d' : D} {m : Md} {p : Addr} {o : HO} (h : ρ[i]? = some (some (d, m))) (hm : m ≠ .fz) (hp : σ[i]? = some (some (.ref p))) (new : OwnAt K (upd H p o) (hid (W ++ F.Z) H) p d') :
    Rel K F σ (upd H p o) (ρ.set i (some (d', m))) W ∧ Fr W H (upd H p o) := by
  obtain ⟨v, hv, hS⟩ := R.slot i d m h
  rw [hp] at hv
  cases hv
  have hw : p ∈ W := by
    cases m with
    | fz => exact absurd rfl hm
    | ow => obtain ⟨r, e2, e3, _⟩ := hS; cases e2; exact e3
    | io => obtain ⟨r, e2, e3, _⟩ := hS; cases e2; exact e3
  have hh : hid (W ++ F.Z) (upd H p o) = hid (W ++ F.Z) H := hid_upd (List.mem_append_left _ hw)
  refine ⟨⟨fun j e n hj => ?_, fun j k e f n n' r h1 h2 h3 h4 h5 h6 => ?_, R.wz, fun r hr => ?_, by rw [List.length_set]; exact R.len⟩, fun b u nb e => ?_, fun b e => ?_⟩
  · rcases set_get hj with ⟨rfl, e1⟩ | ⟨ne, e1⟩
    · cases e1
      refine ⟨_, hp, ?_⟩
      cases m with
      | fz => exact absurd rfl hm
      | ow => exact ⟨p, rfl, hw, by rw [hh]; exact new⟩
      | io => obtain ⟨r, e2, e3, e4, e5⟩ := hS; cases e2; exact ⟨p, rfl, hw, by rw [hh]; exact new, e5⟩
    · obtain ⟨v, g1, g2⟩ := R.slot j e n e1
      refine ⟨v, g1, ?_⟩
      have other : ∀ r, v = .ref r → n ≠ .fz → r ≠ p := fun r er hn z => by
        subst er z
        exact ne (R.apart j i _ _ _ _ _ e1 hn h hm g1 hp)
      cases n with
      | fz => show RepD K (hid (W ++ F.Z) (upd H p o)) e v; rw [hh]; exact g2
      | ow => obtain ⟨r, e2, e3, e4⟩ := g2; exact ⟨r, e2, e3, e4.at (upd_ne (other r e2 (by decide))) (by rw [hh]; exact Same.refl _)⟩
      | io => obtain ⟨r, e2, e3, e4, e5⟩ := g2; exact ⟨r, e2, e3, e4.at (upd_ne (other r e2 (by decide))) (by rw [hh]; exact Same.refl _), e5⟩
  · have fnd : ∀ {j : Nat} {e : D} {n : Md}, (ρ.set i (some (d', m)))[j]? = some (some (e, n)) → n ≠ .fz → ∃ e', ρ[j]? = some (some (e', n)) := fun {j e n} hj hn => by
      rcases set_get hj with ⟨rfl, e1⟩ | ⟨_, e1⟩
      · cases e1; exact ⟨d, h⟩
      · exact ⟨_, e1⟩
    obtain ⟨_, z1⟩ := fnd h1 h2
    obtain ⟨_, z2⟩ := fnd h3 h4
    exact R.apart j k _ _ _ _ _ z1 h2 z2 h4 h5 h6
  · by_cases e : r = p
    · subst e; exact new.mu
    · rw [upd_ne e]; exact R.mt r hr
  · rw [upd_ne (fun z => by subst z; exact nb hw)]; exact e
  · by_cases z : b = p
    · subst z; rw [upd_same] at e; cases e
    · rw [upd_ne z] at e; exact e
theorem Rel.put (R : Rel K F σ H ρ W) {i : Nat} {d : D} {v : V} (hi : i < σ.length) (r : RepD K (hid (W ++ F.Z) H) d v) : Rel K F (σ.set i (some v)) H (ρ.set i (some (d, .fz))) W := by
  refine ⟨fun j e m hj => ?_, fun j k e f m n p h1 h2 h3 h4 h5 h6 => ?_, R.wz, R.mt, by rw [List.length_set, List.length_set]; exact R.len⟩
  · rcases set_get hj with ⟨rfl, e1⟩ | ⟨ne, e1⟩
    · cases e1
      exact ⟨v, List.getElem?_set_self hi, r⟩
    · obtain ⟨v', g1, g2⟩ := R.slot j e m e1
      exact ⟨v', by rw [List.getElem?_set_ne (Ne.symm ne)]; exact g1, g2⟩
  · rcases set_get h1 with ⟨rfl, z⟩ | ⟨n1, z⟩
    · cases z; exact absurd rfl h2
    · rcases set_get h3 with ⟨rfl, z'⟩ | ⟨n2, z'⟩
      · cases z'; exact absurd rfl h4
      · rw [List.getElem?_set_ne (Ne.symm n1)] at h5
        rw [List.getElem?_set_ne (Ne.symm n2)] at h6
        exact R.apart j k _ _ _ _ _ z h2 z' h4 h5 h6
theorem Rel.own {p : Addr} (R : Rel K F σ (hid [p] H) ρ W) {i : Nat} {d : D} (hi : i < σ.length) (hp : p ∉ W ++ F.Z) (r : OwnAt K H (hid (p :: (W ++ F.Z)) H) p d) : Rel K F (σ.set i (some (.ref p))) H (ρ.set i (some (d, .ow))) (p :: W) := by
  have hh : hid (W ++ F.Z) (hid [p] H) = hid ((p :: W) ++ F.Z) H := by
    funext b
    unfold hid
    by_cases z : b = p
    · subst z
      rw [if_neg hp]
      simp
    · by_cases z2 : b ∈ W ++ F.Z
      · rw [if_pos z2, if_pos (by rw [List.cons_append]; exact List.mem_cons_of_mem _ z2)]
      · rw [if_neg z2, if_neg (by simpa using z), if_neg (by rw [List.cons_append]; exact fun q => (List.mem_cons.mp q).elim z z2)]
  have neq : ∀ r, r ∈ W ++ F.Z → hid [p] H r = H r := fun r hr => hid_ne (by
    intro z
    have z : r = p := by simpa using z
    subst z; exact hp hr)
  refine ⟨fun j e m hj => ?_, fun j k e f m n q h1 h2 h3 h4 h5 h6 => ?_, fun q hq => ?_, fun q hq => ?_, by rw [List.length_set, List.length_set]; exact R.len⟩
  · rcases set_get hj with ⟨rfl, e1⟩ | ⟨ne, e1⟩
    · cases e1
      exact ⟨_, List.getElem?_set_self hi, p, rfl, List.mem_cons_self, r⟩
    · obtain ⟨v', g1, g2⟩ := R.slot j e m e1
      refine ⟨v', by rw [List.getElem?_set_ne (Ne.symm ne)]; exact g1, ?_⟩
      cases m with
      | fz => show RepD K (hid ((p :: W) ++ F.Z) H) e v'; rw [← hh]; exact g2
      | ow => obtain ⟨r, e2, e3, e4⟩ := g2; exact ⟨r, e2, List.mem_cons_of_mem _ e3, e4.at (neq r (List.mem_append_left _ e3)).symm (by rw [hh]; exact Same.refl _)⟩
      | io => obtain ⟨r, e2, e3, e4, e5⟩ := g2; exact ⟨r, e2, List.mem_cons_of_mem _ e3, e4.at (neq r (List.mem_append_left _ e3)).symm (by rw [hh]; exact Same.refl _), e5⟩
  · have inW : ∀ {j : Nat} {e : D} {m : Md}, ρ[j]? = some (some (e, m)) → m ≠ .fz → σ[j]? = some (some (.ref p)) → False := fun {j e m} h1 h2 h3 => by
      obtain ⟨v, g1, g2⟩ := R.slot j e m h1
      rw [h3] at g1; cases g1
      cases m with
      | fz => exact h2 rfl
      | ow => obtain ⟨r, e2, e3, _⟩ := g2; cases e2; exact hp (List.mem_append_left _ e3)
      | io => obtain ⟨r, e2, e3, _⟩ := g2; cases e2; exact hp (List.mem_append_left _ e3)
    rcases set_get h1 with ⟨rfl, z⟩ | ⟨n1, z⟩
    · rw [List.getElem?_set_self hi] at h5
      cases h5
      rcases set_get h3 with ⟨rfl, z'⟩ | ⟨n2, z'⟩
      · rfl
      · rw [List.getElem?_set_ne (Ne.symm n2)] at h6
        exact (inW z' h4 h6).elim
    · rw [List.getElem?_set_ne (Ne.symm n1)] at h5
      rcases set_get h3 with ⟨rfl, z'⟩ | ⟨n2, z'⟩
      · rw [List.getElem?_set_self hi] at h6
        cases h6
        exact (inW z h2 h5).elim
      · rw [List.getElem?_set_ne (Ne.symm n2)] at h6
        exact R.apart j k _ _ _ _ _ z h2 z' h4 h5 h6
  · rcases List.mem_cons.mp hq with rfl | hq
    · exact fun z => hp (List.mem_append_right _ z)
    · exact R.wz q hq
  · rcases List.mem_cons.mp (show q ∈ p :: (W ++ F.Z) from hq) with rfl | hq
    · exact r.mu
    · have := R.mt q hq
      rw [neq q hq] at this
      exact this
end
end L2
namespace L2
open PySem PySem.Spec PyProof.Rows
theorem PE.by {X : Cx} {e : Expr} {t t' : TE} (h : PE X e t) (hi : ∀ σ H Q, t' σ H Q → t σ H Q) : PE X e t' := fun pins s σ H Q I hw => h pins s σ H Q I (hi σ H Q hw)
theorem PT.by {X : Cx} {e : Expr} {t t' : TT} (h : PT X e t) (hi : ∀ σ H Q, t' σ H Q → t σ H Q) : PT X e t' := fun pins s σ H Q I hw => h pins s σ H Q I (hi σ H Q hw)
inductive Res where
  | ok (d : D) (nw : Bool) | ex (C : Str)
inductive ResA where
  | ok (ds : List D) | ex (C : Str)
inductive ResT where
  | ok (b : Bool) | ex (C : Str)
abbrev SE := Rho → Option (Res × Rho)
abbrev ST := Rho → Option (ResT × Rho)
abbrev EXT := Str → St → Hp → Prop
section
variable (K : PySem.W.Frag) (F : Fx) (EX : EXT) (σ : St) (H : Hp) (W : List Addr)
def PostE (H' : Hp) (ρ' : Rho) (W' : List Addr) (d : D) : Bool → V → Prop
  | false, v => RepD K (hid (W' ++ F.Z) H') d v ∧ Rel K F σ H' ρ' W'
  | true, v => ∃ p, v = .ref p ∧ H p = none ∧ p ∉ W' ++ F.Z ∧ OwnAt K H' (hid (p :: (W' ++ F.Z)) H') p d ∧ Rel K F σ (hid [p] H') ρ' W'
def OkV (o : Option (Res × Rho)) (Q : VK) : Prop := match o with
  | some (.ok d nw, ρ') => ∀ v H' W', Fr W H H' → (∀ p ∈ W', p ∈ W) → PostE K F σ H H' ρ' W' d nw v → Q v H'
  | some (.ex C, ρ') => ∀ H' W', Fr W H H' → (∀ p ∈ W', p ∈ W) → Rel K F σ H' ρ' W' → EX C σ H'
  | none => False
def OkT (o : Option (ResT × Rho)) (Q : Bool → Hp → Prop) : Prop := match o with
  | some (.ok b, ρ') => ∀ H' W', Fr W H H' → (∀ p ∈ W', p ∈ W) → Rel K F σ H' ρ' W' → Q b H'
  | some (.ex C, ρ') => ∀ H' W', Fr W H H' → (∀ p ∈ W', p ∈ W) → Rel K F σ H' ρ' W' → EX C σ H'
  | none => False
end
def tV (K : PySem.W.Frag) (EX : EXT) (f : SE) : TE := fun σ H Q => ∃ F ρ W, Rel K F σ H ρ W ∧ OkV K F EX σ H W (f ρ) Q
def tVT (K : PySem.W.Frag) (EX : EXT) (f : ST) : TT := fun σ H Q => ∃ F ρ W, Rel K F σ H ρ W ∧ OkT K F EX σ H W (f ρ) Q
structure JE (X : Cx) (EX : EXT) (e : Expr) (f : SE) : Prop where
  p : PE X e (tV X.K EX f)
structure JT (X : Cx) (EX : EXT) (e : Expr) (f : ST) : Prop where
  p : PT X e (tVT X.K EX f)
structure JW (X : Cx) (EX : EXT) (e : Expr) (f : ST) : Prop where
  p : PW X e (tVT X.K EX f)
inductive Arg where
  | ex (f : SE) | bor (i : Nat)
def tArg (K : PySem.W.Frag) (EX : EXT) : Arg → TE
  | .ex f => tV K EX f
  | .bor i => tVar i
def tAs (K : PySem.W.Frag) (EX : EXT) : List Arg → TA
  | [] => tNil
  | a :: as => tCons (tArg K EX a) (tAs K EX as)
structure JB (X : Cx) (EX : EXT) (e : Expr) (a : Arg) : Prop where
  p : PE X e (tArg X.K EX a)
structure JA (X : Cx) (EX : EXT) (es : List Expr) (as : List Arg) : Prop where
  p : PA X es (tAs X.K EX as)
def evA : List Arg → Rho → Option (ResA × Rho)
  | [], ρ => some (.ok [], ρ)
  | .ex f :: as, ρ => match f ρ with
    | some (.ok d _, ρ1) => match evA as ρ1 with
      | some (.ok ds, ρ2) => some (.ok (d :: ds), ρ2)
      | some (.ex C, ρ2) => some (.ex C, ρ2)
      | none => none
    | some (.ex C, ρ1) => some (.ex C, ρ1)
    | none => none
  | .bor i :: as, ρ => match ρ[i]? with
    | some (some _) => match evA as ρ with
      | some (.ok ds, ρ2) => match ρ2[i]? with
        | some (some (d, _)) => some (.ok (d :: ds), ρ2)
        | _ => none
      | some (.ex C, ρ2) => some (.ex C, ρ2)
      | none => none
    | _ => none
def RepB (K : PySem.W.Frag) (H Hh : Hp) : D → V → Prop
  | .lst ds, v => ∃ p xs, v = .ref p ∧ H p = some (.lst xs) ∧ RepDs K Hh ds xs
  | .dK ks ds, v => ∃ p xs, v = .ref p ∧ H p = some (.dK (ks.zip xs)) ∧ ks.length = xs.length ∧ RepDs K Hh ds xs
  | .dT ks ds, v => ∃ p xs, v = .ref p ∧ H p = some (.dT (ks.zip xs)) ∧ ks.length = xs.length ∧ RepDs K Hh ds xs
  | d, v => RepD K Hh d v
def RepBs (K : PySem.W.Frag) (H Hh : Hp) : List D → List V → Prop
  | [], [] => True
  | d :: ds, x :: xs => RepB K H Hh d x ∧ RepBs K H Hh ds xs
  | _, _ => False
section
variable {K : PySem.W.Frag} {F : Fx} {EX : EXT} {σ : St} {H H' Hh Hh' : Hp} {ρ ρ' : Rho} {W W' : List Addr}
theorem RepD.b {d : D} {v : V} (r : RepD K Hh d v) (s : Same Hh H) : RepB K H Hh d v := by
  cases d <;> first
    | exact r
    | (obtain ⟨p, xs, h1, h2, h3, h4⟩ := r; exact ⟨p, xs, h1, s _ _ h2, h3, h4⟩)
    | (obtain ⟨p, xs, h1, h2, h3⟩ := r; exact ⟨p, xs, h1, s _ _ h2, h3⟩)
theorem OwnAt.b {p : Addr} {d : D} (h : OwnAt K H Hh p d) : RepB K H Hh d (.ref p) := by
  cases d <;> first
    | exact h.elim
    | (obtain ⟨xs, h1, h2, h3⟩ := h; exact ⟨p, xs, rfl, h1, h2, h3⟩)
    | (obtain ⟨xs, h1, h2⟩ := h; exact ⟨p, xs, rfl, h1, h2⟩)
theorem RepB.d {d : D} {v : V} (r : RepB K H Hh d v) (s : Same Hh H) : RepD K H d v := by
  cases d <;> first
    | exact s.repD r
    | (obtain ⟨p, xs, h1, h2, h3, h4⟩ := r; exact ⟨p, xs, h1, h2, h3, s.repDs h4⟩)
    | (obtain ⟨p, xs, h1, h2, h3⟩ := r; exact ⟨p, xs, h1, h2, s.repDs h3⟩)
theorem SlotOk.b {i : Nat} {d : D} {v : V} {m : Md} (h : SlotOk K F H W i d v m) : RepB K H (hid (W ++ F.Z) H) d v := by
  cases m with
  | fz => exact RepD.b h hid_sub
  | ow => obtain ⟨p, rfl, _, h⟩ := h; exact h.b
  | io => obtain ⟨p, rfl, _, h, _⟩ := h; exact h.b
theorem PostE.plain {H0 : Hp} {d : D} {nw : Bool} {v : V} (h : PostE K F σ H0 H ρ W d nw v) : RepD K (hid (W ++ F.Z) H) d v ∧ Rel K F σ H ρ W := by
  cases nw with
  | false => exact h
  | true =>
    obtain ⟨p, rfl, _, hp, hO, R⟩ := h
    refine ⟨hO.rep (hid_ne hp) (hid_same (fun b hb => .inl (List.mem_cons_of_mem _ hb)) fun b o _ e => e), R.same hid_sub⟩
variable (K F EX) in
def OkAs (σ : St) (H : Hp) (W : List Addr) (o : Option (ResA × Rho)) (Q : List V → Hp → Prop) : Prop := match o with
  | some (.ok ds, ρ') => ∀ vs H' W', Fr W H H' → (∀ p ∈ W', p ∈ W) → Rel K F σ H' ρ' W' → RepBs K H' (hid (W' ++ F.Z) H') ds vs → Q vs H'
  | some (.ex C, ρ') => ∀ H' W', Fr W H H' → (∀ p ∈ W', p ∈ W) → Rel K F σ H' ρ' W' → EX C σ H'
  | none => False
theorem as_ok : ∀ (as : List Arg) {H : Hp} {ρ : Rho} {W : List Addr} {Q : List V → Hp → Prop}, Rel K F σ H ρ W → OkAs K F EX σ H W (evA as ρ) Q → tAs K EX as σ H Q
  | [], H, ρ, W, Q, R, h => h [] H W .refl (fun _ z => z) R trivial
  | .ex f :: as, H, ρ, W, Q, R, h => by
    refine ⟨F, ρ, W, R, ?_⟩
    unfold evA at h
    revert h
    cases f ρ with
    | none => exact fun h => h
    | some r =>
      obtain ⟨r, ρ1⟩ := r
      cases r with
      | ex C => exact fun h => h
      | ok d nw =>
        intro h v H1 W1 fr sub post
        obtain ⟨rd, R1⟩ := post.plain
        refine as_ok as R1 ?_
        revert h
        dsimp only
        cases evA as ρ1 with
        | none => exact fun h => h
        | some q =>
          obtain ⟨q, ρ2⟩ := q
          cases q with
          | ex C => exact fun h H2 W2 fr2 sub2 R2 => h H2 W2 (fr.trans fr2 fun p hp => .inl (sub p hp)) (fun p hp => sub p (sub2 p hp)) R2
          | ok ds =>
            intro h vs H2 W2 fr2 sub2 R2 reps
            exact h (v :: vs) H2 W2 (fr.trans fr2 fun p hp => .inl (sub p hp)) (fun p hp => sub p (sub2 p hp)) R2 ⟨RepD.b ((fr2.hid fun p hp => .inl (sub2 p hp)).repD rd) hid_sub, reps⟩
  | .bor i :: as, H, ρ, W, Q, R, h => by
    unfold evA at h
    revert h
    cases e : ρ[i]? with
    | none => exact fun h => h.elim
    | some z =>
      cases z with
      | none => exact fun h => h.elim
      | some dm =>
        obtain ⟨d0, m0⟩ := dm
        obtain ⟨v, hv, _⟩ := R.slot i d0 m0 e
        intro h
        refine ⟨v, hv, as_ok as R ?_⟩
        revert h
        dsimp only
        cases evA as ρ with
        | none => exact fun h => h
        | some q =>
          obtain ⟨q, ρ2⟩ := q
          cases q with
          | ex C => exact fun h => h
          | ok ds =>
            dsimp only
            cases e2 : ρ2[i]? with
            | none => exact fun h => h.elim
            | some z =>
              cases z with
              | none => exact fun h => h.elim
              | some dm =>
                obtain ⟨d, m⟩ := dm
                intro h vs H2 W2 fr2 sub2 R2 reps
                obtain ⟨v2, hv2, ok2⟩ := R2.slot i d m e2
                rw [hv] at hv2
                cases hv2
                exact h (v :: vs) H2 W2 fr2 sub2 R2 ⟨ok2.b, reps⟩
variable (K F EX) in
def OkFs (σ : St) (H : Hp) (W : List Addr) (o : Option (ResA × Rho)) (Q : List V → Hp → Prop) : Prop := match o with
  | some (.ok ds, ρ') => ∀ vs H' W', Fr W H H' → (∀ p ∈ W', p ∈ W) → Rel K F σ H' ρ' W' → RepDs K (hid (W' ++ F.Z) H') ds vs → Q vs H'
  | some (.ex C, ρ') => ∀ H' W', Fr W H H' → (∀ p ∈ W', p ∈ W) → Rel K F σ H' ρ' W' → EX C σ H'
  | none => False
theorem fs_ok : ∀ (fs : List SE) {H : Hp} {ρ : Rho} {W : List Addr} {Q : List V → Hp → Prop}, Rel K F σ H ρ W → OkFs K F EX σ H W (evA (fs.map Arg.ex) ρ) Q → tAs K EX (fs.map Arg.ex) σ H Q
  | [], H, ρ, W, Q, R, h => h [] H W .refl (fun _ z => z) R trivial
  | f :: fs, H, ρ, W, Q, R, h => by
    refine ⟨F, ρ, W, R, ?_⟩
    rw [List.map_cons] at h
    unfold evA at h
    revert h
    cases f ρ with
    | none => exact fun h => h
    | some r =>
      obtain ⟨r, ρ1⟩ := r
      cases r with
      | ex C => exact fun h => h
      | ok d nw =>
        intro h v H1 W1 fr sub post
        obtain ⟨rd, R1⟩ := post.plain
        refine fs_ok fs R1 ?_
        revert h
        dsimp only
        cases evA (fs.map Arg.ex) ρ1 with
        | none => exact fun h => h
        | some q =>
          obtain ⟨q, ρ2⟩ := q
          cases q with
          | ex C => exact fun h H2 W2 fr2 sub2 R2 => h H2 W2 (fr.trans fr2 fun p hp => .inl (sub p hp)) (fun p hp => sub p (sub2 p hp)) R2
          | ok ds =>
            intro h vs H2 W2 fr2 sub2 R2 reps
            exact h (v :: vs) H2 W2 (fr.trans fr2 fun p hp => .inl (sub p hp)) (fun p hp => sub p (sub2 p hp)) R2 ⟨(fr2.hid fun p hp => .inl (sub2 p hp)).repD rd, reps⟩
end
def PostD (K : PySem.W.Frag) (H H' : Hp) (L : List Addr) (d : D) : Bool → V → Prop
  | false, v => RepD K (hid L H') d v
  | true, v => ∃ p, v = .ref p ∧ H p = none ∧ OwnAt K H' (hid (p :: L) H') p d
def OpS (K : PySem.W.Frag) (r : List V → Hp → VK → Prop) (g : List D → Option (D × Bool)) : Prop :=
  ∀ vs ds H L Q d nw, (∀ p ∈ L, MutO (H p)) → RepBs K H (hid L H) ds vs → g ds = some (d, nw) → (∀ v H', Same H H' → PostD K H H' L d nw v → Q v H') → r vs H Q
def sOp (g : List D → Option (D × Bool)) (as : List Arg) : SE := fun ρ => match evA as ρ with
  | some (.ok ds, ρ') => match g ds with
    | some (d, nw) => some (.ok d nw, ρ')
    | none => none
  | some (.ex C, ρ') => some (.ex C, ρ')
  | none => none
section
variable {K : PySem.W.Frag} {F : Fx} {EX : EXT} {σ : St} {H H' : Hp} {ρ ρ' : Rho} {W W' : List Addr} {Q : VK}
theorem PostD.e {d : D} {nw : Bool} {v : V} (h : PostD K H H' (W ++ F.Z) d nw v) (R : Rel K F σ H ρ W) (s : Same H H') : PostE K F σ H H' ρ W d nw v := by
  cases nw with
  | false => exact ⟨h, R.same s⟩
  | true =>
    obtain ⟨p, rfl, hp, hO⟩ := h
    refine ⟨p, rfl, hp, R.fresh hp, hO, R.same fun b o e => ?_⟩
    rw [hid_ne (by intro z; have z : b = p := by simpa using z
                   subst z; rw [hp] at e; cases e)]
    exact s b o e
theorem PostE.back {H0 : Hp} {d : D} {nw : Bool} {v : V} (h : PostE K F σ H H' ρ W d nw v) (fr : ∀ b, H b = none → H0 b = none) : PostE K F σ H0 H' ρ W d nw v := by
  cases nw with
  | false => exact h
  | true => obtain ⟨p, h1, h2, h3⟩ := h; exact ⟨p, h1, fr p h2, h3⟩
theorem op_args {r : List V → Hp → VK → Prop} {g : List D → Option (D × Bool)} {as : List Arg} (hs : OpS K r g) (R : Rel K F σ H ρ W) (h : OkV K F EX σ H W (sOp g as ρ) Q) : tAs K EX as σ H (fun vs H2 => r vs H2 Q) := by
  refine as_ok as R ?_
  unfold sOp at h
  revert h
  cases evA as ρ with
  | none => exact fun h => h
  | some q =>
    obtain ⟨q, ρ2⟩ := q
    cases q with
    | ex C => exact fun h => h
    | ok ds =>
      dsimp only
      cases e : g ds with
      | none => exact fun h => h.elim
      | some z =>
        obtain ⟨d, nw⟩ := z
        intro h vs H2 W2 fr2 sub2 R2 reps
        exact hs vs ds H2 (W2 ++ F.Z) Q d nw R2.mt reps e fun v H3 s3 post => h v H3 W2 (fr2.trans (s3.fr (W := W2)) fun p hp => .inl (sub2 p hp)) sub2 ((post.e R2 s3).back fr2.dom)
end
def r2 (r : R2) : List V → Hp → VK → Prop
  | [x, y], H, Q => r x y H Q
  | _, _, _ => False
section
variable {X : Cx} {EX : EXT} {a b e : Expr} {es : List Expr} {pos : Pos} {x y : Arg} {as : List Arg}
theorem ca_nil : JA X EX [] [] := ⟨pa_nil⟩
theorem ca_cons (h : JB X EX e x) (t : JA X EX es as) (hs : starEach (e :: es) X.env = (false, eval e X.env) :: starEach es X.env := by rfl) : JA X EX (e :: es) (x :: as) := ⟨pa_cons h.p t.p hs⟩
theorem cb_ex {f : SE} (h : JE X EX e f) : JB X EX e (.ex f) := ⟨h.p⟩
theorem cb_var {i : Nat} {n : Str} (hN : X.N[i]? = some n) (hv : Vis X.env.scope n) (hd : (n == ("__debug__" : Str)) = false := by decide) (hcd : (n == ("__classdict__" : Str)) = false := by decide) : JB X EX (.Name n pos) (.bor i) := ⟨pe_var hN hv hd hcd⟩
def sC (d : D) : SE := fun ρ => some (.ok d false, ρ)
theorem tC_ok {v : V} {d : D} (h : ∀ H, RepD X.K H d v) {σ : St} {H : Hp} {Q : VK} (hw : tV X.K EX (sC d) σ H Q) : tC v σ H Q := by
  obtain ⟨F, ρ, W, R, h2⟩ := hw
  exact h2 v H W .refl (fun _ z => z) ⟨h _, R⟩
theorem c_int {i : Int} {j pos} : JE X EX (.Constant (.int i) j pos) (sC (.int i)) := ⟨pe_int.by fun _ _ _ => tC_ok (d := (.int i)) (v := (.int i)) fun _ => rfl⟩
theorem c_bl {i : Bool} {j pos} : JE X EX (.Constant (.bool i) j pos) (sC (.bl i)) := ⟨pe_bl.by fun _ _ _ => tC_ok (d := (.bl i)) (v := (.bl i)) fun _ => rfl⟩
theorem c_str {i : Str} {j pos} : JE X EX (.Constant (.str i) j pos) (sC (.str i)) := ⟨pe_str.by fun _ _ _ => tC_ok (d := (.str i)) (v := (.str i)) fun _ => rfl⟩
def sVar (i : Nat) : SE := fun ρ => match ρ[i]? with
  | some (some (d, .fz)) => some (.ok d false, ρ)
  | some (some (d, .ow)) => some (.ok d false, ρ.set i (some (d, .fz)))
  | _ => none
theorem c_var {i : Nat} {n : Str} (hN : X.N[i]? = some n) (hv : Vis X.env.scope n) (hd : (n == ("__debug__" : Str)) = false := by decide) (hcd : (n == ("__classdict__" : Str)) = false := by decide) : JE X EX (.Name n pos) (sVar i) := by
  refine ⟨(pe_var hN hv hd hcd).by fun σ H Q hw => ?_⟩
  obtain ⟨F, ρ, W, R, h⟩ := hw
  unfold sVar at h
  revert h
  cases e : ρ[i]? with
  | none => exact fun h => h.elim
  | some z =>
    cases z with
    | none => exact fun h => h.elim
    | some z =>
      obtain ⟨d, m⟩ := z
      obtain ⟨v, hv, ok⟩ := R.slot i d m e
      cases m with
      | io => exact fun h => h.elim
      | fz => exact fun h => ⟨v, hv, h v H W .refl (fun _ z => z) ⟨ok, R⟩⟩
      | ow =>
        intro h
        obtain ⟨p, rfl, hp, hO⟩ := ok
        obtain ⟨R', rp⟩ := R.freeze e hv
        exact ⟨_, hv, h _ H _ .refl (fun q hq => (List.mem_filter.mp hq).1) ⟨rp, R'⟩⟩
theorem c_op {op : Operator} {r : R2} {g : List D → Option (D × Bool)} (ho : OpR X (binaryOp op) r) (hs : OpS X.K (r2 r) g) (ha : JB X EX a x) (hb : JB X EX b y) : JE X EX (.BinOp a op b pos) (sOp g [x, y]) :=
  ⟨(pe_op ho ha.p hb.p).by fun σ H Q ⟨F, ρ, W, R, h⟩ => op_args hs R h⟩
theorem c_cmp {op : CmpOp} {r : R2} {g : List D → Option (D × Bool)} (ho : OpR X (compareOp op) r) (hs : OpS X.K (r2 r) g) (ha : JB X EX a x) (hb : JB X EX b y) (hm : behindInMarks op b = false) : JE X EX (.Compare a [op] [b] pos) (sOp g [x, y]) :=
  ⟨(pe_cmpR ho ha.p hb.p hm).by fun σ H Q ⟨F, ρ, W, R, h⟩ => op_args hs R h⟩
theorem c_ix {r : R2} {g : List D → Option (D × Bool)} (ho : IxR X r) (hs : OpS X.K (r2 r) g) (ha : JB X EX a x) (hb : JB X EX b y) (hp : PlainIx b := by exact fun _ _ => rfl) : JE X EX (.Subscript a b pos) (sOp g [x, y]) :=
  ⟨(pe_ix ho ha.p hb.p hp).by fun σ H Q ⟨F, ρ, W, R, h⟩ => op_args hs R h⟩
theorem c_callB {id : String} {n : Str} {p : Pos} {r : List V → Hp → VK → Prop} {g : List D → Option (D × Bool)} (ho : CallR X (.builtin id) r) (hs : OpS X.K r g) (hg : Gl X n) (hm : X.mg n = none) (hv : bootBuiltins n = some (.builtin id)) (ha : JA X EX (e :: es) as) (hn : n ≠ "__name__" := by decide) (hdb : (n == ("__debug__" : Str)) = false := by decide)
    (he : starEach (e :: es) X.env = (false, eval e X.env) :: starEach es X.env := by rfl) (hpl : (backTo pos (starEach es X.env)).any (·.1) = false := by rfl) : JE X EX (.Call (.Name n p) (e :: es) [] pos) (sOp g as) :=
  ⟨(pe_callB ho hg hm hv ha.p hn hdb he hpl).by fun σ H Q ⟨F, ρ, W, R, h⟩ => op_args hs R h⟩
theorem c_callTy {T : String} {n : Str} {p : Pos} {r : List V → Hp → VK → Prop} {g : List D → Option (D × Bool)} (ho : CallR X (.type T) r) (hs : OpS X.K r g) (hg : Gl X n) (hm : X.mg n = none) (hv : bootBuiltins n = some (.type T)) (ha : JA X EX (e :: es) as) (hn : n ≠ "__name__" := by decide) (hdb : (n == ("__debug__" : Str)) = false := by decide)
    (he : starEach (e :: es) X.env = (false, eval e X.env) :: starEach es X.env := by rfl) (hpl : (backTo pos (starEach es X.env)).any (·.1) = false := by rfl) : JE X EX (.Call (.Name n p) (e :: es) [] pos) (sOp g as) :=
  ⟨(pe_callTy ho hg hm hv ha.p hn hdb he hpl).by fun σ H Q ⟨F, ρ, W, R, h⟩ => op_args hs R h⟩
def sTup (fs : List SE) : SE := fun ρ => match evA (fs.map Arg.ex) ρ with
  | some (.ok ds, ρ') => some (.ok (.tup ds) false, ρ')
  | some (.ex C, ρ') => some (.ex C, ρ')
  | none => none
def sLst (fs : List SE) : SE := fun ρ => match evA (fs.map Arg.ex) ρ with
  | some (.ok ds, ρ') => some (.ok (.lst ds) true, ρ')
  | some (.ex C, ρ') => some (.ex C, ρ')
  | none => none
inductive JF (X : Cx) (EX : EXT) : List Expr → List SE → Prop where
  | nil : JF X EX [] []
  | cons {e : Expr} {es : List Expr} {f : SE} {fs : List SE} (h : JE X EX e f) (t : JF X EX es fs) (hs : starEach (e :: es) X.env = (false, eval e X.env) :: starEach es X.env := by rfl) : JF X EX (e :: es) (f :: fs)
theorem JF.p {fs : List SE} (h : JF X EX es fs) : PA X es (tAs X.K EX (fs.map Arg.ex)) := by
  induction h with
  | nil => exact pa_nil
  | cons h t hs ih => exact pa_cons h.p ih hs
theorem evA_len : ∀ {fs : List SE} {ρ ρ' : Rho} {ds : List D}, evA (fs.map Arg.ex) ρ = some (.ok ds, ρ') → ds.length = fs.length
  | [], ρ, ρ', ds, h => by
    have h : some (ResA.ok [], ρ) = some (.ok ds, ρ') := h
    cases h; rfl
  | f :: fs, ρ, ρ', ds, h => by
    rw [List.map_cons] at h
    unfold evA at h
    revert h
    cases f ρ with
    | none => intro h; cases h
    | some r =>
      obtain ⟨r, ρ1⟩ := r
      cases r with
      | ex C => intro h; cases h
      | ok d nw =>
        dsimp only
        cases e : evA (fs.map Arg.ex) ρ1 with
        | none => intro h; cases h
        | some q =>
          obtain ⟨q, ρ2⟩ := q
          cases q with
          | ex C => intro h; cases h
          | ok ds2 => intro h; cases h; rw [List.length_cons, List.length_cons, evA_len e]
theorem c_tup {fs : List SE} {x1} (h : JF X EX es fs) (hl : fs.length ≤ 1000 := by decide) : JE X EX (.Tuple es x1 pos) (sTup fs) :=
  ⟨(pe_tup h.p).by fun σ H Q ⟨F, ρ, W, R, h⟩ => by
    refine fs_ok fs R ?_
    unfold sTup at h
    revert h
    cases e : evA (fs.map Arg.ex) ρ with
    | none => exact fun h => h
    | some q =>
      obtain ⟨q, ρ2⟩ := q
      cases q with
      | ex C => exact fun h => h
      | ok ds =>
        intro h vs H2 W2 fr2 sub2 R2 reps
        have lv : vs.length ≤ 1000 := by rw [← reps.len, evA_len e]; exact hl
        refine ⟨Nat.le_of_lt (small1000 lv), fun p hp => h _ _ W2 (fr2.trans ((Same.upd hp).fr (W := W2)) fun p hp => .inl (sub2 p hp)) sub2 ⟨⟨p, vs, rfl, ?_, ?_⟩, R2.same (Same.upd hp)⟩⟩
        · rw [hid_ne (R2.fresh hp)]; exact upd_same
        · exact (hid_same (fun b hb => .inl hb) fun b o _ e => Same.upd hp b o e : Same (hid (W2 ++ F.Z) H2) _).repDs reps⟩
theorem c_lst {fs : List SE} (h : JF X EX es fs) (hl : fs.length ≤ 1000 := by decide) : JE X EX (.List es pos) (sLst fs) :=
  ⟨(pe_lst h.p).by fun σ H Q ⟨F, ρ, W, R, h⟩ => by
    refine fs_ok fs R ?_
    unfold sLst at h
    revert h
    cases e : evA (fs.map Arg.ex) ρ with
    | none => exact fun h => h
    | some q =>
      obtain ⟨q, ρ2⟩ := q
      cases q with
      | ex C => exact fun h => h
      | ok ds =>
        intro h vs H2 W2 fr2 sub2 R2 reps
        have lv : vs.length ≤ 1000 := by rw [← reps.len, evA_len e]; exact hl
        refine ⟨Nat.le_of_lt (small1000 lv), fun p hp => h _ _ W2 (fr2.trans ((Same.upd hp).fr (W := W2)) fun p hp => .inl (sub2 p hp)) sub2 ?_⟩
        refine PostE.back (PostD.e (nw := true) ⟨p, rfl, hp, vs, upd_same, ?_⟩ R2 (Same.upd hp)) fr2.dom
        exact (hid_same (fun b hb => (List.mem_cons.mp hb).elim (fun z => .inr (by rw [z]; exact hp)) .inl) fun b o _ e => Same.upd hp b o e : Same (hid (W2 ++ F.Z) H2) _).repDs reps⟩
end
end L2
namespace L2
open PySem PySem.Spec PyProof.Rows
section
variable {K : PySem.W.Frag} {F : Fx} {EX : EXT} {σ : St} {H H1 : Hp} {ρ ρ' : Rho} {W W1 : List Addr} {Q : VK}
theorem OkV.go {o : Option (Res × Rho)} (h : OkV K F EX σ H W o Q) (fr : Fr W H H1) (sub : ∀ p ∈ W1, p ∈ W) : OkV K F EX σ H1 W1 o Q := by
  cases o with
  | none => exact h
  | some r =>
    obtain ⟨r, ρ1⟩ := r
    cases r with
    | ex C => exact fun H2 W2 f2 s2 R2 => h H2 W2 (fr.trans f2 fun p hp => .inl (sub p hp)) (fun p hp => sub p (s2 p hp)) R2
    | ok d nw => exact fun v H2 W2 f2 s2 P2 => h v H2 W2 (fr.trans f2 fun p hp => .inl (sub p hp)) (fun p hp => sub p (s2 p hp)) (P2.back fr.dom)
theorem OkT.go {o : Option (ResT × Rho)} {Q : Bool → Hp → Prop} (h : OkT K F EX σ H W o Q) (fr : Fr W H H1) (sub : ∀ p ∈ W1, p ∈ W) : OkT K F EX σ H1 W1 o Q := by
  cases o with
  | none => exact h
  | some r =>
    obtain ⟨r, ρ1⟩ := r
    cases r with
    | ex C => exact fun H2 W2 f2 s2 R2 => h H2 W2 (fr.trans f2 fun p hp => .inl (sub p hp)) (fun p hp => sub p (s2 p hp)) R2
    | ok d => exact fun H2 W2 f2 s2 P2 => h H2 W2 (fr.trans f2 fun p hp => .inl (sub p hp)) (fun p hp => sub p (s2 p hp)) P2
end
def sOpT (g : List D → Option (D × Bool)) (as : List Arg) : ST := fun ρ => match sOp g as ρ with
  | some (.ok (.bl b) _, ρ') => some (.ok b, ρ')
  | some (.ok _ _, _) => none
  | some (.ex C, ρ') => some (.ex C, ρ')
  | none => none
theorem bl_of {K : PySem.W.Frag} {F : Fx} {EX : EXT} {σ : St} {H : Hp} {ρ : Rho} {W : List Addr} {f : SE} {Q : Bool → Hp → Prop} (h : OkT K F EX σ H W (match f ρ with
  | some (.ok (.bl b) _, ρ') => some (.ok b, ρ')
  | some (.ok _ _, _) => none
  | some (.ex C, ρ') => some (.ex C, ρ')
  | none => none) Q) : OkV K F EX σ H W (f ρ) fun x H' => ∃ k, x = .bl k ∧ Q k H' := by
  revert h
  cases f ρ with
  | none => exact fun h => h
  | some r =>
    obtain ⟨r, ρ1⟩ := r
    cases r with
    | ex C => exact fun h => h
    | ok d nw =>
      cases d <;> first
        | exact fun h => h.elim
        | exact fun h v H' W' fr sub post => ⟨_, post.plain.1, h H' W' fr sub post.plain.2⟩
def sBl (f : SE) : ST := fun ρ => match f ρ with
  | some (.ok (.bl b) _, ρ') => some (.ok b, ρ')
  | some (.ok _ _, _) => none
  | some (.ex C, ρ') => some (.ex C, ρ')
  | none => none
def truD : D → Option Bool
  | .non => some false
  | .bl b => some b
  | .int i => some (i != 0)
  | .lst ds => some (!ds.isEmpty)
  | .tup ds => some (!ds.isEmpty)
  | .dK ks _ => some (!ks.isEmpty)
  | _ => none
def sTru (a : Arg) : ST := fun ρ => match evA [a] ρ with
  | some (.ok [d], ρ') => match truD d with
    | some b => some (.ok b, ρ')
    | none => none
  | some (.ok _, _) => none
  | some (.ex C, ρ') => some (.ex C, ρ')
  | none => none
def sAnd (f g : ST) : ST := fun ρ => match f ρ with
  | some (.ok true, ρ1) => g ρ1
  | some (.ok false, ρ1) => some (.ok false, ρ1)
  | some (.ex C, ρ') => some (.ex C, ρ')
  | none => none
def sOr (f g : ST) : ST := fun ρ => match f ρ with
  | some (.ok false, ρ1) => g ρ1
  | some (.ok true, ρ1) => some (.ok true, ρ1)
  | some (.ex C, ρ') => some (.ex C, ρ')
  | none => none
def sNot (f : ST) : ST := fun ρ => match f ρ with
  | some (.ok b, ρ1) => some (.ok (!b), ρ1)
  | some (.ex C, ρ') => some (.ex C, ρ')
  | none => none
def sIf (c : ST) (f g : SE) : SE := fun ρ => match c ρ with
  | some (.ok true, ρ1) => f ρ1
  | some (.ok false, ρ1) => g ρ1
  | some (.ex C, ρ') => some (.ex C, ρ')
  | none => none
def sAndV (f g : SE) : SE := fun ρ => match f ρ with
  | some (.ok (.bl true) _, ρ1) => g ρ1
  | some (.ok (.bl false) _, ρ1) => some (.ok (.bl false) false, ρ1)
  | some (.ok _ _, _) => none
  | some (.ex C, ρ') => some (.ex C, ρ')
  | none => none
def sOrV (f g : SE) : SE := fun ρ => match f ρ with
  | some (.ok (.bl false) _, ρ1) => g ρ1
  | some (.ok (.bl true) _, ρ1) => some (.ok (.bl true) false, ρ1)
  | some (.ok _ _, _) => none
  | some (.ex C, ρ') => some (.ex C, ρ')
  | none => none
def sNotV (f : SE) : SE := fun ρ => match f ρ with
  | some (.ok (.bl b) _, ρ1) => some (.ok (.bl (!b)) false, ρ1)
  | some (.ok _ _, _) => none
  | some (.ex C, ρ') => some (.ex C, ρ')
  | none => none
section
variable {X : Cx} {EX : EXT} {a b c e : Expr} {rest es : List Expr} {pos : Pos} {x y z : Arg} {as : List Arg}
theorem k_cmp {op : CmpOp} {r : R2} {g : List D → Option (D × Bool)} (ho : OpR X (compareOp op) r) (hs : OpS X.K (r2 r) g) (ha : JB X EX a x) (hb : JB X EX b y) (hm : behindInMarks op b = false) : JT X EX (.Compare a [op] [b] pos) (sOpT g [x, y]) :=
  ⟨(pt_cmpR ho ha.p hb.p hm).by fun σ H Q ⟨F, ρ, W, R, h⟩ => op_args hs R (bl_of h)⟩
theorem tru_of {K : PySem.W.Frag} {H Hh : Hp} {d : D} {v : V} {k : Bool} (r : RepB K H Hh d v) (s : Same Hh H) (e : truD d = some k) : TruV K v H k := by
  cases d <;> simp only [truD] at e <;> first
    | cases e; done
    | (cases e; cases r; first | rfl | trivial)
    | skip
  · obtain ⟨p, xs, rfl, h1, h2⟩ := r
    cases e
    exact .inr (.inl ⟨xs, .inl (.inl (s _ _ h1)), by have := h2.len; cases xs <;> cases ‹List D› <;> simp_all⟩)
  · obtain ⟨p, xs, rfl, h1, h2⟩ := r
    cases e
    exact .inl ⟨xs, .inl (.inl h1), by have := h2.len; cases xs <;> cases ‹List D› <;> simp_all⟩
  · obtain ⟨p, xs, rfl, h1, h2, h3⟩ := r
    cases e
    refine .inr (.inr ⟨_, h1, ?_⟩)
    rename_i ks vs
    cases ks <;> cases xs <;> simp_all
theorem k_tru (ha : JB X EX e x) (he : ∀ whole, isTrue e X.env whole = (do let v ← whole; standAt e.pos; holding [v] (truthy v)) := by intro _; rfl) : JT X EX e (sTru x) :=
  ⟨(pt_truth ha.p he).by fun σ H Q ⟨F, ρ, W, R, h⟩ => by
    have z : tAs X.K EX [x] σ H (fun vs H2 => match vs with | [v] => ∃ k, TruV X.K v H2 k ∧ Q k H2 | _ => False) := by
      refine as_ok [x] R ?_
      unfold sTru at h
      revert h
      cases evA [x] ρ with
      | none => exact fun h => h
      | some q =>
        obtain ⟨q, ρ2⟩ := q
        cases q with
        | ex C => exact fun h => h
        | ok ds =>
          match ds with
          | [] => exact fun h => h.elim
          | _ :: _ :: _ => exact fun h => h.elim
          | [d] =>
            dsimp only
            cases e : truD d with
            | none => exact fun h => h.elim
            | some k =>
              intro h vs H2 W2 fr2 sub2 R2 reps
              match vs, reps with
              | [v], reps => exact ⟨k, tru_of reps.1 hid_sub e, h H2 W2 fr2 sub2 R2⟩
    exact z⟩
theorem JW.t {f : ST} (h : JW X EX e f) : JT X EX e f := ⟨h.p.pt⟩
theorem w_and1 {f : ST} (h : JT X EX a f) : JW X EX (.BoolOp .And [a] pos) f := ⟨pw_and1 h.p⟩
theorem w_or1 {f : ST} (h : JT X EX a f) : JW X EX (.BoolOp .Or [a] pos) f := ⟨pw_or1 h.p⟩
theorem w_and {f g : ST} (ha : JT X EX a f) (hb : JW X EX (.BoolOp .And (b :: rest) pos) g) : JW X EX (.BoolOp .And (a :: b :: rest) pos) (sAnd f g) :=
  ⟨fun wh pins s σ H Q I ⟨F, ρ, W, R, h⟩ => pw_and ha.p hb.p wh pins s σ H Q I ⟨F, ρ, W, R, by
    unfold sAnd at h
    revert h
    cases f ρ with
    | none => exact fun h => h
    | some q =>
      obtain ⟨q, ρ2⟩ := q
      cases q with
      | ex C => exact fun h => h
      | ok k =>
        cases k with
        | true => exact fun h H2 W2 fr2 sub2 R2 => ⟨F, ρ2, W2, R2, OkT.go h fr2 sub2⟩
        | false => exact fun h => h⟩⟩
theorem w_or {f g : ST} (ha : JT X EX a f) (hb : JW X EX (.BoolOp .Or (b :: rest) pos) g) : JW X EX (.BoolOp .Or (a :: b :: rest) pos) (sOr f g) :=
  ⟨fun wh pins s σ H Q I ⟨F, ρ, W, R, h⟩ => pw_or ha.p hb.p wh pins s σ H Q I ⟨F, ρ, W, R, by
    unfold sOr at h
    revert h
    cases f ρ with
    | none => exact fun h => h
    | some q =>
      obtain ⟨q, ρ2⟩ := q
      cases q with
      | ex C => exact fun h => h
      | ok k =>
        cases k with
        | false => exact fun h H2 W2 fr2 sub2 R2 => ⟨F, ρ2, W2, R2, OkT.go h fr2 sub2⟩
        | true => exact fun h => h⟩⟩
theorem k_not {f : ST} (h : JT X EX a f) : JT X EX (.UnaryOp .Not a pos) (sNot f) :=
  ⟨(pt_not h.p).by fun σ H Q ⟨F, ρ, W, R, h⟩ => ⟨F, ρ, W, R, by
    unfold sNot at h
    revert h
    cases f ρ with
    | none => exact fun h => h
    | some q =>
      obtain ⟨q, ρ2⟩ := q
      cases q with
      | ex C => exact fun h => h
      | ok k => exact fun h => h⟩⟩
theorem c_one {op} {f : SE} (h : JE X EX a f) : JE X EX (.BoolOp op [a] pos) f := ⟨pe_one h.p⟩
theorem c_and {f g : SE} (ha : JE X EX a f) (hb : JE X EX (.BoolOp .And (b :: rest) pos) g) : JE X EX (.BoolOp .And (a :: b :: rest) pos) (sAndV f g) :=
  ⟨(pe_and ha.p hb.p).by fun σ H Q ⟨F, ρ, W, R, h⟩ => ⟨F, ρ, W, R, by
    unfold sAndV at h
    revert h
    cases f ρ with
    | none => exact fun h => h
    | some q =>
      obtain ⟨q, ρ2⟩ := q
      cases q with
      | ex C => exact fun h => h
      | ok d nw =>
        cases d <;> first | exact fun h => h.elim | skip
        rename_i k
        cases k with
        | true => exact fun h v H2 W2 fr2 sub2 P2 => ⟨true, P2.plain.1, F, ρ2, W2, P2.plain.2, OkV.go h fr2 sub2⟩
        | false => exact fun h v H2 W2 fr2 sub2 P2 => ⟨false, P2.plain.1, h (.bl false) H2 W2 fr2 sub2 ⟨rfl, P2.plain.2⟩⟩⟩⟩
theorem c_or {f g : SE} (ha : JE X EX a f) (hb : JE X EX (.BoolOp .Or (b :: rest) pos) g) : JE X EX (.BoolOp .Or (a :: b :: rest) pos) (sOrV f g) :=
  ⟨(pe_or ha.p hb.p).by fun σ H Q ⟨F, ρ, W, R, h⟩ => ⟨F, ρ, W, R, by
    unfold sOrV at h
    revert h
    cases f ρ with
    | none => exact fun h => h
    | some q =>
      obtain ⟨q, ρ2⟩ := q
      cases q with
      | ex C => exact fun h => h
      | ok d nw =>
        cases d <;> first | exact fun h => h.elim | skip
        rename_i k
        cases k with
        | false => exact fun h v H2 W2 fr2 sub2 P2 => ⟨false, P2.plain.1, F, ρ2, W2, P2.plain.2, OkV.go h fr2 sub2⟩
        | true => exact fun h v H2 W2 fr2 sub2 P2 => ⟨true, P2.plain.1, h (.bl true) H2 W2 fr2 sub2 ⟨rfl, P2.plain.2⟩⟩⟩⟩
theorem c_not {f : SE} (ha : JE X EX a f) : JE X EX (.UnaryOp .Not a pos) (sNotV f) :=
  ⟨(pe_not ha.p).by fun σ H Q ⟨F, ρ, W, R, h⟩ => ⟨F, ρ, W, R, by
    unfold sNotV at h
    revert h
    cases f ρ with
    | none => exact fun h => h
    | some q =>
      obtain ⟨q, ρ2⟩ := q
      cases q with
      | ex C => exact fun h => h
      | ok d nw =>
        cases d <;> first | exact fun h => h.elim | skip
        exact fun h v H2 W2 fr2 sub2 P2 => ⟨_, P2.plain.1, h _ H2 W2 fr2 sub2 ⟨rfl, P2.plain.2⟩⟩⟩⟩
abbrev RSl := V → Option Int → Option Int → Hp → VK → Prop
def rS10 (r : RSl) : List V → Hp → VK → Prop
  | [x, y], H, Q => ∃ i, y = .int i ∧ r x (some i) none H Q
  | _, _, _ => False
def rS01 (r : RSl) : List V → Hp → VK → Prop
  | [x, y], H, Q => ∃ i, y = .int i ∧ r x none (some i) H Q
  | _, _, _ => False
theorem c_sl10 {p2 : Pos} {r : RSl} {g : List D → Option (D × Bool)} (ho : SlR X r) (hs : OpS X.K (rS10 r) g) (ha : JB X EX a x) (hb : JB X EX b y) : JE X EX (.Subscript a (.Slice (some b) none none p2) pos) (sOp g [x, y]) :=
  ⟨(pe_slice ho ha.p (po_some hb.p) po_none).by fun σ H Q ⟨F, ρ, W, R, h⟩ => op_args hs R h⟩
theorem c_sl01 {p2 : Pos} {r : RSl} {g : List D → Option (D × Bool)} (ho : SlR X r) (hs : OpS X.K (rS01 r) g) (ha : JB X EX a x) (hb : JB X EX b y) : JE X EX (.Subscript a (.Slice none (some b) none p2) pos) (sOp g [x, y]) :=
  ⟨(pe_slice ho ha.p po_none (po_some hb.p)).by fun σ H Q ⟨F, ρ, W, R, h⟩ => op_args hs R h⟩
end
end L2
namespace L2
open PySem PySem.Spec PyProof.Rows
theorem PS.by {X : Cx} {e : Stmt} {t t' : TS} (h : PS X e t) (hi : ∀ D σ H, t' D σ H → t D σ H) : PS X e t' := fun pins s σ H D I hw => h pins s σ H D I (hi D σ H hw)
theorem PSs.by {X : Cx} {e : List Stmt} {t t' : TS} (h : PSs X e t) (hi : ∀ D σ H, t' D σ H → t D σ H) : PSs X e t' := fun pins s σ H D I hw => h pins s σ H D I (hi D σ H hw)
inductive Out where
  | nx | rt (d : D) (nw : Bool) | ex (C : Str) | bk | ct
abbrev SS := Rho → Option (Out × Rho)
section
variable (K : PySem.W.Frag) (F : Fx) (EX : EXT) (σ : St) (H : Hp) (W : List Addr)
def PostR (σ' : St) (H' : Hp) (ρ' : Rho) (W' : List Addr) (d : D) : Bool → V → Prop
  | false, v => RepD K (hid (W' ++ F.Z) H') d v ∧ Rel K F σ' H' ρ' W'
  | true, v => ∃ p, v = .ref p ∧ (p ∈ W ∨ H p = none) ∧ p ∉ W' ++ F.Z ∧ OwnAt K H' (hid (p :: (W' ++ F.Z)) H') p d ∧ Rel K F σ' (hid [p] H') ρ' W'
def OkS (o : Option (Out × Rho)) (D : Ends) : Prop := match o with
  | some (.nx, ρ') => ∀ σ' H' W', Fr W H H' → (∀ p ∈ W', p ∈ W ∨ H p = none) → Rel K F σ' H' ρ' W' → D.nx σ' H'
  | some (.bk, ρ') => ∀ σ' H' W', Fr W H H' → (∀ p ∈ W', p ∈ W ∨ H p = none) → Rel K F σ' H' ρ' W' → D.bk σ' H'
  | some (.ct, ρ') => ∀ σ' H' W', Fr W H H' → (∀ p ∈ W', p ∈ W ∨ H p = none) → Rel K F σ' H' ρ' W' → D.ct σ' H'
  | some (.ex C, ρ') => ∀ σ' H' W', Fr W H H' → (∀ p ∈ W', p ∈ W ∨ H p = none) → Rel K F σ' H' ρ' W' → EX C σ' H'
  | some (.rt d nw, ρ') => ∀ σ' v H' W', Fr W H H' → (∀ p ∈ W', p ∈ W ∨ H p = none) → PostR K F H W σ' H' ρ' W' d nw v → D.rt v H'
  | none => False
end
def tVS (K : PySem.W.Frag) (EX : EXT) (f : SS) : TS := fun D σ H => ∃ F ρ W, Rel K F σ H ρ W ∧ OkS K F EX H W (f ρ) D
structure JS (X : Cx) (EX : EXT) (e : Stmt) (f : SS) : Prop where
  p : PS X e (tVS X.K EX f)
structure JSs (X : Cx) (EX : EXT) (e : List Stmt) (f : SS) : Prop where
  p : PSs X e (tVS X.K EX f)
section
variable {K : PySem.W.Frag} {F : Fx} {EX : EXT} {σ σ1 : St} {H H1 : Hp} {ρ ρ' : Rho} {W W1 : List Addr} {D : Ends}
theorem PostR.back {σ' : St} {H' : Hp} {ρ' : Rho} {W' : List Addr} {d : L2.D} {nw : Bool} {v : V} (h : PostR K F H1 W1 σ' H' ρ' W' d nw v) (fr : ∀ b, H1 b = none → H b = none) (sub : ∀ p ∈ W1, p ∈ W ∨ H p = none) : PostR K F H W σ' H' ρ' W' d nw v := by
  cases nw with
  | false => exact h
  | true => obtain ⟨p, h1, h2, h3⟩ := h; exact ⟨p, h1, h2.elim (sub p) fun z => .inr (fr p z), h3⟩
theorem OkS.go {o : Option (Out × Rho)} (h : OkS K F EX H W o D) (fr : Fr W H H1) (sub : ∀ p ∈ W1, p ∈ W ∨ H p = none) : OkS K F EX H1 W1 o D := by
  have sub2 : ∀ {W2 : List Addr}, (∀ p ∈ W2, p ∈ W1 ∨ H1 p = none) → ∀ p ∈ W2, p ∈ W ∨ H p = none := fun {W2} s2 p hp => (s2 p hp).elim (sub p) fun z => .inr (fr.dom p z)
  cases o with
  | none => exact h
  | some r =>
    obtain ⟨r, ρ1⟩ := r
    cases r with
    | ex C => exact fun σ2 H2 W2 f2 s2 R2 => h σ2 H2 W2 (fr.trans f2 sub) (sub2 s2) R2
    | nx => exact fun σ2 H2 W2 f2 s2 R2 => h σ2 H2 W2 (fr.trans f2 sub) (sub2 s2) R2
    | bk => exact fun σ2 H2 W2 f2 s2 R2 => h σ2 H2 W2 (fr.trans f2 sub) (sub2 s2) R2
    | ct => exact fun σ2 H2 W2 f2 s2 R2 => h σ2 H2 W2 (fr.trans f2 sub) (sub2 s2) R2
    | rt d nw => exact fun σ2 v H2 W2 f2 s2 P2 => h σ2 v H2 W2 (fr.trans f2 sub) (sub2 s2) (P2.back fr.dom sub)
theorem PostE.r {H' : Hp} {ρ' : Rho} {W' : List Addr} {d : L2.D} {nw : Bool} {v : V} (h : PostE K F σ H H' ρ' W' d nw v) : PostR K F H W σ H' ρ' W' d nw v := by
  cases nw with
  | false => exact h
  | true => obtain ⟨p, h1, h2, h3⟩ := h; exact ⟨p, h1, .inr h2, h3⟩
end
def sNil : SS := fun ρ => some (.nx, ρ)
def sSeq (f g : SS) : SS := fun ρ => match f ρ with
  | some (.nx, ρ1) => g ρ1
  | r => r
def sSet (i : Nat) (f : SE) : SS := fun ρ => match f ρ with
  | some (.ok d nw, ρ') => match ρ'[i]? with
    | some _ => some (.nx, ρ'.set i (some (d, if nw then .ow else .fz)))
    | none => none
  | some (.ex C, ρ') => some (.ex C, ρ')
  | none => none
def sRet (f : SE) : SS := fun ρ => match f ρ with
  | some (.ok d nw, ρ') => some (.rt d nw, ρ')
  | some (.ex C, ρ') => some (.ex C, ρ')
  | none => none
def sRetN : SS := fun ρ => some (.rt .non false, ρ)
def sExpr (f : SE) : SS := fun ρ => match f ρ with
  | some (.ok _ _, ρ') => some (.nx, ρ')
  | some (.ex C, ρ') => some (.ex C, ρ')
  | none => none
def sIfS (c : ST) (f g : SS) : SS := fun ρ => match c ρ with
  | some (.ok true, ρ1) => f ρ1
  | some (.ok false, ρ1) => g ρ1
  | some (.ex C, ρ') => some (.ex C, ρ')
  | none => none
def sRetV (i : Nat) : SS := fun ρ => match ρ[i]? with
  | some (some (d, .fz)) => some (.rt d false, ρ)
  | some (some (d, .ow)) => some (.rt d true, ρ.set i none)
  | _ => none
theorem Rel.move {K : PySem.W.Frag} {F : Fx} {σ : St} {H : Hp} {ρ : Rho} {W : List Addr} (R : Rel K F σ H ρ W) {i : Nat} {d : D} {p : Addr} (h : ρ[i]? = some (some (d, .ow))) (hp : σ[i]? = some (some (.ref p))) :
    Rel K F σ (hid [p] H) (ρ.set i none) (W.filter fun a => decide (a ≠ p)) ∧ p ∈ W ∧ p ∉ (W.filter fun a => decide (a ≠ p)) ++ F.Z ∧ OwnAt K H (hid (p :: ((W.filter fun a => decide (a ≠ p)) ++ F.Z)) H) p d := by
  obtain ⟨v, hv, q, rfl, hq, hO⟩ := R.slot i d .ow h
  rw [hp] at hv
  cases hv
  have sub : ∀ b, b ∈ W.filter (fun a => decide (a ≠ p)) → b ∈ W ∧ b ≠ p := fun b hb => by
    have := List.mem_filter.mp hb
    exact ⟨this.1, of_decide_eq_true this.2⟩
  have pn : p ∉ (W.filter fun a => decide (a ≠ p)) ++ F.Z := fun z => by
    rcases List.mem_append.mp z with q | q
    · exact (sub p q).2 rfl
    · exact R.wz p hq q
  have sh : Same (hid (W ++ F.Z) H) (hid ((W.filter fun a => decide (a ≠ p)) ++ F.Z) (hid [p] H)) := fun b o e => by
    obtain ⟨h1, h2⟩ := hid_some e
    have bp : b ≠ p := fun z => h1 (List.mem_append_left _ (z ▸ hq))
    rw [hid_ne (fun z => h1 (by
      rcases List.mem_append.mp z with q | q
      · exact List.mem_append_left _ (sub b q).1
      · exact List.mem_append_right _ q)), hid_ne (by simpa using bp)]
    exact h2
  have sh2 : Same (hid (W ++ F.Z) H) (hid (p :: ((W.filter fun a => decide (a ≠ p)) ++ F.Z)) H) := fun b o e => by
    obtain ⟨h1, h2⟩ := hid_some e
    have bp : b ≠ p := fun z => h1 (List.mem_append_left _ (z ▸ hq))
    rw [hid_ne (fun z => by
      rcases List.mem_cons.mp z with q | q
      · exact bp q
      · rcases List.mem_append.mp q with q | q
        · exact h1 (List.mem_append_left _ (sub b q).1)
        · exact h1 (List.mem_append_right _ q))]
    exact h2
  have neq : ∀ r, r ≠ p → hid [p] H r = H r := fun r hr => hid_ne (by simpa using hr)
  refine ⟨⟨fun j e m hj => ?_, fun j k e f m n r h1 h2 h3 h4 h5 h6 => ?_, fun r hr => R.wz r (sub r hr).1, fun r hr => ?_, by rw [List.length_set]; exact R.len⟩, hq, pn, hO.at rfl sh2⟩
  · rcases set_get hj with ⟨rfl, e1⟩ | ⟨ne, e1⟩
    · cases e1
    · obtain ⟨v, g1, g2⟩ := R.slot j e m e1
      refine ⟨v, g1, ?_⟩
      have other : ∀ r, v = .ref r → m ≠ .fz → r ≠ p := fun r er hm z => by
        subst er z
        exact ne (R.apart j i _ _ _ _ _ e1 hm h (by decide) g1 hp)
      cases m with
      | fz => exact sh.repD g2
      | ow => obtain ⟨r, e2, e3, e4⟩ := g2; exact ⟨r, e2, List.mem_filter.mpr ⟨e3, decide_eq_true (other r e2 (by decide))⟩, e4.at (neq r (other r e2 (by decide))) sh⟩
      | io => obtain ⟨r, e2, e3, e4, e5⟩ := g2; exact ⟨r, e2, List.mem_filter.mpr ⟨e3, decide_eq_true (other r e2 (by decide))⟩, e4.at (neq r (other r e2 (by decide))) sh, e5⟩
  · rcases set_get h1 with ⟨rfl, z⟩ | ⟨_, z⟩
    · cases z
    · rcases set_get h3 with ⟨rfl, z'⟩ | ⟨_, z'⟩
      · cases z'
      · exact R.apart j k _ _ _ _ _ z h2 z' h4 h5 h6
  · have rp : r ≠ p := fun z => by subst z; exact pn hr
    rw [neq r rp]
    rcases List.mem_append.mp hr with q | q
    · exact R.mt r (List.mem_append_left _ (sub r q).1)
    · exact R.mt r (List.mem_append_right _ q)
inductive Tg where
  | nm (i : Nat) | tp (ts : List Tg)
mutual
def asgT : Tg → D → Rho → Option Rho
  | .nm i, d, ρ => match ρ[i]? with
    | some _ => some (ρ.set i (some (d, .fz)))
    | none => none
  | .tp ts, .tup ds, ρ => asgTs ts ds ρ
  | .tp ts, .ktup ds, ρ => asgTs ts ds ρ
  | .tp _, _, _ => none
def asgTs : List Tg → List D → Rho → Option Rho
  | [], [], ρ => some ρ
  | t :: ts, d :: ds, ρ => match asgT t d ρ with
    | some ρ1 => asgTs ts ds ρ1
    | none => none
  | _, _, _ => none
end
mutual
def gT (K : PySem.W.Frag) : Tg → TG
  | .nm i => gName i
  | .tp ts => gTup K ts.length (gTs K ts)
def gTs (K : PySem.W.Frag) : List Tg → TGs
  | [] => gNil
  | t :: ts => gCons (gT K t) (gTs K ts)
end
mutual
def Tg.ge (n : Nat) : Tg → Bool
  | .nm i => decide (n ≤ i)
  | .tp ts => Tg.geL n ts
def Tg.geL (n : Nat) : List Tg → Bool
  | [] => true
  | t :: ts => Tg.ge n t && Tg.geL n ts
end
section
variable {K : PySem.W.Frag} {F : Fx} {EX : EXT} {H : Hp} {W : List Addr} {Q : St → Hp → Prop} {n : Nat}
theorem ktup_sq {H : Hp} {p : Addr} {xs : List V} (h : SqT K (fun _ => none) p xs) : SqT K H p xs := by
  rcases h with (h | ⟨o, h⟩) | h
  · cases h
  · cases h
  · exact .inr h
theorem asgTs_len : ∀ {ts : List Tg} {ds : List D} {ρ ρ' : Rho}, asgTs ts ds ρ = some ρ' → ds.length = ts.length
  | [], [], _, _, _ => rfl
  | [], _ :: _, _, _, h => by unfold asgTs at h; cases h
  | _ :: _, [], _, _, h => by unfold asgTs at h; cases h
  | t :: ts, d :: ds, ρ, ρ', h => by
    unfold asgTs at h
    cases e : asgT t d ρ with
    | none => rw [e] at h; cases h
    | some ρ1 => rw [e] at h; rw [List.length_cons, List.length_cons, asgTs_len h]
mutual
theorem gT_ok : ∀ (T : Tg) {d : D} {v : V} {σ : St} {ρ ρ' : Rho} {Q : St → Hp → Prop}, Rel K F σ H ρ W → RepD K (hid (W ++ F.Z) H) d v → asgT T d ρ = some ρ' → (∀ σ', (Tg.ge n T = true → σ'.take n = σ.take n) → Rel K F σ' H ρ' W → Q σ' H) → gT K T v σ H Q
  | .nm i, d, v, σ, ρ, ρ', Q, R, r, e, q => by
    unfold asgT at e
    unfold gT
    cases h : ρ[i]? with
    | none => rw [h] at e; cases e
    | some z =>
      rw [h] at e
      cases e
      have hi : i < σ.length := by rw [R.len]; exact (List.getElem?_eq_some_iff.mp h).1
      refine q _ (fun hg => ?_) (R.put hi r)
      unfold Tg.ge at hg
      exact List.take_set_of_le (of_decide_eq_true hg)
  | .tp ts, d, v, σ, ρ, ρ', Q, R, r, e, q => by
    unfold gT
    have two : ∀ ds p xs, v = .ref p → SqT K H p xs → RepDs K (hid (W ++ F.Z) H) ds xs → asgTs ts ds ρ = some ρ' → gTup K ts.length (gTs K ts) v σ H Q := fun ds p xs e1 e2 e3 e4 =>
      ⟨p, xs, e1, e2, by rw [← e3.len]; exact asgTs_len e4, gTs_ok ts R e3 e4 fun σ' h1 h2 => q σ' (fun hg => h1 (by unfold Tg.ge at hg; exact hg)) h2⟩
    cases d <;> first
      | (unfold asgT at e; cases e; done)
      | (obtain ⟨p, xs, e1, e2, e3⟩ := r; unfold asgT at e; exact two _ p xs e1 (.inl (.inl (hid_some e2).2)) e3 e)
      | (obtain ⟨p, xs, e1, e2, e3⟩ := r; unfold asgT at e; exact two _ p xs e1 (ktup_sq e2) e3 e)
theorem gTs_ok : ∀ (ts : List Tg) {ds : List D} {vs : List V} {σ : St} {ρ ρ' : Rho} {Q : St → Hp → Prop}, Rel K F σ H ρ W → RepDs K (hid (W ++ F.Z) H) ds vs → asgTs ts ds ρ = some ρ' → (∀ σ', (Tg.geL n ts = true → σ'.take n = σ.take n) → Rel K F σ' H ρ' W → Q σ' H) → gTs K ts vs σ H Q
  | [], ds, vs, σ, ρ, ρ', Q, R, r, e, q => by
    unfold gTs
    cases ds with
    | cons _ _ => unfold asgTs at e; cases e
    | nil =>
      unfold asgTs at e
      cases e
      cases vs with
      | cons _ _ => exact r.elim
      | nil => exact ⟨rfl, q σ (fun _ => rfl) R⟩
  | t :: ts, ds, vs, σ, ρ, ρ', Q, R, r, e, q => by
    unfold gTs
    cases ds with
    | nil => unfold asgTs at e; cases e
    | cons d ds =>
      cases vs with
      | nil => exact r.elim
      | cons v vs =>
        unfold asgTs at e
        cases h : asgT t d ρ with
        | none => rw [h] at e; cases e
        | some ρ1 =>
          rw [h] at e
          refine ⟨v, vs, rfl, gT_ok t R r.1 h fun σ1 h1 R1 => gTs_ok ts R1 r.2 e fun σ2 h2 R2 => q σ2 (fun hg => ?_) R2⟩
          unfold Tg.geL at hg
          have := (Bool.and_eq_true _ _).mp hg
          exact (h2 this.2).trans (h1 this.1)
end
end
structure JG (X : Cx) (e : Expr) (T : Tg) : Prop where
  p : PG X e (gT X.K T)
structure JGs (X : Cx) (es : List Expr) (ts : List Tg) : Prop where
  p : PGs X es (gTs X.K ts)
def sAsg (T : Tg) (f : SE) : SS := fun ρ => match f ρ with
  | some (.ok d _, ρ') => match asgT T d ρ' with
    | some ρ2 => some (.nx, ρ2)
    | none => none
  | some (.ex C, ρ') => some (.ex C, ρ')
  | none => none
def sAug (i : Nat) (op : Int → Int → Int) (f : SE) : SS := fun ρ => match ρ[i]? with
  | some (some (.int a, .fz)) => match f ρ with
    | some (.ok (.int b) _, ρ') => match ρ'[i]? with
      | some _ => some (.nx, ρ'.set i (some (.int (op a b), .fz)))
      | none => none
    | some (.ok _ _, _) => none
    | some (.ex C, ρ') => some (.ex C, ρ')
    | none => none
  | _ => none
section
variable {X : Cx} {EX : EXT} {a b c e : Expr} {es : List Expr} {st : Stmt} {rest : List Stmt} {pos : Pos}
theorem s_nil : JSs X EX [] sNil := ⟨pss_nil.by fun D σ H ⟨F, ρ, W, R, h⟩ => h σ H W .refl (fun _ z => .inl z) R⟩
theorem s_cons {f g : SS} (h1 : JS X EX st f) (h2 : JSs X EX rest g) : JSs X EX (st :: rest) (sSeq f g) :=
  ⟨(pss_cons h1.p h2.p).by fun D σ H ⟨F, ρ, W, R, h⟩ => ⟨F, ρ, W, R, by
    unfold sSeq at h
    revert h
    cases f ρ with
    | none => exact fun h => h
    | some q =>
      obtain ⟨q, ρ2⟩ := q
      cases q with
      | nx => exact fun h σ2 H2 W2 fr2 sub2 R2 => ⟨F, ρ2, W2, R2, OkS.go h fr2 sub2⟩
      | _ => exact fun h => h⟩⟩
theorem s_one {f : SS} (h : JS X EX st f) : JSs X EX [st] f := ⟨pss_one h.p⟩
theorem set_ok {K : PySem.W.Frag} {F : Fx} {σ : St} {H H' : Hp} {ρ' : Rho} {W' : List Addr} {d : D} {nw : Bool} {v : V} {i : Nat} (P : PostE K F σ H H' ρ' W' d nw v) (hi : i < ρ'.length) :
    ∃ W2, (∀ p ∈ W2, p ∈ W' ∨ H p = none) ∧ Rel K F (σ.set i (some v)) H' (ρ'.set i (some (d, if nw then .ow else .fz))) W2 := by
  cases nw with
  | false => exact ⟨W', fun p hp => .inl hp, P.2.put (by rw [P.2.len]; exact hi) P.1⟩
  | true =>
    obtain ⟨p, rfl, hp, hn, hO, R⟩ := P
    exact ⟨p :: W', fun q hq => (List.mem_cons.mp hq).elim (fun z => .inr (by rw [z]; exact hp)) .inl, R.own (by rw [R.len]; exact hi) hn hO⟩
theorem asg_of {i : Nat} {f : SE} {D : Ends} {σ : St} {H : Hp} (h : tVS X.K EX (sSet i f) D σ H) : tV X.K EX f σ H fun x H1 => D.nx (σ.set i (some x)) H1 := by
  obtain ⟨F, ρ, W, R, h⟩ := h
  refine ⟨F, ρ, W, R, ?_⟩
  unfold sSet at h
  revert h
  cases f ρ with
  | none => exact fun h => h
  | some q =>
    obtain ⟨q, ρ2⟩ := q
    cases q with
    | ex C => exact fun h H2 W2 fr2 sub2 R2 => h σ H2 W2 fr2 (fun p hp => .inl (sub2 p hp)) R2
    | ok d nw =>
      dsimp only
      cases e : ρ2[i]? with
      | none => exact fun h => h.elim
      | some z =>
        intro h v H2 W2 fr2 sub2 P2
        obtain ⟨W3, s3, R3⟩ := set_ok P2 (List.getElem?_eq_some_iff.mp e).1
        exact h _ H2 W3 fr2 (fun p hp => (s3 p hp).imp (sub2 p) id) R3
theorem s_set {i : Nat} {x : Str} {f : SE} {pos' : Pos} (hN : X.N.Nodup) (hi : X.N[i]? = some x) (hx : Loc X.env.scope x) (he : JE X EX e f) (hs : swapsWith e (some (.Name x pos')) pos.line X.env = pure false := by rfl) (hf : X.fn x = true ∨ X.env.scope.names.lookup x = some .local := by first | exact .inl rfl | exact .inr rfl | assumption) :
    JS X EX (.Assign [.Name x pos'] e pos) (sSet i f) := ⟨(ps_set hN hi hx he.p hs hf).by fun D σ H h => asg_of h⟩
theorem g_name {i : Nat} {x : Str} (hN : X.N.Nodup) (hi : X.N[i]? = some x) (hx : Loc X.env.scope x) (hf : X.fn x = true ∨ X.env.scope.names.lookup x = some .local := by first | exact .inl rfl | exact .inr rfl | assumption) : JG X (.Name x pos) (.nm i) := ⟨by unfold gT; exact pg_name hN hi hx hf⟩
theorem g_nil : JGs X [] [] := ⟨by unfold gTs; exact pgs_nil⟩
theorem g_cons {T : Tg} {ts : List Tg} (h1 : JG X e T) (h2 : JGs X es ts) (hs : (assignEach (e :: es) X.env).map (·.2) = assign e X.env :: (assignEach es X.env).map (·.2) := by rfl) : JGs X (e :: es) (T :: ts) := ⟨by unfold gTs; exact pgs_cons h1.p h2.p hs⟩
theorem g_tup {k : Nat} {ts : List Tg} (hc : X.calm = true) (h : JGs X es ts) (hn : (assignEach es X.env).length = ts.length := by rfl) (hst : (assignEach es X.env).findIdx? (·.1) = none := by rfl) : JG X (.Tuple es k pos) (.tp ts) := ⟨by unfold gT; exact pg_tup hc h.p hn hst⟩
theorem s_aug {i : Nat} {x : Str} {f : SE} {op : Operator} {fn : Int → Int → Int} {pos' : Pos} (ho : PIp X op (ipI fn)) (hN : X.N.Nodup) (hi : X.N[i]? = some x) (hx : Loc X.env.scope x) (he : JE X EX e f) (hf : X.fn x = true ∨ X.env.scope.names.lookup x = some .local := by first | exact .inl rfl | exact .inr rfl | assumption) :
    JS X EX (.AugAssign (.Name x pos') op e pos) (sAug i fn f) :=
  ⟨(ps_aug hN hi hx he.p ho hf).by fun D σ H ⟨F, ρ, W, R, h⟩ => by
    unfold sAug at h
    revert h
    split
    · rename_i a0 e0
      obtain ⟨v0, hv0, hr0⟩ := R.slot i _ _ e0
      have hr0 : v0 = .int a0 := hr0
      subst hr0
      intro h
      refine ⟨_, hv0, F, ρ, W, R, ?_⟩
      revert h
      cases f ρ with
      | none => exact fun h => h
      | some q =>
        obtain ⟨q, ρ2⟩ := q
        cases q with
        | ex C => exact fun h H2 W2 fr2 sub2 R2 => h σ H2 W2 fr2 (fun p hp => .inl (sub2 p hp)) R2
        | ok d nw =>
          cases d <;> first | exact fun h => h.elim | skip
          rename_i b0
          dsimp only
          cases e : ρ2[i]? with
          | none => exact fun h => h.elim
          | some z =>
            intro h v H2 W2 fr2 sub2 P2
            have hv : v = .int b0 := P2.plain.1
            exact ⟨a0, b0, rfl, hv, h _ H2 W2 fr2 (fun p hp => .inl (sub2 p hp)) (P2.plain.2.put (by rw [P2.plain.2.len]; exact (List.getElem?_eq_some_iff.mp e).1) rfl)⟩
    · exact fun h => h.elim⟩
theorem s_ret {f : SE} (he : JE X EX e f) : JS X EX (.Return (some e) pos) (sRet f) :=
  ⟨(ps_ret he.p).by fun D σ H ⟨F, ρ, W, R, h⟩ => ⟨F, ρ, W, R, by
    unfold sRet at h
    revert h
    cases f ρ with
    | none => exact fun h => h
    | some q =>
      obtain ⟨q, ρ2⟩ := q
      cases q with
      | ex C => exact fun h H2 W2 fr2 sub2 R2 => h σ H2 W2 fr2 (fun p hp => .inl (sub2 p hp)) R2
      | ok d nw => exact fun h v H2 W2 fr2 sub2 P2 => h σ v H2 W2 fr2 (fun p hp => .inl (sub2 p hp)) P2.r⟩⟩
theorem s_retV {i : Nat} {n : Str} {p2 : Pos} (hN : X.N[i]? = some n) (hv : Vis X.env.scope n) (hd : (n == ("__debug__" : Str)) = false := by decide) (hcd : (n == ("__classdict__" : Str)) = false := by decide) : JS X EX (.Return (some (.Name n p2)) pos) (sRetV i) :=
  ⟨(ps_ret (pe_var hN hv hd hcd)).by fun D σ H ⟨F, ρ, W, R, h⟩ => by
    unfold sRetV at h
    revert h
    cases e : ρ[i]? with
    | none => exact fun h => h.elim
    | some z =>
      cases z with
      | none => exact fun h => h.elim
      | some z =>
        obtain ⟨d, m⟩ := z
        obtain ⟨v, hv, ok⟩ := R.slot i d m e
        cases m with
        | io => exact fun h => h.elim
        | fz => exact fun h => ⟨v, hv, h σ v H W .refl (fun _ z => .inl z) ⟨ok, R⟩⟩
        | ow =>
          intro h
          obtain ⟨p, rfl, hp, hO⟩ := ok
          obtain ⟨R', m1, m2, m3⟩ := R.move e hv
          exact ⟨_, hv, h σ _ H _ .refl (fun q hq => .inl (List.mem_filter.mp hq).1) ⟨p, rfl, .inl m1, m2, m3, R'⟩⟩⟩
theorem s_expr {f : SE} (he : JE X EX e f) (hs : swapsWith e none pos.line X.env = pure false := by rfl) : JS X EX (.Expr e pos) (sExpr f) :=
  ⟨(ps_expr he.p hs).by fun D σ H ⟨F, ρ, W, R, h⟩ => ⟨F, ρ, W, R, by
    unfold sExpr at h
    revert h
    cases f ρ with
    | none => exact fun h => h
    | some q =>
      obtain ⟨q, ρ2⟩ := q
      cases q with
      | ex C => exact fun h H2 W2 fr2 sub2 R2 => h σ H2 W2 fr2 (fun p hp => .inl (sub2 p hp)) R2
      | ok d nw => exact fun h v H2 W2 fr2 sub2 P2 => h σ H2 W2 fr2 (fun p hp => .inl (sub2 p hp)) P2.plain.2⟩⟩
theorem s_if {t : ST} {f g : SS} {as bs : List Stmt} (hc : JT X EX c t) (ha : JSs X EX as f) (hb : JSs X EX bs g) : JS X EX (.If c as bs pos) (sIfS t f g) :=
  ⟨(ps_if hc.p ha.p hb.p).by fun D σ H ⟨F, ρ, W, R, h⟩ => ⟨F, ρ, W, R, by
    unfold sIfS at h
    revert h
    cases t ρ with
    | none => exact fun h => h
    | some q =>
      obtain ⟨q, ρ2⟩ := q
      cases q with
      | ex C => exact fun h H2 W2 fr2 sub2 R2 => h σ H2 W2 fr2 (fun p hp => .inl (sub2 p hp)) R2
      | ok k =>
        cases k with
        | true => exact fun h H2 W2 fr2 sub2 R2 => ⟨F, ρ2, W2, R2, OkS.go h fr2 fun p hp => .inl (sub2 p hp)⟩
        | false => exact fun h H2 W2 fr2 sub2 R2 => ⟨F, ρ2, W2, R2, OkS.go h fr2 fun p hp => .inl (sub2 p hp)⟩⟩⟩
end
end L2
namespace L2
open PySem PySem.Spec PyProof.Rows
mutual
def flatD : D → Bool
  | .lst _ => false
  | .klst _ => false
  | .dK _ _ => false
  | .dT _ _ => false
  | .tup ds => flatDs ds
  | .ktup ds => flatDs ds
  | _ => true
def flatDs : List D → Bool
  | [] => true
  | d :: ds => flatD d && flatDs ds
end
def flatIn : D → Bool
  | .lst ds => flatDs ds
  | .dK _ ds => flatDs ds
  | .dT _ ds => flatDs ds
  | _ => false
section
variable {K : PySem.W.Frag} {H : Hp} {L1 L2 : List Addr}
theorem hid_flat {p : Addr} {o : HO} (h : hid L1 H p = some o) (hm : ∀ p ∈ L2, MutO (H p)) (no : ¬ MutO (some o)) : hid L2 H p = some o := by
  have e := (hid_some h).2
  rw [hid_ne fun z => no (by have := hm p z; rw [e] at this; exact this)]
  exact e
mutual
theorem RepD.flat (hm : ∀ p ∈ L2, MutO (H p)) : ∀ {d : D} {v : V}, flatD d = true → RepD K (hid L1 H) d v → RepD K (hid L2 H) d v
  | .non, _, _, h => h
  | .bl _, _, _, h => h
  | .int _, _, _, h => h
  | .str _, _, _, h => h
  | .tup _, _, f, ⟨p, xs, h1, h2, h3⟩ => ⟨p, xs, h1, hid_flat h2 hm (fun z => z), RepDs.flat hm (by unfold flatD at f; exact f) h3⟩
  | .ktup _, _, f, ⟨p, xs, h1, h2, h3⟩ => ⟨p, xs, h1, h2, RepDs.flat hm (by unfold flatD at f; exact f) h3⟩
  | .lst _, _, f, _ => by unfold flatD at f; cases f
  | .klst _, _, f, _ => by unfold flatD at f; cases f
  | .dK _ _, _, f, _ => by unfold flatD at f; cases f
  | .dT _ _, _, f, _ => by unfold flatD at f; cases f
  | .set _, _, _, ⟨p, S, h1, h2, h3⟩ => ⟨p, S, h1, hid_flat h2 hm (fun z => z), h3⟩
  | .rng _ _, _, _, ⟨p, h1, h2⟩ => ⟨p, h1, hid_flat h2 hm (fun z => z)⟩
  | .exc _, _, _, ⟨p, C, h1, h2, h3⟩ => ⟨p, C, h1, h2, hid_flat h3 hm (fun z => z)⟩
theorem RepDs.flat (hm : ∀ p ∈ L2, MutO (H p)) : ∀ {ds : List D} {xs : List V}, flatDs ds = true → RepDs K (hid L1 H) ds xs → RepDs K (hid L2 H) ds xs
  | [], [], _, _ => trivial
  | _ :: _, _ :: _, f, h => by
    unfold flatDs at f
    have f := (Bool.and_eq_true _ _).mp f
    exact ⟨RepD.flat hm f.1 h.1, RepDs.flat hm f.2 h.2⟩
  | [], _ :: _, _, h => h.elim
  | _ :: _, [], _, h => h.elim
end
theorem OwnAt.flat {H' : Hp} {p : Addr} {d : D} (hm : ∀ p ∈ L2, MutO (H p)) (f : flatIn d = true) (h : OwnAt K H' (hid L1 H) p d) : OwnAt K H' (hid L2 H) p d := by
  cases d <;> first
    | exact h.elim
    | (obtain ⟨xs, h1, h2, h3⟩ := h; exact ⟨xs, h1, h2, RepDs.flat hm f h3⟩)
    | (obtain ⟨xs, h1, h2⟩ := h; exact ⟨xs, h1, RepDs.flat hm f h2⟩)
end
abbrev FS := List D → Option (Res × D)
def spF (K : PySem.W.Frag) (io : Option Nat) (run : FS) : Sp := fun vs H Q E => ∃ (Z W : List Addr) (ds : List D),
  vs.length = ds.length ∧ (∀ p ∈ W, p ∉ Z) ∧ (∀ p ∈ W ++ Z, MutO (H p)) ∧
  (∀ (j : Nat) (d : D) (v : V), io ≠ some j → ds[j]? = some d → vs[j]? = some v → RepD K (hid (W ++ Z) H) d v) ∧
  (∀ k, io = some k → ∃ p d, vs[k]? = some (V.ref p) ∧ ds[k]? = some d ∧ W = [p] ∧ OwnAt K H (hid (W ++ Z) H) p d) ∧
  (io = none → W = []) ∧
  match run ds with
  | some (.ok d false, dio) => ∀ v H', Fr W H H' → RepD K (hid (W ++ Z) H') d v → (∀ p, W = [p] → OwnAt K H' (hid (W ++ Z) H') p dio) → Q v H'
  | some (.ok d true, dio) => ∀ q H', Fr W H H' → H q = none → OwnAt K H' (hid (q :: (W ++ Z)) H') q d → (∀ p, W = [p] → OwnAt K H' (hid (q :: (W ++ Z)) H') p dio) → Q (.ref q) H'
  | some (.ex C, dio) => ∀ H', Fr W H H' → (∀ p, W = [p] → OwnAt K H' (hid (W ++ Z) H') p dio) → ∀ a, clsK K C a → ∀ x, E (.ref a) x H'
  | none => False
def iniL (io : Option Nat) : Nat → List D → Rho
  | _, [] => []
  | j, d :: ds => some (d, if io = some j then .io else .fz) :: iniL io (j + 1) ds
def ini (n : Nat) (io : Option Nat) (ds : List D) : Rho := iniL io 0 ds ++ List.replicate (n - ds.length) none
def ioD (io : Option Nat) (ρ : Rho) : Option D := match io with
  | none => some .non
  | some k => match ρ[k]? with
    | some (some (d, .io)) => some d
    | _ => none
def fnRun (np n : Nat) (io : Option Nat) (body : SS) : FS := fun ds => if ds.length = np then
  match body (ini n io ds) with
  | some (.rt d nw, ρ') => match ioD io ρ' with
    | some x => some (.ok d nw, x)
    | none => none
  | some (.nx, ρ') => match ioD io ρ' with
    | some x => some (.ok .non false, x)
    | none => none
  | some (.ex C, ρ') => match ioD io ρ' with
    | some x => some (.ex C, x)
    | none => none
  | _ => none else none
theorem iniL_len {io : Option Nat} : ∀ {j : Nat} {ds : List D}, (iniL io j ds).length = ds.length
  | _, [] => rfl
  | j, _ :: ds => by unfold iniL; rw [List.length_cons, List.length_cons, iniL_len]
theorem iniL_get {io : Option Nat} : ∀ {j i : Nat} {ds : List D} {d : D} {m : Md}, (iniL io j ds)[i]? = some (some (d, m)) → ds[i]? = some d ∧ m = if io = some (j + i) then .io else .fz
  | j, i, [], d, m, h => by unfold iniL at h; simp at h
  | j, 0, x :: ds, d, m, h => by
    unfold iniL at h
    simp only [List.getElem?_cons_zero, Option.some.injEq, Prod.mk.injEq] at h
    exact ⟨by rw [← h.1]; rfl, by rw [← h.2]; rfl⟩
  | j, i + 1, x :: ds, d, m, h => by
    unfold iniL at h
    simp only [List.getElem?_cons_succ] at h
    obtain ⟨h1, h2⟩ := iniL_get h
    exact ⟨by simpa using h1, by rw [h2, show j + 1 + i = j + (i + 1) by omega]⟩
theorem ini_get {n : Nat} {io : Option Nat} {i : Nat} {ds : List D} {d : D} {m : Md} (h : (ini n io ds)[i]? = some (some (d, m))) : ds[i]? = some d ∧ m = if io = some i then .io else .fz := by
  unfold ini at h
  by_cases hi : i < ds.length
  · rw [List.getElem?_append_left (by rw [iniL_len]; exact hi)] at h
    have := iniL_get h
    rw [Nat.zero_add] at this
    exact this
  · rw [List.getElem?_append_right (by rw [iniL_len]; omega), List.getElem?_replicate] at h
    split at h <;> cases h
def EXf (K : PySem.W.Frag) (E : XK) : EXT := fun nm _ H => ∀ C, clsK K nm C → ∀ x, E (.ref C) x H
theorem fn_ok {P : Program} {w : World} {K : PySem.W.Frag} {mg : Str → Option Value} {base : Heap} {x : Str} {st : Stmt} {N ps : List Str} {k : Nat} {io : Option Nat} {body : SS} (h : Has K mg x st ps) (S : FnScope N ps (defScope st))
    (hb : ∀ (f : Addr) (cdv : Value) (A : Around) (outer : List Env) (s : Shared) (H : Hp) (E : XK), Room k (A.deeper (envOfC x (defScope st) s.heap.objs.size f cdv)) →
      JSs (cxOf (CXr P w) P w K mg base N x (defScope st) f cdv A outer s H E) (EXf K E) (defBody st) body) (hps : ps.length ≤ N.length := by decide) : OkX P w K mg base x ps (k + 1) (spF K io (fnRun ps.length N.length io body)) := by
  have run_len : ∀ {ds : List D} {r : Res × D}, fnRun ps.length N.length io body ds = some r → ds.length = ps.length := fun {ds r} e => by
    unfold fnRun at e
    split at e
    · assumption
    · cases e
  refine h.okX S (fun vs H Q E hs => ?_) (fun f cdv A outer s H vs Q E hr hs => ?_)
  · obtain ⟨Z, W, ds, h1, _, _, _, _, _, hm⟩ := hs
    cases e : fnRun ps.length N.length io body ds with
    | none => rw [e] at hm; exact hm.elim
    | some r => rw [h1]; exact run_len e
  · obtain ⟨Z, W, ds, h1, hwz, hmt, hfz, hio, hno, hm⟩ := hs
    refine ⟨_, (hb f cdv A outer s H E hr).p, ?_⟩
    have hlen : ds.length = ps.length := by
      cases e : fnRun ps.length N.length io body ds with
      | none => rw [e] at hm; exact hm.elim
      | some r => exact run_len e
    let F : Fx := ⟨Z, fun j => if io = some j then W.head? else none⟩
    have st_get : ∀ {j : Nat} {v : V}, vs[j]? = some v → (start N vs)[j]? = some (some v) := fun {j v} e => by
      unfold start
      rw [List.getElem?_append_left (by rw [List.length_map]; exact (List.getElem?_eq_some_iff.mp e).1), List.getElem?_map, e]
      rfl
    have R0 : Rel K F (start N vs) H (ini N.length io ds) W := by
      refine ⟨fun i d m hi => ?_, fun i j d e m n p g1 g2 g3 g4 _ _ => ?_, hwz, hmt, ?_⟩
      · obtain ⟨hd, rfl⟩ := ini_get hi
        have hv : i < vs.length := by rw [h1]; exact (List.getElem?_eq_some_iff.mp hd).1
        refine ⟨vs[i], st_get (List.getElem?_eq_getElem hv), ?_⟩
        by_cases e : io = some i
        · rw [if_pos e]
          obtain ⟨p, d', q1, q2, q3, q4⟩ := hio i e
          rw [List.getElem?_eq_getElem hv] at q1
          rw [hd] at q2
          cases q2
          refine ⟨p, Option.some.inj q1, by rw [q3]; exact List.mem_cons_self, q4, ?_⟩
          show (if io = some i then W.head? else none) = some p
          rw [if_pos e, q3]
          rfl
        · rw [if_neg e]
          exact hfz i d _ e hd (List.getElem?_eq_getElem hv)
      · obtain ⟨_, e1⟩ := ini_get g1
        obtain ⟨_, e2⟩ := ini_get g3
        by_cases z1 : io = some i
        · by_cases z2 : io = some j
          · rw [z1] at z2; exact Option.some.inj z2
          · rw [if_neg z2] at e2; exact absurd e2 g4
        · rw [if_neg z1] at e1; exact absurd e1 g2
      · unfold start ini
        rw [List.length_append, List.length_append, List.length_map, List.length_replicate, List.length_replicate, iniL_len, h1]
    refine ⟨F, _, W, R0, ?_⟩
    -- what the list that may be changed has become
    have ioR : ∀ {σ' : St} {H' : Hp} {ρ' : Rho} {W' : List Addr} {x : D} {p : Addr}, Rel K F σ' H' ρ' W' → ioD io ρ' = some x → W = [p] → p ∈ W' ∧ OwnAt K H' (hid (W' ++ Z) H') p x := fun {σ' H' ρ' W' x p} R e hW => by
      cases hk : io with
      | none => rw [hno hk] at hW; cases hW
      | some k =>
        unfold ioD at e
        rw [hk] at e
        dsimp only at e
        split at e
        · rename_i d0 e0
          cases e
          obtain ⟨v, g1, q, g2, g3, g4, g5⟩ := R.slot k _ _ e0
          have g5 : (if io = some k then W.head? else none) = some q := g5
          rw [if_pos hk, hW] at g5
          have : p = q := Option.some.inj g5
          subst this
          exact ⟨g3, g4⟩
        · cases e
    have wsub : ∀ {σ' : St} {H' : Hp} {ρ' : Rho} {W' : List Addr} {x : D}, Rel K F σ' H' ρ' W' → ioD io ρ' = some x → ∀ b, b ∈ W ++ Z → b ∈ W' ++ Z := fun {σ' H' ρ' W' x} R e b hb => by
      rcases List.mem_append.mp hb with z | z
      · cases hk : io with
        | none => rw [hno hk] at z; cases z
        | some k =>
          obtain ⟨p, d, _, _, q3, _⟩ := hio k hk
          rw [q3] at z
          rw [List.mem_singleton.mp z]
          exact List.mem_append_left _ (ioR R e q3).1
      · exact List.mem_append_right _ z
    have toW : ∀ {σ' : St} {H' H2 : Hp} {ρ' : Rho} {W' : List Addr} {x : D}, Rel K F σ' H2 ρ' W' → ioD io ρ' = some x → Same (hid (W' ++ Z) H') (hid (W ++ Z) H') := fun R e => hid_same (fun b hb => .inl (wsub R e b hb)) fun b o _ z => z
    revert hm
    unfold fnRun
    rw [if_pos hlen]
    cases body (ini N.length io ds) with
    | none => exact fun h => h.elim
    | some r =>
      obtain ⟨r, ρ'⟩ := r
      cases r with
      | bk => exact fun h => h.elim
      | ct => exact fun h => h.elim
      | nx =>
        dsimp only
        cases e : ioD io ρ' with
        | none => exact fun h => h.elim
        | some x =>
          intro hm σ' H' W' fr sub R
          exact hm .non H' fr rfl fun p hp => (ioR R e hp).2.at rfl (toW R e)
      | ex C =>
        dsimp only
        cases e : ioD io ρ' with
        | none => exact fun h => h.elim
        | some x =>
          intro hm σ' H' W' fr sub R
          exact hm H' fr fun p hp => (ioR R e hp).2.at rfl (toW R e)
      | rt d nw =>
        dsimp only
        cases e : ioD io ρ' with
        | none => exact fun h => h.elim
        | some x =>
          cases nw with
          | false =>
            intro hm σ' v H' W' fr sub P
            exact hm v H' fr ((toW P.2 e).repD P.1) fun p hp => (ioR P.2 e hp).2.at rfl (toW P.2 e)
          | true =>
            intro hm σ' v H' W' fr sub P
            obtain ⟨q, rfl, hq, hn, hO, R⟩ := P
            have hq0 : H q = none := by
              rcases hq with z | z
              · cases hk : io with
                | none => rw [hno hk] at z; cases z
                | some k =>
                  obtain ⟨p, d', _, _, q3, _⟩ := hio k hk
                  rw [q3] at z
                  have : q = p := List.mem_singleton.mp z
                  subst this
                  exact absurd (List.mem_append_left _ (ioR R e q3).1) hn
              · exact z
            have cs : Same (hid (q :: (W' ++ Z)) H') (hid (q :: (W ++ Z)) H') := hid_same (fun b hb => .inl (by
              rcases List.mem_cons.mp hb with z | z
              · rw [z]; exact List.mem_cons_self
              · exact List.mem_cons_of_mem _ (wsub R e b z))) fun b o _ z => z
            refine hm q H' fr hq0 (hO.at rfl cs) fun p hp => ?_
            obtain ⟨m1, m2⟩ := ioR R e hp
            have pq : p ≠ q := fun z => by subst z; exact hn (List.mem_append_left _ m1)
            refine m2.at (hid_ne (by simpa using pq)).symm fun b o z => ?_
            obtain ⟨z1, z2⟩ := hid_some z
            obtain ⟨z3, z4⟩ := hid_some z2
            rw [hid_ne (fun y => by
              rcases List.mem_cons.mp y with y | y
              · exact z3 (by simpa using y)
              · exact z1 (wsub R e b y))]
            exact z4
end L2
namespace L2
open PySem PySem.Spec PyProof.Rows
section
variable {K : PySem.W.Frag} {F : Fx} {EX : EXT} {σ : St} {H H2 : Hp} {ρ : Rho} {W : List Addr}
theorem Rel.wrote (R : Rel K F σ H ρ W) {i : Nat} {d d' : D} {m : Md} {p : Addr} (h : ρ[i]? = some (some (d, m))) (hm : m ≠ .fz) (hp : σ[i]? = some (some (.ref p))) (fr : Fr [p] H H2) (new : OwnAt K H2 (hid (W ++ F.Z) H2) p d') :
    Rel K F σ H2 (ρ.set i (some (d', m))) W := by
  obtain ⟨v, hv, hS⟩ := R.slot i d m h
  rw [hp] at hv
  cases hv
  have hw : p ∈ W := by
    cases m with
    | fz => exact absurd rfl hm
    | ow => obtain ⟨r, e2, e3, _⟩ := hS; cases e2; exact e3
    | io => obtain ⟨r, e2, e3, _⟩ := hS; cases e2; exact e3
  have sh : Same (hid (W ++ F.Z) H) (hid (W ++ F.Z) H2) := hid_same (fun b hb => .inl hb) fun b o n e => fr.keep b o (fun z => n (by rw [List.mem_singleton.mp z]; exact List.mem_append_left _ hw)) e
  have eq : ∀ r, r ≠ p → MutO (H r) → H2 r = H r := fun r hr hM => by
    obtain ⟨u, q⟩ := hM.some
    rw [q]
    exact fr.keep r u (by simpa using hr) q
  refine ⟨fun j e n hj => ?_, fun j k e f n n' r h1 h2 h3 h4 h5 h6 => ?_, R.wz, fun r hr => ?_, by rw [List.length_set]; exact R.len⟩
  · rcases set_get hj with ⟨rfl, e1⟩ | ⟨ne, e1⟩
    · cases e1
      refine ⟨_, hp, ?_⟩
      cases m with
      | fz => exact absurd rfl hm
      | ow => exact ⟨p, rfl, hw, new⟩
      | io => obtain ⟨r, e2, e3, e4, e5⟩ := hS; cases e2; exact ⟨p, rfl, hw, new, e5⟩
    · obtain ⟨v, g1, g2⟩ := R.slot j e n e1
      refine ⟨v, g1, ?_⟩
      have other : ∀ r, v = .ref r → n ≠ .fz → r ≠ p := fun r er hn z => by
        subst er z
        exact ne (R.apart j i _ _ _ _ _ e1 hn h hm g1 hp)
      cases n with
      | fz => exact sh.repD g2
      | ow => obtain ⟨r, e2, e3, e4⟩ := g2; exact ⟨r, e2, e3, e4.at (eq r (other r e2 (by decide)) e4.mu) sh⟩
      | io => obtain ⟨r, e2, e3, e4, e5⟩ := g2; exact ⟨r, e2, e3, e4.at (eq r (other r e2 (by decide)) e4.mu) sh, e5⟩
  · have fnd : ∀ {j : Nat} {e : D} {n : Md}, (ρ.set i (some (d', m)))[j]? = some (some (e, n)) → n ≠ .fz → ∃ e', ρ[j]? = some (some (e', n)) := fun {j e n} hj hn => by
      rcases set_get hj with ⟨rfl, e1⟩ | ⟨_, e1⟩
      · cases e1; exact ⟨d, h⟩
      · exact ⟨_, e1⟩
    obtain ⟨_, z1⟩ := fnd h1 h2
    obtain ⟨_, z2⟩ := fnd h3 h4
    exact R.apart j k _ _ _ _ _ z1 h2 z2 h4 h5 h6
  · by_cases e : r = p
    · subst e; exact new.mu
    · rw [eq r e (R.mt r hr)]; exact R.mt r hr
variable (K F σ H ρ W) in
def ArgR : Arg → D → V → Prop
  | .ex _, d, v => RepD K (hid (W ++ F.Z) H) d v
  | .bor i, d, v => σ[i]? = some (some v) ∧ ∃ m, ρ[i]? = some (some (d, m))
variable (K F σ H ρ W) in
def ArgRs : List Arg → List D → List V → Prop
  | [], [], [] => True
  | a :: as, d :: ds, v :: vs => ArgR K F σ H ρ W a d v ∧ ArgRs as ds vs
  | _, _, _ => False
theorem ArgRs.len : ∀ {as : List Arg} {ds : List D} {vs : List V}, ArgRs K F σ H ρ W as ds vs → vs.length = ds.length
  | [], [], [], _ => rfl
  | _ :: _, _ :: _, _ :: _, h => by rw [List.length_cons, List.length_cons, ArgRs.len h.2]
  | [], _ :: _, _, h => h.elim
  | [], [], _ :: _, h => h.elim
  | _ :: _, [], _, h => h.elim
  | _ :: _, _ :: _, [], h => h.elim
theorem ArgRs.get : ∀ {as : List Arg} {ds : List D} {vs : List V} {j : Nat} {d : D} {v : V}, ArgRs K F σ H ρ W as ds vs → ds[j]? = some d → vs[j]? = some v → ∃ a, as[j]? = some a ∧ ArgR K F σ H ρ W a d v
  | a :: _, _ :: _, _ :: _, 0, d, v, h, e1, e2 => by
    simp only [List.getElem?_cons_zero, Option.some.injEq] at e1 e2
    subst e1 e2
    exact ⟨a, rfl, h.1⟩
  | _ :: _, _ :: _, _ :: _, j + 1, d, v, h, e1, e2 => by
    simp only [List.getElem?_cons_succ] at e1 e2 ⊢
    exact ArgRs.get h.2 e1 e2
  | [], [], [], _, _, _, _, e, _ => by simp at e
  | [], _ :: _, _, _, _, _, h, _, _ => h.elim
  | [], [], _ :: _, _, _, _, h, _, _ => h.elim
  | _ :: _, [], _, _, _, _, h, _, _ => h.elim
  | _ :: _, _ :: _, [], _, _, _, h, _, _ => h.elim
theorem ArgRs.at : ∀ {as : List Arg} {ds : List D} {vs : List V} {j : Nat} {a : Arg}, ArgRs K F σ H ρ W as ds vs → as[j]? = some a → ∃ d v, ds[j]? = some d ∧ vs[j]? = some v ∧ ArgR K F σ H ρ W a d v
  | a :: _, d :: _, v :: _, 0, b, h, e1 => by
    simp only [List.getElem?_cons_zero, Option.some.injEq] at e1
    subst e1
    exact ⟨d, v, rfl, rfl, h.1⟩
  | _ :: _, _ :: _, _ :: _, j + 1, a, h, e1 => by
    simp only [List.getElem?_cons_succ] at e1 ⊢
    exact ArgRs.at h.2 e1
  | [], [], [], _, _, _, e => by simp at e
  | [], _ :: _, _, _, _, h, _ => h.elim
  | [], [], _ :: _, _, _, h, _ => h.elim
  | _ :: _, [], _, _, _, h, _ => h.elim
  | _ :: _, _ :: _, [], _, _, h, _ => h.elim
variable (K F EX) in
def OkA2 (σ : St) (H : Hp) (W : List Addr) (as : List Arg) (o : Option (ResA × Rho)) (Q : List V → Hp → Prop) : Prop := match o with
  | some (.ok ds, ρ') => ∀ vs H' W', Fr W H H' → (∀ p ∈ W', p ∈ W) → Rel K F σ H' ρ' W' → ArgRs K F σ H' ρ' W' as ds vs → Q vs H'
  | some (.ex C, ρ') => ∀ H' W', Fr W H H' → (∀ p ∈ W', p ∈ W) → Rel K F σ H' ρ' W' → EX C σ H'
  | none => False
theorem as_ok2 : ∀ (as : List Arg) {H : Hp} {ρ : Rho} {W : List Addr} {Q : List V → Hp → Prop}, Rel K F σ H ρ W → OkA2 K F EX σ H W as (evA as ρ) Q → tAs K EX as σ H Q
  | [], H, ρ, W, Q, R, h => h [] H W .refl (fun _ z => z) R trivial
  | .ex f :: as, H, ρ, W, Q, R, h => by
    refine ⟨F, ρ, W, R, ?_⟩
    unfold evA at h
    revert h
    cases f ρ with
    | none => exact fun h => h
    | some r =>
      obtain ⟨r, ρ1⟩ := r
      cases r with
      | ex C => exact fun h => h
      | ok d nw =>
        intro h v H1 W1 fr sub post
        obtain ⟨rd, R1⟩ := post.plain
        refine as_ok2 as R1 ?_
        revert h
        dsimp only
        cases evA as ρ1 with
        | none => exact fun h => h
        | some q =>
          obtain ⟨q, ρ2⟩ := q
          cases q with
          | ex C => exact fun h H2 W2 fr2 sub2 R2 => h H2 W2 (fr.trans fr2 fun p hp => .inl (sub p hp)) (fun p hp => sub p (sub2 p hp)) R2
          | ok ds =>
            intro h vs H2 W2 fr2 sub2 R2 reps
            exact h (v :: vs) H2 W2 (fr.trans fr2 fun p hp => .inl (sub p hp)) (fun p hp => sub p (sub2 p hp)) R2 ⟨(fr2.hid fun p hp => .inl (sub2 p hp)).repD rd, reps⟩
  | .bor i :: as, H, ρ, W, Q, R, h => by
    unfold evA at h
    revert h
    cases e : ρ[i]? with
    | none => exact fun h => h.elim
    | some z =>
      cases z with
      | none => exact fun h => h.elim
      | some dm =>
        obtain ⟨d0, m0⟩ := dm
        obtain ⟨v, hv, _⟩ := R.slot i d0 m0 e
        intro h
        refine ⟨v, hv, as_ok2 as R ?_⟩
        revert h
        dsimp only
        cases evA as ρ with
        | none => exact fun h => h
        | some q =>
          obtain ⟨q, ρ2⟩ := q
          cases q with
          | ex C => exact fun h => h
          | ok ds =>
            dsimp only
            cases e2 : ρ2[i]? with
            | none => exact fun h => h.elim
            | some z =>
              cases z with
              | none => exact fun h => h.elim
              | some dm =>
                obtain ⟨d, m⟩ := dm
                intro h vs H2 W2 fr2 sub2 R2 reps
                exact h (v :: vs) H2 W2 fr2 sub2 R2 ⟨⟨hv, m, e2⟩, reps⟩
end
structure Callable (X : Cx) (EX : EXT) : Prop where
  call : ∀ {x : Str} {ps : List Str} {k : Nat} {sp : Sp} {e : Expr} {es : List Expr} {t : TA} {p pos : Pos} (h : OkX X.prog X.w X.K X.mg X.base x ps k sp) (hr : Room k X.A) (hg : Gl X x) (ha : PA X (e :: es) t) (hdb : (x == ("__debug__" : Str)) = false)
    (he : starEach (e :: es) X.env = (false, eval e X.env) :: starEach es X.env) (hpl : (backTo pos (starEach es X.env)).any (·.1) = false), PE X (.Call (.Name x p) (e :: es) [] pos) (fun σ H Q => t σ H fun vs H1 => sp vs H1 Q fun c _ H' => ∃ nm C, c = .ref C ∧ clsK X.K nm C ∧ EX nm σ H')
def EXn : EXT := fun _ _ _ => False
theorem app_nil_sp {sp : Sp} {Q : VK} {E : XK} : (fun (vs : List V) H1 => sp (vs ++ []) H1 Q E) = fun vs H1 => sp vs H1 Q E := by
  funext vs H1
  rw [List.append_nil]
theorem callable_n {X : Cx} : Callable X EXn := ⟨fun {x ps k sp e es t p pos} h hr hg ha hdb he hpl => by
  obtain ⟨f, fd, hm, hk, hb, F⟩ := h.ex
  refine (pe_call F hr hg hm hk hb .nil (E := fun c _ H' => ∃ nm C, c = Value.ref C ∧ clsK X.K nm C ∧ False) (fun _ _ _ _ _ _ _ hZ => (by obtain ⟨_, _, _, _, _, _, _, _, _, _, _, _, _, _, z⟩ := hZ; exact z.elim)) ha hdb he hpl).by fun σ H Q h => ?_
  unfold tCall
  rw [app_nil_sp]
  exact h⟩
theorem callable_f {P : Program} {w : World} {K : PySem.W.Frag} {mg : Str → Option Value} {base : Heap} {N : List Str} {qual : Str} {scope : Scope} {f : Addr} {cd : Value} {A : Around} {outer : List Env} {s : Shared} {H : Hp} {E : XK} :
    Callable (cxOf (CXr P w) P w K mg base N qual scope f cd A outer s H E) (EXf K E) := ⟨fun {x ps k sp e es t p pos} h hr hg ha hdb he hpl => by
  obtain ⟨f', fd, hm, hk, hb, F⟩ := h.ex
  refine (pe_call (X := cxOf (CXr P w) P w K mg base N qual scope f cd A outer s H E) F hr hg hm hk hb .nil (E := fun c _ H' => ∃ nm C, c = Value.ref C ∧ clsK K nm C ∧ ∀ C', clsK K nm C' → ∀ x, E (.ref C') x H') (passes_r fun c d H' z => by obtain ⟨nm, C, rfl, hc, z⟩ := z; exact z C hc d) ha hdb he hpl).by fun σ H Q h => ?_
  unfold tCall
  rw [app_nil_sp]
  exact h⟩
def noBor (io : Option Nat) : Nat → List Arg → Rho → Bool
  | _, [], _ => true
  | j, .ex _ :: as, ρ => noBor io (j + 1) as ρ
  | j, .bor i :: as, ρ => (if io = some j then true else match ρ[i]? with
    | some (some (_, .fz)) => true
    | _ => false) && noBor io (j + 1) as ρ
def apartA (i k : Nat) : Nat → List Arg → Bool
  | _, [] => true
  | j, .ex _ :: as => apartA i k (j + 1) as
  | j, .bor i' :: as => (decide (j = k) || decide (i' ≠ i)) && apartA i k (j + 1) as
def ioOk (io : Option Nat) (as : List Arg) (slot : Option Nat) : Bool := match io, slot with
  | none, none => true
  | some k, some i => (match as[k]? with
    | some (.bor i') => decide (i' = i)
    | _ => false) && apartA i k 0 as
  | _, _ => false
def putIo (slot : Option Nat) (dio : D) (ρ : Rho) : Option Rho := match slot with
  | none => some ρ
  | some i => match ρ[i]? with
    | some (some (_, .ow)) => some (ρ.set i (some (dio, .ow)))
    | some (some (_, .io)) => some (ρ.set i (some (dio, .io)))
    | _ => none
def flatR (d : D) (nw : Bool) : Bool := if nw then flatIn d else flatD d
def sCall (io slot : Option Nat) (run : FS) (as : List Arg) : SE := fun ρ => match evA as ρ with
  | some (.ok ds, ρ1) => match run ds with
    | some (.ok d nw, dio) => if (noBor io 0 as ρ1 || (flatR d nw && (io.isNone || flatIn dio))) = true then
        match putIo slot dio ρ1 with
        | some ρ2 => some (.ok d nw, ρ2)
        | none => none
      else none
    | some (.ex C, dio) => if (noBor io 0 as ρ1 || (io.isNone || flatIn dio)) = true then
        match putIo slot dio ρ1 with
        | some ρ2 => some (.ex C, ρ2)
        | none => none
      else none
    | none => none
  | some (.ex C, ρ') => some (.ex C, ρ')
  | none => none
theorem noBor_get {io : Option Nat} {ρ : Rho} : ∀ {as : List Arg} {j n : Nat} {i : Nat}, noBor io n as ρ = true → as[j]? = some (.bor i) → io ≠ some (n + j) → ∃ d, ρ[i]? = some (some (d, .fz))
  | [], j, n, i, h, e, _ => by simp at e
  | .ex _ :: as, 0, n, i, h, e, _ => by simp at e
  | .bor i' :: as, 0, n, i, h, e, ne => by
    simp only [List.getElem?_cons_zero, Option.some.injEq, Arg.bor.injEq] at e
    subst e
    unfold noBor at h
    have h := ((Bool.and_eq_true _ _).mp h).1
    rw [if_neg (by simpa using ne)] at h
    split at h
    · exact ⟨_, by assumption⟩
    · cases h
  | .ex _ :: as, j + 1, n, i, h, e, ne => by
    unfold noBor at h
    exact noBor_get (j := j) (n := n + 1) h (by simpa using e) (by rw [show n + 1 + j = n + (j + 1) by omega]; exact ne)
  | .bor _ :: as, j + 1, n, i, h, e, ne => by
    unfold noBor at h
    exact noBor_get (j := j) (n := n + 1) ((Bool.and_eq_true _ _).mp h).2 (by simpa using e) (by rw [show n + 1 + j = n + (j + 1) by omega]; exact ne)
theorem apartA_get {i k : Nat} : ∀ {as : List Arg} {j n : Nat} {i' : Nat}, apartA i k n as = true → as[j]? = some (.bor i') → n + j ≠ k → i' ≠ i
  | [], j, n, i', h, e, _ => by simp at e
  | .ex _ :: as, 0, n, i', h, e, _ => by simp at e
  | .bor i2 :: as, 0, n, i', h, e, ne => by
    simp only [List.getElem?_cons_zero, Option.some.injEq, Arg.bor.injEq] at e
    subst e
    unfold apartA at h
    have h := ((Bool.and_eq_true _ _).mp h).1
    rcases (Bool.or_eq_true _ _).mp h with z | z
    · exact absurd (by simpa using of_decide_eq_true z) ne
    · exact of_decide_eq_true z
  | .ex _ :: as, j + 1, n, i', h, e, ne => by
    unfold apartA at h
    exact apartA_get (j := j) (n := n + 1) h (by simpa using e) (by omega)
  | .bor _ :: as, j + 1, n, i', h, e, ne => by
    unfold apartA at h
    exact apartA_get (j := j) (n := n + 1) ((Bool.and_eq_true _ _).mp h).2 (by simpa using e) (by omega)
section
variable {K : PySem.W.Frag} {F : Fx} {σ : St} {H : Hp} {ρ : Rho} {W : List Addr}
theorem call_in {io slot : Option Nat} {as : List Arg} {ds : List D} {vs : List V} {dio : D} {ρ2 : Rho} (R : Rel K F σ H ρ W) (A : ArgRs K F σ H ρ W as ds vs) (hio : ioOk io as slot = true) (hput : putIo slot dio ρ = some ρ2) :
    ∃ Wc Zc, (∀ p ∈ Wc, p ∉ Zc) ∧ (∀ b, b ∈ Wc ++ Zc → b ∈ W ++ F.Z) ∧ (∀ p ∈ Wc, p ∈ W) ∧ (noBor io 0 as ρ = true → ∀ b, b ∈ W ++ F.Z → b ∈ Wc ++ Zc) ∧
      (∀ (j : Nat) (d : D) (v : V), io ≠ some j → ds[j]? = some d → vs[j]? = some v → RepD K (hid (Wc ++ Zc) H) d v) ∧
      (∀ k, io = some k → ∃ p d, vs[k]? = some (V.ref p) ∧ ds[k]? = some d ∧ Wc = [p] ∧ OwnAt K H (hid (Wc ++ Zc) H) p d) ∧ (io = none → Wc = []) ∧
      ∀ H2, Fr Wc H H2 → (∀ p, Wc = [p] → OwnAt K H2 (hid (W ++ F.Z) H2) p dio) → Rel K F σ H2 ρ2 W := by
  cases io with
  | none =>
    cases slot with
    | some i => cases hio
    | none =>
      cases hput
      -- Zc: all that is hidden, if nothing that is owned is shown; else the callers' alone
      have fin : ∀ H2, Fr [] H H2 → Rel K F σ H2 ρ W := fun H2 fr => R.same fun b o e => fr.keep b o (by simp) e
      by_cases hn : noBor none 0 as ρ = true
      · refine ⟨[], W ++ F.Z, fun p hp => by simp at hp, fun b hb => by simpa using hb, fun p hp => by simp at hp, fun _ b hb => by simpa using hb, fun j d v _ e1 e2 => ?_, fun k z => (by cases z), fun _ => rfl, fun H2 fr _ => fin H2 fr⟩
        obtain ⟨a, ea, ra⟩ := A.get e1 e2
        cases a with
        | ex f => exact ra
        | bor i =>
          obtain ⟨d', hd'⟩ := noBor_get hn ea (by simp)
          obtain ⟨q1, m, q2⟩ := ra
          rw [hd'] at q2
          cases q2
          obtain ⟨v', q3, q4⟩ := R.slot i _ _ hd'
          rw [q1] at q3
          cases q3
          exact q4
      · refine ⟨[], F.Z, fun p hp => by simp at hp, fun b hb => List.mem_append_right _ (by simpa using hb), fun p hp => by simp at hp, fun z => absurd z hn, fun j d v _ e1 e2 => ?_, fun k z => (by cases z), fun _ => rfl, fun H2 fr _ => fin H2 fr⟩
        have sh : Same (hid (W ++ F.Z) H) (hid ([] ++ F.Z) H) := hid_same (fun b hb => .inl (List.mem_append_right _ (by simpa using hb))) fun b o _ e => e
        obtain ⟨a, ea, ra⟩ := A.get e1 e2
        cases a with
        | ex f => exact sh.repD ra
        | bor i =>
          obtain ⟨q1, m, q2⟩ := ra
          obtain ⟨v', q3, q4⟩ := R.slot i _ _ q2
          rw [q1] at q3
          cases q3
          cases m with
          | fz => exact sh.repD q4
          | ow => obtain ⟨p, rfl, hp, hO⟩ := q4; exact hO.rep (hid_ne (by simpa using R.wz p hp)) sh
          | io => obtain ⟨p, rfl, hp, hO, _⟩ := q4; exact hO.rep (hid_ne (by simpa using R.wz p hp)) sh
  | some k =>
    cases slot with
    | none => cases hio
    | some i =>
      have hio : ((match as[k]? with
        | some (.bor i') => decide (i' = i)
        | _ => false) && apartA i k 0 as) = true := hio
      obtain ⟨h1, hap⟩ := (Bool.and_eq_true _ _).mp hio
      have hk : as[k]? = some (.bor i) := by
        split at h1
        · rename_i i' e
          rw [e, of_decide_eq_true h1]
        · cases h1
      -- the name's mode
      have hm : ∃ d0 m, ρ[i]? = some (some (d0, m)) ∧ m ≠ .fz ∧ ρ2 = ρ.set i (some (dio, m)) := by
        unfold putIo at hput
        dsimp only at hput
        split at hput
        · rename_i d0 e; cases hput; exact ⟨d0, _, e, by decide, rfl⟩
        · rename_i d0 e; cases hput; exact ⟨d0, _, e, by decide, rfl⟩
        · cases hput
      obtain ⟨d0, m, e0, hmf, rfl⟩ := hm
      obtain ⟨v0, g1, g2⟩ := R.slot i d0 m e0
      have own : ∃ p, v0 = .ref p ∧ p ∈ W ∧ OwnAt K H (hid (W ++ F.Z) H) p d0 := by
        cases m with
        | fz => exact absurd rfl hmf
        | ow => exact g2
        | io => obtain ⟨p, z1, z2, z3, _⟩ := g2; exact ⟨p, z1, z2, z3⟩
      obtain ⟨p, rfl, hpW, hO⟩ := own
      obtain ⟨dk, vk, f1, f2, f3, mk, f4⟩ := A.at hk
      rw [g1] at f3
      cases f3
      rw [e0] at f4
      cases f4
      have fin : ∀ H2, Fr [p] H H2 → (∀ q, [p] = [q] → OwnAt K H2 (hid (W ++ F.Z) H2) q dio) → Rel K F σ H2 (ρ.set i (some (dio, m))) W := fun H2 fr new => R.wrote e0 hmf g1 fr (new p rfl)
      -- an owned thing that is shown, but not to be changed
      have oth : ∀ (j : Nat) (i' : Nat) (d : D) (v : V) (m' : Md), some k ≠ some j → as[j]? = some (.bor i') → σ[i']? = some (some v) → ρ[i']? = some (some (d, m')) → m' ≠ .fz → v ≠ .ref p := fun j i' d v m' ne ea q1 q2 hm' z => by
        have ni : i' ≠ i := apartA_get hap ea (fun z => ne (by rw [← z, Nat.zero_add]))
        subst z
        exact ni (R.apart i' i _ _ _ _ _ q2 hm' e0 hmf q1 g1)
      by_cases hn : noBor (some k) 0 as ρ = true
      · have m1 : ∀ b, b ∈ [p] ++ (W.filter (fun a => decide (a ≠ p)) ++ F.Z) → b ∈ W ++ F.Z := fun b hb => by
          rcases List.mem_append.mp hb with z | z
          · rw [List.mem_singleton.mp z]; exact List.mem_append_left _ hpW
          · rcases List.mem_append.mp z with z | z
            · exact List.mem_append_left _ (List.mem_filter.mp z).1
            · exact List.mem_append_right _ z
        have m2 : ∀ b, b ∈ W ++ F.Z → b ∈ [p] ++ (W.filter (fun a => decide (a ≠ p)) ++ F.Z) := fun b hb => by
          by_cases z : b = p
          · rw [z]; exact List.mem_append_left _ (List.mem_singleton.mpr rfl)
          · refine List.mem_append_right _ ?_
            rcases List.mem_append.mp hb with y | y
            · exact List.mem_append_left _ (List.mem_filter.mpr ⟨y, decide_eq_true z⟩)
            · exact List.mem_append_right _ y
        have sh : Same (hid (W ++ F.Z) H) (hid ([p] ++ (W.filter (fun a => decide (a ≠ p)) ++ F.Z)) H) := hid_same (fun b hb => .inl (m1 b hb)) fun b o _ e => e
        refine ⟨[p], W.filter (fun a => decide (a ≠ p)) ++ F.Z, fun q hq z => ?_, m1, fun q hq => by rw [List.mem_singleton.mp hq]; exact hpW, fun _ => m2, fun j d v ne e1 e2 => ?_, fun k' z => ?_, fun z => (by cases z), fin⟩
        · rw [List.mem_singleton.mp hq] at z
          rcases List.mem_append.mp z with y | y
          · exact absurd rfl (of_decide_eq_true (List.mem_filter.mp y).2)
          · exact R.wz p hpW y
        · obtain ⟨a, ea, ra⟩ := A.get e1 e2
          cases a with
          | ex f => exact sh.repD ra
          | bor i' =>
            obtain ⟨d', hd'⟩ := noBor_get hn ea (by rw [Nat.zero_add]; exact ne)
            obtain ⟨q1, m', q2⟩ := ra
            rw [hd'] at q2
            cases q2
            obtain ⟨v', q3, q4⟩ := R.slot i' _ _ hd'
            rw [q1] at q3
            cases q3
            exact sh.repD q4
        · cases z
          exact ⟨p, _, f2, f1, rfl, hO.at rfl sh⟩
      · have m1 : ∀ b, b ∈ [p] ++ F.Z → b ∈ W ++ F.Z := fun b hb => by
          rcases List.mem_append.mp hb with z | z
          · rw [List.mem_singleton.mp z]; exact List.mem_append_left _ hpW
          · exact List.mem_append_right _ z
        have sh : Same (hid (W ++ F.Z) H) (hid ([p] ++ F.Z) H) := hid_same (fun b hb => .inl (m1 b hb)) fun b o _ e => e
        refine ⟨[p], F.Z, fun q hq z => by rw [List.mem_singleton.mp hq] at z; exact R.wz p hpW z, m1, fun q hq => by rw [List.mem_singleton.mp hq]; exact hpW, fun z => absurd z hn, fun j d v ne e1 e2 => ?_, fun k' z => ?_, fun z => (by cases z), fin⟩
        · obtain ⟨a, ea, ra⟩ := A.get e1 e2
          cases a with
          | ex f => exact sh.repD ra
          | bor i' =>
            obtain ⟨q1, m', q2⟩ := ra
            obtain ⟨v', q3, q4⟩ := R.slot i' _ _ q2
            rw [q1] at q3
            cases q3
            have out : ∀ r, v = .ref r → m' ≠ .fz → r ∈ W → r ∉ [p] ++ F.Z := fun r er hm' hr z => by
              rcases List.mem_append.mp z with y | y
              · rw [List.mem_singleton.mp y] at er
                exact oth j i' _ _ _ ne ea q1 q2 hm' er
              · exact R.wz r hr y
            cases m' with
            | fz => exact sh.repD q4
            | ow => obtain ⟨r, rfl, hr, hO'⟩ := q4; exact hO'.rep (hid_ne (out r rfl (by decide) hr)) sh
            | io => obtain ⟨r, rfl, hr, hO', _⟩ := q4; exact hO'.rep (hid_ne (out r rfl (by decide) hr)) sh
        · cases z
          exact ⟨p, _, f2, f1, rfl, hO.at rfl sh⟩
end
section
variable {X : Cx} {EX : EXT} {e : Expr} {es : List Expr} {as : List Arg}
theorem same_mem {L L' : List Addr} {H : Hp} (h : ∀ b, b ∈ L' → b ∈ L) : Same (hid L H) (hid L' H) := hid_same (fun b hb => .inl (h b hb)) fun b o _ e => e
theorem c_call {x : Str} {ps : List Str} {k k' : Nat} {io slot : Option Nat} {run : FS} {p pos : Pos} (C : Callable X EX) (h : OkX X.prog X.w X.K X.mg X.base x ps k (spF X.K io run)) (hr : Room k' X.A) (hk : k ≤ k') (hg : Gl X x) (ha : JA X EX (e :: es) as)
    (hio : ioOk io as slot = true := by rfl) (hdb : (x == ("__debug__" : Str)) = false := by decide) (he : starEach (e :: es) X.env = (false, eval e X.env) :: starEach es X.env := by rfl) (hpl : (backTo pos (starEach es X.env)).any (·.1) = false := by rfl) :
    JE X EX (.Call (.Name x p) (e :: es) [] pos) (sCall io slot run as) :=
  ⟨(C.call h (hr.mono hk) hg ha.p hdb he hpl).by fun σ H Q ⟨F, ρ, W, R, h⟩ => by
    refine as_ok2 as R ?_
    unfold sCall at h
    revert h
    cases evA as ρ with
    | none => exact fun h => h
    | some q =>
      obtain ⟨q, ρ1⟩ := q
      cases q with
      | ex C => exact fun h => h
      | ok ds =>
        dsimp only
        cases er : run ds with
        | none => exact fun h => h.elim
        | some r =>
          obtain ⟨r, dio⟩ := r
          have key : ∀ {ρ2 : Rho} {vs : List V} {H1 : Hp} {W1 : List Addr} (b : Bool), Rel X.K F σ H1 ρ1 W1 → ArgRs X.K F σ H1 ρ1 W1 as ds vs → putIo slot dio ρ1 = some ρ2 → (noBor io 0 as ρ1 || (b && (io.isNone || flatIn dio))) = true →
              ∃ Wc Zc, (∀ p ∈ Wc, p ∉ Zc) ∧ (∀ p ∈ Wc ++ Zc, MutO (H1 p)) ∧ (∀ p ∈ Wc, p ∈ W1) ∧
                (∀ (j : Nat) (d : D) (v : V), io ≠ some j → ds[j]? = some d → vs[j]? = some v → RepD X.K (hid (Wc ++ Zc) H1) d v) ∧
                (∀ k, io = some k → ∃ p d, vs[k]? = some (V.ref p) ∧ ds[k]? = some d ∧ Wc = [p] ∧ OwnAt X.K H1 (hid (Wc ++ Zc) H1) p d) ∧ (io = none → Wc = []) ∧
                ∀ H2 Q', Fr Wc H1 H2 → (∀ b, b ∈ Q' → H1 b = none) → (∀ p, Wc = [p] → OwnAt X.K H2 (hid (Q' ++ (Wc ++ Zc)) H2) p dio) →
                  Rel X.K F σ (hid Q' H2) ρ2 W1 ∧ (∀ p ∈ W1 ++ F.Z, MutO (H2 p)) ∧ ((∀ b, b ∈ W1 ++ F.Z → b ∈ Wc ++ Zc) ∨ b = true) := fun {ρ2 vs H1 W1} b R1 A1 hput hc => by
            obtain ⟨Wc, Zc, c1, c2, c3, c4, c5, c6, c7, c8⟩ := call_in R1 A1 hio hput
            refine ⟨Wc, Zc, c1, fun p hp => R1.mt p (c2 p hp), c3, c5, c6, c7, fun H2 Q' fr hQ own => ?_⟩
            have wc1 : ∀ p ∈ Wc, Wc = [p] := fun p hp => by
              cases hz : io with
              | none => rw [c7 hz] at hp; cases hp
              | some k =>
                obtain ⟨p', _, _, _, e, _⟩ := c6 k hz
                rw [e] at hp ⊢
                rw [List.mem_singleton.mp hp]
            have mt2 : ∀ p ∈ W1 ++ F.Z, MutO (H2 p) := fun p hp => by
              by_cases z : p ∈ Wc
              · exact (own p (wc1 p z)).mu
              · obtain ⟨u, q⟩ := (R1.mt p hp).some
                rw [fr.keep p u z q, ← q]
                exact R1.mt p hp
            have qn : ∀ p ∈ W1 ++ F.Z, p ∉ Q' := fun p hp z => by
              have := R1.mt p hp
              rw [hQ p z] at this
              exact this
            have fr2 : Fr Wc H1 (hid Q' H2) := ⟨fun b o n e => by
              rw [hid_ne (fun z => by rw [hQ b z] at e; cases e)]
              exact fr.keep b o n e, fun b e => by
              by_cases z : b ∈ Q'
              · exact hQ b z
              · rw [hid_ne z] at e; exact fr.dom b e⟩
            have or1 : (∀ b, b ∈ W1 ++ F.Z → b ∈ Wc ++ Zc) ∨ (b = true ∧ (io.isNone || flatIn dio) = true) := by
              rcases (Bool.or_eq_true _ _).mp hc with z | z
              · exact .inl (c4 z)
              · exact .inr ((Bool.and_eq_true _ _).mp z)
            refine ⟨c8 _ fr2 fun p hp => ?_, mt2, or1.imp id (·.1)⟩
            have hpW : p ∈ W1 ++ F.Z := List.mem_append_left _ (c3 p (by rw [hp]; exact List.mem_singleton.mpr rfl))
            have o1 := own p hp
            have sg : Same (hid (Q' ++ (W1 ++ F.Z)) H2) (hid (W1 ++ F.Z) (hid Q' H2)) := fun b o e => by
              obtain ⟨z1, z2⟩ := hid_some e
              rw [hid_ne (fun z => z1 (List.mem_append_right _ z)), hid_ne (fun z => z1 (List.mem_append_left _ z))]
              exact z2
            rcases or1 with z | ⟨_, z⟩
            · refine o1.at (hid_ne (qn p hpW)) (Same.trans (same_mem fun b hb => ?_) sg)
              rcases List.mem_append.mp hb with y | y
              · exact List.mem_append_left _ y
              · exact List.mem_append_right _ (z b y)
            · have hf : flatIn dio = true := by
                cases hz : io with
                | none => rw [c7 hz] at hp; cases hp
                | some k => rw [hz] at z; exact z
              have hnf : OwnAt X.K H2 (hid (W1 ++ F.Z) H2) p dio := o1.flat mt2 hf
              -- what is in it is flat: seen also where Q' is hidden, for it was seen there
              have o2 : OwnAt X.K (hid Q' H2) (hid (Wc ++ Zc) (hid Q' H2)) p dio := o1.at (hid_ne (qn p hpW)) fun b o e => by
                obtain ⟨z1, z2⟩ := hid_some e
                rw [hid_ne (fun z => z1 (List.mem_append_right _ z)), hid_ne (fun z => z1 (List.mem_append_left _ z))]
                exact z2
              exact o2.flat (fun p hp => by rw [hid_ne (qn p hp)]; exact mt2 p hp) hf
          cases r with
          | ex C =>
            dsimp only
            split
            · rename_i hc
              cases ep : putIo slot dio ρ1 with
              | none => exact fun h => h.elim
              | some ρ2 =>
                intro h vs H1 W1 fr1 sub1 R1 A1
                obtain ⟨Wc, Zc, c1, c2, c3, c5, c6, c7, c8⟩ := key true R1 A1 ep (by simpa using hc)
                refine ⟨Zc, Wc, ds, A1.len, c1, c2, c5, c6, c7, ?_⟩
                rw [er]
                intro H2 fr2 own ca hca x
                obtain ⟨R2, _, _⟩ := c8 H2 [] fr2 (fun b hb => by simp at hb) own
                exact ⟨C, ca, rfl, hca, h H2 W1 (fr1.trans fr2 fun p hp => .inl (sub1 p (c3 p hp))) sub1 (R2.same hid_sub)⟩
            · exact fun h => h.elim
          | ok d nw =>
            dsimp only
            split
            · rename_i hc
              cases ep : putIo slot dio ρ1 with
              | none => exact fun h => h.elim
              | some ρ2 =>
                intro h vs H1 W1 fr1 sub1 R1 A1
                obtain ⟨Wc, Zc, c1, c2, c3, c5, c6, c7, c8⟩ := key (flatR d nw) R1 A1 ep hc
                refine ⟨Zc, Wc, ds, A1.len, c1, c2, c5, c6, c7, ?_⟩
                rw [er]
                cases nw with
                | false =>
                  intro v H2 fr2 rep own
                  obtain ⟨R2, mt2, z⟩ := c8 H2 [] fr2 (fun b hb => by simp at hb) own
                  refine h v H2 W1 (fr1.trans fr2 fun p hp => .inl (sub1 p (c3 p hp))) sub1 ⟨?_, R2.same hid_sub⟩
                  rcases z with z | z
                  · exact (same_mem z).repD rep
                  · exact RepD.flat mt2 z rep
                | true =>
                  intro q H2 fr2 hq hO own
                  obtain ⟨R2, mt2, z⟩ := c8 H2 [q] fr2 (fun b hb => by rw [List.mem_singleton.mp hb]; exact hq) own
                  refine h (.ref q) H2 W1 (fr1.trans fr2 fun p hp => .inl (sub1 p (c3 p hp))) sub1 ⟨q, rfl, fr1.dom q hq, R1.fresh hq, ?_, R2⟩
                  rcases z with z | z
                  · refine hO.at rfl (same_mem fun b hb => ?_)
                    rcases List.mem_cons.mp hb with y | y
                    · rw [y]; exact List.mem_cons_self
                    · exact List.mem_cons_of_mem _ (z b y)
                  · refine hO.flat (fun p hp => ?_) z
                    rcases List.mem_cons.mp hp with y | y
                    · rw [y]; exact hO.mu
                    · exact mt2 p y
            · exact fun h => h.elim⟩
end
end L2
namespace L2
open PySem PySem.Spec PyProof.Rows
theorem PS.nox {X : Cx} {st : Stmt} {t : TS} (h : PS X.nox st t) : PS X st t := fun pins s σ H D I hw =>
  wpAny_mono (h pins s σ H D (I.wish _) hw) (fun _ _ q => q.unwish) fun _ _ z => False.elim z
abbrev SI := Rho → Option (ResA × Rho)
structure ItOk (K : PySem.W.Frag) (L0 : List Addr) (ds : List D) (J : It) (H0 : Hp) : Prop where
  go : ∀ (H : Hp) (L : List Addr) (i : Nat) (d : D), Same (hid L0 H0) (hid L H) → (∀ p ∈ L, MutO (H p)) → ds[i]? = some d → J.go i H ∧ ∀ x H', J.yld i H x H' → Same H H' ∧ RepD K (hid L H') d x
  stop : ∀ H, Same (hid L0 H0) H → J.stop ds.length H
  few : ds.length ≤ sizeLine
section
variable (K : PySem.W.Frag) (F : Fx) (EX : EXT) (σ : St) (H : Hp) (W : List Addr)
def OkI (o : Option (ResA × Rho)) (R : It → Hp → Prop) : Prop := match o with
  | some (.ok ds, ρ') => ∀ J H' W', Fr W H H' → (∀ p ∈ W', p ∈ W) → Rel K F σ H' ρ' W' → ItOk K (W' ++ F.Z) ds J H' → R J H'
  | some (.ex C, ρ') => ∀ H' W', Fr W H H' → (∀ p ∈ W', p ∈ W) → Rel K F σ H' ρ' W' → EX C σ H'
  | none => False
end
def tI (K : PySem.W.Frag) (EX : EXT) (f : SI) : TI := fun σ H R => ∃ F ρ W, Rel K F σ H ρ W ∧ OkI K F EX σ H W (f ρ) R
structure JI (X : Cx) (EX : EXT) (tg iter : Expr) (f : SI) : Prop where
  p : PI X tg iter (tI X.K EX f)
def sLoop (T : Tg) (f : SS) : List D → Rho → Option (Out × Rho)
  | [], ρ => some (.nx, ρ)
  | d :: ds, ρ => match asgT T d ρ with
    | none => none
    | some ρ1 => match f ρ1 with
      | some (.nx, ρ2) => sLoop T f ds ρ2
      | some (.ct, ρ2) => sLoop T f ds ρ2
      | some (.bk, ρ2) => some (.nx, ρ2)
      | some (.rt d nw, ρ2) => some (.rt d nw, ρ2)
      | some (.ex _, _) => none
      | none => none
def sFor (it : SI) (T : Tg) (f : SS) : SS := fun ρ => match it ρ with
  | some (.ok ds, ρ1) => sLoop T f ds ρ1
  | some (.ex _, _) => none
  | none => none
section
variable {X : Cx} {EX : EXT} {tg iter c : Expr} {body : List Stmt} {pos : Pos}
theorem s_for {it : SI} {T : Tg} {f : SS} (hc : X.calm = true) (hi : JI X.nox EXn tg iter it) (hg : JG X.nox tg T) (hb : JSs X.nox EXn body f) (hs : ∀ x, foldedSetIterable iter X.env x = pure x := by intro _; rfl) : JS X EX (.For tg iter body [] pos) (sFor it T f) :=
  ⟨(PS.nox (ps_for (X := X.nox) PassesOwn.never hc hi.p hg.p hb.p hs)).by fun D σ H ⟨F, ρ, W, R, h⟩ => ⟨F, ρ, W, R, by
    unfold sFor at h
    revert h
    cases it ρ with
    | none => exact fun h => h
    | some q =>
      obtain ⟨q, ρ1⟩ := q
      cases q with
      | ex C => exact fun h => h.elim
      | ok ds =>
        intro h J H1 W1 fr1 sub1 R1 ok
        have h : OkS X.K F EX H W (sLoop T f ds ρ1) D := h
        refine ⟨fun i m σ H2 => m = ds.length - i ∧ i ≤ ds.length ∧ ∃ ρ2 W2, Rel X.K F σ H2 ρ2 W2 ∧ Fr W1 H1 H2 ∧ (∀ p ∈ W2, p ∈ W1 ∨ H1 p = none) ∧ OkS X.K F EX H2 W2 (sLoop T f (ds.drop i) ρ2) D,
          ⟨ds.length, by simp, Nat.zero_le _, ρ1, W1, R1, .refl, fun _ z => .inl z, OkS.go h fr1 fun p hp => .inl (sub1 p hp)⟩, ?_⟩
        rintro i m σ2 H2 ⟨rfl, hi, ρ2, W2, R2, fr2, sub2, h2⟩
        by_cases hlt : i < ds.length
        · have hd : ds.drop i = ds[i] :: ds.drop (i + 1) := List.drop_eq_getElem_cons hlt
          rw [hd] at h2
          unfold sLoop at h2
          obtain ⟨g1, g2⟩ := ok.go H2 (W2 ++ F.Z) i ds[i] (fr2.hid sub2) R2.mt (List.getElem?_eq_getElem hlt)
          refine .inr ⟨g1, fun σ3 H3 => ds.length - (i + 1) = ds.length - (i + 1) ∧ i + 1 ≤ ds.length ∧ ∃ ρ3 W3, Rel X.K F σ3 H3 ρ3 W3 ∧ Fr W1 H1 H3 ∧ (∀ p ∈ W3, p ∈ W1 ∨ H1 p = none) ∧ OkS X.K F EX H3 W3 (sLoop T f (ds.drop (i + 1)) ρ3) D, fun σ3 H3 z => ⟨_, by omega, z⟩, fun x H3 y => ?_⟩
          obtain ⟨s3, rx⟩ := g2 x H3 y
          revert h2
          cases ea : asgT T ds[i] ρ2 with
          | none => exact fun h => h.elim
          | some ρ3 =>
            intro h2
            refine gT_ok (n := 0) T (R2.same s3) rx ea fun σ4 _ R4 => ⟨F, ρ3, W2, R4, ?_⟩
            have fr3 : Fr W1 H1 H3 := fr2.trans (s3.fr (W := W2)) sub2
            have h3 : OkS X.K F EX H3 W2 _ D := OkS.go h2 (s3.fr (W := W2)) fun p hp => .inl hp
            have sub3 : ∀ {W4 : List Addr}, (∀ p ∈ W4, p ∈ W2 ∨ H3 p = none) → ∀ p ∈ W4, p ∈ W1 ∨ H1 p = none := fun {W4} s p hp => (s p hp).elim (sub2 p) fun z => .inr (fr3.dom p z)
            revert h3
            dsimp only
            cases f ρ3 with
            | none => exact fun h => h
            | some q =>
              obtain ⟨q, ρ4⟩ := q
              cases q with
              | nx => exact fun h3 σ5 H5 W5 fr5 sub5 R5 => ⟨rfl, hlt, ρ4, W5, R5, fr3.trans fr5 sub2, sub3 sub5, OkS.go h3 fr5 sub5⟩
              | ct => exact fun h3 σ5 H5 W5 fr5 sub5 R5 => ⟨rfl, hlt, ρ4, W5, R5, fr3.trans fr5 sub2, sub3 sub5, OkS.go h3 fr5 sub5⟩
              | bk => exact fun h3 => h3
              | ex C => exact fun h3 => h3.elim
              | rt d nw => exact fun h3 => h3
        · have e : i = ds.length := by omega
          subst e
          rw [List.drop_length] at h2
          exact .inl ⟨ok.stop H2 ((fr2.hid sub2).trans hid_sub), h2 σ2 H2 W2 .refl (fun _ z => .inl z) R2⟩⟩⟩
end
def evC (c : Option ST) (ρ : Rho) : Option (ResT × Rho) := match c with
  | none => some (.ok true, ρ)
  | some c => c ρ
def sCompL (k : Nat) (T : Tg) (c : Option ST) (f : SE) : List D → Rho → Option (List D × Rho)
  | [], ρ => some ([], ρ)
  | d :: ds, ρ => match asgT T d (ρ ++ List.replicate k none) with
    | none => none
    | some ρ1 => match evC c ρ1 with
      | some (.ok true, ρ2) => match f ρ2 with
        | some (.ok y _, ρ3) => match sCompL k T c f ds (ρ3.take ρ.length) with
          | some (ys, ρ4) => some (y :: ys, ρ4)
          | none => none
        | some (.ex _, _) => none
        | none => none
      | some (.ok false, ρ2) => sCompL k T c f ds (ρ2.take ρ.length)
      | some (.ex _, _) => none
      | none => none
def sComp (k : Nat) (it : SI) (T : Tg) (c : Option ST) (f : SE) : SE := fun ρ => match it ρ with
  | some (.ok ds, ρ1) => if Tg.ge ρ1.length T = true then
      match sCompL k T c f ds ρ1 with
      | some (ys, ρ2) => some (.ok (.lst ys) true, ρ2)
      | none => none
    else none
  | some (.ex C, ρ1) => some (.ex C, ρ1)
  | none => none
def tIfC (K : PySem.W.Frag) (c : Option ST) : TT := match c with
  | none => tNoIf
  | some c => tVT K EXn c
section
variable {K : PySem.W.Frag} {F : Fx} {EX : EXT} {σ : St} {H : Hp} {ρ : Rho} {W : List Addr}
theorem Rel.ext (R : Rel K F σ H ρ W) (k : Nat) : Rel K F (σ ++ List.replicate k none) H (ρ ++ List.replicate k none) W := by
  have old : ∀ {i : Nat} {d : D} {m : Md}, (ρ ++ List.replicate k none)[i]? = some (some (d, m)) → ρ[i]? = some (some (d, m)) ∧ i < ρ.length := fun {i d m} h => by
    by_cases hi : i < ρ.length
    · rw [List.getElem?_append_left hi] at h
      exact ⟨h, hi⟩
    · rw [List.getElem?_append_right (by omega), List.getElem?_replicate] at h
      split at h <;> cases h
  refine ⟨fun i d m h => ?_, fun i j d e m n p h1 h2 h3 h4 h5 h6 => ?_, R.wz, R.mt, by rw [List.length_append, List.length_append, List.length_replicate, List.length_replicate, R.len]⟩
  · obtain ⟨h, hi⟩ := old h
    obtain ⟨v, g1, g2⟩ := R.slot i d m h
    exact ⟨v, by rw [List.getElem?_append_left (by rw [R.len]; exact hi)]; exact g1, g2⟩
  · obtain ⟨h1, i1⟩ := old h1
    obtain ⟨h3, i3⟩ := old h3
    rw [List.getElem?_append_left (by rw [R.len]; exact i1)] at h5
    rw [List.getElem?_append_left (by rw [R.len]; exact i3)] at h6
    exact R.apart i j _ _ _ _ _ h1 h2 h3 h4 h5 h6
theorem Rel.cut {σ2 : St} (R : Rel K F σ2 H ρ W) (h : σ2.take σ.length = σ) (hl : σ.length ≤ σ2.length) : Rel K F σ H (ρ.take σ.length) W := by
  have old : ∀ {i : Nat} {d : D} {m : Md}, (ρ.take σ.length)[i]? = some (some (d, m)) → ρ[i]? = some (some (d, m)) ∧ i < σ.length := fun {i d m} h => by
    rw [List.getElem?_take] at h
    split at h
    · exact ⟨h, by assumption⟩
    · cases h
  have eq : ∀ {i : Nat}, i < σ.length → σ2[i]? = σ[i]? := fun {i} hi => by
    have e := List.getElem?_take_of_lt (l := σ2) hi
    rw [h] at e
    exact e.symm
  refine ⟨fun i d m h => ?_, fun i j d e m n p h1 h2 h3 h4 h5 h6 => ?_, R.wz, R.mt, by rw [List.length_take, ← R.len]; omega⟩
  · obtain ⟨h, hi⟩ := old h
    obtain ⟨v, g1, g2⟩ := R.slot i d m h
    exact ⟨v, by rw [← eq hi]; exact g1, g2⟩
  · obtain ⟨h1, i1⟩ := old h1
    obtain ⟨h3, i3⟩ := old h3
    rw [← eq i1] at h5
    rw [← eq i3] at h6
    exact R.apart i j _ _ _ _ _ h1 h2 h3 h4 h5 h6
theorem comp_tr {k : Nat} {it : SI} {T : Tg} {c : Option ST} {f : SE} {Q : VK} (hw : tV K EX (sComp k it T c f) σ H Q) : tComp (tI K EX it) k (gT K T) (tIfC K c) (tV K EXn f) σ H Q := by
  obtain ⟨F, ρ, W, R, h⟩ := hw
  refine ⟨F, ρ, W, R, ?_⟩
  unfold sComp at h
  revert h
  cases it ρ with
  | none => exact fun h => h
  | some q =>
    obtain ⟨q, ρ1⟩ := q
    cases q with
    | ex C => exact fun h => h
    | ok ds =>
      dsimp only
      split
      · rename_i hge
        cases es : sCompL k T c f ds ρ1 with
        | none => exact fun h => h.elim
        | some z =>
          obtain ⟨tot, ρe⟩ := z
          intro h J H1 W1 fr1 sub1 R1 ok
          refine ⟨fun i m ys H2 => m = ds.length - i ∧ i ≤ ds.length ∧ ∃ ρ2 W2 acc rest, Rel K F σ H2 ρ2 W2 ∧ Fr W1 H1 H2 ∧ (∀ p ∈ W2, p ∈ W1) ∧ RepDs K (hid (W2 ++ F.Z) H2) acc ys ∧ acc.length ≤ i ∧ sCompL k T c f (ds.drop i) ρ2 = some (rest, ρe) ∧ acc ++ rest = tot,
            ⟨ds.length, by simp, Nat.zero_le _, ρ1, W1, [], tot, R1, .refl, fun _ z => z, trivial, Nat.zero_le _, es, rfl⟩, ?_⟩
          rintro i m ys H2 ⟨rfl, hi, ρ2, W2, acc, rest, R2, fr2, sub2, rp, la, e2, et⟩
          have sub2' : ∀ p ∈ W2, p ∈ W1 ∨ H1 p = none := fun p hp => .inl (sub2 p hp)
          have few := ok.few
          have ly := rp.len
          refine ⟨by omega, ?_⟩
          by_cases hlt : i < ds.length
          · have hd : ds.drop i = ds[i] :: ds.drop (i + 1) := List.drop_eq_getElem_cons hlt
            rw [hd] at e2
            unfold sCompL at e2
            obtain ⟨g1, g2⟩ := ok.go H2 (W2 ++ F.Z) i ds[i] (fr2.hid sub2') R2.mt (List.getElem?_eq_getElem hlt)
            refine .inr ⟨g1, fun x H3 y => ?_⟩
            obtain ⟨s3, rx⟩ := g2 x H3 y
            cases ea : asgT T ds[i] (ρ2 ++ List.replicate k none) with
            | none => rw [ea] at e2; cases e2
            | some ρ3 =>
              rw [ea] at e2
              dsimp only at e2
              have lenσ : σ.length = ρ1.length := R1.len
              have lenσ2 : σ.length = ρ2.length := R2.len
              refine gT_ok (n := σ.length) T ((R2.same s3).ext k) rx ea fun σ4 tk R4 => ?_
              have tk := tk (by rw [lenσ]; exact hge)
              rw [List.take_left] at tk
              have l4 : σ.length ≤ σ4.length := by
                have := congrArg List.length tk
                rw [List.length_take] at this
                omega
              refine ⟨tk, ?_⟩
              have fr3 : Fr W1 H1 H3 := fr2.trans (s3.fr (W := W2)) sub2'
              -- behind the test
              have rest : ∀ b ρ4, evC c ρ3 = some (.ok b, ρ4) → ∀ H4 W4, Fr W2 H3 H4 → (∀ p ∈ W4, p ∈ W2) → Rel K F σ4 H4 ρ4 W4 →
                  (if b = true then tV K EXn f σ4 H4 fun y H5 => ∃ m', m' < ds.length - i ∧ (m' = ds.length - (i + 1) ∧ i + 1 ≤ ds.length ∧ ∃ ρ2 W2 acc rest, Rel K F σ H5 ρ2 W2 ∧ Fr W1 H1 H5 ∧ (∀ p ∈ W2, p ∈ W1) ∧ RepDs K (hid (W2 ++ F.Z) H5) acc (ys ++ [y]) ∧ acc.length ≤ i + 1 ∧ sCompL k T c f (ds.drop (i + 1)) ρ2 = some (rest, ρe) ∧ acc ++ rest = tot)
                  else ∃ m', m' < ds.length - i ∧ (m' = ds.length - (i + 1) ∧ i + 1 ≤ ds.length ∧ ∃ ρ2 W2 acc rest, Rel K F σ H4 ρ2 W2 ∧ Fr W1 H1 H4 ∧ (∀ p ∈ W2, p ∈ W1) ∧ RepDs K (hid (W2 ++ F.Z) H4) acc ys ∧ acc.length ≤ i + 1 ∧ sCompL k T c f (ds.drop (i + 1)) ρ2 = some (rest, ρe) ∧ acc ++ rest = tot)) := fun b ρ4 ec H4 W4 fr4 sub4 R4 => by
                rw [ec] at e2
                have frA : Fr W1 H1 H4 := fr3.trans fr4 sub2'
                have sA : Same (hid (W2 ++ F.Z) H2) (hid (W4 ++ F.Z) H4) := Same.trans (hid_same (fun b hb => .inl hb) fun b o _ e => s3 b o e : Same (hid (W2 ++ F.Z) H2) (hid (W2 ++ F.Z) H3)) (fr4.hid fun p hp => .inl (sub4 p hp))
                cases b with
                | false =>
                  dsimp only at e2
                  rw [if_neg Bool.false_ne_true]
                  exact ⟨_, by omega, rfl, hlt, ρ4.take σ.length, W4, acc, _, R4.cut tk l4, frA, fun p hp => sub2 p (sub4 p hp), sA.repDs rp, by omega, by rw [lenσ2]; exact e2, et⟩
                | true =>
                  dsimp only at e2
                  rw [if_pos rfl]
                  refine ⟨F, ρ4, W4, R4, ?_⟩
                  cases ef : f ρ4 with
                  | none => rw [ef] at e2; cases e2
                  | some q =>
                    obtain ⟨q, ρ5⟩ := q
                    rw [ef] at e2
                    cases q with
                    | ex C => cases e2
                    | ok y nw =>
                      dsimp only at e2
                      cases e3 : sCompL k T c f (ds.drop (i + 1)) (ρ5.take ρ2.length) with
                      | none => rw [e3] at e2; cases e2
                      | some z =>
                        obtain ⟨rest', ρe'⟩ := z
                        rw [e3] at e2
                        cases e2
                        intro v H5 W5 fr5 sub5 P5
                        obtain ⟨rv, R5⟩ := P5.plain
                        refine ⟨_, by omega, rfl, hlt, ρ5.take σ.length, W5, acc ++ [y], rest', R5.cut tk l4, frA.trans fr5 fun p hp => .inl (sub2 p (sub4 p hp)), fun p hp => sub2 p (sub4 p (sub5 p hp)), RepDs.app ((fr5.hid fun p hp => .inl (sub5 p hp)).repDs (sA.repDs rp)) ⟨rv, trivial⟩, ?_, by rw [lenσ2]; exact e3, ?_⟩
                        · rw [List.length_append]; simp; omega
                        · rw [← et, List.append_assoc]; rfl
              cases c with
              | none => exact rest true ρ3 rfl H3 W2 .refl (fun _ z => z) R4
              | some c =>
                refine ⟨F, ρ3, W2, R4, ?_⟩
                have e2' := e2
                unfold evC at e2'
                dsimp only at e2'
                cases ec : c ρ3 with
                | none => rw [ec] at e2'; cases e2'
                | some q =>
                  obtain ⟨q, ρ4⟩ := q
                  cases q with
                  | ex C => rw [ec] at e2'; cases e2'
                  | ok b => exact fun H4 W4 fr4 sub4 R4 => rest b ρ4 ec H4 W4 fr4 sub4 R4
          · have e : i = ds.length := by omega
            subst e
            rw [List.drop_length] at e2
            have e2 : some (([] : List D), ρ2) = some (rest, ρe) := e2
            cases e2
            rw [List.append_nil] at et
            subst et
            refine .inl ⟨ok.stop H2 ((fr2.hid sub2').trans hid_sub), fun l hl => ?_⟩
            refine h (.ref l) _ W2 ((fr1.trans fr2 fun p hp => .inl (sub1 p hp)).trans ((Same.upd hl).fr (W := W2)) fun p hp => .inl (sub1 p (sub2 p hp))) (fun p hp => sub1 p (sub2 p hp)) ?_
            refine PostE.back (PostD.e (nw := true) ⟨l, rfl, hl, ys, upd_same, ?_⟩ R2 (Same.upd hl)) fun b hb => fr1.dom b (fr2.dom b hb)
            exact (hid_same (fun b hb => (List.mem_cons.mp hb).elim (fun z => .inr (by rw [z]; exact hl)) .inl) fun b o _ e => Same.upd hl b o e : Same (hid (W2 ++ F.Z) H2) _).repDs rp
      · exact fun h => h.elim
end
inductive JC (X : Cx) : List Expr → Option ST → Prop where
  | no : JC X [] none
  | one {c : Expr} {t : ST} (h : JT X EXn c t) : JC X [c] (some t)
theorem JC.p {X : Cx} {ifs : List Expr} {c : Option ST} (h : JC X ifs c) : PIfs X ifs (tIfC X.K c) := by
  cases h with
  | no => exact pif0
  | one h => exact pif1 h.p
section
variable {X : Cx} {EX : EXT} {elt tg iter : Expr} {ifs : List Expr} {sc : Scope} {M tgs : List Str} {pos : Pos} {it : SI} {T : Tg} {c : Option ST} {f : SE}
theorem c_comp (hc : X.calm = true) (B : BlkOk X sc M tgs) (hi : JI X EX tg iter it) (hg : ∀ cl C fp s H, JG (blk X sc cl C fp s H (M ++ tgs)) tg T) (ht : ∀ cl C fp s H, JC (blk X sc cl C fp s H (M ++ tgs)) ifs c) (he : ∀ cl C fp s H, JE (blk X sc cl C fp s H (M ++ tgs)) EXn elt f)
    (hs : ∀ x, foldedSetIterable iter X.env x = pure x := by intro _; rfl) : JE X EX (.ListComp elt [⟨tg, iter, ifs, 0⟩] sc pos) (sComp tgs.length it T c f) :=
  ⟨(pe_comp hc B hi.p (fun cl C fp s H => (hg cl C fp s H).p) (fun cl C fp s H => (ht cl C fp s H).p) (fun cl C fp s H => (he cl C fp s H).p) hs).by fun σ H Q h => comp_tr h⟩
theorem s_compSet {j : Nat} {y : Str} {py spos : Pos} (hc : X.calm = true) (B : BlkOk X sc M tgs) (hi : JI X EX tg iter it) (hg : ∀ cl C fp s H, JG (blk X sc cl C fp s H (M ++ tgs)) tg T) (ht : ∀ cl C fp s H, JC (blk X sc cl C fp s H (M ++ tgs)) ifs c) (he : ∀ cl C fp s H, JE (blk X sc cl C fp s H (M ++ tgs)) EXn elt f)
    (hN : X.N.Nodup) (hjy : X.N[j]? = some y) (hy : X.env.scope.names.lookup y = some .local) (hsw : swapsWith (.ListComp elt [⟨tg, iter, ifs, 0⟩] sc pos) (some (.Name y py)) spos.line X.env = pure true := by rfl)
    (hs : ∀ x, foldedSetIterable iter X.env x = pure x := by intro _; rfl) : JS X EX (.Assign [.Name y py] (.ListComp elt [⟨tg, iter, ifs, 0⟩] sc pos) spos) (sSet j (sComp tgs.length it T c f)) :=
  ⟨(ps_compSet hc B hi.p (fun cl C fp s H => (hg cl C fp s H).p) (fun cl C fp s H => (ht cl C fp s H).p) (fun cl C fp s H => (he cl C fp s H).p) hN hjy hy hsw hs).by fun D σ H h => comp_tr (asg_of h)⟩
end
end L2
namespace L2
open PySem PySem.Spec PyProof.Rows
mutual
def nrm : D → D
  | .ktup ds => .tup (nrmL ds)
  | .tup ds => .tup (nrmL ds)
  | .klst ds => .lst (nrmL ds)
  | .lst ds => .lst (nrmL ds)
  | d => d
def nrmL : List D → List D
  | [] => []
  | d :: ds => nrm d :: nrmL ds
end
mutual
def eqN : D → D → Bool
  | .non, .non => true
  | .bl a, .bl b => a == b
  | .bl a, .int b => (if a then 1 else 0) == b
  | .int a, .bl b => a == (if b then 1 else 0)
  | .int a, .int b => a == b
  | .str a, .str b => a == b
  | .tup a, .tup b => eqNs a b
  | .lst a, .lst b => eqNs a b
  | _, _ => false
def eqNs : List D → List D → Bool
  | [], [] => true
  | a :: as, b :: bs => eqN a b && eqNs as bs
  | _, _ => false
end
def eqD (d e : D) : Bool := eqN (nrm d) (nrm e)
def eqable : Nat → D → Bool
  | _, .non => true
  | _, .bl _ => true
  | _, .int _ => true
  | _, .str _ => true
  | n + 1, .tup ds => ds.all (eqable n)
  | n + 1, .ktup ds => ds.all (eqable n)
  | n + 1, .lst ds => ds.all (eqable n)
  | n + 1, .klst ds => ds.all (eqable n)
  | _, _ => false
theorem nrmL_len : ∀ {ds : List D}, (nrmL ds).length = ds.length
  | [] => rfl
  | _ :: ds => by unfold nrmL; rw [List.length_cons, List.length_cons, nrmL_len]
theorem nrmL_get : ∀ {ds : List D} {j : Nat}, (nrmL ds)[j]? = ds[j]?.map nrm
  | [], j => by unfold nrmL; simp
  | d :: ds, 0 => by unfold nrmL; simp
  | d :: ds, j + 1 => by unfold nrmL; simp; exact nrmL_get
theorem eqNs_range : ∀ {as bs : List D}, eqNs as bs = ((List.range (min as.length bs.length)).all (fun j => match as[j]?, bs[j]? with | some a, some b => eqN a b | _, _ => true) && as.length == bs.length)
  | [], [] => rfl
  | [], b :: bs => by unfold eqNs; simp
  | a :: as, [] => by unfold eqNs; simp
  | a :: as, b :: bs => by
    unfold eqNs
    rw [eqNs_range (as := as) (bs := bs)]
    have e1 : min (a :: as).length (b :: bs).length = min as.length bs.length + 1 := by simp only [List.length_cons]; omega
    have e2 : ((a :: as).length == (b :: bs).length) = (as.length == bs.length) := by simp
    rw [e1, e2, List.range_succ_eq_map, List.all_cons, List.all_map, Bool.and_assoc]
    congr 1
mutual
theorem eqN_refl : ∀ (n : Nat) {d : D}, eqable n d = true → eqN (nrm d) (nrm d) = true
  | n, .non, _ => rfl
  | n, .bl _, _ => by unfold nrm eqN; simp
  | n, .int _, _ => by unfold nrm eqN; simp
  | n, .str _, _ => by unfold nrm eqN; simp
  | n + 1, .tup ds, h => by unfold nrm eqN; exact eqNs_refl n (by unfold eqable at h; exact h)
  | n + 1, .ktup ds, h => by unfold nrm eqN; exact eqNs_refl n (by unfold eqable at h; exact h)
  | n + 1, .lst ds, h => by unfold nrm eqN; exact eqNs_refl n (by unfold eqable at h; exact h)
  | n + 1, .klst ds, h => by unfold nrm eqN; exact eqNs_refl n (by unfold eqable at h; exact h)
  | 0, .tup _, h => by unfold eqable at h; cases h
  | 0, .ktup _, h => by unfold eqable at h; cases h
  | 0, .lst _, h => by unfold eqable at h; cases h
  | 0, .klst _, h => by unfold eqable at h; cases h
  | _, .dK _ _, h => by unfold eqable at h; cases h
  | _, .dT _ _, h => by unfold eqable at h; cases h
  | _, .set _, h => by unfold eqable at h; cases h
  | _, .rng _ _, h => by unfold eqable at h; cases h
  | _, .exc _, h => by unfold eqable at h; cases h
theorem eqNs_refl : ∀ (n : Nat) {ds : List D}, ds.all (eqable n) = true → eqNs (nrmL ds) (nrmL ds) = true
  | n, [], _ => rfl
  | n, d :: ds, h => by
    rw [List.all_cons] at h
    have h := (Bool.and_eq_true _ _).mp h
    unfold nrmL eqNs
    rw [eqN_refl n h.1, eqNs_refl n h.2]
    rfl
end
section
variable {X : Cx} {pins : List (Addr × Obj)} {σ : St} {H : Hp} {s : Shared}
inductive Vw (K : PySem.W.Frag) (H : Hp) (s : Shared) : Nat → D → V → Value → Prop where
  | non {n} : Vw K H s n .non .non .none
  | bl {n} (b : Bool) : Vw K H s n (.bl b) (.bl b) (.bool b)
  | int {n} (i : Int) (t : Tok) : Vw K H s n (.int i) (.int i) (.int i t)
  | str {n} (x : Str) (t : Tok) : Vw K H s n (.str x) (.str x) (.str x t)
  | tu {n} {d : D} {ds : List D} {p : Addr} {xs : List V} {its : List Value} (hd : nrm d = .tup (nrmL ds)) (ht : s.heap.IsTuple p its.toArray) (hv : Vals xs its) (hr : RepDs K H ds xs) (he : ds.all (eqable n) = true) : Vw K H s (n + 1) d (.ref p) (.ref p)
  | li {n} {d : D} {ds : List D} {p : Addr} {xs : List V} {its : List Value} (hd : nrm d = .lst (nrmL ds)) (ht : s.heap.IsList p its.toArray) (hv : Vals xs its) (hr : RepDs K H ds xs) (he : ds.all (eqable n) = true) : Vw K H s (n + 1) d (.ref p) (.ref p)
theorem vw_of (I : Inv X pins σ H s) {n : Nat} {d : D} {v : V} {u : Value} (he : eqable n d = true) (r : RepD X.K H d v) (ru : RelV v u) : Vw X.K H s n d v u := by
  have z0 : n = 0 ∨ ∃ m, n = m + 1 := by cases n with | zero => exact .inl rfl | succ m => exact .inr ⟨m, rfl⟩
  cases d with
  | non => cases r; cases ru; exact .non
  | bl b => cases r; cases ru; exact .bl b
  | int i => cases r; obtain ⟨t, rfl⟩ := ru; exact .int i t
  | str x => cases r; obtain ⟨t, rfl⟩ := ru; exact .str x t
  | tup ds =>
    obtain ⟨p, xs, rfl, h1, h2⟩ := r
    cases ru
    rcases z0 with rfl | ⟨m, rfl⟩
    · unfold eqable at he; cases he
    · obtain ⟨its, rv, pl, _⟩ := I.tuple (X := X) (.inl (.inl h1))
      exact .tu (by unfold nrm; rfl) pl rv h2 (by unfold eqable at he; exact he)
  | ktup ds =>
    obtain ⟨p, xs, rfl, h1, h2⟩ := r
    cases ru
    rcases z0 with rfl | ⟨m, rfl⟩
    · unfold eqable at he; cases he
    · obtain ⟨its, rv, pl, _⟩ := I.tuple (X := X) (ktup_sq h1)
      exact .tu (by unfold nrm; rfl) pl rv h2 (by unfold eqable at he; exact he)
  | lst ds =>
    obtain ⟨p, xs, rfl, h1, h2⟩ := r
    cases ru
    rcases z0 with rfl | ⟨m, rfl⟩
    · unfold eqable at he; cases he
    · obtain ⟨its, rv, pl, _⟩ := I.list (X := X) (.inl (.inl h1))
      exact .li (by unfold nrm; rfl) pl.isList rv h2 (by unfold eqable at he; exact he)
  | klst ds =>
    obtain ⟨p, xs, rfl, h1, h2⟩ := r
    cases ru
    rcases z0 with rfl | ⟨m, rfl⟩
    · unfold eqable at he; cases he
    · obtain ⟨its, rv, pl, _⟩ := I.list h1
      exact .li (by unfold nrm; rfl) pl.isList rv h2 (by unfold eqable at he; exact he)
  | dK _ _ => unfold eqable at he; cases he
  | dT _ _ => unfold eqable at he; cases he
  | set _ => unfold eqable at he; cases he
  | rng _ _ => unfold eqable at he; cases he
  | exc _ => unfold eqable at he; cases he
theorem isTuple_inj {p : Addr} {a b : List Value} (h1 : s.heap.IsTuple p a.toArray) (h2 : s.heap.IsTuple p b.toArray) : a = b := by
  obtain ⟨o, e1, _, n, d1⟩ := h1
  obtain ⟨o2, e2, _, n2, d2⟩ := h2
  rw [e1] at e2
  cases e2
  rw [d1] at d2
  have := (Data.seq.inj d2).1
  simpa using congrArg Array.toList this
theorem isList_inj {p : Addr} {a b : List Value} (h1 : s.heap.IsList p a.toArray) (h2 : s.heap.IsList p b.toArray) : a = b := by
  obtain ⟨o, e1, _, n, d1⟩ := h1
  obtain ⟨o2, e2, _, n2, d2⟩ := h2
  rw [e1] at e2
  cases e2
  rw [d1] at d2
  have := (Data.seq.inj d2).1
  simpa using congrArg Array.toList this
theorem vals_get {xs : List V} {its : List Value} (r : Vals xs its) {j : Nat} (h : j < its.length) : ∃ x, xs[j]? = some x ∧ RelV x its[j] := by
  have hx : j < xs.length := by rw [r.length]; exact h
  obtain ⟨u, e, ru⟩ := r.get (List.getElem?_eq_getElem hx)
  rw [List.getElem?_eq_getElem h] at e
  cases e
  exact ⟨_, List.getElem?_eq_getElem hx, ru⟩
theorem rep_same (I : Inv X pins σ H s) : ∀ (n m : Nat) {d e : D} {v : V} {u : Value}, eqable n d = true → eqable m e = true → RepD X.K H d v → RepD X.K H e v → RelV v u → nrm d = nrm e
  | n, m, d, e, v, u, h1, h2, r1, r2, ru => by
    have v1 := vw_of I h1 r1 ru
    have v2 := vw_of I h2 r2 ru
    cases v1 with
    | non => cases v2; rfl
    | bl b => cases v2; rfl
    | int i t => cases v2; rfl
    | str x t => cases v2; rfl
    | @tu n _ ds p xs its hd ht hv hr he =>
      cases v2 with
      | @tu m _ es _ ys jts hd2 ht2 hv2 hr2 he2 =>
        have := isTuple_inj ht ht2
        subst this
        have exy : xs = ys := hv.inj hv2
        subst exy
        rw [hd, hd2]
        congr 1
        apply List.ext_getElem?
        intro j
        rw [nrmL_get, nrmL_get]
        have l1 := hr.len
        have l2 := hr2.len
        by_cases hj : j < xs.length
        · obtain ⟨d', e1, q1⟩ := hr.get' (List.getElem?_eq_getElem hj)
          obtain ⟨e', e2, q2⟩ := hr2.get' (List.getElem?_eq_getElem hj)
          rw [e1, e2]
          have hji : j < its.length := by rw [← hv.length]; exact hj
          obtain ⟨x, ex, rx⟩ := vals_get hv hji
          rw [List.getElem?_eq_getElem hj] at ex
          cases ex
          exact congrArg some (rep_same I n m (List.all_eq_true.mp he _ (List.mem_of_getElem? e1)) (List.all_eq_true.mp he2 _ (List.mem_of_getElem? e2)) q1 q2 rx)
        · rw [List.getElem?_eq_none (by omega), List.getElem?_eq_none (by omega)]
      | li hd2 ht2 hv2 hr2 he2 => exact absurd rfl (SeqAt.ne_of_list_tuple ht2 ht)
    | @li n _ ds p xs its hd ht hv hr he =>
      cases v2 with
      | tu hd2 ht2 hv2 hr2 he2 => exact absurd rfl (SeqAt.ne_of_list_tuple ht ht2)
      | @li m _ es _ ys jts hd2 ht2 hv2 hr2 he2 =>
        have := isList_inj ht ht2
        subst this
        have exy : xs = ys := hv.inj hv2
        subst exy
        rw [hd, hd2]
        congr 1
        apply List.ext_getElem?
        intro j
        rw [nrmL_get, nrmL_get]
        have l1 := hr.len
        have l2 := hr2.len
        by_cases hj : j < xs.length
        · obtain ⟨d', e1, q1⟩ := hr.get' (List.getElem?_eq_getElem hj)
          obtain ⟨e', e2, q2⟩ := hr2.get' (List.getElem?_eq_getElem hj)
          rw [e1, e2]
          have hji : j < its.length := by rw [← hv.length]; exact hj
          obtain ⟨x, ex, rx⟩ := vals_get hv hji
          rw [List.getElem?_eq_getElem hj] at ex
          cases ex
          exact congrArg some (rep_same I n m (List.all_eq_true.mp he _ (List.mem_of_getElem? e1)) (List.all_eq_true.mp he2 _ (List.mem_of_getElem? e2)) q1 q2 rx)
        · rw [List.getElem?_eq_none (by omega), List.getElem?_eq_none (by omega)]
  termination_by n => n
theorem range_all_congr {n : Nat} {f g : Nat → Bool} (h : ∀ j, j < n → f j = g j) : (List.range n).all f = (List.range n).all g := by
  rw [Bool.eq_iff_iff, List.all_eq_true, List.all_eq_true]
  constructor
  · intro z x hx; rw [← h x (List.mem_range.mp hx)]; exact z x hx
  · intro z x hx; rw [h x (List.mem_range.mp hx)]; exact z x hx
def itemEq (ds es : List D) (j : Nat) : Bool := match ds[j]?, es[j]? with
  | some a, some b => eqD a b
  | _, _ => true
theorem seq_all {ds es : List D} : eqNs (nrmL ds) (nrmL es) = ((List.range (min ds.length es.length)).all (itemEq ds es) && ds.length == es.length) := by
  rw [eqNs_range, nrmL_len, nrmL_len]
  congr 1
  refine range_all_congr fun j hj => ?_
  have h1 : j < ds.length := by omega
  have h2 : j < es.length := by omega
  rw [nrmL_get, nrmL_get]
  unfold itemEq eqD
  rw [List.getElem?_eq_getElem h1, List.getElem?_eq_getElem h2]
  rfl
theorem eqAt (I : Inv X pins σ H s) : ∀ (n : Nat) {A : Around} {d e : D} {v v' : V} {u w : Value}, A.units + n < cLine → eqable n d = true → eqable n e = true → RepD X.K H d v → RepD X.K H e v' → RelV v u → RelV v' w → SeqAt.EqAt A s u w (eqD d e)
  | n, A, d, e, v, v', u, w, hu0, h1, h2, r1, r2, ru, rw' => by
    have hu : A.units < cLine := by omega
    have v1 := vw_of I h1 r1 ru
    have v2 := vw_of I h2 r2 rw'
    unfold eqD
    cases v1 with
    | non =>
      cases v2 with
      | non => exact SeqAt.EqAt.same _
      | bl b2 => exact SeqAt.EqAt.none_bool b2
      | int i2 t2 => exact SeqAt.EqAt.none_int i2 t2
      | str x2 t2 => exact SeqAt.EqAt.none_str x2 t2
      | tu hd2 ht2 hv2 hr2 he2 => rw [hd2]; exact SeqAt.EqAt.none_tuple ht2 hu
      | li hd2 ht2 hv2 hr2 he2 => rw [hd2]; exact SeqAt.EqAt.none_list ht2 hu
    | bl b1 =>
      cases v2 with
      | non => exact SeqAt.EqAt.bool_none b1
      | bl b2 => exact SeqAt.EqAt.bool_bool b1 b2
      | int i2 t2 => exact SeqAt.EqAt.bool_int b1 i2 t2
      | str x2 t2 => exact SeqAt.EqAt.bool_str b1 x2 t2
      | tu hd2 ht2 hv2 hr2 he2 => rw [hd2]; exact SeqAt.EqAt.bool_tuple b1 ht2 hu
      | li hd2 ht2 hv2 hr2 he2 => rw [hd2]; exact SeqAt.EqAt.bool_list b1 ht2 hu
    | int i1 t1 =>
      cases v2 with
      | non => exact SeqAt.EqAt.int_none i1 t1
      | bl b2 => exact SeqAt.EqAt.int_bool i1 t1 b2
      | int i2 t2 => exact SeqAt.EqAt.int_int i1 t1 i2 t2
      | str x2 t2 => exact SeqAt.EqAt.int_str i1 t1 x2 t2
      | tu hd2 ht2 hv2 hr2 he2 => rw [hd2]; exact SeqAt.EqAt.int_tuple i1 t1 ht2 hu
      | li hd2 ht2 hv2 hr2 he2 => rw [hd2]; exact SeqAt.EqAt.int_list i1 t1 ht2 hu
    | str x1 t1 =>
      cases v2 with
      | non => exact SeqAt.EqAt.str_none x1 t1
      | bl b2 => exact SeqAt.EqAt.str_bool x1 t1 b2
      | int i2 t2 => exact SeqAt.EqAt.str_int x1 t1 i2 t2
      | str x2 t2 => exact SeqAt.EqAt.str_str x1 t1 x2 t2
      | tu hd2 ht2 hv2 hr2 he2 => rw [hd2]; exact SeqAt.EqAt.str_tuple x1 t1 ht2 hu
      | li hd2 ht2 hv2 hr2 he2 => rw [hd2]; exact SeqAt.EqAt.str_list x1 t1 ht2 hu
    | @tu n _ ds p xs its hd ht hv hr he =>
      cases v2 with
      | non => rw [hd]; exact SeqAt.EqAt.tuple_none ht hu
      | bl b2 => rw [hd]; exact SeqAt.EqAt.tuple_bool b2 ht hu
      | int i2 t2 => rw [hd]; exact SeqAt.EqAt.tuple_int i2 t2 ht hu
      | str x2 t2 => rw [hd]; exact SeqAt.EqAt.tuple_str x2 t2 ht hu
      | @tu _ _ es q ys jts hd2 ht2 hv2 hr2 he2 =>
        by_cases epq : p = q
        · subst epq
          have z : nrm d = nrm e := rep_same I (n + 1) (n + 1) h1 h2 r1 r2 rfl
          rw [← z, eqN_refl (n + 1) h1]
          exact SeqAt.EqAt.same _
        · refine SeqAt.EqAt.of_refs epq ?_
          have hhe : ∀ j (h1 : j < its.toArray.size) (h2 : j < jts.toArray.size), SeqAt.EqAt A.in1 s its.toArray[j] jts.toArray[j] (itemEq ds es j) := fun j h1 h2 => by
            have h1' : j < its.length := by simpa using h1
            have h2' : j < jts.length := by simpa using h2
            obtain ⟨x, ex, rx⟩ := vals_get hv h1'
            obtain ⟨y, ey, ry⟩ := vals_get hv2 h2'
            obtain ⟨d', e1, q1⟩ := hr.get' ex
            obtain ⟨e', e2, q2⟩ := hr2.get' ey
            have z := eqAt I n (A := A.in1) (by show A.units + 1 + n < cLine; omega) (List.all_eq_true.mp he _ (List.mem_of_getElem? e1)) (List.all_eq_true.mp he2 _ (List.mem_of_getElem? e2)) q1 q2 rx ry
            have e3 : itemEq ds es j = eqD d' e' := by unfold itemEq; rw [e1, e2]
            rw [e3]
            simpa using z
          have l1 : its.toArray.size = ds.length := by rw [List.size_toArray, ← hv.length, ← hr.len]
          have l2 : jts.toArray.size = es.length := by rw [List.size_toArray, ← hv2.length, ← hr2.len]
          have z := SeqAt.RcAt.tuples ht ht2 hu hhe
          rw [l1, l2] at z
          rw [hd, hd2]
          show SeqAt.RcAt A s (.ref p) (.ref q) ((eqNs (nrmL ds) (nrmL es)))
          rw [seq_all]
          exact z
      | li hd2 ht2 hv2 hr2 he2 => rw [hd, hd2]; exact SeqAt.EqAt.tuple_list ht ht2 hu
    | @li n _ ds p xs its hd ht hv hr he =>
      cases v2 with
      | non => rw [hd]; exact SeqAt.EqAt.list_none ht hu
      | bl b2 => rw [hd]; exact SeqAt.EqAt.list_bool b2 ht hu
      | int i2 t2 => rw [hd]; exact SeqAt.EqAt.list_int i2 t2 ht hu
      | str x2 t2 => rw [hd]; exact SeqAt.EqAt.list_str x2 t2 ht hu
      | tu hd2 ht2 hv2 hr2 he2 => rw [hd, hd2]; exact SeqAt.EqAt.list_tuple ht ht2 hu
      | @li _ _ es q ys jts hd2 ht2 hv2 hr2 he2 =>
        by_cases epq : p = q
        · subst epq
          have z : nrm d = nrm e := rep_same I (n + 1) (n + 1) h1 h2 r1 r2 rfl
          rw [← z, eqN_refl (n + 1) h1]
          exact SeqAt.EqAt.same _
        · refine SeqAt.EqAt.of_refs epq ?_
          have hhe : ∀ j (h1 : j < its.toArray.size) (h2 : j < jts.toArray.size), SeqAt.EqAt A.in1 s its.toArray[j] jts.toArray[j] (itemEq ds es j) := fun j h1 h2 => by
            have h1' : j < its.length := by simpa using h1
            have h2' : j < jts.length := by simpa using h2
            obtain ⟨x, ex, rx⟩ := vals_get hv h1'
            obtain ⟨y, ey, ry⟩ := vals_get hv2 h2'
            obtain ⟨d', e1, q1⟩ := hr.get' ex
            obtain ⟨e', e2, q2⟩ := hr2.get' ey
            have z := eqAt I n (A := A.in1) (by show A.units + 1 + n < cLine; omega) (List.all_eq_true.mp he _ (List.mem_of_getElem? e1)) (List.all_eq_true.mp he2 _ (List.mem_of_getElem? e2)) q1 q2 rx ry
            have e3 : itemEq ds es j = eqD d' e' := by unfold itemEq; rw [e1, e2]
            rw [e3]
            simpa using z
          have l1 : its.toArray.size = ds.length := by rw [List.size_toArray, ← hv.length, ← hr.len]
          have l2 : jts.toArray.size = es.length := by rw [List.size_toArray, ← hv2.length, ← hr2.len]
          rw [hd, hd2]
          show SeqAt.RcAt A s (.ref p) (.ref q) ((eqNs (nrmL ds) (nrmL es)))
          by_cases hl : ds.length = es.length
          · have z := SeqAt.RcAt.lists ht ht2 (by rw [l1, l2]; exact hl) hu hhe
            rw [l1] at z
            rw [seq_all, ← hl, Nat.min_self, beq_self_eq_true, Bool.and_true]
            exact z
          · have z := SeqAt.RcAt.lists_lengths ht ht2 (by rw [l1, l2]; simpa using hl) hu
            rw [seq_all, beq_eq_false_iff_ne.mpr hl, Bool.and_false]
            exact z
  termination_by n => n
theorem rcAt (I : Inv X pins σ H s) (n : Nat) {A : Around} {d e : D} {v v' : V} {u w : Value} (hu0 : A.units + n < cLine) (h1 : eqable n d = true) (h2 : eqable n e = true) (r1 : RepD X.K H d v) (r2 : RepD X.K H e v') (ru : RelV v u) (rw' : RelV v' w) : SeqAt.RcAt A s u w (eqD d e) := by
    have hu : A.units < cLine := by omega
    have v1 := vw_of I h1 r1 ru
    have v2 := vw_of I h2 r2 rw'
    unfold eqD
    cases v1 with
    | non =>
      cases v2 with
      | non => exact SeqAt.RcAt.none_none
      | bl b2 => exact SeqAt.RcAt.none_bool b2
      | int i2 t2 => exact SeqAt.RcAt.none_int i2 t2
      | str x2 t2 => exact SeqAt.RcAt.none_str x2 t2
      | tu hd2 ht2 hv2 hr2 he2 => rw [hd2]; exact SeqAt.RcAt.none_tuple ht2 hu
      | li hd2 ht2 hv2 hr2 he2 => rw [hd2]; exact SeqAt.RcAt.none_list ht2 hu
    | bl b1 =>
      cases v2 with
      | non => exact SeqAt.RcAt.bool_none b1
      | bl b2 => exact SeqAt.RcAt.bool_bool b1 b2
      | int i2 t2 => exact SeqAt.RcAt.bool_int b1 i2 t2
      | str x2 t2 => exact SeqAt.RcAt.bool_str b1 x2 t2
      | tu hd2 ht2 hv2 hr2 he2 => rw [hd2]; exact SeqAt.RcAt.bool_tuple b1 ht2 hu
      | li hd2 ht2 hv2 hr2 he2 => rw [hd2]; exact SeqAt.RcAt.bool_list b1 ht2 hu
    | int i1 t1 =>
      cases v2 with
      | non => exact SeqAt.RcAt.int_none i1 t1
      | bl b2 => exact SeqAt.RcAt.int_bool i1 t1 b2
      | int i2 t2 => exact SeqAt.RcAt.int_int i1 t1 i2 t2
      | str x2 t2 => exact SeqAt.RcAt.int_str i1 t1 x2 t2
      | tu hd2 ht2 hv2 hr2 he2 => rw [hd2]; exact SeqAt.RcAt.int_tuple i1 t1 ht2 hu
      | li hd2 ht2 hv2 hr2 he2 => rw [hd2]; exact SeqAt.RcAt.int_list i1 t1 ht2 hu
    | str x1 t1 =>
      cases v2 with
      | non => exact SeqAt.RcAt.str_none x1 t1
      | bl b2 => exact SeqAt.RcAt.str_bool x1 t1 b2
      | int i2 t2 => exact SeqAt.RcAt.str_int x1 t1 i2 t2
      | str x2 t2 => exact SeqAt.RcAt.str_str x1 t1 x2 t2
      | tu hd2 ht2 hv2 hr2 he2 => rw [hd2]; exact SeqAt.RcAt.str_tuple x1 t1 ht2 hu
      | li hd2 ht2 hv2 hr2 he2 => rw [hd2]; exact SeqAt.RcAt.str_list x1 t1 ht2 hu
    | @tu n _ ds p xs its hd ht hv hr he =>
      cases v2 with
      | non => rw [hd]; exact SeqAt.RcAt.tuple_none ht hu
      | bl b2 => rw [hd]; exact SeqAt.RcAt.tuple_bool b2 ht hu
      | int i2 t2 => rw [hd]; exact SeqAt.RcAt.tuple_int i2 t2 ht hu
      | str x2 t2 => rw [hd]; exact SeqAt.RcAt.tuple_str x2 t2 ht hu
      | @tu _ _ es q ys jts hd2 ht2 hv2 hr2 he2 =>
        have hhe : ∀ j (h1 : j < its.toArray.size) (h2 : j < jts.toArray.size), SeqAt.EqAt A.in1 s its.toArray[j] jts.toArray[j] (itemEq ds es j) := fun j h1 h2 => by
          have h1' : j < its.length := by simpa using h1
          have h2' : j < jts.length := by simpa using h2
          obtain ⟨x, ex, rx⟩ := vals_get hv h1'
          obtain ⟨y, ey, ry⟩ := vals_get hv2 h2'
          obtain ⟨d', e1, q1⟩ := hr.get' ex
          obtain ⟨e', e2, q2⟩ := hr2.get' ey
          have z := eqAt I n (A := A.in1) (by show A.units + 1 + n < cLine; omega) (List.all_eq_true.mp he _ (List.mem_of_getElem? e1)) (List.all_eq_true.mp he2 _ (List.mem_of_getElem? e2)) q1 q2 rx ry
          have e3 : itemEq ds es j = eqD d' e' := by unfold itemEq; rw [e1, e2]
          rw [e3]
          simpa using z
        have l1 : its.toArray.size = ds.length := by rw [List.size_toArray, ← hv.length, ← hr.len]
        have l2 : jts.toArray.size = es.length := by rw [List.size_toArray, ← hv2.length, ← hr2.len]
        have z := SeqAt.RcAt.tuples ht ht2 hu hhe
        rw [l1, l2] at z
        rw [hd, hd2]
        show SeqAt.RcAt A s (.ref p) (.ref q) ((eqNs (nrmL ds) (nrmL es)))
        rw [seq_all]
        exact z
      | li hd2 ht2 hv2 hr2 he2 => rw [hd, hd2]; exact SeqAt.RcAt.tuple_list ht ht2 hu
    | @li n _ ds p xs its hd ht hv hr he =>
      cases v2 with
      | non => rw [hd]; exact SeqAt.RcAt.list_none ht hu
      | bl b2 => rw [hd]; exact SeqAt.RcAt.list_bool b2 ht hu
      | int i2 t2 => rw [hd]; exact SeqAt.RcAt.list_int i2 t2 ht hu
      | str x2 t2 => rw [hd]; exact SeqAt.RcAt.list_str x2 t2 ht hu
      | tu hd2 ht2 hv2 hr2 he2 => rw [hd, hd2]; exact SeqAt.RcAt.list_tuple ht ht2 hu
      | @li _ _ es q ys jts hd2 ht2 hv2 hr2 he2 =>
        have hhe : ∀ j (h1 : j < its.toArray.size) (h2 : j < jts.toArray.size), SeqAt.EqAt A.in1 s its.toArray[j] jts.toArray[j] (itemEq ds es j) := fun j h1 h2 => by
          have h1' : j < its.length := by simpa using h1
          have h2' : j < jts.length := by simpa using h2
          obtain ⟨x, ex, rx⟩ := vals_get hv h1'
          obtain ⟨y, ey, ry⟩ := vals_get hv2 h2'
          obtain ⟨d', e1, q1⟩ := hr.get' ex
          obtain ⟨e', e2, q2⟩ := hr2.get' ey
          have z := eqAt I n (A := A.in1) (by show A.units + 1 + n < cLine; omega) (List.all_eq_true.mp he _ (List.mem_of_getElem? e1)) (List.all_eq_true.mp he2 _ (List.mem_of_getElem? e2)) q1 q2 rx ry
          have e3 : itemEq ds es j = eqD d' e' := by unfold itemEq; rw [e1, e2]
          rw [e3]
          simpa using z
        have l1 : its.toArray.size = ds.length := by rw [List.size_toArray, ← hv.length, ← hr.len]
        have l2 : jts.toArray.size = es.length := by rw [List.size_toArray, ← hv2.length, ← hr2.len]
        rw [hd, hd2]
        show SeqAt.RcAt A s (.ref p) (.ref q) ((eqNs (nrmL ds) (nrmL es)))
        by_cases hl : ds.length = es.length
        · have z := SeqAt.RcAt.lists ht ht2 (by rw [l1, l2]; exact hl) hu hhe
          rw [l1] at z
          rw [seq_all, ← hl, Nat.min_self, beq_self_eq_true, Bool.and_true]
          exact z
        · have z := SeqAt.RcAt.lists_lengths ht ht2 (by rw [l1, l2]; simpa using hl) hu
          rw [seq_all, beq_eq_false_iff_ne.mpr hl, Bool.and_false]
          exact z
theorem neAt (I : Inv X pins σ H s) (n : Nat) {A : Around} {d e : D} {v v' : V} {u w : Value} (hu0 : A.units + n < cLine) (h1 : eqable n d = true) (h2 : eqable n e = true) (r1 : RepD X.K H d v) (r2 : RepD X.K H e v') (ru : RelV v u) (rw' : RelV v' w) : SeqAt.RcNeAt A s u w (!(eqD d e)) := by
    have hu : A.units < cLine := by omega
    have v1 := vw_of I h1 r1 ru
    have v2 := vw_of I h2 r2 rw'
    unfold eqD
    cases v1 with
    | non =>
      cases v2 with
      | non => exact SeqAt.RcNeAt.none_none
      | bl b2 => exact SeqAt.RcNeAt.none_bool b2
      | int i2 t2 => exact SeqAt.RcNeAt.none_int i2 t2
      | str x2 t2 => exact SeqAt.RcNeAt.none_str x2 t2
      | tu hd2 ht2 hv2 hr2 he2 => rw [hd2]; exact SeqAt.RcNeAt.none_tuple ht2 hu
      | li hd2 ht2 hv2 hr2 he2 => rw [hd2]; exact SeqAt.RcNeAt.none_list ht2 hu
    | bl b1 =>
      cases v2 with
      | non => exact SeqAt.RcNeAt.bool_none b1
      | bl b2 => exact SeqAt.RcNeAt.bool_bool b1 b2
      | int i2 t2 => exact SeqAt.RcNeAt.bool_int b1 i2 t2
      | str x2 t2 => exact SeqAt.RcNeAt.bool_str b1 x2 t2
      | tu hd2 ht2 hv2 hr2 he2 => rw [hd2]; exact SeqAt.RcNeAt.bool_tuple b1 ht2 hu
      | li hd2 ht2 hv2 hr2 he2 => rw [hd2]; exact SeqAt.RcNeAt.bool_list b1 ht2 hu
    | int i1 t1 =>
      cases v2 with
      | non => exact SeqAt.RcNeAt.int_none i1 t1
      | bl b2 => exact SeqAt.RcNeAt.int_bool i1 t1 b2
      | int i2 t2 => exact SeqAt.RcNeAt.int_int i1 t1 i2 t2
      | str x2 t2 => exact SeqAt.RcNeAt.int_str i1 t1 x2 t2
      | tu hd2 ht2 hv2 hr2 he2 => rw [hd2]; exact SeqAt.RcNeAt.int_tuple i1 t1 ht2 hu
      | li hd2 ht2 hv2 hr2 he2 => rw [hd2]; exact SeqAt.RcNeAt.int_list i1 t1 ht2 hu
    | str x1 t1 =>
      cases v2 with
      | non => exact SeqAt.RcNeAt.str_none x1 t1
      | bl b2 => exact SeqAt.RcNeAt.str_bool x1 t1 b2
      | int i2 t2 => exact SeqAt.RcNeAt.str_int x1 t1 i2 t2
      | str x2 t2 => exact SeqAt.RcNeAt.str_str x1 t1 x2 t2
      | tu hd2 ht2 hv2 hr2 he2 => rw [hd2]; exact SeqAt.RcNeAt.str_tuple x1 t1 ht2 hu
      | li hd2 ht2 hv2 hr2 he2 => rw [hd2]; exact SeqAt.RcNeAt.str_list x1 t1 ht2 hu
    | @tu n _ ds p xs its hd ht hv hr he =>
      cases v2 with
      | non => rw [hd]; exact SeqAt.RcNeAt.tuple_none ht hu
      | bl b2 => rw [hd]; exact SeqAt.RcNeAt.tuple_bool b2 ht hu
      | int i2 t2 => rw [hd]; exact SeqAt.RcNeAt.tuple_int i2 t2 ht hu
      | str x2 t2 => rw [hd]; exact SeqAt.RcNeAt.tuple_str x2 t2 ht hu
      | @tu _ _ es q ys jts hd2 ht2 hv2 hr2 he2 =>
        have hhe : ∀ j (h1 : j < its.toArray.size) (h2 : j < jts.toArray.size), SeqAt.EqAt A.in1 s its.toArray[j] jts.toArray[j] (itemEq ds es j) := fun j h1 h2 => by
          have h1' : j < its.length := by simpa using h1
          have h2' : j < jts.length := by simpa using h2
          obtain ⟨x, ex, rx⟩ := vals_get hv h1'
          obtain ⟨y, ey, ry⟩ := vals_get hv2 h2'
          obtain ⟨d', e1, q1⟩ := hr.get' ex
          obtain ⟨e', e2, q2⟩ := hr2.get' ey
          have z := eqAt I n (A := A.in1) (by show A.units + 1 + n < cLine; omega) (List.all_eq_true.mp he _ (List.mem_of_getElem? e1)) (List.all_eq_true.mp he2 _ (List.mem_of_getElem? e2)) q1 q2 rx ry
          have e3 : itemEq ds es j = eqD d' e' := by unfold itemEq; rw [e1, e2]
          rw [e3]
          simpa using z
        have l1 : its.toArray.size = ds.length := by rw [List.size_toArray, ← hv.length, ← hr.len]
        have l2 : jts.toArray.size = es.length := by rw [List.size_toArray, ← hv2.length, ← hr2.len]
        have z := SeqAt.RcNeAt.tuples ht ht2 hu hhe
        rw [l1, l2] at z
        rw [hd, hd2]
        show SeqAt.RcNeAt A s (.ref p) (.ref q) (!(eqNs (nrmL ds) (nrmL es)))
        rw [seq_all]
        exact z
      | li hd2 ht2 hv2 hr2 he2 => rw [hd, hd2]; exact SeqAt.RcNeAt.tuple_list ht ht2 hu
    | @li n _ ds p xs its hd ht hv hr he =>
      cases v2 with
      | non => rw [hd]; exact SeqAt.RcNeAt.list_none ht hu
      | bl b2 => rw [hd]; exact SeqAt.RcNeAt.list_bool b2 ht hu
      | int i2 t2 => rw [hd]; exact SeqAt.RcNeAt.list_int i2 t2 ht hu
      | str x2 t2 => rw [hd]; exact SeqAt.RcNeAt.list_str x2 t2 ht hu
      | tu hd2 ht2 hv2 hr2 he2 => rw [hd, hd2]; exact SeqAt.RcNeAt.list_tuple ht ht2 hu
      | @li _ _ es q ys jts hd2 ht2 hv2 hr2 he2 =>
        have hhe : ∀ j (h1 : j < its.toArray.size) (h2 : j < jts.toArray.size), SeqAt.EqAt A.in1 s its.toArray[j] jts.toArray[j] (itemEq ds es j) := fun j h1 h2 => by
          have h1' : j < its.length := by simpa using h1
          have h2' : j < jts.length := by simpa using h2
          obtain ⟨x, ex, rx⟩ := vals_get hv h1'
          obtain ⟨y, ey, ry⟩ := vals_get hv2 h2'
          obtain ⟨d', e1, q1⟩ := hr.get' ex
          obtain ⟨e', e2, q2⟩ := hr2.get' ey
          have z := eqAt I n (A := A.in1) (by show A.units + 1 + n < cLine; omega) (List.all_eq_true.mp he _ (List.mem_of_getElem? e1)) (List.all_eq_true.mp he2 _ (List.mem_of_getElem? e2)) q1 q2 rx ry
          have e3 : itemEq ds es j = eqD d' e' := by unfold itemEq; rw [e1, e2]
          rw [e3]
          simpa using z
        have l1 : its.toArray.size = ds.length := by rw [List.size_toArray, ← hv.length, ← hr.len]
        have l2 : jts.toArray.size = es.length := by rw [List.size_toArray, ← hv2.length, ← hr2.len]
        rw [hd, hd2]
        show SeqAt.RcNeAt A s (.ref p) (.ref q) (!(eqNs (nrmL ds) (nrmL es)))
        by_cases hl : ds.length = es.length
        · have z := SeqAt.RcNeAt.lists ht ht2 (by rw [l1, l2]; exact hl) hu hhe
          rw [l1] at z
          rw [seq_all, ← hl, Nat.min_self, beq_self_eq_true, Bool.and_true]
          exact z
        · have z := SeqAt.RcNeAt.lists_lengths ht ht2 (by rw [l1, l2]; simpa using hl) hu
          rw [seq_all, beq_eq_false_iff_ne.mpr hl, Bool.and_false]
          exact z
end
def gEq : List D → Option (D × Bool)
  | [d, e] => if (eqable 9 d && eqable 9 e) = true then some (.bl (eqD d e), false) else none
  | _ => none
def gNe : List D → Option (D × Bool)
  | [d, e] => if (eqable 9 d && eqable 9 e) = true then some (.bl (!(eqD d e)), false) else none
  | _ => none
def rEqD (K : PySem.W.Frag) : R2 := fun x y H Q => ∃ d e, eqable 9 d = true ∧ eqable 9 e = true ∧ RepD K H d x ∧ RepD K H e y ∧ Q (.bl (eqD d e)) H
def rNeD (K : PySem.W.Frag) : R2 := fun x y H Q => ∃ d e, eqable 9 d = true ∧ eqable 9 e = true ∧ RepD K H d x ∧ RepD K H e y ∧ Q (.bl (!(eqD d e))) H
section
variable {X : Cx}
theorem op_eqD (hu : X.A.units + 9 < cLine) : OpR X (compareOp .Eq) (rEqD X.K) := by
  intro pins s σ H x y v u Q I rx ry h
  obtain ⟨d, e, h1, h2, r1, r2, q⟩ := h
  exact rcAt I 9 hu h1 h2 r1 r2 rx ry _ _ _ _ ⟨.bl _, H, I, rfl, q⟩
theorem op_neD (hu : X.A.units + 9 < cLine) : OpR X (compareOp .NotEq) (rNeD X.K) := by
  intro pins s σ H x y v u Q I rx ry h
  obtain ⟨d, e, h1, h2, r1, r2, q⟩ := h
  exact neAt I 9 hu h1 h2 r1 r2 rx ry _ _ _ _ ⟨.bl _, H, I, rfl, q⟩
end
theorem repBs2 {K : PySem.W.Frag} {H Hh : Hp} {a b : D} {vs : List V} (h : RepBs K H Hh [a, b] vs) : ∃ x y, vs = [x, y] ∧ RepB K H Hh a x ∧ RepB K H Hh b y := by
  match vs, h with
  | [x, y], h => exact ⟨x, y, rfl, h.1, h.2.1⟩
theorem repBs1 {K : PySem.W.Frag} {H Hh : Hp} {a : D} {vs : List V} (h : RepBs K H Hh [a] vs) : ∃ x, vs = [x] ∧ RepB K H Hh a x := by
  match vs, h with
  | [x], h => exact ⟨x, rfl, h.1⟩
theorem os_eq {K : PySem.W.Frag} : OpS K (r2 (rEqD K)) gEq := by
  intro vs ds H L Q d nw hm r e q
  match ds, e with
  | [a, b], e =>
    obtain ⟨x, y, rfl, ra, rb⟩ := repBs2 r
    have e : (if (eqable 9 a && eqable 9 b) = true then some (D.bl (eqD a b), false) else none) = some (d, nw) := e
    split at e
    · rename_i hc
      have hc := (Bool.and_eq_true _ _).mp hc
      cases e
      exact ⟨a, b, hc.1, hc.2, ra.d hid_sub, rb.d hid_sub, q _ H (Same.refl _) rfl⟩
    · cases e
theorem os_ne {K : PySem.W.Frag} : OpS K (r2 (rNeD K)) gNe := by
  intro vs ds H L Q d nw hm r e q
  match ds, e with
  | [a, b], e =>
    obtain ⟨x, y, rfl, ra, rb⟩ := repBs2 r
    have e : (if (eqable 9 a && eqable 9 b) = true then some (D.bl (!(eqD a b)), false) else none) = some (d, nw) := e
    split at e
    · rename_i hc
      have hc := (Bool.and_eq_true _ _).mp hc
      cases e
      exact ⟨a, b, hc.1, hc.2, ra.d hid_sub, rb.d hid_sub, q _ H (Same.refl _) rfl⟩
    · cases e
end L2
namespace L2
open PySem PySem.Spec PyProof.Rows
section
variable {X : Cx}
def rCatD : R2 := fun x y H Q => ∃ a b xs ys, x = .ref a ∧ y = .ref b ∧ H a = some (.tup xs) ∧ H b = some (.tup ys) ∧ xs.length + ys.length ≤ sizeLine ∧
  ∀ p H', H' p = some (.tup (xs ++ ys)) → Same H H' → Q (.ref p) H'
theorem op_catD : OpR X (binaryOp .Add) rCatD := by
  intro pins s σ H x y v u Q I rx ry h
  obtain ⟨a, b, xs, ys, rfl, rfl, ha, hb, hz, q⟩ := h
  by_cases hx : xs = []
  · subst hx
    cases rx
    cases ry
    obtain ⟨its, r1, p1, _⟩ := I.tuple (X := X) (.inl (.inl ha))
    obtain ⟨its2, r2, p2, _⟩ := I.tuple (X := X) (.inl (.inl hb))
    cases r1
    exact cat_nil p1 p2 ⟨.ref b, H, I, rfl, q b H hb (Same.refl H)⟩
  · refine op_catT pins s σ H _ _ v u Q I rx ry ⟨a, b, xs, ys, rfl, rfl, .inl (.inl ha), .inl (.inl hb), hx, hz, fun e => ?_, fun e p hp => ?_⟩
    · subst e
      exact q a H (by rw [List.append_nil]; exact ha) (Same.refl H)
    · exact q p _ upd_same fun c o e' => by rw [upd_ne (ne_of_none e' hp)]; exact e'
def rSlD : RSl := fun x lo hi H Q => ∃ a xs, x = .ref a ∧ H a = some (.tup xs) ∧ ∀ p H', H' p = some (.tup (cutV xs lo hi)) → Same H H' → Q (.ref p) H'
theorem sl_tupD : SlR X rSlD := by
  intro pins s σ H x v vl vu lo hi sl Q I rx hs pl pu h
  obtain ⟨a, xs, rfl, hx, q⟩ := h
  by_cases hw : HT.sIx xs.length 0 lo = 0 ∧ HT.sIx xs.length xs.length hi = xs.length
  · cases rx
    obtain ⟨its, r, ht, hz⟩ := I.tuple (X := X) (.inl (.inl hx))
    have hlen : its.toArray.size = xs.length := by rw [List.size_toArray]; exact r.length.symm
    refine ⟨"tuple", _, PyProof.Rows.slot_tuple_getitem.lookup, ht.typeIs, ?_⟩
    refine HT.getItem_tuple_whole ht hs pl pu (by rw [hlen]; exact hw) ⟨.ref a, H, I, rfl, q a H ?_ (Same.refl H)⟩
    have : cutV xs lo hi = xs := by
      unfold cutV
      rw [hw.1, hw.2, List.drop_zero, Nat.sub_zero, List.take_length]
    rw [this]
    exact hx
  · exact sl_tup pins s σ H _ v vl vu lo hi sl Q I rx hs pl pu ⟨a, xs, rfl, .inl (.inl hx), hw, fun p hp => q p _ upd_same (Same.upd hp)⟩
end
def small (n : Nat) : Bool := decide (n ≤ 1000000)
theorem small_le {n : Nat} (h : small n = true) : n ≤ sizeLine := Nat.le_trans (of_decide_eq_true h) (by decide)
def cutD (xs : List D) (lo hi : Option Int) : List D := (xs.drop (HT.sIx xs.length 0 lo)).take (HT.sIx xs.length xs.length hi - HT.sIx xs.length 0 lo)
theorem RepDs.cut {K : PySem.W.Frag} {H : Hp} {ds : List D} {xs : List V} (h : RepDs K H ds xs) (lo hi : Option Int) : RepDs K H (cutD ds lo hi) (cutV xs lo hi) := by
  unfold cutD cutV
  rw [h.len]
  exact (h.drop _).take _
def okMul (a b : Int) : Bool := decide (-(2 ^ 64) < a ∧ a < 2 ^ 64) || decide (-(2 ^ 64) < b ∧ b < 2 ^ 64)
def gAdd : List D → Option (D × Bool)
  | [.int a, .int b] => some (.int (a + b), false)
  | [.lst a, .lst b] => if small (a.length + b.length) = true then some (.lst (a ++ b), true) else none
  | [.tup a, .tup b] => if small (a.length + b.length) = true then some (.tup (a ++ b), false) else none
  | _ => none
def gMin1 : List D → Option (D × Bool)
  | [.int a, .int b] => some (.int (a - b), false)
  | _ => none
def repL (n : Nat) (l : List D) : List D := (List.replicate n l).flatten
def gMul : List D → Option (D × Bool)
  | [.int a, .int b] => if okMul a b = true then some (.int (a * b), false) else none
  | [.lst a, .int k] => if (decide (-1000000 ≤ k ∧ k ≤ 1000000) && small (a.length * k.toNat)) = true then some (.lst (repL k.toNat a), true) else none
  | _ => none
def gFdiv : List D → Option (D × Bool)
  | [.int a, .int b] => if decide (0 < b ∧ b < 1073741824) = true then some (.int (a / b), false) else none
  | _ => none
def gMod : List D → Option (D × Bool)
  | [.int a, .int b] => if decide (0 < b) = true then some (.int (a % b), false) else none
  | _ => none
def gPow : List D → Option (D × Bool)
  | [.int a, .int b] => if decide (0 ≤ b ∧ b ≤ 1000000 ∧ a.natAbs < 2 ^ 64) = true then some (.int (a ^ b.toNat), false) else none
  | _ => none
def intsOf : List D → Option (List Int)
  | [] => some []
  | .int i :: ds => match intsOf ds with
    | some l => some (i :: l)
    | none => none
  | _ => none
def blsOf : List D → Option (List Bool)
  | [] => some []
  | .bl i :: ds => match blsOf ds with
    | some l => some (i :: l)
    | none => none
  | _ => none
theorem intsOf_eq : ∀ {ds : List D} {l : List Int}, intsOf ds = some l → ds = l.map D.int
  | [], l, h => by unfold intsOf at h; cases h; rfl
  | d :: ds, l, h => by
    cases d <;> first | (unfold intsOf at h; cases h; done) | skip
    unfold intsOf at h
    cases e : intsOf ds with
    | none => rw [e] at h; cases h
    | some l' => rw [e] at h; cases h; rw [intsOf_eq e]; rfl
theorem intsOf_map (l : List Int) : intsOf (l.map D.int) = some l := by
  induction l with
  | nil => rfl
  | cons i l ih => rw [List.map_cons]; unfold intsOf; rw [ih]
theorem blsOf_eq : ∀ {ds : List D} {l : List Bool}, blsOf ds = some l → ds = l.map D.bl
  | [], l, h => by unfold blsOf at h; cases h; rfl
  | d :: ds, l, h => by
    cases d <;> first | (unfold blsOf at h; cases h; done) | skip
    unfold blsOf at h
    cases e : blsOf ds with
    | none => rw [e] at h; cases h
    | some l' => rw [e] at h; cases h; rw [blsOf_eq e]; rfl
theorem blsOf_map (l : List Bool) : blsOf (l.map D.bl) = some l := by
  induction l with
  | nil => rfl
  | cons i l ih => rw [List.map_cons]; unfold blsOf; rw [ih]
def gLt : List D → Option (D × Bool)
  | [.int a, .int b] => some (.bl (decide (a < b)), false)
  | _ => none
def gLe : List D → Option (D × Bool)
  | [.int a, .int b] => some (.bl (decide (a ≤ b)), false)
  | _ => none
def gGt : List D → Option (D × Bool)
  | [.int a, .int b] => some (.bl (decide (b < a)), false)
  | _ => none
def gGe : List D → Option (D × Bool)
  | [.int a, .int b] => some (.bl (decide (b ≤ a)), false)
  | _ => none
section
variable {K : PySem.W.Frag}
theorem repB_int {H Hh : Hp} {i : Int} {v : V} (r : RepB K H Hh (.int i) v) : v = .int i := r
theorem repB_bl {H Hh : Hp} {i : Bool} {v : V} (r : RepB K H Hh (.bl i) v) : v = .bl i := r
theorem new_lst {H : Hp} {L : List Addr} {ds : List D} {xs : List V} (r : RepDs K (hid L H) ds xs) {p : Addr} (hp : H p = none) : PostD K H (upd H p (.lst xs)) L (.lst ds) true (.ref p) :=
  ⟨p, rfl, hp, xs, upd_same, (hid_same (fun b hb => (List.mem_cons.mp hb).elim (fun z => .inr (by rw [z]; exact hp)) .inl) fun b o _ e => Same.upd hp b o e : Same (hid L H) _).repDs r⟩
theorem new_tup {H H' : Hp} {L : List Addr} {ds : List D} {xs : List V} (hm : ∀ p ∈ L, MutO (H p)) (r : RepDs K (hid L H) ds xs) {p : Addr} (s : Same H H') (hp : H' p = some (.tup xs)) : PostD K H H' L (.tup ds) false (.ref p) := by
  refine ⟨p, xs, rfl, ?_, (hid_same (fun b hb => .inl hb) fun b o _ e => s b o e : Same (hid L H) _).repDs r⟩
  rw [hid_ne (fun z => ?_)]
  · exact hp
  · obtain ⟨u, q⟩ := (hm p z).some
    have e := s p u q
    rw [hp] at e
    cases e
    have := hm p z
    rw [q] at this
    exact this
theorem os_add : OpS K (r2 fun x y H Q => rI0 (fun i j => .int (i + j)) x y H Q ∨ rCat x y H Q ∨ rCatD x y H Q) gAdd := by
  intro vs ds H L Q d nw hm r e q
  unfold gAdd at e
  split at e
  · obtain ⟨x, y, rfl, ra, rb⟩ := repBs2 r
    cases e
    exact .inl ⟨_, _, ra, rb, q _ H (Same.refl _) rfl⟩
  · obtain ⟨x, y, rfl, ⟨p, xs, rfl, h1, h2⟩, ⟨p', ys, rfl, h3, h4⟩⟩ := repBs2 r
    split at e
    · rename_i hs
      cases e
      refine .inr (.inl ⟨p, p', xs, ys, rfl, rfl, h1, h3, small_le (by rw [← h2.len, ← h4.len]; exact hs), fun l hl => q _ _ (Same.upd hl) (new_lst (h2.app h4) hl)⟩)
    · cases e
  · obtain ⟨x, y, rfl, ⟨p, xs, rfl, h1, h2⟩, ⟨p', ys, rfl, h3, h4⟩⟩ := repBs2 r
    split at e
    · rename_i hs
      cases e
      exact .inr (.inr ⟨p, p', xs, ys, rfl, rfl, (hid_some h1).2, (hid_some h3).2, small_le (by rw [← h2.len, ← h4.len]; exact hs), fun l H' hl s => q _ _ s (new_tup hm (h2.app h4) s hl)⟩)
    · cases e
  · cases e
theorem os_sub : OpS K (r2 (rI0 fun i j => .int (i - j))) gMin1 := by
  intro vs ds H L Q d nw hm r e q
  unfold gMin1 at e
  split at e
  · obtain ⟨x, y, rfl, ra, rb⟩ := repBs2 r
    cases e
    exact ⟨_, _, ra, rb, q _ H (Same.refl _) rfl⟩
  · cases e
theorem rep_flat : ∀ {H : Hp} {ds : List D} {xs : List V} (n : Nat), RepDs K H ds xs → RepDs K H (repL n ds) (List.replicate n xs).flatten
  | _, _, _, 0, _ => trivial
  | _, _, _, n + 1, h => by
    unfold repL
    rw [List.replicate_succ, List.replicate_succ, List.flatten_cons, List.flatten_cons]
    exact h.app (rep_flat n h)
theorem os_mul : OpS K (r2 fun x y H Q => rI CMul (fun i j => .int (i * j)) x y H Q ∨ rRep x y H Q) gMul := by
  intro vs ds H L Q d nw hm r e q
  unfold gMul at e
  split at e
  · obtain ⟨x, y, rfl, ra, rb⟩ := repBs2 r
    split at e
    · rename_i hs
      cases e
      refine .inl ⟨_, _, ra, rb, ?_, q _ H (Same.refl _) rfl⟩
      rcases (Bool.or_eq_true _ _).mp hs with z | z
      · exact .inl (of_decide_eq_true z)
      · exact .inr (of_decide_eq_true z)
    · cases e
  · rename_i a k
    obtain ⟨x, y, rfl, ⟨p, xs, rfl, h1, h2⟩, rb⟩ := repBs2 r
    split at e
    · rename_i hs
      cases e
      have hs := (Bool.and_eq_true _ _).mp hs
      have hb := of_decide_eq_true hs.1
      refine .inr ⟨p, k, xs, rfl, rb, h1, by omega, by omega, ?_, fun l hl => q _ _ (Same.upd hl) (new_lst (rep_flat k.toNat h2) hl)⟩
      rw [← h2.len]
      exact small_le hs.2
    · cases e
  · cases e
theorem os_fdiv : OpS K (r2 (rI CDiv fun i j => .int (i / j))) gFdiv := by
  intro vs ds H L Q d nw hm r e q
  unfold gFdiv at e
  split at e
  · obtain ⟨x, y, rfl, ra, rb⟩ := repBs2 r
    split at e
    · rename_i hs
      cases e
      exact ⟨_, _, ra, rb, (by have z := of_decide_eq_true hs; exact z), q _ H (Same.refl _) rfl⟩
    · cases e
  · cases e
theorem os_mod : OpS K (r2 (rI (fun _ j => 0 < j) fun i j => .int (i % j))) gMod := by
  intro vs ds H L Q d nw hm r e q
  unfold gMod at e
  split at e
  · obtain ⟨x, y, rfl, ra, rb⟩ := repBs2 r
    split at e
    · rename_i hs
      cases e
      exact ⟨_, _, ra, rb, of_decide_eq_true hs, q _ H (Same.refl _) rfl⟩
    · cases e
  · cases e
theorem os_pow : OpS K (r2 (rI CPow fun i j => .int (i ^ j.toNat))) gPow := by
  intro vs ds H L Q d nw hm r e q
  unfold gPow at e
  split at e
  · obtain ⟨x, y, rfl, ra, rb⟩ := repBs2 r
    split at e
    · rename_i hs
      cases e
      exact ⟨_, _, ra, rb, (by have z := of_decide_eq_true hs; exact z), q _ H (Same.refl _) rfl⟩
    · cases e
  · cases e
theorem os_lt : OpS K (r2 (rI0 fun i j => .bl (decide (i < j)))) gLt := by
  intro vs ds H L Q d nw hm r e q
  unfold gLt at e
  split at e
  · obtain ⟨x, y, rfl, ra, rb⟩ := repBs2 r
    cases e
    exact ⟨_, _, ra, rb, q _ H (Same.refl _) rfl⟩
  · cases e
theorem os_le : OpS K (r2 (rI0 fun i j => .bl (decide (i ≤ j)))) gLe := by
  intro vs ds H L Q d nw hm r e q
  unfold gLe at e
  split at e
  · obtain ⟨x, y, rfl, ra, rb⟩ := repBs2 r
    cases e
    exact ⟨_, _, ra, rb, q _ H (Same.refl _) rfl⟩
  · cases e
theorem os_gt : OpS K (r2 (rI0 fun i j => .bl (decide (j < i)))) gGt := by
  intro vs ds H L Q d nw hm r e q
  unfold gGt at e
  split at e
  · obtain ⟨x, y, rfl, ra, rb⟩ := repBs2 r
    cases e
    exact ⟨_, _, ra, rb, q _ H (Same.refl _) rfl⟩
  · cases e
theorem os_ge : OpS K (r2 (rI0 fun i j => .bl (decide (j ≤ i)))) gGe := by
  intro vs ds H L Q d nw hm r e q
  unfold gGe at e
  split at e
  · obtain ⟨x, y, rfl, ra, rb⟩ := repBs2 r
    cases e
    exact ⟨_, _, ra, rb, q _ H (Same.refl _) rfl⟩
  · cases e
end
def gIx : List D → Option (D × Bool)
  | [.lst ds, .int i] => match atI ds i with
    | some d => some (d, false)
    | none => none
  | [.klst ds, .int i] => match atI ds i with
    | some d => some (d, false)
    | none => none
  | [.tup ds, .int i] => match atI ds i with
    | some d => some (d, false)
    | none => none
  | [.ktup ds, .int i] => match atI ds i with
    | some d => some (d, false)
    | none => none
  | _ => none
def gSl (lo hi : Option Int) : D → Option (D × Bool)
  | .lst ds => some (.lst (cutD ds lo hi), true)
  | .klst ds => some (.lst (cutD ds lo hi), true)
  | .tup ds => some (.tup (cutD ds lo hi), false)
  | _ => none
def gS10 : List D → Option (D × Bool)
  | [d, .int i] => gSl (some i) none d
  | _ => none
def gS01 : List D → Option (D × Bool)
  | [d, .int i] => gSl none (some i) d
  | _ => none
def rSlA (K : PySem.W.Frag) : RSl := fun x lo hi H Q => rSlL K x lo hi H Q ∨ rSlD x lo hi H Q
section
variable {K : PySem.W.Frag}
theorem at_rep {H : Hp} {ds : List D} {xs : List V} {i : Int} {d : D} (r : RepDs K H ds xs) (e : atI ds i = some d) : ∃ v, atI xs i = some v ∧ RepD K H d v := by
  unfold atI at e ⊢
  rw [← r.len]
  cases h : ixN ds.length i with
  | none => rw [h] at e; cases e
  | some j =>
    rw [h] at e
    obtain ⟨x, e1, e2⟩ := r.get (show ds[j]? = some d from e)
    exact ⟨x, e1, e2⟩
theorem os_ix : OpS K (r2 (rIx K)) gIx := by
  intro vs ds H L Q d nw hm r e q
  unfold gIx at e
  split at e
  · rename_i es i
    obtain ⟨x, y, rfl, ⟨p, xs, rfl, h1, h2⟩, rb⟩ := repBs2 r
    cases ea : atI es i with
    | none => rw [ea] at e; cases e
    | some d' =>
      rw [ea] at e; cases e
      obtain ⟨v, e1, e2⟩ := at_rep h2 ea
      exact .inl ⟨p, xs, i, v, rfl, rb, .inl (.inl h1), e1, q v H (Same.refl _) e2⟩
  · rename_i es i
    obtain ⟨x, y, rfl, ⟨p, xs, rfl, h1, h2⟩, rb⟩ := repBs2 r
    cases ea : atI es i with
    | none => rw [ea] at e; cases e
    | some d' =>
      rw [ea] at e; cases e
      obtain ⟨v, e1, e2⟩ := at_rep h2 ea
      exact .inl ⟨p, xs, i, v, rfl, rb, hid_sub.seq h1, e1, q v H (Same.refl _) e2⟩
  · rename_i es i
    obtain ⟨x, y, rfl, ⟨p, xs, rfl, h1, h2⟩, rb⟩ := repBs2 r
    cases ea : atI es i with
    | none => rw [ea] at e; cases e
    | some d' =>
      rw [ea] at e; cases e
      obtain ⟨v, e1, e2⟩ := at_rep h2 ea
      exact .inr (.inl ⟨p, xs, i, v, rfl, rb, .inl (.inl (hid_some h1).2), e1, q v H (Same.refl _) e2⟩)
  · rename_i es i
    obtain ⟨x, y, rfl, ⟨p, xs, rfl, h1, h2⟩, rb⟩ := repBs2 r
    cases ea : atI es i with
    | none => rw [ea] at e; cases e
    | some d' =>
      rw [ea] at e; cases e
      obtain ⟨v, e1, e2⟩ := at_rep h2 ea
      exact .inr (.inl ⟨p, xs, i, v, rfl, rb, ktup_sq h1, e1, q v H (Same.refl _) e2⟩)
  · cases e
theorem sl_of {H : Hp} {L : List Addr} {lo hi : Option Int} {x : V} {c d : D} {nw : Bool} {Q : VK} (hm : ∀ p ∈ L, MutO (H p)) (r : RepB K H (hid L H) c x) (e : gSl lo hi c = some (d, nw)) (q : ∀ v H', Same H H' → PostD K H H' L d nw v → Q v H') : rSlA K x lo hi H Q := by
  unfold gSl at e
  split at e
  · obtain ⟨p, xs, rfl, h1, h2⟩ := r
    cases e
    exact .inl ⟨p, xs, rfl, .inl (.inl h1), fun l hl => q _ _ (Same.upd hl) (new_lst (h2.cut lo hi) hl)⟩
  · obtain ⟨p, xs, rfl, h1, h2⟩ := r
    cases e
    exact .inl ⟨p, xs, rfl, hid_sub.seq h1, fun l hl => q _ _ (Same.upd hl) (new_lst (h2.cut lo hi) hl)⟩
  · obtain ⟨p, xs, rfl, h1, h2⟩ := r
    cases e
    exact .inr ⟨p, xs, rfl, (hid_some h1).2, fun l H' hl s => q _ _ s (new_tup hm (h2.cut lo hi) s hl)⟩
  · cases e
theorem os_s10 : OpS K (rS10 (rSlA K)) gS10 := by
  intro vs ds H L Q d nw hm r e q
  unfold gS10 at e
  split at e
  · obtain ⟨x, y, rfl, ra, rb⟩ := repBs2 r
    exact ⟨_, rb, sl_of hm ra e q⟩
  · cases e
theorem os_s01 : OpS K (rS01 (rSlA K)) gS01 := by
  intro vs ds H L Q d nw hm r e q
  unfold gS01 at e
  split at e
  · obtain ⟨x, y, rfl, ra, rb⟩ := repBs2 r
    exact ⟨_, rb, sl_of hm ra e q⟩
  · cases e
end
section
variable {X : Cx}
theorem op_addA : OpR X (binaryOp .Add) (fun x y H Q => rI0 (fun i j => .int (i + j)) x y H Q ∨ rCat x y H Q ∨ rCatD x y H Q) := op_add.or (op_cat.or op_catD)
theorem op_mulA : OpR X (binaryOp .Mult) (fun x y H Q => rI CMul (fun i j => .int (i * j)) x y H Q ∨ rRep x y H Q) := op_mul.or op_rep
theorem sl_any : SlR X (rSlA X.K) := sl_list.or sl_tupD
end
end L2
namespace L2
open PySem PySem.Spec PyProof.Rows
def ins (x : Int) : List Int → List Int
  | [] => [x]
  | y :: l => if x ≤ y then x :: y :: l else y :: ins x l
def isort : List Int → List Int
  | [] => []
  | x :: l => ins x (isort l)
theorem ins_perm (x : Int) : ∀ l : List Int, (ins x l).Perm (x :: l)
  | [] => .refl _
  | y :: l => by
    unfold ins
    split
    · exact .refl _
    · exact ((ins_perm x l).cons y).trans (.swap x y l)
theorem isort_perm : ∀ l : List Int, (isort l).Perm l
  | [] => .refl _
  | x :: l => (ins_perm x _).trans ((isort_perm l).cons x)
theorem ins_sorted (x : Int) : ∀ {l : List Int}, l.Pairwise (· ≤ ·) → (ins x l).Pairwise (· ≤ ·)
  | [], _ => by unfold ins; simp
  | y :: l, h => by
    unfold ins
    have hy := List.pairwise_cons.mp h
    split
    · rename_i hxy
      exact List.pairwise_cons.mpr ⟨fun z hz => (List.mem_cons.mp hz).elim (fun e => e ▸ hxy) fun hz => Int.le_trans hxy (hy.1 z hz), h⟩
    · rename_i hxy
      refine List.pairwise_cons.mpr ⟨fun z hz => ?_, ins_sorted x hy.2⟩
      rcases List.mem_cons.mp ((ins_perm x l).mem_iff.mp hz) with e | hz
      · rw [e]; omega
      · exact hy.1 z hz
theorem isort_sorted : ∀ l : List Int, (isort l).Pairwise (· ≤ ·)
  | [] => .nil
  | x :: l => ins_sorted x (isort_sorted l)
theorem sorted_unique : ∀ {a b : List Int}, a.Pairwise (· ≤ ·) → b.Pairwise (· ≤ ·) → a.Perm b → a = b
  | [], b, _, _, h => (h.symm.eq_nil).symm ▸ rfl
  | x :: a, [], _, _, h => absurd h.eq_nil (by simp)
  | x :: a, y :: b, h1, h2, h => by
    have g1 := List.pairwise_cons.mp h1
    have g2 := List.pairwise_cons.mp h2
    have e : x = y := by
      have m1 : x ∈ y :: b := h.mem_iff.mp List.mem_cons_self
      have m2 : y ∈ x :: a := h.mem_iff.mpr List.mem_cons_self
      have l1 : y ≤ x := (List.mem_cons.mp m1).elim (fun e => e ▸ Int.le_refl _) (g2.1 x)
      have l2 : x ≤ y := (List.mem_cons.mp m2).elim (fun e => e ▸ Int.le_refl _) (g1.1 y)
      omega
    subst e
    rw [sorted_unique g1.2 g2.2 h.cons_inv]
def maxI : List Int → Int
  | [] => 0
  | [x] => x
  | x :: y :: l => if maxI (y :: l) ≤ x then x else maxI (y :: l)
def minI : List Int → Int
  | [] => 0
  | [x] => x
  | x :: y :: l => if x ≤ minI (y :: l) then x else minI (y :: l)
theorem maxI_is : ∀ {l : List Int}, l ≠ [] → maxI l ∈ l ∧ ∀ a ∈ l, a ≤ maxI l
  | [], h => absurd rfl h
  | [x], _ => by unfold maxI; simp
  | x :: y :: l, _ => by
    obtain ⟨h1, h2⟩ := maxI_is (l := y :: l) (by simp)
    unfold maxI
    split
    · rename_i hx
      exact ⟨List.mem_cons_self, fun a ha => (List.mem_cons.mp ha).elim (fun e => e ▸ Int.le_refl _) fun ha => Int.le_trans (h2 a ha) hx⟩
    · rename_i hx
      exact ⟨List.mem_cons_of_mem _ h1, fun a ha => (List.mem_cons.mp ha).elim (fun e => by rw [e]; omega) (h2 a)⟩
theorem minI_is : ∀ {l : List Int}, l ≠ [] → minI l ∈ l ∧ ∀ a ∈ l, minI l ≤ a
  | [], h => absurd rfl h
  | [x], _ => by unfold minI; simp
  | x :: y :: l, _ => by
    obtain ⟨h1, h2⟩ := minI_is (l := y :: l) (by simp)
    unfold minI
    split
    · rename_i hx
      exact ⟨List.mem_cons_self, fun a ha => (List.mem_cons.mp ha).elim (fun e => e ▸ Int.le_refl _) fun ha => Int.le_trans hx (h2 a ha)⟩
    · rename_i hx
      exact ⟨List.mem_cons_of_mem _ h1, fun a ha => (List.mem_cons.mp ha).elim (fun e => by rw [e]; omega) (h2 a)⟩
def dd (ns : List Int) : List Int := ns.foldl step_dedup []
theorem kinds_dd (ns : List Int) : St2.kinds ns ns.length = dd ns := by
  unfold St2.kinds firstMet dd
  congr 1
  apply List.ext_getElem
  · simp
  · intro i h1 h2
    simp [h2]
theorem dd_any (ns : List Int) (x : Int) : (dd ns).any (· == x) = true ↔ x ∈ ns := by rw [← kinds_dd]; exact St3.kinds_mem ns x
theorem dd_mem (ns : List Int) (x : Int) : x ∈ dd ns ↔ x ∈ ns := by
  rw [← dd_any ns x]
  simp
section
variable {X : Cx}
def rSetTm (K : PySem.W.Frag) : List V → Hp → VK → Prop := fun xs H Q => ∃ (p : Addr) (ns : List Int), xs = [V.ref p] ∧ SqT K H p (ns.map V.int) ∧ ns.length ≤ 1000 ∧
  ∀ l S, H l = none → (∀ x, S x = true ↔ x ∈ ns) → Q (.ref l) (upd H l (.set S (St2.kinds ns ns.length).length))
theorem call_setTm (hc : X.calm = true) : CallR X (.type "set") (rSetTm X.K) := by
  intro pins s σ H xs us Q I r h
  obtain ⟨p, ns, rfl, hq, hn, q⟩ := h
  obtain ⟨u, rfl, ru⟩ := vals1 r
  cases ru
  obtain ⟨its, rv, pt, _⟩ := I.tuple hq
  have ln : its.length = ns.length := by rw [← rv.length, List.length_map]
  refine St2.set_tuple (ns := ns) (I.ok.hd hc) pt (by simpa using intsAre_of rv) (by rw [List.size_toArray, ln]; unfold scanBound; omega) fun h' tk st kp => ?_
  have sz : its.toArray.size = ns.length := by rw [List.size_toArray, ln]
  rw [sz] at st
  have hf : H s.heap.objs.size = none := I.hok.fresh (Nat.le_refl _)
  exact ⟨.ref s.heap.objs.size, _, I.laid (o := .set _ _) (fun b o e => kp b o (Heap.lt_size e) e) (Nat.le_refl _) st, rfl, q _ _ hf (St3.kinds_mem ns)⟩
end
def gLen : List D → Option (D × Bool)
  | [.lst ds] => some (.int ds.length, false)
  | [.klst ds] => some (.int ds.length, false)
  | [.tup ds] => some (.int ds.length, false)
  | [.ktup ds] => some (.int ds.length, false)
  | [.dK ks _] => some (.int ks.length, false)
  | [.dT ks _] => some (.int ks.length, false)
  | [.set l] => if decide (l.length ≤ 1000) = true then some (.int l.length, false) else none
  | _ => none
def rLenD (X : Cx) : List V → Hp → VK → Prop := fun xs H Q => (∃ p ys, xs = [V.ref p] ∧ (SqL X.K H p ys ∨ SqT X.K H p ys) ∧ Q (.int ys.length) H) ∨ (∃ a kvs, xs = [V.ref a] ∧ H a = some (.dK kvs) ∧ Q (.int kvs.length) H) ∨ (∃ a kvs, xs = [V.ref a] ∧ H a = some (.dT kvs) ∧ Q (.int kvs.length) H) ∨ rLenSet xs H Q
theorem call_lenA {X : Cx} : CallR X (.builtin "len") (rLenD X) := call_len_seq.or (call_lenD.or (call_lenT.or call_lenSet))
theorem os_len {X : Cx} : OpS X.K (rLenD X) gLen := by
  intro vs ds H L Q d nw hm r e q
  unfold gLen at e
  split at e
  · obtain ⟨x, rfl, ⟨p, xs, rfl, h1, h2⟩⟩ := repBs1 r
    cases e
    exact .inl ⟨p, xs, rfl, .inl (.inl (.inl h1)), by rw [← h2.len]; exact q _ H (Same.refl _) rfl⟩
  · obtain ⟨x, rfl, ⟨p, xs, rfl, h1, h2⟩⟩ := repBs1 r
    cases e
    exact .inl ⟨p, xs, rfl, .inl (hid_sub.seq h1), by rw [← h2.len]; exact q _ H (Same.refl _) rfl⟩
  · obtain ⟨x, rfl, ⟨p, xs, rfl, h1, h2⟩⟩ := repBs1 r
    cases e
    exact .inl ⟨p, xs, rfl, .inr (.inl (.inl (hid_some h1).2)), by rw [← h2.len]; exact q _ H (Same.refl _) rfl⟩
  · obtain ⟨x, rfl, ⟨p, xs, rfl, h1, h2⟩⟩ := repBs1 r
    cases e
    exact .inl ⟨p, xs, rfl, .inr (ktup_sq h1), by rw [← h2.len]; exact q _ H (Same.refl _) rfl⟩
  · rename_i ks vs'
    obtain ⟨x, rfl, ⟨p, xs, rfl, h1, h2, h3⟩⟩ := repBs1 r
    cases e
    exact .inr (.inl ⟨p, _, rfl, h1, by rw [List.length_zip, ← h2, Nat.min_self]; exact q _ H (Same.refl _) rfl⟩)
  · rename_i ks vs'
    obtain ⟨x, rfl, ⟨p, xs, rfl, h1, h2, h3⟩⟩ := repBs1 r
    cases e
    exact .inr (.inr (.inl ⟨p, _, rfl, h1, by rw [List.length_zip, ← h2, Nat.min_self]; exact q _ H (Same.refl _) rfl⟩))
  · obtain ⟨x, rfl, ⟨p, S, rfl, h1, h2⟩⟩ := repBs1 r
    split at e
    · rename_i hl
      cases e
      exact .inr (.inr (.inr ⟨p, S, _, rfl, (hid_some h1).2, of_decide_eq_true hl, q _ H (Same.refl _) rfl⟩))
    · cases e
  · cases e
def gSum : List D → Option (D × Bool)
  | [.lst ds] => match intsOf ds with
    | some ns => some (.int ns.sum, false)
    | none => none
  | [.tup ds] => match intsOf ds with
    | some ns => some (.int ns.sum, false)
    | none => none
  | _ => none
theorem call_sumA {X : Cx} (hc : X.calm = true) : CallR X (.builtin "sum") (fun xs H Q => rSumL X.K xs H Q ∨ rSumU X.K xs H Q) := (call_sumL hc).or (call_sumU hc)
theorem os_sum {K : PySem.W.Frag} : OpS K (fun xs H Q => rSumL K xs H Q ∨ rSumU K xs H Q) gSum := by
  intro vs ds H L Q d nw hm r e q
  unfold gSum at e
  split at e
  · rename_i es
    obtain ⟨x, rfl, ⟨p, xs, rfl, h1, h2⟩⟩ := repBs1 r
    cases en : intsOf es with
    | none => rw [en] at e; cases e
    | some ns =>
      rw [en] at e; cases e
      rw [intsOf_eq en] at h2
      rw [ints_repDs h2] at h1
      exact .inl ⟨p, ns, rfl, .inl (.inl h1), q _ H (Same.refl _) rfl⟩
  · rename_i es
    obtain ⟨x, rfl, ⟨p, xs, rfl, h1, h2⟩⟩ := repBs1 r
    cases en : intsOf es with
    | none => rw [en] at e; cases e
    | some ns =>
      rw [en] at e; cases e
      rw [intsOf_eq en] at h2
      rw [ints_repDs h2] at h1
      exact .inr ⟨p, ns, rfl, .inl (.inl (hid_some h1).2), q _ H (Same.refl _) rfl⟩
  · cases e
def gAll : List D → Option (D × Bool)
  | [.lst ds] => match blsOf ds with
    | some bs => some (.bl (bs.all id), false)
    | none => none
  | _ => none
def rAllB (K : PySem.W.Frag) : List V → Hp → VK → Prop := fun xs H Q => ∃ (p : Addr) (bs : List Bool), xs = [V.ref p] ∧ SqL K H p (bs.map V.bl) ∧ Q (.bl (bs.all id)) H
theorem call_allA {X : Cx} (hc : X.calm = true) : CallR X (.builtin "all") (rAllB X.K) := call_all hc
theorem os_all {K : PySem.W.Frag} : OpS K (rAllB K) gAll := by
  intro vs ds H L Q d nw hm r e q
  unfold gAll at e
  split at e
  · rename_i es
    obtain ⟨x, rfl, ⟨p, xs, rfl, h1, h2⟩⟩ := repBs1 r
    cases en : blsOf es with
    | none => rw [en] at e; cases e
    | some ns =>
      rw [en] at e; cases e
      rw [blsOf_eq en] at h2
      rw [bls_repDs h2] at h1
      exact ⟨p, ns, rfl, .inl (.inl h1), q _ H (Same.refl _) rfl⟩
  · cases e
def tyD : D → Option String
  | .non => some "NoneType"
  | .bl _ => some "bool"
  | .int _ => some "int"
  | .str _ => some "str"
  | .lst _ => some "list"
  | .klst _ => some "list"
  | .tup _ => some "tuple"
  | .ktup _ => some "tuple"
  | .dK _ _ => some "dict"
  | .dT _ _ => some "dict"
  | _ => none
def gIsi (C : String) : List D → Option (D × Bool)
  | [d] => match tyD d with
    | some T => some (.bl (isiB T C), false)
    | none => none
  | _ => none
theorem tyD_kind {K : PySem.W.Frag} {H Hh : Hp} {d : D} {v : V} {T : String} (r : RepB K H Hh d v) (s : Same Hh H) (e : tyD d = some T) : kindV K H T v := by
  cases d <;> first
    | (unfold tyD at e; cases e; done)
    | (unfold tyD at e; cases e; have r : v = _ := r; subst r; rfl)
    | (unfold tyD at e; cases e; obtain ⟨p, xs, rfl, h1, h2, h3⟩ := r; exact .inr (.inr ⟨rfl, .inl ⟨_, h1⟩⟩))
    | (unfold tyD at e; cases e; obtain ⟨p, xs, rfl, h1, h2, h3⟩ := r; exact .inr (.inr ⟨rfl, .inr ⟨_, h1⟩⟩))
    | (unfold tyD at e; cases e; obtain ⟨p, xs, rfl, h1, h2⟩ := r; exact .inr (.inl ⟨rfl, xs, .inl (.inl (s _ _ h1))⟩))
    | (unfold tyD at e; cases e; obtain ⟨p, xs, rfl, h1, h2⟩ := r; exact .inr (.inl ⟨rfl, xs, ktup_sq h1⟩))
    | (unfold tyD at e; cases e; obtain ⟨p, xs, rfl, h1, h2⟩ := r; exact .inl ⟨rfl, xs, .inl (.inl h1)⟩)
    | (unfold tyD at e; cases e; obtain ⟨p, xs, rfl, h1, h2⟩ := r; exact .inl ⟨rfl, xs, s.seq h1⟩)
def rIsiC (K : PySem.W.Frag) (C : String) : List V → Hp → VK → Prop
  | [x], H, Q => rIsi K [x, .ty C] H Q
  | _, _, _ => False
theorem os_isi {K : PySem.W.Frag} {C : String} (hC : isiC C) : OpS K (rIsiC K C) (gIsi C) := by
  intro vs ds H L Q d nw hm r e q
  unfold gIsi at e
  split at e
  · rename_i c
    obtain ⟨x, rfl, ra⟩ := repBs1 r
    cases et : tyD c with
    | none => rw [et] at e; cases e
    | some T =>
      rw [et] at e; cases e
      exact ⟨x, T, C, rfl, hC, tyD_kind ra hid_sub et, q _ H (Same.refl _) rfl⟩
  · cases e
theorem c_isi {X : Cx} {EX : EXT} {e : Expr} {a : Arg} {C : String} {nC : Str} {p1 p2 pos : Pos} (hC : isiC C) (he : JB X EX e a) (g1 : Gl X "isinstance") (m1 : X.mg "isinstance" = none) (g2 : Gl X nC) (m2 : X.mg nC = none) (b2 : bootBuiltins nC = some (.type C))
    (hn : nC ≠ "__name__" := by decide) (hdb : (nC == ("__debug__" : Str)) = false := by decide)
    (hs : starEach [e, .Name nC p1] X.env = (false, eval e X.env) :: starEach [.Name nC p1] X.env := by rfl) : JE X EX (.Call (.Name "isinstance" p2) [e, .Name nC p1] [] pos) (sOp (gIsi C) [a]) :=
  ⟨(pe_callB call_isi g1 m1 boot_isinstance (pa_cons he.p (pa_cons (pe_bltn (v := .ty C) g2 m2 b2 rfl hn hdb) pa_nil) hs) (he := hs)).by fun σ H Q ⟨F, ρ, W, R, h⟩ => op_args (os_isi hC) R h⟩
def gMax : List D → Option (D × Bool)
  | [.int a, .int b] => some (.int (if b > a then b else a), false)
  | [.lst ds] => match intsOf ds with
    | some (n :: ns) => some (.int (maxI (n :: ns)), false)
    | _ => none
  | _ => none
def gMin : List D → Option (D × Bool)
  | [.int a, .int b] => some (.int (if b < a then b else a), false)
  | [.lst ds] => match intsOf ds with
    | some (n :: ns) => some (.int (minI (n :: ns)), false)
    | _ => none
  | _ => none
def rMax2 : List V → Hp → VK → Prop := fun xs H Q => ∃ i j, xs = [.int i, .int j] ∧ Q (.int (if j > i then j else i)) H
def rMin2 : List V → Hp → VK → Prop := fun xs H Q => ∃ i j, xs = [.int i, .int j] ∧ Q (.int (if j < i then j else i)) H
theorem call_maxA {X : Cx} (hc : X.calm = true) : CallR X (.builtin "max") (fun xs H Q => rMax2 xs H Q ∨ rMaxL X.K xs H Q) := (call_max2 hc).or (call_maxL hc)
theorem call_minA {X : Cx} (hc : X.calm = true) : CallR X (.builtin "min") (fun xs H Q => rMin2 xs H Q ∨ rMinL X.K xs H Q) := (call_min2 hc).or (call_minL hc)
theorem bes_unique {M N : Int} {l : List Int} (h1 : M ∈ l) (h2 : ∀ a ∈ l, a ≤ M) (h3 : N ∈ l) (h4 : ∀ a ∈ l, a ≤ N) : M = N := by have := h2 N h3; have := h4 M h1; omega
theorem les_unique {M N : Int} {l : List Int} (h1 : M ∈ l) (h2 : ∀ a ∈ l, M ≤ a) (h3 : N ∈ l) (h4 : ∀ a ∈ l, N ≤ a) : M = N := by have := h2 N h3; have := h4 M h1; omega
theorem os_max {K : PySem.W.Frag} : OpS K (fun xs H Q => rMax2 xs H Q ∨ rMaxL K xs H Q) gMax := by
  intro vs ds H L Q d nw hm r e q
  unfold gMax at e
  split at e
  · obtain ⟨x, y, rfl, ra, rb⟩ := repBs2 r
    cases e
    exact .inl ⟨_, _, by rw [repB_int ra, repB_int rb], q _ H (Same.refl _) rfl⟩
  · rename_i es
    obtain ⟨x, rfl, ⟨p, xs, rfl, h1, h2⟩⟩ := repBs1 r
    split at e
    · rename_i n ns en
      cases e
      rw [intsOf_eq en] at h2
      rw [ints_repDs h2] at h1
      refine .inr ⟨p, n :: ns, rfl, .inl (.inl h1), by simp, fun M m1 m2 => ?_⟩
      obtain ⟨z1, z2⟩ := maxI_is (l := n :: ns) (by simp)
      rw [bes_unique m1 m2 z1 z2]
      exact q _ H (Same.refl _) rfl
    · cases e
  · cases e
theorem os_min {K : PySem.W.Frag} : OpS K (fun xs H Q => rMin2 xs H Q ∨ rMinL K xs H Q) gMin := by
  intro vs ds H L Q d nw hm r e q
  unfold gMin at e
  split at e
  · obtain ⟨x, y, rfl, ra, rb⟩ := repBs2 r
    cases e
    exact .inl ⟨_, _, by rw [repB_int ra, repB_int rb], q _ H (Same.refl _) rfl⟩
  · rename_i es
    obtain ⟨x, rfl, ⟨p, xs, rfl, h1, h2⟩⟩ := repBs1 r
    split at e
    · rename_i n ns en
      cases e
      rw [intsOf_eq en] at h2
      rw [ints_repDs h2] at h1
      refine .inr ⟨p, n :: ns, rfl, .inl (.inl h1), by simp, fun M m1 m2 => ?_⟩
      obtain ⟨z1, z2⟩ := minI_is (l := n :: ns) (by simp)
      rw [les_unique m1 m2 z1 z2]
      exact q _ H (Same.refl _) rfl
    · cases e
  · cases e
def gSorted : List D → Option (D × Bool)
  | [.lst ds] => match intsOf ds with
    | some ns => if decide (ns.length < 64) = true then some (.lst ((isort ns).map D.int), true) else none
    | none => none
  | [.tup ds] => match intsOf ds with
    | some ns => if decide (ns.length < 64) = true then some (.lst ((isort ns).map D.int), true) else none
    | none => none
  | _ => none
theorem call_sortedA {X : Cx} : CallR X (.builtin "sorted") (fun xs H Q => rSortI X.K xs H Q ∨ rSortU X.K xs H Q) := call_sortedI.or call_sortedU
theorem os_sorted {K : PySem.W.Frag} : OpS K (fun xs H Q => rSortI K xs H Q ∨ rSortU K xs H Q) gSorted := by
  intro vs ds H L Q d nw hm r e q
  unfold gSorted at e
  have fin : ∀ (ns : List Int) l (ms : List Int), H l = none → List.Perm ms ns → ms.Pairwise (· ≤ ·) → (∀ v H', Same H H' → PostD K H H' L (.lst ((isort ns).map D.int)) true v → Q v H') → Q (.ref l) (upd H l (.lst (ms.map V.int))) := fun ns l ms hl hp hs q => by
    have : ms = isort ns := sorted_unique hs (isort_sorted ns) (hp.trans (isort_perm ns).symm)
    subst this
    exact q _ _ (Same.upd hl) (new_lst (repDs_ints _) hl)
  split at e
  · rename_i es
    obtain ⟨x, rfl, ⟨p, xs, rfl, h1, h2⟩⟩ := repBs1 r
    cases en : intsOf es with
    | none => rw [en] at e; cases e
    | some ns =>
      rw [en] at e
      dsimp only at e
      split at e
      · rename_i hl
        cases e
        rw [intsOf_eq en] at h2
        rw [ints_repDs h2] at h1
        exact .inl ⟨p, ns, rfl, .inl (.inl h1), of_decide_eq_true hl, fun l ms a b c => fin ns l ms a b c q⟩
      · cases e
  · rename_i es
    obtain ⟨x, rfl, ⟨p, xs, rfl, h1, h2⟩⟩ := repBs1 r
    cases en : intsOf es with
    | none => rw [en] at e; cases e
    | some ns =>
      rw [en] at e
      dsimp only at e
      split at e
      · rename_i hl
        cases e
        rw [intsOf_eq en] at h2
        rw [ints_repDs h2] at h1
        exact .inr ⟨p, ns, rfl, .inl (.inl (hid_some h1).2), of_decide_eq_true hl, fun l ms a b c => fin ns l ms a b c q⟩
      · cases e
  · cases e
def rngL (lo : Int) (n : Nat) : List D := (List.range n).map fun k => .int (lo + (k : Nat))
def rngV (lo : Int) (n : Nat) : List V := (List.range n).map fun k => .int (lo + (k : Nat))
theorem rngL_rep {K : PySem.W.Frag} {H : Hp} (lo : Int) (n : Nat) : RepDs K H (rngL lo n) (rngV lo n) := by
  have := repDs_ints (K := K) (H := H) ((List.range n).map fun k => lo + ((k : Nat) : Int))
  rw [List.map_map, List.map_map] at this
  exact this
def rngOk (lo hi : Int) : Bool := decide (-1000000000 ≤ lo ∧ lo ≤ 1000000000 ∧ -1000000000 ≤ hi ∧ hi ≤ 1000000000 ∧ (hi - lo).toNat ≤ 1000)
def gList : List D → Option (D × Bool)
  | [.lst ds] => some (.lst ds, true)
  | [.tup ds] => some (.lst ds, true)
  | [.ktup ds] => some (.lst ds, true)
  | [.rng lo hi] => if rngOk lo hi = true then some (.lst (rngL lo (hi - lo).toNat), true) else none
  | _ => none
def gTuple : List D → Option (D × Bool)
  | [.lst ds] => some (.tup ds, false)
  | [.tup ds] => some (.tup ds, false)
  | [.rng lo hi] => if rngOk lo hi = true then some (.tup (rngL lo (hi - lo).toNat), false) else none
  | _ => none
def rListOf (K : PySem.W.Frag) : List V → Hp → VK → Prop := fun xs H Q => ∃ p ys, xs = [.ref p] ∧ (SqL K H p ys ∨ SqT K H p ys) ∧ ∀ l, H l = none → Q (.ref l) (upd H l (.lst ys))
def rTupleOf (K : PySem.W.Frag) : List V → Hp → VK → Prop := fun xs H Q => ∃ p ys, xs = [.ref p] ∧ ((SqL K H p ys ∧ ∀ l, H l = none → Q (.ref l) (upd H l (.tup ys))) ∨ (SqT K H p ys ∧ Q (.ref p) H))
theorem call_listA {X : Cx} (hc : X.calm = true) : CallR X (.type "list") (fun xs H Q => rListOf X.K xs H Q ∨ rListR xs H Q) := call_list_of.or (call_listR hc)
theorem call_tupleA {X : Cx} (hc : X.calm = true) : CallR X (.type "tuple") (fun xs H Q => rTupleOf X.K xs H Q ∨ rTupR xs H Q) := call_tuple_of.or (call_tupR hc)
theorem os_list {K : PySem.W.Frag} : OpS K (fun xs H Q => rListOf K xs H Q ∨ rListR xs H Q) gList := by
  intro vs ds H L Q d nw hm r e q
  unfold gList at e
  split at e
  · obtain ⟨x, rfl, ⟨p, xs, rfl, h1, h2⟩⟩ := repBs1 r
    cases e
    exact .inl ⟨p, xs, rfl, .inl (.inl (.inl h1)), fun l hl => q _ _ (Same.upd hl) (new_lst h2 hl)⟩
  · obtain ⟨x, rfl, ⟨p, xs, rfl, h1, h2⟩⟩ := repBs1 r
    cases e
    exact .inl ⟨p, xs, rfl, .inr (.inl (.inl (hid_some h1).2)), fun l hl => q _ _ (Same.upd hl) (new_lst h2 hl)⟩
  · obtain ⟨x, rfl, ⟨p, xs, rfl, h1, h2⟩⟩ := repBs1 r
    cases e
    exact .inl ⟨p, xs, rfl, .inr (ktup_sq h1), fun l hl => q _ _ (Same.upd hl) (new_lst h2 hl)⟩
  · rename_i lo hi
    obtain ⟨x, rfl, ⟨p, rfl, h1⟩⟩ := repBs1 r
    split at e
    · rename_i hk
      cases e
      have hk := of_decide_eq_true hk
      exact .inr ⟨p, lo, hi, rfl, (hid_some h1).2, by omega, by omega, by omega, by omega, hk.2.2.2.2, fun l hl => q _ _ (Same.upd hl) (new_lst (rngL_rep _ _) hl)⟩
    · cases e
  · cases e
theorem os_tuple {K : PySem.W.Frag} : OpS K (fun xs H Q => rTupleOf K xs H Q ∨ rTupR xs H Q) gTuple := by
  intro vs ds H L Q d nw hm r e q
  unfold gTuple at e
  split at e
  · obtain ⟨x, rfl, ⟨p, xs, rfl, h1, h2⟩⟩ := repBs1 r
    cases e
    exact .inl ⟨p, xs, rfl, .inl ⟨.inl (.inl h1), fun l hl => q _ _ (Same.upd hl) (new_tup hm h2 (Same.upd hl) upd_same)⟩⟩
  · obtain ⟨x, rfl, ⟨p, xs, rfl, h1, h2⟩⟩ := repBs1 r
    cases e
    exact .inl ⟨p, xs, rfl, .inr ⟨.inl (.inl (hid_some h1).2), q _ _ (Same.refl _) ⟨p, xs, rfl, h1, h2⟩⟩⟩
  · rename_i lo hi
    obtain ⟨x, rfl, ⟨p, rfl, h1⟩⟩ := repBs1 r
    split at e
    · rename_i hk
      cases e
      have hk := of_decide_eq_true hk
      exact .inr ⟨p, lo, hi, rfl, (hid_some h1).2, by omega, by omega, by omega, by omega, hk.2.2.2.2, fun l hl => q _ _ (Same.upd hl) (new_tup hm (rngL_rep _ _) (Same.upd hl) upd_same)⟩
    · cases e
  · cases e
def gSet : List D → Option (D × Bool)
  | [.lst ds] => match intsOf ds with
    | some ns => if decide (ns.length ≤ 1000) = true then some (.set (dd ns), false) else none
    | none => none
  | [.tup ds] => match intsOf ds with
    | some ns => if decide (ns.length ≤ 1000) = true then some (.set (dd ns), false) else none
    | none => none
  | _ => none
theorem call_setA {X : Cx} (hc : X.calm = true) : CallR X (.type "set") (fun xs H Q => rSetLm X.K xs H Q ∨ rSetTm X.K xs H Q) := (call_setLm hc).or (call_setTm hc)
theorem new_scalar {K : PySem.W.Frag} {H : Hp} {L : List Addr} {p : Addr} {o : HO} (hm : ∀ p ∈ L, MutO (H p)) (hp : H p = none) : hid L (upd H p o) p = some o := by
  rw [hid_ne (fun z => by have := hm p z; rw [hp] at this; exact this)]
  exact upd_same
theorem os_set {K : PySem.W.Frag} : OpS K (fun xs H Q => rSetLm K xs H Q ∨ rSetTm K xs H Q) gSet := by
  intro vs ds H L Q d nw hm r e q
  unfold gSet at e
  have fin : ∀ (ns : List Int) l (S : Int → Bool), H l = none → (∀ x, S x = true ↔ x ∈ ns) → (∀ v H', Same H H' → PostD K H H' L (.set (dd ns)) false v → Q v H') → Q (.ref l) (upd H l (.set S (St2.kinds ns ns.length).length)) := fun ns l S hl hS q => by
    rw [kinds_dd]
    exact q _ _ (Same.upd hl) ⟨l, S, rfl, new_scalar (K := K) hm hl, fun x => (hS x).trans (dd_mem ns x).symm⟩
  split at e
  · rename_i es
    obtain ⟨x, rfl, ⟨p, xs, rfl, h1, h2⟩⟩ := repBs1 r
    cases en : intsOf es with
    | none => rw [en] at e; cases e
    | some ns =>
      rw [en] at e
      dsimp only at e
      split at e
      · rename_i hl
        cases e
        rw [intsOf_eq en] at h2
        rw [ints_repDs h2] at h1
        exact .inl ⟨p, ns, rfl, .inl (.inl h1), of_decide_eq_true hl, fun l S a b => fin ns l S a b q⟩
      · cases e
  · rename_i es
    obtain ⟨x, rfl, ⟨p, xs, rfl, h1, h2⟩⟩ := repBs1 r
    cases en : intsOf es with
    | none => rw [en] at e; cases e
    | some ns =>
      rw [en] at e
      dsimp only at e
      split at e
      · rename_i hl
        cases e
        rw [intsOf_eq en] at h2
        rw [ints_repDs h2] at h1
        exact .inr ⟨p, ns, rfl, .inl (.inl (hid_some h1).2), of_decide_eq_true hl, fun l S a b => fin ns l S a b q⟩
      · cases e
  · cases e
def gInt : List D → Option (D × Bool)
  | [.int i] => some (.int i, false)
  | [.bl b] => some (.int (if b then 1 else 0), false)
  | _ => none
def rIntA : List V → Hp → VK → Prop := fun xs H Q => (∃ i, xs = [.int i] ∧ Q (.int i) H) ∨ ∃ k, xs = [.bl k] ∧ Q (.int (if k then 1 else 0)) H
theorem call_intA {X : Cx} : CallR X (.type "int") rIntA := call_int1
theorem os_int {K : PySem.W.Frag} : OpS K rIntA gInt := by
  intro vs ds H L Q d nw hm r e q
  unfold gInt at e
  split at e
  · obtain ⟨x, rfl, ra⟩ := repBs1 r
    cases e
    exact .inl ⟨_, by rw [repB_int ra], q _ H (Same.refl _) rfl⟩
  · obtain ⟨x, rfl, ra⟩ := repBs1 r
    cases e
    exact .inr ⟨_, by rw [repB_bl ra], q _ H (Same.refl _) rfl⟩
  · cases e
end L2
namespace L2
open PySem PySem.Spec PyProof.Rows
def keyOf : D → Option Key
  | .int i => some (.inl i)
  | .str x => some (.inr x)
  | _ => none
def keysOf : List D → Option (List Key)
  | [] => some []
  | d :: ds => match keyOf d, keysOf ds with
    | some k, some l => some (k :: l)
    | _, _ => none
theorem keyOf_rep {K : PySem.W.Frag} {H : Hp} {d : D} {v : V} {k : Key} (e : keyOf d = some k) (r : RepD K H d v) : v = kV k := by
  cases d <;> first | (unfold keyOf at e; cases e; done) | (unfold keyOf at e; cases e; exact r)
theorem keysOf_rep {K : PySem.W.Frag} {H : Hp} : ∀ {ds : List D} {xs : List V} {k : List Key}, keysOf ds = some k → RepDs K H ds xs → xs = k.map kV
  | [], [], k, e, _ => by unfold keysOf at e; cases e; rfl
  | d :: ds, x :: xs, k, e, h => by
    unfold keysOf at e
    cases e1 : keyOf d with
    | none => rw [e1] at e; cases e
    | some k1 =>
      cases e2 : keysOf ds with
      | none => rw [e1, e2] at e; cases e
      | some l =>
        rw [e1, e2] at e
        cases e
        rw [keyOf_rep e1 h.1, keysOf_rep e2 h.2]
        rfl
  | [], _ :: _, _, _, h => h.elim
  | _ :: _, [], _, _, h => h.elim
section
variable {κ : Type} [DecidableEq κ]
def lookD : List κ → List D → κ → Option D
  | k :: ks, d :: ds, x => if k = x then some d else lookD ks ds x
  | _, _, _ => none
theorem lookD_rep {K : PySem.W.Frag} {H : Hp} : ∀ {ks : List κ} {ds : List D} {xs : List V} {x : κ}, ks.length = xs.length → RepDs K H ds xs →
    (∀ d, lookD ks ds x = some d → ∃ v, valV (ks.zip xs) x = some v ∧ RepD K H d v) ∧ (lookD ks ds x = none → valV (ks.zip xs) x = none)
  | [], [], [], _, _, _ => ⟨fun d h => (by unfold lookD at h; cases h), fun _ => rfl⟩
  | k :: ks, d :: ds, y :: xs, x, hl, h => by
    obtain ⟨i1, i2⟩ := lookD_rep (x := x) (Nat.succ.inj hl) h.2
    have hl : ks.length = xs.length := Nat.succ.inj hl
    rw [List.zip_cons_cons]
    by_cases e : k = x
    · rw [valV_pos (p := (k, y)) e]
      refine ⟨fun d' hd => ?_, fun hd => ?_⟩
      · unfold lookD at hd; rw [if_pos e] at hd; cases hd; exact ⟨y, rfl, h.1⟩
      · unfold lookD at hd; rw [if_pos e] at hd; cases hd
    · rw [valV_neg (p := (k, y)) e]
      refine ⟨fun d' hd => ?_, fun hd => ?_⟩
      · unfold lookD at hd; rw [if_neg e] at hd; exact i1 d' hd
      · unfold lookD at hd; rw [if_neg e] at hd; exact i2 hd
  | [], _ :: _, [], _, _, h => h.elim
  | [], [], _ :: _, _, _, h => h.elim
  | [], _ :: _, _ :: _, _, hl, _ => by simp at hl
  | _ :: _, [], [], _, hl, _ => by simp at hl
  | _ :: _, [], _ :: _, _, _, h => h.elim
  | _ :: _, _ :: _, [], _, _, h => h.elim
end
def anyEq (ds : List D) (d : D) : Bool := ds.any fun e => eqD e d
def gInD : D → D → Option Bool
  | d, .lst ds => if (eqable 9 d && ds.all (eqable 9)) = true then some (anyEq ds d) else none
  | d, .tup ds => if (eqable 9 d && ds.all (eqable 9)) = true then some (anyEq ds d) else none
  | d, .ktup ds => if (eqable 9 d && ds.all (eqable 9)) = true then some (anyEq ds d) else none
  | .int i, .rng lo hi => some (decide (lo ≤ i ∧ i < hi))
  | d, .dK ks vs => match keyOf d with
    | some k => some (lookD ks vs k).isSome
    | none => none
  | .tup ds, .dT ks vs => match keysOf ds with
    | some k => some (lookD ks vs k).isSome
    | none => none
  | _, _ => none
def gIn : List D → Option (D × Bool)
  | [d, c] => match gInD d c with
    | some b => some (.bl b, false)
    | none => none
  | _ => none
def gNotIn : List D → Option (D × Bool)
  | [d, c] => match gInD d c with
    | some b => some (.bl (!b), false)
    | none => none
  | _ => none
def rInS (K : PySem.W.Frag) (neg : Bool) : R2 := fun x y H Q => ∃ (d : D) (p : Addr) (xs : List V) (ds : List D), y = .ref p ∧ (SqL K H p xs ∨ SqT K H p xs) ∧ RepDs K H ds xs ∧ ds.all (eqable 9) = true ∧ RepD K H d x ∧ eqable 9 d = true ∧ Q (.bl (if neg then !anyEq ds d else anyEq ds d)) H
def rInDc (neg : Bool) : R2 := fun y x H Q => ∃ a o, x = .ref a ∧ DGet H a y o ∧ Q (.bl (if neg then !o.isSome else o.isSome)) H
def rInA (K : PySem.W.Frag) (neg : Bool) : R2 := fun x y H Q => rInS K neg x y H Q ∨ rInR neg x y H Q ∨ rInDc neg x y H Q
section
variable {X : Cx}
open Classical in
theorem in_items {pins : List (Addr × Obj)} {σ : St} {H : Hp} {s : Shared} (I : Inv X pins σ H s) (hu : X.A.units + 10 < cLine) {d : D} {ds : List D} {x : V} {u : Value} {xs : List V} {its : List Value} (rd : RepDs X.K H ds xs) (rv : Vals xs its) (hds : ds.all (eqable 9) = true) (r : RepD X.K H d x) (hd : eqable 9 d = true) (ru : RelV x u) :
    ∃ e : Value → Bool, (∀ y, y ∈ its.toArray → SeqAt.EqAt X.A.in1 s y u (e y)) ∧ its.toArray.any e = anyEq ds d := by
  refine ⟨fun y => decide (∃ (j : Nat) (d' : D), ds[j]? = some d' ∧ its[j]? = some y ∧ eqD d' d = true), fun y hy => ?_, ?_⟩
  · have hy : y ∈ its := by simpa using hy
    obtain ⟨j, hj, rfl⟩ := List.mem_iff_getElem.mp hy
    obtain ⟨v, ev, rv1⟩ := vals_get rv hj
    obtain ⟨d', e1, q1⟩ := rd.get' ev
    have hd' := List.all_eq_true.mp hds _ (List.mem_of_getElem? e1)
    have z := eqAt I 9 (A := X.A.in1) (by show X.A.units + 1 + 9 < cLine; omega) hd' hd q1 r rv1 ru
    have e : decide (∃ (j' : Nat) (d' : D), ds[j']? = some d' ∧ its[j']? = some its[j] ∧ eqD d' d = true) = eqD d' d := by
      cases hq : eqD d' d with
      | true => exact decide_eq_true ⟨j, d', e1, List.getElem?_eq_getElem hj, hq⟩
      | false =>
        refine decide_eq_false fun hZ => ?_
        obtain ⟨j2, d2, g1, g2, g3⟩ := hZ
        obtain ⟨hj2, g2'⟩ := List.getElem?_eq_some_iff.mp g2
        obtain ⟨v2, ev2, rv2⟩ := vals_get rv hj2
        rw [g2'] at rv2
        have : v2 = v := rv2.inj rv1
        subst this
        obtain ⟨d3, e3, q3⟩ := rd.get' ev2
        rw [g1] at e3
        cases e3
        have hn := rep_same I 9 9 (List.all_eq_true.mp hds _ (List.mem_of_getElem? g1)) hd' q3 q1 rv1
        unfold eqD at g3 hq
        rw [hn, hq] at g3
        cases g3
    dsimp only
    rw [e]
    exact z
  · rw [Bool.eq_iff_iff]
    unfold anyEq
    simp only [List.any_toArray, List.any_eq_true]
    constructor
    · rintro ⟨y, hy, hq⟩
      obtain ⟨j, d', g1, g2, g3⟩ := of_decide_eq_true hq
      exact ⟨d', List.mem_of_getElem? g1, g3⟩
    · rintro ⟨d', hd', hq⟩
      obtain ⟨j, hj, rfl⟩ := List.mem_iff_getElem.mp hd'
      have hji : j < its.length := by rw [← rv.length, ← rd.len]; exact hj
      exact ⟨its[j], List.getElem_mem hji, decide_eq_true ⟨j, _, List.getElem?_eq_getElem hj, List.getElem?_eq_getElem hji, hq⟩⟩
theorem op_inS (hu : X.A.units + 10 < cLine) : OpR X (compareOp .In) (rInS X.K false) := by
  intro pins s σ H x y v u Q I rx ry h
  obtain ⟨d, p, xs, ds, rfl, hq, rd, hds, r, hd, q⟩ := h
  cases ry
  rcases hq with hq | hq
  · obtain ⟨its, rv, pl, _⟩ := I.list hq
    obtain ⟨e, he, ee⟩ := in_items I hu rd rv hds r hd rx
    refine SeqAt.in_listAt e pl.isList he ⟨.bl _, H, I, rfl, ?_⟩
    rw [ee]
    exact q
  · obtain ⟨its, rv, pl, _⟩ := I.tuple hq
    obtain ⟨e, he, ee⟩ := in_items I hu rd rv hds r hd rx
    refine SeqAt.in_tupleAt e (show s.heap.IsTuple p its.toArray from pl) he ⟨.bl _, H, I, rfl, ?_⟩
    rw [ee]
    exact q
theorem op_notInS (hu : X.A.units + 10 < cLine) : OpR X (compareOp .NotIn) (rInS X.K true) := by
  intro pins s σ H x y v u Q I rx ry h
  obtain ⟨d, p, xs, ds, rfl, hq, rd, hds, r, hd, q⟩ := h
  cases ry
  rcases hq with hq | hq
  · obtain ⟨its, rv, pl, _⟩ := I.list hq
    obtain ⟨e, he, ee⟩ := in_items I hu rd rv hds r hd rx
    refine SeqAt.notIn_listAt e pl.isList he ⟨.bl _, H, I, rfl, ?_⟩
    rw [ee]
    exact q
  · obtain ⟨its, rv, pl, _⟩ := I.tuple hq
    obtain ⟨e, he, ee⟩ := in_items I hu rd rv hds r hd rx
    refine SeqAt.notIn_tupleAt e (show s.heap.IsTuple p its.toArray from pl) he ⟨.bl _, H, I, rfl, ?_⟩
    rw [ee]
    exact q
theorem op_inDc (hu : X.A.units + 1 < cLine) : OpR X (compareOp .In) (rInDc false) := by
  intro pins s σ H y x u v Q I ry rx h
  obtain ⟨a, o, rfl, g, q⟩ := h
  cases rx
  exact d_in hu I g ry fun s3 I3 => ⟨.bl o.isSome, H, I3, rfl, q⟩
theorem op_notInDc (hu : X.A.units + 1 < cLine) : OpR X (compareOp .NotIn) (rInDc true) := by
  intro pins s σ H y x u v Q I ry rx h
  obtain ⟨a, o, rfl, g, q⟩ := h
  cases rx
  exact d_notIn hu I g ry fun s3 I3 => ⟨.bl (!o.isSome), H, I3, rfl, q⟩
theorem op_inA (hu : X.A.units + 10 < cLine) : OpR X (compareOp .In) (rInA X.K false) := (op_inS hu).or (op_inR.or (op_inDc (by omega)))
theorem op_notInA (hu : X.A.units + 10 < cLine) : OpR X (compareOp .NotIn) (rInA X.K true) := (op_notInS hu).or (op_notInR.or (op_notInDc (by omega)))
end
section
variable {K : PySem.W.Frag}
theorem dget_k {H Hh : Hp} {p : Addr} {ks : List Key} {ds : List D} {xs : List V} {k : Key} {y : V} (h1 : H p = some (.dK (ks.zip xs))) (hl : ks.length = xs.length) (h2 : RepDs K Hh ds xs) (hy : y = kV k) :
    ∃ o, DGet H p y o ∧ o.isSome = (lookD ks ds k).isSome ∧ ∀ d, lookD ks ds k = some d → ∃ v, o = some v ∧ RepD K Hh d v := by
  subst hy
  obtain ⟨i1, i2⟩ := lookD_rep (x := k) hl h2
  refine ⟨_, DGet.k (k := k) h1, ?_, fun d hd => i1 d hd⟩
  cases e : lookD ks ds k with
  | none => rw [i2 e]; rfl
  | some d => obtain ⟨v, e1, _⟩ := i1 d e; rw [e1]; rfl
theorem dget_t {H Hh : Hp} {p b : Addr} {ks : List (List Key)} {ds : List D} {xs : List V} {k : List Key} (h1 : H p = some (.dT (ks.zip xs))) (hl : ks.length = xs.length) (h2 : RepDs K Hh ds xs) (hb : H b = some (.tup (k.map kV))) :
    ∃ o, DGet H p (.ref b) o ∧ o.isSome = (lookD ks ds k).isSome ∧ ∀ d, lookD ks ds k = some d → ∃ v, o = some v ∧ RepD K Hh d v := by
  obtain ⟨i1, i2⟩ := lookD_rep (x := k) hl h2
  refine ⟨_, DGet.t (k := k) h1 hb, ?_, fun d hd => i1 d hd⟩
  cases e : lookD ks ds k with
  | none => rw [i2 e]; rfl
  | some d => obtain ⟨v, e1, _⟩ := i1 d e; rw [e1]; rfl
theorem in_of {H : Hp} {L : List Addr} {d c : D} {x y : V} {b neg : Bool} {Q : VK} (ra : RepB K H (hid L H) d x) (rb : RepB K H (hid L H) c y) (e : gInD d c = some b) (q : Q (.bl (if neg then !b else b)) H) : rInA K neg x y H Q := by
  have seq : ∀ (p : Addr) (xs : List V) (ds : List D), y = .ref p → (SqL K H p xs ∨ SqT K H p xs) → RepDs K (hid L H) ds xs → (if (eqable 9 d && ds.all (eqable 9)) = true then some (anyEq ds d) else none) = some b → rInA K neg x y H Q := fun p xs ds hy hs hr e => by
    split at e
    · rename_i hc
      have hc := (Bool.and_eq_true _ _).mp hc
      cases e
      exact .inl ⟨d, p, xs, ds, hy, hs, hid_sub.repDs hr, hc.2, ra.d hid_sub, hc.1, q⟩
    · cases e
  unfold gInD at e
  split at e
  · obtain ⟨p, xs, rfl, h1, h2⟩ := rb
    exact seq p xs _ rfl (.inl (.inl (.inl h1))) h2 e
  · obtain ⟨p, xs, rfl, h1, h2⟩ := rb
    exact seq p xs _ rfl (.inr (.inl (.inl (hid_some h1).2))) h2 e
  · obtain ⟨p, xs, rfl, h1, h2⟩ := rb
    exact seq p xs _ rfl (.inr (ktup_sq h1)) h2 e
  · obtain ⟨p, rfl, h1⟩ := rb
    cases e
    exact .inr (.inl ⟨p, _, _, _, ra, rfl, (hid_some h1).2, q⟩)
  · obtain ⟨p, xs, rfl, h1, h2, h3⟩ := rb
    split at e
    · rename_i k ek
      cases e
      obtain ⟨o, g1, g2, _⟩ := dget_k (k := k) h1 h2 h3 (keyOf_rep ek (ra.d hid_sub))
      exact .inr (.inr ⟨p, o, rfl, g1, by rw [g2]; exact q⟩)
    · cases e
  · obtain ⟨p, xs, rfl, h1, h2, h3⟩ := rb
    obtain ⟨b', ys, rfl, h4, h5⟩ := ra
    split at e
    · rename_i k ek
      cases e
      have h4 := (hid_some h4).2
      rw [keysOf_rep ek h5] at h4
      obtain ⟨o, g1, g2, _⟩ := dget_t (k := k) h1 h2 h3 h4
      exact .inr (.inr ⟨p, o, rfl, g1, by rw [g2]; exact q⟩)
    · cases e
  · cases e
theorem os_in : OpS K (r2 (rInA K false)) gIn := by
  intro vs ds H L Q d nw hm r e q
  unfold gIn at e
  split at e
  · obtain ⟨x, y, rfl, ra, rb⟩ := repBs2 r
    split at e
    · rename_i b eb
      cases e
      exact in_of ra rb eb (q _ H (Same.refl _) rfl)
    · cases e
  · cases e
theorem os_notIn : OpS K (r2 (rInA K true)) gNotIn := by
  intro vs ds H L Q d nw hm r e q
  unfold gNotIn at e
  split at e
  · obtain ⟨x, y, rfl, ra, rb⟩ := repBs2 r
    split at e
    · rename_i b eb
      cases e
      exact in_of ra rb eb (q _ H (Same.refl _) rfl)
    · cases e
  · cases e
end
end L2
namespace L2
open PySem PySem.Spec PyProof.Rows
def sMeth (j : Nat) (u : D → List D → Option (D × D)) (fs : List SE) : SE := fun ρ => match ρ[j]? with
  | some (some (_, .fz)) => none
  | some (some (.lst _, _)) => match evA (fs.map Arg.ex) ρ with
    | some (.ok ds, ρ1) => match ρ1[j]? with
      | some (some (c, .ow)) => match u c ds with
        | some (c', d) => some (.ok d false, ρ1.set j (some (c', .ow)))
        | none => none
      | some (some (c, .io)) => match u c ds with
        | some (c', d) => some (.ok d false, ρ1.set j (some (c', .io)))
        | none => none
      | _ => none
    | some (.ex C, ρ1) => some (.ex C, ρ1)
    | none => none
  | _ => none
def MeS (K : PySem.W.Frag) (r : V → List V → Hp → VK → Prop) (u : D → List D → Option (D × D)) : Prop :=
  ∀ (H : Hp) (L : List Addr) (p : Addr) (c : D) (ds : List D) (vs : List V) (c' d : D) (Q : VK), OwnAt K H (hid L H) p c → p ∈ L → RepDs K (hid L H) ds vs → u c ds = some (c', d) →
    (∀ v o, OwnAt K (upd H p o) (hid L H) p c' → RepD K (hid L H) d v → Q v (upd H p o)) → r (.ref p) vs H Q
section
variable {K : PySem.W.Frag} {EX : EXT} {σ : St} {H : Hp} {Q : VK}
theorem meth_tr {j : Nat} {u : D → List D → Option (D × D)} {fs : List SE} {r : V → List V → Hp → VK → Prop} (hs : MeS K r u) (hw : tV K EX (sMeth j u fs) σ H Q) : tBM K "list" r (tVar j) (tAs K EX (fs.map Arg.ex)) σ H Q := by
  obtain ⟨F, ρ, W, R, h⟩ := hw
  unfold sMeth at h
  revert h
  cases e0 : ρ[j]? with
  | none => exact fun h => h.elim
  | some z =>
    cases z with
    | none => exact fun h => h.elim
    | some z =>
      obtain ⟨c0, m0⟩ := z
      have go : m0 ≠ .fz → ∀ es, c0 = .lst es → OkV K F EX σ H W (match evA (fs.map Arg.ex) ρ with
          | some (.ok ds, ρ1) => match ρ1[j]? with
            | some (some (c, .ow)) => match u c ds with
              | some (c', d) => some (.ok d false, ρ1.set j (some (c', .ow)))
              | none => none
            | some (some (c, .io)) => match u c ds with
              | some (c', d) => some (.ok d false, ρ1.set j (some (c', .io)))
              | none => none
            | _ => none
          | some (.ex C, ρ1) => some (.ex C, ρ1)
          | none => none) Q → tBM K "list" r (tVar j) (tAs K EX (fs.map Arg.ex)) σ H Q := fun hm0 es hc0 h => by
        subst hc0
        obtain ⟨v, hv, ok0⟩ := R.slot j _ _ e0
        have own0 : ∃ p, v = .ref p ∧ p ∈ W ∧ OwnAt K H (hid (W ++ F.Z) H) p (.lst es) := by
          cases m0 with
          | fz => exact absurd rfl hm0
          | ow => exact ok0
          | io => obtain ⟨p, a, b, c, _⟩ := ok0; exact ⟨p, a, b, c⟩
        obtain ⟨p, rfl, hp, xs, hx, _⟩ := own0
        refine ⟨_, hv, .inl ⟨rfl, xs, .inl (.inl hx)⟩, fs_ok fs R ?_⟩
        revert h
        cases evA (fs.map Arg.ex) ρ with
        | none => exact fun h => h
        | some q =>
          obtain ⟨q, ρ1⟩ := q
          cases q with
          | ex C => exact fun h => h
          | ok ds =>
            dsimp only
            intro h vs H1 W1 fr1 sub1 R1 reps
            have step : ∀ (c : D) (m : Md), m ≠ .fz → ρ1[j]? = some (some (c, m)) → ∀ c' d, u c ds = some (c', d) → OkV K F EX σ H W (some (.ok d false, ρ1.set j (some (c', m)))) Q → r (.ref p) vs H1 Q := fun c m hm e1 c' d eu h => by
              obtain ⟨v1, hv1, ok1⟩ := R1.slot j c m e1
              rw [hv] at hv1
              cases hv1
              have own1 : p ∈ W1 ∧ OwnAt K H1 (hid (W1 ++ F.Z) H1) p c := by
                cases m with
                | fz => exact absurd rfl hm
                | ow => obtain ⟨p', a, b, c⟩ := ok1; cases a; exact ⟨b, c⟩
                | io => obtain ⟨p', a, b, c, _⟩ := ok1; cases a; exact ⟨b, c⟩
              refine hs H1 (W1 ++ F.Z) p c ds vs c' d Q own1.2 (List.mem_append_left _ own1.1) reps eu fun v2 o new rd => ?_
              obtain ⟨R2, fr2⟩ := R1.write e1 hm hv new
              refine h v2 _ W1 (fr1.trans fr2 fun q hq => .inl (sub1 q hq)) sub1 ⟨?_, R2⟩
              rw [hid_upd (List.mem_append_left _ own1.1)]
              exact rd
            revert h
            split
            · rename_i c e1
              split
              · rename_i c' d eu
                exact fun h => step c .ow (by decide) e1 c' d eu h
              · exact fun h => h.elim
            · rename_i c e1
              split
              · rename_i c' d eu
                exact fun h => step c .io (by decide) e1 c' d eu h
              · exact fun h => h.elim
            · exact fun h => h.elim
      cases m0 with
      | fz => exact fun h => h.elim
      | ow => cases c0 <;> first | exact fun h => h.elim | exact fun h => go (by decide) _ rfl h
      | io => cases c0 <;> first | exact fun h => h.elim | exact fun h => go (by decide) _ rfl h
end
def uAppend : D → List D → Option (D × D)
  | .lst ds, [d] => if small ds.length = true then some (.lst (ds ++ [d]), .non) else none
  | _, _ => none
def uExtend : D → List D → Option (D × D)
  | .lst ds, [.lst es] => if small (ds.length + es.length) = true then some (.lst (ds ++ es), .non) else none
  | .lst ds, [.tup es] => if small (ds.length + es.length) = true then some (.lst (ds ++ es), .non) else none
  | _, _ => none
def uPop : D → List D → Option (D × D)
  | .lst ds, [] => match ds[ds.length - 1]? with
    | some d => some (.lst ds.dropLast, d)
    | none => none
  | _, _ => none
def uPopAt : D → List D → Option (D × D)
  | .lst ds, [.int i] => if (decide (-1000000000 ≤ i ∧ i ≤ 1000000000)) = true then match seqIndex? i ds.length with
      | some k => match ds[k]? with
        | some d => some (.lst (ds.eraseIdx k), d)
        | none => none
      | none => none
    else none
  | _, _ => none
section
variable {K : PySem.W.Frag}
def rExtendA (K : PySem.W.Frag) : V → List V → Hp → VK → Prop := fun x vs H Q => rExtend x vs H Q ∨ rExtendU x vs H Q
theorem mt_extendA {X : Cx} : MtM X "list.extend" (rExtendA X.K) := by
  intro pins s σ H x xs v us Q I rx r h
  rcases h with h | h
  · exact mt_extend pins s σ H x xs v us Q I rx r h
  · exact mt_extendU pins s σ H x xs v us Q I rx r h
theorem me_extend : MeS K (rExtendA K) uExtend := by
  intro H L p c ds vs c' d Q hO hp hr e q
  unfold uExtend at e
  split at e
  · obtain ⟨xs, h1, h2⟩ := hO
    split at e
    · rename_i hs
      cases e
      match vs, hr with
      | [v], hr =>
        obtain ⟨b, ys, rfl, h3, h4⟩ := hr.1
        exact .inl ⟨p, b, xs, ys, rfl, rfl, h1, (hid_some h3).2, small_le (by rw [← h2.len, ← h4.len]; exact hs), q _ _ ⟨_, upd_same, h2.app h4⟩ rfl⟩
    · cases e
  · obtain ⟨xs, h1, h2⟩ := hO
    split at e
    · rename_i hs
      cases e
      match vs, hr with
      | [v], hr =>
        obtain ⟨b, ys, rfl, h3, h4⟩ := hr.1
        exact .inr ⟨p, b, xs, ys, rfl, rfl, h1, (hid_some h3).2, small_le (by rw [← h2.len, ← h4.len]; exact hs), q _ _ ⟨_, upd_same, h2.app h4⟩ rfl⟩
    · cases e
  · cases e
end
section
variable {X : Cx} {EX : EXT} {e : Expr} {es : List Expr} {pos p1 apos cpos : Pos} {n : Str} {j : Nat}
theorem c_meth {name : Str} {id : String} {u : D → List D → Option (D × D)} {fs : List SE} {r : V → List V → Hp → VK → Prop} (hs : MeS X.K r u) (hm : MtM X id r) (slot : Slot "list" name id) (hty : typeOf (.builtin id) = pure (.type "method_descriptor")) (hN : X.N[j]? = some n) (hv : Vis X.env.scope n) (ha : JF X EX (e :: es) fs)
    (hbase : attributeBase (.Name n p1) name X.env (eval (.Name n p1) X.env) = eval (.Name n p1) X.env := by rfl)
    (hfew : ((backTo cpos (starEach (e :: es) X.env)).all (fun x => !x.1) && (backToKw cpos (keywordEach [] X.env)).all (fun x => x.1.isSome)
      && decide ((e :: es).length + ([] : List Keyword).length + (if ([] : List Keyword).isEmpty then 0 else 1) < 30)) = true := by rfl)
    (hline : (apos.endLine == cpos.line) = true := by rfl) (hst : starEach (e :: es) X.env = (false, eval e X.env) :: starEach es X.env := by rfl) (hplain : (backTo cpos (starEach es X.env)).any (·.1) = false := by rfl)
    (hd : (n == ("__debug__" : Str)) = false := by decide) (hcd : (n == ("__classdict__" : Str)) = false := by decide) : JE X EX (.Call (.Attribute (.Name n p1) name apos) (e :: es) [] cpos) (sMeth j u fs) :=
  ⟨(pe_bm PySem.F.plainAttrs_list slot hty hm (pe_var hN hv hd hcd) ha.p hbase hfew hline hst hplain).by fun σ H Q h => meth_tr hs h⟩
end
def sItem (u : D → D → D → Option D) (j : Nat) (f fi : SE) : SS := fun ρ => match f ρ with
  | some (.ok d _, ρ1) => match ρ1[j]? with
    | some (some _) => match fi ρ1 with
      | some (.ok i _, ρ2) => match ρ2[j]? with
        | some (some (c, .ow)) => match u c i d with
          | some c' => some (.nx, ρ2.set j (some (c', .ow)))
          | none => none
        | some (some (c, .io)) => match u c i d with
          | some c' => some (.nx, ρ2.set j (some (c', .io)))
          | none => none
        | _ => none
      | some (.ex C, ρ2) => some (.ex C, ρ2)
      | none => none
    | _ => none
  | some (.ex C, ρ1) => some (.ex C, ρ1)
  | none => none
def PuS (K : PySem.W.Frag) (r : V → V → V → Hp → (Hp → Prop) → Prop) (u : D → D → D → Option D) : Prop :=
  ∀ (H : Hp) (L : List Addr) (p : Addr) (c i d c' : D) (vi vd : V) (Q : Hp → Prop), OwnAt K H (hid L H) p c → p ∈ L → RepD K (hid L H) i vi → RepD K (hid L H) d vd → u c i d = some c' →
    (∀ o, OwnAt K (upd H p o) (hid L H) p c' → Q (upd H p o)) → r (.ref p) vi vd H Q
theorem item_tr {K : PySem.W.Frag} {EX : EXT} {u : D → D → D → Option D} {r : V → V → V → Hp → (Hp → Prop) → Prop} {j : Nat} {f fi : SE} {E : Ends} {σ : St} {H : Hp} (hs : PuS K r u) (h : tVS K EX (sItem u j f fi) E σ H) :
    tV K EX f σ H fun v H1 => ∃ o, σ[j]? = some (some o) ∧ tV K EX fi σ H1 fun i H2 => r o i v H2 fun H3 => E.nx σ H3 := by
  obtain ⟨F, ρ, W, R, h⟩ := h
  refine ⟨F, ρ, W, R, ?_⟩
  unfold sItem at h
  revert h
  cases f ρ with
  | none => exact fun h => h
  | some q =>
    obtain ⟨q, ρ1⟩ := q
    cases q with
    | ex C => exact fun h H2 W2 fr2 sub2 R2 => h σ H2 W2 fr2 (fun p hp => .inl (sub2 p hp)) R2
    | ok d nw =>
      dsimp only
      cases e1 : ρ1[j]? with
      | none => exact fun h => h.elim
      | some z =>
        cases z with
        | none => exact fun h => h.elim
        | some z =>
          obtain ⟨c1, m1⟩ := z
          intro h v H1 W1 fr1 sub1 P1
          obtain ⟨rd, R1⟩ := P1.plain
          obtain ⟨o, ho, _⟩ := R1.slot j _ _ e1
          refine ⟨o, ho, F, ρ1, W1, R1, ?_⟩
          revert h
          dsimp only
          cases fi ρ1 with
          | none => exact fun h => h
          | some q =>
            obtain ⟨q, ρ2⟩ := q
            cases q with
            | ex C => exact fun h H2 W2 fr2 sub2 R2 => h σ H2 W2 (fr1.trans fr2 fun p hp => .inl (sub1 p hp)) (fun p hp => .inl (sub1 p (sub2 p hp))) R2
            | ok i nw2 =>
              dsimp only
              intro h vi H2 W2 fr2 sub2 P2
              obtain ⟨ri, R2⟩ := P2.plain
              have step : ∀ (c : D) (m : Md), m ≠ .fz → ρ2[j]? = some (some (c, m)) → ∀ c', u c i d = some c' → OkS K F EX H W (some (.nx, ρ2.set j (some (c', m)))) E → r o vi v H2 fun H3 => E.nx σ H3 := fun c m hm e2 c' eu h => by
                obtain ⟨v1, hv1, ok1⟩ := R2.slot j c m e2
                rw [ho] at hv1
                cases hv1
                have own1 : ∃ p, o = .ref p ∧ p ∈ W2 ∧ OwnAt K H2 (hid (W2 ++ F.Z) H2) p c := by
                  cases m with
                  | fz => exact absurd rfl hm
                  | ow => exact ok1
                  | io => obtain ⟨p', a, b, c, _⟩ := ok1; exact ⟨p', a, b, c⟩
                obtain ⟨p, rfl, hp, hO⟩ := own1
                refine hs H2 (W2 ++ F.Z) p c i d c' vi v _ hO (List.mem_append_left _ hp) ri ((fr2.hid fun p hp => .inl (sub2 p hp)).repD rd) eu fun o' new => ?_
                obtain ⟨R3, fr3⟩ := R2.write e2 hm ho new
                exact h σ _ W2 ((fr1.trans fr2 fun p hp => .inl (sub1 p hp)).trans fr3 fun p hp => .inl (sub1 p (sub2 p hp))) (fun p hp => .inl (sub1 p (sub2 p hp))) R3
              revert h
              split
              · rename_i c e2
                split
                · rename_i c' eu
                  exact fun h => step c .ow (by decide) e2 c' eu h
                · exact fun h => h.elim
              · rename_i c e2
                split
                · rename_i c' eu
                  exact fun h => step c .io (by decide) e2 c' eu h
                · exact fun h => h.elim
              · exact fun h => h.elim
def uSetL : D → D → D → Option D
  | .lst ds, .int k, d => match ixN ds.length k with
    | some n => some (.lst (ds.set n d))
    | none => none
  | _, _, _ => none
theorem pu_list {K : PySem.W.Frag} : PuS K rSetL uSetL := by
  intro H L p c i d c' vi vd Q hO hp ri rd e q
  unfold uSetL at e
  split at e
  · rename_i ds k
    obtain ⟨xs, h1, h2⟩ := hO
    split at e
    · rename_i n en
      cases e
      exact ⟨p, xs, k, n, rfl, ri, h1, by rw [← h2.len]; exact en, q _ ⟨_, upd_same, h2.set rd n⟩⟩
    · cases e
  · cases e
section
variable {X : Cx} {EX : EXT} {e i : Expr} {pos pos' p1 : Pos} {n : Str} {j : Nat} {f fi : SE}
theorem s_item (he : JE X EX e f) (hi : JE X EX i fi) (hN : X.N[j]? = some n) (hv : Vis X.env.scope n) (hs : swapsWithSole [.Subscript (.Name n p1) i pos'] e pos.line X.env = pure false := by rfl) (hw : swappedStores [.Subscript (.Name n p1) i pos'] e X.env = pure none := by rfl)
    (h1 : (assignEach [.Subscript (.Name n p1) i pos'] X.env).map (·.2) = [assign (.Subscript (.Name n p1) i pos') X.env] := by rfl)
    (ha : ∀ v, assign (.Subscript (.Name n p1) i pos') X.env v = (do
      let ov ← holding [v] (eval (.Name n p1) X.env)
      let iv ← holding [v, ov] (eval i X.env)
      standAt pos'
      holding [v, ov, iv] (setItem ov iv v)
      release [v, ov, iv] []) := by intro _; rfl)
    (hd : (n == ("__debug__" : Str)) = false := by decide) (hcd : (n == ("__classdict__" : Str)) = false := by decide) : JS X EX (.Assign [.Subscript (.Name n p1) i pos'] e pos) (sItem uSetL j f fi) :=
  ⟨(ps_asg he.p (pg_sub (pe_var hN hv hd hcd) hi.p set_list ha) hs hw h1).by fun D σ H h => item_tr pu_list h⟩
end
section
variable {X : Cx} {EX : EXT} {e i : Expr} {pos pos' p1 : Pos} {n : Str} {j : Nat} {f fi : SE}
end
end L2
namespace L2
open PySem PySem.Spec PyProof.Rows ZpA
def seqOf : D → Option (List D)
  | .lst ds => some ds
  | .klst ds => some ds
  | .tup ds => some ds
  | .ktup ds => some ds
  | _ => none
def ItsA : Kd → PySem.W.Frag → Addr → L2.It
  | .L => Itl
  | .T => Itt
theorem SqA.same {c : Kd} {K : PySem.W.Frag} {H H' : Hp} {a : Addr} {xs : List V} (e : Same H H') (h : SqA c K H a xs) : SqA c K H' a xs := by
  cases c with
  | L => exact e.seq h
  | T => exact e.tup h
theorem seq_rep {K : PySem.W.Frag} {H : Hp} {d : D} {v : V} {ds : List D} (e : seqOf d = some ds) (r : RepD K H d v) : ∃ a c xs, v = .ref a ∧ SqA c K H a xs ∧ RepDs K H ds xs := by
  cases d <;> first
    | (unfold seqOf at e; cases e; done)
    | (unfold seqOf at e; cases e; obtain ⟨p, xs, h1, h2, h3⟩ := r; exact ⟨p, .L, xs, h1, .inl (.inl h2), h3⟩)
    | (unfold seqOf at e; cases e; obtain ⟨p, xs, h1, h2, h3⟩ := r; exact ⟨p, .T, xs, h1, .inl (.inl h2), h3⟩)
    | (unfold seqOf at e; cases e; obtain ⟨p, xs, h1, h2, h3⟩ := r; exact ⟨p, .L, xs, h1, h2, h3⟩)
    | (unfold seqOf at e; cases e; obtain ⟨p, xs, h1, h2, h3⟩ := r; exact ⟨p, .T, xs, h1, ktup_sq h2, h3⟩)
def iSeqA (K : PySem.W.Frag) (tl : TE) : TI := fun σ H R => tl σ H fun x H1 => ∃ a c, x = .ref a ∧ ∃ xs, SqA c K H1 a xs ∧ (xs.length ≤ sizeLine → R (ItsA c K a) H1)
section
variable {X : Cx} {EX : EXT} {tg l : Expr}
theorem pi_seqA {tl : TE} (hl : PE X l tl) : PI X tg l (iSeqA X.K tl) := by
  intro pins s σ H R I h
  refine thn (hl pins s σ H _ I h) fun v s1 ⟨x, H1, I1, r1, q1⟩ => ?_
  obtain ⟨a, c, e, xs, hq, q⟩ := q1
  subst e
  cases r1
  cases c with
  | L =>
    obtain ⟨its, rv, p, hz⟩ := I1.list hq
    refine wpAny_pyIter_list p.isList ?_
    refine ⟨s1.heap.objs.size, [s1.heap.objs.size], _, _, H1, rfl, I1.kept (t' := s1.toks) fun b o e => Heap.get?_push_of_some _ e, turn_list a _, ⟨_, Heap.get?_push_size _ rfl, rfl, rfl⟩, fun b hb => ?_, q hz⟩
    have e : b = s1.heap.objs.size := by simpa using hb
    subst e
    exact I1.fpOk (Nat.le_refl _) (I1.hok.fresh (Nat.le_refl _))
  | T =>
    obtain ⟨its, rv, p, hz⟩ := I1.tuple hq
    refine wpAny_pyIter_tuple (show s1.heap.IsTuple a its.toArray from p) ?_
    refine ⟨s1.heap.objs.size, [s1.heap.objs.size], _, _, H1, rfl, I1.kept (t' := s1.toks) fun b o e => Heap.get?_push_of_some _ e, turn_tuple a _, ⟨_, Heap.get?_push_size _ rfl, rfl, rfl⟩, fun b hb => ?_, q hz⟩
    have e : b = s1.heap.objs.size := by simpa using hb
    subst e
    exact I1.fpOk (Nat.le_refl _) (I1.hok.fresh (Nat.le_refl _))
theorem itok_seq {K : PySem.W.Frag} {L0 : List Addr} {H0 : Hp} {ds : List D} {xs : List V} {a : Addr} {c : Kd} (hs : SqA c K (hid L0 H0) a xs) (hr : RepDs K (hid L0 H0) ds xs) (hf : xs.length ≤ sizeLine) : ItOk K L0 ds (ItsA c K a) H0 where
  go := fun H L i d sm hm hd => by
    obtain ⟨x0, e0, r0⟩ := hr.get hd
    have sq : SqA c K H a xs := hs.same (sm.trans hid_sub)
    cases c with
    | L => exact ⟨⟨xs, x0, sq, e0⟩, fun x H' y => by obtain ⟨rfl, y⟩ := y; have e := y xs sq; rw [e0] at e; cases e; exact ⟨Same.refl _, sm.repD r0⟩⟩
    | T => exact ⟨⟨xs, x0, sq, e0⟩, fun x H' y => by obtain ⟨rfl, y⟩ := y; have e := y xs sq; rw [e0] at e; cases e; exact ⟨Same.refl _, sm.repD r0⟩⟩
  stop := fun H sm => by
    have sq : SqA c K H a xs := hs.same sm
    cases c with
    | L => exact ⟨xs, sq, by rw [hr.len]; exact Nat.le_refl _⟩
    | T => exact ⟨xs, sq, by rw [hr.len]; exact Nat.le_refl _⟩
  few := by rw [hr.len]; exact hf
def sSeqI (f : SE) : SI := fun ρ => match f ρ with
  | some (.ok d _, ρ') => match seqOf d with
    | some ds => some (.ok ds, ρ')
    | none => none
  | some (.ex C, ρ') => some (.ex C, ρ')
  | none => none
theorem i_seq {f : SE} (h : JE X EX l f) : JI X EX tg l (sSeqI f) :=
  ⟨fun pins s σ H R I hw => pi_seqA h.p pins s σ H R I (by
    obtain ⟨F, ρ, W, R0, h⟩ := hw
    refine ⟨F, ρ, W, R0, ?_⟩
    unfold sSeqI at h
    revert h
    cases f ρ with
    | none => exact fun h => h
    | some q =>
      obtain ⟨q, ρ1⟩ := q
      cases q with
      | ex C => exact fun h => h
      | ok d nw =>
        dsimp only
        cases e : seqOf d with
        | none => exact fun h => h.elim
        | some ds =>
          intro h v H1 W1 fr1 sub1 P1
          obtain ⟨rd, R1⟩ := P1.plain
          obtain ⟨a, c, xs, rfl, hs, hr⟩ := seq_rep e rd
          exact ⟨a, c, rfl, xs, hs.same hid_sub, fun hf => h _ H1 W1 fr1 sub1 R1 (itok_seq hs hr hf)⟩)⟩
def okR (lo hi : Int) : Bool := decide (-1000000000 ≤ lo ∧ lo ≤ 1000000000 ∧ -1000000000 ≤ hi ∧ hi ≤ 1000000000 ∧ (hi - lo).toNat ≤ 1000000)
def int1 : List D → Option Int
  | [.int j] => some j
  | _ => none
def int2 : List D → Option (Int × Int)
  | [.int i, .int j] => some (i, j)
  | _ => none
theorem int1_rep {K : PySem.W.Frag} {H Hh : Hp} {ds : List D} {vs : List V} {j : Int} (e : int1 ds = some j) (r : RepBs K H Hh ds vs) : vs = [.int j] := by
  unfold int1 at e
  split at e
  · cases e
    obtain ⟨y, rfl, ry⟩ := repBs1 r
    rw [repB_int ry]
  · cases e
theorem int2_rep {K : PySem.W.Frag} {H Hh : Hp} {ds : List D} {vs : List V} {i j : Int} (e : int2 ds = some (i, j)) (r : RepBs K H Hh ds vs) : vs = [.int i, .int j] := by
  unfold int2 at e
  split at e
  · cases e
    obtain ⟨y, z, rfl, ry, rz⟩ := repBs2 r
    rw [repB_int ry, repB_int rz]
  · cases e
def sRng1 (x : Arg) : SI := fun ρ => match evA [x] ρ with
  | some (.ok ds, ρ') => match int1 ds with
    | some j => if okR 0 j = true then some (.ok (rngL 0 j.toNat), ρ') else none
    | none => none
  | some (.ex C, ρ') => some (.ex C, ρ')
  | none => none
def sRng2 (x y : Arg) : SI := fun ρ => match evA [x, y] ρ with
  | some (.ok ds, ρ') => match int2 ds with
    | some (i, j) => if okR i j = true then some (.ok (rngL i (j - i).toNat), ρ') else none
    | none => none
  | some (.ex C, ρ') => some (.ex C, ρ')
  | none => none
theorem rngL_len {lo : Int} {n : Nat} : (rngL lo n).length = n := by unfold rngL; simp
theorem rngL_get {lo : Int} {n i : Nat} {d : D} (h : (rngL lo n)[i]? = some d) : i < n ∧ d = .int (lo + (i : Nat)) := by
  unfold rngL at h
  rw [List.getElem?_map] at h
  obtain ⟨k, hk, rfl⟩ := Option.map_eq_some_iff.mp h
  obtain ⟨h1, h2⟩ := List.getElem?_eq_some_iff.mp hk
  simp at h1 h2
  subst h2
  exact ⟨h1, rfl⟩
theorem itok_rng {K : PySem.W.Frag} {L0 : List Addr} {H0 : Hp} {lo : Int} {n : Nat} (hf : n ≤ 1000000) : ItOk K L0 (rngL lo n) (Itr lo n) H0 where
  go := fun H L i d sm hm hd => by
    obtain ⟨h1, rfl⟩ := rngL_get hd
    exact ⟨h1, fun x H' y => by obtain ⟨rfl, rfl⟩ := y; exact ⟨Same.refl _, rfl⟩⟩
  stop := fun H sm => by rw [rngL_len]; exact Nat.le_refl n
  few := by rw [rngL_len]; exact Nat.le_trans hf (by decide)
theorem i_rng1 {a : Expr} {x : Arg} {p pos : Pos} (hg : Gl X "range") (hm : X.mg "range" = none) (ha : JA X EX [a] [x]) (hs : starEach [a] X.env = [(false, eval a X.env)] := by rfl) : JI X EX tg (.Call (.Name "range" p) [a] [] pos) (sRng1 x) :=
  ⟨fun pins s σ H R I hw => pi_range1 hg hm ha.p hs pins s σ H R I (by
    obtain ⟨F, ρ, W, R0, h⟩ := hw
    refine as_ok [x] R0 ?_
    unfold sRng1 at h
    revert h
    cases evA [x] ρ with
    | none => exact fun h => h
    | some q =>
      obtain ⟨q, ρ1⟩ := q
      cases q with
      | ex C => exact fun h => h
      | ok ds =>
        dsimp only
        cases e : int1 ds with
        | none => exact fun h => h.elim
        | some j =>
          dsimp only
          split
          · rename_i hj
            have hj := of_decide_eq_true hj
            intro h vs H1 W1 fr1 sub1 R1 reps
            exact ⟨j, int1_rep e reps, by omega, by omega, h _ H1 W1 fr1 sub1 R1 (itok_rng (by have := hj.2.2.2.2; omega))⟩
          · exact fun h => h.elim)⟩
theorem i_rng2 {a b : Expr} {x y : Arg} {p pos : Pos} (hg : Gl X "range") (hm : X.mg "range" = none) (ha : JA X EX [a, b] [x, y]) (hs : starEach [a, b] X.env = [(false, eval a X.env), (false, eval b X.env)] := by rfl) (hs2 : starEach [b] X.env = [(false, eval b X.env)] := by rfl) : JI X EX tg (.Call (.Name "range" p) [a, b] [] pos) (sRng2 x y) :=
  ⟨fun pins s σ H R I hw => pi_range2 hg hm ha.p hs hs2 pins s σ H R I (by
    obtain ⟨F, ρ, W, R0, h⟩ := hw
    refine as_ok [x, y] R0 ?_
    unfold sRng2 at h
    revert h
    cases evA [x, y] ρ with
    | none => exact fun h => h
    | some q =>
      obtain ⟨q, ρ1⟩ := q
      cases q with
      | ex C => exact fun h => h
      | ok ds =>
        dsimp only
        cases e : int2 ds with
        | none => exact fun h => h.elim
        | some ij =>
          obtain ⟨i, j⟩ := ij
          dsimp only
          split
          · rename_i hj
            have hj := of_decide_eq_true hj
            intro h vs H1 W1 fr1 sub1 R1 reps
            exact ⟨i, j, int2_rep e reps, ⟨by omega, by omega, by omega, by omega⟩, h _ H1 W1 fr1 sub1 R1 (itok_rng hj.2.2.2.2)⟩
          · exact fun h => h.elim)⟩
def enumL : Nat → List D → List D
  | _, [] => []
  | i, d :: ds => .tup [.int (i : Nat), d] :: enumL (i + 1) ds
theorem enumL_len : ∀ {i : Nat} {ds : List D}, (enumL i ds).length = ds.length
  | _, [] => rfl
  | i, d :: ds => by unfold enumL; rw [List.length_cons, List.length_cons, enumL_len]
theorem enumL_get : ∀ {i j : Nat} {ds : List D} {e : D}, (enumL i ds)[j]? = some e → ∃ d, ds[j]? = some d ∧ e = .tup [.int ((i + j : Nat)), d]
  | i, j, [], e, h => by unfold enumL at h; simp at h
  | i, 0, d :: ds, e, h => by
    unfold enumL at h
    simp only [List.getElem?_cons_zero, Option.some.injEq] at h
    exact ⟨d, rfl, h.symm⟩
  | i, j + 1, d :: ds, e, h => by
    unfold enumL at h
    simp only [List.getElem?_cons_succ] at h ⊢
    obtain ⟨d', h1, h2⟩ := enumL_get h
    exact ⟨d', h1, by rw [h2, show i + 1 + j = i + (j + 1) by omega]⟩
def zipL : List D → List D → List D
  | a :: as, b :: bs => .tup [a, b] :: zipL as bs
  | _, _ => []
theorem zipL_len : ∀ {as bs : List D}, as.length ≤ bs.length → (zipL as bs).length = as.length
  | [], _, _ => by unfold zipL; rfl
  | a :: as, b :: bs, h => by unfold zipL; rw [List.length_cons, List.length_cons, zipL_len (by simpa using h)]
  | _ :: _, [], h => by simp at h
theorem zipL_get : ∀ {as bs : List D} {j : Nat} {e : D}, (zipL as bs)[j]? = some e → ∃ a b, as[j]? = some a ∧ bs[j]? = some b ∧ e = .tup [a, b]
  | [], _, j, e, h => by unfold zipL at h; simp at h
  | _ :: _, [], j, e, h => by unfold zipL at h; simp at h
  | a :: as, b :: bs, 0, e, h => by
    unfold zipL at h
    simp only [List.getElem?_cons_zero, Option.some.injEq] at h
    exact ⟨a, b, rfl, rfl, h.symm⟩
  | a :: as, b :: bs, j + 1, e, h => by
    unfold zipL at h
    simp only [List.getElem?_cons_succ] at h ⊢
    exact zipL_get h
def sEnum (f : SE) : SI := fun ρ => match f ρ with
  | some (.ok d _, ρ') => match seqOf d with
    | some ds => some (.ok (enumL 0 ds), ρ')
    | none => none
  | some (.ex C, ρ') => some (.ex C, ρ')
  | none => none
theorem pair_rep {K : PySem.W.Frag} {H : Hp} {L : List Addr} {p : Addr} {a b : D} {x y : V} (hm : ∀ p ∈ L, MutO (H p)) (hp : H p = none) (ra : RepD K (hid L H) a x) (rb : RepD K (hid L H) b y) : RepD K (hid L (upd H p (.tup [x, y]))) (.tup [a, b]) (.ref p) :=
  new_tup hm (show RepDs K (hid L H) [a, b] [x, y] from ⟨ra, rb, trivial⟩) (Same.upd hp) upd_same
theorem i_enum {elts : List Expr} {k} {tpos : Pos} {f : SE} {p pos : Pos} (hg : Gl X "enumerate") (hm : X.mg "enumerate" = none) (h : JE X EX l f) (hs : starEach [l] X.env = [(false, eval l X.env)] := by rfl) : JI X EX (.Tuple elts k tpos) (.Call (.Name "enumerate" p) [l] [] pos) (sEnum f) :=
  ⟨fun pins s σ H R I hw => pi_enumA hg hm (pa_cons h.p pa_nil hs) hs pins s σ H R I (by
    obtain ⟨F, ρ, W, R0, h⟩ := hw
    refine ⟨F, ρ, W, R0, ?_⟩
    unfold sEnum at h
    revert h
    cases f ρ with
    | none => exact fun h => h
    | some q =>
      obtain ⟨q, ρ1⟩ := q
      cases q with
      | ex C => exact fun h => h
      | ok d nw =>
        dsimp only
        cases e : seqOf d with
        | none => exact fun h => h.elim
        | some ds =>
          intro h v H1 W1 fr1 sub1 P1
          obtain ⟨rd, R1⟩ := P1.plain
          obtain ⟨a, c, xs, rfl, hq, hr⟩ := seq_rep e rd
          refine ⟨a, c, rfl, xs, hq.same hid_sub, fun hf => h _ H1 W1 fr1 sub1 R1 ⟨fun H L i d sm hm hd => ?_, fun H sm => ?_, ?_⟩⟩
          · obtain ⟨d0, e0, rfl⟩ := enumL_get hd
            obtain ⟨x0, ex, r0⟩ := hr.get e0
            have sq : SqA c X.K H a xs := hq.same (sm.trans hid_sub)
            refine ⟨⟨xs, x0, sq, ex⟩, fun x H' y => ?_⟩
            obtain ⟨p, y, rfl, hp, rfl, hy⟩ := y
            have e1 := hy xs sq
            rw [ex] at e1
            cases e1
            refine ⟨Same.upd hp, ?_⟩
            have := pair_rep (K := X.K) (a := .int ((i : Nat) : Int)) (x := .int (i : Nat)) hm hp rfl (sm.repD r0)
            rw [Nat.zero_add]
            exact this
          · rw [enumL_len, hr.len]
            exact ⟨xs, hq.same sm, Nat.le_refl _⟩
          · rw [enumL_len, hr.len]; exact hf)⟩
def seq2 : List D → Option (List D × List D)
  | [a, b] => match seqOf a, seqOf b with
    | some x, some y => some (x, y)
    | _, _ => none
  | _ => none
def sZip (fs : List SE) : SI := fun ρ => match evA (fs.map Arg.ex) ρ with
  | some (.ok ds, ρ') => match seq2 ds with
    | some (a, b) => if decide (a.length ≤ b.length) = true then some (.ok (zipL a b), ρ') else none
    | none => none
  | some (.ex C, ρ') => some (.ex C, ρ')
  | none => none
theorem i_zip {elts : List Expr} {k} {tpos : Pos} {l l' : Expr} {fs : List SE} {p pos : Pos} (hg : Gl X "zip") (hm : X.mg "zip" = none) (h : JF X EX [l, l'] fs) (hs : starEach [l, l'] X.env = [(false, eval l X.env), (false, eval l' X.env)] := by rfl) (hs2 : starEach [l'] X.env = [(false, eval l' X.env)] := by rfl) :
    JI X EX (.Tuple elts k tpos) (.Call (.Name "zip" p) [l, l'] [] pos) (sZip fs) :=
  ⟨fun pins s σ H R I hw => pi_zipA hg hm h.p hs hs2 pins s σ H R I (by
    obtain ⟨F, ρ, W, R0, h⟩ := hw
    refine fs_ok fs R0 ?_
    unfold sZip at h
    revert h
    cases evA (fs.map Arg.ex) ρ with
    | none => exact fun h => h
    | some q =>
      obtain ⟨q, ρ1⟩ := q
      cases q with
      | ex C => exact fun h => h
      | ok ds =>
        dsimp only
        cases e : seq2 ds with
        | none => exact fun h => h.elim
        | some ab =>
          obtain ⟨as, bs⟩ := ab
          dsimp only
          split
          · rename_i hl
            have hl := of_decide_eq_true hl
            intro h vs H1 W1 fr1 sub1 R1 reps
            unfold seq2 at e
            split at e
            · rename_i da db
              split at e
              · rename_i x y ea eb
                cases e
                match vs, reps with
                | [va, vb], reps =>
                  obtain ⟨a, c1, xs, rfl, hq, hr⟩ := seq_rep ea reps.1
                  obtain ⟨b, c2, ys, rfl, hq2, hr2⟩ := seq_rep eb reps.2.1
                  refine ⟨a, b, c1, c2, rfl, xs, hq.same hid_sub, fun hf => ⟨⟨ys, hq2.same hid_sub⟩, h _ H1 W1 fr1 sub1 R1 ⟨fun H L i d sm hm hd => ?_, fun H sm => ?_, ?_⟩⟩⟩
                  · obtain ⟨d1, d2, e1, e2, rfl⟩ := zipL_get hd
                    obtain ⟨x0, ex, r0⟩ := hr.get e1
                    obtain ⟨y0, ey, r1⟩ := hr2.get e2
                    have sq : SqA c1 X.K H a xs := hq.same (sm.trans hid_sub)
                    have sq2 : SqA c2 X.K H b ys := hq2.same (sm.trans hid_sub)
                    refine ⟨⟨xs, ys, x0, y0, sq, sq2, ex, ey⟩, fun x H' y => ?_⟩
                    obtain ⟨p, y, z, rfl, hp, rfl, hy, hz⟩ := y
                    have e3 := hy xs sq
                    have e4 := hz ys sq2
                    rw [ex] at e3
                    rw [ey] at e4
                    cases e3
                    cases e4
                    exact ⟨Same.upd hp, pair_rep hm hp (sm.repD r0) (sm.repD r1)⟩
                  · rw [zipL_len hl, hr.len]
                    exact ⟨xs, hq.same sm, Nat.le_refl _⟩
                  · rw [zipL_len hl, hr.len]; exact hf
              · cases e
            · cases e
          · exact fun h => h.elim)⟩
end
def sChain (g g' : List D → Option (D × Bool)) (f1 f2 f3 : SE) : SE := fun ρ => match evA [.ex f1, .ex f2] ρ with
  | some (.ok [a, b], ρ1) => match g [a, b] with
    | some (.bl true, false) => match f3 ρ1 with
      | some (.ok c _, ρ2) => match g' [b, c] with
        | some (d, false) => some (.ok d false, ρ2)
        | _ => none
      | some (.ex C, ρ2) => some (.ex C, ρ2)
      | none => none
    | some (.bl false, false) => some (.ok (.bl false) false, ρ1)
    | _ => none
  | some (.ok _, _) => none
  | some (.ex C, ρ') => some (.ex C, ρ')
  | none => none
theorem chain_tr {K : PySem.W.Frag} {EX : EXT} {σ : St} {H : Hp} {Q : VK} {r r' : R2} {g g' : List D → Option (D × Bool)} {f1 f2 f3 : SE} (hs : OpS K (r2 r) g) (hs' : OpS K (r2 r') g') (hw : tV K EX (sChain g g' f1 f2 f3) σ H Q) : tChain r r' (tV K EX f1) (tV K EX f2) (tV K EX f3) σ H Q := by
  obtain ⟨F, ρ, W, R, h⟩ := hw
  have z : tAs K EX (([f1, f2] : List SE).map Arg.ex) σ H (fun vs H2 => match vs with
      | [x, y] => r x y H2 fun z H3 => ∃ k, z = .bl k ∧ (if k = true then tV K EX f3 σ H3 fun w' H4 => r' y w' H4 Q else Q (.bl false) H3)
      | _ => False) := by
    refine fs_ok [f1, f2] R ?_
    unfold sChain at h
    revert h
    show OkV K F EX σ H W (match evA (([f1, f2] : List SE).map Arg.ex) ρ with
      | some (.ok [a, b], ρ1) => match g [a, b] with
        | some (.bl true, false) => match f3 ρ1 with
          | some (.ok c _, ρ2) => match g' [b, c] with
            | some (d, false) => some (.ok d false, ρ2)
            | _ => none
          | some (.ex C, ρ2) => some (.ex C, ρ2)
          | none => none
        | some (.bl false, false) => some (.ok (.bl false) false, ρ1)
        | _ => none
      | some (.ok _, _) => none
      | some (.ex C, ρ') => some (.ex C, ρ')
      | none => none) Q → _
    cases evA (([f1, f2] : List SE).map Arg.ex) ρ with
    | none => exact fun h => h
    | some q =>
      obtain ⟨q, ρ1⟩ := q
      cases q with
      | ex C => exact fun h => h
      | ok ds =>
        match ds with
        | [] => exact fun h => h.elim
        | [_] => exact fun h => h.elim
        | _ :: _ :: _ :: _ => exact fun h => h.elim
        | [a, b] =>
          dsimp only
          intro h vs H1 W1 fr1 sub1 R1 reps
          match vs, reps with
          | [x, y], reps =>
            have rb : RepBs K H1 (hid (W1 ++ F.Z) H1) [a, b] [x, y] := ⟨RepD.b reps.1 hid_sub, RepD.b reps.2.1 hid_sub, trivial⟩
            cases eg : g [a, b] with
            | none => rw [eg] at h; exact h.elim
            | some dn =>
              obtain ⟨d, nw⟩ := dn
              rw [eg] at h
              refine hs [x, y] [a, b] H1 (W1 ++ F.Z) _ d nw R1.mt rb eg fun z H2 s2 p2 => ?_
              have fr2 : Fr W H H2 := fr1.trans (s2.fr (W := W1)) fun p hp => .inl (sub1 p hp)
              cases d <;> first | (exact h.elim) | skip
              rename_i k
              cases nw with
              | true => cases k <;> exact h.elim
              | false =>
                have hz : z = .bl k := p2
                refine ⟨k, hz, ?_⟩
                have R2 := R1.same s2
                cases k with
                | false =>
                  rw [if_neg Bool.false_ne_true]
                  exact h _ H2 W1 fr2 sub1 ⟨rfl, R2⟩
                | true =>
                  rw [if_pos rfl]
                  refine ⟨F, ρ1, W1, R2, ?_⟩
                  revert h
                  dsimp only
                  cases f3 ρ1 with
                  | none => exact fun h => h
                  | some q =>
                    obtain ⟨q, ρ2⟩ := q
                    cases q with
                    | ex C => exact fun h H3 W3 fr3 sub3 R3 => h H3 W3 (fr2.trans fr3 fun p hp => .inl (sub1 p hp)) (fun p hp => sub1 p (sub3 p hp)) R3
                    | ok c nw2 =>
                      dsimp only
                      intro h w' H3 W3 fr3 sub3 P3
                      obtain ⟨rc, R3⟩ := P3.plain
                      have ry : RepD K (hid (W3 ++ F.Z) H3) b y := (fr3.hid fun p hp => .inl (sub3 p hp)).repD ((hid_same (fun b hb => .inl hb) fun b o _ e => s2 b o e : Same (hid (W1 ++ F.Z) H1) (hid (W1 ++ F.Z) H2)).repD reps.2.1)
                      cases eg2 : g' [b, c] with
                      | none => rw [eg2] at h; exact h.elim
                      | some dn =>
                        obtain ⟨d2, nw3⟩ := dn
                        rw [eg2] at h
                        cases nw3 with
                        | true => exact h.elim
                        | false =>
                          refine hs' [y, w'] [b, c] H3 (W3 ++ F.Z) _ d2 false R3.mt ⟨RepD.b ry hid_sub, RepD.b rc hid_sub, trivial⟩ eg2 fun v H4 s4 p4 => ?_
                          exact h v H4 W3 ((fr2.trans fr3 fun p hp => .inl (sub1 p hp)).trans (s4.fr (W := W3)) fun p hp => .inl (sub1 p (sub3 p hp))) (fun p hp => sub1 p (sub3 p hp)) ⟨p4, R3.same s4⟩
  exact z
section
variable {X : Cx} {EX : EXT} {a b c : Expr} {pos : Pos}
theorem c_chain {op op' : CmpOp} {r r' : R2} {g g' : List D → Option (D × Bool)} {f1 f2 f3 : SE} (ho : OpR X (compareOp op) r) (ho' : OpR X (compareOp op') r') (hs : OpS X.K (r2 r) g) (hs' : OpS X.K (r2 r') g') (ha : JE X EX a f1) (hb : JE X EX b f2) (hc : JE X EX c f3)
    (hm : lastMarks [op, op'] [b, c] = false := by with_unfolding_all rfl) : JE X EX (.Compare a [op, op'] [b, c] pos) (sChain g g' f1 f2 f3) :=
  ⟨(pe_chain ho ho' ha.p hb.p hc.p hm).by fun σ H Q h => chain_tr hs hs' h⟩
theorem k_chain {op op' : CmpOp} {r r' : R2} {g g' : List D → Option (D × Bool)} {f1 f2 f3 : SE} (ho : OpR X (compareOp op) r) (ho' : OpR X (compareOp op') r') (hs : OpS X.K (r2 r) g) (hs' : OpS X.K (r2 r') g') (ha : JE X EX a f1) (hb : JE X EX b f2) (hc : JE X EX c f3)
    (hm : lastMarks [op, op'] [b, c] = false := by with_unfolding_all rfl) : JT X EX (.Compare a [op, op'] [b, c] pos) (sBl (sChain g g' f1 f2 f3)) :=
  ⟨(pt_chain ho ho' ha.p hb.p hc.p hm).by fun σ H Q ⟨F, ρ, W, R, h⟩ => chain_tr hs hs' ⟨F, ρ, W, R, bl_of h⟩⟩
end
def rSortRev (K : PySem.W.Frag) : List V → Hp → VK → Prop := fun xs H Q => ∃ (p : Addr) (ns : List Int), xs = [V.ref p] ∧ SqL K H p (ns.map V.int) ∧ ns.length < 64 ∧
  ∀ l (ms : List Int), H l = none → List.Perm ms ns → ms.Pairwise (· ≥ ·) → Q (.ref l) (upd H l (.lst (ms.map V.int)))
def gSortRev : List D → Option (D × Bool)
  | [.lst ds] => match intsOf ds with
    | some ns => if decide (ns.length < 64) = true then some (.lst ((isort ns).reverse.map D.int), true) else none
    | none => none
  | _ => none
theorem os_sortRev {K : PySem.W.Frag} : OpS K (rSortRev K) gSortRev := by
  intro vs ds H L Q d nw hm r e q
  unfold gSortRev at e
  split at e
  · rename_i es
    obtain ⟨x, rfl, ⟨p, xs, rfl, h1, h2⟩⟩ := repBs1 r
    cases en : intsOf es with
    | none => rw [en] at e; cases e
    | some ns =>
      rw [en] at e
      dsimp only at e
      split at e
      · rename_i hl
        cases e
        rw [intsOf_eq en] at h2
        rw [ints_repDs h2] at h1
        refine ⟨p, ns, rfl, .inl (.inl h1), of_decide_eq_true hl, fun l ms hl' hp hs => ?_⟩
        have h1 : ms.reverse.Pairwise (· ≤ ·) := List.pairwise_reverse.mpr hs
        have : ms.reverse = isort ns := sorted_unique h1 (isort_sorted ns) ((List.reverse_perm ms).trans (hp.trans (isort_perm ns).symm))
        have : ms = (isort ns).reverse := by rw [← this, List.reverse_reverse]
        subst this
        exact q _ _ (Same.upd hl') (new_lst (repDs_ints _) hl')
      · cases e
  · cases e
theorem pe_sortRev {X : Cx} {e : Expr} {te : TE} {p pos kp kpos : Pos} {j} (hg : Gl X "sorted") (hm : X.mg "sorted" = none) (he : PE X e te) (hs : starEach [e] X.env = [(false, eval e X.env)] := by rfl) :
    PE X (.Call (.Name "sorted" p) [e] [⟨some "reverse", .Constant (.bool true) j kp, kpos⟩] pos) (tCB (rSortRev X.K) (tCons te tNil)) := by
  intro pins s σ H Q I h
  refine wpAny_Call_Name_kw (ld_blt I hg hm PyProof.Rows.boot_sorted ?_ (by decide) (by decide))
  refine PyProof.Rows.callWith_kw (thn (pa_cons (es := []) he pa_nil hs pos pins s σ H _ I h) fun us s1 ⟨vs, H1, I1, r1, q1⟩ => ?_) (by rw [hs]; rfl) (by rw [hs]; rfl) rfl rfl
  obtain ⟨pp, ns, rfl, hq, h64, q⟩ := q1
  obtain ⟨u, rfl, ru⟩ := vals1 r1
  cases ru
  refine thn (pk_cons (kws := []) (nm := some "reverse") (kpos := kpos) pe_bl pk_nil pos pins s1 σ H1 (fun zs H2 => zs = [.bl true] ∧ H2 = H1) I1 ⟨rfl, rfl⟩) fun kvs s2 ⟨zs, H2, I2, r2, hzs, hH⟩ => ?_
  subst hzs hH
  obtain ⟨u2, rfl, ru2⟩ := vals1 r2
  cases ru2
  obtain ⟨its, rv, pl, hz⟩ := I2.list hq
  have hlen := rv.length
  rw [List.length_map] at hlen
  refine PyProof.Rows.sorted_ints_rev (b := true) pl.isList (intsAre_of rv) (by omega) fun out ms hi hp ho => ?_
  have hf : H2 (s2.heap.objs.size + 1) = none := I2.hok.fresh (Nat.le_succ _)
  obtain ⟨e', he'⟩ := sortedAll_at s2.heap its out
  refine ⟨.ref (s2.heap.objs.size + 1), upd H2 (s2.heap.objs.size + 1) (.lst (ms.map V.int)), I2.laid (t' := s2.toks) (fun b o => sortedAll_old) (Nat.le_succ _) ⟨?_, out.toList, e', vals_ofInts hi, by simpa using he'⟩, rfl, q _ _ hf hp (by unfold Ordered at ho; rw [if_pos rfl] at ho; exact ho)⟩
  rw [List.length_map, hp.length_eq]
  rwa [List.length_map] at hz
theorem c_sortRev {X : Cx} {EX : EXT} {e : Expr} {x : Arg} {p pos kp kpos : Pos} {j} (hg : Gl X "sorted") (hm : X.mg "sorted" = none) (he : JB X EX e x) (hs : starEach [e] X.env = [(false, eval e X.env)] := by rfl) :
    JE X EX (.Call (.Name "sorted" p) [e] [⟨some "reverse", .Constant (.bool true) j kp, kpos⟩] pos) (sOp gSortRev [x]) :=
  ⟨(pe_sortRev hg hm he.p hs).by fun σ H Q ⟨F, ρ, W, R, h⟩ => op_args os_sortRev R h⟩
end L2
namespace L2
open PySem PySem.Spec PyProof.Rows
section
variable {X : Cx}
def rMaxT (K : PySem.W.Frag) : List V → Hp → (V → Hp → Prop) → Prop := fun xs H Q => ∃ (p : Addr) (ns : List Int), xs = [V.ref p] ∧ SqT K H p (ns.map V.int) ∧ ns ≠ [] ∧ ∀ M, M ∈ ns → (∀ a ∈ ns, a ≤ M) → Q (.int M) H
def rMinT (K : PySem.W.Frag) : List V → Hp → (V → Hp → Prop) → Prop := fun xs H Q => ∃ (p : Addr) (ns : List Int), xs = [V.ref p] ∧ SqT K H p (ns.map V.int) ∧ ns ≠ [] ∧ ∀ M, M ∈ ns → (∀ a ∈ ns, M ≤ a) → Q (.int M) H
theorem call_maxT (hc : X.calm = true) : CallR X (.builtin "max") (rMaxT X.K) := by
  intro pins s σ H xs us Q I r h
  obtain ⟨p, ns, rfl, hq, ne, q⟩ := h
  obtain ⟨u, rfl, ru⟩ := vals1 r
  cases ru
  obtain ⟨its, rv, pl, hz⟩ := I.tuple hq
  obtain ⟨ps, rfl, e⟩ := vals_toks rv
  have lp : ps.length = ns.length := by rw [← e, List.length_map]
  have n0 : 0 < ns.length := List.length_pos_iff.mpr ne
  have ei : intItems ps.toArray = (ps.map fun p => Value.int p.1 p.2).toArray := by unfold intItems; simp
  have ht : s.heap.IsTuple p (intItems ps.toArray) := by rw [ei]; exact pl
  have hlt : p < s.heap.objs.size := by obtain ⟨_, e, _⟩ := ht; exact Heap.lt_size e
  have sz : ps.toArray.size = ns.length := by simp [lp]
  obtain ⟨b1, b2⟩ := argBest_gt (numAt ps.toArray) (ps.toArray.size - 1)
  refine call_max_walk (wpAny_pyIter_tuple ht ⟨s.heap.objs.size, _, _, _, _, _, _, rfl, Walks.tuple (A := X.A.in1) (I.ok.hd hc) _ p (Nat.ne_of_lt hlt) (intItems ps.toArray), ⟨⟨_, Heap.get?_push_size _ rfl, rfl, rfl⟩, ht.push _⟩, fun c hcm => ?_, by simpa [intItems, lp] using n0, CmpOf.ints_gt (numAt ps.toArray) (fun _ _ => intItems_at), fun v h' tk hP hk => ?_⟩)
  · have e1 : c = s.heap.objs.size ∨ c = p := by simpa using hcm
    show c < (s.heap.push _).objs.size
    rw [Heap.size_push]
    rcases e1 with e1 | e1
    · rw [e1]; exact Nat.lt_succ_self _
    · rw [e1]; exact Nat.lt_succ_of_lt hlt
  · have hv : (intItems ps.toArray)[argBest (fun i j => decide (numAt ps.toArray i > numAt ps.toArray j)) (ps.toArray.size - 1)]? = some v := by simpa [intItems] using hP
    obtain ⟨t, rfl⟩ := intItems_at hv
    rw [sz] at b1 b2 ⊢
    refine ⟨.int _, H, I.kept (h' := h') (t' := tk) fun b' o e => hk b' o (by have := Heap.lt_size e; simp; exact Nat.ne_of_lt this) (Heap.get?_push_of_some _ e), ⟨t, rfl⟩, q _ ?_ fun a ha => ?_⟩
    · rw [numAt_get e (by omega)]
      exact List.getElem_mem _
    · obtain ⟨j, hj, rfl⟩ := List.getElem_of_mem ha
      have := b2 j (by omega)
      rw [numAt_get e hj] at this
      exact this
theorem call_minT (hc : X.calm = true) : CallR X (.builtin "min") (rMinT X.K) := by
  intro pins s σ H xs us Q I r h
  obtain ⟨p, ns, rfl, hq, ne, q⟩ := h
  obtain ⟨u, rfl, ru⟩ := vals1 r
  cases ru
  obtain ⟨its, rv, pl, hz⟩ := I.tuple hq
  obtain ⟨ps, rfl, e⟩ := vals_toks rv
  have lp : ps.length = ns.length := by rw [← e, List.length_map]
  have n0 : 0 < ns.length := List.length_pos_iff.mpr ne
  have ei : intItems ps.toArray = (ps.map fun p => Value.int p.1 p.2).toArray := by unfold intItems; simp
  have ht : s.heap.IsTuple p (intItems ps.toArray) := by rw [ei]; exact pl
  have hlt : p < s.heap.objs.size := by obtain ⟨_, e, _⟩ := ht; exact Heap.lt_size e
  have sz : ps.toArray.size = ns.length := by simp [lp]
  obtain ⟨b1, b2⟩ := argBest_lt (numAt ps.toArray) (ps.toArray.size - 1)
  refine call_min_walk (wpAny_pyIter_tuple ht ⟨s.heap.objs.size, _, _, _, _, _, _, rfl, Walks.tuple (A := X.A.in1) (I.ok.hd hc) _ p (Nat.ne_of_lt hlt) (intItems ps.toArray), ⟨⟨_, Heap.get?_push_size _ rfl, rfl, rfl⟩, ht.push _⟩, fun c hcm => ?_, by simpa [intItems, lp] using n0, CmpOf.ints_lt (numAt ps.toArray) (fun _ _ => intItems_at), fun v h' tk hP hk => ?_⟩)
  · have e1 : c = s.heap.objs.size ∨ c = p := by simpa using hcm
    show c < (s.heap.push _).objs.size
    rw [Heap.size_push]
    rcases e1 with e1 | e1
    · rw [e1]; exact Nat.lt_succ_self _
    · rw [e1]; exact Nat.lt_succ_of_lt hlt
  · have hv : (intItems ps.toArray)[argBest (fun i j => decide (numAt ps.toArray i < numAt ps.toArray j)) (ps.toArray.size - 1)]? = some v := by simpa [intItems] using hP
    obtain ⟨t, rfl⟩ := intItems_at hv
    rw [sz] at b1 b2 ⊢
    refine ⟨.int _, H, I.kept (h' := h') (t' := tk) fun b' o e => hk b' o (by have := Heap.lt_size e; simp; exact Nat.ne_of_lt this) (Heap.get?_push_of_some _ e), ⟨t, rfl⟩, q _ ?_ fun a ha => ?_⟩
    · rw [numAt_get e (by omega)]
      exact List.getElem_mem _
    · obtain ⟨j, hj, rfl⟩ := List.getElem_of_mem ha
      have := b2 j (by omega)
      rw [numAt_get e hj] at this
      exact this
end
def gMaxA : List D → Option (D × Bool)
  | [.tup ds] => match intsOf ds with
    | some (n :: ns) => some (.int (maxI (n :: ns)), false)
    | _ => none
  | ds => gMax ds
def gMinA : List D → Option (D × Bool)
  | [.tup ds] => match intsOf ds with
    | some (n :: ns) => some (.int (minI (n :: ns)), false)
    | _ => none
  | ds => gMin ds
theorem call_maxB {X : Cx} (hc : X.calm = true) : CallR X (.builtin "max") (fun xs H Q => (rMax2 xs H Q ∨ rMaxL X.K xs H Q) ∨ rMaxT X.K xs H Q) := (call_maxA hc).or (call_maxT hc)
theorem call_minB {X : Cx} (hc : X.calm = true) : CallR X (.builtin "min") (fun xs H Q => (rMin2 xs H Q ∨ rMinL X.K xs H Q) ∨ rMinT X.K xs H Q) := (call_minA hc).or (call_minT hc)
theorem os_maxB {K : PySem.W.Frag} : OpS K (fun xs H Q => (rMax2 xs H Q ∨ rMaxL K xs H Q) ∨ rMaxT K xs H Q) gMaxA := by
  intro vs ds H L Q d nw hm r e q
  unfold gMaxA at e
  split at e
  · rename_i es
    obtain ⟨x, rfl, ⟨p, xs, rfl, h1, h2⟩⟩ := repBs1 r
    split at e
    · rename_i n ns en
      cases e
      rw [intsOf_eq en] at h2
      rw [ints_repDs h2] at h1
      refine .inr ⟨p, n :: ns, rfl, .inl (.inl (hid_some h1).2), by simp, fun M m1 m2 => ?_⟩
      obtain ⟨z1, z2⟩ := maxI_is (l := n :: ns) (by simp)
      rw [bes_unique m1 m2 z1 z2]
      exact q _ H (Same.refl _) rfl
    · cases e
  · exact .inl (os_max vs _ H L Q d nw hm r e q)
theorem os_minB {K : PySem.W.Frag} : OpS K (fun xs H Q => (rMin2 xs H Q ∨ rMinL K xs H Q) ∨ rMinT K xs H Q) gMinA := by
  intro vs ds H L Q d nw hm r e q
  unfold gMinA at e
  split at e
  · rename_i es
    obtain ⟨x, rfl, ⟨p, xs, rfl, h1, h2⟩⟩ := repBs1 r
    split at e
    · rename_i n ns en
      cases e
      rw [intsOf_eq en] at h2
      rw [ints_repDs h2] at h1
      refine .inr ⟨p, n :: ns, rfl, .inl (.inl (hid_some h1).2), by simp, fun M m1 m2 => ?_⟩
      obtain ⟨z1, z2⟩ := minI_is (l := n :: ns) (by simp)
      rw [les_unique m1 m2 z1 z2]
      exact q _ H (Same.refl _) rfl
    · cases e
  · exact .inl (os_min vs _ H L Q d nw hm r e q)
def sRaise (nm : Str) : SS := fun ρ => some (.ex nm, ρ)
theorem s_raise {P : Program} {w : World} {K : PySem.W.Frag} {mg : Str → Option Value} {base : Heap} {N : List Str} {qual : Str} {scope : Scope} {f : Addr} {cd : Value} {A : Around} {outer : List Env} {s : Shared} {H : Hp} {E : XK} {x : Str} {C : Addr} {bm : List Value} {B newId initId : String} {np cpos pos : Pos} {k : Nat}
    (O : OwnCls x C bm newId mg base) (FB : ExcBaseFacts B newId initId bm) (hc : clsK K x C) (hr : Room k (A.deeper (envOfC qual scope s.heap.objs.size f cd)))
    (hg : Gl (cxOf (CXr P w) P w K mg base N qual scope f cd A outer s H E) x) (hd : (x == ("__debug__" : Str)) = false := by decide) : JS (cxOf (CXr P w) P w K mg base N qual scope f cd A outer s H E) (EXf K E) (.Raise (some (.Call (.Name x np) [] [] cpos)) none pos) (sRaise x) :=
  ⟨(ps_raise0 O FB hr.hd hg hd).by fun D σ H ⟨F, ρ, W, R, h⟩ => h σ H W .refl (fun _ z => .inl z) R C hc none⟩
theorem Ok.x {P : Program} {w : World} {K : PySem.W.Frag} {mg : Str → Option Value} {base : Heap} {x : Str} {ps : List Str} {k : Nat} {sp sp' : Sp} (h : Ok P w K mg base x ps k sp) (hi : ∀ vs H Q E, sp' vs H Q E → sp vs H Q E) : OkX P w K mg base x ps k sp' := by
  obtain ⟨f, fd, h1, h2, h3, F⟩ := h.ex
  refine ⟨f, fd, h1, h2, h3, ⟨fun vs H Q E q => F.len vs H Q E (hi _ _ _ _ q), fun A outer s H args us vs Q E hr he hb hv hs => ?_⟩⟩
  refine codeAny_mono (F.run A outer s H args us vs Q E hr he hb hv (hi _ _ _ _ hs)) fun r s' q => ?_
  cases r with
  | ok f => cases f <;> exact q
  | error e => exact q.elim
theorem spF_law {K : PySem.W.Frag} {run : FS} {H : Hp} {a : Addr} {ns : List Int} (hrun : ∃ x, run [.klst (ns.map D.int)] = some (.ok (.bl true) false, x)) (hS : SqL K H a (ns.map V.int)) : spF K none run [.ref a] H (fun v _ => v = .bl true) fun _ _ _ => False := by
  obtain ⟨x, hx⟩ := hrun
  refine ⟨[], [], [.klst (ns.map D.int)], rfl, (fun p hp => by cases hp), (fun p hp => by cases hp), fun j d v _ h1 h2 => ?_, (fun k z => by cases z), fun _ => rfl, ?_⟩
  · have hh : hid ([] ++ []) H = H := by funext b; unfold hid; simp
    rw [hh]
    match j, h1, h2 with
    | 0, h1, h2 =>
      simp only [List.getElem?_cons_zero, Option.some.injEq] at h1 h2
      subst h1 h2
      exact ⟨a, _, rfl, hS, repDs_ints ns⟩
    | j + 1, h1, h2 => simp at h1
  · rw [hx]
    exact fun v H' _ rv _ => rv
theorem cxr_false {P : Program} {w : World} {H : Hp} {s : Shared} {e : Value} {s' : Shared} (h : CXr P w [] H s (fun _ _ _ => False) e s') : False := by
  obtain ⟨_, _, _, _, _, _, _, _, _, _, z⟩ := h
  exact z
end L2
namespace L2
open PySem PySem.Spec PyProof.Rows
section
variable {X : Cx} {EX : EXT} {a b e : Expr} {es : List Expr} {pos p : Pos} {x y : Arg} {as : List Arg}
theorem c_gk {n : Str} {d : D} (hg : Gl X n) (hm : ∃ a, X.mg n = some (.ref a) ∧ ∀ H, RepD X.K H d (.ref a)) (hd : (n == ("__debug__" : Str)) = false := by decide) : JE X EX (.Name n pos) (sC d) := by
  obtain ⟨a, hm, hr⟩ := hm
  exact ⟨(pe_glob (v := .ref a) hg hm rfl hd).by fun _ _ _ => tC_ok hr⟩
theorem v (i : Nat) {n : Str} (hN : X.N[i]? = some n := by rfl) (hv : Vis X.env.scope n := by first | exact Or.inl rfl | exact Or.inr (Or.inl rfl) | exact Or.inr (Or.inr rfl)) (hd : (n == ("__debug__" : Str)) = false := by decide) (hcd : (n == ("__classdict__" : Str)) = false := by decide) : JE X EX (.Name n pos) (sVar i) := c_var hN hv hd hcd
theorem vb (i : Nat) {n : Str} (hN : X.N[i]? = some n := by rfl) (hv : Vis X.env.scope n := by first | exact Or.inl rfl | exact Or.inr (Or.inl rfl) | exact Or.inr (Or.inr rfl)) (hd : (n == ("__debug__" : Str)) = false := by decide) (hcd : (n == ("__classdict__" : Str)) = false := by decide) : JB X EX (.Name n pos) (.bor i) := cb_var hN hv hd hcd
theorem b_add (ha : JB X EX a x) (hb : JB X EX b y) : JE X EX (.BinOp a .Add b pos) (sOp gAdd [x, y]) := c_op op_addA os_add ha hb
theorem b_sub (ha : JB X EX a x) (hb : JB X EX b y) : JE X EX (.BinOp a .Sub b pos) (sOp gMin1 [x, y]) := c_op op_sub os_sub ha hb
theorem b_mul (ha : JB X EX a x) (hb : JB X EX b y) : JE X EX (.BinOp a .Mult b pos) (sOp gMul [x, y]) := c_op op_mulA os_mul ha hb
theorem b_fdiv (ha : JB X EX a x) (hb : JB X EX b y) : JE X EX (.BinOp a .FloorDiv b pos) (sOp gFdiv [x, y]) := c_op op_fdiv os_fdiv ha hb
theorem b_mod (ha : JB X EX a x) (hb : JB X EX b y) : JE X EX (.BinOp a .Mod b pos) (sOp gMod [x, y]) := c_op op_mod os_mod ha hb
theorem b_pow (ha : JB X EX a x) (hb : JB X EX b y) : JE X EX (.BinOp a .Pow b pos) (sOp gPow [x, y]) := c_op op_pow os_pow ha hb
theorem b_ix (ha : JB X EX a x) (hb : JB X EX b y) (hp : PlainIx b := by exact fun _ _ => rfl) : JE X EX (.Subscript a b pos) (sOp gIx [x, y]) := c_ix ix_seq os_ix ha hb hp
theorem q_eq (hu : X.A.units + 10 < cLine) (ha : JB X EX a x) (hb : JB X EX b y) : JE X EX (.Compare a [.Eq] [b] pos) (sOp gEq [x, y]) := c_cmp (op_eqD (by omega)) os_eq ha hb (nomark _)
theorem q_gt (ha : JB X EX a x) (hb : JB X EX b y) : JE X EX (.Compare a [.Gt] [b] pos) (sOp gGt [x, y]) := c_cmp op_gt os_gt ha hb (nomark _)
theorem q_ge (ha : JB X EX a x) (hb : JB X EX b y) : JE X EX (.Compare a [.GtE] [b] pos) (sOp gGe [x, y]) := c_cmp op_ge os_ge ha hb (nomark _)
theorem q_in (hu : X.A.units + 10 < cLine) (ha : JB X EX a x) (hb : JB X EX b y) (hm : behindInMarks .In b = false := by with_unfolding_all rfl) : JE X EX (.Compare a [.In] [b] pos) (sOp gIn [x, y]) := c_cmp (op_inA hu) os_in ha hb hm
theorem t_eq (hu : X.A.units + 10 < cLine) (ha : JB X EX a x) (hb : JB X EX b y) : JT X EX (.Compare a [.Eq] [b] pos) (sOpT gEq [x, y]) := k_cmp (op_eqD (by omega)) os_eq ha hb (nomark _)
theorem t_ne (hu : X.A.units + 10 < cLine) (ha : JB X EX a x) (hb : JB X EX b y) : JT X EX (.Compare a [.NotEq] [b] pos) (sOpT gNe [x, y]) := k_cmp (op_neD (by omega)) os_ne ha hb (nomark _)
theorem t_lt (ha : JB X EX a x) (hb : JB X EX b y) : JT X EX (.Compare a [.Lt] [b] pos) (sOpT gLt [x, y]) := k_cmp op_lt os_lt ha hb (nomark _)
theorem t_gt (ha : JB X EX a x) (hb : JB X EX b y) : JT X EX (.Compare a [.Gt] [b] pos) (sOpT gGt [x, y]) := k_cmp op_gt os_gt ha hb (nomark _)
theorem t_in (hu : X.A.units + 10 < cLine) (ha : JB X EX a x) (hb : JB X EX b y) (hm : behindInMarks .In b = false := by with_unfolding_all rfl) : JT X EX (.Compare a [.In] [b] pos) (sOpT gIn [x, y]) := k_cmp (op_inA hu) os_in ha hb hm
theorem t_notin (hu : X.A.units + 10 < cLine) (ha : JB X EX a x) (hb : JB X EX b y) (hm : behindInMarks .NotIn b = false := by with_unfolding_all rfl) : JT X EX (.Compare a [.NotIn] [b] pos) (sOpT gNotIn [x, y]) := k_cmp (op_notInA hu) os_notIn ha hb hm
variable (he : starEach (e :: es) X.env = (false, eval e X.env) :: starEach es X.env := by rfl) (hpl : (backTo pos (starEach es X.env)).any (·.1) = false := by rfl)
include he hpl
theorem b_len (m : X.mg "len" = none) (ha : JA X EX (e :: es) as) (hg : Gl X "len" := by rfl) : JE X EX (.Call (.Name "len" p) (e :: es) [] pos) (sOp gLen as) := c_callB call_lenA os_len hg m PySem.boot_len ha (by decide) (by decide) he hpl
theorem b_sum (m : X.mg "sum" = none) (ha : JA X EX (e :: es) as) (hg : Gl X "sum" := by rfl) (hc : X.calm = true := by rfl) : JE X EX (.Call (.Name "sum" p) (e :: es) [] pos) (sOp gSum as) := c_callB (call_sumA hc) os_sum hg m PyProof.Rows.boot_sum ha (by decide) (by decide) he hpl
theorem b_all (m : X.mg "all" = none) (ha : JA X EX (e :: es) as) (hg : Gl X "all" := by rfl) (hc : X.calm = true := by rfl) : JE X EX (.Call (.Name "all" p) (e :: es) [] pos) (sOp gAll as) := c_callB (call_allA hc) os_all hg m PyProof.Rows.boot_all ha (by decide) (by decide) he hpl
theorem b_max (m : X.mg "max" = none) (ha : JA X EX (e :: es) as) (hg : Gl X "max" := by rfl) (hc : X.calm = true := by rfl) : JE X EX (.Call (.Name "max" p) (e :: es) [] pos) (sOp gMaxA as) := c_callB (call_maxB hc) os_maxB hg m PyProof.Rows.boot_max ha (by decide) (by decide) he hpl
theorem b_min (m : X.mg "min" = none) (ha : JA X EX (e :: es) as) (hg : Gl X "min" := by rfl) (hc : X.calm = true := by rfl) : JE X EX (.Call (.Name "min" p) (e :: es) [] pos) (sOp gMinA as) := c_callB (call_minB hc) os_minB hg m PyProof.Rows.boot_min ha (by decide) (by decide) he hpl
theorem b_sorted (m : X.mg "sorted" = none) (ha : JA X EX (e :: es) as) (hg : Gl X "sorted" := by rfl) : JE X EX (.Call (.Name "sorted" p) (e :: es) [] pos) (sOp gSorted as) := c_callB call_sortedA os_sorted hg m PyProof.Rows.boot_sorted ha (by decide) (by decide) he hpl
theorem b_list (m : X.mg "list" = none) (ha : JA X EX (e :: es) as) (hg : Gl X "list" := by rfl) (hc : X.calm = true := by rfl) : JE X EX (.Call (.Name "list" p) (e :: es) [] pos) (sOp gList as) := c_callTy (call_listA hc) os_list hg m PyProof.Rows.boot_list ha (by decide) (by decide) he hpl
theorem b_tuple (m : X.mg "tuple" = none) (ha : JA X EX (e :: es) as) (hg : Gl X "tuple" := by rfl) (hc : X.calm = true := by rfl) : JE X EX (.Call (.Name "tuple" p) (e :: es) [] pos) (sOp gTuple as) := c_callTy (call_tupleA hc) os_tuple hg m PyProof.Rows.boot_tuple ha (by decide) (by decide) he hpl
theorem b_set (m : X.mg "set" = none) (ha : JA X EX (e :: es) as) (hg : Gl X "set" := by rfl) (hc : X.calm = true := by rfl) : JE X EX (.Call (.Name "set" p) (e :: es) [] pos) (sOp gSet as) := c_callTy (call_setA hc) os_set hg m PyProof.Rows.boot_set ha (by decide) (by decide) he hpl
theorem b_int (m : X.mg "int" = none) (ha : JA X EX (e :: es) as) (hg : Gl X "int" := by rfl) : JE X EX (.Call (.Name "int" p) (e :: es) [] pos) (sOp gInt as) := c_callTy call_intA os_int hg m PyProof.Rows.boot_int ha (by decide) (by decide) he hpl
end
section
variable {X : Cx} {EX : EXT} {e : Expr} {a : Arg} {p1 p2 pos : Pos}
theorem b_isi_int (he : JB X EX e a) (m1 : X.mg "isinstance" = none) (m2 : X.mg "int" = none) (g1 : Gl X "isinstance" := by rfl) (g2 : Gl X "int" := by rfl) (hs : starEach [e, .Name "int" p1] X.env = (false, eval e X.env) :: starEach [.Name "int" p1] X.env := by rfl) : JE X EX (.Call (.Name "isinstance" p2) [e, .Name "int" p1] [] pos) (sOp (gIsi "int") [a]) := c_isi (.inl rfl) he g1 m1 g2 m2 PyProof.Rows.boot_int (by decide) (by decide) hs
theorem b_isi_bool (he : JB X EX e a) (m1 : X.mg "isinstance" = none) (m2 : X.mg "bool" = none) (g1 : Gl X "isinstance" := by rfl) (g2 : Gl X "bool" := by rfl) (hs : starEach [e, .Name "bool" p1] X.env = (false, eval e X.env) :: starEach [.Name "bool" p1] X.env := by rfl) : JE X EX (.Call (.Name "isinstance" p2) [e, .Name "bool" p1] [] pos) (sOp (gIsi "bool") [a]) := c_isi (.inr (.inl rfl)) he g1 m1 g2 m2 PyProof.Rows.boot_bool (by decide) (by decide) hs
theorem b_isi_tuple (he : JB X EX e a) (m1 : X.mg "isinstance" = none) (m2 : X.mg "tuple" = none) (g1 : Gl X "isinstance" := by rfl) (g2 : Gl X "tuple" := by rfl) (hs : starEach [e, .Name "tuple" p1] X.env = (false, eval e X.env) :: starEach [.Name "tuple" p1] X.env := by rfl) : JE X EX (.Call (.Name "isinstance" p2) [e, .Name "tuple" p1] [] pos) (sOp (gIsi "tuple") [a]) := c_isi (.inr (.inr (.inl rfl))) he g1 m1 g2 m2 PyProof.Rows.boot_tuple (by decide) (by decide) hs
end
section
variable {X : Cx} {EX : EXT} {e : Expr} {pos p1 apos cpos : Pos} {n : Str} {f : SE}
theorem m_extend (j : Nat) (h : JE X EX e f) (hN : X.N[j]? = some n := by rfl) (hv : Vis X.env.scope n := by first | exact Or.inl rfl | exact Or.inr (Or.inl rfl) | exact Or.inr (Or.inr rfl)) (hst : starEach [e] X.env = (false, eval e X.env) :: starEach [] X.env := by rfl)
    (hbase : attributeBase (.Name n p1) "extend" X.env (eval (.Name n p1) X.env) = eval (.Name n p1) X.env := by rfl) (hfew : ((backTo cpos (starEach [e] X.env)).all (fun x => !x.1) && (backToKw cpos (keywordEach [] X.env)).all (fun x => x.1.isSome) && decide ([e].length + ([] : List Keyword).length + (if ([] : List Keyword).isEmpty then 0 else 1) < 30)) = true := by rfl)
    (hline : (apos.endLine == cpos.line) = true := by rfl) (hplain : (backTo cpos (starEach [] X.env)).any (·.1) = false := by rfl) (hd : (n == ("__debug__" : Str)) = false := by decide) (hcd : (n == ("__classdict__" : Str)) = false := by decide) :
    JE X EX (.Call (.Attribute (.Name n p1) "extend" apos) [e] [] cpos) (sMeth j uExtend [f]) := c_meth me_extend mt_extendA PySem.F.slot_list_extend PySem.F.type_list_extend hN hv (.cons h .nil hst) hbase hfew hline hst hplain hd hcd
end
end L2
namespace L2
namespace Td
open PySem L2 PyProof.Rows
def nb (j : Int) : List (Int × Int) → List Int
  | [] => []
  | t :: r => (if j = t.1 then [t.2] else if j = t.2 then [t.1] else []) ++ nb j r
theorem nb_append (j : Int) : ∀ (a b : List (Int × Int)), nb j (a ++ b) = nb j a ++ nb j b
  | [], b => rfl
  | t :: r, b => by
    show _ ++ nb j (r ++ b) = _
    rw [nb_append j r b]
    show _ = (_ ++ nb j r) ++ nb j b
    rw [List.append_assoc]
theorem nb_len (j : Int) : ∀ (a : List (Int × Int)), (nb j a).length ≤ a.length
  | [] => Nat.le_refl _
  | t :: r => by
    have := nb_len j r
    show (_ ++ nb j r).length ≤ r.length + 1
    rw [List.length_append]
    split
    · simp; omega
    · split
      · simp; omega
      · simp; omega
structure Adj (H : Hp) (p : Addr) (ls : List Addr) (done : List (Int × Int)) (H' : Hp) : Prop where
  same : Same H H'
  at_ : H' p = some (.lst (ls.map V.ref))
  nd : ls.Nodup
  np : p ∉ ls
  pn : H p = none
  ln : ∀ l ∈ ls, H l = none
  lst : ∀ (j : Nat) (l : Addr), ls[j]? = some l → H' l = some (.lst ((nb j done).map V.int))
theorem Adj.inj {H : Hp} {p : Addr} {ls : List Addr} {done : List (Int × Int)} {H' : Hp} (A : Adj H p ls done H') {i j : Nat} {l : Addr} (h1 : ls[i]? = some l) (h2 : ls[j]? = some l) : i = j := by
  obtain ⟨a1, e1⟩ := List.getElem?_eq_some_iff.mp h1
  obtain ⟨a2, e2⟩ := List.getElem?_eq_some_iff.mp h2
  exact (List.getElem_inj A.nd).mp (e1.trans e2.symm)
theorem Adj.step {H : Hp} {p : Addr} {ls : List Addr} {done : List (Int × Int)} {H1 : Hp} (A : Adj H p ls done H1) {a b : Nat} {la lb : Addr} (ha : ls[a]? = some la) (hb : ls[b]? = some lb) (hab : a ≠ b) :
    Adj H p ls (done ++ [((a : Int), (b : Int))]) (upd (upd H1 la (.lst ((nb a done ++ [(b : Int)]).map V.int))) lb (.lst ((nb b done ++ [(a : Int)]).map V.int))) := by
  have nab : la ≠ lb := fun z => hab (A.inj ha (z ▸ hb))
  have ma : la ∈ ls := List.mem_of_getElem? ha
  have mb : lb ∈ ls := List.mem_of_getElem? hb
  refine ⟨fun c o q => ?_, ?_, A.nd, A.np, A.pn, A.ln, fun j l hj => ?_⟩
  · rw [upd_ne (ne_of_none q (A.ln lb mb)), upd_ne (ne_of_none q (A.ln la ma))]
    exact A.same c o q
  · rw [upd_ne (fun z : p = lb => A.np (by rw [z]; exact mb)), upd_ne (fun z : p = la => A.np (by rw [z]; exact ma))]
    exact A.at_
  · rw [nb_append]
    by_cases e1 : l = lb
    · subst e1
      have : j = b := A.inj hj hb
      subst this
      rw [upd_same]
      have : nb (j : Int) [((a : Int), (j : Int))] = [(a : Int)] := by
        show (if (j : Int) = (a : Int) then _ else if (j : Int) = (j : Int) then _ else _) ++ _ = _
        rw [if_neg (by omega), if_pos rfl]; rfl
      rw [this]
    · rw [upd_ne e1]
      by_cases e2 : l = la
      · subst e2
        have : j = a := A.inj hj ha
        subst this
        rw [upd_same]
        have : nb (j : Int) [((j : Int), (b : Int))] = [(b : Int)] := by
          show (if (j : Int) = (j : Int) then _ else _) ++ _ = _
          rw [if_pos rfl]; rfl
        rw [this]
      · rw [upd_ne e2, A.lst j l hj]
        have : nb (j : Int) [((a : Int), (b : Int))] = [] := by
          have n1 : j ≠ a := fun z => by subst z; rw [hj] at ha; exact e2 (Option.some.inj ha)
          have n2 : j ≠ b := fun z => by subst z; rw [hj] at hb; exact e1 (Option.some.inj hb)
          show (if (j : Int) = (a : Int) then _ else if (j : Int) = (b : Int) then _ else _) ++ _ = _
          rw [if_neg (by omega), if_neg (by omega)]; rfl
        rw [this, List.append_nil]
theorem Paired.get {α β : Type} {R : α → β → Prop} : ∀ {l1 : List α} {l2 : List β} {i : Nat} {a : α}, Paired R l1 l2 → l1[i]? = some a → ∃ b, l2[i]? = some b ∧ R a b
  | _, _, _, _, .nil, e => by simp at e
  | _, _, 0, _, .cons r _, e => by simp at e; subst e; exact ⟨_, rfl, r⟩
  | _, _, i + 1, a, .cons _ t, e => by
    obtain ⟨u, h1, h2⟩ := Paired.get (i := i) (a := a) t (by simpa using e)
    exact ⟨u, by simpa using h1, h2⟩
def spTied (K : PySem.W.Frag) : Sp := fun vs H Q _ => ∃ wb many ties, vs = [.ref wb] ∧ WebAt K H wb many ties ∧ 1 ≤ many ∧ many ≤ 40 ∧ ∀ p ls H', ls.length = many.toNat → Adj H p ls ties H' → Q (.ref p) H'
def pairD : D → Option (Int × Int)
  | .tup [.int a, .int b] => some (a, b)
  | _ => none
def pairsD : List D → Option (List (Int × Int))
  | [] => some []
  | d :: r => match pairD d, pairsD r with
    | some p, some ps => some (p :: ps)
    | _, _ => none
def goodW (many : Int) (ts : List (Int × Int)) : Bool := decide (1 ≤ many) && decide (many ≤ 40) && decide (ts.length ≤ 60) && ts.all (fun t => decide (0 ≤ t.1) && decide (t.1 < t.2) && decide (t.2 < many)) && decide ts.Nodup
def adjD (many : Int) (ts : List (Int × Int)) : D := .lst ((List.range many.toNat).map fun j => .lst ((nb (j : Nat) ts).map D.int))
def fTied : FS := fun ds => match ds with
  | [.tup [.int many, .tup ties]] => match pairsD ties with
    | some ts => if goodW many ts then some (.ok (adjD many ts) false, .non) else none
    | none => none
  | _ => none
theorem pairD_rep {K : PySem.W.Frag} {H : Hp} {d : D} {t : Int × Int} (h : pairD d = some t) {v : V} (r : RepD K H d v) : TieAt K H v t := by
  unfold pairD at h
  split at h
  · cases h
    obtain ⟨p, xs, rfl, h2, h3⟩ := r
    refine ⟨p, rfl, ?_⟩
    match xs, h3 with
    | [x, y], ⟨r1, r2, _⟩ => rw [h2, show x = _ from r1, show y = _ from r2]
    | [], h3 => exact h3.elim
    | [_], ⟨_, h3⟩ => exact h3.elim
    | _ :: _ :: _ :: _, ⟨_, _, h3⟩ => exact h3.elim
  · cases h
theorem pairsD_rep {K : PySem.W.Frag} {H : Hp} : ∀ {ds : List D} {ts : List (Int × Int)} {xs : List V}, pairsD ds = some ts → RepDs K H ds xs → Paired (TieAt K H) xs ts
  | [], ts, [], h, _ => by cases h; exact .nil
  | d :: ds, ts, x :: xs, h, r => by
    unfold pairsD at h
    split at h
    · rename_i p ps h1 h2
      cases h
      exact .cons (pairD_rep h1 r.1) (pairsD_rep h2 r.2)
    · cases h
  | [], _, _ :: _, _, r => r.elim
  | _ :: _, _, [], _, r => r.elim
theorem reps_of {K : PySem.W.Frag} {H : Hp} {ls : List Addr} {g : Nat → List Int} : ∀ (n : Nat) (k : Nat), ls.length = n → (∀ (j : Nat) (l : Addr), ls[j]? = some l → H l = some (.lst ((g (k + j)).map V.int))) → RepDs K H ((List.range' k n).map fun j => .lst ((g j).map D.int)) (ls.map V.ref)
  | 0, k, hl, h => by
    have : ls = [] := List.length_eq_zero_iff.mp hl
    subst this
    exact trivial
  | n + 1, k, hl, h => by
    cases ls with
    | nil => cases hl
    | cons l ls =>
      refine ⟨⟨l, _, rfl, h 0 l rfl, repDs_ints _⟩, ?_⟩
      exact reps_of n (k + 1) (by simpa using hl) fun j l' e => by
        have := h (j + 1) l' (by simpa using e)
        rw [show k + 1 + j = k + (j + 1) by omega]
        exact this
theorem fTied_some {ds : List D} {r : Res × D} (h : fTied ds = some r) : ∃ many ties ts, ds = [.tup [.int many, .tup ties]] ∧ pairsD ties = some ts ∧ goodW many ts = true ∧ r = (.ok (adjD many ts) false, .non) := by
  unfold fTied at h
  split at h
  · split at h
    · split at h
      · cases h; exact ⟨_, _, _, rfl, ‹_›, ‹_›, rfl⟩
      · cases h
    · cases h
  · cases h
theorem two {K : PySem.W.Frag} {H : Hp} {a b : D} {xs : List V} (h : RepDs K H [a, b] xs) : ∃ x y, xs = [x, y] ∧ RepD K H a x ∧ RepD K H b y := by
  match xs, h with
  | [x, y], ⟨r1, r2, _⟩ => exact ⟨x, y, rfl, r1, r2⟩
  | [], h3 => exact h3.elim
  | [_], ⟨_, h3⟩ => exact h3.elim
  | _ :: _ :: _ :: _, ⟨_, _, h3⟩ => exact h3.elim
theorem tied_x {P : Program} {w : World} {K : PySem.W.Frag} {mg : Str → Option Value} {base : Heap} (h : Ok P w K mg base "tied_places" ["web"] 1 (spTied K)) : OkX P w K mg base "tied_places" ["web"] 1 (spF K none fTied) :=
  Ok.x h fun vs H Q E q => by
    obtain ⟨Z, W, ds, hlen, _, hmt, hf, _, hW, hm⟩ := q
    have hW := hW rfl
    subst hW
    cases e : fTied ds with
    | none => rw [e] at hm; exact hm.elim
    | some r =>
      obtain ⟨many, ties, ts, rfl, e1, hg, rfl⟩ := fTied_some e
      rw [e] at hm
      have hm : ∀ v H', Fr [] H H' → RepD K (hid ([] ++ Z) H') (adjD many ts) v → (∀ p, ([] : List Addr) = [p] → OwnAt K H' (hid ([] ++ Z) H') p .non) → Q v H' := hm
      obtain ⟨v, rfl⟩ : ∃ v, vs = [v] := by
        match vs, hlen with
        | [v], _ => exact ⟨v, rfl⟩
      obtain ⟨wb, xs, rfl, h2, h3⟩ := hf 0 _ _ (by intro z; cases z) rfl rfl
      obtain ⟨x, y, rfl, r1, r2⟩ := two h3
      have r1 : x = .int many := r1
      subst r1
      obtain ⟨t, bs, rfl, h4, h5⟩ := r2
      unfold goodW at hg
      simp only [Bool.and_eq_true, decide_eq_true_eq, List.all_eq_true] at hg
      obtain ⟨⟨⟨⟨g1, g2⟩, g3⟩, g4⟩, g5⟩ := hg
      refine ⟨wb, many, ts, rfl, ⟨⟨t, bs, hid_sub _ _ h2, hid_sub _ _ h4, pairsD_rep e1 (Same.repDs hid_sub h5)⟩, g3, fun t ht => ?_, g5⟩, g1, g2, fun p ls H' el A => ?_⟩
      · have := g4 t ht
        exact ⟨this.1.1, this.1.2, this.2⟩
      · have nz : ∀ b, H b = none → b ∉ [] ++ Z := fun b e z => by
          have := hmt b z
          rw [e] at this
          exact this
        refine hm (.ref p) H' A.same.fr ⟨p, _, rfl, (hid_ne (nz p A.pn)).trans A.at_, ?_⟩ fun p z => by cases z
        have := reps_of (K := K) (H := hid ([] ++ Z) H') (ls := ls) (g := fun j => nb (j : Nat) ts) many.toNat 0 el fun j l e => by
          rw [hid_ne (nz l (A.ln l (List.mem_of_getElem? e))), Nat.zero_add]
          exact A.lst j l e
        rw [← List.range_eq_range'] at this
        exact this
end Td
end L2
namespace L2
open PySem
def s__law_cell_at : SS := (sSeq (sIfS (sOpT gLt [.bor 1, .ex (sOp gLen [.bor 0])]) (sRet (sOp gIx [.bor 0, .bor 1])) sNil) (sRet (sC (.int 0))))
def f__law_cell_at : FS := fnRun 2 2 none s__law_cell_at
def s__law_next : SS := (sSeq (sSet 0 (sOp gMod [.ex (sOp gAdd [.bor 0, .ex (sC (.int 7919))]), .ex (sC (.int 2147483647))])) (sRet (sOp gMod [.ex (sOp gAdd [.ex (sOp gAdd [.ex (sOp gMul [.bor 0, .bor 0]), .ex (sOp gMul [.ex (sC (.int 48271)), .bor 0])]), .ex (sC (.int 12345))]), .ex (sC (.int 2147483629))])))
def f__law_next : FS := fnRun 1 1 none s__law_next
def s__law_pen_of : SS := (sSeq (sSet 1 (sOp gMaxA [.bor 0, .ex (sOp gMin1 [.ex (sC (.int 0)), .bor 0])])) (sRet (sLst [(sVar 1), (sOp gInt [.ex (sOp gGe [.bor 1, .ex (sOp gPow [.ex (sC (.int 10)), .ex (sC (.int 18))])])]), (sOp gMod [.bor 1, .ex (sC (.int 1000003))])])))
def f__law_pen_of : FS := fnRun 1 2 none s__law_pen_of
def s__law_draw : SS := (sSeq (sIfS (sOpT gEq [.ex (sOp gIx [.bor 0, .ex (sC (.int 1))]), .ex (sC (.int 1))]) (sSeq (sSet 2 (sOp gMod [.ex (sOp gIx [.bor 0, .ex (sC (.int 0))]), .bor 1])) (sSeq (sItem uSetL 0 (sOp gFdiv [.ex (sOp gIx [.bor 0, .ex (sC (.int 0))]), .bor 1]) (sC (.int 0))) (sRetV 2))) sNil) (sSeq (sItem uSetL 0 (sCall none none f__law_next [.ex (sOp gAdd [.ex (sCall none none f__law_next [.ex (sOp gIx [.bor 0, .ex (sC (.int 2))])]), .ex (sC (.int 7))])]) (sC (.int 2))) (sRet (sOp gMod [.ex (sOp gFdiv [.ex (sOp gIx [.bor 0, .ex (sC (.int 2))]), .ex (sC (.int 64))]), .bor 1]))))
def f__law_draw : FS := fnRun 2 3 (some 0) s__law_draw
theorem okMul_l {a b : Int} (h1 : -(2 ^ 64) < a) (h2 : a < 2 ^ 64) : okMul a b = true := by unfold okMul; rw [decide_eq_true ⟨h1, h2⟩]; rfl
def nextI (s : Int) : Int := (((s + 7919) % 2147483647) * ((s + 7919) % 2147483647) + 48271 * ((s + 7919) % 2147483647) + 12345) % 2147483629
theorem fNext_eq (s : Int) : f__law_next [.int s] = some (.ok (.int (nextI s)) false, .non) := by
  have m1 : okMul ((s + 7919) % 2147483647) ((s + 7919) % 2147483647) = true := okMul_l (by omega) (by omega)
  have m2 : okMul 48271 ((s + 7919) % 2147483647) = true := okMul_l (by omega) (by omega)
  unfold f__law_next s__law_next
  simp only [fnRun, ini, iniL, ioD, sNil, sSeq, sSet, sRet, sRetN, sRetV, sExpr, sIfS, sAsg, sAug, sItem, sMeth, sCall, sOp, sOpT, sC, sVar, sTup, sLst, evA, List.map_cons, List.map_nil, sTru, truD, sNot, sIf, sAnd, sOr, sAndV, sOrV, sNotV, sBl, asgT, asgTs, putIo, noBor, flatR, flatIn, flatD, flatDs, sChain, sFor, sComp, sSeqI, sRng1, sRng2, sEnum, sZip, seqOf, int1, int2, Tg.ge, List.length_cons, List.length_nil, List.getElem?_cons_zero, List.getElem?_cons_succ, List.set_cons_zero, List.set_cons_succ, List.cons_append, List.nil_append, List.replicate, Nat.sub_self, Nat.reduceSub, Nat.reduceAdd, Nat.zero_add, Option.isNone, if_true, reduceIte, decide_true, Bool.true_and, Bool.and_true, Bool.true_or, Bool.or_true, Bool.false_or, Bool.or_false, Bool.false_and, Bool.and_false, reduceCtorEq, gMod, gAdd, gMul, Int.reduceLT, m1, m2]
  rfl
theorem ixN_nat {n i : Nat} (h : i < n) : ixN n (i : Int) = some i := by
  unfold ixN
  rw [if_pos (by omega), if_pos (by omega)]
  rfl
theorem atI_of {α : Type} {l : List α} {i : Nat} {x : α} (h : l[i]? = some x) : atI l (i : Int) = some x := by
  unfold atI
  rw [ixN_nat (List.getElem?_eq_some_iff.mp h).1]
  exact h
section
variable {α : Type} {a b c d : α} {l : List α}
theorem atI_0 : atI (a :: l) 0 = some a := atI_of (i := 0) rfl
theorem atI_1 : atI (a :: b :: l) 1 = some b := atI_of (i := 1) rfl
theorem atI_2 : atI (a :: b :: c :: l) 2 = some c := atI_of (i := 2) rfl
end
theorem gIx_lst {ds : List D} {i : Int} {d : D} (h : atI ds i = some d) : gIx [.lst ds, .int i] = some (d, false) := by unfold gIx; simp only [h]
theorem gIx_klst {ds : List D} {i : Int} {d : D} (h : atI ds i = some d) : gIx [.klst ds, .int i] = some (d, false) := by unfold gIx; simp only [h]
theorem gIx_tup {ds : List D} {i : Int} {d : D} (h : atI ds i = some d) : gIx [.tup ds, .int i] = some (d, false) := by unfold gIx; simp only [h]
theorem gEq_int (a b : Int) : gEq [.int a, .int b] = some (.bl (decide (a = b)), false) := by
  unfold gEq
  simp only [eqable, Bool.and_self, if_true, eqD, nrm, eqN]
  rw [show (a == b) = decide (a = b) from rfl]
theorem gNe_int (a b : Int) : gNe [.int a, .int b] = some (.bl (!decide (a = b)), false) := by
  unfold gNe
  simp only [eqable, Bool.and_self, if_true, eqD, nrm, eqN]
  rw [show (a == b) = decide (a = b) from rfl]
theorem gMod_eq {a b : Int} (h : 0 < b) : gMod [.int a, .int b] = some (.int (a % b), false) := by unfold gMod; simp only [h, decide_true, if_true]
theorem gFdiv_eq {a b : Int} (h : 0 < b) (h2 : b < 1073741824) : gFdiv [.int a, .int b] = some (.int (a / b), false) := by unfold gFdiv; simp only [h, h2, and_self, decide_true, if_true]
theorem gPow_18 : gPow [.int 10, .int 18] = some (.int 1000000000000000000, false) := rfl
def penD (a f s : Int) : D := .lst [.int a, .int f, .int s]
theorem fPen_eq (c : Int) : ∃ a f s, f__law_pen_of [.int c] = some (.ok (penD a f s) true, .non) := by
  refine ⟨if 0 - c > c then 0 - c else c, if decide (1000000000000000000 ≤ (if 0 - c > c then 0 - c else c)) then 1 else 0, (if 0 - c > c then 0 - c else c) % 1000003, ?_⟩
  unfold f__law_pen_of s__law_pen_of
  simp only [fnRun, ini, iniL, ioD, sNil, sSeq, sSet, sRet, sRetN, sRetV, sExpr, sIfS, sAsg, sAug, sItem, sMeth, sCall, sOp, sOpT, sC, sVar, sTup, sLst, evA, List.map_cons, List.map_nil, sTru, truD, sNot, sIf, sAnd, sOr, sAndV, sOrV, sNotV, sBl, asgT, asgTs, putIo, noBor, flatR, flatIn, flatD, flatDs, sChain, sFor, sComp, sSeqI, sRng1, sRng2, sEnum, sZip, seqOf, int1, int2, Tg.ge, List.length_cons, List.length_nil, List.getElem?_cons_zero, List.getElem?_cons_succ, List.set_cons_zero, List.set_cons_succ, List.cons_append, List.nil_append, List.replicate, Nat.sub_self, Nat.reduceSub, Nat.reduceAdd, Nat.zero_add, Option.isNone, if_true, reduceIte, decide_true, Bool.true_and, Bool.and_true, Bool.true_or, Bool.or_true, Bool.false_or, Bool.or_false, Bool.false_and, Bool.and_false, reduceCtorEq, gMaxA, gMax, gMin1, gInt, gGe, gPow_18, gMod, Int.reduceLT]
  rfl
theorem fCell_eq (ns : List Int) (k : Nat) : ∃ c : Int, f__law_cell_at [.klst (ns.map D.int), .int k] = some (.ok (.int c) false, .non) := by
  by_cases h : k < ns.length
  · refine ⟨ns[k], ?_⟩
    have e : atI (ns.map D.int) (k : Int) = some (.int ns[k]) := atI_of (by rw [List.getElem?_map, List.getElem?_eq_getElem h]; rfl)
    have h' : (k : Int) < ((ns.map D.int).length : Nat) := by rw [List.length_map]; omega
    unfold f__law_cell_at s__law_cell_at
    simp only [fnRun, ini, iniL, ioD, sNil, sSeq, sSet, sRet, sRetN, sRetV, sExpr, sIfS, sAsg, sAug, sItem, sMeth, sCall, sOp, sOpT, sC, sVar, sTup, sLst, evA, List.map_cons, List.map_nil, sTru, truD, sNot, sIf, sAnd, sOr, sAndV, sOrV, sNotV, sBl, asgT, asgTs, putIo, noBor, flatR, flatIn, flatD, flatDs, sChain, sFor, sComp, sSeqI, sRng1, sRng2, sEnum, sZip, seqOf, int1, int2, Tg.ge, List.length_cons, List.length_nil, List.getElem?_cons_zero, List.getElem?_cons_succ, List.set_cons_zero, List.set_cons_succ, List.cons_append, List.nil_append, List.replicate, Nat.sub_self, Nat.reduceSub, Nat.reduceAdd, Nat.zero_add, Option.isNone, if_true, reduceIte, decide_true, Bool.true_and, Bool.and_true, Bool.true_or, Bool.or_true, Bool.false_or, Bool.or_false, Bool.false_and, Bool.and_false, reduceCtorEq, gLen, gLt, gIx_klst e, h']
  · refine ⟨0, ?_⟩
    have h' : ¬ (k : Int) < ((ns.map D.int).length : Nat) := by rw [List.length_map]; omega
    unfold f__law_cell_at s__law_cell_at
    simp only [fnRun, ini, iniL, ioD, sNil, sSeq, sSet, sRet, sRetN, sRetV, sExpr, sIfS, sAsg, sAug, sItem, sMeth, sCall, sOp, sOpT, sC, sVar, sTup, sLst, evA, List.map_cons, List.map_nil, sTru, truD, sNot, sIf, sAnd, sOr, sAndV, sOrV, sNotV, sBl, asgT, asgTs, putIo, noBor, flatR, flatIn, flatD, flatDs, sChain, sFor, sComp, sSeqI, sRng1, sRng2, sEnum, sZip, seqOf, int1, int2, Tg.ge, List.length_cons, List.length_nil, List.getElem?_cons_zero, List.getElem?_cons_succ, List.set_cons_zero, List.set_cons_succ, List.cons_append, List.nil_append, List.replicate, Nat.sub_self, Nat.reduceSub, Nat.reduceAdd, Nat.zero_add, Option.isNone, if_true, reduceIte, decide_true, Bool.true_and, Bool.and_true, Bool.true_or, Bool.or_true, Bool.false_or, Bool.or_false, Bool.false_and, Bool.and_false, reduceCtorEq, gLen, gLt, h', decide_false]
theorem uSetL_0 {a b c d : D} : uSetL (.lst [a, b, c]) (.int 0) d = some (.lst [d, b, c]) := rfl
theorem uSetL_2 {a b c d : D} : uSetL (.lst [a, b, c]) (.int 2) d = some (.lst [a, b, d]) := rfl
theorem fDraw_eq (a f s m : Int) (h : 0 < m) (h2 : m < 1073741824) : ∃ r a' f' s' : Int, f__law_draw [penD a f s, .int m] = some (.ok (.int r) false, penD a' f' s') ∧ 0 ≤ r ∧ r < m := by
  by_cases hf : f = 1
  · refine ⟨a % m, a / m, f, s, ?_, Int.emod_nonneg _ (by omega), Int.emod_lt_of_pos _ h⟩
    unfold f__law_draw s__law_draw penD
    simp only [fnRun, ini, iniL, ioD, sNil, sSeq, sSet, sRet, sRetN, sRetV, sExpr, sIfS, sAsg, sAug, sItem, sMeth, sCall, sOp, sOpT, sC, sVar, sTup, sLst, evA, List.map_cons, List.map_nil, sTru, truD, sNot, sIf, sAnd, sOr, sAndV, sOrV, sNotV, sBl, asgT, asgTs, putIo, noBor, flatR, flatIn, flatD, flatDs, sChain, sFor, sComp, sSeqI, sRng1, sRng2, sEnum, sZip, seqOf, int1, int2, Tg.ge, List.length_cons, List.length_nil, List.getElem?_cons_zero, List.getElem?_cons_succ, List.set_cons_zero, List.set_cons_succ, List.cons_append, List.nil_append, List.replicate, Nat.sub_self, Nat.reduceSub, Nat.reduceAdd, Nat.zero_add, Option.isNone, if_true, reduceIte, decide_true, Bool.true_and, Bool.and_true, Bool.true_or, Bool.or_true, Bool.false_or, Bool.or_false, Bool.false_and, Bool.and_false, reduceCtorEq, gEq_int, gIx_lst atI_0, gIx_lst atI_1, gMod_eq h, gFdiv_eq h h2, uSetL_0, hf]
  · refine ⟨nextI (nextI s + 7) / 64 % m, a, f, nextI (nextI s + 7), ?_, Int.emod_nonneg _ (by omega), Int.emod_lt_of_pos _ h⟩
    unfold f__law_draw s__law_draw penD
    simp only [fnRun, ini, iniL, ioD, sNil, sSeq, sSet, sRet, sRetN, sRetV, sExpr, sIfS, sAsg, sAug, sItem, sMeth, sCall, sOp, sOpT, sC, sVar, sTup, sLst, evA, List.map_cons, List.map_nil, sTru, truD, sNot, sIf, sAnd, sOr, sAndV, sOrV, sNotV, sBl, asgT, asgTs, putIo, noBor, flatR, flatIn, flatD, flatDs, sChain, sFor, sComp, sSeqI, sRng1, sRng2, sEnum, sZip, seqOf, int1, int2, Tg.ge, List.length_cons, List.length_nil, List.getElem?_cons_zero, List.getElem?_cons_succ, List.set_cons_zero, List.set_cons_succ, List.cons_append, List.nil_append, List.replicate, Nat.sub_self, Nat.reduceSub, Nat.reduceAdd, Nat.zero_add, Option.isNone, if_true, reduceIte, decide_true, Bool.true_and, Bool.and_true, Bool.true_or, Bool.or_true, Bool.false_or, Bool.or_false, Bool.false_and, Bool.and_false, reduceCtorEq, gEq_int, gIx_lst atI_0, gIx_lst atI_1, gIx_lst atI_2, gMod_eq h, gFdiv_eq (show (0 : Int) < 64 by decide) (by decide), gAdd, uSetL_2, hf, decide_false, fNext_eq]
theorem sLoop_inv {T : Tg} {f : SS} (I : Nat → Rho → Prop) : ∀ (ds : List D) (k : Nat) (ρ : Rho), I k ρ → (∀ i d ρ, ds[i]? = some d → I (k + i) ρ → ∃ ρ1 ρ2, asgT T d ρ = some ρ1 ∧ f ρ1 = some (.nx, ρ2) ∧ I (k + i + 1) ρ2) → ∃ ρ', sLoop T f ds ρ = some (.nx, ρ') ∧ I (k + ds.length) ρ'
  | [], k, ρ, h, _ => ⟨ρ, rfl, h⟩
  | d :: ds, k, ρ, h, hs => by
    obtain ⟨ρ1, ρ2, e1, e2, h2⟩ := hs 0 d ρ rfl h
    obtain ⟨ρ', e3, h3⟩ := sLoop_inv I ds (k + 1) ρ2 h2 fun i d ρ e hi => by
      have := hs (i + 1) d ρ (by simpa using e) (by rw [show k + (i + 1) = k + 1 + i by omega]; exact hi)
      rw [show k + (i + 1) + 1 = k + 1 + i + 1 by omega] at this
      exact this
    refine ⟨ρ', ?_, by rw [List.length_cons, show k + (ds.length + 1) = k + 1 + ds.length by omega]; exact h3⟩
    unfold sLoop
    simp only [e1, e2, e3]
end L2
namespace L2
open PySem PySem.Spec PyProof.Rows
section
variable {ρ ρ1 ρ2 : Rho} {d c c' i : D} {ds : List D} {nw b : Bool} {f g : SE} {p q : ST} {s t : SS} {C : Str}
theorem r_set {j : Nat} {x : Option (D × Md)} (h : f ρ = some (.ok d nw, ρ1)) (hx : ρ1[j]? = some x) (hn : ρ1.set j (some (d, if nw then .ow else .fz)) = ρ2) : sSet j f ρ = some (.nx, ρ2) := by subst hn; unfold sSet; rw [h]; show (match ρ1[j]? with | some _ => _ | none => _) = _; rw [hx]
theorem r_ret (h : f ρ = some (.ok d nw, ρ1)) : sRet f ρ = some (.rt d nw, ρ1) := by unfold sRet; rw [h]
theorem r_expr (h : f ρ = some (.ok d nw, ρ1)) : sExpr f ρ = some (.nx, ρ1) := by unfold sExpr; rw [h]
theorem r_seq {r : Option (Out × Rho)} (h : s ρ = some (.nx, ρ1)) (h2 : t ρ1 = r) : sSeq s t ρ = r := by unfold sSeq; rw [h]; exact h2
theorem r_ifT {r : Option (Out × Rho)} (h : p ρ = some (.ok b, ρ1)) (hb : b = true) (h2 : s ρ1 = r) : sIfS p s t ρ = r := by unfold sIfS; subst hb; rw [h]; exact h2
theorem r_ifF {r : Option (Out × Rho)} (h : p ρ = some (.ok b, ρ1)) (hb : b = false) (h2 : t ρ1 = r) : sIfS p s t ρ = r := by unfold sIfS; subst hb; rw [h]; exact h2
theorem r_nil : sNil ρ = some (.nx, ρ) := rfl
theorem r_aug {j : Nat} {op : Int → Int → Int} {a k : Int} {x : Option (D × Md)} (h0 : ρ[j]? = some (some (.int a, .fz))) (h : f ρ = some (.ok (.int k) nw, ρ1)) (hx : ρ1[j]? = some x) (hn : ρ1.set j (some (.int (op a k), .fz)) = ρ2) : sAug j op f ρ = some (.nx, ρ2) := by
  subst hn; unfold sAug; rw [h0]; show (match f ρ with | some (.ok (.int b) _, ρ') => _ | some (.ok _ _, _) => _ | some (.ex C, ρ') => _ | none => _) = _; rw [h]; show (match ρ1[j]? with | some _ => _ | none => _) = _; rw [hx]
theorem r_for {it : SI} {T : Tg} {r : Option (Out × Rho)} (h : it ρ = some (.ok ds, ρ1)) (h2 : sLoop T s ds ρ1 = r) : sFor it T s ρ = r := by unfold sFor; rw [h]; exact h2
theorem r_methO {j : Nat} {u : D → List D → Option (D × D)} {fs : List SE} {l : List D} (h0 : ρ[j]? = some (some (.lst l, .ow))) (h1 : evA (fs.map Arg.ex) ρ = some (.ok ds, ρ1)) (h2 : ρ1[j]? = some (some (c, .ow))) (h3 : u c ds = some (c', d)) (hn : ρ1.set j (some (c', .ow)) = ρ2) : sMeth j u fs ρ = some (.ok d false, ρ2) := by subst hn; unfold sMeth; simp only [h0, h1, h2, h3]
theorem r_nilA : evA [] ρ = some (.ok [], ρ) := rfl
theorem r_exA {as : List Arg} (h : f ρ = some (.ok d nw, ρ1)) (h2 : evA as ρ1 = some (.ok ds, ρ2)) : evA (.ex f :: as) ρ = some (.ok (d :: ds), ρ2) := by unfold evA; simp only [h, h2]
theorem r_nilM : evA (List.map Arg.ex []) ρ = some (.ok [], ρ) := rfl
theorem r_exM {fs : List SE} (h : f ρ = some (.ok d nw, ρ1)) (h2 : evA (List.map Arg.ex fs) ρ1 = some (.ok ds, ρ2)) : evA (List.map Arg.ex (f :: fs)) ρ = some (.ok (d :: ds), ρ2) := r_exA h h2
theorem r_borA {as : List Arg} {j : Nat} {x : D × Md} {m : Md} (h : ρ[j]? = some (some x)) (h2 : evA as ρ = some (.ok ds, ρ2)) (h3 : ρ2[j]? = some (some (d, m))) : evA (.bor j :: as) ρ = some (.ok (d :: ds), ρ2) := by unfold evA; simp only [h, h2, h3]
theorem r_op {o : List D → Option (D × Bool)} {as : List Arg} (h : evA as ρ = some (.ok ds, ρ1)) (h2 : o ds = some (d, nw)) : sOp o as ρ = some (.ok d nw, ρ1) := by unfold sOp; simp only [h, h2]
theorem r_opT {o : List D → Option (D × Bool)} {as : List Arg} (h : evA as ρ = some (.ok ds, ρ1)) (h2 : o ds = some (.bl b, nw)) : sOpT o as ρ = some (.ok b, ρ1) := by unfold sOpT; rw [r_op h h2]
theorem r_bl (h : f ρ = some (.ok (.bl b) nw, ρ1)) : sBl f ρ = some (.ok b, ρ1) := by unfold sBl; rw [h]
theorem r_tru {a : Arg} (h : evA [a] ρ = some (.ok [d], ρ1)) (h2 : truD d = some b) : sTru a ρ = some (.ok b, ρ1) := by unfold sTru; simp only [h, h2]
theorem r_not (h : p ρ = some (.ok b, ρ1)) : sNot p ρ = some (.ok (!b), ρ1) := by unfold sNot; rw [h]
theorem r_andF (h : p ρ = some (.ok b, ρ1)) (hb : b = false) : sAnd p q ρ = some (.ok false, ρ1) := by unfold sAnd; subst hb; rw [h]
theorem r_orF {r : Option (ResT × Rho)} (h : p ρ = some (.ok b, ρ1)) (hb : b = false) (h2 : q ρ1 = r) : sOr p q ρ = r := by unfold sOr; subst hb; rw [h]; exact h2
theorem r_c : sC d ρ = some (.ok d false, ρ) := rfl
theorem r_varF {j : Nat} (h : ρ[j]? = some (some (d, .fz))) : sVar j ρ = some (.ok d false, ρ) := by unfold sVar; rw [h]
theorem r_varO {j : Nat} (h : ρ[j]? = some (some (d, .ow))) (hn : ρ.set j (some (d, .fz)) = ρ1) : sVar j ρ = some (.ok d false, ρ1) := by subst hn; unfold sVar; rw [h]
theorem r_retF {j : Nat} (h : ρ[j]? = some (some (d, .fz))) : sRetV j ρ = some (.rt d false, ρ) := by unfold sRetV; rw [h]
theorem r_tup {fs : List SE} (h : evA (fs.map Arg.ex) ρ = some (.ok ds, ρ1)) : sTup fs ρ = some (.ok (.tup ds) false, ρ1) := by unfold sTup; rw [h]
theorem r_lst {fs : List SE} (h : evA (fs.map Arg.ex) ρ = some (.ok ds, ρ1)) : sLst fs ρ = some (.ok (.lst ds) true, ρ1) := by unfold sLst; rw [h]
theorem r_seqI {l : List D} (h : f ρ = some (.ok d nw, ρ1)) (h2 : seqOf d = some l) : sSeqI f ρ = some (.ok l, ρ1) := by unfold sSeqI; simp only [h, h2]
theorem r_enum {l : List D} (h : f ρ = some (.ok d nw, ρ1)) (h2 : seqOf d = some l) : sEnum f ρ = some (.ok (enumL 0 l), ρ1) := by unfold sEnum; simp only [h, h2]
theorem r_zip {fs : List SE} {l l' : List D} (h : evA (fs.map Arg.ex) ρ = some (.ok ds, ρ1)) (h2 : seq2 ds = some (l, l')) (h3 : l.length ≤ l'.length) : sZip fs ρ = some (.ok (zipL l l'), ρ1) := by unfold sZip; simp only [h, h2, h3, decide_true, if_true]
theorem r_rng1 {x : Arg} {j : Int} (h : evA [x] ρ = some (.ok [.int j], ρ1)) (o : okR 0 j = true) : sRng1 x ρ = some (.ok (rngL 0 j.toNat), ρ1) := by
  unfold sRng1; rw [h]; show (if okR 0 j = true then some (ResA.ok (rngL 0 j.toNat), ρ1) else none) = _; rw [if_pos o]
theorem r_rng2 {x y : Arg} {j k : Int} (h : evA [x, y] ρ = some (.ok [.int j, .int k], ρ1)) (o : okR j k = true) : sRng2 x y ρ = some (.ok (rngL j (k - j).toNat), ρ1) := by
  unfold sRng2; rw [h]; show (if okR j k = true then some (ResA.ok (rngL j (k - j).toNat), ρ1) else none) = _; rw [if_pos o]
theorem r_comp {k : Nat} {it : SI} {T : Tg} {e : Option ST} {ys : List D} (h1 : it ρ = some (.ok ds, ρ1)) (h2 : Tg.ge ρ1.length T = true) (h3 : sCompL k T e f ds ρ1 = some (ys, ρ2)) : sComp k it T e f ρ = some (.ok (.lst ys) true, ρ2) := by
  unfold sComp; rw [h1]; show (if Tg.ge ρ1.length T = true then _ else none) = _; rw [if_pos h2, h3]
theorem r_call {as : List Arg} {run : FS} {x : D} (h : evA as ρ = some (.ok ds, ρ1)) (h2 : run ds = some (.ok d nw, x)) (h3 : (noBor none 0 as ρ1 || (flatR d nw && ((none : Option Nat).isNone || flatIn x))) = true) : sCall none none run as ρ = some (.ok d nw, ρ1) := by
  unfold sCall; simp only [h, h2]; rw [if_pos h3]; rfl
theorem r_callIo {k j : Nat} {as : List Arg} {run : FS} {x : D} (h : evA as ρ = some (.ok ds, ρ1)) (h2 : run ds = some (.ok d nw, x)) (h3 : (noBor (some k) 0 as ρ1 || (flatR d nw && ((some k).isNone || flatIn x))) = true) (h4 : putIo (some j) x ρ1 = some ρ2) : sCall (some k) (some j) run as ρ = some (.ok d nw, ρ2) := by
  unfold sCall; simp only [h, h2]; rw [if_pos h3, h4]
theorem r_chain {o o' : List D → Option (D × Bool)} {f3 : SE} {x y z : D} {b2 : Bool} (h : evA [.ex f, .ex g] ρ = some (.ok [x, y], ρ1)) (h1 : o [x, y] = some (.bl b, false)) (h2 : f3 ρ1 = some (.ok z nw, ρ1)) (h3 : o' [y, z] = some (.bl b2, false)) : sChain o o' f g f3 ρ = some (.ok (.bl (b && b2)) false, ρ1) := by
  unfold sChain; simp only [h, h1]
  cases b with
  | true => simp only [h2, h3, Bool.true_and]
  | false => rfl
theorem r_andVT {r : Option (Res × Rho)} (h : f ρ = some (.ok (.bl b) nw, ρ1)) (hb : b = true) (h2 : g ρ1 = r) : sAndV f g ρ = r := by unfold sAndV; subst hb; rw [h]; exact h2
theorem r_andVF (h : f ρ = some (.ok (.bl b) nw, ρ1)) (hb : b = false) : sAndV f g ρ = some (.ok (.bl false) false, ρ1) := by unfold sAndV; subst hb; rw [h]
theorem r_andV {b2 : Bool} (h : f ρ = some (.ok (.bl b) nw, ρ1)) (h2 : g ρ1 = some (.ok (.bl b2) false, ρ1)) : sAndV f g ρ = some (.ok (.bl (b && b2)) false, ρ1) := by
  unfold sAndV; rw [h]
  cases b with
  | true => exact h2
  | false => rfl
theorem r_orVF {r : Option (Res × Rho)} (h : f ρ = some (.ok (.bl b) nw, ρ1)) (hb : b = false) (h2 : g ρ1 = r) : sOrV f g ρ = r := by unfold sOrV; subst hb; rw [h]; exact h2
theorem r_orVT (h : f ρ = some (.ok (.bl b) nw, ρ1)) (hb : b = true) : sOrV f g ρ = some (.ok (.bl true) false, ρ1) := by unfold sOrV; subst hb; rw [h]
theorem r_notV (h : f ρ = some (.ok (.bl b) nw, ρ1)) : sNotV f ρ = some (.ok (.bl (!b)) false, ρ1) := by unfold sNotV; rw [h]
section
variable {np n : Nat} {body : SS} {io : Option Nat} {x : D}
theorem r_fn (hi : ini n io ds = ρ) (h : body ρ = some (.rt d nw, ρ1)) (hx : ioD io ρ1 = some x) (hl : ds.length = np) : fnRun np n io body ds = some (.ok d nw, x) := by subst hi; unfold fnRun; rw [if_pos hl, h]; show (match ioD io ρ1 with | some x => _ | none => _) = _; rw [hx]
theorem r_fnN (hi : ini n io ds = ρ) (h : body ρ = some (.nx, ρ1)) (hx : ioD io ρ1 = some x) (hl : ds.length = np) : fnRun np n io body ds = some (.ok .non false, x) := by subst hi; unfold fnRun; rw [if_pos hl, h]; show (match ioD io ρ1 with | some x => _ | none => _) = _; rw [hx]
end
end
theorem sCompL_of {α : Type} {k : Nat} {T : Tg} {f : SE} {ρ : Rho} {inj g : α → D} : ∀ (xs : List α), (∀ x ∈ xs, ∃ ρ1 ρ3 nw, asgT T (inj x) (ρ ++ List.replicate k none) = some ρ1 ∧ f ρ1 = some (.ok (g x) nw, ρ3) ∧ ρ3.take ρ.length = ρ) → sCompL k T none f (xs.map inj) ρ = some (xs.map g, ρ)
  | [], _ => rfl
  | x :: xs, h => by
    obtain ⟨ρ1, ρ3, nw, e1, e2, e3⟩ := h x List.mem_cons_self
    rw [List.map_cons]
    unfold sCompL
    simp only [e1, evC, e2, e3, sCompL_of xs fun d hd => h d (List.mem_cons_of_mem _ hd), List.map_cons]
theorem sCompL_ofF {α : Type} {k : Nat} {T : Tg} {c : ST} {f : SE} {ρ : Rho} {inj g : α → D} {p : α → Bool} : ∀ (xs : List α), (∀ x ∈ xs, ∃ ρ1 ρ2, asgT T (inj x) (ρ ++ List.replicate k none) = some ρ1 ∧ c ρ1 = some (.ok (p x), ρ2) ∧ ρ2.take ρ.length = ρ ∧ (p x = true → ∃ ρ3 nw, f ρ2 = some (.ok (g x) nw, ρ3) ∧ ρ3.take ρ.length = ρ)) → sCompL k T (some c) f (xs.map inj) ρ = some ((xs.filter p).map g, ρ)
  | [], _ => rfl
  | x :: xs, h => by
    obtain ⟨ρ1, ρ2, e1, e2, e3, e4⟩ := h x List.mem_cons_self
    have ih := sCompL_ofF xs fun d hd => h d (List.mem_cons_of_mem _ hd)
    rw [List.map_cons]
    unfold sCompL
    cases hp : p x with
    | true =>
      obtain ⟨ρ3, nw, e5, e6⟩ := e4 hp
      rw [hp] at e2
      simp only [e1, evC, e2, e5, e6, ih, List.map_cons, List.filter_cons, hp, if_true]
    | false =>
      rw [hp] at e2
      simp only [e1, evC, e2, e3, ih, List.filter_cons, hp]
      rfl
theorem sCompL_ix {k : Nat} {T : Tg} {f : SE} {ρ : Rho} {g : Nat → D} : ∀ (ds : List D) (j : Nat), (∀ i d, ds[i]? = some d → ∃ ρ1 ρ3 nw, asgT T d (ρ ++ List.replicate k none) = some ρ1 ∧ f ρ1 = some (.ok (g (j + i)) nw, ρ3) ∧ ρ3.take ρ.length = ρ) → sCompL k T none f ds ρ = some ((List.range' j ds.length).map g, ρ)
  | [], _, _ => rfl
  | d :: ds, j, h => by
    obtain ⟨ρ1, ρ3, nw, e1, e2, e3⟩ := h 0 d rfl
    have ih := sCompL_ix ds (j + 1) fun i d hd => by
      have := h (i + 1) d (by simpa using hd)
      rw [show j + (i + 1) = j + 1 + i by omega] at this
      exact this
    unfold sCompL
    simp only [e1, evC, e2, e3, ih, List.length_cons, List.range'_succ, List.map_cons, Nat.add_zero]
theorem sCompL_ix0 {k : Nat} {T : Tg} {f : SE} {ρ : Rho} {g : Nat → D} (ds : List D) (h : ∀ i d, ds[i]? = some d → ∃ ρ1 ρ3 nw, asgT T d (ρ ++ List.replicate k none) = some ρ1 ∧ f ρ1 = some (.ok (g i) nw, ρ3) ∧ ρ3.take ρ.length = ρ) : sCompL k T none f ds ρ = some ((List.range ds.length).map g, ρ) := by
  rw [List.range_eq_range']
  exact sCompL_ix ds 0 fun i d hd => by rw [Nat.zero_add]; exact h i d hd
theorem gAll_bls (bs : List Bool) : gAll [.lst (bs.map D.bl)] = some (.bl (bs.all id), false) := by unfold gAll; simp only [blsOf_map]
theorem gSet_ints (ns : List Int) (h : ns.length ≤ 1000) : gSet [.tup (ns.map D.int)] = some (.set (dd ns), false) := by unfold gSet; simp only [intsOf_map, h, decide_true, if_true]
theorem gSetL_ints (ns : List Int) (h : ns.length ≤ 1000) : gSet [.lst (ns.map D.int)] = some (.set (dd ns), false) := by unfold gSet; simp only [intsOf_map, h, decide_true, if_true]
theorem dd_len (ns : List Int) : (dd ns).length ≤ ns.length := by
  unfold dd
  have : ∀ (l acc : List Int), (l.foldl step_dedup acc).length ≤ acc.length + l.length := by
    intro l
    induction l with
    | nil => intro acc; simp
    | cons x l ih =>
      intro acc
      have h1 : (step_dedup acc x).length ≤ acc.length + 1 := by
        unfold step_dedup
        split <;> simp
      have := ih (step_dedup acc x)
      rw [List.foldl_cons, List.length_cons]
      omega
  have := this ns []
  simpa using this
theorem gLen_set (ns : List Int) (h : ns.length ≤ 1000) : gLen [.set (dd ns)] = some (.int (dd ns).length, false) := by
  have := dd_len ns
  unfold gLen
  simp only [show (dd ns).length ≤ 1000 by omega, decide_true, if_true]
theorem gLen_tup (ns : List Int) : gLen [.tup (ns.map D.int)] = some (.int ns.length, false) := by show some (D.int ((ns.map D.int).length : Nat), false) = _; rw [List.length_map]
theorem gMaxA_tup (ns : List Int) (h : ns ≠ []) : gMaxA [.tup (ns.map D.int)] = some (.int (maxI ns), false) := by
  unfold gMaxA
  cases ns with
  | nil => exact absurd rfl h
  | cons n ns => simp only [intsOf_map]
theorem gMaxA_lst (ns : List Int) (h : ns ≠ []) : gMaxA [.lst (ns.map D.int)] = some (.int (maxI ns), false) := by
  unfold gMaxA gMax
  cases ns with
  | nil => exact absurd rfl h
  | cons n ns => simp only [intsOf_map]
theorem gMinA_lst (ns : List Int) (h : ns ≠ []) : gMinA [.lst (ns.map D.int)] = some (.int (minI ns), false) := by
  unfold gMinA gMin
  cases ns with
  | nil => exact absurd rfl h
  | cons n ns => simp only [intsOf_map]
theorem atI_ints {ns : List Int} {i : Int} (h0 : 0 ≤ i) (h1 : i < ns.length) : atI (ns.map D.int) i = some (.int (ns.getD i.toNat 0)) := by
  obtain ⟨k, rfl⟩ : ∃ k : Nat, i = k := ⟨i.toNat, by omega⟩
  have hk : k < ns.length := by omega
  refine atI_of ?_
  rw [List.getElem?_map, List.getElem?_eq_getElem hk]
  simp [hk]
theorem small_of {n : Nat} (h : n ≤ 1000) : small n = true := by unfold small; exact decide_eq_true (by omega)
theorem gAdd_tups (a b : List Int) (h : a.length + b.length ≤ 1000) : gAdd [.tup (a.map D.int), .tup (b.map D.int)] = some (.tup ((a ++ b).map D.int), false) := by
  unfold gAdd
  simp only [small_of (show (a.map D.int).length + (b.map D.int).length ≤ 1000 by rw [List.length_map, List.length_map]; exact h), if_true, List.map_append]
theorem cut_lo {l : List D} {n : Nat} (h : n ≤ l.length) : cutD l none (some (n : Int)) = l.take n := by
  unfold cutD
  have e1 : HT.sIx l.length 0 none = 0 := rfl
  have e2 : HT.sIx l.length l.length (some (n : Int)) = n := by
    unfold HT.sIx
    simp
    rw [if_neg (by omega)]
    omega
  rw [e1, e2, List.drop_zero, Nat.sub_zero]
theorem cut_hi {l : List D} {n : Nat} (h : n ≤ l.length) : cutD l (some (n : Int)) none = l.drop n := by
  unfold cutD
  have e1 : HT.sIx l.length l.length none = l.length := rfl
  have e2 : HT.sIx l.length 0 (some (n : Int)) = n := by
    unfold HT.sIx
    simp
    rw [if_neg (by omega)]
    omega
  rw [e1, e2]
  apply List.take_of_length_le
  rw [List.length_drop]
  exact Nat.le_refl _
theorem okR_of {lo hi : Int} (h1 : -1000000 ≤ lo) (h2 : lo ≤ 1000000) (h3 : -1000000 ≤ hi) (h4 : hi ≤ 1000000) (h5 : hi - lo ≤ 1000000) : okR lo hi = true := by
  unfold okR
  refine decide_eq_true ⟨?_, ?_, ?_, ?_, ?_⟩ <;> omega
theorem el_mk {k : Nat} {T : Tg} {f : SE} {ρ ρ1 ρ3 : Rho} {d y y' : D} {nw : Bool} (h1 : asgT T d (ρ ++ List.replicate k none) = some ρ1) (h2 : f ρ1 = some (.ok y' nw, ρ3)) (h3 : ρ3.take ρ.length = ρ) (hy : y' = y) : ∃ ρ1 ρ3 nw, asgT T d (ρ ++ List.replicate k none) = some ρ1 ∧ f ρ1 = some (.ok y nw, ρ3) ∧ ρ3.take ρ.length = ρ := ⟨ρ1, ρ3, nw, h1, by rw [← hy]; exact h2, h3⟩
theorem el_mkF {k : Nat} {T : Tg} {c : ST} {f : SE} {ρ ρ1 ρ2 ρ3 : Rho} {d y y' : D} {b b' nw : Bool} (h1 : asgT T d (ρ ++ List.replicate k none) = some ρ1) (h2 : c ρ1 = some (.ok b', ρ2)) (h3 : ρ2.take ρ.length = ρ) (hb : b' = b) (h4 : f ρ2 = some (.ok y' nw, ρ3)) (h5 : ρ3.take ρ.length = ρ) (hy : y' = y) : ∃ ρ1 ρ2, asgT T d (ρ ++ List.replicate k none) = some ρ1 ∧ c ρ1 = some (.ok b, ρ2) ∧ ρ2.take ρ.length = ρ ∧ (b = true → ∃ ρ3 nw, f ρ2 = some (.ok y nw, ρ3) ∧ ρ3.take ρ.length = ρ) := ⟨ρ1, ρ2, h1, by rw [← hb]; exact h2, h3, fun z => ⟨ρ3, nw, by rw [← hy]; exact h4, h5⟩⟩
end L2
namespace L2
open PySem PySem.Spec PyProof.Rows
theorem Fun.okX {P : Program} {w : World} {K : PySem.W.Frag} {mg : Str → Option Value} {base : Heap} {x : Str} {st : Stmt} {N ps : List Str} {k : Nat} {sp : Sp} {f : Addr} {fd : FuncData} (F : Fun K x x st f fd) (S : FnScope N ps (defScope st)) (len : ∀ vs H Q E, sp vs H Q E → vs.length = ps.length)
    (hbody : ∀ (f : Addr) (cdv : Value) (A : Around) (outer : List Env) (s : Shared) (H : Hp) (vs : List V) (Q : VK) (E : XK), Room k (A.deeper (envOfC x (defScope st) s.heap.objs.size f cdv)) → sp vs H Q E →
      ∃ t, PSs (cxOf (CXr P w) P w K mg base N x (defScope st) f cdv A outer s H E) (defBody st) t ∧ t { nx := fun _ H' => Q .non H', rt := Q } (start N vs) H) : FnOk P w K mg base (CXr P w) (k + 1) f fd ps sp := by
  obtain ⟨oc, od, kV, doc, pm, an, cdv, ct, osl, rfl, lk, hcd⟩ := F.ex
  exact fn_of lk hcd S len fun A outer s H vs Q E hr hsp => hbody f cdv A outer s H vs Q E hr hsp
theorem fn_okF {f0 : Addr} {fd0 : FuncData} {P : Program} {w : World} {K : PySem.W.Frag} {mg : Str → Option Value} {base : Heap} {x : Str} {st : Stmt} {N ps : List Str} {k : Nat} {io : Option Nat} {body : SS} (h : Fun K x x st f0 fd0) (S : FnScope N ps (defScope st))
    (hb : ∀ (f : Addr) (cdv : Value) (A : Around) (outer : List Env) (s : Shared) (H : Hp) (E : XK), Room k (A.deeper (envOfC x (defScope st) s.heap.objs.size f cdv)) →
      JSs (cxOf (CXr P w) P w K mg base N x (defScope st) f cdv A outer s H E) (EXf K E) (defBody st) body) (hps : ps.length ≤ N.length := by decide) : FnOk P w K mg base (CXr P w) (k + 1) f0 fd0 ps (spF K io (fnRun ps.length N.length io body)) := by
  have run_len : ∀ {ds : List D} {r : Res × D}, fnRun ps.length N.length io body ds = some r → ds.length = ps.length := fun {ds r} e => by
    unfold fnRun at e
    split at e
    · assumption
    · cases e
  refine Fun.okX h S (fun vs H Q E hs => ?_) (fun f cdv A outer s H vs Q E hr hs => ?_)
  · obtain ⟨Z, W, ds, h1, _, _, _, _, _, hm⟩ := hs
    cases e : fnRun ps.length N.length io body ds with
    | none => rw [e] at hm; exact hm.elim
    | some r => rw [h1]; exact run_len e
  · obtain ⟨Z, W, ds, h1, hwz, hmt, hfz, hio, hno, hm⟩ := hs
    refine ⟨_, (hb f cdv A outer s H E hr).p, ?_⟩
    have hlen : ds.length = ps.length := by
      cases e : fnRun ps.length N.length io body ds with
      | none => rw [e] at hm; exact hm.elim
      | some r => exact run_len e
    let F : Fx := ⟨Z, fun j => if io = some j then W.head? else none⟩
    have st_get : ∀ {j : Nat} {v : V}, vs[j]? = some v → (start N vs)[j]? = some (some v) := fun {j v} e => by
      unfold start
      rw [List.getElem?_append_left (by rw [List.length_map]; exact (List.getElem?_eq_some_iff.mp e).1), List.getElem?_map, e]
      rfl
    have R0 : Rel K F (start N vs) H (ini N.length io ds) W := by
      refine ⟨fun i d m hi => ?_, fun i j d e m n p g1 g2 g3 g4 _ _ => ?_, hwz, hmt, ?_⟩
      · obtain ⟨hd, rfl⟩ := ini_get hi
        have hv : i < vs.length := by rw [h1]; exact (List.getElem?_eq_some_iff.mp hd).1
        refine ⟨vs[i], st_get (List.getElem?_eq_getElem hv), ?_⟩
        by_cases e : io = some i
        · rw [if_pos e]
          obtain ⟨p, d', q1, q2, q3, q4⟩ := hio i e
          rw [List.getElem?_eq_getElem hv] at q1
          rw [hd] at q2
          cases q2
          refine ⟨p, Option.some.inj q1, by rw [q3]; exact List.mem_cons_self, q4, ?_⟩
          show (if io = some i then W.head? else none) = some p
          rw [if_pos e, q3]
          rfl
        · rw [if_neg e]
          exact hfz i d _ e hd (List.getElem?_eq_getElem hv)
      · obtain ⟨_, e1⟩ := ini_get g1
        obtain ⟨_, e2⟩ := ini_get g3
        by_cases z1 : io = some i
        · by_cases z2 : io = some j
          · rw [z1] at z2; exact Option.some.inj z2
          · rw [if_neg z2] at e2; exact absurd e2 g4
        · rw [if_neg z1] at e1; exact absurd e1 g2
      · unfold start ini
        rw [List.length_append, List.length_append, List.length_map, List.length_replicate, List.length_replicate, iniL_len, h1]
    refine ⟨F, _, W, R0, ?_⟩
    -- what the list that may be changed has become
    have ioR : ∀ {σ' : St} {H' : Hp} {ρ' : Rho} {W' : List Addr} {x : D} {p : Addr}, Rel K F σ' H' ρ' W' → ioD io ρ' = some x → W = [p] → p ∈ W' ∧ OwnAt K H' (hid (W' ++ Z) H') p x := fun {σ' H' ρ' W' x p} R e hW => by
      cases hk : io with
      | none => rw [hno hk] at hW; cases hW
      | some k =>
        unfold ioD at e
        rw [hk] at e
        dsimp only at e
        split at e
        · rename_i d0 e0
          cases e
          obtain ⟨v, g1, q, g2, g3, g4, g5⟩ := R.slot k _ _ e0
          have g5 : (if io = some k then W.head? else none) = some q := g5
          rw [if_pos hk, hW] at g5
          have : p = q := Option.some.inj g5
          subst this
          exact ⟨g3, g4⟩
        · cases e
    have wsub : ∀ {σ' : St} {H' : Hp} {ρ' : Rho} {W' : List Addr} {x : D}, Rel K F σ' H' ρ' W' → ioD io ρ' = some x → ∀ b, b ∈ W ++ Z → b ∈ W' ++ Z := fun {σ' H' ρ' W' x} R e b hb => by
      rcases List.mem_append.mp hb with z | z
      · cases hk : io with
        | none => rw [hno hk] at z; cases z
        | some k =>
          obtain ⟨p, d, _, _, q3, _⟩ := hio k hk
          rw [q3] at z
          rw [List.mem_singleton.mp z]
          exact List.mem_append_left _ (ioR R e q3).1
      · exact List.mem_append_right _ z
    have toW : ∀ {σ' : St} {H' H2 : Hp} {ρ' : Rho} {W' : List Addr} {x : D}, Rel K F σ' H2 ρ' W' → ioD io ρ' = some x → Same (hid (W' ++ Z) H') (hid (W ++ Z) H') := fun R e => hid_same (fun b hb => .inl (wsub R e b hb)) fun b o _ z => z
    revert hm
    unfold fnRun
    rw [if_pos hlen]
    cases body (ini N.length io ds) with
    | none => exact fun h => h.elim
    | some r =>
      obtain ⟨r, ρ'⟩ := r
      cases r with
      | bk => exact fun h => h.elim
      | ct => exact fun h => h.elim
      | nx =>
        dsimp only
        cases e : ioD io ρ' with
        | none => exact fun h => h.elim
        | some x =>
          intro hm σ' H' W' fr sub R
          exact hm .non H' fr rfl fun p hp => (ioR R e hp).2.at rfl (toW R e)
      | ex C =>
        dsimp only
        cases e : ioD io ρ' with
        | none => exact fun h => h.elim
        | some x =>
          intro hm σ' H' W' fr sub R
          exact hm H' fr fun p hp => (ioR R e hp).2.at rfl (toW R e)
      | rt d nw =>
        dsimp only
        cases e : ioD io ρ' with
        | none => exact fun h => h.elim
        | some x =>
          cases nw with
          | false =>
            intro hm σ' v H' W' fr sub P
            exact hm v H' fr ((toW P.2 e).repD P.1) fun p hp => (ioR P.2 e hp).2.at rfl (toW P.2 e)
          | true =>
            intro hm σ' v H' W' fr sub P
            obtain ⟨q, rfl, hq, hn, hO, R⟩ := P
            have hq0 : H q = none := by
              rcases hq with z | z
              · cases hk : io with
                | none => rw [hno hk] at z; cases z
                | some k =>
                  obtain ⟨p, d', _, _, q3, _⟩ := hio k hk
                  rw [q3] at z
                  have : q = p := List.mem_singleton.mp z
                  subst this
                  exact absurd (List.mem_append_left _ (ioR R e q3).1) hn
              · exact z
            have cs : Same (hid (q :: (W' ++ Z)) H') (hid (q :: (W ++ Z)) H') := hid_same (fun b hb => .inl (by
              rcases List.mem_cons.mp hb with z | z
              · rw [z]; exact List.mem_cons_self
              · exact List.mem_cons_of_mem _ (wsub R e b z))) fun b o _ z => z
            refine hm q H' fr hq0 (hO.at rfl cs) fun p hp => ?_
            obtain ⟨m1, m2⟩ := ioR R e hp
            have pq : p ≠ q := fun z => by subst z; exact hn (List.mem_append_left _ m1)
            refine m2.at (hid_ne (by simpa using pq)).symm fun b o z => ?_
            obtain ⟨z1, z2⟩ := hid_some z
            obtain ⟨z3, z4⟩ := hid_some z2
            rw [hid_ne (fun y => by
              rcases List.mem_cons.mp y with y | y
              · exact z3 (by simpa using y)
              · exact z1 (wsub R e b y))]
            exact z4
end L2
namespace K51
open PySem L2 PyProof.Rows
def top (i : Nat) : Stmt := PySem.Challenge.pw_tienumbers_k51_whole_totals_gone_through.main.body.getD i (.Pass ⟨0, 0, 0, 0⟩)
def k_TOTAL_FORMS : D := .ktup [.ktup [.str "share", .int 1], .ktup [.str "ties", .int 0]]
structure Txt (K : PySem.W.Frag) (mg : Str → Option Value) : Prop where
  all : mg "all" = none
  bool : mg "bool" = none
  enumerate : mg "enumerate" = none
  int : mg "int" = none
  isi : mg "isinstance" = none
  len : mg "len" = none
  list : mg "list" = none
  max : mg "max" = none
  min : mg "min" = none
  range : mg "range" = none
  set : mg "set" = none
  sorted : mg "sorted" = none
  sum : mg "sum" = none
  tuple : mg "tuple" = none
  zip : mg "zip" = none
  TOTAL_FORMS : ∃ a, mg "TOTAL_FORMS" = some (.ref a) ∧ ∀ H, RepD K H k_TOTAL_FORMS (.ref a)
section
variable {P : Program} {w : World} {K : PySem.W.Frag} {mg : Str → Option Value} {base : Heap}
def s_is_whole : SS := (sRet (sAndV (sOp (gIsi "int") [.bor 0]) (sNotV (sOp (gIsi "bool") [.bor 0]))))
def f_is_whole : FS := fnRun 1 1 none s_is_whole
theorem sc_is_whole : FnScope ["thing"] ["thing"] (defScope (top 1)) := ⟨rfl, rfl, rfl, by decide +kernel, rfl, by decide +kernel, by decide +kernel⟩
theorem ok_is_whole (h : Has K mg "is_whole" (top 1) ["thing"]) (T : Txt K mg) : OkX P w K mg base "is_whole" ["thing"] 1 (spF K none f_is_whole) := by
  refine fn_ok h sc_is_whole (fun f cdv A outer s H E hr => ?_)
  have hu : (cxOf (CXr P w) P w K mg base ["thing"] "is_whole" (defScope (top 1)) f cdv A outer s H E).A.units + 10 < cLine := by have := hr.units; show (A.deeper _).units + 10 < cLine; omega
  exact (s_one (s_ret (c_and (b_isi_int (vb 0) T.isi T.int) (c_one (c_not (b_isi_bool (vb 0) T.isi T.bool))))))
def s_share_bars : SS := (sRet (sComp 1 (sRng2 (.ex (sC (.int 2))) (.ex (sOp gAdd [.bor 0, .ex (sC (.int 1))]))) (.nm 1) none (sTup [(sC (.str "share")), (sVar 1)])))
def f_share_bars : FS := fnRun 1 1 none s_share_bars
theorem sc_share_bars : FnScope ["most"] ["most"] (defScope (top 7)) := ⟨rfl, rfl, rfl, by decide +kernel, rfl, by decide +kernel, by decide +kernel⟩
theorem ok_share_bars (h : Has K mg "share_bars" (top 7) ["most"]) (T : Txt K mg) : OkX P w K mg base "share_bars" ["most"] 1 (spF K none f_share_bars) := by
  refine fn_ok h sc_share_bars (fun f cdv A outer s H E hr => ?_)
  have hu : (cxOf (CXr P w) P w K mg base ["most"] "share_bars" (defScope (top 7)) f cdv A outer s H E).A.units + 10 < cLine := by have := hr.units; show (A.deeper _).units + 10 < cLine; omega
  exact (s_one (s_ret (c_comp (M := ["most"]) (tgs := ["share"]) (T := (.nm 1)) (c := none) (f := (sTup [(sC (.str "share")), (sVar 1)])) rfl (BlkD.ok (osc := defScope (top 7)) (N := ["most"]) ⟨rfl, by decide +kernel, by decide +kernel, by decide +kernel, rfl, by decide +kernel, by decide +kernel, by decide +kernel, by decide +kernel⟩) (i_rng2 (by rfl) T.range (ca_cons (cb_ex c_int) (ca_cons (cb_ex (b_add (vb 0) (cb_ex c_int))) ca_nil))) (fun _ _ _ _ _ => (g_name (i := 1) (by decide +kernel : (["most", "share"] : List Str).Nodup) rfl (Or.inl rfl))) (fun _ _ _ _ _ => .no) (fun _ _ _ _ _ => (c_tup (.cons c_str (.cons (v 1) .nil)))))))
open L2.Td in
theorem scTied : FnScope ["web", "tied", "a", "b"] ["web"] (defScope (top 13)) := ⟨rfl, rfl, rfl, by decide +kernel, rfl, by decide +kernel, by decide +kernel⟩
open L2.Td in
def scTiedC : Scope := { kind := .function, names := [(".0", .local), ("place", .local)], isGenerator := false, isCoroutine := false, more := [] }
open L2.Td in
theorem bkTied : BlkD (defScope (top 13)) ["web", "tied", "a", "b"] scTiedC ["web", "tied", "a", "b"] ["place"] := ⟨rfl, by decide +kernel, by decide +kernel, by decide +kernel, rfl, by decide +kernel, by decide +kernel, by decide +kernel, by decide +kernel⟩
open L2.Td in
theorem ok_tied (h : Has K mg "tied_places" (top 13) ["web"]) (T : Txt K mg) : Ok P w K mg base "tied_places" ["web"] 1 (spTied K) := by
  refine h.ok scTied (fun vs H Q E h => ?_) (fun f cdv A outer s H vs Q E hr h => ?_)
  · obtain ⟨wb, many, ties, rfl, _⟩ := h; rfl
  · obtain ⟨wb, many, ties, rfl, web, m0, m1, q⟩ := h
    obtain ⟨t, bs, h1, h2, h3⟩ := web.at_
    have bl : bs.length = ties.length := Paired.length h3
    have lt60 : ties.length ≤ 60 := web.len
    refine ⟨_, pss_cons (ps_compSet (j := 1) (M := ["web", "tied", "a", "b"]) (tgs := ["place"]) rfl bkTied.ok (pi_range1 (by rfl) T.range (pa_cons (pe_ix ix_tup (pv 0) pe_int (fun _ _ => rfl)) pa_nil))
        (fun cl C fp s H => pg_name (i := 4) bkTied.nd rfl (Or.inl rfl)) (fun cl C fp s H => pif0) (fun cl C fp s H => pe_lst pa_nil) scTied.nd rfl rfl)
      (pss_cons (ps_for PassesOwn.never rfl (pi_tup (pe_ix ix_tup (pv 0) pe_int (fun _ _ => rfl))) (pg_tup rfl (pgs_cons (pg_name (i := 2) scTied.nd rfl (Or.inl rfl)) (pgs_cons (pg_name (i := 3) scTied.nd rfl (Or.inl rfl)) pgs_nil)))
        (pss_cons (ps_expr (pe_bm PySem.F.plainAttrs_list PySem.F.slot_list_append PySem.F.type_list_append mt_append (pe_ix ix_list (pv 1) (pv 2) (fun _ _ => rfl)) (pa_cons (pv 3) pa_nil)))
        (pss_one (ps_expr (pe_bm PySem.F.plainAttrs_list PySem.F.slot_list_append PySem.F.type_list_append mt_append (pe_ix ix_list (pv 1) (pv 3) (fun _ _ => rfl)) (pa_cons (pv 2) pa_nil))))))
      (pss_one (ps_ret (pv 1)))), ?_⟩
    refine ⟨_, rfl, wb, [.int many, .ref t], 0, _, rfl, rfl, .inl (.inl h1), rfl, many, rfl, by omega, by omega, ?_⟩
    refine comp_range (n := many.toNat) (fun k ys H' => Same H H' ∧ ∃ ls : List Addr, ys = ls.map V.ref ∧ ls.length = k ∧ ls.Nodup ∧ ∀ l ∈ ls, H l = none ∧ H' l = some (.lst [])) ⟨Same.refl H, [], rfl, rfl, List.nodup_nil, fun l hl => by cases hl⟩ (fun k ys H' hk pv => ?_) (fun k ys H' hk pv => ?_) (fun ys H' pv p hp => ?_)
    · obtain ⟨_, ls, rfl, e, _⟩ := pv
      rw [List.length_map, e]
      exact Nat.le_of_lt (small1000 (by omega))
    · obtain ⟨e, ls, rfl, el, nd, ea⟩ := pv
      refine ⟨rfl, by show 0 ≤ sizeLine; decide, fun l hl => .mk hk ⟨e.trans (Same.upd hl), ls ++ [l], by simp, by simp [el], ?_, fun l' hl' => ?_⟩⟩
      · refine List.nodup_append.mpr ⟨nd, by simp, fun a ha b hb => ?_⟩
        have : b = l := by simpa using hb
        subst this
        exact ne_of_none (ea a ha).2 hl
      · rcases List.mem_append.mp hl' with hl' | hl'
        · exact ⟨(ea l' hl').1, Same.upd hl _ _ (ea l' hl').2⟩
        · have : l' = l := by simpa using hl'
          subst this
          exact ⟨e.free hl, upd_same⟩
    · obtain ⟨e, ls, rfl, el, nd, ea⟩ := pv
      have A0 : Adj H p ls [] (upd H' p (.lst (ls.map V.ref))) := by
        have np : ∀ l ∈ ls, l ≠ p := fun l hl => ne_of_none (ea l hl).2 hp
        refine ⟨e.trans (Same.upd hp), upd_same, nd, fun z => np p z rfl, e.free hp, fun l hl => (ea l hl).1, fun j l hj => ?_⟩
        have hl := List.mem_of_getElem? hj
        rw [upd_ne (np l hl)]
        exact (ea l hl).2
      have s0 := A0.same
      refine ⟨_, rfl, wb, [.int many, .ref t], 1, _, rfl, rfl, .inl (.inl (s0 _ _ h1)), rfl, t, rfl, ⟨bs, .inl (.inl (s0 _ _ h2))⟩, ?_⟩
      refine for_tup (K := K) (a := t) (xs := bs) (fun k σ H' => ∃ v2 v3, σ = [some (.ref wb), some (.ref p), v2, v3] ∧ Adj H p ls (ties.take k) H') ⟨none, none, rfl, A0⟩ (fun k σ H' hk ⟨_, _, _, A⟩ => .inl (.inl (A.same _ _ h2))) ?_ ?_
      · rintro k x σ H2 hk ⟨v2, v3, rfl, A⟩
        obtain ⟨tt, ht, a, rfl, ha⟩ := Paired.get h3 hk
        obtain ⟨g1, g2, g3⟩ := web.good tt (List.mem_of_getElem? ht)
        obtain ⟨na, ea'⟩ : ∃ n : Nat, tt.1 = n := ⟨tt.1.toNat, by omega⟩
        obtain ⟨nb', eb'⟩ : ∃ n : Nat, tt.2 = n := ⟨tt.2.toNat, by omega⟩
        have la : ls[na]? = some ls[na] := List.getElem?_eq_getElem (by omega)
        have lb : ls[nb']? = some ls[nb'] := List.getElem?_eq_getElem (by omega)
        have hla := A.lst na _ la
        have hlb := A.lst nb' _ lb
        have nab : ls[na] ≠ ls[nb'] := fun z => by
          have := A.inj la (z ▸ lb)
          omega
        have lenN : ∀ j : Int, (nb j (ties.take k)).length ≤ 60 := fun j => by
          have := nb_len j (ties.take k)
          rw [List.length_take] at this
          omega
        refine ⟨a, [.int tt.1, .int tt.2], rfl, .inl (.inl (A.same _ _ ha)), rfl, _, _, rfl, _, _, rfl, rfl, ?_⟩
        refine ⟨_, rfl, _, rfl, p, ls.map V.ref, tt.1, .ref ls[na], rfl, rfl, .inl (.inl A.at_), by rw [ea']; exact atI_nat (by rw [List.getElem?_map, la]; rfl), ?_⟩
        refine ⟨.inl ⟨rfl, _, .inl (.inl hla)⟩, _, rfl, ls[na], _, _, rfl, rfl, hla, small1000 (by rw [List.length_map]; have := lenN na; omega), ?_⟩
        have p2 : (upd H2 ls[na] (.lst ((nb na (ties.take k)).map V.int ++ [.int tt.2]))) p = some (.lst (ls.map V.ref)) := by
          rw [upd_ne (fun z : p = ls[na] => A.np (by rw [z]; exact List.getElem_mem _))]; exact A.at_
        have hlb2 : (upd H2 ls[na] (.lst ((nb na (ties.take k)).map V.int ++ [.int tt.2]))) ls[nb'] = some (.lst ((nb nb' (ties.take k)).map V.int)) := by
          rw [upd_ne (Ne.symm nab)]; exact hlb
        refine ⟨_, rfl, _, rfl, p, ls.map V.ref, tt.2, .ref ls[nb'], rfl, rfl, .inl (.inl p2), by rw [eb']; exact atI_nat (by rw [List.getElem?_map, lb]; rfl), ?_⟩
        refine ⟨.inl ⟨rfl, _, .inl (.inl hlb2)⟩, _, rfl, ls[nb'], _, _, rfl, rfl, hlb2, small1000 (by rw [List.length_map]; have := lenN nb'; omega), ?_⟩
        refine ⟨_, _, rfl, ?_⟩
        have st := A.step la lb (by omega)
        have e1 : ties.take (k + 1) = ties.take k ++ [((na : Int), (nb' : Int))] := by
          rw [List.take_add_one, ht]
          show _ ++ [tt] = _
          rw [← ea', ← eb']
        rw [e1, ea', eb']
        rw [List.map_append, List.map_append] at st
        exact st
      · rintro σ H2 ⟨v2, v3, rfl, A⟩
        refine ⟨_, rfl, q p ls H2 el ?_⟩
        rw [bl, List.take_length] at A
        exact A
def f_tied_places : FS := Td.fTied
theorem ok_tied_places (h : Has K mg "tied_places" (top 13) ["web"]) (T : Txt K mg) : OkX P w K mg base "tied_places" ["web"] 1 (spF K none f_tied_places) := Td.tied_x (ok_tied h T)
def s_end_sums : SS := (sRet (sComp 2 (sSeqI (sOp gIx [.bor 0, .ex (sC (.int 1))])) (.tp [(.nm 2), (.nm 3)]) none (sOp gAdd [.ex (sOp gIx [.bor 1, .bor 2]), .ex (sOp gIx [.bor 1, .bor 3])])))
def f_end_sums : FS := fnRun 2 2 none s_end_sums
theorem sc_end_sums : FnScope ["web", "numbers"] ["web", "numbers"] (defScope (top 18)) := ⟨rfl, rfl, rfl, by decide +kernel, rfl, by decide +kernel, by decide +kernel⟩
theorem ok_end_sums (h : Has K mg "end_sums" (top 18) ["web", "numbers"]) (T : Txt K mg) : OkX P w K mg base "end_sums" ["web", "numbers"] 1 (spF K none f_end_sums) := by
  refine fn_ok h sc_end_sums (fun f cdv A outer s H E hr => ?_)
  have hu : (cxOf (CXr P w) P w K mg base ["web", "numbers"] "end_sums" (defScope (top 18)) f cdv A outer s H E).A.units + 10 < cLine := by have := hr.units; show (A.deeper _).units + 10 < cLine; omega
  exact (s_one (s_ret (c_comp (M := ["web", "numbers"]) (tgs := ["a", "b"]) (T := (.tp [(.nm 2), (.nm 3)])) (c := none) (f := (sOp gAdd [.ex (sOp gIx [.bor 1, .bor 2]), .ex (sOp gIx [.bor 1, .bor 3])])) rfl (BlkD.ok (osc := defScope (top 18)) (N := ["web", "numbers"]) ⟨rfl, by decide +kernel, by decide +kernel, by decide +kernel, rfl, by decide +kernel, by decide +kernel, by decide +kernel, by decide +kernel⟩) (i_seq (b_ix (vb 0) (cb_ex c_int))) (fun _ _ _ _ _ => (g_tup rfl (g_cons (g_name (i := 2) (by decide +kernel : (["web", "numbers", "a", "b"] : List Str).Nodup) rfl (Or.inl rfl)) (g_cons (g_name (i := 3) (by decide +kernel : (["web", "numbers", "a", "b"] : List Str).Nodup) rfl (Or.inl rfl)) g_nil)))) (fun _ _ _ _ _ => .no) (fun _ _ _ _ _ => (b_add (cb_ex (b_ix (vb 1) (vb 2))) (cb_ex (b_ix (vb 1) (vb 3))))))))
def s_taken_from : SS := (sRet (sOp gTuple [.ex (sComp 1 (sSeqI (sVar 1)) (.nm 2) none (sOp gMin1 [.bor 0, .bor 2]))]))
def f_taken_from : FS := fnRun 2 2 none s_taken_from
theorem sc_taken_from : FnScope ["whole", "numbers"] ["whole", "numbers"] (defScope (top 23)) := ⟨rfl, rfl, rfl, by decide +kernel, rfl, by decide +kernel, by decide +kernel⟩
theorem ok_taken_from (h : Has K mg "taken_from" (top 23) ["whole", "numbers"]) (T : Txt K mg) : OkX P w K mg base "taken_from" ["whole", "numbers"] 1 (spF K none f_taken_from) := by
  refine fn_ok h sc_taken_from (fun f cdv A outer s H E hr => ?_)
  have hu : (cxOf (CXr P w) P w K mg base ["whole", "numbers"] "taken_from" (defScope (top 23)) f cdv A outer s H E).A.units + 10 < cLine := by have := hr.units; show (A.deeper _).units + 10 < cLine; omega
  exact (s_one (s_ret (b_tuple (m := T.tuple) (ha := (ca_cons (cb_ex (c_comp (M := ["whole", "numbers"]) (tgs := ["number"]) (T := (.nm 2)) (c := none) (f := (sOp gMin1 [.bor 0, .bor 2])) rfl (BlkD.ok (osc := defScope (top 23)) (N := ["whole", "numbers"]) ⟨rfl, by decide +kernel, by decide +kernel, by decide +kernel, rfl, by decide +kernel, by decide +kernel, by decide +kernel, by decide +kernel⟩) (i_seq (v 1)) (fun _ _ _ _ _ => (g_name (i := 2) (by decide +kernel : (["whole", "numbers", "number"] : List Str).Nodup) rfl (Or.inl rfl))) (fun _ _ _ _ _ => .no) (fun _ _ _ _ _ => (b_sub (vb 0) (vb 2))))) ca_nil)))))
def s_worth_in_order : SS := (sRet (sOp gSum [.ex (sComp 2 (sEnum (sVar 0)) (.tp [(.nm 1), (.nm 2)]) none (sOp gMul [.bor 2, .ex (sOp gAdd [.bor 1, .ex (sC (.int 1))])]))]))
def f_worth_in_order : FS := fnRun 1 1 none s_worth_in_order
theorem sc_worth_in_order : FnScope ["often"] ["often"] (defScope (top 25)) := ⟨rfl, rfl, rfl, by decide +kernel, rfl, by decide +kernel, by decide +kernel⟩
theorem ok_worth_in_order (h : Has K mg "worth_in_order" (top 25) ["often"]) (T : Txt K mg) : OkX P w K mg base "worth_in_order" ["often"] 1 (spF K none f_worth_in_order) := by
  refine fn_ok h sc_worth_in_order (fun f cdv A outer s H E hr => ?_)
  have hu : (cxOf (CXr P w) P w K mg base ["often"] "worth_in_order" (defScope (top 25)) f cdv A outer s H E).A.units + 10 < cLine := by have := hr.units; show (A.deeper _).units + 10 < cLine; omega
  exact (s_one (s_ret (b_sum (m := T.sum) (ha := (ca_cons (cb_ex (c_comp (M := ["often"]) (tgs := ["k", "times"]) (T := (.tp [(.nm 1), (.nm 2)])) (c := none) (f := (sOp gMul [.bor 2, .ex (sOp gAdd [.bor 1, .ex (sC (.int 1))])])) rfl (BlkD.ok (osc := defScope (top 25)) (N := ["often"]) ⟨rfl, by decide +kernel, by decide +kernel, by decide +kernel, rfl, by decide +kernel, by decide +kernel, by decide +kernel, by decide +kernel⟩) (i_enum (by rfl) T.enumerate (v 0)) (fun _ _ _ _ _ => (g_tup rfl (g_cons (g_name (i := 1) (by decide +kernel : (["often", "k", "times"] : List Str).Nodup) rfl (Or.inl rfl)) (g_cons (g_name (i := 2) (by decide +kernel : (["often", "k", "times"] : List Str).Nodup) rfl (Or.inl rfl)) g_nil)))) (fun _ _ _ _ _ => .no) (fun _ _ _ _ _ => (b_mul (vb 2) (cb_ex (b_add (vb 1) (cb_ex c_int))))))) ca_nil)))))
def s__law_cell_at : SS := (sSeq (sIfS (sOpT gLt [.bor 1, .ex (sOp gLen [.bor 0])]) (sRet (sOp gIx [.bor 0, .bor 1])) sNil) (sRet (sC (.int 0))))
def f__law_cell_at : FS := fnRun 2 2 none s__law_cell_at
theorem sc__law_cell_at : FnScope ["script", "k"] ["script", "k"] (defScope (top 30)) := ⟨rfl, rfl, rfl, by decide +kernel, rfl, by decide +kernel, by decide +kernel⟩
theorem ok__law_cell_at (h : Has K mg "_law_cell_at" (top 30) ["script", "k"]) (T : Txt K mg) : OkX P w K mg base "_law_cell_at" ["script", "k"] 1 (spF K none f__law_cell_at) := by
  refine fn_ok h sc__law_cell_at (fun f cdv A outer s H E hr => ?_)
  have hu : (cxOf (CXr P w) P w K mg base ["script", "k"] "_law_cell_at" (defScope (top 30)) f cdv A outer s H E).A.units + 10 < cLine := by have := hr.units; show (A.deeper _).units + 10 < cLine; omega
  exact (s_cons (s_if (t_lt (vb 1) (cb_ex (b_len (m := T.len) (ha := (ca_cons (vb 0) ca_nil))))) (s_one (s_ret (b_ix (vb 0) (vb 1)))) s_nil)
      (s_one (s_ret c_int)))
def s__law_next : SS := (sSeq (sSet 0 (sOp gMod [.ex (sOp gAdd [.bor 0, .ex (sC (.int 7919))]), .ex (sC (.int 2147483647))])) (sRet (sOp gMod [.ex (sOp gAdd [.ex (sOp gAdd [.ex (sOp gMul [.bor 0, .bor 0]), .ex (sOp gMul [.ex (sC (.int 48271)), .bor 0])]), .ex (sC (.int 12345))]), .ex (sC (.int 2147483629))])))
def f__law_next : FS := fnRun 1 1 none s__law_next
theorem sc__law_next : FnScope ["seed"] ["seed"] (defScope (top 31)) := ⟨rfl, rfl, rfl, by decide +kernel, rfl, by decide +kernel, by decide +kernel⟩
theorem ok__law_next (h : Has K mg "_law_next" (top 31) ["seed"]) (T : Txt K mg) : OkX P w K mg base "_law_next" ["seed"] 1 (spF K none f__law_next) := by
  refine fn_ok h sc__law_next (fun f cdv A outer s H E hr => ?_)
  have hu : (cxOf (CXr P w) P w K mg base ["seed"] "_law_next" (defScope (top 31)) f cdv A outer s H E).A.units + 10 < cLine := by have := hr.units; show (A.deeper _).units + 10 < cLine; omega
  exact (s_cons (s_set (i := 0) sc__law_next.nd rfl (Or.inl rfl) (b_mod (cb_ex (b_add (vb 0) (cb_ex c_int))) (cb_ex c_int)))
      (s_one (s_ret (b_mod (cb_ex (b_add (cb_ex (b_add (cb_ex (b_mul (vb 0) (vb 0))) (cb_ex (b_mul (cb_ex c_int) (vb 0))))) (cb_ex c_int))) (cb_ex c_int)))))
def s__law_pen_of : SS := (sSeq (sSet 1 (sOp gMaxA [.bor 0, .ex (sOp gMin1 [.ex (sC (.int 0)), .bor 0])])) (sRet (sLst [(sVar 1), (sOp gInt [.ex (sOp gGe [.bor 1, .ex (sOp gPow [.ex (sC (.int 10)), .ex (sC (.int 18))])])]), (sOp gMod [.bor 1, .ex (sC (.int 1000003))])])))
def f__law_pen_of : FS := fnRun 1 2 none s__law_pen_of
theorem sc__law_pen_of : FnScope ["cell", "left"] ["cell"] (defScope (top 32)) := ⟨rfl, rfl, rfl, by decide +kernel, rfl, by decide +kernel, by decide +kernel⟩
theorem ok__law_pen_of (h : Has K mg "_law_pen_of" (top 32) ["cell"]) (T : Txt K mg) : OkX P w K mg base "_law_pen_of" ["cell"] 1 (spF K none f__law_pen_of) := by
  refine fn_ok h sc__law_pen_of (fun f cdv A outer s H E hr => ?_)
  have hu : (cxOf (CXr P w) P w K mg base ["cell", "left"] "_law_pen_of" (defScope (top 32)) f cdv A outer s H E).A.units + 10 < cLine := by have := hr.units; show (A.deeper _).units + 10 < cLine; omega
  exact (s_cons (s_set (i := 1) sc__law_pen_of.nd rfl (Or.inl rfl) (b_max (m := T.max) (ha := (ca_cons (vb 0) (ca_cons (cb_ex (b_sub (cb_ex c_int) (vb 0))) ca_nil)))))
      (s_one (s_ret (c_lst (.cons (v 1) (.cons (b_int (m := T.int) (ha := (ca_cons (cb_ex (q_ge (vb 1) (cb_ex (b_pow (cb_ex c_int) (cb_ex c_int))))) ca_nil))) (.cons (b_mod (vb 1) (cb_ex c_int)) .nil)))))))
def s__law_orders : SS := (sSeq (sSet 1 (sLst [(sTup [])])) (sSeq (sFor (sRng1 (.bor 0)) (.nm 2) (sSeq (sSet 3 (sLst [])) (sSeq (sFor (sSeqI (sVar 1)) (.nm 4) (sExpr (sMeth 3 uExtend [(sComp 1 (sRng2 (.ex (sC (.int 1))) (.ex (sOp gAdd [.bor 0, .ex (sC (.int 1))]))) (.nm 5) (some (sOpT gNotIn [.bor 5, .bor 4])) (sOp gAdd [.bor 4, .ex (sTup [(sVar 5)])]))]))) (sSet 1 (sVar 3))))) (sRetV 1)))
def f__law_orders : FS := fnRun 1 5 none s__law_orders
theorem sc__law_orders : FnScope ["many", "found", "turn", "more", "row"] ["many"] (defScope (top 34)) := ⟨rfl, rfl, rfl, by decide +kernel, rfl, by decide +kernel, by decide +kernel⟩
theorem ok__law_orders (h : Has K mg "_law_orders" (top 34) ["many"]) (T : Txt K mg) : OkX P w K mg base "_law_orders" ["many"] 1 (spF K none f__law_orders) := by
  refine fn_ok h sc__law_orders (fun f cdv A outer s H E hr => ?_)
  have hu : (cxOf (CXr P w) P w K mg base ["many", "found", "turn", "more", "row"] "_law_orders" (defScope (top 34)) f cdv A outer s H E).A.units + 10 < cLine := by have := hr.units; show (A.deeper _).units + 10 < cLine; omega
  exact (s_cons (s_set (i := 1) sc__law_orders.nd rfl (Or.inl rfl) (c_lst (.cons (c_tup .nil) .nil)))
      (s_cons (s_for rfl (i_rng1 (by rfl) T.range (ca_cons (vb 0) ca_nil)) (g_name (i := 2) sc__law_orders.nd rfl (Or.inl rfl)) (s_cons (s_set (i := 3) sc__law_orders.nd rfl (Or.inl rfl) (c_lst .nil))
      (s_cons (s_for rfl (i_seq (v 1)) (g_name (i := 4) sc__law_orders.nd rfl (Or.inr rfl)) (s_one (s_expr (m_extend 3 (c_comp (M := ["many", "found", "turn", "more", "row"]) (tgs := ["one"]) (T := (.nm 5)) (c := (some (sOpT gNotIn [.bor 5, .bor 4]))) (f := (sOp gAdd [.bor 4, .ex (sTup [(sVar 5)])])) rfl (BlkD.ok (osc := defScope (top 34)) (N := ["many", "found", "turn", "more", "row"]) ⟨rfl, by decide +kernel, by decide +kernel, by decide +kernel, rfl, by decide +kernel, by decide +kernel, by decide +kernel, by decide +kernel⟩) (i_rng2 (by rfl) T.range (ca_cons (cb_ex c_int) (ca_cons (cb_ex (b_add (vb 0) (cb_ex c_int))) ca_nil))) (fun _ _ _ _ _ => (g_name (i := 5) (by decide +kernel : (["many", "found", "turn", "more", "row", "one"] : List Str).Nodup) rfl (Or.inl rfl))) (fun _ _ _ _ _ => (.one (t_notin hu (vb 5) (vb 4)))) (fun _ _ _ _ _ => (b_add (vb 4) (cb_ex (c_tup (.cons (v 5) .nil))))))))))
      (s_one (s_set (i := 1) sc__law_orders.nd rfl (Or.inl rfl) (v 3))))))
      (s_one (s_retV (i := 1) rfl (by first | exact Or.inl rfl | exact Or.inr (Or.inl rfl) | exact Or.inr (Or.inr rfl))))))
def s__law_alike : SS := (sSeq (sSet 3 (sComp 3 (sEnum (sOp gIx [.bor 0, .ex (sC (.int 1))])) (.tp [(.nm 4), (.tp [(.nm 5), (.nm 6)])]) none (sOp gAdd [.ex (sOp gAdd [.ex (sOp gIx [.bor 1, .bor 5]), .ex (sOp gIx [.bor 1, .bor 6])]), .ex (sOp gIx [.bor 2, .bor 4])]))) (sRet (sOp gEq [.ex (sOp gMinA [.bor 3]), .ex (sOp gMaxA [.bor 3])])))
def f__law_alike : FS := fnRun 3 4 none s__law_alike
theorem sc__law_alike : FnScope ["web", "places", "ties", "totals"] ["web", "places", "ties"] (defScope (top 35)) := ⟨rfl, rfl, rfl, by decide +kernel, rfl, by decide +kernel, by decide +kernel⟩
theorem ok__law_alike (h : Has K mg "_law_alike" (top 35) ["web", "places", "ties"]) (T : Txt K mg) : OkX P w K mg base "_law_alike" ["web", "places", "ties"] 1 (spF K none f__law_alike) := by
  refine fn_ok h sc__law_alike (fun f cdv A outer s H E hr => ?_)
  have hu : (cxOf (CXr P w) P w K mg base ["web", "places", "ties", "totals"] "_law_alike" (defScope (top 35)) f cdv A outer s H E).A.units + 10 < cLine := by have := hr.units; show (A.deeper _).units + 10 < cLine; omega
  exact (s_cons (s_compSet (j := 3) (M := ["web", "places", "ties", "totals"]) (tgs := ["k", "a", "b"]) (T := (.tp [(.nm 4), (.tp [(.nm 5), (.nm 6)])])) (c := none) (f := (sOp gAdd [.ex (sOp gAdd [.ex (sOp gIx [.bor 1, .bor 5]), .ex (sOp gIx [.bor 1, .bor 6])]), .ex (sOp gIx [.bor 2, .bor 4])])) rfl (BlkD.ok (osc := defScope (top 35)) (N := ["web", "places", "ties", "totals"]) ⟨rfl, by decide +kernel, by decide +kernel, by decide +kernel, rfl, by decide +kernel, by decide +kernel, by decide +kernel, by decide +kernel⟩) (i_enum (by rfl) T.enumerate (b_ix (vb 0) (cb_ex c_int))) (fun _ _ _ _ _ => (g_tup rfl (g_cons (g_name (i := 4) (by decide +kernel : (["web", "places", "ties", "totals", "k", "a", "b"] : List Str).Nodup) rfl (Or.inl rfl)) (g_cons (g_tup rfl (g_cons (g_name (i := 5) (by decide +kernel : (["web", "places", "ties", "totals", "k", "a", "b"] : List Str).Nodup) rfl (Or.inl rfl)) (g_cons (g_name (i := 6) (by decide +kernel : (["web", "places", "ties", "totals", "k", "a", "b"] : List Str).Nodup) rfl (Or.inl rfl)) g_nil))) g_nil)))) (fun _ _ _ _ _ => .no) (fun _ _ _ _ _ => (b_add (cb_ex (b_add (cb_ex (b_ix (vb 1) (vb 5))) (cb_ex (b_ix (vb 1) (vb 6))))) (cb_ex (b_ix (vb 2) (vb 4))))) sc__law_alike.nd rfl rfl)
      (s_one (s_ret (q_eq hu (cb_ex (b_min (m := T.min) (ha := (ca_cons (vb 3) ca_nil)))) (cb_ex (b_max (m := T.max) (ha := (ca_cons (vb 3) ca_nil))))))))
def s_whole_within : SS := (sRet (sAndV (sCall none none f_is_whole [.bor 0]) (sChain gLe gLe (sVar 1) (sVar 0) (sVar 2))))
def f_whole_within : FS := fnRun 3 3 none s_whole_within
theorem sc_whole_within : FnScope ["thing", "least", "most"] ["thing", "least", "most"] (defScope (top 2)) := ⟨rfl, rfl, rfl, by decide +kernel, rfl, by decide +kernel, by decide +kernel⟩
theorem ok_whole_within (h : Has K mg "whole_within" (top 2) ["thing", "least", "most"]) (T : Txt K mg) (G_is_whole : OkX P w K mg base "is_whole" ["thing"] 1 (spF K none f_is_whole)) : OkX P w K mg base "whole_within" ["thing", "least", "most"] 2 (spF K none f_whole_within) := by
  refine fn_ok h sc_whole_within (fun f cdv A outer s H E hr => ?_)
  have hu : (cxOf (CXr P w) P w K mg base ["thing", "least", "most"] "whole_within" (defScope (top 2)) f cdv A outer s H E).A.units + 10 < cLine := by have := hr.units; show (A.deeper _).units + 10 < cLine; omega
  exact (s_one (s_ret (c_and (c_call (io := none) (slot := none) callable_f G_is_whole hr (by decide) (by rfl) (ca_cons (vb 0) ca_nil)) (c_one (c_chain op_le op_le os_le os_le (v 1) (v 0) (v 2))))))
def s_bar_formed : SS := (sSeq (sIfS (sOr (sNot (sTru (.ex (sOp (gIsi "tuple") [.bor 1])))) (sOpT gEq [.ex (sOp gLen [.bor 1]), .ex (sC (.int 0))])) (sRet (sC (.bl false))) sNil) (sRet (sAndV (sOp gIn [.ex (sTup [(sOp gIx [.bor 1, .ex (sC (.int 0))]), (sOp gMin1 [.ex (sOp gLen [.bor 1]), .ex (sC (.int 1))])]), .bor 0]) (sOp gAll [.ex (sComp 1 (sSeqI (sOp gS10 [.bor 1, .ex (sC (.int 1))])) (.nm 2) none (sCall none none f_is_whole [.bor 2]))]))))
def f_bar_formed : FS := fnRun 2 2 none s_bar_formed
theorem sc_bar_formed : FnScope ["forms", "thing"] ["forms", "thing"] (defScope (top 6)) := ⟨rfl, rfl, rfl, by decide +kernel, rfl, by decide +kernel, by decide +kernel⟩
theorem ok_bar_formed (h : Has K mg "bar_formed" (top 6) ["forms", "thing"]) (T : Txt K mg) (G_is_whole : OkX P w K mg base "is_whole" ["thing"] 1 (spF K none f_is_whole)) : OkX P w K mg base "bar_formed" ["forms", "thing"] 2 (spF K none f_bar_formed) := by
  refine fn_ok h sc_bar_formed (fun f cdv A outer s H E hr => ?_)
  have hu : (cxOf (CXr P w) P w K mg base ["forms", "thing"] "bar_formed" (defScope (top 6)) f cdv A outer s H E).A.units + 10 < cLine := by have := hr.units; show (A.deeper _).units + 10 < cLine; omega
  exact (s_cons (s_if (JW.t (w_or (k_not (k_tru (cb_ex (b_isi_tuple (vb 1) T.isi T.tuple)))) (w_or1 (t_eq hu (cb_ex (b_len (m := T.len) (ha := (ca_cons (vb 1) ca_nil)))) (cb_ex c_int))))) (s_one (s_ret c_bl)) s_nil)
      (s_one (s_ret (c_and (q_in hu (cb_ex (c_tup (.cons (b_ix (vb 1) (cb_ex c_int)) (.cons (b_sub (cb_ex (b_len (m := T.len) (ha := (ca_cons (vb 1) ca_nil)))) (cb_ex c_int)) .nil)))) (vb 0)) (c_one (b_all (m := T.all) (ha := (ca_cons (cb_ex (c_comp (M := ["forms", "thing"]) (tgs := ["number"]) (T := (.nm 2)) (c := none) (f := (sCall none none f_is_whole [.bor 2])) rfl (BlkD.ok (osc := defScope (top 6)) (N := ["forms", "thing"]) ⟨rfl, by decide +kernel, by decide +kernel, by decide +kernel, rfl, by decide +kernel, by decide +kernel, by decide +kernel, by decide +kernel⟩) (i_seq (c_sl10 sl_any os_s10 (vb 1) (cb_ex c_int))) (fun _ _ _ _ _ => (g_name (i := 2) (by decide +kernel : (["forms", "thing", "number"] : List Str).Nodup) rfl (Or.inl rfl))) (fun _ _ _ _ _ => .no) (fun _ _ _ _ _ => (c_call (io := none) (slot := none) callable_n G_is_whole hr (by decide) (by rfl) (ca_cons (vb 2) ca_nil))))) ca_nil))))))))
def s_tie_counts : SS := (sRet (sOp gTuple [.ex (sComp 1 (sSeqI (sCall none none f_tied_places [.bor 0])) (.nm 1) none (sOp gLen [.bor 1]))]))
def f_tie_counts : FS := fnRun 1 1 none s_tie_counts
theorem sc_tie_counts : FnScope ["web"] ["web"] (defScope (top 12)) := ⟨rfl, rfl, rfl, by decide +kernel, rfl, by decide +kernel, by decide +kernel⟩
theorem ok_tie_counts (h : Has K mg "tie_counts" (top 12) ["web"]) (T : Txt K mg) (G_tied_places : OkX P w K mg base "tied_places" ["web"] 1 (spF K none f_tied_places)) : OkX P w K mg base "tie_counts" ["web"] 2 (spF K none f_tie_counts) := by
  refine fn_ok h sc_tie_counts (fun f cdv A outer s H E hr => ?_)
  have hu : (cxOf (CXr P w) P w K mg base ["web"] "tie_counts" (defScope (top 12)) f cdv A outer s H E).A.units + 10 < cLine := by have := hr.units; show (A.deeper _).units + 10 < cLine; omega
  exact (s_one (s_ret (b_tuple (m := T.tuple) (ha := (ca_cons (cb_ex (c_comp (M := ["web"]) (tgs := ["others"]) (T := (.nm 1)) (c := none) (f := (sOp gLen [.bor 1])) rfl (BlkD.ok (osc := defScope (top 12)) (N := ["web"]) ⟨rfl, by decide +kernel, by decide +kernel, by decide +kernel, rfl, by decide +kernel, by decide +kernel, by decide +kernel, by decide +kernel⟩) (i_seq (c_call (io := none) (slot := none) callable_f G_tied_places hr (by decide) (by rfl) (ca_cons (vb 0) ca_nil))) (fun _ _ _ _ _ => (g_name (i := 1) (by decide +kernel : (["web", "others"] : List Str).Nodup) rfl (Or.inl rfl))) (fun _ _ _ _ _ => .no) (fun _ _ _ _ _ => (b_len (m := T.len) (ha := (ca_cons (vb 1) ca_nil)))))) ca_nil)))))
def s_totals_by : SS := (sRet (sComp 2 (sZip [(sCall none none f_end_sums [.bor 0, .ex (sOp gIx [.bor 1, .ex (sC (.int 0))])]), (sOp gIx [.bor 1, .ex (sC (.int 1))])]) (.tp [(.nm 2), (.nm 3)]) none (sOp gAdd [.bor 2, .bor 3])))
def f_totals_by : FS := fnRun 2 2 none s_totals_by
theorem sc_totals_by : FnScope ["web", "numbering"] ["web", "numbering"] (defScope (top 17)) := ⟨rfl, rfl, rfl, by decide +kernel, rfl, by decide +kernel, by decide +kernel⟩
theorem ok_totals_by (h : Has K mg "totals_by" (top 17) ["web", "numbering"]) (T : Txt K mg) (G_end_sums : OkX P w K mg base "end_sums" ["web", "numbers"] 1 (spF K none f_end_sums)) : OkX P w K mg base "totals_by" ["web", "numbering"] 2 (spF K none f_totals_by) := by
  refine fn_ok h sc_totals_by (fun f cdv A outer s H E hr => ?_)
  have hu : (cxOf (CXr P w) P w K mg base ["web", "numbering"] "totals_by" (defScope (top 17)) f cdv A outer s H E).A.units + 10 < cLine := by have := hr.units; show (A.deeper _).units + 10 < cLine; omega
  exact (s_one (s_ret (c_comp (M := ["web", "numbering"]) (tgs := ["end", "tie"]) (T := (.tp [(.nm 2), (.nm 3)])) (c := none) (f := (sOp gAdd [.bor 2, .bor 3])) rfl (BlkD.ok (osc := defScope (top 17)) (N := ["web", "numbering"]) ⟨rfl, by decide +kernel, by decide +kernel, by decide +kernel, rfl, by decide +kernel, by decide +kernel, by decide +kernel, by decide +kernel⟩) (i_zip (by rfl) T.zip (.cons (c_call (io := none) (slot := none) callable_f G_end_sums hr (by decide) (by rfl) (ca_cons (vb 0) (ca_cons (cb_ex (b_ix (vb 1) (cb_ex c_int))) ca_nil))) (.cons (b_ix (vb 1) (cb_ex c_int)) .nil))) (fun _ _ _ _ _ => (g_tup rfl (g_cons (g_name (i := 2) (by decide +kernel : (["web", "numbering", "end", "tie"] : List Str).Nodup) rfl (Or.inl rfl)) (g_cons (g_name (i := 3) (by decide +kernel : (["web", "numbering", "end", "tie"] : List Str).Nodup) rfl (Or.inl rfl)) g_nil)))) (fun _ _ _ _ _ => .no) (fun _ _ _ _ _ => (b_add (vb 2) (vb 3))))))
def s__law_draw : SS := (sSeq (sIfS (sOpT gEq [.ex (sOp gIx [.bor 0, .ex (sC (.int 1))]), .ex (sC (.int 1))]) (sSeq (sSet 2 (sOp gMod [.ex (sOp gIx [.bor 0, .ex (sC (.int 0))]), .bor 1])) (sSeq (sItem uSetL 0 (sOp gFdiv [.ex (sOp gIx [.bor 0, .ex (sC (.int 0))]), .bor 1]) (sC (.int 0))) (sRetV 2))) sNil) (sSeq (sItem uSetL 0 (sCall none none f__law_next [.ex (sOp gAdd [.ex (sCall none none f__law_next [.ex (sOp gIx [.bor 0, .ex (sC (.int 2))])]), .ex (sC (.int 7))])]) (sC (.int 2))) (sRet (sOp gMod [.ex (sOp gFdiv [.ex (sOp gIx [.bor 0, .ex (sC (.int 2))]), .ex (sC (.int 64))]), .bor 1]))))
def f__law_draw : FS := fnRun 2 3 (some 0) s__law_draw
theorem sc__law_draw : FnScope ["pen", "many", "found"] ["pen", "many"] (defScope (top 33)) := ⟨rfl, rfl, rfl, by decide +kernel, rfl, by decide +kernel, by decide +kernel⟩
theorem ok__law_draw (h : Has K mg "_law_draw" (top 33) ["pen", "many"]) (T : Txt K mg) (G__law_next : OkX P w K mg base "_law_next" ["seed"] 1 (spF K none f__law_next)) : OkX P w K mg base "_law_draw" ["pen", "many"] 2 (spF K (some 0) f__law_draw) := by
  refine fn_ok h sc__law_draw (fun f cdv A outer s H E hr => ?_)
  have hu : (cxOf (CXr P w) P w K mg base ["pen", "many", "found"] "_law_draw" (defScope (top 33)) f cdv A outer s H E).A.units + 10 < cLine := by have := hr.units; show (A.deeper _).units + 10 < cLine; omega
  exact (s_cons (s_if (t_eq hu (cb_ex (b_ix (vb 0) (cb_ex c_int))) (cb_ex c_int)) (s_cons (s_set (i := 2) sc__law_draw.nd rfl (Or.inl rfl) (b_mod (cb_ex (b_ix (vb 0) (cb_ex c_int))) (vb 1)))
      (s_cons (s_item (j := 0) (b_fdiv (cb_ex (b_ix (vb 0) (cb_ex c_int))) (vb 1)) c_int rfl (by first | exact Or.inl rfl | exact Or.inr (Or.inl rfl) | exact Or.inr (Or.inr rfl)))
      (s_one (s_retV (i := 2) rfl (by first | exact Or.inl rfl | exact Or.inr (Or.inl rfl) | exact Or.inr (Or.inr rfl)))))) s_nil)
      (s_cons (s_item (j := 0) (c_call (io := none) (slot := none) callable_f G__law_next hr (by decide) (by rfl) (ca_cons (cb_ex (b_add (cb_ex (c_call (io := none) (slot := none) callable_f G__law_next hr (by decide) (by rfl) (ca_cons (cb_ex (b_ix (vb 0) (cb_ex c_int))) ca_nil))) (cb_ex c_int))) ca_nil)) c_int rfl (by first | exact Or.inl rfl | exact Or.inr (Or.inl rfl) | exact Or.inr (Or.inr rfl)))
      (s_one (s_ret (b_mod (cb_ex (b_fdiv (cb_ex (b_ix (vb 0) (cb_ex c_int))) (cb_ex c_int))) (vb 1))))))
def s_unlike_within : SS := (sRet (sAndV (sOp gAll [.ex (sComp 1 (sSeqI (sVar 0)) (.nm 3) none (sCall none none f_whole_within [.bor 3, .bor 1, .bor 2]))]) (sOp gEq [.ex (sOp gLen [.ex (sOp gSet [.bor 0])]), .ex (sOp gLen [.bor 0])])))
def f_unlike_within : FS := fnRun 3 3 none s_unlike_within
theorem sc_unlike_within : FnScope ["things", "least", "most"] ["things", "least", "most"] (defScope (top 3)) := ⟨rfl, rfl, rfl, by decide +kernel, rfl, by decide +kernel, by decide +kernel⟩
theorem ok_unlike_within (h : Has K mg "unlike_within" (top 3) ["things", "least", "most"]) (T : Txt K mg) (G_whole_within : OkX P w K mg base "whole_within" ["thing", "least", "most"] 2 (spF K none f_whole_within)) : OkX P w K mg base "unlike_within" ["things", "least", "most"] 3 (spF K none f_unlike_within) := by
  refine fn_ok h sc_unlike_within (fun f cdv A outer s H E hr => ?_)
  have hu : (cxOf (CXr P w) P w K mg base ["things", "least", "most"] "unlike_within" (defScope (top 3)) f cdv A outer s H E).A.units + 10 < cLine := by have := hr.units; show (A.deeper _).units + 10 < cLine; omega
  exact (s_one (s_ret (c_and (b_all (m := T.all) (ha := (ca_cons (cb_ex (c_comp (M := ["things", "least", "most"]) (tgs := ["thing"]) (T := (.nm 3)) (c := none) (f := (sCall none none f_whole_within [.bor 3, .bor 1, .bor 2])) rfl (BlkD.ok (osc := defScope (top 3)) (N := ["things", "least", "most"]) ⟨rfl, by decide +kernel, by decide +kernel, by decide +kernel, rfl, by decide +kernel, by decide +kernel, by decide +kernel, by decide +kernel⟩) (i_seq (v 0)) (fun _ _ _ _ _ => (g_name (i := 3) (by decide +kernel : (["things", "least", "most", "thing"] : List Str).Nodup) rfl (Or.inl rfl))) (fun _ _ _ _ _ => .no) (fun _ _ _ _ _ => (c_call (io := none) (slot := none) callable_n G_whole_within hr (by decide) (by rfl) (ca_cons (vb 3) (ca_cons (vb 1) (ca_cons (vb 2) ca_nil))))))) ca_nil))) (c_one (q_eq hu (cb_ex (b_len (m := T.len) (ha := (ca_cons (cb_ex (b_set (m := T.set) (ha := (ca_cons (vb 0) ca_nil)))) ca_nil)))) (cb_ex (b_len (m := T.len) (ha := (ca_cons (vb 0) ca_nil)))))))))
def s_total_span : SS := (sSeq (sSet 1 (sOp gAdd [.ex (sOp gList [.ex (sCall none none f_tie_counts [.bor 0])]), .ex (sComp 1 (sSeqI (sOp gIx [.bor 0, .ex (sC (.int 1))])) (.nm 5) none (sC (.int 1)))])) (sSeq (sSet 2 (sCall none none f_worth_in_order [.ex (sOp gSortRev [.bor 1])])) (sSeq (sSet 3 (sCall none none f_worth_in_order [.ex (sOp gSorted [.bor 1])])) (sSeq (sSet 4 (sOp gLen [.ex (sOp gIx [.bor 0, .ex (sC (.int 1))])])) (sRet (sTup [(sOp gFdiv [.ex (sOp gMin1 [.ex (sOp gAdd [.bor 2, .bor 4]), .ex (sC (.int 1))]), .bor 4]), (sOp gFdiv [.bor 3, .bor 4])]))))))
def f_total_span : FS := fnRun 1 5 none s_total_span
theorem sc_total_span : FnScope ["web", "often", "least", "most", "q"] ["web"] (defScope (top 24)) := ⟨rfl, rfl, rfl, by decide +kernel, rfl, by decide +kernel, by decide +kernel⟩
theorem ok_total_span (h : Has K mg "total_span" (top 24) ["web"]) (T : Txt K mg) (G_tie_counts : OkX P w K mg base "tie_counts" ["web"] 2 (spF K none f_tie_counts)) (G_worth_in_order : OkX P w K mg base "worth_in_order" ["often"] 1 (spF K none f_worth_in_order)) : OkX P w K mg base "total_span" ["web"] 3 (spF K none f_total_span) := by
  refine fn_ok h sc_total_span (fun f cdv A outer s H E hr => ?_)
  have hu : (cxOf (CXr P w) P w K mg base ["web", "often", "least", "most", "q"] "total_span" (defScope (top 24)) f cdv A outer s H E).A.units + 10 < cLine := by have := hr.units; show (A.deeper _).units + 10 < cLine; omega
  exact (s_cons (s_set (i := 1) sc_total_span.nd rfl (Or.inl rfl) (b_add (cb_ex (b_list (m := T.list) (ha := (ca_cons (cb_ex (c_call (io := none) (slot := none) callable_f G_tie_counts hr (by decide) (by rfl) (ca_cons (vb 0) ca_nil))) ca_nil)))) (cb_ex (c_comp (M := ["web", "often", "least", "most", "q"]) (tgs := ["tie"]) (T := (.nm 5)) (c := none) (f := (sC (.int 1))) rfl (BlkD.ok (osc := defScope (top 24)) (N := ["web", "often", "least", "most", "q"]) ⟨rfl, by decide +kernel, by decide +kernel, by decide +kernel, rfl, by decide +kernel, by decide +kernel, by decide +kernel, by decide +kernel⟩) (i_seq (b_ix (vb 0) (cb_ex c_int))) (fun _ _ _ _ _ => (g_name (i := 5) (by decide +kernel : (["web", "often", "least", "most", "q", "tie"] : List Str).Nodup) rfl (Or.inl rfl))) (fun _ _ _ _ _ => .no) (fun _ _ _ _ _ => c_int)))))
      (s_cons (s_set (i := 2) sc_total_span.nd rfl (Or.inl rfl) (c_call (io := none) (slot := none) callable_f G_worth_in_order hr (by decide) (by rfl) (ca_cons (cb_ex (c_sortRev (by rfl) T.sorted (vb 1))) ca_nil)))
      (s_cons (s_set (i := 3) sc_total_span.nd rfl (Or.inl rfl) (c_call (io := none) (slot := none) callable_f G_worth_in_order hr (by decide) (by rfl) (ca_cons (cb_ex (b_sorted (m := T.sorted) (ha := (ca_cons (vb 1) ca_nil)))) ca_nil)))
      (s_cons (s_set (i := 4) sc_total_span.nd rfl (Or.inl rfl) (b_len (m := T.len) (ha := (ca_cons (cb_ex (b_ix (vb 0) (cb_ex c_int))) ca_nil))))
      (s_one (s_ret (c_tup (.cons (b_fdiv (cb_ex (b_sub (cb_ex (b_add (vb 2) (vb 4))) (cb_ex c_int))) (vb 4)) (.cons (b_fdiv (vb 3) (vb 4)) .nil)))))))))
def s_share_bars_totals : SS := (sSeq (sSet 2 (sOp gAdd [.ex (sOp gIx [.bor 0, .ex (sC (.int 0))]), .ex (sOp gLen [.ex (sOp gIx [.bor 0, .ex (sC (.int 1))])])])) (sSeq (sIfS (sOr (sOpT gLt [.bor 1, .ex (sC (.int 2))]) (sOr (sOpT gNe [.ex (sOp gMod [.ex (sOp gLen [.ex (sOp gIx [.bor 0, .ex (sC (.int 1))])]), .bor 1]), .ex (sC (.int 0))]) (sOpT gEq [.ex (sOp gMod [.ex (sOp gFdiv [.ex (sOp gMul [.bor 2, .ex (sOp gAdd [.bor 2, .ex (sC (.int 1))])]), .ex (sC (.int 2))]), .bor 1]), .ex (sC (.int 0))]))) (sRet (sC (.bl false))) sNil) (sRet (sOp gAll [.ex (sComp 1 (sSeqI (sCall none none f_tie_counts [.bor 0])) (.nm 3) none (sOp gEq [.ex (sOp gMod [.ex (sOp gMin1 [.bor 3, .ex (sC (.int 1))]), .bor 1]), .ex (sC (.int 0))]))]))))
def f_share_bars_totals : FS := fnRun 2 3 none s_share_bars_totals
theorem sc_share_bars_totals : FnScope ["web", "share", "numbers"] ["web", "share"] (defScope (top 27)) := ⟨rfl, rfl, rfl, by decide +kernel, rfl, by decide +kernel, by decide +kernel⟩
theorem ok_share_bars_totals (h : Has K mg "share_bars_totals" (top 27) ["web", "share"]) (T : Txt K mg) (G_tie_counts : OkX P w K mg base "tie_counts" ["web"] 2 (spF K none f_tie_counts)) : OkX P w K mg base "share_bars_totals" ["web", "share"] 3 (spF K none f_share_bars_totals) := by
  refine fn_ok h sc_share_bars_totals (fun f cdv A outer s H E hr => ?_)
  have hu : (cxOf (CXr P w) P w K mg base ["web", "share", "numbers"] "share_bars_totals" (defScope (top 27)) f cdv A outer s H E).A.units + 10 < cLine := by have := hr.units; show (A.deeper _).units + 10 < cLine; omega
  exact (s_cons (s_set (i := 2) sc_share_bars_totals.nd rfl (Or.inl rfl) (b_add (cb_ex (b_ix (vb 0) (cb_ex c_int))) (cb_ex (b_len (m := T.len) (ha := (ca_cons (cb_ex (b_ix (vb 0) (cb_ex c_int))) ca_nil))))))
      (s_cons (s_if (JW.t (w_or (t_lt (vb 1) (cb_ex c_int)) (w_or (t_ne hu (cb_ex (b_mod (cb_ex (b_len (m := T.len) (ha := (ca_cons (cb_ex (b_ix (vb 0) (cb_ex c_int))) ca_nil)))) (vb 1))) (cb_ex c_int)) (w_or1 (t_eq hu (cb_ex (b_mod (cb_ex (b_fdiv (cb_ex (b_mul (vb 2) (cb_ex (b_add (vb 2) (cb_ex c_int))))) (cb_ex c_int))) (vb 1))) (cb_ex c_int)))))) (s_one (s_ret c_bl)) s_nil)
      (s_one (s_ret (b_all (m := T.all) (ha := (ca_cons (cb_ex (c_comp (M := ["web", "share", "numbers"]) (tgs := ["count"]) (T := (.nm 3)) (c := none) (f := (sOp gEq [.ex (sOp gMod [.ex (sOp gMin1 [.bor 3, .ex (sC (.int 1))]), .bor 1]), .ex (sC (.int 0))])) rfl (BlkD.ok (osc := defScope (top 27)) (N := ["web", "share", "numbers"]) ⟨rfl, by decide +kernel, by decide +kernel, by decide +kernel, rfl, by decide +kernel, by decide +kernel, by decide +kernel, by decide +kernel⟩) (i_seq (c_call (io := none) (slot := none) callable_f G_tie_counts hr (by decide) (by rfl) (ca_cons (vb 0) ca_nil))) (fun _ _ _ _ _ => (g_name (i := 3) (by decide +kernel : (["web", "share", "numbers", "count"] : List Str).Nodup) rfl (Or.inl rfl))) (fun _ _ _ _ _ => .no) (fun _ _ _ _ _ => (q_eq hu (cb_ex (b_mod (cb_ex (b_sub (vb 3) (cb_ex c_int))) (vb 1))) (cb_ex c_int))))) ca_nil)))))))
def s_each_once : SS := (sRet (sAndV (sOp gEq [.ex (sOp gLen [.bor 0]), .bor 1]) (sCall none none f_unlike_within [.bor 0, .ex (sC (.int 1)), .bor 1])))
def f_each_once : FS := fnRun 2 2 none s_each_once
theorem sc_each_once : FnScope ["things", "most"] ["things", "most"] (defScope (top 4)) := ⟨rfl, rfl, rfl, by decide +kernel, rfl, by decide +kernel, by decide +kernel⟩
theorem ok_each_once (h : Has K mg "each_once" (top 4) ["things", "most"]) (T : Txt K mg) (G_unlike_within : OkX P w K mg base "unlike_within" ["things", "least", "most"] 3 (spF K none f_unlike_within)) : OkX P w K mg base "each_once" ["things", "most"] 4 (spF K none f_each_once) := by
  refine fn_ok h sc_each_once (fun f cdv A outer s H E hr => ?_)
  have hu : (cxOf (CXr P w) P w K mg base ["things", "most"] "each_once" (defScope (top 4)) f cdv A outer s H E).A.units + 10 < cLine := by have := hr.units; show (A.deeper _).units + 10 < cLine; omega
  exact (s_one (s_ret (c_and (q_eq hu (cb_ex (b_len (m := T.len) (ha := (ca_cons (vb 0) ca_nil)))) (vb 1)) (c_one (c_call (io := none) (slot := none) callable_f G_unlike_within hr (by decide) (by rfl) (ca_cons (vb 0) (ca_cons (cb_ex c_int) (ca_cons (vb 1) ca_nil))))))))
def s_total_bar_holds : SS := (sSeq (sIfS (sNot (sTru (.ex (sCall none none f_bar_formed [.ex (sC k_TOTAL_FORMS), .bor 1])))) (sRet (sC (.bl false))) sNil) (sSeq (sIfS (sOpT gEq [.ex (sOp gIx [.bor 1, .ex (sC (.int 0))]), .ex (sC (.str "ties"))]) (sRet (sOp gGt [.ex (sOp gLen [.ex (sOp gIx [.bor 0, .ex (sC (.int 1))])]), .ex (sOp gMin1 [.ex (sOp gMul [.ex (sC (.int 2)), .ex (sOp gIx [.bor 0, .ex (sC (.int 0))])]), .ex (sC (.int 3))])])) sNil) (sRet (sCall none none f_share_bars_totals [.bor 0, .ex (sOp gIx [.bor 1, .ex (sC (.int 1))])]))))
def f_total_bar_holds : FS := fnRun 2 2 none s_total_bar_holds
theorem sc_total_bar_holds : FnScope ["web", "thing"] ["web", "thing"] (defScope (top 26)) := ⟨rfl, rfl, rfl, by decide +kernel, rfl, by decide +kernel, by decide +kernel⟩
theorem ok_total_bar_holds (h : Has K mg "total_bar_holds" (top 26) ["web", "thing"]) (T : Txt K mg) (G_bar_formed : OkX P w K mg base "bar_formed" ["forms", "thing"] 2 (spF K none f_bar_formed)) (G_share_bars_totals : OkX P w K mg base "share_bars_totals" ["web", "share"] 3 (spF K none f_share_bars_totals)) : OkX P w K mg base "total_bar_holds" ["web", "thing"] 4 (spF K none f_total_bar_holds) := by
  refine fn_ok h sc_total_bar_holds (fun f cdv A outer s H E hr => ?_)
  have hu : (cxOf (CXr P w) P w K mg base ["web", "thing"] "total_bar_holds" (defScope (top 26)) f cdv A outer s H E).A.units + 10 < cLine := by have := hr.units; show (A.deeper _).units + 10 < cLine; omega
  exact (s_cons (s_if (k_not (k_tru (cb_ex (c_call (io := none) (slot := none) callable_f G_bar_formed hr (by decide) (by rfl) (ca_cons (cb_ex (c_gk (by rfl) T.TOTAL_FORMS)) (ca_cons (vb 1) ca_nil)))))) (s_one (s_ret c_bl)) s_nil)
      (s_cons (s_if (t_eq hu (cb_ex (b_ix (vb 1) (cb_ex c_int))) (cb_ex c_str)) (s_one (s_ret (q_gt (cb_ex (b_len (m := T.len) (ha := (ca_cons (cb_ex (b_ix (vb 0) (cb_ex c_int))) ca_nil)))) (cb_ex (b_sub (cb_ex (b_mul (cb_ex c_int) (cb_ex (b_ix (vb 0) (cb_ex c_int))))) (cb_ex c_int)))))) s_nil)
      (s_one (s_ret (c_call (io := none) (slot := none) callable_f G_share_bars_totals hr (by decide) (by rfl) (ca_cons (vb 0) (ca_cons (cb_ex (b_ix (vb 1) (cb_ex c_int))) ca_nil)))))))
def s_total_good : SS := (sSeq (sIfS (sOr (sNot (sTru (.ex (sOp (gIsi "tuple") [.bor 1])))) (sOpT gNe [.ex (sOp gLen [.bor 1]), .ex (sC (.int 2))])) (sRet (sC (.bl false))) sNil) (sSeq (sSet 2 (sOp gIx [.bor 1, .ex (sC (.int 0))])) (sSeq (sSet 3 (sOp gIx [.bor 1, .ex (sC (.int 1))])) (sSeq (sIfS (sOr (sNot (sTru (.ex (sOp (gIsi "tuple") [.bor 2])))) (sOr (sNot (sTru (.ex (sOp (gIsi "tuple") [.bor 3])))) (sOpT gNe [.ex (sOp gLen [.bor 2]), .ex (sOp gIx [.bor 0, .ex (sC (.int 0))])]))) (sRet (sC (.bl false))) sNil) (sRet (sAndV (sCall none none f_each_once [.ex (sOp gAdd [.bor 2, .bor 3]), .ex (sOp gAdd [.ex (sOp gIx [.bor 0, .ex (sC (.int 0))]), .ex (sOp gLen [.ex (sOp gIx [.bor 0, .ex (sC (.int 1))])])])]) (sOp gEq [.ex (sOp gLen [.ex (sOp gSet [.ex (sCall none none f_totals_by [.bor 0, .bor 1])])]), .ex (sC (.int 1))])))))))
def f_total_good : FS := fnRun 2 4 none s_total_good
theorem sc_total_good : FnScope ["web", "thing", "places", "ties"] ["web", "thing"] (defScope (top 16)) := ⟨rfl, rfl, rfl, by decide +kernel, rfl, by decide +kernel, by decide +kernel⟩
theorem ok_total_good (h : Has K mg "total_good" (top 16) ["web", "thing"]) (T : Txt K mg) (G_each_once : OkX P w K mg base "each_once" ["things", "most"] 4 (spF K none f_each_once)) (G_totals_by : OkX P w K mg base "totals_by" ["web", "numbering"] 2 (spF K none f_totals_by)) : OkX P w K mg base "total_good" ["web", "thing"] 5 (spF K none f_total_good) := by
  refine fn_ok h sc_total_good (fun f cdv A outer s H E hr => ?_)
  have hu : (cxOf (CXr P w) P w K mg base ["web", "thing", "places", "ties"] "total_good" (defScope (top 16)) f cdv A outer s H E).A.units + 10 < cLine := by have := hr.units; show (A.deeper _).units + 10 < cLine; omega
  exact (s_cons (s_if (JW.t (w_or (k_not (k_tru (cb_ex (b_isi_tuple (vb 1) T.isi T.tuple)))) (w_or1 (t_ne hu (cb_ex (b_len (m := T.len) (ha := (ca_cons (vb 1) ca_nil)))) (cb_ex c_int))))) (s_one (s_ret c_bl)) s_nil)
      (s_cons (s_set (i := 2) sc_total_good.nd rfl (Or.inl rfl) (b_ix (vb 1) (cb_ex c_int)))
      (s_cons (s_set (i := 3) sc_total_good.nd rfl (Or.inl rfl) (b_ix (vb 1) (cb_ex c_int)))
      (s_cons (s_if (JW.t (w_or (k_not (k_tru (cb_ex (b_isi_tuple (vb 2) T.isi T.tuple)))) (w_or (k_not (k_tru (cb_ex (b_isi_tuple (vb 3) T.isi T.tuple)))) (w_or1 (t_ne hu (cb_ex (b_len (m := T.len) (ha := (ca_cons (vb 2) ca_nil)))) (cb_ex (b_ix (vb 0) (cb_ex c_int)))))))) (s_one (s_ret c_bl)) s_nil)
      (s_one (s_ret (c_and (c_call (io := none) (slot := none) callable_f G_each_once hr (by decide) (by rfl) (ca_cons (cb_ex (b_add (vb 2) (vb 3))) (ca_cons (cb_ex (b_add (cb_ex (b_ix (vb 0) (cb_ex c_int))) (cb_ex (b_len (m := T.len) (ha := (ca_cons (cb_ex (b_ix (vb 0) (cb_ex c_int))) ca_nil)))))) ca_nil))) (c_one (q_eq hu (cb_ex (b_len (m := T.len) (ha := (ca_cons (cb_ex (b_set (m := T.set) (ha := (ca_cons (cb_ex (c_call (io := none) (slot := none) callable_f G_totals_by hr (by decide) (by rfl) (ca_cons (vb 0) (ca_cons (vb 1) ca_nil)))) ca_nil)))) ca_nil)))) (cb_ex c_int))))))))))
def s_total_bars : SS := (sRet (sComp 1 (sSeqI (sOp gAdd [.ex (sCall none none f_share_bars [.ex (sOp gLen [.ex (sOp gIx [.bor 0, .ex (sC (.int 1))])])]), .ex (sLst [(sTup [(sC (.str "ties"))])])])) (.nm 1) (some (sTru (.ex (sCall none none f_total_bar_holds [.bor 0, .bor 1])))) (sVar 1)))
def f_total_bars : FS := fnRun 1 1 none s_total_bars
theorem sc_total_bars : FnScope ["web"] ["web"] (defScope (top 28)) := ⟨rfl, rfl, rfl, by decide +kernel, rfl, by decide +kernel, by decide +kernel⟩
theorem ok_total_bars (h : Has K mg "total_bars" (top 28) ["web"]) (T : Txt K mg) (G_share_bars : OkX P w K mg base "share_bars" ["most"] 1 (spF K none f_share_bars)) (G_total_bar_holds : OkX P w K mg base "total_bar_holds" ["web", "thing"] 4 (spF K none f_total_bar_holds)) : OkX P w K mg base "total_bars" ["web"] 5 (spF K none f_total_bars) := by
  refine fn_ok h sc_total_bars (fun f cdv A outer s H E hr => ?_)
  have hu : (cxOf (CXr P w) P w K mg base ["web"] "total_bars" (defScope (top 28)) f cdv A outer s H E).A.units + 10 < cLine := by have := hr.units; show (A.deeper _).units + 10 < cLine; omega
  exact (s_one (s_ret (c_comp (M := ["web"]) (tgs := ["bar"]) (T := (.nm 1)) (c := (some (sTru (.ex (sCall none none f_total_bar_holds [.bor 0, .bor 1]))))) (f := (sVar 1)) rfl (BlkD.ok (osc := defScope (top 28)) (N := ["web"]) ⟨rfl, by decide +kernel, by decide +kernel, by decide +kernel, rfl, by decide +kernel, by decide +kernel, by decide +kernel, by decide +kernel⟩) (i_seq (b_add (cb_ex (c_call (io := none) (slot := none) callable_f G_share_bars hr (by decide) (by rfl) (ca_cons (cb_ex (b_len (m := T.len) (ha := (ca_cons (cb_ex (b_ix (vb 0) (cb_ex c_int))) ca_nil)))) ca_nil))) (cb_ex (c_lst (.cons (c_tup (.cons c_str .nil)) .nil))))) (fun _ _ _ _ _ => (g_name (i := 1) (by decide +kernel : (["web", "bar"] : List Str).Nodup) rfl (Or.inl rfl))) (fun _ _ _ _ _ => (.one (k_tru (cb_ex (c_call (io := none) (slot := none) callable_n G_total_bar_holds hr (by decide) (by rfl) (ca_cons (vb 0) (ca_cons (vb 1) ca_nil))))))) (fun _ _ _ _ _ => (v 1)))))
def s_low_good : SS := (sRet (sAndV (sCall none none f_total_good [.bor 0, .bor 1]) (sOp gEq [.ex (sOp gMaxA [.ex (sOp gIx [.bor 1, .ex (sC (.int 0))])]), .ex (sOp gIx [.bor 0, .ex (sC (.int 0))])])))
def f_low_good : FS := fnRun 2 2 none s_low_good
theorem sc_low_good : FnScope ["web", "thing"] ["web", "thing"] (defScope (top 19)) := ⟨rfl, rfl, rfl, by decide +kernel, rfl, by decide +kernel, by decide +kernel⟩
theorem ok_low_good (h : Has K mg "low_good" (top 19) ["web", "thing"]) (T : Txt K mg) (G_total_good : OkX P w K mg base "total_good" ["web", "thing"] 5 (spF K none f_total_good)) : OkX P w K mg base "low_good" ["web", "thing"] 6 (spF K none f_low_good) := by
  refine fn_ok h sc_low_good (fun f cdv A outer s H E hr => ?_)
  have hu : (cxOf (CXr P w) P w K mg base ["web", "thing"] "low_good" (defScope (top 19)) f cdv A outer s H E).A.units + 10 < cLine := by have := hr.units; show (A.deeper _).units + 10 < cLine; omega
  exact (s_one (s_ret (c_and (c_call (io := none) (slot := none) callable_f G_total_good hr (by decide) (by rfl) (ca_cons (vb 0) (ca_cons (vb 1) ca_nil))) (c_one (q_eq hu (cb_ex (b_max (m := T.max) (ha := (ca_cons (cb_ex (b_ix (vb 1) (cb_ex c_int))) ca_nil)))) (cb_ex (b_ix (vb 0) (cb_ex c_int))))))))
def s_check_total : SS := (sIfS (sNot (sTru (.ex (sCall none none f_total_good [.bor 0, .bor 1])))) (sRaise "NoNumber") sNil)
def f_check_total : FS := fnRun 2 2 none s_check_total
theorem sc_check_total : FnScope ["web", "thing"] ["web", "thing"] (defScope (top 21)) := ⟨rfl, rfl, rfl, by decide +kernel, rfl, by decide +kernel, by decide +kernel⟩
theorem ok_check_total (h : Has K mg "check_total" (top 21) ["web", "thing"]) (T : Txt K mg) (G_total_good : OkX P w K mg base "total_good" ["web", "thing"] 5 (spF K none f_total_good)) {A_NoNumber : Addr} {bm_NoNumber : List Value} {B_NoNumber nI_NoNumber iI_NoNumber : String} (O_NoNumber : OwnCls "NoNumber" A_NoNumber bm_NoNumber nI_NoNumber mg base) (FB_NoNumber : ExcBaseFacts B_NoNumber nI_NoNumber iI_NoNumber bm_NoNumber) (C_NoNumber : clsK K "NoNumber" A_NoNumber) : OkX P w K mg base "check_total" ["web", "thing"] 6 (spF K none f_check_total) := by
  refine fn_ok h sc_check_total (fun f cdv A outer s H E hr => ?_)
  have hu : (cxOf (CXr P w) P w K mg base ["web", "thing"] "check_total" (defScope (top 21)) f cdv A outer s H E).A.units + 10 < cLine := by have := hr.units; show (A.deeper _).units + 10 < cLine; omega
  exact (s_one (s_if (k_not (k_tru (cb_ex (c_call (io := none) (slot := none) callable_f G_total_good hr (by decide) (by rfl) (ca_cons (vb 0) (ca_cons (vb 1) ca_nil)))))) (s_one (s_raise O_NoNumber FB_NoNumber C_NoNumber hr (by rfl))) s_nil))
def s_total_of : SS := (sSeq (sExpr (sCall none none f_check_total [.bor 0, .bor 1])) (sRet (sOp gIx [.ex (sCall none none f_totals_by [.bor 0, .bor 1]), .ex (sC (.int 0))])))
def f_total_of : FS := fnRun 2 2 none s_total_of
theorem sc_total_of : FnScope ["web", "thing"] ["web", "thing"] (defScope (top 20)) := ⟨rfl, rfl, rfl, by decide +kernel, rfl, by decide +kernel, by decide +kernel⟩
theorem ok_total_of (h : Has K mg "total_of" (top 20) ["web", "thing"]) (T : Txt K mg) (G_check_total : OkX P w K mg base "check_total" ["web", "thing"] 6 (spF K none f_check_total)) (G_totals_by : OkX P w K mg base "totals_by" ["web", "numbering"] 2 (spF K none f_totals_by)) : OkX P w K mg base "total_of" ["web", "thing"] 7 (spF K none f_total_of) := by
  refine fn_ok h sc_total_of (fun f cdv A outer s H E hr => ?_)
  have hu : (cxOf (CXr P w) P w K mg base ["web", "thing"] "total_of" (defScope (top 20)) f cdv A outer s H E).A.units + 10 < cLine := by have := hr.units; show (A.deeper _).units + 10 < cLine; omega
  exact (s_cons (s_expr (c_call (io := none) (slot := none) callable_f G_check_total hr (by decide) (by rfl) (ca_cons (vb 0) (ca_cons (vb 1) ca_nil))))
      (s_one (s_ret (b_ix (cb_ex (c_call (io := none) (slot := none) callable_f G_totals_by hr (by decide) (by rfl) (ca_cons (vb 0) (ca_cons (vb 1) ca_nil)))) (cb_ex c_int)))))
def s_opposite_total : SS := (sSeq (sExpr (sCall none none f_check_total [.bor 0, .bor 1])) (sRet (sOp gTuple [.ex (sComp 1 (sSeqI (sVar 1)) (.nm 2) none (sCall none none f_taken_from [.ex (sOp gAdd [.ex (sOp gAdd [.ex (sOp gIx [.bor 0, .ex (sC (.int 0))]), .ex (sOp gLen [.ex (sOp gIx [.bor 0, .ex (sC (.int 1))])])]), .ex (sC (.int 1))]), .bor 2]))])))
def f_opposite_total : FS := fnRun 2 2 none s_opposite_total
theorem sc_opposite_total : FnScope ["web", "thing"] ["web", "thing"] (defScope (top 22)) := ⟨rfl, rfl, rfl, by decide +kernel, rfl, by decide +kernel, by decide +kernel⟩
theorem ok_opposite_total (h : Has K mg "opposite_total" (top 22) ["web", "thing"]) (T : Txt K mg) (G_check_total : OkX P w K mg base "check_total" ["web", "thing"] 6 (spF K none f_check_total)) (G_taken_from : OkX P w K mg base "taken_from" ["whole", "numbers"] 1 (spF K none f_taken_from)) : OkX P w K mg base "opposite_total" ["web", "thing"] 7 (spF K none f_opposite_total) := by
  refine fn_ok h sc_opposite_total (fun f cdv A outer s H E hr => ?_)
  have hu : (cxOf (CXr P w) P w K mg base ["web", "thing"] "opposite_total" (defScope (top 22)) f cdv A outer s H E).A.units + 10 < cLine := by have := hr.units; show (A.deeper _).units + 10 < cLine; omega
  exact (s_cons (s_expr (c_call (io := none) (slot := none) callable_f G_check_total hr (by decide) (by rfl) (ca_cons (vb 0) (ca_cons (vb 1) ca_nil))))
      (s_one (s_ret (b_tuple (m := T.tuple) (ha := (ca_cons (cb_ex (c_comp (M := ["web", "thing"]) (tgs := ["numbers"]) (T := (.nm 2)) (c := none) (f := (sCall none none f_taken_from [.ex (sOp gAdd [.ex (sOp gAdd [.ex (sOp gIx [.bor 0, .ex (sC (.int 0))]), .ex (sOp gLen [.ex (sOp gIx [.bor 0, .ex (sC (.int 1))])])]), .ex (sC (.int 1))]), .bor 2])) rfl (BlkD.ok (osc := defScope (top 22)) (N := ["web", "thing"]) ⟨rfl, by decide +kernel, by decide +kernel, by decide +kernel, rfl, by decide +kernel, by decide +kernel, by decide +kernel, by decide +kernel⟩) (i_seq (v 1)) (fun _ _ _ _ _ => (g_name (i := 2) (by decide +kernel : (["web", "thing", "numbers"] : List Str).Nodup) rfl (Or.inl rfl))) (fun _ _ _ _ _ => .no) (fun _ _ _ _ _ => (c_call (io := none) (slot := none) callable_n G_taken_from hr (by decide) (by rfl) (ca_cons (cb_ex (b_add (cb_ex (b_add (cb_ex (b_ix (vb 0) (cb_ex c_int))) (cb_ex (b_len (m := T.len) (ha := (ca_cons (cb_ex (b_ix (vb 0) (cb_ex c_int))) ca_nil)))))) (cb_ex c_int))) (ca_cons (vb 2) ca_nil)))))) ca_nil))))))
def s__law_right : SS := (sSeq (sSet 1 (sC (.int 0))) (sSeq (sSet 2 (sC (.int 0))) (sSeq (sFor (sSeqI (sCall none none f__law_orders [.ex (sOp gAdd [.ex (sOp gIx [.bor 0, .ex (sC (.int 0))]), .ex (sOp gLen [.ex (sOp gIx [.bor 0, .ex (sC (.int 1))])])])])) (.nm 3) (sSeq (sSet 4 (sTup [(sOp gS01 [.bor 3, .ex (sOp gIx [.bor 0, .ex (sC (.int 0))])]), (sOp gS10 [.bor 3, .ex (sOp gIx [.bor 0, .ex (sC (.int 0))])])])) (sSeq (sSet 5 (sCall none none f__law_alike [.bor 0, .ex (sOp gIx [.bor 4, .ex (sC (.int 0))]), .ex (sOp gIx [.bor 4, .ex (sC (.int 1))])])) (sSeq (sSet 6 (sAndV (sVar 5) (sOp gEq [.ex (sOp gMaxA [.ex (sOp gIx [.bor 4, .ex (sC (.int 0))])]), .ex (sOp gIx [.bor 0, .ex (sC (.int 0))])]))) (sSeq (sSet 7 (sLst [(sCall none none f_total_good [.bor 0, .bor 4]), (sCall none none f_low_good [.bor 0, .bor 4])])) (sSeq (sIfS (sOr (sOpT gNe [.bor 7, .ex (sLst [(sVar 5), (sVar 6)])]) (sNot (sTru (.ex (sOp gAll [.ex (sComp 1 (sSeqI (sVar 7)) (.nm 11) none (sOp (gIsi "bool") [.bor 11]))]))))) (sRet (sC (.bl false))) sNil) (sIfS (sTru (.bor 5)) (sSeq (sAug 1 (fun i j => i + j) (sC (.int 1))) (sSeq (sSet 2 (sOp gAdd [.bor 2, .ex (sOp gInt [.bor 6])])) (sSeq (sSet 8 (sCall none none f_total_of [.bor 0, .bor 4])) (sSeq (sSet 9 (sCall none none f_total_span [.bor 0])) (sIfS (sOr (sNot (sBl (sChain gLe gLe (sOp gIx [.bor 9, .ex (sC (.int 0))]) (sVar 8) (sOp gIx [.bor 9, .ex (sC (.int 1))])))) (sNot (sTru (.ex (sCall none none f_total_good [.bor 0, .ex (sCall none none f_opposite_total [.bor 0, .bor 4])]))))) (sRet (sC (.bl false))) sNil))))) sNil))))))) (sSeq (sSet 10 (sCall none none f_total_bars [.bor 0])) (sSeq (sIfS (sAnd (sOpT gIn [.ex (sTup [(sC (.str "ties"))]), .bor 10]) (sOpT gGt [.bor 2, .ex (sC (.int 0))])) (sRet (sC (.bl false))) sNil) (sRet (sOrV (sOp gEq [.bor 1, .ex (sC (.int 0))]) (sOp gEq [.ex (sComp 1 (sSeqI (sVar 10)) (.nm 11) (some (sOpT gEq [.ex (sOp gIx [.bor 11, .ex (sC (.int 0))]), .ex (sC (.str "share"))])) (sVar 11)), .ex (sLst [])]))))))))
def f__law_right : FS := fnRun 1 11 none s__law_right
theorem sc__law_right : FnScope ["web", "good", "lows", "row", "thing", "due", "low", "found", "total", "span", "bars"] ["web"] (defScope (top 36)) := ⟨rfl, rfl, rfl, by decide +kernel, rfl, by decide +kernel, by decide +kernel⟩
theorem ok__law_right (h : Has K mg "_law_right" (top 36) ["web"]) (T : Txt K mg) (G__law_orders : OkX P w K mg base "_law_orders" ["many"] 1 (spF K none f__law_orders)) (G__law_alike : OkX P w K mg base "_law_alike" ["web", "places", "ties"] 1 (spF K none f__law_alike)) (G_total_good : OkX P w K mg base "total_good" ["web", "thing"] 5 (spF K none f_total_good)) (G_low_good : OkX P w K mg base "low_good" ["web", "thing"] 6 (spF K none f_low_good)) (G_total_of : OkX P w K mg base "total_of" ["web", "thing"] 7 (spF K none f_total_of)) (G_total_span : OkX P w K mg base "total_span" ["web"] 3 (spF K none f_total_span)) (G_opposite_total : OkX P w K mg base "opposite_total" ["web", "thing"] 7 (spF K none f_opposite_total)) (G_total_bars : OkX P w K mg base "total_bars" ["web"] 5 (spF K none f_total_bars)) : OkX P w K mg base "_law_right" ["web"] 8 (spF K none f__law_right) := by
  refine fn_ok h sc__law_right (fun f cdv A outer s H E hr => ?_)
  have hu : (cxOf (CXr P w) P w K mg base ["web", "good", "lows", "row", "thing", "due", "low", "found", "total", "span", "bars"] "_law_right" (defScope (top 36)) f cdv A outer s H E).A.units + 10 < cLine := by have := hr.units; show (A.deeper _).units + 10 < cLine; omega
  exact (s_cons (s_set (i := 1) sc__law_right.nd rfl (Or.inl rfl) c_int)
      (s_cons (s_set (i := 2) sc__law_right.nd rfl (Or.inl rfl) c_int)
      (s_cons (s_for rfl (i_seq (c_call (io := none) (slot := none) callable_n G__law_orders hr (by decide) (by rfl) (ca_cons (cb_ex (b_add (cb_ex (b_ix (vb 0) (cb_ex c_int))) (cb_ex (b_len (m := T.len) (ha := (ca_cons (cb_ex (b_ix (vb 0) (cb_ex c_int))) ca_nil)))))) ca_nil))) (g_name (i := 3) sc__law_right.nd rfl (Or.inl rfl)) (s_cons (s_set (i := 4) sc__law_right.nd rfl (Or.inl rfl) (c_tup (.cons (c_sl01 sl_any os_s01 (vb 3) (cb_ex (b_ix (vb 0) (cb_ex c_int)))) (.cons (c_sl10 sl_any os_s10 (vb 3) (cb_ex (b_ix (vb 0) (cb_ex c_int)))) .nil))))
      (s_cons (s_set (i := 5) sc__law_right.nd rfl (Or.inl rfl) (c_call (io := none) (slot := none) callable_n G__law_alike hr (by decide) (by rfl) (ca_cons (vb 0) (ca_cons (cb_ex (b_ix (vb 4) (cb_ex c_int))) (ca_cons (cb_ex (b_ix (vb 4) (cb_ex c_int))) ca_nil)))))
      (s_cons (s_set (i := 6) sc__law_right.nd rfl (Or.inl rfl) (c_and (v 5) (c_one (q_eq hu (cb_ex (b_max (m := T.max) (ha := (ca_cons (cb_ex (b_ix (vb 4) (cb_ex c_int))) ca_nil)))) (cb_ex (b_ix (vb 0) (cb_ex c_int)))))))
      (s_cons (s_set (i := 7) sc__law_right.nd rfl (Or.inl rfl) (c_lst (.cons (c_call (io := none) (slot := none) callable_n G_total_good hr (by decide) (by rfl) (ca_cons (vb 0) (ca_cons (vb 4) ca_nil))) (.cons (c_call (io := none) (slot := none) callable_n G_low_good hr (by decide) (by rfl) (ca_cons (vb 0) (ca_cons (vb 4) ca_nil))) .nil))))
      (s_cons (s_if (JW.t (w_or (t_ne hu (vb 7) (cb_ex (c_lst (.cons (v 5) (.cons (v 6) .nil))))) (w_or1 (k_not (k_tru (cb_ex (b_all (m := T.all) (ha := (ca_cons (cb_ex (c_comp (M := ["web", "good", "lows", "row", "thing", "due", "low", "found", "total", "span", "bars"]) (tgs := ["one"]) (T := (.nm 11)) (c := none) (f := (sOp (gIsi "bool") [.bor 11])) rfl (BlkD.ok (osc := defScope (top 36)) (N := ["web", "good", "lows", "row", "thing", "due", "low", "found", "total", "span", "bars"]) ⟨rfl, by decide +kernel, by decide +kernel, by decide +kernel, rfl, by decide +kernel, by decide +kernel, by decide +kernel, by decide +kernel⟩) (i_seq (v 7)) (fun _ _ _ _ _ => (g_name (i := 11) (by decide +kernel : (["web", "good", "lows", "row", "thing", "due", "low", "found", "total", "span", "bars", "one"] : List Str).Nodup) rfl (Or.inl rfl))) (fun _ _ _ _ _ => .no) (fun _ _ _ _ _ => (b_isi_bool (vb 11) T.isi T.bool)))) ca_nil))))))))) (s_one (s_ret c_bl)) s_nil)
      (s_one (s_if (k_tru (vb 5)) (s_cons (s_aug (i := 1) ip_add sc__law_right.nd rfl (Or.inl rfl) c_int)
      (s_cons (s_set (i := 2) sc__law_right.nd rfl (Or.inl rfl) (b_add (vb 2) (cb_ex (b_int (m := T.int) (ha := (ca_cons (vb 6) ca_nil))))))
      (s_cons (s_set (i := 8) sc__law_right.nd rfl (Or.inl rfl) (c_call (io := none) (slot := none) callable_n G_total_of hr (by decide) (by rfl) (ca_cons (vb 0) (ca_cons (vb 4) ca_nil))))
      (s_cons (s_set (i := 9) sc__law_right.nd rfl (Or.inl rfl) (c_call (io := none) (slot := none) callable_n G_total_span hr (by decide) (by rfl) (ca_cons (vb 0) ca_nil)))
      (s_one (s_if (JW.t (w_or (k_not (k_chain op_le op_le os_le os_le (b_ix (vb 9) (cb_ex c_int)) (v 8) (b_ix (vb 9) (cb_ex c_int)))) (w_or1 (k_not (k_tru (cb_ex (c_call (io := none) (slot := none) callable_n G_total_good hr (by decide) (by rfl) (ca_cons (vb 0) (ca_cons (cb_ex (c_call (io := none) (slot := none) callable_n G_opposite_total hr (by decide) (by rfl) (ca_cons (vb 0) (ca_cons (vb 4) ca_nil)))) ca_nil))))))))) (s_one (s_ret c_bl)) s_nil)))))) s_nil))))))))
      (s_cons (s_set (i := 10) sc__law_right.nd rfl (Or.inl rfl) (c_call (io := none) (slot := none) callable_f G_total_bars hr (by decide) (by rfl) (ca_cons (vb 0) ca_nil)))
      (s_cons (s_if (JW.t (w_and (t_in hu (cb_ex (c_tup (.cons c_str .nil))) (vb 10)) (w_and1 (t_gt (vb 2) (cb_ex c_int))))) (s_one (s_ret c_bl)) s_nil)
      (s_one (s_ret (c_or (q_eq hu (vb 1) (cb_ex c_int)) (c_one (q_eq hu (cb_ex (c_comp (M := ["web", "good", "lows", "row", "thing", "due", "low", "found", "total", "span", "bars"]) (tgs := ["bar"]) (T := (.nm 11)) (c := (some (sOpT gEq [.ex (sOp gIx [.bor 11, .ex (sC (.int 0))]), .ex (sC (.str "share"))]))) (f := (sVar 11)) rfl (BlkD.ok (osc := defScope (top 36)) (N := ["web", "good", "lows", "row", "thing", "due", "low", "found", "total", "span", "bars"]) ⟨rfl, by decide +kernel, by decide +kernel, by decide +kernel, rfl, by decide +kernel, by decide +kernel, by decide +kernel, by decide +kernel⟩) (i_seq (v 10)) (fun _ _ _ _ _ => (g_name (i := 11) (by decide +kernel : (["web", "good", "lows", "row", "thing", "due", "low", "found", "total", "span", "bars", "bar"] : List Str).Nodup) rfl (Or.inl rfl))) (fun _ _ _ _ _ => (.one (t_eq hu (cb_ex (b_ix (vb 11) (cb_ex c_int))) (cb_ex c_str)))) (fun _ _ _ _ _ => (v 11)))) (cb_ex (c_lst .nil))))))))))))
def s_law : SS := (sSeq (sSet 1 (sLst [(sTup [(sC (.int 2)), (sTup [(sTup [(sC (.int 0)), (sC (.int 1))])])]), (sTup [(sC (.int 3)), (sTup [(sTup [(sC (.int 0)), (sC (.int 1))])])]), (sTup [(sC (.int 3)), (sTup [(sTup [(sC (.int 0)), (sC (.int 1))]), (sTup [(sC (.int 1)), (sC (.int 2))])])]), (sTup [(sC (.int 3)), (sTup [(sTup [(sC (.int 0)), (sC (.int 1))]), (sTup [(sC (.int 0)), (sC (.int 2))]), (sTup [(sC (.int 1)), (sC (.int 2))])])]), (sTup [(sC (.int 4)), (sTup [(sTup [(sC (.int 1)), (sC (.int 3))])])])])) (sSeq (sSet 1 (sOp gAdd [.bor 1, .ex (sLst [(sTup [(sC (.int 4)), (sTup [(sTup [(sC (.int 0)), (sC (.int 1))]), (sTup [(sC (.int 2)), (sC (.int 3))])])]), (sTup [(sC (.int 4)), (sTup [(sTup [(sC (.int 0)), (sC (.int 2))]), (sTup [(sC (.int 1)), (sC (.int 2))])])]), (sTup [(sC (.int 5)), (sTup [(sTup [(sC (.int 3)), (sC (.int 4))])])])])])) (sSeq (sSet 2 (sCall none none f__law_pen_of [.ex (sCall none none f__law_cell_at [.bor 0, .ex (sC (.int 0))])])) (sRet (sCall none none f__law_right [.ex (sOp gIx [.bor 1, .ex (sCall (some 0) (some 2) f__law_draw [.bor 2, .ex (sC (.int 8))])])])))))
def f_law : FS := fnRun 1 3 none s_law
theorem sc_law : FnScope ["script", "some", "pen"] ["script"] (defScope (top 37)) := ⟨rfl, rfl, rfl, by decide +kernel, rfl, by decide +kernel, by decide +kernel⟩
theorem ok_law {f0 : Addr} {fd0 : FuncData} (h : Fun K "law" "law" (top 37) f0 fd0) (T : Txt K mg) (G__law_pen_of : OkX P w K mg base "_law_pen_of" ["cell"] 1 (spF K none f__law_pen_of)) (G__law_cell_at : OkX P w K mg base "_law_cell_at" ["script", "k"] 1 (spF K none f__law_cell_at)) (G__law_right : OkX P w K mg base "_law_right" ["web"] 8 (spF K none f__law_right)) (G__law_draw : OkX P w K mg base "_law_draw" ["pen", "many"] 2 (spF K (some 0) f__law_draw)) : FnOk P w K mg base (CXr P w) 9 f0 fd0 ["script"] (spF K none f_law) := by
  refine fn_okF h sc_law (fun f cdv A outer s H E hr => ?_)
  have hu : (cxOf (CXr P w) P w K mg base ["script", "some", "pen"] "law" (defScope (top 37)) f cdv A outer s H E).A.units + 10 < cLine := by have := hr.units; show (A.deeper _).units + 10 < cLine; omega
  exact (s_cons (s_set (i := 1) sc_law.nd rfl (Or.inl rfl) (c_lst (.cons (c_tup (.cons c_int (.cons (c_tup (.cons (c_tup (.cons c_int (.cons c_int .nil))) .nil)) .nil))) (.cons (c_tup (.cons c_int (.cons (c_tup (.cons (c_tup (.cons c_int (.cons c_int .nil))) .nil)) .nil))) (.cons (c_tup (.cons c_int (.cons (c_tup (.cons (c_tup (.cons c_int (.cons c_int .nil))) (.cons (c_tup (.cons c_int (.cons c_int .nil))) .nil))) .nil))) (.cons (c_tup (.cons c_int (.cons (c_tup (.cons (c_tup (.cons c_int (.cons c_int .nil))) (.cons (c_tup (.cons c_int (.cons c_int .nil))) (.cons (c_tup (.cons c_int (.cons c_int .nil))) .nil)))) .nil))) (.cons (c_tup (.cons c_int (.cons (c_tup (.cons (c_tup (.cons c_int (.cons c_int .nil))) .nil)) .nil))) .nil)))))))
      (s_cons (s_set (i := 1) sc_law.nd rfl (Or.inl rfl) (b_add (vb 1) (cb_ex (c_lst (.cons (c_tup (.cons c_int (.cons (c_tup (.cons (c_tup (.cons c_int (.cons c_int .nil))) (.cons (c_tup (.cons c_int (.cons c_int .nil))) .nil))) .nil))) (.cons (c_tup (.cons c_int (.cons (c_tup (.cons (c_tup (.cons c_int (.cons c_int .nil))) (.cons (c_tup (.cons c_int (.cons c_int .nil))) .nil))) .nil))) (.cons (c_tup (.cons c_int (.cons (c_tup (.cons (c_tup (.cons c_int (.cons c_int .nil))) .nil)) .nil))) .nil)))))))
      (s_cons (s_set (i := 2) sc_law.nd rfl (Or.inl rfl) (c_call (io := none) (slot := none) callable_f G__law_pen_of hr (by decide) (by rfl) (ca_cons (cb_ex (c_call (io := none) (slot := none) callable_f G__law_cell_at hr (by decide) (by rfl) (ca_cons (vb 0) (ca_cons (cb_ex c_int) ca_nil)))) ca_nil)))
      (s_one (s_ret (c_call (io := none) (slot := none) callable_f G__law_right hr (by decide) (by rfl) (ca_cons (cb_ex (b_ix (vb 1) (cb_ex (c_call (io := (some 0)) (slot := (some 2)) callable_f G__law_draw hr (by decide) (by rfl) (ca_cons (vb 2) (ca_cons (cb_ex c_int) ca_nil)))))) ca_nil)))))))
end
end K51
namespace K51
open PySem L2
abbrev nD (l : List Int) : List D := l.map D.int
theorem t_whole (i : Int) : f_is_whole [.int i] = some (.ok (.bl true) false, .non) := by
  unfold f_is_whole s_is_whole
  (apply Eq.trans; (with_reducible apply r_fn); exact rfl; (with_reducible apply r_ret); (with_reducible apply r_andVT); (with_reducible apply r_op); (with_reducible apply r_borA); exact rfl; (with_reducible apply r_nilA); exact rfl; exact rfl; exact rfl; (with_reducible apply r_notV); (with_reducible apply r_op); (with_reducible apply r_borA); exact rfl; (with_reducible apply r_nilA); exact rfl; exact rfl; exact rfl; exact rfl; exact rfl)
theorem t_within (i lo hi : Int) : f_whole_within [.int i, .int lo, .int hi] = some (.ok (.bl (decide (lo ≤ i) && decide (i ≤ hi))) false, .non) := by
  have h := t_whole i
  unfold f_whole_within s_whole_within
  (apply Eq.trans; (with_reducible apply r_fn); exact rfl; (with_reducible apply r_ret); (with_reducible apply r_andVT); (with_reducible apply r_call); (with_reducible apply r_borA); exact rfl; (with_reducible apply r_nilA); exact rfl; exact h; exact rfl; exact rfl; (with_reducible apply r_chain); (with_reducible apply r_exA); (with_reducible apply r_varF); exact rfl; (with_reducible apply r_exA); (with_reducible apply r_varF); exact rfl; (with_reducible apply r_nilA); exact rfl; (with_reducible apply r_varF); exact rfl; exact rfl; exact rfl; exact rfl; exact rfl)
def unlike (ns : List Int) (lo hi : Int) : Bool := (ns.map fun i => decide (lo ≤ i) && decide (i ≤ hi)).all id && decide (((dd ns).length : Int) = ns.length)
theorem t_unlike (ns : List Int) (lo hi : Int) (hl : ns.length ≤ 1000) : f_unlike_within [.tup (nD ns), .int lo, .int hi] = some (.ok (.bl (unlike ns lo hi)) false, .non) := by
  have c : sCompL 1 (.nm 3) none (sCall none none f_whole_within [.bor 3, .bor 1, .bor 2]) (nD ns) [some (.tup (nD ns), .fz), some (.int lo, .fz), some (.int hi, .fz)] = some ((ns.map fun i => D.bl (decide (lo ≤ i) && decide (i ≤ hi))), [some (.tup (nD ns), .fz), some (.int lo, .fz), some (.int hi, .fz)]) := by
    refine sCompL_of ns fun i _ => ?_
    have h := t_within i lo hi
    (apply el_mk; (simp only [asgT, asgTs, List.getElem?_cons_zero, List.getElem?_cons_succ, List.set_cons_zero, List.set_cons_succ, List.replicate, List.cons_append, List.nil_append, Nat.zero_add]; exact rfl); (with_reducible apply r_call); (with_reducible apply r_borA); exact rfl; (with_reducible apply r_borA); exact rfl; (with_reducible apply r_borA); exact rfl; (with_reducible apply r_nilA); exact rfl; exact rfl; exact rfl; exact h; exact rfl; exact rfl; exact rfl)
  rw [show (ns.map fun i => D.bl (decide (lo ≤ i) && decide (i ≤ hi))) = (ns.map fun i => decide (lo ≤ i) && decide (i ≤ hi)).map D.bl by rw [List.map_map]; rfl] at c
  have g1 := gAll_bls (ns.map fun i => decide (lo ≤ i) && decide (i ≤ hi))
  have g2 := gSet_ints ns hl
  have g3 := gLen_set ns hl
  have g4 := gLen_tup ns
  unfold f_unlike_within s_unlike_within
  (apply Eq.trans; (with_reducible apply r_fn); exact rfl; (with_reducible apply r_ret); (with_reducible apply r_andV); (with_reducible apply r_op); (with_reducible apply r_exA); (with_reducible apply r_comp); (with_reducible apply r_seqI); (with_reducible apply r_varF); exact rfl; exact rfl; exact rfl; exact c; (with_reducible apply r_nilA); exact g1; (with_reducible apply r_op); (with_reducible apply r_exA); (with_reducible apply r_op); (with_reducible apply r_exA); (with_reducible apply r_op); (with_reducible apply r_borA); exact rfl; (with_reducible apply r_nilA); exact rfl; exact g2; (with_reducible apply r_nilA); exact g3; (with_reducible apply r_exA); (with_reducible apply r_op); (with_reducible apply r_borA); exact rfl; (with_reducible apply r_nilA); exact rfl; exact g4; (with_reducible apply r_nilA); (with_reducible exact gEq_int _ _); exact rfl; exact rfl; exact rfl)
def once (ns : List Int) (m : Int) : Bool := decide ((ns.length : Int) = m) && unlike ns 1 m
theorem t_once (ns : List Int) (m : Int) (hl : ns.length ≤ 1000) : f_each_once [.tup (nD ns), .int m] = some (.ok (.bl (once ns m)) false, .non) := by
  have h := t_unlike ns 1 m hl
  have g4 := gLen_tup ns
  unfold f_each_once s_each_once
  (apply Eq.trans; (with_reducible apply r_fn); exact rfl; (with_reducible apply r_ret); (with_reducible apply r_andV); (with_reducible apply r_op); (with_reducible apply r_exA); (with_reducible apply r_op); (with_reducible apply r_borA); exact rfl; (with_reducible apply r_nilA); exact rfl; exact g4; (with_reducible apply r_borA); exact rfl; (with_reducible apply r_nilA); exact rfl; (with_reducible exact gEq_int _ _); (with_reducible apply r_call); (with_reducible apply r_borA); exact rfl; (with_reducible apply r_exA); (with_reducible apply r_c); (with_reducible apply r_borA); exact rfl; (with_reducible apply r_nilA); exact rfl; exact rfl; exact h; exact rfl; exact rfl; exact rfl; exact rfl)
def tieD (t : Int × Int) : D := .tup [.int t.1, .int t.2]
abbrev tD (ts : List (Int × Int)) : List D := ts.map tieD
abbrev webD (n : Int) (ts : List (Int × Int)) : D := .tup [.int n, .tup (tD ts)]
abbrev thD (ps qs : List Int) : D := .tup [.tup (nD ps), .tup (nD qs)]
structure Wb (n : Nat) (ts : List (Int × Int)) : Prop where
  r : ∀ t ∈ ts, 0 ≤ t.1 ∧ t.1 < n ∧ 0 ≤ t.2 ∧ t.2 < n
  l : ts.length ≤ 40
  n : n ≤ 40
def sm (ps : List Int) (t : Int × Int) : Int := ps.getD t.1.toNat 0 + ps.getD t.2.toNat 0
theorem t_end {n : Nat} {ts : List (Int × Int)} (W : Wb n ts) (m : Int) (ps : List Int) (hp : ps.length = n) : f_end_sums [webD m ts, .tup (nD ps)] = some (.ok (.lst (nD (ts.map (sm ps)))) true, .non) := by
  have c : sCompL 2 (.tp [(.nm 2), (.nm 3)]) none (sOp gAdd [.ex (sOp gIx [.bor 1, .bor 2]), .ex (sOp gIx [.bor 1, .bor 3])]) (tD ts) [some (webD m ts, .fz), some (.tup (nD ps), .fz)] = some (ts.map fun t => D.int (sm ps t), [some (webD m ts, .fz), some (.tup (nD ps), .fz)]) := by
    refine sCompL_of ts fun t ht => ?_
    obtain ⟨a, b, c, d⟩ := W.r t ht
    have h1 := atI_ints (ns := ps) a (by omega)
    have h2 := atI_ints (ns := ps) c (by omega)
    unfold tieD
    (apply el_mk; (simp only [asgT, asgTs, List.getElem?_cons_zero, List.getElem?_cons_succ, List.set_cons_zero, List.set_cons_succ, List.replicate, List.cons_append, List.nil_append, Nat.zero_add]; exact rfl); (with_reducible apply r_op); (with_reducible apply r_exA); (with_reducible apply r_op); (with_reducible apply r_borA); exact rfl; (with_reducible apply r_borA); exact rfl; (with_reducible apply r_nilA); exact rfl; exact rfl; (with_reducible exact gIx_tup (by with_reducible assumption)); (with_reducible apply r_exA); (with_reducible apply r_op); (with_reducible apply r_borA); exact rfl; (with_reducible apply r_borA); exact rfl; (with_reducible apply r_nilA); exact rfl; exact rfl; (with_reducible exact gIx_tup (by with_reducible assumption)); (with_reducible apply r_nilA); exact rfl; exact rfl; exact rfl)
  rw [show (ts.map fun t => D.int (sm ps t)) = nD (ts.map (sm ps)) by rw [nD, List.map_map]; rfl] at c
  have i1 : gIx [webD m ts, .int 1] = some (.tup (tD ts), false) := gIx_tup atI_1
  unfold f_end_sums s_end_sums
  (apply Eq.trans; (with_reducible apply r_fn); exact rfl; (with_reducible apply r_ret); (with_reducible apply r_comp); (with_reducible apply r_seqI); (with_reducible apply r_op); (with_reducible apply r_borA); exact rfl; (with_reducible apply r_exA); (with_reducible apply r_c); (with_reducible apply r_nilA); exact rfl; exact i1; exact rfl; exact rfl; exact c; exact rfl; exact rfl; exact rfl)
def tot (ts : List (Int × Int)) (ps qs : List Int) : List Int := (List.range ts.length).map fun i => sm ps (ts.getD i (0, 0)) + qs.getD i 0
theorem tot_len (ts : List (Int × Int)) (ps qs : List Int) : (tot ts ps qs).length = ts.length := by unfold tot; simp
theorem t_tot {n : Nat} {ts : List (Int × Int)} (W : Wb n ts) (m : Int) (ps qs : List Int) (hp : ps.length = n) (hq : qs.length = ts.length) : f_totals_by [webD m ts, thD ps qs] = some (.ok (.lst (nD (tot ts ps qs))) true, .non) := by
  have e := t_end W m ps hp
  have i0 : gIx [thD ps qs, .int 0] = some (.tup (nD ps), false) := gIx_tup atI_0
  have i1 : gIx [thD ps qs, .int 1] = some (.tup (nD qs), false) := gIx_tup atI_1
  have ll : (nD (ts.map (sm ps))).length ≤ (nD qs).length := by simp [nD, hq]
  have c : sCompL 2 (.tp [(.nm 2), (.nm 3)]) none (sOp gAdd [.bor 2, .bor 3]) (zipL (nD (ts.map (sm ps))) (nD qs)) [some (webD m ts, .fz), some (thD ps qs, .fz)] = some ((List.range (zipL (nD (ts.map (sm ps))) (nD qs)).length).map fun i => D.int (sm ps (ts.getD i (0, 0)) + qs.getD i 0), [some (webD m ts, .fz), some (thD ps qs, .fz)]) := by
    refine sCompL_ix0 _ fun i d hd => ?_
    obtain ⟨a, b, h1, h2, rfl⟩ := zipL_get hd
    rw [nD, List.getElem?_map, List.getElem?_map] at h1
    rw [nD, List.getElem?_map] at h2
    obtain ⟨x, hx, rfl⟩ := Option.map_eq_some_iff.mp h1
    obtain ⟨t, ht, rfl⟩ := Option.map_eq_some_iff.mp hx
    obtain ⟨y, hy, rfl⟩ := Option.map_eq_some_iff.mp h2
    have e1 : ts.getD i (0, 0) = t := by rw [List.getD_eq_getElem?_getD, ht]; rfl
    have e2 : qs.getD i 0 = y := by rw [List.getD_eq_getElem?_getD, hy]; rfl
    rw [e1, e2]
    (apply el_mk; (simp only [asgT, asgTs, List.getElem?_cons_zero, List.getElem?_cons_succ, List.set_cons_zero, List.set_cons_succ, List.replicate, List.cons_append, List.nil_append, Nat.zero_add]; exact rfl); (with_reducible apply r_op); (with_reducible apply r_borA); exact rfl; (with_reducible apply r_borA); exact rfl; (with_reducible apply r_nilA); exact rfl; exact rfl; exact rfl; exact rfl; exact rfl)
  rw [zipL_len ll, show ((List.range (nD (ts.map (sm ps))).length).map fun i => D.int (sm ps (ts.getD i (0, 0)) + qs.getD i 0)) = nD (tot ts ps qs) by
    unfold tot; simp only [nD, List.length_map, List.map_map]; rfl] at c
  unfold f_totals_by s_totals_by
  (apply Eq.trans; (with_reducible apply r_fn); exact rfl; (with_reducible apply r_ret); (with_reducible apply r_comp); (with_reducible apply r_zip); (with_reducible apply r_exM); (with_reducible apply r_call); (with_reducible apply r_borA); exact rfl; (with_reducible apply r_exA); (with_reducible apply r_op); (with_reducible apply r_borA); exact rfl; (with_reducible apply r_exA); (with_reducible apply r_c); (with_reducible apply r_nilA); exact rfl; exact i0; (with_reducible apply r_nilA); exact rfl; exact e; exact rfl; (with_reducible apply r_exM); (with_reducible apply r_op); (with_reducible apply r_borA); exact rfl; (with_reducible apply r_exA); (with_reducible apply r_c); (with_reducible apply r_nilA); exact rfl; exact i1; (with_reducible apply r_nilM); exact rfl; exact ll; exact rfl; exact c; exact rfl; exact rfl; exact rfl)
def good (n : Nat) (ts : List (Int × Int)) (ps qs : List Int) : Bool := once (ps ++ qs) ((n : Int) + (ts.length : Nat)) && decide (((dd (tot ts ps qs)).length : Int) = 1)
theorem gLen_tD (ts : List (Int × Int)) : gLen [.tup (tD ts)] = some (.int (ts.length : Nat), false) := by show some (D.int ((tD ts).length : Nat), false) = _; rw [List.length_map]
theorem t_good {n : Nat} {ts : List (Int × Int)} (W : Wb n ts) (ps qs : List Int) (hp : ps.length = n) (hq : qs.length = ts.length) : f_total_good [webD n ts, thD ps qs] = some (.ok (.bl (good n ts ps qs)) false, .non) := by
  have l1 := W.l
  have l2 := W.n
  have e := t_tot W n ps qs hp hq
  have i0 : gIx [thD ps qs, .int 0] = some (.tup (nD ps), false) := gIx_tup atI_0
  have i1 : gIx [thD ps qs, .int 1] = some (.tup (nD qs), false) := gIx_tup atI_1
  have j0 : gIx [webD n ts, .int 0] = some (.int n, false) := gIx_tup atI_0
  have j1 : gIx [webD n ts, .int 1] = some (.tup (tD ts), false) := gIx_tup atI_1
  have g1 := gLen_tup ps
  have g2 := gLen_tD ts
  have g3 := gAdd_tups ps qs (by omega)
  have g4 := t_once (ps ++ qs) ((n : Int) + (ts.length : Nat)) (by rw [List.length_append]; omega)
  have g5 := gSetL_ints (tot ts ps qs) (by rw [tot_len]; omega)
  have g6 := gLen_set (tot ts ps qs) (by rw [tot_len]; omega)
  have g7 : gNe [.int ps.length, .int n] = some (.bl false, false) := by rw [gNe_int, hp]; simp
  unfold f_total_good s_total_good
  (apply Eq.trans; (with_reducible apply r_fn); exact rfl; (with_reducible apply r_seq); (with_reducible apply r_ifF); (with_reducible apply r_orF); (with_reducible apply r_not); (with_reducible apply r_tru); (with_reducible apply r_exA); (with_reducible apply r_op); (with_reducible apply r_borA); exact rfl; (with_reducible apply r_nilA); exact rfl; exact rfl; (with_reducible apply r_nilA); exact rfl; exact rfl; (with_reducible apply r_opT); (with_reducible apply r_exA); (with_reducible apply r_op); (with_reducible apply r_borA); exact rfl; (with_reducible apply r_nilA); exact rfl; exact rfl; (with_reducible apply r_exA); (with_reducible apply r_c); (with_reducible apply r_nilA); (with_reducible exact gNe_int _ _); exact rfl; (with_reducible apply r_nil); (with_reducible apply r_seq); (with_reducible apply r_set); (with_reducible apply r_op); (with_reducible apply r_borA); exact rfl; (with_reducible apply r_exA); (with_reducible apply r_c); (with_reducible apply r_nilA); exact rfl; exact i0; exact rfl; exact rfl; (with_reducible apply r_seq); (with_reducible apply r_set); (with_reducible apply r_op); (with_reducible apply r_borA); exact rfl; (with_reducible apply r_exA); (with_reducible apply r_c); (with_reducible apply r_nilA); exact rfl; exact i1; exact rfl; exact rfl; (with_reducible apply r_seq); (with_reducible apply r_ifF); (with_reducible apply r_orF); (with_reducible apply r_not); (with_reducible apply r_tru); (with_reducible apply r_exA); (with_reducible apply r_op); (with_reducible apply r_borA); exact rfl; (with_reducible apply r_nilA); exact rfl; exact rfl; (with_reducible apply r_nilA); exact rfl; exact rfl; (with_reducible apply r_orF); (with_reducible apply r_not); (with_reducible apply r_tru); (with_reducible apply r_exA); (with_reducible apply r_op); (with_reducible apply r_borA); exact rfl; (with_reducible apply r_nilA); exact rfl; exact rfl; (with_reducible apply r_nilA); exact rfl; exact rfl; (with_reducible apply r_opT); (with_reducible apply r_exA); (with_reducible apply r_op); (with_reducible apply r_borA); exact rfl; (with_reducible apply r_nilA); exact rfl; exact g1; (with_reducible apply r_exA); (with_reducible apply r_op); (with_reducible apply r_borA); exact rfl; (with_reducible apply r_exA); (with_reducible apply r_c); (with_reducible apply r_nilA); exact rfl; exact j0; (with_reducible apply r_nilA); exact g7; exact rfl; (with_reducible apply r_nil); (with_reducible apply r_ret); (with_reducible apply r_andV); (with_reducible apply r_call); (with_reducible apply r_exA); (with_reducible apply r_op); (with_reducible apply r_borA); exact rfl; (with_reducible apply r_borA); exact rfl; (with_reducible apply r_nilA); exact rfl; exact rfl; exact g3; (with_reducible apply r_exA); (with_reducible apply r_op); (with_reducible apply r_exA); (with_reducible apply r_op); (with_reducible apply r_borA); exact rfl; (with_reducible apply r_exA); (with_reducible apply r_c); (with_reducible apply r_nilA); exact rfl; exact j0; (with_reducible apply r_exA); (with_reducible apply r_op); (with_reducible apply r_exA); (with_reducible apply r_op); (with_reducible apply r_borA); exact rfl; (with_reducible apply r_exA); (with_reducible apply r_c); (with_reducible apply r_nilA); exact rfl; exact j1; (with_reducible apply r_nilA); exact g2; (with_reducible apply r_nilA); exact rfl; (with_reducible apply r_nilA); exact g4; exact rfl; (with_reducible apply r_op); (with_reducible apply r_exA); (with_reducible apply r_op); (with_reducible apply r_exA); (with_reducible apply r_op); (with_reducible apply r_exA); (with_reducible apply r_call); (with_reducible apply r_borA); exact rfl; (with_reducible apply r_borA); exact rfl; (with_reducible apply r_nilA); exact rfl; exact rfl; exact e; exact rfl; (with_reducible apply r_nilA); exact g5; (with_reducible apply r_nilA); exact g6; (with_reducible apply r_exA); (with_reducible apply r_c); (with_reducible apply r_nilA); (with_reducible exact gEq_int _ _); exact rfl; exact rfl; exact rfl)
def low (n : Nat) (ts : List (Int × Int)) (ps qs : List Int) : Bool := good n ts ps qs && decide (maxI ps = n)
theorem t_low {n : Nat} {ts : List (Int × Int)} (W : Wb n ts) (ps qs : List Int) (hp : ps.length = n) (hq : qs.length = ts.length) (h0 : ps ≠ []) : f_low_good [webD n ts, thD ps qs] = some (.ok (.bl (low n ts ps qs)) false, .non) := by
  have e := t_good W ps qs hp hq
  have i0 : gIx [thD ps qs, .int 0] = some (.tup (nD ps), false) := gIx_tup atI_0
  have j0 : gIx [webD n ts, .int 0] = some (.int n, false) := gIx_tup atI_0
  have g1 := gMaxA_tup ps h0
  unfold f_low_good s_low_good
  (apply Eq.trans; (with_reducible apply r_fn); exact rfl; (with_reducible apply r_ret); (with_reducible apply r_andV); (with_reducible apply r_call); (with_reducible apply r_borA); exact rfl; (with_reducible apply r_borA); exact rfl; (with_reducible apply r_nilA); exact rfl; exact rfl; exact e; exact rfl; (with_reducible apply r_op); (with_reducible apply r_exA); (with_reducible apply r_op); (with_reducible apply r_exA); (with_reducible apply r_op); (with_reducible apply r_borA); exact rfl; (with_reducible apply r_exA); (with_reducible apply r_c); (with_reducible apply r_nilA); exact rfl; exact i0; (with_reducible apply r_nilA); exact g1; (with_reducible apply r_exA); (with_reducible apply r_op); (with_reducible apply r_borA); exact rfl; (with_reducible apply r_exA); (with_reducible apply r_c); (with_reducible apply r_nilA); exact rfl; exact j0; (with_reducible apply r_nilA); (with_reducible exact gEq_int _ _); exact rfl; exact rfl; exact rfl)
theorem t_check {n : Nat} {ts : List (Int × Int)} (W : Wb n ts) (ps qs : List Int) (hp : ps.length = n) (hq : qs.length = ts.length) (hg : good n ts ps qs = true) : f_check_total [webD n ts, thD ps qs] = some (.ok .non false, .non) := by
  have e := t_good W ps qs hp hq
  rw [hg] at e
  unfold f_check_total s_check_total
  (apply Eq.trans; (with_reducible apply r_fnN); exact rfl; (with_reducible apply r_ifF); (with_reducible apply r_not); (with_reducible apply r_tru); (with_reducible apply r_exA); (with_reducible apply r_call); (with_reducible apply r_borA); exact rfl; (with_reducible apply r_borA); exact rfl; (with_reducible apply r_nilA); exact rfl; exact rfl; exact e; exact rfl; (with_reducible apply r_nilA); exact rfl; exact rfl; (with_reducible apply r_nil); exact rfl; exact rfl; exact rfl)
theorem t_of {n : Nat} {ts : List (Int × Int)} (W : Wb n ts) (ps qs : List Int) (hp : ps.length = n) (hq : qs.length = ts.length) (hg : good n ts ps qs = true) (h0 : 0 < ts.length) : f_total_of [webD n ts, thD ps qs] = some (.ok (.int ((tot ts ps qs).getD 0 0)) false, .non) := by
  have e := t_check W ps qs hp hq hg
  have e2 := t_tot W n ps qs hp hq
  have a : gIx [.lst (nD (tot ts ps qs)), .int 0] = some (.int ((tot ts ps qs).getD 0 0), false) := gIx_lst (atI_ints (by omega) (by rw [tot_len]; omega))
  unfold f_total_of s_total_of
  (apply Eq.trans; (with_reducible apply r_fn); exact rfl; (with_reducible apply r_seq); (with_reducible apply r_expr); (with_reducible apply r_call); (with_reducible apply r_borA); exact rfl; (with_reducible apply r_borA); exact rfl; (with_reducible apply r_nilA); exact rfl; exact rfl; exact e; exact rfl; (with_reducible apply r_ret); (with_reducible apply r_op); (with_reducible apply r_exA); (with_reducible apply r_call); (with_reducible apply r_borA); exact rfl; (with_reducible apply r_borA); exact rfl; (with_reducible apply r_nilA); exact rfl; exact rfl; exact e2; exact rfl; (with_reducible apply r_exA); (with_reducible apply r_c); (with_reducible apply r_nilA); exact a; exact rfl; exact rfl; exact rfl)
def from_ (w : Int) (l : List Int) : List Int := l.map fun x => w - x
theorem t_from (w : Int) (l : List Int) : f_taken_from [.int w, .tup (nD l)] = some (.ok (.tup (nD (from_ w l))) false, .non) := by
  have c : sCompL 1 (.nm 2) none (sOp gMin1 [.bor 0, .bor 2]) (nD l) [some (.int w, .fz), some (.tup (nD l), .fz)] = some (l.map fun x => D.int (w - x), [some (.int w, .fz), some (.tup (nD l), .fz)]) := by
    refine sCompL_of l fun x _ => ?_
    (apply el_mk; (simp only [asgT, asgTs, List.getElem?_cons_zero, List.getElem?_cons_succ, List.set_cons_zero, List.set_cons_succ, List.replicate, List.cons_append, List.nil_append, Nat.zero_add]; exact rfl); (with_reducible apply r_op); (with_reducible apply r_borA); exact rfl; (with_reducible apply r_borA); exact rfl; (with_reducible apply r_nilA); exact rfl; exact rfl; exact rfl; exact rfl; exact rfl)
  rw [show (l.map fun x => D.int (w - x)) = nD (from_ w l) by unfold from_; rw [nD, List.map_map]; rfl] at c
  unfold f_taken_from s_taken_from
  (apply Eq.trans; (with_reducible apply r_fn); exact rfl; (with_reducible apply r_ret); (with_reducible apply r_op); (with_reducible apply r_exA); (with_reducible apply r_comp); (with_reducible apply r_seqI); (with_reducible apply r_varF); exact rfl; exact rfl; exact rfl; exact c; (with_reducible apply r_nilA); exact rfl; exact rfl; exact rfl; exact rfl)
theorem t_opp {n : Nat} {ts : List (Int × Int)} (W : Wb n ts) (ps qs : List Int) (hp : ps.length = n) (hq : qs.length = ts.length) (hg : good n ts ps qs = true) : f_opposite_total [webD n ts, thD ps qs] = some (.ok (thD (from_ ((n : Int) + (ts.length : Nat) + 1) ps) (from_ ((n : Int) + (ts.length : Nat) + 1) qs)) false, .non) := by
  have e := t_check W ps qs hp hq hg
  have j0 : gIx [webD n ts, .int 0] = some (.int n, false) := gIx_tup atI_0
  have j1 : gIx [webD n ts, .int 1] = some (.tup (tD ts), false) := gIx_tup atI_1
  have g2 := gLen_tD ts
  have c : sCompL 1 (.nm 2) none (sCall none none f_taken_from [.ex (sOp gAdd [.ex (sOp gAdd [.ex (sOp gIx [.bor 0, .ex (sC (.int 0))]), .ex (sOp gLen [.ex (sOp gIx [.bor 0, .ex (sC (.int 1))])])]), .ex (sC (.int 1))]), .bor 2]) ([ps, qs].map fun l => D.tup (nD l)) [some (webD n ts, .fz), some (thD ps qs, .fz)] = some ([ps, qs].map fun l => D.tup (nD (from_ ((n : Int) + (ts.length : Nat) + 1) l)), [some (webD n ts, .fz), some (thD ps qs, .fz)]) := by
    refine sCompL_of [ps, qs] fun l _ => ?_
    have h := t_from ((n : Int) + (ts.length : Nat) + 1) l
    (apply el_mk; (simp only [asgT, asgTs, List.getElem?_cons_zero, List.getElem?_cons_succ, List.set_cons_zero, List.set_cons_succ, List.replicate, List.cons_append, List.nil_append, Nat.zero_add]; exact rfl); (with_reducible apply r_call); (with_reducible apply r_exA); (with_reducible apply r_op); (with_reducible apply r_exA); (with_reducible apply r_op); (with_reducible apply r_exA); (with_reducible apply r_op); (with_reducible apply r_borA); exact rfl; (with_reducible apply r_exA); (with_reducible apply r_c); (with_reducible apply r_nilA); exact rfl; exact j0; (with_reducible apply r_exA); (with_reducible apply r_op); (with_reducible apply r_exA); (with_reducible apply r_op); (with_reducible apply r_borA); exact rfl; (with_reducible apply r_exA); (with_reducible apply r_c); (with_reducible apply r_nilA); exact rfl; exact j1; (with_reducible apply r_nilA); exact g2; (with_reducible apply r_nilA); exact rfl; (with_reducible apply r_exA); (with_reducible apply r_c); (with_reducible apply r_nilA); exact rfl; (with_reducible apply r_borA); exact rfl; (with_reducible apply r_nilA); exact rfl; exact h; exact rfl; exact rfl; exact rfl)
  simp only [List.map_cons, List.map_nil] at c
  unfold f_opposite_total s_opposite_total
  (apply Eq.trans; (with_reducible apply r_fn); exact rfl; (with_reducible apply r_seq); (with_reducible apply r_expr); (with_reducible apply r_call); (with_reducible apply r_borA); exact rfl; (with_reducible apply r_borA); exact rfl; (with_reducible apply r_nilA); exact rfl; exact rfl; exact e; exact rfl; (with_reducible apply r_ret); (with_reducible apply r_op); (with_reducible apply r_exA); (with_reducible apply r_comp); (with_reducible apply r_seqI); (with_reducible apply r_varF); exact rfl; exact rfl; exact rfl; exact c; (with_reducible apply r_nilA); exact rfl; exact rfl; exact rfl; exact rfl)
def alike (ts : List (Int × Int)) (ps qs : List Int) : Bool := decide (minI (tot ts ps qs) = maxI (tot ts ps qs))
theorem t_alike {n : Nat} {ts : List (Int × Int)} (W : Wb n ts) (ps qs : List Int) (hp : ps.length = n) (hq : qs.length = ts.length) (h0 : 0 < ts.length) : f__law_alike [webD n ts, .tup (nD ps), .tup (nD qs)] = some (.ok (.bl (alike ts ps qs)) false, .non) := by
  have j1 : gIx [webD n ts, .int 1] = some (.tup (tD ts), false) := gIx_tup atI_1
  have c : sCompL 3 (.tp [(.nm 4), (.tp [(.nm 5), (.nm 6)])]) none (sOp gAdd [.ex (sOp gAdd [.ex (sOp gIx [.bor 1, .bor 5]), .ex (sOp gIx [.bor 1, .bor 6])]), .ex (sOp gIx [.bor 2, .bor 4])]) (enumL 0 (tD ts)) [some (webD n ts, .fz), some (.tup (nD ps), .fz), some (.tup (nD qs), .fz), none] = some ((List.range (enumL 0 (tD ts)).length).map fun i => D.int (sm ps (ts.getD i (0, 0)) + qs.getD i 0), [some (webD n ts, .fz), some (.tup (nD ps), .fz), some (.tup (nD qs), .fz), none]) := by
    refine sCompL_ix0 _ fun i d hd => ?_
    obtain ⟨d, h1, rfl⟩ := enumL_get hd
    rw [tD, List.getElem?_map] at h1
    obtain ⟨t, ht, rfl⟩ := Option.map_eq_some_iff.mp h1
    obtain ⟨a, b, c, d⟩ := W.r t (List.mem_of_getElem? ht)
    have hi : i < ts.length := (List.getElem?_eq_some_iff.mp ht).1
    have e1 : ts.getD i (0, 0) = t := by rw [List.getD_eq_getElem?_getD, ht]; rfl
    have a1 := atI_ints (ns := ps) a (by omega)
    have a2 := atI_ints (ns := ps) c (by omega)
    have a3 := atI_ints (ns := qs) (i := (i : Int)) (by omega) (by omega)
    rw [show ((i : Int)).toNat = i from rfl] at a3
    rw [e1]
    unfold tieD
    (apply el_mk; (simp only [asgT, asgTs, List.getElem?_cons_zero, List.getElem?_cons_succ, List.set_cons_zero, List.set_cons_succ, List.replicate, List.cons_append, List.nil_append, Nat.zero_add]; exact rfl); (with_reducible apply r_op); (with_reducible apply r_exA); (with_reducible apply r_op); (with_reducible apply r_exA); (with_reducible apply r_op); (with_reducible apply r_borA); exact rfl; (with_reducible apply r_borA); exact rfl; (with_reducible apply r_nilA); exact rfl; exact rfl; (with_reducible exact gIx_tup (by with_reducible assumption)); (with_reducible apply r_exA); (with_reducible apply r_op); (with_reducible apply r_borA); exact rfl; (with_reducible apply r_borA); exact rfl; (with_reducible apply r_nilA); exact rfl; exact rfl; (with_reducible exact gIx_tup (by with_reducible assumption)); (with_reducible apply r_nilA); exact rfl; (with_reducible apply r_exA); (with_reducible apply r_op); (with_reducible apply r_borA); exact rfl; (with_reducible apply r_borA); exact rfl; (with_reducible apply r_nilA); exact rfl; exact rfl; (with_reducible exact gIx_tup (by with_reducible assumption)); (with_reducible apply r_nilA); exact rfl; exact rfl; exact rfl)
  rw [enumL_len, show ((List.range (tD ts).length).map fun i => D.int (sm ps (ts.getD i (0, 0)) + qs.getD i 0)) = nD (tot ts ps qs) by
    unfold tot; simp only [nD, tD, List.length_map, List.map_map]; rfl] at c
  have ne : tot ts ps qs ≠ [] := fun z => by have := tot_len ts ps qs; rw [z] at this; simp at this; omega
  have g1 := gMinA_lst (tot ts ps qs) ne
  have g2 := gMaxA_lst (tot ts ps qs) ne
  unfold f__law_alike s__law_alike
  (apply Eq.trans; (with_reducible apply r_fn); exact rfl; (with_reducible apply r_seq); (with_reducible apply r_set); (with_reducible apply r_comp); (with_reducible apply r_enum); (with_reducible apply r_op); (with_reducible apply r_borA); exact rfl; (with_reducible apply r_exA); (with_reducible apply r_c); (with_reducible apply r_nilA); exact rfl; exact j1; exact rfl; exact rfl; exact c; exact rfl; exact rfl; (with_reducible apply r_ret); (with_reducible apply r_op); (with_reducible apply r_exA); (with_reducible apply r_op); (with_reducible apply r_borA); exact rfl; (with_reducible apply r_nilA); exact rfl; exact g1; (with_reducible apply r_exA); (with_reducible apply r_op); (with_reducible apply r_borA); exact rfl; (with_reducible apply r_nilA); exact rfl; exact g2; (with_reducible apply r_nilA); (with_reducible exact gEq_int _ _); exact rfl; exact rfl; exact rfl)
end K51
namespace K51
open PySem L2
def rowD (r : List Int) : D := .tup (nD r)
def ext (m : Nat) (row : List Int) : List (List Int) := (((List.range m).map fun i => 1 + ((i : Nat) : Int)).filter fun x => !row.elem x).map fun x => row ++ [x]
def orders (m : Nat) : Nat → List (List Int)
  | 0 => [[]]
  | k + 1 => (orders m k).flatMap (ext m)
theorem anyEq_int (x : Int) : ∀ r : List Int, anyEq (r.map D.int) (.int x) = r.elem x
  | [] => rfl
  | y :: r => by
    have ih := anyEq_int x r
    unfold anyEq at ih ⊢
    rw [List.map_cons, List.any_cons, ih, List.elem_cons]
    have : eqD (.int y) (.int x) = (x == y) := by
      show (y == x) = (x == y)
      exact Bool.beq_comm
    rw [this]
    cases (x == y) <;> rfl
theorem all_int : ∀ (r : List Int), (r.map D.int).all (eqable 9) = true
  | [] => rfl
  | _ :: r => by rw [List.map_cons, List.all_cons, all_int r]; rfl
theorem gNotIn_int (x : Int) (r : List Int) : gNotIn [.int x, rowD r] = some (.bl (!r.elem x), false) := by
  unfold gNotIn gInD rowD
  simp only [all_int, anyEq_int, eqable, Bool.and_self, if_true]
theorem rngL_eq (lo : Int) (m : Nat) : rngL lo m = ((List.range m).map fun i => lo + ((i : Nat) : Int)).map D.int := by unfold rngL; rw [List.map_map]; rfl
theorem ext_c (m : Nat) (r : List Int) (hr : r.length ≤ 100) (x0 x1 x2 x3 : Option (D × Md)) : sCompL 1 (.nm 5) (some (sOpT gNotIn [.bor 5, .bor 4])) (sOp gAdd [.bor 4, .ex (sTup [(sVar 5)])]) (rngL 1 m) [x0, x1, x2, x3, some (rowD r, .fz)] = some ((ext m r).map rowD, [x0, x1, x2, x3, some (rowD r, .fz)]) := by
  rw [rngL_eq]
  have := sCompL_ofF (k := 1) (T := .nm 5) (c := sOpT gNotIn [.bor 5, .bor 4]) (f := sOp gAdd [.bor 4, .ex (sTup [(sVar 5)])]) (ρ := [x0, x1, x2, x3, some (rowD r, .fz)]) (inj := D.int) (p := fun x => !r.elem x) (g := fun x => rowD (r ++ [x])) ((List.range m).map fun i => 1 + ((i : Nat) : Int)) fun x _ => by
    have g1 := gNotIn_int x r
    have g2 : gAdd [rowD r, .tup [.int x]] = some (rowD (r ++ [x]), false) := gAdd_tups r [x] (by simp; omega)
    (apply el_mkF; (simp only [asgT, asgTs, List.getElem?_cons_zero, List.getElem?_cons_succ, List.set_cons_zero, List.set_cons_succ, List.replicate, List.cons_append, List.nil_append, Nat.zero_add]; exact rfl); (with_reducible apply r_opT); (with_reducible apply r_borA); exact rfl; (with_reducible apply r_borA); exact rfl; (with_reducible apply r_nilA); exact rfl; exact rfl; exact g1; exact rfl; exact rfl; (with_reducible apply r_op); (with_reducible apply r_borA); exact rfl; (with_reducible apply r_exA); (with_reducible apply r_tup); (with_reducible apply r_exM); (with_reducible apply r_varF); exact rfl; (with_reducible apply r_nilM); (with_reducible apply r_nilA); exact rfl; exact g2; exact rfl; exact rfl)
  rw [this]
  unfold ext
  rw [List.map_map]
  rfl
abbrev sExt : SE := sComp 1 (sRng2 (.ex (sC (.int 1))) (.ex (sOp gAdd [.bor 0, .ex (sC (.int 1))]))) (.nm 5) (some (sOpT gNotIn [.bor 5, .bor 4])) (sOp gAdd [.bor 4, .ex (sTup [(sVar 5)])])
theorem extend_ok (m : Nat) (hm : m ≤ 100) (r : List Int) (hr : r.length ≤ 100) (x1 x2 : Option (D × Md)) (acc : List (List Int)) (hs : acc.length + (ext m r).length ≤ 1000) : sExpr (sMeth 3 uExtend [sExt]) [some (.int m, .fz), x1, x2, some (.lst (acc.map rowD), .ow), some (rowD r, .fz)] = some (.nx, [some (.int m, .fz), x1, x2, some (.lst ((acc ++ ext m r).map rowD), .ow), some (rowD r, .fz)]) := by
  have c := ext_c m r hr (some (.int m, .fz)) x1 x2 (some (.lst (acc.map rowD), .ow))
  have e : ((m : Int) + 1 - 1).toNat = m := by omega
  have u : uExtend (.lst (acc.map rowD)) [.lst ((ext m r).map rowD)] = some (.lst ((acc ++ ext m r).map rowD), .non) := by
    have s : small ((acc.map rowD).length + ((ext m r).map rowD).length) = true := small_of (by rw [List.length_map, List.length_map]; exact hs)
    show (if small ((acc.map rowD).length + ((ext m r).map rowD).length) = true then some (D.lst (acc.map rowD ++ (ext m r).map rowD), D.non) else none) = _
    rw [if_pos s, List.map_append]
  have o : okR 1 ((m : Int) + 1) = true := okR_of (by omega) (by omega) (by omega) (by omega) (by omega)
  have g : sRng2 (.ex (sC (.int 1))) (.ex (sOp gAdd [.bor 0, .ex (sC (.int 1))])) [some (.int m, .fz), x1, x2, some (.lst (acc.map rowD), .ow), some (rowD r, .fz)] = some (.ok (rngL 1 m), [some (.int m, .fz), x1, x2, some (.lst (acc.map rowD), .ow), some (rowD r, .fz)]) := by
    have := r_rng2 (x := .ex (sC (.int 1))) (y := .ex (sOp gAdd [.bor 0, .ex (sC (.int 1))])) (ρ := [some (.int m, .fz), x1, x2, some (.lst (acc.map rowD), .ow), some (rowD r, .fz)]) rfl o
    rw [e] at this
    exact this
  (apply Eq.trans; (with_reducible apply r_expr); (with_reducible apply r_methO); exact rfl; (with_reducible apply r_exM); (with_reducible apply r_comp); exact g; exact rfl; exact c; (with_reducible apply r_nilM); exact rfl; exact u; exact rfl; exact rfl)
theorem inner_ok (m : Nat) (hm : m ≤ 100) (rows : List (List Int)) (hr : ∀ r ∈ rows, r.length ≤ 100) (hs : (rows.flatMap (ext m)).length ≤ 1000) (x1 x2 x4 : Option (D × Md)) : ∃ x4', sLoop (.nm 4) (sExpr (sMeth 3 uExtend [sExt])) (rows.map rowD) [some (.int m, .fz), x1, x2, some (.lst [], .ow), x4] = some (.nx, [some (.int m, .fz), x1, x2, some (.lst ((rows.flatMap (ext m)).map rowD), .ow), x4']) := by
  obtain ⟨ρ', e, x4', rfl⟩ := sLoop_inv (T := .nm 4) (f := sExpr (sMeth 3 uExtend [sExt])) (fun i ρ => ∃ x, ρ = [some (.int m, .fz), x1, x2, some (.lst (((rows.take i).flatMap (ext m)).map rowD), .ow), x]) (rows.map rowD) 0 [some (.int m, .fz), x1, x2, some (.lst [], .ow), x4] ⟨x4, rfl⟩ fun i d ρ hd hI => by
    obtain ⟨x, rfl⟩ := hI
    rw [List.getElem?_map] at hd
    obtain ⟨r, hr', rfl⟩ := Option.map_eq_some_iff.mp hd
    have t : rows.take (0 + i + 1) = rows.take (0 + i) ++ [r] := by rw [List.take_add_one, Nat.zero_add, hr']; rfl
    have t2 : (rows.take (0 + i + 1)).flatMap (ext m) = (rows.take (0 + i)).flatMap (ext m) ++ ext m r := by rw [t, List.flatMap_append]; simp
    have l2 : ((rows.take (0 + i)).flatMap (ext m)).length + (ext m r).length ≤ 1000 := by
      rw [← List.length_append, ← t2]
      have : rows = rows.take (0 + i + 1) ++ rows.drop (0 + i + 1) := (List.take_append_drop _ _).symm
      rw [this, List.flatMap_append, List.length_append] at hs
      omega
    rw [t2]
    exact ⟨_, _, rfl, extend_ok m hm r (hr r (List.mem_of_getElem? hr')) x1 x2 _ l2, some (rowD r, .fz), rfl⟩
  refine ⟨x4', ?_⟩
  rw [e, List.length_map, Nat.zero_add, List.take_length]
theorem row_len (m : Nat) : ∀ k, ∀ r ∈ orders m k, r.length = k
  | 0, r, h => by
    have : r = [] := by simpa [orders] using h
    rw [this]; rfl
  | k + 1, r, h => by
    unfold orders at h
    obtain ⟨r0, h0, h1⟩ := List.mem_flatMap.mp h
    unfold ext at h1
    obtain ⟨x, _, rfl⟩ := List.mem_map.mp h1
    rw [List.length_append, row_len m k r0 h0]
    rfl
abbrev sTurn : SS := sSeq (sSet 3 (sLst [])) (sSeq (sFor (sSeqI (sVar 1)) (.nm 4) (sExpr (sMeth 3 uExtend [sExt]))) (sSet 1 (sVar 3)))
theorem turn_ok (m : Nat) (hm : m ≤ 100) (i : Nat) (hi : i < m) (hs : (orders m (i + 1)).length ≤ 1000) (md : Md) (hio : md ≠ .io) (x2 x3 x4 : Option (D × Md)) : ∃ x3' x4', sTurn [some (.int m, .fz), some (.lst ((orders m i).map rowD), md), x2, x3, x4] = some (.nx, [some (.int m, .fz), some (.lst ((orders m (i + 1)).map rowD), .fz), x2, x3', x4']) := by
  obtain ⟨x4', e3⟩ := inner_ok m hm (orders m i) (fun r hr => by rw [row_len m i r hr]; omega) hs (some (.lst ((orders m i).map rowD), .fz)) x2 x4
  refine ⟨some (.lst ((orders m (i + 1)).map rowD), .fz), x4', ?_⟩
  have e3' : sLoop (.nm 4) (sExpr (sMeth 3 uExtend [sExt])) ((orders m i).map rowD) [some (.int m, .fz), some (.lst ((orders m i).map rowD), .fz), x2, some (.lst [], .ow), x4] = some (.nx, [some (.int m, .fz), some (.lst ((orders m i).map rowD), .fz), x2, some (.lst ((orders m (i + 1)).map rowD), .ow), x4']) := e3
  cases md with
  | io => exact absurd rfl hio
  | fz => (apply Eq.trans; (with_reducible apply r_seq); (with_reducible apply r_set); (with_reducible apply r_lst); (with_reducible apply r_nilM); exact rfl; exact rfl; (with_reducible apply r_seq); (with_reducible apply r_for); (with_reducible apply r_seqI); (with_reducible apply r_varF); exact rfl; exact rfl; exact e3'; (with_reducible apply r_set); (with_reducible apply r_varO); exact rfl; exact rfl; exact rfl; exact rfl; exact rfl)
  | ow => (apply Eq.trans; (with_reducible apply r_seq); (with_reducible apply r_set); (with_reducible apply r_lst); (with_reducible apply r_nilM); exact rfl; exact rfl; (with_reducible apply r_seq); (with_reducible apply r_for); (with_reducible apply r_seqI); (with_reducible apply r_varO); exact rfl; exact rfl; exact rfl; exact e3'; (with_reducible apply r_set); (with_reducible apply r_varO); exact rfl; exact rfl; exact rfl; exact rfl; exact rfl)
theorem orders_ok (m : Nat) (h1 : 1 ≤ m) (hm : m ≤ 100) (hs : ∀ k, k ≤ m → (orders m k).length ≤ 1000) : f__law_orders [.int m] = some (.ok (.lst ((orders m m).map rowD)) false, .non) := by
  obtain ⟨ρ', e, md, x2, x3, x4, rfl, hmd, hio⟩ := sLoop_inv (T := .nm 2) (f := sTurn) (fun i ρ => ∃ md x2 x3 x4, ρ = [some (.int m, .fz), some (.lst ((orders m i).map rowD), md), x2, x3, x4] ∧ (md = .ow → i = 0) ∧ md ≠ .io) (rngL 0 m) 0 [some (.int m, .fz), some (.lst [.tup []], .ow), none, none, none] ⟨.ow, none, none, none, rfl, fun _ => rfl, by decide⟩ fun i d ρ hd hI => by
    obtain ⟨hi, rfl⟩ := rngL_get hd
    obtain ⟨md, x2, x3, x4, rfl, _, hio⟩ := hI
    rw [Nat.zero_add]
    obtain ⟨x3', x4', e⟩ := turn_ok m hm i hi (hs (i + 1) (by omega)) md hio (some (.int (0 + (i : Nat)), .fz)) x3 x4
    exact ⟨_, _, rfl, e, .fz, _, _, _, rfl, (fun z => by cases z), by decide⟩
  rw [rngL_len, Nat.zero_add] at hmd
  rw [rngL_len, Nat.zero_add] at e
  have md_fz : md = .fz := by
    cases md with
    | fz => rfl
    | ow => exact absurd (hmd rfl) (by omega)
    | io => exact absurd rfl hio
  subst md_fz
  have o : okR 0 (m : Int) = true := okR_of (by omega) (by omega) (by omega) (by omega) (by omega)
  have g : sRng1 (.bor 0) [some (.int m, .fz), some (.lst [.tup []], .ow), none, none, none] = some (.ok (rngL 0 m), [some (.int m, .fz), some (.lst [.tup []], .ow), none, none, none]) := r_rng1 rfl o
  unfold f__law_orders s__law_orders
  (apply Eq.trans; (with_reducible apply r_fn); exact rfl; (with_reducible apply r_seq); (with_reducible apply r_set); (with_reducible apply r_lst); (with_reducible apply r_exM); (with_reducible apply r_tup); (with_reducible apply r_nilM); (with_reducible apply r_nilM); exact rfl; exact rfl; (with_reducible apply r_seq); (with_reducible apply r_for); exact g; exact e; (with_reducible apply r_retF); exact rfl; exact rfl; exact rfl; exact rfl)
end K51
namespace K51
open PySem L2
abbrev sBody : SS := (sSeq (sSet 4 (sTup [(sOp gS01 [.bor 3, .ex (sOp gIx [.bor 0, .ex (sC (.int 0))])]), (sOp gS10 [.bor 3, .ex (sOp gIx [.bor 0, .ex (sC (.int 0))])])])) (sSeq (sSet 5 (sCall none none f__law_alike [.bor 0, .ex (sOp gIx [.bor 4, .ex (sC (.int 0))]), .ex (sOp gIx [.bor 4, .ex (sC (.int 1))])])) (sSeq (sSet 6 (sAndV (sVar 5) (sOp gEq [.ex (sOp gMaxA [.ex (sOp gIx [.bor 4, .ex (sC (.int 0))])]), .ex (sOp gIx [.bor 0, .ex (sC (.int 0))])]))) (sSeq (sSet 7 (sLst [(sCall none none f_total_good [.bor 0, .bor 4]), (sCall none none f_low_good [.bor 0, .bor 4])])) (sSeq (sIfS (sOr (sOpT gNe [.bor 7, .ex (sLst [(sVar 5), (sVar 6)])]) (sNot (sTru (.ex (sOp gAll [.ex (sComp 1 (sSeqI (sVar 7)) (.nm 11) none (sOp (gIsi "bool") [.bor 11]))]))))) (sRet (sC (.bl false))) sNil) (sIfS (sTru (.bor 5)) (sSeq (sAug 1 (fun i j => i + j) (sC (.int 1))) (sSeq (sSet 2 (sOp gAdd [.bor 2, .ex (sOp gInt [.bor 6])])) (sSeq (sSet 8 (sCall none none f_total_of [.bor 0, .bor 4])) (sSeq (sSet 9 (sCall none none f_total_span [.bor 0])) (sIfS (sOr (sNot (sBl (sChain gLe gLe (sOp gIx [.bor 9, .ex (sC (.int 0))]) (sVar 8) (sOp gIx [.bor 9, .ex (sC (.int 1))])))) (sNot (sTru (.ex (sCall none none f_total_good [.bor 0, .ex (sCall none none f_opposite_total [.bor 0, .bor 4])]))))) (sRet (sC (.bl false))) sNil))))) sNil))))))
abbrev sTail : SS := (sSeq (sSet 10 (sCall none none f_total_bars [.bor 0])) (sSeq (sIfS (sAnd (sOpT gIn [.ex (sTup [(sC (.str "ties"))]), .bor 10]) (sOpT gGt [.bor 2, .ex (sC (.int 0))])) (sRet (sC (.bl false))) sNil) (sRet (sOrV (sOp gEq [.bor 1, .ex (sC (.int 0))]) (sOp gEq [.ex (sComp 1 (sSeqI (sVar 10)) (.nm 11) (some (sOpT gEq [.ex (sOp gIx [.bor 11, .ex (sC (.int 0))]), .ex (sC (.str "share"))])) (sVar 11)), .ex (sLst [])])))))
section
variable {n : Nat} {ts : List (Int × Int)} (W : Wb n ts) (h0 : 0 < ts.length) (hn : 0 < n) {r : List Int} (hr : r.length = n + ts.length)
include W h0 hn hr
theorem cutLo : gS01 [rowD r, .int n] = some (.tup (nD (r.take n)), false) := by
  show some (D.tup (cutD (nD r) none (some (n : Int))), false) = _
  rw [cut_lo (by simp [nD]; omega), nD, nD, List.map_take]
theorem cutHi : gS10 [rowD r, .int n] = some (.tup (nD (r.drop n)), false) := by
  show some (D.tup (cutD (nD r) (some (n : Int)) none), false) = _
  rw [cut_hi (by simp [nD]; omega), nD, nD, List.map_drop]
theorem body_no (ha : alike ts (r.take n) (r.drop n) = false) (hg : good n ts (r.take n) (r.drop n) = false) (x1 x2 x4 x5 x6 x7 x8 x9 x10 : Option (D × Md)) :
    sBody [some (webD n ts, .fz), x1, x2, some (rowD r, .fz), x4, x5, x6, x7, x8, x9, x10] = some (.nx, [some (webD n ts, .fz), x1, x2, some (rowD r, .fz), some (thD (r.take n) (r.drop n), .fz), some (.bl false, .fz), some (.bl false, .fz), some (.lst [.bl false, .bl false], .fz), x8, x9, x10]) := by
  have lp : (r.take n).length = n := by rw [List.length_take]; omega
  have lq : (r.drop n).length = ts.length := by rw [List.length_drop]; omega
  have ne : r.take n ≠ [] := fun z => by rw [z] at lp; simp at lp; omega
  have c1 := cutLo W h0 hn hr
  have c2 := cutHi W h0 hn hr
  have j0 : gIx [webD n ts, .int 0] = some (.int n, false) := gIx_tup atI_0
  have i0 : gIx [thD (r.take n) (r.drop n), .int 0] = some (.tup (nD (r.take n)), false) := gIx_tup atI_0
  have i1 : gIx [thD (r.take n) (r.drop n), .int 1] = some (.tup (nD (r.drop n)), false) := gIx_tup atI_1
  have f1 := t_alike W (r.take n) (r.drop n) lp lq h0
  rw [ha] at f1
  have f2 := t_good W (r.take n) (r.drop n) lp lq
  rw [hg] at f2
  have f3 := t_low W (r.take n) (r.drop n) lp lq ne
  rw [show low n ts (r.take n) (r.drop n) = false by unfold low; rw [hg]; rfl] at f3
  have n1 : gNe [.lst [.bl false, .bl false], .lst [.bl false, .bl false]] = some (.bl false, false) := rfl
  have c : sCompL 1 (.nm 11) none (sOp (gIsi "bool") [.bor 11]) [.bl false, .bl false] [some (webD n ts, .fz), x1, x2, some (rowD r, .fz), some (thD (r.take n) (r.drop n), .fz), some (.bl false, .fz), some (.bl false, .fz), some (.lst [.bl false, .bl false], .fz), x8, x9, x10] = some ([.bl true, .bl true], [some (webD n ts, .fz), x1, x2, some (rowD r, .fz), some (thD (r.take n) (r.drop n), .fz), some (.bl false, .fz), some (.bl false, .fz), some (.lst [.bl false, .bl false], .fz), x8, x9, x10]) := sCompL_of (inj := D.bl) (g := fun _ => D.bl true) [false, false] fun b _ => by (apply el_mk; (simp only [asgT, asgTs, List.getElem?_cons_zero, List.getElem?_cons_succ, List.set_cons_zero, List.set_cons_succ, List.replicate, List.cons_append, List.nil_append, Nat.zero_add]; exact rfl); (with_reducible apply r_op); (with_reducible apply r_borA); exact rfl; (with_reducible apply r_nilA); exact rfl; exact rfl; exact rfl; exact rfl)
  (apply Eq.trans; (with_reducible apply r_seq); (with_reducible apply r_set); (with_reducible apply r_tup); (with_reducible apply r_exM); (with_reducible apply r_op); (with_reducible apply r_borA); exact rfl; (with_reducible apply r_exA); (with_reducible apply r_op); (with_reducible apply r_borA); exact rfl; (with_reducible apply r_exA); (with_reducible apply r_c); (with_reducible apply r_nilA); exact rfl; exact j0; (with_reducible apply r_nilA); exact rfl; exact c1; (with_reducible apply r_exM); (with_reducible apply r_op); (with_reducible apply r_borA); exact rfl; (with_reducible apply r_exA); (with_reducible apply r_op); (with_reducible apply r_borA); exact rfl; (with_reducible apply r_exA); (with_reducible apply r_c); (with_reducible apply r_nilA); exact rfl; exact j0; (with_reducible apply r_nilA); exact rfl; exact c2; (with_reducible apply r_nilM); exact rfl; exact rfl; (with_reducible apply r_seq); (with_reducible apply r_set); (with_reducible apply r_call); (with_reducible apply r_borA); exact rfl; (with_reducible apply r_exA); (with_reducible apply r_op); (with_reducible apply r_borA); exact rfl; (with_reducible apply r_exA); (with_reducible apply r_c); (with_reducible apply r_nilA); exact rfl; exact i0; (with_reducible apply r_exA); (with_reducible apply r_op); (with_reducible apply r_borA); exact rfl; (with_reducible apply r_exA); (with_reducible apply r_c); (with_reducible apply r_nilA); exact rfl; exact i1; (with_reducible apply r_nilA); exact rfl; exact f1; exact rfl; exact rfl; exact rfl; (with_reducible apply r_seq); (with_reducible apply r_set); (with_reducible apply r_andVF); (with_reducible apply r_varF); exact rfl; exact rfl; exact rfl; exact rfl; (with_reducible apply r_seq); (with_reducible apply r_set); (with_reducible apply r_lst); (with_reducible apply r_exM); (with_reducible apply r_call); (with_reducible apply r_borA); exact rfl; (with_reducible apply r_borA); exact rfl; (with_reducible apply r_nilA); exact rfl; exact rfl; exact f2; exact rfl; (with_reducible apply r_exM); (with_reducible apply r_call); (with_reducible apply r_borA); exact rfl; (with_reducible apply r_borA); exact rfl; (with_reducible apply r_nilA); exact rfl; exact rfl; exact f3; exact rfl; (with_reducible apply r_nilM); exact rfl; exact rfl; (with_reducible apply r_seq); (with_reducible apply r_ifF); (with_reducible apply r_orF); (with_reducible apply r_opT); (with_reducible apply r_borA); exact rfl; (with_reducible apply r_exA); (with_reducible apply r_lst); (with_reducible apply r_exM); (with_reducible apply r_varF); exact rfl; (with_reducible apply r_exM); (with_reducible apply r_varF); exact rfl; (with_reducible apply r_nilM); (with_reducible apply r_nilA); exact rfl; exact n1; exact rfl; (with_reducible apply r_not); (with_reducible apply r_tru); (with_reducible apply r_exA); (with_reducible apply r_op); (with_reducible apply r_exA); (with_reducible apply r_comp); (with_reducible apply r_seqI); (with_reducible apply r_varO); exact rfl; exact rfl; exact rfl; exact rfl; exact c; (with_reducible apply r_nilA); exact rfl; (with_reducible apply r_nilA); exact rfl; exact rfl; (with_reducible apply r_nil); (with_reducible apply r_ifF); (with_reducible apply r_tru); (with_reducible apply r_borA); exact rfl; (with_reducible apply r_nilA); exact rfl; exact rfl; exact rfl; (with_reducible apply r_nil); exact rfl)
theorem body_yes (ha : alike ts (r.take n) (r.drop n) = true) (hg : good n ts (r.take n) (r.drop n) = true) {lo hi : Int} (hs : f_total_span [webD n ts] = some (.ok (.tup [.int lo, .int hi]) false, .non)) (hlo : lo ≤ (tot ts (r.take n) (r.drop n)).getD 0 0) (hhi : (tot ts (r.take n) (r.drop n)).getD 0 0 ≤ hi) (ho : good n ts (from_ ((n : Int) + (ts.length : Nat) + 1) (r.take n)) (from_ ((n : Int) + (ts.length : Nat) + 1) (r.drop n)) = true) (g l : Int) (x4 x5 x6 x7 x8 x9 x10 : Option (D × Md)) :
    ∃ l' y7 y8 y9 y6, sBody [some (webD n ts, .fz), some (.int g, .fz), some (.int l, .fz), some (rowD r, .fz), x4, x5, x6, x7, x8, x9, x10] = some (.nx, [some (webD n ts, .fz), some (.int (g + 1), .fz), some (.int l', .fz), some (rowD r, .fz), some (thD (r.take n) (r.drop n), .fz), some (.bl true, .fz), y6, y7, y8, y9, x10]) := by
  have lp : (r.take n).length = n := by rw [List.length_take]; omega
  have lq : (r.drop n).length = ts.length := by rw [List.length_drop]; omega
  have ne : r.take n ≠ [] := fun z => by rw [z] at lp; simp at lp; omega
  have c1 := cutLo W h0 hn hr
  have c2 := cutHi W h0 hn hr
  have j0 : gIx [webD n ts, .int 0] = some (.int n, false) := gIx_tup atI_0
  have i0 : gIx [thD (r.take n) (r.drop n), .int 0] = some (.tup (nD (r.take n)), false) := gIx_tup atI_0
  have i1 : gIx [thD (r.take n) (r.drop n), .int 1] = some (.tup (nD (r.drop n)), false) := gIx_tup atI_1
  have k0 : gIx [.tup [.int lo, .int hi], .int 0] = some (.int lo, false) := gIx_tup atI_0
  have k1 : gIx [.tup [.int lo, .int hi], .int 1] = some (.int hi, false) := gIx_tup atI_1
  have f1 := t_alike W (r.take n) (r.drop n) lp lq h0
  rw [ha] at f1
  have f2 := t_good W (r.take n) (r.drop n) lp lq
  rw [hg] at f2
  have f3 := t_low W (r.take n) (r.drop n) lp lq ne
  have f4 := t_of W (r.take n) (r.drop n) lp lq hg h0
  have f5 := t_opp W (r.take n) (r.drop n) lp lq hg
  have f6 := t_good W (from_ ((n : Int) + (ts.length : Nat) + 1) (r.take n)) (from_ ((n : Int) + (ts.length : Nat) + 1) (r.drop n)) (by unfold from_; rw [List.length_map]; exact lp) (by unfold from_; rw [List.length_map]; exact lq)
  rw [ho] at f6
  have m1 := gMaxA_tup (r.take n) ne
  have e1 : gLe [.int lo, .int ((tot ts (r.take n) (r.drop n)).getD 0 0)] = some (.bl true, false) := by show some (D.bl (decide _), false) = _; rw [decide_eq_true hlo]
  have e2 : gLe [.int ((tot ts (r.take n) (r.drop n)).getD 0 0), .int hi] = some (.bl true, false) := by show some (D.bl (decide _), false) = _; rw [decide_eq_true hhi]
  cases hl : decide (maxI (r.take n) = (n : Int)) with
  | true =>
    rw [show low n ts (r.take n) (r.drop n) = true by unfold low; rw [hg, hl]; rfl] at f3
    have q1 : gEq [.int (maxI (r.take n)), .int n] = some (.bl true, false) := by rw [gEq_int, hl]
    have n1 : gNe [.lst [.bl true, .bl true], .lst [.bl true, .bl true]] = some (.bl false, false) := rfl
    have c : sCompL 1 (.nm 11) none (sOp (gIsi "bool") [.bor 11]) [.bl true, .bl true] [some (webD n ts, .fz), some (.int g, .fz), some (.int l, .fz), some (rowD r, .fz), some (thD (r.take n) (r.drop n), .fz), some (.bl true, .fz), some (.bl true, .fz), some (.lst [.bl true, .bl true], .fz), x8, x9, x10] = some ([.bl true, .bl true], [some (webD n ts, .fz), some (.int g, .fz), some (.int l, .fz), some (rowD r, .fz), some (thD (r.take n) (r.drop n), .fz), some (.bl true, .fz), some (.bl true, .fz), some (.lst [.bl true, .bl true], .fz), x8, x9, x10]) := sCompL_of (inj := D.bl) (g := fun _ => D.bl true) [true, true] fun b _ => by (apply el_mk; (simp only [asgT, asgTs, List.getElem?_cons_zero, List.getElem?_cons_succ, List.set_cons_zero, List.set_cons_succ, List.replicate, List.cons_append, List.nil_append, Nat.zero_add]; exact rfl); (with_reducible apply r_op); (with_reducible apply r_borA); exact rfl; (with_reducible apply r_nilA); exact rfl; exact rfl; exact rfl; exact rfl)
    refine ⟨l + 1, some (.lst [.bl true, .bl true], .fz), some (.int ((tot ts (r.take n) (r.drop n)).getD 0 0), .fz), some (.tup [.int lo, .int hi], .fz), some (.bl true, .fz), ?_⟩
    (apply Eq.trans; (with_reducible apply r_seq); (with_reducible apply r_set); (with_reducible apply r_tup); (with_reducible apply r_exM); (with_reducible apply r_op); (with_reducible apply r_borA); exact rfl; (with_reducible apply r_exA); (with_reducible apply r_op); (with_reducible apply r_borA); exact rfl; (with_reducible apply r_exA); (with_reducible apply r_c); (with_reducible apply r_nilA); exact rfl; exact j0; (with_reducible apply r_nilA); exact rfl; exact c1; (with_reducible apply r_exM); (with_reducible apply r_op); (with_reducible apply r_borA); exact rfl; (with_reducible apply r_exA); (with_reducible apply r_op); (with_reducible apply r_borA); exact rfl; (with_reducible apply r_exA); (with_reducible apply r_c); (with_reducible apply r_nilA); exact rfl; exact j0; (with_reducible apply r_nilA); exact rfl; exact c2; (with_reducible apply r_nilM); exact rfl; exact rfl; (with_reducible apply r_seq); (with_reducible apply r_set); (with_reducible apply r_call); (with_reducible apply r_borA); exact rfl; (with_reducible apply r_exA); (with_reducible apply r_op); (with_reducible apply r_borA); exact rfl; (with_reducible apply r_exA); (with_reducible apply r_c); (with_reducible apply r_nilA); exact rfl; exact i0; (with_reducible apply r_exA); (with_reducible apply r_op); (with_reducible apply r_borA); exact rfl; (with_reducible apply r_exA); (with_reducible apply r_c); (with_reducible apply r_nilA); exact rfl; exact i1; (with_reducible apply r_nilA); exact rfl; exact f1; exact rfl; exact rfl; exact rfl; (with_reducible apply r_seq); (with_reducible apply r_set); (with_reducible apply r_andVT); (with_reducible apply r_varF); exact rfl; exact rfl; (with_reducible apply r_op); (with_reducible apply r_exA); (with_reducible apply r_op); (with_reducible apply r_exA); (with_reducible apply r_op); (with_reducible apply r_borA); exact rfl; (with_reducible apply r_exA); (with_reducible apply r_c); (with_reducible apply r_nilA); exact rfl; exact i0; (with_reducible apply r_nilA); exact m1; (with_reducible apply r_exA); (with_reducible apply r_op); (with_reducible apply r_borA); exact rfl; (with_reducible apply r_exA); (with_reducible apply r_c); (with_reducible apply r_nilA); exact rfl; exact j0; (with_reducible apply r_nilA); exact q1; exact rfl; exact rfl; (with_reducible apply r_seq); (with_reducible apply r_set); (with_reducible apply r_lst); (with_reducible apply r_exM); (with_reducible apply r_call); (with_reducible apply r_borA); exact rfl; (with_reducible apply r_borA); exact rfl; (with_reducible apply r_nilA); exact rfl; exact rfl; exact f2; exact rfl; (with_reducible apply r_exM); (with_reducible apply r_call); (with_reducible apply r_borA); exact rfl; (with_reducible apply r_borA); exact rfl; (with_reducible apply r_nilA); exact rfl; exact rfl; exact f3; exact rfl; (with_reducible apply r_nilM); exact rfl; exact rfl; (with_reducible apply r_seq); (with_reducible apply r_ifF); (with_reducible apply r_orF); (with_reducible apply r_opT); (with_reducible apply r_borA); exact rfl; (with_reducible apply r_exA); (with_reducible apply r_lst); (with_reducible apply r_exM); (with_reducible apply r_varF); exact rfl; (with_reducible apply r_exM); (with_reducible apply r_varF); exact rfl; (with_reducible apply r_nilM); (with_reducible apply r_nilA); exact rfl; exact n1; exact rfl; (with_reducible apply r_not); (with_reducible apply r_tru); (with_reducible apply r_exA); (with_reducible apply r_op); (with_reducible apply r_exA); (with_reducible apply r_comp); (with_reducible apply r_seqI); (with_reducible apply r_varO); exact rfl; exact rfl; exact rfl; exact rfl; exact c; (with_reducible apply r_nilA); exact rfl; (with_reducible apply r_nilA); exact rfl; exact rfl; (with_reducible apply r_nil); (with_reducible apply r_ifT); (with_reducible apply r_tru); (with_reducible apply r_borA); exact rfl; (with_reducible apply r_nilA); exact rfl; exact rfl; exact rfl; (with_reducible apply r_seq); (with_reducible apply r_aug); exact rfl; (with_reducible apply r_c); exact rfl; exact rfl; (with_reducible apply r_seq); (with_reducible apply r_set); (with_reducible apply r_op); (with_reducible apply r_borA); exact rfl; (with_reducible apply r_exA); (with_reducible apply r_op); (with_reducible apply r_borA); exact rfl; (with_reducible apply r_nilA); exact rfl; exact rfl; (with_reducible apply r_nilA); exact rfl; exact rfl; exact rfl; exact rfl; (with_reducible apply r_seq); (with_reducible apply r_set); (with_reducible apply r_call); (with_reducible apply r_borA); exact rfl; (with_reducible apply r_borA); exact rfl; (with_reducible apply r_nilA); exact rfl; exact rfl; exact f4; exact rfl; exact rfl; exact rfl; (with_reducible apply r_seq); (with_reducible apply r_set); (with_reducible apply r_call); (with_reducible apply r_borA); exact rfl; (with_reducible apply r_nilA); exact rfl; exact hs; exact rfl; exact rfl; exact rfl; (with_reducible apply r_ifF); (with_reducible apply r_orF); (with_reducible apply r_not); (with_reducible apply r_bl); (with_reducible apply r_chain); (with_reducible apply r_exA); (with_reducible apply r_op); (with_reducible apply r_borA); exact rfl; (with_reducible apply r_exA); (with_reducible apply r_c); (with_reducible apply r_nilA); exact rfl; exact k0; (with_reducible apply r_exA); (with_reducible apply r_varF); exact rfl; (with_reducible apply r_nilA); exact e1; (with_reducible apply r_op); (with_reducible apply r_borA); exact rfl; (with_reducible apply r_exA); (with_reducible apply r_c); (with_reducible apply r_nilA); exact rfl; exact k1; exact e2; exact rfl; (with_reducible apply r_not); (with_reducible apply r_tru); (with_reducible apply r_exA); (with_reducible apply r_call); (with_reducible apply r_borA); exact rfl; (with_reducible apply r_exA); (with_reducible apply r_call); (with_reducible apply r_borA); exact rfl; (with_reducible apply r_borA); exact rfl; (with_reducible apply r_nilA); exact rfl; exact rfl; exact f5; exact rfl; (with_reducible apply r_nilA); exact rfl; exact f6; exact rfl; (with_reducible apply r_nilA); exact rfl; exact rfl; (with_reducible apply r_nil); exact rfl)
  | false =>
    rw [show low n ts (r.take n) (r.drop n) = false by unfold low; rw [hg, hl]; rfl] at f3
    have q1 : gEq [.int (maxI (r.take n)), .int n] = some (.bl false, false) := by rw [gEq_int, hl]
    have n1 : gNe [.lst [.bl true, .bl false], .lst [.bl true, .bl false]] = some (.bl false, false) := rfl
    have c : sCompL 1 (.nm 11) none (sOp (gIsi "bool") [.bor 11]) [.bl true, .bl false] [some (webD n ts, .fz), some (.int g, .fz), some (.int l, .fz), some (rowD r, .fz), some (thD (r.take n) (r.drop n), .fz), some (.bl true, .fz), some (.bl false, .fz), some (.lst [.bl true, .bl false], .fz), x8, x9, x10] = some ([.bl true, .bl true], [some (webD n ts, .fz), some (.int g, .fz), some (.int l, .fz), some (rowD r, .fz), some (thD (r.take n) (r.drop n), .fz), some (.bl true, .fz), some (.bl false, .fz), some (.lst [.bl true, .bl false], .fz), x8, x9, x10]) := sCompL_of (inj := D.bl) (g := fun _ => D.bl true) [true, false] fun b _ => by (apply el_mk; (simp only [asgT, asgTs, List.getElem?_cons_zero, List.getElem?_cons_succ, List.set_cons_zero, List.set_cons_succ, List.replicate, List.cons_append, List.nil_append, Nat.zero_add]; exact rfl); (with_reducible apply r_op); (with_reducible apply r_borA); exact rfl; (with_reducible apply r_nilA); exact rfl; exact rfl; exact rfl; exact rfl)
    refine ⟨l + 0, some (.lst [.bl true, .bl false], .fz), some (.int ((tot ts (r.take n) (r.drop n)).getD 0 0), .fz), some (.tup [.int lo, .int hi], .fz), some (.bl false, .fz), ?_⟩
    (apply Eq.trans; (with_reducible apply r_seq); (with_reducible apply r_set); (with_reducible apply r_tup); (with_reducible apply r_exM); (with_reducible apply r_op); (with_reducible apply r_borA); exact rfl; (with_reducible apply r_exA); (with_reducible apply r_op); (with_reducible apply r_borA); exact rfl; (with_reducible apply r_exA); (with_reducible apply r_c); (with_reducible apply r_nilA); exact rfl; exact j0; (with_reducible apply r_nilA); exact rfl; exact c1; (with_reducible apply r_exM); (with_reducible apply r_op); (with_reducible apply r_borA); exact rfl; (with_reducible apply r_exA); (with_reducible apply r_op); (with_reducible apply r_borA); exact rfl; (with_reducible apply r_exA); (with_reducible apply r_c); (with_reducible apply r_nilA); exact rfl; exact j0; (with_reducible apply r_nilA); exact rfl; exact c2; (with_reducible apply r_nilM); exact rfl; exact rfl; (with_reducible apply r_seq); (with_reducible apply r_set); (with_reducible apply r_call); (with_reducible apply r_borA); exact rfl; (with_reducible apply r_exA); (with_reducible apply r_op); (with_reducible apply r_borA); exact rfl; (with_reducible apply r_exA); (with_reducible apply r_c); (with_reducible apply r_nilA); exact rfl; exact i0; (with_reducible apply r_exA); (with_reducible apply r_op); (with_reducible apply r_borA); exact rfl; (with_reducible apply r_exA); (with_reducible apply r_c); (with_reducible apply r_nilA); exact rfl; exact i1; (with_reducible apply r_nilA); exact rfl; exact f1; exact rfl; exact rfl; exact rfl; (with_reducible apply r_seq); (with_reducible apply r_set); (with_reducible apply r_andVT); (with_reducible apply r_varF); exact rfl; exact rfl; (with_reducible apply r_op); (with_reducible apply r_exA); (with_reducible apply r_op); (with_reducible apply r_exA); (with_reducible apply r_op); (with_reducible apply r_borA); exact rfl; (with_reducible apply r_exA); (with_reducible apply r_c); (with_reducible apply r_nilA); exact rfl; exact i0; (with_reducible apply r_nilA); exact m1; (with_reducible apply r_exA); (with_reducible apply r_op); (with_reducible apply r_borA); exact rfl; (with_reducible apply r_exA); (with_reducible apply r_c); (with_reducible apply r_nilA); exact rfl; exact j0; (with_reducible apply r_nilA); exact q1; exact rfl; exact rfl; (with_reducible apply r_seq); (with_reducible apply r_set); (with_reducible apply r_lst); (with_reducible apply r_exM); (with_reducible apply r_call); (with_reducible apply r_borA); exact rfl; (with_reducible apply r_borA); exact rfl; (with_reducible apply r_nilA); exact rfl; exact rfl; exact f2; exact rfl; (with_reducible apply r_exM); (with_reducible apply r_call); (with_reducible apply r_borA); exact rfl; (with_reducible apply r_borA); exact rfl; (with_reducible apply r_nilA); exact rfl; exact rfl; exact f3; exact rfl; (with_reducible apply r_nilM); exact rfl; exact rfl; (with_reducible apply r_seq); (with_reducible apply r_ifF); (with_reducible apply r_orF); (with_reducible apply r_opT); (with_reducible apply r_borA); exact rfl; (with_reducible apply r_exA); (with_reducible apply r_lst); (with_reducible apply r_exM); (with_reducible apply r_varF); exact rfl; (with_reducible apply r_exM); (with_reducible apply r_varF); exact rfl; (with_reducible apply r_nilM); (with_reducible apply r_nilA); exact rfl; exact n1; exact rfl; (with_reducible apply r_not); (with_reducible apply r_tru); (with_reducible apply r_exA); (with_reducible apply r_op); (with_reducible apply r_exA); (with_reducible apply r_comp); (with_reducible apply r_seqI); (with_reducible apply r_varO); exact rfl; exact rfl; exact rfl; exact rfl; exact c; (with_reducible apply r_nilA); exact rfl; (with_reducible apply r_nilA); exact rfl; exact rfl; (with_reducible apply r_nil); (with_reducible apply r_ifT); (with_reducible apply r_tru); (with_reducible apply r_borA); exact rfl; (with_reducible apply r_nilA); exact rfl; exact rfl; exact rfl; (with_reducible apply r_seq); (with_reducible apply r_aug); exact rfl; (with_reducible apply r_c); exact rfl; exact rfl; (with_reducible apply r_seq); (with_reducible apply r_set); (with_reducible apply r_op); (with_reducible apply r_borA); exact rfl; (with_reducible apply r_exA); (with_reducible apply r_op); (with_reducible apply r_borA); exact rfl; (with_reducible apply r_nilA); exact rfl; exact rfl; (with_reducible apply r_nilA); exact rfl; exact rfl; exact rfl; exact rfl; (with_reducible apply r_seq); (with_reducible apply r_set); (with_reducible apply r_call); (with_reducible apply r_borA); exact rfl; (with_reducible apply r_borA); exact rfl; (with_reducible apply r_nilA); exact rfl; exact rfl; exact f4; exact rfl; exact rfl; exact rfl; (with_reducible apply r_seq); (with_reducible apply r_set); (with_reducible apply r_call); (with_reducible apply r_borA); exact rfl; (with_reducible apply r_nilA); exact rfl; exact hs; exact rfl; exact rfl; exact rfl; (with_reducible apply r_ifF); (with_reducible apply r_orF); (with_reducible apply r_not); (with_reducible apply r_bl); (with_reducible apply r_chain); (with_reducible apply r_exA); (with_reducible apply r_op); (with_reducible apply r_borA); exact rfl; (with_reducible apply r_exA); (with_reducible apply r_c); (with_reducible apply r_nilA); exact rfl; exact k0; (with_reducible apply r_exA); (with_reducible apply r_varF); exact rfl; (with_reducible apply r_nilA); exact e1; (with_reducible apply r_op); (with_reducible apply r_borA); exact rfl; (with_reducible apply r_exA); (with_reducible apply r_c); (with_reducible apply r_nilA); exact rfl; exact k1; exact e2; exact rfl; (with_reducible apply r_not); (with_reducible apply r_tru); (with_reducible apply r_exA); (with_reducible apply r_call); (with_reducible apply r_borA); exact rfl; (with_reducible apply r_exA); (with_reducible apply r_call); (with_reducible apply r_borA); exact rfl; (with_reducible apply r_borA); exact rfl; (with_reducible apply r_nilA); exact rfl; exact rfl; exact f5; exact rfl; (with_reducible apply r_nilA); exact rfl; exact f6; exact rfl; (with_reducible apply r_nilA); exact rfl; exact rfl; (with_reducible apply r_nil); exact rfl)
end
def chk (n : Nat) (ts : List (Int × Int)) (lo hi : Int) (r : List Int) : Bool :=
  (good n ts (r.take n) (r.drop n) == alike ts (r.take n) (r.drop n)) && (!(alike ts (r.take n) (r.drop n)) || (decide (lo ≤ (tot ts (r.take n) (r.drop n)).getD 0 0) && decide ((tot ts (r.take n) (r.drop n)).getD 0 0 ≤ hi) &&
    good n ts (from_ ((n : Int) + (ts.length : Nat) + 1) (r.take n)) (from_ ((n : Int) + (ts.length : Nat) + 1) (r.drop n))))
theorem loop_ok {n : Nat} {ts : List (Int × Int)} (W : Wb n ts) (h0 : 0 < ts.length) (hn : 0 < n) {lo hi : Int} (hs : f_total_span [webD n ts] = some (.ok (.tup [.int lo, .int hi]) false, .non)) (rows : List (List Int)) (hl : ∀ r ∈ rows, r.length = n + ts.length) (hc : ∀ r ∈ rows, chk n ts lo hi r = true) :
    ∃ g l x3 x4 x5 x6 x7 x8 x9, sLoop (.nm 3) sBody (rows.map rowD) [some (webD n ts, .fz), some (.int 0, .fz), some (.int 0, .fz), none, none, none, none, none, none, none, none] = some (.nx, [some (webD n ts, .fz), some (.int g, .fz), some (.int l, .fz), x3, x4, x5, x6, x7, x8, x9, none]) ∧ ((∀ r ∈ rows, alike ts (r.take n) (r.drop n) = false) → g = 0 ∧ l = 0) := by
  obtain ⟨ρ', e, g, l, x3, x4, x5, x6, x7, x8, x9, rfl, hz⟩ := sLoop_inv (T := .nm 3) (f := sBody) (fun i ρ => ∃ g l x3 x4 x5 x6 x7 x8 x9, ρ = [some (webD n ts, .fz), some (.int g, .fz), some (.int l, .fz), x3, x4, x5, x6, x7, x8, x9, none] ∧ ((∀ r ∈ rows, alike ts (r.take n) (r.drop n) = false) → g = 0 ∧ l = 0)) (rows.map rowD) 0 [some (webD n ts, .fz), some (.int 0, .fz), some (.int 0, .fz), none, none, none, none, none, none, none, none] ⟨0, 0, none, none, none, none, none, none, none, rfl, fun _ => ⟨rfl, rfl⟩⟩ fun i d ρ hd hI => by
    obtain ⟨g, l, x3, x4, x5, x6, x7, x8, x9, rfl, hz⟩ := hI
    rw [List.getElem?_map] at hd
    obtain ⟨r, hr', rfl⟩ := Option.map_eq_some_iff.mp hd
    have mem := List.mem_of_getElem? hr'
    have hr := hl r mem
    have ck := hc r mem
    unfold chk at ck
    have ck := (Bool.and_eq_true _ _).mp ck
    have gd : good n ts (r.take n) (r.drop n) = alike ts (r.take n) (r.drop n) := by simpa using ck.1
    cases ha : alike ts (r.take n) (r.drop n) with
    | false =>
      rw [ha] at gd
      exact ⟨_, _, rfl, body_no W h0 hn hr ha gd _ _ _ _ _ _ _ _ _, g, l, _, _, _, _, _, _, _, rfl, hz⟩
    | true =>
      rw [ha] at gd
      have c2 := ck.2
      rw [ha] at c2
      have c2 : (decide (lo ≤ (tot ts (r.take n) (r.drop n)).getD 0 0) && decide ((tot ts (r.take n) (r.drop n)).getD 0 0 ≤ hi) &&
    good n ts (from_ ((n : Int) + (ts.length : Nat) + 1) (r.take n)) (from_ ((n : Int) + (ts.length : Nat) + 1) (r.drop n))) = true := c2
      have c2 := (Bool.and_eq_true _ _).mp c2
      have c3 := (Bool.and_eq_true _ _).mp c2.1
      obtain ⟨l', y7, y8, y9, y6, e⟩ := body_yes W h0 hn hr ha gd hs (of_decide_eq_true c3.1) (of_decide_eq_true c3.2) c2.2 g l x4 x5 x6 x7 x8 x9 none
      exact ⟨_, _, rfl, e, g + 1, l', _, _, _, _, _, _, _, rfl, fun z => by rw [z r mem] at ha; cases ha⟩
  exact ⟨g, l, x3, x4, x5, x6, x7, x8, x9, e, hz⟩
theorem tail_nil {n : Nat} {ts : List (Int × Int)} (hb : f_total_bars [webD n ts] = some (.ok (.lst []) true, .non)) (g l : Int) (x3 x4 x5 x6 x7 x8 x9 : Option (D × Md)) : ∃ ρ', sTail [some (webD n ts, .fz), some (.int g, .fz), some (.int l, .fz), x3, x4, x5, x6, x7, x8, x9, none] = some (.rt (.bl true) false, ρ') := by
  refine ⟨[some (webD n ts, .fz), some (.int g, .fz), some (.int l, .fz), x3, x4, x5, x6, x7, x8, x9, some (.lst [], if g = 0 then .ow else .fz)], ?_⟩
  have i1 : gIn [.tup [.str "ties"], .lst []] = some (.bl false, false) := rfl
  have q1 : gEq [.lst [], .lst []] = some (.bl true, false) := rfl
  have c : sCompL 1 (.nm 11) (some (sOpT gEq [.ex (sOp gIx [.bor 11, .ex (sC (.int 0))]), .ex (sC (.str "share"))])) (sVar 11) [] [some (webD n ts, .fz), some (.int g, .fz), some (.int l, .fz), x3, x4, x5, x6, x7, x8, x9, some (.lst [], .fz)] = some ([], [some (webD n ts, .fz), some (.int g, .fz), some (.int l, .fz), x3, x4, x5, x6, x7, x8, x9, some (.lst [], .fz)]) := rfl
  by_cases h : g = 0
  · rw [if_pos h]
    have q : gEq [.int g, .int 0] = some (.bl true, false) := by rw [gEq_int, decide_eq_true h]
    (apply Eq.trans; (with_reducible apply r_seq); (with_reducible apply r_set); (with_reducible apply r_call); (with_reducible apply r_borA); exact rfl; (with_reducible apply r_nilA); exact rfl; exact hb; exact rfl; exact rfl; exact rfl; (with_reducible apply r_seq); (with_reducible apply r_ifF); (with_reducible apply r_andF); (with_reducible apply r_opT); (with_reducible apply r_exA); (with_reducible apply r_tup); (with_reducible apply r_exM); (with_reducible apply r_c); (with_reducible apply r_nilM); (with_reducible apply r_borA); exact rfl; (with_reducible apply r_nilA); exact rfl; exact i1; exact rfl; exact rfl; (with_reducible apply r_nil); (with_reducible apply r_ret); (with_reducible apply r_orVT); (with_reducible apply r_op); (with_reducible apply r_borA); exact rfl; (with_reducible apply r_exA); (with_reducible apply r_c); (with_reducible apply r_nilA); exact rfl; exact q; exact rfl; exact rfl)
  · rw [if_neg h]
    have q : gEq [.int g, .int 0] = some (.bl false, false) := by rw [gEq_int, decide_eq_false h]
    (apply Eq.trans; (with_reducible apply r_seq); (with_reducible apply r_set); (with_reducible apply r_call); (with_reducible apply r_borA); exact rfl; (with_reducible apply r_nilA); exact rfl; exact hb; exact rfl; exact rfl; exact rfl; (with_reducible apply r_seq); (with_reducible apply r_ifF); (with_reducible apply r_andF); (with_reducible apply r_opT); (with_reducible apply r_exA); (with_reducible apply r_tup); (with_reducible apply r_exM); (with_reducible apply r_c); (with_reducible apply r_nilM); (with_reducible apply r_borA); exact rfl; (with_reducible apply r_nilA); exact rfl; exact i1; exact rfl; exact rfl; (with_reducible apply r_nil); (with_reducible apply r_ret); (with_reducible apply r_orVF); (with_reducible apply r_op); (with_reducible apply r_borA); exact rfl; (with_reducible apply r_exA); (with_reducible apply r_c); (with_reducible apply r_nilA); exact rfl; exact q; exact rfl; (with_reducible apply r_op); (with_reducible apply r_exA); (with_reducible apply r_comp); (with_reducible apply r_seqI); (with_reducible apply r_varO); exact rfl; exact rfl; exact rfl; exact rfl; exact c; (with_reducible apply r_exA); (with_reducible apply r_lst); (with_reducible apply r_nilM); (with_reducible apply r_nilA); exact q1; exact rfl)
theorem tail_two {n : Nat} {ts : List (Int × Int)} (hb : f_total_bars [webD n ts] = some (.ok (.lst [.tup [.str "share", .int 2]]) true, .non)) (x3 x4 x5 x6 x7 x8 x9 : Option (D × Md)) : ∃ ρ', sTail [some (webD n ts, .fz), some (.int 0, .fz), some (.int 0, .fz), x3, x4, x5, x6, x7, x8, x9, none] = some (.rt (.bl true) false, ρ') := by
  refine ⟨[some (webD n ts, .fz), some (.int 0, .fz), some (.int 0, .fz), x3, x4, x5, x6, x7, x8, x9, some (.lst [.tup [.str "share", .int 2]], .ow)], ?_⟩
  have i1 : gIn [.tup [.str "ties"], .lst [.tup [.str "share", .int 2]]] = some (.bl false, false) := rfl
  (apply Eq.trans; (with_reducible apply r_seq); (with_reducible apply r_set); (with_reducible apply r_call); (with_reducible apply r_borA); exact rfl; (with_reducible apply r_nilA); exact rfl; exact hb; exact rfl; exact rfl; exact rfl; (with_reducible apply r_seq); (with_reducible apply r_ifF); (with_reducible apply r_andF); (with_reducible apply r_opT); (with_reducible apply r_exA); (with_reducible apply r_tup); (with_reducible apply r_exM); (with_reducible apply r_c); (with_reducible apply r_nilM); (with_reducible apply r_borA); exact rfl; (with_reducible apply r_nilA); exact rfl; exact i1; exact rfl; exact rfl; (with_reducible apply r_nil); (with_reducible apply r_ret); (with_reducible apply r_orVT); (with_reducible apply r_op); (with_reducible apply r_borA); exact rfl; (with_reducible apply r_exA); (with_reducible apply r_c); (with_reducible apply r_nilA); exact rfl; (with_reducible exact gEq_int _ _); exact rfl; exact rfl)
theorem right_ok {n : Nat} {ts : List (Int × Int)} (W : Wb n ts) (h0 : 0 < ts.length) (hn : 0 < n) {lo hi : Int} (hs : f_total_span [webD n ts] = some (.ok (.tup [.int lo, .int hi]) false, .non)) (ho : ∀ k, k ≤ n + ts.length → (orders (n + ts.length) k).length ≤ 1000) (hc : ∀ r ∈ orders (n + ts.length) (n + ts.length), chk n ts lo hi r = true)
    (hb : f_total_bars [webD n ts] = some (.ok (.lst []) true, .non) ∨ (f_total_bars [webD n ts] = some (.ok (.lst [.tup [.str "share", .int 2]]) true, .non) ∧ ∀ r ∈ orders (n + ts.length) (n + ts.length), alike ts (r.take n) (r.drop n) = false)) :
    f__law_right [webD n ts] = some (.ok (.bl true) false, .non) := by
  have l1 := W.l
  have l2 := W.n
  obtain ⟨g, l, x3, x4, x5, x6, x7, x8, x9, e, hz⟩ := loop_ok W h0 hn hs (orders (n + ts.length) (n + ts.length)) (row_len _ _) hc
  have tl : ∃ ρ', sTail [some (webD n ts, .fz), some (.int g, .fz), some (.int l, .fz), x3, x4, x5, x6, x7, x8, x9, none] = some (.rt (.bl true) false, ρ') := by
    rcases hb with hb | ⟨hb, hno⟩
    · exact tail_nil hb g l _ _ _ _ _ _ _
    · obtain ⟨rfl, rfl⟩ := hz hno
      exact tail_two hb _ _ _ _ _ _ _
  obtain ⟨ρ', tl⟩ := tl
  have o := orders_ok (n + ts.length) (by omega) (by omega) ho
  have j0 : gIx [webD n ts, .int 0] = some (.int n, false) := gIx_tup atI_0
  have j1 : gIx [webD n ts, .int 1] = some (.tup (tD ts), false) := gIx_tup atI_1
  have g2 := gLen_tD ts
  have g3 : gAdd [.int n, .int (ts.length : Nat)] = some (.int ((n + ts.length : Nat) : Int), false) := by
    show some (D.int ((n : Int) + (ts.length : Nat)), false) = _
    rw [Int.natCast_add]
  unfold f__law_right s__law_right
  (apply Eq.trans; (with_reducible apply r_fn); exact rfl; (with_reducible apply r_seq); (with_reducible apply r_set); (with_reducible apply r_c); exact rfl; exact rfl; (with_reducible apply r_seq); (with_reducible apply r_set); (with_reducible apply r_c); exact rfl; exact rfl; (with_reducible apply r_seq); (with_reducible apply r_for); (with_reducible apply r_seqI); (with_reducible apply r_call); (with_reducible apply r_exA); (with_reducible apply r_op); (with_reducible apply r_exA); (with_reducible apply r_op); (with_reducible apply r_borA); exact rfl; (with_reducible apply r_exA); (with_reducible apply r_c); (with_reducible apply r_nilA); exact rfl; exact j0; (with_reducible apply r_exA); (with_reducible apply r_op); (with_reducible apply r_exA); (with_reducible apply r_op); (with_reducible apply r_borA); exact rfl; (with_reducible apply r_exA); (with_reducible apply r_c); (with_reducible apply r_nilA); exact rfl; exact j1; (with_reducible apply r_nilA); exact g2; (with_reducible apply r_nilA); exact g3; (with_reducible apply r_nilA); exact o; exact rfl; exact rfl; exact e; exact tl; exact rfl; exact rfl; exact rfl)
end K51
namespace K51
open PySem L2
def isP : Option (Res × D) → Option (Int × Int)
  | some (.ok (.tup [.int a, .int b]) false, .non) => some (a, b)
  | _ => none
theorem isP_eq {r : Option (Res × D)} {a b : Int} (h : isP r = some (a, b)) : r = some (.ok (.tup [.int a, .int b]) false, .non) := by
  unfold isP at h
  split at h
  · cases h; rfl
  · cases h
def isNo : Option (Res × D) → Bool
  | some (.ok (.lst []) true, .non) => true
  | _ => false
theorem isNo_eq {r : Option (Res × D)} (h : isNo r = true) : r = some (.ok (.lst []) true, .non) := by
  unfold isNo at h
  split at h
  · rfl
  · cases h
def isTwo : Option (Res × D) → Bool
  | some (.ok (.lst [.tup [.str x, .int k]]) true, .non) => decide (x = ("share" : Str)) && decide (k = 2)
  | _ => false
theorem isTwo_eq {r : Option (Res × D)} (h : isTwo r = true) : r = some (.ok (.lst [.tup [.str "share", .int 2]]) true, .non) := by
  unfold isTwo at h
  split at h
  · have h := (Bool.and_eq_true _ _).mp h
    rw [of_decide_eq_true h.1, of_decide_eq_true h.2]
  · cases h
theorem w0 : f__law_right [webD (2 : Nat) [(0, 1)]] = some (.ok (.bl true) false, .non) :=
  right_ok (n := 2) (ts := [(0, 1)]) (lo := 6) (hi := 6) ⟨by decide, by decide, by decide⟩ (by decide) (by decide) (isP_eq (by decide +kernel)) (by decide +kernel) (fun r hr => List.all_eq_true.mp (show (orders 3 3).all (chk 2 [(0, 1)] 6 6) = true by decide +kernel) r hr)
    (.inl (isNo_eq (by decide +kernel)))
theorem w1 : f__law_right [webD (3 : Nat) [(0, 1)]] = some (.ok (.bl true) false, .non) :=
  right_ok (n := 3) (ts := [(0, 1)]) (lo := 6) (hi := 9) ⟨by decide, by decide, by decide⟩ (by decide) (by decide) (isP_eq (by decide +kernel)) (by decide +kernel) (fun r hr => List.all_eq_true.mp (show (orders 4 4).all (chk 3 [(0, 1)] 6 9) = true by decide +kernel) r hr)
    (.inl (isNo_eq (by decide +kernel)))
theorem w2 : f__law_right [webD (3 : Nat) [(0, 1), (1, 2)]] = some (.ok (.bl true) false, .non) :=
  right_ok (n := 3) (ts := [(0, 1), (1, 2)]) (lo := 8) (hi := 10) ⟨by decide, by decide, by decide⟩ (by decide) (by decide) (isP_eq (by decide +kernel)) (by decide +kernel) (fun r hr => List.all_eq_true.mp (show (orders 5 5).all (chk 3 [(0, 1), (1, 2)] 8 10) = true by decide +kernel) r hr)
    (.inl (isNo_eq (by decide +kernel)))
theorem w3 : f__law_right [webD (3 : Nat) [(0, 1), (0, 2), (1, 2)]] = some (.ok (.bl true) false, .non) :=
  right_ok (n := 3) (ts := [(0, 1), (0, 2), (1, 2)]) (lo := 9) (hi := 12) ⟨by decide, by decide, by decide⟩ (by decide) (by decide) (isP_eq (by decide +kernel)) (by decide +kernel) (fun r hr => List.all_eq_true.mp (show (orders 6 6).all (chk 3 [(0, 1), (0, 2), (1, 2)] 9 12) = true by decide +kernel) r hr)
    (.inl (isNo_eq (by decide +kernel)))
theorem w4 : f__law_right [webD (4 : Nat) [(1, 3)]] = some (.ok (.bl true) false, .non) :=
  right_ok (n := 4) (ts := [(1, 3)]) (lo := 6) (hi := 12) ⟨by decide, by decide, by decide⟩ (by decide) (by decide) (isP_eq (by decide +kernel)) (by decide +kernel) (fun r hr => List.all_eq_true.mp (show (orders 5 5).all (chk 4 [(1, 3)] 6 12) = true by decide +kernel) r hr)
    (.inl (isNo_eq (by decide +kernel)))
theorem w5 : f__law_right [webD (4 : Nat) [(0, 1), (2, 3)]] = some (.ok (.bl true) false, .non) :=
  right_ok (n := 4) (ts := [(0, 1), (2, 3)]) (lo := 11) (hi := 10) ⟨by decide, by decide, by decide⟩ (by decide) (by decide) (isP_eq (by decide +kernel)) (by decide +kernel) (fun r hr => List.all_eq_true.mp (show (orders 6 6).all (chk 4 [(0, 1), (2, 3)] 11 10) = true by decide +kernel) r hr)
    (.inr ⟨isTwo_eq (by decide +kernel), fun r hr => by simpa using List.all_eq_true.mp (show (orders 6 6).all (fun r => !alike [(0, 1), (2, 3)] (r.take 4) (r.drop 4)) = true by decide +kernel) r hr⟩)
theorem w6 : f__law_right [webD (4 : Nat) [(0, 2), (1, 2)]] = some (.ok (.bl true) false, .non) :=
  right_ok (n := 4) (ts := [(0, 2), (1, 2)]) (lo := 8) (hi := 13) ⟨by decide, by decide, by decide⟩ (by decide) (by decide) (isP_eq (by decide +kernel)) (by decide +kernel) (fun r hr => List.all_eq_true.mp (show (orders 6 6).all (chk 4 [(0, 2), (1, 2)] 8 13) = true by decide +kernel) r hr)
    (.inl (isNo_eq (by decide +kernel)))
theorem w7 : f__law_right [webD (5 : Nat) [(3, 4)]] = some (.ok (.bl true) false, .non) :=
  right_ok (n := 5) (ts := [(3, 4)]) (lo := 6) (hi := 15) ⟨by decide, by decide, by decide⟩ (by decide) (by decide) (isP_eq (by decide +kernel)) (by decide +kernel) (fun r hr => List.all_eq_true.mp (show (orders 6 6).all (chk 5 [(3, 4)] 6 15) = true by decide +kernel) r hr)
    (.inl (isNo_eq (by decide +kernel)))
theorem law_ok (ns : List Int) : f_law [.klst (ns.map D.int)] = some (.ok (.bl true) false, .non) := by
  obtain ⟨c, hc⟩ := fCell_eq ns 0
  obtain ⟨a, f, s, hp⟩ := fPen_eq c
  obtain ⟨r, a', f', s', hd, r0, r8⟩ := fDraw_eq a f s 8 (by decide) (by decide)
  have hc : f__law_cell_at [.klst (ns.map D.int), .int 0] = some (.ok (.int c) false, .non) := hc
  have hp : f__law_pen_of [.int c] = some (.ok (penD a f s) true, .non) := hp
  have hd : f__law_draw [penD a f s, .int 8] = some (.ok (.int r) false, penD a' f' s') := hd
  have hw : ∃ web, gIx [.lst [.tup [.int 2, .tup [.tup [.int 0, .int 1]]], .tup [.int 3, .tup [.tup [.int 0, .int 1]]], .tup [.int 3, .tup [.tup [.int 0, .int 1], .tup [.int 1, .int 2]]], .tup [.int 3, .tup [.tup [.int 0, .int 1], .tup [.int 0, .int 2], .tup [.int 1, .int 2]]], .tup [.int 4, .tup [.tup [.int 1, .int 3]]], .tup [.int 4, .tup [.tup [.int 0, .int 1], .tup [.int 2, .int 3]]], .tup [.int 4, .tup [.tup [.int 0, .int 2], .tup [.int 1, .int 2]]], .tup [.int 5, .tup [.tup [.int 3, .int 4]]]], .int r] = some (web, false) ∧ f__law_right [web] = some (.ok (.bl true) false, .non) := by
    have : r = 0 ∨ r = 1 ∨ r = 2 ∨ r = 3 ∨ r = 4 ∨ r = 5 ∨ r = 6 ∨ r = 7 := by omega
    rcases this with rfl | rfl | rfl | rfl | rfl | rfl | rfl | rfl
    · exact ⟨_, rfl, w0⟩
    · exact ⟨_, rfl, w1⟩
    · exact ⟨_, rfl, w2⟩
    · exact ⟨_, rfl, w3⟩
    · exact ⟨_, rfl, w4⟩
    · exact ⟨_, rfl, w5⟩
    · exact ⟨_, rfl, w6⟩
    · exact ⟨_, rfl, w7⟩
  obtain ⟨web, hi, hw⟩ := hw
  have g1 : gAdd [.lst [.tup [.int 2, .tup [.tup [.int 0, .int 1]]], .tup [.int 3, .tup [.tup [.int 0, .int 1]]], .tup [.int 3, .tup [.tup [.int 0, .int 1], .tup [.int 1, .int 2]]], .tup [.int 3, .tup [.tup [.int 0, .int 1], .tup [.int 0, .int 2], .tup [.int 1, .int 2]]], .tup [.int 4, .tup [.tup [.int 1, .int 3]]]], .lst [.tup [.int 4, .tup [.tup [.int 0, .int 1], .tup [.int 2, .int 3]]], .tup [.int 4, .tup [.tup [.int 0, .int 2], .tup [.int 1, .int 2]]], .tup [.int 5, .tup [.tup [.int 3, .int 4]]]]] = some (.lst [.tup [.int 2, .tup [.tup [.int 0, .int 1]]], .tup [.int 3, .tup [.tup [.int 0, .int 1]]], .tup [.int 3, .tup [.tup [.int 0, .int 1], .tup [.int 1, .int 2]]], .tup [.int 3, .tup [.tup [.int 0, .int 1], .tup [.int 0, .int 2], .tup [.int 1, .int 2]]], .tup [.int 4, .tup [.tup [.int 1, .int 3]]], .tup [.int 4, .tup [.tup [.int 0, .int 1], .tup [.int 2, .int 3]]], .tup [.int 4, .tup [.tup [.int 0, .int 2], .tup [.int 1, .int 2]]], .tup [.int 5, .tup [.tup [.int 3, .int 4]]]], true) := rfl
  unfold f_law s_law
  (apply Eq.trans; (with_reducible apply r_fn); exact rfl; (with_reducible apply r_seq); (with_reducible apply r_set); (with_reducible apply r_lst); (with_reducible apply r_exM); (with_reducible apply r_tup); (with_reducible apply r_exM); (with_reducible apply r_c); (with_reducible apply r_exM); (with_reducible apply r_tup); (with_reducible apply r_exM); (with_reducible apply r_tup); (with_reducible apply r_exM); (with_reducible apply r_c); (with_reducible apply r_exM); (with_reducible apply r_c); (with_reducible apply r_nilM); (with_reducible apply r_nilM); (with_reducible apply r_nilM); (with_reducible apply r_exM); (with_reducible apply r_tup); (with_reducible apply r_exM); (with_reducible apply r_c); (with_reducible apply r_exM); (with_reducible apply r_tup); (with_reducible apply r_exM); (with_reducible apply r_tup); (with_reducible apply r_exM); (with_reducible apply r_c); (with_reducible apply r_exM); (with_reducible apply r_c); (with_reducible apply r_nilM); (with_reducible apply r_nilM); (with_reducible apply r_nilM); (with_reducible apply r_exM); (with_reducible apply r_tup); (with_reducible apply r_exM); (with_reducible apply r_c); (with_reducible apply r_exM); (with_reducible apply r_tup); (with_reducible apply r_exM); (with_reducible apply r_tup); (with_reducible apply r_exM); (with_reducible apply r_c); (with_reducible apply r_exM); (with_reducible apply r_c); (with_reducible apply r_nilM); (with_reducible apply r_exM); (with_reducible apply r_tup); (with_reducible apply r_exM); (with_reducible apply r_c); (with_reducible apply r_exM); (with_reducible apply r_c); (with_reducible apply r_nilM); (with_reducible apply r_nilM); (with_reducible apply r_nilM); (with_reducible apply r_exM); (with_reducible apply r_tup); (with_reducible apply r_exM); (with_reducible apply r_c); (with_reducible apply r_exM); (with_reducible apply r_tup); (with_reducible apply r_exM); (with_reducible apply r_tup); (with_reducible apply r_exM); (with_reducible apply r_c); (with_reducible apply r_exM); (with_reducible apply r_c); (with_reducible apply r_nilM); (with_reducible apply r_exM); (with_reducible apply r_tup); (with_reducible apply r_exM); (with_reducible apply r_c); (with_reducible apply r_exM); (with_reducible apply r_c); (with_reducible apply r_nilM); (with_reducible apply r_exM); (with_reducible apply r_tup); (with_reducible apply r_exM); (with_reducible apply r_c); (with_reducible apply r_exM); (with_reducible apply r_c); (with_reducible apply r_nilM); (with_reducible apply r_nilM); (with_reducible apply r_nilM); (with_reducible apply r_exM); (with_reducible apply r_tup); (with_reducible apply r_exM); (with_reducible apply r_c); (with_reducible apply r_exM); (with_reducible apply r_tup); (with_reducible apply r_exM); (with_reducible apply r_tup); (with_reducible apply r_exM); (with_reducible apply r_c); (with_reducible apply r_exM); (with_reducible apply r_c); (with_reducible apply r_nilM); (with_reducible apply r_nilM); (with_reducible apply r_nilM); (with_reducible apply r_nilM); exact rfl; exact rfl; (with_reducible apply r_seq); (with_reducible apply r_set); (with_reducible apply r_op); (with_reducible apply r_borA); exact rfl; (with_reducible apply r_exA); (with_reducible apply r_lst); (with_reducible apply r_exM); (with_reducible apply r_tup); (with_reducible apply r_exM); (with_reducible apply r_c); (with_reducible apply r_exM); (with_reducible apply r_tup); (with_reducible apply r_exM); (with_reducible apply r_tup); (with_reducible apply r_exM); (with_reducible apply r_c); (with_reducible apply r_exM); (with_reducible apply r_c); (with_reducible apply r_nilM); (with_reducible apply r_exM); (with_reducible apply r_tup); (with_reducible apply r_exM); (with_reducible apply r_c); (with_reducible apply r_exM); (with_reducible apply r_c); (with_reducible apply r_nilM); (with_reducible apply r_nilM); (with_reducible apply r_nilM); (with_reducible apply r_exM); (with_reducible apply r_tup); (with_reducible apply r_exM); (with_reducible apply r_c); (with_reducible apply r_exM); (with_reducible apply r_tup); (with_reducible apply r_exM); (with_reducible apply r_tup); (with_reducible apply r_exM); (with_reducible apply r_c); (with_reducible apply r_exM); (with_reducible apply r_c); (with_reducible apply r_nilM); (with_reducible apply r_exM); (with_reducible apply r_tup); (with_reducible apply r_exM); (with_reducible apply r_c); (with_reducible apply r_exM); (with_reducible apply r_c); (with_reducible apply r_nilM); (with_reducible apply r_nilM); (with_reducible apply r_nilM); (with_reducible apply r_exM); (with_reducible apply r_tup); (with_reducible apply r_exM); (with_reducible apply r_c); (with_reducible apply r_exM); (with_reducible apply r_tup); (with_reducible apply r_exM); (with_reducible apply r_tup); (with_reducible apply r_exM); (with_reducible apply r_c); (with_reducible apply r_exM); (with_reducible apply r_c); (with_reducible apply r_nilM); (with_reducible apply r_nilM); (with_reducible apply r_nilM); (with_reducible apply r_nilM); (with_reducible apply r_nilA); exact rfl; exact g1; exact rfl; exact rfl; (with_reducible apply r_seq); (with_reducible apply r_set); (with_reducible apply r_call); (with_reducible apply r_exA); (with_reducible apply r_call); (with_reducible apply r_borA); exact rfl; (with_reducible apply r_exA); (with_reducible apply r_c); (with_reducible apply r_nilA); exact rfl; exact hc; exact rfl; (with_reducible apply r_nilA); exact hp; exact rfl; exact rfl; exact rfl; (with_reducible apply r_ret); (with_reducible apply r_call); (with_reducible apply r_exA); (with_reducible apply r_op); (with_reducible apply r_borA); exact rfl; (with_reducible apply r_exA); (with_reducible apply r_callIo); (with_reducible apply r_borA); exact rfl; (with_reducible apply r_exA); (with_reducible apply r_c); (with_reducible apply r_nilA); exact rfl; exact hd; exact rfl; exact rfl; (with_reducible apply r_nilA); exact rfl; exact hi; (with_reducible apply r_nilA); exact hw; exact rfl; exact rfl; exact rfl; exact rfl)
end K51
namespace K51
open PySem L2 PyProof.Rows
theorem has_of {K : PySem.W.Frag} {mg : Str → Option Value} {h : Heap} (X : K.In h) (G : h.Ns mainGlobals mg) {x : Str} {st : Stmt} {ps : List Str} {f : Addr} {oc : Value} {od an : Option Addr} {osl : Array (Option Value)} {kV doc pm cdv ct : Value} (a : PySem.W.nsIn K mainGlobals x = some (some (.ref f)))
    (l : K.lookup f = some ⟨oc, od, .func (PySem.W.fnOf x x (defArgs st) (defBody st) (defScope st) .none kV doc pm an cdv ct), osl⟩) (c : PySem.W.codeIn K cdv x = true) (k : PySem.W.keepIn K (.ref f) = true)
    (hb : ∀ (kV doc pm : Value) (an : Option Addr) (cdv ct : Value) (us : List Value), us.length = ps.length → bindArgs (PySem.W.fnOf x x (defArgs st) (defBody st) (defScope st) .none kV doc pm an cdv ct) ⟨us, []⟩ = pure (ps.zip us)) : Has K mg x st ps :=
  ⟨f, _, fun_mk l c k, PySem.W.mg_of X G a, (fun_mk (st := st) l c k).binds hb⟩
theorem own_of {K : PySem.W.Frag} {mg : Str → Option Value} {h : Heap} {x : Str} {C : Addr} {bs : List Value} {ni : String} (X : K.In h) (G : h.Ns mainGlobals mg) (e : PySem.W.nsIn K mainGlobals x = some (some (.ref C))) (q : PySem.W.excIn K C bs ni = true) : OwnCls x C bs ni mg h where
  bound := PySem.W.mg_of X G e
  obj := by
    unfold PySem.W.excIn at q
    split at q
    case h_2 => cases q
    case h_1 d1 cl ss look =>
      split at q
      case h_2 => cases q
      case h_1 C2 rest a0 a1 a2 a3 nw a5 hmro hslots =>
        rcases cl with ⟨c1, c2, c3, c4, c5, c6, c7, c8, c9, c10, c11⟩
        rcases ss with ⟨ss⟩
        simp only [Bool.and_eq_true, beq_iff_eq, Bool.not_eq_true'] at q
        rcases q with ⟨⟨⟨⟨⟨w1, w2⟩, w3⟩, w4⟩, w5⟩, w6⟩
        dsimp only at hmro hslots w3 w5 w6
        cases w1; cases w2; cases hmro; cases w3; cases hslots
        exact ⟨rest, c4, c1, c5, c2, c6, c7, c8, c9, c10, d1, a0, a1, a2, a3, a5, _, X _ _ look, .of_isNs (PySem.W.isNs_of_in X w5), PySem.W.nsMap_none_of_in X w5 w6, PySem.W.tail_of_in X w4⟩
theorem all_mk {l : PySem.W.OpenLaw} {w : World} {K : PySem.W.Frag} {h : Heap} {mg : Str → Option Value} {fa : Addr} (X : K.In h) (G : h.Ns mainGlobals mg) (hfa : mg "law" = some (.ref fa))
    {f0 : Addr} {od0 an0 : Option Addr} {sl0 : Array (Option Value)} {oc0 kV0 dc0 pm0 cd0 ct0 : Value}
    {f1 : Addr} {od1 an1 : Option Addr} {sl1 : Array (Option Value)} {oc1 kV1 dc1 pm1 cd1 ct1 : Value}
    {f2 : Addr} {od2 an2 : Option Addr} {sl2 : Array (Option Value)} {oc2 kV2 dc2 pm2 cd2 ct2 : Value}
    {f3 : Addr} {od3 an3 : Option Addr} {sl3 : Array (Option Value)} {oc3 kV3 dc3 pm3 cd3 ct3 : Value}
    {f4 : Addr} {od4 an4 : Option Addr} {sl4 : Array (Option Value)} {oc4 kV4 dc4 pm4 cd4 ct4 : Value}
    {f5 : Addr} {od5 an5 : Option Addr} {sl5 : Array (Option Value)} {oc5 kV5 dc5 pm5 cd5 ct5 : Value}
    {f6 : Addr} {od6 an6 : Option Addr} {sl6 : Array (Option Value)} {oc6 kV6 dc6 pm6 cd6 ct6 : Value}
    {f7 : Addr} {od7 an7 : Option Addr} {sl7 : Array (Option Value)} {oc7 kV7 dc7 pm7 cd7 ct7 : Value}
    {f8 : Addr} {od8 an8 : Option Addr} {sl8 : Array (Option Value)} {oc8 kV8 dc8 pm8 cd8 ct8 : Value}
    {f9 : Addr} {od9 an9 : Option Addr} {sl9 : Array (Option Value)} {oc9 kV9 dc9 pm9 cd9 ct9 : Value}
    {f10 : Addr} {od10 an10 : Option Addr} {sl10 : Array (Option Value)} {oc10 kV10 dc10 pm10 cd10 ct10 : Value}
    {f11 : Addr} {od11 an11 : Option Addr} {sl11 : Array (Option Value)} {oc11 kV11 dc11 pm11 cd11 ct11 : Value}
    {f12 : Addr} {od12 an12 : Option Addr} {sl12 : Array (Option Value)} {oc12 kV12 dc12 pm12 cd12 ct12 : Value}
    {f13 : Addr} {od13 an13 : Option Addr} {sl13 : Array (Option Value)} {oc13 kV13 dc13 pm13 cd13 ct13 : Value}
    {f14 : Addr} {od14 an14 : Option Addr} {sl14 : Array (Option Value)} {oc14 kV14 dc14 pm14 cd14 ct14 : Value}
    {f15 : Addr} {od15 an15 : Option Addr} {sl15 : Array (Option Value)} {oc15 kV15 dc15 pm15 cd15 ct15 : Value}
    {f16 : Addr} {od16 an16 : Option Addr} {sl16 : Array (Option Value)} {oc16 kV16 dc16 pm16 cd16 ct16 : Value}
    {f17 : Addr} {od17 an17 : Option Addr} {sl17 : Array (Option Value)} {oc17 kV17 dc17 pm17 cd17 ct17 : Value}
    {f18 : Addr} {od18 an18 : Option Addr} {sl18 : Array (Option Value)} {oc18 kV18 dc18 pm18 cd18 ct18 : Value}
    {f19 : Addr} {od19 an19 : Option Addr} {sl19 : Array (Option Value)} {oc19 kV19 dc19 pm19 cd19 ct19 : Value}
    {f20 : Addr} {od20 an20 : Option Addr} {sl20 : Array (Option Value)} {oc20 kV20 dc20 pm20 cd20 ct20 : Value}
    {f21 : Addr} {od21 an21 : Option Addr} {sl21 : Array (Option Value)} {oc21 kV21 dc21 pm21 cd21 ct21 : Value}
    {f22 : Addr} {od22 an22 : Option Addr} {sl22 : Array (Option Value)} {oc22 kV22 dc22 pm22 cd22 ct22 : Value}
    {f23 : Addr} {od23 an23 : Option Addr} {sl23 : Array (Option Value)} {oc23 kV23 dc23 pm23 cd23 ct23 : Value}
    {f24 : Addr} {od24 an24 : Option Addr} {sl24 : Array (Option Value)} {oc24 kV24 dc24 pm24 cd24 ct24 : Value}
    {f25 : Addr} {od25 an25 : Option Addr} {sl25 : Array (Option Value)} {oc25 kV25 dc25 pm25 cd25 ct25 : Value}
    {f26 : Addr} {od26 an26 : Option Addr} {sl26 : Array (Option Value)} {oc26 kV26 dc26 pm26 cd26 ct26 : Value}
    {f27 : Addr} {od27 an27 : Option Addr} {sl27 : Array (Option Value)} {oc27 kV27 dc27 pm27 cd27 ct27 : Value}
    {f28 : Addr} {od28 an28 : Option Addr} {sl28 : Array (Option Value)} {oc28 kV28 dc28 pm28 cd28 ct28 : Value}
    {A_NoNumber : Addr}
    {bb0 : Addr} {db0 : Option Addr} {nb0 : Nat} {sb0 : Array (Option Value)} {bb1 : Addr} {db1 : Option Addr} {nb1 : Nat} {sb1 : Array (Option Value)} {tb1_0 : Tok} {tb1_1 : Tok} {bb2 : Addr} {db2 : Option Addr} {nb2 : Nat} {sb2 : Array (Option Value)} {tb2_0 : Tok} {tb2_1 : Tok}
    (a0 : PySem.W.nsIn K mainGlobals "is_whole" = some (some (.ref f0)))
    (l0 : K.lookup f0 = some ⟨oc0, od0, .func (PySem.W.fnOf "is_whole" "is_whole" (defArgs (top 1)) (defBody (top 1)) (defScope (top 1)) .none kV0 dc0 pm0 an0 cd0 ct0), sl0⟩)
    (c0 : PySem.W.codeIn K cd0 "is_whole" = true)
    (k0 : PySem.W.keepIn K (.ref f0) = true)
    (a1 : PySem.W.nsIn K mainGlobals "whole_within" = some (some (.ref f1)))
    (l1 : K.lookup f1 = some ⟨oc1, od1, .func (PySem.W.fnOf "whole_within" "whole_within" (defArgs (top 2)) (defBody (top 2)) (defScope (top 2)) .none kV1 dc1 pm1 an1 cd1 ct1), sl1⟩)
    (c1 : PySem.W.codeIn K cd1 "whole_within" = true)
    (k1 : PySem.W.keepIn K (.ref f1) = true)
    (a2 : PySem.W.nsIn K mainGlobals "unlike_within" = some (some (.ref f2)))
    (l2 : K.lookup f2 = some ⟨oc2, od2, .func (PySem.W.fnOf "unlike_within" "unlike_within" (defArgs (top 3)) (defBody (top 3)) (defScope (top 3)) .none kV2 dc2 pm2 an2 cd2 ct2), sl2⟩)
    (c2 : PySem.W.codeIn K cd2 "unlike_within" = true)
    (k2 : PySem.W.keepIn K (.ref f2) = true)
    (a3 : PySem.W.nsIn K mainGlobals "each_once" = some (some (.ref f3)))
    (l3 : K.lookup f3 = some ⟨oc3, od3, .func (PySem.W.fnOf "each_once" "each_once" (defArgs (top 4)) (defBody (top 4)) (defScope (top 4)) .none kV3 dc3 pm3 an3 cd3 ct3), sl3⟩)
    (c3 : PySem.W.codeIn K cd3 "each_once" = true)
    (k3 : PySem.W.keepIn K (.ref f3) = true)
    (a4 : PySem.W.nsIn K mainGlobals "bar_formed" = some (some (.ref f4)))
    (l4 : K.lookup f4 = some ⟨oc4, od4, .func (PySem.W.fnOf "bar_formed" "bar_formed" (defArgs (top 6)) (defBody (top 6)) (defScope (top 6)) .none kV4 dc4 pm4 an4 cd4 ct4), sl4⟩)
    (c4 : PySem.W.codeIn K cd4 "bar_formed" = true)
    (k4 : PySem.W.keepIn K (.ref f4) = true)
    (a5 : PySem.W.nsIn K mainGlobals "share_bars" = some (some (.ref f5)))
    (l5 : K.lookup f5 = some ⟨oc5, od5, .func (PySem.W.fnOf "share_bars" "share_bars" (defArgs (top 7)) (defBody (top 7)) (defScope (top 7)) .none kV5 dc5 pm5 an5 cd5 ct5), sl5⟩)
    (c5 : PySem.W.codeIn K cd5 "share_bars" = true)
    (k5 : PySem.W.keepIn K (.ref f5) = true)
    (a6 : PySem.W.nsIn K mainGlobals "tie_counts" = some (some (.ref f6)))
    (l6 : K.lookup f6 = some ⟨oc6, od6, .func (PySem.W.fnOf "tie_counts" "tie_counts" (defArgs (top 12)) (defBody (top 12)) (defScope (top 12)) .none kV6 dc6 pm6 an6 cd6 ct6), sl6⟩)
    (c6 : PySem.W.codeIn K cd6 "tie_counts" = true)
    (k6 : PySem.W.keepIn K (.ref f6) = true)
    (a7 : PySem.W.nsIn K mainGlobals "tied_places" = some (some (.ref f7)))
    (l7 : K.lookup f7 = some ⟨oc7, od7, .func (PySem.W.fnOf "tied_places" "tied_places" (defArgs (top 13)) (defBody (top 13)) (defScope (top 13)) .none kV7 dc7 pm7 an7 cd7 ct7), sl7⟩)
    (c7 : PySem.W.codeIn K cd7 "tied_places" = true)
    (k7 : PySem.W.keepIn K (.ref f7) = true)
    (a8 : PySem.W.nsIn K mainGlobals "total_good" = some (some (.ref f8)))
    (l8 : K.lookup f8 = some ⟨oc8, od8, .func (PySem.W.fnOf "total_good" "total_good" (defArgs (top 16)) (defBody (top 16)) (defScope (top 16)) .none kV8 dc8 pm8 an8 cd8 ct8), sl8⟩)
    (c8 : PySem.W.codeIn K cd8 "total_good" = true)
    (k8 : PySem.W.keepIn K (.ref f8) = true)
    (a9 : PySem.W.nsIn K mainGlobals "totals_by" = some (some (.ref f9)))
    (l9 : K.lookup f9 = some ⟨oc9, od9, .func (PySem.W.fnOf "totals_by" "totals_by" (defArgs (top 17)) (defBody (top 17)) (defScope (top 17)) .none kV9 dc9 pm9 an9 cd9 ct9), sl9⟩)
    (c9 : PySem.W.codeIn K cd9 "totals_by" = true)
    (k9 : PySem.W.keepIn K (.ref f9) = true)
    (a10 : PySem.W.nsIn K mainGlobals "end_sums" = some (some (.ref f10)))
    (l10 : K.lookup f10 = some ⟨oc10, od10, .func (PySem.W.fnOf "end_sums" "end_sums" (defArgs (top 18)) (defBody (top 18)) (defScope (top 18)) .none kV10 dc10 pm10 an10 cd10 ct10), sl10⟩)
    (c10 : PySem.W.codeIn K cd10 "end_sums" = true)
    (k10 : PySem.W.keepIn K (.ref f10) = true)
    (a11 : PySem.W.nsIn K mainGlobals "low_good" = some (some (.ref f11)))
    (l11 : K.lookup f11 = some ⟨oc11, od11, .func (PySem.W.fnOf "low_good" "low_good" (defArgs (top 19)) (defBody (top 19)) (defScope (top 19)) .none kV11 dc11 pm11 an11 cd11 ct11), sl11⟩)
    (c11 : PySem.W.codeIn K cd11 "low_good" = true)
    (k11 : PySem.W.keepIn K (.ref f11) = true)
    (a12 : PySem.W.nsIn K mainGlobals "total_of" = some (some (.ref f12)))
    (l12 : K.lookup f12 = some ⟨oc12, od12, .func (PySem.W.fnOf "total_of" "total_of" (defArgs (top 20)) (defBody (top 20)) (defScope (top 20)) .none kV12 dc12 pm12 an12 cd12 ct12), sl12⟩)
    (c12 : PySem.W.codeIn K cd12 "total_of" = true)
    (k12 : PySem.W.keepIn K (.ref f12) = true)
    (a13 : PySem.W.nsIn K mainGlobals "check_total" = some (some (.ref f13)))
    (l13 : K.lookup f13 = some ⟨oc13, od13, .func (PySem.W.fnOf "check_total" "check_total" (defArgs (top 21)) (defBody (top 21)) (defScope (top 21)) .none kV13 dc13 pm13 an13 cd13 ct13), sl13⟩)
    (c13 : PySem.W.codeIn K cd13 "check_total" = true)
    (k13 : PySem.W.keepIn K (.ref f13) = true)
    (a14 : PySem.W.nsIn K mainGlobals "opposite_total" = some (some (.ref f14)))
    (l14 : K.lookup f14 = some ⟨oc14, od14, .func (PySem.W.fnOf "opposite_total" "opposite_total" (defArgs (top 22)) (defBody (top 22)) (defScope (top 22)) .none kV14 dc14 pm14 an14 cd14 ct14), sl14⟩)
    (c14 : PySem.W.codeIn K cd14 "opposite_total" = true)
    (k14 : PySem.W.keepIn K (.ref f14) = true)
    (a15 : PySem.W.nsIn K mainGlobals "taken_from" = some (some (.ref f15)))
    (l15 : K.lookup f15 = some ⟨oc15, od15, .func (PySem.W.fnOf "taken_from" "taken_from" (defArgs (top 23)) (defBody (top 23)) (defScope (top 23)) .none kV15 dc15 pm15 an15 cd15 ct15), sl15⟩)
    (c15 : PySem.W.codeIn K cd15 "taken_from" = true)
    (k15 : PySem.W.keepIn K (.ref f15) = true)
    (a16 : PySem.W.nsIn K mainGlobals "total_span" = some (some (.ref f16)))
    (l16 : K.lookup f16 = some ⟨oc16, od16, .func (PySem.W.fnOf "total_span" "total_span" (defArgs (top 24)) (defBody (top 24)) (defScope (top 24)) .none kV16 dc16 pm16 an16 cd16 ct16), sl16⟩)
    (c16 : PySem.W.codeIn K cd16 "total_span" = true)
    (k16 : PySem.W.keepIn K (.ref f16) = true)
    (a17 : PySem.W.nsIn K mainGlobals "worth_in_order" = some (some (.ref f17)))
    (l17 : K.lookup f17 = some ⟨oc17, od17, .func (PySem.W.fnOf "worth_in_order" "worth_in_order" (defArgs (top 25)) (defBody (top 25)) (defScope (top 25)) .none kV17 dc17 pm17 an17 cd17 ct17), sl17⟩)
    (c17 : PySem.W.codeIn K cd17 "worth_in_order" = true)
    (k17 : PySem.W.keepIn K (.ref f17) = true)
    (a18 : PySem.W.nsIn K mainGlobals "total_bar_holds" = some (some (.ref f18)))
    (l18 : K.lookup f18 = some ⟨oc18, od18, .func (PySem.W.fnOf "total_bar_holds" "total_bar_holds" (defArgs (top 26)) (defBody (top 26)) (defScope (top 26)) .none kV18 dc18 pm18 an18 cd18 ct18), sl18⟩)
    (c18 : PySem.W.codeIn K cd18 "total_bar_holds" = true)
    (k18 : PySem.W.keepIn K (.ref f18) = true)
    (a19 : PySem.W.nsIn K mainGlobals "share_bars_totals" = some (some (.ref f19)))
    (l19 : K.lookup f19 = some ⟨oc19, od19, .func (PySem.W.fnOf "share_bars_totals" "share_bars_totals" (defArgs (top 27)) (defBody (top 27)) (defScope (top 27)) .none kV19 dc19 pm19 an19 cd19 ct19), sl19⟩)
    (c19 : PySem.W.codeIn K cd19 "share_bars_totals" = true)
    (k19 : PySem.W.keepIn K (.ref f19) = true)
    (a20 : PySem.W.nsIn K mainGlobals "total_bars" = some (some (.ref f20)))
    (l20 : K.lookup f20 = some ⟨oc20, od20, .func (PySem.W.fnOf "total_bars" "total_bars" (defArgs (top 28)) (defBody (top 28)) (defScope (top 28)) .none kV20 dc20 pm20 an20 cd20 ct20), sl20⟩)
    (c20 : PySem.W.codeIn K cd20 "total_bars" = true)
    (k20 : PySem.W.keepIn K (.ref f20) = true)
    (a21 : PySem.W.nsIn K mainGlobals "_law_cell_at" = some (some (.ref f21)))
    (l21 : K.lookup f21 = some ⟨oc21, od21, .func (PySem.W.fnOf "_law_cell_at" "_law_cell_at" (defArgs (top 30)) (defBody (top 30)) (defScope (top 30)) .none kV21 dc21 pm21 an21 cd21 ct21), sl21⟩)
    (c21 : PySem.W.codeIn K cd21 "_law_cell_at" = true)
    (k21 : PySem.W.keepIn K (.ref f21) = true)
    (a22 : PySem.W.nsIn K mainGlobals "_law_next" = some (some (.ref f22)))
    (l22 : K.lookup f22 = some ⟨oc22, od22, .func (PySem.W.fnOf "_law_next" "_law_next" (defArgs (top 31)) (defBody (top 31)) (defScope (top 31)) .none kV22 dc22 pm22 an22 cd22 ct22), sl22⟩)
    (c22 : PySem.W.codeIn K cd22 "_law_next" = true)
    (k22 : PySem.W.keepIn K (.ref f22) = true)
    (a23 : PySem.W.nsIn K mainGlobals "_law_pen_of" = some (some (.ref f23)))
    (l23 : K.lookup f23 = some ⟨oc23, od23, .func (PySem.W.fnOf "_law_pen_of" "_law_pen_of" (defArgs (top 32)) (defBody (top 32)) (defScope (top 32)) .none kV23 dc23 pm23 an23 cd23 ct23), sl23⟩)
    (c23 : PySem.W.codeIn K cd23 "_law_pen_of" = true)
    (k23 : PySem.W.keepIn K (.ref f23) = true)
    (a24 : PySem.W.nsIn K mainGlobals "_law_draw" = some (some (.ref f24)))
    (l24 : K.lookup f24 = some ⟨oc24, od24, .func (PySem.W.fnOf "_law_draw" "_law_draw" (defArgs (top 33)) (defBody (top 33)) (defScope (top 33)) .none kV24 dc24 pm24 an24 cd24 ct24), sl24⟩)
    (c24 : PySem.W.codeIn K cd24 "_law_draw" = true)
    (k24 : PySem.W.keepIn K (.ref f24) = true)
    (a25 : PySem.W.nsIn K mainGlobals "_law_orders" = some (some (.ref f25)))
    (l25 : K.lookup f25 = some ⟨oc25, od25, .func (PySem.W.fnOf "_law_orders" "_law_orders" (defArgs (top 34)) (defBody (top 34)) (defScope (top 34)) .none kV25 dc25 pm25 an25 cd25 ct25), sl25⟩)
    (c25 : PySem.W.codeIn K cd25 "_law_orders" = true)
    (k25 : PySem.W.keepIn K (.ref f25) = true)
    (a26 : PySem.W.nsIn K mainGlobals "_law_alike" = some (some (.ref f26)))
    (l26 : K.lookup f26 = some ⟨oc26, od26, .func (PySem.W.fnOf "_law_alike" "_law_alike" (defArgs (top 35)) (defBody (top 35)) (defScope (top 35)) .none kV26 dc26 pm26 an26 cd26 ct26), sl26⟩)
    (c26 : PySem.W.codeIn K cd26 "_law_alike" = true)
    (k26 : PySem.W.keepIn K (.ref f26) = true)
    (a27 : PySem.W.nsIn K mainGlobals "_law_right" = some (some (.ref f27)))
    (l27 : K.lookup f27 = some ⟨oc27, od27, .func (PySem.W.fnOf "_law_right" "_law_right" (defArgs (top 36)) (defBody (top 36)) (defScope (top 36)) .none kV27 dc27 pm27 an27 cd27 ct27), sl27⟩)
    (c27 : PySem.W.codeIn K cd27 "_law_right" = true)
    (k27 : PySem.W.keepIn K (.ref f27) = true)
    (a28 : PySem.W.nsIn K mainGlobals "law" = some (some (.ref f28)))
    (l28 : K.lookup f28 = some ⟨oc28, od28, .func (PySem.W.fnOf "law" "law" (defArgs (top 37)) (defBody (top 37)) (defScope (top 37)) .none kV28 dc28 pm28 an28 cd28 ct28), sl28⟩)
    (c28 : PySem.W.codeIn K cd28 "law" = true)
    (k28 : PySem.W.keepIn K (.ref f28) = true)
    (z_all : PySem.W.nsIn K mainGlobals "all" = some none)
    (z_bool : PySem.W.nsIn K mainGlobals "bool" = some none)
    (z_enumerate : PySem.W.nsIn K mainGlobals "enumerate" = some none)
    (z_int : PySem.W.nsIn K mainGlobals "int" = some none)
    (z_isinstance : PySem.W.nsIn K mainGlobals "isinstance" = some none)
    (z_len : PySem.W.nsIn K mainGlobals "len" = some none)
    (z_list : PySem.W.nsIn K mainGlobals "list" = some none)
    (z_max : PySem.W.nsIn K mainGlobals "max" = some none)
    (z_min : PySem.W.nsIn K mainGlobals "min" = some none)
    (z_range : PySem.W.nsIn K mainGlobals "range" = some none)
    (z_set : PySem.W.nsIn K mainGlobals "set" = some none)
    (z_sorted : PySem.W.nsIn K mainGlobals "sorted" = some none)
    (z_sum : PySem.W.nsIn K mainGlobals "sum" = some none)
    (z_tuple : PySem.W.nsIn K mainGlobals "tuple" = some none)
    (z_zip : PySem.W.nsIn K mainGlobals "zip" = some none)
    (q_TOTAL_FORMS : PySem.W.nsIn K mainGlobals "TOTAL_FORMS" = some (some (.ref bb0)))
    (lb0 : K.lookup bb0 = some ⟨.type "tuple", db0, .seq #[.ref bb1, .ref bb2] nb0, sb0⟩)
    (lb1 : K.lookup bb1 = some ⟨.type "tuple", db1, .seq #[.str "share" tb1_0, .int 1 tb1_1] nb1, sb1⟩)
    (lb2 : K.lookup bb2 = some ⟨.type "tuple", db2, .seq #[.str "ties" tb2_0, .int 0 tb2_1] nb2, sb2⟩)
    (n_NoNumber : PySem.W.nsIn K mainGlobals "NoNumber" = some (some (.ref A_NoNumber)))
    (x_NoNumber : PySem.W.excIn K A_NoNumber [.type "ValueError", .type "Exception", .type "BaseException", .type "object"] "ValueError.__new__" = true)
    : ∃ fd : FuncData, (∀ (s : Shared) (v : Value), BindsTo s fd ⟨[v], []⟩ [("script", v)]) ∧ ∀ base : Heap, K.In base → base.Ns mainGlobals mg → FnOk l.prog w K mg base (CXr l.prog w) 9 fa fd ["script"] (spF K none f_law) := by
  cases hfa.symm.trans (PySem.W.mg_of X G a28)
  have T : Txt K mg := ⟨PySem.W.mg_none_of X G z_all, PySem.W.mg_none_of X G z_bool, PySem.W.mg_none_of X G z_enumerate, PySem.W.mg_none_of X G z_int, PySem.W.mg_none_of X G z_isinstance, PySem.W.mg_none_of X G z_len, PySem.W.mg_none_of X G z_list, PySem.W.mg_none_of X G z_max, PySem.W.mg_none_of X G z_min, PySem.W.mg_none_of X G z_range, PySem.W.mg_none_of X G z_set, PySem.W.mg_none_of X G z_sorted, PySem.W.mg_none_of X G z_sum, PySem.W.mg_none_of X G z_tuple, PySem.W.mg_none_of X G z_zip, ⟨bb0, PySem.W.mg_of X G q_TOTAL_FORMS, fun H => ⟨bb0, [.ref bb1, .ref bb2], rfl, .inr ⟨_, #[.ref bb1, .ref bb2], nb0, lb0, rfl, rfl, by show 2 ≤ sizeLine; decide, (.cons rfl (.cons rfl .nil))⟩, ⟨bb1, [.str "share", .int 1], rfl, .inr ⟨_, #[.str "share" tb1_0, .int 1 tb1_1], nb1, lb1, rfl, rfl, by show 2 ≤ sizeLine; decide, (.cons ⟨_, rfl⟩ (.cons ⟨_, rfl⟩ .nil))⟩, rfl, rfl, trivial⟩, ⟨bb2, [.str "ties", .int 0], rfl, .inr ⟨_, #[.str "ties" tb2_0, .int 0 tb2_1], nb2, lb2, rfl, rfl, by show 2 ≤ sizeLine; decide, (.cons ⟨_, rfl⟩ (.cons ⟨_, rfl⟩ .nil))⟩, rfl, rfl, trivial⟩, trivial⟩⟩⟩
  have D0 : Has K mg "is_whole" (top 1) ["thing"] := has_of X G a0 l0 c0 k0 fun _ _ _ _ _ _ us hl => match us, hl with | [_], _ => rfl
  have D1 : Has K mg "whole_within" (top 2) ["thing", "least", "most"] := has_of X G a1 l1 c1 k1 fun _ _ _ _ _ _ us hl => match us, hl with | [_, _, _], _ => rfl
  have D2 : Has K mg "unlike_within" (top 3) ["things", "least", "most"] := has_of X G a2 l2 c2 k2 fun _ _ _ _ _ _ us hl => match us, hl with | [_, _, _], _ => rfl
  have D3 : Has K mg "each_once" (top 4) ["things", "most"] := has_of X G a3 l3 c3 k3 fun _ _ _ _ _ _ us hl => match us, hl with | [_, _], _ => rfl
  have D4 : Has K mg "bar_formed" (top 6) ["forms", "thing"] := has_of X G a4 l4 c4 k4 fun _ _ _ _ _ _ us hl => match us, hl with | [_, _], _ => rfl
  have D5 : Has K mg "share_bars" (top 7) ["most"] := has_of X G a5 l5 c5 k5 fun _ _ _ _ _ _ us hl => match us, hl with | [_], _ => rfl
  have D6 : Has K mg "tie_counts" (top 12) ["web"] := has_of X G a6 l6 c6 k6 fun _ _ _ _ _ _ us hl => match us, hl with | [_], _ => rfl
  have D7 : Has K mg "tied_places" (top 13) ["web"] := has_of X G a7 l7 c7 k7 fun _ _ _ _ _ _ us hl => match us, hl with | [_], _ => rfl
  have D8 : Has K mg "total_good" (top 16) ["web", "thing"] := has_of X G a8 l8 c8 k8 fun _ _ _ _ _ _ us hl => match us, hl with | [_, _], _ => rfl
  have D9 : Has K mg "totals_by" (top 17) ["web", "numbering"] := has_of X G a9 l9 c9 k9 fun _ _ _ _ _ _ us hl => match us, hl with | [_, _], _ => rfl
  have D10 : Has K mg "end_sums" (top 18) ["web", "numbers"] := has_of X G a10 l10 c10 k10 fun _ _ _ _ _ _ us hl => match us, hl with | [_, _], _ => rfl
  have D11 : Has K mg "low_good" (top 19) ["web", "thing"] := has_of X G a11 l11 c11 k11 fun _ _ _ _ _ _ us hl => match us, hl with | [_, _], _ => rfl
  have D12 : Has K mg "total_of" (top 20) ["web", "thing"] := has_of X G a12 l12 c12 k12 fun _ _ _ _ _ _ us hl => match us, hl with | [_, _], _ => rfl
  have D13 : Has K mg "check_total" (top 21) ["web", "thing"] := has_of X G a13 l13 c13 k13 fun _ _ _ _ _ _ us hl => match us, hl with | [_, _], _ => rfl
  have D14 : Has K mg "opposite_total" (top 22) ["web", "thing"] := has_of X G a14 l14 c14 k14 fun _ _ _ _ _ _ us hl => match us, hl with | [_, _], _ => rfl
  have D15 : Has K mg "taken_from" (top 23) ["whole", "numbers"] := has_of X G a15 l15 c15 k15 fun _ _ _ _ _ _ us hl => match us, hl with | [_, _], _ => rfl
  have D16 : Has K mg "total_span" (top 24) ["web"] := has_of X G a16 l16 c16 k16 fun _ _ _ _ _ _ us hl => match us, hl with | [_], _ => rfl
  have D17 : Has K mg "worth_in_order" (top 25) ["often"] := has_of X G a17 l17 c17 k17 fun _ _ _ _ _ _ us hl => match us, hl with | [_], _ => rfl
  have D18 : Has K mg "total_bar_holds" (top 26) ["web", "thing"] := has_of X G a18 l18 c18 k18 fun _ _ _ _ _ _ us hl => match us, hl with | [_, _], _ => rfl
  have D19 : Has K mg "share_bars_totals" (top 27) ["web", "share"] := has_of X G a19 l19 c19 k19 fun _ _ _ _ _ _ us hl => match us, hl with | [_, _], _ => rfl
  have D20 : Has K mg "total_bars" (top 28) ["web"] := has_of X G a20 l20 c20 k20 fun _ _ _ _ _ _ us hl => match us, hl with | [_], _ => rfl
  have D21 : Has K mg "_law_cell_at" (top 30) ["script", "k"] := has_of X G a21 l21 c21 k21 fun _ _ _ _ _ _ us hl => match us, hl with | [_, _], _ => rfl
  have D22 : Has K mg "_law_next" (top 31) ["seed"] := has_of X G a22 l22 c22 k22 fun _ _ _ _ _ _ us hl => match us, hl with | [_], _ => rfl
  have D23 : Has K mg "_law_pen_of" (top 32) ["cell"] := has_of X G a23 l23 c23 k23 fun _ _ _ _ _ _ us hl => match us, hl with | [_], _ => rfl
  have D24 : Has K mg "_law_draw" (top 33) ["pen", "many"] := has_of X G a24 l24 c24 k24 fun _ _ _ _ _ _ us hl => match us, hl with | [_, _], _ => rfl
  have D25 : Has K mg "_law_orders" (top 34) ["many"] := has_of X G a25 l25 c25 k25 fun _ _ _ _ _ _ us hl => match us, hl with | [_], _ => rfl
  have D26 : Has K mg "_law_alike" (top 35) ["web", "places", "ties"] := has_of X G a26 l26 c26 k26 fun _ _ _ _ _ _ us hl => match us, hl with | [_, _, _], _ => rfl
  have D27 : Has K mg "_law_right" (top 36) ["web"] := has_of X G a27 l27 c27 k27 fun _ _ _ _ _ _ us hl => match us, hl with | [_], _ => rfl
  refine ⟨PySem.W.fnOf "law" "law" (defArgs (top 37)) (defBody (top 37)) (defScope (top 37)) .none kV28 dc28 pm28 an28 cd28 ct28, fun s v => .of_eq rfl, fun base KB GB => ?_⟩
  have O_NoNumber : OwnCls "NoNumber" A_NoNumber [.type "ValueError", .type "Exception", .type "BaseException", .type "object"] "ValueError.__new__" mg base := own_of KB GB n_NoNumber x_NoNumber
  have G_is_whole := ok_is_whole (P := l.prog) (w := w) (base := base) D0 T 
  have G_share_bars := ok_share_bars (P := l.prog) (w := w) (base := base) D5 T 
  have G_tied_places := ok_tied_places (P := l.prog) (w := w) (base := base) D7 T 
  have G_end_sums := ok_end_sums (P := l.prog) (w := w) (base := base) D10 T 
  have G_taken_from := ok_taken_from (P := l.prog) (w := w) (base := base) D15 T 
  have G_worth_in_order := ok_worth_in_order (P := l.prog) (w := w) (base := base) D17 T 
  have G__law_cell_at := ok__law_cell_at (P := l.prog) (w := w) (base := base) D21 T 
  have G__law_next := ok__law_next (P := l.prog) (w := w) (base := base) D22 T 
  have G__law_pen_of := ok__law_pen_of (P := l.prog) (w := w) (base := base) D23 T 
  have G__law_orders := ok__law_orders (P := l.prog) (w := w) (base := base) D25 T 
  have G__law_alike := ok__law_alike (P := l.prog) (w := w) (base := base) D26 T 
  have G_whole_within := ok_whole_within (P := l.prog) (w := w) (base := base) D1 T G_is_whole
  have G_bar_formed := ok_bar_formed (P := l.prog) (w := w) (base := base) D4 T G_is_whole
  have G_tie_counts := ok_tie_counts (P := l.prog) (w := w) (base := base) D6 T G_tied_places
  have G_totals_by := ok_totals_by (P := l.prog) (w := w) (base := base) D9 T G_end_sums
  have G__law_draw := ok__law_draw (P := l.prog) (w := w) (base := base) D24 T G__law_next
  have G_unlike_within := ok_unlike_within (P := l.prog) (w := w) (base := base) D2 T G_whole_within
  have G_total_span := ok_total_span (P := l.prog) (w := w) (base := base) D16 T G_tie_counts G_worth_in_order
  have G_share_bars_totals := ok_share_bars_totals (P := l.prog) (w := w) (base := base) D19 T G_tie_counts
  have G_each_once := ok_each_once (P := l.prog) (w := w) (base := base) D3 T G_unlike_within
  have G_total_bar_holds := ok_total_bar_holds (P := l.prog) (w := w) (base := base) D18 T G_bar_formed G_share_bars_totals
  have G_total_good := ok_total_good (P := l.prog) (w := w) (base := base) D8 T G_each_once G_totals_by
  have G_total_bars := ok_total_bars (P := l.prog) (w := w) (base := base) D20 T G_share_bars G_total_bar_holds
  have G_low_good := ok_low_good (P := l.prog) (w := w) (base := base) D11 T G_total_good
  have G_check_total := ok_check_total (P := l.prog) (w := w) (base := base) D13 T G_total_good O_NoNumber PySem.F.excBase_ValueError n_NoNumber
  have G_total_of := ok_total_of (P := l.prog) (w := w) (base := base) D12 T G_check_total G_totals_by
  have G_opposite_total := ok_opposite_total (P := l.prog) (w := w) (base := base) D14 T G_check_total G_taken_from
  have G__law_right := ok__law_right (P := l.prog) (w := w) (base := base) D27 T G__law_orders G__law_alike G_total_good G_low_good G_total_of G_total_span G_opposite_total G_total_bars
  exact ok_law (P := l.prog) (w := w) (base := base) (fun_mk l28 c28 k28) T G__law_pen_of G__law_cell_at G__law_right G__law_draw
end K51
open PySem PySem.W PyProof.Rows
set_option maxRecDepth 100000 in
set_option maxHeartbeats 0 in
theorem PySem.Challenge.cw_tienumbers_k51_whole_totals_gone_through_holds : PySem.Challenge.rw_tienumbers_k51_whole_totals_gone_through.Holds := by
  w_on; o_law; k_head; (case hw => w_witness2)
  k_fill
  refine L2.walk_of (l := PySem.Challenge.rw_tienumbers_k51_whole_totals_gone_through) (n := 63) (k := 9) (x := "script") (CX := fun w => L2.CXr (PySem.Challenge.rw_tienumbers_k51_whole_totals_gone_through).prog w) (sp := fun w => L2.spF _ none K51.f_law) rfl (by decide) rfl ⟨rfl, by decide, by decide, rfl⟩ (fun w h Y => PySem.W.kIn_of Y) ?F (fun _ _ a ns hl _ hS => L2.spF_law ⟨_, K51.law_ok ns⟩ hS) fun _ _ _ _ _ z => L2.cxr_false z
  case F =>
    intro w mg fa h KX G hmg
    refine' K51.all_mk KX G hmg ?a0 ?l0 ?c0 ?k0 ?a1 ?l1 ?c1 ?k1 ?a2 ?l2 ?c2 ?k2 ?a3 ?l3 ?c3 ?k3 ?a4 ?l4 ?c4 ?k4 ?a5 ?l5 ?c5 ?k5 ?a6 ?l6 ?c6 ?k6 ?a7 ?l7 ?c7 ?k7 ?a8 ?l8 ?c8 ?k8 ?a9 ?l9 ?c9 ?k9 ?a10 ?l10 ?c10 ?k10 ?a11 ?l11 ?c11 ?k11 ?a12 ?l12 ?c12 ?k12 ?a13 ?l13 ?c13 ?k13 ?a14 ?l14 ?c14 ?k14 ?a15 ?l15 ?c15 ?k15 ?a16 ?l16 ?c16 ?k16 ?a17 ?l17 ?c17 ?k17 ?a18 ?l18 ?c18 ?k18 ?a19 ?l19 ?c19 ?k19 ?a20 ?l20 ?c20 ?k20 ?a21 ?l21 ?c21 ?k21 ?a22 ?l22 ?c22 ?k22 ?a23 ?l23 ?c23 ?k23 ?a24 ?l24 ?c24 ?k24 ?a25 ?l25 ?c25 ?k25 ?a26 ?l26 ?c26 ?k26 ?a27 ?l27 ?c27 ?k27 ?a28 ?l28 ?c28 ?k28 ?z_all ?z_bool ?z_enumerate ?z_int ?z_isinstance ?z_len ?z_list ?z_max ?z_min ?z_range ?z_set ?z_sorted ?z_sum ?z_tuple ?z_zip ?q_TOTAL_FORMS ?lb0 ?lb1 ?lb2 ?n_NoNumber ?x_NoNumber
    (case a0 => k_is)
    (case l0 => k_is)
    (case c0 => k_is)
    (case k0 => k_is)
    (case a1 => k_is)
    (case l1 => k_is)
    (case c1 => k_is)
    (case k1 => k_is)
    (case a2 => k_is)
    (case l2 => k_is)
    (case c2 => k_is)
    (case k2 => k_is)
    (case a3 => k_is)
    (case l3 => k_is)
    (case c3 => k_is)
    (case k3 => k_is)
    (case a4 => k_is)
    (case l4 => k_is)
    (case c4 => k_is)
    (case k4 => k_is)
    (case a5 => k_is)
    (case l5 => k_is)
    (case c5 => k_is)
    (case k5 => k_is)
    (case a6 => k_is)
    (case l6 => k_is)
    (case c6 => k_is)
    (case k6 => k_is)
    (case a7 => k_is)
    (case l7 => k_is)
    (case c7 => k_is)
    (case k7 => k_is)
    (case a8 => k_is)
    (case l8 => k_is)
    (case c8 => k_is)
    (case k8 => k_is)
    (case a9 => k_is)
    (case l9 => k_is)
    (case c9 => k_is)
    (case k9 => k_is)
    (case a10 => k_is)
    (case l10 => k_is)
    (case c10 => k_is)
    (case k10 => k_is)
    (case a11 => k_is)
    (case l11 => k_is)
    (case c11 => k_is)
    (case k11 => k_is)
    (case a12 => k_is)
    (case l12 => k_is)
    (case c12 => k_is)
    (case k12 => k_is)
    (case a13 => k_is)
    (case l13 => k_is)
    (case c13 => k_is)
    (case k13 => k_is)
    (case a14 => k_is)
    (case l14 => k_is)
    (case c14 => k_is)
    (case k14 => k_is)
    (case a15 => k_is)
    (case l15 => k_is)
    (case c15 => k_is)
    (case k15 => k_is)
    (case a16 => k_is)
    (case l16 => k_is)
    (case c16 => k_is)
    (case k16 => k_is)
    (case a17 => k_is)
    (case l17 => k_is)
    (case c17 => k_is)
    (case k17 => k_is)
    (case a18 => k_is)
    (case l18 => k_is)
    (case c18 => k_is)
    (case k18 => k_is)
    (case a19 => k_is)
    (case l19 => k_is)
    (case c19 => k_is)
    (case k19 => k_is)
    (case a20 => k_is)
    (case l20 => k_is)
    (case c20 => k_is)
    (case k20 => k_is)
    (case a21 => k_is)
    (case l21 => k_is)
    (case c21 => k_is)
    (case k21 => k_is)
    (case a22 => k_is)
    (case l22 => k_is)
    (case c22 => k_is)
    (case k22 => k_is)
    (case a23 => k_is)
    (case l23 => k_is)
    (case c23 => k_is)
    (case k23 => k_is)
    (case a24 => k_is)
    (case l24 => k_is)
    (case c24 => k_is)
    (case k24 => k_is)
    (case a25 => k_is)
    (case l25 => k_is)
    (case c25 => k_is)
    (case k25 => k_is)
    (case a26 => k_is)
    (case l26 => k_is)
    (case c26 => k_is)
    (case k26 => k_is)
    (case a27 => k_is)
    (case l27 => k_is)
    (case c27 => k_is)
    (case k27 => k_is)
    (case a28 => k_is)
    (case l28 => k_is)
    (case c28 => k_is)
    (case k28 => k_is)
    (case z_all => k_is)
    (case z_bool => k_is)
    (case z_enumerate => k_is)
    (case z_int => k_is)
    (case z_isinstance => k_is)
    (case z_len => k_is)
    (case z_list => k_is)
    (case z_max => k_is)
    (case z_min => k_is)
    (case z_range => k_is)
    (case z_set => k_is)
    (case z_sorted => k_is)
    (case z_sum => k_is)
    (case z_tuple => k_is)
    (case z_zip => k_is)
    (case q_TOTAL_FORMS => k_is)
    (case lb0 => k_is)
    (case lb1 => k_is)
    (case lb2 => k_is)
    (case n_NoNumber => k_is)
    (case x_NoNumber => k_exc)
