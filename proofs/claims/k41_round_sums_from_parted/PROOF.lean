import PyProof.Rows.All
import Wide.All
import OpenK.AllK
import Wide.FinOn
import Lean
import PyProof.EqAt
import PyProof.EqKinds
import PyProof.TupleCall
import PyProof.CallFns
import PyProof.Draws
import PyProof.EnumMake
import PyProof.ExcArgsOwn
import PyProof.FactsAll.dict_1
import PyProof.FactsAll.dict_4
import PyProof.FactsAll.subtypes_4
import PyProof.FactsAll.tuple_2
import PyProof.ListMulRoad
import PyProof.ListRange
import PyProof.MaxThree
import PyProof.NeKinds
import PyProof.ReprRoads
import PyProof.Rows.CallKwBuiltin
import PyProof.Rows.EnumRows
import PyProof.Rows.SetFrom
import PyProof.Rows.SortRev
import PyProof.TupleOfStr
import PySem.Challenge.RW_tienumbers_k41_round_sums_from_parted
set_option Elab.async false
set_option linter.all false
set_option maxRecDepth 100000
set_option maxHeartbeats 4000000
namespace L2
open PySem PySem.Spec PyProof.Rows
abbrev Key := Sum Int Str
def keyIs : Key → Value → Bool
  | .inl k, v => Value.isInt k v
  | .inr x, v => Value.isStrOf x v
def keyH (w : World) : Key → Int
  | .inl k => hashInt k
  | .inr x => hashStr w x
theorem keyIs_shape : ∀ {k : Key} {v : Value}, keyIs k v = true → (∃ i t, k = Sum.inl i ∧ v = Value.int i t) ∨ (∃ x t, k = Sum.inr x ∧ v = Value.str x t)
  | .inl i, v, h => by
    obtain ⟨t, e⟩ := Value.isInt_shape (k := i) (v := v) h
    exact .inl ⟨i, t, rfl, e⟩
  | .inr x, v, h => by
    obtain ⟨t, e⟩ := Value.isStrOf_shape (x := x) (v := v) h
    exact .inr ⟨x, t, rfl, e⟩
theorem keyIs_int (i : Int) (t : Tok) : keyIs (.inl i) (.int i t) = true := by simp [keyIs, Value.isInt]
theorem keyIs_str (x : Str) (t : Tok) : keyIs (.inr x) (.str x t) = true := by simp [keyIs, Value.isStrOf]
theorem key_ll (a b : Int) : decide ((Sum.inl a : Key) = Sum.inl b) = (a == b) := by
  by_cases e : a = b
  · subst e; simp
  · have h : ¬ (Sum.inl a : Key) = Sum.inl b := fun q => e (Sum.inl.inj q)
    rw [decide_eq_false h]
    exact (beq_eq_false_iff_ne.mpr e).symm
theorem key_rr (a b : Str) : decide ((Sum.inr a : Key) = Sum.inr b) = decide (a = b) := by
  by_cases e : a = b
  · subst e; simp
  · have h : ¬ (Sum.inr a : Key) = Sum.inr b := fun q => e (Sum.inr.inj q)
    rw [decide_eq_false h, decide_eq_false e]
theorem key_lr (a : Int) (b : Str) : decide ((Sum.inl a : Key) = Sum.inr b) = false := decide_eq_false (fun q => nomatch q)
theorem key_rl (a : Str) (b : Int) : decide ((Sum.inr a : Key) = Sum.inl b) = false := decide_eq_false (fun q => nomatch q)
def mixKind (prog : Program) (w : World) : PySem.KeyKind prog w Key where
  is := keyIs
  hash := keyH w
  inj := fun v a b ha hb => by
    rcases keyIs_shape ha with ⟨i, t, rfl, rfl⟩ | ⟨x, t, rfl, rfl⟩
    · rcases keyIs_shape hb with ⟨j, u, rfl, e⟩ | ⟨y, u, rfl, e⟩
      · injection e with e1 _; rw [e1]
      · exact nomatch e
    · rcases keyIs_shape hb with ⟨j, u, rfl, e⟩ | ⟨y, u, rfl, e⟩
      · exact nomatch e
      · injection e with e1 _; rw [e1]
  byValue := fun k v h => by
    rcases keyIs_shape h with ⟨i, t, rfl, rfl⟩ | ⟨x, t, rfl, rfl⟩ <;> rfl
  pyHash := fun hv h => by
    rcases keyIs_shape hv with ⟨i, t, rfl, rfl⟩ | ⟨x, t, rfl, rfl⟩
    · exact wpAny_pyHash_int h
    · exact wpAny_pyHash_str h
  eqBool := fun hu hv h => by
    rcases keyIs_shape hu with ⟨i, t, rfl, rfl⟩ | ⟨x, t, rfl, rfl⟩
    · rcases keyIs_shape hv with ⟨j, u, rfl, rfl⟩ | ⟨y, u, rfl, rfl⟩
      · rw [key_ll] at h; exact wpAny_eqBool_int h
      · rw [key_lr] at h; exact SeqAt.EqAt.int_str i t y u _ _ _ _ h
    · rcases keyIs_shape hv with ⟨j, u, rfl, rfl⟩ | ⟨y, u, rfl, rfl⟩
      · rw [key_rl] at h; exact SeqAt.EqAt.str_int x t j u _ _ _ _ h
      · rw [key_rr] at h; exact wpAny_eqBool_str h
  «strs» := fun k x t v h => by
    rcases keyIs_shape h with ⟨i, u, rfl, e⟩ | ⟨y, u, rfl, e⟩
    · exact nomatch e
    · injection e with e1 _
      subst e1
      cases v <;> rfl
theorem mixKind_int (prog : Program) (w : World) (i : Int) (t : Tok) : (mixKind prog w).is (.inl i) (.int i t) = true := keyIs_int i t
theorem mixKind_str (prog : Program) (w : World) (x : Str) (t : Tok) : (mixKind prog w).is (.inr x) (.str x t) = true := keyIs_str x t
end L2
namespace L2
open PySem PySem.Spec PyProof.Rows
inductive V where
  | non | bl (b : Bool) | int (i : Int) | str (x : Str) | byt (b : Array UInt8) | flt (b : UInt64) | ref (a : Addr) | ty (n : String)
  deriving DecidableEq
def RelV : V → Value → Prop
  | .non, u => u = Value.none
  | .bl b, u => u = Value.bool b
  | .int i, u => ∃ t, u = Value.int i t
  | .str x, u => ∃ t, u = Value.str x t
  | .byt b, u => ∃ t, u = Value.bytes b t
  | .flt b, u => ∃ t, u = Value.float b t
  | .ref a, u => u = Value.ref a
  | .ty n, u => u = Value.type n
abbrev Vals : List V → List Value → Prop := Paired RelV
theorem Vals.length {xs : List V} {us : List Value} (r : Vals xs us) : xs.length = us.length := Paired.length r
theorem Vals.get : ∀ {xs : List V} {us : List Value} {i : Nat} {x : V}, Vals xs us → xs[i]? = some x → ∃ u, us[i]? = some u ∧ RelV x u
  | _, _, _, _, .nil, e => by simp at e
  | _, _, 0, _, .cons r _, e => by simp at e; subst e; exact ⟨_, rfl, r⟩
  | _, _, i + 1, x, .cons _ t, e => by
    obtain ⟨u, h1, h2⟩ := Vals.get (i := i) (x := x) t (by simpa using e)
    exact ⟨u, by simpa using h1, h2⟩
theorem Vals.set {x : V} {u : Value} (r : RelV x u) : ∀ {xs : List V} {us : List Value} (i : Nat), Vals xs us → Vals (xs.set i x) (us.set i u)
  | _, _, _, .nil => .nil
  | _, _, 0, .cons _ t => .cons r t
  | _, _, i + 1, .cons q t => .cons q (Vals.set r i t)
theorem Vals.append : ∀ {xs ys : List V} {us ws : List Value}, Vals xs us → Vals ys ws → Vals (xs ++ ys) (us ++ ws)
  | _, _, _, _, .nil, s => s
  | _, _, _, _, .cons r t, s => .cons r (Vals.append t s)
theorem Vals.take : ∀ {xs : List V} {us : List Value} (n : Nat), Vals xs us → Vals (xs.take n) (us.take n)
  | _, _, 0, _ => .nil
  | _, _, _ + 1, .nil => .nil
  | _, _, n + 1, .cons r t => .cons r (Vals.take n t)
theorem Vals.drop : ∀ {xs : List V} {us : List Value} (n : Nat), Vals xs us → Vals (xs.drop n) (us.drop n)
  | _, _, 0, r => r
  | _, _, _ + 1, .nil => .nil
  | _, _, n + 1, .cons _ t => Vals.drop n t
def RelO : Option V → Option Value → Prop
  | some v, some u => RelV v u
  | none, none => True
  | _, _ => False
def KV {κ : Type} : List (κ × V) → List (κ × Value) → Prop := Paired fun (p : κ × V) (q : κ × Value) => p.1 = q.1 ∧ RelV p.2 q.2
def kV : Key → V
  | .inl i => .int i
  | .inr x => .str x
inductive HO where
  | lst (xs : List V)
  | tup (xs : List V)
  | dK (kvs : List (Key × V)) | dT (kvs : List (List Key × V))
  | set (S : Int → Bool) (n : Nat)
  | ins (C dx : Addr) (fs : List (Str × V))
  | own (x : Addr)
  | xd (fs : List (Str × V))
  | met (f x : Addr)
  | rng (lo hi : Int)
  | frz (o : Obj) (u : HO)
  | tbl (ps : Array Value)
  | ext (φ : Heap → Prop)
abbrev Hp := Addr → Option HO
def upd (H : Hp) (a : Addr) (o : HO) : Hp := fun b => if b = a then some o else H b
theorem upd_same {H : Hp} {a : Addr} {o : HO} : upd H a o a = some o := by unfold upd; rw [if_pos rfl]
theorem upd_ne {H : Hp} {a b : Addr} {o : HO} (h : b ≠ a) : upd H a o b = H b := by unfold upd; rw [if_neg h]
theorem ne_of_none {H : Hp} {a b : Addr} {o : HO} (h : H a = some o) (h' : H b = none) : a ≠ b := by
  intro e; subst e; rw [h] at h'; cases h'
section
variable (P : Program) (w : World)
def ObjOk (H : Hp) (h : Heap) (a : Addr) : HO → Prop
  | .lst xs => xs.length ≤ sizeLine ∧ ∃ (its : List Value) (n : Nat), Vals xs its ∧ h.get? a = some { cls := .type "list", data := .seq its.toArray n }
  | .tup xs => xs.length ≤ sizeLine ∧ ∃ its : List Value, Vals xs its ∧ IsTup h a its.toArray
  | .dK kvs => kvs.length ≤ sizeLine ∧ (a == sysModules) = false ∧ ∃ vs, KV kvs vs ∧ h.DictOf (mixKind P w) a vs
  | .dT kvs => kvs.length ≤ sizeLine ∧ (a == sysModules) = false ∧ ∃ xs : List (List Key × Addr × Value),
      Paired (fun (p : List Key × V) (q : List Key × Addr × Value) => p.1 = q.1 ∧ H q.2.1 = some (.tup (p.1.map kV)) ∧ RelV p.2 q.2.2) kvs xs ∧
      ∃ o es ep, h.get? a = some o ∧ o.ExactDict ∧ o.data = .dict es ep ∧ es.toList = xs.map (entryOfKey (tupleKind (mixKind P w))) ∧ (xs.map (·.1)).Nodup
  | .set S n => h.SetOf (intKind P w) a S n
  | .ins C dx fs => H dx = some (.own a) ∧ fs.length ≤ 1000 ∧ dx ≠ a ∧ h.get? a = some (PySem.W.instObj C dx) ∧
      ∃ mA, h.Ns1 dx mA ∧ (∀ f, RelO (fs.lookup f) (mA f)) ∧ PySem.Within mA (fs.map (·.1))
  | .own _ => ∃ o, h.get? a = some o
  | .xd fs => ∃ mA, h.Ns1 a mA ∧ ∀ f, RelO (fs.lookup f) (mA f)
  | .rng lo hi => ∃ t u v, h.get? a = some { cls := .type "range", data := .fields #[.int lo t, .int hi u, .int 1 v] }
  | .frz o u => h.get? a = some o ∧ ObjOk H h a u
  | .tbl ps => h.get? a = some { cls := .none, data := .fields ps }
  | .met f x => h.get? a = some (PySem.W.methodObj (.ref f) (.ref x))
  | .ext φ => φ h ∧ (∃ o, h.get? a = some o) ∧ ∀ h1 h2 : Heap, φ h1 → (∀ o, h1.get? a = some o → h2.get? a = some o) → φ h2
def HOk (H : Hp) (h : Heap) : Prop := ∀ a o, H a = some o → ObjOk P w H h a o
end
section
variable {P : Program} {w : World} {H H' : Hp} {h h' : Heap} {a : Addr} {o : HO}
theorem ObjOk.lt (x : ObjOk P w H h a o) : a < h.objs.size := by
  cases o with
  | lst xs => obtain ⟨_, _, _, _, e⟩ := x; exact Heap.lt_size e
  | tup xs => obtain ⟨_, _, _, p⟩ := x; exact p.lt
  | dK kvs => obtain ⟨_, _, _, _, o, _, _, e, _⟩ := x; exact Heap.lt_size e
  | dT kvs => obtain ⟨_, _, _, _, o, _, _, e, _⟩ := x; exact Heap.lt_size e
  | set S n => obtain ⟨o, _, _, _, e, _⟩ := x; exact Heap.lt_size e
  | ins C dx fs => obtain ⟨_, _, _, e, _⟩ := x; exact Heap.lt_size e
  | own y => obtain ⟨_, e⟩ := x; exact Heap.lt_size e
  | xd fs => obtain ⟨_, ⟨_, _, _, e, _⟩, _⟩ := x; exact Heap.lt_size e
  | rng lo hi => obtain ⟨_, _, _, e⟩ := x; exact Heap.lt_size e
  | frz ob u => obtain ⟨e, _⟩ := x; exact Heap.lt_size e
  | tbl ps => exact Heap.lt_size (show h.get? a = some _ from x)
  | met f y => exact Heap.lt_size (show h.get? a = some _ from x)
  | ext φ => obtain ⟨_, ⟨_, e⟩, _⟩ := x; exact Heap.lt_size e
theorem Paired.mapP {α β : Type} {F G : α → β → Prop} : ∀ {l₁ : List α} {l₂ : List β}, Paired F l₁ l₂ → (∀ a b, F a b → G a b) → Paired G l₁ l₂
  | _, _, .nil, _ => .nil
  | _, _, .cons r t, f => .cons (f _ _ r) (Paired.mapP t f)
theorem ObjOk.stay (x : ObjOk P w H h a o) (k : ∀ b u, (b = a ∨ H b = some (.own a)) → h.get? b = some u → h'.get? b = some u)
    (ho : ∀ b, H b = some (.own a) → H' b = some (.own a)) (ht : ∀ b xs, H b = some (.tup xs) → H' b = some (.tup xs)) : ObjOk P w H' h' a o := by
  induction o with
  | lst xs => obtain ⟨z, its, n, r, e⟩ := x; exact ⟨z, its, n, r, k _ _ (.inl rfl) e⟩
  | tup xs => obtain ⟨z, its, r, ob, e, c⟩ := x; exact ⟨z, its, r, ob, k _ _ (.inl rfl) e, c⟩
  | dK kvs => obtain ⟨z, y, vs, r, ob, es, ep, e, c⟩ := x; exact ⟨z, y, vs, r, ob, es, ep, k _ _ (.inl rfl) e, c⟩
  | dT kvs =>
    obtain ⟨z, y, xs, r, ob, es, ep, e, c⟩ := x
    exact ⟨z, y, xs, Paired.mapP r fun p q z => ⟨z.1, ht _ _ z.2.1, z.2.2⟩, ob, es, ep, k _ _ (.inl rfl) e, c⟩
  | set S n => obtain ⟨ob, es, ep, t, e, c⟩ := x; exact ⟨ob, es, ep, t, k _ _ (.inl rfl) e, c⟩
  | ins C dx fs =>
    obtain ⟨d, z, ne, e, mA, ⟨od, es, ep, e2, c⟩, r⟩ := x
    exact ⟨ho _ d, z, ne, k _ _ (.inl rfl) e, mA, ⟨od, es, ep, k _ _ (.inr d) e2, c⟩, r⟩
  | own y => obtain ⟨ob, e⟩ := x; exact ⟨ob, k _ _ (.inl rfl) e⟩
  | xd fs => obtain ⟨mA, ⟨od, es, ep, e, c⟩, r⟩ := x; exact ⟨mA, ⟨od, es, ep, k _ _ (.inl rfl) e, c⟩, r⟩
  | rng lo hi => obtain ⟨t, u, v, e⟩ := x; exact ⟨t, u, v, k _ _ (.inl rfl) e⟩
  | frz ob u ih => obtain ⟨e, q⟩ := x; exact ⟨k _ _ (.inl rfl) e, ih q⟩
  | tbl ps =>
    have e : h.get? a = some { cls := .none, data := .fields ps } := x
    show h'.get? a = some { cls := .none, data := .fields ps }
    exact k a _ (.inl rfl) e
  | met f y =>
    have e : h.get? a = some (PySem.W.methodObj (.ref f) (.ref y)) := x
    show h'.get? a = some (PySem.W.methodObj (.ref f) (.ref y))
    exact k a _ (.inl rfl) e
  | ext φ => obtain ⟨p, ⟨o, e⟩, st⟩ := x; exact ⟨st _ _ p fun o q => k _ _ (.inl rfl) q, ⟨o, k _ _ (.inl rfl) e⟩, st⟩
theorem HOk.lt (x : HOk P w H h) (e : H a = some o) : a < h.objs.size := (x a o e).lt
theorem HOk.fresh (x : HOk P w H h) (e : h.objs.size ≤ a) : H a = none := by
  cases q : H a with
  | none => rfl
  | some u => exact absurd (Nat.lt_of_lt_of_le (x.lt q) e) (Nat.lt_irrefl _)
theorem HOk.kept (x : HOk P w H h) (k : ∀ b u, h.get? b = some u → h'.get? b = some u) : HOk P w H h' := fun a o e =>
  (x a o e).stay (fun b u _ q => k b u q) (fun _ q => q) fun _ _ q => q
theorem HOk.laid (x : HOk P w H h) (k : ∀ b u, h.get? b = some u → h'.get? b = some u) (hp : h.objs.size ≤ a) (new : ObjOk P w (upd H a o) h' a o) : HOk P w (upd H a o) h' := fun b u e => by
  have hn := x.fresh hp
  by_cases hb : b = a
  · subst hb; rw [upd_same] at e; cases e; exact new
  · rw [upd_ne hb] at e
    exact (x b u e).stay (fun c v _ q => k c v q) (fun c q => by rw [upd_ne (ne_of_none q hn)]; exact q) fun c xs q => by rw [upd_ne (ne_of_none q hn)]; exact q
end
def Rd (H : Hp) (a : Addr) (u : HO) : Prop := H a = some u ∨ ∃ o, H a = some (.frz o u)
theorem Rd.ok {P : Program} {w : World} {H : Hp} {h : Heap} {a : Addr} {u : HO} (r : Rd H a u) (x : HOk P w H h) : ObjOk P w H h a u := by
  rcases r with r | ⟨o, r⟩
  · exact x a u r
  · obtain ⟨_, q⟩ := x a _ r
    exact q
def Mut : Option HO → Prop
  | some (.lst _) => True
  | some (.dK _) => True
  | some (.dT _) => True
  | some (.set _ _) => True
  | some (.ins _ _ _) => True
  | some (.ext _) => True
  | _ => False
section
variable {P : Program} {w : World} {H : Hp} {h h' : Heap} {x e : Addr} {o' : HO}
theorem HOk.write (ok : HOk P w H h) (mu : Mut (H x)) (he : e = x ∨ H e = some (.own x)) (k : ∀ b u, b ≠ e → h.get? b = some u → h'.get? b = some u) (heo : ∃ u, h'.get? e = some u)
    (new : ObjOk P w (upd H x o') h' x o') : HOk P w (upd H x o') h' := fun b u q => by
  have nown : ∀ c y, H c = some (.own y) → c ≠ x := fun c y r z => by subst z; rw [r] at mu; exact mu
  have ntup : ∀ c xs, H c = some (.tup xs) → c ≠ x := fun c xs r z => by subst z; rw [r] at mu; exact mu
  by_cases hb : b = x
  · subst hb; rw [upd_same] at q; cases q; exact new
  · rw [upd_ne hb] at q
    by_cases hbe : b = e
    · have q' : H b = some (.own x) := by
        rcases he with z | z
        · exact absurd (hbe.trans z) hb
        · rw [hbe]; exact z
      rw [q] at q'; cases q'
      obtain ⟨v, hv⟩ := heo
      exact ⟨v, by rw [hbe]; exact hv⟩
    · refine (ok b u q).stay (fun c v hc r => k c v ?_ r) (fun c r => by rw [upd_ne (nown c b r)]; exact r) fun c xs r => by rw [upd_ne (ntup c xs r)]; exact r
      rcases hc with rfl | hc
      · exact hbe
      · rintro rfl
        rcases he with z | z
        · exact nown c b hc z
        · rw [hc] at z; cases z; exact hb rfl
end
structure Un (fs ex : List Addr) (H H' : Hp) (h h' : Heap) : Prop where
  keep : ∀ b o, h.get? b = some o → H b = none → b ∉ fs → b ∉ ex → h'.get? b = some o
  slot : ∀ b o, h.get? b = some o → H b = none → b ∈ fs → b ∉ ex → ∃ sl, h'.get? b = some { o with slots := sl }
  free : ∀ b o, h.get? b = some o → H b = none → b ∉ ex → H' b = none
  there : ∀ b o, h.get? b = some o → b ∉ ex → ∃ o', h'.get? b = some o'
  tups : ∀ b xs, H b = some (.tup xs) → H' b = some (.tup xs)
  frzs : ∀ b o u, H b = some (.frz o u) → H' b = some (.frz o u)
  tbls : ∀ b ps, H b = some (.tbl ps) → ∃ more, H' b = some (.tbl (ps ++ more))
section
variable {fs fs' ex ex' : List Addr} {H H1 H2 : Hp} {h h1 h2 h' : Heap} {a x e : Addr} {o : HO}
theorem Un.any (u : Un fs ex H H1 h h1) {b : Addr} {ob : Obj} (q : h.get? b = some ob) (n : H b = none) (hx : b ∉ ex) : ∃ sl, h1.get? b = some { ob with slots := sl } := by
  by_cases hb : b ∈ fs
  · exact u.slot b ob q n hb hx
  · exact ⟨ob.slots, u.keep b ob q n hb hx⟩
theorem Un.kept (k : ∀ b u, h.get? b = some u → h'.get? b = some u) : Un fs ex H H h h' :=
  ⟨fun b ob q _ _ _ => k b ob q, fun b ob q _ _ _ => ⟨ob.slots, k b ob q⟩, fun _ _ _ n _ => n, fun b ob q _ => ⟨ob, k b ob q⟩, fun _ _ q => q, fun _ _ _ q => q, fun _ ps q => ⟨#[], by rw [q]; simp⟩⟩
theorem Un.refl : Un fs ex H H h h := Un.kept fun _ _ q => q
theorem Un.laid (k : ∀ b u, h.get? b = some u → h'.get? b = some u) (hp : h.objs.size ≤ a) (hn : H a = none) : Un fs ex H (upd H a o) h h' where
  keep := fun b u q _ _ _ => k b u q
  slot := fun b u q _ _ _ => ⟨u.slots, k b u q⟩
  free := fun b u q n _ => by rw [upd_ne (Nat.ne_of_lt (Nat.lt_of_lt_of_le (Heap.lt_size q) hp))]; exact n
  there := fun b u q _ => ⟨u, k b u q⟩
  tups := fun b xs q => by rw [upd_ne (ne_of_none q hn)]; exact q
  frzs := fun b u xs q => by rw [upd_ne (ne_of_none q hn)]; exact q
  tbls := fun b ps q => ⟨#[], by rw [upd_ne (ne_of_none q hn), q]; simp⟩
theorem Un.write (mu : Mut (H x)) (he : e = x ∨ H e = some (.own x)) (k : ∀ b u, b ≠ e → h.get? b = some u → h'.get? b = some u) (heo : ∃ u, h'.get? e = some u) : Un fs ex H (upd H x o) h h' := by
  have hx : ∀ b, H b = none → b ≠ x := fun b n z => by subst z; rw [n] at mu; exact mu
  have hb : ∀ b, H b = none → b ≠ e := fun b n z => by
    subst z
    rcases he with r | r
    · exact hx b n r
    · rw [n] at r; cases r
  have hm : ∀ b u, H b = some u → ¬ Mut (some u) → b ≠ x := fun b u q nm z => by subst z; rw [q] at mu; exact nm mu
  refine ⟨fun b u q n _ _ => k b u (hb b n) q, fun b u q n _ _ => ⟨u.slots, k b u (hb b n) q⟩, fun b u q n _ => by rw [upd_ne (hx b n)]; exact n, fun b u q _ => ?_,
    fun b xs q => by rw [upd_ne (hm b _ q fun z => z)]; exact q, fun b u xs q => by rw [upd_ne (hm b _ q fun z => z)]; exact q, fun b ps q => ⟨#[], by rw [upd_ne (hm b _ q fun z => z), q]; simp⟩⟩
  by_cases hbe : b = e
  · subst hbe; exact heo
  · exact ⟨u, k b u hbe q⟩
end
def trk (h : Heap) (H : Hp) : List Addr := (List.range h.objs.size).filter fun a => (H a).isSome
def hidT (h : Heap) (H : Hp) : Heap := PySem.W.hideAll h (trk h H)
theorem hidT_size (h : Heap) (H : Hp) : (hidT h H).objs.size = h.objs.size := PySem.W.hideAll_size _ _
theorem hidT_get {h : Heap} {H : Hp} {b : Addr} {o : Obj} (e : h.get? b = some o) (n : H b = none) : (hidT h H).get? b = some o :=
  PySem.W.hideAll_get _ e fun hm => by
    have q : (H b).isSome = true := (List.mem_filter.mp hm).2
    rw [n] at q; simp at q
theorem of_hidT {h : Heap} {H : Hp} {b : Addr} {o : Obj} (e : (hidT h H).get? b = some o) : h.get? b = some o ∧ H b = none := by
  have e' : h.get? b = some o := PySem.W.of_hideAll (trk h H) e
  refine ⟨e', ?_⟩
  cases q : H b with
  | none => rfl
  | some x =>
    have hm : b ∈ trk h H := List.mem_filter.mpr ⟨List.mem_range.mpr (Heap.lt_size e'), by simp [q]⟩
    have z : (hidT h H).get? b = none := PySem.W.hideAll_none (trk h H) hm
    rw [z] at e; cases e
end L2
namespace L2
open PySem PySem.Spec PyProof.Rows
structure Mod (K : PySem.W.Frag) (mg : Str → Option Value) (base : Heap) : Prop where
  kin : K.In base
  glob : base.Ns mainGlobals mg
  blt : ∃ mb, base.Ns builtinsNs mb ∧ ∀ x : Str, x ≠ "__name__" → mb x = bootBuiltins x
  nolimit : base.NoLimit
structure Cx where
  prog : Program
  w : World
  K : PySem.W.Frag
  mg : Str → Option Value
  base : Heap
  A : Around
  N : List Str
  s₀ : Shared
  H₀ : Hp
  env : Env
  outer : List Env
  stack : List Env
  ex : List Addr
  fn : Str → Bool
  calm : Bool
  pn : List (Addr × Obj)
  xe : Value → Shared → Prop
def frs (l : List Env) : List Addr := l.filterMap (·.frame)
abbrev Cx.fs (X : Cx) : List Addr := frs X.outer
def Vis (sc : Scope) (x : Str) : Prop := sc.names.lookup x = some .local ∨ sc.names.lookup x = some .cell ∨ sc.names.lookup x = some .free
def Loc (sc : Scope) (x : Str) : Prop := sc.names.lookup x = some .local ∨ sc.names.lookup x = some .cell
def Look (env : Env) (h : Heap) (m : Str → Option Value) (x : Str) (u : Value) : Prop :=
  (env.kindOf x = some .local ∧ m x = some u) ∨ ((env.kindOf x = some .cell ∨ env.kindOf x = some .free) ∧ ∃ c, env.cells.lookup x = some c ∧ h.IsCell c (some u))
structure Cx.Ok (X : Cx) : Prop where
  mod : Mod X.K X.mg X.base
  kind : X.env.scope.kind = .function
  glob : X.env.globals = mainGlobals
  blt : X.env.builtins = builtinsNs
  above : X.s₀.heap.objs.size ≤ X.env.locals
  inj : ∀ x y c, X.env.cells.lookup x = some c → X.env.cells.lookup y = some c → x = y
  has : ∀ x, (X.env.kindOf x = some .cell ∨ X.env.kindOf x = some .free) → ∃ c, X.env.cells.lookup x = some c
  cab : ∀ x c, X.fn x = true → X.env.cells.lookup x = some c → X.s₀.heap.objs.size ≤ c
  hd : X.calm = true → X.A.handled = none
  frames : X.A.frames = some X.stack
  stk : X.stack = X.outer ∨ (X.stack = X.env :: X.outer ∧ X.env.frame = some X.env.locals)
  exf : ∀ b ∈ X.ex, b ≠ X.env.locals ∧ ∀ x c, X.env.cells.lookup x = some c → c ≠ b
  bs : ∀ b o, X.base.get? b = some o → X.s₀.heap.get? b = some o ∧ X.H₀ b = none
  bsz : X.base.objs.size ≤ X.s₀.heap.objs.size
  noex : ∀ b o, X.base.get? b = some o → b ∉ X.ex
  exfs : ∀ b ∈ X.ex, b ∉ X.fs
  funs : X.s₀.heap.FunFrames X.base X.outer
  frf : ∀ b ∈ X.fs, X.H₀ b = none
structure Inv (X : Cx) (pins : List (Addr × Obj)) (σ : List (Option V)) (H : Hp) (s : Shared) : Prop where
  ok : X.Ok
  os : s.os = X.s₀.os
  bare : AllBare s.gens
  base : Un X.fs X.ex X.H₀ H X.s₀.heap s.heap
  loc : ∃ m, s.heap.Ns X.env.locals m ∧ ∀ (i : Nat) (x : Str) (v : V), X.N[i]? = some x → σ[i]? = some (some v) → Vis X.env.scope x → ∃ u, RelV v u ∧ Look X.env s.heap m x u
  cell : ∀ x c, X.env.cells.lookup x = some c → ∃ v, s.heap.IsCell c v
  free : H X.env.locals = none
  freeC : ∀ x c, X.env.cells.lookup x = some c → H c = none
  pin : ∀ p ∈ X.pn ++ pins, s.heap.get? p.1 = some p.2 ∧ H p.1 = none ∧ p.1 ≠ X.env.locals ∧ p.1 ∉ X.fs ∧ ∀ v, p.2.data ≠ .cell v
  hok : HOk X.prog X.w H s.heap
  len : σ.length = X.N.length
section
variable {X : Cx} {pins : List (Addr × Obj)} {σ : List (Option V)} {H H' : Hp} {s : Shared} {h' : Heap}
theorem Cx.Ok.nofr (ok : X.Ok) {b : Addr} {o : Obj} (e : X.base.get? b = some o) : b ∉ X.fs := fun hb => by
  have := (ok.funs.mem hb).1
  rw [e] at this; cases this
theorem Inv.bs (I : Inv X pins σ H s) : ∀ b o, X.base.get? b = some o → s.heap.get? b = some o ∧ H b = none := fun b o e =>
  ⟨I.base.keep b o (I.ok.bs b o e).1 (I.ok.bs b o e).2 (I.ok.nofr e) (I.ok.noex b o e), I.base.free b o (I.ok.bs b o e).1 (I.ok.bs b o e).2 (I.ok.noex b o e)⟩
theorem Inv.bk (I : Inv X pins σ H s) : ∀ b o, X.base.get? b = some o → s.heap.get? b = some o := fun b o e => (I.bs b o e).1
theorem Inv.mod (I : Inv X pins σ H s) : Mod X.K X.mg X.base := I.ok.mod
theorem Inv.kIn (I : Inv X pins σ H s) : X.K.In s.heap := I.ok.mod.kin.keeps I.bk
theorem Inv.fr (I : Inv X pins σ H s) : ∃ m, Fr X.base X.env.locals s.heap m :=
  let ⟨m, hn, _⟩ := I.loc
  ⟨m, hn, I.bk, Nat.le_trans I.ok.bsz I.ok.above⟩
theorem Inv.lt (I : Inv X pins σ H s) : X.env.locals < s.heap.objs.size := let ⟨_, hn, _⟩ := I.loc; hn.lt
theorem Inv.sz (I : Inv X pins σ H s) : X.s₀.heap.objs.size ≤ s.heap.objs.size := Nat.le_trans I.ok.above (Nat.le_of_lt I.lt)
theorem Inv.nofs (I : Inv X pins σ H s) {a : Addr} (h : s.heap.objs.size ≤ a) : a ∉ X.fs := fun hb => by
  obtain ⟨_, o, ho, _⟩ := I.ok.funs.mem hb
  exact absurd (Nat.lt_of_lt_of_le (Heap.lt_size ho) (Nat.le_trans I.sz h)) (Nat.lt_irrefl _)
theorem Inv.cne (I : Inv X pins σ H s) : ∀ x c, X.env.cells.lookup x = some c → c ≠ X.env.locals := fun x c e z => by
  obtain ⟨v, o, ho, hd⟩ := I.cell x c e
  obtain ⟨m, ⟨o', es, ep, ho', hd', _⟩, _⟩ := I.loc
  rw [z, ho'] at ho; cases ho; rw [hd'] at hd; cases hd
theorem Inv.funs (I : Inv X pins σ H s) : s.heap.FunFrames X.base X.outer := by
  have all : ∀ (l : List Env), (∀ b ∈ frs l, b ∈ X.fs) → X.s₀.heap.FunFrames X.base l → s.heap.FunFrames X.base l := by
    intro l
    induction l with
    | nil => intro _ _; trivial
    | cons env r ih =>
      intro hs hl
      obtain ⟨hk, ⟨L, o, hf, hn, ho, hd⟩, hr⟩ := hl
      have hL : L ∈ X.fs := hs L (by unfold frs; rw [List.filterMap_cons, hf]; exact List.mem_cons_self)
      obtain ⟨sl, e⟩ := I.base.slot L o ho (I.ok.frf L hL) hL fun z => I.ok.exfs L z hL
      exact ⟨hk, ⟨L, _, hf, hn, e, hd⟩, ih (fun b hb => hs b (by unfold frs; rw [List.filterMap_cons, hf]; exact List.mem_cons_of_mem _ hb)) hr⟩
  exact all X.outer (fun _ hb => hb) I.ok.funs
theorem Inv.stack (I : Inv X pins σ H s) : s.heap.FunFrames X.base X.stack := by
  rcases I.ok.stk with e | ⟨e, hf⟩
  · rw [e]; exact I.funs
  · rw [e]
    obtain ⟨m, hn, _⟩ := I.loc
    refine .cons (by rw [I.ok.kind]; decide) hf hn ?_ I.funs
    exact Heap.get?_none_of_le (Nat.le_trans I.ok.bsz I.ok.above)
theorem Inv.stkSub (I : Inv X pins σ H s) : ∀ b ∈ frs X.stack, b ∈ X.env.locals :: X.fs := fun b hb => by
  rcases I.ok.stk with e | ⟨e, hf⟩
  · rw [e] at hb; exact List.mem_cons_of_mem _ hb
  · rw [e] at hb
    unfold frs at hb
    rw [List.filterMap_cons, hf] at hb
    exact hb
theorem Inv.stkFree (I : Inv X pins σ H s) : ∀ b ∈ frs X.stack, H b = none := fun b hb => by
  rcases List.mem_cons.mp (I.stkSub b hb) with e | hb
  · rw [e]; exact I.free
  · obtain ⟨_, o, ho, _⟩ := I.ok.funs.mem hb
    exact I.base.free b o ho (I.ok.frf b hb) fun z => I.ok.exfs b z hb
theorem Inv.step {g' : Array GenState} {t' : Nat} {d' : Drawn} {ch : List Addr} (I : Inv X pins σ H s)
    (hch : ∀ b ∈ ch, (b ∈ X.ex ∨ X.s₀.heap.objs.size ≤ b) ∧ b ≠ X.env.locals ∧ (∀ x c, X.env.cells.lookup x = some c → c ≠ b) ∧ ∀ p ∈ X.pn ++ pins, p.1 ≠ b)
    (keep : ∀ b o, b ≠ X.env.locals → b ∉ X.fs → b ∉ ch → s.heap.get? b = some o → H b = none → h'.get? b = some o)
    (slot : ∀ b o, b ≠ X.env.locals → b ∈ X.fs → b ∉ ch → s.heap.get? b = some o → H b = none → ∃ sl, h'.get? b = some { o with slots := sl }) (free : ∀ b o, b ∉ ch → s.heap.get? b = some o → H b = none → H' b = none)
    (there : ∀ b o, b ∉ ch → s.heap.get? b = some o → ∃ o', h'.get? b = some o')
    (tups : ∀ b xs, H b = some (.tup xs) → H' b = some (.tup xs)) (frzs : ∀ b o u, H b = some (.frz o u) → H' b = some (.frz o u)) (tbls : ∀ b ps, H b = some (.tbl ps) → ∃ more, H' b = some (.tbl (ps ++ more)))
    (ns : ∀ m, s.heap.Ns X.env.locals m → h'.Ns X.env.locals m) (hok : HOk X.prog X.w H' h') (hg : AllBare g') :
    Inv X pins σ H' { s with heap := h', gens := g', drawn := d', toks := t' } := by
  have neL : ∀ b o, X.s₀.heap.get? b = some o → b ≠ X.env.locals := fun b o e => Nat.ne_of_lt (Nat.lt_of_lt_of_le (Heap.lt_size e) I.ok.above)
  have neC : ∀ b o, X.s₀.heap.get? b = some o → b ∉ X.ex → b ∉ ch := fun b o e hx hb => by
    rcases (hch b hb).1 with z | z
    · exact hx z
    · exact absurd (Nat.lt_of_lt_of_le (Heap.lt_size e) z) (Nat.lt_irrefl _)
  have cellK : ∀ x c, X.env.cells.lookup x = some c → ∀ v, s.heap.IsCell c v → h'.IsCell c v := fun x c e v ⟨o, ho, hd⟩ => by
    have nch : c ∉ ch := fun z => (hch c z).2.2.1 x c e rfl
    by_cases hc : c ∈ X.fs
    · obtain ⟨sl, q⟩ := slot c o (I.cne x c e) hc nch ho (I.freeC x c e)
      exact ⟨_, q, hd⟩
    · exact ⟨o, keep c o (I.cne x c e) hc nch ho (I.freeC x c e), hd⟩
  refine ⟨I.ok, I.os, hg, ⟨fun b o e n hb hx => ?_, fun b o e n hb hx => ?_, fun b o e n hx => ?_, fun b o e hx => ?_, fun b xs e => tups b xs (I.base.tups b xs e), fun b o xs e => frzs b o xs (I.base.frzs b o xs e), fun b ps e => ?_⟩, ?_, fun x c e => ?_, ?_, fun x c e => ?_, fun p hp => ?_, hok, I.len⟩
  · exact keep b o (neL b o e) hb (neC b o e hx) (I.base.keep b o e n hb hx) (I.base.free b o e n hx)
  · obtain ⟨sl, e1⟩ := I.base.slot b o e n hb hx
    obtain ⟨sl', e2⟩ := slot b _ (neL b o e) hb (neC b o e hx) e1 (I.base.free b o e n hx)
    exact ⟨sl', e2⟩
  · obtain ⟨o', e1⟩ := I.base.there b o e hx
    exact free b o' (neC b o e hx) e1 (I.base.free b o e n hx)
  · obtain ⟨o', e1⟩ := I.base.there b o e hx
    exact there b o' (neC b o e hx) e1
  · obtain ⟨m1, e1⟩ := I.base.tbls b ps e
    obtain ⟨m2, e2⟩ := tbls b _ e1
    exact ⟨m1 ++ m2, by rw [e2, Array.append_assoc]⟩
  · obtain ⟨m, hn, hl⟩ := I.loc
    refine ⟨m, ns m hn, fun i x v e1 e2 e3 => ?_⟩
    obtain ⟨u, r, l⟩ := hl i x v e1 e2 e3
    refine ⟨u, r, ?_⟩
    rcases l with l | ⟨k, c, e, z⟩
    · exact .inl l
    · exact .inr ⟨k, c, e, cellK x c e _ z⟩
  · obtain ⟨v, z⟩ := I.cell x c e
    exact ⟨v, cellK x c e v z⟩
  · obtain ⟨m, ⟨o, _, _, ho, _⟩, _⟩ := I.loc
    exact free _ o (fun z => (hch _ z).2.1 rfl) ho I.free
  · obtain ⟨v, o, ho, hd⟩ := I.cell x c e
    exact free c o (fun z => (hch c z).2.2.1 x c e rfl) ho (I.freeC x c e)
  · obtain ⟨e, n, ne, nf, d⟩ := I.pin p hp
    have nch : p.1 ∉ ch := fun z => (hch p.1 z).2.2.2 p hp rfl
    exact ⟨keep p.1 p.2 ne nf nch e n, free p.1 p.2 nch e n, ne, nf, d⟩
theorem Inv.un {t' : Nat} (I : Inv X pins σ H s) (u : Un X.fs [] H H' s.heap h') (hok : HOk X.prog X.w H' h') : Inv X pins σ H' { s with heap := h', toks := t' } := by
  obtain ⟨m, ⟨o, es, ep, ho, r⟩, _⟩ := id I.loc
  obtain ⟨sl, hL⟩ := u.any ho I.free (by simp)
  exact I.step (g' := s.gens) (d' := s.drawn) (ch := []) (fun _ z => nomatch z) (fun b o _ hb _ e n => u.keep b o e n hb (by simp)) (fun b o _ hb _ e n => u.slot b o e n hb (by simp)) (fun b o _ e n => u.free b o e n (by simp)) (fun b o _ e => u.there b o e (by simp)) u.tups u.frzs u.tbls (fun m' hm => by
    obtain ⟨o', es', ep', ho', r'⟩ := hm
    rw [ho] at ho'; cases ho'
    exact ⟨_, es', ep', hL, r'⟩) hok I.bare
theorem Inv.call {g' : Array GenState} {t' : Nat} {d' : Drawn} {ch : List Addr} (I : Inv X pins σ H s) (u : Un (frs X.stack) ch H H' s.heap h') (hok : HOk X.prog X.w H' h') (hg : AllBare g')
    (hch : ∀ b ∈ ch, (b ∈ X.ex ∨ X.s₀.heap.objs.size ≤ b) ∧ b ≠ X.env.locals ∧ (∀ x c, X.env.cells.lookup x = some c → c ≠ b) ∧ ∀ p ∈ X.pn ++ pins, p.1 ≠ b) :
    Inv X pins σ H' { s with heap := h', gens := g', drawn := d', toks := t' } := by
  obtain ⟨m, ⟨o, es, ep, ho, r⟩, _⟩ := id I.loc
  obtain ⟨sl, hL⟩ := u.any ho I.free fun z => (hch _ z).2.1 rfl
  exact I.step (ch := ch) hch (fun b o hL hb hc e n => u.keep b o e n (fun z => (List.mem_cons.mp (I.stkSub b z)).elim hL hb) hc) (fun b o _ _ hc e n => u.any e n hc) (fun b o hc e n => u.free b o e n hc) (fun b o hc e => u.there b o e hc) u.tups u.frzs u.tbls (fun m' hm => by
    obtain ⟨o', es', ep', ho', r'⟩ := hm
    rw [ho] at ho'; cases ho'
    exact ⟨_, es', ep', hL, r'⟩) hok hg
theorem Inv.turned {t' : Nat} {it : Addr} (I : Inv X pins σ H s) (k : ∀ b o, b ≠ it → s.heap.get? b = some o → h'.get? b = some o) (hn : H it = none) (hL : it ≠ X.env.locals)
    (h1 : it ∈ X.ex ∨ X.s₀.heap.objs.size ≤ it) (h2 : ∀ x c, X.env.cells.lookup x = some c → c ≠ it) (h3 : ∀ p ∈ X.pn ++ pins, p.1 ≠ it) : Inv X pins σ H { s with heap := h', toks := t' } := by
  have nit : ∀ b u, H b = some u → b ≠ it := fun b u e z => by rw [z, hn] at e; cases e
  refine I.step (g' := s.gens) (d' := s.drawn) (ch := [it]) (fun b hb => ?_) (fun b o _ _ hc e _ => k b o (fun z => hc (by simp [z])) e) (fun b o _ _ hc e _ => ⟨o.slots, k b o (fun z => hc (by simp [z])) e⟩) (fun _ _ _ _ n => n)
    (fun b o hc e => ⟨o, k b o (fun z => hc (by simp [z])) e⟩) (fun _ _ e => e) (fun _ _ _ e => e) (fun b ps e => ⟨#[], by rw [e]; simp⟩) (fun m hm => ?_) (fun b u e => ?_) I.bare
  · have e : b = it := by simpa using hb
    subst e
    exact ⟨h1, hL, h2, h3⟩
  · obtain ⟨o, es, ep, ho, r⟩ := hm
    exact ⟨o, es, ep, k _ o (Ne.symm hL) ho, r⟩
  · refine (I.hok b u e).stay (fun c v hc q => k c v ?_ q) (fun _ q => q) fun _ _ q => q
    rcases hc with z | z
    · rw [z]; exact nit b u e
    · exact nit c _ z
theorem Inv.tok (I : Inv X pins σ H s) (t : Nat) : Inv X pins σ H { s with toks := t } := I.un (h' := s.heap) (t' := t) Un.refl I.hok
theorem Inv.kept {t' : Nat} (I : Inv X pins σ H s) (k : ∀ b u, s.heap.get? b = some u → h'.get? b = some u) : Inv X pins σ H { s with heap := h', toks := t' } := I.un (Un.kept k) (I.hok.kept k)
theorem Inv.laid {a : Addr} {o : HO} {t' : Nat} (I : Inv X pins σ H s) (k : ∀ b u, s.heap.get? b = some u → h'.get? b = some u) (hp : s.heap.objs.size ≤ a) (new : ObjOk X.prog X.w (upd H a o) h' a o) :
    Inv X pins σ (upd H a o) { s with heap := h', toks := t' } := I.un (Un.laid k hp (I.hok.fresh hp)) (I.hok.laid k hp new)
theorem Inv.write {x e : Addr} {o : HO} {t' : Nat} (I : Inv X pins σ H s) (mu : Mut (H x)) (he : e = x ∨ H e = some (.own x)) (k : ∀ b u, b ≠ e → s.heap.get? b = some u → h'.get? b = some u) (heo : ∃ u, h'.get? e = some u)
    (new : ObjOk X.prog X.w (upd H x o) h' x o) : Inv X pins σ (upd H x o) { s with heap := h', toks := t' } := I.un (Un.write mu he k heo) (I.hok.write mu he k heo new)
theorem Inv.weak {σ' : List (Option V)} (I : Inv X pins σ H s) (hl : σ'.length = σ.length) (w : ∀ (i : Nat) v, σ'[i]? = some (some v) → σ[i]? = some (some v)) : Inv X pins σ' H s :=
  ⟨I.ok, I.os, I.bare, I.base, let ⟨m, hn, hl'⟩ := I.loc; ⟨m, hn, fun i x v e1 e2 e3 => hl' i x v e1 (w i v e2) e3⟩, I.cell, I.free, I.freeC, I.pin, I.hok, hl.trans I.len⟩
theorem Inv.pins_of {pins' : List (Addr × Obj)} (I : Inv X pins σ H s) (h : ∀ p ∈ pins', s.heap.get? p.1 = some p.2 ∧ H p.1 = none ∧ p.1 ≠ X.env.locals ∧ p.1 ∉ X.fs ∧ ∀ v, p.2.data ≠ .cell v) : Inv X pins' σ H s :=
  ⟨I.ok, I.os, I.bare, I.base, I.loc, I.cell, I.free, I.freeC, fun p hp => (List.mem_append.mp hp).elim (fun z => I.pin p (List.mem_append_left _ z)) (h p), I.hok, I.len⟩
theorem nodup_ix {N : List Str} (hN : N.Nodup) {i j : Nat} {x : Str} (a : N[i]? = some x) (b : N[j]? = some x) : i = j := by
  obtain ⟨h1, e1⟩ := List.getElem?_eq_some_iff.mp a
  obtain ⟨h2, e2⟩ := List.getElem?_eq_some_iff.mp b
  exact (List.getElem_inj hN).mp (e1.trans e2.symm)
theorem store_ok2 {M : Model} {A : Around} {E : Value → Shared → Prop} {i : Nat} {x : Str} {v : V} {u : Value} {Q : Unit → Shared → Prop} (I : Inv X pins σ H s) (hN : X.N.Nodup) (hi : X.N[i]? = some x) (hx : Loc X.env.scope x) (r : RelV v u)
    (h : ∀ s', Inv X pins (σ.set i (some v)) H s' → (∃ a, Heap.SameBut a s.heap s'.heap ∧ (a = X.env.locals ∨ X.env.cells.lookup x = some a)) → Q () s') (hf : X.fn x = true ∨ X.env.scope.names.lookup x = some .local := by first | exact .inl rfl | exact .inr rfl | assumption) : wpAny M A (storeName X.env x u) Q E s := by
  obtain ⟨m, hn, hl⟩ := id I.loc
  have hcls : (X.env.scope.kind == .class || (X.env.scope.kind == .module && X.env.locals != X.env.globals)) = false := by rw [I.ok.kind]; rfl
  have hiσ : i < σ.length := by rw [I.len]; exact (List.getElem?_eq_some_iff.mp hi).1
  have cne := I.cne
  have tracked : ∀ {a : Addr} {h' : Heap}, (∃ o, s.heap.get? a = some o ∧ H a = none) → Heap.SameBut a s.heap h' → HOk X.prog X.w H h' := fun {a h'} ha hs b ob e => by
    obtain ⟨_, _, hfree⟩ := ha
    refine (I.hok b ob e).stay (fun c w' hc q => (hs.2 c ?_).trans q) (fun _ q => q) fun _ _ q => q
    rintro rfl
    rcases hc with rfl | hc
    · rw [hfree] at e; cases e
    · rw [hfree] at hc; cases hc
  rcases hx with hk | hk
  · refine wpAny_storeName_local hk hn (fun h' hn' hs => ?_) hcls
    obtain ⟨oL, _, _, hoL, _⟩ := id hn
    refine h _ ⟨I.ok, I.os, I.bare, ⟨fun b o e n hb hx => ?_, fun b o e n hb hx => ?_, I.base.free, fun b o e hx => ?_, I.base.tups, I.base.frzs, I.base.tbls⟩, ⟨_, hn', fun j y v' e1 e2 e3 => ?_⟩, fun y c e => ?_, I.free, I.freeC, fun p hp => ?_, tracked ⟨oL, hoL, I.free⟩ hs, by simpa using I.len⟩ ⟨_, hs, .inl rfl⟩
    · exact (hs.2 b (Nat.ne_of_lt (Nat.lt_of_lt_of_le (Heap.lt_size e) I.ok.above))).trans (I.base.keep b o e n hb hx)
    · obtain ⟨sl, e1⟩ := I.base.slot b o e n hb hx
      exact ⟨sl, (hs.2 b (Nat.ne_of_lt (Nat.lt_of_lt_of_le (Heap.lt_size e) I.ok.above))).trans e1⟩
    · obtain ⟨o', e1⟩ := I.base.there b o e hx
      exact ⟨o', (hs.2 b (Nat.ne_of_lt (Nat.lt_of_lt_of_le (Heap.lt_size e) I.ok.above))).trans e1⟩
    · by_cases hj : j = i
      · subst hj
        rw [hi] at e1; cases e1
        rw [List.getElem?_set_self hiσ] at e2
        cases e2
        exact ⟨u, r, .inl ⟨hk, by simp⟩⟩
      · rw [List.getElem?_set_ne (Ne.symm hj)] at e2
        obtain ⟨u', r', q⟩ := hl j y v' e1 e2 e3
        refine ⟨u', r', ?_⟩
        rcases q with ⟨k, e⟩ | ⟨k, c, e, z⟩
        · refine .inl ⟨k, ?_⟩
          have : y ≠ x := fun e => hj (nodup_ix hN e1 (e ▸ hi))
          simp [this, e]
        · exact .inr ⟨k, c, e, z.sameBut hs (cne y c e)⟩
    · obtain ⟨w', z⟩ := I.cell y c e
      exact ⟨w', z.sameBut hs (cne y c e)⟩
    · obtain ⟨e, n, ne, nf, d⟩ := I.pin p hp
      exact ⟨(hs.2 p.1 ne).trans e, n, ne, nf, d⟩
  · have hfn : X.fn x = true := by
      rcases hf with z | z
      · exact z
      · rw [z] at hk; cases hk
    obtain ⟨c, hc⟩ := I.ok.has x (.inl hk)
    obtain ⟨w', z⟩ := I.cell x c hc
    refine wpAny_storeName_cell I.ok.kind hk hc z (fun h' hc' hs => ?_)
    obtain ⟨oc, hoc, hocd⟩ := id z
    refine h { s with heap := h' } ⟨I.ok, I.os, I.bare, ⟨fun b o e n hb hx => ?_, fun b o e n hb hx => ?_, I.base.free, fun b o e hx => ?_, I.base.tups, I.base.frzs, I.base.tbls⟩, ⟨m, hn.sameBut hs (Ne.symm (cne x c hc)), fun j y v' e1 e2 e3 => ?_⟩, fun y c' e => ?_, I.free, I.freeC, fun p hp => ?_, tracked ⟨oc, hoc, I.freeC x c hc⟩ hs, by simpa using I.len⟩ ⟨c, hs, .inr hc⟩
    · exact (hs.2 b (Nat.ne_of_lt (Nat.lt_of_lt_of_le (Heap.lt_size e) (I.ok.cab x c hfn hc)))).trans (I.base.keep b o e n hb hx)
    · obtain ⟨sl, e1⟩ := I.base.slot b o e n hb hx
      exact ⟨sl, (hs.2 b (Nat.ne_of_lt (Nat.lt_of_lt_of_le (Heap.lt_size e) (I.ok.cab x c hfn hc)))).trans e1⟩
    · obtain ⟨o', e1⟩ := I.base.there b o e hx
      exact ⟨o', (hs.2 b (Nat.ne_of_lt (Nat.lt_of_lt_of_le (Heap.lt_size e) (I.ok.cab x c hfn hc)))).trans e1⟩
    · by_cases hj : j = i
      · subst hj
        rw [hi] at e1; cases e1
        rw [List.getElem?_set_self hiσ] at e2
        cases e2
        exact ⟨u, r, .inr ⟨.inl hk, c, hc, hc'⟩⟩
      · rw [List.getElem?_set_ne (Ne.symm hj)] at e2
        obtain ⟨u', r', q⟩ := hl j y v' e1 e2 e3
        refine ⟨u', r', ?_⟩
        rcases q with q | ⟨k, c', e, z'⟩
        · exact .inl q
        · refine .inr ⟨k, c', e, z'.sameBut hs ?_⟩
          rintro rfl
          exact hj (nodup_ix hN e1 (I.ok.inj _ _ _ e hc ▸ hi))
    · by_cases hcc : c' = c
      · subst hcc; exact ⟨_, hc'⟩
      · obtain ⟨w2, z2⟩ := I.cell y c' e
        exact ⟨w2, z2.sameBut hs hcc⟩
    · obtain ⟨e, n, ne, nf, d⟩ := I.pin p hp
      refine ⟨(hs.2 p.1 ?_).trans e, n, ne, nf, d⟩
      intro q
      rw [q, hoc] at e
      have q' : oc = p.2 := Option.some.inj e
      exact d w' (by rw [← q']; exact hocd)
theorem store_ok {M : Model} {A : Around} {E : Value → Shared → Prop} {i : Nat} {x : Str} {v : V} {u : Value} {Q : Unit → Shared → Prop} (I : Inv X pins σ H s) (hN : X.N.Nodup) (hi : X.N[i]? = some x) (hx : Loc X.env.scope x) (r : RelV v u)
    (h : ∀ s', Inv X pins (σ.set i (some v)) H s' → Q () s') (hf : X.fn x = true ∨ X.env.scope.names.lookup x = some .local := by first | exact .inl rfl | exact .inr rfl | assumption) : wpAny M A (storeName X.env x u) Q E s :=
  store_ok2 I hN hi hx r (fun s' I' _ => h s' I') hf
theorem Inv.call' {s' : Shared} {ch : List Addr} (I : Inv X pins σ H s) (ho : s'.os = s.os) (u : Un (frs X.stack) ch H H' s.heap s'.heap) (hok : HOk X.prog X.w H' s'.heap) (hg : AllBare s'.gens)
    (hch : ∀ b ∈ ch, (b ∈ X.ex ∨ X.s₀.heap.objs.size ≤ b) ∧ b ≠ X.env.locals ∧ (∀ x c, X.env.cells.lookup x = some c → c ≠ b) ∧ ∀ p ∈ X.pn ++ pins, p.1 ≠ b) : Inv X pins σ H' s' := by
  obtain ⟨h', g', d', t', o'⟩ := s'
  have e : o' = s.os := ho
  subst e
  exact I.call (g' := g') (t' := t') (d' := d') u hok hg hch
end
abbrev XK := Value → Option Addr → Hp → Prop
abbrev St := List (Option V)
abbrev VK := V → Hp → Prop
abbrev TE := St → Hp → VK → Prop
abbrev TT := St → Hp → (Bool → Hp → Prop) → Prop
abbrev TA := St → Hp → (List V → Hp → Prop) → Prop
structure Ends where
  nx : St → Hp → Prop
  rt : VK
  bk : St → Hp → Prop := fun _ _ => False
  ct : St → Hp → Prop := fun _ _ => False
abbrev TS := Ends → St → Hp → Prop
def EP (X : Cx) (pins : List (Addr × Obj)) (σ : St) (Q : VK) (u : Value) (s' : Shared) : Prop := ∃ v H', Inv X pins σ H' s' ∧ RelV v u ∧ Q v H'
def TP (X : Cx) (pins : List (Addr × Obj)) (σ : St) (Q : Bool → Hp → Prop) (b : Bool) (s' : Shared) : Prop := ∃ H', Inv X pins σ H' s' ∧ Q b H'
def AP (X : Cx) (pins : List (Addr × Obj)) (σ : St) (Q : List V → Hp → Prop) (us : List Value) (s' : Shared) : Prop := ∃ vs H', Inv X pins σ H' s' ∧ Vals vs us ∧ Q vs H'
def SP (X : Cx) (pins : List (Addr × Obj)) (D : Ends) (f : Flow) (s' : Shared) : Prop :=
  match f with
  | .next => ∃ σ' H', Inv X pins σ' H' s' ∧ D.nx σ' H'
  | .brk => ∃ σ' H', Inv X pins σ' H' s' ∧ D.bk σ' H'
  | .cont => ∃ σ' H', Inv X pins σ' H' s' ∧ D.ct σ' H'
  | .ret u => ∃ v σ' H', Inv X pins σ' H' s' ∧ RelV v u ∧ D.rt v H'
def PE (X : Cx) (e : Expr) (t : TE) : Prop :=
  ∀ (pins : List (Addr × Obj)) (s : Shared) (σ : St) (H : Hp) (Q : VK), Inv X pins σ H s → t σ H Q → wpAny (model X.prog X.w) X.A (eval e X.env) (EP X pins σ Q) X.xe s
def PT (X : Cx) (e : Expr) (t : TT) : Prop :=
  ∀ (pins : List (Addr × Obj)) (s : Shared) (σ : St) (H : Hp) (Q : Bool → Hp → Prop), Inv X pins σ H s → t σ H Q → wpAny (model X.prog X.w) X.A (isTrue e X.env (eval e X.env)) (TP X pins σ Q) X.xe s
def PW (X : Cx) (e : Expr) (t : TT) : Prop :=
  ∀ (whole : Sem Value) (pins : List (Addr × Obj)) (s : Shared) (σ : St) (H : Hp) (Q : Bool → Hp → Prop), Inv X pins σ H s → t σ H Q → wpAny (model X.prog X.w) X.A (isTrue e X.env whole) (TP X pins σ Q) X.xe s
theorem PW.pt {X : Cx} {e : Expr} {t : TT} (h : PW X e t) : PT X e t := h _
def PA (X : Cx) (es : List Expr) (t : TA) : Prop :=
  ∀ (pos : Pos) (pins : List (Addr × Obj)) (s : Shared) (σ : St) (H : Hp) (Q : List V → Hp → Prop), Inv X pins σ H s → t σ H Q → wpAny (model X.prog X.w) X.A (spliced (backTo pos (starEach es X.env))) (AP X pins σ Q) X.xe s
def PS (X : Cx) (st : Stmt) (t : TS) : Prop :=
  ∀ (pins : List (Addr × Obj)) (s : Shared) (σ : St) (H : Hp) (D : Ends), Inv X pins σ H s → t D σ H → wpAny (model X.prog X.w) X.A (exec st X.env) (SP X pins D) X.xe s
def PSs (X : Cx) (st : List Stmt) (t : TS) : Prop :=
  ∀ (pins : List (Addr × Obj)) (s : Shared) (σ : St) (H : Hp) (D : Ends), Inv X pins σ H s → t D σ H → wpAny (model X.prog X.w) X.A (execs st X.env) (SP X pins D) X.xe s
theorem thn {α : Type} {t : Sem α} {Q Q' : α → Shared → Prop} {M : Model} {A : Around} {E : Value → Shared → Prop} {s : Shared} (h : wpAny M A t Q E s) (hQ : ∀ a s, Q a s → Q' a s) : wpAny M A t Q' E s := wpAny_mono h hQ fun _ _ x => x
end L2
namespace L2
open PySem PySem.Spec PyProof.Rows
section
variable {X : Cx}
theorem bin {a b : Expr} {ta tb : TE} (ha : PE X a ta) (hb : PE X b tb) {pins : List (Addr × Obj)} {s : Shared} {σ : St} {H : Hp} {R : V → V → Hp → Prop} (I : Inv X pins σ H s) (h : ta σ H fun x H1 => tb σ H1 fun y H2 => R x y H2)
    {α : Type} {Q : α → Shared → Prop} {f : Value → Value → Sem α}
    (hf : ∀ v u s2 x y H2, Inv X pins σ H2 s2 → RelV x v → RelV y u → R x y H2 → wpAny (model X.prog X.w) X.A (f v u) Q X.xe s2) :
    wpAny (model X.prog X.w) X.A (eval a X.env) (fun v s₁ => wpAny (model X.prog X.w) X.A (eval b X.env) (fun u s₂ => wpAny (model X.prog X.w) X.A (f v u) Q X.xe s₂) X.xe s₁) X.xe s := by
  refine thn (ha pins s σ H _ I h) fun v s1 ⟨x, H1, I1, r1, q1⟩ => ?_
  refine thn (hb pins s1 σ H1 _ I1 q1) fun u s2 ⟨y, H2, I2, r2, q2⟩ => ?_
  exact hf v u s2 x y H2 I2 r1 r2 q2
def tVar (i : Nat) : TE := fun σ H Q => ∃ v, σ[i]? = some (some v) ∧ Q v H
def tC (v : V) : TE := fun _ H Q => Q v H
theorem pe_var {i : Nat} {x : Str} {pos : Pos} (hN : X.N[i]? = some x) (hv : Vis X.env.scope x) (hd : (x == ("__debug__" : Str)) = false := by decide) (hcd : (x == ("__classdict__" : Str)) = false := by decide) : PE X (.Name x pos) (tVar i) := by
  intro pins s σ H Q I h
  obtain ⟨v, e, h⟩ := h
  obtain ⟨m, hn, hl⟩ := I.loc
  obtain ⟨u, r, l⟩ := hl i x v hN e hv
  have fin : EP X pins σ Q u s := ⟨v, H, I, r, h⟩
  rcases l with ⟨hk, hm⟩ | ⟨hk, c, hc, hcell⟩
  · exact wpAny_Name (wpAny_loadName_local I.ok.kind hk hn hm fin) hd
  · rcases hk with hk | hk
    · exact wpAny_Name (wpAny_loadName_cell I.ok.kind hk hc hcell fin) hd
    · exact wpAny_Name (wpAny_loadName_free I.ok.kind hk hc hcell fin hcd) hd
theorem pe_int {i j pos} : PE X (.Constant (.int i) j pos) (tC (.int i)) := fun _ _ _ H _ I h => wpAny_Constant_int ⟨.int i, H, I.tok _, ⟨_, rfl⟩, h⟩
theorem pe_bl {b j pos} : PE X (.Constant (.bool b) j pos) (tC (.bl b)) := fun _ _ _ H _ I h => Constant_bool ⟨.bl b, H, I, rfl, h⟩
theorem pe_non {j pos} : PE X (.Constant .none j pos) (tC .non) := fun _ _ _ H _ I h => Constant_none ⟨.non, H, I, rfl, h⟩
def Gl (X : Cx) (x : Str) : Prop := X.env.kindOf x = some .globalImplicit
theorem ld_glob {E : Value → Shared → Prop} {pins : List (Addr × Obj)} {s : Shared} {σ : St} {H : Hp} {x : Str} {u : Value} {pos : Pos} {Q : Value → Shared → Prop} (I : Inv X pins σ H s) (hg : Gl X x) (hm : X.mg x = some u) (h : Q u s)
    (hd : (x == ("__debug__" : Str)) = false := by decide) : wpAny (model X.prog X.w) X.A (eval (.Name x pos) X.env) Q E s :=
  Calls.Name_function_global I.ok.kind hg (Calls.loadGlobal_global (by rw [I.ok.glob]; exact I.mod.glob.keeps I.bk) hm h) hd
theorem ld_blt {E : Value → Shared → Prop} {pins : List (Addr × Obj)} {s : Shared} {σ : St} {H : Hp} {x : Str} {u : Value} {pos : Pos} {Q : Value → Shared → Prop} (I : Inv X pins σ H s) (hg : Gl X x) (hm : X.mg x = none) (hv : bootBuiltins x = some u) (h : Q u s)
    (hn : x ≠ "__name__" := by decide) (hd : (x == ("__debug__" : Str)) = false := by decide) : wpAny (model X.prog X.w) X.A (eval (.Name x pos) X.env) Q E s := by
  obtain ⟨mb, h1, h2⟩ := I.mod.blt
  exact Calls.Name_function_global I.ok.kind hg (Calls.loadGlobal_builtin (by rw [I.ok.glob]; exact I.mod.glob.keeps I.bk) hm (by rw [I.ok.blt]; exact h1.keeps I.bk) ((h2 x hn).trans hv) h) hd
theorem pe_bltn {x : Str} {v : V} {u : Value} {pos : Pos} (hg : Gl X x) (hm : X.mg x = none) (hv : bootBuiltins x = some u) (r : RelV v u) (hn : x ≠ "__name__" := by decide) (hd : (x == ("__debug__" : Str)) = false := by decide) : PE X (.Name x pos) (tC v) :=
  fun _ _ _ H _ I h => ld_blt I hg hm hv ⟨v, H, I, r, h⟩ hn hd
variable {a b : Expr} {ta tb : TE} {pos : Pos}
variable {tA tB' : TT} {rest : List Expr}
def tOr (t u : TT) : TT := fun σ H Q => t σ H fun c H1 => if c = true then Q true H1 else u σ H1 Q
def tNot (t : TT) : TT := fun σ H Q => t σ H fun c H1 => Q (!c) H1
theorem pw_or1 (ha : PT X a tA) : PW X (.BoolOp .Or [a] pos) tA := by
  intro wh pins s σ H Q I h
  refine isTrue_or (thn (ha pins s σ H Q I h) fun c s1 e => ?_)
  cases c with
  | false => exact isTrue_or_nil e
  | true => exact e
theorem pw_or (ha : PT X a tA) (hb : PW X (.BoolOp .Or (b :: rest) pos) tB') : PW X (.BoolOp .Or (a :: b :: rest) pos) (tOr tA tB') := by
  intro wh pins s σ H Q I h
  refine isTrue_or (thn (ha pins s σ H _ I h) fun c s1 ⟨H1, I1, q1⟩ => ?_)
  cases c with
  | true => exact ⟨H1, I1, q1⟩
  | false => exact hb wh pins s1 σ H1 Q I1 q1
theorem pt_not (ha : PT X a tA) : PT X (.UnaryOp .Not a pos) (tNot tA) := by
  intro pins s σ H Q I h
  exact isTrue_not (ha pins s σ H (fun c H1 => Q (!c) H1) I h)
def tAndV (ta tb : TE) : TE := fun σ H Q => ta σ H fun x H1 => ∃ c, x = .bl c ∧ if c = true then tb σ H1 Q else Q (.bl false) H1
def tNotV (ta : TE) : TE := fun σ H Q => ta σ H fun x H1 => ∃ c, x = .bl c ∧ Q (.bl (!c)) H1
theorem pe_one {op} {t : TE} (h : PE X a t) : PE X (.BoolOp op [a] pos) t := fun pins s σ H Q I hw => BoolOp_one (h pins s σ H Q I hw)
theorem pe_and (ha : PE X a ta) (hb : PE X (.BoolOp .And (b :: rest) pos) tb) : PE X (.BoolOp .And (a :: b :: rest) pos) (tAndV ta tb) := by
  intro pins s σ H Q I h
  refine BoolOp_and (thn (ha pins s σ H _ I h) fun v s1 ⟨x, H1, I1, r1, q1⟩ => ?_)
  obtain ⟨c, rfl, q1⟩ := q1
  cases r1
  refine wpAny_truthy_bool ?_
  cases c with
  | true => exact hb pins s1 σ H1 Q I1 q1
  | false => exact ⟨.bl false, H1, I1, rfl, q1⟩
theorem pe_not (ha : PE X a ta) : PE X (.UnaryOp .Not a pos) (tNotV ta) := by
  intro pins s σ H Q I h
  refine UnaryOp_ (thn (ha pins s σ H _ I h) fun v s1 ⟨x, H1, I1, r1, q1⟩ => ?_)
  obtain ⟨c, rfl, q1⟩ := q1
  cases r1
  exact not_of (wpAny_truthy_bool ⟨.bl (!c), H1, I1, rfl, q1⟩)
def tIf (t : TT) (ta tb : TE) : TE := fun σ H Q => t σ H fun c H1 => if c = true then ta σ H1 Q else tb σ H1 Q
theorem pe_ifExp {c : Expr} (hc : PT X c tA) (ha : PE X a ta) (hb : PE X b tb) : PE X (.IfExp c a b pos) (tIf tA ta tb) := by
  intro pins s σ H Q I h
  refine wpAny_IfExp (thn (hc pins s σ H _ I h) fun d s1 ⟨H1, I1, q1⟩ => ?_)
  cases d with
  | true => exact ha pins s1 σ H1 Q I1 q1
  | false => exact hb pins s1 σ H1 Q I1 q1
end
end L2
namespace L2
open PySem PySem.Spec PyProof.Rows
def SqL (K : PySem.W.Frag) (H : Hp) (a : Addr) (xs : List V) : Prop :=
  Rd H a (.lst xs) ∨
    ∃ (o : Obj) (its : Array Value) (n : Nat), K.lookup a = some o ∧ o.cls = .type "list" ∧ o.dict = none ∧ o.data = .seq its n ∧ its.size ≤ sizeLine ∧ Vals xs its.toList
def SqT (K : PySem.W.Frag) (H : Hp) (a : Addr) (xs : List V) : Prop :=
  Rd H a (.tup xs) ∨
    ∃ (o : Obj) (its : Array Value) (n : Nat), K.lookup a = some o ∧ o.cls = .type "tuple" ∧ o.data = .seq its n ∧ its.size ≤ sizeLine ∧ Vals xs its.toList
def absV : Value → Option V
  | .none => some .non
  | .bool b => some (.bl b)
  | .int i _ => some (.int i)
  | .str x _ => some (.str x)
  | .bytes b _ => some (.byt b)
  | .float b _ => some (.flt b)
  | .ref a => some (.ref a)
  | .type n => some (.ty n)
  | _ => none
theorem RelV.abs {x : V} {u : Value} (r : RelV x u) : absV u = some x := by
  cases x with
  | non => cases r; rfl
  | bl _ => cases r; rfl
  | int _ => obtain ⟨t, rfl⟩ := r; rfl
  | str _ => obtain ⟨t, rfl⟩ := r; rfl
  | byt _ => obtain ⟨t, rfl⟩ := r; rfl
  | flt _ => obtain ⟨t, rfl⟩ := r; rfl
  | ref _ => cases r; rfl
  | ty _ => cases r; rfl
theorem RelV.inj {x y : V} {u : Value} (r : RelV x u) (q : RelV y u) : x = y := Option.some.inj (r.abs.symm.trans q.abs)
theorem Vals.inj : ∀ {xs ys : List V} {us : List Value}, Vals xs us → Vals ys us → xs = ys
  | _, _, _, .nil, .nil => rfl
  | _, _, _, .cons r t, .cons r' t' => by rw [r.inj r', Vals.inj t t']
section
variable {X : Cx} {pins : List (Addr × Obj)} {σ : St} {H : Hp} {s : Shared} {a : Addr} {xs ys : List V}
theorem Inv.list (I : Inv X pins σ H s) (h : SqL X.K H a xs) : ∃ its : List Value, Vals xs its ∧ PlainL s.heap a its.toArray ∧ xs.length ≤ sizeLine := by
  rcases h with h | ⟨o, its, n, hk, hc, hd, hs, hz, r⟩
  · obtain ⟨z, its, n, r, e⟩ := h.ok I.hok
    exact ⟨its, r, ⟨_, n, e, rfl, rfl, rfl⟩, z⟩
  · refine ⟨its.toList, r, ⟨o, n, I.kIn a o hk, hc, hd, by simpa using hs⟩, ?_⟩
    have e := r.length
    simp only [Array.length_toList] at e
    omega
theorem Inv.tuple (I : Inv X pins σ H s) (h : SqT X.K H a xs) : ∃ its : List Value, Vals xs its ∧ IsTup s.heap a its.toArray ∧ xs.length ≤ sizeLine := by
  rcases h with h | ⟨o, its, n, hk, hc, hs, hz, r⟩
  · obtain ⟨z, its, r, p⟩ := h.ok I.hok
    exact ⟨its, r, p, z⟩
  · refine ⟨its.toList, r, ⟨o, I.kIn a o hk, hc, n, by simpa using hs⟩, ?_⟩
    have e := r.length
    simp only [Array.length_toList] at e
    omega
theorem Inv.list_inj (I : Inv X pins σ H s) (h : SqL X.K H a xs) (h' : SqL X.K H a ys) : xs = ys := by
  obtain ⟨its, r, ⟨o, n, e, _, _, d⟩, _⟩ := I.list h
  obtain ⟨its', r', ⟨o', n', e', _, _, d'⟩, _⟩ := I.list h'
  rw [e] at e'; cases e'
  rw [d] at d'
  injection d' with d1 _
  have : its = its' := by simpa using congrArg Array.toList d1
  subst this
  exact r.inj r'
theorem Inv.tuple_inj (I : Inv X pins σ H s) (h : SqT X.K H a xs) (h' : SqT X.K H a ys) : xs = ys := by
  obtain ⟨its, r, ⟨o, e, _, n, d⟩, _⟩ := I.tuple h
  obtain ⟨its', r', ⟨o', e', _, n', d'⟩, _⟩ := I.tuple h'
  rw [e] at e'; cases e'
  rw [d] at d'
  injection d' with d1 _
  have : its = its' := by simpa using congrArg Array.toList d1
  subst this
  exact r.inj r'
end
abbrev Cx.wish (X : Cx) (E : Value → Shared → Prop) : Cx := { X with xe := E }
abbrev Cx.nox (X : Cx) : Cx := X.wish fun _ _ => False
theorem Cx.Ok.wish {X : Cx} (ok : X.Ok) (E : Value → Shared → Prop) : (X.wish E).Ok :=
  ⟨ok.mod, ok.kind, ok.glob, ok.blt, ok.above, ok.inj, ok.has, ok.cab, ok.hd, ok.frames, ok.stk, ok.exf, ok.bs, ok.bsz, ok.noex, ok.exfs, ok.funs, ok.frf⟩
theorem Cx.Ok.unwish {X : Cx} {E : Value → Shared → Prop} (ok : (X.wish E).Ok) : X.Ok :=
  ⟨ok.mod, ok.kind, ok.glob, ok.blt, ok.above, ok.inj, ok.has, ok.cab, ok.hd, ok.frames, ok.stk, ok.exf, ok.bs, ok.bsz, ok.noex, ok.exfs, ok.funs, ok.frf⟩
section
variable {X : Cx} {pins : List (Addr × Obj)} {σ : St} {H : Hp} {s : Shared} {E : Value → Shared → Prop}
theorem Inv.wish (I : Inv X pins σ H s) (E : Value → Shared → Prop) : Inv (X.wish E) pins σ H s := ⟨I.ok.wish E, I.os, I.bare, I.base, I.loc, I.cell, I.free, I.freeC, I.pin, I.hok, I.len⟩
theorem Inv.unwish (I : Inv (X.wish E) pins σ H s) : Inv X pins σ H s := ⟨I.ok.unwish, I.os, I.bare, I.base, I.loc, I.cell, I.free, I.freeC, I.pin, I.hok, I.len⟩
theorem SP.unwish {D : Ends} {f : Flow} {s' : Shared} (h : SP (X.wish E) pins D f s') : SP X pins D f s' := by
  cases f with
  | next => obtain ⟨σ', H', I, q⟩ := h; exact ⟨σ', H', I.unwish, q⟩
  | brk => obtain ⟨σ', H', I, q⟩ := h; exact ⟨σ', H', I.unwish, q⟩
  | cont => obtain ⟨σ', H', I, q⟩ := h; exact ⟨σ', H', I.unwish, q⟩
  | ret u => obtain ⟨v, σ', H', I, r, q⟩ := h; exact ⟨v, σ', H', I.unwish, r, q⟩
end
section
variable {X : Cx} {st : Stmt} {rest : List Stmt} {t u : TS} {e : Expr} {te : TE} {pos : Pos}
def tNext : TS := fun D σ H => D.nx σ H
def tSeq (t u : TS) : TS := fun D σ H => t { D with nx := u D } σ H
theorem pss_nil : PSs X [] tNext := fun _ _ σ H _ I h => wpAny_execs_nil ⟨σ, H, I, h⟩
theorem pss_cons (h1 : PS X st t) (h2 : PSs X rest u) : PSs X (st :: rest) (tSeq t u) := by
  intro pins s σ H D I h
  refine wpAny_execs_cons (thn (h1 pins s σ H { D with nx := u D } I h) fun f s1 q => ?_)
  cases f with
  | next =>
    obtain ⟨σ', H', I', q⟩ := q
    exact h2 pins s1 σ' H' D I' q
  | ret v => exact q
  | brk => exact q
  | cont => exact q
theorem pss_one (h1 : PS X st t) : PSs X [st] t := by
  intro pins s σ H D I h
  refine wpAny_execs_cons (thn (h1 pins s σ H D I h) fun f s1 q => ?_)
  cases f with
  | next => exact wpAny_execs_nil q
  | ret v => exact q
  | brk => exact q
  | cont => exact q
theorem Inv.quiet {pins : List (Addr × Obj)} {σ : St} {H : Hp} {s : Shared} (I : Inv X pins σ H s) : interactive X.env = false := by simp [interactive, I.ok.kind]
def tDrop (te : TE) : TS := fun D σ H => te σ H fun _ H1 => D.nx σ H1
theorem ps_expr (he : PE X e te) (hs : swapsWith e none pos.line X.env = pure false := by rfl) : PS X (.Expr e pos) (tDrop te) := by
  intro pins s σ H D I h
  exact wpAny_Expr_any (thn (he pins s σ H _ I h) fun v s1 ⟨x, H1, I1, r1, q1⟩ => ⟨σ, H1, I1, q1⟩) I.quiet hs
def tRet (te : TE) : TS := fun D σ H => te σ H D.rt
theorem ps_ret (he : PE X e te) : PS X (.Return (some e) pos) (tRet te) := by
  intro pins s σ H D I h
  exact wpAny_Return_some (thn (he pins s σ H _ I h) fun v s1 ⟨x, H1, I1, r1, q1⟩ => ⟨x, σ, H1, I1, r1, q1⟩)
def tIfS (c : TT) (t u : TS) : TS := fun D σ H => c σ H fun b H1 => if b = true then t D σ H1 else u D σ H1
theorem ps_if {c : Expr} {a b : List Stmt} {tc : TT} (hc : PT X c tc) (ha : PSs X a t) (hb : PSs X b u) : PS X (.If c a b pos) (tIfS tc t u) := by
  intro pins s σ H D I h
  refine wpAny_If (thn (hc pins s σ H _ I h) fun d s1 ⟨H1, I1, q1⟩ => ?_)
  cases d with
  | true => exact ha pins s1 σ H1 D I1 q1
  | false => exact hb pins s1 σ H1 D I1 q1
end
abbrev TG := V → St → Hp → (St → Hp → Prop) → Prop
abbrev TGs := List V → St → Hp → (St → Hp → Prop) → Prop
def PG (X : Cx) (target : Expr) (t : TG) : Prop :=
  ∀ (pins : List (Addr × Obj)) (s : Shared) (σ : St) (H : Hp) (v : V) (u : Value) (Q : St → Hp → Prop), Inv X pins σ H s → RelV v u → t v σ H Q →
    wpAny (model X.prog X.w) X.A (assign target X.env u) (fun _ s' => ∃ σ' H', Inv X pins σ' H' s' ∧ Q σ' H') X.xe s
def PGs (X : Cx) (ts : List Expr) (t : TGs) : Prop :=
  ∀ (pins : List (Addr × Obj)) (s : Shared) (σ : St) (H : Hp) (vs : List V) (us : List Value) (Q : St → Hp → Prop), Inv X pins σ H s → Vals vs us → t vs σ H Q →
    wpAny (model X.prog X.w) X.A (assignInOrder ((assignEach ts X.env).map (·.2)) us) (fun _ s' => ∃ σ' H', Inv X pins σ' H' s' ∧ Q σ' H') X.xe s
abbrev TSet := V → V → V → Hp → (Hp → Prop) → Prop
def PSet (X : Cx) (t : TSet) : Prop :=
  ∀ (pins : List (Addr × Obj)) (s : Shared) (σ : St) (H : Hp) (o i v : V) (ov iv u : Value) (Q : Hp → Prop), Inv X pins σ H s → RelV o ov → RelV i iv → RelV v u → t o i v H Q →
    wpAny (model X.prog X.w) X.A (setItem ov iv u) (fun _ s' => ∃ H', Inv X pins σ H' s' ∧ Q H') X.xe s
section
variable {X : Cx} {pos : Pos}
def gName (i : Nat) : TG := fun v σ H Q => Q (σ.set i (some v)) H
theorem pg_name {i : Nat} {x : Str} (hN : X.N.Nodup) (hi : X.N[i]? = some x) (hx : Loc X.env.scope x) (hf : X.fn x = true ∨ X.env.scope.names.lookup x = some .local := by first | exact .inl rfl | exact .inr rfl | assumption) : PG X (.Name x pos) (gName i) := by
  intro pins s σ H v u Q I r h
  exact wpAny_assign_Name (store_ok I hN hi hx r (fun s' I' => ⟨_, H, I', h⟩) hf)
def gNil : TGs := fun vs σ H Q => vs = [] ∧ Q σ H
def gCons (t : TG) (u : TGs) : TGs := fun vs σ H Q => ∃ v r, vs = v :: r ∧ t v σ H fun σ' H' => u r σ' H' Q
theorem pgs_nil : PGs X [] gNil := by
  intro pins s σ H vs us Q I r h
  obtain ⟨e, h⟩ := h
  subst e
  cases r
  exact assignInOrder_nil ⟨σ, H, I, h⟩
theorem pgs_cons {e : Expr} {es : List Expr} {t : TG} {u : TGs} (h1 : PG X e t) (h2 : PGs X es u)
    (hs : (assignEach (e :: es) X.env).map (·.2) = assign e X.env :: (assignEach es X.env).map (·.2) := by rfl) : PGs X (e :: es) (gCons t u) := by
  intro pins s σ H vs us Q I r h
  obtain ⟨v, vr, e1, h⟩ := h
  subst e1
  cases r with
  | cons r rr =>
    rw [hs]
    refine assignInOrder_cons (thn (h1 pins s σ H _ _ _ I r h) fun _ s1 ⟨σ1, H1, I1, q1⟩ => ?_)
    exact h2 pins s1 σ1 H1 _ _ Q I1 rr q1
def gTup (K : PySem.W.Frag) (n : Nat) (t : TGs) : TG := fun v σ H Q => ∃ a xs, v = .ref a ∧ SqT K H a xs ∧ xs.length = n ∧ t xs σ H Q
theorem pg_tup {es : List Expr} {k : Nat} {t : TGs} {n : Nat} (hc : X.calm = true) (h : PGs X es t)
    (hn : (assignEach es X.env).length = n := by rfl) (hst : (assignEach es X.env).findIdx? (·.1) = none := by rfl) : PG X (.Tuple es k pos) (gTup X.K n t) := by
  intro pins s σ H v u Q I r hw
  obtain ⟨a, xs, e1, hq, hl, hw⟩ := hw
  subst e1
  cases r
  obtain ⟨its, rv, ht, hz⟩ := I.tuple hq
  refine assign_Tuple_tuple (I.ok.hd hc) ht (by simp [hn, ← hl, rv.length]) hst fun h' hx => ?_
  have I1 : Inv X pins σ H { s with heap := h' } := I.kept (t' := s.toks) fun b o e => hx b o (Nat.ne_of_lt (Heap.lt_size e)) e
  exact h pins _ σ H xs _ Q I1 (by simpa using rv) hw
def gSub (to ti : TE) (t : TSet) : TG := fun v σ H Q => to σ H fun o H1 => ti σ H1 fun i H2 => t o i v H2 fun H3 => Q σ H3
theorem pg_sub {o i : Expr} {to ti : TE} {t : TSet} (ho : PE X o to) (hi : PE X i ti) (hs : PSet X t)
    (ha : ∀ v, assign (.Subscript o i pos) X.env v = (do
      let ov ← holding [v] (eval o X.env)
      let iv ← holding [v, ov] (eval i X.env)
      standAt pos
      holding [v, ov, iv] (setItem ov iv v)
      release [v, ov, iv] []) := by intro _; rfl) : PG X (.Subscript o i pos) (gSub to ti t) := by
  intro pins s σ H v u Q I r h
  rw [ha]
  refine wpAny_bind (wpAny_holding (thn (ho pins s σ H _ I h) fun ov s1 ⟨x, H1, I1, r1, q1⟩ => ?_))
  refine wpAny_bind (wpAny_holding (thn (hi pins s1 σ H1 _ I1 q1) fun iv s2 ⟨y, H2, I2, r2, q2⟩ => ?_))
  refine wpAny_bind (wpAny_standAt (wpAny_bind (wpAny_holding (thn (hs pins s2 σ H2 x y v ov iv u _ I2 r1 r2 r q2) fun _ s3 ⟨H3, I3, q3⟩ => ?_))))
  exact wpAny_release ⟨σ, H3, I3, q3⟩
def tAsg (te : TE) (g : TG) : TS := fun D σ H => te σ H fun x H1 => g x σ H1 D.nx
theorem ps_asg {tg e : Expr} {te : TE} {g : TG} (he : PE X e te) (hg : PG X tg g) (hs : swapsWithSole [tg] e pos.line X.env = pure false := by rfl) (hw : swappedStores [tg] e X.env = pure none := by rfl)
    (h1 : (assignEach [tg] X.env).map (·.2) = [assign tg X.env] := by rfl) : PS X (.Assign [tg] e pos) (tAsg te g) := by
  intro pins s σ H D I h
  refine wpAny_Assign_stores (thn (he pins s σ H _ I h) fun v s1 ⟨x, H1, I1, r1, q1⟩ => ?_) hs hw
  rw [h1]
  exact thn (hg pins s1 σ H1 x v _ I1 r1 q1) fun _ s2 q => q
theorem ps_set {i : Nat} {x : Str} {e : Expr} {te : TE} {pos' : Pos} (hN : X.N.Nodup) (hi : X.N[i]? = some x) (hx : Loc X.env.scope x) (he : PE X e te) (hs : swapsWith e (some (.Name x pos')) pos.line X.env = pure false := by rfl) (hf : X.fn x = true ∨ X.env.scope.names.lookup x = some .local := by first | exact .inl rfl | exact .inr rfl | assumption) :
    PS X (.Assign [.Name x pos'] e pos) (tAsg te (gName i)) := by
  intro pins s σ H D I h
  refine wpAny_Assign_Name (thn (he pins s σ H _ I h) fun v s1 ⟨y, H1, I1, r1, q1⟩ => ?_) hs
  exact store_ok I1 hN hi hx r1 (fun s2 I2 => ⟨_, H1, I2, q1⟩) hf
end
section
variable {X : Cx} {pos : Pos}
end
structure It where
  go : Nat → Hp → Prop
  yld : Nat → Hp → V → Hp → Prop
  stop : Nat → Hp → Prop
def FpOk (X : Cx) (pins : List (Addr × Obj)) (H : Hp) (b : Addr) : Prop :=
  H b = none ∧ b ≠ X.env.locals ∧ b ∉ X.fs ∧ (b ∈ X.ex ∨ X.s₀.heap.objs.size ≤ b) ∧ (∀ x c, X.env.cells.lookup x = some c → c ≠ b) ∧ ∀ p ∈ X.pn ++ pins, p.1 ≠ b
theorem Inv.fpOk {X : Cx} {pins : List (Addr × Obj)} {σ : St} {H H' : Hp} {s : Shared} {b : Addr} (I : Inv X pins σ H s) (hb : s.heap.objs.size ≤ b) (hn : H' b = none) : FpOk X pins H' b := by
  refine ⟨hn, Nat.ne_of_gt (Nat.lt_of_lt_of_le I.lt hb), I.nofs hb, .inr (Nat.le_trans I.sz hb), fun x c e z => ?_, fun p hp z => ?_⟩
  · obtain ⟨v, q⟩ := I.cell x c e
    exact absurd (Nat.lt_of_lt_of_le q.lt (by rw [z]; exact hb)) (Nat.lt_irrefl _)
  · exact absurd (Nat.lt_of_lt_of_le (Heap.lt_size (I.pin p hp).1) (by rw [z]; exact hb)) (Nat.lt_irrefl _)
structure Turn (P : Program) (w : World) (K : PySem.W.Frag) (tg : Expr) (J : It) (fp : List Addr) (it : Addr) (tn : Nat → Heap → Prop) : Prop where
  mem : it ∈ fp
  obj : ∀ i h, tn i h → ∀ b ∈ fp, ∃ o, h.get? b = some o ∧ ∀ v, o.data ≠ .cell v
  keep : ∀ i h h', tn i h → (∀ b ∈ fp, ∀ o, h.get? b = some o → h'.get? b = some o) → tn i h'
  item : ∀ (X : Cx), X.prog = P → X.w = w → X.K = K → X.calm = true → ∀ (i : Nat) (pins : List (Addr × Obj)) (s : Shared) (σ : St) (H : Hp) (E : Value → Shared → Prop), Inv X pins σ H s → (∀ b ∈ fp, FpOk X pins H b) → tn i s.heap → J.go i H →
    wpAny (model P w) X.A (pyNext (.ref it)) (fun r s1 => ∃ u, r = some u ∧
      wpAny (model P w) X.A (letOwnedTupleGo tg (.ref it) u) (fun _ s2 => ∃ x H', Inv X pins σ H' s2 ∧ RelV x u ∧ J.yld i H x H' ∧ tn (i + 1) s2.heap ∧ ∀ b ∈ fp, H' b = none) E s1) E s
  done : ∀ (X : Cx), X.prog = P → X.w = w → X.K = K → X.calm = true → ∀ (i : Nat) (pins : List (Addr × Obj)) (s : Shared) (σ : St) (H : Hp) (E : Value → Shared → Prop), Inv X pins σ H s → (∀ b ∈ fp, FpOk X pins H b) → tn i s.heap → J.stop i H →
    wpAny (model P w) X.A (pyNext (.ref it)) (fun r s1 => r = none ∧ Inv X pins σ H s1) E s
  self : ∀ (A : Around) (i : Nat) (s : Shared) (Q : Value → Shared → Prop) (E : Value → Shared → Prop), tn i s.heap → Q (.ref it) s → wpAny (model P w) A (pyIter (.ref it)) Q E s
abbrev TI := St → Hp → (It → Hp → Prop) → Prop
def PIE (X : Cx) (pins : List (Addr × Obj)) (σ : St) (tg : Expr) (R : It → Hp → Prop) (itv : Value) (s2 : Shared) : Prop :=
  ∃ (it : Addr) (fp : List Addr) (tn : Nat → Heap → Prop) (J : It) (H' : Hp), itv = .ref it ∧ Inv X pins σ H' s2 ∧ Turn X.prog X.w X.K tg J fp it tn ∧ tn 0 s2.heap ∧ (∀ b ∈ fp, FpOk X pins H' b) ∧ R J H'
def PI (X : Cx) (tg iter : Expr) (wi : TI) : Prop :=
  ∀ (pins : List (Addr × Obj)) (s : Shared) (σ : St) (H : Hp) (R : It → Hp → Prop), Inv X pins σ H s → wi σ H R →
    wpAny (model X.prog X.w) X.A (eval iter X.env) (fun v s1 => wpAny (model X.prog X.w) X.A (pyIter v) (PIE X pins σ tg R) X.xe s1) X.xe s
theorem go_of {M : Model} {A : Around} {E : Value → Shared → Prop} {s : Shared} {tg : Expr} {it : Addr} {u : Value} {o : Obj} {n : String} {vs : Array Value} {Q : Unit → Shared → Prop} (ho : s.heap.get? it = some o) (hc : o.cls = .type n) (hd : o.data = .fields vs)
    (hn : ["enumerate", "zip", "dict_itemiterator", "dict_reverseitemiterator", "odict_iterator", "itertools.zip_longest", "itertools.pairwise"].contains n = false) (hQ : Q () s) : wpAny M A (letOwnedTupleGo tg (.ref it) u) Q E s := by
  unfold letOwnedTupleGo
  cases tg <;> first
    | exact wpAny_pure hQ
    | (cases u <;> first
        | exact wpAny_pure hQ
        | (refine wpAny_bind (wpAny_load ho ?_)
           rw [hc, hd]
           show wpAny M A (if (["enumerate", "zip", "dict_itemiterator", "dict_reverseitemiterator", "odict_iterator", "itertools.zip_longest", "itertools.pairwise"].contains n && vs[0]? == some (rawInt _)) = true then _ else _) Q E s
           rw [if_neg (by intro h; rw [hn, Bool.false_and] at h; cases h)]
           exact wpAny_pure hQ))
def Itl (K : PySem.W.Frag) (a : Addr) : It :=
  ⟨fun i H => ∃ xs x, SqL K H a xs ∧ xs[i]? = some x, fun i H x H' => H' = H ∧ ∀ xs, SqL K H a xs → xs[i]? = some x, fun i H => ∃ xs, SqL K H a xs ∧ xs.length ≤ i⟩
def Itt (K : PySem.W.Frag) (a : Addr) : It :=
  ⟨fun i H => ∃ xs x, SqT K H a xs ∧ xs[i]? = some x, fun i H x H' => H' = H ∧ ∀ xs, SqT K H a xs → xs[i]? = some x, fun i H => ∃ xs, SqT K H a xs ∧ xs.length ≤ i⟩
def Itr (lo : Int) (n : Nat) : It := ⟨fun i _ => i < n, fun i H x H' => H' = H ∧ x = .int (lo + i), fun i _ => n ≤ i⟩
theorem turn_list {P : Program} {w : World} {K : PySem.W.Frag} {tg : Expr} (a it : Addr) : Turn P w K tg (Itl K a) [it] it (fun i h => h.IsListIter it a i) where
  mem := by simp
  obj := fun i h st b hb => by
    have e : b = it := by simpa using hb
    subst e
    obtain ⟨o, e, c, d⟩ := st
    exact ⟨o, e, fun v z => by rw [d] at z; cases z⟩
  keep := fun i h h' st k => st.at fun o e => k it (by simp) o e
  item := by
    intro X hP hw hK hc i pins s σ H E I hf st hg
    subst hP hw hK
    obtain ⟨xs, x, hq, hx⟩ := hg
    obtain ⟨its, rv, p, hz⟩ := I.list hq
    obtain ⟨u, hu, ru⟩ := rv.get hx
    obtain ⟨f0, f1, f2, f3, f4, f5⟩ := hf it (by simp)
    refine wpAny_pyNext_list_item st p.isList (x := u) (by simpa using hu) fun h' st' sb => ?_
    have I1 : Inv X pins σ H { s with heap := h' } := I.turned (t' := s.toks) (fun b o hb e => (sb.2 b hb).trans e) f0 f1 f3 f4 f5
    obtain ⟨o, e, c, d⟩ := id st'
    exact ⟨u, rfl, go_of (s := { s with heap := h' }) e c d (by decide) ⟨x, H, I1, ru, ⟨rfl, fun ys hy => by rw [I.list_inj hy hq]; exact hx⟩, st', fun b hb => (hf b hb).1⟩⟩
  done := by
    intro X hP hw hK hc i pins s σ H E I hf st hg
    subst hP hw hK
    obtain ⟨xs, hq, hx⟩ := hg
    obtain ⟨its, rv, p, hz⟩ := I.list hq
    obtain ⟨f0, f1, f2, f3, f4, f5⟩ := hf it (by simp)
    have hl := rv.length
    exact wpAny_pyNext_list_end (I.ok.hd hc) st p.isList (by simp; omega) fun h' eb => ⟨rfl, I.turned (t' := s.toks) (fun b o hb e => eb b o hb e) f0 f1 f3 f4 f5⟩
  self := fun _ _ _ _ _ st h => wpAny_pyIter_listiter st h
theorem turn_tuple {P : Program} {w : World} {K : PySem.W.Frag} {tg : Expr} (a it : Addr) : Turn P w K tg (Itt K a) [it] it (fun i h => h.IsTupleIter it a i) where
  mem := by simp
  obj := fun i h st b hb => by
    have e : b = it := by simpa using hb
    subst e
    obtain ⟨o, e, c, d⟩ := st
    exact ⟨o, e, fun v z => by rw [d] at z; cases z⟩
  keep := fun i h h' st k => st.at fun o e => k it (by simp) o e
  item := by
    intro X hP hw hK hc i pins s σ H E I hf st hg
    subst hP hw hK
    obtain ⟨xs, x, hq, hx⟩ := hg
    obtain ⟨its, rv, p, hz⟩ := I.tuple hq
    obtain ⟨u, hu, ru⟩ := rv.get hx
    obtain ⟨f0, f1, f2, f3, f4, f5⟩ := hf it (by simp)
    refine wpAny_pyNext_tuple_item st (show s.heap.IsTuple a its.toArray from p) (x := u) (by simpa using hu) fun h' st' sb => ?_
    have I1 : Inv X pins σ H { s with heap := h' } := I.turned (t' := s.toks) (fun b o hb e => (sb.2 b hb).trans e) f0 f1 f3 f4 f5
    obtain ⟨o, e, c, d⟩ := id st'
    exact ⟨u, rfl, go_of (s := { s with heap := h' }) e c d (by decide) ⟨x, H, I1, ru, ⟨rfl, fun ys hy => by rw [I.tuple_inj hy hq]; exact hx⟩, st', fun b hb => (hf b hb).1⟩⟩
  done := by
    intro X hP hw hK hc i pins s σ H E I hf st hg
    subst hP hw hK
    obtain ⟨xs, hq, hx⟩ := hg
    obtain ⟨its, rv, p, hz⟩ := I.tuple hq
    obtain ⟨f0, f1, f2, f3, f4, f5⟩ := hf it (by simp)
    have hl := rv.length
    exact wpAny_pyNext_tuple_end (I.ok.hd hc) st (show s.heap.IsTuple a its.toArray from p) (by simp; omega) fun h' eb => ⟨rfl, I.turned (t' := s.toks) (fun b o hb e => eb b o hb e) f0 f1 f3 f4 f5⟩
  self := fun _ _ _ _ _ st h => wpAny_pyIter_tupleiter st h
theorem turn_range {P : Program} {w : World} {K : PySem.W.Frag} {tg : Expr} (it : Addr) (lo : Int) (n : Nat) : Turn P w K tg (Itr lo n) [it] it (fun i h => IsRangeIter h it (lo + (i : Nat) * 1) ((n : Int) - (i : Nat)) 1) where
  mem := by simp
  obj := fun i h st b hb => by
    have e : b = it := by simpa using hb
    subst e
    exact ⟨_, st, fun v z => by
      have z' : Data.fields _ = Data.cell v := z
      cases z'⟩
  keep := fun i h h' st k => k it (by simp) _ st
  item := by
    intro X hP hw hK hc i pins s σ H E I hf st hg
    subst hP hw hK
    obtain ⟨f0, f1, f2, f3, f4, f5⟩ := hf it (by simp)
    have W := Walks.range (prog := X.prog) (w := X.w) (I.ok.hd hc) it lo 1 n
    refine W.item i s _ _ hg st fun v h' tk hv st' kk => ?_
    obtain ⟨t, rfl⟩ := hv
    have I1 : Inv X pins σ H { s with heap := h', toks := tk } := I.turned (fun b o hb e => kk b o (by simpa using hb) e) f0 f1 f3 f4 f5
    refine ⟨_, rfl, go_of (s := { s with heap := h', toks := tk }) (n := "range_iterator") st' rfl rfl (by decide) ⟨.int (lo + i), H, I1, ⟨t, ?_⟩, ⟨rfl, rfl⟩, st', fun b hb => (hf b hb).1⟩⟩
    rw [Int.mul_one]
  done := by
    intro X hP hw hK hc i pins s σ H E I hf st hg
    subst hP hw hK
    obtain ⟨f0, f1, f2, f3, f4, f5⟩ := hf it (by simp)
    exact wpAny_pyNext_range_end (I.ok.hd hc) st (by have : n ≤ i := hg; omega) fun h' eb => ⟨rfl, I.turned (t' := s.toks) (fun b o hb e => eb b o hb e) f0 f1 f3 f4 f5⟩
  self := fun _ _ _ _ _ st h => wpAny_pyIter_rangeiter st h
end L2
namespace L2
open PySem PySem.Spec PyProof.Rows
section
variable {X : Cx} {tg : Expr}
theorem range_it {pins : List (Addr × Obj)} {σ : St} {H : Hp} {s : Shared} {R : It → Hp → Prop} {E : Value → Shared → Prop} {lo hi : Int} {t u v : Tok} {tk : Nat} (I : Inv X pins σ H s) (h1 : -(2 ^ 62) ≤ lo) (h2 : lo < 2 ^ 62) (h3 : -(2 ^ 62) ≤ hi) (h4 : hi < 2 ^ 62)
    (q : R (Itr lo (hi - lo).toNat) H) : wpAny (model X.prog X.w) X.A (pyIter (.ref s.heap.objs.size)) (PIE X pins σ tg R) E { s with heap := s.heap.push { cls := .type "range", data := .fields #[.int lo t, .int hi u, .int 1 v] }, toks := tk } := by
  refine wpAny_pyIter_range (IsRange.new ..) (small_one h1 h2 h3 h4) ?_
  have I1 : Inv X pins σ H { s with heap := s.heap.push { cls := .type "range", data := .fields #[.int lo t, .int hi u, .int 1 v] }, toks := tk } := I.kept fun b o e => Heap.get?_push_of_some _ e
  refine ⟨(s.heap.push { cls := .type "range", data := .fields #[.int lo t, .int hi u, .int 1 v] }).objs.size, [(s.heap.push { cls := .type "range", data := .fields #[.int lo t, .int hi u, .int 1 v] }).objs.size], _, _, H, rfl,
    I1.kept (t' := tk) fun b o e => Heap.get?_push_of_some _ e, turn_range _ lo (hi - lo).toNat, ?_, fun b hb => ?_, q⟩
  · have e1 : lo + ((0 : Nat) : Int) * 1 = lo := by simp
    have e2 : (((hi - lo).toNat : Nat) : Int) - ((0 : Nat) : Int) = Builtin.Range.rangeSize lo hi 1 := by rw [rangeSize_one]; split <;> omega
    show IsRangeIter _ _ (lo + ((0 : Nat) : Int) * 1) ((((hi - lo).toNat : Nat) : Int) - ((0 : Nat) : Int)) 1
    rw [e1, e2]
    exact Heap.get?_push_size _ rfl
  · have e : b = (s.heap.push { cls := .type "range", data := .fields #[.int lo t, .int hi u, .int 1 v] }).objs.size := by simpa using hb
    subst e
    exact I1.fpOk (Nat.le_refl _) (I1.hok.fresh (Nat.le_refl _))
def iRng1 (ta : TA) : TI := fun σ H R => ta σ H fun vs H1 => ∃ j : Int, vs = [.int j] ∧ -(2 ^ 62) ≤ j ∧ j < 2 ^ 62 ∧ R (Itr 0 j.toNat) H1
theorem pi_range1 {a : Expr} {ta : TA} {p pos : Pos} (hg : Gl X "range") (hm : X.mg "range" = none) (ha : PA X [a] ta) (hs : starEach [a] X.env = [(false, eval a X.env)] := by rfl) : PI X tg (.Call (.Name "range" p) [a] [] pos) (iRng1 ta) := by
  intro pins s σ H R I h
  refine Call_ (ld_blt I hg hm boot_range (PyProof.Rows.callWith_type1 (thn (ha pos pins s σ H _ I h) fun us s1 ⟨vs, H1, I1, r1, q1⟩ => ?_) hs rfl))
  obtain ⟨j, e, q1, q2, q⟩ := q1
  subst e
  cases r1 with
  | cons r rr =>
    cases rr
    obtain ⟨t, rfl⟩ := r
    exact call_range_1 (range_it I1 (by omega) (by omega) q1 q2 (by simpa using q))
def tFor (wi : TI) (g : TG) (tb : TS) : TS := fun D σ H => wi σ H fun J H1 => ∃ W : Nat → Nat → St → Hp → Prop, (∃ m, W 0 m σ H1) ∧ ∀ i m σ H, W i m σ H →
  (J.stop i H ∧ D.nx σ H) ∨ (J.go i H ∧ ∃ N : St → Hp → Prop, (∀ σ' H', N σ' H' → ∃ m', m' < m ∧ W (i + 1) m' σ' H') ∧ ∀ x H', J.yld i H x H' → g x σ H' fun σ2 H2 => tb { D with nx := N, ct := N, bk := D.nx } σ2 H2)
def pinsAt (fp : List Addr) (h : Heap) : List (Addr × Obj) := fp.filterMap fun b => (h.get? b).map fun o => (b, o)
theorem mem_pinsAt {fp : List Addr} {h : Heap} {b : Addr} {o : Obj} (hb : b ∈ fp) (e : h.get? b = some o) : (b, o) ∈ pinsAt fp h := List.mem_filterMap.mpr ⟨b, hb, by rw [e]; rfl⟩
theorem of_pinsAt {fp : List Addr} {h : Heap} {p : Addr × Obj} (hp : p ∈ pinsAt fp h) : p.1 ∈ fp ∧ h.get? p.1 = some p.2 := by
  obtain ⟨b, hb, e⟩ := List.mem_filterMap.mp hp
  cases q : h.get? b with
  | none => rw [q] at e; cases e
  | some o =>
    rw [q] at e
    have e' : (b, o) = p := Option.some.inj e
    subst e'
    exact ⟨hb, q⟩
theorem Inv.pinned {pins : List (Addr × Obj)} {σ : St} {H : Hp} {s : Shared} {fp : List Addr} (I : Inv X pins σ H s) (hf : ∀ b ∈ fp, FpOk X pins H b) (ho : ∀ b ∈ fp, ∃ o, s.heap.get? b = some o ∧ ∀ v, o.data ≠ .cell v) : Inv X (pins ++ pinsAt fp s.heap) σ H s :=
  I.pins_of fun p hp => (List.mem_append.mp hp).elim (fun z => I.pin p (List.mem_append_right _ z)) fun z => by
    obtain ⟨hb, e⟩ := of_pinsAt z
    obtain ⟨f0, f1, f2, _⟩ := hf p.1 hb
    obtain ⟨o, e', d⟩ := ho p.1 hb
    rw [e] at e'; cases e'
    exact ⟨e, f0, f1, f2, d⟩
theorem Inv.unpinned {pins pl : List (Addr × Obj)} {σ : St} {H : Hp} {s : Shared} (I : Inv X (pins ++ pl) σ H s) : Inv X pins σ H s := I.pins_of fun p hp => I.pin p (List.mem_append_right _ (List.mem_append_left _ hp))
theorem ps_for {iter : Expr} {body : List Stmt} {wi : TI} {g : TG} {tb : TS} {pos : Pos} (hp : PassesOwn (model X.prog X.w) X.A X.env X.xe) (hc : X.calm = true) (hi : PI X tg iter wi) (hg : PG X tg g) (hb : PSs X body tb)
    (hs : ∀ x, foldedSetIterable iter X.env x = pure x := by intro _; rfl) : PS X (.For tg iter body [] pos) (tFor wi g tb) := by
  intro pins s σ H D I h
  refine wpAny_For (thn (hi pins s σ H _ I h) fun v s1 h1 => thn h1 fun itv s2 h2 => ?_) hs
  obtain ⟨it, fp, tn, J, H2, e, I2, T, st2, f2, W, ⟨m0, w0⟩, turn⟩ := h2
  subst e
  -- what stays true of the iterator's objects through the loop
  have stat : ∀ {H' : Hp}, (∀ b ∈ fp, H' b = none) → ∀ b ∈ fp, FpOk X pins H' b := fun hn b hb => ⟨hn b hb, (f2 b hb).2⟩
  refine codeAny_forLoop_any (fun n s' => ∃ i σ' H', Inv X pins σ' H' s' ∧ tn i s'.heap ∧ (∀ b ∈ fp, H' b = none) ∧ W i n σ' H') ?_ m0 ⟨0, σ, H2, I2, st2, fun b hb => (f2 b hb).1, w0⟩
  rintro n s3 ⟨i, σ3, H3, I3, st3, fr3, w3⟩
  rcases turn i n σ3 H3 w3 with ⟨stop, qn⟩ | ⟨go, N, hN, step⟩
  · refine wpAny_passesOwn hp (thn (T.done X rfl rfl rfl hc i pins s3 σ3 H3 X.xe I3 (stat fr3) st3 stop) fun r s4 ⟨hr, I4⟩ => ?_)
    subst hr
    exact wpAny_execs_nil ⟨σ3, H3, I4, qn⟩
  · refine wpAny_passesOwn hp (thn (T.item X rfl rfl rfl hc i pins s3 σ3 H3 X.xe I3 (stat fr3) st3 go) fun r s4 ⟨u, hr, h4⟩ => ?_)
    subst hr
    refine wpAny_passesOwn hp (thn h4 fun _ s5 ⟨x, H5, I5, r5, y5, st5, fr5⟩ => ?_)
    have I5' := I5.pinned (stat fr5) (T.obj _ _ st5)
    refine wpAny_passesOwn hp (thn (hg _ s5 σ3 H5 x u _ I5' r5 (step x H5 y5)) fun _ s6 ⟨σ6, H6, I6, q6⟩ => ?_)
    refine wpAny_passesOwn hp (thn (hb _ s6 σ6 H6 _ I6 q6) fun f s7 q7 => ?_)
    have again : ∀ {σ7 : St} {H7 : Hp}, Inv X (pins ++ pinsAt fp s5.heap) σ7 H7 s7 → N σ7 H7 → ∃ m, m < n ∧ ∃ i σ' H', Inv X pins σ' H' s7 ∧ tn i s7.heap ∧ (∀ b ∈ fp, H' b = none) ∧ W i m σ' H' := fun {σ7 H7} I7 n7 => by
      obtain ⟨m', hm, w7⟩ := hN σ7 H7 n7
      refine ⟨m', hm, i + 1, σ7, H7, I7.unpinned, T.keep _ _ _ st5 fun b hb o e => (I7.pin (b, o) (List.mem_append_right _ (List.mem_append_right _ (mem_pinsAt hb e)))).1, fun b hb => ?_, w7⟩
      obtain ⟨o, e, d⟩ := T.obj _ _ st5 b hb
      exact (I7.pin (b, o) (List.mem_append_right _ (List.mem_append_right _ (mem_pinsAt hb e)))).2.1
    cases f with
    | next => obtain ⟨σ7, H7, I7, n7⟩ := q7; exact again I7 n7
    | cont => obtain ⟨σ7, H7, I7, n7⟩ := q7; exact again I7 n7
    | brk => obtain ⟨σ7, H7, I7, q7⟩ := q7; exact ⟨σ7, H7, I7.unpinned, q7⟩
    | ret v => obtain ⟨x7, σ7, H7, I7, r7, q7⟩ := q7; exact ⟨x7, σ7, H7, I7.unpinned, r7, q7⟩
end
end L2
namespace L2
open PySem PySem.Spec PyProof.Rows
abbrev R2 := V → V → Hp → VK → Prop
def OpR (X : Cx) (f : Value → Value → Sem Value) (r : R2) : Prop :=
  ∀ (pins : List (Addr × Obj)) (s : Shared) (σ : St) (H : Hp) (x y : V) (v u : Value) (Q : VK), Inv X pins σ H s → RelV x v → RelV y u → r x y H Q →
    wpAny (model X.prog X.w) X.A (f v u) (EP X pins σ Q) X.xe s
def CallR (X : Cx) (f : Value) (r : List V → Hp → VK → Prop) : Prop :=
  ∀ (pins : List (Addr × Obj)) (s : Shared) (σ : St) (H : Hp) (xs : List V) (us : List Value) (Q : VK), Inv X pins σ H s → Vals xs us → r xs H Q →
    wpAny (model X.prog X.w) X.A (call f us) (EP X pins σ Q) X.xe s
def TruR (X : Cx) (r : V → Hp → (Bool → Hp → Prop) → Prop) : Prop :=
  ∀ (pins : List (Addr × Obj)) (s : Shared) (σ : St) (H : Hp) (x : V) (v : Value) (Q : Bool → Hp → Prop), Inv X pins σ H s → RelV x v → r x H Q →
    wpAny (model X.prog X.w) X.A (truthy v) (TP X pins σ Q) X.xe s
def tOp (r : R2) (ta tb : TE) : TE := fun σ H Q => ta σ H fun x H1 => tb σ H1 fun y H2 => r x y H2 Q
def rI (C : Int → Int → Prop) (g : Int → Int → V) : R2 := fun x y H Q => ∃ i j, x = .int i ∧ y = .int j ∧ C i j ∧ Q (g i j) H
def rI0 (g : Int → Int → V) : R2 := fun x y H Q => ∃ i j, x = .int i ∧ y = .int j ∧ Q (g i j) H
section
variable {X : Cx} {a b c : Expr} {ta tb tc : TE} {pos : Pos}
theorem binT (ha : PE X a ta) (hb : PE X b tb) {pins : List (Addr × Obj)} {s : Shared} {σ : St} {H : Hp} {R : V → V → Hp → Prop} (I : Inv X pins σ H s)
    (h : ta σ H fun x H1 => tb σ H1 fun y H2 => R x y H2) {Q : Value → Shared → Prop} {f : Value → Value → Sem Value}
    (hf : ∀ v u s2 x y H2, Inv X pins σ H2 s2 → RelV x v → RelV y u → R x y H2 → wpAny (model X.prog X.w) X.A (f v u) Q X.xe s2) :
    wpAny (model X.prog X.w) X.A (eval a X.env) (fun v s₁ => wpAny (model X.prog X.w) X.A (eval b X.env) (fun u s₂ => wpAny (model X.prog X.w) X.A (f v u) Q X.xe s₂) X.xe s₁) X.xe s := by
  refine thn (ha pins s σ H _ I h) fun v s1 ⟨x, H1, I1, r1, q1⟩ => ?_
  refine thn (hb pins s1 σ H1 _ I1 q1) fun u s2 ⟨y, H2, I2, r2, q2⟩ => ?_
  exact hf v u s2 x y H2 I2 r1 r2 q2
theorem pe_op {op : Operator} {r : R2} (ho : OpR X (binaryOp op) r) (ha : PE X a ta) (hb : PE X b tb) : PE X (.BinOp a op b pos) (tOp r ta tb) := by
  intro pins s σ H Q I h
  exact wpAny_BinOp (binT ha hb I h fun v u s2 x y H2 I2 rx ry q => ho pins s2 σ H2 x y v u Q I2 rx ry q)
theorem opI {f : Value → Value → Sem Value} {C : Int → Int → Prop} {g : Int → Int → Int}
    (rule : ∀ (i j : Int) (t u : Tok) (s : Shared) (Q : Value → Shared → Prop) (E : Value → Shared → Prop), C i j → Q (.int (g i j) s.toks) { s with toks := s.toks + 1 } → wpAny (model X.prog X.w) X.A (f (.int i t) (.int j u)) Q E s) :
    OpR X f (rI C fun i j => .int (g i j)) := by
  intro pins s σ H x y v u Q I rx ry h
  obtain ⟨i, j, rfl, rfl, hc, q⟩ := h
  obtain ⟨t, rfl⟩ := rx
  obtain ⟨t', rfl⟩ := ry
  exact rule i j t t' s _ _ hc ⟨.int (g i j), H, I.tok _, ⟨_, rfl⟩, q⟩
theorem opI0 {f : Value → Value → Sem Value} {g : Int → Int → Int}
    (rule : ∀ (i j : Int) (t u : Tok) (s : Shared) (Q : Value → Shared → Prop) (E : Value → Shared → Prop), Q (.int (g i j) s.toks) { s with toks := s.toks + 1 } → wpAny (model X.prog X.w) X.A (f (.int i t) (.int j u)) Q E s) :
    OpR X f (rI0 fun i j => .int (g i j)) := by
  intro pins s σ H x y v u Q I rx ry h
  obtain ⟨i, j, rfl, rfl, q⟩ := h
  obtain ⟨t, rfl⟩ := rx
  obtain ⟨t', rfl⟩ := ry
  exact rule i j t t' s _ _ ⟨.int (g i j), H, I.tok _, ⟨_, rfl⟩, q⟩
theorem opB0 {f : Value → Value → Sem Value} {g : Int → Int → Bool}
    (rule : ∀ (i j : Int) (t u : Tok) (s : Shared) (Q : Value → Shared → Prop) (E : Value → Shared → Prop), Q (.bool (g i j)) s → wpAny (model X.prog X.w) X.A (f (.int i t) (.int j u)) Q E s) :
    OpR X f (rI0 fun i j => .bl (g i j)) := by
  intro pins s σ H x y v u Q I rx ry h
  obtain ⟨i, j, rfl, rfl, q⟩ := h
  obtain ⟨t, rfl⟩ := rx
  obtain ⟨t', rfl⟩ := ry
  exact rule i j t t' s _ _ ⟨.bl (g i j), H, I, rfl, q⟩
def CDiv (i j : Int) : Prop := 0 < j ∧ j < 1073741824
def CPow (i j : Int) : Prop := 0 ≤ j ∧ j ≤ 1000000 ∧ i.natAbs < 2 ^ 64
def CMul (i j : Int) : Prop := (-(2 ^ 64) < i ∧ i < 2 ^ 64) ∨ (-(2 ^ 64) < j ∧ j < 2 ^ 64)
theorem CMul.ok {i j : Int} (h : CMul i j) : IntMulOk i j := by
  rcases h with ⟨h1, h2⟩ | ⟨h1, h2⟩
  · exact .of_left (intBits_le_64 h1 h2)
  · exact .of_right (intBits_le_64 h1 h2)
theorem op_add : OpR X (binaryOp .Add) (rI0 fun i j => .int (i + j)) := opI0 fun _ _ _ _ _ _ _ q => add_int q
theorem op_sub : OpR X (binaryOp .Sub) (rI0 fun i j => .int (i - j)) := opI0 fun _ _ _ _ _ _ _ q => sub_int q
theorem op_mul : OpR X (binaryOp .Mult) (rI CMul fun i j => .int (i * j)) := opI fun _ _ _ _ _ _ _ hc q => mul_int q hc.ok
theorem op_fdiv : OpR X (binaryOp .FloorDiv) (rI CDiv fun i j => .int (i / j)) := opI fun i j _ _ _ _ _ hc q => by
  have h1 : (0 : Int) < j := hc.1
  have h2 : j < 1073741824 := hc.2
  exact floordiv_int (by omega) (by rw [Int.fdiv_eq_ediv_of_nonneg i (by omega)]; exact q) (.inl (PyProof.noPylong_small (by omega)))
theorem op_mod : OpR X (binaryOp .Mod) (rI (fun _ j => 0 < j) fun i j => .int (i % j)) := opI fun i j _ _ _ _ _ hc q => by
  have h1 : (0 : Int) < j := hc
  exact mod_int' (by omega) (by rw [Int.fmod_eq_emod_of_nonneg i (by omega)]; exact q)
theorem op_pow : OpR X (binaryOp .Pow) (rI CPow fun i j => .int (i ^ j.toNat)) := opI fun _ _ _ _ _ _ _ hc q => pow_int_small hc.1 hc.2.1 hc.2.2 q
end
section
variable {X : Cx} {a b c : Expr} {ta tb tc : TE} {pos : Pos}
theorem fin_bl {pins : List (Addr × Obj)} {σ : St} {H : Hp} {s : Shared} {Q : VK} {k k' : Bool} (I : Inv X pins σ H s) (q : Q (.bl k) H) (e : k = k') : EP X pins σ Q (.bool k') s := by
  subst e
  exact ⟨.bl k, H, I, rfl, q⟩
theorem op_lt : OpR X (compareOp .Lt) (rI0 fun i j => .bl (decide (i < j))) := opB0 fun _ _ _ _ _ _ _ q => lt_int q
theorem op_le : OpR X (compareOp .LtE) (rI0 fun i j => .bl (decide (i ≤ j))) := opB0 fun _ _ _ _ _ _ _ q => le_int q
theorem op_gt : OpR X (compareOp .Gt) (rI0 fun i j => .bl (decide (j < i))) := opB0 fun _ _ _ _ _ _ _ q => gt_int q
theorem op_ge : OpR X (compareOp .GtE) (rI0 fun i j => .bl (decide (j ≤ i))) := opB0 fun _ _ _ _ _ _ _ q => ge_int q
theorem op_isN : OpR X (compareOp .Is) (fun x y H Q => y = .non ∧ Q (.bl (decide (x = .non))) H) := by
  intro pins s σ H x y v u Q I rx ry h
  obtain ⟨rfl, q⟩ := h
  cases ry
  refine is_none_gen (fin_bl I q ?_)
  cases x <;> first
    | (cases rx; rfl)
    | (obtain ⟨t, rfl⟩ := rx; rfl)
theorem OpR.or {f : Value → Value → Sem Value} {r r' : R2} (h : OpR X f r) (h' : OpR X f r') : OpR X f (fun x y H Q => r x y H Q ∨ r' x y H Q) := by
  intro pins s σ H x y v u Q I rx ry q
  rcases q with q | q
  · exact h pins s σ H x y v u Q I rx ry q
  · exact h' pins s σ H x y v u Q I rx ry q
theorem nomark (b : Expr) {op : CmpOp} (h : op ≠ .In := by decide) (h2 : op ≠ .NotIn := by decide) : behindInMarks op b = false := by
  have e1 : (op == CmpOp.In) = false := by cases op <;> first | rfl | exact absurd rfl h
  have e2 : (op == CmpOp.NotIn) = false := by cases op <;> first | rfl | exact absurd rfl h2
  cases b <;> simp [behindInMarks, e1, e2]
theorem pe_cmpR {op : CmpOp} {r : R2} (ho : OpR X (compareOp op) r) (ha : PE X a ta) (hb : PE X b tb) (hm : behindInMarks op b = false) : PE X (.Compare a [op] [b] pos) (tOp r ta tb) := by
  intro pins s σ H Q I h
  exact wpAny_Compare1 (binT ha hb I h fun v u s2 x y H2 I2 rx ry q => ho pins s2 σ H2 x y v u Q I2 rx ry q) hm
def tTest (t : TE) : TT := fun σ H Q => t σ H fun x H' => ∃ k, x = .bl k ∧ Q k H'
theorem pt_cmpR {op : CmpOp} {r : R2} (ho : OpR X (compareOp op) r) (ha : PE X a ta) (hb : PE X b tb) (hm : behindInMarks op b = false) : PT X (.Compare a [op] [b] pos) (tTest (tOp r ta tb)) := by
  intro pins s σ H Q I h
  refine wpAny_isTrue_Compare1 (thn (ha pins s σ H _ I h) fun v s1 ⟨x, H1, I1, r1, q1⟩ => thn (hb pins s1 σ H1 _ I1 q1) fun u s2 ⟨y, H2, I2, r2, q2⟩ =>
    thn (ho pins s2 σ H2 x y v u _ I2 r1 r2 q2) fun c s3 ⟨z, H3, I3, r3, k, e, q3⟩ => ?_) hm
  subst e
  cases r3
  exact wpAny_truthy_bool ⟨H3, I3, q3⟩
def tChain (r r' : R2) (ta tb tc : TE) : TE := fun σ H Q => ta σ H fun x H1 => tb σ H1 fun y H2 => r x y H2 fun z H3 => ∃ k, z = .bl k ∧
  (if k = true then tc σ H3 fun w' H4 => r' y w' H4 Q else Q (.bl false) H3)
theorem pe_chain {op op' : CmpOp} {r r' : R2} (ho : OpR X (compareOp op) r) (ho' : OpR X (compareOp op') r') (ha : PE X a ta) (hb : PE X b tb) (hc : PE X c tc)
    (hm : lastMarks [op, op'] [b, c] = false := by with_unfolding_all rfl) : PE X (.Compare a [op, op'] [b, c] pos) (tChain r r' ta tb tc) := by
  intro pins s σ H Q I h
  refine Compare_chain (thn (ha pins s σ H _ I h) fun v s1 ⟨x, H1, I1, r1, q1⟩ => chain_link (thn (hb pins s1 σ H1 _ I1 q1) fun u s2 ⟨y, H2, I2, r2, q2⟩ =>
    thn (ho pins s2 σ H2 x y v u _ I2 r1 r2 q2) fun d s3 ⟨z, H3, I3, r3, k, e, q3⟩ => ?_)) hm
  subst e
  cases r3
  refine wpAny_truthy_bool ?_
  cases k with
  | false => exact ite_ff ⟨.bl false, H3, I3, rfl, q3⟩
  | true => exact ite_tt (chain_last (thn (hc pins s3 σ H3 _ I3 q3) fun w' s4 ⟨z', H4, I4, r4, q4⟩ => ho' pins s4 σ H4 y z' u w' Q I4 r2 r4 q4))
def TruV (K : PySem.W.Frag) (x : V) (H : Hp) (k : Bool) : Prop :=
  match x with
  | .non => k = false
  | .bl b => k = b
  | .int i => k = (i != 0)
  | .str y => y.length ≤ sizeLine ∧ k = ((y.length : Int) != 0)
  | .byt y => y.size ≤ sizeLine ∧ k = ((y.size : Int) != 0)
  | .ref p => (∃ xs, SqL K H p xs ∧ k = !xs.isEmpty) ∨ (∃ xs, SqT K H p xs ∧ k = !xs.isEmpty) ∨ ∃ kvs, H p = some (.dK kvs) ∧ k = !kvs.isEmpty
  | _ => False
theorem isEmpty_kv {κ : Type} {kvs : List (κ × V)} {vs : List (κ × Value)} (r : KV kvs vs) : (!vs.isEmpty) = !kvs.isEmpty := by
  cases r <;> rfl
theorem isEmpty_of {xs : List V} {its : List Value} (r : Vals xs its) : (!its.toArray.isEmpty) = !xs.isEmpty := by
  cases r <;> simp
theorem line63 : (sizeLine : Nat) < 2 ^ 63 := by rw [sizeLine_eq]; decide
theorem tru_ok : TruR X (fun x H Q => ∃ k, TruV X.K x H k ∧ Q k H) := by
  intro pins s σ H x v Q I rx h
  obtain ⟨k, e, q⟩ := h
  have hl := line63
  have hs : sizeLine = 16777216 := sizeLine_eq
  cases x with
  | non =>
    cases rx
    have e' : k = false := e
    subst e'
    exact truthy_none ⟨H, I, q⟩
  | bl b =>
    cases rx
    have e' : k = b := e
    subst e'
    exact wpAny_truthy_bool ⟨H, I, q⟩
  | int i =>
    obtain ⟨t, rfl⟩ := rx
    have e' : k = (i != 0) := e
    subst e'
    exact PySem.P.truthy_int ⟨H, I, q⟩
  | str y =>
    obtain ⟨t, rfl⟩ := rx
    obtain ⟨hy, e'⟩ : y.length ≤ sizeLine ∧ k = ((y.length : Int) != 0) := e
    subst e'
    exact PySem.P.truthy_str (by omega) ⟨H, I.tok _, q⟩
  | byt y =>
    obtain ⟨t, rfl⟩ := rx
    obtain ⟨hy, e'⟩ : y.size ≤ sizeLine ∧ k = ((y.size : Int) != 0) := e
    subst e'
    exact PySem.W.truthy_bytes (by omega) ⟨H, I.tok _, q⟩
  | ref p =>
    cases rx
    have e' : (∃ xs, SqL X.K H p xs ∧ k = !xs.isEmpty) ∨ (∃ xs, SqT X.K H p xs ∧ k = !xs.isEmpty) ∨ ∃ kvs, H p = some (.dK kvs) ∧ k = !kvs.isEmpty := e
    rcases e' with ⟨xs, hx, e'⟩ | ⟨xs, hx, e'⟩ | ⟨kvs, hx, e'⟩
    · subst e'
      obtain ⟨its, r, pl, hz⟩ := I.list hx
      have hlen := r.length
      exact wpAny_truthy_list pl.isList (by simp only [List.size_toArray]; omega) ⟨H, I.tok _, by rw [isEmpty_of r]; exact q⟩
    · subst e'
      obtain ⟨its, r, pl, hz⟩ := I.tuple hx
      have hlen := r.length
      exact truthy_tuple pl (by simp only [List.size_toArray]; omega) ⟨H, I.tok _, by rw [isEmpty_of r]; exact q⟩
    · subst e'
      obtain ⟨hz, hS, vs, r, m⟩ : kvs.length ≤ sizeLine ∧ (p == sysModules) = false ∧ ∃ vs, KV kvs vs ∧ s.heap.DictOf (mixKind X.prog X.w) p vs := I.hok p _ hx
      have hlen : kvs.length = vs.length := Paired.length r
      exact wpAny_truthy_dict hS m (by omega) ⟨H, I.tok _, by rw [isEmpty_kv r]; exact q⟩
  | _ => exact (show False from e).elim
theorem pt_truth (ha : PE X a ta) (he : ∀ whole, isTrue a X.env whole = (do let v ← whole; standAt a.pos; holding [v] (truthy v))) :
    PT X a (fun σ H Q => ta σ H fun x H' => ∃ k, TruV X.K x H' k ∧ Q k H') := by
  intro pins s σ H Q I h
  exact isTrue_plain (thn (ha pins s σ H _ I h) fun v s1 ⟨x, H1, I1, r1, q1⟩ => tru_ok pins s1 σ H1 x v Q I1 r1 q1) (he _)
theorem vals1 {x : V} {us : List Value} (r : Vals [x] us) : ∃ u, us = [u] ∧ RelV x u := by
  cases r with
  | cons r1 r2 => cases r2; exact ⟨_, rfl, r1⟩
theorem vals2 {x y : V} {us : List Value} (r : Vals [x, y] us) : ∃ u w', us = [u, w'] ∧ RelV x u ∧ RelV y w' := by
  cases r with
  | cons r1 r2 =>
    cases r2 with
    | cons r3 r4 => cases r4; exact ⟨_, _, rfl, r1, r3⟩
theorem call_abs : CallR X (.builtin "abs") (fun xs H Q => ∃ i, xs = [.int i] ∧ Q (.int (if i < 0 then -i else i)) H) := by
  intro pins s σ H xs us Q I r h
  obtain ⟨i, rfl, q⟩ := h
  obtain ⟨u, rfl, t, rfl⟩ := vals1 r
  exact call_abs_int fun u tk => ⟨.int (if i < 0 then -i else i), H, I.tok _, ⟨_, rfl⟩, q⟩
theorem call_max2 (hc : X.calm = true) : CallR X (.builtin "max") (fun xs H Q => ∃ i j, xs = [.int i, .int j] ∧ Q (.int (if j > i then j else i)) H) := by
  intro pins s σ H xs us Q I r h
  obtain ⟨i, j, rfl, q⟩ := h
  obtain ⟨u, w', rfl, ⟨t, rfl⟩, ⟨t', rfl⟩⟩ := vals2 r
  refine max_two_ints (I.ok.hd hc) fun h' tk k => ⟨_, H, I.kept k, ?_, q⟩
  by_cases hj : j > i
  · rw [if_pos hj, if_pos hj]; exact ⟨_, rfl⟩
  · rw [if_neg hj, if_neg hj]; exact ⟨_, rfl⟩
theorem call_min2 (hc : X.calm = true) : CallR X (.builtin "min") (fun xs H Q => ∃ i j, xs = [.int i, .int j] ∧ Q (.int (if j < i then j else i)) H) := by
  intro pins s σ H xs us Q I r h
  obtain ⟨i, j, rfl, q⟩ := h
  obtain ⟨u, w', rfl, ⟨t, rfl⟩, ⟨t', rfl⟩⟩ := vals2 r
  refine min_two_ints (I.ok.hd hc) fun h' tk k => ⟨_, H, I.kept k, ?_, q⟩
  by_cases hj : j < i
  · rw [if_pos hj, if_pos hj]; exact ⟨_, rfl⟩
  · rw [if_neg hj, if_neg hj]; exact ⟨_, rfl⟩
theorem call_int1 : CallR X (.type "int") (fun xs H Q => (∃ i, xs = [.int i] ∧ Q (.int i) H) ∨ ∃ k, xs = [.bl k] ∧ Q (.int (if k then 1 else 0)) H) := by
  intro pins s σ H xs us Q I r h
  rcases h with ⟨i, rfl, q⟩ | ⟨k, rfl, q⟩
  · obtain ⟨u, rfl, t, rfl⟩ := vals1 r
    exact call_int_int ⟨.int i, H, I, ⟨_, rfl⟩, q⟩
  · obtain ⟨u, rfl, r1⟩ := vals1 r
    cases r1
    exact call_int_bool ⟨.int (if k then 1 else 0), H, I.tok _, ⟨_, rfl⟩, q⟩
end
end L2
namespace L2
open PySem PySem.Spec PyProof.Rows
section
variable {prog : Program} {w : World} {A : Around} {E : Value → Shared → Prop} {s : Shared} {K : PySem.W.Frag} {x dx C f : Addr} {mA : Str → Option Value} {name : Str} {v : Value}
end
section
variable {P : Program} {w : World} {H H' : Hp} {h h' : Heap} {a C dx : Addr} {fs fs' : List (Str × V)}
end
structure Cls (K : PySem.W.Frag) (C : Addr) : Prop where
  pg : PySem.W.plainGet K C Str.empty = true
  hd : PySem.W.hasDictIn K C = true
  po : PySem.W.plainOver K C = true
  sa : PySem.W.findIn K (.ref C) "__setattr__" = some (some (.builtin "object.__setattr__"))
section
variable {X : Cx} {pins : List (Addr × Obj)} {σ : St} {H : Hp} {s : Shared} {a C dx : Addr} {fs : List (Str × V)} {f : Str} {v : V} {A : Around} {E : Value → Shared → Prop}
end
section
variable {X : Cx} {o e value : Expr} {f : Str} {pos pos' tpos : Pos} {ta tv : TE}
end
section
variable {X : Cx} {pins : List (Addr × Obj)} {σ : St} {H : Hp} {s : Shared} {A : Around} {E : Value → Shared → Prop} {Q : Value → Shared → Prop} {c : Value} {b : Bool}
inductive TyOf (K : PySem.W.Frag) (H : Hp) : V → Value → Prop where
  | non : TyOf K H .non (.type "NoneType")
  | bl (x : Bool) : TyOf K H (.bl x) (.type "bool")
  | int (i : Int) : TyOf K H (.int i) (.type "int")
  | str (x : Str) : TyOf K H (.str x) (.type "str")
  | flt (x : UInt64) : TyOf K H (.flt x) (.type "float")
  | lst {a : Addr} {xs : List V} (e : H a = some (.lst xs)) : TyOf K H (.ref a) (.type "list")
  | frz {a : Addr} {o : Obj} {xs : List V} (e : H a = some (.frz o (.lst xs))) : TyOf K H (.ref a) (.type "list")
  | tup {a : Addr} {xs : List V} (e : H a = some (.tup xs)) : TyOf K H (.ref a) (.type "tuple")
  | dK {a : Addr} {kvs : List (Key × V)} (e : H a = some (.dK kvs)) : TyOf K H (.ref a) (.type "dict")
  | dT {a : Addr} {kvs : List (List Key × V)} (e : H a = some (.dT kvs)) : TyOf K H (.ref a) (.type "dict")
  | ins {a C dx : Addr} {fs : List (Str × V)} (e : H a = some (.ins C dx fs)) (cl : Cls K C) (ha : PySem.W.findIn K (.ref C) "__class__" = some (some (.builtin "object.__class__")))
      (hn : PySem.W.specialIn K (.builtin "object.__class__") "__get__" = some (some (.builtin "getset_descriptor.__get__"))) (htk : PySem.W.takesIn K (.builtin "object.__class__") = some true)
      (hm : PySem.W.mroIn K C (.type "object") = some true) : TyOf K H (.ref a) (.ref C)
end
end L2
namespace L2
open PySem PySem.Spec PyProof.Rows
structure Room (k : Nat) (A : Around) : Prop where
  hd : A.handled = none
  dp : A.depth + 3 * k + 5 < recursionLimit
  un : A.units + 16 * k + 200 < cLine
  gd : A.guards = some [] := by rfl
theorem Room.mono {j k : Nat} {A : Around} (r : Room k A) (h : j ≤ k) : Room j A := ⟨r.hd, by have := r.dp; omega, by have := r.un; omega, r.gd⟩
theorem Room.deeper {k : Nat} {A : Around} (r : Room (k + 1) A) (env : Env) : Room k (A.deeper env) :=
  ⟨r.hd, by have := r.dp; show A.depth + 1 + 3 * k + 5 < _; omega, by have := r.un; show A.units + 3 + 16 * k + 200 < _; omega, r.gd⟩
theorem Room.depth {k : Nat} {A : Around} (r : Room k A) : A.depth < recursionLimit := by have := r.dp; omega
theorem Room.units {k : Nat} {A : Around} (r : Room k A) : A.units + 64 < cLine := by have := r.un; omega
def tNil : TA := fun _ H Q => Q [] H
def tCons (ta : TE) (tr : TA) : TA := fun σ H Q => ta σ H fun x H1 => tr σ H1 fun xs H2 => Q (x :: xs) H2
section
variable {X : Cx} {e : Expr} {es : List Expr} {te : TE} {t : TA} {pos : Pos}
theorem pa_nil : PA X [] tNil := fun _ _ _ _ H Q I h => Calls.spliced_nil ⟨[], H, I, .nil, h⟩
theorem pa_cons (ha : PE X e te) (hr : PA X es t) (hs : starEach (e :: es) X.env = (false, eval e X.env) :: starEach es X.env := by rfl) : PA X (e :: es) (tCons te t) := by
  intro pos pins s σ H Q I h
  rw [hs]
  show wpAny _ _ (spliced ((false, eval e X.env) :: backTo pos (starEach es X.env))) _ _ s
  refine Calls.spliced_cons (thn (ha pins s σ H _ I h) fun u s1 ⟨x, H1, I1, r1, q1⟩ => ?_)
  exact thn (hr pos pins s1 σ H1 _ I1 q1) fun us s2 ⟨xs, H2, I2, r2, q2⟩ => ⟨x :: xs, H2, I2, .cons r1 r2, q2⟩
def tTup (t : TA) : TE := fun σ H Q => t σ H fun xs H1 => xs.length ≤ sizeLine ∧ ∀ p, H1 p = none → Q (.ref p) (upd H1 p (.tup xs))
def tLst (t : TA) : TE := fun σ H Q => t σ H fun xs H1 => xs.length ≤ sizeLine ∧ ∀ p, H1 p = none → Q (.ref p) (upd H1 p (.lst xs))
theorem pe_tup {x1} (h : PA X es t) : PE X (.Tuple es x1 pos) (tTup t) := by
  intro pins s σ H Q I hq
  refine wpAny_Tuple_spliced (thn (h pos pins s σ H _ I hq) fun us s1 ⟨xs, H1, I1, r, z, q⟩ => ⟨by rw [← r.length]; exact z, ?_⟩)
  have hf : H1 s1.heap.objs.size = none := I1.hok.fresh (Nat.le_refl _)
  refine ⟨.ref s1.heap.objs.size, upd H1 s1.heap.objs.size (.tup xs), I1.laid (t' := s1.toks) (fun b u e => Heap.get?_push_of_some _ e) (Nat.le_refl _) ?_, rfl, q _ hf⟩
  exact ⟨z, us, r, ⟨_, Heap.get?_push_size _ rfl, rfl, _, rfl⟩⟩
theorem pe_lst (h : PA X es t) : PE X (.List es pos) (tLst t) := by
  intro pins s σ H Q I hq
  refine wpAny_List_spliced (thn (h pos pins s σ H _ I hq) fun us s1 ⟨xs, H1, I1, r, z, q⟩ => ⟨by rw [← r.length]; exact z, ?_⟩)
  have hf : H1 s1.heap.objs.size = none := I1.hok.fresh (Nat.le_refl _)
  refine ⟨.ref s1.heap.objs.size, upd H1 s1.heap.objs.size (.lst xs), I1.laid (t' := s1.toks) (fun b u e => Heap.get?_push_of_some _ e) (Nat.le_refl _) ?_, rfl, q _ hf⟩
  exact ⟨z, us, 0, r, Heap.get?_push_size _ rfl⟩
end
abbrev Sp := List V → Hp → VK → XK → Prop
abbrev CXT := List Env → Hp → Shared → XK → Value → Shared → Prop
structure Env0 (P : Program) (w : World) (K : PySem.W.Frag) (mg : Str → Option Value) (base : Heap) (A : Around) (outer : List Env) (s : Shared) (H : Hp) : Prop where
  frames : A.frames = some outer
  mod : Mod K mg base
  bs : ∀ b o, base.get? b = some o → s.heap.get? b = some o ∧ H b = none
  bsz : base.objs.size ≤ s.heap.objs.size
  funs : s.heap.FunFrames base outer
  frf : ∀ b ∈ frs outer, H b = none
  hok : HOk P w H s.heap
  bare : AllBare s.gens
def CE (outer : List Env) (P : Program) (w : World) (H : Hp) (s : Shared) (Q : VK) (u : Value) (s' : Shared) : Prop :=
  ∃ v H', s'.os = s.os ∧ AllBare s'.gens ∧ Un (frs outer) [] H H' s.heap s'.heap ∧ HOk P w H' s'.heap ∧ RelV v u ∧ Q v H'
def CR (CX : CXT) (outer : List Env) (P : Program) (w : World) (H : Hp) (s : Shared) (Q : VK) (E : XK) (r : Result) (s' : Shared) : Prop :=
  match r with
  | .ok (.ret u) => CE outer P w H s Q u s'
  | .ok _ => False
  | .error e => CX outer H s E e s'
structure FnOk (P : Program) (w : World) (K : PySem.W.Frag) (mg : Str → Option Value) (base : Heap) (CX : CXT) (k : Nat) (f : Addr) (fd : FuncData) (ps : List Str) (sp : Sp) : Prop where
  len : ∀ vs H Q E, sp vs H Q E → vs.length = ps.length
  run : ∀ (A : Around) (outer : List Env) (s : Shared) (H : Hp) (args : Args) (us : List Value) (vs : List V) (Q : VK) (E : XK), Room k A → Env0 P w K mg base A outer s H → BindsTo s fd args (ps.zip us) → Vals vs us → sp vs H Q E →
    codeAny (model P w) A (.call (.ref f) args) (CR CX outer P w H s Q E) s
section
variable {X : Cx} {pins : List (Addr × Obj)} {σ : St} {H : Hp} {s s' : Shared}
theorem Inv.env0 (I : Inv X pins σ H s) : Env0 X.prog X.w X.K X.mg X.base X.A X.stack s H :=
  ⟨I.ok.frames, I.ok.mod, I.bs, Nat.le_trans I.ok.bsz I.sz, I.stack, I.stkFree, I.hok, I.bare⟩
theorem Inv.after {Q : VK} {u : Value} (I : Inv X pins σ H s) (h : CE X.stack X.prog X.w H s Q u s') : EP X pins σ Q u s' := by
  obtain ⟨v, H', os, bare, un, hok, r, q⟩ := h
  obtain ⟨hh, g, d, t, os'⟩ := s'
  obtain rfl : os' = s.os := os
  exact ⟨v, H', I.call (h' := hh) (g' := g) (d' := d) (t' := t) (ch := []) un hok bare (fun b z => absurd z (by simp)), r, q⟩
end
def tCall (sp : Sp) (dvs : List V) (E : XK) (t : TA) : TE := fun σ H Q => t σ H fun vs H1 => sp (vs ++ dvs) H1 Q E
def Binds (K : PySem.W.Frag) (fd : FuncData) (ps : List Str) (ds : List Value) : Prop :=
  ∀ (s : Shared) (us : List Value), K.In s.heap → (us ++ ds).length = ps.length → BindsTo s fd ⟨us, []⟩ (ps.zip (us ++ ds))
theorem Binds.all {K : PySem.W.Frag} {fd : FuncData} {ps : List Str} (h : ∀ us : List Value, us.length = ps.length → bindArgs fd ⟨us, []⟩ = pure (ps.zip us)) : Binds K fd ps [] := fun s us _ hl => by
  rw [List.append_nil] at hl ⊢
  exact .of_eq (h us hl)
def Passes (CX : CXT) (X : Cx) (E : XK) : Prop := ∀ (pins : List (Addr × Obj)) (σ : St) (H : Hp) (s : Shared) (e : Value) (s' : Shared), Inv X pins σ H s → CX X.stack H s E e s' → X.xe e s'
section
variable {X : Cx} {CX : CXT} {k : Nat} {f C : Addr} {fd : FuncData} {ps : List Str} {sp : Sp} {dvs : List V} {ds : List Value} {E : XK} {x m : Str} {p pos apos : Pos} {e o : Expr} {es : List Expr} {ta : TE} {t : TA}
theorem run_fn {pins : List (Addr × Obj)} {σ : St} {H : Hp} {s : Shared} {Q : VK} {us : List Value} {vs : List V} (F : FnOk X.prog X.w X.K X.mg X.base CX k f fd ps sp) (hr : Room k X.A) (hb : Binds X.K fd ps ds) (hd : Vals dvs ds) (hx : Passes CX X E)
    (I : Inv X pins σ H s) (r : Vals vs us) (h : sp (vs ++ dvs) H Q E) : wpAny (model X.prog X.w) X.A (call (.ref f) us) (EP X pins σ Q) X.xe s := by
  have r2 : Vals (vs ++ dvs) (us ++ ds) := r.append hd
  have hl : (us ++ ds).length = ps.length := by rw [← r2.length]; exact F.len _ _ _ _ h
  refine wpAny_call (codeAny_mono (F.run X.A X.stack s H ⟨us, []⟩ (us ++ ds) (vs ++ dvs) Q E hr I.env0 (hb s us I.kIn hl) r2 h) fun r s' hq => ?_)
  cases r with
  | error e => exact hx pins σ H s e s' I hq
  | ok fl =>
    cases fl with
    | ret u => exact I.after hq
    | next => exact False.elim hq
    | brk => exact False.elim hq
    | cont => exact False.elim hq
theorem pe_call (F : FnOk X.prog X.w X.K X.mg X.base CX k f fd ps sp) (hr : Room k X.A) (hg : Gl X x) (hm : X.mg x = some (.ref f)) (hk : PySem.W.keepIn X.K (.ref f) = true) (hb : Binds X.K fd ps ds) (hd : Vals dvs ds) (hx : Passes CX X E)
    (ha : PA X (e :: es) t) (hdb : (x == ("__debug__" : Str)) = false := by decide) (he : starEach (e :: es) X.env = (false, eval e X.env) :: starEach es X.env := by rfl) (hpl : (backTo pos (starEach es X.env)).any (·.1) = false := by rfl) :
    PE X (.Call (.Name x p) (e :: es) [] pos) (tCall sp dvs E t) := by
  intro pins s σ H Q I h
  refine wpAny_Call_Name_kw (ld_glob I hg hm ?_ hdb)
  refine PySem.W.callWith_K (h₀ := X.base) I.ok.mod.kin hk (thn (ha pos pins s σ H _ I h) fun us s1 ⟨vs, H1, I1, r, q⟩ => ⟨I1.kIn, ?_⟩) he hpl
  exact run_fn F hr hb hd hx I1 r q
end
section
variable {X : Cx} {CX : CXT} {k : Nat} {f C : Addr} {fd : FuncData} {ps ks : List Str} {sp : Sp} {E : XK} {x m : Str} {p pos apos kpos : Pos} {e o : Expr} {es : List Expr} {kws : List Keyword} {te ta : TE} {t tk : TA} {nm : Option Str}
variable {g : List Value → List Value → List Value} {gV : List V → List V → List V}
end
structure FnScope (N P : List Str) (sc : Scope) : Prop where
  kind : sc.kind = .function
  co : sc.isCoroutine = false
  gen : sc.isGenerator = false
  nd : N.Nodup
  pre : N.take P.length = P
  par : ∀ x ∈ P, sc.names.lookup x = some .local ∨ sc.names.lookup x = some .cell
  nofree : ∀ y ∈ sc.names, y.2 ≠ .free
theorem bindL_out {kindOf : Str → Option NameKind} {x : Str} : ∀ {binds : List (Str × Value)} {m : Str → Option Value}, (∀ v, (x, v) ∉ binds) → bindL kindOf binds m x = m x
  | [], _, _ => rfl
  | (n, v) :: r, m, h => by
    unfold bindL
    rw [bindL_out fun w hw => h w (List.mem_cons_of_mem _ hw)]
    split
    · have : x ≠ n := by rintro rfl; exact h v List.mem_cons_self
      simp [this]
    · rfl
theorem bindC_out {kindOf : Str → Option NameKind} {x : Str} : ∀ {binds : List (Str × Value)} {m : Str → Option Value}, (∀ v, (x, v) ∉ binds) → bindC kindOf binds m x = m x
  | [], _, _ => rfl
  | (n, v) :: r, m, h => by
    unfold bindC
    rw [bindC_out fun w hw => h w (List.mem_cons_of_mem _ hw)]
    split
    · rfl
    · have : x ≠ n := by rintro rfl; exact h v List.mem_cons_self
      simp [this]
theorem bindL_get {kindOf : Str → Option NameKind} {x : Str} {v : Value} : ∀ {P : List Str} {vs : List Value} {i : Nat} {m : Str → Option Value}, P.Nodup → P[i]? = some x → vs[i]? = some v → kindOf x = some .local →
    bindL kindOf (P.zip vs) m x = some v
  | [], _, _, _, _, h, _, _ => by simp at h
  | _ :: _, [], _, _, _, _, h, _ => by simp at h
  | p :: P, w :: vs, 0, m, nd, h1, h2, hk => by
    simp at h1 h2; subst h1; subst h2
    show bindL kindOf ((p, w) :: P.zip vs) m p = _
    unfold bindL
    rw [bindL_out fun v hv => (List.nodup_cons.mp nd).1 (List.of_mem_zip hv).1, if_pos hk]
    simp
  | p :: P, w :: vs, i + 1, m, nd, h1, h2, hk => by
    show bindL kindOf ((p, w) :: P.zip vs) m x = _
    unfold bindL
    exact bindL_get (i := i) (List.nodup_cons.mp nd).2 (by simpa using h1) (by simpa using h2) hk
theorem bindC_get {kindOf : Str → Option NameKind} {x : Str} {v : Value} : ∀ {P : List Str} {vs : List Value} {i : Nat} {m : Str → Option Value}, P.Nodup → P[i]? = some x → vs[i]? = some v → kindOf x ≠ some .local →
    bindC kindOf (P.zip vs) m x = some v
  | [], _, _, _, _, h, _, _ => by simp at h
  | _ :: _, [], _, _, _, _, h, _ => by simp at h
  | p :: P, w :: vs, 0, m, nd, h1, h2, hk => by
    simp at h1 h2; subst h1; subst h2
    show bindC kindOf ((p, w) :: P.zip vs) m p = _
    unfold bindC
    rw [bindC_out fun v hv => (List.nodup_cons.mp nd).1 (List.of_mem_zip hv).1, if_neg hk]
    simp
  | p :: P, w :: vs, i + 1, m, nd, h1, h2, hk => by
    show bindC kindOf ((p, w) :: P.zip vs) m x = _
    unfold bindC
    exact bindC_get (i := i) (List.nodup_cons.mp nd).2 (by simpa using h1) (by simpa using h2) hk
def start (N : List Str) (vs : List V) : St := vs.map some ++ List.replicate (N.length - vs.length) none
def cxOf (CX : CXT) (P : Program) (w : World) (K : PySem.W.Frag) (mg : Str → Option Value) (base : Heap) (N : List Str) (qual : Str) (scope : Scope) (f : Addr) (cd : Value) (A : Around) (outer : List Env) (s : Shared) (H : Hp) (E : XK) : Cx where
  prog := P
  w := w
  K := K
  mg := mg
  base := base
  A := A.deeper (envOfC qual scope s.heap.objs.size f cd)
  N := N
  s₀ := s
  H₀ := H
  env := envOfC qual scope s.heap.objs.size f cd
  outer := outer
  stack := envOfC qual scope s.heap.objs.size f cd :: outer
  ex := []
  calm := true
  fn := fun _ => true
  pn := []
  xe := fun e s' => wpAny (model P w) (A.deeper (envOfC qual scope s.heap.objs.size f cd)) (leaving (envOfC qual scope s.heap.objs.size f cd) e) (fun _ s'' => CX outer H s E e s'') (fun e' s'' => CX outer H s E e' s'') s'
theorem cell_has {sc : Scope} {n : Nat} {x : Str} (h : sc.names.lookup x = some .cell) : ∃ c, (cellsFrom n sc.names []).lookup x = some c := by
  have q := PySem.W.cellsFrom_some sc.names n [] (.inl h)
  exact Option.isSome_iff_exists.mp q
theorem inv_start {CX : CXT} {P : Program} {w : World} {K : PySem.W.Frag} {mg : Str → Option Value} {base : Heap} {N ps : List Str} {qual : Str} {scope : Scope} {f : Addr} {cd : Value} {A : Around} {outer : List Env} {s s1 : Shared} {H : Hp} {E : XK} {us : List Value} {vs : List V}
    (S : FnScope N ps scope) (hd : A.handled = none) (e0 : Env0 P w K mg base A outer s H) (hl : vs.length = ps.length) (r : Vals vs us)
    (x : InCallC s s.heap.objs.size (bindL (envOfC qual scope s.heap.objs.size f cd).kindOf (ps.zip us) fun _ => none) (cellsFrom (s.heap.objs.size + 1) scope.names []) (bindC (envOfC qual scope s.heap.objs.size f cd).kindOf (ps.zip us) fun _ => none) s1) :
    Inv (cxOf CX P w K mg base N qual scope f cd A outer s H E) [] (start N vs) H s1 := by
  have hpl : ps.length ≤ N.length := by have := congrArg List.length S.pre; rw [List.length_take] at this; omega
  obtain ⟨h1, tk, rfl, hk⟩ := x.done
  have noA : ∀ b : Addr, b ∉ (cxOf CX P w K mg base N qual scope f cd A outer s H E).ex := fun b z => absurd (show b ∈ ([] : List Addr) from z) (by simp)
  refine ⟨⟨e0.mod, S.kind, rfl, rfl, Nat.le_refl _, fun y z c h1 h2 => ?_, fun y hy => ?_, fun y c _ h => ?_, fun _ => hd, Around.frames_deeper e0.frames, .inr ⟨rfl, rfl⟩, fun b z => absurd z (noA b), e0.bs, e0.bsz, fun b _ _ => noA b, fun b z => absurd z (noA b), e0.funs, e0.frf⟩,
    rfl, e0.bare, Un.kept hk, ⟨_, x.toInCall.ns, fun i y v h1 h2 h3 => ?_⟩, fun y c h => ⟨_, x.cell y c h⟩, e0.hok.fresh (Nat.le_refl _), fun y c h => ?_, fun p hp => absurd (show p ∈ ([] : List (Addr × Obj)) from hp) (by simp), e0.hok.kept hk, ?_⟩
  · exact name_of_addr x.apart (PySem.mem_of_lookup h1) (PySem.mem_of_lookup h2)
  · have hy : scope.names.lookup y = some .cell ∨ scope.names.lookup y = some .free := hy
    rcases hy with hy | hy
    · exact cell_has hy
    · exact absurd rfl (S.nofree _ (PySem.mem_of_lookup hy))
  · exact Nat.le_of_lt (x.above y c (PySem.mem_of_lookup h))
  · have hi : i < vs.length := by
      unfold start at h2
      by_cases hi : i < vs.length
      · exact hi
      · rw [List.getElem?_append_right (by simpa using hi)] at h2
        rw [List.getElem?_replicate] at h2
        split at h2 <;> cases h2
    have ha : vs[i]? = some v := by
      unfold start at h2
      rw [List.getElem?_append_left (by simpa using hi), List.getElem?_map] at h2
      cases e : vs[i]? with
      | none => rw [e] at h2; cases h2
      | some a => rw [e] at h2; cases h2; rfl
    obtain ⟨u, hu, rv⟩ := r.get ha
    have hp : ps[i]? = some y := by
      rw [← S.pre, List.getElem?_take_of_lt (by omega)]; exact h1
    have ndP : ps.Nodup := by rw [← S.pre]; exact S.nd.sublist (List.take_sublist _ _)
    refine ⟨u, rv, ?_⟩
    rcases S.par y (List.mem_of_getElem? hp) with k | k
    · exact .inl ⟨k, bindL_get ndP hp hu k⟩
    · obtain ⟨c, e⟩ := cell_has (n := s.heap.objs.size + 1) k
      refine .inr ⟨.inl k, c, e, ?_⟩
      have q := x.cell y c e
      rw [bindC_get ndP hp hu (by show scope.names.lookup y ≠ _; rw [k]; decide)] at q
      exact q
  · exact e0.hok.fresh (Nat.le_of_lt (x.above y c (PySem.mem_of_lookup h)))
  · unfold start
    show _ = N.length
    rw [List.length_append, List.length_map, List.length_replicate]
    omega
theorem fn_of {CX : CXT} {P : Program} {w : World} {K : PySem.W.Frag} {mg : Str → Option Value} {base : Heap} {k : Nat} {f : Addr} {name qual : Str} {params : Arguments} {body : List Stmt} {scope : Scope} {dV kV doc pm cdv ct oc : Value} {an od : Option Addr}
    {osl : Array (Option Value)} {N ps : List Str} {sp : Sp} (lk : K.lookup f = some ⟨oc, od, .func (PySem.W.fnOf name qual params body scope dV kV doc pm an cdv ct), osl⟩) (hcd : PySem.W.codeIn K cdv qual = true) (S : FnScope N ps scope)
    (len : ∀ vs H Q E, sp vs H Q E → vs.length = ps.length)
    (hbody : ∀ (A : Around) (outer : List Env) (s : Shared) (H : Hp) (vs : List V) (Q : VK) (E : XK), Room k (A.deeper (envOfC qual scope s.heap.objs.size f cdv)) → sp vs H Q E →
      ∃ t, PSs (cxOf CX P w K mg base N qual scope f cdv A outer s H E) body t ∧ t { nx := fun _ H' => Q .non H', rt := Q } (start N vs) H) :
    FnOk P w K mg base CX (k + 1) f (PySem.W.fnOf name qual params body scope dV kV doc pm an cdv ct) ps sp := by
  refine ⟨len, fun A outer s H args us vs Q E hr e0 hb r hsp => ?_⟩
  have hl := len _ _ _ _ hsp
  have KX : K.In s.heap := e0.mod.kin.keeps fun b o e => (e0.bs b o e).1
  have lim : s.heap.NoLimit := e0.mod.nolimit.keeps fun b o e => (e0.bs b o e).1
  have hkind : ∀ y ∈ ps.zip us, scope.names.lookup y.1 = some .local ∨ (scope.names.lookup y.1 = some .cell ∧ ((cellsFrom (s.heap.objs.size + 1) scope.names []).lookup y.1).isSome = true) := fun ⟨n, v⟩ hy => by
    rcases S.par n (List.of_mem_zip hy).1 with q | q
    · exact .inl q
    · exact .inr ⟨q, PySem.W.cellsFrom_some _ _ _ (.inl q)⟩
  refine codeAny_call_function hr.depth (KX _ _ lk) rfl S.co S.gen rfl (PySem.W.codeRec_of KX hcd) (hb _ _ _ _ ?_)
  refine wpAny_newFunctionEnv_cells S.kind hkind fun env he s1 x => ?_
  subst he
  refine ⟨lim.keeps x.toInCall.keep, codeAny_func ?_⟩
  obtain ⟨t, ht, hq⟩ := hbody A outer s H vs Q E (hr.deeper _) hsp
  have I : Inv (cxOf CX P w K mg base N qual scope f cdv A outer s H E) [] (start N vs) H s1 := inv_start S hr.hd e0 hl r x
  refine wpAny_mono (ht [] s1 (start N vs) H _ I hq) (fun fl s' hs => ?_) fun e s' hs => hs
  have fin : ∀ {σ' : St} {H' : Hp} {v : V} {u : Value}, Inv (cxOf CX P w K mg base N qual scope f cdv A outer s H E) [] σ' H' s' → RelV v u → Q v H' → CE outer P w H s Q u s' :=
    fun {σ' H' v u} J rv q => ⟨v, H', J.os, J.bare, J.base, J.hok, rv, q⟩
  cases fl with
  | ret u =>
    obtain ⟨v, σ', H', J, rv, q⟩ := hs
    exact fin J rv q
  | next =>
    obtain ⟨σ', H', J, q⟩ := hs
    exact fin (v := V.non) (u := Value.none) J rfl q
  | brk =>
    obtain ⟨_, _, _, q⟩ := hs
    exact False.elim q
  | cont =>
    obtain ⟨_, _, _, q⟩ := hs
    exact False.elim q
end L2
namespace L2
open PySem PySem.Spec PyProof.Rows
section
variable {X : Cx} {x : Str} {p pos : Pos} {e : Expr} {es : List Expr} {t : TA} {id T : String} {r : List V → Hp → VK → Prop}
def tCB (r : List V → Hp → VK → Prop) (t : TA) : TE := fun σ H Q => t σ H fun vs H1 => r vs H1 Q
theorem pe_callB (hc : CallR X (.builtin id) r) (hg : Gl X x) (hm : X.mg x = none) (hv : bootBuiltins x = some (.builtin id)) (ha : PA X (e :: es) t) (hn : x ≠ "__name__" := by decide) (hdb : (x == ("__debug__" : Str)) = false := by decide)
    (he : starEach (e :: es) X.env = (false, eval e X.env) :: starEach es X.env := by rfl) (hpl : (backTo pos (starEach es X.env)).any (·.1) = false := by rfl) : PE X (.Call (.Name x p) (e :: es) [] pos) (tCB r t) := by
  intro pins s σ H Q I h
  refine wpAny_Call_Name_kw (ld_blt I hg hm hv ?_ hn hdb)
  exact PyProof.Rows.callWith_builtin1 (thn (ha pos pins s σ H _ I h) fun us s1 ⟨vs, H1, I1, r1, q1⟩ => hc pins s1 σ H1 vs us Q I1 r1 q1) he hpl
theorem pe_callTy (hc : CallR X (.type T) r) (hg : Gl X x) (hm : X.mg x = none) (hv : bootBuiltins x = some (.type T)) (ha : PA X (e :: es) t) (hn : x ≠ "__name__" := by decide) (hdb : (x == ("__debug__" : Str)) = false := by decide)
    (he : starEach (e :: es) X.env = (false, eval e X.env) :: starEach es X.env := by rfl) (hpl : (backTo pos (starEach es X.env)).any (·.1) = false := by rfl) : PE X (.Call (.Name x p) (e :: es) [] pos) (tCB r t) := by
  intro pins s σ H Q I h
  refine wpAny_Call_Name_kw (ld_blt I hg hm hv ?_ hn hdb)
  exact PyProof.Rows.callWith_type1 (thn (ha pos pins s σ H _ I h) fun us s1 ⟨vs, H1, I1, r1, q1⟩ => hc pins s1 σ H1 vs us Q I1 r1 q1) he hpl
end
end L2
namespace L2
open PySem PySem.Spec PyProof.Rows
section
variable {κ : Type} [DecidableEq κ]
def valV (kvs : List (κ × V)) (k : κ) : Option V := (kvs.find? fun kv => decide (kv.1 = k)).map (·.2)
theorem valV_pos {p : κ × V} {r : List (κ × V)} {k : κ} (e : p.1 = k) : valV (p :: r) k = some p.2 := by simp [valV, List.find?_cons, e]
theorem valV_neg {p : κ × V} {r : List (κ × V)} {k : κ} (e : ¬ p.1 = k) : valV (p :: r) k = valV r k := by simp [valV, List.find?_cons, e]
theorem RelO.isSome_eq {o : Option V} {u : Option Value} (r : RelO o u) : o.isSome = u.isSome := by
  cases o with
  | none => cases u with
    | none => rfl
    | some _ => exact (show False from r).elim
  | some _ => cases u with
    | none => exact (show False from r).elim
    | some _ => rfl
theorem KV.val {kvs : List (κ × V)} {vs : List (κ × Value)} (r : KV kvs vs) (k : κ) : RelO (valV kvs k) (valueAt vs k) := by
  unfold KV at r
  induction r with
  | nil => exact True.intro
  | @cons p q ps qs h t ih =>
    obtain ⟨h1, h2⟩ := h
    by_cases e : p.1 = k
    · have e' : q.1 = k := h1.symm.trans e
      have b : valueAt (q :: qs) k = some q.2 := by simp [valueAt, List.find?_cons, e']
      rw [valV_pos e, b]; exact h2
    · have e' : ¬ q.1 = k := fun z => e (h1.trans z)
      have b : valueAt (q :: qs) k = valueAt qs k := by simp [valueAt, List.find?_cons, e']
      rw [valV_neg e, b]; exact ih
theorem KV.length {kvs : List (κ × V)} {vs : List (κ × Value)} (r : KV kvs vs) : kvs.length = vs.length := Paired.length r
end
theorem kV_is {P : Program} {w : World} {k : Key} {u : Value} (r : RelV (kV k) u) : (mixKind P w).is k u = true := by
  cases k with
  | inl i => obtain ⟨t, e⟩ := (show ∃ t, u = Value.int i t from r); subst e; exact mixKind_int P w i t
  | inr x => obtain ⟨t, e⟩ := (show ∃ t, u = Value.str x t from r); subst e; exact mixKind_str P w x t
theorem items_are {P : Program} {w : World} : ∀ {ks : List Key} {us : List Value}, Vals (ks.map kV) us → ItemsAre (mixKind P w) ks us
  | [], _, r => by rw [List.map_nil] at r; cases r; exact .nil
  | k :: ks, _, r => by
    rw [List.map_cons] at r
    cases r with
    | cons h t => exact .cons (kV_is h) (items_are t)
abbrev KT (H : Hp) : List (List Key × V) → List (List Key × Addr × Value) → Prop := Paired fun p q => p.1 = q.1 ∧ H q.2.1 = some (.tup (p.1.map kV)) ∧ RelV p.2 q.2.2
theorem KT.val {H : Hp} {kvs : List (List Key × V)} {xs : List (List Key × Addr × Value)} (r : KT H kvs xs) (k : List Key) : RelO (valV kvs k) ((atKey xs k).map (·.2)) := by
  induction r with
  | nil => exact True.intro
  | @cons p q ps qs h t ih =>
    obtain ⟨h1, _, h2⟩ := h
    by_cases e : p.1 = k
    · have e' : q.1 = k := h1.symm.trans e
      have b : atKey (q :: qs) k = some q.2 := by simp [atKey, List.find?_cons, e']
      rw [valV_pos e, b]; exact h2
    · have e' : ¬ q.1 = k := fun z => e (h1.trans z)
      have b : atKey (q :: qs) k = atKey qs k := by simp [atKey, List.find?_cons, e']
      rw [valV_neg e, b]; exact ih
section
variable {P : Program} {w : World} {H : Hp} {h : Heap} {a : Addr}
theorem rd_of {u : HO} (ok : HOk P w H h) (e : Rd H a u) : ObjOk P w H h a u := e.ok ok
theorem dk_rd {kvs : List (Key × V)} (ok : HOk P w H h) (e : Rd H a (.dK kvs)) : kvs.length ≤ sizeLine ∧ (a == sysModules) = false ∧ ∃ vs, KV kvs vs ∧ h.DictOf (mixKind P w) a vs :=
  show ObjOk P w H h a (.dK kvs) from rd_of ok e
theorem key_of {ks : List Key} (ok : HOk P w H h) (e : H a = some (.tup (ks.map kV))) : (tupleKind (mixKind P w)).is h ks a := by
  obtain ⟨_, its, r, o, h1, h2, n, h3⟩ := (show ObjOk P w H h a (.tup (ks.map kV)) from ok a _ e)
  exact ⟨o, its.toArray, n, h1, h2, h3, by simpa using items_are r⟩
theorem dt_rd {kvs : List (List Key × V)} (ok : HOk P w H h) (e : Rd H a (.dT kvs)) : kvs.length ≤ sizeLine ∧ (a == sysModules) = false ∧
    ∃ xs, KT H kvs xs ∧ h.DictOfH (tupleKind (mixKind P w)) a xs := by
  obtain ⟨z, y, xs, r, o, es, ep, h1, h2, h3, h4, h5⟩ := (show ObjOk P w H h a (.dT kvs) from rd_of ok e)
  refine ⟨z, y, xs, r, o, es, ep, h1, h2, h3, h4, fun x hx => ?_, h5⟩
  have all : ∀ {l : List (List Key × V)} {m : List (List Key × Addr × Value)}, KT H l m → ∀ x ∈ m, (tupleKind (mixKind P w)).is h x.1 x.2.1 := by
    intro l m q
    induction q with
    | nil => intro x hx; exact nomatch hx
    | @cons p q ps qs hq t ih =>
      intro x hx
      rcases List.mem_cons.mp hx with e | hx
      · subst e
        exact key_of ok (by rw [← hq.1]; exact hq.2.1)
      · exact ih x hx
  exact all r x hx
end
def DGet (H : Hp) (a : Addr) (y : V) (r : Option V) : Prop :=
  (∃ kvs k, Rd H a (.dK kvs) ∧ y = kV k ∧ r = valV kvs k) ∨ ∃ kvs k b, Rd H a (.dT kvs) ∧ y = .ref b ∧ H b = some (.tup (k.map kV)) ∧ r = valV kvs k
theorem DGet.k {H : Hp} {a : Addr} {kvs : List (Key × V)} {k : Key} (e : H a = some (.dK kvs)) : DGet H a (kV k) (valV kvs k) := .inl ⟨kvs, k, .inl e, rfl, rfl⟩
theorem DGet.t {H : Hp} {a b : Addr} {kvs : List (List Key × V)} {k : List Key} (e : H a = some (.dT kvs)) (eb : H b = some (.tup (k.map kV))) : DGet H a (.ref b) (valV kvs k) := .inr ⟨kvs, k, b, .inl e, rfl, eb, rfl⟩
section
variable {X : Cx} {pins : List (Addr × Obj)} {σ : St} {H : Hp} {s : Shared} {a : Addr} {y v : V} {u r : Value} {o : Option V} {A : Around} {E : Value → Shared → Prop}
theorem d_in {Q : Value → Shared → Prop} (hu : A.units + 1 < cLine) (I : Inv X pins σ H s) (g : DGet H a y o) (ry : RelV y u) (h : ∀ s', Inv X pins σ H s' → Q (.bool o.isSome) s') :
    wpAny (model X.prog X.w) A (compareOp .In u (.ref a)) Q E s := by
  rcases g with ⟨kvs, k, e, ey, l⟩ | ⟨kvs, k, b, e, ey, eb, l⟩
  · subst ey
    obtain ⟨z, hd, vs, rel, dd⟩ := dk_rd I.hok e
    refine wpAny_in_of (kV_is ry) hd dd.mapOf ?_
    rw [← (rel.val k).isSome_eq, ← l]
    exact h _ (I.tok _)
  · subst ey
    cases (show u = Value.ref b from ry)
    obtain ⟨z, hd, xs, rel, dd⟩ := dt_rd I.hok e
    refine wpAny_in_heap (tupleKind_room_in1 hu) (key_of I.hok eb) hd dd ?_
    have q := (rel.val k).isSome_eq
    rw [Option.isSome_map] at q
    rw [← q, ← l]
    exact h _ (I.tok _)
end
section
variable {X : Cx} {pins : List (Addr × Obj)} {σ : St} {H : Hp} {s : Shared} {a : Addr} {kvs : List (Key × V)} {k : Key} {u : Value} {A : Around} {E : Value → Shared → Prop}
theorem d_len {Q : Value → Shared → Prop} (I : Inv X pins σ H s) (e : Rd H a (.dK kvs)) (h : ∀ t s', Inv X pins σ H s' → Q (.int kvs.length t) s') : wpAny (model X.prog X.w) A (call (.builtin "len") [.ref a]) Q E s := by
  obtain ⟨z, hd, vs, rel, dd⟩ := dk_rd I.hok e
  refine call_len_dict hd dd (by rw [← rel.length]; rw [sizeLine_eq] at z; omega) ?_
  rw [← rel.length]
  exact h _ _ (I.tok _)
end
section
variable {X : Cx} {o i e value : Expr} {pos pos' tpos : Pos} {td ty tv : TE}
end
section
variable {X : Cx} {pos : Pos}
end
section
variable {X : Cx} {pins : List (Addr × Obj)} {σ : St} {H : Hp} {s : Shared} {a : Addr} {y d : V} {u r : Value} {o : Option V} {A : Around} {E : Value → Shared → Prop}
end
section
variable {X : Cx} {o e f : Expr} {apos cpos : Pos} {td ty tx : TE}
end
section
variable {X : Cx} {pins : List (Addr × Obj)} {σ : St} {H : Hp} {s : Shared} {a : Addr} {kvs : List (Key × V)} {A : Around} {E : Value → Shared → Prop}
end
section
variable {X : Cx} {pins : List (Addr × Obj)} {σ : St} {H : Hp} {s : Shared} {a : Addr} {y : V} {u : Value} {A : Around} {E : Value → Shared → Prop}
end
end L2
namespace HT
open PySem PyProof.Rows
theorem eqAt_int (A : Around) (s : Shared) (a : Int) (t : Tok) (c : Int) (u : Tok) : ∃ e, SeqAt.EqAt A s (.int a t) (.int c u) e ∧ (e = true ↔ a = c) :=
  ⟨(a == c), SeqAt.EqAt.int_int a t c u, by simp⟩
section
open PySem.SeqAt
open PySem.AutoSeq1 (wpAny_loadPart')
open PySem.MeetsSeq PySem.MeetsSeq2 PySem.MeetsSeq3
end
section
variable {prog : Program} {w : World} {A : Around} {E : Value → Shared → Prop} {s : Shared}
theorem cat_tup {t b : Addr} {vs ws : List Value} {Q : Value → Shared → Prop} (ht : IsTup s.heap t vs.toArray) (hb : IsTup s.heap b ws.toArray) (hv : vs ≠ [])
    (h1 : ws = [] → Q (.ref t) s) (h2 : ws ≠ [] → Q (.ref s.heap.objs.size) { s with heap := s.heap.push { cls := .type "tuple", data := .seq (vs ++ ws).toArray } })
    (hsz : vs.length + ws.length ≤ sizeLine) : wpAny (model prog w) A (binaryOp .Add (.ref t) (.ref b)) Q E s := by
  obtain ⟨⟨cls, dd, data, sl⟩, ho, hc, n, hd⟩ := id ht
  obtain ⟨⟨cls2, dd2, data2, sl2⟩, ho2, hc2, n2, hd2⟩ := id hb
  simp only at hc hd hc2 hd2
  subst hc hd hc2 hd2
  have e : vs.toArray ++ ws.toArray = (vs ++ ws).toArray := by simp
  by_cases hw : ws = []
  · exact concat_meets ⟨_, ho, rfl⟩ ⟨_, ho2, rfl⟩ noFill_tuple_add seq_tuple_add PySem.F.slot_tuple_add PySem.F.entry_tuple_add (PySem.F.args_tuple_add_2 _ _)
      (tuple_addW1 t b vs.toArray ws.toArray n n2 dd dd2 sl sl2 (by simpa using hv) (by simp [hw])) ⟨ho, ho2, h1 hw⟩
  · refine concat_meets ⟨_, ho, rfl⟩ ⟨_, ho2, rfl⟩ noFill_tuple_add seq_tuple_add PySem.F.slot_tuple_add PySem.F.entry_tuple_add (PySem.F.args_tuple_add_2 _ _)
      (tuple_addW2 t b vs.toArray ws.toArray n n2 dd dd2 sl sl2 (by simpa using hv) (by simpa using hw) (by rw [List.size_toArray, List.size_toArray]; exact hsz)) ⟨ho, ho2, ?_⟩
    rw [e]
    exact h2 hw
def sIx (n d : Nat) : Option Int → Nat
  | none => d
  | some v => if v < 0 then (v + (n : Int)).toNat else min v.toNat n
theorem sIx_le (n d : Nat) (hd : d ≤ n) (o : Option Int) : sIx n d o ≤ n := by
  cases o with
  | none => exact hd
  | some v =>
    show (if v < 0 then (v + (n : Int)).toNat else min v.toNat n) ≤ n
    by_cases hv : v < 0
    · rw [if_pos hv]; omega
    · rw [if_neg hv]; exact Nat.min_le_right _ _
theorem clip_eq (v : Int) (n d : Nat) : (if v < 0 then max (v + (n : Int)) 0 else min v (n : Int)) = ((sIx n d (some v) : Nat) : Int) := by
  show (if v < 0 then max (v + (n : Int)) 0 else min v (n : Int)) = (((if v < 0 then (v + (n : Int)).toNat else min v.toNat n) : Nat) : Int)
  by_cases hv : v < 0
  · simp only [if_pos hv]; omega
  · simp only [if_neg hv]; omega
theorem adjust_gen (lo hi : Option Int) (n : Nat) : Builtin.Slice.sliceAdjust lo hi 1 (n : Int) = (((sIx n 0 lo : Nat) : Int), ((sIx n n hi : Nat) : Int)) := by
  have h1 : ¬ ((1 : Int) < 0) := by omega
  unfold Builtin.Slice.sliceAdjust
  simp only [h1, if_false]
  refine Prod.ext ?_ ?_
  · cases lo with
    | none => rfl
    | some v => exact clip_eq v n 0
  · cases hi with
    | none => rfl
    | some v => exact clip_eq v n n
theorem places_gen (i j : Nat) : Builtin.Slice.slicePlaces (i : Int) (j : Int) 1 = j - i := by
  unfold Builtin.Slice.slicePlaces
  have h1 : (1 : Int) > 0 := by omega
  simp only [h1, if_true, Int.ediv_one]
  split <;> omega
theorem slicePart_ {v : Value} {o : Option Int} {Q : Option Int → Shared → Prop} (p : IsPart v o) (h : Q o s) : wpAny (model prog w) A (Builtin.Slice.slicePartIndex v) Q E s := by
  cases p with
  | none => exact slicePart_none h
  | int i t => exact slicePart_int h
theorem sliceApplied_gen {sl : Addr} {vl vu : Value} {lo hi : Option Int} {n : Nat} {Q : Int × Int × Nat → Shared → Prop} (hs : s.heap.IsSliceOf sl vl vu .none) (pl : IsPart vl lo) (pu : IsPart vu hi)
    (h : Q (((sIx n 0 lo : Nat) : Int), 1, sIx n n hi - sIx n 0 lo) s) : wpAny (model prog w) A (Builtin.Slice.sliceApplied (.ref sl) (pure (n : Int))) Q E s := by
  obtain ⟨os, hos, hcs, hds⟩ := id hs
  unfold Builtin.Slice.sliceApplied Builtin.Slice.sliceFields
  refine wpAny_bind (wpAny_bind (wpAny_field hos hds (x := vl) rfl (wpAny_bind (wpAny_field hos hds (x := vu) rfl (wpAny_bind (wpAny_field hos hds (x := .none) rfl (wpAny_pure ?_)))))))
  refine wpAny_bind (slicePart_none ?_)
  show wpAny _ _ (if ((1 : Int) == 0) = true then _ else _) _ _ s
  rw [if_neg (by decide)]
  refine wpAny_bind (slicePart_ pl (wpAny_bind (slicePart_ pu (wpAny_bind (wpAny_pure ?_)))))
  show wpAny _ _ (match Builtin.Slice.sliceAdjust lo hi 1 (n : Int) with | (lo, hi) => pure (lo, (1 : Int), Builtin.Slice.slicePlaces lo hi 1)) _ _ s
  rw [adjust_gen lo hi n]
  show wpAny _ _ (pure (((sIx n 0 lo : Nat) : Int), (1 : Int), Builtin.Slice.slicePlaces ((sIx n 0 lo : Nat) : Int) ((sIx n n hi : Nat) : Int) 1)) _ _ s
  rw [places_gen]
  exact wpAny_pure h
theorem pick_gen (xs : Array Value) (i k : Nat) : ((List.range k).filterMap fun (m : Nat) => xs[((i : Int) + (m : Int) * 1).toNat]?).toArray = ((xs.toList.drop i).take k).toArray := by
  have e : (fun (m : Nat) => xs[((i : Int) + (m : Int) * 1).toNat]?) = fun m => xs[i + m]? := by
    funext m
    have : ((i : Int) + (m : Int) * 1).toNat = i + m := by omega
    rw [this]
  rw [e]
  have := pick_run xs i k
  rw [List.filterMap_map] at this
  have e2 : ((fun x => xs[x]?) ∘ fun x => i + x) = fun m => xs[i + m]? := rfl
  rw [e2] at this
  rw [this]
theorem getItem_tuple_cut {t sl : Addr} {items : Array Value} {vl vu : Value} {lo hi : Option Int} {Q : Value → Shared → Prop} (ht : IsTup s.heap t items) (hs : s.heap.IsSliceOf sl vl vu .none) (pl : IsPart vl lo) (pu : IsPart vu hi)
    (hw : ¬ (sIx items.size 0 lo = 0 ∧ sIx items.size items.size hi = items.size))
    (h : Q (.ref s.heap.objs.size) { s with heap := s.heap.push { cls := .type "tuple", data := .seq ((items.toList.drop (sIx items.size 0 lo)).take (sIx items.size items.size hi - sIx items.size 0 lo)).toArray } })
    (hsz : items.size ≤ sizeLine) : wpAny (model prog w) A (getItem (.ref t) (.ref sl)) Q E s := by
  have htake : sizeOk (.seq ((items.toList.drop (sIx items.size 0 lo)).take (sIx items.size items.size hi - sIx items.size 0 lo)).toArray) := by
    show ((items.toList.drop (sIx items.size 0 lo)).take (sIx items.size items.size hi - sIx items.size 0 lo)).toArray.size ≤ sizeLine
    rw [List.size_toArray, List.length_take, List.length_drop, Array.length_toList]
    omega
  have hj : sIx items.size items.size hi ≤ items.size := sIx_le _ _ (Nat.le_refl _) hi
  obtain ⟨os, hos, hcs, hds⟩ := id hs
  have hTs : s.TypeIs (.ref sl) "slice" := ⟨os, hos, hcs⟩
  unfold getItem
  try with_reducible refine wpAny_holding ?_
  first | refine wpAny_bind (wpAny_pure ?_) | skip
  refine wpAny_bind (wpAny_sequenceKey ht.typeIs (by decide) ?_)
  refine wpAny_bind (wpAny_callSpecial?_slot (name := Str.ofString "__getitem__") ht.typeIs PyProof.Rows.slot_tuple_getitem
    (wpAny_call_entry PyProof.Rows.slot_tuple_getitem ht.typeIs entry_tuple_getitem ?_ (args_tuple_getitem _ _)))
  show wpAny _ _ (Builtin.Tuple.tupleItemsOf (.ref t) >>= _) _ _ s
  refine wpAny_bind (tupleItemsOf_ ht ?_)
  refine wpAny_bind (wpAny_typeOf hTs ?_)
  rw [if_pos (by decide)]
  refine wpAny_bind (sliceApplied_gen hs pl pu ?_)
  have hno : ¬ ((((sIx items.size 0 lo : Nat) : Int) == 0 && (1 : Int) == 1 && (sIx items.size items.size hi - sIx items.size 0 lo) == items.size) = true) := by
    intro q
    rw [Bool.and_eq_true, Bool.and_eq_true] at q
    have q1 : ((sIx items.size 0 lo : Nat) : Int) = 0 := eq_of_beq q.1.1
    have q2 : sIx items.size items.size hi - sIx items.size 0 lo = items.size := eq_of_beq q.2
    exact hw ⟨by omega, by omega⟩
  show wpAny _ _ (if (((sIx items.size 0 lo : Nat) : Int) == 0 && (1 : Int) == 1 && (sIx items.size items.size hi - sIx items.size 0 lo) == items.size) = true then _ else _) _ _ s
  rw [if_neg hno, pick_gen]
  first
    | exact wpAny_bind (m := Builtin.Tuple.tupleExact _) (wpAny_newObj_type (wpAny_pure ⟨_, rfl, wpAny_pure h⟩) htake)
    | exact wpAny_bind (m := Builtin.Tuple.tupleExact _) (wpAny_newObj_type (wpAny_bind (wpAny_pure (wpAny_pure ⟨_, rfl, wpAny_pure h⟩))) htake)
    | exact wpAny_bind (wpAny_bind (m := Builtin.Tuple.tupleExact _) (wpAny_newObj_type (wpAny_pure (wpAny_pure ⟨_, rfl, wpAny_pure h⟩)) htake))
    | exact wpAny_bind (wpAny_bind (m := Builtin.Tuple.tupleExact _) (wpAny_newObj_type (wpAny_pure ⟨_, rfl, wpAny_pure h⟩) htake))
end
end HT
namespace L2
open PySem PySem.Spec PyProof.Rows
abbrev TO := St → Hp → (Option Int → Hp → Prop) → Prop
def PO (X : Cx) (e : Option Expr) (t : TO) : Prop :=
  ∀ (pins : List (Addr × Obj)) (s : Shared) (σ : St) (H : Hp) (Q : Option Int → Hp → Prop), Inv X pins σ H s → t σ H Q →
    wpAny (model X.prog X.w) X.A (evalPart e X.env) (fun u s' => ∃ o H', Inv X pins σ H' s' ∧ IsPart u o ∧ Q o H') X.xe s
def tPart (t : TE) : TO := fun σ H Q => t σ H fun x H1 => ∃ i, x = .int i ∧ Q (some i) H1
theorem intsAre_of {ns : List Int} : ∀ {us : List Value}, Vals (ns.map V.int) us → IntsAre us ns := by
  induction ns with
  | nil => intro us r; rw [List.map_nil] at r; cases r; exact .nil
  | cons n ns ih =>
    intro us r
    rw [List.map_cons] at r
    cases r with
    | cons r1 r2 =>
      obtain ⟨t, e⟩ := r1
      subst e
      exact .cons n t (ih r2)
section
variable {X : Cx} {e : Expr} {te : TE} {lo hi : Option Expr} {tl th : TO} {pos p2 : Pos}
theorem po_some (h : PE X e te) : PO X (some e) (tPart te) := by
  intro pins s σ H Q I hw
  rw [evalPart_some]
  refine thn (h pins s σ H _ I hw) fun u s1 ⟨x, H1, I1, r1, q1⟩ => ?_
  obtain ⟨i, rfl, q⟩ := q1
  obtain ⟨t, rfl⟩ := r1
  exact ⟨some i, H1, I1, .int i t, q⟩
def SlR (X : Cx) (r : V → Option Int → Option Int → Hp → VK → Prop) : Prop :=
  ∀ (pins : List (Addr × Obj)) (s : Shared) (σ : St) (H : Hp) (x : V) (v vl vu : Value) (lo hi : Option Int) (sl : Addr) (Q : VK), Inv X pins σ H s → RelV x v → s.heap.IsSliceOf sl vl vu .none → IsPart vl lo → IsPart vu hi → r x lo hi H Q →
    ∃ T id, typeLookup (.type T) "__getitem__" = pure (some (.builtin id)) ∧ s.TypeIs v T ∧ wpAny (model X.prog X.w) X.A (getItem v (.ref sl)) (EP X pins σ Q) X.xe s
theorem SlR.or {r r' : V → Option Int → Option Int → Hp → VK → Prop} (h : SlR X r) (h' : SlR X r') : SlR X (fun x lo hi H Q => r x lo hi H Q ∨ r' x lo hi H Q) := by
  intro pins s σ H x v vl vu lo hi sl Q I rx hs pl pu q
  rcases q with q | q
  · exact h pins s σ H x v vl vu lo hi sl Q I rx hs pl pu q
  · exact h' pins s σ H x v vl vu lo hi sl Q I rx hs pl pu q
def tSl (r : V → Option Int → Option Int → Hp → VK → Prop) (te : TE) (tl th : TO) : TE := fun σ H Q => te σ H fun x H1 => tl σ H1 fun l H2 => th σ H2 fun u H3 => r x l u H3 Q
theorem pe_slice {r : V → Option Int → Option Int → Hp → VK → Prop} (hr : SlR X r) (he : PE X e te) (hl : PO X lo tl) (hu : PO X hi th) : PE X (.Subscript e (.Slice lo hi none p2) pos) (tSl r te tl th) := by
  intro pins s σ H Q I h
  refine Subscript_ (thn (he pins s σ H _ I h) fun v s1 ⟨x, H1, I1, r1, q1⟩ => ?_)
  refine wpAny_Slice (thn (hl pins s1 σ H1 _ I1 q1) fun vl s2 ⟨l, H2, I2, pl, q2⟩ => thn (hu pins s2 σ H2 _ I2 q2) fun vu s3 ⟨u, H3, I3, pu, q3⟩ => ?_)
  rw [evalPart_none]
  refine wpAny_pure ?_
  have I4 : Inv X pins σ H3 { s3 with heap := s3.heap.push { cls := .type "slice", data := .fields #[vl, vu, .none] } } := I3.kept (t' := s3.toks) fun b ob q => Heap.get?_push_of_some _ q
  obtain ⟨T, id, hT, ht, hg⟩ := hr pins { s3 with heap := s3.heap.push { cls := .type "slice", data := .fields #[vl, vu, .none] } } σ H3 x v vl vu l u s3.heap.objs.size Q I4 r1 (Heap.IsSliceOf.new ..) pl pu q3
  show wpAny (model X.prog X.w) X.A (subscriptTail e (.Slice lo hi none p2) v (.ref s3.heap.objs.size)) (EP X pins σ Q) X.xe { s3 with heap := s3.heap.push { cls := .type "slice", data := .fields #[vl, vu, .none] } }
  exact tail_any (ops := [.ref s3.heap.objs.size, v]) ht hT hg (by with_unfolding_all rfl)
def cutV (xs : List V) (lo hi : Option Int) : List V := (xs.drop (HT.sIx xs.length 0 lo)).take (HT.sIx xs.length xs.length hi - HT.sIx xs.length 0 lo)
theorem cutV_length (xs : List V) (lo hi : Option Int) : (cutV xs lo hi).length ≤ xs.length := by
  unfold cutV
  rw [List.length_take, List.length_drop]
  omega
def rSlT (K : PySem.W.Frag) : V → Option Int → Option Int → Hp → VK → Prop := fun x lo hi H Q => ∃ a xs, x = .ref a ∧ SqT K H a xs ∧
  ¬ (HT.sIx xs.length 0 lo = 0 ∧ HT.sIx xs.length xs.length hi = xs.length) ∧ ∀ p, H p = none → Q (.ref p) (upd H p (.tup (cutV xs lo hi)))
theorem sl_tup : SlR X (rSlT X.K) := by
  intro pins s σ H x v vl vu lo hi sl Q I rx hs pl pu h
  obtain ⟨a, xs, rfl, hx, hw, q⟩ := h
  cases rx
  obtain ⟨its, r, ht, hz⟩ := I.tuple hx
  have hlen : its.toArray.size = xs.length := by rw [List.size_toArray]; exact r.length.symm
  refine ⟨"tuple", _, PyProof.Rows.slot_tuple_getitem.lookup, ht.typeIs, ?_⟩
  refine HT.getItem_tuple_cut ht hs pl pu (by rw [hlen]; exact hw) ?_ (by rw [hlen]; exact hz)
  rw [hlen]
  refine ⟨.ref s.heap.objs.size, _, I.laid (t' := s.toks) (o := .tup (cutV xs lo hi)) (fun b ob q => Heap.get?_push_of_some _ q) (Nat.le_refl _) ?_, rfl, q _ (I.hok.fresh (Nat.le_refl _))⟩
  exact ⟨Nat.le_trans (cutV_length xs lo hi) hz, _, (r.drop (HT.sIx xs.length 0 lo)).take (HT.sIx xs.length xs.length hi - HT.sIx xs.length 0 lo), IsTup.new _ _⟩
def rCatT (K : PySem.W.Frag) : R2 := fun x y H Q => ∃ a b xs ys, x = .ref a ∧ y = .ref b ∧ SqT K H a xs ∧ SqT K H b ys ∧ xs ≠ [] ∧ xs.length + ys.length ≤ sizeLine ∧
  (ys = [] → Q (.ref a) H) ∧ (ys ≠ [] → ∀ p, H p = none → Q (.ref p) (upd H p (.tup (xs ++ ys))))
theorem Vals.nil_iff {xs : List V} {us : List Value} (r : Vals xs us) : us = [] ↔ xs = [] := by
  cases r with
  | nil => simp
  | cons _ _ => simp
theorem op_catT : OpR X (binaryOp .Add) (rCatT X.K) := by
  intro pins s σ H x y v u Q I rx ry h
  obtain ⟨a, b, xs, ys, rfl, rfl, ha, hb, hx, hz, q1, q2⟩ := h
  cases rx
  cases ry
  obtain ⟨its, r1, p1, _⟩ := I.tuple ha
  obtain ⟨its2, r2, p2, _⟩ := I.tuple hb
  refine HT.cat_tup p1 p2 (fun z => hx (r1.nil_iff.mp z)) (fun z => ⟨.ref a, H, I, rfl, q1 (r2.nil_iff.mp z)⟩) (fun z => ?_) (by rw [← r1.length, ← r2.length]; exact hz)
  refine ⟨.ref s.heap.objs.size, _, I.laid (t' := s.toks) (o := .tup (xs ++ ys)) (fun b ob q => Heap.get?_push_of_some _ q) (Nat.le_refl _) ?_, rfl, q2 (fun w => z (r2.nil_iff.mpr w)) _ (I.hok.fresh (Nat.le_refl _))⟩
  exact ⟨by rw [List.length_append]; exact hz, _, r1.append r2, IsTup.new _ _⟩
end
end L2
namespace L2
open PySem PySem.Spec PyProof.Rows
def ixN (n : Nat) (i : Int) : Option Nat := if 0 ≤ i then (if i < n then some i.toNat else none) else if -(n : Int) ≤ i then some (i + n).toNat else none
def atI {α : Type} (xs : List α) (i : Int) : Option α := (ixN xs.length i).bind fun j => xs[j]?
theorem ixN_seq {n : Nat} {i : Int} {j : Nat} (h : ixN n i = some j) : seqIndex? i n = some j ∧ j < n ∧ -(n : Int) ≤ i ∧ i < n := by
  unfold ixN at h
  by_cases h0 : 0 ≤ i
  · rw [if_pos h0] at h
    by_cases h1 : i < n
    · rw [if_pos h1] at h
      have e : i.toNat = j := Option.some.inj h
      exact ⟨by rw [seqIndex_of h0 h1, e], by omega, by omega, h1⟩
    · rw [if_neg h1] at h; cases h
  · rw [if_neg h0] at h
    by_cases h1 : -(n : Int) ≤ i
    · rw [if_pos h1] at h
      have e : (i + n).toNat = j := Option.some.inj h
      exact ⟨by rw [seqIndex_neg (by omega) h1, e], by omega, h1, by omega⟩
    · rw [if_neg h1] at h; cases h
theorem atI_get {α : Type} {xs : List α} {i : Int} {v : α} (h : atI xs i = some v) : ∃ j, seqIndex? i xs.length = some j ∧ xs[j]? = some v ∧ j < xs.length ∧ -(xs.length : Int) ≤ i ∧ i < xs.length := by
  unfold atI at h
  cases e : ixN xs.length i with
  | none => rw [e] at h; cases h
  | some j =>
    rw [e] at h
    obtain ⟨h1, h2, h3, h4⟩ := ixN_seq e
    exact ⟨j, h1, h, h2, h3, h4⟩
def PlainIx (b : Expr) : Prop := ∀ o i, subscripted b false o i = operate [o, i] (getItem o i)
def IxR (X : Cx) (r : R2) : Prop :=
  ∀ (value slice : Expr) (pins : List (Addr × Obj)) (s : Shared) (σ : St) (H : Hp) (x y : V) (v u : Value) (Q : VK), Inv X pins σ H s → RelV x v → RelV y u → r x y H Q →
    subscripted slice false v u = operate [v, u] (getItem v u) → wpAny (model X.prog X.w) X.A (subscriptTail value slice v u) (EP X pins σ Q) X.xe s
def MtR (X : Cx) (id : String) (r : V → List V → Hp → VK → Prop) : Prop :=
  ∀ (pins : List (Addr × Obj)) (s : Shared) (σ : St) (H : Hp) (x : V) (xs : List V) (v : Value) (us : List Value) (Q : VK), Inv X pins σ H s → RelV x v → Vals xs us → r x xs H Q →
    wpAny (model X.prog X.w) X.A (call (.builtin id) (v :: us)) (EP X pins σ Q) X.xe s
section
variable {X : Cx} {a b : Expr} {ta tb : TE} {pos : Pos}
theorem IxR.or {r r' : R2} (h : IxR X r) (h' : IxR X r') : IxR X (fun x y H Q => r x y H Q ∨ r' x y H Q) := by
  intro value slice pins s σ H x y v u Q I rx ry q hs
  rcases q with q | q
  · exact h value slice pins s σ H x y v u Q I rx ry q hs
  · exact h' value slice pins s σ H x y v u Q I rx ry q hs
theorem pe_ix {r : R2} (hr : IxR X r) (ha : PE X a ta) (hb : PE X b tb) (hs : PlainIx b) : PE X (.Subscript a b pos) (tOp r ta tb) := by
  intro pins s σ H Q I h
  exact Subscript_ (binT ha hb I h fun v u s2 x y H2 I2 rx ry q => hr a b pins s2 σ H2 x y v u Q I2 rx ry q (hs _ _))
def rIxL (K : PySem.W.Frag) : R2 := fun x y H Q => ∃ p xs i v, x = .ref p ∧ y = .int i ∧ SqL K H p xs ∧ atI xs i = some v ∧ Q v H
def rIxT (K : PySem.W.Frag) : R2 := fun x y H Q => ∃ p xs i v, x = .ref p ∧ y = .int i ∧ SqT K H p xs ∧ atI xs i = some v ∧ Q v H
def rIxS : R2 := fun x y H Q => ∃ z i c, x = .str z ∧ y = .int i ∧ z.length ≤ sizeLine ∧ atI z.cps.toList i = some c ∧ Q (.str ⟨#[c]⟩) H
theorem ix_list : IxR X (rIxL X.K) := by
  intro value slice pins s σ H x y v u Q I rx ry h hs
  obtain ⟨p, xs, i, z, rfl, rfl, hq, he, q⟩ := h
  cases rx
  obtain ⟨t, rfl⟩ := ry
  obtain ⟨its, r, pl, hz⟩ := I.list hq
  obtain ⟨j, h1, h2, h3, h4, h5⟩ := atI_get he
  obtain ⟨w, ew, rw'⟩ := r.get h2
  have hl := r.length
  have hn := line63
  have fin : EP X pins σ Q w s := ⟨z, H, I, rw', q⟩
  by_cases h0 : 0 ≤ i
  · have hj : i.toNat = j := by
      rw [seqIndex_of h0 h5] at h1
      exact Option.some.inj h1
    exact item_listR pl.isList h0 (by omega) (by rw [hj]; simpa using ew) fin hs
  · have hj : (i + (its.toArray.size : Int)).toNat = j := by
      rw [seqIndex_neg (by omega) h4] at h1
      rw [List.size_toArray, ← hl]
      exact Option.some.inj h1
    exact subscriptTail_builtinR (x := w) pl.isList.typeIs slot_list_getitem.lookup
      (wpAny_getItem_list_neg (Q := fun r s' => r = w ∧ EP X pins σ Q r s') pl.isList (by omega) (by rw [List.size_toArray] <;> omega) (by omega) (by rw [hj]; simpa using ew) ⟨rfl, fin⟩) hs
theorem ix_tup : IxR X (rIxT X.K) := by
  intro value slice pins s σ H x y v u Q I rx ry h hs
  obtain ⟨p, xs, i, z, rfl, rfl, hq, he, q⟩ := h
  cases rx
  obtain ⟨t, rfl⟩ := ry
  obtain ⟨its, r, pl, hz⟩ := I.tuple hq
  obtain ⟨j, h1, h2, h3, h4, h5⟩ := atI_get he
  obtain ⟨w, ew, rw'⟩ := r.get h2
  have hl := r.length
  have hn := line63
  have fin : EP X pins σ Q w s := ⟨z, H, I, rw', q⟩
  exact subscriptTail_builtinR (x := w) pl.typeIs slot_tuple_getitem.lookup
    (getItem_tuple (j := j) (Q := fun r s' => r = w ∧ EP X pins σ Q r s') pl (by omega) (by omega) (by rw [List.size_toArray, ← hl]; exact h1) (by simpa using ew) ⟨rfl, fin⟩) hs
theorem ix_str : IxR X rIxS := by
  intro value slice pins s σ H x y v u Q I rx ry h hs
  obtain ⟨z, i, c, rfl, rfl, hz, he, q⟩ := h
  obtain ⟨t, rfl⟩ := rx
  obtain ⟨t', rfl⟩ := ry
  obtain ⟨j, h1, h2, h3, h4, h5⟩ := atI_get he
  have hl : z.cps.toList.length = z.length := by simp [Str.length]
  rw [hl] at h1 h4 h5
  have hn := line63
  exact tail_any (typeIs_str s z t) slot_str_getitem.lookup (getItem_str (c := c) (by
    have e1 : decide (i < -(2 ^ 63 : Int)) = false := decide_eq_false (by omega)
    have e2 : decide (i ≥ 2 ^ 63) = false := decide_eq_false (by omega)
    rw [e1, e2, Bool.or_false]) (by rw [h1]; simpa using h2) ⟨.str ⟨#[c]⟩, H, I.tok _, ⟨_, rfl⟩, q⟩) hs
def rIx (K : PySem.W.Frag) : R2 := fun x y H Q => rIxL K x y H Q ∨ rIxT K x y H Q ∨ rIxS x y H Q
theorem ix_seq : IxR X (rIx X.K) := ix_list.or (ix_tup.or ix_str)
theorem mapSeq_set (its : List Value) (n j : Nat) (u : Value) : Obj.mapSeq (·.setIfInBounds j u) { cls := .type "list", data := .seq its.toArray n } = { cls := .type "list", data := .seq (its.set j u).toArray n } := by
  simp [Obj.mapSeq]
theorem Inv.lst {pins : List (Addr × Obj)} {σ : St} {H : Hp} {s : Shared} {p : Addr} {xs : List V} (I : Inv X pins σ H s) (h : H p = some (.lst xs)) :
    ∃ (its : List Value) (n : Nat), Vals xs its ∧ s.heap.get? p = some { cls := .type "list", data := .seq its.toArray n } ∧ xs.length ≤ sizeLine := by
  obtain ⟨z, its, n, r, e⟩ := I.hok p _ h
  exact ⟨its, n, r, e, z⟩
theorem Inv.lstUpd {pins : List (Addr × Obj)} {σ : St} {H : Hp} {s : Shared} {p : Addr} {xs ys : List V} {its its' : List Value} {n n' : Nat} {f : Obj → Obj} (I : Inv X pins σ H s) (h : H p = some (.lst xs))
    (ho : s.heap.get? p = some { cls := .type "list", data := .seq its.toArray n }) (hf : f { cls := .type "list", data := .seq its.toArray n } = { cls := .type "list", data := .seq its'.toArray n' }) (r : Vals ys its') (hz : ys.length ≤ sizeLine) (t : Nat) :
    Inv X pins σ (upd H p (.lst ys)) { s with heap := s.heap.update p f, toks := t } := by
  have e : (s.heap.update p f).get? p = some { cls := .type "list", data := .seq its'.toArray n' } := by
    rw [Heap.get?_update_self f ho (by rw [hf] <;> rfl), hf]
  refine I.write (x := p) (e := p) (by rw [h]; trivial) (.inl rfl) (fun b u hb q => (Heap.get?_update_other _ _ (Ne.symm hb)).trans q) ⟨_, e⟩ ?_
  exact ⟨hz, its', n', r, e⟩
def rSetL : V → V → V → Hp → (Hp → Prop) → Prop := fun o i v H Q => ∃ p xs k j, o = .ref p ∧ i = .int k ∧ H p = some (.lst xs) ∧ ixN xs.length k = some j ∧ Q (upd H p (.lst (xs.set j v)))
theorem set_list : PSet X rSetL := by
  intro pins s σ H o i v ov iv u Q I ro ri rv h
  obtain ⟨p, xs, k, j, rfl, rfl, hp, hj, q⟩ := h
  cases ro
  obtain ⟨t, rfl⟩ := ri
  obtain ⟨its, n, r, ho, hz⟩ := I.lst hp
  obtain ⟨h1, h2, h3, h4⟩ := ixN_seq hj
  have hl := r.length
  have hn := line63
  have I' : Inv X pins σ (upd H p (.lst (xs.set j v))) { s with heap := s.heap.update p (Obj.mapSeq (·.setIfInBounds j u)) } :=
    I.lstUpd hp ho (mapSeq_set its n j u) (r.set rv j) (by rw [List.length_set]; exact hz) s.toks
  by_cases h0 : 0 ≤ k
  · have hk : k.toNat = j := by
      rw [seqIndex_of h0 h4] at h1
      exact Option.some.inj h1
    exact PySem.W.ki_setAt ho h0 (by omega) (by rw [List.size_toArray, ← hl]; exact h4) (by rw [hk]; exact ⟨_, I', q⟩)
  · have hk : (k + (its.toArray.size : Int)).toNat = j := by
      rw [seqIndex_neg (by omega) h3] at h1
      rw [List.size_toArray, ← hl]
      exact Option.some.inj h1
    exact PySem.W.ki_setBack ho (by omega) (by rw [List.size_toArray, ← hl]; exact h3) (by omega) (by rw [hk]; exact ⟨_, I', q⟩)
theorem slice_bounds (lo hi : Option Int) (n : Nat) : (sliceBounds lo hi none n).1 = ((HT.sIx n 0 lo : Nat) : Int) ∧ (sliceBounds lo hi none n).2.1 = ((HT.sIx n n hi : Nat) : Int) ∧ (sliceBounds lo hi none n).2.2 = 1 := by
  refine ⟨?_, ?_, rfl⟩
  · cases lo with
    | none => simp [sliceBounds, HT.sIx]
    | some i =>
      simp only [sliceBounds, HT.sIx, Option.getD_none, show (1 : Int) > 0 by decide, if_true]
      by_cases h : i < 0
      · simp only [h, if_true] <;> omega
      · simp only [h, if_false] <;> omega
  · cases hi with
    | none => simp [sliceBounds, HT.sIx]
    | some i =>
      simp only [sliceBounds, HT.sIx, Option.getD_none, show (1 : Int) > 0 by decide, if_true]
      by_cases h : i < 0
      · simp only [h, if_true] <;> omega
      · simp only [h, if_false] <;> omega
theorem slicePick_cut (its : List Value) (lo hi : Option Int) : slicePick its.toArray lo hi none = ((its.drop (HT.sIx its.length 0 lo)).take (HT.sIx its.length its.length hi - HT.sIx its.length 0 lo)).toArray := by
  obtain ⟨h1, h2, h3⟩ := slice_bounds lo hi its.toArray.size
  unfold slicePick
  rw [h1, h2, h3]
  simp only [sliceRange_one, pick_run, List.size_toArray] <;> rfl
def rSlL (K : PySem.W.Frag) : V → Option Int → Option Int → Hp → VK → Prop := fun x lo hi H Q => ∃ a xs, x = .ref a ∧ SqL K H a xs ∧ ∀ p, H p = none → Q (.ref p) (upd H p (.lst (cutV xs lo hi)))
theorem sl_list : SlR X (rSlL X.K) := by
  intro pins s σ H x v vl vu lo hi sl Q I rx hs pl pu h
  obtain ⟨a, xs, rfl, hx, q⟩ := h
  cases rx
  obtain ⟨its, r, ht, hz⟩ := I.list hx
  have hlen := r.length
  refine ⟨"list", _, slot_list_getitem.lookup, ht.isList.typeIs, ?_⟩
  refine wpAny_getItem_list_slice ht.isList hs pl pu .none (by simp) ?_ (by rw [List.size_toArray] <;> omega)
  rw [slicePick_cut, ← hlen]
  refine ⟨.ref s.heap.objs.size, _, I.laid (t' := s.toks) (o := .lst (cutV xs lo hi)) (fun b ob q => Heap.get?_push_of_some _ q) (Nat.le_refl _) ?_, rfl, q _ (I.hok.fresh (Nat.le_refl _))⟩
  exact ⟨Nat.le_trans (cutV_length xs lo hi) hz, _, 0, (r.drop (HT.sIx xs.length 0 lo)).take (HT.sIx xs.length xs.length hi - HT.sIx xs.length 0 lo), Heap.get?_push_size _ rfl⟩
theorem call_len_seq : CallR X (.builtin "len") (fun xs H Q => ∃ p ys, xs = [.ref p] ∧ (SqL X.K H p ys ∨ SqT X.K H p ys) ∧ Q (.int ys.length) H) := by
  intro pins s σ H xs us Q I r h
  obtain ⟨p, ys, rfl, hq, q⟩ := h
  obtain ⟨u, rfl, rx⟩ := vals1 r
  cases rx
  have hn := line63
  rcases hq with hq | hq
  · obtain ⟨its, r', pl, hz⟩ := I.list hq
    have hlen := r'.length
    exact Calls.call_len_list pl.isList (by simp only [List.size_toArray] <;> omega) ⟨.int ys.length, H, I.tok _, ⟨s.toks + 1, by rw [List.size_toArray, hlen]⟩, q⟩
  · obtain ⟨its, r', pl, hz⟩ := I.tuple hq
    have hlen := r'.length
    exact len_tuple pl (by simp only [List.size_toArray] <;> omega) ⟨.int ys.length, H, I.tok _, ⟨s.toks + 1, by rw [List.size_toArray, hlen]⟩, q⟩
theorem CallR.or {f : Value} {r r' : List V → Hp → VK → Prop} (h : CallR X f r) (h' : CallR X f r') : CallR X f (fun xs H Q => r xs H Q ∨ r' xs H Q) := by
  intro pins s σ H xs us Q I rs q
  rcases q with q | q
  · exact h pins s σ H xs us Q I rs q
  · exact h' pins s σ H xs us Q I rs q
theorem call_list_of : CallR X (.type "list") (fun xs H Q => ∃ p ys, xs = [.ref p] ∧ (SqL X.K H p ys ∨ SqT X.K H p ys) ∧ ∀ l, H l = none → Q (.ref l) (upd H l (.lst ys))) := by
  intro pins s σ H xs us Q I r h
  obtain ⟨p, ys, rfl, hq, q⟩ := h
  obtain ⟨u, rfl, rx⟩ := vals1 r
  cases rx
  have fin : ∀ (its : List Value), Vals ys its → ys.length ≤ sizeLine → ∀ (h' : Heap) (c' : Nat), (∀ b o', s.heap.get? b = some o' → h'.get? b = some o') →
      h'.get? s.heap.objs.size = some { cls := .type "list", dict := none, data := .seq its.toArray c', slots := #[] } → EP X pins σ Q (.ref s.heap.objs.size) { s with heap := h' } := fun its r' hz h' c' kp e =>
    ⟨.ref s.heap.objs.size, _, I.laid (t' := s.toks) kp (Nat.le_refl _) (show ObjOk X.prog X.w _ h' _ (.lst ys) from ⟨hz, its, c', r', e⟩), rfl, q _ (I.hok.fresh (Nat.le_refl _))⟩
  rcases hq with hq | hq
  · obtain ⟨its, r', pl, hz⟩ := I.list hq
    have hlen := r'.length
    obtain ⟨o, ho, hc, n, hd⟩ := pl.isList
    exact call_list_seq p (.inl rfl) ho hc hd (fun h' c' kp e => fin its r' hz h' c' kp e) (by simp only [List.size_toArray] <;> omega)
  · obtain ⟨its, r', pl, hz⟩ := I.tuple hq
    have hlen := r'.length
    obtain ⟨o, ho, hc, n, hd⟩ := pl
    exact call_list_seq p (.inr rfl) ho hc hd (fun h' c' kp e => fin its r' hz h' c' kp e) (by simp only [List.size_toArray] <;> omega)
theorem call_tuple_of : CallR X (.type "tuple") (fun xs H Q => ∃ p ys, xs = [.ref p] ∧ ((SqL X.K H p ys ∧ ∀ l, H l = none → Q (.ref l) (upd H l (.tup ys))) ∨ (SqT X.K H p ys ∧ Q (.ref p) H))) := by
  intro pins s σ H xs us Q I r h
  obtain ⟨p, ys, rfl, h⟩ := h
  obtain ⟨u, rfl, rx⟩ := vals1 r
  cases rx
  rcases h with ⟨hq, q⟩ | ⟨hq, q⟩
  · obtain ⟨its, r', pl, hz⟩ := I.list hq
    have hlen := r'.length
    refine call_tuple_list pl.isList (fun h' kp => ?_) (by simp only [List.size_toArray] <;> omega)
    have I1 : Inv X pins σ H { s with heap := h' } := I.kept (t' := s.toks) kp
    have I2 : Inv X pins σ (upd H h'.objs.size (.tup ys)) { s with heap := h'.push { cls := .type "tuple", data := .seq its.toArray } } :=
      I1.laid (t' := s.toks) (fun b o e => Heap.get?_push_of_some _ e) (Nat.le_refl _) (show ObjOk X.prog X.w _ _ _ (.tup ys) from ⟨hz, its, r', IsTup.new _ _⟩)
    exact ⟨.ref h'.objs.size, _, I2, rfl, q _ (I1.hok.fresh (Nat.le_refl _))⟩
  · obtain ⟨its, r', pl, hz⟩ := I.tuple hq
    exact call_tuple_same pl ⟨.ref p, H, I, rfl, q⟩
def tyV (K : PySem.W.Frag) (T : String) (x : V) (H : Hp) : Prop := match x with
  | .str _ => T = "str"
  | .int _ => T = "int"
  | .ref p => (T = "list" ∧ ∃ xs, SqL K H p xs) ∨ (T = "tuple" ∧ ∃ o, K.lookup p = some o ∧ o.cls = .type "tuple" ∧ o.dict = none) ∨
      (T = "dict" ∧ ((∃ kvs, H p = some (.dK kvs)) ∨ ∃ kvs, H p = some (.dT kvs))) ∨ (T = "set" ∧ ∃ S n, H p = some (.set S n))
  | _ => False
theorem tyV_is {pins : List (Addr × Obj)} {σ : St} {H : Hp} {s : Shared} {T : String} {x : V} {v : Value} (I : Inv X pins σ H s) (r : RelV x v) (ty : tyV X.K T x H) :
    s.TypeIs v T ∧ ∀ a, v = .ref a → ∃ ob, s.heap.get? a = some ob ∧ ob.dict = none := by
  cases x with
  | str z =>
    obtain ⟨t, rfl⟩ := r
    cases (show T = "str" from ty)
    exact ⟨typeIs_str s z t, fun _ e => nomatch e⟩
  | int i =>
    obtain ⟨t, rfl⟩ := r
    cases (show T = "int" from ty)
    exact ⟨typeIs_int s i t, fun _ e => nomatch e⟩
  | ref p =>
    cases r
    rcases ty with ⟨rfl, xs, hq⟩ | ⟨rfl, o, hk, hc, hd⟩ | ⟨rfl, hk⟩ | ⟨rfl, S, n, hk⟩
    · obtain ⟨its, _, pl, _⟩ := I.list hq
      refine ⟨pl.isList.typeIs, fun a e => ?_⟩
      cases e
      obtain ⟨o, n, e, c, hd, _⟩ := pl
      exact ⟨o, e, hd⟩
    · refine ⟨⟨o, I.kIn p o hk, hc⟩, fun a e => ?_⟩
      cases e
      exact ⟨o, I.kIn _ o hk, hd⟩
    · have z : ∃ o, s.heap.get? p = some o ∧ o.ExactDict := by
        rcases hk with ⟨kvs, hk⟩ | ⟨kvs, hk⟩
        · obtain ⟨_, _, _, _, o, _, _, e, ex, _⟩ := I.hok p _ hk
          exact ⟨o, e, ex⟩
        · obtain ⟨_, _, _, _, o, _, _, e, ex, _⟩ := I.hok p _ hk
          exact ⟨o, e, ex⟩
      obtain ⟨o, e, ex⟩ := z
      refine ⟨⟨o, e, ex.1⟩, fun a e2 => ?_⟩
      cases e2
      exact ⟨o, e, ex.2.1⟩
    · obtain ⟨o, _, _, _, e, ex, _⟩ := I.hok p _ hk
      refine ⟨⟨o, e, ex.1⟩, fun a e2 => ?_⟩
      cases e2
      exact ⟨o, e, ex.2.1⟩
  | _ => exact False.elim ty
def tBM (K : PySem.W.Frag) (T : String) (r : V → List V → Hp → VK → Prop) (to : TE) (t : TA) : TE := fun σ H Q => to σ H fun x H1 => tyV K T x H1 ∧ t σ H1 fun xs H2 => r x xs H2 Q
variable {o e : Expr} {es : List Expr} {to : TE} {t : TA} {name : Str} {apos cpos : Pos} {T id : String} {r : V → List V → Hp → VK → Prop}
theorem pe_bm (pa : PlainAttrs T) (slot : Slot T name id) (hty : typeOf (.builtin id) = pure (.type "method_descriptor")) (hm : MtR X id r) (ho : PE X o to) (ha : PA X (e :: es) t)
    (hbase : attributeBase o name X.env (eval o X.env) = eval o X.env := by rfl)
    (hfew : ((backTo cpos (starEach (e :: es) X.env)).all (fun x => !x.1) && (backToKw cpos (keywordEach [] X.env)).all (fun x => x.1.isSome)
      && decide ((e :: es).length + ([] : List Keyword).length + (if ([] : List Keyword).isEmpty then 0 else 1) < 30)) = true := by rfl)
    (hline : (apos.endLine == cpos.line) = true := by rfl) (hs : starEach (e :: es) X.env = (false, eval e X.env) :: starEach es X.env := by rfl) (hplain : (backTo cpos (starEach es X.env)).any (·.1) = false := by rfl) :
    PE X (.Call (.Attribute o name apos) (e :: es) [] cpos) (tBM X.K T r to t) := by
  intro pins s σ H Q I h
  refine wpAny_Call_method_late hbase hfew hline rfl (thn (ho pins s σ H _ I h) fun v s1 ⟨x, H1, I1, r1, ty, q1⟩ => ?_)
  obtain ⟨h1, h2⟩ := tyV_is I1 r1 ty
  refine ⟨T, id, pa, slot, hty, h1, h2, ?_⟩
  have hA := ha cpos pins s1 σ H1 _ I1 q1
  rw [hs] at hA ⊢
  refine Calls.callWith_builtin (by show (false || (backTo cpos (starEach es X.env)).any (·.1)) = false; rw [hplain] <;> rfl) (Calls.evalArgs_plain ?_)
  exact thn hA fun us s2 ⟨vs, H2, I2, r2, q2⟩ => hm pins s2 σ H2 x vs v us Q I2 r1 r2 q2
/- xs.append(e), list.index on a module's tuple .. are MtR facts of 06m -/
end
end L2
namespace L2
open PySem PySem.Spec PyProof.Rows
def MtM (X : Cx) (id : String) (r : V → List V → Hp → VK → Prop) : Prop :=
  ∀ (pins : List (Addr × Obj)) (s : Shared) (σ : St) (H : Hp) (x : V) (xs : List V) (v : Value) (us : List Value) (Q : VK), Inv X pins σ H s → RelV x v → Vals xs us → r x xs H Q →
    wpAny (model X.prog X.w) X.A (call (.builtin id) (v :: us)) (EP X pins σ Q) X.xe s
theorem Vals.one : ∀ {x : V} {us : List Value}, Vals [x] us → ∃ u, us = [u] ∧ RelV x u
  | _, _, .cons r .nil => ⟨_, rfl, r⟩
theorem Vals.rep {xs : List V} {us : List Value} (h : Vals xs us) : ∀ k : Nat, Vals (List.replicate k xs).flatten (List.replicate k us).flatten
  | 0 => .nil
  | k + 1 => by
    rw [List.replicate_succ, List.replicate_succ, List.flatten_cons, List.flatten_cons]
    exact Vals.append h (Vals.rep h k)
theorem foldl_rep (its : List Value) : ∀ (k : Nat) (acc : List Value),
    List.foldl (fun x1 x2 => x1 ++ x2) acc.toArray (List.replicate k its.toArray) = (acc ++ (List.replicate k its).flatten).toArray
  | 0, acc => by simp
  | k + 1, acc => by
    have e : acc.toArray ++ its.toArray = (acc ++ its).toArray := by simp
    have e2 : (acc ++ its) ++ (List.replicate k its).flatten = acc ++ (List.replicate (k + 1) its).flatten := by
      rw [List.replicate_succ, List.flatten_cons, List.append_assoc]
    rw [← e2, ← foldl_rep its k (acc ++ its), ← e, List.replicate_succ, List.foldl_cons]
section
variable {X : Cx} {pins : List (Addr × Obj)} {σ : St} {H : Hp} {s : Shared} {l b : Addr} {xs ys zs : List V}
theorem Inv.lset {its its' : List Value} {n : Nat} {f : Array Value → Array Value} {t' : Nat} (I : Inv X pins σ H s) (hH : H l = some (.lst xs))
    (e : s.heap.get? l = some { cls := .type "list", data := .seq its.toArray n }) (hf : f its.toArray = its'.toArray) (hv : Vals ys its') (hz : ys.length ≤ sizeLine) :
    Inv X pins σ (upd H l (.lst ys)) { s with heap := s.heap.update l (Obj.mapSeq f), toks := t' } := by
  have q := PySem.IsL.update e f
  rw [hf] at q
  refine I.write (x := l) (e := l) (by rw [hH]; exact trivial) (.inl rfl) (fun b' u hb hu => (Heap.get?_update_other s.heap (Obj.mapSeq f) (Ne.symm hb)).trans hu) ⟨_, q⟩ ?_
  exact ⟨hz, its', _, hv, q⟩
theorem Inv.lnew {its : List Value} {t' : Nat} (I : Inv X pins σ H s) (hv : Vals ys its) (hz : ys.length ≤ sizeLine) :
    Inv X pins σ (upd H s.heap.objs.size (.lst ys)) { s with heap := s.heap.push { cls := .type "list", data := .seq its.toArray }, toks := t' } :=
  I.laid (fun _ _ q => Heap.get?_push_of_some _ q) (Nat.le_refl _) ⟨hz, its, 0, hv, Heap.get?_push_size _ rfl⟩
theorem Inv.fresh (I : Inv X pins σ H s) : H s.heap.objs.size = none := I.hok.fresh (Nat.le_refl _)
theorem Inv.lstM (I : Inv X pins σ H s) (hH : H l = some (.lst xs)) : xs.length ≤ sizeLine ∧ ∃ (its : List Value) (n : Nat), Vals xs its ∧ xs.length = its.length ∧ s.heap.get? l = some { cls := .type "list", data := .seq its.toArray n } := by
  obtain ⟨z, its, n, r, e⟩ := I.hok l _ hH
  exact ⟨z, its, n, r, r.length, e⟩
theorem notLongL {n : Nat} (h : n ≤ sizeLine) : Builtin.List.listTooLong n = false := by
  unfold Builtin.List.listTooLong
  exact decide_eq_false (by omega)
end
section
variable {X : Cx}
def rAppend : V → List V → Hp → VK → Prop := fun x vs H Q => ∃ l xs y, x = .ref l ∧ vs = [y] ∧ H l = some (.lst xs) ∧ xs.length < sizeLine ∧ Q .non (upd H l (.lst (xs ++ [y])))
theorem mt_append : MtM X "list.append" rAppend := by
  intro pins s σ H x vs v us Q I rx rv h
  obtain ⟨l, xs, y, rfl, rfl, hH, hz, q⟩ := h
  cases rx
  obtain ⟨u, rfl, ru⟩ := rv.one
  obtain ⟨z, its, n, r, hl, e⟩ := I.lstM hH
  refine call_meets F.slot_list_append ⟨_, e, rfl⟩ F.entry_list_append (F.args_list_append_2 _ _) (PySem.list_append l its.toArray n u (by rw [List.size_toArray]; omega)) ⟨e, ?_⟩
  refine ⟨.non, _, I.lset (its' := its ++ [u]) hH e (by simp) (r.append (.cons ru .nil)) ?_, rfl, q⟩
  rw [List.length_append, List.length_singleton]
  omega
def rExtend : V → List V → Hp → VK → Prop := fun x vs H Q => ∃ l b xs zs, x = .ref l ∧ vs = [.ref b] ∧ H l = some (.lst xs) ∧ H b = some (.lst zs) ∧ xs.length + zs.length ≤ sizeLine ∧ Q .non (upd H l (.lst (xs ++ zs)))
theorem mt_extend : MtM X "list.extend" rExtend := by
  intro pins s σ H x vs v us Q I rx rv h
  obtain ⟨l, b, xs, zs, rfl, rfl, hH, hB, hz, q⟩ := h
  cases rx
  obtain ⟨u, rfl, ru⟩ := rv.one
  cases ru
  obtain ⟨z, its, n, r, hl, e⟩ := I.lstM hH
  obtain ⟨z2, its2, n2, r2, hl2, e2⟩ := I.lstM hB
  have hsz : its.toArray.size + its2.toArray.size ≤ sizeLine := by rw [List.size_toArray, List.size_toArray]; omega
  have hlong : ¬ (!its.toArray.isEmpty && Builtin.List.listTooLong (its.toArray.size + its2.toArray.size)) = true := by
    rw [notLongL hsz, Bool.and_false]
    exact Bool.false_ne_true
  refine call_meets F.slot_list_extend ⟨_, e, rfl⟩ F.entry_list_extend (F.args_list_extend_2 _ _)
    (AutoSeq1.list_extend_list_list_0 l its.toArray n b its2.toArray n2 hlong (by rw [List.size_toArray]; omega) (by omega)) ⟨e, e2, ?_⟩
  refine ⟨.non, _, I.lset (its' := its ++ its2) hH e (by simp) (r.append r2) ?_, rfl, q⟩
  rw [List.length_append]
  omega
def rCat : R2 := fun x y H Q => ∃ l b xs zs, x = .ref l ∧ y = .ref b ∧ H l = some (.lst xs) ∧ H b = some (.lst zs) ∧ xs.length + zs.length ≤ sizeLine ∧ ∀ p, H p = none → Q (.ref p) (upd H p (.lst (xs ++ zs)))
theorem op_cat : OpR X (binaryOp .Add) rCat := by
  intro pins s σ H x y v u Q I rx ry h
  obtain ⟨l, b, xs, zs, rfl, rfl, hH, hB, hz, q⟩ := h
  cases rx
  cases ry
  obtain ⟨z, its, n, r, hl, e⟩ := I.lstM hH
  obtain ⟨z2, its2, n2, r2, hl2, e2⟩ := I.lstM hB
  refine PySem.P.add_list e e2 ?_ (by rw [List.size_toArray, List.size_toArray]; omega)
  have ea : its.toArray ++ its2.toArray = (its ++ its2).toArray := by simp
  rw [ea]
  exact ⟨.ref _, _, I.lnew (t' := s.toks) (r.append r2) (by rw [List.length_append]; omega), rfl, q _ I.fresh⟩
def rRep : R2 := fun x y H Q => ∃ l k xs, x = .ref l ∧ y = .int k ∧ H l = some (.lst xs) ∧ -(2 ^ 63) ≤ k ∧ k < 2 ^ 63 ∧ xs.length * k.toNat ≤ sizeLine ∧
  ∀ p, H p = none → Q (.ref p) (upd H p (.lst (List.replicate k.toNat xs).flatten))
theorem len_rep {α : Type} (xs : List α) (k : Nat) : (List.replicate k xs).flatten.length = k * xs.length := by
  induction k with
  | zero => simp
  | succ k ih => rw [List.replicate_succ, List.flatten_cons, List.length_append, ih, Nat.succ_mul, Nat.add_comm]
theorem op_rep : OpR X (binaryOp .Mult) rRep := by
  intro pins s σ H x y v u Q I rx ry h
  obtain ⟨l, k, xs, rfl, rfl, hH, h1, h2, hz, q⟩ := h
  cases rx
  obtain ⟨t, rfl⟩ := ry
  obtain ⟨z, its, n, r, hl, e⟩ := I.lstM hH
  have hlen : its.toArray.size * k.toNat ≤ sizeLine := by rw [List.size_toArray, ← hl]; exact hz
  have hcap : ¬ its.toArray.size * k.toNat > (2 ^ 63 - 1) / 8 := by
    have : (sizeLine : Nat) ≤ (2 ^ 63 - 1) / 8 := by decide
    omega
  have hfit : ¬ (!Builtin.List.listFitsIndex k) = true := by
    rw [fitsIndex_both h1 h2]
    exact Bool.false_ne_true
  have hlong : ¬ Builtin.List.listTooLong (its.toArray.size * k.toNat) = true := by
    rw [notLongL hlen]
    exact Bool.false_ne_true
  have hnew : List.foldl (fun x1 x2 => x1 ++ x2) #[] (List.replicate (if its.toArray.isEmpty = true then 0 else k.toNat) its.toArray) = (List.replicate k.toNat its).flatten.toArray := by
    have f0 : ∀ m : Nat, List.foldl (fun x1 x2 => x1 ++ x2) #[] (List.replicate m its.toArray) = (List.replicate m its).flatten.toArray := fun m => by
      have := foldl_rep its m []
      rw [List.nil_append] at this
      exact this
    rw [f0]
    cases its with
    | nil => simp
    | cons a r' => rw [if_neg (by simp)]
  refine wpAny_binaryOp_repeat_ref (T := "list") (U := "int") (by decide) ⟨_, e, rfl⟩ (fun s' => typeIs_int s' k t) noFill_list_mul F.fills_int_mul F.slot_int_rmul repeat_list F.slot_int_index.lookup
    (call_meets F.slot_int_rmul (typeIs_int s k t) F.entry_int_rmul (F.args_int_rmul_2 _ _) (int___rmul___int_list k t l its.toArray n)
      ⟨e, rfl, ⟨_, e, rfl⟩, call_meets F.slot_list_mul ⟨_, e, rfl⟩ F.entry_list_mul (F.args_list_mul_2 _ _) (AutoListH.list___mul___list_int_3 l its.toArray n k t hfit hcap hlong) ⟨e, ?_⟩⟩)
  rw [hnew]
  exact ⟨.ref _, _, I.lnew (t' := s.toks) (r.rep k.toNat) (by rw [len_rep, Nat.mul_comm]; exact hz), rfl, q _ I.fresh⟩
end
section
variable {prog : Program} {w : World} {A : Around} {E : Value → Shared → Prop} {s : Shared}
end
section
variable {X : Cx}
end
end L2
namespace Att
open PySem PySem.W PySem.Calls PyProof.Rows
theorem ints_of_wellAll {P : Params} {h : Heap} : ∀ (ns : List Int) (vs : List Value), WellAll P h vs (ns.map WData.int) → IntsAre vs ns := by
  intro ns
  induction ns with
  | nil =>
    intro vs w
    rw [List.map_nil] at w
    cases w
    exact .nil
  | cons n ns ih =>
    intro vs w
    rw [List.map_cons] at w
    cases w with
    | cons a b =>
      cases a
      exact .cons _ _ (ih _ b)
theorem script_of {l : OpenLaw} {n : Nat} (hn : l.most = some n) {P : Params} {h : Heap} {args : List WData} {vals : List Value}
    (hpre : l.row.toRowW.claim.pre args = true) (hwl : WellAll P h vals args) :
    ∃ a vs ns, vals = [Value.ref a] ∧ args = [WData.list (ns.map WData.int)] ∧ h.get? a = some { cls := .type "list", data := .seq vs.toArray } ∧ IntsAre vs ns ∧ ns.length ≤ n := by
  have hsh : WShape.hasAll [] args [.list .int] = true := (pre_splitW hpre).1
  have hc : l.pre.holds [] { args := args } = true := (pre_splitW hpre).2
  obtain ⟨d, r, rfl, h1, h2⟩ := hasAllW_cons hsh
  obtain rfl := hasAllW_nil h2
  obtain ⟨xs, rfl, h3⟩ := hasW_list h1
  obtain ⟨ns, rfl⟩ := items_int h3
  have hlen : ns.length ≤ n := by
    unfold OpenLaw.pre at hc
    have h4 : (WTm.not (.lt (.lit (.int (n : Int))) (.len (.arg 0)))).holds [] { args := [.list (ns.map .int)] } = true := by
      have h4 := (holds_andW hc).1
      rw [hn] at h4
      exact h4
    have h5 := condW_of h4 (w_not (w_lt w_lit (w_len_list (w_arg rfl))))
    rw [List.length_map] at h5
    refine Nat.le_of_not_lt fun q => ?_
    have q' : (n : Int) < ((ns.length : Nat) : Int) := by omega
    first
      | (rw [decide_eq_true q'] at h5; exact absurd h5 (by decide))
      | (simp at h5; omega)
  cases hwl with
  | cons w1 w2 =>
    cases w2
    cases w1 with
    | list ho hall => exact ⟨_, _, ns, rfl, rfl, ho, ints_of_wellAll ns _ hall, hlen⟩
theorem post_true (l : OpenLaw) (args : List WData) : l.row.toRowW.claim.post args (.bool true) args = true :=
  postW_of (r := l.row.toRowW) (X := (true == true))
    (show WShape.has [] (.bool true) .bool = true by first | rfl | decide | simp [WShape.has, WShape.arms, WShape.armsAll])
    (show (WTm.eq .res (.lit (.bool true))).value [] { args := args, res := some (.bool true), after := args } = some (.bool (true == true)) from w_eq_bool (w_res rfl) w_lit) rfl
theorem attach_call {l : OpenLaw} {n : Nat} {q : Program} {loose : List Str} {XP : (Str → Option Value) → Heap → Prop} {YP : World → Heap → Prop} {d : DefRec}
    (hn : l.most = some n) (hdf : d.params.defaults = [])
    (call : ∀ (w : World) (s₀ s₁ : Shared) (mg mb : Str → Option Value) (fa : Addr) (o : Obj) (pm cd doc : Value) (a : Addr) (vs : List Value) (ns : List Int),
      Ground q loose [] XP w s₀ mg mb s₁.heap → YP w s₁.heap →
      s₁.heap.get? fa = some o → o.data = .func (docDef d.name d.params d.body d.scope pm cd doc) → s₁.heap.CodeRec cd d.name → mg d.name = some (.ref fa) →
      s₁.heap.get? a = some { cls := .type "list", data := .seq vs.toArray } → IntsAre vs ns → ns.length ≤ n → s₁.gens = #[] →
      codeAny (model l.prog w) callerA (.call (.ref fa) ⟨[.ref a], []⟩) (fun r s' => r = .ok (.ret (.bool true)) ∧ OldK s₁.heap s'.heap ∧ s'.os = s₁.os ∧ AllBare s'.gens) s₁) :
    WalkO q loose XP YP l.row.toRowW d [] (fun f vs => PySem.call f vs) := by
  intro w s₀ s₁ mg mb G Y fa o pm cd doc dV kV ho hd hcd hD hmg hg args vals as hpre hlay hrd hwl hlo
  obtain rfl : dV = .none := Dflts.none hD hdf
  obtain rfl : kV = .none := Dflts.noKw hD
  obtain ⟨a, vs, ns, rfl, rfl, hobj, hints, hlen⟩ := script_of hn hpre hwl
  refine enter_call (codeAny_mono (call w s₀ s₁ mg mb fa o pm cd doc a vs ns G Y ho (fd_plain hd) hcd hmg hobj hints hlen hg) fun r s' hq => ?_)
  obtain ⟨rfl, h2, h3, h4⟩ := hq
  exact ⟨.inl ⟨.bool true, .bool true, [], rfl, fun _ => rfl, .bool true, post_true l _, fun _ => ⟨List.Pairwise.nil, fun _ hm => (nomatch hm)⟩⟩, h2, h3, h4⟩
section
variable {prog : Program} {w : World} {A : Around} {E : Value → Shared → Prop} {s : Shared} {K : Frag}
end
end Att
namespace L2
open PySem PySem.Spec PyProof.Rows
theorem vals_ints : ∀ {vs : List Value} {ns : List Int}, IntsAre vs ns → Vals (ns.map V.int) vs
  | _, _, .nil => .nil
  | _, _, .cons n t h => .cons ⟨t, rfl⟩ (vals_ints h)
def Only (H : Hp) : Prop := ∀ b, H b = none ∨ ∃ o xs, H b = some (.frz o (.lst xs))
theorem law_call {P : Program} {w : World} {K : PySem.W.Frag} {mg mb : Str → Option Value} {CX : CXT} {k : Nat} {fa a : Addr} {fd : FuncData} {x : Str} {sp : Sp} {s₁ : Shared} {vs : List Value} {ns : List Int}
    (KX : K.In s₁.heap) (hns : s₁.heap.Ns mainGlobals mg) (hb : s₁.heap.Ns builtinsNs mb) (hbb : ∀ x : Str, x ≠ "__name__" → mb x = bootBuiltins x) (hlim : s₁.heap.NoLimit) (hg : s₁.gens = #[])
    (ha : s₁.heap.get? a = some { cls := .type "list", data := .seq vs.toArray }) (hi : IntsAre vs ns) (hl : ns.length ≤ sizeLine) (hr : Room k callerA)
    (F : ∀ base : Heap, K.In base → base.Ns mainGlobals mg → FnOk P w K mg base CX k fa fd [x] sp) (hbind : ∀ (s : Shared) (u : Value), BindsTo s fd ⟨[u], []⟩ [(x, u)])
    (hsp : ∀ H : Hp, Only H → SqL K H a (ns.map V.int) → sp [.ref a] H (fun v _ => v = .bl true) fun _ _ _ => False)
    (hCX : ∀ H e s', CX [] H s₁ (fun _ _ _ => False) e s' → False) :
    codeAny (model P w) callerA (.call (.ref fa) ⟨[.ref a], []⟩) (fun r s' => r = .ok (.ret (.bool true)) ∧ OldK s₁.heap s'.heap ∧ s'.os = s₁.os ∧ AllBare s'.gens) s₁ := by
  have rv := vals_ints hi
  have lenV := hi.length
  -- from an abstract heap in which nothing but the script may be tracked
  have core : ∀ H : Hp, Only H → SqL K H a (ns.map V.int) → HOk P w H s₁.heap → (∀ b, H b ≠ none → b = a) → (H a ≠ none → K.lookup a = none) →
      codeAny (model P w) callerA (.call (.ref fa) ⟨[.ref a], []⟩) (fun r s' => r = .ok (.ret (.bool true)) ∧ OldK s₁.heap s'.heap ∧ s'.os = s₁.os ∧ AllBare s'.gens) s₁ := by
    intro H hO hS hok hA hK
    have base_of : ∀ {b : Addr} {o : Obj}, s₁.heap.get? b = some o → H b = none → (hidT s₁.heap H).get? b = some o := fun e n => hidT_get e n
    have noA : ∀ {b : Addr} {o : Obj} {es : Array DictEntry} {ep : Nat}, s₁.heap.get? b = some o → o.data = .dict es ep → H b = none := fun {b o es ep} e d => by
      cases q : H b with
      | none => rfl
      | some u =>
        have e' : b = a := hA b (by rw [q]; simp)
        subst e'
        rw [ha] at e; cases e
        have d' : Data.seq vs.toArray _ = Data.dict es ep := d
        cases d'
    have nsK : ∀ {b : Addr} {m : Str → Option Value}, s₁.heap.Ns b m → (hidT s₁.heap H).Ns b m := fun {b m} ⟨o, es, ep, e, d, r⟩ => ⟨o, es, ep, base_of e (noA e d), d, r⟩
    have hKb : K.In (hidT s₁.heap H) := fun b o e => base_of (KX b o e) (by
      cases q : H b with
      | none => rfl
      | some u =>
        have e' : b = a := hA b (by rw [q]; simp)
        subst e'
        rw [hK (by rw [q]; simp)] at e; cases e)
    have hM : Mod K mg (hidT s₁.heap H) := ⟨hKb, nsK hns, ⟨mb, nsK hb, hbb⟩, let ⟨mc, h1, h2⟩ := hlim; ⟨mc, nsK h1, h2⟩⟩
    have e0 : Env0 P w K mg (hidT s₁.heap H) callerA [] s₁ H := ⟨rfl, hM, fun b o e => of_hidT e, Nat.le_of_eq (hidT_size _ _), trivial, fun b hb => absurd (show b ∈ ([] : List Addr) from hb) (by simp), hok, .of_eq hg⟩
    refine codeAny_mono ((F _ hKb (nsK hns)).run callerA [] s₁ H ⟨[.ref a], []⟩ [.ref a] [.ref a] _ _ hr e0 (hbind s₁ (.ref a)) (.cons rfl .nil) (hsp H hO hS)) fun r s' h => ?_
    cases r with
    | error e => exact (hCX H e s' h).elim
    | ok fl =>
      cases fl with
      | next => exact False.elim h
      | brk => exact False.elim h
      | cont => exact False.elim h
      | ret u =>
        obtain ⟨v, H', os, bare, un, hok', r', q⟩ := h
        have q' : v = .bl true := q
        subst q'
        obtain rfl : u = Value.bool true := r'
        refine ⟨rfl, OldK.of_keep fun b o e => ?_, os, bare⟩
        cases q : H b with
        | none => exact un.keep b o e q (by intro z; exact absurd (show b ∈ ([] : List Addr) from z) (by simp)) (by simp)
        | some u =>
          rcases hO b with z | ⟨ob, xs, z⟩
          · rw [q] at z; cases z
          · have z2 := un.frzs b ob _ z
            obtain ⟨e1, _⟩ := hok b _ z
            obtain ⟨e2, _⟩ := hok' b _ z2
            rw [e] at e1; cases e1
            exact e2
  cases hk : K.lookup a with
  | some o =>
    -- the script is one of the module's own objects
    have e := KX a o hk
    rw [ha] at e
    cases e
    refine core (fun _ => none) (fun _ => .inl rfl) (.inr ⟨_, vs.toArray, _, hk, rfl, rfl, rfl, by rw [List.size_toArray, lenV]; exact hl, by simpa using rv⟩) (fun b u z => by have z' : (none : Option HO) = some u := z; cases z') (fun b z => absurd rfl z) fun z => absurd rfl z
  | none =>
    refine core (fun b => if b = a then some (.frz { cls := .type "list", data := .seq vs.toArray } (.lst (ns.map V.int))) else none) (fun b => ?_) (.inl (.inr ⟨{ cls := .type "list", data := .seq vs.toArray }, if_pos rfl⟩)) (fun b u z => ?_) (fun b z => ?_) fun _ => hk
    · by_cases hb : b = a
      · exact .inr ⟨_, _, if_pos hb⟩
      · exact .inl (if_neg hb)
    · by_cases hb : b = a
      · have z' := (if_pos hb).symm.trans z
        cases z'
        subst hb
        exact ⟨ha, by rw [List.length_map]; exact hl, vs, _, rv, ha⟩
      · have z' := (if_neg hb).symm.trans z
        cases z'
    · by_cases hb : b = a
      · exact hb
      · exact absurd (if_neg hb) z
end L2
namespace L2
open PySem PySem.Spec PyProof.Rows
abbrev KOf {K : PySem.W.Frag} {h : Heap} (_ : K.In h) : PySem.W.Frag := K
theorem walk_of {l : PySem.W.OpenLaw} {n k : Nat} {q : Program} {loose : List Str} {XP : (Str → Option Value) → Heap → Prop} {YP : World → Heap → Prop} {d : DefRec} {K : Params → PySem.W.Frag} {CX : World → CXT} {sp : World → Sp} {x : Str}
    (hn : l.most = some n) (hn2 : n ≤ sizeLine) (hdf : d.params.defaults = []) (hr : Room k callerA)
    (hY : ∀ (w : World) (h : Heap), YP w h → (K w.params).In h)
    (F : ∀ (w : World) (mg : Str → Option Value) (fa : Addr) (h : Heap), (K w.params).In h → h.Ns mainGlobals mg → mg d.name = some (.ref fa) →
      ∃ fd : FuncData, (∀ (s : Shared) (u : Value), BindsTo s fd ⟨[u], []⟩ [(x, u)]) ∧
        ∀ base : Heap, (K w.params).In base → base.Ns mainGlobals mg → FnOk l.prog w (K w.params) mg base (CX w) k fa fd [x] (sp w))
    (hsp : ∀ (w : World) (H : Hp) (a : Addr) (ns : List Int), ns.length ≤ n → Only H → SqL (K w.params) H a (ns.map V.int) → sp w [.ref a] H (fun v _ => v = .bl true) fun _ _ _ => False)
    (hCX : ∀ (w : World) (H : Hp) (s : Shared) (e : Value) (s' : Shared), CX w [] H s (fun _ _ _ => False) e s' → False) :
    PySem.W.WalkO q loose XP YP l.row.toRowW d [] (fun f vs => PySem.call f vs) := by
  refine Att.attach_call hn hdf fun w s₀ s₁ mg mb fa o pm cd doc a vs ns G Y ho hd hcd hmg hobj hints hlen hg => ?_
  have KX := hY w _ Y
  obtain ⟨fd, hb, hF⟩ := F w mg fa _ KX G.T.g hmg
  exact law_call KX G.T.g G.T.b G.T.builtins G.T.nolimit hg hobj hints (Nat.le_trans hlen hn2) hr hF hb (fun H hO hS => hsp w H a ns hlen hO hS) fun H e s' => hCX w H s₁ e s'
end L2
/- THE LAST THEOREM (shape; LID, My.* are yours):
   My.Adr: a structure of the addresses that your layer names (classes, functions); My.Txt K t: a structure (Prop) of the equations over K;
   My.txt_mk : {K} {implicit addresses ..} (e1 : nsIn K mainGlobals "law" = some (some (.ref f))) (e2 : K.lookup f = some ⟨oc, od, .func (fnOf "law" "law" params body scope dV kV doc pm an cdv ct), sl⟩) (e3 : codeIn K cdv "law" = true) .. : ∃ t, My.Txt K t
set_option maxRecDepth 100000 in
set_option maxHeartbeats 0 in
theorem PySem.Challenge.cw_LID_holds : PySem.Challenge.rw_LID.Holds := by
  w_on; o_law; k_head; (case hw => w_witness2)
  k_fill
  refine L2.walk_of (l := PySem.Challenge.rw_LID) (n := 63) (k := 40) (x := "script") (CX := fun w => ..) (sp := fun _ => My.sp_law) rfl (by decide) rfl ⟨rfl, by decide, by decide⟩ (fun w h Y => PySem.W.kIn_of Y) ?F ?S ?C
  case F =>
    intro w mg fa h KX G hmg
    have T : ∃ t, My.Txt (L2.KOf KX) t := by
      dsimp only [L2.KOf]                          -- K must stand as «<heap const> w.params» for k_is
      refine' My.txt_mk ?e1 ?e2 ?e3 ..
      (case e1 => PySem.W.k_is)                    -- in the order: a name -> its address -> its object -> its parts
      (case e2 => PySem.W.k_is)
      ..
    obtain ⟨t, T⟩ := T
    have e0 := hmg.symm.trans (PySem.W.mg_of KX G T.law)
    cases e0                                       -- fa is the law's own address
    exact ⟨_, fun s u => .of_eq rfl, fun base kb nb => My.law_fn T kb nb⟩     -- if «.of_eq rfl» comes too early: refine' ⟨_, ?b, fun base kb nb => My.law_fn T kb nb⟩; exact fun s u => .of_eq rfl
  case S => exact fun w H a ns hl hO hS => ..
  case C => exact ..
(the tactic k_is has no namespace: write k_is) -/
namespace L2
open PySem PySem.Spec PyProof.Rows
def defArgs (s : Stmt) : Arguments := match s with
  | .FunctionDef _ a _ _ _ _ _ _ _ _ => a
  | _ => { posonlyargs := [], args := [], vararg := none, kwonlyargs := [], kw_defaults := [], kwarg := none, defaults := [] }
def defBody (s : Stmt) : List Stmt := match s with
  | .FunctionDef _ _ b _ _ _ _ _ _ _ => b
  | _ => []
def defScope (s : Stmt) : Scope := match s with
  | .FunctionDef _ _ _ _ _ _ sc _ _ _ => sc
  | _ => { kind := .function, names := [], isGenerator := false, isCoroutine := false }
structure Fun (K : PySem.W.Frag) (x qual : Str) (st : Stmt) (f : Addr) (fd : FuncData) : Prop where
  ex : ∃ (oc : Value) (od : Option Addr) (kV doc pm : Value) (an : Option Addr) (cdv ct : Value) (osl : Array (Option Value)),
    fd = PySem.W.fnOf x qual (defArgs st) (defBody st) (defScope st) .none kV doc pm an cdv ct ∧ K.lookup f = some ⟨oc, od, .func fd, osl⟩ ∧ PySem.W.codeIn K cdv qual = true
  kp : PySem.W.keepIn K (.ref f) = true
section
variable {P : Program} {w : World} {K : PySem.W.Frag} {mg : Str → Option Value} {base : Heap}
theorem Fun.binds {x qual : Str} {st : Stmt} {f : Addr} {fd : FuncData} {ps : List Str} (F : Fun K x qual st f fd)
    (h : ∀ (kV doc pm : Value) (an : Option Addr) (cdv ct : Value) (us : List Value), us.length = ps.length → bindArgs (PySem.W.fnOf x qual (defArgs st) (defBody st) (defScope st) .none kV doc pm an cdv ct) ⟨us, []⟩ = pure (ps.zip us)) : Binds K fd ps [] := by
  obtain ⟨oc, od, kV, doc, pm, an, cdv, ct, osl, rfl, lk, hcd⟩ := F.ex
  exact .all (h kV doc pm an cdv ct)
theorem fun_mk {x qual : Str} {st : Stmt} {f : Addr} {oc : Value} {od an : Option Addr} {osl : Array (Option Value)} {kV doc pm cdv ct : Value} (l : K.lookup f = some ⟨oc, od, .func (PySem.W.fnOf x qual (defArgs st) (defBody st) (defScope st) .none kV doc pm an cdv ct), osl⟩)
    (c : PySem.W.codeIn K cdv qual = true) (k : PySem.W.keepIn K (.ref f) = true) : Fun K x qual st f (PySem.W.fnOf x qual (defArgs st) (defBody st) (defScope st) .none kV doc pm an cdv ct) := ⟨⟨oc, od, kV, doc, pm, an, cdv, ct, osl, rfl, l, c⟩, k⟩
end
theorem small1000 {n : Nat} (h : n ≤ 1000) : n < sizeLine := Nat.lt_of_le_of_lt h (by decide)
section
variable {X : Cx}
theorem call_lenD : CallR X (.builtin "len") (fun xs H Q => ∃ a kvs, xs = [V.ref a] ∧ H a = some (.dK kvs) ∧ Q (.int kvs.length) H) := by
  intro pins s σ H xs us Q I r h
  obtain ⟨a, kvs, rfl, ha, q⟩ := h
  obtain ⟨u, rfl, ru⟩ := vals1 r
  cases ru
  exact d_len I (.inl ha) fun t s' I' => ⟨.int kvs.length, H, I', ⟨t, rfl⟩, q⟩
end
def Same (H H' : Hp) : Prop := ∀ b o, H b = some o → H' b = some o
theorem Same.refl (H : Hp) : Same H H := fun _ _ h => h
theorem Same.trans {H H1 H2 : Hp} (a : Same H H1) (b : Same H1 H2) : Same H H2 := fun c o h => b c o (a c o h)
theorem Same.free {H H' : Hp} (e : Same H H') {l : Addr} (h : H' l = Option.none) : H l = Option.none := by
  cases q : H l with
  | none => rfl
  | some o =>
    rw [e l o q] at h
    cases h
theorem Same.seq {K : PySem.W.Frag} {H H' : Hp} {a : Addr} {xs : List V} (e : Same H H') (h : SqL K H a xs) : SqL K H' a xs := by
  rcases h with (h | ⟨o, h⟩) | h
  · exact .inl (.inl (e _ _ h))
  · exact .inl (.inr ⟨o, e _ _ h⟩)
  · exact .inr h
section
variable {κ : Type} [DecidableEq κ]
end
end L2
namespace L2
open PySem PySem.Spec PyProof.Rows
def clF (env : Env) : List (Str × NameKind) → List (Str × Addr) → List (Str × Addr)
  | [], acc => acc
  | (n, k) :: r, acc => clF env r (if k == NameKind.free then (n, (env.cells.lookup n).getD 0) :: acc else acc)
theorem closure_eq {env : Env} {scope : Scope} (h : ∀ y ∈ scope.names, y.2 = .free → ∃ c, env.cells.lookup y.1 = some c) : closureFor scope env = pure (clF env scope.names []) := by
  have go : ∀ (names : List (Str × NameKind)) (acc : List (Str × Addr)), (∀ y ∈ names, y.2 = .free → ∃ c, env.cells.lookup y.1 = some c) →
      (forIn names acc fun (x : Str × NameKind) (r : List (Str × Addr)) => (match x with
        | (name, kind) => if (kind == NameKind.free) = true then do let a ← cellOf env name; pure (ForInStep.yield ((name, a) :: r)) else pure (ForInStep.yield r) : Sem (ForInStep (List (Str × Addr))))) = (pure (clF env names acc) : Sem (List (Str × Addr))) := by
    intro names
    induction names with
    | nil => intro acc _; rfl
    | cons x r ih =>
      intro acc hy
      obtain ⟨n, k⟩ := x
      have ih' := fun a => ih a fun y m => hy y (List.mem_cons_of_mem _ m)
      rw [List.forIn_cons]
      cases hk : (k == NameKind.free) with
      | false =>
        dsimp only
        rw [hk, if_neg Bool.false_ne_true, pure_bind]
        show _ = pure (clF env r (if (k == NameKind.free) = true then _ else acc))
        rw [hk, if_neg Bool.false_ne_true]
        exact ih' acc
      | true =>
        obtain ⟨c, hc⟩ := hy (n, k) List.mem_cons_self (by simpa using hk)
        have e : cellOf env n = pure c := by unfold cellOf; rw [hc]
        dsimp only
        rw [hk, if_pos rfl, e, pure_bind, pure_bind]
        show _ = pure (clF env r (if (k == NameKind.free) = true then _ else acc))
        rw [hk, if_pos rfl, hc]
        exact ih' _
  unfold closureFor
  have e := go scope.names [] h
  show (forIn scope.names [] _ >>= _) = _
  refine (congrArg (fun z => z >>= fun cs => pure cs) e).trans ?_
  rfl
theorem clF_sub {env : Env} : ∀ (names : List (Str × NameKind)) (acc : List (Str × Addr)), (∀ y ∈ names, y.2 = .free → ∃ c, env.cells.lookup y.1 = some c) →
    (∀ x c, acc.lookup x = some c → env.cells.lookup x = some c) → ∀ x c, (clF env names acc).lookup x = some c → env.cells.lookup x = some c
  | [], acc, _, h, x, c, e => h x c e
  | (n, k) :: r, acc, hy, h, x, c, e => by
    refine clF_sub r _ (fun y m => hy y (List.mem_cons_of_mem _ m)) (fun y d z => ?_) x c e
    cases hk : (k == NameKind.free) with
    | false => rw [hk, if_neg Bool.false_ne_true] at z; exact h y d z
    | true =>
      rw [hk, if_pos rfl] at z
      obtain ⟨c', hc⟩ := hy (n, k) List.mem_cons_self (by simpa using hk)
      rw [List.lookup_cons] at z
      cases q : y == n with
      | true =>
        rw [q] at z
        have q' : y = n := by simpa using q
        subst q'
        have hc' : env.cells.lookup y = some c' := hc
        rw [hc'] at z ⊢
        exact z
      | false => rw [q] at z; exact h y d z
theorem clF_has {env : Env} : ∀ (names : List (Str × NameKind)) (acc : List (Str × Addr)) (x : Str), ((x, NameKind.free) ∈ names ∨ ∃ c, acc.lookup x = some c) → ∃ c, (clF env names acc).lookup x = some c
  | [], acc, x, h => by
    rcases h with h | h
    · cases h
    · exact h
  | (n, k) :: r, acc, x, h => by
    refine clF_has r _ x ?_
    have keep : (∃ c, acc.lookup x = some c) → ∃ c, (if (k == NameKind.free) = true then (n, (env.cells.lookup n).getD 0) :: acc else acc).lookup x = some c := fun hZ => by
      obtain ⟨c, hc⟩ := hZ
      split
      · rw [List.lookup_cons]
        split
        · exact ⟨_, rfl⟩
        · exact ⟨c, hc⟩
      · exact ⟨c, hc⟩
    rcases h with h | h
    · rcases List.mem_cons.mp h with e | e
      · have e1 : x = n := congrArg Prod.fst e
        have e2 : NameKind.free = k := congrArg Prod.snd e
        subst e1 e2
        refine .inr ⟨(List.lookup x env.cells).getD 0, ?_⟩
        rw [if_pos (by rfl), List.lookup_cons, beq_self_eq_true]
      · exact .inl e
    · exact .inr (keep h)
theorem rel_kind {env : Env} : ∀ {names : List (Str × NameKind)} {x : Str} {k : NameKind},
    (names.map fun (n, k) => if (k == NameKind.free && env.scope.kind == .function && env.kindOf n == some .cell) then (n, NameKind.cell) else (n, k)).lookup x = some k →
    (names.lookup x = some k) ∨ (k = .cell ∧ names.lookup x = some .free)
  | [], _, _, h => by simp at h
  | (n, k') :: r, x, k, h => by
    have ih := @rel_kind env r x k
    have h : List.lookup x ((if (k' == NameKind.free && env.scope.kind == .function && env.kindOf n == some .cell) = true then (n, NameKind.cell) else (n, k')) :: _) = some k := h
    by_cases hc : (k' == NameKind.free && env.scope.kind == .function && env.kindOf n == some .cell) = true
    · rw [if_pos hc, List.lookup_cons] at h
      rw [List.lookup_cons]
      cases hx : x == n with
      | true =>
        rw [hx] at h
        have h' : some NameKind.cell = some k := h
        cases h'
        have : k' = NameKind.free := by
          have := (Bool.and_eq_true _ _).mp ((Bool.and_eq_true _ _).mp hc).1
          simpa using this.1
        subst this
        exact .inr ⟨rfl, rfl⟩
      | false => rw [hx] at h; exact ih h
    · rw [if_neg hc, List.lookup_cons] at h
      rw [List.lookup_cons]
      cases hx : x == n with
      | true => rw [hx] at h; exact .inl h
      | false => rw [hx] at h; exact ih h
def blk (X : Cx) (sc : Scope) (cl : List (Str × Addr)) (C : Addr) (fp : List Addr) (s : Shared) (H : Hp) (N : List Str) : Cx :=
  { X with env := compEnvC sc cl C X.env, N := N, s₀ := s, H₀ := H, outer := X.stack, ex := fp, fn := fun _ => false, pn := [], xe := fun _ _ => False }
structure BlkOk (X : Cx) (sc : Scope) (M tgs : List Str) : Prop where
  kind : sc.kind = .function
  names : ∀ y ∈ sc.names, y.2 = .local → sc.names.lookup y.1 = some .local
  nocell : ∀ y ∈ sc.names, y.2 ≠ .cell
  free : ∀ y ∈ sc.names, y.2 = .free → X.env.kindOf y.1 = some .cell ∨ X.env.kindOf y.1 = some .free
  len : M.length = X.N.length
  same : ∀ p ∈ M.zip X.N, p.1 = p.2 ∨ p.1 = ("" : Str)
  dummy : sc.names.lookup ("" : Str) = none
  hid : ∀ x ∈ M, sc.names.lookup x ≠ some .local
section
variable {X : Cx}
theorem Inv.blk {pins : List (Addr × Obj)} {σ : St} {H : Hp} {s s4 : Shared} {sc : Scope} {M tgs : List Str} {C : Addr} {fp : List Addr} {m : Str → Option Value} (I : Inv X pins σ H s) (B : BlkOk X sc M tgs) (hf : ∀ b ∈ fp, FpOk X pins H b) (hfl : ∀ b ∈ fp, b < s.heap.objs.size)
    (hC : s.heap.objs.size ≤ C) (hn : s4.heap.Ns C m) (hk : ∀ b o, s.heap.get? b = some o → s4.heap.get? b = some o) (ho : s4.os = s.os) (hg : s4.gens = s.gens) :
    Inv (blk X sc (clF X.env sc.names []) C fp s H (M ++ tgs)) [] (σ ++ List.replicate tgs.length none) H s4 := by
  have hfr : ∀ y ∈ sc.names, y.2 = .free → ∃ c, X.env.cells.lookup y.1 = some c := fun y hy e => I.ok.has _ (B.free y hy e)
  have hsub : ∀ x c, (clF X.env sc.names []).lookup x = some c → X.env.cells.lookup x = some c := clF_sub sc.names [] hfr fun _ _ z => by simp at z
  have hin : ∀ x c, (clF X.env sc.names []).lookup x = some c → c < s.heap.objs.size := fun x c e => by
    obtain ⟨v, q⟩ := I.cell x c (hsub x c e)
    exact q.lt
  have hfree : ∀ x, ((relabel sc X.env).names.lookup x = some .cell ∨ (relabel sc X.env).names.lookup x = some .free) → sc.names.lookup x = some .free := fun x hx => by
    rcases hx with q | q
    · rcases rel_kind q with z | z
      · exact absurd rfl (B.nocell _ (PySem.mem_of_lookup z))
      · exact z.2
    · rcases rel_kind q with z | z
      · exact z
      · exact absurd z.1 (by decide)
  refine ⟨⟨I.ok.mod, B.kind, I.ok.glob, I.ok.blt, hC, fun x y c h1 h2 => I.ok.inj x y c (hsub x c h1) (hsub y c h2), fun x hx => ?_, fun x c z => absurd z Bool.false_ne_true, I.ok.hd, I.ok.frames, .inl rfl, fun b hb => ⟨?_, fun x c e => ?_⟩, I.bs, ?_, fun b o e z => ?_, fun b hb => ?_, I.stack, I.stkFree⟩,
    ho, ?_, Un.kept hk, ⟨m, hn, fun i x v h1 h2 h3 => ?_⟩, fun x c e => ?_, I.hok.fresh hC, fun x c e => I.freeC x c (hsub x c e), fun p hp => absurd (show p ∈ ([] : List (Addr × Obj)) from hp) (by simp), I.hok.kept hk, ?_⟩
  · exact clF_has sc.names [] x (.inl (PySem.mem_of_lookup (hfree x hx)))
  · exact Nat.ne_of_lt (Nat.lt_of_lt_of_le (hfl b hb) hC)
  · exact (hf b hb).2.2.2.2.1 x c (hsub x c e)
  · exact Nat.le_trans I.ok.bsz I.sz
  · rcases (hf b z).2.2.2.1 with q | q
    · exact I.ok.noex b o e q
    · exact absurd (Nat.lt_of_lt_of_le (Heap.lt_size e) I.ok.bsz) (Nat.not_lt.mpr q)
  · intro z
    rcases List.mem_cons.mp (I.stkSub b z) with q | q
    · exact (hf b hb).2.1 q
    · exact (hf b hb).2.2.1 q
  · rw [hg]; exact I.bare
  · have hl : M.length = σ.length := B.len.trans I.len.symm
    have hi : i < σ.length := by
      by_cases hi : i < σ.length
      · exact hi
      · rw [List.getElem?_append_right (by omega), List.getElem?_replicate] at h2
        split at h2 <;> cases h2
    rw [List.getElem?_append_left hi] at h2
    have h1 : (M ++ tgs)[i]? = some x := h1
    rw [List.getElem?_append_left (by omega)] at h1
    have hmem : x ∈ M := List.mem_of_getElem? h1
    have hx : sc.names.lookup x = some .free := by
      rcases h3 with q | q | q
      · rcases rel_kind q with z | z
        · exact absurd z (B.hid x hmem)
        · exact absurd z.1 (by decide)
      · exact hfree x (.inl q)
      · exact hfree x (.inr q)
    have hNi : X.N[i]? = some x := by
      have hi2 : i < X.N.length := by rw [← I.len]; exact hi
      have hz : (M.zip X.N)[i]? = some (x, X.N[i]) := by
        rw [List.getElem?_zip_eq_some]
        exact ⟨h1, List.getElem?_eq_getElem hi2⟩
      rcases B.same _ (List.mem_of_getElem? hz) with q | q
      · have q' : x = X.N[i] := q
        rw [List.getElem?_eq_getElem hi2, q']
      · have q' : x = ("" : Str) := q
        rw [q', B.dummy] at hx
        cases hx
    have hk2 := B.free (x, .free) (PySem.mem_of_lookup hx) rfl
    obtain ⟨m0, _, hl0⟩ := I.loc
    obtain ⟨u, r, l⟩ := hl0 i x v hNi h2 (.inr hk2)
    refine ⟨u, r, .inr ?_⟩
    rcases l with ⟨k, _⟩ | ⟨_, c, ec, hcell⟩
    · have k' : X.env.kindOf x = some .local := k
      rcases hk2 with q | q
      · have q' : X.env.kindOf x = some .cell := q
        rw [k'] at q'; cases q'
      · have q' : X.env.kindOf x = some .free := q
        rw [k'] at q'; cases q'
    · obtain ⟨c', ec'⟩ := clF_has (env := X.env) sc.names [] x (.inl (PySem.mem_of_lookup hx))
      have : c' = c := by
        have := hsub x c' ec'
        rw [ec] at this
        exact (Option.some.inj this).symm
      subst this
      refine ⟨?_, c', ec', ?_⟩
      · rcases h3 with q | q | q
        · rcases rel_kind q with z | z
          · rw [hx] at z; cases z
          · exact absurd z.1 (by decide)
        · exact .inl q
        · exact .inr q
      · obtain ⟨o, e1, e2⟩ := hcell
        exact ⟨o, hk _ _ e1, e2⟩
  · obtain ⟨v, o, e1, e2⟩ := I.cell x c (hsub x c e)
    exact ⟨v, o, hk _ _ e1, e2⟩
  · show (σ ++ _).length = (M ++ tgs).length
    rw [List.length_append, List.length_append, List.length_replicate, B.len, I.len]
def PIfs (X : Cx) (ifs : List Expr) (t : TT) : Prop :=
  ∀ (pins : List (Addr × Obj)) (s : Shared) (σ : St) (H : Hp) (Q : Bool → Hp → Prop), Inv X pins σ H s → t σ H Q →
    wpAny (model X.prog X.w) X.A (forIn ifs true fun c r => if r = true then do let ok ← isTrue c X.env (eval c X.env); pure (ForInStep.yield ok) else pure (ForInStep.yield r)) (TP X pins σ Q) X.xe s
def tNoIf : TT := fun _ H Q => Q true H
theorem pif0 : PIfs X [] tNoIf := fun pins s σ H Q I h => wpAny_tests_nil ⟨H, I, h⟩
theorem pif1 {c : Expr} {t : TT} (h : PT X c t) : PIfs X [c] t := fun pins s σ H Q I hw => wpAny_tests_one (h pins s σ H Q I hw)
theorem compLoop_gen {prog : Program} {w : World} {A : Around} {R : Result → Shared → Prop} {s : Shared} {elt target iter : Expr} {ifs : List Expr} {scope : Scope} {pos : Pos} {it acc : Value} {env : Env} (I : Nat → Shared → Prop)
    (turn : ∀ n s, I n s → wpAny (model prog w) A (pyNext it) (fun r s₁ => match r with
      | none => R (.ok .next) s₁
      | some v => wpAny (model prog w) A (letOwnedTupleGo target it v) (fun _ s₁' => wpAny (model prog w) A (assign target env v) (fun _ s₂ =>
          wpAny (model prog w) A (forIn ifs true fun c r => if r = true then do let ok ← isTrue c env (eval c env); pure (ForInStep.yield ok) else pure (ForInStep.yield r)) (fun ok s₃ =>
            if ok = true then wpAny (model prog w) A (eval elt env) (fun x s₄ =>
              wpAny (model prog w) A (call (.builtin "list.append") [acc, x]) (fun _ s₅ => ∃ m, m < n ∧ I m s₅) (fun _ _ => False) s₄) (fun _ _ => False) s₃
            else ∃ m, m < n ∧ I m s₃) (fun _ _ => False) s₂) (fun _ _ => False) s₁') (fun _ _ => False) s₁) (fun _ _ => False) s)
    (n : Nat) (h : I n s) :
    codeAny (model prog w) A (.compLoop (.ListComp elt [⟨target, iter, ifs, 0⟩] scope pos) 0 it acc env) R s := by
  refine codeAny_loop rfl I (fun n s hI => ?_) n h
  show wpAny _ A ((compTurn (.ListComp elt [⟨target, iter, ifs, 0⟩] scope pos) 0 it acc env).onRaise (fun x => do noteFrame x env; theTreesLotGoes x)) _ _ s
  refine wpAny_noted ?_
  rw [compTurn_list]
  refine wpAny_bind (wpAny_standAt (wpAny_bind (wpAny_mono (turn n s hI) (fun r s₁ h₁ => ?_) fun _ _ z => z.elim)))
  cases r with
  | none => exact wpAny_pure h₁
  | some v =>
    refine wpAny_bind (wpAny_mono h₁ (fun _ s₁' h₁' => ?_) fun _ _ z => z.elim)
    refine wpAny_bind (wpAny_mono h₁' (fun _ s₂ h₂ => wpAny_bind (wpAny_mono h₂ (fun ok s₃ h₃ => ?_) fun _ _ z => z.elim)) fun _ _ z => z.elim)
    cases ok with
    | false => exact wpAny_pure ⟨rfl, h₃⟩
    | true =>
      exact wpAny_bind (wpAny_bind (wpAny_mono h₃ (fun x s₄ h₄ => wpAny_bind (wpAny_mono h₄ (fun _ s₅ h₅ => wpAny_pure (wpAny_pure ⟨rfl, h₅⟩)) fun _ _ z => z.elim)) fun _ _ z => z.elim))
def CompW (J : It) (k : Nat) (g : TG) (tt : TT) (te : TE) (σ : St) (Q : VK) (H1 : Hp) : Prop := ∃ W : Nat → Nat → List V → Hp → Prop, (∃ m, W 0 m [] H1) ∧ ∀ i m ys H, W i m ys H → ys.length ≤ sizeLine ∧
  ((J.stop i H ∧ ∀ l, H l = none → Q (.ref l) (upd H l (.lst ys))) ∨ (J.go i H ∧ ∀ x H', J.yld i H x H' → g x (σ ++ List.replicate k none) H' fun σ2 H2 => σ2.take σ.length = σ ∧ tt σ2 H2 fun b H3 =>
    if b = true then te σ2 H3 fun y H4 => ∃ m', m' < m ∧ W (i + 1) m' (ys ++ [y]) H4 else ∃ m', m' < m ∧ W (i + 1) m' ys H3))
def tComp (wi : TI) (k : Nat) (g : TG) (tt : TT) (te : TE) : TE := fun σ H Q => wi σ H fun J H1 => CompW J k g tt te σ Q H1
theorem HOk.track {P : Program} {w : World} {H : Hp} {h : Heap} {a : Addr} {o : HO} (x : HOk P w H h) (hn : H a = none) (new : ObjOk P w (upd H a o) h a o) : HOk P w (upd H a o) h := fun b u e => by
  by_cases hb : b = a
  · subst hb
    rw [upd_same] at e
    cases e
    exact new
  · rw [upd_ne hb] at e
    exact (x b u e).stay (fun _ _ _ q => q) (fun c q => by rw [upd_ne (ne_of_none q hn)]; exact q) fun c xs q => by rw [upd_ne (ne_of_none q hn)]; exact q
theorem st_back {σ σ' : St} {k : Nat} (h : σ'.take σ.length = σ) : ∀ (i : Nat) v, (σ ++ List.replicate k (none : Option V))[i]? = some (some v) → σ'[i]? = some (some v) := fun i v e => by
  by_cases hi : i < σ.length
  · rw [List.getElem?_append_left hi, ← h, List.getElem?_take_of_lt hi] at e
    exact e
  · rw [List.getElem?_append_right (by omega), List.getElem?_replicate] at e
    split at e <;> cases e
theorem pe_comp {elt tg iter : Expr} {ifs : List Expr} {sc : Scope} {M tgs : List Str} {pos : Pos} {wi : TI} {g : TG} {tt : TT} {te : TE} (hc : X.calm = true) (B : BlkOk X sc M tgs) (hi : PI X tg iter wi)
    (hg : ∀ cl C fp s H, PG (blk X sc cl C fp s H (M ++ tgs)) tg g) (ht : ∀ cl C fp s H, PIfs (blk X sc cl C fp s H (M ++ tgs)) ifs tt) (he : ∀ cl C fp s H, PE (blk X sc cl C fp s H (M ++ tgs)) elt te)
    (hs : ∀ x, foldedSetIterable iter X.env x = pure x := by intro _; rfl) : PE X (.ListComp elt [⟨tg, iter, ifs, 0⟩] sc pos) (tComp wi tgs.length g tt te) := by
  intro pins s σ H Q I h
  have hfr : ∀ y ∈ sc.names, y.2 = .free → ∃ c, X.env.cells.lookup y.1 = some c := fun y hy e => I.ok.has _ (B.free y hy e)
  have hsub : ∀ x c, (clF X.env sc.names []).lookup x = some c → X.env.cells.lookup x = some c := clF_sub sc.names [] hfr fun _ _ z => by simp at z
  rw [eval_ListComp]
  refine wpAny_comprehension_free (use := none) rfl hs (closure_eq hfr) B.kind B.names (thn (hi pins s σ H _ I h) fun xv s₁ h₁ => thn h₁ fun itv s₂ h₂ => ?_)
  obtain ⟨it, fp, tn, J, H2, rfl, I2, T, st2, f2, W, ⟨m0, w0⟩, turn⟩ := h₂
  have hfl : ∀ b ∈ fp, b < s₂.heap.objs.size := fun b hb => by
    obtain ⟨o, e, _⟩ := T.obj _ _ st2 b hb
    exact Heap.lt_size e
  refine wpAny_newObj_type (wpAny_newFunctionEnv B.nocell (by intro y hy; simp at hy) (fun h₁ hns₁ hsb₁ => ?_) B.kind)
  dsimp only at hns₁ hsb₁ ⊢
  generalize hH2 : s₂.heap.push { cls := .type "list", dict := none, data := .seq ([] : List Value).toArray } = HH at hns₁ hsb₁ ⊢
  have hC : HH.objs.size = s₂.heap.objs.size + 1 := by rw [← hH2, Heap.size_push]
  generalize hCC : HH.objs.size = C at hC hns₁ hsb₁ ⊢
  generalize hDD : s₂.heap.objs.size = D at hC ⊢
  have hDC : D ≠ C := by omega
  have below : ∀ b, b < D → b ≠ C ∧ b ≠ D := fun b hb => ⟨by omega, by omega⟩
  have old : ∀ b o, s₂.heap.get? b = some o → h₁.get? b = some o := fun b o e => hsb₁.extBut b o (below b (hDD ▸ Heap.lt_size e)).1 (Heap.get?_push_of_some _ (hH2 ▸ Heap.get?_push_of_some _ e))
  have hacc : h₁.PlainList D #[] := ⟨_, hsb₁.extBut _ _ hDC (Heap.get?_push_of_some _ (by rw [← hH2, ← hDD]; exact Heap.get?_push_size _ rfl))⟩
  have hCs : s₂.heap.objs.size ≤ C := by omega
  generalize hS4 : ({ s₂ with heap := h₁, toks := s₂.toks + ([] : List (Str × Value)).length } : Shared) = s₄
  have I4 : Inv (blk X sc (clF X.env sc.names []) C fp s₂ H2 (M ++ tgs)) [] (σ ++ List.replicate tgs.length none) H2 s₄ :=
    I2.blk B f2 hfl hCs (by rw [← hS4]; exact hns₁) (by rw [← hS4]; exact old) (by rw [← hS4]) (by rw [← hS4])
  have hD4 : s₄.heap.PlainList D #[] := by rw [← hS4]; exact hacc
  have st4 : tn 0 s₄.heap := by rw [← hS4]; exact T.keep _ _ _ st2 fun b _ o e => old b o e
  -- what holds through the loop
  let X' := blk X sc (clF X.env sc.names []) C fp s₂ H2 (M ++ tgs)
  have nfs : ∀ b, s₂.heap.objs.size ≤ b → b ∉ frs X.stack := fun b hb z => by
    rcases List.mem_cons.mp (I2.stkSub b z) with q | q
    · rw [q] at hb; exact absurd I2.lt (Nat.not_lt.mpr hb)
    · exact I2.nofs hb q
  have Dpin : ∀ {s' : Shared} {H' : Hp} {its : Array Value} {n : Nat}, s'.heap.get? D = some { cls := .type "list", data := .seq its n } → H' D = none →
      ∀ p ∈ [(D, ({ cls := .type "list", data := .seq its n } : Obj))], s'.heap.get? p.1 = some p.2 ∧ H' p.1 = none ∧ p.1 ≠ X'.env.locals ∧ p.1 ∉ X'.fs ∧ ∀ v, p.2.data ≠ .cell v := fun {s' H' its n} e hn p hp => by
    have e1 : p = (D, ({ cls := .type "list", data := .seq its n } : Obj)) := by simpa using hp
    subst e1
    exact ⟨e, hn, hDC, nfs D (by omega), fun v z => by cases z⟩
  have fpk : ∀ {pl : List (Addr × Obj)} {H' : Hp}, (∀ p ∈ pl, p.1 = D) → (∀ b ∈ fp, H' b = none) → ∀ b ∈ fp, FpOk X' pl H' b := fun {pl H'} hpl hn b hb => by
    refine ⟨hn b hb, (below b (hDD ▸ hfl b hb)).1, fun z => ?_, .inl hb, fun x c e => (f2 b hb).2.2.2.2.1 x c (hsub x c e), fun p hp => ?_⟩
    · rcases List.mem_cons.mp (I2.stkSub b z) with q | q
      · exact (f2 b hb).2.1 q
      · exact (f2 b hb).2.2.1 q
    · have hp' : p ∈ pl := by simpa [X', blk] using hp
      rw [hpl p hp']
      exact Ne.symm (below b (hDD ▸ hfl b hb)).2
  have cellD : ∀ x c, X'.env.cells.lookup x = some c → c ≠ D := fun x c e z => by
    obtain ⟨v, q⟩ := I2.cell x c (hsub x c e)
    have q := q.lt
    rw [z, hDD] at q
    exact Nat.lt_irrefl _ q
  have loop : codeAny (model X.prog X.w) X.A (.compLoop (.ListComp elt [⟨tg, iter, ifs, 0⟩] sc pos) 0 (.ref it) (.ref D) (compEnvC sc (clF X.env sc.names []) C X.env))
      (compPost (model X.prog X.w) X.A X.xe none (EP X pins σ Q) (.ref D) C) s₄ := by
    refine compLoop_gen (fun n s' => ∃ i ys its k H', Inv X' [(D, { cls := .type "list", data := .seq its k })] (σ ++ List.replicate tgs.length none) H' s' ∧ Vals ys its.toList ∧ tn i s'.heap ∧ (∀ b ∈ fp, H' b = none) ∧ W i n ys H') ?_ m0 ?_
    · rintro n s5 ⟨i, ys, its, k, H5, I5, hv, st5, fr5, w5⟩
      obtain ⟨hz, w5⟩ := turn i n ys H5 w5
      have hD5 := I5.pin (D, { cls := .type "list", data := .seq its k }) (List.mem_append_right _ (by simp))
      have one : ∀ p ∈ [(D, ({ cls := .type "list", data := .seq its k } : Obj))], p.1 = D := fun p hp => by
        have : p = (D, ({ cls := .type "list", data := .seq its k } : Obj)) := by simpa using hp
        rw [this]
      rcases w5 with ⟨stop, qn⟩ | ⟨go, step⟩
      · refine thn (T.done X' rfl rfl rfl hc i _ s5 _ H5 _ I5 (fpk one fr5) st5 stop) fun r s6 ⟨hr, I6⟩ => ?_
        subst hr
        obtain ⟨m6, hn6, _⟩ := I6.loc
        refine ⟨m6, hn6, fun h7 hs7 => ?_⟩
        have hs7 : Heap.SameBut C s6.heap h7 := hs7
        obtain ⟨e6, n6, _⟩ := I6.pin (D, { cls := .type "list", data := .seq its k }) (List.mem_append_right _ (by simp))
        have hC6 : H5 C = none := I6.free
        have ok7 : HOk X.prog X.w H5 h7 := fun b o e => (I6.hok b o e).stay (fun c w' hc' q => (hs7.2 c (by
          rintro rfl
          rcases hc' with rfl | hc'
          · rw [hC6] at e; cases e
          · rw [hC6] at hc'; cases hc')).trans q) (fun _ q => q) fun _ _ q => q
        have e7 : h7.get? D = some { cls := .type "list", data := .seq its k } := (hs7.2 D hDC).trans e6
        have hln : ys.length ≤ sizeLine := hz
        have ok8 : HOk X.prog X.w (upd H5 D (.lst ys)) h7 := ok7.track n6 ⟨hln, its.toList, k, hv, by simpa using e7⟩
        have un : Un (frs X.stack) fp H2 H5 s₂.heap s6.heap := I6.base
        have neC : ∀ b o, s₂.heap.get? b = some o → b ≠ C ∧ b ≠ D := fun b o e => below b (hDD ▸ Heap.lt_size e)
        have un7 : Un (frs X.stack) fp H2 (upd H5 D (.lst ys)) s₂.heap h7 := by
          refine ⟨fun b o e n hb hx => (hs7.2 b (neC b o e).1).trans (un.keep b o e n hb hx), fun b o e n hb hx => ?_, fun b o e n hx => ?_, fun b o e hx => ?_, fun b xs e => ?_, fun b o u e => ?_, fun b ps e => ?_⟩
          · obtain ⟨sl, q⟩ := un.slot b o e n hb hx
            exact ⟨sl, (hs7.2 b (neC b o e).1).trans q⟩
          · rw [upd_ne (neC b o e).2]; exact un.free b o e n hx
          · obtain ⟨o', q⟩ := un.there b o e hx
            exact ⟨o', (hs7.2 b (neC b o e).1).trans q⟩
          · have q := un.tups b xs e
            rw [upd_ne (ne_of_none q n6)]; exact q
          · have q := un.frzs b o u e
            rw [upd_ne (ne_of_none q n6)]; exact q
          · obtain ⟨more, q⟩ := un.tbls b ps e
            exact ⟨more, by rw [upd_ne (ne_of_none q n6)]; exact q⟩
        refine ⟨.ref D, upd H5 D (.lst ys), I2.call' (ch := fp) ?_ un7 ok8 I6.bare (fun b hb => ⟨(f2 b hb).2.2.2.1, (f2 b hb).2.1, (f2 b hb).2.2.2.2.1, (f2 b hb).2.2.2.2.2⟩), rfl, qn D n6⟩
        exact I6.os
      · refine thn (T.item X' rfl rfl rfl hc i _ s5 _ H5 _ I5 (fpk one fr5) st5 go) fun r s6 ⟨u, hr, h6⟩ => ?_
        subst hr
        refine thn h6 fun _ s7 ⟨x, H7, I7, r7, y7, st7, fr7⟩ => ?_
        have I7' := I7.pinned (fpk one fr7) (T.obj _ _ st7)
        refine thn (hg _ _ _ _ _ _ s7 _ H7 x u _ I7' r7 (step x H7 y7)) fun _ s8 ⟨σ8, H8, I8, tk8, q8⟩ => ?_
        refine thn (ht _ _ _ _ _ _ s8 σ8 H8 _ I8 q8) fun b s9 ⟨H9, I9, q9⟩ => ?_
        -- the turn's end, from a state in which nothing but the list has changed
        have weak : ∀ {pl : List (Addr × Obj)} {H' : Hp} {s' : Shared}, Inv X' pl σ8 H' s' → Inv X' pl (σ ++ List.replicate tgs.length none) H' s' := fun {pl H' s'} J => J.weak (by
          have e1 : σ8.length = (M ++ tgs).length := J.len
          rw [e1, List.length_append, List.length_append, List.length_replicate, B.len, I2.len]) (st_back tk8)
        have fin : ∀ {H' : Hp} {s' : Shared}, Inv X' ([(D, { cls := .type "list", data := .seq its k })] ++ pinsAt fp s7.heap) σ8 H' s' → tn (i + 1) s'.heap ∧ ∀ b ∈ fp, H' b = none := fun {H' s'} J => by
          refine ⟨T.keep _ _ _ st7 fun b hb o e => (J.pin (b, o) (List.mem_append_right _ (List.mem_append_right _ (mem_pinsAt hb e)))).1, fun b hb => ?_⟩
          obtain ⟨o, e, d⟩ := T.obj _ _ st7 b hb
          exact (J.pin (b, o) (List.mem_append_right _ (List.mem_append_right _ (mem_pinsAt hb e)))).2.1
        cases b with
        | false =>
          rw [if_neg Bool.false_ne_true] at q9 ⊢
          obtain ⟨m', hm, w9⟩ := q9
          exact ⟨m', hm, i + 1, ys, its, k, H9, weak I9.unpinned, hv, (fin I9).1, (fin I9).2, w9⟩
        | true =>
          rw [if_pos rfl] at q9 ⊢
          refine thn (he _ _ _ _ _ _ s9 σ8 H9 _ I9 q9) fun y s10 ⟨yv, H10, I10, r10, q10⟩ => ?_
          obtain ⟨m', hm, w10⟩ := q10
          obtain ⟨e10, n10, _⟩ := I10.pin (D, { cls := .type "list", data := .seq its k }) (List.mem_append_right _ (List.mem_append_left _ (by simp)))
          have hsz : its.size ≤ sizeLine := by
            have e1 := hv.length
            have e2 : its.toList.length = its.size := by simp
            omega
          refine wpAny_list_append_plain (hsz := hsz) ⟨k, e10⟩ fun h11 hl11 hs11 => ?_
          obtain ⟨k', e11⟩ := hl11
          have J0 : Inv X' [] σ8 H10 s10 := I10.pins_of fun p hp => by simp at hp
          have J1 : Inv X' [] σ8 H10 { s10 with heap := h11 } := J0.turned (t' := s10.toks) (it := D) (fun b o hb e => (hs11.2 b hb).trans e) n10 hDC (.inr (by show s₂.heap.objs.size ≤ D; omega)) cellD (fun p hp => by
            have hp' : p ∈ ([] : List (Addr × Obj)) := by simpa [X', blk] using hp
            simp at hp')
          have J2 : Inv X' [(D, { cls := .type "list", data := .seq (its.push y) k' })] σ8 H10 { s10 with heap := h11 } := J1.pins_of (Dpin e11 n10)
          refine ⟨m', hm, i + 1, ys ++ [yv], its.push y, k', H10, weak J2, ?_, ?_, (fin I10).2, w10⟩
          · rw [Array.toList_push]
            exact hv.append (.cons r10 .nil)
          · refine T.keep _ _ _ (fin I10).1 fun b hb o e => (hs11.2 b ?_).trans e
            exact (below b (hDD ▸ hfl b hb)).2
    · obtain ⟨k, e⟩ := hD4
      exact ⟨0, [], #[], k, H2, I4.pins_of (Dpin e (I2.hok.fresh (by omega))), .nil, st4, fun b hb => (f2 b hb).1, w0⟩
  exact codeAny_compStart_list loop (T.self _ _ _ _ _ st4 loop)
end
end L2
namespace HT
open PySem PySem.Spec PyProof.Rows PySem.SeqAt
section
open PySem.SeqAt
open PySem.AutoSeq1 (wpAny_loadPart')
open PySem.MeetsSeq PySem.MeetsSeq2 PySem.MeetsSeq3
end
section
variable {prog : Program} {w : World} {A : Around} {E : Value → Shared → Prop} {s : Shared}
end
end HT
namespace L2
open PySem PySem.Spec PyProof.Rows
section
variable {X : Cx}
def kindV (K : PySem.W.Frag) (H : Hp) (T : String) : V → Prop
  | .non => T = "NoneType"
  | .bl _ => T = "bool"
  | .int _ => T = "int"
  | .str _ => T = "str"
  | .ref p => (T = "list" ∧ ∃ xs, SqL K H p xs) ∨ (T = "tuple" ∧ ∃ xs, SqT K H p xs) ∨ (T = "dict" ∧ ((∃ kvs, H p = some (.dK kvs)) ∨ ∃ kvs, H p = some (.dT kvs)))
  | _ => False
def isiB (T C : String) : Bool := T == C || (T == "bool" && C == "int")
def isiC (C : String) : Prop := C = "int" ∨ C = "bool" ∨ C = "tuple" ∨ C = "list" ∨ C = "str"
def rIsi (K : PySem.W.Frag) : List V → Hp → VK → Prop := fun xs H Q => ∃ x T C, xs = [x, .ty C] ∧ isiC C ∧ kindV K H T x ∧ Q (.bl (isiB T C)) H
theorem call_isi : CallR X (.builtin "isinstance") (rIsi X.K) := by
  intro pins s σ H xs us Q I r h
  obtain ⟨x, T, C, rfl, hC, hk, q⟩ := h
  obtain ⟨u, w', rfl, rx, rc⟩ := vals2 r
  cases rc
  have fin : ∀ (b : Bool) (t : Nat), b = isiB T C → EP X pins σ Q (.bool b) { s with toks := t } := fun b t e => ⟨.bl b, H, I.tok t, rfl, by rw [e]; exact q⟩
  have fin0 : ∀ (b : Bool), b = isiB T C → EP X pins σ Q (.bool b) s := fun b e => ⟨.bl b, H, I, rfl, by rw [e]; exact q⟩
  cases x with
  | non =>
    cases rx
    cases (show T = "NoneType" from hk)
    rcases hC with rfl | rfl | rfl | rfl | rfl
    · exact IsiPair.NoneType_int (fin _ _ rfl)
    · exact IsiPair.NoneType_bool (fin _ _ rfl)
    · exact IsiPair.NoneType_tuple (fin _ _ rfl)
    · exact IsiPair.NoneType_list (fin _ _ rfl)
    · exact IsiPair.NoneType_str (fin _ _ rfl)
  | bl b =>
    cases rx
    cases (show T = "bool" from hk)
    rcases hC with rfl | rfl | rfl | rfl | rfl
    · exact IsiPair.bool_int (fin0 _ rfl)
    · exact IsiPair.bool_bool (fin0 _ rfl)
    · exact IsiPair.bool_tuple (fin _ _ rfl)
    · exact IsiPair.bool_list (fin _ _ rfl)
    · exact IsiPair.bool_str (fin _ _ rfl)
  | int i =>
    obtain ⟨t, rfl⟩ := rx
    cases (show T = "int" from hk)
    rcases hC with rfl | rfl | rfl | rfl | rfl
    · exact IsiPair.int_int (fin0 _ rfl)
    · exact IsiPair.int_bool (fin _ _ rfl)
    · exact IsiPair.int_tuple (fin _ _ rfl)
    · exact IsiPair.int_list (fin _ _ rfl)
    · exact IsiPair.int_str (fin _ _ rfl)
  | str z =>
    obtain ⟨t, rfl⟩ := rx
    cases (show T = "str" from hk)
    rcases hC with rfl | rfl | rfl | rfl | rfl
    · exact IsiPair.str_int (fin _ _ rfl)
    · exact IsiPair.str_bool (fin _ _ rfl)
    · exact IsiPair.str_tuple (fin _ _ rfl)
    · exact IsiPair.str_list (fin _ _ rfl)
    · exact IsiPair.str_str (fin0 _ rfl)
  | ref p =>
    cases rx
    rcases hk with ⟨rfl, xs, hq⟩ | ⟨rfl, xs, hq⟩ | ⟨rfl, hk⟩
    · obtain ⟨its, _, pl, _⟩ := I.list hq
      obtain ⟨o, n, e, c, hd, _⟩ := pl
      rcases hC with rfl | rfl | rfl | rfl | rfl
      · exact IsiPair.list_int e c (fin _ _ rfl)
      · exact IsiPair.list_bool e c (fin _ _ rfl)
      · exact IsiPair.list_tuple e c (fin _ _ rfl)
      · exact IsiPair.list_list e c (fin0 _ rfl)
      · exact IsiPair.list_str e c (fin _ _ rfl)
    · obtain ⟨its, _, ⟨o, e, c, _⟩, _⟩ := I.tuple hq
      rcases hC with rfl | rfl | rfl | rfl | rfl
      · exact IsiPair.tuple_int e c (fin _ _ rfl)
      · exact IsiPair.tuple_bool e c (fin _ _ rfl)
      · exact IsiPair.tuple_tuple e c (fin0 _ rfl)
      · exact IsiPair.tuple_list e c (fin _ _ rfl)
      · exact IsiPair.tuple_str e c (fin _ _ rfl)
    · have z : ∃ o, s.heap.get? p = some o ∧ o.cls = .type "dict" := by
        rcases hk with ⟨kvs, hk⟩ | ⟨kvs, hk⟩
        · obtain ⟨_, _, _, _, o, _, _, e, ex, _⟩ := I.hok p _ hk
          exact ⟨o, e, ex.1⟩
        · obtain ⟨_, _, _, _, o, _, _, e, ex, _⟩ := I.hok p _ hk
          exact ⟨o, e, ex.1⟩
      obtain ⟨o, e, c⟩ := z
      rcases hC with rfl | rfl | rfl | rfl | rfl
      · exact IsiPair.dict_int e c (fin _ _ rfl)
      · exact IsiPair.dict_bool e c (fin _ _ rfl)
      · exact IsiPair.dict_tuple e c (fin _ _ rfl)
      · exact IsiPair.dict_list e c (fin _ _ rfl)
      · exact IsiPair.dict_str e c (fin _ _ rfl)
  | _ => exact False.elim hk
end
end L2
namespace RawD
open PySem PySem.Spec PyProof.Rows PySem.W
def At (h : Heap) (d : Addr) (es : Array DictEntry) (ep : Nat) : Prop := ∃ o, h.get? d = some o ∧ o.ExactDict ∧ o.data = .dict es ep
theorem At.keep {h h' : Heap} {d : Addr} {es : Array DictEntry} {ep : Nat} (x : At h d es ep) (k : ∀ o, h.get? d = some o → h'.get? d = some o) : At h' d es ep := let ⟨o, a, r⟩ := x; ⟨o, k o a, r⟩
theorem At.ty {s : Shared} {d : Addr} {es : Array DictEntry} {ep : Nat} (x : At s.heap d es ep) : s.TypeIs (.ref d) "dict" := let ⟨o, a, b, _⟩ := x; ⟨o, a, b.1⟩
theorem At.lt {h : Heap} {d : Addr} {es : Array DictEntry} {ep : Nat} (x : At h d es ep) : d < h.objs.size := let ⟨_, a, _⟩ := x; Heap.lt_size a
section
variable {prog : Program} {w : World} {A : Around} {E : Value → Shared → Prop} {s : Shared} {d it : Addr} {es : Array DictEntry} {ep i : Nat}
theorem iter {Q : Value → Shared → Prop} (lo : (d == sysModules) = false) (x : At s.heap d es ep)
    (q : Q (.ref s.heap.objs.size) { s with heap := s.heap.push { cls := .type "dict_keyiterator", data := .fields #[.ref d, .int 0 0, .int es.size 0, .int ep 0] } }) :
    wpAny (model prog w) A (pyIter (.ref d)) Q E s := by
  have ty := x.ty
  obtain ⟨o, a1, a2, a3⟩ := x
  refine wpAny_pyIter_slot ty F.slot_dict_iter (wpAny_call_entry F.slot_dict_iter ty F.entry_dict_iter ?_ (F.args_dict_iter_1 _))
  unfold Builtin.«dict.__iter__»
  refine wpAny_bind ?_
  unfold Builtin.Dict.dictSlotNone
  refine wpAny_bind (wpAny_notOrdered_dict ty ?_)
  show wpAny _ _ (pure (Value.ref d)) _ _ s
  refine wpAny_pure ?_
  show wpAny _ _ (Builtin.Dict.showsAll d >>= _) _ _ s
  unfold Builtin.Dict.showsAll
  rw [if_neg (by rw [lo]; exact Bool.false_ne_true)]
  refine wpAny_bind (wpAny_pure ?_)
  refine wpAny_bind (wpAny_dictEntries a1 a3 (wpAny_bind (wpAny_dictEpoch a1 a3 ?_)))
  exact wpAny_bind (wpAny_newObj_type (wpAny_pure ⟨_, rfl, "dict_keyiterator", _, ⟨_, Heap.get?_push_size _ rfl, rfl⟩, F.slot_dict_keyiterator_next.lookup, q⟩))
theorem item {Q : Option Value → Shared → Prop} (hit : s.heap.IsKeyIter it d i es.size ep) (x : At s.heap d es ep) (hi : i < es.size)
    (q : ∀ h', h'.IsKeyIter it d (i + 1) es.size ep → Heap.SameBut it s.heap h' → Q (some es[i].key) { s with heap := h' }) : wpAny (model prog w) A (pyNext (.ref it)) Q E s := by
  obtain ⟨oi, b1, b2, b3⟩ := id hit
  obtain ⟨o, a1, a2, a3⟩ := x
  unfold pyNext
  refine wpAny_bind (wpAny_attempt (wpAny_callSpecial?_slot (name := Str.ofString "__next__") hit.typeIs F.slot_dict_keyiterator_next
    (wpAny_call_entry F.slot_dict_keyiterator_next hit.typeIs F.entry_dict_keyiterator_next ?_ (F.args_dict_keyiterator_next_1 _))))
  refine wpAny_bind (wpAny_pure (wpAny_bind (wpAny_bind ?_)))
  first | refine wpAny_bind (wpAny_typeNameOfWhole_keyiter hit.typeIs (wpAny_pure ?_)) | refine wpAny_bind (wpAny_typeNameOf_keyiter hit.typeIs (wpAny_pure ?_))
  refine wpAny_bind (wpAny_fieldsOf b1 b3 ?_)
  have no : Builtin.Dict_items.ownsTuple "dict_keyiterator" = false := by decide
  simp only [no, Bool.false_eq_true, if_false]
  show wpAny _ _ (if (Value.ref d == Value.none) = true then _ else _) _ _ s
  rw [if_neg (show ¬ ((Value.ref d == Value.none) = true) from Bool.false_ne_true)]
  refine wpAny_bind (wpAny_pure (wpAny_bind (wpAny_dictEntries a1 a3 ?_)))
  rw [if_neg (by simp)]
  refine wpAny_bind (wpAny_pure (wpAny_bind (wpAny_dictEpoch a1 a3 ?_)))
  rw [if_neg (by simp)]
  refine wpAny_pure ?_
  simp only [show ¬ ((i : Int) < 0) from by omega, if_false, Int.toNat_natCast, Array.getElem?_eq_getElem hi]
  refine wpAny_bind ?_
  first | refine wpAny_bind (wpAny_typeNameOfWhole_keyiter hit.typeIs (wpAny_pure ?_)) | refine wpAny_bind (wpAny_typeNameOf_keyiter hit.typeIs (wpAny_pure ?_))
  refine wpAny_bind (wpAny_isOneOf_keyiter hit.typeIs ?_)
  show wpAny _ _ (setField (.ref it) 1 (rawInt ((i : Int) + 1)) >>= _) _ _ s
  refine wpAny_bind (wpAny_setField b1 b3 (by simp) ?_)
  have on : (s.heap.update it (Obj.mapFields (·.setIfInBounds 1 (rawInt ((i : Int) + 1))))).IsKeyIter it d (i + 1) es.size ep :=
    ⟨_, Heap.get?_update_self _ b1 (Obj.isFreed_of_fields (Obj.data_mapFields b3 _)), (Obj.cls_mapFields ..).trans b2, by rw [Obj.data_mapFields b3]; simp [rawInt]⟩
  refine wpAny_bind (wpAny_holding (wpAny_bind (wpAny_isOneOf_keyiter (s := { s with heap := s.heap.update it (Obj.mapFields (·.setIfInBounds 1 (rawInt ((i : Int) + 1)))) }) on.typeIs ?_)))
  show wpAny _ _ (pure es[i].key) _ _ _
  exact wpAny_pure (wpAny_pure ⟨_, rfl, wpAny_pure (q _ on (Heap.SameBut.update ..))⟩)
theorem stop {Q : Option Value → Shared → Prop} (hh : A.handled = none) (hit : s.heap.IsKeyIter it d i es.size ep) (x : At s.heap d es ep) (hi : es.size ≤ i)
    (q : ∀ h', Heap.ExtBut it s.heap h' → Q none { s with heap := h' }) : wpAny (model prog w) A (pyNext (.ref it)) Q E s := by
  obtain ⟨oi, b1, b2, b3⟩ := id hit
  obtain ⟨o, a1, a2, a3⟩ := x
  unfold pyNext
  refine wpAny_bind (wpAny_attempt (wpAny_callSpecial?_slot (name := Str.ofString "__next__") hit.typeIs F.slot_dict_keyiterator_next
    (wpAny_call_entry F.slot_dict_keyiterator_next hit.typeIs F.entry_dict_keyiterator_next ?_ (F.args_dict_keyiterator_next_1 _))))
  refine wpAny_bind (wpAny_pure (wpAny_bind (wpAny_bind ?_)))
  first | refine wpAny_bind (wpAny_typeNameOfWhole_keyiter hit.typeIs (wpAny_pure ?_)) | refine wpAny_bind (wpAny_typeNameOf_keyiter hit.typeIs (wpAny_pure ?_))
  refine wpAny_bind (wpAny_fieldsOf b1 b3 ?_)
  have no : Builtin.Dict_items.ownsTuple "dict_keyiterator" = false := by decide
  simp only [no, Bool.false_eq_true, if_false]
  show wpAny _ _ (if (Value.ref d == Value.none) = true then _ else _) _ _ s
  rw [if_neg (show ¬ ((Value.ref d == Value.none) = true) from Bool.false_ne_true)]
  refine wpAny_bind (wpAny_pure (wpAny_bind (wpAny_dictEntries a1 a3 ?_)))
  rw [if_neg (by simp)]
  refine wpAny_bind (wpAny_pure (wpAny_bind (wpAny_dictEpoch a1 a3 ?_)))
  rw [if_neg (by simp)]
  refine wpAny_pure ?_
  simp only [show ¬ ((i : Int) < 0) from by omega, if_false, Int.toNat_natCast, Array.getElem?_eq_none hi]
  refine wpAny_bind ?_
  first | refine wpAny_bind (wpAny_typeNameOfWhole_keyiter hit.typeIs (wpAny_pure ?_)) | refine wpAny_bind (wpAny_typeNameOf_keyiter hit.typeIs (wpAny_pure ?_))
  show wpAny _ _ (setField (.ref it) 0 .none >>= _) _ _ s
  refine wpAny_bind (wpAny_setField b1 b3 (by simp) ?_)
  show wpAny _ _ (newExc (.type "StopIteration") [] >>= _) _ _ _
  refine wpAny_bind ?_
  simp only [newExc, newTuple]
  refine wpAny_bind (wpAny_newObj_type ?_ (by size_fits))
  refine wpAny_bind (m := firstArgMember _ _) (wpAny_of_eq (a := Value.none) (by first | rfl | (simp only [firstArgMember]; rfl)) ?_)
  refine wpAny_newObj_type ?_ (by size_fits)
  simp only [raiseNew]
  refine wpAny_bind (wpAny_handled ?_)
  rw [show A.in1.handled = none from hh]
  refine wpAny_bind (wpAny_pure (wpAny_throw ?_))
  refine wpAny_bind (wpAny_isInstance (T := "StopIteration") (b := true) ⟨_, Heap.get?_push_size _ rfl, rfl⟩ isSubtype_stop ?_)
  exact wpAny_pure (q _ (((Heap.SameBut.update ..).extBut.push _).push _))
theorem walks (hh : A.handled = none) (I d : Addr) (hne : d ≠ I) (es : Array DictEntry) (ep : Nat) :
    Walks prog w A I [I, d] [I] es.size (fun i v => ∃ h : i < es.size, v = es[i].key) (fun i h => h.IsKeyIter I d i es.size ep ∧ At h d es ep) where
  sub := fun b hb => by simp at hb; simp [hb]
  frame := fun _ _ _ st hk => ⟨st.1.at fun o e => hk I (by simp) o e, st.2.keep fun o e => hk d (by simp) o e⟩
  item := fun i s Q E hi st hQ => item st.1 st.2 hi fun h' a b => hQ _ h' s.toks ⟨hi, rfl⟩ ⟨a, st.2.keep fun o e => b.extBut d o hne e⟩ fun b' o hb e => b.extBut b' o (fun h => hb (by simp [h])) e
  done := fun s Q E st hQ => stop hh st.1 st.2 (Nat.le_refl _) fun h' he' => hQ h' s.toks fun b o hb e => he' b o (fun h => hb (by simp [h])) e
  self := fun _ _ _ _ st hQ => wpAny_pyIter_keyiter st.1 hQ
theorem src (lo : (d == sysModules) = false) : KdlSrc prog w "dict" d d es.size (fun i v => ∃ h : i < es.size, v = es[i].key) (fun h => At h d es ep) where
  type := fun _ x => x.ty
  there := fun _ x => ⟨x.lt, x.lt⟩
  keep := fun _ _ x hk => x.keep fun o e => hk d (.inl rfl) o e
  notList := by decide
  notTuple := by decide
  hint := fun _ _ _ _ x q => kdl_hint_dict x.ty q
  iter := fun _ _ hh x => ⟨_, _, (fun _ _ q => iter lo x q), walks hh _ d (Nat.ne_of_lt x.lt) es ep, ⟨⟨_, Heap.get?_push_size _ rfl, rfl, rfl⟩, x.keep fun _ e => Heap.get?_push_of_some _ e⟩⟩
end
end RawD
namespace RawD
open PySem PySem.Spec PyProof.Rows PySem.W
section
variable {prog : Program} {w : World} {A : Around} {E : Value → Shared → Prop} {s : Shared} {d : Addr} {es : Array DictEntry} {ep : Nat}
theorem meets_len (lo : (d == sysModules) = false) :
    MeetsIn prog w (Builtin.«dict.__len__» ⟨[.ref d], []⟩) (fun _ R s => ∃ es ep, At s.heap d es ep ∧ R (.ok (.ret (.int es.size s.toks))) { s with toks := s.toks + 1 }) :=
  .of_wp fun A R s hZ => by
    obtain ⟨es, ep, x, h⟩ := hZ
    obtain ⟨o, a1, a2, a3⟩ := x
    show wpAny _ _ (dictSize d >>= _) _ _ s
    unfold dictSize
    refine wpAny_bind (wpAny_bind (wpAny_dictEntries a1 a3 (wpAny_pure ?_)))
    show wpAny _ _ (Builtin.Dict.pendingCount d >>= _) _ _ s
    refine wpAny_bind (wpAny_pendingCount_other lo (wpAny_ret_mkInt ?_))
    rw [Nat.add_zero]; exact h
theorem len {Q : Value → Shared → Prop} (lo : (d == sysModules) = false) (x : At s.heap d es ep) (fit : (es.size : Int) < 2 ^ 63)
    (h : Q (.int es.size (s.toks + 1)) { s with toks := s.toks + 1 + 1 }) : wpAny (model prog w) A (call (.builtin "len") [.ref d]) Q E s := by
  refine Calls.call_function_entry kind_len plain_len entry_len (args_len1 _) ?_
  unfold Builtin.«len»
  refine wpAny_bind (m := oneArg "len" _) (wpAny_pure ?_)
  refine wpAny_bind (m := callSpecial? (.ref d) (Str.ofString "__len__")) (wpAny_callSpecial?_slot (name := Str.ofString "__len__") x.ty F.slot_dict_len
    (call_meetsIn F.slot_dict_len x.ty F.entry_dict_len (F.args_dict_len_1 _) (meets_len lo) ⟨es, ep, x, ?_⟩))
  show wpAny _ _ _ _ _ { s with toks := s.toks + 1 }
  refine wpAny_bind (wpAny_holding (wpAny_pure (wpAny_bind (wpAny_letGo ?_))))
  show wpAny _ _ (if ((es.size : Nat) : Int) < 0 then _ else _) _ _ _
  rw [if_neg (by omega)]
  show wpAny _ _ (if ((es.size : Nat) : Int) ≥ 2 ^ 63 then _ else _) _ _ _
  rw [if_neg (by omega)]
  exact wpAny_bind (wpAny_mkInt (wpAny_pure ⟨_, rfl, h⟩))
end
end RawD
namespace L2
open PySem PySem.Spec PyProof.Rows
section
variable {X : Cx}
theorem raw_dT {P : Program} {w : World} {H : Hp} {h : Heap} {a : Addr} {kvs : List (List Key × V)} (ok : HOk P w H h) (e : H a = some (.dT kvs)) :
    kvs.length ≤ sizeLine ∧ (a == sysModules) = false ∧ (kvs.map (·.1)).Nodup ∧ ∃ es ep, RawD.At h a es ep ∧ es.size = kvs.length ∧ ∀ i (hi : i < es.size), ∃ b k v, es[i].key = .ref b ∧ kvs[i]? = some (k, v) ∧ H b = some (.tup (k.map kV)) := by
  obtain ⟨z, y, xs, r, o, es, ep, h1, h2, h3, h4, h5⟩ := (show ObjOk P w H h a (.dT kvs) from ok a _ e)
  have hl := r.length
  have hl2 : es.size = xs.length := by
    have := congrArg List.length h4
    simpa using this
  have keys : ∀ {l : List (List Key × V)} {m : List (List Key × Addr × Value)},
      Paired (fun (p : List Key × V) (q : List Key × Addr × Value) => p.1 = q.1 ∧ H q.2.1 = some (.tup (p.1.map kV)) ∧ RelV p.2 q.2.2) l m → l.map (·.1) = m.map (·.1) := by
    intro l m pr
    induction pr with
    | nil => rfl
    | cons hd _ ih => rw [List.map_cons, List.map_cons, ih, hd.1]
  refine ⟨z, y, by rw [keys r]; exact h5, es, ep, ⟨o, h1, h2, h3⟩, hl2.trans hl.symm, fun i hi => ?_⟩
  have hx : i < xs.length := by omega
  have get : ∀ {l : List (List Key × V)} {m : List (List Key × Addr × Value)} {i : Nat} {q : List Key × Addr × Value},
      Paired (fun (p : List Key × V) (q : List Key × Addr × Value) => p.1 = q.1 ∧ H q.2.1 = some (.tup (p.1.map kV)) ∧ RelV p.2 q.2.2) l m → m[i]? = some q → ∃ p, l[i]? = some p ∧ p.1 = q.1 ∧ H q.2.1 = some (.tup (p.1.map kV)) := by
    intro l m i q pr
    induction pr generalizing i with
    | nil => intro e; simp at e
    | cons hd _ ih =>
      intro e
      cases i with
      | zero => simp at e; subst e; exact ⟨_, rfl, hd.1, hd.2.1⟩
      | succ i => simp at e; exact ih e
  obtain ⟨p, e1, _, e2⟩ := get (i := i) r (List.getElem?_eq_getElem hx)
  refine ⟨xs[i].2.1, p.1, p.2, ?_, e1, e2⟩
  have : es[i] = entryOfKey (tupleKind (mixKind P w)) xs[i] := by
    have q : es.toList[i]? = some (entryOfKey (tupleKind (mixKind P w)) xs[i]) := by rw [h4]; simp [hx]
    rw [Array.getElem?_toList, Array.getElem?_eq_getElem hi] at q
    exact Option.some.inj q
  rw [this]
  rfl
theorem call_lenT : CallR X (.builtin "len") (fun xs H Q => ∃ a kvs, xs = [V.ref a] ∧ H a = some (.dT kvs) ∧ Q (.int kvs.length) H) := by
  intro pins s σ H xs us Q I r h
  obtain ⟨a, kvs, rfl, ha, q⟩ := h
  obtain ⟨u, rfl, ru⟩ := vals1 r
  cases ru
  obtain ⟨z, lo, _, es, ep, x, hl, _⟩ := raw_dT I.hok ha
  exact RawD.len lo x (by rw [hl]; rw [sizeLine_eq] at z; omega) ⟨.int kvs.length, H, I.tok _, ⟨_, by rw [hl]⟩, q⟩
theorem call_listT (hc : X.calm = true) : CallR X (.type "list") (fun xs H Q => ∃ a kvs, xs = [V.ref a] ∧ H a = some (.dT kvs) ∧
    ∀ l bs, H l = none → (kvs.map (·.1)).Nodup → bs.length = kvs.length → (∀ (i : Nat) k v, kvs[i]? = some (k, v) → ∃ b, bs[i]? = some (V.ref b) ∧ H b = some (.tup (k.map kV))) → Q (.ref l) (upd H l (.lst bs))) := by
  intro pins s σ H xs us Q I r h
  obtain ⟨a, kvs, rfl, ha, q⟩ := h
  obtain ⟨u, rfl, ru⟩ := vals1 r
  cases ru
  obtain ⟨z, lo, nd, es, ep, x, hl, hk⟩ := raw_dT I.hok ha
  refine PySem.W.kdl_call (RawD.src (ep := ep) (es := es) lo) (I.ok.hd hc) x (by rw [hl]; exact z) fun h' tk acc c keep hD hacc => ?_
  have hf : H s.heap.objs.size = none := I.hok.fresh (Nat.le_refl _)
  have hlen : acc.size = es.size := hacc.1
  -- the values as V's
  let bs : List V := acc.toList.map fun u => match u with | .ref b => V.ref b | _ => V.non
  have key : ∀ i (hi : i < acc.size), ∃ b k v, acc[i] = .ref b ∧ kvs[i]? = some (k, v) ∧ H b = some (.tup (k.map kV)) := fun i hi => by
    obtain ⟨hi', e⟩ := hacc.2 i acc[i] (by simp [hi])
    obtain ⟨b, k, v, e1, e2, e3⟩ := hk i hi'
    exact ⟨b, k, v, e.trans e1, e2, e3⟩
  have hv : Vals bs acc.toList := by
    have gen : ∀ (l : List Value), (∀ u ∈ l, ∃ b, u = .ref b) → Vals (l.map fun u => match u with | .ref b => V.ref b | _ => V.non) l := by
      intro l
      induction l with
      | nil => intro _; exact .nil
      | cons u l ih =>
        intro h
        obtain ⟨b, rfl⟩ := h u List.mem_cons_self
        exact .cons rfl (ih fun v hv => h v (List.mem_cons_of_mem _ hv))
    refine gen acc.toList fun u hu => ?_
    obtain ⟨i, hi, e⟩ := List.mem_iff_getElem.mp hu
    have hi' : i < acc.size := by simpa using hi
    obtain ⟨b, k, v, e1, _⟩ := key i hi'
    exact ⟨b, by rw [← e]; simpa using e1⟩
  have hbl : bs.length = kvs.length := by
    show (acc.toList.map _).length = _
    rw [List.length_map, Array.length_toList, hlen, hl]
  refine ⟨.ref s.heap.objs.size, upd H s.heap.objs.size (.lst bs), ?_, rfl, q _ bs hf nd hbl fun i k v e => ?_⟩
  · exact I.laid (t' := tk) keep (Nat.le_refl _) ⟨by rw [hbl]; exact z, acc.toList, c, hv, by simpa using hD⟩
  · have hi : i < acc.size := by
      have := (List.getElem?_eq_some_iff.mp e).1
      omega
    obtain ⟨b, k', v', e1, e2, e3⟩ := key i hi
    rw [e] at e2
    cases e2
    refine ⟨b, ?_, e3⟩
    show (acc.toList.map _)[i]? = _
    rw [List.getElem?_map, Array.getElem?_toList, Array.getElem?_eq_getElem hi, e1]
    rfl
theorem all_range : ∀ (bs : List Bool), (List.range bs.length).all (fun i => bs.getD i false) = bs.all id := fun bs => by
  rw [Bool.eq_iff_iff]
  simp only [List.all_eq_true, List.mem_range]
  constructor
  · intro h b hb
    obtain ⟨i, hi, e⟩ := List.mem_iff_getElem.mp hb
    have := h i hi
    rw [List.getD_eq_getElem?_getD, List.getElem?_eq_getElem hi, e] at this
    exact this
  · intro h i hi
    rw [List.getD_eq_getElem?_getD, List.getElem?_eq_getElem hi]
    exact h _ (List.getElem_mem hi)
theorem call_all (hc : X.calm = true) : CallR X (.builtin "all") (fun xs H Q => ∃ (p : Addr) (bs : List Bool), xs = [V.ref p] ∧ SqL X.K H p (bs.map V.bl) ∧ Q (.bl (bs.all id)) H) := by
  intro pins s σ H xs us Q I r h
  obtain ⟨p, bs, rfl, hq, q⟩ := h
  obtain ⟨u, rfl, ru⟩ := vals1 r
  cases ru
  obtain ⟨its, rv, pl, hz⟩ := I.list hq
  have hlen := rv.length
  rw [List.length_map] at hlen
  have hlt : p < s.heap.objs.size := by
    obtain ⟨o, n, e, _⟩ := pl
    exact Heap.lt_size e
  refine call_all_walk (wpAny_pyIter_list pl.isList ⟨s.heap.objs.size, _, _, its.toArray.size, _, _, fun i => bs.getD i false, rfl, Walks.list (show X.A.in1.handled = none from I.ok.hd hc) s.heap.objs.size p (Nat.ne_of_lt hlt) its.toArray,
    ⟨⟨_, Heap.get?_push_size _ rfl, rfl, rfl⟩, pl.isList.at fun o e => Heap.get?_push_of_some _ e⟩, fun i v s' Q' E' hP hQ' => ?_, fun h' tk hk => ?_⟩)
  · have hP : its.toArray[i]? = some v := hP
    have hi : i < bs.length := by
      have := (Array.getElem?_eq_some_iff.mp hP).1
      rw [List.size_toArray] at this
      omega
    obtain ⟨u, e1, e2⟩ := rv.get (i := i) (x := V.bl bs[i]) (by simp [hi])
    have : v = .bool bs[i] := by
      rw [show its.toArray[i]? = its[i]? by simp, e1] at hP
      cases hP
      exact e2
    subst this
    have hQ' : Q' (bs.getD i false) s' := hQ'
    rw [show bs.getD i false = bs[i] by simp [List.getD_eq_getElem?_getD, hi]] at hQ'
    exact wpAny_truthy_bool hQ'
  · refine ⟨.bl (bs.all id), H, ?_, ?_, q⟩
    · exact I.kept (h' := h') (t' := tk) fun b o e => hk b o (by have := Heap.lt_size e; simp; exact Nat.ne_of_lt this) (Heap.get?_push_of_some _ e)
    · show Value.bool _ = Value.bool _
      rw [List.size_toArray, ← hlen, all_range]
theorem call_rng : CallR X (.type "range") (fun xs H Q => (∃ j : Int, xs = [V.int j] ∧ ∀ l, H l = none → Q (.ref l) (upd H l (.rng 0 j))) ∨ (∃ i j : Int, xs = [V.int i, V.int j] ∧ ∀ l, H l = none → Q (.ref l) (upd H l (.rng i j)))) := by
  intro pins s σ H xs us Q I r h
  have hf : H s.heap.objs.size = none := I.hok.fresh (Nat.le_refl _)
  rcases h with ⟨j, rfl, q⟩ | ⟨i, j, rfl, q⟩
  · obtain ⟨u, rfl, t, rfl⟩ := vals1 r
    exact call_range_1 ⟨.ref s.heap.objs.size, _, I.laid (o := .rng 0 j) (fun _ _ e => Heap.get?_push_of_some _ e) (Nat.le_refl _) ⟨_, _, _, Heap.get?_push_size _ rfl⟩, rfl, q _ hf⟩
  · obtain ⟨u, w', rfl, ⟨t, rfl⟩, ⟨t', rfl⟩⟩ := vals2 r
    exact call_range_2 ⟨.ref s.heap.objs.size, _, I.laid (o := .rng i j) (fun _ _ e => Heap.get?_push_of_some _ e) (Nat.le_refl _) ⟨_, _, _, Heap.get?_push_size _ rfl⟩, rfl, q _ hf⟩
theorem place_in (lo hi i : Int) : (Builtin.Range.rangePlace? lo hi 1 i).isSome = decide (lo ≤ i ∧ i < hi) := by
  unfold Builtin.Range.rangePlace?
  by_cases h : lo ≤ i ∧ i < hi
  · rw [decide_eq_true h]
    simp [h.1, h.2, Int.emod_one]
  · rw [decide_eq_false h]
    by_cases h1 : lo ≤ i
    · have h2 : ¬ i < hi := fun q => h ⟨h1, q⟩
      simp [h1, h2]
    · simp [h1]
section
open PySem.SeqAt
open PySem.AutoSeq1 (wpAny_loadPart')
open PySem.MeetsSeq PySem.MeetsSeq2 PySem.MeetsSeq3
theorem range_has (l : Addr) (lo hi i : Int) (a b c t : Tok) : Meets (Builtin.«range.__contains__» ⟨[.ref l, .int i t], []⟩)
    (fun _ R s => s.heap.get? l = some { cls := .type "range", data := .fields #[.int lo a, .int hi b, .int 1 c] } ∧ R (.ok (.ret (.bool (decide (lo ≤ i ∧ i < hi))))) s) :=
  .of_wp fun prog w A R s h => by
    obtain ⟨hp, g, d, tk, os⟩ := s; obtain ⟨hl, h⟩ := h
    rw [← place_in] at h
    wp_walk using wpAny_loadPart' hl
    exact ⟨_, rfl, h⟩
end
def rInR (neg : Bool) : R2 := fun x y H Q => ∃ (l : Addr) (i lo hi : Int), x = .int i ∧ y = .ref l ∧ H l = some (.rng lo hi) ∧ Q (.bl (if neg then !decide (lo ≤ i ∧ i < hi) else decide (lo ≤ i ∧ i < hi))) H
theorem op_inR : OpR X (compareOp .In) (rInR false) := by
  intro pins s σ H x y v u Q I rx ry h
  obtain ⟨l, i, lo, hi, rfl, rfl, hl, q⟩ := h
  obtain ⟨t, rfl⟩ := rx
  cases ry
  obtain ⟨a, b, c, e⟩ := (show ObjOk X.prog X.w H s.heap l (.rng lo hi) from I.hok l _ hl)
  exact PySem.SeqRoads2.in_meets ⟨_, e, rfl⟩ F.slot_range_contains F.entry_range_contains (F.args_range_contains_2 _ _) (range_has l lo hi i a b c t) ⟨e, _, rfl, ⟨.bl _, H, I, rfl, q⟩⟩
theorem cat_nil {prog : Program} {w : World} {A : Around} {E : Value → Shared → Prop} {s : Shared} {t b : Addr} {ws : List Value} {Q : Value → Shared → Prop} (ht : IsTup s.heap t #[]) (hb : IsTup s.heap b ws.toArray) (h : Q (.ref b) s) :
    wpAny (model prog w) A (binaryOp .Add (.ref t) (.ref b)) Q E s := by
  obtain ⟨⟨cls, dd, data, sl⟩, ho, hc, n, hd⟩ := id ht
  obtain ⟨⟨cls2, dd2, data2, sl2⟩, ho2, hc2, n2, hd2⟩ := id hb
  simp only at hc hd hc2 hd2
  subst hc hd hc2 hd2
  exact concat_meets ⟨_, ho, rfl⟩ ⟨_, ho2, rfl⟩ noFill_tuple_add seq_tuple_add PySem.F.slot_tuple_add PySem.F.entry_tuple_add (PySem.F.args_tuple_add_2 _ _)
    (tuple_addW0 t b #[] ws.toArray n n2 dd dd2 sl sl2 (by simp)) ⟨ho, ho2, h⟩
end
end L2
namespace HT
open PySem PySem.Spec PyProof.Rows
section
variable {prog : Program} {w : World} {A : Around} {E : Value → Shared → Prop} {s : Shared}
theorem getItem_tuple_whole {t sl : Addr} {items : Array Value} {vl vu : Value} {lo hi : Option Int} {Q : Value → Shared → Prop} (ht : IsTup s.heap t items) (hs : s.heap.IsSliceOf sl vl vu .none) (pl : IsPart vl lo) (pu : IsPart vu hi)
    (hw : sIx items.size 0 lo = 0 ∧ sIx items.size items.size hi = items.size) (h : Q (.ref t) s) : wpAny (model prog w) A (getItem (.ref t) (.ref sl)) Q E s := by
  obtain ⟨os, hos, hcs, hds⟩ := id hs
  have hTs : s.TypeIs (.ref sl) "slice" := ⟨os, hos, hcs⟩
  unfold getItem
  try with_reducible refine wpAny_holding ?_
  first | refine wpAny_bind (wpAny_pure ?_) | skip
  refine wpAny_bind (wpAny_sequenceKey ht.typeIs (by decide) ?_)
  refine wpAny_bind (wpAny_callSpecial?_slot (name := Str.ofString "__getitem__") ht.typeIs PyProof.Rows.slot_tuple_getitem
    (wpAny_call_entry PyProof.Rows.slot_tuple_getitem ht.typeIs entry_tuple_getitem ?_ (args_tuple_getitem _ _)))
  show wpAny _ _ (Builtin.Tuple.tupleItemsOf (.ref t) >>= _) _ _ s
  refine wpAny_bind (tupleItemsOf_ ht (wpAny_bind (wpAny_typeOf hTs ?_)))
  rw [if_pos (by decide)]
  refine wpAny_bind (sliceApplied_gen hs pl pu ?_)
  show wpAny _ _ (if (((sIx items.size 0 lo : Nat) : Int) == 0 && (1 : Int) == 1 && (sIx items.size items.size hi - sIx items.size 0 lo) == items.size) = true then _ else _) _ _ s
  rw [if_pos (by rw [hw.1, hw.2]; simp)]
  unfold Builtin.Tuple.tupleIsExact
  refine wpAny_bind (wpAny_bind (wpAny_typeOf ht.typeIs (wpAny_pure ?_)))
  rw [if_pos (by decide)]
  exact wpAny_bind (wpAny_rule (wpAny_pure ⟨_, rfl, wpAny_pure h⟩))
end
end HT
namespace L2
open PySem PySem.Spec PyProof.Rows
section
variable {X : Cx}
end
end L2
namespace Srt
open PySem PySem.W PyProof.Rows
def All {α : Type} (n : Nat) (P : α → Prop) : KasT α → Prop
  | .ret a => P a
  | .ask i j k => i < n ∧ j < n ∧ ∀ b, All n P (k b)
theorem All.bind {α β : Type} {n : Nat} {P : β → Prop} {f : α → KasT β} : ∀ {t : KasT α}, All n (fun a => All n P (f a)) t → All n P (t.bind f)
  | .ret _, h => h
  | .ask _ _ _, ⟨h1, h2, h3⟩ => ⟨h1, h2, fun b => All.bind (h3 b)⟩
theorem All.mono {α : Type} {n : Nat} {P P' : α → Prop} (hp : ∀ a, P a → P' a) : ∀ {t : KasT α}, All n P t → All n P' t
  | .ret a, h => hp a h
  | .ask _ _ _, ⟨h1, h2, h3⟩ => ⟨h1, h2, fun b => All.mono hp (h3 b)⟩
def Good (n : Nat) (p : Array Nat) : Prop := 0 < n ∧ p.toList.Perm (List.range n)
theorem Good.lt {n : Nat} {p : Array Nat} (g : Good n p) (k : Nat) : p.getD k 0 < n := by
  by_cases h : k < p.size
  · have e : p.getD k 0 = p[k] := by simp [Array.getD, h]
    rw [e]
    have m : p[k] ∈ List.range n := g.2.mem_iff.mp (by simp)
    simpa using m
  · have e : p.getD k 0 = 0 := by simp [Array.getD, h]
    rw [e]
    exact g.1
theorem Good.perm {n : Nat} {p p' : Array Nat} (g : Good n p) (h : p'.Perm p) : Good n p' := ⟨g.1, (Array.perm_iff_toList_perm.mp h).trans g.2⟩
theorem Good.rev {n : Nat} {p : Array Nat} (g : Good n p) (i j : Nat) : Good n (kas_rev p i j) := g.perm (mirror_perm _ _ _ _)
theorem asc {n : Nat} {p : Array Nat} (g : Good n p) : ∀ f k, All n (fun _ => True) (kas_asc p f k)
  | 0, _ => trivial
  | f + 1, k => ⟨g.lt _, g.lt _, fun b => by
    cases b with
    | true => show All n _ (if true = true then _ else _); rw [if_pos rfl]; trivial
    | false => show All n _ (if false = true then _ else _); rw [if_neg Bool.false_ne_true]; exact asc g f (k + 1)⟩
theorem desc {n : Nat} : ∀ f {p : Array Nat} (k q : Nat), Good n p → All n (fun r => Good n r.1) (kas_desc f p k q)
  | 0, p, _, _, g => g
  | f + 1, p, k, q, g => ⟨g.lt _, g.lt _, fun b => by
    cases b with
    | true =>
      show All n _ (if true = true then _ else _)
      rw [if_pos rfl]
      by_cases hq : q > 0
      · rw [if_pos hq]; exact desc f _ _ (g.rev _ _)
      · rw [if_neg hq]; exact desc f _ _ g
    | false =>
      show All n _ (if false = true then _ else _)
      rw [if_neg Bool.false_ne_true]
      refine ⟨g.lt _, g.lt _, fun b => ?_⟩
      cases b with
      | true => show All n _ (if true = true then _ else _); rw [if_pos rfl]; exact g
      | false => show All n _ (if false = true then _ else _); rw [if_neg Bool.false_ne_true]; exact desc f _ _ g⟩
theorem tail3 {n : Nat} {p : Array Nat} (g : Good n p) (k nrem : Nat) : All n (fun r : Nat × Array Nat => Good n r.2) (kas_tail3 k nrem p) := by
  unfold kas_tail3
  exact ((asc (g.rev _ _) _ _).mono fun m _ => (show All n (fun r : Nat × Array Nat => Good n r.2) (KasT.ret (m, kas_rev p 0 k)) from g.rev _ _)).bind
theorem descPart {n : Nat} {p : Array Nat} (g : Good n p) (k nrem : Nat) : All n (fun r : Nat × Array Nat => Good n r.2) (kas_descPart k nrem p) := by
  unfold kas_descPart
  refine ((desc _ _ _ g).mono fun r hr => ?_).bind
  by_cases h : r.2.2 > 0
  · rw [if_pos h]; exact tail3 (hr.rev _ _) _ _
  · rw [if_neg h]; exact tail3 hr _ _
theorem count {n : Nat} {p : Array Nat} (g : Good n p) (nrem : Nat) : All n (fun r : Nat × Array Nat => Good n r.2) (kas_count nrem p) := by
  unfold kas_count
  refine ((asc g _ _).mono fun k _ => ?_).bind
  by_cases h : (k == nrem) = true
  · rw [if_pos h]; exact g
  · rw [if_neg h]
    by_cases h2 : k > 1
    · rw [if_pos h2]
      refine ⟨g.lt _, g.lt _, fun b => ?_⟩
      cases b with
      | true => show All n _ (if true = true then _ else _); rw [if_pos rfl]; exact g
      | false => show All n _ (if false = true then _ else _); rw [if_neg Bool.false_ne_true]; exact descPart (g.rev _ _) _ _
    · rw [if_neg h2]; exact descPart g _ _
theorem place {n : Nat} {p : Array Nat} (g : Good n p) (k : Nat) : ∀ f l r, All n (fun _ => True) (kas_place p k f l r)
  | 0, _, _ => trivial
  | f + 1, l, r => by
    unfold kas_place
    by_cases h : l ≥ r
    · rw [if_pos h]; trivial
    · rw [if_neg h]
      refine ⟨g.lt _, g.lt _, fun b => ?_⟩
      cases b with
      | true => show All n _ (if true = true then _ else _); rw [if_pos rfl]; exact place g k f _ _
      | false => show All n _ (if false = true then _ else _); rw [if_neg Bool.false_ne_true]; exact place g k f _ _
theorem bin {n : Nat} : ∀ f {p : Array Nat} (k : Nat), Good n p → All n (Good n) (kas_bin f p k)
  | 0, _, _, g => g
  | f + 1, p, k, g => ((place g k k 0 k).mono fun l _ => bin f (k + 1) (g.perm (bubble_perm _ _ _))).bind
theorem sort {n : Nat} (h : 0 < n) : All n (Good n) (kas_sort n) := by
  unfold kas_sort
  have g : Good n (List.toArray (List.range n)) := ⟨h, by simp⟩
  refine ((count g n).mono fun r hr => ?_).bind
  by_cases h : r.1 < n
  · rw [if_pos h]; exact bin _ _ hr
  · rw [if_neg h]; exact hr
section
variable {prog : Program} {w : World} {A : Around} {E : Value → Shared → Prop} {s : Shared}
def Tups (h : Heap) (vs : List Value) : Prop := ∀ v ∈ vs, ∃ a items ns, v = .ref a ∧ IsTup h a items ∧ IntsAre items.toList ns ∧ ns ≠ []
theorem firsts {M : Model} {h : Heap} : ∀ {vs : List Value}, Tups h vs → ∃ fs, fs.length = vs.length ∧ KatTups h vs fs ∧ ∀ v ∈ fs, Looks M h (typeOf v) (.type "int")
  | [], _ => ⟨[], rfl, .nil, fun v hv => by cases hv⟩
  | v :: vs, t => by
    obtain ⟨fs, h1, h2, h3⟩ := firsts (M := M) (vs := vs) fun u hu => t u (List.mem_cons_of_mem _ hu)
    obtain ⟨a, items, ns, rfl, ⟨o, g1, g2, n, g3⟩, i, ne⟩ := t v List.mem_cons_self
    cases hi : items.toList with
    | nil =>
      rw [hi] at i
      cases i
      exact absurd rfl ne
    | cons f r =>
      rw [hi] at i
      cases i with
      | cons x tk _ =>
        refine ⟨.int x tk :: fs, by simp [h1], .cons g1 g2 g3 (by rw [← Array.getElem?_toList, hi]; rfl) h2, fun u hu => ?_⟩
        rcases List.mem_cons.mp hu with rfl | hu
        · exact .now
        · exact h3 u hu
end
end Srt
namespace L2
open PySem PySem.Spec PyProof.Rows
def refV : Value → V
  | .ref b => .ref b
  | _ => .non
theorem vals_refs : ∀ {l : List Value}, (∀ u ∈ l, ∃ b, u = .ref b) → Vals (l.map refV) l
  | [], _ => .nil
  | u :: l, h => by
    obtain ⟨b, rfl⟩ := h u List.mem_cons_self
    exact .cons rfl (vals_refs fun v hv => h v (List.mem_cons_of_mem _ hv))
theorem refs_vals : ∀ {bs : List V} {l : List Value}, Vals bs l → (∀ b ∈ bs, ∃ a, b = .ref a) → bs = l.map refV ∧ ∀ u ∈ l, ∃ b, u = .ref b
  | _, _, .nil, _ => ⟨rfl, fun u hu => by cases hu⟩
  | _, _, .cons r t, h => by
    obtain ⟨a, rfl⟩ := h _ List.mem_cons_self
    cases r
    obtain ⟨e, q⟩ := refs_vals t fun b hb => h b (List.mem_cons_of_mem _ hb)
    refine ⟨by rw [List.map_cons, ← e]; rfl, fun u hu => ?_⟩
    rcases List.mem_cons.mp hu with rfl | hu
    · exact ⟨a, rfl⟩
    · exact q u hu
section
variable {X : Cx}
end
end L2
namespace L2
open PySem PySem.Spec PyProof.Rows
inductive Dt where
  | non | bl (b : Bool) | int (i : Int) | str (x : Str) | lst | dct | tup (ds : List Dt)
mutual
def Rep (K : PySem.W.Frag) (H : Hp) : Dt → V → Prop
  | .non, v => v = .non
  | .bl b, v => v = .bl b
  | .int i, v => v = .int i
  | .str x, v => v = .str x
  | .lst, v => ∃ p xs, v = .ref p ∧ SqL K H p xs
  | .dct, v => ∃ p, v = .ref p ∧ ((∃ kvs, H p = some (.dK kvs)) ∨ ∃ kvs, H p = some (.dT kvs))
  | .tup ds, v => ∃ p xs, v = .ref p ∧ SqT K H p xs ∧ RepL K H ds xs
def RepL (K : PySem.W.Frag) (H : Hp) : List Dt → List V → Prop
  | [], [] => True
  | d :: ds, x :: xs => Rep K H d x ∧ RepL K H ds xs
  | _, _ => False
end
theorem Same.tup {K : PySem.W.Frag} {H H' : Hp} {a : Addr} {xs : List V} (e : Same H H') (h : SqT K H a xs) : SqT K H' a xs := by
  rcases h with (h | ⟨o, h⟩) | h
  · exact .inl (.inl (e _ _ h))
  · exact .inl (.inr ⟨o, e _ _ h⟩)
  · exact .inr h
theorem Same.upd {H : Hp} {p : Addr} {o : HO} (h : H p = none) : Same H (L2.upd H p o) := fun b u e => by rw [upd_ne (ne_of_none e h)]; exact e
mutual
theorem Same.rep {K : PySem.W.Frag} {H H' : Hp} (e : Same H H') : ∀ {d : Dt} {v : V}, Rep K H d v → Rep K H' d v
  | .non, _, h => h
  | .bl _, _, h => h
  | .int _, _, h => h
  | .str _, _, h => h
  | .lst, _, ⟨p, xs, h1, h2⟩ => ⟨p, xs, h1, e.seq h2⟩
  | .dct, _, ⟨p, h1, h2⟩ => ⟨p, h1, h2.elim (fun hZ => (by obtain ⟨k, q⟩ := hZ; exact .inl ⟨k, e _ _ q⟩)) fun hZ => (by obtain ⟨k, q⟩ := hZ; exact .inr ⟨k, e _ _ q⟩)⟩
  | .tup _, _, ⟨p, xs, h1, h2, h3⟩ => ⟨p, xs, h1, e.tup h2, e.repL h3⟩
theorem Same.repL {K : PySem.W.Frag} {H H' : Hp} (e : Same H H') : ∀ {ds : List Dt} {xs : List V}, RepL K H ds xs → RepL K H' ds xs
  | [], [], _ => trivial
  | _ :: _, _ :: _, h => ⟨e.rep h.1, e.repL h.2⟩
  | [], _ :: _, h => h.elim
  | _ :: _, [], h => h.elim
end
structure Has (K : PySem.W.Frag) (mg : Str → Option Value) (x : Str) (st : Stmt) (ps : List Str) : Prop where
  ex : ∃ f fd, Fun K x x st f fd ∧ mg x = some (.ref f) ∧ Binds K fd ps []
section
variable {X : Cx} {e : Expr} {es : List Expr} {t : TA} {x : Str} {ps : List Str} {k : Nat} {sp : Sp} {p pos : Pos}
end
section
variable {X : Cx} {Pre : St → Hp → Prop}
end
end L2
namespace L2
open PySem PySem.Spec PyProof.Rows
structure BlkD (osc : Scope) (N : List Str) (sc : Scope) (M tgs : List Str) : Prop where
  kind : sc.kind = .function
  names : ∀ y ∈ sc.names, y.2 = .local → sc.names.lookup y.1 = some .local
  nocell : ∀ y ∈ sc.names, y.2 ≠ .cell
  free : ∀ y ∈ sc.names, y.2 = .free → osc.names.lookup y.1 = some .cell ∨ osc.names.lookup y.1 = some .free
  len : M.length = N.length
  same : ∀ p ∈ M.zip N, p.1 = p.2 ∨ p.1 = ("" : Str)
  dummy : sc.names.lookup ("" : Str) = none
  hid : ∀ x ∈ M, sc.names.lookup x ≠ some .local
  nd : (M ++ tgs).Nodup
theorem BlkD.ok {X : Cx} {osc : Scope} {N : List Str} {sc : Scope} {M tgs : List Str} (b : BlkD osc N sc M tgs) (h1 : X.env.scope = osc := by rfl) (h2 : X.N = N := by rfl) : BlkOk X sc M tgs := by
  subst h1 h2
  exact ⟨b.kind, b.names, b.nocell, b.free, b.len, b.same, b.dummy, b.hid⟩
end L2
namespace L2
open PySem PySem.Spec PyProof.Rows
section
variable {κ : Type} [DecidableEq κ]
end
end L2
namespace L2
open PySem PySem.Spec PyProof.Rows
theorem ObjOk.there {P : Program} {w : World} {H : Hp} {h : Heap} {a : Addr} {o : HO} (x : ObjOk P w H h a o) : ∃ ob, h.get? a = some ob := by
  cases o with
  | lst xs => obtain ⟨_, _, _, _, e⟩ := x; exact ⟨_, e⟩
  | tup xs => obtain ⟨_, _, _, ob, e, _⟩ := x; exact ⟨ob, e⟩
  | dK kvs => obtain ⟨_, _, _, _, o, _, _, e, _⟩ := x; exact ⟨_, e⟩
  | dT kvs => obtain ⟨_, _, _, _, o, _, _, e, _⟩ := x; exact ⟨_, e⟩
  | set S n => obtain ⟨o, _, _, _, e, _⟩ := x; exact ⟨_, e⟩
  | ins C dx fs => obtain ⟨_, _, _, e, _⟩ := x; exact ⟨_, e⟩
  | own y => exact x
  | xd fs => obtain ⟨_, ⟨_, _, _, e, _⟩, _⟩ := x; exact ⟨_, e⟩
  | rng lo hi => obtain ⟨_, _, _, e⟩ := x; exact ⟨_, e⟩
  | frz ob u => obtain ⟨e, _⟩ := x; exact ⟨_, e⟩
  | tbl ps => exact ⟨_, (show h.get? a = some _ from x)⟩
  | met f y => exact ⟨_, (show h.get? a = some _ from x)⟩
  | ext φ => obtain ⟨_, e, _⟩ := x; exact e
theorem HOk.none_of {P : Program} {w : World} {H : Hp} {h : Heap} {a : Addr} (x : HOk P w H h) (e : h.get? a = none) : H a = none := by
  cases q : H a with
  | none => rfl
  | some u =>
    obtain ⟨ob, z⟩ := (x a u q).there
    rw [e] at z; cases z
structure Veer (fs : List Addr) (ea T : Addr) (h h' : Heap) : Prop where
  keep : ∀ b o, h.get? b = some o → b ∉ fs → b ≠ ea → b ≠ T → h'.get? b = some o
  slot : ∀ b o, h.get? b = some o → b ∈ fs → ∃ sl, h'.get? b = some { o with slots := sl }
structure FlyAt (g : Heap) (H : Hp) (ea T : Addr) (cls : Value) (h : Heap) : Prop where
  obj : ∃ (oe : Obj) (vs : Array Value) (oT : Obj) (ts : Array Value) (a0 : Value), h.get? ea = some oe ∧ (oe.cls = cls ∧ vs[0]? = some a0) ∧ oe.data = .fields vs ∧ vs[1]? = some (.ref T) ∧ T ≠ ea ∧ h.get? T = some oT ∧ oT.data = .fields ts ∧ ts[3]? = some .none
  he : H ea = none
  hT : H T = none
  ge : g.get? ea = none
  gT : g.get? T = none
section
variable {P : Program} {w : World} {fs fs' ex : List Addr} {H₀ H : Hp} {g g₀ h h' base : Heap} {ea T : Addr} {cls : Value} {l l' : List Env}
theorem FlyAt.older (F : FlyAt g H ea T cls h) (k : ∀ b o, g₀.get? b = some o → ∃ o', g.get? b = some o') : FlyAt g₀ H ea T cls h := by
  refine ⟨F.obj, F.he, F.hT, ?_, ?_⟩
  · cases q : g₀.get? ea with
    | none => rfl
    | some o => obtain ⟨o', z⟩ := k _ _ q; rw [F.ge] at z; cases z
  · cases q : g₀.get? T with
    | none => rfl
    | some o => obtain ⟨o', z⟩ := k _ _ q; rw [F.gT] at z; cases z
theorem FlyAt.flyingW (F : FlyAt g H ea T cls h) (hl : h.FunFrames base l) : ∃ a0, Heap.FlyingW (PySem.W.hideAll h (ea :: T :: frs l)) l ea cls a0 h := by
  obtain ⟨oe, vs, oT, ts, a0, h1, h2, h3, h4, h5, h6, h7, h8⟩ := F.obj
  refine ⟨a0, fun b o e => PySem.W.of_hideAll _ e, PySem.W.hideAll_none _ List.mem_cons_self, PySem.W.funFrames_hide hl (fun env he a hf => ?_), oe, vs, T, oT, ts, h1, h2, h3, h4, PySem.W.hideAll_none _ (List.mem_cons_of_mem _ List.mem_cons_self), h5, h6, h7, h8⟩
  exact List.mem_cons_of_mem _ (List.mem_cons_of_mem _ (List.mem_filterMap.mpr ⟨env, he, hf⟩))
theorem fly_turn (F : FlyAt g H ea T cls h) (hl : h.FunFrames base l) (hok : HOk P w H h) (hg : ∀ b o, g.get? b = some o → ∃ o', h.get? b = some o') {a0 : Value}
    (x : Heap.FlyingW (PySem.W.hideAll h (ea :: T :: frs l)) l' ea cls a0 h') (up : h.UpToSlots h') : Veer (frs l) ea T h h' ∧ ∃ T', FlyAt g H ea T' cls h' := by
  obtain ⟨x1, x2, x3, oe, vs, T', oT, ts, y1, y2, y3, y4, y5, y6, y7, y8, y9⟩ := x
  have slot : ∀ b o, h.get? b = some o → b ∈ frs l → ∃ sl, h'.get? b = some { o with slots := sl } := fun b o e hb => by
    obtain ⟨_, o', ho', nf⟩ := hl.mem hb
    rw [e] at ho'; cases ho'
    exact up b o e nf
  refine ⟨⟨fun b o e n1 n2 n3 => x1 b o (PySem.W.hideAll_get _ e (by simp [n1, n2, n3])), slot⟩, T', ?_⟩
  have fr : H T' = none ∧ g.get? T' = none := by
    by_cases q : T' = T
    · subst q; exact ⟨F.hT, F.gT⟩
    · have nf : T' ∉ frs l := fun hb => by
        obtain ⟨_, o, ho, nf⟩ := hl.mem hb
        obtain ⟨sl, z⟩ := slot T' o ho hb
        rw [y7] at z; cases z
        exact nf ts y8
      have hn : h.get? T' = none := by
        cases z : h.get? T' with
        | none => rfl
        | some o =>
          have := PySem.W.hideAll_get (ea :: T :: frs l) z (by simp [nf, q, y6])
          rw [y5] at this; cases this
      refine ⟨hok.none_of hn, ?_⟩
      cases z : g.get? T' with
      | none => rfl
      | some o => obtain ⟨o', z'⟩ := hg _ _ z; rw [hn] at z'; cases z'
  exact ⟨⟨oe, vs, oT, ts, a0, y1, y2, y3, y4, y6, y7, y8, y9⟩, F.he, fr.1, F.ge, fr.2⟩
theorem Un.turn (u : Un fs ex H₀ H g h) (t : Veer fs' ea T h h') (ge : g.get? ea = none) (gT : g.get? T = none) (h1 : ∀ b ∈ fs, b ∈ fs') (h2 : ∀ b ∈ fs', b ∉ fs → g.get? b = none) : Un fs ex H₀ H g h' where
  keep := fun b o q n hb hx => t.keep b o (u.keep b o q n hb hx) (fun z => by rw [h2 b z hb] at q; cases q) (fun z => by rw [z, ge] at q; cases q) (fun z => by rw [z, gT] at q; cases q)
  slot := fun b o q n hb hx => by
    obtain ⟨sl, e⟩ := u.slot b o q n hb hx
    obtain ⟨sl', e'⟩ := t.slot b _ e (h1 b hb)
    exact ⟨sl', e'⟩
  free := u.free
  there := fun b o q hx => by
    obtain ⟨o', e⟩ := u.there b o q hx
    by_cases hb : b ∈ fs'
    · obtain ⟨sl, e'⟩ := t.slot b o' e hb
      exact ⟨_, e'⟩
    · exact ⟨o', t.keep b o' e hb (fun z => by rw [z, ge] at q; cases q) (fun z => by rw [z, gT] at q; cases q)⟩
  tups := u.tups
  frzs := u.frzs
  tbls := u.tbls
theorem HOk.turn (x : HOk P w H h) (t : Veer fs ea T h h') (he : H ea = none) (hT : H T = none) (hf : ∀ b ∈ fs, H b = none) : HOk P w H h' := fun a o e => by
  have ne : ∀ b, (b = a ∨ H b = some (.own a)) → H b ≠ none := fun b hb z => by
    rcases hb with rfl | hb
    · rw [z] at e; cases e
    · rw [z] at hb; cases hb
  exact (x a o e).stay (fun b u hb q => t.keep b u q (fun z => ne b hb (hf b z)) (fun z => ne b hb (z ▸ he)) (fun z => ne b hb (z ▸ hT))) (fun _ q => q) fun _ _ q => q
end
def CXr (P : Program) (w : World) : CXT := fun outer H s E e s' => ∃ ea T cls H', e = .ref ea ∧ s'.os = s.os ∧ AllBare s'.gens ∧ Un (frs outer) [] H H' s.heap s'.heap ∧ HOk P w H' s'.heap ∧ FlyAt s.heap H' ea T cls s'.heap ∧ E cls none H'
section
variable {P : Program} {w : World} {K : PySem.W.Frag} {mg : Str → Option Value} {base : Heap} {N : List Str} {qual : Str} {scope : Scope} {f : Addr} {cd : Value} {A : Around} {outer : List Env} {s : Shared} {H : Hp} {E E' : XK}
theorem frs_cons {env : Env} {L : Addr} {l : List Env} (h : env.frame = some L) : frs (env :: l) = L :: frs l := by unfold frs; rw [List.filterMap_cons, h]
theorem passes_r (himp : ∀ c d H, E' c d H → E c d H) : Passes (CXr P w) (cxOf (CXr P w) P w K mg base N qual scope f cd A outer s H E) E' := by
  intro pins σ H1 s1 e s2 I hx
  obtain ⟨ea, T, cls, H2, rfl, os, bare, un, hok, fl, e1⟩ := hx
  have I2 : Inv (cxOf (CXr P w) P w K mg base N qual scope f cd A outer s H E) pins σ H2 s2 := I.call' (ch := []) os un hok bare fun b z => absurd z (by simp)
  have fl := fl.older (g₀ := s.heap) fun b o q => I.base.there b o q (by show b ∉ []; simp)
  obtain ⟨a0, fw⟩ := fl.flyingW I2.stack
  refine wpAny_leaves_onW I2.ok.frames rfl fw fun h' x1 x2 => ?_
  obtain ⟨tn, T', fl'⟩ := fly_turn fl I2.stack hok (fun b o q => I2.base.there b o q (by show b ∉ []; simp)) x1 x2
  have e2 : frs (cxOf (CXr P w) P w K mg base N qual scope f cd A outer s H E).stack = s.heap.objs.size :: frs outer := frs_cons rfl
  refine ⟨ea, T', cls, H2, rfl, I2.os, bare, Un.turn I2.base tn fl.ge fl.gT (fun b hb => ?_) (fun b hb nb => ?_), hok.turn tn fl.he fl.hT I2.stkFree, fl', himp _ _ _ e1⟩
  · rw [e2]; exact List.mem_cons_of_mem _ hb
  · rw [e2] at hb
    rcases List.mem_cons.mp hb with rfl | hb
    · exact Heap.get?_none_of_le (Nat.le_refl _)
    · exact absurd hb nb
def tRaise (C : Addr) (E : XK) : TS := fun _ _ H => E (.ref C) none H
theorem ps_raise0 {x : Str} {C : Addr} {bm : List Value} {B newId initId : String} {np cpos pos : Pos} (O : OwnCls x C bm newId mg base) (FB : ExcBaseFacts B newId initId bm) (hh : (A.deeper (envOfC qual scope s.heap.objs.size f cd)).handled = none)
    (hg : Gl (cxOf (CXr P w) P w K mg base N qual scope f cd A outer s H E) x) (hd : (x == ("__debug__" : Str)) = false := by decide) : PS (cxOf (CXr P w) P w K mg base N qual scope f cd A outer s H E) (.Raise (some (.Call (.Name x np) [] [] cpos)) none pos) (tRaise C E) := by
  intro pins s1 σ H1 D I h
  obtain ⟨tl, N', nm, q, bs, hdct, sn, sub, ab, col, dd, k0, k1, k2, k3, k5, mN, hC, hN, hni, T⟩ := O.obj
  refine wpAny_Raise_call_subT (C := C) (nm := nm) (q := q) (N := N') (bs := bs) (bm := tl) (hdct := hdct) (sn := sn) (sub := sub) (ab := ab) (col := col) (dd := dd) (k0 := k0) (k1 := k1) (k2 := k2) (k3 := k3) (k5 := k5)
    FB (mN := mN) (T.hasType FB.hasBase) hh rfl hni (ld_glob I hg O.bound ⟨rfl, ?_⟩ hd)
  refine evalArgs_empty ⟨rfl, Nat.zero_le _, I.bk _ _ hC, hN.keeps I.bk, T.keeps I.bk, fun h' e hm => ?_⟩
  have hin : ∀ env ∈ (cxOf (CXr P w) P w K mg base N qual scope f cd A outer s H E).stack, ∀ b, env.frame = some b → b ∈ frs (cxOf (CXr P w) P w K mg base N qual scope f cd A outer s H E).stack := fun env he b hb => List.mem_filterMap.mpr ⟨env, he, hb⟩
  refine wpAny_leaves_madeW (base := PySem.W.hideAll s1.heap (frs (cxOf (CXr P w) P w K mg base N qual scope f cd A outer s H E).stack)) (h := s1.heap) I.ok.frames rfl (fun b o q => PySem.W.of_hideAll _ q) (PySem.W.funFrames_hide I.stack hin) hm fun h'' t x1 x2 x3 x4 => ?_
  obtain ⟨y1, y2, y3, oe, vs, T', oT, ts, z1, z2, z3, z4, z5, z6, z7, z8, z9⟩ := x1
  have tn : Veer (frs (cxOf (CXr P w) P w K mg base N qual scope f cd A outer s H E).stack) e T' s1.heap h'' := by
    refine ⟨fun b o q n1 _ _ => y1 b o (PySem.W.hideAll_get _ q n1), fun b o q hb => ?_⟩
    obtain ⟨_, o', ho', nf⟩ := I.stack.mem hb
    rw [q] at ho'; cases ho'
    exact x4 b o (hm.keeps b o q) nf
  have hT : s1.heap.get? T' = none := by
    have nf : T' ∉ frs (cxOf (CXr P w) P w K mg base N qual scope f cd A outer s H E).stack := fun hb => by
      obtain ⟨_, o, ho, nf⟩ := I.stack.mem hb
      obtain ⟨sl, z⟩ := tn.slot T' o ho hb
      rw [z7] at z; cases z
      exact nf ts z8
    cases z : s1.heap.get? T' with
    | none => rfl
    | some o =>
      have := PySem.W.hideAll_get _ z nf
      rw [z5] at this; cases this
  have e2 : frs (cxOf (CXr P w) P w K mg base N qual scope f cd A outer s H E).stack = s.heap.objs.size :: frs outer := frs_cons rfl
  have fl : FlyAt s.heap H1 e T' (.ref C) h'' := by
    refine FlyAt.older (g := s1.heap) ⟨⟨oe, vs, oT, ts, _, z1, z2, z3, z4, z6, z7, z8, z9⟩, I.hok.none_of hm.new, I.hok.none_of hT, hm.new, hT⟩ fun b o q => I.base.there b o q (by show b ∉ []; simp)
  refine ⟨e, T', .ref C, H1, rfl, I.os, I.bare, Un.turn I.base tn fl.ge fl.gT (fun b hb => ?_) (fun b hb nb => ?_), I.hok.turn tn fl.he fl.hT I.stkFree, fl, h⟩
  · rw [e2]; exact List.mem_cons_of_mem _ hb
  · rw [e2] at hb
    rcases List.mem_cons.mp hb with rfl | hb
    · exact Heap.get?_none_of_le (Nat.le_refl _)
    · exact absurd hb nb
end
structure OkX (P : Program) (w : World) (K : PySem.W.Frag) (mg : Str → Option Value) (base : Heap) (x : Str) (ps : List Str) (k : Nat) (sp : Sp) : Prop where
  ex : ∃ f fd, mg x = some (.ref f) ∧ PySem.W.keepIn K (.ref f) = true ∧ Binds K fd ps [] ∧ FnOk P w K mg base (CXr P w) k f fd ps sp
theorem Has.okX {P : Program} {w : World} {K : PySem.W.Frag} {mg : Str → Option Value} {base : Heap} {x : Str} {st : Stmt} {N ps : List Str} {k : Nat} {sp : Sp} (h : Has K mg x st ps) (S : FnScope N ps (defScope st)) (len : ∀ vs H Q E, sp vs H Q E → vs.length = ps.length)
    (hbody : ∀ (f : Addr) (cdv : Value) (A : Around) (outer : List Env) (s : Shared) (H : Hp) (vs : List V) (Q : VK) (E : XK), Room k (A.deeper (envOfC x (defScope st) s.heap.objs.size f cdv)) → sp vs H Q E →
      ∃ t, PSs (cxOf (CXr P w) P w K mg base N x (defScope st) f cdv A outer s H E) (defBody st) t ∧ t { nx := fun _ H' => Q .non H', rt := Q } (start N vs) H) : OkX P w K mg base x ps (k + 1) sp := by
  obtain ⟨f, fd, F, hm, hb⟩ := h.ex
  obtain ⟨oc, od, kV, doc, pm, an, cdv, ct, osl, rfl, lk, hcd⟩ := F.ex
  exact ⟨f, _, hm, F.kp, hb, fn_of lk hcd S len fun A outer s H vs Q E hr hsp => hbody f cdv A outer s H vs Q E hr hsp⟩
section
variable {X : Cx} {e : Expr} {es : List Expr} {t : TA} {x : Str} {ps : List Str} {k : Nat} {sp : Sp} {p pos : Pos}
end
end L2
namespace L2
open PySem PySem.Spec PyProof.Rows
def excO (ea C : Addr) : HO := .ext fun h => ∃ o, h.get? ea = some o ∧ o.cls = .ref C
end L2
namespace L2
open PySem PySem.Spec PyProof.Rows
section
variable {X : Cx}
end
end L2
namespace EnT
open PySem PySem.Spec PyProof.Rows
open AutoSeq1 (wpAny_loadPart')
section
variable {prog : Program} {w : World} {A : Around} {E : Value → Shared → Prop} {s : Shared}
end
end EnT
namespace L2
open PySem PySem.Spec PyProof.Rows
section
variable {X : Cx}
end
end L2
namespace XK
open PySem PySem.W PySem.Spec PySem.Calls PyProof.Rows PySem.Builtin PySem.Builtin.ObjectAttr PySem.Builtin.Getset_descriptor
section
variable {prog : Program} {w : World} {A : Around} {E : Value → Shared → Prop} {h : Heap} {g : Array GenState} {d : Drawn} {t : Nat} {os : OsState} {a : Addr} {o : Obj} {C : Addr} {K : Frag}
end
end XK
namespace L2
open PySem PySem.Spec PyProof.Rows
section
variable {X : Cx} {e : Expr} {te : TE} {x : Str} {p1 p2 pos : Pos}
end
end L2
namespace L2
open PySem PySem.Spec PyProof.Rows
section
variable {X : Cx}
theorem ps_compSet {elt tg iter : Expr} {ifs : List Expr} {sc : Scope} {M tgs : List Str} {pos : Pos} {wi : TI} {g : TG} {tt : TT} {te : TE} {j : Nat} {y : Str} {py spos : Pos} (hc : X.calm = true) (B : BlkOk X sc M tgs) (hi : PI X tg iter wi)
    (hg : ∀ cl C fp s H, PG (blk X sc cl C fp s H (M ++ tgs)) tg g) (ht : ∀ cl C fp s H, PIfs (blk X sc cl C fp s H (M ++ tgs)) ifs tt) (he : ∀ cl C fp s H, PE (blk X sc cl C fp s H (M ++ tgs)) elt te)
    (hN : X.N.Nodup) (hjy : X.N[j]? = some y) (hy : X.env.scope.names.lookup y = some .local) (hsw : swapsWith (.ListComp elt [⟨tg, iter, ifs, 0⟩] sc pos) (some (.Name y py)) spos.line X.env = pure true := by rfl)
    (hs : ∀ x, foldedSetIterable iter X.env x = pure x := by intro _; rfl) : PS X (.Assign [.Name y py] (.ListComp elt [⟨tg, iter, ifs, 0⟩] sc pos) spos) (tAsg (tComp wi tgs.length g tt te) (gName j)) := by
  intro pins s σ H Dn I h
  let Q : VK := fun x H1 => Dn.nx (σ.set j (some x)) H1
  have h : tComp wi tgs.length g tt te σ H Q := h
  have hfr : ∀ y ∈ sc.names, y.2 = .free → ∃ c, X.env.cells.lookup y.1 = some c := fun y hy e => I.ok.has _ (B.free y hy e)
  have hsub : ∀ x c, (clF X.env sc.names []).lookup x = some c → X.env.cells.lookup x = some c := clF_sub sc.names [] hfr fun _ _ z => by simp at z
  rw [exec_Assign_Name_used _ _ _ _ hsw]
  refine wpAny_bind (wpAny_standAt (wpAny_bind ?_))
  show wpAny _ X.A (do let _ ← comprehension (.ListComp elt [⟨tg, iter, ifs, 0⟩] sc pos) sc X.env _ (newList []) false (eval iter X.env) (some (assign (.Name y py) X.env))) _ _ s
  refine wpAny_bind (wpAny_mono (wpAny_comprehension_free (use := some (assign (.Name y py) X.env)) (Q := fun _ s' => SP X pins Dn .next s') rfl hs (closure_eq hfr) B.kind B.names (thn (hi pins s σ H _ I h) fun xv s₁ h₁ => thn h₁ fun itv s₂ h₂ => ?_)) (fun _ s' hq => wpAny_pure (wpAny_pure hq)) fun _ _ e => e)
  obtain ⟨it, fp, tn, J, H2, rfl, I2, T, st2, f2, W, ⟨m0, w0⟩, turn⟩ := h₂
  have hfl : ∀ b ∈ fp, b < s₂.heap.objs.size := fun b hb => by
    obtain ⟨o, e, _⟩ := T.obj _ _ st2 b hb
    exact Heap.lt_size e
  refine wpAny_newObj_type (wpAny_newFunctionEnv B.nocell (by intro y hy; simp at hy) (fun h₁ hns₁ hsb₁ => ?_) B.kind)
  dsimp only at hns₁ hsb₁ ⊢
  generalize hH2 : s₂.heap.push { cls := .type "list", dict := none, data := .seq ([] : List Value).toArray } = HH at hns₁ hsb₁ ⊢
  have hC : HH.objs.size = s₂.heap.objs.size + 1 := by rw [← hH2, Heap.size_push]
  generalize hCC : HH.objs.size = C at hC hns₁ hsb₁ ⊢
  generalize hDD : s₂.heap.objs.size = D at hC ⊢
  have hDC : D ≠ C := by omega
  have below : ∀ b, b < D → b ≠ C ∧ b ≠ D := fun b hb => ⟨by omega, by omega⟩
  have old : ∀ b o, s₂.heap.get? b = some o → h₁.get? b = some o := fun b o e => hsb₁.extBut b o (below b (hDD ▸ Heap.lt_size e)).1 (Heap.get?_push_of_some _ (hH2 ▸ Heap.get?_push_of_some _ e))
  have hacc : h₁.PlainList D #[] := ⟨_, hsb₁.extBut _ _ hDC (Heap.get?_push_of_some _ (by rw [← hH2, ← hDD]; exact Heap.get?_push_size _ rfl))⟩
  have hCs : s₂.heap.objs.size ≤ C := by omega
  generalize hS4 : ({ s₂ with heap := h₁, toks := s₂.toks + ([] : List (Str × Value)).length } : Shared) = s₄
  have I4 : Inv (blk X sc (clF X.env sc.names []) C fp s₂ H2 (M ++ tgs)) [] (σ ++ List.replicate tgs.length none) H2 s₄ :=
    I2.blk B f2 hfl hCs (by rw [← hS4]; exact hns₁) (by rw [← hS4]; exact old) (by rw [← hS4]) (by rw [← hS4])
  have hD4 : s₄.heap.PlainList D #[] := by rw [← hS4]; exact hacc
  have st4 : tn 0 s₄.heap := by rw [← hS4]; exact T.keep _ _ _ st2 fun b _ o e => old b o e
  -- what holds through the loop
  let X' := blk X sc (clF X.env sc.names []) C fp s₂ H2 (M ++ tgs)
  have nfs : ∀ b, s₂.heap.objs.size ≤ b → b ∉ frs X.stack := fun b hb z => by
    rcases List.mem_cons.mp (I2.stkSub b z) with q | q
    · rw [q] at hb; exact absurd I2.lt (Nat.not_lt.mpr hb)
    · exact I2.nofs hb q
  have Dpin : ∀ {s' : Shared} {H' : Hp} {its : Array Value} {n : Nat}, s'.heap.get? D = some { cls := .type "list", data := .seq its n } → H' D = none →
      ∀ p ∈ [(D, ({ cls := .type "list", data := .seq its n } : Obj))], s'.heap.get? p.1 = some p.2 ∧ H' p.1 = none ∧ p.1 ≠ X'.env.locals ∧ p.1 ∉ X'.fs ∧ ∀ v, p.2.data ≠ .cell v := fun {s' H' its n} e hn p hp => by
    have e1 : p = (D, ({ cls := .type "list", data := .seq its n } : Obj)) := by simpa using hp
    subst e1
    exact ⟨e, hn, hDC, nfs D (by omega), fun v z => by cases z⟩
  have fpk : ∀ {pl : List (Addr × Obj)} {H' : Hp}, (∀ p ∈ pl, p.1 = D) → (∀ b ∈ fp, H' b = none) → ∀ b ∈ fp, FpOk X' pl H' b := fun {pl H'} hpl hn b hb => by
    refine ⟨hn b hb, (below b (hDD ▸ hfl b hb)).1, fun z => ?_, .inl hb, fun x c e => (f2 b hb).2.2.2.2.1 x c (hsub x c e), fun p hp => ?_⟩
    · rcases List.mem_cons.mp (I2.stkSub b z) with q | q
      · exact (f2 b hb).2.1 q
      · exact (f2 b hb).2.2.1 q
    · have hp' : p ∈ pl := by simpa [X', blk] using hp
      rw [hpl p hp']
      exact Ne.symm (below b (hDD ▸ hfl b hb)).2
  have cellD : ∀ x c, X'.env.cells.lookup x = some c → c ≠ D := fun x c e z => by
    obtain ⟨v, q⟩ := I2.cell x c (hsub x c e)
    have q := q.lt
    rw [z, hDD] at q
    exact Nat.lt_irrefl _ q
  have loop : codeAny (model X.prog X.w) X.A (.compLoop (.ListComp elt [⟨tg, iter, ifs, 0⟩] sc pos) 0 (.ref it) (.ref D) (compEnvC sc (clF X.env sc.names []) C X.env))
      (compPost (model X.prog X.w) X.A X.xe (some (assign (.Name y py) X.env)) (fun _ s' => SP X pins Dn .next s') (.ref D) C) s₄ := by
    refine compLoop_gen (fun n s' => ∃ i ys its k H', Inv X' [(D, { cls := .type "list", data := .seq its k })] (σ ++ List.replicate tgs.length none) H' s' ∧ Vals ys its.toList ∧ tn i s'.heap ∧ (∀ b ∈ fp, H' b = none) ∧ W i n ys H') ?_ m0 ?_
    · rintro n s5 ⟨i, ys, its, k, H5, I5, hv, st5, fr5, w5⟩
      obtain ⟨hz, w5⟩ := turn i n ys H5 w5
      have hD5 := I5.pin (D, { cls := .type "list", data := .seq its k }) (List.mem_append_right _ (by simp))
      have one : ∀ p ∈ [(D, ({ cls := .type "list", data := .seq its k } : Obj))], p.1 = D := fun p hp => by
        have : p = (D, ({ cls := .type "list", data := .seq its k } : Obj)) := by simpa using hp
        rw [this]
      rcases w5 with ⟨stop, qn⟩ | ⟨go, step⟩
      · refine thn (T.done X' rfl rfl rfl hc i _ s5 _ H5 _ I5 (fpk one fr5) st5 stop) fun r s6 ⟨hr, I6⟩ => ?_
        subst hr
        obtain ⟨m6, hn6, _⟩ := I6.loc
        have hn6 : s6.heap.Ns C m6 := hn6
        obtain ⟨e6, n6, _⟩ := I6.pin (D, { cls := .type "list", data := .seq its k }) (List.mem_append_right _ (by simp))
        have hC6 : H5 C = none := I6.free
        have hln : ys.length ≤ sizeLine := hz
        have ok8 : HOk X.prog X.w (upd H5 D (.lst ys)) s6.heap := I6.hok.track n6 ⟨hln, its.toList, k, hv, by simpa using e6⟩
        have un : Un (frs X.stack) fp H2 H5 s₂.heap s6.heap := I6.base
        have neC : ∀ b o, s₂.heap.get? b = some o → b ≠ C ∧ b ≠ D := fun b o e => below b (hDD ▸ Heap.lt_size e)
        have un7 : Un (frs X.stack) fp H2 (upd H5 D (.lst ys)) s₂.heap s6.heap := by
          refine ⟨un.keep, un.slot, fun b o e n hx => ?_, un.there, fun b xs e => ?_, fun b o u e => ?_, fun b ps e => ?_⟩
          · rw [upd_ne (neC b o e).2]; exact un.free b o e n hx
          · have q := un.tups b xs e
            rw [upd_ne (ne_of_none q n6)]; exact q
          · have q := un.frzs b o u e
            rw [upd_ne (ne_of_none q n6)]; exact q
          · obtain ⟨more, q⟩ := un.tbls b ps e
            exact ⟨more, by rw [upd_ne (ne_of_none q n6)]; exact q⟩
        have I8 : Inv X pins σ (upd H5 D (.lst ys)) s6 := I2.call' (ch := fp) I6.os un7 ok8 I6.bare (fun b hb => ⟨(f2 b hb).2.2.2.1, (f2 b hb).2.1, (f2 b hb).2.2.2.2.1, (f2 b hb).2.2.2.2.2⟩)
        have hLC : X.env.locals < C := Nat.lt_of_lt_of_le I2.lt hCs
        have hcC : ∀ x c, X.env.cells.lookup x = some c → c ≠ C := fun x c e z => by
          obtain ⟨v, q⟩ := I2.cell x c e
          have q := q.lt
          rw [z] at q
          exact absurd q (Nat.not_lt.mpr hCs)
        show wpAny _ _ (assign (.Name y py) X.env (.ref D)) _ _ _
        refine wpAny_assign_Name (store_ok2 I8 hN hjy (.inl hy) (v := .ref D) rfl (fun s9 I9 hsb => ?_) (.inr hy))
        obtain ⟨a, sb, ha⟩ := hsb
        have haC : C ≠ a := by
          rcases ha with rfl | ha
          · exact Nat.ne_of_gt hLC
          · exact Ne.symm (hcC _ _ ha)
        refine ⟨m6, hn6.sameBut sb haC, fun h' hs' => ⟨_, upd H5 D (.lst ys), I9.turned (t' := s9.toks) (it := C) (fun b o hb e => (hs'.2 b hb).trans e) (by rw [upd_ne (Ne.symm hDC)]; exact hC6) (Nat.ne_of_gt hLC) (.inr (Nat.le_trans I2.sz hCs)) hcC (fun p hp z => ?_), qn D n6⟩⟩
        have := Heap.lt_size (I2.pin p hp).1
        rw [z] at this
        exact absurd this (Nat.not_lt.mpr hCs)
      · refine thn (T.item X' rfl rfl rfl hc i _ s5 _ H5 _ I5 (fpk one fr5) st5 go) fun r s6 ⟨u, hr, h6⟩ => ?_
        subst hr
        refine thn h6 fun _ s7 ⟨x, H7, I7, r7, y7, st7, fr7⟩ => ?_
        have I7' := I7.pinned (fpk one fr7) (T.obj _ _ st7)
        refine thn (hg _ _ _ _ _ _ s7 _ H7 x u _ I7' r7 (step x H7 y7)) fun _ s8 ⟨σ8, H8, I8, tk8, q8⟩ => ?_
        refine thn (ht _ _ _ _ _ _ s8 σ8 H8 _ I8 q8) fun b s9 ⟨H9, I9, q9⟩ => ?_
        -- the turn's end, from a state in which nothing but the list has changed
        have weak : ∀ {pl : List (Addr × Obj)} {H' : Hp} {s' : Shared}, Inv X' pl σ8 H' s' → Inv X' pl (σ ++ List.replicate tgs.length none) H' s' := fun {pl H' s'} J => J.weak (by
          have e1 : σ8.length = (M ++ tgs).length := J.len
          rw [e1, List.length_append, List.length_append, List.length_replicate, B.len, I2.len]) (st_back tk8)
        have fin : ∀ {H' : Hp} {s' : Shared}, Inv X' ([(D, { cls := .type "list", data := .seq its k })] ++ pinsAt fp s7.heap) σ8 H' s' → tn (i + 1) s'.heap ∧ ∀ b ∈ fp, H' b = none := fun {H' s'} J => by
          refine ⟨T.keep _ _ _ st7 fun b hb o e => (J.pin (b, o) (List.mem_append_right _ (List.mem_append_right _ (mem_pinsAt hb e)))).1, fun b hb => ?_⟩
          obtain ⟨o, e, d⟩ := T.obj _ _ st7 b hb
          exact (J.pin (b, o) (List.mem_append_right _ (List.mem_append_right _ (mem_pinsAt hb e)))).2.1
        cases b with
        | false =>
          rw [if_neg Bool.false_ne_true] at q9 ⊢
          obtain ⟨m', hm, w9⟩ := q9
          exact ⟨m', hm, i + 1, ys, its, k, H9, weak I9.unpinned, hv, (fin I9).1, (fin I9).2, w9⟩
        | true =>
          rw [if_pos rfl] at q9 ⊢
          refine thn (he _ _ _ _ _ _ s9 σ8 H9 _ I9 q9) fun y s10 ⟨yv, H10, I10, r10, q10⟩ => ?_
          obtain ⟨m', hm, w10⟩ := q10
          obtain ⟨e10, n10, _⟩ := I10.pin (D, { cls := .type "list", data := .seq its k }) (List.mem_append_right _ (List.mem_append_left _ (by simp)))
          have hsz : its.size ≤ sizeLine := by
            have e1 := hv.length
            have e2 : its.toList.length = its.size := by simp
            omega
          refine wpAny_list_append_plain (hsz := hsz) ⟨k, e10⟩ fun h11 hl11 hs11 => ?_
          obtain ⟨k', e11⟩ := hl11
          have J0 : Inv X' [] σ8 H10 s10 := I10.pins_of fun p hp => by simp at hp
          have J1 : Inv X' [] σ8 H10 { s10 with heap := h11 } := J0.turned (t' := s10.toks) (it := D) (fun b o hb e => (hs11.2 b hb).trans e) n10 hDC (.inr (by show s₂.heap.objs.size ≤ D; omega)) cellD (fun p hp => by
            have hp' : p ∈ ([] : List (Addr × Obj)) := by simpa [X', blk] using hp
            simp at hp')
          have J2 : Inv X' [(D, { cls := .type "list", data := .seq (its.push y) k' })] σ8 H10 { s10 with heap := h11 } := J1.pins_of (Dpin e11 n10)
          refine ⟨m', hm, i + 1, ys ++ [yv], its.push y, k', H10, weak J2, ?_, ?_, (fin I10).2, w10⟩
          · rw [Array.toList_push]
            exact hv.append (.cons r10 .nil)
          · refine T.keep _ _ _ (fin I10).1 fun b hb o e => (hs11.2 b ?_).trans e
            exact (below b (hDD ▸ hfl b hb)).2
    · obtain ⟨k, e⟩ := hD4
      exact ⟨0, [], #[], k, H2, I4.pins_of (Dpin e (I2.hok.fresh (by omega))), .nil, st4, fun b hb => (f2 b hb).1, w0⟩
  exact codeAny_compStart_list loop (T.self _ _ _ _ _ st4 loop)
end
end L2
namespace L2
open PySem PySem.Spec PyProof.Rows
section
variable {X : Cx}
def rSortI (K : PySem.W.Frag) : List V → Hp → (V → Hp → Prop) → Prop := fun xs H Q => ∃ (p : Addr) (ns : List Int), xs = [V.ref p] ∧ SqL K H p (ns.map V.int) ∧ ns.length < 64 ∧
  ∀ l (ms : List Int), H l = none → List.Perm ms ns → ms.Pairwise (· ≤ ·) → Q (.ref l) (upd H l (.lst (ms.map V.int)))
theorem vals_ofInts {us : List Value} {ns : List Int} (h : IntsAre us ns) : Vals (ns.map V.int) us := by
  induction h with
  | nil => exact .nil
  | cons a t _ ih => exact .cons ⟨t, rfl⟩ ih
theorem call_sortedI : CallR X (.builtin "sorted") (rSortI X.K) := by
  intro pins s σ H xs us Q I r h
  obtain ⟨p, ns, rfl, hq, h64, q⟩ := h
  obtain ⟨u, rfl, ru⟩ := vals1 r
  cases ru
  obtain ⟨its, rv, pl, hz⟩ := I.list hq
  have hlen := rv.length
  rw [List.length_map] at hlen
  refine sorted_ints pl.isList (intsAre_of rv) (by omega) fun out ms hi hp hs => ?_
  have hf : H (s.heap.objs.size + 1) = none := I.hok.fresh (Nat.le_succ _)
  obtain ⟨e, he⟩ := sortedAll_at s.heap its out
  refine ⟨.ref (s.heap.objs.size + 1), upd H (s.heap.objs.size + 1) (.lst (ms.map V.int)), I.laid (t' := s.toks) (fun b o => sortedAll_old) (Nat.le_succ _) ⟨?_, out.toList, e, vals_ofInts hi, by simpa using he⟩, rfl, q _ _ hf hp hs⟩
  rw [List.length_map, hp.length_eq]
  rwa [List.length_map] at hz
def rListR : List V → Hp → (V → Hp → Prop) → Prop := fun xs H Q => ∃ (p : Addr) (lo hi : Int), xs = [V.ref p] ∧ H p = some (.rng lo hi) ∧ -(2 ^ 62) ≤ lo ∧ lo < 2 ^ 62 ∧ -(2 ^ 62) ≤ hi ∧ hi < 2 ^ 62 ∧ (hi - lo).toNat ≤ 1000 ∧
  ∀ l, H l = none → Q (.ref l) (upd H l (.lst ((List.range (hi - lo).toNat).map fun k => V.int (lo + (k : Nat)))))
theorem vals_of_get : ∀ {xs : List V} {us : List Value}, xs.length = us.length → (∀ (i : Nat) (x : V) (u : Value), xs[i]? = some x → us[i]? = some u → RelV x u) → Vals xs us
  | [], [], _, _ => .nil
  | x :: xs, u :: us, h, q => .cons (q 0 x u rfl rfl) (vals_of_get (by simpa using h) fun i x' u' h1 h2 => q (i + 1) x' u' (by simpa using h1) (by simpa using h2))
  | [], _ :: _, h, _ => by simp at h
  | _ :: _, [], h, _ => by simp at h
theorem call_listR (hc : X.calm = true) : CallR X (.type "list") rListR := by
  intro pins s σ H xs us Q I r h
  obtain ⟨p, lo, hi, rfl, hp, h1, h2, h3, h4, hn, q⟩ := h
  obtain ⟨u, rfl, ru⟩ := vals1 r
  cases ru
  obtain ⟨t, u, v, e⟩ := (show ObjOk X.prog X.w H s.heap p (.rng lo hi) from I.hok p _ hp)
  have hsz : Builtin.Range.rangeSize lo hi 1 = ((hi - lo).toNat : Nat) := by rw [rangeSize_one]; split <;> omega
  refine call_list_range (n := (hi - lo).toNat) (I.ok.hd hc) (show IsRange s.heap p lo hi 1 t u v from e) (small_one h1 h2 h3 h4) hsz (by omega) fun h' tk acc c hk hS hacc => ?_
  have hf : H s.heap.objs.size = none := I.hok.fresh (Nat.le_refl _)
  refine ⟨.ref s.heap.objs.size, _, I.laid (o := .lst ((List.range (hi - lo).toNat).map fun k => V.int (lo + (k : Nat)))) hk (Nat.le_refl _) ⟨?_, acc.toList, c, vals_of_get ?_ ?_, by simpa using hS⟩, rfl, q _ hf⟩
  · rw [List.length_map, List.length_range]; exact Nat.le_of_lt (small1000 hn)
  · rw [List.length_map, List.length_range, Array.length_toList, hacc.1]
  · intro i x w hx hw
    rw [List.getElem?_map] at hx
    obtain ⟨k, hk', rfl⟩ := Option.map_eq_some_iff.mp hx
    have ek : i = k := by
      rw [List.getElem?_eq_some_iff] at hk'
      obtain ⟨z, e⟩ := hk'
      simpa using e
    subst ek
    obtain ⟨t', rfl⟩ := hacc.2 i w (by simpa using hw)
    refine ⟨t', ?_⟩
    rw [Int.mul_one]
end
end L2
namespace St2
open PySem PyProof.Rows
abbrev kinds (ns : List Int) (k : Nat) : List Int := firstMet (fun j => ns.getD j 0) k
abbrev newS (led : Bool) : Obj := { cls := .type "set", dict := none, data := .set #[] 0 (.fresh 0 0 led) }
section
variable {prog : Program} {w : World} {A : Around} {E : Value → Shared → Prop} {s : Shared}
theorem set_tuple {a : Addr} {its : Array Value} {ns : List Int} {Q : Value → Shared → Prop} (calm : A.handled = none) (tu : IsTup s.heap a its) (inz : IntsAre its.toList ns) (few : its.size + 1 < scanBound)
    (q : ∀ (h' : Heap) (tk : Nat), h'.SetOf (intKind prog w) s.heap.objs.size (fun x => (kinds ns its.size).any (· == x)) (kinds ns its.size).length → (∀ b o, b < s.heap.objs.size → s.heap.get? b = some o → h'.get? b = some o) → Q (.ref s.heap.objs.size) { s with heap := h', toks := tk }) :
    wpAny (model prog w) A (call (.type "set") [.ref a]) Q E s := by
  obtain ⟨c0, tl0, mro0⟩ := F.called_set.mro
  have m1 := F.called_set.made
  have m2 := F.called_set.sub
  have m3 := F.called_set.notType
  have m4 := F.called_set.canCreate
  have m5 := F.typeCall_set_1 (.ref a)
  refine wpAny_call (codeAny_of_tree ?_)
  show wpAny _ _ (callAny (.type "set") _) _ _ _
  refine wpAny_pure ⟨Code.quiet_builtin _ (by decide +kernel), codeAny_builtin F.entry_type_call ?_⟩
  rw [Around.under_plain (weight_type_call_type "set" [.ref a] []) rfl]
  repeat (any_goals (first | assumption | wp_step))
  refine codeAny_mono (code_set_new_1 (.ref a) (E := E) (Q₁ := fun ob t1 => ∃ led : Bool, ob = .ref s.heap.objs.size ∧ t1 = { s with heap := s.heap.push (newS led) }) fun led => ⟨led, rfl, rfl⟩) fun res t1 hres => ?_
  cases res with
  | error x => exact hres
  | ok fl =>
    cases fl with
    | next => exact hres.elim
    | brk => exact hres.elim
    | cont => exact hres.elim
    | ret ob =>
      obtain ⟨led, rfl, rfl⟩ := hres
      have atS : (s.heap.push (newS led)).get? s.heap.objs.size = some (newS led) := Heap.get?_push_size _ rfl
      have tyS : Shared.TypeIs { s with heap := s.heap.push (newS led) } (.ref s.heap.objs.size) "set" := ⟨_, atS, rfl⟩
      have i1 := F.called_set.init.lookup
      have i2 := F.called_set.init.bind (.ref s.heap.objs.size)
      repeat (any_goals (first | assumption | wp_step))
      refine codeAny_mono (codeAny_call_builtin (R := wants (fun r t2 => r = .none ∧ ∃ h' tk, t2 = { s with heap := h', toks := tk } ∧ h'.SetOf (intKind prog w) s.heap.objs.size (fun x => (kinds ns its.size).any (· == x)) (kinds ns its.size).length ∧
          (∀ b o, b < s.heap.objs.size → s.heap.get? b = some o → h'.get? b = some o)) E) F.called_set.init.plain F.entry_set_init (check_set_init_1 tyS ?_)) fun r2 t2 hr2 => ?_
      · obtain ⟨⟨k1, k2, k3, k4⟩, e0, e1, n0, e2⟩ := id tu
        simp only at e1 e2
        subst e1 e2
        have e0' : (s.heap.push (newS led)).get? a = some ⟨.type "tuple", k2, .seq its n0, k4⟩ := Heap.get?_push_of_some _ e0
        have j1 := F.sub_tuple_set
        have j2 := F.sub_tuple_frozenset
        have j3 : (Value.type "tuple" == Value.type "dict") = false := by decide
        have tu1 : IsTup (s.heap.push (newS led)) a its := ⟨_, e0', rfl, n0, rfl⟩
        unfold Builtin.«set.__init__» noKeywords Builtin.Frozenset.updateFrom
        generalize hPy : pyIter = PY
        wp_walk
        subst hPy
        refine wpAny_pyIter_tuple (show (s.heap.push (newS led)).IsTuple a its from tu1) ?_
        refine wpAny_bind (wpAny_runValue ?_)
        have lt : a < s.heap.objs.size := Heap.lt_size e0
        have calm3 : A.in1.in1.in1.handled = none := by simp [calm]
        have ne1 : a ≠ (s.heap.push (newS led)).objs.size := by rw [Heap.size_push]; exact Nat.ne_of_lt (Nat.lt_succ_of_lt lt)
        have out : s.heap.objs.size ∉ [(s.heap.push (newS led)).objs.size, a] := by
          rw [Heap.size_push]
          simp only [List.mem_cons, List.not_mem_nil, or_false, not_or]
          exact ⟨Nat.ne_of_lt (Nat.lt_succ_self _), Nat.ne_of_gt lt⟩
        refine codeAny_set_update_loopS ((Walks.tuple calm3 _ a ne1 its).toS) s.heap.objs.size out (fun j => ns.getD j 0) (fun i v hv => IntsAre.int_at inz i v (by rw [Array.getElem?_toList]; exact hv)) few (its.size - 0) 0 _ (by omega) (Nat.zero_le _) ⟨⟨_, Heap.get?_push_size _ rfl, rfl, rfl⟩, ?T⟩ ?S ?R
        case T => exact ⟨_, Heap.get?_push_of_some _ e0', rfl, n0, rfl⟩
        case S => exact SetOf_congr ((setObjOf_fresh (knd := intKind prog w) led).setOf (Heap.get?_push_of_some _ atS) (by unfold scanBound; omega)) (fun _ => rfl) rfl
        case R =>
          rintro ⟨h', g', d', tk', os'⟩ mv st
          have w1 : g' = s.gens := mv.gens
          have w2 : d' = s.drawn := mv.drawn
          have w3 : os' = s.os := mv.os
          subst w1 w2 w3
          refine wpAny_pure ?_
          show wpAny _ _ (ret Value.none) _ _ _
          refine wpAny_pure ⟨rfl, h', tk', rfl, st, fun b o lb e => mv.heap b o ?_ (Heap.get?_push_of_some _ (Heap.get?_push_of_some _ e))⟩
          rw [Heap.size_push]
          simp only [List.mem_cons, List.not_mem_nil, or_false, not_or]
          exact ⟨Nat.ne_of_lt lb, Nat.ne_of_lt (Nat.lt_succ_of_lt lb)⟩
      · cases r2 with
        | error x => exact hr2
        | ok f2 =>
          cases f2 with
          | ret r =>
            obtain ⟨rfl, h', tk, rfl, st, kp⟩ := hr2
            repeat (any_goals (first | assumption | wp_step))
            exact q _ _ st kp
          | next => exact hr2.elim
          | brk => exact hr2.elim
          | cont => exact hr2.elim
end
end St2
namespace L2
open PySem PySem.Spec PyProof.Rows
section
variable {X : Cx}
def rLenSet : List V → Hp → VK → Prop := fun xs H Q => ∃ (p : Addr) (S : Int → Bool) (n : Nat), xs = [V.ref p] ∧ H p = some (.set S n) ∧ n ≤ 1000 ∧ Q (.int (n : Nat)) H
theorem call_lenSet : CallR X (.builtin "len") rLenSet := by
  intro pins s σ H xs us Q I r h
  obtain ⟨p, S, n, rfl, hp, hn, q⟩ := h
  obtain ⟨u, rfl, ru⟩ := vals1 r
  cases ru
  obtain ⟨o, es, ep, t, ho, ex, hd, _, _, _, hf, rfl⟩ := (show s.heap.SetOf (intKind X.prog X.w) p S n from I.hok p _ hp)
  exact call_len_set ho ex hd hf (by omega) ⟨.int (es.size : Nat), H, I.tok _, ⟨_, rfl⟩, q⟩
end
end L2
namespace St2
open PySem PyProof.Rows
theorem take_map (ns : List Int) : ∀ i, i ≤ ns.length → (List.range i).map (fun j => ns.getD j 0) = ns.take i
  | 0, _ => rfl
  | i + 1, h => by
    have hi : i < ns.length := by omega
    rw [List.range_succ, List.map_append, take_map ns i (by omega), List.take_add_one, List.getElem?_eq_getElem hi]
    simp [hi]
end St2
namespace Tr2
open PySem PyProof.Rows
section
variable {prog : Program} {w : World} {A : Around} {E : Value → Shared → Prop} {s : Shared}
theorem gather0 {R : Result → Shared → Prop} {r : Addr} {a b : Int} {t u v : Tok} {k : Nat} (calm : A.handled = none) (rg : IsRange s.heap r a b 1 t u v) (sm : Builtin.Range.small a b 1 = true) (sz : Builtin.Range.rangeSize a b 1 = k) (few : k ≤ 1000)
    (q : ∀ (h' : Heap) (tk : Nat) (acc : Array Value) (c0 : Nat), (∀ x o, s.heap.get? x = some o → h'.get? x = some o) → h'.get? s.heap.objs.size = some { cls := .type "list", dict := none, data := .seq acc c0, slots := #[] } → ItemsOf (fun i v => ∃ t, v = .int (a + i * 1) t) acc k → R (.ok (.ret (.ref s.heap.objs.size))) { s with heap := h', toks := tk }) :
    codeAny (model prog w) A (.builtin "proto.collect" ⟨[.ref r], []⟩) R s := by
  refine (codeAny_builtin PySem.F.entry_proto_collect ?_)
  rw [(Around.under_plainId PySem.F.plain_proto_collect _)]
  show wpAny _ A.in1 (newList [] >>= fun l => again (.builtin "list.__iadd__" ⟨[l, .ref r], []⟩)) (_) _ s
  refine wpAny_bind (wpAny_newObj_type (wpAny_pure ⟨plainId_quiet PySem.F.plain_list_iadd _, codeAny_builtin PySem.F.entry_list_iadd ?_⟩))
  rw [(Around.under_plainId PySem.F.plain_list_iadd _)]
  have at_ : (s.heap.push { cls := .type "list", data := .seq ([] : List Value).toArray }).get? s.heap.objs.size = some { cls := .type "list", data := .seq #[] 0 } := Heap.get?_push_size _ rfl
  show wpAny _ A.in1 (Builtin.List.listExtendWith (.ref s.heap.objs.size) (.ref r) (.ref s.heap.objs.size)) (_) _ _
  exact wpAny_extend_range (A := A) (R := R) (s := { s with heap := s.heap.push { cls := .type "list", data := .seq ([] : List Value).toArray } }) calm (Heap.get?_push_of_some _ rg) sm sz (by omega) s.heap.objs.size (.ref s.heap.objs.size) 0 at_ fun h' tk acc c0 kp hS it =>
    q h' tk acc c0 (fun x o e => kp x o (Nat.ne_of_lt (Heap.lt_size e)) (Heap.get?_push_of_some _ e)) hS it
theorem gather {Q : List Value → Shared → Prop} {r : Addr} {a b : Int} {t u v : Tok} {k : Nat} (calm : A.handled = none) (rg : IsRange s.heap r a b 1 t u v) (sm : Builtin.Range.small a b 1 = true) (sz : Builtin.Range.rangeSize a b 1 = k) (few : k ≤ 1000)
    (q : ∀ (h' : Heap) (tk : Nat) (acc : Array Value), s.heap.objs.size < h'.objs.size → (∀ x o, s.heap.get? x = some o → h'.get? x = some o) → ItemsOf (fun i v => ∃ t, v = .int (a + i * 1) t) acc k → Q acc.toList { s with heap := h', toks := tk }) : wpAny (model prog w) A (collect (.ref r)) Q E s := by
  unfold collect
  refine wpAny_bind (wpAny_runValue (gather0 calm rg sm sz few fun h' tk acc c0 kp hS it => ?_))
  show wpAny _ A (load s.heap.objs.size >>= _) (_) _ _
  refine wpAny_bind (wpAny_load hS ?_)
  exact wpAny_pure (q h' tk acc (Heap.lt_size hS) kp it)
theorem made {r : Addr} {a b : Int} {t u v : Tok} {k : Nat} (sm : Builtin.Range.small a b 1 = true) (sz : Builtin.Range.rangeSize a b 1 = k) (few : k ≤ 1000) : Meets (Builtin.«tuple.__new__» ⟨[.type "tuple", .ref r], []⟩)
    (fun A R s => A.handled = none ∧ IsRange s.heap r a b 1 t u v ∧ ∀ (h' : Heap) (tk : Nat) (acc : Array Value), s.heap.objs.size < h'.objs.size → (∀ x o, s.heap.get? x = some o → h'.get? x = some o) → ItemsOf (fun i v => ∃ t, v = .int (a + i * 1) t) acc k → R (.ok (.ret (.ref h'.objs.size))) { s with heap := h'.push { cls := .type "tuple", data := .seq acc }, toks := tk }) :=
  .of_wp fun prog w A R s h => by
    obtain ⟨calm, rg, h⟩ := h
    have f1 := sub_tuple_self
    have f2 := init_tuple_lookup
    have f3 := madeHere_tuple
    have ty : s.TypeIs (.ref r) "range" := ⟨_, rg, rfl⟩
    have calm1 : A.in1.handled = none := calm
    wp_walk using wpAny_typeOf ty, gather calm1 rg sm sz few
    intro h' tk acc lz kp it
    show wpAny _ _ (Builtin.Tuple.tupleExact acc.toList.toArray >>= fun v => ret v) (_) _ _
    unfold Builtin.Tuple.tupleExact
    refine (wpAny_bind (wpAny_newObj_type ?_ (show acc.toList.toArray.size ≤ sizeLine by simp only [Array.toArray_toList]; rw [it.1, sizeLine_eq]; omega)))
    refine wpAny_pure ⟨_, rfl, ?_⟩
    rw [show acc.toList.toArray = acc by simp]
    exact h h' tk acc lz kp it
theorem tuple_range {Q : Value → Shared → Prop} {r : Addr} {a b : Int} {t u v : Tok} {k : Nat} (calm : A.handled = none) (rg : IsRange s.heap r a b 1 t u v) (sm : Builtin.Range.small a b 1 = true) (sz : Builtin.Range.rangeSize a b 1 = k) (few : k ≤ 1000)
    (q : ∀ (h' : Heap) (tk : Nat) (acc : Array Value), s.heap.objs.size < h'.objs.size → (∀ x o, s.heap.get? x = some o → h'.get? x = some o) → ItemsOf (fun i v => ∃ t, v = .int (a + i * 1) t) acc k → Q (.ref h'.objs.size) { s with heap := h'.push { cls := .type "tuple", data := .seq acc }, toks := tk }) : wpAny (model prog w) A (call (.type "tuple") [.ref r]) Q E s :=
  callType_new PySem.F.called_tuple (by decide) (PySem.F.typeCall_tuple_1 _) (PySem.F.newCall_tuple_1 _) (fun obj => PySem.F.args_object_init_2 obj _) PySem.F.entry_tuple_new (made sm sz few) ⟨calm, rg, fun h' tk acc lz kp it => ⟨⟨_, Heap.get?_push_size _ rfl, rfl⟩, q h' tk acc lz kp it⟩⟩
end
end Tr2
namespace L2
open PySem PySem.Spec PyProof.Rows
section
variable {X : Cx}
theorem op_isB : OpR X (compareOp .Is) (fun x y H Q => ∃ a b, x = .bl a ∧ y = .bl b ∧ Q (.bl (a == b)) H) := by
  intro pins s σ H x y v u Q I rx ry h
  obtain ⟨a, b, rfl, rfl, q⟩ := h
  cases rx
  cases ry
  exact is_bool ⟨.bl (a == b), H, I, rfl, q⟩
def rTupR : List V → Hp → VK → Prop := fun xs H Q => ∃ (p : Addr) (lo hi : Int), xs = [V.ref p] ∧ H p = some (.rng lo hi) ∧ -(2 ^ 62) ≤ lo ∧ lo < 2 ^ 62 ∧ -(2 ^ 62) ≤ hi ∧ hi < 2 ^ 62 ∧ (hi - lo).toNat ≤ 1000 ∧
  ∀ l, H l = none → Q (.ref l) (upd H l (.tup ((List.range (hi - lo).toNat).map fun k => V.int (lo + (k : Nat)))))
theorem call_tupR (hc : X.calm = true) : CallR X (.type "tuple") rTupR := by
  intro pins s σ H xs us Q I r h
  obtain ⟨p, lo, hi, rfl, hp, h1, h2, h3, h4, hn, q⟩ := h
  obtain ⟨u, rfl, ru⟩ := vals1 r
  cases ru
  obtain ⟨t, u, v, e⟩ := (show ObjOk X.prog X.w H s.heap p (.rng lo hi) from I.hok p _ hp)
  have hsz : Builtin.Range.rangeSize lo hi 1 = ((hi - lo).toNat : Nat) := by rw [rangeSize_one]; split <;> omega
  refine Tr2.tuple_range (k := (hi - lo).toNat) (I.ok.hd hc) (show IsRange s.heap p lo hi 1 t u v from e) (small_one h1 h2 h3 h4) hsz hn fun h' tk acc lz kp it => ?_
  have ge : s.heap.objs.size ≤ h'.objs.size := Nat.le_of_lt lz
  have hf : H h'.objs.size = none := I.hok.fresh ge
  refine ⟨.ref h'.objs.size, _, I.laid (o := .tup ((List.range (hi - lo).toNat).map fun k => V.int (lo + (k : Nat)))) (fun b o z => Heap.get?_push_of_some _ (kp b o z)) ge ⟨?_, acc.toList, vals_of_get ?_ ?_, ⟨_, Heap.get?_push_size _ rfl, rfl, _, rfl⟩⟩, rfl, q _ hf⟩
  · rw [List.length_map, List.length_range]; exact Nat.le_of_lt (small1000 hn)
  · rw [List.length_map, List.length_range, Array.length_toList, it.1]
  · intro i x w hx hw
    rw [List.getElem?_map] at hx
    obtain ⟨k, hk', rfl⟩ := Option.map_eq_some_iff.mp hx
    have ek : i = k := by
      rw [List.getElem?_eq_some_iff] at hk'
      obtain ⟨z, e⟩ := hk'
      simpa using e
    subst ek
    obtain ⟨t', rfl⟩ := it.2 i w (by simpa using hw)
    refine ⟨t', ?_⟩
    rw [Int.mul_one]
end
end L2
namespace L2
open PySem PySem.Spec PyProof.Rows
section
variable {X : Cx}
end
end L2
namespace L2
open PySem PySem.Spec PyProof.Rows
section
variable {X : Cx}
end
end L2
namespace L2
open PySem PySem.Spec PyProof.Rows
theorem vals_toks : ∀ {ns : List Int} {us : List Value}, Vals (ns.map V.int) us → ∃ ps : List (Int × Tok), us = ps.map (fun p => Value.int p.1 p.2) ∧ ps.map (·.1) = ns
  | [], _, .nil => ⟨[], rfl, rfl⟩
  | n :: ns, _, .cons r1 r2 => by
    obtain ⟨t, rfl⟩ := r1
    obtain ⟨ps, rfl, e⟩ := vals_toks r2
    exact ⟨(n, t) :: ps, rfl, by rw [List.map_cons, e]⟩
theorem numAt_get {ps : List (Int × Tok)} {ns : List Int} (e : ps.map (·.1) = ns) {i : Nat} (h : i < ns.length) : numAt ps.toArray i = ns[i] := by
  subst e
  rw [List.length_map] at h
  unfold numAt
  simp [h]
section
variable {X : Cx}
def rMaxL (K : PySem.W.Frag) : List V → Hp → (V → Hp → Prop) → Prop := fun xs H Q => ∃ (p : Addr) (ns : List Int), xs = [V.ref p] ∧ SqL K H p (ns.map V.int) ∧ ns ≠ [] ∧ ∀ M, M ∈ ns → (∀ a ∈ ns, a ≤ M) → Q (.int M) H
def rMinL (K : PySem.W.Frag) : List V → Hp → (V → Hp → Prop) → Prop := fun xs H Q => ∃ (p : Addr) (ns : List Int), xs = [V.ref p] ∧ SqL K H p (ns.map V.int) ∧ ns ≠ [] ∧ ∀ M, M ∈ ns → (∀ a ∈ ns, M ≤ a) → Q (.int M) H
theorem call_maxL (hc : X.calm = true) : CallR X (.builtin "max") (rMaxL X.K) := by
  intro pins s σ H xs us Q I r h
  obtain ⟨p, ns, rfl, hq, ne, q⟩ := h
  obtain ⟨u, rfl, ru⟩ := vals1 r
  cases ru
  obtain ⟨its, rv, pl, hz⟩ := I.list hq
  obtain ⟨ps, rfl, e⟩ := vals_toks rv
  have lp : ps.length = ns.length := by rw [← e, List.length_map]
  have n0 : 0 < ns.length := List.length_pos_iff.mpr ne
  have ei : intItems ps.toArray = (ps.map fun p => Value.int p.1 p.2).toArray := by unfold intItems; simp
  obtain ⟨b1, b2⟩ := argBest_gt (numAt ps.toArray) (ps.toArray.size - 1)
  have sz : ps.toArray.size = ns.length := by simp [lp]
  refine max_intList (xs := ps.toArray) (I.ok.hd hc) (by rw [ei]; exact pl.isList) (by rw [sz]; exact n0) fun v h' tk hv k => ?_
  obtain ⟨t, rfl⟩ := intItems_at hv
  rw [sz] at b1 b2 ⊢
  refine ⟨.int _, H, I.kept k, ⟨t, rfl⟩, q _ ?_ fun a ha => ?_⟩
  · rw [numAt_get e (by omega)]
    exact List.getElem_mem _
  · obtain ⟨j, hj, rfl⟩ := List.getElem_of_mem ha
    have := b2 j (by omega)
    rw [numAt_get e hj] at this
    exact this
theorem call_minL (hc : X.calm = true) : CallR X (.builtin "min") (rMinL X.K) := by
  intro pins s σ H xs us Q I r h
  obtain ⟨p, ns, rfl, hq, ne, q⟩ := h
  obtain ⟨u, rfl, ru⟩ := vals1 r
  cases ru
  obtain ⟨its, rv, pl, hz⟩ := I.list hq
  obtain ⟨ps, rfl, e⟩ := vals_toks rv
  have lp : ps.length = ns.length := by rw [← e, List.length_map]
  have n0 : 0 < ns.length := List.length_pos_iff.mpr ne
  have ei : intItems ps.toArray = (ps.map fun p => Value.int p.1 p.2).toArray := by unfold intItems; simp
  obtain ⟨b1, b2⟩ := argBest_lt (numAt ps.toArray) (ps.toArray.size - 1)
  have sz : ps.toArray.size = ns.length := by simp [lp]
  refine min_intList (xs := ps.toArray) (I.ok.hd hc) (by rw [ei]; exact pl.isList) (by rw [sz]; exact n0) fun v h' tk hv k => ?_
  obtain ⟨t, rfl⟩ := intItems_at hv
  rw [sz] at b1 b2 ⊢
  refine ⟨.int _, H, I.kept k, ⟨t, rfl⟩, q _ ?_ fun a ha => ?_⟩
  · rw [numAt_get e (by omega)]
    exact List.getElem_mem _
  · obtain ⟨j, hj, rfl⟩ := List.getElem_of_mem ha
    have := b2 j (by omega)
    rw [numAt_get e hj] at this
    exact this
end
end L2
namespace L2
open PySem PySem.Spec PyProof.Rows
section
variable {X : Cx}
end
end L2
namespace ZpT
open PySem PySem.Spec PyProof.Rows
section
variable {prog : Program} {w : World} {A : Around} {E : Value → Shared → Prop} {s : Shared}
end
open AutoSeq1 (wpAny_loadPart')
abbrev H1 (h : Heap) (l1 : Addr) : Heap := h.push { cls := .type "tuple_iterator", data := .fields #[.ref l1, .int 0 0] }
abbrev H2 (h : Heap) (l1 l2 : Addr) : Heap := (H1 h l1).push { cls := .type "tuple_iterator", data := .fields #[.ref l2, .int 0 0] }
abbrev H3 (h : Heap) (l1 l2 : Addr) : Heap := (H2 h l1 l2).push { cls := .type "tuple", data := .seq #[.ref h.objs.size, .ref (H1 h l1).objs.size] }
abbrev H4 (h : Heap) (l1 l2 : Addr) : Heap := (H3 h l1 l2).push { cls := .type "tuple", data := .seq #[.none, .none] }
abbrev H5 (h : Heap) (l1 l2 : Addr) : Heap := (H4 h l1 l2).push { cls := .type "zip", data := .fields #[.none, .bool false, .bool false, .ref (H2 h l1 l2).objs.size, .ref (H3 h l1 l2).objs.size] }
section
variable {prog : Program} {w : World} {A : Around} {E : Value → Shared → Prop} {s : Shared}
end
end ZpT
namespace L2
open PySem PySem.Spec PyProof.Rows
section
variable {X : Cx}
end
end L2
namespace St2
open PySem PySem.Spec PyProof.Rows
section
variable {prog : Program} {w : World} {A : Around} {E : Value → Shared → Prop} {s : Shared}
theorem set_list {a : Addr} {its : Array Value} {ns : List Int} {Q : Value → Shared → Prop} (calm : A.handled = none) (tu : s.heap.IsList a its) (inz : IntsAre its.toList ns) (few : its.size + 1 < scanBound)
    (q : ∀ (h' : Heap) (tk : Nat), h'.SetOf (intKind prog w) s.heap.objs.size (fun x => (kinds ns its.size).any (· == x)) (kinds ns its.size).length → (∀ b o, b < s.heap.objs.size → s.heap.get? b = some o → h'.get? b = some o) → Q (.ref s.heap.objs.size) { s with heap := h', toks := tk }) :
    wpAny (model prog w) A (call (.type "set") [.ref a]) Q E s := by
  obtain ⟨c0, tl0, mro0⟩ := F.called_set.mro
  have m1 := F.called_set.made
  have m2 := F.called_set.sub
  have m3 := F.called_set.notType
  have m4 := F.called_set.canCreate
  have m5 := F.typeCall_set_1 (.ref a)
  refine wpAny_call (codeAny_of_tree ?_)
  show wpAny _ _ (callAny (.type "set") _) _ _ _
  refine wpAny_pure ⟨Code.quiet_builtin _ (by decide +kernel), codeAny_builtin F.entry_type_call ?_⟩
  rw [Around.under_plain (weight_type_call_type "set" [.ref a] []) rfl]
  repeat (any_goals (first | assumption | wp_step))
  refine codeAny_mono (code_set_new_1 (.ref a) (E := E) (Q₁ := fun ob t1 => ∃ led : Bool, ob = .ref s.heap.objs.size ∧ t1 = { s with heap := s.heap.push (newS led) }) fun led => ⟨led, rfl, rfl⟩) fun res t1 hres => ?_
  cases res with
  | error x => exact hres
  | ok fl =>
    cases fl with
    | next => exact hres.elim
    | brk => exact hres.elim
    | cont => exact hres.elim
    | ret ob =>
      obtain ⟨led, rfl, rfl⟩ := hres
      have atS : (s.heap.push (newS led)).get? s.heap.objs.size = some (newS led) := Heap.get?_push_size _ rfl
      have tyS : Shared.TypeIs { s with heap := s.heap.push (newS led) } (.ref s.heap.objs.size) "set" := ⟨_, atS, rfl⟩
      have i1 := F.called_set.init.lookup
      have i2 := F.called_set.init.bind (.ref s.heap.objs.size)
      repeat (any_goals (first | assumption | wp_step))
      refine codeAny_mono (codeAny_call_builtin (R := wants (fun r t2 => r = .none ∧ ∃ h' tk, t2 = { s with heap := h', toks := tk } ∧ h'.SetOf (intKind prog w) s.heap.objs.size (fun x => (kinds ns its.size).any (· == x)) (kinds ns its.size).length ∧
          (∀ b o, b < s.heap.objs.size → s.heap.get? b = some o → h'.get? b = some o)) E) F.called_set.init.plain F.entry_set_init (check_set_init_1 tyS ?_)) fun r2 t2 hr2 => ?_
      · obtain ⟨⟨k1, k2, k3, k4⟩, e0, e1, n0, e2⟩ := id tu
        simp only at e1 e2
        subst e1 e2
        have e0' : (s.heap.push (newS led)).get? a = some ⟨.type "list", k2, .seq its n0, k4⟩ := Heap.get?_push_of_some _ e0
        have j1 := F.sub_list_set
        have j2 := F.sub_list_frozenset
        have j3 : (Value.type "list" == Value.type "dict") = false := by decide
        have tu1 : (s.heap.push (newS led)).IsList a its := ⟨_, e0', rfl, n0, rfl⟩
        unfold Builtin.«set.__init__» noKeywords Builtin.Frozenset.updateFrom
        generalize hPy : pyIter = PY
        wp_walk
        subst hPy
        refine wpAny_pyIter_list tu1 ?_
        refine wpAny_bind (wpAny_runValue ?_)
        have lt : a < s.heap.objs.size := Heap.lt_size e0
        have calm3 : A.in1.in1.in1.handled = none := by simp [calm]
        have ne1 : a ≠ (s.heap.push (newS led)).objs.size := by rw [Heap.size_push]; exact Nat.ne_of_lt (Nat.lt_succ_of_lt lt)
        have out : s.heap.objs.size ∉ [(s.heap.push (newS led)).objs.size, a] := by
          rw [Heap.size_push]
          simp only [List.mem_cons, List.not_mem_nil, or_false, not_or]
          exact ⟨Nat.ne_of_lt (Nat.lt_succ_self _), Nat.ne_of_gt lt⟩
        refine codeAny_set_update_loopS ((Walks.list calm3 _ a ne1 its).toS) s.heap.objs.size out (fun j => ns.getD j 0) (fun i v hv => IntsAre.int_at inz i v (by rw [Array.getElem?_toList]; exact hv)) few (its.size - 0) 0 _ (by omega) (Nat.zero_le _) ⟨⟨_, Heap.get?_push_size _ rfl, rfl, rfl⟩, ?T⟩ ?S ?R
        case T => exact ⟨_, Heap.get?_push_of_some _ e0', rfl, n0, rfl⟩
        case S => exact SetOf_congr ((setObjOf_fresh (knd := intKind prog w) led).setOf (Heap.get?_push_of_some _ atS) (by unfold scanBound; omega)) (fun _ => rfl) rfl
        case R =>
          rintro ⟨h', g', d', tk', os'⟩ mv st
          have w1 : g' = s.gens := mv.gens
          have w2 : d' = s.drawn := mv.drawn
          have w3 : os' = s.os := mv.os
          subst w1 w2 w3
          refine wpAny_pure ?_
          show wpAny _ _ (ret Value.none) _ _ _
          refine wpAny_pure ⟨rfl, h', tk', rfl, st, fun b o lb e => mv.heap b o ?_ (Heap.get?_push_of_some _ (Heap.get?_push_of_some _ e))⟩
          rw [Heap.size_push]
          simp only [List.mem_cons, List.not_mem_nil, or_false, not_or]
          exact ⟨Nat.ne_of_lt lb, Nat.ne_of_lt (Nat.lt_succ_of_lt lb)⟩
      · cases r2 with
        | error x => exact hr2
        | ok f2 =>
          cases f2 with
          | ret r =>
            obtain ⟨rfl, h', tk, rfl, st, kp⟩ := hr2
            repeat (any_goals (first | assumption | wp_step))
            exact q _ _ st kp
          | next => exact hr2.elim
          | brk => exact hr2.elim
          | cont => exact hr2.elim
theorem collect_tuple {l : Addr} {vs : List Value} {Q : List Value → Shared → Prop} (hl : s.heap.IsTuple l vs.toArray)
    (h : Q vs { s with heap := (s.heap.push (seqObj "list" #[] 0)).update s.heap.objs.size (Obj.mapSeq (· ++ vs.toArray)) }) (hz : vs.length ≤ sizeLine) : wpAny (model prog w) A (collect (.ref l)) Q E s := by
  unfold collect
  refine wpAny_bind (wpAny_runValue (codeAny_builtin F.entry_proto_collect ?_))
  unfold Builtin.«proto.collect»
  show wpAny _ _ (newList [] >>= _) _ _ _
  refine wpAny_bind (wpAny_newList ?_ (by simp))
  refine wpAny_pure ⟨Code.quiet_builtin _ (by decide +kernel), codeAny_builtin F.entry_list_iadd ?_⟩
  obtain ⟨o, ho, hc, n, hd⟩ := id hl
  have ho' : (s.heap.push { cls := Value.type "list", data := Data.seq #[] }).get? l = some o := Heap.get?_push_of_some _ ho
  have hn : (s.heap.push { cls := Value.type "list", data := Data.seq #[] }).get? s.heap.objs.size = some { cls := Value.type "list", data := Data.seq #[] } := Heap.get?_push_size _ rfl
  have hT : Shared.TypeIs { s with heap := s.heap.push { cls := Value.type "list", data := Data.seq #[] } } (.ref l) "tuple" := ⟨o, ho', hc⟩
  show wpAny _ _ (Builtin.List.listExtendWith (.ref s.heap.objs.size) (.ref l) (.ref s.heap.objs.size)) _ _ _
  unfold Builtin.List.listExtendWith
  refine wpAny_bind (wpAny_typeOf hT ?_)
  have hb : (Builtin.List.listSameRef (.ref s.heap.objs.size) (.ref l) || Value.type "tuple" == Value.type "list" || Value.type "tuple" == Value.type "tuple") = true := by
    rw [show (Value.type "tuple" == Value.type "tuple") = true by decide, Bool.or_true]
  rw [if_pos hb]
  refine wpAny_bind (listItems_at ho' hd (wpAny_bind (listItems_at hn rfl ?_)))
  show wpAny _ _ (Builtin.List.listUpdate (.ref s.heap.objs.size) (fun x => x ++ vs.toArray) >>= _) _ _ _
  refine wpAny_bind (listUpdate_at hn rfl ?_ (by simp) (by simp; omega))
  refine wpAny_pure ?_
  have e := Heap.get?_update_self (Obj.mapSeq (· ++ vs.toArray)) hn rfl
  show wpAny _ _ (load s.heap.objs.size >>= _) _ _ _
  refine wpAny_bind (wpAny_load e ?_)
  show wpAny _ _ (pure (#[] ++ vs.toArray).toList) _ _ _
  refine wpAny_pure ?_
  simpa using h
end
end St2
namespace L2
open PySem PySem.Spec PyProof.Rows
section
variable {X : Cx}
def rSortU (K : PySem.W.Frag) : List V → Hp → (V → Hp → Prop) → Prop := fun xs H Q => ∃ (p : Addr) (ns : List Int), xs = [V.ref p] ∧ SqT K H p (ns.map V.int) ∧ ns.length < 64 ∧
  ∀ l (ms : List Int), H l = none → List.Perm ms ns → ms.Pairwise (· ≤ ·) → Q (.ref l) (upd H l (.lst (ms.map V.int)))
theorem call_sortedU : CallR X (.builtin "sorted") (rSortU X.K) := by
  intro pins s σ H xs us Q I r h
  obtain ⟨p, ns, rfl, hq, h64, q⟩ := h
  obtain ⟨u, rfl, ru⟩ := vals1 r
  cases ru
  obtain ⟨its, rv, pl, hz⟩ := I.tuple hq
  have hlen := rv.length
  rw [List.length_map] at hlen
  refine Calls.call_function_entry kind_sorted plain_sorted entry_sorted (args_sorted1 _) ?_
  unfold Builtin.«sorted»
  refine wpAny_bind (m := checkCount "sorted" 1 1 _) (wpAny_pure ?_)
  have lsz : sizeLine = 16777216 := sizeLine_eq
  refine wpAny_bind (St2.collect_tuple (show s.heap.IsTuple p its.toArray from pl) (wpAny_bind (wpAny_newList ?_ (by omega))) (by omega))
  generalize hh1 : (s.heap.push (seqObj "list" #[] 0)).update s.heap.objs.size (Obj.mapSeq (· ++ its.toArray)) = h1
  have hsz : h1.objs.size = s.heap.objs.size + 1 := by rw [← hh1, Heap.size_update, size_push']
  have k1 : ∀ b o, s.heap.get? b = some o → h1.get? b = some o := fun b o q => by
    rw [← hh1]
    exact (Heap.get?_update_other _ _ (Ne.symm (Nat.ne_of_lt (Heap.lt_size q)))).trans (Heap.get?_push_of_some _ q)
  show wpAny _ _ _ _ _ { s with heap := h1.push (seqObj "list" its.toArray 0) }
  have oL : (h1.push (seqObj "list" its.toArray 0)).get? h1.objs.size = some (seqObj "list" its.toArray 0) := Heap.get?_push_size _ rfl
  refine wpAny_bind (wpAny_holding (wpAny_call_entry slot_list_sort ⟨_, oL, rfl⟩ entry_list_sort (list_sort_tree oL (intsAre_of rv) (by omega) fun out ms hi hp hs => ⟨_, rfl, ?_⟩) (args_list_sort _)))
  have hle : s.heap.objs.size ≤ h1.objs.size := by rw [hsz]; exact Nat.le_succ _
  have hf : H h1.objs.size = none := I.hok.fresh hle
  obtain ⟨e, he⟩ := sortedHeap_at (out := out) oL
  refine wpAny_pure ⟨_, rfl, .ref h1.objs.size, upd H h1.objs.size (.lst (ms.map V.int)), I.laid (t' := s.toks) (fun b o q => ?_) hle ⟨?_, out.toList, e, vals_ofInts hi, by simpa using he⟩, rfl, q _ _ hf hp hs⟩
  · have lb := Heap.lt_size (k1 b o q)
    rw [sortedHeap_old (Nat.ne_of_lt lb) (by rw [Heap.size_push]; exact Nat.lt_succ_of_lt lb)]
    exact Heap.get?_push_of_some _ (k1 b o q)
  · rw [List.length_map, hp.length_eq]
    rwa [List.length_map] at hz
end
end L2
namespace L2
open PySem PySem.Spec PyProof.Rows
section
variable {X : Cx}
def rSumL (K : PySem.W.Frag) : List V → Hp → (V → Hp → Prop) → Prop := fun xs H Q => ∃ (p : Addr) (ns : List Int), xs = [V.ref p] ∧ SqL K H p (ns.map V.int) ∧ Q (.int ns.sum) H
theorem call_sumL (hc : X.calm = true) : CallR X (.builtin "sum") (rSumL X.K) := by
  intro pins s σ H xs us Q I r h
  obtain ⟨p, ns, rfl, hq, q⟩ := h
  obtain ⟨u, rfl, ru⟩ := vals1 r
  cases ru
  obtain ⟨its, rv, pl, hz⟩ := I.list hq
  obtain ⟨ps, rfl, e⟩ := vals_toks rv
  have ei : intItems ps.toArray = (ps.map fun p => Value.int p.1 p.2).toArray := by unfold intItems; simp
  refine sum_intListG (xs := ps.toArray) (I.ok.hd hc) (by rw [ei]; exact pl.isList) fun h' tk t' k => ?_
  have es : preSum (numAt ps.toArray) ps.toArray.size = ns.sum := by
    rw [preSum_eq, List.take_of_length_le (by simp), ← e]
  rw [es]
  exact ⟨.int _, H, I.kept k, ⟨t', rfl⟩, q⟩
def rSumU (K : PySem.W.Frag) : List V → Hp → (V → Hp → Prop) → Prop := fun xs H Q => ∃ (p : Addr) (ns : List Int), xs = [V.ref p] ∧ SqT K H p (ns.map V.int) ∧ Q (.int ns.sum) H
theorem call_sumU (hc : X.calm = true) : CallR X (.builtin "sum") (rSumU X.K) := by
  intro pins s σ H xs us Q I r h
  obtain ⟨p, ns, rfl, hq, q⟩ := h
  obtain ⟨u, rfl, ru⟩ := vals1 r
  cases ru
  obtain ⟨its, rv, pl, hz⟩ := I.tuple hq
  obtain ⟨ps, rfl, e⟩ := vals_toks rv
  have ei : intItems ps.toArray = (ps.map fun p => Value.int p.1 p.2).toArray := by unfold intItems; simp
  have ht : s.heap.IsTuple p (intItems ps.toArray) := by rw [ei]; exact pl
  have hlt : p < s.heap.objs.size := by obtain ⟨_, e, _⟩ := ht; exact Heap.lt_size e
  have sz : (intItems ps.toArray).size = ps.toArray.size := by unfold intItems; simp
  have es : preSum (numAt ps.toArray) (intItems ps.toArray).size = ns.sum := by
    rw [sz, preSum_eq, List.take_of_length_le (by simp), ← e]
  refine call_sum_walkG (wpAny_pyIter_tuple ht ?_)
  refine ⟨s.heap.objs.size, _, _, _, _, _, numAt ps.toArray, rfl, Walks.tuple (A := X.A.in1) (I.ok.hd hc) _ p (Nat.ne_of_lt hlt) (intItems ps.toArray), ⟨⟨_, Heap.get?_push_size _ rfl, rfl, rfl⟩, ht.push _⟩, fun b hb => ?_, fun _ _ => intItems_at, fun h' tk t' hk => ?_⟩
  · show b < (s.heap.push _).objs.size
    rw [Heap.size_push]
    have hb' : b = s.heap.objs.size ∨ b = p := by simpa using hb
    rcases hb' with rfl | rfl
    · exact Nat.lt_succ_self _
    · exact Nat.lt_succ_of_lt hlt
  · rw [es]
    exact ⟨.int _, H, I.kept fun b o hb => hk b o (by have := Nat.ne_of_lt (Heap.lt_size hb); simpa using this) (Heap.get?_push_of_some _ hb), ⟨t', rfl⟩, q⟩
end
end L2
namespace L2
open PySem PySem.Spec PyProof.Rows
section
variable {X : Cx}
end
end L2
namespace L2
open PySem PySem.Spec PyProof.Rows
section
variable {X : Cx}
end
section
variable {X : Cx} {o i : Expr} {pos : Pos} {td ty : TE}
end
end L2
namespace L2
open PySem PySem.Spec PyProof.Rows
section
variable {X : Cx} {Pre : St → Hp → Prop} {R : Hp → V → Prop}
end
section
variable {X : Cx} {Pre : St → Hp → Prop} {R : Hp → V → Prop}
end
end L2
namespace L2
open PySem PySem.Spec PyProof.Rows
section
variable {X : Cx}
end
end L2
namespace L2
open PySem PySem.Spec PyProof.Rows
section
variable {X : Cx}
end
end L2
namespace St2
open PySem PySem.Spec PyProof.Rows
section
variable {prog : Program} {w : World} {A : Around} {E : Value → Shared → Prop} {s : Shared}
end
end St2
namespace L2
open PySem PySem.Spec PyProof.Rows
section
variable {X : Cx}
end
end L2
namespace St3
open PySem PySem.Spec PyProof.Rows PySem.SeqAt PySem.MeetsSeq PySem.MeetsSeq2 PySem.MeetsSeq3
theorem kinds_mem (ns : List Int) (x : Int) : (St2.kinds ns ns.length).any (· == x) = true ↔ x ∈ ns := by
  have e := firstMet_any (fun j => ns.getD j 0) ns.length x
  rw [show (St2.kinds ns ns.length).any (· == x) = (firstMet (fun j => ns.getD j 0) ns.length).any (· == x) from rfl, e, St2.take_map ns ns.length (Nat.le_refl _), List.take_length]
  simp
end St3
namespace L2
open PySem PySem.Spec PyProof.Rows
section
variable {X : Cx}
def rSetLm (K : PySem.W.Frag) : List V → Hp → VK → Prop := fun xs H Q => ∃ (p : Addr) (ns : List Int), xs = [V.ref p] ∧ SqL K H p (ns.map V.int) ∧ ns.length ≤ 1000 ∧
  ∀ l S, H l = none → (∀ x, S x = true ↔ x ∈ ns) → Q (.ref l) (upd H l (.set S (St2.kinds ns ns.length).length))
theorem call_setLm (hc : X.calm = true) : CallR X (.type "set") (rSetLm X.K) := by
  intro pins s σ H xs us Q I r h
  obtain ⟨p, ns, rfl, hq, hn, q⟩ := h
  obtain ⟨u, rfl, ru⟩ := vals1 r
  cases ru
  obtain ⟨its, rv, pt, _⟩ := I.list hq
  have ln : its.length = ns.length := by rw [← rv.length, List.length_map]
  refine St2.set_list (ns := ns) (I.ok.hd hc) pt.isList (by simpa using intsAre_of rv) (by rw [List.size_toArray, ln]; unfold scanBound; omega) fun h' tk st kp => ?_
  have sz : its.toArray.size = ns.length := by rw [List.size_toArray, ln]
  rw [sz] at st
  have hf : H s.heap.objs.size = none := I.hok.fresh (Nat.le_refl _)
  exact ⟨.ref s.heap.objs.size, _, I.laid (o := .set _ _) (fun b o e => kp b o (Heap.lt_size e) e) (Nat.le_refl _) st, rfl, q _ _ hf (St3.kinds_mem ns)⟩
end
end L2
namespace L2
open PySem PySem.Spec PyProof.Rows
section
variable {X : Cx}
end
end L2
namespace L2
open PySem PySem.Spec PyProof.Rows
section
variable {X : Cx}
end
end L2
namespace St4
open PySem PySem.Spec PyProof.Rows PySem.W
section
variable {prog : Program} {w : World} {A : Around} {E : Value → Shared → Prop} {s : Shared} {T : String} {r d : Addr} {n : Nat} {P : Nat → Value → Prop} {OK : Heap → Prop}
end
end St4
namespace L2
open PySem PySem.Spec PyProof.Rows PySem.W
section
variable {X : Cx}
end
end L2
namespace L2
open PySem PySem.Spec PyProof.Rows PySem.W
section
variable {X : Cx}
end
end L2
namespace L2
open PySem PySem.Spec PyProof.Rows
section
variable {X : Cx}
end
end L2
namespace L2
open PySem PySem.Spec PyProof.Rows
section
variable {X : Cx}
end
end L2
namespace L2
open PySem PySem.Spec PyProof.Rows
section
variable {X : Cx}
variable {o e : Expr} {es : List Expr} {to : TE} {t : TA} {name : Str} {apos cpos : Pos} {id : String} {r : V → List V → Hp → VK → Prop}
end
end L2
namespace L2
open PySem PySem.Spec PyProof.Rows
section
variable {X : Cx} {Pre : St → Hp → Prop} {R R' : Hp → V → Prop}
end
end L2
namespace L2
open PySem PySem.Spec PyProof.Rows
mutual
def RepP (K : PySem.W.Frag) (H : Hp) : PyData → V → Prop
  | .none, v => v = .non
  | .bool b, v => v = .bl b
  | .int i, v => v = .int i
  | .str x, v => v = .str x
  | .list ds, v => ∃ p xs, v = .ref p ∧ SqL K H p xs ∧ RepPL K H ds xs
  | .tuple ds, v => ∃ p xs, v = .ref p ∧ SqT K H p xs ∧ RepPL K H ds xs
  | .dict kvs, v => kvs = [] ∧ ∃ p, v = .ref p ∧ (H p = some (.dK []) ∨ H p = some (.dT []))
def RepPL (K : PySem.W.Frag) (H : Hp) : List PyData → List V → Prop
  | [], [] => True
  | d :: ds, x :: xs => RepP K H d x ∧ RepPL K H ds xs
  | _, _ => False
end
mutual
theorem Same.repP {K : PySem.W.Frag} {H H' : Hp} (e : Same H H') : ∀ {d : PyData} {v : V}, RepP K H d v → RepP K H' d v
  | .none, _, h => h
  | .bool _, _, h => h
  | .int _, _, h => h
  | .str _, _, h => h
  | .list _, _, ⟨p, xs, h1, h2, h3⟩ => ⟨p, xs, h1, e.seq h2, e.repPL h3⟩
  | .tuple _, _, ⟨p, xs, h1, h2, h3⟩ => ⟨p, xs, h1, e.tup h2, e.repPL h3⟩
  | .dict _, _, ⟨h0, p, h1, h2⟩ => ⟨h0, p, h1, h2.elim (fun z => .inl (e _ _ z)) fun z => .inr (e _ _ z)⟩
theorem Same.repPL {K : PySem.W.Frag} {H H' : Hp} (e : Same H H') : ∀ {ds : List PyData} {xs : List V}, RepPL K H ds xs → RepPL K H' ds xs
  | [], [], _ => trivial
  | _ :: _, _ :: _, h => ⟨e.repP h.1, e.repPL h.2⟩
  | [], _ :: _, h => h.elim
  | _ :: _, [], h => h.elim
end
def PyDt : PyData → Dt
  | .none => .non | .bool b => .bl b | .int i => .int i | .str x => .str x | .list _ => .lst | .dict _ => .dct | .tuple ds => .tup (ds.map PyDt)
mutual
theorem RepP.rep {K : PySem.W.Frag} {H : Hp} : ∀ {d : PyData} {v : V}, RepP K H d v → Rep K H (PyDt d) v
  | .none, _, h => by unfold PyDt; exact h
  | .bool _, _, h => by unfold PyDt; exact h
  | .int _, _, h => by unfold PyDt; exact h
  | .str _, _, h => by unfold PyDt; exact h
  | .list _, _, ⟨p, xs, h1, h2, _⟩ => by unfold PyDt; exact ⟨p, xs, h1, h2⟩
  | .tuple _, _, ⟨p, xs, h1, h2, h3⟩ => by unfold PyDt; exact ⟨p, xs, h1, h2, RepPL.rep h3⟩
  | .dict _, _, ⟨_, p, h1, h2⟩ => by unfold PyDt; exact ⟨p, h1, h2.elim (fun z => .inl ⟨_, z⟩) fun z => .inr ⟨_, z⟩⟩
theorem RepPL.rep {K : PySem.W.Frag} {H : Hp} : ∀ {ds : List PyData} {xs : List V}, RepPL K H ds xs → RepL K H (ds.map PyDt) xs
  | [], [], _ => trivial
  | _ :: _, _ :: _, h => ⟨RepP.rep h.1, RepPL.rep h.2⟩
  | [], _ :: _, h => h.elim
  | _ :: _, [], h => h.elim
end
section
variable {X : Cx} {pins : List (Addr × Obj)} {σ : St} {H : Hp} {s : Shared}
mutual
theorem reads_of (I : Inv X pins σ H s) : ∀ {d : PyData} {v : V} {u : Value}, RepP X.K H d v → RelV v u → ∃ as, Reads s.heap u d as ∧ ((d = .dict [] ∨ d.hasDict = false) → d.hasDict = true → sysModules ∉ as)
  | .none, _, _, h, r => by cases h; cases r; exact ⟨[], .none, fun _ z => by simp [PyData.hasDict] at z⟩
  | .bool b, _, _, h, r => by cases h; cases r; exact ⟨[], .bool b, fun _ z => by simp [PyData.hasDict] at z⟩
  | .int i, _, _, h, r => by cases h; obtain ⟨t, rfl⟩ := r; exact ⟨[], .int i t, fun _ z => by simp [PyData.hasDict] at z⟩
  | .str x, _, _, h, r => by cases h; obtain ⟨t, rfl⟩ := r; exact ⟨[], .str x t, fun _ z => by simp [PyData.hasDict] at z⟩
  | .list ds, _, _, ⟨p, xs, h1, h2, h3⟩, r => by
    subst h1
    cases r
    obtain ⟨its, rv, pl, _⟩ := I.list h2
    obtain ⟨o, e1, e2, n, e3⟩ := pl.isList
    obtain ⟨as, ra⟩ := readsAll_of I h3 rv
    refine ⟨p :: as, .list e1 e2 e3 (by simpa using ra), fun z1 z2 => ?_⟩
    rcases z1 with z1 | z1
    · cases z1
    · rw [z2] at z1; cases z1
  | .tuple ds, _, _, ⟨p, xs, h1, h2, h3⟩, r => by
    subst h1
    cases r
    obtain ⟨its, rv, pl, _⟩ := I.tuple h2
    obtain ⟨o, e1, e2, n, e3⟩ := pl
    obtain ⟨as, ra⟩ := readsAll_of I h3 rv
    refine ⟨as, .tuple e1 e2 e3 (by simpa using ra), fun z1 z2 => ?_⟩
    rcases z1 with z1 | z1
    · cases z1
    · rw [z2] at z1; cases z1
  | .dict kvs, _, _, ⟨h0, p, h1, h2⟩, r => by
    subst h1 h0
    cases r
    have z : ∃ o es ep, s.heap.get? p = some o ∧ o.cls = .type "dict" ∧ o.data = .dict es ep ∧ es.toList = [] ∧ (p == sysModules) = false := by
      rcases h2 with h2 | h2
      · obtain ⟨_, ne, vs, kv, o, es, ep, e, ex, hd, _, pr, _⟩ := I.hok p _ h2
        cases kv
        refine ⟨o, es, ep, e, ex.1, hd, ?_, ne⟩
        cases hes : es.toList with
        | nil => rfl
        | cons a l => rw [hes] at pr; cases pr
      · obtain ⟨_, ne, xs, pr, o, es, ep, e, ex, hd, hl, _⟩ := I.hok p _ h2
        cases pr
        exact ⟨o, es, ep, e, ex.1, hd, hl, ne⟩
    obtain ⟨o, es, ep, e1, e2, e3, e4, ne⟩ := z
    refine ⟨_, .dict (as := []) (bs := []) e1 e2 e3 (by rw [e4]; exact .nil) (by rw [e4]; exact .nil), fun _ _ hm => ?_⟩
    have : sysModules = p := by simpa using hm
    rw [this] at ne
    simp at ne
theorem readsAll_of (I : Inv X pins σ H s) : ∀ {ds : List PyData} {xs : List V} {us : List Value}, RepPL X.K H ds xs → Vals xs us → ∃ as, ReadsAll s.heap us ds as
  | [], [], _, _, r => by cases r; exact ⟨[], .nil⟩
  | _ :: _, _ :: _, _, h, r => by
    cases r with
    | cons r t =>
      obtain ⟨a1, r1, _⟩ := reads_of I h.1 r
      obtain ⟨a2, r2⟩ := readsAll_of I h.2 t
      exact ⟨a1 ++ a2, .cons r1 r2⟩
  | [], _ :: _, _, h, _ => h.elim
  | _ :: _, [], _, h, _ => h.elim
end
end
section
variable {X : Cx}
end
end L2
namespace L2
open PySem PySem.Spec PyProof.Rows
section
variable {X : Cx} {a b c d : Expr} {ta tb tc td : TE} {pos : Pos}
end
end L2
namespace L2
open PySem PySem.Spec PyProof.Rows
section
open PySem.SeqAt PySem.MeetsSeq
open AutoSeq1 (wpAny_loadPart')
variable {A : Around} {s : Shared}
end
section
variable {X : Cx}
end
end L2
namespace L2
open PySem PySem.Spec PyProof.Rows
section
variable {X : Cx} {tg : Expr}
end
end L2
namespace ZpA
open PySem PySem.Spec PyProof.Rows
inductive Kd where
  | L | T
def nm : Kd → String
  | .L => "list"
  | .T => "tuple"
def itObj : Kd → Addr → Obj
  | .L => fun l => { cls := .type "list_iterator", data := .fields #[.ref l, .int 0 0] }
  | .T => fun l => { cls := .type "tuple_iterator", data := .fields #[.ref l, .int 0 0] }
section
variable {prog : Program} {w : World} {A : Around} {E : Value → Shared → Prop} {s : Shared}
end
section
variable {prog : Program} {w : World} {A : Around} {E : Value → Shared → Prop} {s : Shared}
end
abbrev H1 (c1 : Kd) (h : Heap) (l1 : Addr) : Heap := h.push (itObj c1 l1)
abbrev H2 (c1 c2 : Kd) (h : Heap) (l1 l2 : Addr) : Heap := (H1 c1 h l1).push (itObj c2 l2)
abbrev H3 (c1 c2 : Kd) (h : Heap) (l1 l2 : Addr) : Heap := (H2 c1 c2 h l1 l2).push { cls := .type "tuple", data := .seq #[.ref h.objs.size, .ref (H1 c1 h l1).objs.size] }
abbrev H4 (c1 c2 : Kd) (h : Heap) (l1 l2 : Addr) : Heap := (H3 c1 c2 h l1 l2).push { cls := .type "tuple", data := .seq #[.none, .none] }
abbrev H5 (c1 c2 : Kd) (h : Heap) (l1 l2 : Addr) : Heap := (H4 c1 c2 h l1 l2).push { cls := .type "zip", data := .fields #[.none, .bool false, .bool false, .ref (H2 c1 c2 h l1 l2).objs.size, .ref (H3 c1 c2 h l1 l2).objs.size] }
section
variable {prog : Program} {w : World} {A : Around} {E : Value → Shared → Prop} {s : Shared}
end
end ZpA
namespace L2
open PySem PySem.Spec PyProof.Rows ZpA
def SqA : Kd → PySem.W.Frag → Hp → Addr → List V → Prop
  | .L => SqL
  | .T => SqT
section
variable {X : Cx}
end
section
variable {X : Cx}
end
end L2
namespace L2
open PySem PySem.Spec PyProof.Rows
inductive D where
  | non | bl (b : Bool) | int (i : Int) | str (x : Str) | tup (l : List D) | lst (l : List D) | ktup (l : List D) | klst (l : List D)
  | dK (ks : List Key) (vs : List D) | dT (ks : List (List Key)) (vs : List D) | set (l : List Int) | rng (lo hi : Int) | exc (C : Str)
def clsK (K : PySem.W.Frag) (nm : Str) (C : Addr) : Prop := PySem.W.nsIn K mainGlobals nm = some (some (.ref C))
mutual
def RepD (K : PySem.W.Frag) (H : Hp) : D → V → Prop
  | .non, v => v = .non
  | .bl b, v => v = .bl b
  | .int i, v => v = .int i
  | .str x, v => v = .str x
  | .tup ds, v => ∃ p xs, v = .ref p ∧ H p = some (.tup xs) ∧ RepDs K H ds xs
  | .lst ds, v => ∃ p xs, v = .ref p ∧ H p = some (.lst xs) ∧ RepDs K H ds xs
  | .klst ds, v => ∃ p xs, v = .ref p ∧ SqL K H p xs ∧ RepDs K H ds xs
  | .ktup ds, v => ∃ p xs, v = .ref p ∧ SqT K (fun _ => none) p xs ∧ RepDs K H ds xs
  | .dK ks ds, v => ∃ p xs, v = .ref p ∧ H p = some (.dK (ks.zip xs)) ∧ ks.length = xs.length ∧ RepDs K H ds xs
  | .dT ks ds, v => ∃ p xs, v = .ref p ∧ H p = some (.dT (ks.zip xs)) ∧ ks.length = xs.length ∧ RepDs K H ds xs
  | .set l, v => ∃ p S, v = .ref p ∧ H p = some (.set S l.length) ∧ ∀ x, S x = true ↔ x ∈ l
  | .rng lo hi, v => ∃ p, v = .ref p ∧ H p = some (.rng lo hi)
  | .exc nm, v => ∃ p C, v = .ref p ∧ clsK K nm C ∧ H p = some (excO p C)
def RepDs (K : PySem.W.Frag) (H : Hp) : List D → List V → Prop
  | [], [] => True
  | d :: ds, x :: xs => RepD K H d x ∧ RepDs K H ds xs
  | _, _ => False
end
mutual
theorem Same.repD {K : PySem.W.Frag} {H H' : Hp} (e : Same H H') : ∀ {d : D} {v : V}, RepD K H d v → RepD K H' d v
  | .non, _, h => h
  | .bl _, _, h => h
  | .int _, _, h => h
  | .str _, _, h => h
  | .tup _, _, ⟨p, xs, h1, h2, h3⟩ => ⟨p, xs, h1, e _ _ h2, e.repDs h3⟩
  | .lst _, _, ⟨p, xs, h1, h2, h3⟩ => ⟨p, xs, h1, e _ _ h2, e.repDs h3⟩
  | .klst _, _, ⟨p, xs, h1, h2, h3⟩ => ⟨p, xs, h1, e.seq h2, e.repDs h3⟩
  | .ktup _, _, ⟨p, xs, h1, h2, h3⟩ => ⟨p, xs, h1, h2, e.repDs h3⟩
  | .dK _ _, _, ⟨p, xs, h1, h2, h3, h4⟩ => ⟨p, xs, h1, e _ _ h2, h3, e.repDs h4⟩
  | .dT _ _, _, ⟨p, xs, h1, h2, h3, h4⟩ => ⟨p, xs, h1, e _ _ h2, h3, e.repDs h4⟩
  | .set _, _, ⟨p, S, h1, h2, h3⟩ => ⟨p, S, h1, e _ _ h2, h3⟩
  | .rng _ _, _, ⟨p, h1, h2⟩ => ⟨p, h1, e _ _ h2⟩
  | .exc _, _, ⟨p, C, h1, h2, h3⟩ => ⟨p, C, h1, h2, e _ _ h3⟩
theorem Same.repDs {K : PySem.W.Frag} {H H' : Hp} (e : Same H H') : ∀ {ds : List D} {xs : List V}, RepDs K H ds xs → RepDs K H' ds xs
  | [], [], _ => trivial
  | _ :: _, _ :: _, h => ⟨e.repD h.1, e.repDs h.2⟩
  | [], _ :: _, h => h.elim
  | _ :: _, [], h => h.elim
end
theorem RepDs.len {K : PySem.W.Frag} {H : Hp} : ∀ {ds : List D} {xs : List V}, RepDs K H ds xs → ds.length = xs.length
  | [], [], _ => rfl
  | _ :: _, _ :: _, h => by rw [List.length_cons, List.length_cons, RepDs.len h.2]
  | [], _ :: _, h => h.elim
  | _ :: _, [], h => h.elim
theorem RepDs.get {K : PySem.W.Frag} {H : Hp} : ∀ {ds : List D} {xs : List V} {i : Nat} {d : D}, RepDs K H ds xs → ds[i]? = some d → ∃ x, xs[i]? = some x ∧ RepD K H d x
  | _ :: _, x :: _, 0, d, h, e => ⟨x, rfl, by have : _ = d := Option.some.inj e; rw [← this]; exact h.1⟩
  | _ :: _, _ :: _, i + 1, d, h, e => RepDs.get (i := i) h.2 (by simpa using e)
  | [], [], _, _, _, e => by simp at e
  | [], _ :: _, _, _, h, _ => h.elim
  | _ :: _, [], _, _, h, _ => h.elim
theorem RepDs.get' {K : PySem.W.Frag} {H : Hp} {ds : List D} {xs : List V} {i : Nat} {x : V} (h : RepDs K H ds xs) (e : xs[i]? = some x) : ∃ d, ds[i]? = some d ∧ RepD K H d x := by
  have hi : i < ds.length := by rw [h.len]; exact (List.getElem?_eq_some_iff.mp e).1
  obtain ⟨y, e2, r⟩ := h.get (List.getElem?_eq_getElem hi)
  rw [e] at e2; cases e2
  exact ⟨_, List.getElem?_eq_getElem hi, r⟩
theorem RepDs.app {K : PySem.W.Frag} {H : Hp} : ∀ {ds es : List D} {xs ys : List V}, RepDs K H ds xs → RepDs K H es ys → RepDs K H (ds ++ es) (xs ++ ys)
  | [], _, [], _, _, h => h
  | _ :: _, _, _ :: _, _, g, h => ⟨g.1, RepDs.app g.2 h⟩
  | [], _, _ :: _, _, g, _ => g.elim
  | _ :: _, _, [], _, g, _ => g.elim
theorem RepDs.take {K : PySem.W.Frag} {H : Hp} : ∀ {ds : List D} {xs : List V} (n : Nat), RepDs K H ds xs → RepDs K H (ds.take n) (xs.take n)
  | [], [], n, _ => by simp; exact trivial
  | _ :: _, _ :: _, 0, _ => trivial
  | _ :: _, _ :: _, n + 1, h => ⟨h.1, RepDs.take n h.2⟩
  | [], _ :: _, _, h => h.elim
  | _ :: _, [], _, h => h.elim
theorem RepDs.drop {K : PySem.W.Frag} {H : Hp} : ∀ {ds : List D} {xs : List V} (n : Nat), RepDs K H ds xs → RepDs K H (ds.drop n) (xs.drop n)
  | [], [], n, _ => by simp; exact trivial
  | _ :: _, _ :: _, 0, h => h
  | _ :: _, _ :: _, n + 1, h => RepDs.drop n h.2
  | [], _ :: _, _, h => h.elim
  | _ :: _, [], _, h => h.elim
theorem RepDs.set {K : PySem.W.Frag} {H : Hp} {d : D} {x : V} (r : RepD K H d x) : ∀ {ds : List D} {xs : List V} (n : Nat), RepDs K H ds xs → RepDs K H (ds.set n d) (xs.set n x)
  | [], [], n, _ => by simp; exact trivial
  | _ :: _, _ :: _, 0, h => ⟨r, h.2⟩
  | _ :: _, _ :: _, n + 1, h => ⟨h.1, RepDs.set r n h.2⟩
  | [], _ :: _, _, h => h.elim
  | _ :: _, [], _, h => h.elim
theorem repDs_ints {K : PySem.W.Frag} {H : Hp} : ∀ (ns : List Int), RepDs K H (ns.map D.int) (ns.map V.int)
  | [] => trivial
  | _ :: ns => ⟨rfl, repDs_ints ns⟩
theorem ints_repDs {K : PySem.W.Frag} {H : Hp} : ∀ {ns : List Int} {xs : List V}, RepDs K H (ns.map D.int) xs → xs = ns.map V.int
  | [], [], _ => rfl
  | _ :: _, _ :: _, h => by rw [h.1, ints_repDs h.2]; rfl
  | [], _ :: _, h => h.elim
  | _ :: _, [], h => h.elim
theorem bls_repDs {K : PySem.W.Frag} {H : Hp} : ∀ {ns : List Bool} {xs : List V}, RepDs K H (ns.map D.bl) xs → xs = ns.map V.bl
  | [], [], _ => rfl
  | _ :: _, _ :: _, h => by rw [h.1, bls_repDs h.2]; rfl
  | [], _ :: _, h => h.elim
  | _ :: _, [], h => h.elim
def hid (L : List Addr) (H : Hp) : Hp := fun a => if a ∈ L then none else H a
theorem hid_some {L : List Addr} {H : Hp} {b : Addr} {o : HO} (h : hid L H b = some o) : b ∉ L ∧ H b = some o := by
  unfold hid at h
  split at h
  · cases h
  · exact ⟨‹_›, h⟩
theorem hid_ne {L : List Addr} {H : Hp} {b : Addr} (h : b ∉ L) : hid L H b = H b := if_neg h
theorem hid_same {L L' : List Addr} {H H' : Hp} (hL : ∀ b, b ∈ L' → b ∈ L ∨ H b = none) (h : ∀ b o, b ∉ L → H b = some o → H' b = some o) : Same (hid L H) (hid L' H') := fun b o e => by
  obtain ⟨h1, h2⟩ := hid_some e
  rw [hid_ne (fun z => (hL b z).elim h1 fun n => by rw [n] at h2; cases h2)]
  exact h b o h1 h2
theorem hid_sub {L : List Addr} {H : Hp} : Same (hid L H) H := fun b o e => (hid_some e).2
theorem hid_upd {L : List Addr} {H : Hp} {p : Addr} {o : HO} (h : p ∈ L) : hid L (upd H p o) = hid L H := by
  funext b
  unfold hid
  split
  · rfl
  · rw [upd_ne (fun z => by subst z; exact absurd h ‹_›)]
inductive Md where
  | fz | ow | io
  deriving DecidableEq
abbrev Rho := List (Option (D × Md))
structure Fx where
  Z : List Addr
  io : Nat → Option Addr
def OwnAt (K : PySem.W.Frag) (H Hh : Hp) (p : Addr) : D → Prop
  | .lst ds => ∃ xs, H p = some (.lst xs) ∧ RepDs K Hh ds xs
  | .dK ks ds => ∃ xs, H p = some (.dK (ks.zip xs)) ∧ ks.length = xs.length ∧ RepDs K Hh ds xs
  | .dT ks ds => ∃ xs, H p = some (.dT (ks.zip xs)) ∧ ks.length = xs.length ∧ RepDs K Hh ds xs
  | _ => False
def MutO : Option HO → Prop
  | some (.lst _) => True
  | some (.dK _) => True
  | some (.dT _) => True
  | _ => False
theorem OwnAt.mu {K : PySem.W.Frag} {H Hh : Hp} {p : Addr} {d : D} (h : OwnAt K H Hh p d) : MutO (H p) := by
  cases d <;> first | exact h.elim | (obtain ⟨xs, e, _⟩ := h; rw [e]; trivial)
theorem OwnAt.at {K : PySem.W.Frag} {H H' Hh Hh' : Hp} {p : Addr} {d : D} (h : OwnAt K H Hh p d) (e : H' p = H p) (s : Same Hh Hh') : OwnAt K H' Hh' p d := by
  cases d <;> first
    | exact h.elim
    | (obtain ⟨xs, h1, h2, h3⟩ := h; exact ⟨xs, e.trans h1, h2, s.repDs h3⟩)
    | (obtain ⟨xs, h1, h2⟩ := h; exact ⟨xs, e.trans h1, s.repDs h2⟩)
theorem OwnAt.rep {K : PySem.W.Frag} {H Hh Hh' : Hp} {p : Addr} {d : D} (h : OwnAt K H Hh p d) (e : Hh' p = H p) (s : Same Hh Hh') : RepD K Hh' d (.ref p) := by
  cases d <;> first
    | exact h.elim
    | (obtain ⟨xs, h1, h2, h3⟩ := h; exact ⟨p, xs, rfl, e.trans h1, h2, s.repDs h3⟩)
    | (obtain ⟨xs, h1, h2⟩ := h; exact ⟨p, xs, rfl, e.trans h1, s.repDs h2⟩)
def SlotOk (K : PySem.W.Frag) (F : Fx) (H : Hp) (W : List Addr) (i : Nat) (d : D) (v : V) : Md → Prop
  | .fz => RepD K (hid (W ++ F.Z) H) d v
  | .ow => ∃ p, v = .ref p ∧ p ∈ W ∧ OwnAt K H (hid (W ++ F.Z) H) p d
  | .io => ∃ p, v = .ref p ∧ p ∈ W ∧ OwnAt K H (hid (W ++ F.Z) H) p d ∧ F.io i = some p
structure Rel (K : PySem.W.Frag) (F : Fx) (σ : St) (H : Hp) (ρ : Rho) (W : List Addr) : Prop where
  slot : ∀ (i : Nat) (d : D) (m : Md), ρ[i]? = some (some (d, m)) → ∃ v, σ[i]? = some (some v) ∧ SlotOk K F H W i d v m
  apart : ∀ (i j : Nat) (d e : D) (m n : Md) (p : Addr), ρ[i]? = some (some (d, m)) → m ≠ .fz → ρ[j]? = some (some (e, n)) → n ≠ .fz → σ[i]? = some (some (.ref p)) → σ[j]? = some (some (.ref p)) → i = j
  wz : ∀ p ∈ W, p ∉ F.Z
  mt : ∀ p ∈ W ++ F.Z, MutO (H p)
  len : σ.length = ρ.length
structure Fr (W : List Addr) (H H' : Hp) : Prop where
  keep : ∀ b o, b ∉ W → H b = some o → H' b = some o
  dom : ∀ b, H' b = none → H b = none
theorem Fr.refl {W : List Addr} {H : Hp} : Fr W H H := ⟨fun _ _ _ h => h, fun _ h => h⟩
theorem Same.fr {W : List Addr} {H H' : Hp} (e : Same H H') : Fr W H H' := ⟨fun b o _ h => e b o h, fun b h => e.free h⟩
theorem Fr.trans {W W1 : List Addr} {H H1 H2 : Hp} (a : Fr W H H1) (b : Fr W1 H1 H2) (h : ∀ p ∈ W1, p ∈ W ∨ H p = none) : Fr W H H2 :=
  ⟨fun c o n e => b.keep c o (fun z => (h c z).elim n fun q => by rw [q] at e; cases e) (a.keep c o n e), fun c e => a.dom c (b.dom c e)⟩
theorem Fr.hid {W W' Z : List Addr} {H H' : Hp} (f : Fr W H H') (s : ∀ p ∈ W', p ∈ W ∨ H p = none) : Same (L2.hid (W ++ Z) H) (L2.hid (W' ++ Z) H') :=
  hid_same (fun b hb => by
    rcases List.mem_append.mp hb with q | q
    · exact (s b q).imp (fun z => List.mem_append_left _ z) id
    · exact .inl (List.mem_append_right _ q)) fun b o n e => f.keep b o (fun z => n (List.mem_append_left _ z)) e
section
variable {K : PySem.W.Frag} {F : Fx} {σ : St} {H H' : Hp} {ρ : Rho} {W : List Addr}
theorem MutO.some {o : Option HO} (h : MutO o) : ∃ u, o = Option.some u := by
  cases o with
  | none => exact h.elim
  | some u => exact ⟨u, rfl⟩
theorem Rel.same (R : Rel K F σ H ρ W) (e : Same H H') : Rel K F σ H' ρ W := by
  have eq : ∀ p, MutO (H p) → H' p = H p := fun p h => by obtain ⟨u, q⟩ := h.some; rw [q]; exact e _ _ q
  have sh : Same (hid (W ++ F.Z) H) (hid (W ++ F.Z) H') := hid_same (fun b hb => .inl hb) fun b o _ q => e b o q
  refine ⟨fun i d m h => ?_, R.apart, R.wz, fun p hp => by rw [eq p (R.mt p hp)]; exact R.mt p hp, R.len⟩
  obtain ⟨v, h1, h2⟩ := R.slot i d m h
  refine ⟨v, h1, ?_⟩
  cases m with
  | fz => exact sh.repD h2
  | ow => obtain ⟨p, e1, e2, e3⟩ := h2; exact ⟨p, e1, e2, e3.at (eq p e3.mu) sh⟩
  | io => obtain ⟨p, e1, e2, e3, e4⟩ := h2; exact ⟨p, e1, e2, e3.at (eq p e3.mu) sh, e4⟩
theorem Rel.fresh (R : Rel K F σ H ρ W) {p : Addr} (h : H p = none) : p ∉ W ++ F.Z := fun z => by
  have := R.mt p z
  rw [h] at this
  exact this
theorem set_get {α : Type} {l : List (Option α)} {i j : Nat} {o : Option α} {x : α} (h : (l.set i o)[j]? = some (some x)) : (j = i ∧ o = some x) ∨ (j ≠ i ∧ l[j]? = some (some x)) := by
  by_cases e : j = i
  · subst e
    rw [List.getElem?_set] at h
    split at h
    · split at h
      · exact .inl ⟨rfl, Option.some.inj h⟩
      · cases h
    · exact absurd rfl ‹_›
  · rw [List.getElem?_set_ne (Ne.symm e)] at h
    exact .inr ⟨e, h⟩
theorem Rel.freeze (R : Rel K F σ H ρ W) {i : Nat} {d : D} {p : Addr} (h : ρ[i]? = some (some (d, .ow))) (hp : σ[i]? = some (some (.ref p))) :
    Rel K F σ H (ρ.set i (some (d, .fz))) (W.filter fun a => decide (a ≠ p)) ∧ RepD K (hid ((W.filter fun a => decide (a ≠ p)) ++ F.Z) H) d (.ref p) := by
  obtain ⟨v, hv, q, rfl, hq, hO⟩ := R.slot i d .ow h
  rw [hp] at hv
  cases hv
  have sub : ∀ b, b ∈ W.filter (fun a => decide (a ≠ p)) → b ∈ W ∧ b ≠ p := fun b hb => by
    have := List.mem_filter.mp hb
    exact ⟨this.1, of_decide_eq_true this.2⟩
  have sh : Same (hid (W ++ F.Z) H) (hid ((W.filter fun a => decide (a ≠ p)) ++ F.Z) H) := hid_same (fun b hb => by
    rcases List.mem_append.mp hb with q | q
    · exact .inl (List.mem_append_left _ (sub b q).1)
    · exact .inl (List.mem_append_right _ q)) fun b o _ e => e
  have pn : p ∉ (W.filter fun a => decide (a ≠ p)) ++ F.Z := fun z => by
    rcases List.mem_append.mp z with q | q
    · exact (sub p q).2 rfl
    · exact R.wz p hq q
  have rep : RepD K (hid ((W.filter fun a => decide (a ≠ p)) ++ F.Z) H) d (.ref p) := hO.rep (hid_ne pn) sh
  refine ⟨⟨fun j e m hj => ?_, fun j k e f m n r h1 h2 h3 h4 h5 h6 => ?_, fun r hr => R.wz r (sub r hr).1, fun r hr => ?_, by rw [List.length_set]; exact R.len⟩, rep⟩
  · rcases set_get hj with ⟨rfl, e1⟩ | ⟨ne, e1⟩
    · cases e1
      exact ⟨_, hp, rep⟩
    · obtain ⟨v, g1, g2⟩ := R.slot j e m e1
      refine ⟨v, g1, ?_⟩
      have other : ∀ r, v = .ref r → m ≠ .fz → r ≠ p := fun r er hm z => by
        subst er z
        exact ne (R.apart j i _ _ _ _ _ e1 hm h (by decide) g1 hp)
      cases m with
      | fz => exact sh.repD g2
      | ow => obtain ⟨r, e2, e3, e4⟩ := g2; exact ⟨r, e2, List.mem_filter.mpr ⟨e3, decide_eq_true (other r e2 (by decide))⟩, e4.at rfl sh⟩
      | io => obtain ⟨r, e2, e3, e4, e5⟩ := g2; exact ⟨r, e2, List.mem_filter.mpr ⟨e3, decide_eq_true (other r e2 (by decide))⟩, e4.at rfl sh, e5⟩
  · rcases set_get h1 with ⟨rfl, z⟩ | ⟨_, z⟩
    · cases z; exact absurd rfl h2
    · rcases set_get h3 with ⟨rfl, z'⟩ | ⟨_, z'⟩
      · cases z'; exact absurd rfl h4
      · exact R.apart j k _ _ _ _ _ z h2 z' h4 h5 h6
  · rcases List.mem_append.mp hr with q | q
    · exact R.mt r (List.mem_append_left _ (sub r q).1)
    · exact R.mt r (List.mem_append_right _ q)
theorem Rel.write (R : Rel K F σ H ρ W) {i : Nat} {d d' : D} {m : Md} {p : Addr} {o : HO} (h : ρ[i]? = some (some (d, m))) (hm : m ≠ .fz) (hp : σ[i]? = some (some (.ref p))) (new : OwnAt K (upd H p o) (hid (W ++ F.Z) H) p d') :
    Rel K F σ (upd H p o) (ρ.set i (some (d', m))) W ∧ Fr W H (upd H p o) := by
  obtain ⟨v, hv, hS⟩ := R.slot i d m h
  rw [hp] at hv
  cases hv
  have hw : p ∈ W := by
    cases m with
    | fz => exact absurd rfl hm
    | ow => obtain ⟨r, e2, e3, _⟩ := hS; cases e2; exact e3
    | io => obtain ⟨r, e2, e3, _⟩ := hS; cases e2; exact e3
  have hh : hid (W ++ F.Z) (upd H p o) = hid (W ++ F.Z) H := hid_upd (List.mem_append_left _ hw)
  refine ⟨⟨fun j e n hj => ?_, fun j k e f n n' r h1 h2 h3 h4 h5 h6 => ?_, R.wz, fun r hr => ?_, by rw [List.length_set]; exact R.len⟩, fun b u nb e => ?_, fun b e => ?_⟩
  · rcases set_get hj with ⟨rfl, e1⟩ | ⟨ne, e1⟩
    · cases e1
      refine ⟨_, hp, ?_⟩
      cases m with
      | fz => exact absurd rfl hm
      | ow => exact ⟨p, rfl, hw, by rw [hh]; exact new⟩
      | io => obtain ⟨r, e2, e3, e4, e5⟩ := hS; cases e2; exact ⟨p, rfl, hw, by rw [hh]; exact new, e5⟩
    · obtain ⟨v, g1, g2⟩ := R.slot j e n e1
      refine ⟨v, g1, ?_⟩
      have other : ∀ r, v = .ref r → n ≠ .fz → r ≠ p := fun r er hn z => by
        subst er z
        exact ne (R.apart j i _ _ _ _ _ e1 hn h hm g1 hp)
      cases n with
      | fz => show RepD K (hid (W ++ F.Z) (upd H p o)) e v; rw [hh]; exact g2
      | ow => obtain ⟨r, e2, e3, e4⟩ := g2; exact ⟨r, e2, e3, e4.at (upd_ne (other r e2 (by decide))) (by rw [hh]; exact Same.refl _)⟩
      | io => obtain ⟨r, e2, e3, e4, e5⟩ := g2; exact ⟨r, e2, e3, e4.at (upd_ne (other r e2 (by decide))) (by rw [hh]; exact Same.refl _), e5⟩
  · have fnd : ∀ {j : Nat} {e : D} {n : Md}, (ρ.set i (some (d', m)))[j]? = some (some (e, n)) → n ≠ .fz → ∃ e', ρ[j]? = some (some (e', n)) := fun {j e n} hj hn => by
      rcases set_get hj with ⟨rfl, e1⟩ | ⟨_, e1⟩
      · cases e1; exact ⟨d, h⟩
      · exact ⟨_, e1⟩
    obtain ⟨_, z1⟩ := fnd h1 h2
    obtain ⟨_, z2⟩ := fnd h3 h4
    exact R.apart j k _ _ _ _ _ z1 h2 z2 h4 h5 h6
  · by_cases e : r = p
    · subst e; exact new.mu
    · rw [upd_ne e]; exact R.mt r hr
  · rw [upd_ne (fun z => by subst z; exact nb hw)]; exact e
  · by_cases z : b = p
    · subst z; rw [upd_same] at e; cases e
    · rw [upd_ne z] at e; exact e
theorem Rel.put (R : Rel K F σ H ρ W) {i : Nat} {d : D} {v : V} (hi : i < σ.length) (r : RepD K (hid (W ++ F.Z) H) d v) : Rel K F (σ.set i (some v)) H (ρ.set i (some (d, .fz))) W := by
  refine ⟨fun j e m hj => ?_, fun j k e f m n p h1 h2 h3 h4 h5 h6 => ?_, R.wz, R.mt, by rw [List.length_set, List.length_set]; exact R.len⟩
  · rcases set_get hj with ⟨rfl, e1⟩ | ⟨ne, e1⟩
    · cases e1
      exact ⟨v, List.getElem?_set_self hi, r⟩
    · obtain ⟨v', g1, g2⟩ := R.slot j e m e1
      exact ⟨v', by rw [List.getElem?_set_ne (Ne.symm ne)]; exact g1, g2⟩
  · rcases set_get h1 with ⟨rfl, z⟩ | ⟨n1, z⟩
    · cases z; exact absurd rfl h2
    · rcases set_get h3 with ⟨rfl, z'⟩ | ⟨n2, z'⟩
      · cases z'; exact absurd rfl h4
      · rw [List.getElem?_set_ne (Ne.symm n1)] at h5
        rw [List.getElem?_set_ne (Ne.symm n2)] at h6
        exact R.apart j k _ _ _ _ _ z h2 z' h4 h5 h6
theorem Rel.own {p : Addr} (R : Rel K F σ (hid [p] H) ρ W) {i : Nat} {d : D} (hi : i < σ.length) (hp : p ∉ W ++ F.Z) (r : OwnAt K H (hid (p :: (W ++ F.Z)) H) p d) : Rel K F (σ.set i (some (.ref p))) H (ρ.set i (some (d, .ow))) (p :: W) := by
  have hh : hid (W ++ F.Z) (hid [p] H) = hid ((p :: W) ++ F.Z) H := by
    funext b
    unfold hid
    by_cases z : b = p
    · subst z
      rw [if_neg hp]
      simp
    · by_cases z2 : b ∈ W ++ F.Z
      · rw [if_pos z2, if_pos (by rw [List.cons_append]; exact List.mem_cons_of_mem _ z2)]
      · rw [if_neg z2, if_neg (by simpa using z), if_neg (by rw [List.cons_append]; exact fun q => (List.mem_cons.mp q).elim z z2)]
  have neq : ∀ r, r ∈ W ++ F.Z → hid [p] H r = H r := fun r hr => hid_ne (by
    intro z
    have z : r = p := by simpa using z
    subst z; exact hp hr)
  refine ⟨fun j e m hj => ?_, fun j k e f m n q h1 h2 h3 h4 h5 h6 => ?_, fun q hq => ?_, fun q hq => ?_, by rw [List.length_set, List.length_set]; exact R.len⟩
  · rcases set_get hj with ⟨rfl, e1⟩ | ⟨ne, e1⟩
    · cases e1
      exact ⟨_, List.getElem?_set_self hi, p, rfl, List.mem_cons_self, r⟩
    · obtain ⟨v', g1, g2⟩ := R.slot j e m e1
      refine ⟨v', by rw [List.getElem?_set_ne (Ne.symm ne)]; exact g1, ?_⟩
      cases m with
      | fz => show RepD K (hid ((p :: W) ++ F.Z) H) e v'; rw [← hh]; exact g2
      | ow => obtain ⟨r, e2, e3, e4⟩ := g2; exact ⟨r, e2, List.mem_cons_of_mem _ e3, e4.at (neq r (List.mem_append_left _ e3)).symm (by rw [hh]; exact Same.refl _)⟩
      | io => obtain ⟨r, e2, e3, e4, e5⟩ := g2; exact ⟨r, e2, List.mem_cons_of_mem _ e3, e4.at (neq r (List.mem_append_left _ e3)).symm (by rw [hh]; exact Same.refl _), e5⟩
  · have inW : ∀ {j : Nat} {e : D} {m : Md}, ρ[j]? = some (some (e, m)) → m ≠ .fz → σ[j]? = some (some (.ref p)) → False := fun {j e m} h1 h2 h3 => by
      obtain ⟨v, g1, g2⟩ := R.slot j e m h1
      rw [h3] at g1; cases g1
      cases m with
      | fz => exact h2 rfl
      | ow => obtain ⟨r, e2, e3, _⟩ := g2; cases e2; exact hp (List.mem_append_left _ e3)
      | io => obtain ⟨r, e2, e3, _⟩ := g2; cases e2; exact hp (List.mem_append_left _ e3)
    rcases set_get h1 with ⟨rfl, z⟩ | ⟨n1, z⟩
    · rw [List.getElem?_set_self hi] at h5
      cases h5
      rcases set_get h3 with ⟨rfl, z'⟩ | ⟨n2, z'⟩
      · rfl
      · rw [List.getElem?_set_ne (Ne.symm n2)] at h6
        exact (inW z' h4 h6).elim
    · rw [List.getElem?_set_ne (Ne.symm n1)] at h5
      rcases set_get h3 with ⟨rfl, z'⟩ | ⟨n2, z'⟩
      · rw [List.getElem?_set_self hi] at h6
        cases h6
        exact (inW z h2 h5).elim
      · rw [List.getElem?_set_ne (Ne.symm n2)] at h6
        exact R.apart j k _ _ _ _ _ z h2 z' h4 h5 h6
  · rcases List.mem_cons.mp hq with rfl | hq
    · exact fun z => hp (List.mem_append_right _ z)
    · exact R.wz q hq
  · rcases List.mem_cons.mp (show q ∈ p :: (W ++ F.Z) from hq) with rfl | hq
    · exact r.mu
    · have := R.mt q hq
      rw [neq q hq] at this
      exact this
end
end L2
namespace L2
open PySem PySem.Spec PyProof.Rows
theorem PE.by {X : Cx} {e : Expr} {t t' : TE} (h : PE X e t) (hi : ∀ σ H Q, t' σ H Q → t σ H Q) : PE X e t' := fun pins s σ H Q I hw => h pins s σ H Q I (hi σ H Q hw)
theorem PT.by {X : Cx} {e : Expr} {t t' : TT} (h : PT X e t) (hi : ∀ σ H Q, t' σ H Q → t σ H Q) : PT X e t' := fun pins s σ H Q I hw => h pins s σ H Q I (hi σ H Q hw)
inductive Res where
  | ok (d : D) (nw : Bool) | ex (C : Str)
inductive ResA where
  | ok (ds : List D) | ex (C : Str)
inductive ResT where
  | ok (b : Bool) | ex (C : Str)
abbrev SE := Rho → Option (Res × Rho)
abbrev ST := Rho → Option (ResT × Rho)
abbrev EXT := Str → St → Hp → Prop
section
variable (K : PySem.W.Frag) (F : Fx) (EX : EXT) (σ : St) (H : Hp) (W : List Addr)
def PostE (H' : Hp) (ρ' : Rho) (W' : List Addr) (d : D) : Bool → V → Prop
  | false, v => RepD K (hid (W' ++ F.Z) H') d v ∧ Rel K F σ H' ρ' W'
  | true, v => ∃ p, v = .ref p ∧ H p = none ∧ p ∉ W' ++ F.Z ∧ OwnAt K H' (hid (p :: (W' ++ F.Z)) H') p d ∧ Rel K F σ (hid [p] H') ρ' W'
def OkV (o : Option (Res × Rho)) (Q : VK) : Prop := match o with
  | some (.ok d nw, ρ') => ∀ v H' W', Fr W H H' → (∀ p ∈ W', p ∈ W) → PostE K F σ H H' ρ' W' d nw v → Q v H'
  | some (.ex C, ρ') => ∀ H' W', Fr W H H' → (∀ p ∈ W', p ∈ W) → Rel K F σ H' ρ' W' → EX C σ H'
  | none => False
def OkT (o : Option (ResT × Rho)) (Q : Bool → Hp → Prop) : Prop := match o with
  | some (.ok b, ρ') => ∀ H' W', Fr W H H' → (∀ p ∈ W', p ∈ W) → Rel K F σ H' ρ' W' → Q b H'
  | some (.ex C, ρ') => ∀ H' W', Fr W H H' → (∀ p ∈ W', p ∈ W) → Rel K F σ H' ρ' W' → EX C σ H'
  | none => False
end
def tV (K : PySem.W.Frag) (EX : EXT) (f : SE) : TE := fun σ H Q => ∃ F ρ W, Rel K F σ H ρ W ∧ OkV K F EX σ H W (f ρ) Q
def tVT (K : PySem.W.Frag) (EX : EXT) (f : ST) : TT := fun σ H Q => ∃ F ρ W, Rel K F σ H ρ W ∧ OkT K F EX σ H W (f ρ) Q
structure JE (X : Cx) (EX : EXT) (e : Expr) (f : SE) : Prop where
  p : PE X e (tV X.K EX f)
structure JT (X : Cx) (EX : EXT) (e : Expr) (f : ST) : Prop where
  p : PT X e (tVT X.K EX f)
structure JW (X : Cx) (EX : EXT) (e : Expr) (f : ST) : Prop where
  p : PW X e (tVT X.K EX f)
inductive Arg where
  | ex (f : SE) | bor (i : Nat)
def tArg (K : PySem.W.Frag) (EX : EXT) : Arg → TE
  | .ex f => tV K EX f
  | .bor i => tVar i
def tAs (K : PySem.W.Frag) (EX : EXT) : List Arg → TA
  | [] => tNil
  | a :: as => tCons (tArg K EX a) (tAs K EX as)
structure JB (X : Cx) (EX : EXT) (e : Expr) (a : Arg) : Prop where
  p : PE X e (tArg X.K EX a)
structure JA (X : Cx) (EX : EXT) (es : List Expr) (as : List Arg) : Prop where
  p : PA X es (tAs X.K EX as)
def evA : List Arg → Rho → Option (ResA × Rho)
  | [], ρ => some (.ok [], ρ)
  | .ex f :: as, ρ => match f ρ with
    | some (.ok d _, ρ1) => match evA as ρ1 with
      | some (.ok ds, ρ2) => some (.ok (d :: ds), ρ2)
      | some (.ex C, ρ2) => some (.ex C, ρ2)
      | none => none
    | some (.ex C, ρ1) => some (.ex C, ρ1)
    | none => none
  | .bor i :: as, ρ => match ρ[i]? with
    | some (some _) => match evA as ρ with
      | some (.ok ds, ρ2) => match ρ2[i]? with
        | some (some (d, _)) => some (.ok (d :: ds), ρ2)
        | _ => none
      | some (.ex C, ρ2) => some (.ex C, ρ2)
      | none => none
    | _ => none
def RepB (K : PySem.W.Frag) (H Hh : Hp) : D → V → Prop
  | .lst ds, v => ∃ p xs, v = .ref p ∧ H p = some (.lst xs) ∧ RepDs K Hh ds xs
  | .dK ks ds, v => ∃ p xs, v = .ref p ∧ H p = some (.dK (ks.zip xs)) ∧ ks.length = xs.length ∧ RepDs K Hh ds xs
  | .dT ks ds, v => ∃ p xs, v = .ref p ∧ H p = some (.dT (ks.zip xs)) ∧ ks.length = xs.length ∧ RepDs K Hh ds xs
  | d, v => RepD K Hh d v
def RepBs (K : PySem.W.Frag) (H Hh : Hp) : List D → List V → Prop
  | [], [] => True
  | d :: ds, x :: xs => RepB K H Hh d x ∧ RepBs K H Hh ds xs
  | _, _ => False
section
variable {K : PySem.W.Frag} {F : Fx} {EX : EXT} {σ : St} {H H' Hh Hh' : Hp} {ρ ρ' : Rho} {W W' : List Addr}
theorem RepD.b {d : D} {v : V} (r : RepD K Hh d v) (s : Same Hh H) : RepB K H Hh d v := by
  cases d <;> first
    | exact r
    | (obtain ⟨p, xs, h1, h2, h3, h4⟩ := r; exact ⟨p, xs, h1, s _ _ h2, h3, h4⟩)
    | (obtain ⟨p, xs, h1, h2, h3⟩ := r; exact ⟨p, xs, h1, s _ _ h2, h3⟩)
theorem OwnAt.b {p : Addr} {d : D} (h : OwnAt K H Hh p d) : RepB K H Hh d (.ref p) := by
  cases d <;> first
    | exact h.elim
    | (obtain ⟨xs, h1, h2, h3⟩ := h; exact ⟨p, xs, rfl, h1, h2, h3⟩)
    | (obtain ⟨xs, h1, h2⟩ := h; exact ⟨p, xs, rfl, h1, h2⟩)
theorem RepB.d {d : D} {v : V} (r : RepB K H Hh d v) (s : Same Hh H) : RepD K H d v := by
  cases d <;> first
    | exact s.repD r
    | (obtain ⟨p, xs, h1, h2, h3, h4⟩ := r; exact ⟨p, xs, h1, h2, h3, s.repDs h4⟩)
    | (obtain ⟨p, xs, h1, h2, h3⟩ := r; exact ⟨p, xs, h1, h2, s.repDs h3⟩)
theorem SlotOk.b {i : Nat} {d : D} {v : V} {m : Md} (h : SlotOk K F H W i d v m) : RepB K H (hid (W ++ F.Z) H) d v := by
  cases m with
  | fz => exact RepD.b h hid_sub
  | ow => obtain ⟨p, rfl, _, h⟩ := h; exact h.b
  | io => obtain ⟨p, rfl, _, h, _⟩ := h; exact h.b
theorem PostE.plain {H0 : Hp} {d : D} {nw : Bool} {v : V} (h : PostE K F σ H0 H ρ W d nw v) : RepD K (hid (W ++ F.Z) H) d v ∧ Rel K F σ H ρ W := by
  cases nw with
  | false => exact h
  | true =>
    obtain ⟨p, rfl, _, hp, hO, R⟩ := h
    refine ⟨hO.rep (hid_ne hp) (hid_same (fun b hb => .inl (List.mem_cons_of_mem _ hb)) fun b o _ e => e), R.same hid_sub⟩
variable (K F EX) in
def OkAs (σ : St) (H : Hp) (W : List Addr) (o : Option (ResA × Rho)) (Q : List V → Hp → Prop) : Prop := match o with
  | some (.ok ds, ρ') => ∀ vs H' W', Fr W H H' → (∀ p ∈ W', p ∈ W) → Rel K F σ H' ρ' W' → RepBs K H' (hid (W' ++ F.Z) H') ds vs → Q vs H'
  | some (.ex C, ρ') => ∀ H' W', Fr W H H' → (∀ p ∈ W', p ∈ W) → Rel K F σ H' ρ' W' → EX C σ H'
  | none => False
theorem as_ok : ∀ (as : List Arg) {H : Hp} {ρ : Rho} {W : List Addr} {Q : List V → Hp → Prop}, Rel K F σ H ρ W → OkAs K F EX σ H W (evA as ρ) Q → tAs K EX as σ H Q
  | [], H, ρ, W, Q, R, h => h [] H W .refl (fun _ z => z) R trivial
  | .ex f :: as, H, ρ, W, Q, R, h => by
    refine ⟨F, ρ, W, R, ?_⟩
    unfold evA at h
    revert h
    cases f ρ with
    | none => exact fun h => h
    | some r =>
      obtain ⟨r, ρ1⟩ := r
      cases r with
      | ex C => exact fun h => h
      | ok d nw =>
        intro h v H1 W1 fr sub post
        obtain ⟨rd, R1⟩ := post.plain
        refine as_ok as R1 ?_
        revert h
        dsimp only
        cases evA as ρ1 with
        | none => exact fun h => h
        | some q =>
          obtain ⟨q, ρ2⟩ := q
          cases q with
          | ex C => exact fun h H2 W2 fr2 sub2 R2 => h H2 W2 (fr.trans fr2 fun p hp => .inl (sub p hp)) (fun p hp => sub p (sub2 p hp)) R2
          | ok ds =>
            intro h vs H2 W2 fr2 sub2 R2 reps
            exact h (v :: vs) H2 W2 (fr.trans fr2 fun p hp => .inl (sub p hp)) (fun p hp => sub p (sub2 p hp)) R2 ⟨RepD.b ((fr2.hid fun p hp => .inl (sub2 p hp)).repD rd) hid_sub, reps⟩
  | .bor i :: as, H, ρ, W, Q, R, h => by
    unfold evA at h
    revert h
    cases e : ρ[i]? with
    | none => exact fun h => h.elim
    | some z =>
      cases z with
      | none => exact fun h => h.elim
      | some dm =>
        obtain ⟨d0, m0⟩ := dm
        obtain ⟨v, hv, _⟩ := R.slot i d0 m0 e
        intro h
        refine ⟨v, hv, as_ok as R ?_⟩
        revert h
        dsimp only
        cases evA as ρ with
        | none => exact fun h => h
        | some q =>
          obtain ⟨q, ρ2⟩ := q
          cases q with
          | ex C => exact fun h => h
          | ok ds =>
            dsimp only
            cases e2 : ρ2[i]? with
            | none => exact fun h => h.elim
            | some z =>
              cases z with
              | none => exact fun h => h.elim
              | some dm =>
                obtain ⟨d, m⟩ := dm
                intro h vs H2 W2 fr2 sub2 R2 reps
                obtain ⟨v2, hv2, ok2⟩ := R2.slot i d m e2
                rw [hv] at hv2
                cases hv2
                exact h (v :: vs) H2 W2 fr2 sub2 R2 ⟨ok2.b, reps⟩
variable (K F EX) in
def OkFs (σ : St) (H : Hp) (W : List Addr) (o : Option (ResA × Rho)) (Q : List V → Hp → Prop) : Prop := match o with
  | some (.ok ds, ρ') => ∀ vs H' W', Fr W H H' → (∀ p ∈ W', p ∈ W) → Rel K F σ H' ρ' W' → RepDs K (hid (W' ++ F.Z) H') ds vs → Q vs H'
  | some (.ex C, ρ') => ∀ H' W', Fr W H H' → (∀ p ∈ W', p ∈ W) → Rel K F σ H' ρ' W' → EX C σ H'
  | none => False
theorem fs_ok : ∀ (fs : List SE) {H : Hp} {ρ : Rho} {W : List Addr} {Q : List V → Hp → Prop}, Rel K F σ H ρ W → OkFs K F EX σ H W (evA (fs.map Arg.ex) ρ) Q → tAs K EX (fs.map Arg.ex) σ H Q
  | [], H, ρ, W, Q, R, h => h [] H W .refl (fun _ z => z) R trivial
  | f :: fs, H, ρ, W, Q, R, h => by
    refine ⟨F, ρ, W, R, ?_⟩
    rw [List.map_cons] at h
    unfold evA at h
    revert h
    cases f ρ with
    | none => exact fun h => h
    | some r =>
      obtain ⟨r, ρ1⟩ := r
      cases r with
      | ex C => exact fun h => h
      | ok d nw =>
        intro h v H1 W1 fr sub post
        obtain ⟨rd, R1⟩ := post.plain
        refine fs_ok fs R1 ?_
        revert h
        dsimp only
        cases evA (fs.map Arg.ex) ρ1 with
        | none => exact fun h => h
        | some q =>
          obtain ⟨q, ρ2⟩ := q
          cases q with
          | ex C => exact fun h H2 W2 fr2 sub2 R2 => h H2 W2 (fr.trans fr2 fun p hp => .inl (sub p hp)) (fun p hp => sub p (sub2 p hp)) R2
          | ok ds =>
            intro h vs H2 W2 fr2 sub2 R2 reps
            exact h (v :: vs) H2 W2 (fr.trans fr2 fun p hp => .inl (sub p hp)) (fun p hp => sub p (sub2 p hp)) R2 ⟨(fr2.hid fun p hp => .inl (sub2 p hp)).repD rd, reps⟩
end
def PostD (K : PySem.W.Frag) (H H' : Hp) (L : List Addr) (d : D) : Bool → V → Prop
  | false, v => RepD K (hid L H') d v
  | true, v => ∃ p, v = .ref p ∧ H p = none ∧ OwnAt K H' (hid (p :: L) H') p d
def OpS (K : PySem.W.Frag) (r : List V → Hp → VK → Prop) (g : List D → Option (D × Bool)) : Prop :=
  ∀ vs ds H L Q d nw, (∀ p ∈ L, MutO (H p)) → RepBs K H (hid L H) ds vs → g ds = some (d, nw) → (∀ v H', Same H H' → PostD K H H' L d nw v → Q v H') → r vs H Q
def sOp (g : List D → Option (D × Bool)) (as : List Arg) : SE := fun ρ => match evA as ρ with
  | some (.ok ds, ρ') => match g ds with
    | some (d, nw) => some (.ok d nw, ρ')
    | none => none
  | some (.ex C, ρ') => some (.ex C, ρ')
  | none => none
section
variable {K : PySem.W.Frag} {F : Fx} {EX : EXT} {σ : St} {H H' : Hp} {ρ ρ' : Rho} {W W' : List Addr} {Q : VK}
theorem PostD.e {d : D} {nw : Bool} {v : V} (h : PostD K H H' (W ++ F.Z) d nw v) (R : Rel K F σ H ρ W) (s : Same H H') : PostE K F σ H H' ρ W d nw v := by
  cases nw with
  | false => exact ⟨h, R.same s⟩
  | true =>
    obtain ⟨p, rfl, hp, hO⟩ := h
    refine ⟨p, rfl, hp, R.fresh hp, hO, R.same fun b o e => ?_⟩
    rw [hid_ne (by intro z; have z : b = p := by simpa using z
                   subst z; rw [hp] at e; cases e)]
    exact s b o e
theorem PostE.back {H0 : Hp} {d : D} {nw : Bool} {v : V} (h : PostE K F σ H H' ρ W d nw v) (fr : ∀ b, H b = none → H0 b = none) : PostE K F σ H0 H' ρ W d nw v := by
  cases nw with
  | false => exact h
  | true => obtain ⟨p, h1, h2, h3⟩ := h; exact ⟨p, h1, fr p h2, h3⟩
theorem op_args {r : List V → Hp → VK → Prop} {g : List D → Option (D × Bool)} {as : List Arg} (hs : OpS K r g) (R : Rel K F σ H ρ W) (h : OkV K F EX σ H W (sOp g as ρ) Q) : tAs K EX as σ H (fun vs H2 => r vs H2 Q) := by
  refine as_ok as R ?_
  unfold sOp at h
  revert h
  cases evA as ρ with
  | none => exact fun h => h
  | some q =>
    obtain ⟨q, ρ2⟩ := q
    cases q with
    | ex C => exact fun h => h
    | ok ds =>
      dsimp only
      cases e : g ds with
      | none => exact fun h => h.elim
      | some z =>
        obtain ⟨d, nw⟩ := z
        intro h vs H2 W2 fr2 sub2 R2 reps
        exact hs vs ds H2 (W2 ++ F.Z) Q d nw R2.mt reps e fun v H3 s3 post => h v H3 W2 (fr2.trans (s3.fr (W := W2)) fun p hp => .inl (sub2 p hp)) sub2 ((post.e R2 s3).back fr2.dom)
end
def r2 (r : R2) : List V → Hp → VK → Prop
  | [x, y], H, Q => r x y H Q
  | _, _, _ => False
section
variable {X : Cx} {EX : EXT} {a b e : Expr} {es : List Expr} {pos : Pos} {x y : Arg} {as : List Arg}
theorem ca_nil : JA X EX [] [] := ⟨pa_nil⟩
theorem ca_cons (h : JB X EX e x) (t : JA X EX es as) (hs : starEach (e :: es) X.env = (false, eval e X.env) :: starEach es X.env := by rfl) : JA X EX (e :: es) (x :: as) := ⟨pa_cons h.p t.p hs⟩
theorem cb_ex {f : SE} (h : JE X EX e f) : JB X EX e (.ex f) := ⟨h.p⟩
theorem cb_var {i : Nat} {n : Str} (hN : X.N[i]? = some n) (hv : Vis X.env.scope n) (hd : (n == ("__debug__" : Str)) = false := by decide) (hcd : (n == ("__classdict__" : Str)) = false := by decide) : JB X EX (.Name n pos) (.bor i) := ⟨pe_var hN hv hd hcd⟩
def sC (d : D) : SE := fun ρ => some (.ok d false, ρ)
theorem tC_ok {v : V} {d : D} (h : ∀ H, RepD X.K H d v) {σ : St} {H : Hp} {Q : VK} (hw : tV X.K EX (sC d) σ H Q) : tC v σ H Q := by
  obtain ⟨F, ρ, W, R, h2⟩ := hw
  exact h2 v H W .refl (fun _ z => z) ⟨h _, R⟩
theorem c_int {i : Int} {j pos} : JE X EX (.Constant (.int i) j pos) (sC (.int i)) := ⟨pe_int.by fun _ _ _ => tC_ok (d := (.int i)) (v := (.int i)) fun _ => rfl⟩
theorem c_bl {i : Bool} {j pos} : JE X EX (.Constant (.bool i) j pos) (sC (.bl i)) := ⟨pe_bl.by fun _ _ _ => tC_ok (d := (.bl i)) (v := (.bl i)) fun _ => rfl⟩
theorem c_non {j pos} : JE X EX (.Constant .none j pos) (sC .non) := ⟨pe_non.by fun _ _ _ => tC_ok (d := .non) (v := .non) fun _ => rfl⟩
def sVar (i : Nat) : SE := fun ρ => match ρ[i]? with
  | some (some (d, .fz)) => some (.ok d false, ρ)
  | some (some (d, .ow)) => some (.ok d false, ρ.set i (some (d, .fz)))
  | _ => none
theorem c_var {i : Nat} {n : Str} (hN : X.N[i]? = some n) (hv : Vis X.env.scope n) (hd : (n == ("__debug__" : Str)) = false := by decide) (hcd : (n == ("__classdict__" : Str)) = false := by decide) : JE X EX (.Name n pos) (sVar i) := by
  refine ⟨(pe_var hN hv hd hcd).by fun σ H Q hw => ?_⟩
  obtain ⟨F, ρ, W, R, h⟩ := hw
  unfold sVar at h
  revert h
  cases e : ρ[i]? with
  | none => exact fun h => h.elim
  | some z =>
    cases z with
    | none => exact fun h => h.elim
    | some z =>
      obtain ⟨d, m⟩ := z
      obtain ⟨v, hv, ok⟩ := R.slot i d m e
      cases m with
      | io => exact fun h => h.elim
      | fz => exact fun h => ⟨v, hv, h v H W .refl (fun _ z => z) ⟨ok, R⟩⟩
      | ow =>
        intro h
        obtain ⟨p, rfl, hp, hO⟩ := ok
        obtain ⟨R', rp⟩ := R.freeze e hv
        exact ⟨_, hv, h _ H _ .refl (fun q hq => (List.mem_filter.mp hq).1) ⟨rp, R'⟩⟩
theorem c_op {op : Operator} {r : R2} {g : List D → Option (D × Bool)} (ho : OpR X (binaryOp op) r) (hs : OpS X.K (r2 r) g) (ha : JB X EX a x) (hb : JB X EX b y) : JE X EX (.BinOp a op b pos) (sOp g [x, y]) :=
  ⟨(pe_op ho ha.p hb.p).by fun σ H Q ⟨F, ρ, W, R, h⟩ => op_args hs R h⟩
theorem c_cmp {op : CmpOp} {r : R2} {g : List D → Option (D × Bool)} (ho : OpR X (compareOp op) r) (hs : OpS X.K (r2 r) g) (ha : JB X EX a x) (hb : JB X EX b y) (hm : behindInMarks op b = false) : JE X EX (.Compare a [op] [b] pos) (sOp g [x, y]) :=
  ⟨(pe_cmpR ho ha.p hb.p hm).by fun σ H Q ⟨F, ρ, W, R, h⟩ => op_args hs R h⟩
theorem c_ix {r : R2} {g : List D → Option (D × Bool)} (ho : IxR X r) (hs : OpS X.K (r2 r) g) (ha : JB X EX a x) (hb : JB X EX b y) (hp : PlainIx b := by exact fun _ _ => rfl) : JE X EX (.Subscript a b pos) (sOp g [x, y]) :=
  ⟨(pe_ix ho ha.p hb.p hp).by fun σ H Q ⟨F, ρ, W, R, h⟩ => op_args hs R h⟩
theorem c_callB {id : String} {n : Str} {p : Pos} {r : List V → Hp → VK → Prop} {g : List D → Option (D × Bool)} (ho : CallR X (.builtin id) r) (hs : OpS X.K r g) (hg : Gl X n) (hm : X.mg n = none) (hv : bootBuiltins n = some (.builtin id)) (ha : JA X EX (e :: es) as) (hn : n ≠ "__name__" := by decide) (hdb : (n == ("__debug__" : Str)) = false := by decide)
    (he : starEach (e :: es) X.env = (false, eval e X.env) :: starEach es X.env := by rfl) (hpl : (backTo pos (starEach es X.env)).any (·.1) = false := by rfl) : JE X EX (.Call (.Name n p) (e :: es) [] pos) (sOp g as) :=
  ⟨(pe_callB ho hg hm hv ha.p hn hdb he hpl).by fun σ H Q ⟨F, ρ, W, R, h⟩ => op_args hs R h⟩
theorem c_callTy {T : String} {n : Str} {p : Pos} {r : List V → Hp → VK → Prop} {g : List D → Option (D × Bool)} (ho : CallR X (.type T) r) (hs : OpS X.K r g) (hg : Gl X n) (hm : X.mg n = none) (hv : bootBuiltins n = some (.type T)) (ha : JA X EX (e :: es) as) (hn : n ≠ "__name__" := by decide) (hdb : (n == ("__debug__" : Str)) = false := by decide)
    (he : starEach (e :: es) X.env = (false, eval e X.env) :: starEach es X.env := by rfl) (hpl : (backTo pos (starEach es X.env)).any (·.1) = false := by rfl) : JE X EX (.Call (.Name n p) (e :: es) [] pos) (sOp g as) :=
  ⟨(pe_callTy ho hg hm hv ha.p hn hdb he hpl).by fun σ H Q ⟨F, ρ, W, R, h⟩ => op_args hs R h⟩
def sTup (fs : List SE) : SE := fun ρ => match evA (fs.map Arg.ex) ρ with
  | some (.ok ds, ρ') => some (.ok (.tup ds) false, ρ')
  | some (.ex C, ρ') => some (.ex C, ρ')
  | none => none
def sLst (fs : List SE) : SE := fun ρ => match evA (fs.map Arg.ex) ρ with
  | some (.ok ds, ρ') => some (.ok (.lst ds) true, ρ')
  | some (.ex C, ρ') => some (.ex C, ρ')
  | none => none
inductive JF (X : Cx) (EX : EXT) : List Expr → List SE → Prop where
  | nil : JF X EX [] []
  | cons {e : Expr} {es : List Expr} {f : SE} {fs : List SE} (h : JE X EX e f) (t : JF X EX es fs) (hs : starEach (e :: es) X.env = (false, eval e X.env) :: starEach es X.env := by rfl) : JF X EX (e :: es) (f :: fs)
theorem JF.p {fs : List SE} (h : JF X EX es fs) : PA X es (tAs X.K EX (fs.map Arg.ex)) := by
  induction h with
  | nil => exact pa_nil
  | cons h t hs ih => exact pa_cons h.p ih hs
theorem evA_len : ∀ {fs : List SE} {ρ ρ' : Rho} {ds : List D}, evA (fs.map Arg.ex) ρ = some (.ok ds, ρ') → ds.length = fs.length
  | [], ρ, ρ', ds, h => by
    have h : some (ResA.ok [], ρ) = some (.ok ds, ρ') := h
    cases h; rfl
  | f :: fs, ρ, ρ', ds, h => by
    rw [List.map_cons] at h
    unfold evA at h
    revert h
    cases f ρ with
    | none => intro h; cases h
    | some r =>
      obtain ⟨r, ρ1⟩ := r
      cases r with
      | ex C => intro h; cases h
      | ok d nw =>
        dsimp only
        cases e : evA (fs.map Arg.ex) ρ1 with
        | none => intro h; cases h
        | some q =>
          obtain ⟨q, ρ2⟩ := q
          cases q with
          | ex C => intro h; cases h
          | ok ds2 => intro h; cases h; rw [List.length_cons, List.length_cons, evA_len e]
theorem c_tup {fs : List SE} {x1} (h : JF X EX es fs) (hl : fs.length ≤ 1000 := by decide) : JE X EX (.Tuple es x1 pos) (sTup fs) :=
  ⟨(pe_tup h.p).by fun σ H Q ⟨F, ρ, W, R, h⟩ => by
    refine fs_ok fs R ?_
    unfold sTup at h
    revert h
    cases e : evA (fs.map Arg.ex) ρ with
    | none => exact fun h => h
    | some q =>
      obtain ⟨q, ρ2⟩ := q
      cases q with
      | ex C => exact fun h => h
      | ok ds =>
        intro h vs H2 W2 fr2 sub2 R2 reps
        have lv : vs.length ≤ 1000 := by rw [← reps.len, evA_len e]; exact hl
        refine ⟨Nat.le_of_lt (small1000 lv), fun p hp => h _ _ W2 (fr2.trans ((Same.upd hp).fr (W := W2)) fun p hp => .inl (sub2 p hp)) sub2 ⟨⟨p, vs, rfl, ?_, ?_⟩, R2.same (Same.upd hp)⟩⟩
        · rw [hid_ne (R2.fresh hp)]; exact upd_same
        · exact (hid_same (fun b hb => .inl hb) fun b o _ e => Same.upd hp b o e : Same (hid (W2 ++ F.Z) H2) _).repDs reps⟩
theorem c_lst {fs : List SE} (h : JF X EX es fs) (hl : fs.length ≤ 1000 := by decide) : JE X EX (.List es pos) (sLst fs) :=
  ⟨(pe_lst h.p).by fun σ H Q ⟨F, ρ, W, R, h⟩ => by
    refine fs_ok fs R ?_
    unfold sLst at h
    revert h
    cases e : evA (fs.map Arg.ex) ρ with
    | none => exact fun h => h
    | some q =>
      obtain ⟨q, ρ2⟩ := q
      cases q with
      | ex C => exact fun h => h
      | ok ds =>
        intro h vs H2 W2 fr2 sub2 R2 reps
        have lv : vs.length ≤ 1000 := by rw [← reps.len, evA_len e]; exact hl
        refine ⟨Nat.le_of_lt (small1000 lv), fun p hp => h _ _ W2 (fr2.trans ((Same.upd hp).fr (W := W2)) fun p hp => .inl (sub2 p hp)) sub2 ?_⟩
        refine PostE.back (PostD.e (nw := true) ⟨p, rfl, hp, vs, upd_same, ?_⟩ R2 (Same.upd hp)) fr2.dom
        exact (hid_same (fun b hb => (List.mem_cons.mp hb).elim (fun z => .inr (by rw [z]; exact hp)) .inl) fun b o _ e => Same.upd hp b o e : Same (hid (W2 ++ F.Z) H2) _).repDs reps⟩
end
end L2
namespace L2
open PySem PySem.Spec PyProof.Rows
section
variable {K : PySem.W.Frag} {F : Fx} {EX : EXT} {σ : St} {H H1 : Hp} {ρ ρ' : Rho} {W W1 : List Addr} {Q : VK}
theorem OkV.go {o : Option (Res × Rho)} (h : OkV K F EX σ H W o Q) (fr : Fr W H H1) (sub : ∀ p ∈ W1, p ∈ W) : OkV K F EX σ H1 W1 o Q := by
  cases o with
  | none => exact h
  | some r =>
    obtain ⟨r, ρ1⟩ := r
    cases r with
    | ex C => exact fun H2 W2 f2 s2 R2 => h H2 W2 (fr.trans f2 fun p hp => .inl (sub p hp)) (fun p hp => sub p (s2 p hp)) R2
    | ok d nw => exact fun v H2 W2 f2 s2 P2 => h v H2 W2 (fr.trans f2 fun p hp => .inl (sub p hp)) (fun p hp => sub p (s2 p hp)) (P2.back fr.dom)
theorem OkT.go {o : Option (ResT × Rho)} {Q : Bool → Hp → Prop} (h : OkT K F EX σ H W o Q) (fr : Fr W H H1) (sub : ∀ p ∈ W1, p ∈ W) : OkT K F EX σ H1 W1 o Q := by
  cases o with
  | none => exact h
  | some r =>
    obtain ⟨r, ρ1⟩ := r
    cases r with
    | ex C => exact fun H2 W2 f2 s2 R2 => h H2 W2 (fr.trans f2 fun p hp => .inl (sub p hp)) (fun p hp => sub p (s2 p hp)) R2
    | ok d => exact fun H2 W2 f2 s2 P2 => h H2 W2 (fr.trans f2 fun p hp => .inl (sub p hp)) (fun p hp => sub p (s2 p hp)) P2
end
def sOpT (g : List D → Option (D × Bool)) (as : List Arg) : ST := fun ρ => match sOp g as ρ with
  | some (.ok (.bl b) _, ρ') => some (.ok b, ρ')
  | some (.ok _ _, _) => none
  | some (.ex C, ρ') => some (.ex C, ρ')
  | none => none
theorem bl_of {K : PySem.W.Frag} {F : Fx} {EX : EXT} {σ : St} {H : Hp} {ρ : Rho} {W : List Addr} {f : SE} {Q : Bool → Hp → Prop} (h : OkT K F EX σ H W (match f ρ with
  | some (.ok (.bl b) _, ρ') => some (.ok b, ρ')
  | some (.ok _ _, _) => none
  | some (.ex C, ρ') => some (.ex C, ρ')
  | none => none) Q) : OkV K F EX σ H W (f ρ) fun x H' => ∃ k, x = .bl k ∧ Q k H' := by
  revert h
  cases f ρ with
  | none => exact fun h => h
  | some r =>
    obtain ⟨r, ρ1⟩ := r
    cases r with
    | ex C => exact fun h => h
    | ok d nw =>
      cases d <;> first
        | exact fun h => h.elim
        | exact fun h v H' W' fr sub post => ⟨_, post.plain.1, h H' W' fr sub post.plain.2⟩
def sBl (f : SE) : ST := fun ρ => match f ρ with
  | some (.ok (.bl b) _, ρ') => some (.ok b, ρ')
  | some (.ok _ _, _) => none
  | some (.ex C, ρ') => some (.ex C, ρ')
  | none => none
def truD : D → Option Bool
  | .non => some false
  | .bl b => some b
  | .int i => some (i != 0)
  | .lst ds => some (!ds.isEmpty)
  | .tup ds => some (!ds.isEmpty)
  | .dK ks _ => some (!ks.isEmpty)
  | _ => none
def sTru (a : Arg) : ST := fun ρ => match evA [a] ρ with
  | some (.ok [d], ρ') => match truD d with
    | some b => some (.ok b, ρ')
    | none => none
  | some (.ok _, _) => none
  | some (.ex C, ρ') => some (.ex C, ρ')
  | none => none
def sAnd (f g : ST) : ST := fun ρ => match f ρ with
  | some (.ok true, ρ1) => g ρ1
  | some (.ok false, ρ1) => some (.ok false, ρ1)
  | some (.ex C, ρ') => some (.ex C, ρ')
  | none => none
def sOr (f g : ST) : ST := fun ρ => match f ρ with
  | some (.ok false, ρ1) => g ρ1
  | some (.ok true, ρ1) => some (.ok true, ρ1)
  | some (.ex C, ρ') => some (.ex C, ρ')
  | none => none
def sNot (f : ST) : ST := fun ρ => match f ρ with
  | some (.ok b, ρ1) => some (.ok (!b), ρ1)
  | some (.ex C, ρ') => some (.ex C, ρ')
  | none => none
def sIf (c : ST) (f g : SE) : SE := fun ρ => match c ρ with
  | some (.ok true, ρ1) => f ρ1
  | some (.ok false, ρ1) => g ρ1
  | some (.ex C, ρ') => some (.ex C, ρ')
  | none => none
def sAndV (f g : SE) : SE := fun ρ => match f ρ with
  | some (.ok (.bl true) _, ρ1) => g ρ1
  | some (.ok (.bl false) _, ρ1) => some (.ok (.bl false) false, ρ1)
  | some (.ok _ _, _) => none
  | some (.ex C, ρ') => some (.ex C, ρ')
  | none => none
def sOrV (f g : SE) : SE := fun ρ => match f ρ with
  | some (.ok (.bl false) _, ρ1) => g ρ1
  | some (.ok (.bl true) _, ρ1) => some (.ok (.bl true) false, ρ1)
  | some (.ok _ _, _) => none
  | some (.ex C, ρ') => some (.ex C, ρ')
  | none => none
def sNotV (f : SE) : SE := fun ρ => match f ρ with
  | some (.ok (.bl b) _, ρ1) => some (.ok (.bl (!b)) false, ρ1)
  | some (.ok _ _, _) => none
  | some (.ex C, ρ') => some (.ex C, ρ')
  | none => none
section
variable {X : Cx} {EX : EXT} {a b c e : Expr} {rest es : List Expr} {pos : Pos} {x y z : Arg} {as : List Arg}
theorem k_cmp {op : CmpOp} {r : R2} {g : List D → Option (D × Bool)} (ho : OpR X (compareOp op) r) (hs : OpS X.K (r2 r) g) (ha : JB X EX a x) (hb : JB X EX b y) (hm : behindInMarks op b = false) : JT X EX (.Compare a [op] [b] pos) (sOpT g [x, y]) :=
  ⟨(pt_cmpR ho ha.p hb.p hm).by fun σ H Q ⟨F, ρ, W, R, h⟩ => op_args hs R (bl_of h)⟩
theorem tru_of {K : PySem.W.Frag} {H Hh : Hp} {d : D} {v : V} {k : Bool} (r : RepB K H Hh d v) (s : Same Hh H) (e : truD d = some k) : TruV K v H k := by
  cases d <;> simp only [truD] at e <;> first
    | cases e; done
    | (cases e; cases r; first | rfl | trivial)
    | skip
  · obtain ⟨p, xs, rfl, h1, h2⟩ := r
    cases e
    exact .inr (.inl ⟨xs, .inl (.inl (s _ _ h1)), by have := h2.len; cases xs <;> cases ‹List D› <;> simp_all⟩)
  · obtain ⟨p, xs, rfl, h1, h2⟩ := r
    cases e
    exact .inl ⟨xs, .inl (.inl h1), by have := h2.len; cases xs <;> cases ‹List D› <;> simp_all⟩
  · obtain ⟨p, xs, rfl, h1, h2, h3⟩ := r
    cases e
    refine .inr (.inr ⟨_, h1, ?_⟩)
    rename_i ks vs
    cases ks <;> cases xs <;> simp_all
theorem k_tru (ha : JB X EX e x) (he : ∀ whole, isTrue e X.env whole = (do let v ← whole; standAt e.pos; holding [v] (truthy v)) := by intro _; rfl) : JT X EX e (sTru x) :=
  ⟨(pt_truth ha.p he).by fun σ H Q ⟨F, ρ, W, R, h⟩ => by
    have z : tAs X.K EX [x] σ H (fun vs H2 => match vs with | [v] => ∃ k, TruV X.K v H2 k ∧ Q k H2 | _ => False) := by
      refine as_ok [x] R ?_
      unfold sTru at h
      revert h
      cases evA [x] ρ with
      | none => exact fun h => h
      | some q =>
        obtain ⟨q, ρ2⟩ := q
        cases q with
        | ex C => exact fun h => h
        | ok ds =>
          match ds with
          | [] => exact fun h => h.elim
          | _ :: _ :: _ => exact fun h => h.elim
          | [d] =>
            dsimp only
            cases e : truD d with
            | none => exact fun h => h.elim
            | some k =>
              intro h vs H2 W2 fr2 sub2 R2 reps
              match vs, reps with
              | [v], reps => exact ⟨k, tru_of reps.1 hid_sub e, h H2 W2 fr2 sub2 R2⟩
    exact z⟩
theorem JW.t {f : ST} (h : JW X EX e f) : JT X EX e f := ⟨h.p.pt⟩
theorem w_or1 {f : ST} (h : JT X EX a f) : JW X EX (.BoolOp .Or [a] pos) f := ⟨pw_or1 h.p⟩
theorem w_or {f g : ST} (ha : JT X EX a f) (hb : JW X EX (.BoolOp .Or (b :: rest) pos) g) : JW X EX (.BoolOp .Or (a :: b :: rest) pos) (sOr f g) :=
  ⟨fun wh pins s σ H Q I ⟨F, ρ, W, R, h⟩ => pw_or ha.p hb.p wh pins s σ H Q I ⟨F, ρ, W, R, by
    unfold sOr at h
    revert h
    cases f ρ with
    | none => exact fun h => h
    | some q =>
      obtain ⟨q, ρ2⟩ := q
      cases q with
      | ex C => exact fun h => h
      | ok k =>
        cases k with
        | false => exact fun h H2 W2 fr2 sub2 R2 => ⟨F, ρ2, W2, R2, OkT.go h fr2 sub2⟩
        | true => exact fun h => h⟩⟩
theorem k_not {f : ST} (h : JT X EX a f) : JT X EX (.UnaryOp .Not a pos) (sNot f) :=
  ⟨(pt_not h.p).by fun σ H Q ⟨F, ρ, W, R, h⟩ => ⟨F, ρ, W, R, by
    unfold sNot at h
    revert h
    cases f ρ with
    | none => exact fun h => h
    | some q =>
      obtain ⟨q, ρ2⟩ := q
      cases q with
      | ex C => exact fun h => h
      | ok k => exact fun h => h⟩⟩
theorem c_if {t : ST} {f g : SE} (hc : JT X EX c t) (ha : JE X EX a f) (hb : JE X EX b g) : JE X EX (.IfExp c a b pos) (sIf t f g) :=
  ⟨(pe_ifExp hc.p ha.p hb.p).by fun σ H Q ⟨F, ρ, W, R, h⟩ => ⟨F, ρ, W, R, by
    unfold sIf at h
    revert h
    cases t ρ with
    | none => exact fun h => h
    | some q =>
      obtain ⟨q, ρ2⟩ := q
      cases q with
      | ex C => exact fun h => h
      | ok k =>
        cases k with
        | true => exact fun h H2 W2 fr2 sub2 R2 => ⟨F, ρ2, W2, R2, OkV.go h fr2 sub2⟩
        | false => exact fun h H2 W2 fr2 sub2 R2 => ⟨F, ρ2, W2, R2, OkV.go h fr2 sub2⟩⟩⟩
theorem c_one {op} {f : SE} (h : JE X EX a f) : JE X EX (.BoolOp op [a] pos) f := ⟨pe_one h.p⟩
theorem c_and {f g : SE} (ha : JE X EX a f) (hb : JE X EX (.BoolOp .And (b :: rest) pos) g) : JE X EX (.BoolOp .And (a :: b :: rest) pos) (sAndV f g) :=
  ⟨(pe_and ha.p hb.p).by fun σ H Q ⟨F, ρ, W, R, h⟩ => ⟨F, ρ, W, R, by
    unfold sAndV at h
    revert h
    cases f ρ with
    | none => exact fun h => h
    | some q =>
      obtain ⟨q, ρ2⟩ := q
      cases q with
      | ex C => exact fun h => h
      | ok d nw =>
        cases d <;> first | exact fun h => h.elim | skip
        rename_i k
        cases k with
        | true => exact fun h v H2 W2 fr2 sub2 P2 => ⟨true, P2.plain.1, F, ρ2, W2, P2.plain.2, OkV.go h fr2 sub2⟩
        | false => exact fun h v H2 W2 fr2 sub2 P2 => ⟨false, P2.plain.1, h (.bl false) H2 W2 fr2 sub2 ⟨rfl, P2.plain.2⟩⟩⟩⟩
theorem c_not {f : SE} (ha : JE X EX a f) : JE X EX (.UnaryOp .Not a pos) (sNotV f) :=
  ⟨(pe_not ha.p).by fun σ H Q ⟨F, ρ, W, R, h⟩ => ⟨F, ρ, W, R, by
    unfold sNotV at h
    revert h
    cases f ρ with
    | none => exact fun h => h
    | some q =>
      obtain ⟨q, ρ2⟩ := q
      cases q with
      | ex C => exact fun h => h
      | ok d nw =>
        cases d <;> first | exact fun h => h.elim | skip
        exact fun h v H2 W2 fr2 sub2 P2 => ⟨_, P2.plain.1, h _ H2 W2 fr2 sub2 ⟨rfl, P2.plain.2⟩⟩⟩⟩
abbrev RSl := V → Option Int → Option Int → Hp → VK → Prop
def rS00 (r : RSl) : List V → Hp → VK → Prop
  | [x], H, Q => r x none none H Q
  | _, _, _ => False
def rS11 (r : RSl) (i j : Int) : List V → Hp → VK → Prop
  | [x], H, Q => ∃ i', V.int i = .int i' ∧ ∃ j', V.int j = .int j' ∧ r x (some i') (some j') H Q
  | _, _, _ => False
theorem c_sl11 {p2 p3 p4 : Pos} {r : RSl} {g : List D → Option (D × Bool)} {i j : Int} {k1 k2} (ho : SlR X r) (hs : OpS X.K (rS11 r i j) g) (ha : JB X EX a x) : JE X EX (.Subscript a (.Slice (some (.Constant (.int i) k1 p3)) (some (.Constant (.int j) k2 p4)) none p2) pos) (sOp g [x]) :=
  ⟨(pe_slice ho ha.p (po_some pe_int) (po_some pe_int)).by fun σ H Q ⟨F, ρ, W, R, h⟩ => op_args hs R h⟩
end
end L2
namespace L2
open PySem PySem.Spec PyProof.Rows
theorem PS.by {X : Cx} {e : Stmt} {t t' : TS} (h : PS X e t) (hi : ∀ D σ H, t' D σ H → t D σ H) : PS X e t' := fun pins s σ H D I hw => h pins s σ H D I (hi D σ H hw)
theorem PSs.by {X : Cx} {e : List Stmt} {t t' : TS} (h : PSs X e t) (hi : ∀ D σ H, t' D σ H → t D σ H) : PSs X e t' := fun pins s σ H D I hw => h pins s σ H D I (hi D σ H hw)
inductive Out where
  | nx | rt (d : D) (nw : Bool) | ex (C : Str) | bk | ct
abbrev SS := Rho → Option (Out × Rho)
section
variable (K : PySem.W.Frag) (F : Fx) (EX : EXT) (σ : St) (H : Hp) (W : List Addr)
def PostR (σ' : St) (H' : Hp) (ρ' : Rho) (W' : List Addr) (d : D) : Bool → V → Prop
  | false, v => RepD K (hid (W' ++ F.Z) H') d v ∧ Rel K F σ' H' ρ' W'
  | true, v => ∃ p, v = .ref p ∧ (p ∈ W ∨ H p = none) ∧ p ∉ W' ++ F.Z ∧ OwnAt K H' (hid (p :: (W' ++ F.Z)) H') p d ∧ Rel K F σ' (hid [p] H') ρ' W'
def OkS (o : Option (Out × Rho)) (D : Ends) : Prop := match o with
  | some (.nx, ρ') => ∀ σ' H' W', Fr W H H' → (∀ p ∈ W', p ∈ W ∨ H p = none) → Rel K F σ' H' ρ' W' → D.nx σ' H'
  | some (.bk, ρ') => ∀ σ' H' W', Fr W H H' → (∀ p ∈ W', p ∈ W ∨ H p = none) → Rel K F σ' H' ρ' W' → D.bk σ' H'
  | some (.ct, ρ') => ∀ σ' H' W', Fr W H H' → (∀ p ∈ W', p ∈ W ∨ H p = none) → Rel K F σ' H' ρ' W' → D.ct σ' H'
  | some (.ex C, ρ') => ∀ σ' H' W', Fr W H H' → (∀ p ∈ W', p ∈ W ∨ H p = none) → Rel K F σ' H' ρ' W' → EX C σ' H'
  | some (.rt d nw, ρ') => ∀ σ' v H' W', Fr W H H' → (∀ p ∈ W', p ∈ W ∨ H p = none) → PostR K F H W σ' H' ρ' W' d nw v → D.rt v H'
  | none => False
end
def tVS (K : PySem.W.Frag) (EX : EXT) (f : SS) : TS := fun D σ H => ∃ F ρ W, Rel K F σ H ρ W ∧ OkS K F EX H W (f ρ) D
structure JS (X : Cx) (EX : EXT) (e : Stmt) (f : SS) : Prop where
  p : PS X e (tVS X.K EX f)
structure JSs (X : Cx) (EX : EXT) (e : List Stmt) (f : SS) : Prop where
  p : PSs X e (tVS X.K EX f)
section
variable {K : PySem.W.Frag} {F : Fx} {EX : EXT} {σ σ1 : St} {H H1 : Hp} {ρ ρ' : Rho} {W W1 : List Addr} {D : Ends}
theorem PostR.back {σ' : St} {H' : Hp} {ρ' : Rho} {W' : List Addr} {d : L2.D} {nw : Bool} {v : V} (h : PostR K F H1 W1 σ' H' ρ' W' d nw v) (fr : ∀ b, H1 b = none → H b = none) (sub : ∀ p ∈ W1, p ∈ W ∨ H p = none) : PostR K F H W σ' H' ρ' W' d nw v := by
  cases nw with
  | false => exact h
  | true => obtain ⟨p, h1, h2, h3⟩ := h; exact ⟨p, h1, h2.elim (sub p) fun z => .inr (fr p z), h3⟩
theorem OkS.go {o : Option (Out × Rho)} (h : OkS K F EX H W o D) (fr : Fr W H H1) (sub : ∀ p ∈ W1, p ∈ W ∨ H p = none) : OkS K F EX H1 W1 o D := by
  have sub2 : ∀ {W2 : List Addr}, (∀ p ∈ W2, p ∈ W1 ∨ H1 p = none) → ∀ p ∈ W2, p ∈ W ∨ H p = none := fun {W2} s2 p hp => (s2 p hp).elim (sub p) fun z => .inr (fr.dom p z)
  cases o with
  | none => exact h
  | some r =>
    obtain ⟨r, ρ1⟩ := r
    cases r with
    | ex C => exact fun σ2 H2 W2 f2 s2 R2 => h σ2 H2 W2 (fr.trans f2 sub) (sub2 s2) R2
    | nx => exact fun σ2 H2 W2 f2 s2 R2 => h σ2 H2 W2 (fr.trans f2 sub) (sub2 s2) R2
    | bk => exact fun σ2 H2 W2 f2 s2 R2 => h σ2 H2 W2 (fr.trans f2 sub) (sub2 s2) R2
    | ct => exact fun σ2 H2 W2 f2 s2 R2 => h σ2 H2 W2 (fr.trans f2 sub) (sub2 s2) R2
    | rt d nw => exact fun σ2 v H2 W2 f2 s2 P2 => h σ2 v H2 W2 (fr.trans f2 sub) (sub2 s2) (P2.back fr.dom sub)
theorem PostE.r {H' : Hp} {ρ' : Rho} {W' : List Addr} {d : L2.D} {nw : Bool} {v : V} (h : PostE K F σ H H' ρ' W' d nw v) : PostR K F H W σ H' ρ' W' d nw v := by
  cases nw with
  | false => exact h
  | true => obtain ⟨p, h1, h2, h3⟩ := h; exact ⟨p, h1, .inr h2, h3⟩
end
def sNil : SS := fun ρ => some (.nx, ρ)
def sSeq (f g : SS) : SS := fun ρ => match f ρ with
  | some (.nx, ρ1) => g ρ1
  | r => r
def sSet (i : Nat) (f : SE) : SS := fun ρ => match f ρ with
  | some (.ok d nw, ρ') => match ρ'[i]? with
    | some _ => some (.nx, ρ'.set i (some (d, if nw then .ow else .fz)))
    | none => none
  | some (.ex C, ρ') => some (.ex C, ρ')
  | none => none
def sRet (f : SE) : SS := fun ρ => match f ρ with
  | some (.ok d nw, ρ') => some (.rt d nw, ρ')
  | some (.ex C, ρ') => some (.ex C, ρ')
  | none => none
def sRetN : SS := fun ρ => some (.rt .non false, ρ)
def sExpr (f : SE) : SS := fun ρ => match f ρ with
  | some (.ok _ _, ρ') => some (.nx, ρ')
  | some (.ex C, ρ') => some (.ex C, ρ')
  | none => none
def sIfS (c : ST) (f g : SS) : SS := fun ρ => match c ρ with
  | some (.ok true, ρ1) => f ρ1
  | some (.ok false, ρ1) => g ρ1
  | some (.ex C, ρ') => some (.ex C, ρ')
  | none => none
def sRetV (i : Nat) : SS := fun ρ => match ρ[i]? with
  | some (some (d, .fz)) => some (.rt d false, ρ)
  | some (some (d, .ow)) => some (.rt d true, ρ.set i none)
  | _ => none
theorem Rel.move {K : PySem.W.Frag} {F : Fx} {σ : St} {H : Hp} {ρ : Rho} {W : List Addr} (R : Rel K F σ H ρ W) {i : Nat} {d : D} {p : Addr} (h : ρ[i]? = some (some (d, .ow))) (hp : σ[i]? = some (some (.ref p))) :
    Rel K F σ (hid [p] H) (ρ.set i none) (W.filter fun a => decide (a ≠ p)) ∧ p ∈ W ∧ p ∉ (W.filter fun a => decide (a ≠ p)) ++ F.Z ∧ OwnAt K H (hid (p :: ((W.filter fun a => decide (a ≠ p)) ++ F.Z)) H) p d := by
  obtain ⟨v, hv, q, rfl, hq, hO⟩ := R.slot i d .ow h
  rw [hp] at hv
  cases hv
  have sub : ∀ b, b ∈ W.filter (fun a => decide (a ≠ p)) → b ∈ W ∧ b ≠ p := fun b hb => by
    have := List.mem_filter.mp hb
    exact ⟨this.1, of_decide_eq_true this.2⟩
  have pn : p ∉ (W.filter fun a => decide (a ≠ p)) ++ F.Z := fun z => by
    rcases List.mem_append.mp z with q | q
    · exact (sub p q).2 rfl
    · exact R.wz p hq q
  have sh : Same (hid (W ++ F.Z) H) (hid ((W.filter fun a => decide (a ≠ p)) ++ F.Z) (hid [p] H)) := fun b o e => by
    obtain ⟨h1, h2⟩ := hid_some e
    have bp : b ≠ p := fun z => h1 (List.mem_append_left _ (z ▸ hq))
    rw [hid_ne (fun z => h1 (by
      rcases List.mem_append.mp z with q | q
      · exact List.mem_append_left _ (sub b q).1
      · exact List.mem_append_right _ q)), hid_ne (by simpa using bp)]
    exact h2
  have sh2 : Same (hid (W ++ F.Z) H) (hid (p :: ((W.filter fun a => decide (a ≠ p)) ++ F.Z)) H) := fun b o e => by
    obtain ⟨h1, h2⟩ := hid_some e
    have bp : b ≠ p := fun z => h1 (List.mem_append_left _ (z ▸ hq))
    rw [hid_ne (fun z => by
      rcases List.mem_cons.mp z with q | q
      · exact bp q
      · rcases List.mem_append.mp q with q | q
        · exact h1 (List.mem_append_left _ (sub b q).1)
        · exact h1 (List.mem_append_right _ q))]
    exact h2
  have neq : ∀ r, r ≠ p → hid [p] H r = H r := fun r hr => hid_ne (by simpa using hr)
  refine ⟨⟨fun j e m hj => ?_, fun j k e f m n r h1 h2 h3 h4 h5 h6 => ?_, fun r hr => R.wz r (sub r hr).1, fun r hr => ?_, by rw [List.length_set]; exact R.len⟩, hq, pn, hO.at rfl sh2⟩
  · rcases set_get hj with ⟨rfl, e1⟩ | ⟨ne, e1⟩
    · cases e1
    · obtain ⟨v, g1, g2⟩ := R.slot j e m e1
      refine ⟨v, g1, ?_⟩
      have other : ∀ r, v = .ref r → m ≠ .fz → r ≠ p := fun r er hm z => by
        subst er z
        exact ne (R.apart j i _ _ _ _ _ e1 hm h (by decide) g1 hp)
      cases m with
      | fz => exact sh.repD g2
      | ow => obtain ⟨r, e2, e3, e4⟩ := g2; exact ⟨r, e2, List.mem_filter.mpr ⟨e3, decide_eq_true (other r e2 (by decide))⟩, e4.at (neq r (other r e2 (by decide))) sh⟩
      | io => obtain ⟨r, e2, e3, e4, e5⟩ := g2; exact ⟨r, e2, List.mem_filter.mpr ⟨e3, decide_eq_true (other r e2 (by decide))⟩, e4.at (neq r (other r e2 (by decide))) sh, e5⟩
  · rcases set_get h1 with ⟨rfl, z⟩ | ⟨_, z⟩
    · cases z
    · rcases set_get h3 with ⟨rfl, z'⟩ | ⟨_, z'⟩
      · cases z'
      · exact R.apart j k _ _ _ _ _ z h2 z' h4 h5 h6
  · have rp : r ≠ p := fun z => by subst z; exact pn hr
    rw [neq r rp]
    rcases List.mem_append.mp hr with q | q
    · exact R.mt r (List.mem_append_left _ (sub r q).1)
    · exact R.mt r (List.mem_append_right _ q)
inductive Tg where
  | nm (i : Nat) | tp (ts : List Tg)
mutual
def asgT : Tg → D → Rho → Option Rho
  | .nm i, d, ρ => match ρ[i]? with
    | some _ => some (ρ.set i (some (d, .fz)))
    | none => none
  | .tp ts, .tup ds, ρ => asgTs ts ds ρ
  | .tp ts, .ktup ds, ρ => asgTs ts ds ρ
  | .tp _, _, _ => none
def asgTs : List Tg → List D → Rho → Option Rho
  | [], [], ρ => some ρ
  | t :: ts, d :: ds, ρ => match asgT t d ρ with
    | some ρ1 => asgTs ts ds ρ1
    | none => none
  | _, _, _ => none
end
mutual
def gT (K : PySem.W.Frag) : Tg → TG
  | .nm i => gName i
  | .tp ts => gTup K ts.length (gTs K ts)
def gTs (K : PySem.W.Frag) : List Tg → TGs
  | [] => gNil
  | t :: ts => gCons (gT K t) (gTs K ts)
end
mutual
def Tg.ge (n : Nat) : Tg → Bool
  | .nm i => decide (n ≤ i)
  | .tp ts => Tg.geL n ts
def Tg.geL (n : Nat) : List Tg → Bool
  | [] => true
  | t :: ts => Tg.ge n t && Tg.geL n ts
end
section
variable {K : PySem.W.Frag} {F : Fx} {EX : EXT} {H : Hp} {W : List Addr} {Q : St → Hp → Prop} {n : Nat}
theorem ktup_sq {H : Hp} {p : Addr} {xs : List V} (h : SqT K (fun _ => none) p xs) : SqT K H p xs := by
  rcases h with (h | ⟨o, h⟩) | h
  · cases h
  · cases h
  · exact .inr h
theorem asgTs_len : ∀ {ts : List Tg} {ds : List D} {ρ ρ' : Rho}, asgTs ts ds ρ = some ρ' → ds.length = ts.length
  | [], [], _, _, _ => rfl
  | [], _ :: _, _, _, h => by unfold asgTs at h; cases h
  | _ :: _, [], _, _, h => by unfold asgTs at h; cases h
  | t :: ts, d :: ds, ρ, ρ', h => by
    unfold asgTs at h
    cases e : asgT t d ρ with
    | none => rw [e] at h; cases h
    | some ρ1 => rw [e] at h; rw [List.length_cons, List.length_cons, asgTs_len h]
mutual
theorem gT_ok : ∀ (T : Tg) {d : D} {v : V} {σ : St} {ρ ρ' : Rho} {Q : St → Hp → Prop}, Rel K F σ H ρ W → RepD K (hid (W ++ F.Z) H) d v → asgT T d ρ = some ρ' → (∀ σ', (Tg.ge n T = true → σ'.take n = σ.take n) → Rel K F σ' H ρ' W → Q σ' H) → gT K T v σ H Q
  | .nm i, d, v, σ, ρ, ρ', Q, R, r, e, q => by
    unfold asgT at e
    unfold gT
    cases h : ρ[i]? with
    | none => rw [h] at e; cases e
    | some z =>
      rw [h] at e
      cases e
      have hi : i < σ.length := by rw [R.len]; exact (List.getElem?_eq_some_iff.mp h).1
      refine q _ (fun hg => ?_) (R.put hi r)
      unfold Tg.ge at hg
      exact List.take_set_of_le (of_decide_eq_true hg)
  | .tp ts, d, v, σ, ρ, ρ', Q, R, r, e, q => by
    unfold gT
    have two : ∀ ds p xs, v = .ref p → SqT K H p xs → RepDs K (hid (W ++ F.Z) H) ds xs → asgTs ts ds ρ = some ρ' → gTup K ts.length (gTs K ts) v σ H Q := fun ds p xs e1 e2 e3 e4 =>
      ⟨p, xs, e1, e2, by rw [← e3.len]; exact asgTs_len e4, gTs_ok ts R e3 e4 fun σ' h1 h2 => q σ' (fun hg => h1 (by unfold Tg.ge at hg; exact hg)) h2⟩
    cases d <;> first
      | (unfold asgT at e; cases e; done)
      | (obtain ⟨p, xs, e1, e2, e3⟩ := r; unfold asgT at e; exact two _ p xs e1 (.inl (.inl (hid_some e2).2)) e3 e)
      | (obtain ⟨p, xs, e1, e2, e3⟩ := r; unfold asgT at e; exact two _ p xs e1 (ktup_sq e2) e3 e)
theorem gTs_ok : ∀ (ts : List Tg) {ds : List D} {vs : List V} {σ : St} {ρ ρ' : Rho} {Q : St → Hp → Prop}, Rel K F σ H ρ W → RepDs K (hid (W ++ F.Z) H) ds vs → asgTs ts ds ρ = some ρ' → (∀ σ', (Tg.geL n ts = true → σ'.take n = σ.take n) → Rel K F σ' H ρ' W → Q σ' H) → gTs K ts vs σ H Q
  | [], ds, vs, σ, ρ, ρ', Q, R, r, e, q => by
    unfold gTs
    cases ds with
    | cons _ _ => unfold asgTs at e; cases e
    | nil =>
      unfold asgTs at e
      cases e
      cases vs with
      | cons _ _ => exact r.elim
      | nil => exact ⟨rfl, q σ (fun _ => rfl) R⟩
  | t :: ts, ds, vs, σ, ρ, ρ', Q, R, r, e, q => by
    unfold gTs
    cases ds with
    | nil => unfold asgTs at e; cases e
    | cons d ds =>
      cases vs with
      | nil => exact r.elim
      | cons v vs =>
        unfold asgTs at e
        cases h : asgT t d ρ with
        | none => rw [h] at e; cases e
        | some ρ1 =>
          rw [h] at e
          refine ⟨v, vs, rfl, gT_ok t R r.1 h fun σ1 h1 R1 => gTs_ok ts R1 r.2 e fun σ2 h2 R2 => q σ2 (fun hg => ?_) R2⟩
          unfold Tg.geL at hg
          have := (Bool.and_eq_true _ _).mp hg
          exact (h2 this.2).trans (h1 this.1)
end
end
structure JG (X : Cx) (e : Expr) (T : Tg) : Prop where
  p : PG X e (gT X.K T)
structure JGs (X : Cx) (es : List Expr) (ts : List Tg) : Prop where
  p : PGs X es (gTs X.K ts)
def sAsg (T : Tg) (f : SE) : SS := fun ρ => match f ρ with
  | some (.ok d _, ρ') => match asgT T d ρ' with
    | some ρ2 => some (.nx, ρ2)
    | none => none
  | some (.ex C, ρ') => some (.ex C, ρ')
  | none => none
def sAug (i : Nat) (op : Int → Int → Int) (f : SE) : SS := fun ρ => match ρ[i]? with
  | some (some (.int a, .fz)) => match f ρ with
    | some (.ok (.int b) _, ρ') => match ρ'[i]? with
      | some _ => some (.nx, ρ'.set i (some (.int (op a b), .fz)))
      | none => none
    | some (.ok _ _, _) => none
    | some (.ex C, ρ') => some (.ex C, ρ')
    | none => none
  | _ => none
section
variable {X : Cx} {EX : EXT} {a b c e : Expr} {es : List Expr} {st : Stmt} {rest : List Stmt} {pos : Pos}
theorem s_nil : JSs X EX [] sNil := ⟨pss_nil.by fun D σ H ⟨F, ρ, W, R, h⟩ => h σ H W .refl (fun _ z => .inl z) R⟩
theorem s_cons {f g : SS} (h1 : JS X EX st f) (h2 : JSs X EX rest g) : JSs X EX (st :: rest) (sSeq f g) :=
  ⟨(pss_cons h1.p h2.p).by fun D σ H ⟨F, ρ, W, R, h⟩ => ⟨F, ρ, W, R, by
    unfold sSeq at h
    revert h
    cases f ρ with
    | none => exact fun h => h
    | some q =>
      obtain ⟨q, ρ2⟩ := q
      cases q with
      | nx => exact fun h σ2 H2 W2 fr2 sub2 R2 => ⟨F, ρ2, W2, R2, OkS.go h fr2 sub2⟩
      | _ => exact fun h => h⟩⟩
theorem s_one {f : SS} (h : JS X EX st f) : JSs X EX [st] f := ⟨pss_one h.p⟩
theorem set_ok {K : PySem.W.Frag} {F : Fx} {σ : St} {H H' : Hp} {ρ' : Rho} {W' : List Addr} {d : D} {nw : Bool} {v : V} {i : Nat} (P : PostE K F σ H H' ρ' W' d nw v) (hi : i < ρ'.length) :
    ∃ W2, (∀ p ∈ W2, p ∈ W' ∨ H p = none) ∧ Rel K F (σ.set i (some v)) H' (ρ'.set i (some (d, if nw then .ow else .fz))) W2 := by
  cases nw with
  | false => exact ⟨W', fun p hp => .inl hp, P.2.put (by rw [P.2.len]; exact hi) P.1⟩
  | true =>
    obtain ⟨p, rfl, hp, hn, hO, R⟩ := P
    exact ⟨p :: W', fun q hq => (List.mem_cons.mp hq).elim (fun z => .inr (by rw [z]; exact hp)) .inl, R.own (by rw [R.len]; exact hi) hn hO⟩
theorem asg_of {i : Nat} {f : SE} {D : Ends} {σ : St} {H : Hp} (h : tVS X.K EX (sSet i f) D σ H) : tV X.K EX f σ H fun x H1 => D.nx (σ.set i (some x)) H1 := by
  obtain ⟨F, ρ, W, R, h⟩ := h
  refine ⟨F, ρ, W, R, ?_⟩
  unfold sSet at h
  revert h
  cases f ρ with
  | none => exact fun h => h
  | some q =>
    obtain ⟨q, ρ2⟩ := q
    cases q with
    | ex C => exact fun h H2 W2 fr2 sub2 R2 => h σ H2 W2 fr2 (fun p hp => .inl (sub2 p hp)) R2
    | ok d nw =>
      dsimp only
      cases e : ρ2[i]? with
      | none => exact fun h => h.elim
      | some z =>
        intro h v H2 W2 fr2 sub2 P2
        obtain ⟨W3, s3, R3⟩ := set_ok P2 (List.getElem?_eq_some_iff.mp e).1
        exact h _ H2 W3 fr2 (fun p hp => (s3 p hp).imp (sub2 p) id) R3
theorem s_set {i : Nat} {x : Str} {f : SE} {pos' : Pos} (hN : X.N.Nodup) (hi : X.N[i]? = some x) (hx : Loc X.env.scope x) (he : JE X EX e f) (hs : swapsWith e (some (.Name x pos')) pos.line X.env = pure false := by rfl) (hf : X.fn x = true ∨ X.env.scope.names.lookup x = some .local := by first | exact .inl rfl | exact .inr rfl | assumption) :
    JS X EX (.Assign [.Name x pos'] e pos) (sSet i f) := ⟨(ps_set hN hi hx he.p hs hf).by fun D σ H h => asg_of h⟩
theorem g_name {i : Nat} {x : Str} (hN : X.N.Nodup) (hi : X.N[i]? = some x) (hx : Loc X.env.scope x) (hf : X.fn x = true ∨ X.env.scope.names.lookup x = some .local := by first | exact .inl rfl | exact .inr rfl | assumption) : JG X (.Name x pos) (.nm i) := ⟨by unfold gT; exact pg_name hN hi hx hf⟩
theorem g_nil : JGs X [] [] := ⟨by unfold gTs; exact pgs_nil⟩
theorem g_cons {T : Tg} {ts : List Tg} (h1 : JG X e T) (h2 : JGs X es ts) (hs : (assignEach (e :: es) X.env).map (·.2) = assign e X.env :: (assignEach es X.env).map (·.2) := by rfl) : JGs X (e :: es) (T :: ts) := ⟨by unfold gTs; exact pgs_cons h1.p h2.p hs⟩
theorem g_tup {k : Nat} {ts : List Tg} (hc : X.calm = true) (h : JGs X es ts) (hn : (assignEach es X.env).length = ts.length := by rfl) (hst : (assignEach es X.env).findIdx? (·.1) = none := by rfl) : JG X (.Tuple es k pos) (.tp ts) := ⟨by unfold gT; exact pg_tup hc h.p hn hst⟩
theorem s_asg {f : SE} {T : Tg} (he : JE X EX e f) (hg : JG X a T) (hs : swapsWithSole [a] e pos.line X.env = pure false := by rfl) (hw : swappedStores [a] e X.env = pure none := by rfl)
    (h1 : (assignEach [a] X.env).map (·.2) = [assign a X.env] := by rfl) : JS X EX (.Assign [a] e pos) (sAsg T f) :=
  ⟨(ps_asg he.p hg.p hs hw h1).by fun D σ H ⟨F, ρ, W, R, h⟩ => ⟨F, ρ, W, R, by
    unfold sAsg at h
    revert h
    cases f ρ with
    | none => exact fun h => h
    | some q =>
      obtain ⟨q, ρ2⟩ := q
      cases q with
      | ex C => exact fun h H2 W2 fr2 sub2 R2 => h σ H2 W2 fr2 (fun p hp => .inl (sub2 p hp)) R2
      | ok d nw =>
        dsimp only
        cases e : asgT T d ρ2 with
        | none => exact fun h => h.elim
        | some ρ3 =>
          intro h v H2 W2 fr2 sub2 P2
          exact gT_ok (n := 0) T P2.plain.2 P2.plain.1 e fun σ' _ R' => h σ' H2 W2 fr2 (fun p hp => .inl (sub2 p hp)) R'⟩⟩
theorem s_ret {f : SE} (he : JE X EX e f) : JS X EX (.Return (some e) pos) (sRet f) :=
  ⟨(ps_ret he.p).by fun D σ H ⟨F, ρ, W, R, h⟩ => ⟨F, ρ, W, R, by
    unfold sRet at h
    revert h
    cases f ρ with
    | none => exact fun h => h
    | some q =>
      obtain ⟨q, ρ2⟩ := q
      cases q with
      | ex C => exact fun h H2 W2 fr2 sub2 R2 => h σ H2 W2 fr2 (fun p hp => .inl (sub2 p hp)) R2
      | ok d nw => exact fun h v H2 W2 fr2 sub2 P2 => h σ v H2 W2 fr2 (fun p hp => .inl (sub2 p hp)) P2.r⟩⟩
theorem s_retV {i : Nat} {n : Str} {p2 : Pos} (hN : X.N[i]? = some n) (hv : Vis X.env.scope n) (hd : (n == ("__debug__" : Str)) = false := by decide) (hcd : (n == ("__classdict__" : Str)) = false := by decide) : JS X EX (.Return (some (.Name n p2)) pos) (sRetV i) :=
  ⟨(ps_ret (pe_var hN hv hd hcd)).by fun D σ H ⟨F, ρ, W, R, h⟩ => by
    unfold sRetV at h
    revert h
    cases e : ρ[i]? with
    | none => exact fun h => h.elim
    | some z =>
      cases z with
      | none => exact fun h => h.elim
      | some z =>
        obtain ⟨d, m⟩ := z
        obtain ⟨v, hv, ok⟩ := R.slot i d m e
        cases m with
        | io => exact fun h => h.elim
        | fz => exact fun h => ⟨v, hv, h σ v H W .refl (fun _ z => .inl z) ⟨ok, R⟩⟩
        | ow =>
          intro h
          obtain ⟨p, rfl, hp, hO⟩ := ok
          obtain ⟨R', m1, m2, m3⟩ := R.move e hv
          exact ⟨_, hv, h σ _ H _ .refl (fun q hq => .inl (List.mem_filter.mp hq).1) ⟨p, rfl, .inl m1, m2, m3, R'⟩⟩⟩
theorem s_expr {f : SE} (he : JE X EX e f) (hs : swapsWith e none pos.line X.env = pure false := by rfl) : JS X EX (.Expr e pos) (sExpr f) :=
  ⟨(ps_expr he.p hs).by fun D σ H ⟨F, ρ, W, R, h⟩ => ⟨F, ρ, W, R, by
    unfold sExpr at h
    revert h
    cases f ρ with
    | none => exact fun h => h
    | some q =>
      obtain ⟨q, ρ2⟩ := q
      cases q with
      | ex C => exact fun h H2 W2 fr2 sub2 R2 => h σ H2 W2 fr2 (fun p hp => .inl (sub2 p hp)) R2
      | ok d nw => exact fun h v H2 W2 fr2 sub2 P2 => h σ H2 W2 fr2 (fun p hp => .inl (sub2 p hp)) P2.plain.2⟩⟩
theorem s_if {t : ST} {f g : SS} {as bs : List Stmt} (hc : JT X EX c t) (ha : JSs X EX as f) (hb : JSs X EX bs g) : JS X EX (.If c as bs pos) (sIfS t f g) :=
  ⟨(ps_if hc.p ha.p hb.p).by fun D σ H ⟨F, ρ, W, R, h⟩ => ⟨F, ρ, W, R, by
    unfold sIfS at h
    revert h
    cases t ρ with
    | none => exact fun h => h
    | some q =>
      obtain ⟨q, ρ2⟩ := q
      cases q with
      | ex C => exact fun h H2 W2 fr2 sub2 R2 => h σ H2 W2 fr2 (fun p hp => .inl (sub2 p hp)) R2
      | ok k =>
        cases k with
        | true => exact fun h H2 W2 fr2 sub2 R2 => ⟨F, ρ2, W2, R2, OkS.go h fr2 fun p hp => .inl (sub2 p hp)⟩
        | false => exact fun h H2 W2 fr2 sub2 R2 => ⟨F, ρ2, W2, R2, OkS.go h fr2 fun p hp => .inl (sub2 p hp)⟩⟩⟩
end
end L2
namespace L2
open PySem PySem.Spec PyProof.Rows
mutual
def flatD : D → Bool
  | .lst _ => false
  | .klst _ => false
  | .dK _ _ => false
  | .dT _ _ => false
  | .tup ds => flatDs ds
  | .ktup ds => flatDs ds
  | _ => true
def flatDs : List D → Bool
  | [] => true
  | d :: ds => flatD d && flatDs ds
end
def flatIn : D → Bool
  | .lst ds => flatDs ds
  | .dK _ ds => flatDs ds
  | .dT _ ds => flatDs ds
  | _ => false
section
variable {K : PySem.W.Frag} {H : Hp} {L1 L2 : List Addr}
theorem hid_flat {p : Addr} {o : HO} (h : hid L1 H p = some o) (hm : ∀ p ∈ L2, MutO (H p)) (no : ¬ MutO (some o)) : hid L2 H p = some o := by
  have e := (hid_some h).2
  rw [hid_ne fun z => no (by have := hm p z; rw [e] at this; exact this)]
  exact e
mutual
theorem RepD.flat (hm : ∀ p ∈ L2, MutO (H p)) : ∀ {d : D} {v : V}, flatD d = true → RepD K (hid L1 H) d v → RepD K (hid L2 H) d v
  | .non, _, _, h => h
  | .bl _, _, _, h => h
  | .int _, _, _, h => h
  | .str _, _, _, h => h
  | .tup _, _, f, ⟨p, xs, h1, h2, h3⟩ => ⟨p, xs, h1, hid_flat h2 hm (fun z => z), RepDs.flat hm (by unfold flatD at f; exact f) h3⟩
  | .ktup _, _, f, ⟨p, xs, h1, h2, h3⟩ => ⟨p, xs, h1, h2, RepDs.flat hm (by unfold flatD at f; exact f) h3⟩
  | .lst _, _, f, _ => by unfold flatD at f; cases f
  | .klst _, _, f, _ => by unfold flatD at f; cases f
  | .dK _ _, _, f, _ => by unfold flatD at f; cases f
  | .dT _ _, _, f, _ => by unfold flatD at f; cases f
  | .set _, _, _, ⟨p, S, h1, h2, h3⟩ => ⟨p, S, h1, hid_flat h2 hm (fun z => z), h3⟩
  | .rng _ _, _, _, ⟨p, h1, h2⟩ => ⟨p, h1, hid_flat h2 hm (fun z => z)⟩
  | .exc _, _, _, ⟨p, C, h1, h2, h3⟩ => ⟨p, C, h1, h2, hid_flat h3 hm (fun z => z)⟩
theorem RepDs.flat (hm : ∀ p ∈ L2, MutO (H p)) : ∀ {ds : List D} {xs : List V}, flatDs ds = true → RepDs K (hid L1 H) ds xs → RepDs K (hid L2 H) ds xs
  | [], [], _, _ => trivial
  | _ :: _, _ :: _, f, h => by
    unfold flatDs at f
    have f := (Bool.and_eq_true _ _).mp f
    exact ⟨RepD.flat hm f.1 h.1, RepDs.flat hm f.2 h.2⟩
  | [], _ :: _, _, h => h.elim
  | _ :: _, [], _, h => h.elim
end
theorem OwnAt.flat {H' : Hp} {p : Addr} {d : D} (hm : ∀ p ∈ L2, MutO (H p)) (f : flatIn d = true) (h : OwnAt K H' (hid L1 H) p d) : OwnAt K H' (hid L2 H) p d := by
  cases d <;> first
    | exact h.elim
    | (obtain ⟨xs, h1, h2, h3⟩ := h; exact ⟨xs, h1, h2, RepDs.flat hm f h3⟩)
    | (obtain ⟨xs, h1, h2⟩ := h; exact ⟨xs, h1, RepDs.flat hm f h2⟩)
end
abbrev FS := List D → Option (Res × D)
def spF (K : PySem.W.Frag) (io : Option Nat) (run : FS) : Sp := fun vs H Q E => ∃ (Z W : List Addr) (ds : List D),
  vs.length = ds.length ∧ (∀ p ∈ W, p ∉ Z) ∧ (∀ p ∈ W ++ Z, MutO (H p)) ∧
  (∀ (j : Nat) (d : D) (v : V), io ≠ some j → ds[j]? = some d → vs[j]? = some v → RepD K (hid (W ++ Z) H) d v) ∧
  (∀ k, io = some k → ∃ p d, vs[k]? = some (V.ref p) ∧ ds[k]? = some d ∧ W = [p] ∧ OwnAt K H (hid (W ++ Z) H) p d) ∧
  (io = none → W = []) ∧
  match run ds with
  | some (.ok d false, dio) => ∀ v H', Fr W H H' → RepD K (hid (W ++ Z) H') d v → (∀ p, W = [p] → OwnAt K H' (hid (W ++ Z) H') p dio) → Q v H'
  | some (.ok d true, dio) => ∀ q H', Fr W H H' → H q = none → OwnAt K H' (hid (q :: (W ++ Z)) H') q d → (∀ p, W = [p] → OwnAt K H' (hid (q :: (W ++ Z)) H') p dio) → Q (.ref q) H'
  | some (.ex C, dio) => ∀ H', Fr W H H' → (∀ p, W = [p] → OwnAt K H' (hid (W ++ Z) H') p dio) → ∀ a, clsK K C a → ∀ x, E (.ref a) x H'
  | none => False
def iniL (io : Option Nat) : Nat → List D → Rho
  | _, [] => []
  | j, d :: ds => some (d, if io = some j then .io else .fz) :: iniL io (j + 1) ds
def ini (n : Nat) (io : Option Nat) (ds : List D) : Rho := iniL io 0 ds ++ List.replicate (n - ds.length) none
def ioD (io : Option Nat) (ρ : Rho) : Option D := match io with
  | none => some .non
  | some k => match ρ[k]? with
    | some (some (d, .io)) => some d
    | _ => none
def fnRun (np n : Nat) (io : Option Nat) (body : SS) : FS := fun ds => if ds.length = np then
  match body (ini n io ds) with
  | some (.rt d nw, ρ') => match ioD io ρ' with
    | some x => some (.ok d nw, x)
    | none => none
  | some (.nx, ρ') => match ioD io ρ' with
    | some x => some (.ok .non false, x)
    | none => none
  | some (.ex C, ρ') => match ioD io ρ' with
    | some x => some (.ex C, x)
    | none => none
  | _ => none else none
theorem iniL_len {io : Option Nat} : ∀ {j : Nat} {ds : List D}, (iniL io j ds).length = ds.length
  | _, [] => rfl
  | j, _ :: ds => by unfold iniL; rw [List.length_cons, List.length_cons, iniL_len]
theorem iniL_get {io : Option Nat} : ∀ {j i : Nat} {ds : List D} {d : D} {m : Md}, (iniL io j ds)[i]? = some (some (d, m)) → ds[i]? = some d ∧ m = if io = some (j + i) then .io else .fz
  | j, i, [], d, m, h => by unfold iniL at h; simp at h
  | j, 0, x :: ds, d, m, h => by
    unfold iniL at h
    simp only [List.getElem?_cons_zero, Option.some.injEq, Prod.mk.injEq] at h
    exact ⟨by rw [← h.1]; rfl, by rw [← h.2]; rfl⟩
  | j, i + 1, x :: ds, d, m, h => by
    unfold iniL at h
    simp only [List.getElem?_cons_succ] at h
    obtain ⟨h1, h2⟩ := iniL_get h
    exact ⟨by simpa using h1, by rw [h2, show j + 1 + i = j + (i + 1) by omega]⟩
theorem ini_get {n : Nat} {io : Option Nat} {i : Nat} {ds : List D} {d : D} {m : Md} (h : (ini n io ds)[i]? = some (some (d, m))) : ds[i]? = some d ∧ m = if io = some i then .io else .fz := by
  unfold ini at h
  by_cases hi : i < ds.length
  · rw [List.getElem?_append_left (by rw [iniL_len]; exact hi)] at h
    have := iniL_get h
    rw [Nat.zero_add] at this
    exact this
  · rw [List.getElem?_append_right (by rw [iniL_len]; omega), List.getElem?_replicate] at h
    split at h <;> cases h
def EXf (K : PySem.W.Frag) (E : XK) : EXT := fun nm _ H => ∀ C, clsK K nm C → ∀ x, E (.ref C) x H
theorem fn_ok {P : Program} {w : World} {K : PySem.W.Frag} {mg : Str → Option Value} {base : Heap} {x : Str} {st : Stmt} {N ps : List Str} {k : Nat} {io : Option Nat} {body : SS} (h : Has K mg x st ps) (S : FnScope N ps (defScope st))
    (hb : ∀ (f : Addr) (cdv : Value) (A : Around) (outer : List Env) (s : Shared) (H : Hp) (E : XK), Room k (A.deeper (envOfC x (defScope st) s.heap.objs.size f cdv)) →
      JSs (cxOf (CXr P w) P w K mg base N x (defScope st) f cdv A outer s H E) (EXf K E) (defBody st) body) (hps : ps.length ≤ N.length := by decide) : OkX P w K mg base x ps (k + 1) (spF K io (fnRun ps.length N.length io body)) := by
  have run_len : ∀ {ds : List D} {r : Res × D}, fnRun ps.length N.length io body ds = some r → ds.length = ps.length := fun {ds r} e => by
    unfold fnRun at e
    split at e
    · assumption
    · cases e
  refine h.okX S (fun vs H Q E hs => ?_) (fun f cdv A outer s H vs Q E hr hs => ?_)
  · obtain ⟨Z, W, ds, h1, _, _, _, _, _, hm⟩ := hs
    cases e : fnRun ps.length N.length io body ds with
    | none => rw [e] at hm; exact hm.elim
    | some r => rw [h1]; exact run_len e
  · obtain ⟨Z, W, ds, h1, hwz, hmt, hfz, hio, hno, hm⟩ := hs
    refine ⟨_, (hb f cdv A outer s H E hr).p, ?_⟩
    have hlen : ds.length = ps.length := by
      cases e : fnRun ps.length N.length io body ds with
      | none => rw [e] at hm; exact hm.elim
      | some r => exact run_len e
    let F : Fx := ⟨Z, fun j => if io = some j then W.head? else none⟩
    have st_get : ∀ {j : Nat} {v : V}, vs[j]? = some v → (start N vs)[j]? = some (some v) := fun {j v} e => by
      unfold start
      rw [List.getElem?_append_left (by rw [List.length_map]; exact (List.getElem?_eq_some_iff.mp e).1), List.getElem?_map, e]
      rfl
    have R0 : Rel K F (start N vs) H (ini N.length io ds) W := by
      refine ⟨fun i d m hi => ?_, fun i j d e m n p g1 g2 g3 g4 _ _ => ?_, hwz, hmt, ?_⟩
      · obtain ⟨hd, rfl⟩ := ini_get hi
        have hv : i < vs.length := by rw [h1]; exact (List.getElem?_eq_some_iff.mp hd).1
        refine ⟨vs[i], st_get (List.getElem?_eq_getElem hv), ?_⟩
        by_cases e : io = some i
        · rw [if_pos e]
          obtain ⟨p, d', q1, q2, q3, q4⟩ := hio i e
          rw [List.getElem?_eq_getElem hv] at q1
          rw [hd] at q2
          cases q2
          refine ⟨p, Option.some.inj q1, by rw [q3]; exact List.mem_cons_self, q4, ?_⟩
          show (if io = some i then W.head? else none) = some p
          rw [if_pos e, q3]
          rfl
        · rw [if_neg e]
          exact hfz i d _ e hd (List.getElem?_eq_getElem hv)
      · obtain ⟨_, e1⟩ := ini_get g1
        obtain ⟨_, e2⟩ := ini_get g3
        by_cases z1 : io = some i
        · by_cases z2 : io = some j
          · rw [z1] at z2; exact Option.some.inj z2
          · rw [if_neg z2] at e2; exact absurd e2 g4
        · rw [if_neg z1] at e1; exact absurd e1 g2
      · unfold start ini
        rw [List.length_append, List.length_append, List.length_map, List.length_replicate, List.length_replicate, iniL_len, h1]
    refine ⟨F, _, W, R0, ?_⟩
    -- what the list that may be changed has become
    have ioR : ∀ {σ' : St} {H' : Hp} {ρ' : Rho} {W' : List Addr} {x : D} {p : Addr}, Rel K F σ' H' ρ' W' → ioD io ρ' = some x → W = [p] → p ∈ W' ∧ OwnAt K H' (hid (W' ++ Z) H') p x := fun {σ' H' ρ' W' x p} R e hW => by
      cases hk : io with
      | none => rw [hno hk] at hW; cases hW
      | some k =>
        unfold ioD at e
        rw [hk] at e
        dsimp only at e
        split at e
        · rename_i d0 e0
          cases e
          obtain ⟨v, g1, q, g2, g3, g4, g5⟩ := R.slot k _ _ e0
          have g5 : (if io = some k then W.head? else none) = some q := g5
          rw [if_pos hk, hW] at g5
          have : p = q := Option.some.inj g5
          subst this
          exact ⟨g3, g4⟩
        · cases e
    have wsub : ∀ {σ' : St} {H' : Hp} {ρ' : Rho} {W' : List Addr} {x : D}, Rel K F σ' H' ρ' W' → ioD io ρ' = some x → ∀ b, b ∈ W ++ Z → b ∈ W' ++ Z := fun {σ' H' ρ' W' x} R e b hb => by
      rcases List.mem_append.mp hb with z | z
      · cases hk : io with
        | none => rw [hno hk] at z; cases z
        | some k =>
          obtain ⟨p, d, _, _, q3, _⟩ := hio k hk
          rw [q3] at z
          rw [List.mem_singleton.mp z]
          exact List.mem_append_left _ (ioR R e q3).1
      · exact List.mem_append_right _ z
    have toW : ∀ {σ' : St} {H' H2 : Hp} {ρ' : Rho} {W' : List Addr} {x : D}, Rel K F σ' H2 ρ' W' → ioD io ρ' = some x → Same (hid (W' ++ Z) H') (hid (W ++ Z) H') := fun R e => hid_same (fun b hb => .inl (wsub R e b hb)) fun b o _ z => z
    revert hm
    unfold fnRun
    rw [if_pos hlen]
    cases body (ini N.length io ds) with
    | none => exact fun h => h.elim
    | some r =>
      obtain ⟨r, ρ'⟩ := r
      cases r with
      | bk => exact fun h => h.elim
      | ct => exact fun h => h.elim
      | nx =>
        dsimp only
        cases e : ioD io ρ' with
        | none => exact fun h => h.elim
        | some x =>
          intro hm σ' H' W' fr sub R
          exact hm .non H' fr rfl fun p hp => (ioR R e hp).2.at rfl (toW R e)
      | ex C =>
        dsimp only
        cases e : ioD io ρ' with
        | none => exact fun h => h.elim
        | some x =>
          intro hm σ' H' W' fr sub R
          exact hm H' fr fun p hp => (ioR R e hp).2.at rfl (toW R e)
      | rt d nw =>
        dsimp only
        cases e : ioD io ρ' with
        | none => exact fun h => h.elim
        | some x =>
          cases nw with
          | false =>
            intro hm σ' v H' W' fr sub P
            exact hm v H' fr ((toW P.2 e).repD P.1) fun p hp => (ioR P.2 e hp).2.at rfl (toW P.2 e)
          | true =>
            intro hm σ' v H' W' fr sub P
            obtain ⟨q, rfl, hq, hn, hO, R⟩ := P
            have hq0 : H q = none := by
              rcases hq with z | z
              · cases hk : io with
                | none => rw [hno hk] at z; cases z
                | some k =>
                  obtain ⟨p, d', _, _, q3, _⟩ := hio k hk
                  rw [q3] at z
                  have : q = p := List.mem_singleton.mp z
                  subst this
                  exact absurd (List.mem_append_left _ (ioR R e q3).1) hn
              · exact z
            have cs : Same (hid (q :: (W' ++ Z)) H') (hid (q :: (W ++ Z)) H') := hid_same (fun b hb => .inl (by
              rcases List.mem_cons.mp hb with z | z
              · rw [z]; exact List.mem_cons_self
              · exact List.mem_cons_of_mem _ (wsub R e b z))) fun b o _ z => z
            refine hm q H' fr hq0 (hO.at rfl cs) fun p hp => ?_
            obtain ⟨m1, m2⟩ := ioR R e hp
            have pq : p ≠ q := fun z => by subst z; exact hn (List.mem_append_left _ m1)
            refine m2.at (hid_ne (by simpa using pq)).symm fun b o z => ?_
            obtain ⟨z1, z2⟩ := hid_some z
            obtain ⟨z3, z4⟩ := hid_some z2
            rw [hid_ne (fun y => by
              rcases List.mem_cons.mp y with y | y
              · exact z3 (by simpa using y)
              · exact z1 (wsub R e b y))]
            exact z4
end L2
namespace L2
open PySem PySem.Spec PyProof.Rows
section
variable {K : PySem.W.Frag} {F : Fx} {EX : EXT} {σ : St} {H H2 : Hp} {ρ : Rho} {W : List Addr}
theorem Rel.wrote (R : Rel K F σ H ρ W) {i : Nat} {d d' : D} {m : Md} {p : Addr} (h : ρ[i]? = some (some (d, m))) (hm : m ≠ .fz) (hp : σ[i]? = some (some (.ref p))) (fr : Fr [p] H H2) (new : OwnAt K H2 (hid (W ++ F.Z) H2) p d') :
    Rel K F σ H2 (ρ.set i (some (d', m))) W := by
  obtain ⟨v, hv, hS⟩ := R.slot i d m h
  rw [hp] at hv
  cases hv
  have hw : p ∈ W := by
    cases m with
    | fz => exact absurd rfl hm
    | ow => obtain ⟨r, e2, e3, _⟩ := hS; cases e2; exact e3
    | io => obtain ⟨r, e2, e3, _⟩ := hS; cases e2; exact e3
  have sh : Same (hid (W ++ F.Z) H) (hid (W ++ F.Z) H2) := hid_same (fun b hb => .inl hb) fun b o n e => fr.keep b o (fun z => n (by rw [List.mem_singleton.mp z]; exact List.mem_append_left _ hw)) e
  have eq : ∀ r, r ≠ p → MutO (H r) → H2 r = H r := fun r hr hM => by
    obtain ⟨u, q⟩ := hM.some
    rw [q]
    exact fr.keep r u (by simpa using hr) q
  refine ⟨fun j e n hj => ?_, fun j k e f n n' r h1 h2 h3 h4 h5 h6 => ?_, R.wz, fun r hr => ?_, by rw [List.length_set]; exact R.len⟩
  · rcases set_get hj with ⟨rfl, e1⟩ | ⟨ne, e1⟩
    · cases e1
      refine ⟨_, hp, ?_⟩
      cases m with
      | fz => exact absurd rfl hm
      | ow => exact ⟨p, rfl, hw, new⟩
      | io => obtain ⟨r, e2, e3, e4, e5⟩ := hS; cases e2; exact ⟨p, rfl, hw, new, e5⟩
    · obtain ⟨v, g1, g2⟩ := R.slot j e n e1
      refine ⟨v, g1, ?_⟩
      have other : ∀ r, v = .ref r → n ≠ .fz → r ≠ p := fun r er hn z => by
        subst er z
        exact ne (R.apart j i _ _ _ _ _ e1 hn h hm g1 hp)
      cases n with
      | fz => exact sh.repD g2
      | ow => obtain ⟨r, e2, e3, e4⟩ := g2; exact ⟨r, e2, e3, e4.at (eq r (other r e2 (by decide)) e4.mu) sh⟩
      | io => obtain ⟨r, e2, e3, e4, e5⟩ := g2; exact ⟨r, e2, e3, e4.at (eq r (other r e2 (by decide)) e4.mu) sh, e5⟩
  · have fnd : ∀ {j : Nat} {e : D} {n : Md}, (ρ.set i (some (d', m)))[j]? = some (some (e, n)) → n ≠ .fz → ∃ e', ρ[j]? = some (some (e', n)) := fun {j e n} hj hn => by
      rcases set_get hj with ⟨rfl, e1⟩ | ⟨_, e1⟩
      · cases e1; exact ⟨d, h⟩
      · exact ⟨_, e1⟩
    obtain ⟨_, z1⟩ := fnd h1 h2
    obtain ⟨_, z2⟩ := fnd h3 h4
    exact R.apart j k _ _ _ _ _ z1 h2 z2 h4 h5 h6
  · by_cases e : r = p
    · subst e; exact new.mu
    · rw [eq r e (R.mt r hr)]; exact R.mt r hr
variable (K F σ H ρ W) in
def ArgR : Arg → D → V → Prop
  | .ex _, d, v => RepD K (hid (W ++ F.Z) H) d v
  | .bor i, d, v => σ[i]? = some (some v) ∧ ∃ m, ρ[i]? = some (some (d, m))
variable (K F σ H ρ W) in
def ArgRs : List Arg → List D → List V → Prop
  | [], [], [] => True
  | a :: as, d :: ds, v :: vs => ArgR K F σ H ρ W a d v ∧ ArgRs as ds vs
  | _, _, _ => False
theorem ArgRs.len : ∀ {as : List Arg} {ds : List D} {vs : List V}, ArgRs K F σ H ρ W as ds vs → vs.length = ds.length
  | [], [], [], _ => rfl
  | _ :: _, _ :: _, _ :: _, h => by rw [List.length_cons, List.length_cons, ArgRs.len h.2]
  | [], _ :: _, _, h => h.elim
  | [], [], _ :: _, h => h.elim
  | _ :: _, [], _, h => h.elim
  | _ :: _, _ :: _, [], h => h.elim
theorem ArgRs.get : ∀ {as : List Arg} {ds : List D} {vs : List V} {j : Nat} {d : D} {v : V}, ArgRs K F σ H ρ W as ds vs → ds[j]? = some d → vs[j]? = some v → ∃ a, as[j]? = some a ∧ ArgR K F σ H ρ W a d v
  | a :: _, _ :: _, _ :: _, 0, d, v, h, e1, e2 => by
    simp only [List.getElem?_cons_zero, Option.some.injEq] at e1 e2
    subst e1 e2
    exact ⟨a, rfl, h.1⟩
  | _ :: _, _ :: _, _ :: _, j + 1, d, v, h, e1, e2 => by
    simp only [List.getElem?_cons_succ] at e1 e2 ⊢
    exact ArgRs.get h.2 e1 e2
  | [], [], [], _, _, _, _, e, _ => by simp at e
  | [], _ :: _, _, _, _, _, h, _, _ => h.elim
  | [], [], _ :: _, _, _, _, h, _, _ => h.elim
  | _ :: _, [], _, _, _, _, h, _, _ => h.elim
  | _ :: _, _ :: _, [], _, _, _, h, _, _ => h.elim
theorem ArgRs.at : ∀ {as : List Arg} {ds : List D} {vs : List V} {j : Nat} {a : Arg}, ArgRs K F σ H ρ W as ds vs → as[j]? = some a → ∃ d v, ds[j]? = some d ∧ vs[j]? = some v ∧ ArgR K F σ H ρ W a d v
  | a :: _, d :: _, v :: _, 0, b, h, e1 => by
    simp only [List.getElem?_cons_zero, Option.some.injEq] at e1
    subst e1
    exact ⟨d, v, rfl, rfl, h.1⟩
  | _ :: _, _ :: _, _ :: _, j + 1, a, h, e1 => by
    simp only [List.getElem?_cons_succ] at e1 ⊢
    exact ArgRs.at h.2 e1
  | [], [], [], _, _, _, e => by simp at e
  | [], _ :: _, _, _, _, h, _ => h.elim
  | [], [], _ :: _, _, _, h, _ => h.elim
  | _ :: _, [], _, _, _, h, _ => h.elim
  | _ :: _, _ :: _, [], _, _, h, _ => h.elim
variable (K F EX) in
def OkA2 (σ : St) (H : Hp) (W : List Addr) (as : List Arg) (o : Option (ResA × Rho)) (Q : List V → Hp → Prop) : Prop := match o with
  | some (.ok ds, ρ') => ∀ vs H' W', Fr W H H' → (∀ p ∈ W', p ∈ W) → Rel K F σ H' ρ' W' → ArgRs K F σ H' ρ' W' as ds vs → Q vs H'
  | some (.ex C, ρ') => ∀ H' W', Fr W H H' → (∀ p ∈ W', p ∈ W) → Rel K F σ H' ρ' W' → EX C σ H'
  | none => False
theorem as_ok2 : ∀ (as : List Arg) {H : Hp} {ρ : Rho} {W : List Addr} {Q : List V → Hp → Prop}, Rel K F σ H ρ W → OkA2 K F EX σ H W as (evA as ρ) Q → tAs K EX as σ H Q
  | [], H, ρ, W, Q, R, h => h [] H W .refl (fun _ z => z) R trivial
  | .ex f :: as, H, ρ, W, Q, R, h => by
    refine ⟨F, ρ, W, R, ?_⟩
    unfold evA at h
    revert h
    cases f ρ with
    | none => exact fun h => h
    | some r =>
      obtain ⟨r, ρ1⟩ := r
      cases r with
      | ex C => exact fun h => h
      | ok d nw =>
        intro h v H1 W1 fr sub post
        obtain ⟨rd, R1⟩ := post.plain
        refine as_ok2 as R1 ?_
        revert h
        dsimp only
        cases evA as ρ1 with
        | none => exact fun h => h
        | some q =>
          obtain ⟨q, ρ2⟩ := q
          cases q with
          | ex C => exact fun h H2 W2 fr2 sub2 R2 => h H2 W2 (fr.trans fr2 fun p hp => .inl (sub p hp)) (fun p hp => sub p (sub2 p hp)) R2
          | ok ds =>
            intro h vs H2 W2 fr2 sub2 R2 reps
            exact h (v :: vs) H2 W2 (fr.trans fr2 fun p hp => .inl (sub p hp)) (fun p hp => sub p (sub2 p hp)) R2 ⟨(fr2.hid fun p hp => .inl (sub2 p hp)).repD rd, reps⟩
  | .bor i :: as, H, ρ, W, Q, R, h => by
    unfold evA at h
    revert h
    cases e : ρ[i]? with
    | none => exact fun h => h.elim
    | some z =>
      cases z with
      | none => exact fun h => h.elim
      | some dm =>
        obtain ⟨d0, m0⟩ := dm
        obtain ⟨v, hv, _⟩ := R.slot i d0 m0 e
        intro h
        refine ⟨v, hv, as_ok2 as R ?_⟩
        revert h
        dsimp only
        cases evA as ρ with
        | none => exact fun h => h
        | some q =>
          obtain ⟨q, ρ2⟩ := q
          cases q with
          | ex C => exact fun h => h
          | ok ds =>
            dsimp only
            cases e2 : ρ2[i]? with
            | none => exact fun h => h.elim
            | some z =>
              cases z with
              | none => exact fun h => h.elim
              | some dm =>
                obtain ⟨d, m⟩ := dm
                intro h vs H2 W2 fr2 sub2 R2 reps
                exact h (v :: vs) H2 W2 fr2 sub2 R2 ⟨⟨hv, m, e2⟩, reps⟩
end
structure Callable (X : Cx) (EX : EXT) : Prop where
  call : ∀ {x : Str} {ps : List Str} {k : Nat} {sp : Sp} {e : Expr} {es : List Expr} {t : TA} {p pos : Pos} (h : OkX X.prog X.w X.K X.mg X.base x ps k sp) (hr : Room k X.A) (hg : Gl X x) (ha : PA X (e :: es) t) (hdb : (x == ("__debug__" : Str)) = false)
    (he : starEach (e :: es) X.env = (false, eval e X.env) :: starEach es X.env) (hpl : (backTo pos (starEach es X.env)).any (·.1) = false), PE X (.Call (.Name x p) (e :: es) [] pos) (fun σ H Q => t σ H fun vs H1 => sp vs H1 Q fun c _ H' => ∃ nm C, c = .ref C ∧ clsK X.K nm C ∧ EX nm σ H')
def EXn : EXT := fun _ _ _ => False
theorem app_nil_sp {sp : Sp} {Q : VK} {E : XK} : (fun (vs : List V) H1 => sp (vs ++ []) H1 Q E) = fun vs H1 => sp vs H1 Q E := by
  funext vs H1
  rw [List.append_nil]
theorem callable_n {X : Cx} : Callable X EXn := ⟨fun {x ps k sp e es t p pos} h hr hg ha hdb he hpl => by
  obtain ⟨f, fd, hm, hk, hb, F⟩ := h.ex
  refine (pe_call F hr hg hm hk hb .nil (E := fun c _ H' => ∃ nm C, c = Value.ref C ∧ clsK X.K nm C ∧ False) (fun _ _ _ _ _ _ _ hZ => (by obtain ⟨_, _, _, _, _, _, _, _, _, _, _, _, _, _, z⟩ := hZ; exact z.elim)) ha hdb he hpl).by fun σ H Q h => ?_
  unfold tCall
  rw [app_nil_sp]
  exact h⟩
theorem callable_f {P : Program} {w : World} {K : PySem.W.Frag} {mg : Str → Option Value} {base : Heap} {N : List Str} {qual : Str} {scope : Scope} {f : Addr} {cd : Value} {A : Around} {outer : List Env} {s : Shared} {H : Hp} {E : XK} :
    Callable (cxOf (CXr P w) P w K mg base N qual scope f cd A outer s H E) (EXf K E) := ⟨fun {x ps k sp e es t p pos} h hr hg ha hdb he hpl => by
  obtain ⟨f', fd, hm, hk, hb, F⟩ := h.ex
  refine (pe_call (X := cxOf (CXr P w) P w K mg base N qual scope f cd A outer s H E) F hr hg hm hk hb .nil (E := fun c _ H' => ∃ nm C, c = Value.ref C ∧ clsK K nm C ∧ ∀ C', clsK K nm C' → ∀ x, E (.ref C') x H') (passes_r fun c d H' z => by obtain ⟨nm, C, rfl, hc, z⟩ := z; exact z C hc d) ha hdb he hpl).by fun σ H Q h => ?_
  unfold tCall
  rw [app_nil_sp]
  exact h⟩
def noBor (io : Option Nat) : Nat → List Arg → Rho → Bool
  | _, [], _ => true
  | j, .ex _ :: as, ρ => noBor io (j + 1) as ρ
  | j, .bor i :: as, ρ => (if io = some j then true else match ρ[i]? with
    | some (some (_, .fz)) => true
    | _ => false) && noBor io (j + 1) as ρ
def apartA (i k : Nat) : Nat → List Arg → Bool
  | _, [] => true
  | j, .ex _ :: as => apartA i k (j + 1) as
  | j, .bor i' :: as => (decide (j = k) || decide (i' ≠ i)) && apartA i k (j + 1) as
def ioOk (io : Option Nat) (as : List Arg) (slot : Option Nat) : Bool := match io, slot with
  | none, none => true
  | some k, some i => (match as[k]? with
    | some (.bor i') => decide (i' = i)
    | _ => false) && apartA i k 0 as
  | _, _ => false
def putIo (slot : Option Nat) (dio : D) (ρ : Rho) : Option Rho := match slot with
  | none => some ρ
  | some i => match ρ[i]? with
    | some (some (_, .ow)) => some (ρ.set i (some (dio, .ow)))
    | some (some (_, .io)) => some (ρ.set i (some (dio, .io)))
    | _ => none
def flatR (d : D) (nw : Bool) : Bool := if nw then flatIn d else flatD d
def sCall (io slot : Option Nat) (run : FS) (as : List Arg) : SE := fun ρ => match evA as ρ with
  | some (.ok ds, ρ1) => match run ds with
    | some (.ok d nw, dio) => if (noBor io 0 as ρ1 || (flatR d nw && (io.isNone || flatIn dio))) = true then
        match putIo slot dio ρ1 with
        | some ρ2 => some (.ok d nw, ρ2)
        | none => none
      else none
    | some (.ex C, dio) => if (noBor io 0 as ρ1 || (io.isNone || flatIn dio)) = true then
        match putIo slot dio ρ1 with
        | some ρ2 => some (.ex C, ρ2)
        | none => none
      else none
    | none => none
  | some (.ex C, ρ') => some (.ex C, ρ')
  | none => none
theorem noBor_get {io : Option Nat} {ρ : Rho} : ∀ {as : List Arg} {j n : Nat} {i : Nat}, noBor io n as ρ = true → as[j]? = some (.bor i) → io ≠ some (n + j) → ∃ d, ρ[i]? = some (some (d, .fz))
  | [], j, n, i, h, e, _ => by simp at e
  | .ex _ :: as, 0, n, i, h, e, _ => by simp at e
  | .bor i' :: as, 0, n, i, h, e, ne => by
    simp only [List.getElem?_cons_zero, Option.some.injEq, Arg.bor.injEq] at e
    subst e
    unfold noBor at h
    have h := ((Bool.and_eq_true _ _).mp h).1
    rw [if_neg (by simpa using ne)] at h
    split at h
    · exact ⟨_, by assumption⟩
    · cases h
  | .ex _ :: as, j + 1, n, i, h, e, ne => by
    unfold noBor at h
    exact noBor_get (j := j) (n := n + 1) h (by simpa using e) (by rw [show n + 1 + j = n + (j + 1) by omega]; exact ne)
  | .bor _ :: as, j + 1, n, i, h, e, ne => by
    unfold noBor at h
    exact noBor_get (j := j) (n := n + 1) ((Bool.and_eq_true _ _).mp h).2 (by simpa using e) (by rw [show n + 1 + j = n + (j + 1) by omega]; exact ne)
theorem apartA_get {i k : Nat} : ∀ {as : List Arg} {j n : Nat} {i' : Nat}, apartA i k n as = true → as[j]? = some (.bor i') → n + j ≠ k → i' ≠ i
  | [], j, n, i', h, e, _ => by simp at e
  | .ex _ :: as, 0, n, i', h, e, _ => by simp at e
  | .bor i2 :: as, 0, n, i', h, e, ne => by
    simp only [List.getElem?_cons_zero, Option.some.injEq, Arg.bor.injEq] at e
    subst e
    unfold apartA at h
    have h := ((Bool.and_eq_true _ _).mp h).1
    rcases (Bool.or_eq_true _ _).mp h with z | z
    · exact absurd (by simpa using of_decide_eq_true z) ne
    · exact of_decide_eq_true z
  | .ex _ :: as, j + 1, n, i', h, e, ne => by
    unfold apartA at h
    exact apartA_get (j := j) (n := n + 1) h (by simpa using e) (by omega)
  | .bor _ :: as, j + 1, n, i', h, e, ne => by
    unfold apartA at h
    exact apartA_get (j := j) (n := n + 1) ((Bool.and_eq_true _ _).mp h).2 (by simpa using e) (by omega)
section
variable {K : PySem.W.Frag} {F : Fx} {σ : St} {H : Hp} {ρ : Rho} {W : List Addr}
theorem call_in {io slot : Option Nat} {as : List Arg} {ds : List D} {vs : List V} {dio : D} {ρ2 : Rho} (R : Rel K F σ H ρ W) (A : ArgRs K F σ H ρ W as ds vs) (hio : ioOk io as slot = true) (hput : putIo slot dio ρ = some ρ2) :
    ∃ Wc Zc, (∀ p ∈ Wc, p ∉ Zc) ∧ (∀ b, b ∈ Wc ++ Zc → b ∈ W ++ F.Z) ∧ (∀ p ∈ Wc, p ∈ W) ∧ (noBor io 0 as ρ = true → ∀ b, b ∈ W ++ F.Z → b ∈ Wc ++ Zc) ∧
      (∀ (j : Nat) (d : D) (v : V), io ≠ some j → ds[j]? = some d → vs[j]? = some v → RepD K (hid (Wc ++ Zc) H) d v) ∧
      (∀ k, io = some k → ∃ p d, vs[k]? = some (V.ref p) ∧ ds[k]? = some d ∧ Wc = [p] ∧ OwnAt K H (hid (Wc ++ Zc) H) p d) ∧ (io = none → Wc = []) ∧
      ∀ H2, Fr Wc H H2 → (∀ p, Wc = [p] → OwnAt K H2 (hid (W ++ F.Z) H2) p dio) → Rel K F σ H2 ρ2 W := by
  cases io with
  | none =>
    cases slot with
    | some i => cases hio
    | none =>
      cases hput
      -- Zc: all that is hidden, if nothing that is owned is shown; else the callers' alone
      have fin : ∀ H2, Fr [] H H2 → Rel K F σ H2 ρ W := fun H2 fr => R.same fun b o e => fr.keep b o (by simp) e
      by_cases hn : noBor none 0 as ρ = true
      · refine ⟨[], W ++ F.Z, fun p hp => by simp at hp, fun b hb => by simpa using hb, fun p hp => by simp at hp, fun _ b hb => by simpa using hb, fun j d v _ e1 e2 => ?_, fun k z => (by cases z), fun _ => rfl, fun H2 fr _ => fin H2 fr⟩
        obtain ⟨a, ea, ra⟩ := A.get e1 e2
        cases a with
        | ex f => exact ra
        | bor i =>
          obtain ⟨d', hd'⟩ := noBor_get hn ea (by simp)
          obtain ⟨q1, m, q2⟩ := ra
          rw [hd'] at q2
          cases q2
          obtain ⟨v', q3, q4⟩ := R.slot i _ _ hd'
          rw [q1] at q3
          cases q3
          exact q4
      · refine ⟨[], F.Z, fun p hp => by simp at hp, fun b hb => List.mem_append_right _ (by simpa using hb), fun p hp => by simp at hp, fun z => absurd z hn, fun j d v _ e1 e2 => ?_, fun k z => (by cases z), fun _ => rfl, fun H2 fr _ => fin H2 fr⟩
        have sh : Same (hid (W ++ F.Z) H) (hid ([] ++ F.Z) H) := hid_same (fun b hb => .inl (List.mem_append_right _ (by simpa using hb))) fun b o _ e => e
        obtain ⟨a, ea, ra⟩ := A.get e1 e2
        cases a with
        | ex f => exact sh.repD ra
        | bor i =>
          obtain ⟨q1, m, q2⟩ := ra
          obtain ⟨v', q3, q4⟩ := R.slot i _ _ q2
          rw [q1] at q3
          cases q3
          cases m with
          | fz => exact sh.repD q4
          | ow => obtain ⟨p, rfl, hp, hO⟩ := q4; exact hO.rep (hid_ne (by simpa using R.wz p hp)) sh
          | io => obtain ⟨p, rfl, hp, hO, _⟩ := q4; exact hO.rep (hid_ne (by simpa using R.wz p hp)) sh
  | some k =>
    cases slot with
    | none => cases hio
    | some i =>
      have hio : ((match as[k]? with
        | some (.bor i') => decide (i' = i)
        | _ => false) && apartA i k 0 as) = true := hio
      obtain ⟨h1, hap⟩ := (Bool.and_eq_true _ _).mp hio
      have hk : as[k]? = some (.bor i) := by
        split at h1
        · rename_i i' e
          rw [e, of_decide_eq_true h1]
        · cases h1
      -- the name's mode
      have hm : ∃ d0 m, ρ[i]? = some (some (d0, m)) ∧ m ≠ .fz ∧ ρ2 = ρ.set i (some (dio, m)) := by
        unfold putIo at hput
        dsimp only at hput
        split at hput
        · rename_i d0 e; cases hput; exact ⟨d0, _, e, by decide, rfl⟩
        · rename_i d0 e; cases hput; exact ⟨d0, _, e, by decide, rfl⟩
        · cases hput
      obtain ⟨d0, m, e0, hmf, rfl⟩ := hm
      obtain ⟨v0, g1, g2⟩ := R.slot i d0 m e0
      have own : ∃ p, v0 = .ref p ∧ p ∈ W ∧ OwnAt K H (hid (W ++ F.Z) H) p d0 := by
        cases m with
        | fz => exact absurd rfl hmf
        | ow => exact g2
        | io => obtain ⟨p, z1, z2, z3, _⟩ := g2; exact ⟨p, z1, z2, z3⟩
      obtain ⟨p, rfl, hpW, hO⟩ := own
      obtain ⟨dk, vk, f1, f2, f3, mk, f4⟩ := A.at hk
      rw [g1] at f3
      cases f3
      rw [e0] at f4
      cases f4
      have fin : ∀ H2, Fr [p] H H2 → (∀ q, [p] = [q] → OwnAt K H2 (hid (W ++ F.Z) H2) q dio) → Rel K F σ H2 (ρ.set i (some (dio, m))) W := fun H2 fr new => R.wrote e0 hmf g1 fr (new p rfl)
      -- an owned thing that is shown, but not to be changed
      have oth : ∀ (j : Nat) (i' : Nat) (d : D) (v : V) (m' : Md), some k ≠ some j → as[j]? = some (.bor i') → σ[i']? = some (some v) → ρ[i']? = some (some (d, m')) → m' ≠ .fz → v ≠ .ref p := fun j i' d v m' ne ea q1 q2 hm' z => by
        have ni : i' ≠ i := apartA_get hap ea (fun z => ne (by rw [← z, Nat.zero_add]))
        subst z
        exact ni (R.apart i' i _ _ _ _ _ q2 hm' e0 hmf q1 g1)
      by_cases hn : noBor (some k) 0 as ρ = true
      · have m1 : ∀ b, b ∈ [p] ++ (W.filter (fun a => decide (a ≠ p)) ++ F.Z) → b ∈ W ++ F.Z := fun b hb => by
          rcases List.mem_append.mp hb with z | z
          · rw [List.mem_singleton.mp z]; exact List.mem_append_left _ hpW
          · rcases List.mem_append.mp z with z | z
            · exact List.mem_append_left _ (List.mem_filter.mp z).1
            · exact List.mem_append_right _ z
        have m2 : ∀ b, b ∈ W ++ F.Z → b ∈ [p] ++ (W.filter (fun a => decide (a ≠ p)) ++ F.Z) := fun b hb => by
          by_cases z : b = p
          · rw [z]; exact List.mem_append_left _ (List.mem_singleton.mpr rfl)
          · refine List.mem_append_right _ ?_
            rcases List.mem_append.mp hb with y | y
            · exact List.mem_append_left _ (List.mem_filter.mpr ⟨y, decide_eq_true z⟩)
            · exact List.mem_append_right _ y
        have sh : Same (hid (W ++ F.Z) H) (hid ([p] ++ (W.filter (fun a => decide (a ≠ p)) ++ F.Z)) H) := hid_same (fun b hb => .inl (m1 b hb)) fun b o _ e => e
        refine ⟨[p], W.filter (fun a => decide (a ≠ p)) ++ F.Z, fun q hq z => ?_, m1, fun q hq => by rw [List.mem_singleton.mp hq]; exact hpW, fun _ => m2, fun j d v ne e1 e2 => ?_, fun k' z => ?_, fun z => (by cases z), fin⟩
        · rw [List.mem_singleton.mp hq] at z
          rcases List.mem_append.mp z with y | y
          · exact absurd rfl (of_decide_eq_true (List.mem_filter.mp y).2)
          · exact R.wz p hpW y
        · obtain ⟨a, ea, ra⟩ := A.get e1 e2
          cases a with
          | ex f => exact sh.repD ra
          | bor i' =>
            obtain ⟨d', hd'⟩ := noBor_get hn ea (by rw [Nat.zero_add]; exact ne)
            obtain ⟨q1, m', q2⟩ := ra
            rw [hd'] at q2
            cases q2
            obtain ⟨v', q3, q4⟩ := R.slot i' _ _ hd'
            rw [q1] at q3
            cases q3
            exact sh.repD q4
        · cases z
          exact ⟨p, _, f2, f1, rfl, hO.at rfl sh⟩
      · have m1 : ∀ b, b ∈ [p] ++ F.Z → b ∈ W ++ F.Z := fun b hb => by
          rcases List.mem_append.mp hb with z | z
          · rw [List.mem_singleton.mp z]; exact List.mem_append_left _ hpW
          · exact List.mem_append_right _ z
        have sh : Same (hid (W ++ F.Z) H) (hid ([p] ++ F.Z) H) := hid_same (fun b hb => .inl (m1 b hb)) fun b o _ e => e
        refine ⟨[p], F.Z, fun q hq z => by rw [List.mem_singleton.mp hq] at z; exact R.wz p hpW z, m1, fun q hq => by rw [List.mem_singleton.mp hq]; exact hpW, fun z => absurd z hn, fun j d v ne e1 e2 => ?_, fun k' z => ?_, fun z => (by cases z), fin⟩
        · obtain ⟨a, ea, ra⟩ := A.get e1 e2
          cases a with
          | ex f => exact sh.repD ra
          | bor i' =>
            obtain ⟨q1, m', q2⟩ := ra
            obtain ⟨v', q3, q4⟩ := R.slot i' _ _ q2
            rw [q1] at q3
            cases q3
            have out : ∀ r, v = .ref r → m' ≠ .fz → r ∈ W → r ∉ [p] ++ F.Z := fun r er hm' hr z => by
              rcases List.mem_append.mp z with y | y
              · rw [List.mem_singleton.mp y] at er
                exact oth j i' _ _ _ ne ea q1 q2 hm' er
              · exact R.wz r hr y
            cases m' with
            | fz => exact sh.repD q4
            | ow => obtain ⟨r, rfl, hr, hO'⟩ := q4; exact hO'.rep (hid_ne (out r rfl (by decide) hr)) sh
            | io => obtain ⟨r, rfl, hr, hO', _⟩ := q4; exact hO'.rep (hid_ne (out r rfl (by decide) hr)) sh
        · cases z
          exact ⟨p, _, f2, f1, rfl, hO.at rfl sh⟩
end
section
variable {X : Cx} {EX : EXT} {e : Expr} {es : List Expr} {as : List Arg}
theorem same_mem {L L' : List Addr} {H : Hp} (h : ∀ b, b ∈ L' → b ∈ L) : Same (hid L H) (hid L' H) := hid_same (fun b hb => .inl (h b hb)) fun b o _ e => e
theorem c_call {x : Str} {ps : List Str} {k k' : Nat} {io slot : Option Nat} {run : FS} {p pos : Pos} (C : Callable X EX) (h : OkX X.prog X.w X.K X.mg X.base x ps k (spF X.K io run)) (hr : Room k' X.A) (hk : k ≤ k') (hg : Gl X x) (ha : JA X EX (e :: es) as)
    (hio : ioOk io as slot = true := by rfl) (hdb : (x == ("__debug__" : Str)) = false := by decide) (he : starEach (e :: es) X.env = (false, eval e X.env) :: starEach es X.env := by rfl) (hpl : (backTo pos (starEach es X.env)).any (·.1) = false := by rfl) :
    JE X EX (.Call (.Name x p) (e :: es) [] pos) (sCall io slot run as) :=
  ⟨(C.call h (hr.mono hk) hg ha.p hdb he hpl).by fun σ H Q ⟨F, ρ, W, R, h⟩ => by
    refine as_ok2 as R ?_
    unfold sCall at h
    revert h
    cases evA as ρ with
    | none => exact fun h => h
    | some q =>
      obtain ⟨q, ρ1⟩ := q
      cases q with
      | ex C => exact fun h => h
      | ok ds =>
        dsimp only
        cases er : run ds with
        | none => exact fun h => h.elim
        | some r =>
          obtain ⟨r, dio⟩ := r
          have key : ∀ {ρ2 : Rho} {vs : List V} {H1 : Hp} {W1 : List Addr} (b : Bool), Rel X.K F σ H1 ρ1 W1 → ArgRs X.K F σ H1 ρ1 W1 as ds vs → putIo slot dio ρ1 = some ρ2 → (noBor io 0 as ρ1 || (b && (io.isNone || flatIn dio))) = true →
              ∃ Wc Zc, (∀ p ∈ Wc, p ∉ Zc) ∧ (∀ p ∈ Wc ++ Zc, MutO (H1 p)) ∧ (∀ p ∈ Wc, p ∈ W1) ∧
                (∀ (j : Nat) (d : D) (v : V), io ≠ some j → ds[j]? = some d → vs[j]? = some v → RepD X.K (hid (Wc ++ Zc) H1) d v) ∧
                (∀ k, io = some k → ∃ p d, vs[k]? = some (V.ref p) ∧ ds[k]? = some d ∧ Wc = [p] ∧ OwnAt X.K H1 (hid (Wc ++ Zc) H1) p d) ∧ (io = none → Wc = []) ∧
                ∀ H2 Q', Fr Wc H1 H2 → (∀ b, b ∈ Q' → H1 b = none) → (∀ p, Wc = [p] → OwnAt X.K H2 (hid (Q' ++ (Wc ++ Zc)) H2) p dio) →
                  Rel X.K F σ (hid Q' H2) ρ2 W1 ∧ (∀ p ∈ W1 ++ F.Z, MutO (H2 p)) ∧ ((∀ b, b ∈ W1 ++ F.Z → b ∈ Wc ++ Zc) ∨ b = true) := fun {ρ2 vs H1 W1} b R1 A1 hput hc => by
            obtain ⟨Wc, Zc, c1, c2, c3, c4, c5, c6, c7, c8⟩ := call_in R1 A1 hio hput
            refine ⟨Wc, Zc, c1, fun p hp => R1.mt p (c2 p hp), c3, c5, c6, c7, fun H2 Q' fr hQ own => ?_⟩
            have wc1 : ∀ p ∈ Wc, Wc = [p] := fun p hp => by
              cases hz : io with
              | none => rw [c7 hz] at hp; cases hp
              | some k =>
                obtain ⟨p', _, _, _, e, _⟩ := c6 k hz
                rw [e] at hp ⊢
                rw [List.mem_singleton.mp hp]
            have mt2 : ∀ p ∈ W1 ++ F.Z, MutO (H2 p) := fun p hp => by
              by_cases z : p ∈ Wc
              · exact (own p (wc1 p z)).mu
              · obtain ⟨u, q⟩ := (R1.mt p hp).some
                rw [fr.keep p u z q, ← q]
                exact R1.mt p hp
            have qn : ∀ p ∈ W1 ++ F.Z, p ∉ Q' := fun p hp z => by
              have := R1.mt p hp
              rw [hQ p z] at this
              exact this
            have fr2 : Fr Wc H1 (hid Q' H2) := ⟨fun b o n e => by
              rw [hid_ne (fun z => by rw [hQ b z] at e; cases e)]
              exact fr.keep b o n e, fun b e => by
              by_cases z : b ∈ Q'
              · exact hQ b z
              · rw [hid_ne z] at e; exact fr.dom b e⟩
            have or1 : (∀ b, b ∈ W1 ++ F.Z → b ∈ Wc ++ Zc) ∨ (b = true ∧ (io.isNone || flatIn dio) = true) := by
              rcases (Bool.or_eq_true _ _).mp hc with z | z
              · exact .inl (c4 z)
              · exact .inr ((Bool.and_eq_true _ _).mp z)
            refine ⟨c8 _ fr2 fun p hp => ?_, mt2, or1.imp id (·.1)⟩
            have hpW : p ∈ W1 ++ F.Z := List.mem_append_left _ (c3 p (by rw [hp]; exact List.mem_singleton.mpr rfl))
            have o1 := own p hp
            have sg : Same (hid (Q' ++ (W1 ++ F.Z)) H2) (hid (W1 ++ F.Z) (hid Q' H2)) := fun b o e => by
              obtain ⟨z1, z2⟩ := hid_some e
              rw [hid_ne (fun z => z1 (List.mem_append_right _ z)), hid_ne (fun z => z1 (List.mem_append_left _ z))]
              exact z2
            rcases or1 with z | ⟨_, z⟩
            · refine o1.at (hid_ne (qn p hpW)) (Same.trans (same_mem fun b hb => ?_) sg)
              rcases List.mem_append.mp hb with y | y
              · exact List.mem_append_left _ y
              · exact List.mem_append_right _ (z b y)
            · have hf : flatIn dio = true := by
                cases hz : io with
                | none => rw [c7 hz] at hp; cases hp
                | some k => rw [hz] at z; exact z
              have hnf : OwnAt X.K H2 (hid (W1 ++ F.Z) H2) p dio := o1.flat mt2 hf
              -- what is in it is flat: seen also where Q' is hidden, for it was seen there
              have o2 : OwnAt X.K (hid Q' H2) (hid (Wc ++ Zc) (hid Q' H2)) p dio := o1.at (hid_ne (qn p hpW)) fun b o e => by
                obtain ⟨z1, z2⟩ := hid_some e
                rw [hid_ne (fun z => z1 (List.mem_append_right _ z)), hid_ne (fun z => z1 (List.mem_append_left _ z))]
                exact z2
              exact o2.flat (fun p hp => by rw [hid_ne (qn p hp)]; exact mt2 p hp) hf
          cases r with
          | ex C =>
            dsimp only
            split
            · rename_i hc
              cases ep : putIo slot dio ρ1 with
              | none => exact fun h => h.elim
              | some ρ2 =>
                intro h vs H1 W1 fr1 sub1 R1 A1
                obtain ⟨Wc, Zc, c1, c2, c3, c5, c6, c7, c8⟩ := key true R1 A1 ep (by simpa using hc)
                refine ⟨Zc, Wc, ds, A1.len, c1, c2, c5, c6, c7, ?_⟩
                rw [er]
                intro H2 fr2 own ca hca x
                obtain ⟨R2, _, _⟩ := c8 H2 [] fr2 (fun b hb => by simp at hb) own
                exact ⟨C, ca, rfl, hca, h H2 W1 (fr1.trans fr2 fun p hp => .inl (sub1 p (c3 p hp))) sub1 (R2.same hid_sub)⟩
            · exact fun h => h.elim
          | ok d nw =>
            dsimp only
            split
            · rename_i hc
              cases ep : putIo slot dio ρ1 with
              | none => exact fun h => h.elim
              | some ρ2 =>
                intro h vs H1 W1 fr1 sub1 R1 A1
                obtain ⟨Wc, Zc, c1, c2, c3, c5, c6, c7, c8⟩ := key (flatR d nw) R1 A1 ep hc
                refine ⟨Zc, Wc, ds, A1.len, c1, c2, c5, c6, c7, ?_⟩
                rw [er]
                cases nw with
                | false =>
                  intro v H2 fr2 rep own
                  obtain ⟨R2, mt2, z⟩ := c8 H2 [] fr2 (fun b hb => by simp at hb) own
                  refine h v H2 W1 (fr1.trans fr2 fun p hp => .inl (sub1 p (c3 p hp))) sub1 ⟨?_, R2.same hid_sub⟩
                  rcases z with z | z
                  · exact (same_mem z).repD rep
                  · exact RepD.flat mt2 z rep
                | true =>
                  intro q H2 fr2 hq hO own
                  obtain ⟨R2, mt2, z⟩ := c8 H2 [q] fr2 (fun b hb => by rw [List.mem_singleton.mp hb]; exact hq) own
                  refine h (.ref q) H2 W1 (fr1.trans fr2 fun p hp => .inl (sub1 p (c3 p hp))) sub1 ⟨q, rfl, fr1.dom q hq, R1.fresh hq, ?_, R2⟩
                  rcases z with z | z
                  · refine hO.at rfl (same_mem fun b hb => ?_)
                    rcases List.mem_cons.mp hb with y | y
                    · rw [y]; exact List.mem_cons_self
                    · exact List.mem_cons_of_mem _ (z b y)
                  · refine hO.flat (fun p hp => ?_) z
                    rcases List.mem_cons.mp hp with y | y
                    · rw [y]; exact hO.mu
                    · exact mt2 p y
            · exact fun h => h.elim⟩
end
end L2
namespace L2
open PySem PySem.Spec PyProof.Rows
theorem PS.nox {X : Cx} {st : Stmt} {t : TS} (h : PS X.nox st t) : PS X st t := fun pins s σ H D I hw =>
  wpAny_mono (h pins s σ H D (I.wish _) hw) (fun _ _ q => q.unwish) fun _ _ z => False.elim z
abbrev SI := Rho → Option (ResA × Rho)
structure ItOk (K : PySem.W.Frag) (L0 : List Addr) (ds : List D) (J : It) (H0 : Hp) : Prop where
  go : ∀ (H : Hp) (L : List Addr) (i : Nat) (d : D), Same (hid L0 H0) (hid L H) → (∀ p ∈ L, MutO (H p)) → ds[i]? = some d → J.go i H ∧ ∀ x H', J.yld i H x H' → Same H H' ∧ RepD K (hid L H') d x
  stop : ∀ H, Same (hid L0 H0) H → J.stop ds.length H
  few : ds.length ≤ sizeLine
section
variable (K : PySem.W.Frag) (F : Fx) (EX : EXT) (σ : St) (H : Hp) (W : List Addr)
def OkI (o : Option (ResA × Rho)) (R : It → Hp → Prop) : Prop := match o with
  | some (.ok ds, ρ') => ∀ J H' W', Fr W H H' → (∀ p ∈ W', p ∈ W) → Rel K F σ H' ρ' W' → ItOk K (W' ++ F.Z) ds J H' → R J H'
  | some (.ex C, ρ') => ∀ H' W', Fr W H H' → (∀ p ∈ W', p ∈ W) → Rel K F σ H' ρ' W' → EX C σ H'
  | none => False
end
def tI (K : PySem.W.Frag) (EX : EXT) (f : SI) : TI := fun σ H R => ∃ F ρ W, Rel K F σ H ρ W ∧ OkI K F EX σ H W (f ρ) R
structure JI (X : Cx) (EX : EXT) (tg iter : Expr) (f : SI) : Prop where
  p : PI X tg iter (tI X.K EX f)
def sLoop (T : Tg) (f : SS) : List D → Rho → Option (Out × Rho)
  | [], ρ => some (.nx, ρ)
  | d :: ds, ρ => match asgT T d ρ with
    | none => none
    | some ρ1 => match f ρ1 with
      | some (.nx, ρ2) => sLoop T f ds ρ2
      | some (.ct, ρ2) => sLoop T f ds ρ2
      | some (.bk, ρ2) => some (.nx, ρ2)
      | some (.rt d nw, ρ2) => some (.rt d nw, ρ2)
      | some (.ex _, _) => none
      | none => none
def sFor (it : SI) (T : Tg) (f : SS) : SS := fun ρ => match it ρ with
  | some (.ok ds, ρ1) => sLoop T f ds ρ1
  | some (.ex _, _) => none
  | none => none
section
variable {X : Cx} {EX : EXT} {tg iter c : Expr} {body : List Stmt} {pos : Pos}
theorem s_for {it : SI} {T : Tg} {f : SS} (hc : X.calm = true) (hi : JI X.nox EXn tg iter it) (hg : JG X.nox tg T) (hb : JSs X.nox EXn body f) (hs : ∀ x, foldedSetIterable iter X.env x = pure x := by intro _; rfl) : JS X EX (.For tg iter body [] pos) (sFor it T f) :=
  ⟨(PS.nox (ps_for (X := X.nox) PassesOwn.never hc hi.p hg.p hb.p hs)).by fun D σ H ⟨F, ρ, W, R, h⟩ => ⟨F, ρ, W, R, by
    unfold sFor at h
    revert h
    cases it ρ with
    | none => exact fun h => h
    | some q =>
      obtain ⟨q, ρ1⟩ := q
      cases q with
      | ex C => exact fun h => h.elim
      | ok ds =>
        intro h J H1 W1 fr1 sub1 R1 ok
        have h : OkS X.K F EX H W (sLoop T f ds ρ1) D := h
        refine ⟨fun i m σ H2 => m = ds.length - i ∧ i ≤ ds.length ∧ ∃ ρ2 W2, Rel X.K F σ H2 ρ2 W2 ∧ Fr W1 H1 H2 ∧ (∀ p ∈ W2, p ∈ W1 ∨ H1 p = none) ∧ OkS X.K F EX H2 W2 (sLoop T f (ds.drop i) ρ2) D,
          ⟨ds.length, by simp, Nat.zero_le _, ρ1, W1, R1, .refl, fun _ z => .inl z, OkS.go h fr1 fun p hp => .inl (sub1 p hp)⟩, ?_⟩
        rintro i m σ2 H2 ⟨rfl, hi, ρ2, W2, R2, fr2, sub2, h2⟩
        by_cases hlt : i < ds.length
        · have hd : ds.drop i = ds[i] :: ds.drop (i + 1) := List.drop_eq_getElem_cons hlt
          rw [hd] at h2
          unfold sLoop at h2
          obtain ⟨g1, g2⟩ := ok.go H2 (W2 ++ F.Z) i ds[i] (fr2.hid sub2) R2.mt (List.getElem?_eq_getElem hlt)
          refine .inr ⟨g1, fun σ3 H3 => ds.length - (i + 1) = ds.length - (i + 1) ∧ i + 1 ≤ ds.length ∧ ∃ ρ3 W3, Rel X.K F σ3 H3 ρ3 W3 ∧ Fr W1 H1 H3 ∧ (∀ p ∈ W3, p ∈ W1 ∨ H1 p = none) ∧ OkS X.K F EX H3 W3 (sLoop T f (ds.drop (i + 1)) ρ3) D, fun σ3 H3 z => ⟨_, by omega, z⟩, fun x H3 y => ?_⟩
          obtain ⟨s3, rx⟩ := g2 x H3 y
          revert h2
          cases ea : asgT T ds[i] ρ2 with
          | none => exact fun h => h.elim
          | some ρ3 =>
            intro h2
            refine gT_ok (n := 0) T (R2.same s3) rx ea fun σ4 _ R4 => ⟨F, ρ3, W2, R4, ?_⟩
            have fr3 : Fr W1 H1 H3 := fr2.trans (s3.fr (W := W2)) sub2
            have h3 : OkS X.K F EX H3 W2 _ D := OkS.go h2 (s3.fr (W := W2)) fun p hp => .inl hp
            have sub3 : ∀ {W4 : List Addr}, (∀ p ∈ W4, p ∈ W2 ∨ H3 p = none) → ∀ p ∈ W4, p ∈ W1 ∨ H1 p = none := fun {W4} s p hp => (s p hp).elim (sub2 p) fun z => .inr (fr3.dom p z)
            revert h3
            dsimp only
            cases f ρ3 with
            | none => exact fun h => h
            | some q =>
              obtain ⟨q, ρ4⟩ := q
              cases q with
              | nx => exact fun h3 σ5 H5 W5 fr5 sub5 R5 => ⟨rfl, hlt, ρ4, W5, R5, fr3.trans fr5 sub2, sub3 sub5, OkS.go h3 fr5 sub5⟩
              | ct => exact fun h3 σ5 H5 W5 fr5 sub5 R5 => ⟨rfl, hlt, ρ4, W5, R5, fr3.trans fr5 sub2, sub3 sub5, OkS.go h3 fr5 sub5⟩
              | bk => exact fun h3 => h3
              | ex C => exact fun h3 => h3.elim
              | rt d nw => exact fun h3 => h3
        · have e : i = ds.length := by omega
          subst e
          rw [List.drop_length] at h2
          exact .inl ⟨ok.stop H2 ((fr2.hid sub2).trans hid_sub), h2 σ2 H2 W2 .refl (fun _ z => .inl z) R2⟩⟩⟩
end
def evC (c : Option ST) (ρ : Rho) : Option (ResT × Rho) := match c with
  | none => some (.ok true, ρ)
  | some c => c ρ
def sCompL (k : Nat) (T : Tg) (c : Option ST) (f : SE) : List D → Rho → Option (List D × Rho)
  | [], ρ => some ([], ρ)
  | d :: ds, ρ => match asgT T d (ρ ++ List.replicate k none) with
    | none => none
    | some ρ1 => match evC c ρ1 with
      | some (.ok true, ρ2) => match f ρ2 with
        | some (.ok y _, ρ3) => match sCompL k T c f ds (ρ3.take ρ.length) with
          | some (ys, ρ4) => some (y :: ys, ρ4)
          | none => none
        | some (.ex _, _) => none
        | none => none
      | some (.ok false, ρ2) => sCompL k T c f ds (ρ2.take ρ.length)
      | some (.ex _, _) => none
      | none => none
def sComp (k : Nat) (it : SI) (T : Tg) (c : Option ST) (f : SE) : SE := fun ρ => match it ρ with
  | some (.ok ds, ρ1) => if Tg.ge ρ1.length T = true then
      match sCompL k T c f ds ρ1 with
      | some (ys, ρ2) => some (.ok (.lst ys) true, ρ2)
      | none => none
    else none
  | some (.ex C, ρ1) => some (.ex C, ρ1)
  | none => none
def tIfC (K : PySem.W.Frag) (c : Option ST) : TT := match c with
  | none => tNoIf
  | some c => tVT K EXn c
section
variable {K : PySem.W.Frag} {F : Fx} {EX : EXT} {σ : St} {H : Hp} {ρ : Rho} {W : List Addr}
theorem Rel.ext (R : Rel K F σ H ρ W) (k : Nat) : Rel K F (σ ++ List.replicate k none) H (ρ ++ List.replicate k none) W := by
  have old : ∀ {i : Nat} {d : D} {m : Md}, (ρ ++ List.replicate k none)[i]? = some (some (d, m)) → ρ[i]? = some (some (d, m)) ∧ i < ρ.length := fun {i d m} h => by
    by_cases hi : i < ρ.length
    · rw [List.getElem?_append_left hi] at h
      exact ⟨h, hi⟩
    · rw [List.getElem?_append_right (by omega), List.getElem?_replicate] at h
      split at h <;> cases h
  refine ⟨fun i d m h => ?_, fun i j d e m n p h1 h2 h3 h4 h5 h6 => ?_, R.wz, R.mt, by rw [List.length_append, List.length_append, List.length_replicate, List.length_replicate, R.len]⟩
  · obtain ⟨h, hi⟩ := old h
    obtain ⟨v, g1, g2⟩ := R.slot i d m h
    exact ⟨v, by rw [List.getElem?_append_left (by rw [R.len]; exact hi)]; exact g1, g2⟩
  · obtain ⟨h1, i1⟩ := old h1
    obtain ⟨h3, i3⟩ := old h3
    rw [List.getElem?_append_left (by rw [R.len]; exact i1)] at h5
    rw [List.getElem?_append_left (by rw [R.len]; exact i3)] at h6
    exact R.apart i j _ _ _ _ _ h1 h2 h3 h4 h5 h6
theorem Rel.cut {σ2 : St} (R : Rel K F σ2 H ρ W) (h : σ2.take σ.length = σ) (hl : σ.length ≤ σ2.length) : Rel K F σ H (ρ.take σ.length) W := by
  have old : ∀ {i : Nat} {d : D} {m : Md}, (ρ.take σ.length)[i]? = some (some (d, m)) → ρ[i]? = some (some (d, m)) ∧ i < σ.length := fun {i d m} h => by
    rw [List.getElem?_take] at h
    split at h
    · exact ⟨h, by assumption⟩
    · cases h
  have eq : ∀ {i : Nat}, i < σ.length → σ2[i]? = σ[i]? := fun {i} hi => by
    have e := List.getElem?_take_of_lt (l := σ2) hi
    rw [h] at e
    exact e.symm
  refine ⟨fun i d m h => ?_, fun i j d e m n p h1 h2 h3 h4 h5 h6 => ?_, R.wz, R.mt, by rw [List.length_take, ← R.len]; omega⟩
  · obtain ⟨h, hi⟩ := old h
    obtain ⟨v, g1, g2⟩ := R.slot i d m h
    exact ⟨v, by rw [← eq hi]; exact g1, g2⟩
  · obtain ⟨h1, i1⟩ := old h1
    obtain ⟨h3, i3⟩ := old h3
    rw [← eq i1] at h5
    rw [← eq i3] at h6
    exact R.apart i j _ _ _ _ _ h1 h2 h3 h4 h5 h6
theorem comp_tr {k : Nat} {it : SI} {T : Tg} {c : Option ST} {f : SE} {Q : VK} (hw : tV K EX (sComp k it T c f) σ H Q) : tComp (tI K EX it) k (gT K T) (tIfC K c) (tV K EXn f) σ H Q := by
  obtain ⟨F, ρ, W, R, h⟩ := hw
  refine ⟨F, ρ, W, R, ?_⟩
  unfold sComp at h
  revert h
  cases it ρ with
  | none => exact fun h => h
  | some q =>
    obtain ⟨q, ρ1⟩ := q
    cases q with
    | ex C => exact fun h => h
    | ok ds =>
      dsimp only
      split
      · rename_i hge
        cases es : sCompL k T c f ds ρ1 with
        | none => exact fun h => h.elim
        | some z =>
          obtain ⟨tot, ρe⟩ := z
          intro h J H1 W1 fr1 sub1 R1 ok
          refine ⟨fun i m ys H2 => m = ds.length - i ∧ i ≤ ds.length ∧ ∃ ρ2 W2 acc rest, Rel K F σ H2 ρ2 W2 ∧ Fr W1 H1 H2 ∧ (∀ p ∈ W2, p ∈ W1) ∧ RepDs K (hid (W2 ++ F.Z) H2) acc ys ∧ acc.length ≤ i ∧ sCompL k T c f (ds.drop i) ρ2 = some (rest, ρe) ∧ acc ++ rest = tot,
            ⟨ds.length, by simp, Nat.zero_le _, ρ1, W1, [], tot, R1, .refl, fun _ z => z, trivial, Nat.zero_le _, es, rfl⟩, ?_⟩
          rintro i m ys H2 ⟨rfl, hi, ρ2, W2, acc, rest, R2, fr2, sub2, rp, la, e2, et⟩
          have sub2' : ∀ p ∈ W2, p ∈ W1 ∨ H1 p = none := fun p hp => .inl (sub2 p hp)
          have few := ok.few
          have ly := rp.len
          refine ⟨by omega, ?_⟩
          by_cases hlt : i < ds.length
          · have hd : ds.drop i = ds[i] :: ds.drop (i + 1) := List.drop_eq_getElem_cons hlt
            rw [hd] at e2
            unfold sCompL at e2
            obtain ⟨g1, g2⟩ := ok.go H2 (W2 ++ F.Z) i ds[i] (fr2.hid sub2') R2.mt (List.getElem?_eq_getElem hlt)
            refine .inr ⟨g1, fun x H3 y => ?_⟩
            obtain ⟨s3, rx⟩ := g2 x H3 y
            cases ea : asgT T ds[i] (ρ2 ++ List.replicate k none) with
            | none => rw [ea] at e2; cases e2
            | some ρ3 =>
              rw [ea] at e2
              dsimp only at e2
              have lenσ : σ.length = ρ1.length := R1.len
              have lenσ2 : σ.length = ρ2.length := R2.len
              refine gT_ok (n := σ.length) T ((R2.same s3).ext k) rx ea fun σ4 tk R4 => ?_
              have tk := tk (by rw [lenσ]; exact hge)
              rw [List.take_left] at tk
              have l4 : σ.length ≤ σ4.length := by
                have := congrArg List.length tk
                rw [List.length_take] at this
                omega
              refine ⟨tk, ?_⟩
              have fr3 : Fr W1 H1 H3 := fr2.trans (s3.fr (W := W2)) sub2'
              -- behind the test
              have rest : ∀ b ρ4, evC c ρ3 = some (.ok b, ρ4) → ∀ H4 W4, Fr W2 H3 H4 → (∀ p ∈ W4, p ∈ W2) → Rel K F σ4 H4 ρ4 W4 →
                  (if b = true then tV K EXn f σ4 H4 fun y H5 => ∃ m', m' < ds.length - i ∧ (m' = ds.length - (i + 1) ∧ i + 1 ≤ ds.length ∧ ∃ ρ2 W2 acc rest, Rel K F σ H5 ρ2 W2 ∧ Fr W1 H1 H5 ∧ (∀ p ∈ W2, p ∈ W1) ∧ RepDs K (hid (W2 ++ F.Z) H5) acc (ys ++ [y]) ∧ acc.length ≤ i + 1 ∧ sCompL k T c f (ds.drop (i + 1)) ρ2 = some (rest, ρe) ∧ acc ++ rest = tot)
                  else ∃ m', m' < ds.length - i ∧ (m' = ds.length - (i + 1) ∧ i + 1 ≤ ds.length ∧ ∃ ρ2 W2 acc rest, Rel K F σ H4 ρ2 W2 ∧ Fr W1 H1 H4 ∧ (∀ p ∈ W2, p ∈ W1) ∧ RepDs K (hid (W2 ++ F.Z) H4) acc ys ∧ acc.length ≤ i + 1 ∧ sCompL k T c f (ds.drop (i + 1)) ρ2 = some (rest, ρe) ∧ acc ++ rest = tot)) := fun b ρ4 ec H4 W4 fr4 sub4 R4 => by
                rw [ec] at e2
                have frA : Fr W1 H1 H4 := fr3.trans fr4 sub2'
                have sA : Same (hid (W2 ++ F.Z) H2) (hid (W4 ++ F.Z) H4) := Same.trans (hid_same (fun b hb => .inl hb) fun b o _ e => s3 b o e : Same (hid (W2 ++ F.Z) H2) (hid (W2 ++ F.Z) H3)) (fr4.hid fun p hp => .inl (sub4 p hp))
                cases b with
                | false =>
                  dsimp only at e2
                  rw [if_neg Bool.false_ne_true]
                  exact ⟨_, by omega, rfl, hlt, ρ4.take σ.length, W4, acc, _, R4.cut tk l4, frA, fun p hp => sub2 p (sub4 p hp), sA.repDs rp, by omega, by rw [lenσ2]; exact e2, et⟩
                | true =>
                  dsimp only at e2
                  rw [if_pos rfl]
                  refine ⟨F, ρ4, W4, R4, ?_⟩
                  cases ef : f ρ4 with
                  | none => rw [ef] at e2; cases e2
                  | some q =>
                    obtain ⟨q, ρ5⟩ := q
                    rw [ef] at e2
                    cases q with
                    | ex C => cases e2
                    | ok y nw =>
                      dsimp only at e2
                      cases e3 : sCompL k T c f (ds.drop (i + 1)) (ρ5.take ρ2.length) with
                      | none => rw [e3] at e2; cases e2
                      | some z =>
                        obtain ⟨rest', ρe'⟩ := z
                        rw [e3] at e2
                        cases e2
                        intro v H5 W5 fr5 sub5 P5
                        obtain ⟨rv, R5⟩ := P5.plain
                        refine ⟨_, by omega, rfl, hlt, ρ5.take σ.length, W5, acc ++ [y], rest', R5.cut tk l4, frA.trans fr5 fun p hp => .inl (sub2 p (sub4 p hp)), fun p hp => sub2 p (sub4 p (sub5 p hp)), RepDs.app ((fr5.hid fun p hp => .inl (sub5 p hp)).repDs (sA.repDs rp)) ⟨rv, trivial⟩, ?_, by rw [lenσ2]; exact e3, ?_⟩
                        · rw [List.length_append]; simp; omega
                        · rw [← et, List.append_assoc]; rfl
              cases c with
              | none => exact rest true ρ3 rfl H3 W2 .refl (fun _ z => z) R4
              | some c =>
                refine ⟨F, ρ3, W2, R4, ?_⟩
                have e2' := e2
                unfold evC at e2'
                dsimp only at e2'
                cases ec : c ρ3 with
                | none => rw [ec] at e2'; cases e2'
                | some q =>
                  obtain ⟨q, ρ4⟩ := q
                  cases q with
                  | ex C => rw [ec] at e2'; cases e2'
                  | ok b => exact fun H4 W4 fr4 sub4 R4 => rest b ρ4 ec H4 W4 fr4 sub4 R4
          · have e : i = ds.length := by omega
            subst e
            rw [List.drop_length] at e2
            have e2 : some (([] : List D), ρ2) = some (rest, ρe) := e2
            cases e2
            rw [List.append_nil] at et
            subst et
            refine .inl ⟨ok.stop H2 ((fr2.hid sub2').trans hid_sub), fun l hl => ?_⟩
            refine h (.ref l) _ W2 ((fr1.trans fr2 fun p hp => .inl (sub1 p hp)).trans ((Same.upd hl).fr (W := W2)) fun p hp => .inl (sub1 p (sub2 p hp))) (fun p hp => sub1 p (sub2 p hp)) ?_
            refine PostE.back (PostD.e (nw := true) ⟨l, rfl, hl, ys, upd_same, ?_⟩ R2 (Same.upd hl)) fun b hb => fr1.dom b (fr2.dom b hb)
            exact (hid_same (fun b hb => (List.mem_cons.mp hb).elim (fun z => .inr (by rw [z]; exact hl)) .inl) fun b o _ e => Same.upd hl b o e : Same (hid (W2 ++ F.Z) H2) _).repDs rp
      · exact fun h => h.elim
end
inductive JC (X : Cx) : List Expr → Option ST → Prop where
  | no : JC X [] none
  | one {c : Expr} {t : ST} (h : JT X EXn c t) : JC X [c] (some t)
theorem JC.p {X : Cx} {ifs : List Expr} {c : Option ST} (h : JC X ifs c) : PIfs X ifs (tIfC X.K c) := by
  cases h with
  | no => exact pif0
  | one h => exact pif1 h.p
section
variable {X : Cx} {EX : EXT} {elt tg iter : Expr} {ifs : List Expr} {sc : Scope} {M tgs : List Str} {pos : Pos} {it : SI} {T : Tg} {c : Option ST} {f : SE}
theorem c_comp (hc : X.calm = true) (B : BlkOk X sc M tgs) (hi : JI X EX tg iter it) (hg : ∀ cl C fp s H, JG (blk X sc cl C fp s H (M ++ tgs)) tg T) (ht : ∀ cl C fp s H, JC (blk X sc cl C fp s H (M ++ tgs)) ifs c) (he : ∀ cl C fp s H, JE (blk X sc cl C fp s H (M ++ tgs)) EXn elt f)
    (hs : ∀ x, foldedSetIterable iter X.env x = pure x := by intro _; rfl) : JE X EX (.ListComp elt [⟨tg, iter, ifs, 0⟩] sc pos) (sComp tgs.length it T c f) :=
  ⟨(pe_comp hc B hi.p (fun cl C fp s H => (hg cl C fp s H).p) (fun cl C fp s H => (ht cl C fp s H).p) (fun cl C fp s H => (he cl C fp s H).p) hs).by fun σ H Q h => comp_tr h⟩
theorem s_compSet {j : Nat} {y : Str} {py spos : Pos} (hc : X.calm = true) (B : BlkOk X sc M tgs) (hi : JI X EX tg iter it) (hg : ∀ cl C fp s H, JG (blk X sc cl C fp s H (M ++ tgs)) tg T) (ht : ∀ cl C fp s H, JC (blk X sc cl C fp s H (M ++ tgs)) ifs c) (he : ∀ cl C fp s H, JE (blk X sc cl C fp s H (M ++ tgs)) EXn elt f)
    (hN : X.N.Nodup) (hjy : X.N[j]? = some y) (hy : X.env.scope.names.lookup y = some .local) (hsw : swapsWith (.ListComp elt [⟨tg, iter, ifs, 0⟩] sc pos) (some (.Name y py)) spos.line X.env = pure true := by rfl)
    (hs : ∀ x, foldedSetIterable iter X.env x = pure x := by intro _; rfl) : JS X EX (.Assign [.Name y py] (.ListComp elt [⟨tg, iter, ifs, 0⟩] sc pos) spos) (sSet j (sComp tgs.length it T c f)) :=
  ⟨(ps_compSet hc B hi.p (fun cl C fp s H => (hg cl C fp s H).p) (fun cl C fp s H => (ht cl C fp s H).p) (fun cl C fp s H => (he cl C fp s H).p) hN hjy hy hsw hs).by fun D σ H h => comp_tr (asg_of h)⟩
end
end L2
namespace L2
open PySem PySem.Spec PyProof.Rows
mutual
def nrm : D → D
  | .ktup ds => .tup (nrmL ds)
  | .tup ds => .tup (nrmL ds)
  | .klst ds => .lst (nrmL ds)
  | .lst ds => .lst (nrmL ds)
  | d => d
def nrmL : List D → List D
  | [] => []
  | d :: ds => nrm d :: nrmL ds
end
mutual
def eqN : D → D → Bool
  | .non, .non => true
  | .bl a, .bl b => a == b
  | .bl a, .int b => (if a then 1 else 0) == b
  | .int a, .bl b => a == (if b then 1 else 0)
  | .int a, .int b => a == b
  | .str a, .str b => a == b
  | .tup a, .tup b => eqNs a b
  | .lst a, .lst b => eqNs a b
  | _, _ => false
def eqNs : List D → List D → Bool
  | [], [] => true
  | a :: as, b :: bs => eqN a b && eqNs as bs
  | _, _ => false
end
def eqD (d e : D) : Bool := eqN (nrm d) (nrm e)
def eqable : Nat → D → Bool
  | _, .non => true
  | _, .bl _ => true
  | _, .int _ => true
  | _, .str _ => true
  | n + 1, .tup ds => ds.all (eqable n)
  | n + 1, .ktup ds => ds.all (eqable n)
  | n + 1, .lst ds => ds.all (eqable n)
  | n + 1, .klst ds => ds.all (eqable n)
  | _, _ => false
theorem nrmL_len : ∀ {ds : List D}, (nrmL ds).length = ds.length
  | [] => rfl
  | _ :: ds => by unfold nrmL; rw [List.length_cons, List.length_cons, nrmL_len]
theorem nrmL_get : ∀ {ds : List D} {j : Nat}, (nrmL ds)[j]? = ds[j]?.map nrm
  | [], j => by unfold nrmL; simp
  | d :: ds, 0 => by unfold nrmL; simp
  | d :: ds, j + 1 => by unfold nrmL; simp; exact nrmL_get
theorem eqNs_range : ∀ {as bs : List D}, eqNs as bs = ((List.range (min as.length bs.length)).all (fun j => match as[j]?, bs[j]? with | some a, some b => eqN a b | _, _ => true) && as.length == bs.length)
  | [], [] => rfl
  | [], b :: bs => by unfold eqNs; simp
  | a :: as, [] => by unfold eqNs; simp
  | a :: as, b :: bs => by
    unfold eqNs
    rw [eqNs_range (as := as) (bs := bs)]
    have e1 : min (a :: as).length (b :: bs).length = min as.length bs.length + 1 := by simp only [List.length_cons]; omega
    have e2 : ((a :: as).length == (b :: bs).length) = (as.length == bs.length) := by simp
    rw [e1, e2, List.range_succ_eq_map, List.all_cons, List.all_map, Bool.and_assoc]
    congr 1
mutual
theorem eqN_refl : ∀ (n : Nat) {d : D}, eqable n d = true → eqN (nrm d) (nrm d) = true
  | n, .non, _ => rfl
  | n, .bl _, _ => by unfold nrm eqN; simp
  | n, .int _, _ => by unfold nrm eqN; simp
  | n, .str _, _ => by unfold nrm eqN; simp
  | n + 1, .tup ds, h => by unfold nrm eqN; exact eqNs_refl n (by unfold eqable at h; exact h)
  | n + 1, .ktup ds, h => by unfold nrm eqN; exact eqNs_refl n (by unfold eqable at h; exact h)
  | n + 1, .lst ds, h => by unfold nrm eqN; exact eqNs_refl n (by unfold eqable at h; exact h)
  | n + 1, .klst ds, h => by unfold nrm eqN; exact eqNs_refl n (by unfold eqable at h; exact h)
  | 0, .tup _, h => by unfold eqable at h; cases h
  | 0, .ktup _, h => by unfold eqable at h; cases h
  | 0, .lst _, h => by unfold eqable at h; cases h
  | 0, .klst _, h => by unfold eqable at h; cases h
  | _, .dK _ _, h => by unfold eqable at h; cases h
  | _, .dT _ _, h => by unfold eqable at h; cases h
  | _, .set _, h => by unfold eqable at h; cases h
  | _, .rng _ _, h => by unfold eqable at h; cases h
  | _, .exc _, h => by unfold eqable at h; cases h
theorem eqNs_refl : ∀ (n : Nat) {ds : List D}, ds.all (eqable n) = true → eqNs (nrmL ds) (nrmL ds) = true
  | n, [], _ => rfl
  | n, d :: ds, h => by
    rw [List.all_cons] at h
    have h := (Bool.and_eq_true _ _).mp h
    unfold nrmL eqNs
    rw [eqN_refl n h.1, eqNs_refl n h.2]
    rfl
end
section
variable {X : Cx} {pins : List (Addr × Obj)} {σ : St} {H : Hp} {s : Shared}
inductive Vw (K : PySem.W.Frag) (H : Hp) (s : Shared) : Nat → D → V → Value → Prop where
  | non {n} : Vw K H s n .non .non .none
  | bl {n} (b : Bool) : Vw K H s n (.bl b) (.bl b) (.bool b)
  | int {n} (i : Int) (t : Tok) : Vw K H s n (.int i) (.int i) (.int i t)
  | str {n} (x : Str) (t : Tok) : Vw K H s n (.str x) (.str x) (.str x t)
  | tu {n} {d : D} {ds : List D} {p : Addr} {xs : List V} {its : List Value} (hd : nrm d = .tup (nrmL ds)) (ht : s.heap.IsTuple p its.toArray) (hv : Vals xs its) (hr : RepDs K H ds xs) (he : ds.all (eqable n) = true) : Vw K H s (n + 1) d (.ref p) (.ref p)
  | li {n} {d : D} {ds : List D} {p : Addr} {xs : List V} {its : List Value} (hd : nrm d = .lst (nrmL ds)) (ht : s.heap.IsList p its.toArray) (hv : Vals xs its) (hr : RepDs K H ds xs) (he : ds.all (eqable n) = true) : Vw K H s (n + 1) d (.ref p) (.ref p)
theorem vw_of (I : Inv X pins σ H s) {n : Nat} {d : D} {v : V} {u : Value} (he : eqable n d = true) (r : RepD X.K H d v) (ru : RelV v u) : Vw X.K H s n d v u := by
  have z0 : n = 0 ∨ ∃ m, n = m + 1 := by cases n with | zero => exact .inl rfl | succ m => exact .inr ⟨m, rfl⟩
  cases d with
  | non => cases r; cases ru; exact .non
  | bl b => cases r; cases ru; exact .bl b
  | int i => cases r; obtain ⟨t, rfl⟩ := ru; exact .int i t
  | str x => cases r; obtain ⟨t, rfl⟩ := ru; exact .str x t
  | tup ds =>
    obtain ⟨p, xs, rfl, h1, h2⟩ := r
    cases ru
    rcases z0 with rfl | ⟨m, rfl⟩
    · unfold eqable at he; cases he
    · obtain ⟨its, rv, pl, _⟩ := I.tuple (X := X) (.inl (.inl h1))
      exact .tu (by unfold nrm; rfl) pl rv h2 (by unfold eqable at he; exact he)
  | ktup ds =>
    obtain ⟨p, xs, rfl, h1, h2⟩ := r
    cases ru
    rcases z0 with rfl | ⟨m, rfl⟩
    · unfold eqable at he; cases he
    · obtain ⟨its, rv, pl, _⟩ := I.tuple (X := X) (ktup_sq h1)
      exact .tu (by unfold nrm; rfl) pl rv h2 (by unfold eqable at he; exact he)
  | lst ds =>
    obtain ⟨p, xs, rfl, h1, h2⟩ := r
    cases ru
    rcases z0 with rfl | ⟨m, rfl⟩
    · unfold eqable at he; cases he
    · obtain ⟨its, rv, pl, _⟩ := I.list (X := X) (.inl (.inl h1))
      exact .li (by unfold nrm; rfl) pl.isList rv h2 (by unfold eqable at he; exact he)
  | klst ds =>
    obtain ⟨p, xs, rfl, h1, h2⟩ := r
    cases ru
    rcases z0 with rfl | ⟨m, rfl⟩
    · unfold eqable at he; cases he
    · obtain ⟨its, rv, pl, _⟩ := I.list h1
      exact .li (by unfold nrm; rfl) pl.isList rv h2 (by unfold eqable at he; exact he)
  | dK _ _ => unfold eqable at he; cases he
  | dT _ _ => unfold eqable at he; cases he
  | set _ => unfold eqable at he; cases he
  | rng _ _ => unfold eqable at he; cases he
  | exc _ => unfold eqable at he; cases he
theorem isTuple_inj {p : Addr} {a b : List Value} (h1 : s.heap.IsTuple p a.toArray) (h2 : s.heap.IsTuple p b.toArray) : a = b := by
  obtain ⟨o, e1, _, n, d1⟩ := h1
  obtain ⟨o2, e2, _, n2, d2⟩ := h2
  rw [e1] at e2
  cases e2
  rw [d1] at d2
  have := (Data.seq.inj d2).1
  simpa using congrArg Array.toList this
theorem isList_inj {p : Addr} {a b : List Value} (h1 : s.heap.IsList p a.toArray) (h2 : s.heap.IsList p b.toArray) : a = b := by
  obtain ⟨o, e1, _, n, d1⟩ := h1
  obtain ⟨o2, e2, _, n2, d2⟩ := h2
  rw [e1] at e2
  cases e2
  rw [d1] at d2
  have := (Data.seq.inj d2).1
  simpa using congrArg Array.toList this
theorem vals_get {xs : List V} {its : List Value} (r : Vals xs its) {j : Nat} (h : j < its.length) : ∃ x, xs[j]? = some x ∧ RelV x its[j] := by
  have hx : j < xs.length := by rw [r.length]; exact h
  obtain ⟨u, e, ru⟩ := r.get (List.getElem?_eq_getElem hx)
  rw [List.getElem?_eq_getElem h] at e
  cases e
  exact ⟨_, List.getElem?_eq_getElem hx, ru⟩
theorem rep_same (I : Inv X pins σ H s) : ∀ (n m : Nat) {d e : D} {v : V} {u : Value}, eqable n d = true → eqable m e = true → RepD X.K H d v → RepD X.K H e v → RelV v u → nrm d = nrm e
  | n, m, d, e, v, u, h1, h2, r1, r2, ru => by
    have v1 := vw_of I h1 r1 ru
    have v2 := vw_of I h2 r2 ru
    cases v1 with
    | non => cases v2; rfl
    | bl b => cases v2; rfl
    | int i t => cases v2; rfl
    | str x t => cases v2; rfl
    | @tu n _ ds p xs its hd ht hv hr he =>
      cases v2 with
      | @tu m _ es _ ys jts hd2 ht2 hv2 hr2 he2 =>
        have := isTuple_inj ht ht2
        subst this
        have exy : xs = ys := hv.inj hv2
        subst exy
        rw [hd, hd2]
        congr 1
        apply List.ext_getElem?
        intro j
        rw [nrmL_get, nrmL_get]
        have l1 := hr.len
        have l2 := hr2.len
        by_cases hj : j < xs.length
        · obtain ⟨d', e1, q1⟩ := hr.get' (List.getElem?_eq_getElem hj)
          obtain ⟨e', e2, q2⟩ := hr2.get' (List.getElem?_eq_getElem hj)
          rw [e1, e2]
          have hji : j < its.length := by rw [← hv.length]; exact hj
          obtain ⟨x, ex, rx⟩ := vals_get hv hji
          rw [List.getElem?_eq_getElem hj] at ex
          cases ex
          exact congrArg some (rep_same I n m (List.all_eq_true.mp he _ (List.mem_of_getElem? e1)) (List.all_eq_true.mp he2 _ (List.mem_of_getElem? e2)) q1 q2 rx)
        · rw [List.getElem?_eq_none (by omega), List.getElem?_eq_none (by omega)]
      | li hd2 ht2 hv2 hr2 he2 => exact absurd rfl (SeqAt.ne_of_list_tuple ht2 ht)
    | @li n _ ds p xs its hd ht hv hr he =>
      cases v2 with
      | tu hd2 ht2 hv2 hr2 he2 => exact absurd rfl (SeqAt.ne_of_list_tuple ht ht2)
      | @li m _ es _ ys jts hd2 ht2 hv2 hr2 he2 =>
        have := isList_inj ht ht2
        subst this
        have exy : xs = ys := hv.inj hv2
        subst exy
        rw [hd, hd2]
        congr 1
        apply List.ext_getElem?
        intro j
        rw [nrmL_get, nrmL_get]
        have l1 := hr.len
        have l2 := hr2.len
        by_cases hj : j < xs.length
        · obtain ⟨d', e1, q1⟩ := hr.get' (List.getElem?_eq_getElem hj)
          obtain ⟨e', e2, q2⟩ := hr2.get' (List.getElem?_eq_getElem hj)
          rw [e1, e2]
          have hji : j < its.length := by rw [← hv.length]; exact hj
          obtain ⟨x, ex, rx⟩ := vals_get hv hji
          rw [List.getElem?_eq_getElem hj] at ex
          cases ex
          exact congrArg some (rep_same I n m (List.all_eq_true.mp he _ (List.mem_of_getElem? e1)) (List.all_eq_true.mp he2 _ (List.mem_of_getElem? e2)) q1 q2 rx)
        · rw [List.getElem?_eq_none (by omega), List.getElem?_eq_none (by omega)]
  termination_by n => n
theorem range_all_congr {n : Nat} {f g : Nat → Bool} (h : ∀ j, j < n → f j = g j) : (List.range n).all f = (List.range n).all g := by
  rw [Bool.eq_iff_iff, List.all_eq_true, List.all_eq_true]
  constructor
  · intro z x hx; rw [← h x (List.mem_range.mp hx)]; exact z x hx
  · intro z x hx; rw [h x (List.mem_range.mp hx)]; exact z x hx
def itemEq (ds es : List D) (j : Nat) : Bool := match ds[j]?, es[j]? with
  | some a, some b => eqD a b
  | _, _ => true
theorem seq_all {ds es : List D} : eqNs (nrmL ds) (nrmL es) = ((List.range (min ds.length es.length)).all (itemEq ds es) && ds.length == es.length) := by
  rw [eqNs_range, nrmL_len, nrmL_len]
  congr 1
  refine range_all_congr fun j hj => ?_
  have h1 : j < ds.length := by omega
  have h2 : j < es.length := by omega
  rw [nrmL_get, nrmL_get]
  unfold itemEq eqD
  rw [List.getElem?_eq_getElem h1, List.getElem?_eq_getElem h2]
  rfl
theorem eqAt (I : Inv X pins σ H s) : ∀ (n : Nat) {A : Around} {d e : D} {v v' : V} {u w : Value}, A.units + n < cLine → eqable n d = true → eqable n e = true → RepD X.K H d v → RepD X.K H e v' → RelV v u → RelV v' w → SeqAt.EqAt A s u w (eqD d e)
  | n, A, d, e, v, v', u, w, hu0, h1, h2, r1, r2, ru, rw' => by
    have hu : A.units < cLine := by omega
    have v1 := vw_of I h1 r1 ru
    have v2 := vw_of I h2 r2 rw'
    unfold eqD
    cases v1 with
    | non =>
      cases v2 with
      | non => exact SeqAt.EqAt.same _
      | bl b2 => exact SeqAt.EqAt.none_bool b2
      | int i2 t2 => exact SeqAt.EqAt.none_int i2 t2
      | str x2 t2 => exact SeqAt.EqAt.none_str x2 t2
      | tu hd2 ht2 hv2 hr2 he2 => rw [hd2]; exact SeqAt.EqAt.none_tuple ht2 hu
      | li hd2 ht2 hv2 hr2 he2 => rw [hd2]; exact SeqAt.EqAt.none_list ht2 hu
    | bl b1 =>
      cases v2 with
      | non => exact SeqAt.EqAt.bool_none b1
      | bl b2 => exact SeqAt.EqAt.bool_bool b1 b2
      | int i2 t2 => exact SeqAt.EqAt.bool_int b1 i2 t2
      | str x2 t2 => exact SeqAt.EqAt.bool_str b1 x2 t2
      | tu hd2 ht2 hv2 hr2 he2 => rw [hd2]; exact SeqAt.EqAt.bool_tuple b1 ht2 hu
      | li hd2 ht2 hv2 hr2 he2 => rw [hd2]; exact SeqAt.EqAt.bool_list b1 ht2 hu
    | int i1 t1 =>
      cases v2 with
      | non => exact SeqAt.EqAt.int_none i1 t1
      | bl b2 => exact SeqAt.EqAt.int_bool i1 t1 b2
      | int i2 t2 => exact SeqAt.EqAt.int_int i1 t1 i2 t2
      | str x2 t2 => exact SeqAt.EqAt.int_str i1 t1 x2 t2
      | tu hd2 ht2 hv2 hr2 he2 => rw [hd2]; exact SeqAt.EqAt.int_tuple i1 t1 ht2 hu
      | li hd2 ht2 hv2 hr2 he2 => rw [hd2]; exact SeqAt.EqAt.int_list i1 t1 ht2 hu
    | str x1 t1 =>
      cases v2 with
      | non => exact SeqAt.EqAt.str_none x1 t1
      | bl b2 => exact SeqAt.EqAt.str_bool x1 t1 b2
      | int i2 t2 => exact SeqAt.EqAt.str_int x1 t1 i2 t2
      | str x2 t2 => exact SeqAt.EqAt.str_str x1 t1 x2 t2
      | tu hd2 ht2 hv2 hr2 he2 => rw [hd2]; exact SeqAt.EqAt.str_tuple x1 t1 ht2 hu
      | li hd2 ht2 hv2 hr2 he2 => rw [hd2]; exact SeqAt.EqAt.str_list x1 t1 ht2 hu
    | @tu n _ ds p xs its hd ht hv hr he =>
      cases v2 with
      | non => rw [hd]; exact SeqAt.EqAt.tuple_none ht hu
      | bl b2 => rw [hd]; exact SeqAt.EqAt.tuple_bool b2 ht hu
      | int i2 t2 => rw [hd]; exact SeqAt.EqAt.tuple_int i2 t2 ht hu
      | str x2 t2 => rw [hd]; exact SeqAt.EqAt.tuple_str x2 t2 ht hu
      | @tu _ _ es q ys jts hd2 ht2 hv2 hr2 he2 =>
        by_cases epq : p = q
        · subst epq
          have z : nrm d = nrm e := rep_same I (n + 1) (n + 1) h1 h2 r1 r2 rfl
          rw [← z, eqN_refl (n + 1) h1]
          exact SeqAt.EqAt.same _
        · refine SeqAt.EqAt.of_refs epq ?_
          have hhe : ∀ j (h1 : j < its.toArray.size) (h2 : j < jts.toArray.size), SeqAt.EqAt A.in1 s its.toArray[j] jts.toArray[j] (itemEq ds es j) := fun j h1 h2 => by
            have h1' : j < its.length := by simpa using h1
            have h2' : j < jts.length := by simpa using h2
            obtain ⟨x, ex, rx⟩ := vals_get hv h1'
            obtain ⟨y, ey, ry⟩ := vals_get hv2 h2'
            obtain ⟨d', e1, q1⟩ := hr.get' ex
            obtain ⟨e', e2, q2⟩ := hr2.get' ey
            have z := eqAt I n (A := A.in1) (by show A.units + 1 + n < cLine; omega) (List.all_eq_true.mp he _ (List.mem_of_getElem? e1)) (List.all_eq_true.mp he2 _ (List.mem_of_getElem? e2)) q1 q2 rx ry
            have e3 : itemEq ds es j = eqD d' e' := by unfold itemEq; rw [e1, e2]
            rw [e3]
            simpa using z
          have l1 : its.toArray.size = ds.length := by rw [List.size_toArray, ← hv.length, ← hr.len]
          have l2 : jts.toArray.size = es.length := by rw [List.size_toArray, ← hv2.length, ← hr2.len]
          have z := SeqAt.RcAt.tuples ht ht2 hu hhe
          rw [l1, l2] at z
          rw [hd, hd2]
          show SeqAt.RcAt A s (.ref p) (.ref q) ((eqNs (nrmL ds) (nrmL es)))
          rw [seq_all]
          exact z
      | li hd2 ht2 hv2 hr2 he2 => rw [hd, hd2]; exact SeqAt.EqAt.tuple_list ht ht2 hu
    | @li n _ ds p xs its hd ht hv hr he =>
      cases v2 with
      | non => rw [hd]; exact SeqAt.EqAt.list_none ht hu
      | bl b2 => rw [hd]; exact SeqAt.EqAt.list_bool b2 ht hu
      | int i2 t2 => rw [hd]; exact SeqAt.EqAt.list_int i2 t2 ht hu
      | str x2 t2 => rw [hd]; exact SeqAt.EqAt.list_str x2 t2 ht hu
      | tu hd2 ht2 hv2 hr2 he2 => rw [hd, hd2]; exact SeqAt.EqAt.list_tuple ht ht2 hu
      | @li _ _ es q ys jts hd2 ht2 hv2 hr2 he2 =>
        by_cases epq : p = q
        · subst epq
          have z : nrm d = nrm e := rep_same I (n + 1) (n + 1) h1 h2 r1 r2 rfl
          rw [← z, eqN_refl (n + 1) h1]
          exact SeqAt.EqAt.same _
        · refine SeqAt.EqAt.of_refs epq ?_
          have hhe : ∀ j (h1 : j < its.toArray.size) (h2 : j < jts.toArray.size), SeqAt.EqAt A.in1 s its.toArray[j] jts.toArray[j] (itemEq ds es j) := fun j h1 h2 => by
            have h1' : j < its.length := by simpa using h1
            have h2' : j < jts.length := by simpa using h2
            obtain ⟨x, ex, rx⟩ := vals_get hv h1'
            obtain ⟨y, ey, ry⟩ := vals_get hv2 h2'
            obtain ⟨d', e1, q1⟩ := hr.get' ex
            obtain ⟨e', e2, q2⟩ := hr2.get' ey
            have z := eqAt I n (A := A.in1) (by show A.units + 1 + n < cLine; omega) (List.all_eq_true.mp he _ (List.mem_of_getElem? e1)) (List.all_eq_true.mp he2 _ (List.mem_of_getElem? e2)) q1 q2 rx ry
            have e3 : itemEq ds es j = eqD d' e' := by unfold itemEq; rw [e1, e2]
            rw [e3]
            simpa using z
          have l1 : its.toArray.size = ds.length := by rw [List.size_toArray, ← hv.length, ← hr.len]
          have l2 : jts.toArray.size = es.length := by rw [List.size_toArray, ← hv2.length, ← hr2.len]
          rw [hd, hd2]
          show SeqAt.RcAt A s (.ref p) (.ref q) ((eqNs (nrmL ds) (nrmL es)))
          by_cases hl : ds.length = es.length
          · have z := SeqAt.RcAt.lists ht ht2 (by rw [l1, l2]; exact hl) hu hhe
            rw [l1] at z
            rw [seq_all, ← hl, Nat.min_self, beq_self_eq_true, Bool.and_true]
            exact z
          · have z := SeqAt.RcAt.lists_lengths ht ht2 (by rw [l1, l2]; simpa using hl) hu
            rw [seq_all, beq_eq_false_iff_ne.mpr hl, Bool.and_false]
            exact z
  termination_by n => n
theorem rcAt (I : Inv X pins σ H s) (n : Nat) {A : Around} {d e : D} {v v' : V} {u w : Value} (hu0 : A.units + n < cLine) (h1 : eqable n d = true) (h2 : eqable n e = true) (r1 : RepD X.K H d v) (r2 : RepD X.K H e v') (ru : RelV v u) (rw' : RelV v' w) : SeqAt.RcAt A s u w (eqD d e) := by
    have hu : A.units < cLine := by omega
    have v1 := vw_of I h1 r1 ru
    have v2 := vw_of I h2 r2 rw'
    unfold eqD
    cases v1 with
    | non =>
      cases v2 with
      | non => exact SeqAt.RcAt.none_none
      | bl b2 => exact SeqAt.RcAt.none_bool b2
      | int i2 t2 => exact SeqAt.RcAt.none_int i2 t2
      | str x2 t2 => exact SeqAt.RcAt.none_str x2 t2
      | tu hd2 ht2 hv2 hr2 he2 => rw [hd2]; exact SeqAt.RcAt.none_tuple ht2 hu
      | li hd2 ht2 hv2 hr2 he2 => rw [hd2]; exact SeqAt.RcAt.none_list ht2 hu
    | bl b1 =>
      cases v2 with
      | non => exact SeqAt.RcAt.bool_none b1
      | bl b2 => exact SeqAt.RcAt.bool_bool b1 b2
      | int i2 t2 => exact SeqAt.RcAt.bool_int b1 i2 t2
      | str x2 t2 => exact SeqAt.RcAt.bool_str b1 x2 t2
      | tu hd2 ht2 hv2 hr2 he2 => rw [hd2]; exact SeqAt.RcAt.bool_tuple b1 ht2 hu
      | li hd2 ht2 hv2 hr2 he2 => rw [hd2]; exact SeqAt.RcAt.bool_list b1 ht2 hu
    | int i1 t1 =>
      cases v2 with
      | non => exact SeqAt.RcAt.int_none i1 t1
      | bl b2 => exact SeqAt.RcAt.int_bool i1 t1 b2
      | int i2 t2 => exact SeqAt.RcAt.int_int i1 t1 i2 t2
      | str x2 t2 => exact SeqAt.RcAt.int_str i1 t1 x2 t2
      | tu hd2 ht2 hv2 hr2 he2 => rw [hd2]; exact SeqAt.RcAt.int_tuple i1 t1 ht2 hu
      | li hd2 ht2 hv2 hr2 he2 => rw [hd2]; exact SeqAt.RcAt.int_list i1 t1 ht2 hu
    | str x1 t1 =>
      cases v2 with
      | non => exact SeqAt.RcAt.str_none x1 t1
      | bl b2 => exact SeqAt.RcAt.str_bool x1 t1 b2
      | int i2 t2 => exact SeqAt.RcAt.str_int x1 t1 i2 t2
      | str x2 t2 => exact SeqAt.RcAt.str_str x1 t1 x2 t2
      | tu hd2 ht2 hv2 hr2 he2 => rw [hd2]; exact SeqAt.RcAt.str_tuple x1 t1 ht2 hu
      | li hd2 ht2 hv2 hr2 he2 => rw [hd2]; exact SeqAt.RcAt.str_list x1 t1 ht2 hu
    | @tu n _ ds p xs its hd ht hv hr he =>
      cases v2 with
      | non => rw [hd]; exact SeqAt.RcAt.tuple_none ht hu
      | bl b2 => rw [hd]; exact SeqAt.RcAt.tuple_bool b2 ht hu
      | int i2 t2 => rw [hd]; exact SeqAt.RcAt.tuple_int i2 t2 ht hu
      | str x2 t2 => rw [hd]; exact SeqAt.RcAt.tuple_str x2 t2 ht hu
      | @tu _ _ es q ys jts hd2 ht2 hv2 hr2 he2 =>
        have hhe : ∀ j (h1 : j < its.toArray.size) (h2 : j < jts.toArray.size), SeqAt.EqAt A.in1 s its.toArray[j] jts.toArray[j] (itemEq ds es j) := fun j h1 h2 => by
          have h1' : j < its.length := by simpa using h1
          have h2' : j < jts.length := by simpa using h2
          obtain ⟨x, ex, rx⟩ := vals_get hv h1'
          obtain ⟨y, ey, ry⟩ := vals_get hv2 h2'
          obtain ⟨d', e1, q1⟩ := hr.get' ex
          obtain ⟨e', e2, q2⟩ := hr2.get' ey
          have z := eqAt I n (A := A.in1) (by show A.units + 1 + n < cLine; omega) (List.all_eq_true.mp he _ (List.mem_of_getElem? e1)) (List.all_eq_true.mp he2 _ (List.mem_of_getElem? e2)) q1 q2 rx ry
          have e3 : itemEq ds es j = eqD d' e' := by unfold itemEq; rw [e1, e2]
          rw [e3]
          simpa using z
        have l1 : its.toArray.size = ds.length := by rw [List.size_toArray, ← hv.length, ← hr.len]
        have l2 : jts.toArray.size = es.length := by rw [List.size_toArray, ← hv2.length, ← hr2.len]
        have z := SeqAt.RcAt.tuples ht ht2 hu hhe
        rw [l1, l2] at z
        rw [hd, hd2]
        show SeqAt.RcAt A s (.ref p) (.ref q) ((eqNs (nrmL ds) (nrmL es)))
        rw [seq_all]
        exact z
      | li hd2 ht2 hv2 hr2 he2 => rw [hd, hd2]; exact SeqAt.RcAt.tuple_list ht ht2 hu
    | @li n _ ds p xs its hd ht hv hr he =>
      cases v2 with
      | non => rw [hd]; exact SeqAt.RcAt.list_none ht hu
      | bl b2 => rw [hd]; exact SeqAt.RcAt.list_bool b2 ht hu
      | int i2 t2 => rw [hd]; exact SeqAt.RcAt.list_int i2 t2 ht hu
      | str x2 t2 => rw [hd]; exact SeqAt.RcAt.list_str x2 t2 ht hu
      | tu hd2 ht2 hv2 hr2 he2 => rw [hd, hd2]; exact SeqAt.RcAt.list_tuple ht ht2 hu
      | @li _ _ es q ys jts hd2 ht2 hv2 hr2 he2 =>
        have hhe : ∀ j (h1 : j < its.toArray.size) (h2 : j < jts.toArray.size), SeqAt.EqAt A.in1 s its.toArray[j] jts.toArray[j] (itemEq ds es j) := fun j h1 h2 => by
          have h1' : j < its.length := by simpa using h1
          have h2' : j < jts.length := by simpa using h2
          obtain ⟨x, ex, rx⟩ := vals_get hv h1'
          obtain ⟨y, ey, ry⟩ := vals_get hv2 h2'
          obtain ⟨d', e1, q1⟩ := hr.get' ex
          obtain ⟨e', e2, q2⟩ := hr2.get' ey
          have z := eqAt I n (A := A.in1) (by show A.units + 1 + n < cLine; omega) (List.all_eq_true.mp he _ (List.mem_of_getElem? e1)) (List.all_eq_true.mp he2 _ (List.mem_of_getElem? e2)) q1 q2 rx ry
          have e3 : itemEq ds es j = eqD d' e' := by unfold itemEq; rw [e1, e2]
          rw [e3]
          simpa using z
        have l1 : its.toArray.size = ds.length := by rw [List.size_toArray, ← hv.length, ← hr.len]
        have l2 : jts.toArray.size = es.length := by rw [List.size_toArray, ← hv2.length, ← hr2.len]
        rw [hd, hd2]
        show SeqAt.RcAt A s (.ref p) (.ref q) ((eqNs (nrmL ds) (nrmL es)))
        by_cases hl : ds.length = es.length
        · have z := SeqAt.RcAt.lists ht ht2 (by rw [l1, l2]; exact hl) hu hhe
          rw [l1] at z
          rw [seq_all, ← hl, Nat.min_self, beq_self_eq_true, Bool.and_true]
          exact z
        · have z := SeqAt.RcAt.lists_lengths ht ht2 (by rw [l1, l2]; simpa using hl) hu
          rw [seq_all, beq_eq_false_iff_ne.mpr hl, Bool.and_false]
          exact z
theorem neAt (I : Inv X pins σ H s) (n : Nat) {A : Around} {d e : D} {v v' : V} {u w : Value} (hu0 : A.units + n < cLine) (h1 : eqable n d = true) (h2 : eqable n e = true) (r1 : RepD X.K H d v) (r2 : RepD X.K H e v') (ru : RelV v u) (rw' : RelV v' w) : SeqAt.RcNeAt A s u w (!(eqD d e)) := by
    have hu : A.units < cLine := by omega
    have v1 := vw_of I h1 r1 ru
    have v2 := vw_of I h2 r2 rw'
    unfold eqD
    cases v1 with
    | non =>
      cases v2 with
      | non => exact SeqAt.RcNeAt.none_none
      | bl b2 => exact SeqAt.RcNeAt.none_bool b2
      | int i2 t2 => exact SeqAt.RcNeAt.none_int i2 t2
      | str x2 t2 => exact SeqAt.RcNeAt.none_str x2 t2
      | tu hd2 ht2 hv2 hr2 he2 => rw [hd2]; exact SeqAt.RcNeAt.none_tuple ht2 hu
      | li hd2 ht2 hv2 hr2 he2 => rw [hd2]; exact SeqAt.RcNeAt.none_list ht2 hu
    | bl b1 =>
      cases v2 with
      | non => exact SeqAt.RcNeAt.bool_none b1
      | bl b2 => exact SeqAt.RcNeAt.bool_bool b1 b2
      | int i2 t2 => exact SeqAt.RcNeAt.bool_int b1 i2 t2
      | str x2 t2 => exact SeqAt.RcNeAt.bool_str b1 x2 t2
      | tu hd2 ht2 hv2 hr2 he2 => rw [hd2]; exact SeqAt.RcNeAt.bool_tuple b1 ht2 hu
      | li hd2 ht2 hv2 hr2 he2 => rw [hd2]; exact SeqAt.RcNeAt.bool_list b1 ht2 hu
    | int i1 t1 =>
      cases v2 with
      | non => exact SeqAt.RcNeAt.int_none i1 t1
      | bl b2 => exact SeqAt.RcNeAt.int_bool i1 t1 b2
      | int i2 t2 => exact SeqAt.RcNeAt.int_int i1 t1 i2 t2
      | str x2 t2 => exact SeqAt.RcNeAt.int_str i1 t1 x2 t2
      | tu hd2 ht2 hv2 hr2 he2 => rw [hd2]; exact SeqAt.RcNeAt.int_tuple i1 t1 ht2 hu
      | li hd2 ht2 hv2 hr2 he2 => rw [hd2]; exact SeqAt.RcNeAt.int_list i1 t1 ht2 hu
    | str x1 t1 =>
      cases v2 with
      | non => exact SeqAt.RcNeAt.str_none x1 t1
      | bl b2 => exact SeqAt.RcNeAt.str_bool x1 t1 b2
      | int i2 t2 => exact SeqAt.RcNeAt.str_int x1 t1 i2 t2
      | str x2 t2 => exact SeqAt.RcNeAt.str_str x1 t1 x2 t2
      | tu hd2 ht2 hv2 hr2 he2 => rw [hd2]; exact SeqAt.RcNeAt.str_tuple x1 t1 ht2 hu
      | li hd2 ht2 hv2 hr2 he2 => rw [hd2]; exact SeqAt.RcNeAt.str_list x1 t1 ht2 hu
    | @tu n _ ds p xs its hd ht hv hr he =>
      cases v2 with
      | non => rw [hd]; exact SeqAt.RcNeAt.tuple_none ht hu
      | bl b2 => rw [hd]; exact SeqAt.RcNeAt.tuple_bool b2 ht hu
      | int i2 t2 => rw [hd]; exact SeqAt.RcNeAt.tuple_int i2 t2 ht hu
      | str x2 t2 => rw [hd]; exact SeqAt.RcNeAt.tuple_str x2 t2 ht hu
      | @tu _ _ es q ys jts hd2 ht2 hv2 hr2 he2 =>
        have hhe : ∀ j (h1 : j < its.toArray.size) (h2 : j < jts.toArray.size), SeqAt.EqAt A.in1 s its.toArray[j] jts.toArray[j] (itemEq ds es j) := fun j h1 h2 => by
          have h1' : j < its.length := by simpa using h1
          have h2' : j < jts.length := by simpa using h2
          obtain ⟨x, ex, rx⟩ := vals_get hv h1'
          obtain ⟨y, ey, ry⟩ := vals_get hv2 h2'
          obtain ⟨d', e1, q1⟩ := hr.get' ex
          obtain ⟨e', e2, q2⟩ := hr2.get' ey
          have z := eqAt I n (A := A.in1) (by show A.units + 1 + n < cLine; omega) (List.all_eq_true.mp he _ (List.mem_of_getElem? e1)) (List.all_eq_true.mp he2 _ (List.mem_of_getElem? e2)) q1 q2 rx ry
          have e3 : itemEq ds es j = eqD d' e' := by unfold itemEq; rw [e1, e2]
          rw [e3]
          simpa using z
        have l1 : its.toArray.size = ds.length := by rw [List.size_toArray, ← hv.length, ← hr.len]
        have l2 : jts.toArray.size = es.length := by rw [List.size_toArray, ← hv2.length, ← hr2.len]
        have z := SeqAt.RcNeAt.tuples ht ht2 hu hhe
        rw [l1, l2] at z
        rw [hd, hd2]
        show SeqAt.RcNeAt A s (.ref p) (.ref q) (!(eqNs (nrmL ds) (nrmL es)))
        rw [seq_all]
        exact z
      | li hd2 ht2 hv2 hr2 he2 => rw [hd, hd2]; exact SeqAt.RcNeAt.tuple_list ht ht2 hu
    | @li n _ ds p xs its hd ht hv hr he =>
      cases v2 with
      | non => rw [hd]; exact SeqAt.RcNeAt.list_none ht hu
      | bl b2 => rw [hd]; exact SeqAt.RcNeAt.list_bool b2 ht hu
      | int i2 t2 => rw [hd]; exact SeqAt.RcNeAt.list_int i2 t2 ht hu
      | str x2 t2 => rw [hd]; exact SeqAt.RcNeAt.list_str x2 t2 ht hu
      | tu hd2 ht2 hv2 hr2 he2 => rw [hd, hd2]; exact SeqAt.RcNeAt.list_tuple ht ht2 hu
      | @li _ _ es q ys jts hd2 ht2 hv2 hr2 he2 =>
        have hhe : ∀ j (h1 : j < its.toArray.size) (h2 : j < jts.toArray.size), SeqAt.EqAt A.in1 s its.toArray[j] jts.toArray[j] (itemEq ds es j) := fun j h1 h2 => by
          have h1' : j < its.length := by simpa using h1
          have h2' : j < jts.length := by simpa using h2
          obtain ⟨x, ex, rx⟩ := vals_get hv h1'
          obtain ⟨y, ey, ry⟩ := vals_get hv2 h2'
          obtain ⟨d', e1, q1⟩ := hr.get' ex
          obtain ⟨e', e2, q2⟩ := hr2.get' ey
          have z := eqAt I n (A := A.in1) (by show A.units + 1 + n < cLine; omega) (List.all_eq_true.mp he _ (List.mem_of_getElem? e1)) (List.all_eq_true.mp he2 _ (List.mem_of_getElem? e2)) q1 q2 rx ry
          have e3 : itemEq ds es j = eqD d' e' := by unfold itemEq; rw [e1, e2]
          rw [e3]
          simpa using z
        have l1 : its.toArray.size = ds.length := by rw [List.size_toArray, ← hv.length, ← hr.len]
        have l2 : jts.toArray.size = es.length := by rw [List.size_toArray, ← hv2.length, ← hr2.len]
        rw [hd, hd2]
        show SeqAt.RcNeAt A s (.ref p) (.ref q) (!(eqNs (nrmL ds) (nrmL es)))
        by_cases hl : ds.length = es.length
        · have z := SeqAt.RcNeAt.lists ht ht2 (by rw [l1, l2]; exact hl) hu hhe
          rw [l1] at z
          rw [seq_all, ← hl, Nat.min_self, beq_self_eq_true, Bool.and_true]
          exact z
        · have z := SeqAt.RcNeAt.lists_lengths ht ht2 (by rw [l1, l2]; simpa using hl) hu
          rw [seq_all, beq_eq_false_iff_ne.mpr hl, Bool.and_false]
          exact z
end
def gEq : List D → Option (D × Bool)
  | [d, e] => if (eqable 9 d && eqable 9 e) = true then some (.bl (eqD d e), false) else none
  | _ => none
def gNe : List D → Option (D × Bool)
  | [d, e] => if (eqable 9 d && eqable 9 e) = true then some (.bl (!(eqD d e)), false) else none
  | _ => none
def rEqD (K : PySem.W.Frag) : R2 := fun x y H Q => ∃ d e, eqable 9 d = true ∧ eqable 9 e = true ∧ RepD K H d x ∧ RepD K H e y ∧ Q (.bl (eqD d e)) H
def rNeD (K : PySem.W.Frag) : R2 := fun x y H Q => ∃ d e, eqable 9 d = true ∧ eqable 9 e = true ∧ RepD K H d x ∧ RepD K H e y ∧ Q (.bl (!(eqD d e))) H
section
variable {X : Cx}
theorem op_eqD (hu : X.A.units + 9 < cLine) : OpR X (compareOp .Eq) (rEqD X.K) := by
  intro pins s σ H x y v u Q I rx ry h
  obtain ⟨d, e, h1, h2, r1, r2, q⟩ := h
  exact rcAt I 9 hu h1 h2 r1 r2 rx ry _ _ _ _ ⟨.bl _, H, I, rfl, q⟩
theorem op_neD (hu : X.A.units + 9 < cLine) : OpR X (compareOp .NotEq) (rNeD X.K) := by
  intro pins s σ H x y v u Q I rx ry h
  obtain ⟨d, e, h1, h2, r1, r2, q⟩ := h
  exact neAt I 9 hu h1 h2 r1 r2 rx ry _ _ _ _ ⟨.bl _, H, I, rfl, q⟩
end
theorem repBs2 {K : PySem.W.Frag} {H Hh : Hp} {a b : D} {vs : List V} (h : RepBs K H Hh [a, b] vs) : ∃ x y, vs = [x, y] ∧ RepB K H Hh a x ∧ RepB K H Hh b y := by
  match vs, h with
  | [x, y], h => exact ⟨x, y, rfl, h.1, h.2.1⟩
theorem repBs1 {K : PySem.W.Frag} {H Hh : Hp} {a : D} {vs : List V} (h : RepBs K H Hh [a] vs) : ∃ x, vs = [x] ∧ RepB K H Hh a x := by
  match vs, h with
  | [x], h => exact ⟨x, rfl, h.1⟩
theorem os_eq {K : PySem.W.Frag} : OpS K (r2 (rEqD K)) gEq := by
  intro vs ds H L Q d nw hm r e q
  match ds, e with
  | [a, b], e =>
    obtain ⟨x, y, rfl, ra, rb⟩ := repBs2 r
    have e : (if (eqable 9 a && eqable 9 b) = true then some (D.bl (eqD a b), false) else none) = some (d, nw) := e
    split at e
    · rename_i hc
      have hc := (Bool.and_eq_true _ _).mp hc
      cases e
      exact ⟨a, b, hc.1, hc.2, ra.d hid_sub, rb.d hid_sub, q _ H (Same.refl _) rfl⟩
    · cases e
theorem os_ne {K : PySem.W.Frag} : OpS K (r2 (rNeD K)) gNe := by
  intro vs ds H L Q d nw hm r e q
  match ds, e with
  | [a, b], e =>
    obtain ⟨x, y, rfl, ra, rb⟩ := repBs2 r
    have e : (if (eqable 9 a && eqable 9 b) = true then some (D.bl (!(eqD a b)), false) else none) = some (d, nw) := e
    split at e
    · rename_i hc
      have hc := (Bool.and_eq_true _ _).mp hc
      cases e
      exact ⟨a, b, hc.1, hc.2, ra.d hid_sub, rb.d hid_sub, q _ H (Same.refl _) rfl⟩
    · cases e
end L2
namespace L2
open PySem PySem.Spec PyProof.Rows
section
variable {X : Cx}
def rCatD : R2 := fun x y H Q => ∃ a b xs ys, x = .ref a ∧ y = .ref b ∧ H a = some (.tup xs) ∧ H b = some (.tup ys) ∧ xs.length + ys.length ≤ sizeLine ∧
  ∀ p H', H' p = some (.tup (xs ++ ys)) → Same H H' → Q (.ref p) H'
theorem op_catD : OpR X (binaryOp .Add) rCatD := by
  intro pins s σ H x y v u Q I rx ry h
  obtain ⟨a, b, xs, ys, rfl, rfl, ha, hb, hz, q⟩ := h
  by_cases hx : xs = []
  · subst hx
    cases rx
    cases ry
    obtain ⟨its, r1, p1, _⟩ := I.tuple (X := X) (.inl (.inl ha))
    obtain ⟨its2, r2, p2, _⟩ := I.tuple (X := X) (.inl (.inl hb))
    cases r1
    exact cat_nil p1 p2 ⟨.ref b, H, I, rfl, q b H hb (Same.refl H)⟩
  · refine op_catT pins s σ H _ _ v u Q I rx ry ⟨a, b, xs, ys, rfl, rfl, .inl (.inl ha), .inl (.inl hb), hx, hz, fun e => ?_, fun e p hp => ?_⟩
    · subst e
      exact q a H (by rw [List.append_nil]; exact ha) (Same.refl H)
    · exact q p _ upd_same fun c o e' => by rw [upd_ne (ne_of_none e' hp)]; exact e'
def rSlD : RSl := fun x lo hi H Q => ∃ a xs, x = .ref a ∧ H a = some (.tup xs) ∧ ∀ p H', H' p = some (.tup (cutV xs lo hi)) → Same H H' → Q (.ref p) H'
theorem sl_tupD : SlR X rSlD := by
  intro pins s σ H x v vl vu lo hi sl Q I rx hs pl pu h
  obtain ⟨a, xs, rfl, hx, q⟩ := h
  by_cases hw : HT.sIx xs.length 0 lo = 0 ∧ HT.sIx xs.length xs.length hi = xs.length
  · cases rx
    obtain ⟨its, r, ht, hz⟩ := I.tuple (X := X) (.inl (.inl hx))
    have hlen : its.toArray.size = xs.length := by rw [List.size_toArray]; exact r.length.symm
    refine ⟨"tuple", _, PyProof.Rows.slot_tuple_getitem.lookup, ht.typeIs, ?_⟩
    refine HT.getItem_tuple_whole ht hs pl pu (by rw [hlen]; exact hw) ⟨.ref a, H, I, rfl, q a H ?_ (Same.refl H)⟩
    have : cutV xs lo hi = xs := by
      unfold cutV
      rw [hw.1, hw.2, List.drop_zero, Nat.sub_zero, List.take_length]
    rw [this]
    exact hx
  · exact sl_tup pins s σ H _ v vl vu lo hi sl Q I rx hs pl pu ⟨a, xs, rfl, .inl (.inl hx), hw, fun p hp => q p _ upd_same (Same.upd hp)⟩
end
def small (n : Nat) : Bool := decide (n ≤ 1000000)
theorem small_le {n : Nat} (h : small n = true) : n ≤ sizeLine := Nat.le_trans (of_decide_eq_true h) (by decide)
theorem small_lt {n : Nat} (h : small n = true) : n < sizeLine := Nat.lt_of_le_of_lt (of_decide_eq_true h) (by decide)
def cutD (xs : List D) (lo hi : Option Int) : List D := (xs.drop (HT.sIx xs.length 0 lo)).take (HT.sIx xs.length xs.length hi - HT.sIx xs.length 0 lo)
theorem RepDs.cut {K : PySem.W.Frag} {H : Hp} {ds : List D} {xs : List V} (h : RepDs K H ds xs) (lo hi : Option Int) : RepDs K H (cutD ds lo hi) (cutV xs lo hi) := by
  unfold cutD cutV
  rw [h.len]
  exact (h.drop _).take _
def okMul (a b : Int) : Bool := decide (-(2 ^ 64) < a ∧ a < 2 ^ 64) || decide (-(2 ^ 64) < b ∧ b < 2 ^ 64)
def gAdd : List D → Option (D × Bool)
  | [.int a, .int b] => some (.int (a + b), false)
  | [.lst a, .lst b] => if small (a.length + b.length) = true then some (.lst (a ++ b), true) else none
  | [.tup a, .tup b] => if small (a.length + b.length) = true then some (.tup (a ++ b), false) else none
  | _ => none
def gMin1 : List D → Option (D × Bool)
  | [.int a, .int b] => some (.int (a - b), false)
  | _ => none
def repL (n : Nat) (l : List D) : List D := (List.replicate n l).flatten
def gMul : List D → Option (D × Bool)
  | [.int a, .int b] => if okMul a b = true then some (.int (a * b), false) else none
  | [.lst a, .int k] => if (decide (-1000000 ≤ k ∧ k ≤ 1000000) && small (a.length * k.toNat)) = true then some (.lst (repL k.toNat a), true) else none
  | _ => none
def gFdiv : List D → Option (D × Bool)
  | [.int a, .int b] => if decide (0 < b ∧ b < 1073741824) = true then some (.int (a / b), false) else none
  | _ => none
def gMod : List D → Option (D × Bool)
  | [.int a, .int b] => if decide (0 < b) = true then some (.int (a % b), false) else none
  | _ => none
def gPow : List D → Option (D × Bool)
  | [.int a, .int b] => if decide (0 ≤ b ∧ b ≤ 1000000 ∧ a.natAbs < 2 ^ 64) = true then some (.int (a ^ b.toNat), false) else none
  | _ => none
def intsOf : List D → Option (List Int)
  | [] => some []
  | .int i :: ds => match intsOf ds with
    | some l => some (i :: l)
    | none => none
  | _ => none
def blsOf : List D → Option (List Bool)
  | [] => some []
  | .bl i :: ds => match blsOf ds with
    | some l => some (i :: l)
    | none => none
  | _ => none
theorem intsOf_eq : ∀ {ds : List D} {l : List Int}, intsOf ds = some l → ds = l.map D.int
  | [], l, h => by unfold intsOf at h; cases h; rfl
  | d :: ds, l, h => by
    cases d <;> first | (unfold intsOf at h; cases h; done) | skip
    unfold intsOf at h
    cases e : intsOf ds with
    | none => rw [e] at h; cases h
    | some l' => rw [e] at h; cases h; rw [intsOf_eq e]; rfl
theorem intsOf_map (l : List Int) : intsOf (l.map D.int) = some l := by
  induction l with
  | nil => rfl
  | cons i l ih => rw [List.map_cons]; unfold intsOf; rw [ih]
theorem blsOf_eq : ∀ {ds : List D} {l : List Bool}, blsOf ds = some l → ds = l.map D.bl
  | [], l, h => by unfold blsOf at h; cases h; rfl
  | d :: ds, l, h => by
    cases d <;> first | (unfold blsOf at h; cases h; done) | skip
    unfold blsOf at h
    cases e : blsOf ds with
    | none => rw [e] at h; cases h
    | some l' => rw [e] at h; cases h; rw [blsOf_eq e]; rfl
theorem blsOf_map (l : List Bool) : blsOf (l.map D.bl) = some l := by
  induction l with
  | nil => rfl
  | cons i l ih => rw [List.map_cons]; unfold blsOf; rw [ih]
def gLt : List D → Option (D × Bool)
  | [.int a, .int b] => some (.bl (decide (a < b)), false)
  | _ => none
def gLe : List D → Option (D × Bool)
  | [.int a, .int b] => some (.bl (decide (a ≤ b)), false)
  | _ => none
def gGt : List D → Option (D × Bool)
  | [.int a, .int b] => some (.bl (decide (b < a)), false)
  | _ => none
def gGe : List D → Option (D × Bool)
  | [.int a, .int b] => some (.bl (decide (b ≤ a)), false)
  | _ => none
def isNon : D → Bool
  | .non => true
  | _ => false
def gIs : List D → Option (D × Bool)
  | [d, .non] => some (.bl (isNon d), false)
  | [.bl a, .bl b] => some (.bl (a == b), false)
  | _ => none
def rIsD : R2 := fun x y H Q => (y = .non ∧ Q (.bl (decide (x = .non))) H) ∨ ∃ a b, x = .bl a ∧ y = .bl b ∧ Q (.bl (a == b)) H
section
variable {K : PySem.W.Frag}
theorem isNon_of {H Hh : Hp} {d : D} {v : V} (r : RepB K H Hh d v) : decide (v = .non) = isNon d := by
  cases d <;> first
    | (have r : v = _ := r; subst r; rfl)
    | (obtain ⟨p, xs, rfl, _⟩ := r; rfl)
    | (obtain ⟨p, rfl, _⟩ := r; rfl)
theorem repB_int {H Hh : Hp} {i : Int} {v : V} (r : RepB K H Hh (.int i) v) : v = .int i := r
theorem repB_bl {H Hh : Hp} {i : Bool} {v : V} (r : RepB K H Hh (.bl i) v) : v = .bl i := r
theorem new_lst {H : Hp} {L : List Addr} {ds : List D} {xs : List V} (r : RepDs K (hid L H) ds xs) {p : Addr} (hp : H p = none) : PostD K H (upd H p (.lst xs)) L (.lst ds) true (.ref p) :=
  ⟨p, rfl, hp, xs, upd_same, (hid_same (fun b hb => (List.mem_cons.mp hb).elim (fun z => .inr (by rw [z]; exact hp)) .inl) fun b o _ e => Same.upd hp b o e : Same (hid L H) _).repDs r⟩
theorem new_tup {H H' : Hp} {L : List Addr} {ds : List D} {xs : List V} (hm : ∀ p ∈ L, MutO (H p)) (r : RepDs K (hid L H) ds xs) {p : Addr} (s : Same H H') (hp : H' p = some (.tup xs)) : PostD K H H' L (.tup ds) false (.ref p) := by
  refine ⟨p, xs, rfl, ?_, (hid_same (fun b hb => .inl hb) fun b o _ e => s b o e : Same (hid L H) _).repDs r⟩
  rw [hid_ne (fun z => ?_)]
  · exact hp
  · obtain ⟨u, q⟩ := (hm p z).some
    have e := s p u q
    rw [hp] at e
    cases e
    have := hm p z
    rw [q] at this
    exact this
theorem os_add : OpS K (r2 fun x y H Q => rI0 (fun i j => .int (i + j)) x y H Q ∨ rCat x y H Q ∨ rCatD x y H Q) gAdd := by
  intro vs ds H L Q d nw hm r e q
  unfold gAdd at e
  split at e
  · obtain ⟨x, y, rfl, ra, rb⟩ := repBs2 r
    cases e
    exact .inl ⟨_, _, ra, rb, q _ H (Same.refl _) rfl⟩
  · obtain ⟨x, y, rfl, ⟨p, xs, rfl, h1, h2⟩, ⟨p', ys, rfl, h3, h4⟩⟩ := repBs2 r
    split at e
    · rename_i hs
      cases e
      refine .inr (.inl ⟨p, p', xs, ys, rfl, rfl, h1, h3, small_le (by rw [← h2.len, ← h4.len]; exact hs), fun l hl => q _ _ (Same.upd hl) (new_lst (h2.app h4) hl)⟩)
    · cases e
  · obtain ⟨x, y, rfl, ⟨p, xs, rfl, h1, h2⟩, ⟨p', ys, rfl, h3, h4⟩⟩ := repBs2 r
    split at e
    · rename_i hs
      cases e
      exact .inr (.inr ⟨p, p', xs, ys, rfl, rfl, (hid_some h1).2, (hid_some h3).2, small_le (by rw [← h2.len, ← h4.len]; exact hs), fun l H' hl s => q _ _ s (new_tup hm (h2.app h4) s hl)⟩)
    · cases e
  · cases e
theorem os_sub : OpS K (r2 (rI0 fun i j => .int (i - j))) gMin1 := by
  intro vs ds H L Q d nw hm r e q
  unfold gMin1 at e
  split at e
  · obtain ⟨x, y, rfl, ra, rb⟩ := repBs2 r
    cases e
    exact ⟨_, _, ra, rb, q _ H (Same.refl _) rfl⟩
  · cases e
theorem rep_flat : ∀ {H : Hp} {ds : List D} {xs : List V} (n : Nat), RepDs K H ds xs → RepDs K H (repL n ds) (List.replicate n xs).flatten
  | _, _, _, 0, _ => trivial
  | _, _, _, n + 1, h => by
    unfold repL
    rw [List.replicate_succ, List.replicate_succ, List.flatten_cons, List.flatten_cons]
    exact h.app (rep_flat n h)
theorem os_mul : OpS K (r2 fun x y H Q => rI CMul (fun i j => .int (i * j)) x y H Q ∨ rRep x y H Q) gMul := by
  intro vs ds H L Q d nw hm r e q
  unfold gMul at e
  split at e
  · obtain ⟨x, y, rfl, ra, rb⟩ := repBs2 r
    split at e
    · rename_i hs
      cases e
      refine .inl ⟨_, _, ra, rb, ?_, q _ H (Same.refl _) rfl⟩
      rcases (Bool.or_eq_true _ _).mp hs with z | z
      · exact .inl (of_decide_eq_true z)
      · exact .inr (of_decide_eq_true z)
    · cases e
  · rename_i a k
    obtain ⟨x, y, rfl, ⟨p, xs, rfl, h1, h2⟩, rb⟩ := repBs2 r
    split at e
    · rename_i hs
      cases e
      have hs := (Bool.and_eq_true _ _).mp hs
      have hb := of_decide_eq_true hs.1
      refine .inr ⟨p, k, xs, rfl, rb, h1, by omega, by omega, ?_, fun l hl => q _ _ (Same.upd hl) (new_lst (rep_flat k.toNat h2) hl)⟩
      rw [← h2.len]
      exact small_le hs.2
    · cases e
  · cases e
theorem os_fdiv : OpS K (r2 (rI CDiv fun i j => .int (i / j))) gFdiv := by
  intro vs ds H L Q d nw hm r e q
  unfold gFdiv at e
  split at e
  · obtain ⟨x, y, rfl, ra, rb⟩ := repBs2 r
    split at e
    · rename_i hs
      cases e
      exact ⟨_, _, ra, rb, (by have z := of_decide_eq_true hs; exact z), q _ H (Same.refl _) rfl⟩
    · cases e
  · cases e
theorem os_mod : OpS K (r2 (rI (fun _ j => 0 < j) fun i j => .int (i % j))) gMod := by
  intro vs ds H L Q d nw hm r e q
  unfold gMod at e
  split at e
  · obtain ⟨x, y, rfl, ra, rb⟩ := repBs2 r
    split at e
    · rename_i hs
      cases e
      exact ⟨_, _, ra, rb, of_decide_eq_true hs, q _ H (Same.refl _) rfl⟩
    · cases e
  · cases e
theorem os_pow : OpS K (r2 (rI CPow fun i j => .int (i ^ j.toNat))) gPow := by
  intro vs ds H L Q d nw hm r e q
  unfold gPow at e
  split at e
  · obtain ⟨x, y, rfl, ra, rb⟩ := repBs2 r
    split at e
    · rename_i hs
      cases e
      exact ⟨_, _, ra, rb, (by have z := of_decide_eq_true hs; exact z), q _ H (Same.refl _) rfl⟩
    · cases e
  · cases e
theorem os_lt : OpS K (r2 (rI0 fun i j => .bl (decide (i < j)))) gLt := by
  intro vs ds H L Q d nw hm r e q
  unfold gLt at e
  split at e
  · obtain ⟨x, y, rfl, ra, rb⟩ := repBs2 r
    cases e
    exact ⟨_, _, ra, rb, q _ H (Same.refl _) rfl⟩
  · cases e
theorem os_le : OpS K (r2 (rI0 fun i j => .bl (decide (i ≤ j)))) gLe := by
  intro vs ds H L Q d nw hm r e q
  unfold gLe at e
  split at e
  · obtain ⟨x, y, rfl, ra, rb⟩ := repBs2 r
    cases e
    exact ⟨_, _, ra, rb, q _ H (Same.refl _) rfl⟩
  · cases e
theorem os_gt : OpS K (r2 (rI0 fun i j => .bl (decide (j < i)))) gGt := by
  intro vs ds H L Q d nw hm r e q
  unfold gGt at e
  split at e
  · obtain ⟨x, y, rfl, ra, rb⟩ := repBs2 r
    cases e
    exact ⟨_, _, ra, rb, q _ H (Same.refl _) rfl⟩
  · cases e
theorem os_ge : OpS K (r2 (rI0 fun i j => .bl (decide (j ≤ i)))) gGe := by
  intro vs ds H L Q d nw hm r e q
  unfold gGe at e
  split at e
  · obtain ⟨x, y, rfl, ra, rb⟩ := repBs2 r
    cases e
    exact ⟨_, _, ra, rb, q _ H (Same.refl _) rfl⟩
  · cases e
theorem os_is : OpS K (r2 rIsD) gIs := by
  intro vs ds H L Q d nw hm r e q
  unfold gIs at e
  split at e
  · obtain ⟨x, y, rfl, ra, rb⟩ := repBs2 r
    cases e
    refine .inl ⟨rb, ?_⟩
    rw [isNon_of ra]
    exact q _ H (Same.refl _) rfl
  · obtain ⟨x, y, rfl, ra, rb⟩ := repBs2 r
    cases e
    exact .inr ⟨_, _, ra, rb, q _ H (Same.refl _) rfl⟩
  · cases e
end
def gIx : List D → Option (D × Bool)
  | [.lst ds, .int i] => match atI ds i with
    | some d => some (d, false)
    | none => none
  | [.klst ds, .int i] => match atI ds i with
    | some d => some (d, false)
    | none => none
  | [.tup ds, .int i] => match atI ds i with
    | some d => some (d, false)
    | none => none
  | [.ktup ds, .int i] => match atI ds i with
    | some d => some (d, false)
    | none => none
  | _ => none
def gSl (lo hi : Option Int) : D → Option (D × Bool)
  | .lst ds => some (.lst (cutD ds lo hi), true)
  | .klst ds => some (.lst (cutD ds lo hi), true)
  | .tup ds => some (.tup (cutD ds lo hi), false)
  | _ => none
def gS11 (i j : Int) : List D → Option (D × Bool)
  | [d] => gSl (some i) (some j) d
  | _ => none
def rSlA (K : PySem.W.Frag) : RSl := fun x lo hi H Q => rSlL K x lo hi H Q ∨ rSlD x lo hi H Q
section
variable {K : PySem.W.Frag}
theorem at_rep {H : Hp} {ds : List D} {xs : List V} {i : Int} {d : D} (r : RepDs K H ds xs) (e : atI ds i = some d) : ∃ v, atI xs i = some v ∧ RepD K H d v := by
  unfold atI at e ⊢
  rw [← r.len]
  cases h : ixN ds.length i with
  | none => rw [h] at e; cases e
  | some j =>
    rw [h] at e
    obtain ⟨x, e1, e2⟩ := r.get (show ds[j]? = some d from e)
    exact ⟨x, e1, e2⟩
theorem os_ix : OpS K (r2 (rIx K)) gIx := by
  intro vs ds H L Q d nw hm r e q
  unfold gIx at e
  split at e
  · rename_i es i
    obtain ⟨x, y, rfl, ⟨p, xs, rfl, h1, h2⟩, rb⟩ := repBs2 r
    cases ea : atI es i with
    | none => rw [ea] at e; cases e
    | some d' =>
      rw [ea] at e; cases e
      obtain ⟨v, e1, e2⟩ := at_rep h2 ea
      exact .inl ⟨p, xs, i, v, rfl, rb, .inl (.inl h1), e1, q v H (Same.refl _) e2⟩
  · rename_i es i
    obtain ⟨x, y, rfl, ⟨p, xs, rfl, h1, h2⟩, rb⟩ := repBs2 r
    cases ea : atI es i with
    | none => rw [ea] at e; cases e
    | some d' =>
      rw [ea] at e; cases e
      obtain ⟨v, e1, e2⟩ := at_rep h2 ea
      exact .inl ⟨p, xs, i, v, rfl, rb, hid_sub.seq h1, e1, q v H (Same.refl _) e2⟩
  · rename_i es i
    obtain ⟨x, y, rfl, ⟨p, xs, rfl, h1, h2⟩, rb⟩ := repBs2 r
    cases ea : atI es i with
    | none => rw [ea] at e; cases e
    | some d' =>
      rw [ea] at e; cases e
      obtain ⟨v, e1, e2⟩ := at_rep h2 ea
      exact .inr (.inl ⟨p, xs, i, v, rfl, rb, .inl (.inl (hid_some h1).2), e1, q v H (Same.refl _) e2⟩)
  · rename_i es i
    obtain ⟨x, y, rfl, ⟨p, xs, rfl, h1, h2⟩, rb⟩ := repBs2 r
    cases ea : atI es i with
    | none => rw [ea] at e; cases e
    | some d' =>
      rw [ea] at e; cases e
      obtain ⟨v, e1, e2⟩ := at_rep h2 ea
      exact .inr (.inl ⟨p, xs, i, v, rfl, rb, ktup_sq h1, e1, q v H (Same.refl _) e2⟩)
  · cases e
theorem sl_of {H : Hp} {L : List Addr} {lo hi : Option Int} {x : V} {c d : D} {nw : Bool} {Q : VK} (hm : ∀ p ∈ L, MutO (H p)) (r : RepB K H (hid L H) c x) (e : gSl lo hi c = some (d, nw)) (q : ∀ v H', Same H H' → PostD K H H' L d nw v → Q v H') : rSlA K x lo hi H Q := by
  unfold gSl at e
  split at e
  · obtain ⟨p, xs, rfl, h1, h2⟩ := r
    cases e
    exact .inl ⟨p, xs, rfl, .inl (.inl h1), fun l hl => q _ _ (Same.upd hl) (new_lst (h2.cut lo hi) hl)⟩
  · obtain ⟨p, xs, rfl, h1, h2⟩ := r
    cases e
    exact .inl ⟨p, xs, rfl, hid_sub.seq h1, fun l hl => q _ _ (Same.upd hl) (new_lst (h2.cut lo hi) hl)⟩
  · obtain ⟨p, xs, rfl, h1, h2⟩ := r
    cases e
    exact .inr ⟨p, xs, rfl, (hid_some h1).2, fun l H' hl s => q _ _ s (new_tup hm (h2.cut lo hi) s hl)⟩
  · cases e
theorem os_s11 {i j : Int} : OpS K (rS11 (rSlA K) i j) (gS11 i j) := by
  intro vs ds H L Q d nw hm r e q
  unfold gS11 at e
  split at e
  · obtain ⟨x, rfl, ra⟩ := repBs1 r
    exact ⟨i, rfl, j, rfl, sl_of hm ra e q⟩
  · cases e
end
section
variable {X : Cx}
theorem op_addA : OpR X (binaryOp .Add) (fun x y H Q => rI0 (fun i j => .int (i + j)) x y H Q ∨ rCat x y H Q ∨ rCatD x y H Q) := op_add.or (op_cat.or op_catD)
theorem op_mulA : OpR X (binaryOp .Mult) (fun x y H Q => rI CMul (fun i j => .int (i * j)) x y H Q ∨ rRep x y H Q) := op_mul.or op_rep
theorem sl_any : SlR X (rSlA X.K) := sl_list.or sl_tupD
theorem op_isD : OpR X (compareOp .Is) rIsD := op_isN.or op_isB
end
end L2
namespace L2
open PySem PySem.Spec PyProof.Rows
def ins (x : Int) : List Int → List Int
  | [] => [x]
  | y :: l => if x ≤ y then x :: y :: l else y :: ins x l
def isort : List Int → List Int
  | [] => []
  | x :: l => ins x (isort l)
theorem ins_perm (x : Int) : ∀ l : List Int, (ins x l).Perm (x :: l)
  | [] => .refl _
  | y :: l => by
    unfold ins
    split
    · exact .refl _
    · exact ((ins_perm x l).cons y).trans (.swap x y l)
theorem isort_perm : ∀ l : List Int, (isort l).Perm l
  | [] => .refl _
  | x :: l => (ins_perm x _).trans ((isort_perm l).cons x)
theorem ins_sorted (x : Int) : ∀ {l : List Int}, l.Pairwise (· ≤ ·) → (ins x l).Pairwise (· ≤ ·)
  | [], _ => by unfold ins; simp
  | y :: l, h => by
    unfold ins
    have hy := List.pairwise_cons.mp h
    split
    · rename_i hxy
      exact List.pairwise_cons.mpr ⟨fun z hz => (List.mem_cons.mp hz).elim (fun e => e ▸ hxy) fun hz => Int.le_trans hxy (hy.1 z hz), h⟩
    · rename_i hxy
      refine List.pairwise_cons.mpr ⟨fun z hz => ?_, ins_sorted x hy.2⟩
      rcases List.mem_cons.mp ((ins_perm x l).mem_iff.mp hz) with e | hz
      · rw [e]; omega
      · exact hy.1 z hz
theorem isort_sorted : ∀ l : List Int, (isort l).Pairwise (· ≤ ·)
  | [] => .nil
  | x :: l => ins_sorted x (isort_sorted l)
theorem sorted_unique : ∀ {a b : List Int}, a.Pairwise (· ≤ ·) → b.Pairwise (· ≤ ·) → a.Perm b → a = b
  | [], b, _, _, h => (h.symm.eq_nil).symm ▸ rfl
  | x :: a, [], _, _, h => absurd h.eq_nil (by simp)
  | x :: a, y :: b, h1, h2, h => by
    have g1 := List.pairwise_cons.mp h1
    have g2 := List.pairwise_cons.mp h2
    have e : x = y := by
      have m1 : x ∈ y :: b := h.mem_iff.mp List.mem_cons_self
      have m2 : y ∈ x :: a := h.mem_iff.mpr List.mem_cons_self
      have l1 : y ≤ x := (List.mem_cons.mp m1).elim (fun e => e ▸ Int.le_refl _) (g2.1 x)
      have l2 : x ≤ y := (List.mem_cons.mp m2).elim (fun e => e ▸ Int.le_refl _) (g1.1 y)
      omega
    subst e
    rw [sorted_unique g1.2 g2.2 h.cons_inv]
def maxI : List Int → Int
  | [] => 0
  | [x] => x
  | x :: y :: l => if maxI (y :: l) ≤ x then x else maxI (y :: l)
def minI : List Int → Int
  | [] => 0
  | [x] => x
  | x :: y :: l => if x ≤ minI (y :: l) then x else minI (y :: l)
theorem maxI_is : ∀ {l : List Int}, l ≠ [] → maxI l ∈ l ∧ ∀ a ∈ l, a ≤ maxI l
  | [], h => absurd rfl h
  | [x], _ => by unfold maxI; simp
  | x :: y :: l, _ => by
    obtain ⟨h1, h2⟩ := maxI_is (l := y :: l) (by simp)
    unfold maxI
    split
    · rename_i hx
      exact ⟨List.mem_cons_self, fun a ha => (List.mem_cons.mp ha).elim (fun e => e ▸ Int.le_refl _) fun ha => Int.le_trans (h2 a ha) hx⟩
    · rename_i hx
      exact ⟨List.mem_cons_of_mem _ h1, fun a ha => (List.mem_cons.mp ha).elim (fun e => by rw [e]; omega) (h2 a)⟩
theorem minI_is : ∀ {l : List Int}, l ≠ [] → minI l ∈ l ∧ ∀ a ∈ l, minI l ≤ a
  | [], h => absurd rfl h
  | [x], _ => by unfold minI; simp
  | x :: y :: l, _ => by
    obtain ⟨h1, h2⟩ := minI_is (l := y :: l) (by simp)
    unfold minI
    split
    · rename_i hx
      exact ⟨List.mem_cons_self, fun a ha => (List.mem_cons.mp ha).elim (fun e => e ▸ Int.le_refl _) fun ha => Int.le_trans hx (h2 a ha)⟩
    · rename_i hx
      exact ⟨List.mem_cons_of_mem _ h1, fun a ha => (List.mem_cons.mp ha).elim (fun e => by rw [e]; omega) (h2 a)⟩
def dd (ns : List Int) : List Int := ns.foldl step_dedup []
theorem kinds_dd (ns : List Int) : St2.kinds ns ns.length = dd ns := by
  unfold St2.kinds firstMet dd
  congr 1
  apply List.ext_getElem
  · simp
  · intro i h1 h2
    simp [h2]
theorem dd_any (ns : List Int) (x : Int) : (dd ns).any (· == x) = true ↔ x ∈ ns := by rw [← kinds_dd]; exact St3.kinds_mem ns x
theorem dd_mem (ns : List Int) (x : Int) : x ∈ dd ns ↔ x ∈ ns := by
  rw [← dd_any ns x]
  simp
section
variable {X : Cx}
def rSetTm (K : PySem.W.Frag) : List V → Hp → VK → Prop := fun xs H Q => ∃ (p : Addr) (ns : List Int), xs = [V.ref p] ∧ SqT K H p (ns.map V.int) ∧ ns.length ≤ 1000 ∧
  ∀ l S, H l = none → (∀ x, S x = true ↔ x ∈ ns) → Q (.ref l) (upd H l (.set S (St2.kinds ns ns.length).length))
theorem call_setTm (hc : X.calm = true) : CallR X (.type "set") (rSetTm X.K) := by
  intro pins s σ H xs us Q I r h
  obtain ⟨p, ns, rfl, hq, hn, q⟩ := h
  obtain ⟨u, rfl, ru⟩ := vals1 r
  cases ru
  obtain ⟨its, rv, pt, _⟩ := I.tuple hq
  have ln : its.length = ns.length := by rw [← rv.length, List.length_map]
  refine St2.set_tuple (ns := ns) (I.ok.hd hc) pt (by simpa using intsAre_of rv) (by rw [List.size_toArray, ln]; unfold scanBound; omega) fun h' tk st kp => ?_
  have sz : its.toArray.size = ns.length := by rw [List.size_toArray, ln]
  rw [sz] at st
  have hf : H s.heap.objs.size = none := I.hok.fresh (Nat.le_refl _)
  exact ⟨.ref s.heap.objs.size, _, I.laid (o := .set _ _) (fun b o e => kp b o (Heap.lt_size e) e) (Nat.le_refl _) st, rfl, q _ _ hf (St3.kinds_mem ns)⟩
end
def gLen : List D → Option (D × Bool)
  | [.lst ds] => some (.int ds.length, false)
  | [.klst ds] => some (.int ds.length, false)
  | [.tup ds] => some (.int ds.length, false)
  | [.ktup ds] => some (.int ds.length, false)
  | [.dK ks _] => some (.int ks.length, false)
  | [.dT ks _] => some (.int ks.length, false)
  | [.set l] => if decide (l.length ≤ 1000) = true then some (.int l.length, false) else none
  | _ => none
def rLenD (X : Cx) : List V → Hp → VK → Prop := fun xs H Q => (∃ p ys, xs = [V.ref p] ∧ (SqL X.K H p ys ∨ SqT X.K H p ys) ∧ Q (.int ys.length) H) ∨ (∃ a kvs, xs = [V.ref a] ∧ H a = some (.dK kvs) ∧ Q (.int kvs.length) H) ∨ (∃ a kvs, xs = [V.ref a] ∧ H a = some (.dT kvs) ∧ Q (.int kvs.length) H) ∨ rLenSet xs H Q
theorem call_lenA {X : Cx} : CallR X (.builtin "len") (rLenD X) := call_len_seq.or (call_lenD.or (call_lenT.or call_lenSet))
theorem os_len {X : Cx} : OpS X.K (rLenD X) gLen := by
  intro vs ds H L Q d nw hm r e q
  unfold gLen at e
  split at e
  · obtain ⟨x, rfl, ⟨p, xs, rfl, h1, h2⟩⟩ := repBs1 r
    cases e
    exact .inl ⟨p, xs, rfl, .inl (.inl (.inl h1)), by rw [← h2.len]; exact q _ H (Same.refl _) rfl⟩
  · obtain ⟨x, rfl, ⟨p, xs, rfl, h1, h2⟩⟩ := repBs1 r
    cases e
    exact .inl ⟨p, xs, rfl, .inl (hid_sub.seq h1), by rw [← h2.len]; exact q _ H (Same.refl _) rfl⟩
  · obtain ⟨x, rfl, ⟨p, xs, rfl, h1, h2⟩⟩ := repBs1 r
    cases e
    exact .inl ⟨p, xs, rfl, .inr (.inl (.inl (hid_some h1).2)), by rw [← h2.len]; exact q _ H (Same.refl _) rfl⟩
  · obtain ⟨x, rfl, ⟨p, xs, rfl, h1, h2⟩⟩ := repBs1 r
    cases e
    exact .inl ⟨p, xs, rfl, .inr (ktup_sq h1), by rw [← h2.len]; exact q _ H (Same.refl _) rfl⟩
  · rename_i ks vs'
    obtain ⟨x, rfl, ⟨p, xs, rfl, h1, h2, h3⟩⟩ := repBs1 r
    cases e
    exact .inr (.inl ⟨p, _, rfl, h1, by rw [List.length_zip, ← h2, Nat.min_self]; exact q _ H (Same.refl _) rfl⟩)
  · rename_i ks vs'
    obtain ⟨x, rfl, ⟨p, xs, rfl, h1, h2, h3⟩⟩ := repBs1 r
    cases e
    exact .inr (.inr (.inl ⟨p, _, rfl, h1, by rw [List.length_zip, ← h2, Nat.min_self]; exact q _ H (Same.refl _) rfl⟩))
  · obtain ⟨x, rfl, ⟨p, S, rfl, h1, h2⟩⟩ := repBs1 r
    split at e
    · rename_i hl
      cases e
      exact .inr (.inr (.inr ⟨p, S, _, rfl, (hid_some h1).2, of_decide_eq_true hl, q _ H (Same.refl _) rfl⟩))
    · cases e
  · cases e
def gSum : List D → Option (D × Bool)
  | [.lst ds] => match intsOf ds with
    | some ns => some (.int ns.sum, false)
    | none => none
  | [.tup ds] => match intsOf ds with
    | some ns => some (.int ns.sum, false)
    | none => none
  | _ => none
theorem call_sumA {X : Cx} (hc : X.calm = true) : CallR X (.builtin "sum") (fun xs H Q => rSumL X.K xs H Q ∨ rSumU X.K xs H Q) := (call_sumL hc).or (call_sumU hc)
theorem os_sum {K : PySem.W.Frag} : OpS K (fun xs H Q => rSumL K xs H Q ∨ rSumU K xs H Q) gSum := by
  intro vs ds H L Q d nw hm r e q
  unfold gSum at e
  split at e
  · rename_i es
    obtain ⟨x, rfl, ⟨p, xs, rfl, h1, h2⟩⟩ := repBs1 r
    cases en : intsOf es with
    | none => rw [en] at e; cases e
    | some ns =>
      rw [en] at e; cases e
      rw [intsOf_eq en] at h2
      rw [ints_repDs h2] at h1
      exact .inl ⟨p, ns, rfl, .inl (.inl h1), q _ H (Same.refl _) rfl⟩
  · rename_i es
    obtain ⟨x, rfl, ⟨p, xs, rfl, h1, h2⟩⟩ := repBs1 r
    cases en : intsOf es with
    | none => rw [en] at e; cases e
    | some ns =>
      rw [en] at e; cases e
      rw [intsOf_eq en] at h2
      rw [ints_repDs h2] at h1
      exact .inr ⟨p, ns, rfl, .inl (.inl (hid_some h1).2), q _ H (Same.refl _) rfl⟩
  · cases e
def gAll : List D → Option (D × Bool)
  | [.lst ds] => match blsOf ds with
    | some bs => some (.bl (bs.all id), false)
    | none => none
  | _ => none
def rAllB (K : PySem.W.Frag) : List V → Hp → VK → Prop := fun xs H Q => ∃ (p : Addr) (bs : List Bool), xs = [V.ref p] ∧ SqL K H p (bs.map V.bl) ∧ Q (.bl (bs.all id)) H
theorem call_allA {X : Cx} (hc : X.calm = true) : CallR X (.builtin "all") (rAllB X.K) := call_all hc
theorem os_all {K : PySem.W.Frag} : OpS K (rAllB K) gAll := by
  intro vs ds H L Q d nw hm r e q
  unfold gAll at e
  split at e
  · rename_i es
    obtain ⟨x, rfl, ⟨p, xs, rfl, h1, h2⟩⟩ := repBs1 r
    cases en : blsOf es with
    | none => rw [en] at e; cases e
    | some ns =>
      rw [en] at e; cases e
      rw [blsOf_eq en] at h2
      rw [bls_repDs h2] at h1
      exact ⟨p, ns, rfl, .inl (.inl h1), q _ H (Same.refl _) rfl⟩
  · cases e
def tyD : D → Option String
  | .non => some "NoneType"
  | .bl _ => some "bool"
  | .int _ => some "int"
  | .str _ => some "str"
  | .lst _ => some "list"
  | .klst _ => some "list"
  | .tup _ => some "tuple"
  | .ktup _ => some "tuple"
  | .dK _ _ => some "dict"
  | .dT _ _ => some "dict"
  | _ => none
def gIsi (C : String) : List D → Option (D × Bool)
  | [d] => match tyD d with
    | some T => some (.bl (isiB T C), false)
    | none => none
  | _ => none
theorem tyD_kind {K : PySem.W.Frag} {H Hh : Hp} {d : D} {v : V} {T : String} (r : RepB K H Hh d v) (s : Same Hh H) (e : tyD d = some T) : kindV K H T v := by
  cases d <;> first
    | (unfold tyD at e; cases e; done)
    | (unfold tyD at e; cases e; have r : v = _ := r; subst r; rfl)
    | (unfold tyD at e; cases e; obtain ⟨p, xs, rfl, h1, h2, h3⟩ := r; exact .inr (.inr ⟨rfl, .inl ⟨_, h1⟩⟩))
    | (unfold tyD at e; cases e; obtain ⟨p, xs, rfl, h1, h2, h3⟩ := r; exact .inr (.inr ⟨rfl, .inr ⟨_, h1⟩⟩))
    | (unfold tyD at e; cases e; obtain ⟨p, xs, rfl, h1, h2⟩ := r; exact .inr (.inl ⟨rfl, xs, .inl (.inl (s _ _ h1))⟩))
    | (unfold tyD at e; cases e; obtain ⟨p, xs, rfl, h1, h2⟩ := r; exact .inr (.inl ⟨rfl, xs, ktup_sq h1⟩))
    | (unfold tyD at e; cases e; obtain ⟨p, xs, rfl, h1, h2⟩ := r; exact .inl ⟨rfl, xs, .inl (.inl h1)⟩)
    | (unfold tyD at e; cases e; obtain ⟨p, xs, rfl, h1, h2⟩ := r; exact .inl ⟨rfl, xs, s.seq h1⟩)
def rIsiC (K : PySem.W.Frag) (C : String) : List V → Hp → VK → Prop
  | [x], H, Q => rIsi K [x, .ty C] H Q
  | _, _, _ => False
theorem os_isi {K : PySem.W.Frag} {C : String} (hC : isiC C) : OpS K (rIsiC K C) (gIsi C) := by
  intro vs ds H L Q d nw hm r e q
  unfold gIsi at e
  split at e
  · rename_i c
    obtain ⟨x, rfl, ra⟩ := repBs1 r
    cases et : tyD c with
    | none => rw [et] at e; cases e
    | some T =>
      rw [et] at e; cases e
      exact ⟨x, T, C, rfl, hC, tyD_kind ra hid_sub et, q _ H (Same.refl _) rfl⟩
  · cases e
theorem c_isi {X : Cx} {EX : EXT} {e : Expr} {a : Arg} {C : String} {nC : Str} {p1 p2 pos : Pos} (hC : isiC C) (he : JB X EX e a) (g1 : Gl X "isinstance") (m1 : X.mg "isinstance" = none) (g2 : Gl X nC) (m2 : X.mg nC = none) (b2 : bootBuiltins nC = some (.type C))
    (hn : nC ≠ "__name__" := by decide) (hdb : (nC == ("__debug__" : Str)) = false := by decide)
    (hs : starEach [e, .Name nC p1] X.env = (false, eval e X.env) :: starEach [.Name nC p1] X.env := by rfl) : JE X EX (.Call (.Name "isinstance" p2) [e, .Name nC p1] [] pos) (sOp (gIsi C) [a]) :=
  ⟨(pe_callB call_isi g1 m1 boot_isinstance (pa_cons he.p (pa_cons (pe_bltn (v := .ty C) g2 m2 b2 rfl hn hdb) pa_nil) hs) (he := hs)).by fun σ H Q ⟨F, ρ, W, R, h⟩ => op_args (os_isi hC) R h⟩
def gMax : List D → Option (D × Bool)
  | [.int a, .int b] => some (.int (if b > a then b else a), false)
  | [.lst ds] => match intsOf ds with
    | some (n :: ns) => some (.int (maxI (n :: ns)), false)
    | _ => none
  | _ => none
def gMin : List D → Option (D × Bool)
  | [.int a, .int b] => some (.int (if b < a then b else a), false)
  | [.lst ds] => match intsOf ds with
    | some (n :: ns) => some (.int (minI (n :: ns)), false)
    | _ => none
  | _ => none
def rMax2 : List V → Hp → VK → Prop := fun xs H Q => ∃ i j, xs = [.int i, .int j] ∧ Q (.int (if j > i then j else i)) H
def rMin2 : List V → Hp → VK → Prop := fun xs H Q => ∃ i j, xs = [.int i, .int j] ∧ Q (.int (if j < i then j else i)) H
theorem call_maxA {X : Cx} (hc : X.calm = true) : CallR X (.builtin "max") (fun xs H Q => rMax2 xs H Q ∨ rMaxL X.K xs H Q) := (call_max2 hc).or (call_maxL hc)
theorem call_minA {X : Cx} (hc : X.calm = true) : CallR X (.builtin "min") (fun xs H Q => rMin2 xs H Q ∨ rMinL X.K xs H Q) := (call_min2 hc).or (call_minL hc)
theorem bes_unique {M N : Int} {l : List Int} (h1 : M ∈ l) (h2 : ∀ a ∈ l, a ≤ M) (h3 : N ∈ l) (h4 : ∀ a ∈ l, a ≤ N) : M = N := by have := h2 N h3; have := h4 M h1; omega
theorem les_unique {M N : Int} {l : List Int} (h1 : M ∈ l) (h2 : ∀ a ∈ l, M ≤ a) (h3 : N ∈ l) (h4 : ∀ a ∈ l, N ≤ a) : M = N := by have := h2 N h3; have := h4 M h1; omega
theorem os_max {K : PySem.W.Frag} : OpS K (fun xs H Q => rMax2 xs H Q ∨ rMaxL K xs H Q) gMax := by
  intro vs ds H L Q d nw hm r e q
  unfold gMax at e
  split at e
  · obtain ⟨x, y, rfl, ra, rb⟩ := repBs2 r
    cases e
    exact .inl ⟨_, _, by rw [repB_int ra, repB_int rb], q _ H (Same.refl _) rfl⟩
  · rename_i es
    obtain ⟨x, rfl, ⟨p, xs, rfl, h1, h2⟩⟩ := repBs1 r
    split at e
    · rename_i n ns en
      cases e
      rw [intsOf_eq en] at h2
      rw [ints_repDs h2] at h1
      refine .inr ⟨p, n :: ns, rfl, .inl (.inl h1), by simp, fun M m1 m2 => ?_⟩
      obtain ⟨z1, z2⟩ := maxI_is (l := n :: ns) (by simp)
      rw [bes_unique m1 m2 z1 z2]
      exact q _ H (Same.refl _) rfl
    · cases e
  · cases e
theorem os_min {K : PySem.W.Frag} : OpS K (fun xs H Q => rMin2 xs H Q ∨ rMinL K xs H Q) gMin := by
  intro vs ds H L Q d nw hm r e q
  unfold gMin at e
  split at e
  · obtain ⟨x, y, rfl, ra, rb⟩ := repBs2 r
    cases e
    exact .inl ⟨_, _, by rw [repB_int ra, repB_int rb], q _ H (Same.refl _) rfl⟩
  · rename_i es
    obtain ⟨x, rfl, ⟨p, xs, rfl, h1, h2⟩⟩ := repBs1 r
    split at e
    · rename_i n ns en
      cases e
      rw [intsOf_eq en] at h2
      rw [ints_repDs h2] at h1
      refine .inr ⟨p, n :: ns, rfl, .inl (.inl h1), by simp, fun M m1 m2 => ?_⟩
      obtain ⟨z1, z2⟩ := minI_is (l := n :: ns) (by simp)
      rw [les_unique m1 m2 z1 z2]
      exact q _ H (Same.refl _) rfl
    · cases e
  · cases e
def gSorted : List D → Option (D × Bool)
  | [.lst ds] => match intsOf ds with
    | some ns => if decide (ns.length < 64) = true then some (.lst ((isort ns).map D.int), true) else none
    | none => none
  | [.tup ds] => match intsOf ds with
    | some ns => if decide (ns.length < 64) = true then some (.lst ((isort ns).map D.int), true) else none
    | none => none
  | _ => none
theorem call_sortedA {X : Cx} : CallR X (.builtin "sorted") (fun xs H Q => rSortI X.K xs H Q ∨ rSortU X.K xs H Q) := call_sortedI.or call_sortedU
theorem os_sorted {K : PySem.W.Frag} : OpS K (fun xs H Q => rSortI K xs H Q ∨ rSortU K xs H Q) gSorted := by
  intro vs ds H L Q d nw hm r e q
  unfold gSorted at e
  have fin : ∀ (ns : List Int) l (ms : List Int), H l = none → List.Perm ms ns → ms.Pairwise (· ≤ ·) → (∀ v H', Same H H' → PostD K H H' L (.lst ((isort ns).map D.int)) true v → Q v H') → Q (.ref l) (upd H l (.lst (ms.map V.int))) := fun ns l ms hl hp hs q => by
    have : ms = isort ns := sorted_unique hs (isort_sorted ns) (hp.trans (isort_perm ns).symm)
    subst this
    exact q _ _ (Same.upd hl) (new_lst (repDs_ints _) hl)
  split at e
  · rename_i es
    obtain ⟨x, rfl, ⟨p, xs, rfl, h1, h2⟩⟩ := repBs1 r
    cases en : intsOf es with
    | none => rw [en] at e; cases e
    | some ns =>
      rw [en] at e
      dsimp only at e
      split at e
      · rename_i hl
        cases e
        rw [intsOf_eq en] at h2
        rw [ints_repDs h2] at h1
        exact .inl ⟨p, ns, rfl, .inl (.inl h1), of_decide_eq_true hl, fun l ms a b c => fin ns l ms a b c q⟩
      · cases e
  · rename_i es
    obtain ⟨x, rfl, ⟨p, xs, rfl, h1, h2⟩⟩ := repBs1 r
    cases en : intsOf es with
    | none => rw [en] at e; cases e
    | some ns =>
      rw [en] at e
      dsimp only at e
      split at e
      · rename_i hl
        cases e
        rw [intsOf_eq en] at h2
        rw [ints_repDs h2] at h1
        exact .inr ⟨p, ns, rfl, .inl (.inl (hid_some h1).2), of_decide_eq_true hl, fun l ms a b c => fin ns l ms a b c q⟩
      · cases e
  · cases e
def rngL (lo : Int) (n : Nat) : List D := (List.range n).map fun k => .int (lo + (k : Nat))
def rngV (lo : Int) (n : Nat) : List V := (List.range n).map fun k => .int (lo + (k : Nat))
theorem rngL_rep {K : PySem.W.Frag} {H : Hp} (lo : Int) (n : Nat) : RepDs K H (rngL lo n) (rngV lo n) := by
  have := repDs_ints (K := K) (H := H) ((List.range n).map fun k => lo + ((k : Nat) : Int))
  rw [List.map_map, List.map_map] at this
  exact this
def rngOk (lo hi : Int) : Bool := decide (-1000000000 ≤ lo ∧ lo ≤ 1000000000 ∧ -1000000000 ≤ hi ∧ hi ≤ 1000000000 ∧ (hi - lo).toNat ≤ 1000)
def gList : List D → Option (D × Bool)
  | [.lst ds] => some (.lst ds, true)
  | [.tup ds] => some (.lst ds, true)
  | [.ktup ds] => some (.lst ds, true)
  | [.rng lo hi] => if rngOk lo hi = true then some (.lst (rngL lo (hi - lo).toNat), true) else none
  | _ => none
def gTuple : List D → Option (D × Bool)
  | [.lst ds] => some (.tup ds, false)
  | [.tup ds] => some (.tup ds, false)
  | [.rng lo hi] => if rngOk lo hi = true then some (.tup (rngL lo (hi - lo).toNat), false) else none
  | _ => none
def rListOf (K : PySem.W.Frag) : List V → Hp → VK → Prop := fun xs H Q => ∃ p ys, xs = [.ref p] ∧ (SqL K H p ys ∨ SqT K H p ys) ∧ ∀ l, H l = none → Q (.ref l) (upd H l (.lst ys))
def rTupleOf (K : PySem.W.Frag) : List V → Hp → VK → Prop := fun xs H Q => ∃ p ys, xs = [.ref p] ∧ ((SqL K H p ys ∧ ∀ l, H l = none → Q (.ref l) (upd H l (.tup ys))) ∨ (SqT K H p ys ∧ Q (.ref p) H))
theorem call_listA {X : Cx} (hc : X.calm = true) : CallR X (.type "list") (fun xs H Q => rListOf X.K xs H Q ∨ rListR xs H Q) := call_list_of.or (call_listR hc)
theorem call_tupleA {X : Cx} (hc : X.calm = true) : CallR X (.type "tuple") (fun xs H Q => rTupleOf X.K xs H Q ∨ rTupR xs H Q) := call_tuple_of.or (call_tupR hc)
theorem os_list {K : PySem.W.Frag} : OpS K (fun xs H Q => rListOf K xs H Q ∨ rListR xs H Q) gList := by
  intro vs ds H L Q d nw hm r e q
  unfold gList at e
  split at e
  · obtain ⟨x, rfl, ⟨p, xs, rfl, h1, h2⟩⟩ := repBs1 r
    cases e
    exact .inl ⟨p, xs, rfl, .inl (.inl (.inl h1)), fun l hl => q _ _ (Same.upd hl) (new_lst h2 hl)⟩
  · obtain ⟨x, rfl, ⟨p, xs, rfl, h1, h2⟩⟩ := repBs1 r
    cases e
    exact .inl ⟨p, xs, rfl, .inr (.inl (.inl (hid_some h1).2)), fun l hl => q _ _ (Same.upd hl) (new_lst h2 hl)⟩
  · obtain ⟨x, rfl, ⟨p, xs, rfl, h1, h2⟩⟩ := repBs1 r
    cases e
    exact .inl ⟨p, xs, rfl, .inr (ktup_sq h1), fun l hl => q _ _ (Same.upd hl) (new_lst h2 hl)⟩
  · rename_i lo hi
    obtain ⟨x, rfl, ⟨p, rfl, h1⟩⟩ := repBs1 r
    split at e
    · rename_i hk
      cases e
      have hk := of_decide_eq_true hk
      exact .inr ⟨p, lo, hi, rfl, (hid_some h1).2, by omega, by omega, by omega, by omega, hk.2.2.2.2, fun l hl => q _ _ (Same.upd hl) (new_lst (rngL_rep _ _) hl)⟩
    · cases e
  · cases e
theorem os_tuple {K : PySem.W.Frag} : OpS K (fun xs H Q => rTupleOf K xs H Q ∨ rTupR xs H Q) gTuple := by
  intro vs ds H L Q d nw hm r e q
  unfold gTuple at e
  split at e
  · obtain ⟨x, rfl, ⟨p, xs, rfl, h1, h2⟩⟩ := repBs1 r
    cases e
    exact .inl ⟨p, xs, rfl, .inl ⟨.inl (.inl h1), fun l hl => q _ _ (Same.upd hl) (new_tup hm h2 (Same.upd hl) upd_same)⟩⟩
  · obtain ⟨x, rfl, ⟨p, xs, rfl, h1, h2⟩⟩ := repBs1 r
    cases e
    exact .inl ⟨p, xs, rfl, .inr ⟨.inl (.inl (hid_some h1).2), q _ _ (Same.refl _) ⟨p, xs, rfl, h1, h2⟩⟩⟩
  · rename_i lo hi
    obtain ⟨x, rfl, ⟨p, rfl, h1⟩⟩ := repBs1 r
    split at e
    · rename_i hk
      cases e
      have hk := of_decide_eq_true hk
      exact .inr ⟨p, lo, hi, rfl, (hid_some h1).2, by omega, by omega, by omega, by omega, hk.2.2.2.2, fun l hl => q _ _ (Same.upd hl) (new_tup hm (rngL_rep _ _) (Same.upd hl) upd_same)⟩
    · cases e
  · cases e
def gSet : List D → Option (D × Bool)
  | [.lst ds] => match intsOf ds with
    | some ns => if decide (ns.length ≤ 1000) = true then some (.set (dd ns), false) else none
    | none => none
  | [.tup ds] => match intsOf ds with
    | some ns => if decide (ns.length ≤ 1000) = true then some (.set (dd ns), false) else none
    | none => none
  | _ => none
theorem call_setA {X : Cx} (hc : X.calm = true) : CallR X (.type "set") (fun xs H Q => rSetLm X.K xs H Q ∨ rSetTm X.K xs H Q) := (call_setLm hc).or (call_setTm hc)
theorem new_scalar {K : PySem.W.Frag} {H : Hp} {L : List Addr} {p : Addr} {o : HO} (hm : ∀ p ∈ L, MutO (H p)) (hp : H p = none) : hid L (upd H p o) p = some o := by
  rw [hid_ne (fun z => by have := hm p z; rw [hp] at this; exact this)]
  exact upd_same
theorem os_set {K : PySem.W.Frag} : OpS K (fun xs H Q => rSetLm K xs H Q ∨ rSetTm K xs H Q) gSet := by
  intro vs ds H L Q d nw hm r e q
  unfold gSet at e
  have fin : ∀ (ns : List Int) l (S : Int → Bool), H l = none → (∀ x, S x = true ↔ x ∈ ns) → (∀ v H', Same H H' → PostD K H H' L (.set (dd ns)) false v → Q v H') → Q (.ref l) (upd H l (.set S (St2.kinds ns ns.length).length)) := fun ns l S hl hS q => by
    rw [kinds_dd]
    exact q _ _ (Same.upd hl) ⟨l, S, rfl, new_scalar (K := K) hm hl, fun x => (hS x).trans (dd_mem ns x).symm⟩
  split at e
  · rename_i es
    obtain ⟨x, rfl, ⟨p, xs, rfl, h1, h2⟩⟩ := repBs1 r
    cases en : intsOf es with
    | none => rw [en] at e; cases e
    | some ns =>
      rw [en] at e
      dsimp only at e
      split at e
      · rename_i hl
        cases e
        rw [intsOf_eq en] at h2
        rw [ints_repDs h2] at h1
        exact .inl ⟨p, ns, rfl, .inl (.inl h1), of_decide_eq_true hl, fun l S a b => fin ns l S a b q⟩
      · cases e
  · rename_i es
    obtain ⟨x, rfl, ⟨p, xs, rfl, h1, h2⟩⟩ := repBs1 r
    cases en : intsOf es with
    | none => rw [en] at e; cases e
    | some ns =>
      rw [en] at e
      dsimp only at e
      split at e
      · rename_i hl
        cases e
        rw [intsOf_eq en] at h2
        rw [ints_repDs h2] at h1
        exact .inr ⟨p, ns, rfl, .inl (.inl (hid_some h1).2), of_decide_eq_true hl, fun l S a b => fin ns l S a b q⟩
      · cases e
  · cases e
def gInt : List D → Option (D × Bool)
  | [.int i] => some (.int i, false)
  | [.bl b] => some (.int (if b then 1 else 0), false)
  | _ => none
def rIntA : List V → Hp → VK → Prop := fun xs H Q => (∃ i, xs = [.int i] ∧ Q (.int i) H) ∨ ∃ k, xs = [.bl k] ∧ Q (.int (if k then 1 else 0)) H
theorem call_intA {X : Cx} : CallR X (.type "int") rIntA := call_int1
theorem os_int {K : PySem.W.Frag} : OpS K rIntA gInt := by
  intro vs ds H L Q d nw hm r e q
  unfold gInt at e
  split at e
  · obtain ⟨x, rfl, ra⟩ := repBs1 r
    cases e
    exact .inl ⟨_, by rw [repB_int ra], q _ H (Same.refl _) rfl⟩
  · obtain ⟨x, rfl, ra⟩ := repBs1 r
    cases e
    exact .inr ⟨_, by rw [repB_bl ra], q _ H (Same.refl _) rfl⟩
  · cases e
def gAbs : List D → Option (D × Bool)
  | [.int i] => some (.int (if i < 0 then -i else i), false)
  | _ => none
def rAbsA : List V → Hp → VK → Prop := fun xs H Q => ∃ i, xs = [.int i] ∧ Q (.int (if i < 0 then -i else i)) H
theorem call_absA {X : Cx} : CallR X (.builtin "abs") rAbsA := call_abs
theorem os_abs {K : PySem.W.Frag} : OpS K rAbsA gAbs := by
  intro vs ds H L Q d nw hm r e q
  unfold gAbs at e
  split at e
  · obtain ⟨x, rfl, ra⟩ := repBs1 r
    cases e
    exact ⟨_, by rw [repB_int ra], q _ H (Same.refl _) rfl⟩
  · cases e
def gRange : List D → Option (D × Bool)
  | [.int j] => some (.rng 0 j, false)
  | [.int i, .int j] => some (.rng i j, false)
  | _ => none
def rRngA : List V → Hp → VK → Prop := fun xs H Q => (∃ j : Int, xs = [V.int j] ∧ ∀ l, H l = none → Q (.ref l) (upd H l (.rng 0 j))) ∨ (∃ i j : Int, xs = [V.int i, V.int j] ∧ ∀ l, H l = none → Q (.ref l) (upd H l (.rng i j)))
theorem call_rangeA {X : Cx} : CallR X (.type "range") rRngA := call_rng
theorem os_range {K : PySem.W.Frag} : OpS K rRngA gRange := by
  intro vs ds H L Q d nw hm r e q
  unfold gRange at e
  split at e
  · obtain ⟨x, rfl, ra⟩ := repBs1 r
    cases e
    exact .inl ⟨_, by rw [repB_int ra], fun l hl => q _ _ (Same.upd hl) ⟨l, rfl, new_scalar (K := K) hm hl⟩⟩
  · obtain ⟨x, y, rfl, ra, rb⟩ := repBs2 r
    cases e
    exact .inr ⟨_, _, by rw [repB_int ra, repB_int rb], fun l hl => q _ _ (Same.upd hl) ⟨l, rfl, new_scalar (K := K) hm hl⟩⟩
  · cases e
end L2
namespace L2
open PySem PySem.Spec PyProof.Rows
def keyOf : D → Option Key
  | .int i => some (.inl i)
  | .str x => some (.inr x)
  | _ => none
def keysOf : List D → Option (List Key)
  | [] => some []
  | d :: ds => match keyOf d, keysOf ds with
    | some k, some l => some (k :: l)
    | _, _ => none
theorem keyOf_rep {K : PySem.W.Frag} {H : Hp} {d : D} {v : V} {k : Key} (e : keyOf d = some k) (r : RepD K H d v) : v = kV k := by
  cases d <;> first | (unfold keyOf at e; cases e; done) | (unfold keyOf at e; cases e; exact r)
theorem keysOf_rep {K : PySem.W.Frag} {H : Hp} : ∀ {ds : List D} {xs : List V} {k : List Key}, keysOf ds = some k → RepDs K H ds xs → xs = k.map kV
  | [], [], k, e, _ => by unfold keysOf at e; cases e; rfl
  | d :: ds, x :: xs, k, e, h => by
    unfold keysOf at e
    cases e1 : keyOf d with
    | none => rw [e1] at e; cases e
    | some k1 =>
      cases e2 : keysOf ds with
      | none => rw [e1, e2] at e; cases e
      | some l =>
        rw [e1, e2] at e
        cases e
        rw [keyOf_rep e1 h.1, keysOf_rep e2 h.2]
        rfl
  | [], _ :: _, _, _, h => h.elim
  | _ :: _, [], _, _, h => h.elim
section
variable {κ : Type} [DecidableEq κ]
def lookD : List κ → List D → κ → Option D
  | k :: ks, d :: ds, x => if k = x then some d else lookD ks ds x
  | _, _, _ => none
theorem lookD_rep {K : PySem.W.Frag} {H : Hp} : ∀ {ks : List κ} {ds : List D} {xs : List V} {x : κ}, ks.length = xs.length → RepDs K H ds xs →
    (∀ d, lookD ks ds x = some d → ∃ v, valV (ks.zip xs) x = some v ∧ RepD K H d v) ∧ (lookD ks ds x = none → valV (ks.zip xs) x = none)
  | [], [], [], _, _, _ => ⟨fun d h => (by unfold lookD at h; cases h), fun _ => rfl⟩
  | k :: ks, d :: ds, y :: xs, x, hl, h => by
    obtain ⟨i1, i2⟩ := lookD_rep (x := x) (Nat.succ.inj hl) h.2
    have hl : ks.length = xs.length := Nat.succ.inj hl
    rw [List.zip_cons_cons]
    by_cases e : k = x
    · rw [valV_pos (p := (k, y)) e]
      refine ⟨fun d' hd => ?_, fun hd => ?_⟩
      · unfold lookD at hd; rw [if_pos e] at hd; cases hd; exact ⟨y, rfl, h.1⟩
      · unfold lookD at hd; rw [if_pos e] at hd; cases hd
    · rw [valV_neg (p := (k, y)) e]
      refine ⟨fun d' hd => ?_, fun hd => ?_⟩
      · unfold lookD at hd; rw [if_neg e] at hd; exact i1 d' hd
      · unfold lookD at hd; rw [if_neg e] at hd; exact i2 hd
  | [], _ :: _, [], _, _, h => h.elim
  | [], [], _ :: _, _, _, h => h.elim
  | [], _ :: _, _ :: _, _, hl, _ => by simp at hl
  | _ :: _, [], [], _, hl, _ => by simp at hl
  | _ :: _, [], _ :: _, _, _, h => h.elim
  | _ :: _, _ :: _, [], _, _, h => h.elim
end
def anyEq (ds : List D) (d : D) : Bool := ds.any fun e => eqD e d
def gInD : D → D → Option Bool
  | d, .lst ds => if (eqable 9 d && ds.all (eqable 9)) = true then some (anyEq ds d) else none
  | d, .tup ds => if (eqable 9 d && ds.all (eqable 9)) = true then some (anyEq ds d) else none
  | d, .ktup ds => if (eqable 9 d && ds.all (eqable 9)) = true then some (anyEq ds d) else none
  | .int i, .rng lo hi => some (decide (lo ≤ i ∧ i < hi))
  | d, .dK ks vs => match keyOf d with
    | some k => some (lookD ks vs k).isSome
    | none => none
  | .tup ds, .dT ks vs => match keysOf ds with
    | some k => some (lookD ks vs k).isSome
    | none => none
  | _, _ => none
def gIn : List D → Option (D × Bool)
  | [d, c] => match gInD d c with
    | some b => some (.bl b, false)
    | none => none
  | _ => none
def rInS (K : PySem.W.Frag) (neg : Bool) : R2 := fun x y H Q => ∃ (d : D) (p : Addr) (xs : List V) (ds : List D), y = .ref p ∧ (SqL K H p xs ∨ SqT K H p xs) ∧ RepDs K H ds xs ∧ ds.all (eqable 9) = true ∧ RepD K H d x ∧ eqable 9 d = true ∧ Q (.bl (if neg then !anyEq ds d else anyEq ds d)) H
def rInDc (neg : Bool) : R2 := fun y x H Q => ∃ a o, x = .ref a ∧ DGet H a y o ∧ Q (.bl (if neg then !o.isSome else o.isSome)) H
def rInA (K : PySem.W.Frag) (neg : Bool) : R2 := fun x y H Q => rInS K neg x y H Q ∨ rInR neg x y H Q ∨ rInDc neg x y H Q
section
variable {X : Cx}
open Classical in
theorem in_items {pins : List (Addr × Obj)} {σ : St} {H : Hp} {s : Shared} (I : Inv X pins σ H s) (hu : X.A.units + 10 < cLine) {d : D} {ds : List D} {x : V} {u : Value} {xs : List V} {its : List Value} (rd : RepDs X.K H ds xs) (rv : Vals xs its) (hds : ds.all (eqable 9) = true) (r : RepD X.K H d x) (hd : eqable 9 d = true) (ru : RelV x u) :
    ∃ e : Value → Bool, (∀ y, y ∈ its.toArray → SeqAt.EqAt X.A.in1 s y u (e y)) ∧ its.toArray.any e = anyEq ds d := by
  refine ⟨fun y => decide (∃ (j : Nat) (d' : D), ds[j]? = some d' ∧ its[j]? = some y ∧ eqD d' d = true), fun y hy => ?_, ?_⟩
  · have hy : y ∈ its := by simpa using hy
    obtain ⟨j, hj, rfl⟩ := List.mem_iff_getElem.mp hy
    obtain ⟨v, ev, rv1⟩ := vals_get rv hj
    obtain ⟨d', e1, q1⟩ := rd.get' ev
    have hd' := List.all_eq_true.mp hds _ (List.mem_of_getElem? e1)
    have z := eqAt I 9 (A := X.A.in1) (by show X.A.units + 1 + 9 < cLine; omega) hd' hd q1 r rv1 ru
    have e : decide (∃ (j' : Nat) (d' : D), ds[j']? = some d' ∧ its[j']? = some its[j] ∧ eqD d' d = true) = eqD d' d := by
      cases hq : eqD d' d with
      | true => exact decide_eq_true ⟨j, d', e1, List.getElem?_eq_getElem hj, hq⟩
      | false =>
        refine decide_eq_false fun hZ => ?_
        obtain ⟨j2, d2, g1, g2, g3⟩ := hZ
        obtain ⟨hj2, g2'⟩ := List.getElem?_eq_some_iff.mp g2
        obtain ⟨v2, ev2, rv2⟩ := vals_get rv hj2
        rw [g2'] at rv2
        have : v2 = v := rv2.inj rv1
        subst this
        obtain ⟨d3, e3, q3⟩ := rd.get' ev2
        rw [g1] at e3
        cases e3
        have hn := rep_same I 9 9 (List.all_eq_true.mp hds _ (List.mem_of_getElem? g1)) hd' q3 q1 rv1
        unfold eqD at g3 hq
        rw [hn, hq] at g3
        cases g3
    dsimp only
    rw [e]
    exact z
  · rw [Bool.eq_iff_iff]
    unfold anyEq
    simp only [List.any_toArray, List.any_eq_true]
    constructor
    · rintro ⟨y, hy, hq⟩
      obtain ⟨j, d', g1, g2, g3⟩ := of_decide_eq_true hq
      exact ⟨d', List.mem_of_getElem? g1, g3⟩
    · rintro ⟨d', hd', hq⟩
      obtain ⟨j, hj, rfl⟩ := List.mem_iff_getElem.mp hd'
      have hji : j < its.length := by rw [← rv.length, ← rd.len]; exact hj
      exact ⟨its[j], List.getElem_mem hji, decide_eq_true ⟨j, _, List.getElem?_eq_getElem hj, List.getElem?_eq_getElem hji, hq⟩⟩
theorem op_inS (hu : X.A.units + 10 < cLine) : OpR X (compareOp .In) (rInS X.K false) := by
  intro pins s σ H x y v u Q I rx ry h
  obtain ⟨d, p, xs, ds, rfl, hq, rd, hds, r, hd, q⟩ := h
  cases ry
  rcases hq with hq | hq
  · obtain ⟨its, rv, pl, _⟩ := I.list hq
    obtain ⟨e, he, ee⟩ := in_items I hu rd rv hds r hd rx
    refine SeqAt.in_listAt e pl.isList he ⟨.bl _, H, I, rfl, ?_⟩
    rw [ee]
    exact q
  · obtain ⟨its, rv, pl, _⟩ := I.tuple hq
    obtain ⟨e, he, ee⟩ := in_items I hu rd rv hds r hd rx
    refine SeqAt.in_tupleAt e (show s.heap.IsTuple p its.toArray from pl) he ⟨.bl _, H, I, rfl, ?_⟩
    rw [ee]
    exact q
theorem op_inDc (hu : X.A.units + 1 < cLine) : OpR X (compareOp .In) (rInDc false) := by
  intro pins s σ H y x u v Q I ry rx h
  obtain ⟨a, o, rfl, g, q⟩ := h
  cases rx
  exact d_in hu I g ry fun s3 I3 => ⟨.bl o.isSome, H, I3, rfl, q⟩
theorem op_inA (hu : X.A.units + 10 < cLine) : OpR X (compareOp .In) (rInA X.K false) := (op_inS hu).or (op_inR.or (op_inDc (by omega)))
end
section
variable {K : PySem.W.Frag}
theorem dget_k {H Hh : Hp} {p : Addr} {ks : List Key} {ds : List D} {xs : List V} {k : Key} {y : V} (h1 : H p = some (.dK (ks.zip xs))) (hl : ks.length = xs.length) (h2 : RepDs K Hh ds xs) (hy : y = kV k) :
    ∃ o, DGet H p y o ∧ o.isSome = (lookD ks ds k).isSome ∧ ∀ d, lookD ks ds k = some d → ∃ v, o = some v ∧ RepD K Hh d v := by
  subst hy
  obtain ⟨i1, i2⟩ := lookD_rep (x := k) hl h2
  refine ⟨_, DGet.k (k := k) h1, ?_, fun d hd => i1 d hd⟩
  cases e : lookD ks ds k with
  | none => rw [i2 e]; rfl
  | some d => obtain ⟨v, e1, _⟩ := i1 d e; rw [e1]; rfl
theorem dget_t {H Hh : Hp} {p b : Addr} {ks : List (List Key)} {ds : List D} {xs : List V} {k : List Key} (h1 : H p = some (.dT (ks.zip xs))) (hl : ks.length = xs.length) (h2 : RepDs K Hh ds xs) (hb : H b = some (.tup (k.map kV))) :
    ∃ o, DGet H p (.ref b) o ∧ o.isSome = (lookD ks ds k).isSome ∧ ∀ d, lookD ks ds k = some d → ∃ v, o = some v ∧ RepD K Hh d v := by
  obtain ⟨i1, i2⟩ := lookD_rep (x := k) hl h2
  refine ⟨_, DGet.t (k := k) h1 hb, ?_, fun d hd => i1 d hd⟩
  cases e : lookD ks ds k with
  | none => rw [i2 e]; rfl
  | some d => obtain ⟨v, e1, _⟩ := i1 d e; rw [e1]; rfl
theorem in_of {H : Hp} {L : List Addr} {d c : D} {x y : V} {b neg : Bool} {Q : VK} (ra : RepB K H (hid L H) d x) (rb : RepB K H (hid L H) c y) (e : gInD d c = some b) (q : Q (.bl (if neg then !b else b)) H) : rInA K neg x y H Q := by
  have seq : ∀ (p : Addr) (xs : List V) (ds : List D), y = .ref p → (SqL K H p xs ∨ SqT K H p xs) → RepDs K (hid L H) ds xs → (if (eqable 9 d && ds.all (eqable 9)) = true then some (anyEq ds d) else none) = some b → rInA K neg x y H Q := fun p xs ds hy hs hr e => by
    split at e
    · rename_i hc
      have hc := (Bool.and_eq_true _ _).mp hc
      cases e
      exact .inl ⟨d, p, xs, ds, hy, hs, hid_sub.repDs hr, hc.2, ra.d hid_sub, hc.1, q⟩
    · cases e
  unfold gInD at e
  split at e
  · obtain ⟨p, xs, rfl, h1, h2⟩ := rb
    exact seq p xs _ rfl (.inl (.inl (.inl h1))) h2 e
  · obtain ⟨p, xs, rfl, h1, h2⟩ := rb
    exact seq p xs _ rfl (.inr (.inl (.inl (hid_some h1).2))) h2 e
  · obtain ⟨p, xs, rfl, h1, h2⟩ := rb
    exact seq p xs _ rfl (.inr (ktup_sq h1)) h2 e
  · obtain ⟨p, rfl, h1⟩ := rb
    cases e
    exact .inr (.inl ⟨p, _, _, _, ra, rfl, (hid_some h1).2, q⟩)
  · obtain ⟨p, xs, rfl, h1, h2, h3⟩ := rb
    split at e
    · rename_i k ek
      cases e
      obtain ⟨o, g1, g2, _⟩ := dget_k (k := k) h1 h2 h3 (keyOf_rep ek (ra.d hid_sub))
      exact .inr (.inr ⟨p, o, rfl, g1, by rw [g2]; exact q⟩)
    · cases e
  · obtain ⟨p, xs, rfl, h1, h2, h3⟩ := rb
    obtain ⟨b', ys, rfl, h4, h5⟩ := ra
    split at e
    · rename_i k ek
      cases e
      have h4 := (hid_some h4).2
      rw [keysOf_rep ek h5] at h4
      obtain ⟨o, g1, g2, _⟩ := dget_t (k := k) h1 h2 h3 h4
      exact .inr (.inr ⟨p, o, rfl, g1, by rw [g2]; exact q⟩)
    · cases e
  · cases e
theorem os_in : OpS K (r2 (rInA K false)) gIn := by
  intro vs ds H L Q d nw hm r e q
  unfold gIn at e
  split at e
  · obtain ⟨x, y, rfl, ra, rb⟩ := repBs2 r
    split at e
    · rename_i b eb
      cases e
      exact in_of ra rb eb (q _ H (Same.refl _) rfl)
    · cases e
  · cases e
end
end L2
namespace L2
open PySem PySem.Spec PyProof.Rows
def sMeth (j : Nat) (u : D → List D → Option (D × D)) (fs : List SE) : SE := fun ρ => match ρ[j]? with
  | some (some (_, .fz)) => none
  | some (some (.lst _, _)) => match evA (fs.map Arg.ex) ρ with
    | some (.ok ds, ρ1) => match ρ1[j]? with
      | some (some (c, .ow)) => match u c ds with
        | some (c', d) => some (.ok d false, ρ1.set j (some (c', .ow)))
        | none => none
      | some (some (c, .io)) => match u c ds with
        | some (c', d) => some (.ok d false, ρ1.set j (some (c', .io)))
        | none => none
      | _ => none
    | some (.ex C, ρ1) => some (.ex C, ρ1)
    | none => none
  | _ => none
def MeS (K : PySem.W.Frag) (r : V → List V → Hp → VK → Prop) (u : D → List D → Option (D × D)) : Prop :=
  ∀ (H : Hp) (L : List Addr) (p : Addr) (c : D) (ds : List D) (vs : List V) (c' d : D) (Q : VK), OwnAt K H (hid L H) p c → p ∈ L → RepDs K (hid L H) ds vs → u c ds = some (c', d) →
    (∀ v o, OwnAt K (upd H p o) (hid L H) p c' → RepD K (hid L H) d v → Q v (upd H p o)) → r (.ref p) vs H Q
section
variable {K : PySem.W.Frag} {EX : EXT} {σ : St} {H : Hp} {Q : VK}
theorem meth_tr {j : Nat} {u : D → List D → Option (D × D)} {fs : List SE} {r : V → List V → Hp → VK → Prop} (hs : MeS K r u) (hw : tV K EX (sMeth j u fs) σ H Q) : tBM K "list" r (tVar j) (tAs K EX (fs.map Arg.ex)) σ H Q := by
  obtain ⟨F, ρ, W, R, h⟩ := hw
  unfold sMeth at h
  revert h
  cases e0 : ρ[j]? with
  | none => exact fun h => h.elim
  | some z =>
    cases z with
    | none => exact fun h => h.elim
    | some z =>
      obtain ⟨c0, m0⟩ := z
      have go : m0 ≠ .fz → ∀ es, c0 = .lst es → OkV K F EX σ H W (match evA (fs.map Arg.ex) ρ with
          | some (.ok ds, ρ1) => match ρ1[j]? with
            | some (some (c, .ow)) => match u c ds with
              | some (c', d) => some (.ok d false, ρ1.set j (some (c', .ow)))
              | none => none
            | some (some (c, .io)) => match u c ds with
              | some (c', d) => some (.ok d false, ρ1.set j (some (c', .io)))
              | none => none
            | _ => none
          | some (.ex C, ρ1) => some (.ex C, ρ1)
          | none => none) Q → tBM K "list" r (tVar j) (tAs K EX (fs.map Arg.ex)) σ H Q := fun hm0 es hc0 h => by
        subst hc0
        obtain ⟨v, hv, ok0⟩ := R.slot j _ _ e0
        have own0 : ∃ p, v = .ref p ∧ p ∈ W ∧ OwnAt K H (hid (W ++ F.Z) H) p (.lst es) := by
          cases m0 with
          | fz => exact absurd rfl hm0
          | ow => exact ok0
          | io => obtain ⟨p, a, b, c, _⟩ := ok0; exact ⟨p, a, b, c⟩
        obtain ⟨p, rfl, hp, xs, hx, _⟩ := own0
        refine ⟨_, hv, .inl ⟨rfl, xs, .inl (.inl hx)⟩, fs_ok fs R ?_⟩
        revert h
        cases evA (fs.map Arg.ex) ρ with
        | none => exact fun h => h
        | some q =>
          obtain ⟨q, ρ1⟩ := q
          cases q with
          | ex C => exact fun h => h
          | ok ds =>
            dsimp only
            intro h vs H1 W1 fr1 sub1 R1 reps
            have step : ∀ (c : D) (m : Md), m ≠ .fz → ρ1[j]? = some (some (c, m)) → ∀ c' d, u c ds = some (c', d) → OkV K F EX σ H W (some (.ok d false, ρ1.set j (some (c', m)))) Q → r (.ref p) vs H1 Q := fun c m hm e1 c' d eu h => by
              obtain ⟨v1, hv1, ok1⟩ := R1.slot j c m e1
              rw [hv] at hv1
              cases hv1
              have own1 : p ∈ W1 ∧ OwnAt K H1 (hid (W1 ++ F.Z) H1) p c := by
                cases m with
                | fz => exact absurd rfl hm
                | ow => obtain ⟨p', a, b, c⟩ := ok1; cases a; exact ⟨b, c⟩
                | io => obtain ⟨p', a, b, c, _⟩ := ok1; cases a; exact ⟨b, c⟩
              refine hs H1 (W1 ++ F.Z) p c ds vs c' d Q own1.2 (List.mem_append_left _ own1.1) reps eu fun v2 o new rd => ?_
              obtain ⟨R2, fr2⟩ := R1.write e1 hm hv new
              refine h v2 _ W1 (fr1.trans fr2 fun q hq => .inl (sub1 q hq)) sub1 ⟨?_, R2⟩
              rw [hid_upd (List.mem_append_left _ own1.1)]
              exact rd
            revert h
            split
            · rename_i c e1
              split
              · rename_i c' d eu
                exact fun h => step c .ow (by decide) e1 c' d eu h
              · exact fun h => h.elim
            · rename_i c e1
              split
              · rename_i c' d eu
                exact fun h => step c .io (by decide) e1 c' d eu h
              · exact fun h => h.elim
            · exact fun h => h.elim
      cases m0 with
      | fz => exact fun h => h.elim
      | ow => cases c0 <;> first | exact fun h => h.elim | exact fun h => go (by decide) _ rfl h
      | io => cases c0 <;> first | exact fun h => h.elim | exact fun h => go (by decide) _ rfl h
end
def uAppend : D → List D → Option (D × D)
  | .lst ds, [d] => if small ds.length = true then some (.lst (ds ++ [d]), .non) else none
  | _, _ => none
def uPop : D → List D → Option (D × D)
  | .lst ds, [] => match ds[ds.length - 1]? with
    | some d => some (.lst ds.dropLast, d)
    | none => none
  | _, _ => none
def uPopAt : D → List D → Option (D × D)
  | .lst ds, [.int i] => if (decide (-1000000000 ≤ i ∧ i ≤ 1000000000)) = true then match seqIndex? i ds.length with
      | some k => match ds[k]? with
        | some d => some (.lst (ds.eraseIdx k), d)
        | none => none
      | none => none
    else none
  | _, _ => none
section
variable {K : PySem.W.Frag}
theorem me_append : MeS K rAppend uAppend := by
  intro H L p c ds vs c' d Q hO hp hr e q
  unfold uAppend at e
  split at e
  · obtain ⟨xs, h1, h2⟩ := hO
    split at e
    · rename_i hs
      cases e
      match vs, hr with
      | [v], hr =>
        refine ⟨p, xs, v, rfl, rfl, h1, small_lt (by rw [← h2.len]; exact hs), q _ _ ⟨_, upd_same, h2.app ⟨hr.1, trivial⟩⟩ rfl⟩
    · cases e
  · cases e
end
section
variable {X : Cx} {EX : EXT} {e : Expr} {es : List Expr} {pos p1 apos cpos : Pos} {n : Str} {j : Nat}
theorem c_meth {name : Str} {id : String} {u : D → List D → Option (D × D)} {fs : List SE} {r : V → List V → Hp → VK → Prop} (hs : MeS X.K r u) (hm : MtM X id r) (slot : Slot "list" name id) (hty : typeOf (.builtin id) = pure (.type "method_descriptor")) (hN : X.N[j]? = some n) (hv : Vis X.env.scope n) (ha : JF X EX (e :: es) fs)
    (hbase : attributeBase (.Name n p1) name X.env (eval (.Name n p1) X.env) = eval (.Name n p1) X.env := by rfl)
    (hfew : ((backTo cpos (starEach (e :: es) X.env)).all (fun x => !x.1) && (backToKw cpos (keywordEach [] X.env)).all (fun x => x.1.isSome)
      && decide ((e :: es).length + ([] : List Keyword).length + (if ([] : List Keyword).isEmpty then 0 else 1) < 30)) = true := by rfl)
    (hline : (apos.endLine == cpos.line) = true := by rfl) (hst : starEach (e :: es) X.env = (false, eval e X.env) :: starEach es X.env := by rfl) (hplain : (backTo cpos (starEach es X.env)).any (·.1) = false := by rfl)
    (hd : (n == ("__debug__" : Str)) = false := by decide) (hcd : (n == ("__classdict__" : Str)) = false := by decide) : JE X EX (.Call (.Attribute (.Name n p1) name apos) (e :: es) [] cpos) (sMeth j u fs) :=
  ⟨(pe_bm PySem.F.plainAttrs_list slot hty hm (pe_var hN hv hd hcd) ha.p hbase hfew hline hst hplain).by fun σ H Q h => meth_tr hs h⟩
end
def sItem (u : D → D → D → Option D) (j : Nat) (f fi : SE) : SS := fun ρ => match f ρ with
  | some (.ok d _, ρ1) => match ρ1[j]? with
    | some (some _) => match fi ρ1 with
      | some (.ok i _, ρ2) => match ρ2[j]? with
        | some (some (c, .ow)) => match u c i d with
          | some c' => some (.nx, ρ2.set j (some (c', .ow)))
          | none => none
        | some (some (c, .io)) => match u c i d with
          | some c' => some (.nx, ρ2.set j (some (c', .io)))
          | none => none
        | _ => none
      | some (.ex C, ρ2) => some (.ex C, ρ2)
      | none => none
    | _ => none
  | some (.ex C, ρ1) => some (.ex C, ρ1)
  | none => none
def PuS (K : PySem.W.Frag) (r : V → V → V → Hp → (Hp → Prop) → Prop) (u : D → D → D → Option D) : Prop :=
  ∀ (H : Hp) (L : List Addr) (p : Addr) (c i d c' : D) (vi vd : V) (Q : Hp → Prop), OwnAt K H (hid L H) p c → p ∈ L → RepD K (hid L H) i vi → RepD K (hid L H) d vd → u c i d = some c' →
    (∀ o, OwnAt K (upd H p o) (hid L H) p c' → Q (upd H p o)) → r (.ref p) vi vd H Q
theorem item_tr {K : PySem.W.Frag} {EX : EXT} {u : D → D → D → Option D} {r : V → V → V → Hp → (Hp → Prop) → Prop} {j : Nat} {f fi : SE} {E : Ends} {σ : St} {H : Hp} (hs : PuS K r u) (h : tVS K EX (sItem u j f fi) E σ H) :
    tV K EX f σ H fun v H1 => ∃ o, σ[j]? = some (some o) ∧ tV K EX fi σ H1 fun i H2 => r o i v H2 fun H3 => E.nx σ H3 := by
  obtain ⟨F, ρ, W, R, h⟩ := h
  refine ⟨F, ρ, W, R, ?_⟩
  unfold sItem at h
  revert h
  cases f ρ with
  | none => exact fun h => h
  | some q =>
    obtain ⟨q, ρ1⟩ := q
    cases q with
    | ex C => exact fun h H2 W2 fr2 sub2 R2 => h σ H2 W2 fr2 (fun p hp => .inl (sub2 p hp)) R2
    | ok d nw =>
      dsimp only
      cases e1 : ρ1[j]? with
      | none => exact fun h => h.elim
      | some z =>
        cases z with
        | none => exact fun h => h.elim
        | some z =>
          obtain ⟨c1, m1⟩ := z
          intro h v H1 W1 fr1 sub1 P1
          obtain ⟨rd, R1⟩ := P1.plain
          obtain ⟨o, ho, _⟩ := R1.slot j _ _ e1
          refine ⟨o, ho, F, ρ1, W1, R1, ?_⟩
          revert h
          dsimp only
          cases fi ρ1 with
          | none => exact fun h => h
          | some q =>
            obtain ⟨q, ρ2⟩ := q
            cases q with
            | ex C => exact fun h H2 W2 fr2 sub2 R2 => h σ H2 W2 (fr1.trans fr2 fun p hp => .inl (sub1 p hp)) (fun p hp => .inl (sub1 p (sub2 p hp))) R2
            | ok i nw2 =>
              dsimp only
              intro h vi H2 W2 fr2 sub2 P2
              obtain ⟨ri, R2⟩ := P2.plain
              have step : ∀ (c : D) (m : Md), m ≠ .fz → ρ2[j]? = some (some (c, m)) → ∀ c', u c i d = some c' → OkS K F EX H W (some (.nx, ρ2.set j (some (c', m)))) E → r o vi v H2 fun H3 => E.nx σ H3 := fun c m hm e2 c' eu h => by
                obtain ⟨v1, hv1, ok1⟩ := R2.slot j c m e2
                rw [ho] at hv1
                cases hv1
                have own1 : ∃ p, o = .ref p ∧ p ∈ W2 ∧ OwnAt K H2 (hid (W2 ++ F.Z) H2) p c := by
                  cases m with
                  | fz => exact absurd rfl hm
                  | ow => exact ok1
                  | io => obtain ⟨p', a, b, c, _⟩ := ok1; exact ⟨p', a, b, c⟩
                obtain ⟨p, rfl, hp, hO⟩ := own1
                refine hs H2 (W2 ++ F.Z) p c i d c' vi v _ hO (List.mem_append_left _ hp) ri ((fr2.hid fun p hp => .inl (sub2 p hp)).repD rd) eu fun o' new => ?_
                obtain ⟨R3, fr3⟩ := R2.write e2 hm ho new
                exact h σ _ W2 ((fr1.trans fr2 fun p hp => .inl (sub1 p hp)).trans fr3 fun p hp => .inl (sub1 p (sub2 p hp))) (fun p hp => .inl (sub1 p (sub2 p hp))) R3
              revert h
              split
              · rename_i c e2
                split
                · rename_i c' eu
                  exact fun h => step c .ow (by decide) e2 c' eu h
                · exact fun h => h.elim
              · rename_i c e2
                split
                · rename_i c' eu
                  exact fun h => step c .io (by decide) e2 c' eu h
                · exact fun h => h.elim
              · exact fun h => h.elim
def uSetL : D → D → D → Option D
  | .lst ds, .int k, d => match ixN ds.length k with
    | some n => some (.lst (ds.set n d))
    | none => none
  | _, _, _ => none
theorem pu_list {K : PySem.W.Frag} : PuS K rSetL uSetL := by
  intro H L p c i d c' vi vd Q hO hp ri rd e q
  unfold uSetL at e
  split at e
  · rename_i ds k
    obtain ⟨xs, h1, h2⟩ := hO
    split at e
    · rename_i n en
      cases e
      exact ⟨p, xs, k, n, rfl, ri, h1, by rw [← h2.len]; exact en, q _ ⟨_, upd_same, h2.set rd n⟩⟩
    · cases e
  · cases e
section
variable {X : Cx} {EX : EXT} {e i : Expr} {pos pos' p1 : Pos} {n : Str} {j : Nat} {f fi : SE}
theorem s_item (he : JE X EX e f) (hi : JE X EX i fi) (hN : X.N[j]? = some n) (hv : Vis X.env.scope n) (hs : swapsWithSole [.Subscript (.Name n p1) i pos'] e pos.line X.env = pure false := by rfl) (hw : swappedStores [.Subscript (.Name n p1) i pos'] e X.env = pure none := by rfl)
    (h1 : (assignEach [.Subscript (.Name n p1) i pos'] X.env).map (·.2) = [assign (.Subscript (.Name n p1) i pos') X.env] := by rfl)
    (ha : ∀ v, assign (.Subscript (.Name n p1) i pos') X.env v = (do
      let ov ← holding [v] (eval (.Name n p1) X.env)
      let iv ← holding [v, ov] (eval i X.env)
      standAt pos'
      holding [v, ov, iv] (setItem ov iv v)
      release [v, ov, iv] []) := by intro _; rfl)
    (hd : (n == ("__debug__" : Str)) = false := by decide) (hcd : (n == ("__classdict__" : Str)) = false := by decide) : JS X EX (.Assign [.Subscript (.Name n p1) i pos'] e pos) (sItem uSetL j f fi) :=
  ⟨(ps_asg he.p (pg_sub (pe_var hN hv hd hcd) hi.p set_list ha) hs hw h1).by fun D σ H h => item_tr pu_list h⟩
end
section
variable {X : Cx} {EX : EXT} {e i : Expr} {pos pos' p1 : Pos} {n : Str} {j : Nat} {f fi : SE}
end
end L2
namespace L2
open PySem PySem.Spec PyProof.Rows ZpA
def seqOf : D → Option (List D)
  | .lst ds => some ds
  | .klst ds => some ds
  | .tup ds => some ds
  | .ktup ds => some ds
  | _ => none
def ItsA : Kd → PySem.W.Frag → Addr → L2.It
  | .L => Itl
  | .T => Itt
theorem SqA.same {c : Kd} {K : PySem.W.Frag} {H H' : Hp} {a : Addr} {xs : List V} (e : Same H H') (h : SqA c K H a xs) : SqA c K H' a xs := by
  cases c with
  | L => exact e.seq h
  | T => exact e.tup h
theorem seq_rep {K : PySem.W.Frag} {H : Hp} {d : D} {v : V} {ds : List D} (e : seqOf d = some ds) (r : RepD K H d v) : ∃ a c xs, v = .ref a ∧ SqA c K H a xs ∧ RepDs K H ds xs := by
  cases d <;> first
    | (unfold seqOf at e; cases e; done)
    | (unfold seqOf at e; cases e; obtain ⟨p, xs, h1, h2, h3⟩ := r; exact ⟨p, .L, xs, h1, .inl (.inl h2), h3⟩)
    | (unfold seqOf at e; cases e; obtain ⟨p, xs, h1, h2, h3⟩ := r; exact ⟨p, .T, xs, h1, .inl (.inl h2), h3⟩)
    | (unfold seqOf at e; cases e; obtain ⟨p, xs, h1, h2, h3⟩ := r; exact ⟨p, .L, xs, h1, h2, h3⟩)
    | (unfold seqOf at e; cases e; obtain ⟨p, xs, h1, h2, h3⟩ := r; exact ⟨p, .T, xs, h1, ktup_sq h2, h3⟩)
def iSeqA (K : PySem.W.Frag) (tl : TE) : TI := fun σ H R => tl σ H fun x H1 => ∃ a c, x = .ref a ∧ ∃ xs, SqA c K H1 a xs ∧ (xs.length ≤ sizeLine → R (ItsA c K a) H1)
section
variable {X : Cx} {EX : EXT} {tg l : Expr}
theorem pi_seqA {tl : TE} (hl : PE X l tl) : PI X tg l (iSeqA X.K tl) := by
  intro pins s σ H R I h
  refine thn (hl pins s σ H _ I h) fun v s1 ⟨x, H1, I1, r1, q1⟩ => ?_
  obtain ⟨a, c, e, xs, hq, q⟩ := q1
  subst e
  cases r1
  cases c with
  | L =>
    obtain ⟨its, rv, p, hz⟩ := I1.list hq
    refine wpAny_pyIter_list p.isList ?_
    refine ⟨s1.heap.objs.size, [s1.heap.objs.size], _, _, H1, rfl, I1.kept (t' := s1.toks) fun b o e => Heap.get?_push_of_some _ e, turn_list a _, ⟨_, Heap.get?_push_size _ rfl, rfl, rfl⟩, fun b hb => ?_, q hz⟩
    have e : b = s1.heap.objs.size := by simpa using hb
    subst e
    exact I1.fpOk (Nat.le_refl _) (I1.hok.fresh (Nat.le_refl _))
  | T =>
    obtain ⟨its, rv, p, hz⟩ := I1.tuple hq
    refine wpAny_pyIter_tuple (show s1.heap.IsTuple a its.toArray from p) ?_
    refine ⟨s1.heap.objs.size, [s1.heap.objs.size], _, _, H1, rfl, I1.kept (t' := s1.toks) fun b o e => Heap.get?_push_of_some _ e, turn_tuple a _, ⟨_, Heap.get?_push_size _ rfl, rfl, rfl⟩, fun b hb => ?_, q hz⟩
    have e : b = s1.heap.objs.size := by simpa using hb
    subst e
    exact I1.fpOk (Nat.le_refl _) (I1.hok.fresh (Nat.le_refl _))
theorem itok_seq {K : PySem.W.Frag} {L0 : List Addr} {H0 : Hp} {ds : List D} {xs : List V} {a : Addr} {c : Kd} (hs : SqA c K (hid L0 H0) a xs) (hr : RepDs K (hid L0 H0) ds xs) (hf : xs.length ≤ sizeLine) : ItOk K L0 ds (ItsA c K a) H0 where
  go := fun H L i d sm hm hd => by
    obtain ⟨x0, e0, r0⟩ := hr.get hd
    have sq : SqA c K H a xs := hs.same (sm.trans hid_sub)
    cases c with
    | L => exact ⟨⟨xs, x0, sq, e0⟩, fun x H' y => by obtain ⟨rfl, y⟩ := y; have e := y xs sq; rw [e0] at e; cases e; exact ⟨Same.refl _, sm.repD r0⟩⟩
    | T => exact ⟨⟨xs, x0, sq, e0⟩, fun x H' y => by obtain ⟨rfl, y⟩ := y; have e := y xs sq; rw [e0] at e; cases e; exact ⟨Same.refl _, sm.repD r0⟩⟩
  stop := fun H sm => by
    have sq : SqA c K H a xs := hs.same sm
    cases c with
    | L => exact ⟨xs, sq, by rw [hr.len]; exact Nat.le_refl _⟩
    | T => exact ⟨xs, sq, by rw [hr.len]; exact Nat.le_refl _⟩
  few := by rw [hr.len]; exact hf
def sSeqI (f : SE) : SI := fun ρ => match f ρ with
  | some (.ok d _, ρ') => match seqOf d with
    | some ds => some (.ok ds, ρ')
    | none => none
  | some (.ex C, ρ') => some (.ex C, ρ')
  | none => none
theorem i_seq {f : SE} (h : JE X EX l f) : JI X EX tg l (sSeqI f) :=
  ⟨fun pins s σ H R I hw => pi_seqA h.p pins s σ H R I (by
    obtain ⟨F, ρ, W, R0, h⟩ := hw
    refine ⟨F, ρ, W, R0, ?_⟩
    unfold sSeqI at h
    revert h
    cases f ρ with
    | none => exact fun h => h
    | some q =>
      obtain ⟨q, ρ1⟩ := q
      cases q with
      | ex C => exact fun h => h
      | ok d nw =>
        dsimp only
        cases e : seqOf d with
        | none => exact fun h => h.elim
        | some ds =>
          intro h v H1 W1 fr1 sub1 P1
          obtain ⟨rd, R1⟩ := P1.plain
          obtain ⟨a, c, xs, rfl, hs, hr⟩ := seq_rep e rd
          exact ⟨a, c, rfl, xs, hs.same hid_sub, fun hf => h _ H1 W1 fr1 sub1 R1 (itok_seq hs hr hf)⟩)⟩
def okR (lo hi : Int) : Bool := decide (-1000000000 ≤ lo ∧ lo ≤ 1000000000 ∧ -1000000000 ≤ hi ∧ hi ≤ 1000000000 ∧ (hi - lo).toNat ≤ 1000000)
def int1 : List D → Option Int
  | [.int j] => some j
  | _ => none
def int2 : List D → Option (Int × Int)
  | [.int i, .int j] => some (i, j)
  | _ => none
theorem int1_rep {K : PySem.W.Frag} {H Hh : Hp} {ds : List D} {vs : List V} {j : Int} (e : int1 ds = some j) (r : RepBs K H Hh ds vs) : vs = [.int j] := by
  unfold int1 at e
  split at e
  · cases e
    obtain ⟨y, rfl, ry⟩ := repBs1 r
    rw [repB_int ry]
  · cases e
def sRng1 (x : Arg) : SI := fun ρ => match evA [x] ρ with
  | some (.ok ds, ρ') => match int1 ds with
    | some j => if okR 0 j = true then some (.ok (rngL 0 j.toNat), ρ') else none
    | none => none
  | some (.ex C, ρ') => some (.ex C, ρ')
  | none => none
def sRng2 (x y : Arg) : SI := fun ρ => match evA [x, y] ρ with
  | some (.ok ds, ρ') => match int2 ds with
    | some (i, j) => if okR i j = true then some (.ok (rngL i (j - i).toNat), ρ') else none
    | none => none
  | some (.ex C, ρ') => some (.ex C, ρ')
  | none => none
theorem rngL_len {lo : Int} {n : Nat} : (rngL lo n).length = n := by unfold rngL; simp
theorem rngL_get {lo : Int} {n i : Nat} {d : D} (h : (rngL lo n)[i]? = some d) : i < n ∧ d = .int (lo + (i : Nat)) := by
  unfold rngL at h
  rw [List.getElem?_map] at h
  obtain ⟨k, hk, rfl⟩ := Option.map_eq_some_iff.mp h
  obtain ⟨h1, h2⟩ := List.getElem?_eq_some_iff.mp hk
  simp at h1 h2
  subst h2
  exact ⟨h1, rfl⟩
theorem itok_rng {K : PySem.W.Frag} {L0 : List Addr} {H0 : Hp} {lo : Int} {n : Nat} (hf : n ≤ 1000000) : ItOk K L0 (rngL lo n) (Itr lo n) H0 where
  go := fun H L i d sm hm hd => by
    obtain ⟨h1, rfl⟩ := rngL_get hd
    exact ⟨h1, fun x H' y => by obtain ⟨rfl, rfl⟩ := y; exact ⟨Same.refl _, rfl⟩⟩
  stop := fun H sm => by rw [rngL_len]; exact Nat.le_refl n
  few := by rw [rngL_len]; exact Nat.le_trans hf (by decide)
theorem i_rng1 {a : Expr} {x : Arg} {p pos : Pos} (hg : Gl X "range") (hm : X.mg "range" = none) (ha : JA X EX [a] [x]) (hs : starEach [a] X.env = [(false, eval a X.env)] := by rfl) : JI X EX tg (.Call (.Name "range" p) [a] [] pos) (sRng1 x) :=
  ⟨fun pins s σ H R I hw => pi_range1 hg hm ha.p hs pins s σ H R I (by
    obtain ⟨F, ρ, W, R0, h⟩ := hw
    refine as_ok [x] R0 ?_
    unfold sRng1 at h
    revert h
    cases evA [x] ρ with
    | none => exact fun h => h
    | some q =>
      obtain ⟨q, ρ1⟩ := q
      cases q with
      | ex C => exact fun h => h
      | ok ds =>
        dsimp only
        cases e : int1 ds with
        | none => exact fun h => h.elim
        | some j =>
          dsimp only
          split
          · rename_i hj
            have hj := of_decide_eq_true hj
            intro h vs H1 W1 fr1 sub1 R1 reps
            exact ⟨j, int1_rep e reps, by omega, by omega, h _ H1 W1 fr1 sub1 R1 (itok_rng (by have := hj.2.2.2.2; omega))⟩
          · exact fun h => h.elim)⟩
def enumL : Nat → List D → List D
  | _, [] => []
  | i, d :: ds => .tup [.int (i : Nat), d] :: enumL (i + 1) ds
def zipL : List D → List D → List D
  | a :: as, b :: bs => .tup [a, b] :: zipL as bs
  | _, _ => []
def sEnum (f : SE) : SI := fun ρ => match f ρ with
  | some (.ok d _, ρ') => match seqOf d with
    | some ds => some (.ok (enumL 0 ds), ρ')
    | none => none
  | some (.ex C, ρ') => some (.ex C, ρ')
  | none => none
def seq2 : List D → Option (List D × List D)
  | [a, b] => match seqOf a, seqOf b with
    | some x, some y => some (x, y)
    | _, _ => none
  | _ => none
def sZip (fs : List SE) : SI := fun ρ => match evA (fs.map Arg.ex) ρ with
  | some (.ok ds, ρ') => match seq2 ds with
    | some (a, b) => if decide (a.length ≤ b.length) = true then some (.ok (zipL a b), ρ') else none
    | none => none
  | some (.ex C, ρ') => some (.ex C, ρ')
  | none => none
end
def sChain (g g' : List D → Option (D × Bool)) (f1 f2 f3 : SE) : SE := fun ρ => match evA [.ex f1, .ex f2] ρ with
  | some (.ok [a, b], ρ1) => match g [a, b] with
    | some (.bl true, false) => match f3 ρ1 with
      | some (.ok c _, ρ2) => match g' [b, c] with
        | some (d, false) => some (.ok d false, ρ2)
        | _ => none
      | some (.ex C, ρ2) => some (.ex C, ρ2)
      | none => none
    | some (.bl false, false) => some (.ok (.bl false) false, ρ1)
    | _ => none
  | some (.ok _, _) => none
  | some (.ex C, ρ') => some (.ex C, ρ')
  | none => none
theorem chain_tr {K : PySem.W.Frag} {EX : EXT} {σ : St} {H : Hp} {Q : VK} {r r' : R2} {g g' : List D → Option (D × Bool)} {f1 f2 f3 : SE} (hs : OpS K (r2 r) g) (hs' : OpS K (r2 r') g') (hw : tV K EX (sChain g g' f1 f2 f3) σ H Q) : tChain r r' (tV K EX f1) (tV K EX f2) (tV K EX f3) σ H Q := by
  obtain ⟨F, ρ, W, R, h⟩ := hw
  have z : tAs K EX (([f1, f2] : List SE).map Arg.ex) σ H (fun vs H2 => match vs with
      | [x, y] => r x y H2 fun z H3 => ∃ k, z = .bl k ∧ (if k = true then tV K EX f3 σ H3 fun w' H4 => r' y w' H4 Q else Q (.bl false) H3)
      | _ => False) := by
    refine fs_ok [f1, f2] R ?_
    unfold sChain at h
    revert h
    show OkV K F EX σ H W (match evA (([f1, f2] : List SE).map Arg.ex) ρ with
      | some (.ok [a, b], ρ1) => match g [a, b] with
        | some (.bl true, false) => match f3 ρ1 with
          | some (.ok c _, ρ2) => match g' [b, c] with
            | some (d, false) => some (.ok d false, ρ2)
            | _ => none
          | some (.ex C, ρ2) => some (.ex C, ρ2)
          | none => none
        | some (.bl false, false) => some (.ok (.bl false) false, ρ1)
        | _ => none
      | some (.ok _, _) => none
      | some (.ex C, ρ') => some (.ex C, ρ')
      | none => none) Q → _
    cases evA (([f1, f2] : List SE).map Arg.ex) ρ with
    | none => exact fun h => h
    | some q =>
      obtain ⟨q, ρ1⟩ := q
      cases q with
      | ex C => exact fun h => h
      | ok ds =>
        match ds with
        | [] => exact fun h => h.elim
        | [_] => exact fun h => h.elim
        | _ :: _ :: _ :: _ => exact fun h => h.elim
        | [a, b] =>
          dsimp only
          intro h vs H1 W1 fr1 sub1 R1 reps
          match vs, reps with
          | [x, y], reps =>
            have rb : RepBs K H1 (hid (W1 ++ F.Z) H1) [a, b] [x, y] := ⟨RepD.b reps.1 hid_sub, RepD.b reps.2.1 hid_sub, trivial⟩
            cases eg : g [a, b] with
            | none => rw [eg] at h; exact h.elim
            | some dn =>
              obtain ⟨d, nw⟩ := dn
              rw [eg] at h
              refine hs [x, y] [a, b] H1 (W1 ++ F.Z) _ d nw R1.mt rb eg fun z H2 s2 p2 => ?_
              have fr2 : Fr W H H2 := fr1.trans (s2.fr (W := W1)) fun p hp => .inl (sub1 p hp)
              cases d <;> first | (exact h.elim) | skip
              rename_i k
              cases nw with
              | true => cases k <;> exact h.elim
              | false =>
                have hz : z = .bl k := p2
                refine ⟨k, hz, ?_⟩
                have R2 := R1.same s2
                cases k with
                | false =>
                  rw [if_neg Bool.false_ne_true]
                  exact h _ H2 W1 fr2 sub1 ⟨rfl, R2⟩
                | true =>
                  rw [if_pos rfl]
                  refine ⟨F, ρ1, W1, R2, ?_⟩
                  revert h
                  dsimp only
                  cases f3 ρ1 with
                  | none => exact fun h => h
                  | some q =>
                    obtain ⟨q, ρ2⟩ := q
                    cases q with
                    | ex C => exact fun h H3 W3 fr3 sub3 R3 => h H3 W3 (fr2.trans fr3 fun p hp => .inl (sub1 p hp)) (fun p hp => sub1 p (sub3 p hp)) R3
                    | ok c nw2 =>
                      dsimp only
                      intro h w' H3 W3 fr3 sub3 P3
                      obtain ⟨rc, R3⟩ := P3.plain
                      have ry : RepD K (hid (W3 ++ F.Z) H3) b y := (fr3.hid fun p hp => .inl (sub3 p hp)).repD ((hid_same (fun b hb => .inl hb) fun b o _ e => s2 b o e : Same (hid (W1 ++ F.Z) H1) (hid (W1 ++ F.Z) H2)).repD reps.2.1)
                      cases eg2 : g' [b, c] with
                      | none => rw [eg2] at h; exact h.elim
                      | some dn =>
                        obtain ⟨d2, nw3⟩ := dn
                        rw [eg2] at h
                        cases nw3 with
                        | true => exact h.elim
                        | false =>
                          refine hs' [y, w'] [b, c] H3 (W3 ++ F.Z) _ d2 false R3.mt ⟨RepD.b ry hid_sub, RepD.b rc hid_sub, trivial⟩ eg2 fun v H4 s4 p4 => ?_
                          exact h v H4 W3 ((fr2.trans fr3 fun p hp => .inl (sub1 p hp)).trans (s4.fr (W := W3)) fun p hp => .inl (sub1 p (sub3 p hp))) (fun p hp => sub1 p (sub3 p hp)) ⟨p4, R3.same s4⟩
  exact z
section
variable {X : Cx} {EX : EXT} {a b c : Expr} {pos : Pos}
theorem c_chain {op op' : CmpOp} {r r' : R2} {g g' : List D → Option (D × Bool)} {f1 f2 f3 : SE} (ho : OpR X (compareOp op) r) (ho' : OpR X (compareOp op') r') (hs : OpS X.K (r2 r) g) (hs' : OpS X.K (r2 r') g') (ha : JE X EX a f1) (hb : JE X EX b f2) (hc : JE X EX c f3)
    (hm : lastMarks [op, op'] [b, c] = false := by with_unfolding_all rfl) : JE X EX (.Compare a [op, op'] [b, c] pos) (sChain g g' f1 f2 f3) :=
  ⟨(pe_chain ho ho' ha.p hb.p hc.p hm).by fun σ H Q h => chain_tr hs hs' h⟩
end
end L2
namespace L2
open PySem PySem.Spec PyProof.Rows
section
variable {X : Cx}
def rMaxT (K : PySem.W.Frag) : List V → Hp → (V → Hp → Prop) → Prop := fun xs H Q => ∃ (p : Addr) (ns : List Int), xs = [V.ref p] ∧ SqT K H p (ns.map V.int) ∧ ns ≠ [] ∧ ∀ M, M ∈ ns → (∀ a ∈ ns, a ≤ M) → Q (.int M) H
def rMinT (K : PySem.W.Frag) : List V → Hp → (V → Hp → Prop) → Prop := fun xs H Q => ∃ (p : Addr) (ns : List Int), xs = [V.ref p] ∧ SqT K H p (ns.map V.int) ∧ ns ≠ [] ∧ ∀ M, M ∈ ns → (∀ a ∈ ns, M ≤ a) → Q (.int M) H
theorem call_maxT (hc : X.calm = true) : CallR X (.builtin "max") (rMaxT X.K) := by
  intro pins s σ H xs us Q I r h
  obtain ⟨p, ns, rfl, hq, ne, q⟩ := h
  obtain ⟨u, rfl, ru⟩ := vals1 r
  cases ru
  obtain ⟨its, rv, pl, hz⟩ := I.tuple hq
  obtain ⟨ps, rfl, e⟩ := vals_toks rv
  have lp : ps.length = ns.length := by rw [← e, List.length_map]
  have n0 : 0 < ns.length := List.length_pos_iff.mpr ne
  have ei : intItems ps.toArray = (ps.map fun p => Value.int p.1 p.2).toArray := by unfold intItems; simp
  have ht : s.heap.IsTuple p (intItems ps.toArray) := by rw [ei]; exact pl
  have hlt : p < s.heap.objs.size := by obtain ⟨_, e, _⟩ := ht; exact Heap.lt_size e
  have sz : ps.toArray.size = ns.length := by simp [lp]
  obtain ⟨b1, b2⟩ := argBest_gt (numAt ps.toArray) (ps.toArray.size - 1)
  refine call_max_walk (wpAny_pyIter_tuple ht ⟨s.heap.objs.size, _, _, _, _, _, _, rfl, Walks.tuple (A := X.A.in1) (I.ok.hd hc) _ p (Nat.ne_of_lt hlt) (intItems ps.toArray), ⟨⟨_, Heap.get?_push_size _ rfl, rfl, rfl⟩, ht.push _⟩, fun c hcm => ?_, by simpa [intItems, lp] using n0, CmpOf.ints_gt (numAt ps.toArray) (fun _ _ => intItems_at), fun v h' tk hP hk => ?_⟩)
  · have e1 : c = s.heap.objs.size ∨ c = p := by simpa using hcm
    show c < (s.heap.push _).objs.size
    rw [Heap.size_push]
    rcases e1 with e1 | e1
    · rw [e1]; exact Nat.lt_succ_self _
    · rw [e1]; exact Nat.lt_succ_of_lt hlt
  · have hv : (intItems ps.toArray)[argBest (fun i j => decide (numAt ps.toArray i > numAt ps.toArray j)) (ps.toArray.size - 1)]? = some v := by simpa [intItems] using hP
    obtain ⟨t, rfl⟩ := intItems_at hv
    rw [sz] at b1 b2 ⊢
    refine ⟨.int _, H, I.kept (h' := h') (t' := tk) fun b' o e => hk b' o (by have := Heap.lt_size e; simp; exact Nat.ne_of_lt this) (Heap.get?_push_of_some _ e), ⟨t, rfl⟩, q _ ?_ fun a ha => ?_⟩
    · rw [numAt_get e (by omega)]
      exact List.getElem_mem _
    · obtain ⟨j, hj, rfl⟩ := List.getElem_of_mem ha
      have := b2 j (by omega)
      rw [numAt_get e hj] at this
      exact this
theorem call_minT (hc : X.calm = true) : CallR X (.builtin "min") (rMinT X.K) := by
  intro pins s σ H xs us Q I r h
  obtain ⟨p, ns, rfl, hq, ne, q⟩ := h
  obtain ⟨u, rfl, ru⟩ := vals1 r
  cases ru
  obtain ⟨its, rv, pl, hz⟩ := I.tuple hq
  obtain ⟨ps, rfl, e⟩ := vals_toks rv
  have lp : ps.length = ns.length := by rw [← e, List.length_map]
  have n0 : 0 < ns.length := List.length_pos_iff.mpr ne
  have ei : intItems ps.toArray = (ps.map fun p => Value.int p.1 p.2).toArray := by unfold intItems; simp
  have ht : s.heap.IsTuple p (intItems ps.toArray) := by rw [ei]; exact pl
  have hlt : p < s.heap.objs.size := by obtain ⟨_, e, _⟩ := ht; exact Heap.lt_size e
  have sz : ps.toArray.size = ns.length := by simp [lp]
  obtain ⟨b1, b2⟩ := argBest_lt (numAt ps.toArray) (ps.toArray.size - 1)
  refine call_min_walk (wpAny_pyIter_tuple ht ⟨s.heap.objs.size, _, _, _, _, _, _, rfl, Walks.tuple (A := X.A.in1) (I.ok.hd hc) _ p (Nat.ne_of_lt hlt) (intItems ps.toArray), ⟨⟨_, Heap.get?_push_size _ rfl, rfl, rfl⟩, ht.push _⟩, fun c hcm => ?_, by simpa [intItems, lp] using n0, CmpOf.ints_lt (numAt ps.toArray) (fun _ _ => intItems_at), fun v h' tk hP hk => ?_⟩)
  · have e1 : c = s.heap.objs.size ∨ c = p := by simpa using hcm
    show c < (s.heap.push _).objs.size
    rw [Heap.size_push]
    rcases e1 with e1 | e1
    · rw [e1]; exact Nat.lt_succ_self _
    · rw [e1]; exact Nat.lt_succ_of_lt hlt
  · have hv : (intItems ps.toArray)[argBest (fun i j => decide (numAt ps.toArray i < numAt ps.toArray j)) (ps.toArray.size - 1)]? = some v := by simpa [intItems] using hP
    obtain ⟨t, rfl⟩ := intItems_at hv
    rw [sz] at b1 b2 ⊢
    refine ⟨.int _, H, I.kept (h' := h') (t' := tk) fun b' o e => hk b' o (by have := Heap.lt_size e; simp; exact Nat.ne_of_lt this) (Heap.get?_push_of_some _ e), ⟨t, rfl⟩, q _ ?_ fun a ha => ?_⟩
    · rw [numAt_get e (by omega)]
      exact List.getElem_mem _
    · obtain ⟨j, hj, rfl⟩ := List.getElem_of_mem ha
      have := b2 j (by omega)
      rw [numAt_get e hj] at this
      exact this
end
def gMaxA : List D → Option (D × Bool)
  | [.tup ds] => match intsOf ds with
    | some (n :: ns) => some (.int (maxI (n :: ns)), false)
    | _ => none
  | ds => gMax ds
def gMinA : List D → Option (D × Bool)
  | [.tup ds] => match intsOf ds with
    | some (n :: ns) => some (.int (minI (n :: ns)), false)
    | _ => none
  | ds => gMin ds
theorem call_maxB {X : Cx} (hc : X.calm = true) : CallR X (.builtin "max") (fun xs H Q => (rMax2 xs H Q ∨ rMaxL X.K xs H Q) ∨ rMaxT X.K xs H Q) := (call_maxA hc).or (call_maxT hc)
theorem call_minB {X : Cx} (hc : X.calm = true) : CallR X (.builtin "min") (fun xs H Q => (rMin2 xs H Q ∨ rMinL X.K xs H Q) ∨ rMinT X.K xs H Q) := (call_minA hc).or (call_minT hc)
theorem os_maxB {K : PySem.W.Frag} : OpS K (fun xs H Q => (rMax2 xs H Q ∨ rMaxL K xs H Q) ∨ rMaxT K xs H Q) gMaxA := by
  intro vs ds H L Q d nw hm r e q
  unfold gMaxA at e
  split at e
  · rename_i es
    obtain ⟨x, rfl, ⟨p, xs, rfl, h1, h2⟩⟩ := repBs1 r
    split at e
    · rename_i n ns en
      cases e
      rw [intsOf_eq en] at h2
      rw [ints_repDs h2] at h1
      refine .inr ⟨p, n :: ns, rfl, .inl (.inl (hid_some h1).2), by simp, fun M m1 m2 => ?_⟩
      obtain ⟨z1, z2⟩ := maxI_is (l := n :: ns) (by simp)
      rw [bes_unique m1 m2 z1 z2]
      exact q _ H (Same.refl _) rfl
    · cases e
  · exact .inl (os_max vs _ H L Q d nw hm r e q)
theorem os_minB {K : PySem.W.Frag} : OpS K (fun xs H Q => (rMin2 xs H Q ∨ rMinL K xs H Q) ∨ rMinT K xs H Q) gMinA := by
  intro vs ds H L Q d nw hm r e q
  unfold gMinA at e
  split at e
  · rename_i es
    obtain ⟨x, rfl, ⟨p, xs, rfl, h1, h2⟩⟩ := repBs1 r
    split at e
    · rename_i n ns en
      cases e
      rw [intsOf_eq en] at h2
      rw [ints_repDs h2] at h1
      refine .inr ⟨p, n :: ns, rfl, .inl (.inl (hid_some h1).2), by simp, fun M m1 m2 => ?_⟩
      obtain ⟨z1, z2⟩ := minI_is (l := n :: ns) (by simp)
      rw [les_unique m1 m2 z1 z2]
      exact q _ H (Same.refl _) rfl
    · cases e
  · exact .inl (os_min vs _ H L Q d nw hm r e q)
def sRaise (nm : Str) : SS := fun ρ => some (.ex nm, ρ)
theorem s_raise {P : Program} {w : World} {K : PySem.W.Frag} {mg : Str → Option Value} {base : Heap} {N : List Str} {qual : Str} {scope : Scope} {f : Addr} {cd : Value} {A : Around} {outer : List Env} {s : Shared} {H : Hp} {E : XK} {x : Str} {C : Addr} {bm : List Value} {B newId initId : String} {np cpos pos : Pos} {k : Nat}
    (O : OwnCls x C bm newId mg base) (FB : ExcBaseFacts B newId initId bm) (hc : clsK K x C) (hr : Room k (A.deeper (envOfC qual scope s.heap.objs.size f cd)))
    (hg : Gl (cxOf (CXr P w) P w K mg base N qual scope f cd A outer s H E) x) (hd : (x == ("__debug__" : Str)) = false := by decide) : JS (cxOf (CXr P w) P w K mg base N qual scope f cd A outer s H E) (EXf K E) (.Raise (some (.Call (.Name x np) [] [] cpos)) none pos) (sRaise x) :=
  ⟨(ps_raise0 O FB hr.hd hg hd).by fun D σ H ⟨F, ρ, W, R, h⟩ => h σ H W .refl (fun _ z => .inl z) R C hc none⟩
theorem spF_law {K : PySem.W.Frag} {run : FS} {H : Hp} {a : Addr} {ns : List Int} (hrun : ∃ x, run [.klst (ns.map D.int)] = some (.ok (.bl true) false, x)) (hS : SqL K H a (ns.map V.int)) : spF K none run [.ref a] H (fun v _ => v = .bl true) fun _ _ _ => False := by
  obtain ⟨x, hx⟩ := hrun
  refine ⟨[], [], [.klst (ns.map D.int)], rfl, (fun p hp => by cases hp), (fun p hp => by cases hp), fun j d v _ h1 h2 => ?_, (fun k z => by cases z), fun _ => rfl, ?_⟩
  · have hh : hid ([] ++ []) H = H := by funext b; unfold hid; simp
    rw [hh]
    match j, h1, h2 with
    | 0, h1, h2 =>
      simp only [List.getElem?_cons_zero, Option.some.injEq] at h1 h2
      subst h1 h2
      exact ⟨a, _, rfl, hS, repDs_ints ns⟩
    | j + 1, h1, h2 => simp at h1
  · rw [hx]
    exact fun v H' _ rv _ => rv
theorem cxr_false {P : Program} {w : World} {H : Hp} {s : Shared} {e : Value} {s' : Shared} (h : CXr P w [] H s (fun _ _ _ => False) e s') : False := by
  obtain ⟨_, _, _, _, _, _, _, _, _, _, z⟩ := h
  exact z
end L2
namespace L2
open PySem PySem.Spec PyProof.Rows
section
variable {X : Cx} {EX : EXT} {a b e : Expr} {es : List Expr} {pos p : Pos} {x y : Arg} {as : List Arg}
theorem v (i : Nat) {n : Str} (hN : X.N[i]? = some n := by rfl) (hv : Vis X.env.scope n := by first | exact Or.inl rfl | exact Or.inr (Or.inl rfl) | exact Or.inr (Or.inr rfl)) (hd : (n == ("__debug__" : Str)) = false := by decide) (hcd : (n == ("__classdict__" : Str)) = false := by decide) : JE X EX (.Name n pos) (sVar i) := c_var hN hv hd hcd
theorem vb (i : Nat) {n : Str} (hN : X.N[i]? = some n := by rfl) (hv : Vis X.env.scope n := by first | exact Or.inl rfl | exact Or.inr (Or.inl rfl) | exact Or.inr (Or.inr rfl)) (hd : (n == ("__debug__" : Str)) = false := by decide) (hcd : (n == ("__classdict__" : Str)) = false := by decide) : JB X EX (.Name n pos) (.bor i) := cb_var hN hv hd hcd
theorem b_add (ha : JB X EX a x) (hb : JB X EX b y) : JE X EX (.BinOp a .Add b pos) (sOp gAdd [x, y]) := c_op op_addA os_add ha hb
theorem b_sub (ha : JB X EX a x) (hb : JB X EX b y) : JE X EX (.BinOp a .Sub b pos) (sOp gMin1 [x, y]) := c_op op_sub os_sub ha hb
theorem b_mul (ha : JB X EX a x) (hb : JB X EX b y) : JE X EX (.BinOp a .Mult b pos) (sOp gMul [x, y]) := c_op op_mulA os_mul ha hb
theorem b_fdiv (ha : JB X EX a x) (hb : JB X EX b y) : JE X EX (.BinOp a .FloorDiv b pos) (sOp gFdiv [x, y]) := c_op op_fdiv os_fdiv ha hb
theorem b_mod (ha : JB X EX a x) (hb : JB X EX b y) : JE X EX (.BinOp a .Mod b pos) (sOp gMod [x, y]) := c_op op_mod os_mod ha hb
theorem b_pow (ha : JB X EX a x) (hb : JB X EX b y) : JE X EX (.BinOp a .Pow b pos) (sOp gPow [x, y]) := c_op op_pow os_pow ha hb
theorem b_ix (ha : JB X EX a x) (hb : JB X EX b y) (hp : PlainIx b := by exact fun _ _ => rfl) : JE X EX (.Subscript a b pos) (sOp gIx [x, y]) := c_ix ix_seq os_ix ha hb hp
theorem q_eq (hu : X.A.units + 10 < cLine) (ha : JB X EX a x) (hb : JB X EX b y) : JE X EX (.Compare a [.Eq] [b] pos) (sOp gEq [x, y]) := c_cmp (op_eqD (by omega)) os_eq ha hb (nomark _)
theorem q_lt (ha : JB X EX a x) (hb : JB X EX b y) : JE X EX (.Compare a [.Lt] [b] pos) (sOp gLt [x, y]) := c_cmp op_lt os_lt ha hb (nomark _)
theorem q_ge (ha : JB X EX a x) (hb : JB X EX b y) : JE X EX (.Compare a [.GtE] [b] pos) (sOp gGe [x, y]) := c_cmp op_ge os_ge ha hb (nomark _)
theorem q_in (hu : X.A.units + 10 < cLine) (ha : JB X EX a x) (hb : JB X EX b y) (hm : behindInMarks .In b = false := by with_unfolding_all rfl) : JE X EX (.Compare a [.In] [b] pos) (sOp gIn [x, y]) := c_cmp (op_inA hu) os_in ha hb hm
theorem t_eq (hu : X.A.units + 10 < cLine) (ha : JB X EX a x) (hb : JB X EX b y) : JT X EX (.Compare a [.Eq] [b] pos) (sOpT gEq [x, y]) := k_cmp (op_eqD (by omega)) os_eq ha hb (nomark _)
theorem t_ne (hu : X.A.units + 10 < cLine) (ha : JB X EX a x) (hb : JB X EX b y) : JT X EX (.Compare a [.NotEq] [b] pos) (sOpT gNe [x, y]) := k_cmp (op_neD (by omega)) os_ne ha hb (nomark _)
theorem t_lt (ha : JB X EX a x) (hb : JB X EX b y) : JT X EX (.Compare a [.Lt] [b] pos) (sOpT gLt [x, y]) := k_cmp op_lt os_lt ha hb (nomark _)
theorem t_le (ha : JB X EX a x) (hb : JB X EX b y) : JT X EX (.Compare a [.LtE] [b] pos) (sOpT gLe [x, y]) := k_cmp op_le os_le ha hb (nomark _)
theorem t_gt (ha : JB X EX a x) (hb : JB X EX b y) : JT X EX (.Compare a [.Gt] [b] pos) (sOpT gGt [x, y]) := k_cmp op_gt os_gt ha hb (nomark _)
theorem t_is (ha : JB X EX a x) (hb : JB X EX b y) : JT X EX (.Compare a [.Is] [b] pos) (sOpT gIs [x, y]) := k_cmp op_isD os_is ha hb (nomark _)
variable (he : starEach (e :: es) X.env = (false, eval e X.env) :: starEach es X.env := by rfl) (hpl : (backTo pos (starEach es X.env)).any (·.1) = false := by rfl)
include he hpl
theorem b_len (m : X.mg "len" = none) (ha : JA X EX (e :: es) as) (hg : Gl X "len" := by rfl) : JE X EX (.Call (.Name "len" p) (e :: es) [] pos) (sOp gLen as) := c_callB call_lenA os_len hg m PySem.boot_len ha (by decide) (by decide) he hpl
theorem b_sum (m : X.mg "sum" = none) (ha : JA X EX (e :: es) as) (hg : Gl X "sum" := by rfl) (hc : X.calm = true := by rfl) : JE X EX (.Call (.Name "sum" p) (e :: es) [] pos) (sOp gSum as) := c_callB (call_sumA hc) os_sum hg m PyProof.Rows.boot_sum ha (by decide) (by decide) he hpl
theorem b_all (m : X.mg "all" = none) (ha : JA X EX (e :: es) as) (hg : Gl X "all" := by rfl) (hc : X.calm = true := by rfl) : JE X EX (.Call (.Name "all" p) (e :: es) [] pos) (sOp gAll as) := c_callB (call_allA hc) os_all hg m PyProof.Rows.boot_all ha (by decide) (by decide) he hpl
theorem b_max (m : X.mg "max" = none) (ha : JA X EX (e :: es) as) (hg : Gl X "max" := by rfl) (hc : X.calm = true := by rfl) : JE X EX (.Call (.Name "max" p) (e :: es) [] pos) (sOp gMaxA as) := c_callB (call_maxB hc) os_maxB hg m PyProof.Rows.boot_max ha (by decide) (by decide) he hpl
theorem b_min (m : X.mg "min" = none) (ha : JA X EX (e :: es) as) (hg : Gl X "min" := by rfl) (hc : X.calm = true := by rfl) : JE X EX (.Call (.Name "min" p) (e :: es) [] pos) (sOp gMinA as) := c_callB (call_minB hc) os_minB hg m PyProof.Rows.boot_min ha (by decide) (by decide) he hpl
theorem b_abs (m : X.mg "abs" = none) (ha : JA X EX (e :: es) as) (hg : Gl X "abs" := by rfl) : JE X EX (.Call (.Name "abs" p) (e :: es) [] pos) (sOp gAbs as) := c_callB call_absA os_abs hg m PyProof.Rows.boot_abs ha (by decide) (by decide) he hpl
theorem b_tuple (m : X.mg "tuple" = none) (ha : JA X EX (e :: es) as) (hg : Gl X "tuple" := by rfl) (hc : X.calm = true := by rfl) : JE X EX (.Call (.Name "tuple" p) (e :: es) [] pos) (sOp gTuple as) := c_callTy (call_tupleA hc) os_tuple hg m PyProof.Rows.boot_tuple ha (by decide) (by decide) he hpl
theorem b_set (m : X.mg "set" = none) (ha : JA X EX (e :: es) as) (hg : Gl X "set" := by rfl) (hc : X.calm = true := by rfl) : JE X EX (.Call (.Name "set" p) (e :: es) [] pos) (sOp gSet as) := c_callTy (call_setA hc) os_set hg m PyProof.Rows.boot_set ha (by decide) (by decide) he hpl
theorem b_int (m : X.mg "int" = none) (ha : JA X EX (e :: es) as) (hg : Gl X "int" := by rfl) : JE X EX (.Call (.Name "int" p) (e :: es) [] pos) (sOp gInt as) := c_callTy call_intA os_int hg m PyProof.Rows.boot_int ha (by decide) (by decide) he hpl
theorem b_range (m : X.mg "range" = none) (ha : JA X EX (e :: es) as) (hg : Gl X "range" := by rfl) : JE X EX (.Call (.Name "range" p) (e :: es) [] pos) (sOp gRange as) := c_callTy call_rangeA os_range hg m PyProof.Rows.boot_range ha (by decide) (by decide) he hpl
end
section
variable {X : Cx} {EX : EXT} {e : Expr} {a : Arg} {p1 p2 pos : Pos}
theorem b_isi_int (he : JB X EX e a) (m1 : X.mg "isinstance" = none) (m2 : X.mg "int" = none) (g1 : Gl X "isinstance" := by rfl) (g2 : Gl X "int" := by rfl) (hs : starEach [e, .Name "int" p1] X.env = (false, eval e X.env) :: starEach [.Name "int" p1] X.env := by rfl) : JE X EX (.Call (.Name "isinstance" p2) [e, .Name "int" p1] [] pos) (sOp (gIsi "int") [a]) := c_isi (.inl rfl) he g1 m1 g2 m2 PyProof.Rows.boot_int (by decide) (by decide) hs
theorem b_isi_bool (he : JB X EX e a) (m1 : X.mg "isinstance" = none) (m2 : X.mg "bool" = none) (g1 : Gl X "isinstance" := by rfl) (g2 : Gl X "bool" := by rfl) (hs : starEach [e, .Name "bool" p1] X.env = (false, eval e X.env) :: starEach [.Name "bool" p1] X.env := by rfl) : JE X EX (.Call (.Name "isinstance" p2) [e, .Name "bool" p1] [] pos) (sOp (gIsi "bool") [a]) := c_isi (.inr (.inl rfl)) he g1 m1 g2 m2 PyProof.Rows.boot_bool (by decide) (by decide) hs
theorem b_isi_tuple (he : JB X EX e a) (m1 : X.mg "isinstance" = none) (m2 : X.mg "tuple" = none) (g1 : Gl X "isinstance" := by rfl) (g2 : Gl X "tuple" := by rfl) (hs : starEach [e, .Name "tuple" p1] X.env = (false, eval e X.env) :: starEach [.Name "tuple" p1] X.env := by rfl) : JE X EX (.Call (.Name "isinstance" p2) [e, .Name "tuple" p1] [] pos) (sOp (gIsi "tuple") [a]) := c_isi (.inr (.inr (.inl rfl))) he g1 m1 g2 m2 PyProof.Rows.boot_tuple (by decide) (by decide) hs
end
section
variable {X : Cx} {EX : EXT} {e : Expr} {pos p1 apos cpos : Pos} {n : Str} {f : SE}
theorem m_append (j : Nat) (h : JE X EX e f) (hN : X.N[j]? = some n := by rfl) (hv : Vis X.env.scope n := by first | exact Or.inl rfl | exact Or.inr (Or.inl rfl) | exact Or.inr (Or.inr rfl)) (hst : starEach [e] X.env = (false, eval e X.env) :: starEach [] X.env := by rfl)
    (hbase : attributeBase (.Name n p1) "append" X.env (eval (.Name n p1) X.env) = eval (.Name n p1) X.env := by rfl) (hfew : ((backTo cpos (starEach [e] X.env)).all (fun x => !x.1) && (backToKw cpos (keywordEach [] X.env)).all (fun x => x.1.isSome) && decide ([e].length + ([] : List Keyword).length + (if ([] : List Keyword).isEmpty then 0 else 1) < 30)) = true := by rfl)
    (hline : (apos.endLine == cpos.line) = true := by rfl) (hplain : (backTo cpos (starEach [] X.env)).any (·.1) = false := by rfl) (hd : (n == ("__debug__" : Str)) = false := by decide) (hcd : (n == ("__classdict__" : Str)) = false := by decide) :
    JE X EX (.Call (.Attribute (.Name n p1) "append" apos) [e] [] cpos) (sMeth j uAppend [f]) := c_meth me_append mt_append PySem.F.slot_list_append PySem.F.type_list_append hN hv (.cons h .nil hst) hbase hfew hline hst hplain hd hcd
end
end L2
namespace L2
namespace Td
open PySem L2 PyProof.Rows
def nb (j : Int) : List (Int × Int) → List Int
  | [] => []
  | t :: r => (if j = t.1 then [t.2] else if j = t.2 then [t.1] else []) ++ nb j r
end Td
end L2
namespace L2
open PySem
def s__law_cell_at : SS := (sSeq (sIfS (sOpT gLt [.bor 1, .ex (sOp gLen [.bor 0])]) (sRet (sOp gIx [.bor 0, .bor 1])) sNil) (sRet (sC (.int 0))))
def f__law_cell_at : FS := fnRun 2 2 none s__law_cell_at
def s__law_next : SS := (sSeq (sSet 0 (sOp gMod [.ex (sOp gAdd [.bor 0, .ex (sC (.int 7919))]), .ex (sC (.int 2147483647))])) (sRet (sOp gMod [.ex (sOp gAdd [.ex (sOp gAdd [.ex (sOp gMul [.bor 0, .bor 0]), .ex (sOp gMul [.ex (sC (.int 48271)), .bor 0])]), .ex (sC (.int 12345))]), .ex (sC (.int 2147483629))])))
def f__law_next : FS := fnRun 1 1 none s__law_next
def s__law_pen_of : SS := (sSeq (sSet 1 (sOp gMaxA [.bor 0, .ex (sOp gMin1 [.ex (sC (.int 0)), .bor 0])])) (sRet (sLst [(sVar 1), (sOp gInt [.ex (sOp gGe [.bor 1, .ex (sOp gPow [.ex (sC (.int 10)), .ex (sC (.int 18))])])]), (sOp gMod [.bor 1, .ex (sC (.int 1000003))])])))
def f__law_pen_of : FS := fnRun 1 2 none s__law_pen_of
def s__law_draw : SS := (sSeq (sIfS (sOpT gEq [.ex (sOp gIx [.bor 0, .ex (sC (.int 1))]), .ex (sC (.int 1))]) (sSeq (sSet 2 (sOp gMod [.ex (sOp gIx [.bor 0, .ex (sC (.int 0))]), .bor 1])) (sSeq (sItem uSetL 0 (sOp gFdiv [.ex (sOp gIx [.bor 0, .ex (sC (.int 0))]), .bor 1]) (sC (.int 0))) (sRetV 2))) sNil) (sSeq (sItem uSetL 0 (sCall none none f__law_next [.ex (sOp gAdd [.ex (sCall none none f__law_next [.ex (sOp gIx [.bor 0, .ex (sC (.int 2))])]), .ex (sC (.int 7))])]) (sC (.int 2))) (sRet (sOp gMod [.ex (sOp gFdiv [.ex (sOp gIx [.bor 0, .ex (sC (.int 2))]), .ex (sC (.int 64))]), .bor 1]))))
def f__law_draw : FS := fnRun 2 3 (some 0) s__law_draw
theorem okMul_l {a b : Int} (h1 : -(2 ^ 64) < a) (h2 : a < 2 ^ 64) : okMul a b = true := by unfold okMul; rw [decide_eq_true ⟨h1, h2⟩]; rfl
def nextI (s : Int) : Int := (((s + 7919) % 2147483647) * ((s + 7919) % 2147483647) + 48271 * ((s + 7919) % 2147483647) + 12345) % 2147483629
theorem fNext_eq (s : Int) : f__law_next [.int s] = some (.ok (.int (nextI s)) false, .non) := by
  have m1 : okMul ((s + 7919) % 2147483647) ((s + 7919) % 2147483647) = true := okMul_l (by omega) (by omega)
  have m2 : okMul 48271 ((s + 7919) % 2147483647) = true := okMul_l (by omega) (by omega)
  unfold f__law_next s__law_next
  simp only [fnRun, ini, iniL, ioD, sNil, sSeq, sSet, sRet, sRetN, sRetV, sExpr, sIfS, sAsg, sAug, sItem, sMeth, sCall, sOp, sOpT, sC, sVar, sTup, sLst, evA, List.map_cons, List.map_nil, sTru, truD, sNot, sIf, sAnd, sOr, sAndV, sOrV, sNotV, sBl, asgT, asgTs, putIo, noBor, flatR, flatIn, flatD, flatDs, sChain, sFor, sComp, sSeqI, sRng1, sRng2, sEnum, sZip, seqOf, int1, int2, Tg.ge, List.length_cons, List.length_nil, List.getElem?_cons_zero, List.getElem?_cons_succ, List.set_cons_zero, List.set_cons_succ, List.cons_append, List.nil_append, List.replicate, Nat.sub_self, Nat.reduceSub, Nat.reduceAdd, Nat.zero_add, Option.isNone, if_true, reduceIte, decide_true, Bool.true_and, Bool.and_true, Bool.true_or, Bool.or_true, Bool.false_or, Bool.or_false, Bool.false_and, Bool.and_false, reduceCtorEq, gMod, gAdd, gMul, Int.reduceLT, m1, m2]
  rfl
theorem ixN_nat {n i : Nat} (h : i < n) : ixN n (i : Int) = some i := by
  unfold ixN
  rw [if_pos (by omega), if_pos (by omega)]
  rfl
theorem atI_of {α : Type} {l : List α} {i : Nat} {x : α} (h : l[i]? = some x) : atI l (i : Int) = some x := by
  unfold atI
  rw [ixN_nat (List.getElem?_eq_some_iff.mp h).1]
  exact h
section
variable {α : Type} {a b c d : α} {l : List α}
theorem atI_0 : atI (a :: l) 0 = some a := atI_of (i := 0) rfl
theorem atI_1 : atI (a :: b :: l) 1 = some b := atI_of (i := 1) rfl
theorem atI_2 : atI (a :: b :: c :: l) 2 = some c := atI_of (i := 2) rfl
end
theorem gIx_lst {ds : List D} {i : Int} {d : D} (h : atI ds i = some d) : gIx [.lst ds, .int i] = some (d, false) := by unfold gIx; simp only [h]
theorem gIx_klst {ds : List D} {i : Int} {d : D} (h : atI ds i = some d) : gIx [.klst ds, .int i] = some (d, false) := by unfold gIx; simp only [h]
theorem gIx_tup {ds : List D} {i : Int} {d : D} (h : atI ds i = some d) : gIx [.tup ds, .int i] = some (d, false) := by unfold gIx; simp only [h]
theorem gEq_int (a b : Int) : gEq [.int a, .int b] = some (.bl (decide (a = b)), false) := by
  unfold gEq
  simp only [eqable, Bool.and_self, if_true, eqD, nrm, eqN]
  rw [show (a == b) = decide (a = b) from rfl]
theorem gNe_int (a b : Int) : gNe [.int a, .int b] = some (.bl (!decide (a = b)), false) := by
  unfold gNe
  simp only [eqable, Bool.and_self, if_true, eqD, nrm, eqN]
  rw [show (a == b) = decide (a = b) from rfl]
theorem gMod_eq {a b : Int} (h : 0 < b) : gMod [.int a, .int b] = some (.int (a % b), false) := by unfold gMod; simp only [h, decide_true, if_true]
theorem gFdiv_eq {a b : Int} (h : 0 < b) (h2 : b < 1073741824) : gFdiv [.int a, .int b] = some (.int (a / b), false) := by unfold gFdiv; simp only [h, h2, and_self, decide_true, if_true]
theorem gPow_18 : gPow [.int 10, .int 18] = some (.int 1000000000000000000, false) := rfl
def penD (a f s : Int) : D := .lst [.int a, .int f, .int s]
theorem fPen_eq (c : Int) : ∃ a f s, f__law_pen_of [.int c] = some (.ok (penD a f s) true, .non) := by
  refine ⟨if 0 - c > c then 0 - c else c, if decide (1000000000000000000 ≤ (if 0 - c > c then 0 - c else c)) then 1 else 0, (if 0 - c > c then 0 - c else c) % 1000003, ?_⟩
  unfold f__law_pen_of s__law_pen_of
  simp only [fnRun, ini, iniL, ioD, sNil, sSeq, sSet, sRet, sRetN, sRetV, sExpr, sIfS, sAsg, sAug, sItem, sMeth, sCall, sOp, sOpT, sC, sVar, sTup, sLst, evA, List.map_cons, List.map_nil, sTru, truD, sNot, sIf, sAnd, sOr, sAndV, sOrV, sNotV, sBl, asgT, asgTs, putIo, noBor, flatR, flatIn, flatD, flatDs, sChain, sFor, sComp, sSeqI, sRng1, sRng2, sEnum, sZip, seqOf, int1, int2, Tg.ge, List.length_cons, List.length_nil, List.getElem?_cons_zero, List.getElem?_cons_succ, List.set_cons_zero, List.set_cons_succ, List.cons_append, List.nil_append, List.replicate, Nat.sub_self, Nat.reduceSub, Nat.reduceAdd, Nat.zero_add, Option.isNone, if_true, reduceIte, decide_true, Bool.true_and, Bool.and_true, Bool.true_or, Bool.or_true, Bool.false_or, Bool.or_false, Bool.false_and, Bool.and_false, reduceCtorEq, gMaxA, gMax, gMin1, gInt, gGe, gPow_18, gMod, Int.reduceLT]
  rfl
theorem fCell_eq (ns : List Int) (k : Nat) : ∃ c : Int, f__law_cell_at [.klst (ns.map D.int), .int k] = some (.ok (.int c) false, .non) := by
  by_cases h : k < ns.length
  · refine ⟨ns[k], ?_⟩
    have e : atI (ns.map D.int) (k : Int) = some (.int ns[k]) := atI_of (by rw [List.getElem?_map, List.getElem?_eq_getElem h]; rfl)
    have h' : (k : Int) < ((ns.map D.int).length : Nat) := by rw [List.length_map]; omega
    unfold f__law_cell_at s__law_cell_at
    simp only [fnRun, ini, iniL, ioD, sNil, sSeq, sSet, sRet, sRetN, sRetV, sExpr, sIfS, sAsg, sAug, sItem, sMeth, sCall, sOp, sOpT, sC, sVar, sTup, sLst, evA, List.map_cons, List.map_nil, sTru, truD, sNot, sIf, sAnd, sOr, sAndV, sOrV, sNotV, sBl, asgT, asgTs, putIo, noBor, flatR, flatIn, flatD, flatDs, sChain, sFor, sComp, sSeqI, sRng1, sRng2, sEnum, sZip, seqOf, int1, int2, Tg.ge, List.length_cons, List.length_nil, List.getElem?_cons_zero, List.getElem?_cons_succ, List.set_cons_zero, List.set_cons_succ, List.cons_append, List.nil_append, List.replicate, Nat.sub_self, Nat.reduceSub, Nat.reduceAdd, Nat.zero_add, Option.isNone, if_true, reduceIte, decide_true, Bool.true_and, Bool.and_true, Bool.true_or, Bool.or_true, Bool.false_or, Bool.or_false, Bool.false_and, Bool.and_false, reduceCtorEq, gLen, gLt, gIx_klst e, h']
  · refine ⟨0, ?_⟩
    have h' : ¬ (k : Int) < ((ns.map D.int).length : Nat) := by rw [List.length_map]; omega
    unfold f__law_cell_at s__law_cell_at
    simp only [fnRun, ini, iniL, ioD, sNil, sSeq, sSet, sRet, sRetN, sRetV, sExpr, sIfS, sAsg, sAug, sItem, sMeth, sCall, sOp, sOpT, sC, sVar, sTup, sLst, evA, List.map_cons, List.map_nil, sTru, truD, sNot, sIf, sAnd, sOr, sAndV, sOrV, sNotV, sBl, asgT, asgTs, putIo, noBor, flatR, flatIn, flatD, flatDs, sChain, sFor, sComp, sSeqI, sRng1, sRng2, sEnum, sZip, seqOf, int1, int2, Tg.ge, List.length_cons, List.length_nil, List.getElem?_cons_zero, List.getElem?_cons_succ, List.set_cons_zero, List.set_cons_succ, List.cons_append, List.nil_append, List.replicate, Nat.sub_self, Nat.reduceSub, Nat.reduceAdd, Nat.zero_add, Option.isNone, if_true, reduceIte, decide_true, Bool.true_and, Bool.and_true, Bool.true_or, Bool.or_true, Bool.false_or, Bool.or_false, Bool.false_and, Bool.and_false, reduceCtorEq, gLen, gLt, h', decide_false]
theorem uSetL_0 {a b c d : D} : uSetL (.lst [a, b, c]) (.int 0) d = some (.lst [d, b, c]) := rfl
theorem uSetL_2 {a b c d : D} : uSetL (.lst [a, b, c]) (.int 2) d = some (.lst [a, b, d]) := rfl
theorem fDraw_eq (a f s m : Int) (h : 0 < m) (h2 : m < 1073741824) : ∃ r a' f' s' : Int, f__law_draw [penD a f s, .int m] = some (.ok (.int r) false, penD a' f' s') ∧ 0 ≤ r ∧ r < m := by
  by_cases hf : f = 1
  · refine ⟨a % m, a / m, f, s, ?_, Int.emod_nonneg _ (by omega), Int.emod_lt_of_pos _ h⟩
    unfold f__law_draw s__law_draw penD
    simp only [fnRun, ini, iniL, ioD, sNil, sSeq, sSet, sRet, sRetN, sRetV, sExpr, sIfS, sAsg, sAug, sItem, sMeth, sCall, sOp, sOpT, sC, sVar, sTup, sLst, evA, List.map_cons, List.map_nil, sTru, truD, sNot, sIf, sAnd, sOr, sAndV, sOrV, sNotV, sBl, asgT, asgTs, putIo, noBor, flatR, flatIn, flatD, flatDs, sChain, sFor, sComp, sSeqI, sRng1, sRng2, sEnum, sZip, seqOf, int1, int2, Tg.ge, List.length_cons, List.length_nil, List.getElem?_cons_zero, List.getElem?_cons_succ, List.set_cons_zero, List.set_cons_succ, List.cons_append, List.nil_append, List.replicate, Nat.sub_self, Nat.reduceSub, Nat.reduceAdd, Nat.zero_add, Option.isNone, if_true, reduceIte, decide_true, Bool.true_and, Bool.and_true, Bool.true_or, Bool.or_true, Bool.false_or, Bool.or_false, Bool.false_and, Bool.and_false, reduceCtorEq, gEq_int, gIx_lst atI_0, gIx_lst atI_1, gMod_eq h, gFdiv_eq h h2, uSetL_0, hf]
  · refine ⟨nextI (nextI s + 7) / 64 % m, a, f, nextI (nextI s + 7), ?_, Int.emod_nonneg _ (by omega), Int.emod_lt_of_pos _ h⟩
    unfold f__law_draw s__law_draw penD
    simp only [fnRun, ini, iniL, ioD, sNil, sSeq, sSet, sRet, sRetN, sRetV, sExpr, sIfS, sAsg, sAug, sItem, sMeth, sCall, sOp, sOpT, sC, sVar, sTup, sLst, evA, List.map_cons, List.map_nil, sTru, truD, sNot, sIf, sAnd, sOr, sAndV, sOrV, sNotV, sBl, asgT, asgTs, putIo, noBor, flatR, flatIn, flatD, flatDs, sChain, sFor, sComp, sSeqI, sRng1, sRng2, sEnum, sZip, seqOf, int1, int2, Tg.ge, List.length_cons, List.length_nil, List.getElem?_cons_zero, List.getElem?_cons_succ, List.set_cons_zero, List.set_cons_succ, List.cons_append, List.nil_append, List.replicate, Nat.sub_self, Nat.reduceSub, Nat.reduceAdd, Nat.zero_add, Option.isNone, if_true, reduceIte, decide_true, Bool.true_and, Bool.and_true, Bool.true_or, Bool.or_true, Bool.false_or, Bool.or_false, Bool.false_and, Bool.and_false, reduceCtorEq, gEq_int, gIx_lst atI_0, gIx_lst atI_1, gIx_lst atI_2, gMod_eq h, gFdiv_eq (show (0 : Int) < 64 by decide) (by decide), gAdd, uSetL_2, hf, decide_false, fNext_eq]
theorem sLoop_inv {T : Tg} {f : SS} (I : Nat → Rho → Prop) : ∀ (ds : List D) (k : Nat) (ρ : Rho), I k ρ → (∀ i d ρ, ds[i]? = some d → I (k + i) ρ → ∃ ρ1 ρ2, asgT T d ρ = some ρ1 ∧ f ρ1 = some (.nx, ρ2) ∧ I (k + i + 1) ρ2) → ∃ ρ', sLoop T f ds ρ = some (.nx, ρ') ∧ I (k + ds.length) ρ'
  | [], k, ρ, h, _ => ⟨ρ, rfl, h⟩
  | d :: ds, k, ρ, h, hs => by
    obtain ⟨ρ1, ρ2, e1, e2, h2⟩ := hs 0 d ρ rfl h
    obtain ⟨ρ', e3, h3⟩ := sLoop_inv I ds (k + 1) ρ2 h2 fun i d ρ e hi => by
      have := hs (i + 1) d ρ (by simpa using e) (by rw [show k + (i + 1) = k + 1 + i by omega]; exact hi)
      rw [show k + (i + 1) + 1 = k + 1 + i + 1 by omega] at this
      exact this
    refine ⟨ρ', ?_, by rw [List.length_cons, show k + (ds.length + 1) = k + 1 + ds.length by omega]; exact h3⟩
    unfold sLoop
    simp only [e1, e2, e3]
end L2
namespace L2
open PySem PySem.Spec PyProof.Rows
section
variable {ρ ρ1 ρ2 : Rho} {d c c' i : D} {ds : List D} {nw b : Bool} {f g : SE} {p q : ST} {s t : SS} {C : Str}
theorem r_set {j : Nat} {x : Option (D × Md)} (h : f ρ = some (.ok d nw, ρ1)) (hx : ρ1[j]? = some x) (hn : ρ1.set j (some (d, if nw then .ow else .fz)) = ρ2) : sSet j f ρ = some (.nx, ρ2) := by subst hn; unfold sSet; rw [h]; show (match ρ1[j]? with | some _ => _ | none => _) = _; rw [hx]
theorem r_ret (h : f ρ = some (.ok d nw, ρ1)) : sRet f ρ = some (.rt d nw, ρ1) := by unfold sRet; rw [h]
theorem r_expr (h : f ρ = some (.ok d nw, ρ1)) : sExpr f ρ = some (.nx, ρ1) := by unfold sExpr; rw [h]
theorem r_seq {r : Option (Out × Rho)} (h : s ρ = some (.nx, ρ1)) (h2 : t ρ1 = r) : sSeq s t ρ = r := by unfold sSeq; rw [h]; exact h2
theorem r_ifT {r : Option (Out × Rho)} (h : p ρ = some (.ok b, ρ1)) (hb : b = true) (h2 : s ρ1 = r) : sIfS p s t ρ = r := by unfold sIfS; subst hb; rw [h]; exact h2
theorem r_ifF {r : Option (Out × Rho)} (h : p ρ = some (.ok b, ρ1)) (hb : b = false) (h2 : t ρ1 = r) : sIfS p s t ρ = r := by unfold sIfS; subst hb; rw [h]; exact h2
theorem r_nil : sNil ρ = some (.nx, ρ) := rfl
theorem r_asg {T : Tg} (h : f ρ = some (.ok d nw, ρ1)) (h2 : asgT T d ρ1 = some ρ2) : sAsg T f ρ = some (.nx, ρ2) := by unfold sAsg; rw [h]; show (match asgT T d ρ1 with | some ρ2 => _ | none => _) = _; rw [h2]
theorem r_itemO {u : D → D → D → Option D} {j : Nat} {x : D × Md} {nw2 : Bool} (h : f ρ = some (.ok d nw, ρ1)) (h1 : ρ1[j]? = some (some x)) (h2 : g ρ1 = some (.ok i nw2, ρ2)) (h3 : ρ2[j]? = some (some (c, .ow))) (h4 : u c i d = some c') {ρ3 : Rho} (hn : ρ2.set j (some (c', .ow)) = ρ3) : sItem u j f g ρ = some (.nx, ρ3) := by subst hn; unfold sItem; simp only [h, h1, h2, h3, h4]
theorem r_for {it : SI} {T : Tg} {r : Option (Out × Rho)} (h : it ρ = some (.ok ds, ρ1)) (h2 : sLoop T s ds ρ1 = r) : sFor it T s ρ = r := by unfold sFor; rw [h]; exact h2
theorem r_methO {j : Nat} {u : D → List D → Option (D × D)} {fs : List SE} {l : List D} (h0 : ρ[j]? = some (some (.lst l, .ow))) (h1 : evA (fs.map Arg.ex) ρ = some (.ok ds, ρ1)) (h2 : ρ1[j]? = some (some (c, .ow))) (h3 : u c ds = some (c', d)) (hn : ρ1.set j (some (c', .ow)) = ρ2) : sMeth j u fs ρ = some (.ok d false, ρ2) := by subst hn; unfold sMeth; simp only [h0, h1, h2, h3]
theorem r_nilA : evA [] ρ = some (.ok [], ρ) := rfl
theorem r_exA {as : List Arg} (h : f ρ = some (.ok d nw, ρ1)) (h2 : evA as ρ1 = some (.ok ds, ρ2)) : evA (.ex f :: as) ρ = some (.ok (d :: ds), ρ2) := by unfold evA; simp only [h, h2]
theorem r_nilM : evA (List.map Arg.ex []) ρ = some (.ok [], ρ) := rfl
theorem r_exM {fs : List SE} (h : f ρ = some (.ok d nw, ρ1)) (h2 : evA (List.map Arg.ex fs) ρ1 = some (.ok ds, ρ2)) : evA (List.map Arg.ex (f :: fs)) ρ = some (.ok (d :: ds), ρ2) := r_exA h h2
theorem r_borA {as : List Arg} {j : Nat} {x : D × Md} {m : Md} (h : ρ[j]? = some (some x)) (h2 : evA as ρ = some (.ok ds, ρ2)) (h3 : ρ2[j]? = some (some (d, m))) : evA (.bor j :: as) ρ = some (.ok (d :: ds), ρ2) := by unfold evA; simp only [h, h2, h3]
theorem r_op {o : List D → Option (D × Bool)} {as : List Arg} (h : evA as ρ = some (.ok ds, ρ1)) (h2 : o ds = some (d, nw)) : sOp o as ρ = some (.ok d nw, ρ1) := by unfold sOp; simp only [h, h2]
theorem r_opT {o : List D → Option (D × Bool)} {as : List Arg} (h : evA as ρ = some (.ok ds, ρ1)) (h2 : o ds = some (.bl b, nw)) : sOpT o as ρ = some (.ok b, ρ1) := by unfold sOpT; rw [r_op h h2]
theorem r_tru {a : Arg} (h : evA [a] ρ = some (.ok [d], ρ1)) (h2 : truD d = some b) : sTru a ρ = some (.ok b, ρ1) := by unfold sTru; simp only [h, h2]
theorem r_not (h : p ρ = some (.ok b, ρ1)) : sNot p ρ = some (.ok (!b), ρ1) := by unfold sNot; rw [h]
theorem r_orF {r : Option (ResT × Rho)} (h : p ρ = some (.ok b, ρ1)) (hb : b = false) (h2 : q ρ1 = r) : sOr p q ρ = r := by unfold sOr; subst hb; rw [h]; exact h2
theorem r_c : sC d ρ = some (.ok d false, ρ) := rfl
theorem r_varF {j : Nat} (h : ρ[j]? = some (some (d, .fz))) : sVar j ρ = some (.ok d false, ρ) := by unfold sVar; rw [h]
theorem r_varO {j : Nat} (h : ρ[j]? = some (some (d, .ow))) (hn : ρ.set j (some (d, .fz)) = ρ1) : sVar j ρ = some (.ok d false, ρ1) := by subst hn; unfold sVar; rw [h]
theorem r_retF {j : Nat} (h : ρ[j]? = some (some (d, .fz))) : sRetV j ρ = some (.rt d false, ρ) := by unfold sRetV; rw [h]
theorem r_tup {fs : List SE} (h : evA (fs.map Arg.ex) ρ = some (.ok ds, ρ1)) : sTup fs ρ = some (.ok (.tup ds) false, ρ1) := by unfold sTup; rw [h]
theorem r_lst {fs : List SE} (h : evA (fs.map Arg.ex) ρ = some (.ok ds, ρ1)) : sLst fs ρ = some (.ok (.lst ds) true, ρ1) := by unfold sLst; rw [h]
theorem r_seqI {l : List D} (h : f ρ = some (.ok d nw, ρ1)) (h2 : seqOf d = some l) : sSeqI f ρ = some (.ok l, ρ1) := by unfold sSeqI; simp only [h, h2]
theorem r_rng1 {x : Arg} {j : Int} (h : evA [x] ρ = some (.ok [.int j], ρ1)) (o : okR 0 j = true) : sRng1 x ρ = some (.ok (rngL 0 j.toNat), ρ1) := by
  unfold sRng1; rw [h]; show (if okR 0 j = true then some (ResA.ok (rngL 0 j.toNat), ρ1) else none) = _; rw [if_pos o]
theorem r_comp {k : Nat} {it : SI} {T : Tg} {e : Option ST} {ys : List D} (h1 : it ρ = some (.ok ds, ρ1)) (h2 : Tg.ge ρ1.length T = true) (h3 : sCompL k T e f ds ρ1 = some (ys, ρ2)) : sComp k it T e f ρ = some (.ok (.lst ys) true, ρ2) := by
  unfold sComp; rw [h1]; show (if Tg.ge ρ1.length T = true then _ else none) = _; rw [if_pos h2, h3]
theorem r_call {as : List Arg} {run : FS} {x : D} (h : evA as ρ = some (.ok ds, ρ1)) (h2 : run ds = some (.ok d nw, x)) (h3 : (noBor none 0 as ρ1 || (flatR d nw && ((none : Option Nat).isNone || flatIn x))) = true) : sCall none none run as ρ = some (.ok d nw, ρ1) := by
  unfold sCall; simp only [h, h2]; rw [if_pos h3]; rfl
theorem r_callIo {k j : Nat} {as : List Arg} {run : FS} {x : D} (h : evA as ρ = some (.ok ds, ρ1)) (h2 : run ds = some (.ok d nw, x)) (h3 : (noBor (some k) 0 as ρ1 || (flatR d nw && ((some k).isNone || flatIn x))) = true) (h4 : putIo (some j) x ρ1 = some ρ2) : sCall (some k) (some j) run as ρ = some (.ok d nw, ρ2) := by
  unfold sCall; simp only [h, h2]; rw [if_pos h3, h4]
theorem r_chain {o o' : List D → Option (D × Bool)} {f3 : SE} {x y z : D} {b2 : Bool} (h : evA [.ex f, .ex g] ρ = some (.ok [x, y], ρ1)) (h1 : o [x, y] = some (.bl b, false)) (h2 : f3 ρ1 = some (.ok z nw, ρ1)) (h3 : o' [y, z] = some (.bl b2, false)) : sChain o o' f g f3 ρ = some (.ok (.bl (b && b2)) false, ρ1) := by
  unfold sChain; simp only [h, h1]
  cases b with
  | true => simp only [h2, h3, Bool.true_and]
  | false => rfl
theorem r_andVT {r : Option (Res × Rho)} (h : f ρ = some (.ok (.bl b) nw, ρ1)) (hb : b = true) (h2 : g ρ1 = r) : sAndV f g ρ = r := by unfold sAndV; subst hb; rw [h]; exact h2
theorem r_andV {b2 : Bool} (h : f ρ = some (.ok (.bl b) nw, ρ1)) (h2 : g ρ1 = some (.ok (.bl b2) false, ρ1)) : sAndV f g ρ = some (.ok (.bl (b && b2)) false, ρ1) := by
  unfold sAndV; rw [h]
  cases b with
  | true => exact h2
  | false => rfl
theorem r_notV (h : f ρ = some (.ok (.bl b) nw, ρ1)) : sNotV f ρ = some (.ok (.bl (!b)) false, ρ1) := by unfold sNotV; rw [h]
theorem r_ieT {r : Option (Res × Rho)} (h : p ρ = some (.ok b, ρ1)) (hb : b = true) (h2 : f ρ1 = r) : sIf p f g ρ = r := by unfold sIf; subst hb; rw [h]; exact h2
section
variable {np n : Nat} {body : SS} {io : Option Nat} {x : D}
theorem r_fn (hi : ini n io ds = ρ) (h : body ρ = some (.rt d nw, ρ1)) (hx : ioD io ρ1 = some x) (hl : ds.length = np) : fnRun np n io body ds = some (.ok d nw, x) := by subst hi; unfold fnRun; rw [if_pos hl, h]; show (match ioD io ρ1 with | some x => _ | none => _) = _; rw [hx]
theorem r_fnN (hi : ini n io ds = ρ) (h : body ρ = some (.nx, ρ1)) (hx : ioD io ρ1 = some x) (hl : ds.length = np) : fnRun np n io body ds = some (.ok .non false, x) := by subst hi; unfold fnRun; rw [if_pos hl, h]; show (match ioD io ρ1 with | some x => _ | none => _) = _; rw [hx]
end
end
theorem sCompL_of {α : Type} {k : Nat} {T : Tg} {f : SE} {ρ : Rho} {inj g : α → D} : ∀ (xs : List α), (∀ x ∈ xs, ∃ ρ1 ρ3 nw, asgT T (inj x) (ρ ++ List.replicate k none) = some ρ1 ∧ f ρ1 = some (.ok (g x) nw, ρ3) ∧ ρ3.take ρ.length = ρ) → sCompL k T none f (xs.map inj) ρ = some (xs.map g, ρ)
  | [], _ => rfl
  | x :: xs, h => by
    obtain ⟨ρ1, ρ3, nw, e1, e2, e3⟩ := h x List.mem_cons_self
    rw [List.map_cons]
    unfold sCompL
    simp only [e1, evC, e2, e3, sCompL_of xs fun d hd => h d (List.mem_cons_of_mem _ hd), List.map_cons]
theorem gAll_bls (bs : List Bool) : gAll [.lst (bs.map D.bl)] = some (.bl (bs.all id), false) := by unfold gAll; simp only [blsOf_map]
theorem gSet_ints (ns : List Int) (h : ns.length ≤ 1000) : gSet [.tup (ns.map D.int)] = some (.set (dd ns), false) := by unfold gSet; simp only [intsOf_map, h, decide_true, if_true]
theorem dd_len (ns : List Int) : (dd ns).length ≤ ns.length := by
  unfold dd
  have : ∀ (l acc : List Int), (l.foldl step_dedup acc).length ≤ acc.length + l.length := by
    intro l
    induction l with
    | nil => intro acc; simp
    | cons x l ih =>
      intro acc
      have h1 : (step_dedup acc x).length ≤ acc.length + 1 := by
        unfold step_dedup
        split <;> simp
      have := ih (step_dedup acc x)
      rw [List.foldl_cons, List.length_cons]
      omega
  have := this ns []
  simpa using this
theorem gLen_set (ns : List Int) (h : ns.length ≤ 1000) : gLen [.set (dd ns)] = some (.int (dd ns).length, false) := by
  have := dd_len ns
  unfold gLen
  simp only [show (dd ns).length ≤ 1000 by omega, decide_true, if_true]
theorem gMaxA_lst (ns : List Int) (h : ns ≠ []) : gMaxA [.lst (ns.map D.int)] = some (.int (maxI ns), false) := by
  unfold gMaxA gMax
  cases ns with
  | nil => exact absurd rfl h
  | cons n ns => simp only [intsOf_map]
theorem gMinA_lst (ns : List Int) (h : ns ≠ []) : gMinA [.lst (ns.map D.int)] = some (.int (minI ns), false) := by
  unfold gMinA gMin
  cases ns with
  | nil => exact absurd rfl h
  | cons n ns => simp only [intsOf_map]
theorem atI_ints {ns : List Int} {i : Int} (h0 : 0 ≤ i) (h1 : i < ns.length) : atI (ns.map D.int) i = some (.int (ns.getD i.toNat 0)) := by
  obtain ⟨k, rfl⟩ : ∃ k : Nat, i = k := ⟨i.toNat, by omega⟩
  have hk : k < ns.length := by omega
  refine atI_of ?_
  rw [List.getElem?_map, List.getElem?_eq_getElem hk]
  simp [hk]
theorem small_of {n : Nat} (h : n ≤ 1000) : small n = true := by unfold small; exact decide_eq_true (by omega)
theorem okR_of {lo hi : Int} (h1 : -1000000 ≤ lo) (h2 : lo ≤ 1000000) (h3 : -1000000 ≤ hi) (h4 : hi ≤ 1000000) (h5 : hi - lo ≤ 1000000) : okR lo hi = true := by
  unfold okR
  refine decide_eq_true ⟨?_, ?_, ?_, ?_, ?_⟩ <;> omega
theorem el_mk {k : Nat} {T : Tg} {f : SE} {ρ ρ1 ρ3 : Rho} {d y y' : D} {nw : Bool} (h1 : asgT T d (ρ ++ List.replicate k none) = some ρ1) (h2 : f ρ1 = some (.ok y' nw, ρ3)) (h3 : ρ3.take ρ.length = ρ) (hy : y' = y) : ∃ ρ1 ρ3 nw, asgT T d (ρ ++ List.replicate k none) = some ρ1 ∧ f ρ1 = some (.ok y nw, ρ3) ∧ ρ3.take ρ.length = ρ := ⟨ρ1, ρ3, nw, h1, by rw [← hy]; exact h2, h3⟩
theorem lp_mk {T : Tg} {f : SS} {ρ ρ1 ρ2 : Rho} {d : D} {I : Rho → Prop} (h1 : asgT T d ρ = some ρ1) (h2 : f ρ1 = some (.nx, ρ2)) (h3 : I ρ2) : ∃ ρ1 ρ2, asgT T d ρ = some ρ1 ∧ f ρ1 = some (.nx, ρ2) ∧ I ρ2 := ⟨ρ1, ρ2, h1, h2, h3⟩
end L2
namespace L2
open PySem PySem.Spec PyProof.Rows
theorem Fun.okX {P : Program} {w : World} {K : PySem.W.Frag} {mg : Str → Option Value} {base : Heap} {x : Str} {st : Stmt} {N ps : List Str} {k : Nat} {sp : Sp} {f : Addr} {fd : FuncData} (F : Fun K x x st f fd) (S : FnScope N ps (defScope st)) (len : ∀ vs H Q E, sp vs H Q E → vs.length = ps.length)
    (hbody : ∀ (f : Addr) (cdv : Value) (A : Around) (outer : List Env) (s : Shared) (H : Hp) (vs : List V) (Q : VK) (E : XK), Room k (A.deeper (envOfC x (defScope st) s.heap.objs.size f cdv)) → sp vs H Q E →
      ∃ t, PSs (cxOf (CXr P w) P w K mg base N x (defScope st) f cdv A outer s H E) (defBody st) t ∧ t { nx := fun _ H' => Q .non H', rt := Q } (start N vs) H) : FnOk P w K mg base (CXr P w) (k + 1) f fd ps sp := by
  obtain ⟨oc, od, kV, doc, pm, an, cdv, ct, osl, rfl, lk, hcd⟩ := F.ex
  exact fn_of lk hcd S len fun A outer s H vs Q E hr hsp => hbody f cdv A outer s H vs Q E hr hsp
theorem fn_okF {f0 : Addr} {fd0 : FuncData} {P : Program} {w : World} {K : PySem.W.Frag} {mg : Str → Option Value} {base : Heap} {x : Str} {st : Stmt} {N ps : List Str} {k : Nat} {io : Option Nat} {body : SS} (h : Fun K x x st f0 fd0) (S : FnScope N ps (defScope st))
    (hb : ∀ (f : Addr) (cdv : Value) (A : Around) (outer : List Env) (s : Shared) (H : Hp) (E : XK), Room k (A.deeper (envOfC x (defScope st) s.heap.objs.size f cdv)) →
      JSs (cxOf (CXr P w) P w K mg base N x (defScope st) f cdv A outer s H E) (EXf K E) (defBody st) body) (hps : ps.length ≤ N.length := by decide) : FnOk P w K mg base (CXr P w) (k + 1) f0 fd0 ps (spF K io (fnRun ps.length N.length io body)) := by
  have run_len : ∀ {ds : List D} {r : Res × D}, fnRun ps.length N.length io body ds = some r → ds.length = ps.length := fun {ds r} e => by
    unfold fnRun at e
    split at e
    · assumption
    · cases e
  refine Fun.okX h S (fun vs H Q E hs => ?_) (fun f cdv A outer s H vs Q E hr hs => ?_)
  · obtain ⟨Z, W, ds, h1, _, _, _, _, _, hm⟩ := hs
    cases e : fnRun ps.length N.length io body ds with
    | none => rw [e] at hm; exact hm.elim
    | some r => rw [h1]; exact run_len e
  · obtain ⟨Z, W, ds, h1, hwz, hmt, hfz, hio, hno, hm⟩ := hs
    refine ⟨_, (hb f cdv A outer s H E hr).p, ?_⟩
    have hlen : ds.length = ps.length := by
      cases e : fnRun ps.length N.length io body ds with
      | none => rw [e] at hm; exact hm.elim
      | some r => exact run_len e
    let F : Fx := ⟨Z, fun j => if io = some j then W.head? else none⟩
    have st_get : ∀ {j : Nat} {v : V}, vs[j]? = some v → (start N vs)[j]? = some (some v) := fun {j v} e => by
      unfold start
      rw [List.getElem?_append_left (by rw [List.length_map]; exact (List.getElem?_eq_some_iff.mp e).1), List.getElem?_map, e]
      rfl
    have R0 : Rel K F (start N vs) H (ini N.length io ds) W := by
      refine ⟨fun i d m hi => ?_, fun i j d e m n p g1 g2 g3 g4 _ _ => ?_, hwz, hmt, ?_⟩
      · obtain ⟨hd, rfl⟩ := ini_get hi
        have hv : i < vs.length := by rw [h1]; exact (List.getElem?_eq_some_iff.mp hd).1
        refine ⟨vs[i], st_get (List.getElem?_eq_getElem hv), ?_⟩
        by_cases e : io = some i
        · rw [if_pos e]
          obtain ⟨p, d', q1, q2, q3, q4⟩ := hio i e
          rw [List.getElem?_eq_getElem hv] at q1
          rw [hd] at q2
          cases q2
          refine ⟨p, Option.some.inj q1, by rw [q3]; exact List.mem_cons_self, q4, ?_⟩
          show (if io = some i then W.head? else none) = some p
          rw [if_pos e, q3]
          rfl
        · rw [if_neg e]
          exact hfz i d _ e hd (List.getElem?_eq_getElem hv)
      · obtain ⟨_, e1⟩ := ini_get g1
        obtain ⟨_, e2⟩ := ini_get g3
        by_cases z1 : io = some i
        · by_cases z2 : io = some j
          · rw [z1] at z2; exact Option.some.inj z2
          · rw [if_neg z2] at e2; exact absurd e2 g4
        · rw [if_neg z1] at e1; exact absurd e1 g2
      · unfold start ini
        rw [List.length_append, List.length_append, List.length_map, List.length_replicate, List.length_replicate, iniL_len, h1]
    refine ⟨F, _, W, R0, ?_⟩
    -- what the list that may be changed has become
    have ioR : ∀ {σ' : St} {H' : Hp} {ρ' : Rho} {W' : List Addr} {x : D} {p : Addr}, Rel K F σ' H' ρ' W' → ioD io ρ' = some x → W = [p] → p ∈ W' ∧ OwnAt K H' (hid (W' ++ Z) H') p x := fun {σ' H' ρ' W' x p} R e hW => by
      cases hk : io with
      | none => rw [hno hk] at hW; cases hW
      | some k =>
        unfold ioD at e
        rw [hk] at e
        dsimp only at e
        split at e
        · rename_i d0 e0
          cases e
          obtain ⟨v, g1, q, g2, g3, g4, g5⟩ := R.slot k _ _ e0
          have g5 : (if io = some k then W.head? else none) = some q := g5
          rw [if_pos hk, hW] at g5
          have : p = q := Option.some.inj g5
          subst this
          exact ⟨g3, g4⟩
        · cases e
    have wsub : ∀ {σ' : St} {H' : Hp} {ρ' : Rho} {W' : List Addr} {x : D}, Rel K F σ' H' ρ' W' → ioD io ρ' = some x → ∀ b, b ∈ W ++ Z → b ∈ W' ++ Z := fun {σ' H' ρ' W' x} R e b hb => by
      rcases List.mem_append.mp hb with z | z
      · cases hk : io with
        | none => rw [hno hk] at z; cases z
        | some k =>
          obtain ⟨p, d, _, _, q3, _⟩ := hio k hk
          rw [q3] at z
          rw [List.mem_singleton.mp z]
          exact List.mem_append_left _ (ioR R e q3).1
      · exact List.mem_append_right _ z
    have toW : ∀ {σ' : St} {H' H2 : Hp} {ρ' : Rho} {W' : List Addr} {x : D}, Rel K F σ' H2 ρ' W' → ioD io ρ' = some x → Same (hid (W' ++ Z) H') (hid (W ++ Z) H') := fun R e => hid_same (fun b hb => .inl (wsub R e b hb)) fun b o _ z => z
    revert hm
    unfold fnRun
    rw [if_pos hlen]
    cases body (ini N.length io ds) with
    | none => exact fun h => h.elim
    | some r =>
      obtain ⟨r, ρ'⟩ := r
      cases r with
      | bk => exact fun h => h.elim
      | ct => exact fun h => h.elim
      | nx =>
        dsimp only
        cases e : ioD io ρ' with
        | none => exact fun h => h.elim
        | some x =>
          intro hm σ' H' W' fr sub R
          exact hm .non H' fr rfl fun p hp => (ioR R e hp).2.at rfl (toW R e)
      | ex C =>
        dsimp only
        cases e : ioD io ρ' with
        | none => exact fun h => h.elim
        | some x =>
          intro hm σ' H' W' fr sub R
          exact hm H' fr fun p hp => (ioR R e hp).2.at rfl (toW R e)
      | rt d nw =>
        dsimp only
        cases e : ioD io ρ' with
        | none => exact fun h => h.elim
        | some x =>
          cases nw with
          | false =>
            intro hm σ' v H' W' fr sub P
            exact hm v H' fr ((toW P.2 e).repD P.1) fun p hp => (ioR P.2 e hp).2.at rfl (toW P.2 e)
          | true =>
            intro hm σ' v H' W' fr sub P
            obtain ⟨q, rfl, hq, hn, hO, R⟩ := P
            have hq0 : H q = none := by
              rcases hq with z | z
              · cases hk : io with
                | none => rw [hno hk] at z; cases z
                | some k =>
                  obtain ⟨p, d', _, _, q3, _⟩ := hio k hk
                  rw [q3] at z
                  have : q = p := List.mem_singleton.mp z
                  subst this
                  exact absurd (List.mem_append_left _ (ioR R e q3).1) hn
              · exact z
            have cs : Same (hid (q :: (W' ++ Z)) H') (hid (q :: (W ++ Z)) H') := hid_same (fun b hb => .inl (by
              rcases List.mem_cons.mp hb with z | z
              · rw [z]; exact List.mem_cons_self
              · exact List.mem_cons_of_mem _ (wsub R e b z))) fun b o _ z => z
            refine hm q H' fr hq0 (hO.at rfl cs) fun p hp => ?_
            obtain ⟨m1, m2⟩ := ioR R e hp
            have pq : p ≠ q := fun z => by subst z; exact hn (List.mem_append_left _ m1)
            refine m2.at (hid_ne (by simpa using pq)).symm fun b o z => ?_
            obtain ⟨z1, z2⟩ := hid_some z
            obtain ⟨z3, z4⟩ := hid_some z2
            rw [hid_ne (fun y => by
              rcases List.mem_cons.mp y with y | y
              · exact z3 (by simpa using y)
              · exact z1 (wsub R e b y))]
            exact z4
end L2
namespace Srt
open PySem PySem.W PyProof.Rows
def Tru {α : Type} (lt : Nat → Nat → Bool) (P : α → Prop) : KasT α → Prop
  | .ret a => P a
  | .ask i j k => Tru lt P (k (lt i j))
theorem Tru.bind {α β : Type} {lt : Nat → Nat → Bool} {P : β → Prop} {f : α → KasT β} : ∀ {t : KasT α}, Tru lt (fun a => Tru lt P (f a)) t → Tru lt P (t.bind f)
  | .ret _, h => h
  | .ask i j k, h => Tru.bind (t := k (lt i j)) h
theorem Tru.mono {α : Type} {lt : Nat → Nat → Bool} {P P' : α → Prop} (hp : ∀ a, P a → P' a) : ∀ {t : KasT α}, Tru lt P t → Tru lt P' t
  | .ret a, h => hp a h
  | .ask i j k, h => Tru.mono hp (t := k (lt i j)) h
theorem both {α : Type} {n : Nat} {lt : Nat → Nat → Bool} {P P' : α → Prop} {cmp : Nat → Nat → (Bool → Shared → Prop) → Shared → Prop} {Q : α → Shared → Prop} {s : Shared}
    (hc : ∀ i j C, i < n → j < n → C (lt i j) s → cmp i j C s) (hq : ∀ a, P a → P' a → Q a s) : ∀ {t : KasT α}, All n P t → Tru lt P' t → t.kasWp cmp Q s
  | .ret a, h, g => hq a h g
  | .ask i j k, ⟨h1, h2, h3⟩, g => hc i j _ h1 h2 (both hc hq (h3 _) g)
structure Ord (lt : Nat → Nat → Bool) : Prop where
  asym : ∀ a b, lt a b = true → lt b a = false
  trans : ∀ a b c, lt b a = false → lt c b = false → lt c a = false
section
variable {lt : Nat → Nat → Bool} (O : Ord lt)
theorem Ord.refl (O : Ord lt) (a : Nat) : lt a a = false := by
  cases h : lt a a with
  | false => rfl
  | true => exact absurd (O.asym a a h) (by rw [h]; decide)
abbrev Le (lt : Nat → Nat → Bool) (a b : Nat) : Prop := lt b a = false
abbrev at_ (p : Array Nat) (i : Nat) : Nat := p.getD i 0
def Asc (lt : Nat → Nat → Bool) (p : Array Nat) (m : Nat) : Prop := ∀ i j, i ≤ j → j < m → Le lt (at_ p i) (at_ p j)
def Des (lt : Nat → Nat → Bool) (p : Array Nat) (m : Nat) : Prop := ∀ i j, i ≤ j → j < m → Le lt (at_ p j) (at_ p i)
def Eqv (lt : Nat → Nat → Bool) (p : Array Nat) (a b : Nat) : Prop := ∀ i j, a ≤ i → i < b → a ≤ j → j < b → Le lt (at_ p i) (at_ p j)
theorem at_rev {p : Array Nat} {i j : Nat} (hj : j ≤ p.size) (k : Nat) : at_ (kas_rev p i j) k = if i ≤ k ∧ k < j then at_ p (i + j - 1 - k) else at_ p k := by
  have h := getElem?_mirror_all (xs := p) (i := i) hj k
  show (kas_rev p i j).getD k 0 = _
  unfold kas_rev at_
  rw [Array.getD_eq_getD_getElem?, h]
  split <;> rw [Array.getD_eq_getD_getElem?]
theorem at_bub {p : Array Nat} {k l : Nat} (hk : k < p.size) (hl : l ≤ k) (t : Nat) : at_ (bubble p k (k - l)) t = if t = l then at_ p k else if l < t ∧ t ≤ k then at_ p (t - 1) else at_ p t := by
  have h := getElem?_bubble (xs := p) hk (k - l) (by omega) t
  rw [show k - (k - l) = l by omega] at h
  show (bubble p k (k - l)).getD t 0 = _
  rw [Array.getD_eq_getD_getElem?, h]
  by_cases h1 : t = l
  · rw [if_pos h1, if_pos h1, ← Array.getD_eq_getD_getElem?]
  · rw [if_neg h1, if_neg h1]
    by_cases h2 : l < t ∧ t ≤ k
    · rw [if_pos h2, if_pos h2, ← Array.getD_eq_getD_getElem?]
    · rw [if_neg h2, if_neg h2, ← Array.getD_eq_getD_getElem?]
include O
theorem Asc.snoc {p : Array Nat} {n : Nat} (h : Asc lt p n) (h1 : 1 ≤ n) (hn : Le lt (at_ p (n - 1)) (at_ p n)) : Asc lt p (n + 1) := fun i j hij hj => by
  by_cases e : j = n
  · subst e
    by_cases e2 : i = j
    · subst e2; exact O.refl _
    · exact O.trans _ _ _ (h i (j - 1) (by omega) (by omega)) hn
  · exact h i j hij (by omega)
theorem Des.snoc {p : Array Nat} {n : Nat} (h : Des lt p n) (h1 : 1 ≤ n) (hn : Le lt (at_ p n) (at_ p (n - 1))) : Des lt p (n + 1) := fun i j hij hj => by
  by_cases e : j = n
  · subst e
    by_cases e2 : i = j
    · subst e2; exact O.refl _
    · exact O.trans _ _ _ hn (h i (j - 1) (by omega) (by omega))
  · exact h i j hij (by omega)
theorem asc_ok {p : Array Nat} : ∀ f n, 1 ≤ n → Asc lt p n → Tru lt (fun m => n ≤ m ∧ m ≤ n + f ∧ Asc lt p m ∧ (m = n + f ∨ lt (at_ p m) (at_ p (m - 1)) = true)) (kas_asc p f n)
  | 0, n, h1, h => ⟨Nat.le_refl _, Nat.le_refl _, h, .inl rfl⟩
  | f + 1, n, h1, h => by
    show Tru lt _ (if lt (at_ p n) (at_ p (n - 1)) = true then KasT.ret n else kas_asc p f (n + 1))
    by_cases c : lt (at_ p n) (at_ p (n - 1)) = true
    · rw [if_pos c]
      exact ⟨Nat.le_refl _, by omega, h, .inr c⟩
    · rw [if_neg c]
      exact (asc_ok f (n + 1) (by omega) (h.snoc O h1 (by simpa using c))).mono fun m ⟨a, b, c, d⟩ => ⟨by omega, by omega, c, d.imp (fun z => by omega) id⟩
theorem desc_ok : ∀ f (p : Array Nat) n q, 1 ≤ n → q + 1 ≤ n → n + f ≤ p.size → Des lt p n → Eqv lt p (n - (q + 1)) n →
    Tru lt (fun r => n ≤ r.2.1 ∧ r.2.1 ≤ n + f ∧ r.2.2 + 1 ≤ r.2.1 ∧ r.1.size = p.size ∧ Des lt r.1 r.2.1 ∧ Eqv lt r.1 (r.2.1 - (r.2.2 + 1)) r.2.1) (kas_desc f p n q)
  | 0, p, n, q, h1, hq, hs, hd, he => ⟨Nat.le_refl _, Nat.le_refl _, hq, rfl, hd, he⟩
  | f + 1, p, n, q, h1, hq, hs, hd, he => by
    have one : ∀ (p' : Array Nat), Eqv lt p' (n + 1 - (0 + 1)) (n + 1) := fun p' i j a b c d => by
      have : i = j := by omega
      subst this
      exact O.refl _
    show Tru lt _ (if lt (at_ p n) (at_ p (n - 1)) = true then (if q > 0 then kas_desc f (kas_rev p (n - (q + 1)) n) (n + 1) 0 else kas_desc f p (n + 1) 0)
      else KasT.ask (at_ p (n - 1)) (at_ p n) fun d => if d = true then .ret (p, n, q) else kas_desc f p (n + 1) (q + 1))
    by_cases c : lt (at_ p n) (at_ p (n - 1)) = true
    · rw [if_pos c]
      have hle : Le lt (at_ p n) (at_ p (n - 1)) := O.asym _ _ c
      by_cases q0 : q > 0
      · rw [if_pos q0]
        have hn : n ≤ p.size := by omega
        have sz : (kas_rev p (n - (q + 1)) n).size = p.size := mirror_size _ _ _ _
        have R := at_rev (p := p) (i := n - (q + 1)) hn
        have D : Des lt (kas_rev p (n - (q + 1)) n) (n + 1) := fun i j hij hj => by
          rw [R i, R j]
          by_cases ej : j = n
          · subst ej
            rw [if_neg (by omega : ¬ (j - (q + 1) ≤ j ∧ j < j))]
            split
            · exact O.trans _ _ _ hle (hd _ (j - 1) (by omega) (by omega))
            · by_cases ei : i = j
              · subst ei; exact O.refl _
              · exact O.trans _ _ _ hle (hd _ (j - 1) (by omega) (by omega))
          · by_cases si : n - (q + 1) ≤ i ∧ i < n
            · rw [if_pos si, if_pos (by omega : n - (q + 1) ≤ j ∧ j < n)]
              exact he _ _ (by omega) (by omega) (by omega) (by omega)
            · rw [if_neg si]
              split
              · exact hd _ _ (by omega) (by omega)
              · exact hd _ _ hij (by omega)
        exact (desc_ok f _ (n + 1) 0 (by omega) (by omega) (by rw [sz]; omega) D (one _)).mono fun r ⟨a, b, c, d, e, g⟩ => ⟨by omega, by omega, c, d.trans sz, e, g⟩
      · rw [if_neg q0]
        exact (desc_ok f p (n + 1) 0 (by omega) (by omega) (by omega) (hd.snoc O h1 hle) (one _)).mono fun r ⟨a, b, c, d, e, g⟩ => ⟨by omega, by omega, c, d, e, g⟩
    · rw [if_neg c]
      have c : lt (at_ p n) (at_ p (n - 1)) = false := by simpa using c
      show Tru lt _ (if lt (at_ p (n - 1)) (at_ p n) = true then KasT.ret (p, n, q) else kas_desc f p (n + 1) (q + 1))
      by_cases d : lt (at_ p (n - 1)) (at_ p n) = true
      · rw [if_pos d]
        exact ⟨Nat.le_refl _, Nat.le_add_right _ _, hq, rfl, hd, he⟩
      · rw [if_neg d]
        have d : lt (at_ p (n - 1)) (at_ p n) = false := by simpa using d
        have E : Eqv lt p (n + 1 - (q + 1 + 1)) (n + 1) := fun i j a b a2 b2 => by
          by_cases ei : i = n
          · by_cases ej : j = n
            · rw [ei, ej]; exact O.refl _
            · rw [ei]
              exact O.trans _ _ _ d (he (n - 1) j (by omega) (by omega) (by omega) (by omega))
          · by_cases ej : j = n
            · rw [ej]
              exact O.trans _ _ _ (he i (n - 1) (by omega) (by omega) (by omega) (by omega)) c
            · exact he i j (by omega) (by omega) (by omega) (by omega)
        exact (desc_ok f p (n + 1) (q + 1) (by omega) (by omega) (by omega) (hd.snoc O h1 d) E).mono fun r ⟨a, b, c, d, e, g⟩ => ⟨by omega, by omega, c, d, e, g⟩
theorem tail3_ok {p : Array Nat} {n N : Nat} (h1 : 1 ≤ n) (hn : n ≤ N) (hs : p.size = N) (hd : Des lt p n) : Tru lt (fun r : Nat × Array Nat => 1 ≤ r.1 ∧ r.1 ≤ N ∧ r.2.size = N ∧ Asc lt r.2 r.1) (kas_tail3 n N p) := by
  unfold kas_tail3
  have sz : (kas_rev p 0 n).size = p.size := mirror_size _ _ _ _
  have R := at_rev (p := p) (i := 0) (j := n) (by omega)
  have A : Asc lt (kas_rev p 0 n) n := fun i j hij hj => by
    rw [R i, R j, if_pos (by omega), if_pos (by omega)]
    exact hd _ _ (by omega) (by omega)
  exact ((asc_ok O (N - n) n h1 A).mono fun m ⟨a, b, c, _⟩ => (show 1 ≤ m ∧ m ≤ N ∧ (kas_rev p 0 n).size = N ∧ Asc lt (kas_rev p 0 n) m from ⟨by omega, by omega, sz.trans hs, c⟩)).bind
theorem descPart_ok {p : Array Nat} {n N : Nat} (h1 : 1 ≤ n) (hn : n + 1 ≤ N) (hs : p.size = N) (hd : Des lt p (n + 1)) : Tru lt (fun r : Nat × Array Nat => 1 ≤ r.1 ∧ r.1 ≤ N ∧ r.2.size = N ∧ Asc lt r.2 r.1) (kas_descPart n N p) := by
  unfold kas_descPart
  refine ((desc_ok O (N - (n + 1)) p (n + 1) 0 (by omega) (by omega) (by omega) hd (fun i j a b c d => by
    have : i = j := by omega
    subst this
    exact O.refl _)).mono fun r ⟨a, b, c, d, e, g⟩ => ?_).bind
  by_cases q : r.2.2 > 0
  · rw [if_pos q]
    have hz : r.2.1 ≤ r.1.size := by omega
    have R := at_rev (p := r.1) (i := r.2.1 - (r.2.2 + 1)) (j := r.2.1) hz
    refine tail3_ok O (by omega) (by omega) ((mirror_size _ _ _ _).trans (d.trans hs)) fun i j hij hj => ?_
    rw [R i, R j]
    by_cases si : r.2.1 - (r.2.2 + 1) ≤ i ∧ i < r.2.1
    · rw [if_pos si, if_pos (by omega)]
      exact g _ _ (by omega) (by omega) (by omega) (by omega)
    · rw [if_neg si]
      split
      · exact e _ _ (by omega) (by omega)
      · exact e _ _ hij hj
  · rw [if_neg q]
    exact tail3_ok O (by omega) (by omega) (d.trans hs) e
theorem count_ok {p : Array Nat} {N : Nat} (hN : 1 ≤ N) (hs : p.size = N) : Tru lt (fun r : Nat × Array Nat => 1 ≤ r.1 ∧ r.1 ≤ N ∧ r.2.size = N ∧ Asc lt r.2 r.1) (kas_count N p) := by
  unfold kas_count
  refine ((asc_ok O (p := p) (N - 1) 1 (Nat.le_refl _) (fun i j a b => by
    have : i = j := by omega
    subst this
    exact O.refl _)).mono fun n ⟨a, b, c, d⟩ => ?_).bind
  by_cases e : (n == N) = true
  · rw [if_pos e]
    exact ⟨a, by omega, hs, c⟩
  · rw [if_neg e]
    have ne : n ≠ N := by simpa using e
    have hl : lt (at_ p n) (at_ p (n - 1)) = true := d.resolve_left (by omega)
    by_cases n1 : n > 1
    · rw [if_pos n1]
      show Tru lt _ (if lt (at_ p 0) (at_ p (n - 1)) = true then _ else _)
      by_cases z : lt (at_ p 0) (at_ p (n - 1)) = true
      · rw [if_pos z]
        exact ⟨a, by omega, hs, c⟩
      · rw [if_neg z]
        have z : lt (at_ p 0) (at_ p (n - 1)) = false := by simpa using z
        have R := at_rev (p := p) (i := 0) (j := n) (by omega)
        have ev : ∀ i j, i < n → j < n → Le lt (at_ p i) (at_ p j) := fun i j hi hj =>
          O.trans _ _ _ (c i (n - 1) (by omega) (by omega)) (O.trans _ _ _ z (c 0 j (by omega) hj))
        refine descPart_ok O (by omega) (by omega) ((mirror_size _ _ _ _).trans hs) fun i j hij hj => ?_
        rw [R i, R j]
        by_cases ej : j = n
        · subst ej
          rw [if_neg (by omega : ¬ (0 ≤ j ∧ j < j))]
          split
          · exact O.trans _ _ _ (O.asym _ _ hl) (ev _ _ (by omega) (by omega))
          · have : i = j := by omega
            subst this
            exact O.refl _
        · rw [if_pos (by omega : 0 ≤ i ∧ i < n), if_pos (by omega : 0 ≤ j ∧ j < n)]
          exact ev _ _ (by omega) (by omega)
    · rw [if_neg n1]
      have : n = 1 := by omega
      subst this
      refine descPart_ok O (by omega) (by omega) hs fun i j hij hj => ?_
      by_cases e : i = j
      · subst e; exact O.refl _
      · have hi : i = 0 := by omega
        have hj : j = 1 := by omega
        subst hi hj
        exact O.asym _ _ hl
theorem place_ok {p : Array Nat} {k : Nat} (h : Asc lt p k) : ∀ f l r, l ≤ r → r ≤ k → r ≤ l + f → (∀ i, i < l → Le lt (at_ p i) (at_ p k)) → (∀ i, r ≤ i → i < k → Le lt (at_ p k) (at_ p i)) →
    Tru lt (fun m => m ≤ k ∧ (∀ i, i < m → Le lt (at_ p i) (at_ p k)) ∧ ∀ i, m ≤ i → i < k → Le lt (at_ p k) (at_ p i)) (kas_place p k f l r)
  | 0, l, r, h1, h2, h3, h4, h5 => ⟨by omega, h4, fun i a b => h5 i (by omega) b⟩
  | f + 1, l, r, h1, h2, h3, h4, h5 => by
    unfold kas_place
    by_cases g : l ≥ r
    · rw [if_pos g]
      exact ⟨by omega, h4, fun i a b => h5 i (by omega) b⟩
    · rw [if_neg g]
      show Tru lt _ (if lt (at_ p k) (at_ p ((l + r) / 2)) = true then _ else _)
      by_cases c : lt (at_ p k) (at_ p ((l + r) / 2)) = true
      · rw [if_pos c]
        exact place_ok h f l ((l + r) / 2) (by omega) (by omega) (by omega) h4 fun i a b => O.trans _ _ _ (O.asym _ _ c) (h _ i a b)
      · rw [if_neg c]
        have c : lt (at_ p k) (at_ p ((l + r) / 2)) = false := by simpa using c
        exact place_ok h f ((l + r) / 2 + 1) r (by omega) h2 (by omega) (fun i a => O.trans _ _ _ (h i _ (by omega) (by omega)) c) h5
theorem bin_ok {N : Nat} : ∀ f (p : Array Nat) k, 1 ≤ k → k + f = N → p.size = N → Asc lt p k → Tru lt (fun r : Array Nat => r.size = N ∧ Asc lt r N) (kas_bin f p k)
  | 0, p, k, h1, h2, hs, h => ⟨hs, by rw [← h2]; exact h⟩
  | f + 1, p, k, h1, h2, hs, h => by
    unfold kas_bin
    refine ((place_ok O h k 0 k (by omega) (Nat.le_refl _) (by omega) (fun i z => by omega) (fun i a b => by omega)).mono fun l ⟨a, b, c⟩ => ?_).bind
    have B := at_bub (p := p) (k := k) (l := l) (by omega) a
    refine bin_ok f _ (k + 1) (by omega) (by omega) ((bubble_size _ _ _).trans hs) fun i j hij hj => ?_
    rw [B i, B j]
    by_cases ei : i = l
    · rw [if_pos ei]
      by_cases ej : j = l
      · rw [if_pos ej]; exact O.refl _
      · rw [if_neg ej, if_pos (by omega)]
        exact c _ (by omega) (by omega)
    · rw [if_neg ei]
      by_cases ej : j = l
      · rw [if_pos ej, if_neg (by omega)]
        exact b i (by omega)
      · rw [if_neg ej]
        split
        · rw [if_pos (by omega)]
          exact h _ _ (by omega) (by omega)
        · split
          · exact h _ _ (by omega) (by omega)
          · exact h _ _ hij (by omega)
theorem sort_ok {n : Nat} (h : 1 ≤ n) : Tru lt (fun r : Array Nat => r.size = n ∧ Asc lt r n) (kas_sort n) := by
  unfold kas_sort
  refine ((count_ok O h (by simp)).mono fun r ⟨a, b, c, d⟩ => ?_).bind
  by_cases e : r.1 < n
  · rw [if_pos e, show max r.1 1 = r.1 by omega]
    exact bin_ok O _ _ _ a (by omega) c d
  · rw [if_neg e]
    have : r.1 = n := by omega
    exact ⟨c, by rw [← this]; exact d⟩
end
end Srt
namespace Srt
open PySem PySem.W PyProof.Rows
def lexLt : List Int → List Int → Bool
  | [], [] => false
  | [], _ :: _ => true
  | _ :: _, [] => false
  | a :: as, b :: bs => if a = b then lexLt as bs else decide (a < b)
theorem lexLt_asym : ∀ a b : List Int, lexLt a b = true → lexLt b a = false
  | [], [], h => by cases h
  | [], _ :: _, _ => rfl
  | _ :: _, [], h => by cases h
  | a :: as, b :: bs, h => by
    unfold lexLt at h ⊢
    by_cases e : a = b
    · rw [if_pos e] at h
      rw [if_pos e.symm]
      exact lexLt_asym as bs h
    · rw [if_neg e] at h
      rw [if_neg (Ne.symm e)]
      have := of_decide_eq_true h
      exact decide_eq_false (by omega)
theorem lexLt_anti : ∀ a b : List Int, lexLt a b = false → lexLt b a = false → a = b
  | [], [], _, _ => rfl
  | [], _ :: _, h, _ => by cases h
  | _ :: _, [], _, h => by cases h
  | a :: as, b :: bs, h, g => by
    unfold lexLt at h g
    by_cases e : a = b
    · rw [if_pos e] at h
      rw [if_pos e.symm] at g
      rw [e, lexLt_anti as bs h g]
    · rw [if_neg e] at h
      rw [if_neg (Ne.symm e)] at g
      have h := of_decide_eq_false h
      have g := of_decide_eq_false g
      omega
theorem lexLt_trans : ∀ a b c : List Int, lexLt b a = false → lexLt c b = false → lexLt c a = false
  | [], _, [], _, _ => rfl
  | [], [], _ :: _, _, _ => rfl
  | [], _ :: _, _ :: _, _, _ => rfl
  | _ :: _, [], _, h, _ => by cases h
  | _ :: _, _ :: _, [], _, h => by cases h
  | a :: as, b :: bs, c :: cs, h, g => by
    unfold lexLt at h g ⊢
    by_cases e1 : b = a
    · rw [if_pos e1] at h
      by_cases e2 : c = b
      · rw [if_pos e2] at g
        rw [if_pos (e2.trans e1)]
        exact lexLt_trans as bs cs h g
      · rw [if_neg e2] at g
        have g := of_decide_eq_false g
        rw [if_neg (fun z => e2 (z.trans e1.symm))]
        exact decide_eq_false (by omega)
    · rw [if_neg e1] at h
      have h := of_decide_eq_false h
      by_cases e2 : c = b
      · rw [if_neg (fun z => e1 (e2.symm.trans z))]
        exact decide_eq_false (by omega)
      · rw [if_neg e2] at g
        have g := of_decide_eq_false g
        rw [if_neg (by omega)]
        exact decide_eq_false (by omega)
def lins (x : List Int) : List (List Int) → List (List Int)
  | [] => [x]
  | y :: l => if lexLt y x = true then y :: lins x l else x :: y :: l
def lsort : List (List Int) → List (List Int)
  | [] => []
  | x :: l => lins x (lsort l)
theorem lins_perm (x : List Int) : ∀ l, (lins x l).Perm (x :: l)
  | [] => .refl _
  | y :: l => by
    unfold lins
    split
    · exact ((lins_perm x l).cons y).trans (.swap _ _ _)
    · exact .refl _
theorem lsort_perm : ∀ l, (lsort l).Perm l
  | [] => .refl _
  | x :: l => (lins_perm x _).trans ((lsort_perm l).cons x)
abbrev LeL (a b : List Int) : Prop := lexLt b a = false
theorem lins_sorted (x : List Int) : ∀ l : List (List Int), l.Pairwise LeL → (lins x l).Pairwise LeL
  | [], _ => List.pairwise_singleton _ _
  | y :: l, h => by
    have hc := List.pairwise_cons.mp h
    unfold lins
    split
    · rename_i hl
      refine List.pairwise_cons.mpr ⟨fun z hz => ?_, lins_sorted x l hc.2⟩
      rcases List.mem_cons.mp ((lins_perm x l).mem_iff.mp hz) with rfl | hz
      · exact lexLt_asym _ _ hl
      · exact hc.1 z hz
    · rename_i hl
      have hl : lexLt y x = false := by simpa using hl
      refine List.pairwise_cons.mpr ⟨fun z hz => ?_, h⟩
      rcases List.mem_cons.mp hz with rfl | hz
      · exact hl
      · exact lexLt_trans _ _ _ hl (hc.1 z hz)
theorem lsort_sorted : ∀ l, (lsort l).Pairwise LeL
  | [] => .nil
  | x :: l => lins_sorted x _ (lsort_sorted l)
theorem sorted_unique : ∀ {a b : List (List Int)}, a.Pairwise LeL → b.Pairwise LeL → a.Perm b → a = b
  | [], b, _, _, p => by rw [p.nil_eq]
  | x :: a, [], _, _, p => absurd p.symm.nil_eq (by simp)
  | x :: a, y :: b, ha, hb, p => by
    have ha' := List.pairwise_cons.mp ha
    have hb' := List.pairwise_cons.mp hb
    have exy : x = y := by
      have hx : x ∈ y :: b := p.mem_iff.mp List.mem_cons_self
      have hy : y ∈ x :: a := p.mem_iff.mpr List.mem_cons_self
      rcases List.mem_cons.mp hx with e | hx
      · exact e
      · rcases List.mem_cons.mp hy with e | hy
        · exact e.symm
        · exact lexLt_anti _ _ (hb'.1 x hx) (ha'.1 y hy)
    subst exy
    rw [sorted_unique ha'.2 hb'.2 (List.Perm.cons_inv p)]
theorem lexE {prog : Program} {w : World} {A : Around} {fin : Bool} {C : Bool → Shared → Prop} {s : Shared} : ∀ {vs ws : List Value} {ns ms : List Int} (i : Nat), IntsAre vs ns → IntsAre ws ms → fin = decide (ns.length < ms.length) → C (lexLt ns ms) s → KatLex prog w A true fin C (vs.zip ws) i s
  | [], [], _, _, i, .nil, .nil, hf, hC => kat_nil (by subst hf; exact hC)
  | [], _ :: _, _, _, i, .nil, .cons _ _ _, hf, hC => kat_nil (by subst hf; rw [decide_eq_true (by simp)]; exact hC)
  | _ :: _, [], _, _, i, .cons _ _ _, .nil, hf, hC => kat_nil (by subst hf; rw [decide_eq_false (by simp)]; exact hC)
  | _ :: vs, _ :: ws, _ :: ns, _ :: ms, i, .cons a t h1, .cons c u h2, hf, hC => by
    rw [List.zip_cons_cons]
    refine kat_cons ?_
    obtain ⟨e, he, h3⟩ := HT.eqAt_int A s a t c u
    refine he prog w _ _ ?_
    unfold lexLt at hC
    cases e with
    | true =>
      rw [if_pos (h3.mp rfl)] at hC
      exact kat_yes (lexE (i + 1) h1 h2 (by rw [hf]; simp) hC)
    | false =>
      rw [if_neg (fun z => by cases h3.mpr z)] at hC
      refine kat_no ?_
      cases i with
      | zero => exact oneLt_int hC
      | succ i => exact kat_one _ _ (lt_int hC)
section
variable {prog : Program} {w : World} {A : Around} {E : Value → Shared → Prop} {s : Shared}
def TupsK (h : Heap) (vs : List Value) (ks : List (List Int)) : Prop := vs.length = ks.length ∧ ∀ (i : Nat) (hi : i < vs.length), ∃ a items, vs[i] = .ref a ∧ IsTup h a items ∧ IntsAre items.toList (ks.getD i []) ∧ ks.getD i [] ≠ []
theorem TupsK.tups {h : Heap} {vs : List Value} {ks : List (List Int)} (t : TupsK h vs ks) : Tups h vs := fun v hv => by
  obtain ⟨i, hi, rfl⟩ := List.mem_iff_getElem.mp hv
  obtain ⟨a, items, h1, h2, h3, h4⟩ := t.2 i hi
  exact ⟨a, items, _, h1, h2, h3, h4⟩
theorem TupsK.keep {h h' : Heap} {vs : List Value} {ks : List (List Int)} (t : TupsK h vs ks) (k : ∀ b o, h.get? b = some o → o.cls = .type "tuple" → h'.get? b = some o) : TupsK h' vs ks := ⟨t.1, fun i hi => by
  obtain ⟨a, items, e, ⟨o, h1, h2, n, h3⟩, i, ne⟩ := t.2 i hi
  exact ⟨a, items, e, ⟨o, k a o h1 h2, h2, n, h3⟩, i, ne⟩⟩
abbrev klt (ks : List (List Int)) (i j : Nat) : Bool := lexLt (ks.getD i []) (ks.getD j [])
theorem klt_ord (ks : List (List Int)) : Ord (klt ks) := ⟨fun _ _ h => lexLt_asym _ _ h, fun _ _ _ h g => lexLt_trans _ _ _ h g⟩
theorem asc_pw {lt : Nat → Nat → Bool} {p : Array Nat} (h : Asc lt p p.size) : p.toList.Pairwise (Le lt) := by
  rw [List.pairwise_iff_getElem]
  intro i j hi hj hij
  have := h i j (Nat.le_of_lt hij) (by simpa using hj)
  unfold Le at_ at this
  have gi : i < p.size := by simpa using hi
  have gj : j < p.size := by simpa using hj
  rw [Array.getD_eq_getD_getElem?, Array.getD_eq_getD_getElem?, Array.getElem?_eq_getElem gi, Array.getElem?_eq_getElem gj] at this
  simpa using this
end
end Srt
namespace Srt
open PySem PySem.W PyProof.Rows
section
variable {prog : Program} {w : World} {A : Around} {E : Value → Shared → Prop} {s : Shared}
theorem _root_.L2.IntsAre_len {vs : List Value} {ns : List Int} (h : IntsAre vs ns) : vs.length = ns.length := by
  induction h with
  | nil => rfl
  | cons _ _ _ ih => rw [List.length_cons, List.length_cons, ih]
theorem treeE {a : Addr} {vs : List Value} {ks : List (List Int)} {n : Nat} {P : PySem.Fin → Shared → Prop} (ho : s.heap.get? a = some (seqObj "list" vs.toArray n)) (ht : TupsK s.heap vs ks) (h64 : vs.length < 64)
    (h : ∀ p : List Nat, p.Perm (List.range vs.length) → p.Pairwise (Le (klt ks)) → P (.done (.ret .none)) { s with heap := sortedHeap s.heap a vs (p.map fun i => vs.getD i Value.none).toArray }) : wpAny (model prog w) A (Builtin.«list.sort» ⟨[.ref a], []⟩) P E s := by
  rw [list_sort_plain]
  have ha : a < s.heap.objs.size := Heap.lt_size ho
  refine wpAny_bind (listItems_at ho rfl (wpAny_bind (listUpdate_at ho rfl ?_)))
  obtain ⟨e1, o1⟩ : ∃ e1, (s.heap.update a (Obj.mapSeq fun _ => #[])).get? a = some (seqObj "list" #[] e1) := ⟨_, get?_update_seq ho (fun _ => #[])⟩
  refine wpAny_bind (seqEpoch_at o1 rfl (wpAny_bind (wpAny_newTuple (wpAny_bind (wpAny_newList ?_)))))
  refine wpAny_holding ?_
  have o6 : (((s.heap.update a (Obj.mapSeq fun _ => #[])).push (seqObj "tuple" vs.toArray 0)).push (seqObj "list" #[] 0)).get? a = some (seqObj "list" #[] e1) := Heap.get?_push_of_some _ (Heap.get?_push_of_some _ o1)
  show wpAny (model prog w) A _ P E { s with heap := ((s.heap.update a (Obj.mapSeq fun _ => #[])).push (seqObj "tuple" vs.toArray 0)).push (seqObj "list" #[] 0) }
  dsimp only
  have hsz : vs.toArray.size = vs.length := by simp
  have t6 : TupsK (((s.heap.update a (Obj.mapSeq fun _ => #[])).push (seqObj "tuple" vs.toArray 0)).push (seqObj "list" #[] 0)) vs ks := ht.keep fun b o e c => by
    refine Heap.get?_push_of_some _ (Heap.get?_push_of_some _ ((Heap.get?_update_other _ _ ?_).trans e))
    rintro rfl
    rw [ho] at e
    cases e
    exact absurd c (by simp [seqObj])
  by_cases h2 : vs.toArray.size < 2
  · rw [if_pos h2, if_pos h2]
    refine wpAny_bind (wpAny_pure ?_)
    rw [StateT.run_pure]
    refine wpAny_bind (wpAny_pure ?_)
    dsimp only
    refine wpAny_bind (seqEpoch_at o6 rfl (wpAny_bind (listUpdate_at o6 rfl ?_ (hsz2 := by rw [Array.size_map]; show (pairsOf vs).size ≤ _; rw [pairsOf_size, sizeLine_eq]; omega))))
    simp only [bne_self_eq_false, Bool.false_eq_true, if_false]
    refine wpAny_pure ?_
    have e : ((vs.toArray.zip vs.toArray).map (·.2)) = vs.toArray := by
      apply Array.toList_inj.mp
      rw [Array.toList_map, Array.toList_zip]
      exact List.map_snd_zip (Nat.le_refl _)
    have q := h (List.range vs.length) (List.Perm.refl _) (List.pairwise_iff_getElem.mpr fun i j hi hj hij => by
      rw [List.length_range] at hi hj
      omega)
    rw [show ((List.range vs.length).map fun i => vs.getD i Value.none) = vs by
      apply List.ext_getElem
      · simp
      · intro i h1 h2
        simp [h2]] at q
    rw [← e] at q
    exact q
  · rw [if_neg h2, if_neg h2]
    have h2' : 2 ≤ vs.length := by omega
    obtain ⟨fs, f1, f2, f3⟩ := firsts (M := model prog w) t6.tups
    refine wpAny_bind (kat_kind (T := .type "int") f2 (by omega) f3 (by decide) ?_)
    rw [show ((Value.type "int" != Value.type "tuple") = true) from by decide]
    refine wpAny_bind (wpAny_mono (kat_run (Q := fun st' s' => ∃ p : Array Nat, (Good vs.length p ∧ p.size = vs.length ∧ Asc (klt ks) p vs.length) ∧ arrOf st' = p.map (kas_item (vs.toArray.zip vs.toArray)) ∧ failedOf st' = none ∧ s' = _) (G := fun p s' => (Good vs.length p ∧ p.size = vs.length ∧ Asc (klt ks) p vs.length) ∧ s' = _) (ks := vs) rfl h2' h64
      (fun p st' s' _ a2 a3 a4 => ⟨p, a4.1, a2, a3, a4.2⟩) (both (lt := klt ks) (P := Good vs.length) (P' := fun p : Array Nat => p.size = vs.length ∧ Asc (klt ks) p vs.length) (fun i j C hi hj hC => ?_) (fun p hp hp2 => ⟨⟨hp, hp2⟩, rfl⟩) (sort (by omega)) (sort_ok (klt_ord ks) (by omega)))) ?_ fun _ _ x => x)
    · show wpAny (model prog w) A (keyLt' (tuples' true) (vs.getD i Value.none) (vs.getD j Value.none)) C (fun _ _ => False) _
      have gi : vs.getD i Value.none = vs[i] := by simp [hi]
      have gj : vs.getD j Value.none = vs[j] := by simp [hj]
      rw [gi, gj]
      obtain ⟨x, xs, ex, ⟨ox, x1, x2, nx, x3⟩, ix, _⟩ := t6.2 i hi
      obtain ⟨y, ys, ey, ⟨oy, y1, y2, ny, y3⟩, iy, _⟩ := t6.2 j hj
      rw [ex, ey]
      refine kat_lt x1 x3 y1 y3 (lexE 0 ix iy ?_ hC)
      rw [← Array.length_toList, ← Array.length_toList, L2.IntsAre_len ix, L2.IntsAre_len iy]
    · rintro ⟨⟨⟩, st'⟩ s' ⟨p, ⟨hp, hpz, hpa⟩, har, hf, rfl⟩
      dsimp only
      have hout := kat_snds (vs := vs) (ks := vs) rfl har
      have hperm : (p.toList.map fun i => vs.getD i Value.none).Perm vs := by
        have e := hp.2.map fun i => vs.getD i Value.none
        refine e.trans (List.Perm.of_eq ?_)
        apply List.ext_getElem
        · simp
        · intro i h1 h2
          simp [h2]
      rw [hout]
      refine wpAny_bind (seqEpoch_at o6 rfl (wpAny_bind (listUpdate_at o6 rfl ?_ (hsz2 := by rw [List.size_toArray, hperm.length_eq, sizeLine_eq]; omega))))
      rw [hf]
      simp only [bne_self_eq_false, Bool.false_eq_true, if_false]
      exact wpAny_pure (h p.toList hp.2 (asc_pw (by rw [hpz]; exact hpa)))
theorem sortedE {l : Addr} {vs : List Value} {ks : List (List Int)} {Q : Value → Shared → Prop} (hl : s.heap.IsList l vs.toArray) (ht : TupsK s.heap vs ks) (h64 : vs.length < 64)
    (h : ∀ p : List Nat, p.Perm (List.range vs.length) → p.Pairwise (Le (klt ks)) → Q (.ref (s.heap.objs.size + 1)) { s with heap := sortedAll s.heap vs (p.map fun i => vs.getD i Value.none).toArray }) : wpAny (model prog w) A (call (.builtin "sorted") [.ref l]) Q E s := by
  refine Calls.call_function_entry kind_sorted plain_sorted entry_sorted (args_sorted1 _) ?_
  unfold Builtin.«sorted»
  refine wpAny_bind (m := checkCount "sorted" 1 1 _) (wpAny_pure ?_)
  refine wpAny_bind (collect_list hl (wpAny_bind (wpAny_newList ?_)))
  have hsz : ((s.heap.push (seqObj "list" #[] 0)).update s.heap.objs.size (Obj.mapSeq (· ++ vs.toArray))).objs.size = s.heap.objs.size + 1 := by
    rw [Heap.size_update, size_push']
  have oL : (((s.heap.push (seqObj "list" #[] 0)).update s.heap.objs.size (Obj.mapSeq (· ++ vs.toArray))).push (seqObj "list" vs.toArray 0)).get? (s.heap.objs.size + 1) = some (seqObj "list" vs.toArray 0) := by
    rw [← hsz]; exact Heap.get?_push_size _ rfl
  show wpAny _ _ _ _ _ { s with heap := ((s.heap.push (seqObj "list" #[] 0)).update s.heap.objs.size (Obj.mapSeq (· ++ vs.toArray))).push (seqObj "list" vs.toArray 0) }
  rw [hsz]
  have tL : TupsK (((s.heap.push (seqObj "list" #[] 0)).update s.heap.objs.size (Obj.mapSeq (· ++ vs.toArray))).push (seqObj "list" vs.toArray 0)) vs ks := ht.keep fun b o e _ =>
    Heap.get?_push_of_some _ ((Heap.get?_update_other _ _ (Ne.symm (Nat.ne_of_lt (Heap.lt_size e)))).trans (Heap.get?_push_of_some _ e))
  refine wpAny_bind (wpAny_holding (wpAny_call_entry slot_list_sort ⟨_, oL, rfl⟩ entry_list_sort (treeE oL tL h64 fun p hp hs => ⟨_, rfl, ?_⟩) (args_list_sort _)))
  exact wpAny_pure ⟨_, rfl, h p hp hs⟩
end
end Srt
namespace L2
open PySem PySem.Spec PyProof.Rows
section
variable {X : Cx}
def rSortT (K : PySem.W.Frag) : List V → Hp → VK → Prop := fun xs H Q => ∃ (p : Addr) (bs : List V) (ks : List (List Int)), xs = [V.ref p] ∧ SqL K H p bs ∧ bs.length < 64 ∧ bs.length = ks.length ∧ (∀ (i : Nat) (k : List Int), ks[i]? = some k → ∃ a : Addr, bs[i]? = some (.ref a) ∧ SqT K H a (k.map V.int) ∧ k ≠ []) ∧
    ∀ l (q : List Nat), H l = none → q.Perm (List.range bs.length) → q.map (fun i => ks.getD i []) = Srt.lsort ks → Q (.ref l) (upd H l (.lst (q.map fun i => bs.getD i .non)))
theorem call_sortedE : CallR X (.builtin "sorted") (rSortT X.K) := by
  intro pins s σ H xs us Q I r h
  obtain ⟨p, bs, ks, rfl, hq, h64, hlk, ht, q⟩ := h
  obtain ⟨u, rfl, ru⟩ := vals1 r
  cases ru
  obtain ⟨its, rv, pl, hz⟩ := I.list hq
  have hlen := rv.length
  have isref : ∀ b ∈ bs, ∃ a, b = .ref a := fun b hb => by
    obtain ⟨i, hi, rfl⟩ := List.mem_iff_getElem.mp hb
    obtain ⟨a, e, _⟩ := ht i _ (List.getElem?_eq_getElem (by omega))
    rw [List.getElem?_eq_getElem hi] at e
    exact ⟨a, Option.some.inj e⟩
  obtain ⟨eb, refs⟩ := refs_vals rv isref
  refine Srt.sortedE (ks := ks) pl.isList ⟨by omega, fun i hi => ?_⟩ (by omega) fun p hp hs => ?_
  · obtain ⟨a, e, hS, ne⟩ := ht i _ (List.getElem?_eq_getElem (by omega))
    have hv : its[i] = .ref a := by
      obtain ⟨b, hb⟩ := refs its[i] (List.getElem_mem hi)
      have : (its.map refV)[i]? = some (.ref a) := by rw [← eb]; exact e
      rw [List.getElem?_map, List.getElem?_eq_getElem hi, hb] at this
      rw [hb]
      have := Option.some.inj this
      cases this
      rfl
    obtain ⟨items, ri, pt, _⟩ := I.tuple hS
    have hk : ks.getD i [] = ks[i]'(by omega) := by simp [List.getD_eq_getElem?_getD, List.getElem?_eq_getElem (show i < ks.length by omega)]
    rw [hk]
    exact ⟨a, items.toArray, hv, pt, intsAre_of ri, ne⟩
  · have hf : H (s.heap.objs.size + 1) = none := I.hok.fresh (Nat.le_succ _)
    have perm : (p.map fun i => its.getD i Value.none).Perm its := by
      refine (hp.map _).trans (List.Perm.of_eq ?_)
      apply List.ext_getElem
      · simp
      · intro i h1 h2
        simp [h2]
    have ro : ∀ u ∈ (p.map fun i => its.getD i Value.none), ∃ b, u = .ref b := fun u hu => refs u (perm.mem_iff.mp hu)
    have eo : (p.map fun i => its.getD i Value.none).map refV = p.map fun i => bs.getD i .non := by
      rw [List.map_map]
      apply List.map_congr_left
      intro i hi
      have hi' : i < its.length := by
        have := hp.mem_iff.mp hi
        simpa using this
      show refV (its.getD i Value.none) = _
      rw [eb]
      simp [List.getD_eq_getElem?_getD, hi']
    have es : p.map (fun i => ks.getD i []) = Srt.lsort ks := by
      refine Srt.sorted_unique ?_ (Srt.lsort_sorted ks) (((hp.map _).trans (List.Perm.of_eq ?_)).trans (Srt.lsort_perm ks).symm)
      · rw [List.pairwise_map]
        exact hs.imp fun h => h
      · rw [hlen.symm.trans hlk]
        apply List.ext_getElem
        · simp
        · intro i h1 h2
          simp [h2]
    obtain ⟨e, he⟩ := sortedAll_at s.heap its (p.map fun i => its.getD i Value.none).toArray
    refine ⟨.ref (s.heap.objs.size + 1), upd H (s.heap.objs.size + 1) (.lst (p.map fun i => bs.getD i .non)), I.laid (t' := s.toks) (fun b o => sortedAll_old) (Nat.le_succ _) ⟨?_, _, e, by rw [← eo]; exact vals_refs ro, he⟩, rfl, q _ p hf (by rw [hlen]; exact hp) es⟩
    rw [List.length_map, hp.length_eq, List.length_range, ← hlen]
    exact hz
end
end L2
namespace L2
open PySem PySem.Spec PyProof.Rows
def tupI : D → Option (List Int)
  | .tup ds => match intsOf ds with
    | some (n :: ns) => some (n :: ns)
    | _ => none
  | _ => none
def tupsI : List D → Option (List (List Int))
  | [] => some []
  | d :: ds => match tupI d, tupsI ds with
    | some k, some ks => some (k :: ks)
    | _, _ => none
abbrev tupD (k : List Int) : D := .tup (k.map D.int)
theorem tupI_eq {d : D} {k : List Int} (h : tupI d = some k) : d = tupD k ∧ k ≠ [] := by
  unfold tupI at h
  split at h
  · rename_i ds
    split at h
    · rename_i n ns e
      cases h
      exact ⟨by rw [intsOf_eq e], by simp⟩
    · cases h
  · cases h
theorem tupsI_eq : ∀ {ds : List D} {ks : List (List Int)}, tupsI ds = some ks → ds = ks.map tupD ∧ ∀ k ∈ ks, k ≠ []
  | [], _, h => by cases h; exact ⟨rfl, fun k hk => by cases hk⟩
  | d :: ds, ks, h => by
    unfold tupsI at h
    split at h
    · rename_i k ks' h1 h2
      cases h
      obtain ⟨e1, n1⟩ := tupI_eq h1
      obtain ⟨e2, n2⟩ := tupsI_eq h2
      exact ⟨by rw [e1, e2]; rfl, fun k hk => (List.mem_cons.mp hk).elim (fun e => e ▸ n1) (n2 k)⟩
    · cases h
def gSortT : List D → Option (D × Bool)
  | [.lst ds] => match tupsI ds with
    | some ks => if decide (ks.length < 64) = true then some (.lst ((Srt.lsort ks).map tupD), true) else none
    | none => none
  | _ => none
theorem reps_perm {K : PySem.W.Frag} {H : Hp} {ds : List D} {xs : List V} (h : RepDs K H ds xs) : ∀ (q : List Nat), (∀ i ∈ q, i < ds.length) → RepDs K H (q.map fun i => ds.getD i .non) (q.map fun i => xs.getD i .non)
  | [], _ => trivial
  | i :: q, hq => by
    have hi := hq i List.mem_cons_self
    obtain ⟨x, hx, r⟩ := h.get (List.getElem?_eq_getElem hi)
    refine ⟨?_, reps_perm h q fun j hj => hq j (List.mem_cons_of_mem _ hj)⟩
    show RepD K H (ds.getD i .non) (xs.getD i .non)
    rw [List.getD_eq_getElem?_getD, List.getD_eq_getElem?_getD, hx, List.getElem?_eq_getElem hi]
    exact r
theorem os_sortT {K : PySem.W.Frag} : OpS K (rSortT K) gSortT := by
  intro vs ds H L Q d nw hm r e q
  unfold gSortT at e
  split at e
  · rename_i es
    obtain ⟨x, rfl, ⟨p, xs, rfl, h1, h2⟩⟩ := repBs1 r
    cases ek : tupsI es with
    | none => rw [ek] at e; cases e
    | some ks =>
      rw [ek] at e
      simp only at e
      split at e
      · rename_i hk
        cases e
        have hk := of_decide_eq_true hk
        obtain ⟨ee, hne⟩ := tupsI_eq ek
        have hl : ks.length = xs.length := by rw [← h2.len, ee, List.length_map]
        refine ⟨p, xs, ks, rfl, .inl (.inl h1), by omega, hl.symm, fun i k hi => ?_, fun l p' hl' hp hs => q _ _ (Same.upd hl') (new_lst ?_ hl')⟩
        · obtain ⟨v, hv, a, ys, rfl, g1, g2⟩ := h2.get (i := i) (d := tupD k) (by rw [ee, List.getElem?_map, hi]; rfl)
          exact ⟨a, hv, .inl (.inl (by rw [(hid_some g1).2, ints_repDs g2])), hne k (List.mem_of_getElem? hi)⟩
        · have := reps_perm h2 p' fun i hi => by
            have := hp.mem_iff.mp hi
            rw [List.mem_range, ← h2.len] at this
            exact this
          rw [← hs, List.map_map]
          have e2 : (p'.map fun i => es.getD i .non) = p'.map (tupD ∘ fun i => ks.getD i []) := by
            apply List.map_congr_left
            intro i hi
            have hi' : i < ks.length := by
              have := hp.mem_iff.mp hi
              rw [List.mem_range] at this
              omega
            rw [ee]
            simp [List.getD_eq_getElem?_getD, hi']
          rw [← e2]
          exact this
      · cases e
  · cases e
def gSortA (ds : List D) : Option (D × Bool) := match gSorted ds with
  | some r => some r
  | none => gSortT ds
theorem os_sortA {K : PySem.W.Frag} : OpS K (fun xs H Q => (rSortI K xs H Q ∨ rSortU K xs H Q) ∨ rSortT K xs H Q) gSortA := by
  intro vs ds H L Q d nw hm r e q
  unfold gSortA at e
  cases es : gSorted ds with
  | some z =>
    rw [es] at e
    cases e
    exact .inl (os_sorted vs ds H L Q d nw hm r es q)
  | none =>
    rw [es] at e
    exact .inr (os_sortT vs ds H L Q d nw hm r e q)
theorem call_sortA {X : Cx} : CallR X (.builtin "sorted") (fun xs H Q => (rSortI X.K xs H Q ∨ rSortU X.K xs H Q) ∨ rSortT X.K xs H Q) := call_sortedA.or call_sortedE
section
variable {X : Cx} {EX : EXT} {e : Expr} {es : List Expr} {pos p : Pos} {as : List Arg}
end
end L2
namespace L2
open PySem PySem.Spec PyProof.Rows
section
variable {K : PySem.W.Frag} {F : Fx} {EX : EXT} {σ : St} {H : Hp} {ρ : Rho} {W : List Addr}
end
end L2
namespace L2
namespace Kd
open PySem L2 PyProof.Rows
section
variable {X : Cx} {e : Expr} {te : TE} {pos p1 p2 : Pos}
end
def names : List Str := ["NoWeb", "NoPlace", "NoKind", "NoShare", "NoSquare", "NoNumber", "NoText", "NoRow", "TooGreat"]
end Kd
end L2
namespace L2
open PySem PySem.Spec PyProof.Rows
def keyD : Key → D
  | .inl i => .int i
  | .inr x => .str x
theorem keyD_rep {K : PySem.W.Frag} {H : Hp} : ∀ (k : Key), RepD K H (keyD k) (kV k)
  | .inl _ => rfl
  | .inr _ => rfl
theorem keysD_rep {K : PySem.W.Frag} {H : Hp} : ∀ (k : List Key), RepDs K H (k.map keyD) (k.map kV)
  | [] => trivial
  | k :: ks => ⟨keyD_rep k, keysD_rep ks⟩
def gListA (ds : List D) : Option (D × Bool) := match ds with
  | [.dT ks _] => some (.lst (ks.map fun k => .tup (k.map keyD)), true)
  | ds => gList ds
def rListT : List V → Hp → VK → Prop := fun xs H Q => ∃ a kvs, xs = [V.ref a] ∧ H a = some (.dT kvs) ∧
    ∀ l bs, H l = none → (kvs.map (·.1)).Nodup → bs.length = kvs.length → (∀ (i : Nat) k v, kvs[i]? = some (k, v) → ∃ b, bs[i]? = some (V.ref b) ∧ H b = some (.tup (k.map kV))) → Q (.ref l) (upd H l (.lst bs))
theorem reps_at {K : PySem.W.Frag} {H : Hp} : ∀ {ds : List D} {xs : List V}, ds.length = xs.length → (∀ (i : Nat) (d : D), ds[i]? = some d → ∃ x, xs[i]? = some x ∧ RepD K H d x) → RepDs K H ds xs
  | [], [], _, _ => trivial
  | d :: ds, x :: xs, hl, h => by
    obtain ⟨y, e, r⟩ := h 0 d rfl
    cases e
    exact ⟨r, reps_at (by simpa using hl) fun i d' hd => by
      obtain ⟨y, e, r⟩ := h (i + 1) d' (by simpa using hd)
      exact ⟨y, by simpa using e, r⟩⟩
  | [], _ :: _, hl, _ => by simp at hl
  | _ :: _, [], hl, _ => by simp at hl
theorem os_listA {K : PySem.W.Frag} : OpS K (fun xs H Q => (rListOf K xs H Q ∨ rListR xs H Q) ∨ rListT xs H Q) gListA := by
  intro vs ds H L Q d nw hm r e q
  unfold gListA at e
  split at e
  · rename_i ks es
    cases e
    obtain ⟨x, rfl, ⟨p, xs, rfl, h1, hl, h2⟩⟩ := repBs1 r
    refine .inr ⟨p, _, rfl, h1, fun l bs hf _ hb hk => q _ _ (Same.upd hf) (new_lst (reps_at ?_ fun i d hd => ?_) hf)⟩
    · rw [List.length_map, hb, List.length_zip, hl, Nat.min_self]
    · rw [List.getElem?_map] at hd
      obtain ⟨k, hk1, rfl⟩ := Option.map_eq_some_iff.mp hd
      have hi : i < xs.length := by rw [← hl]; exact (List.getElem?_eq_some_iff.mp hk1).1
      obtain ⟨b, e1, e2⟩ := hk i k xs[i] (by rw [List.getElem?_zip_eq_some]; exact ⟨hk1, List.getElem?_eq_getElem hi⟩)
      refine ⟨_, e1, b, _, rfl, ?_, keysD_rep k⟩
      rw [hid_ne fun z => by have := hm b z; rw [e2] at this; exact this]
      exact e2
  · exact .inl (os_list vs ds H L Q d nw hm r e q)
theorem call_listTA {X : Cx} (hc : X.calm = true) : CallR X (.type "list") (fun xs H Q => (rListOf X.K xs H Q ∨ rListR xs H Q) ∨ rListT xs H Q) := (call_listA hc).or (call_listT hc)
section
variable {X : Cx} {EX : EXT} {e : Expr} {es : List Expr} {pos p : Pos} {as : List Arg}
theorem b_listA (he : starEach (e :: es) X.env = (false, eval e X.env) :: starEach es X.env := by rfl) (hpl : (backTo pos (starEach es X.env)).any (·.1) = false := by rfl) (m : X.mg "list" = none) (ha : JA X EX (e :: es) as) (hg : Gl X "list" := by rfl) (hc : X.calm = true := by rfl) : JE X EX (.Call (.Name "list" p) (e :: es) [] pos) (sOp gListA as) := c_callTy (call_listTA hc) os_listA hg m PyProof.Rows.boot_list ha (by decide) (by decide) he hpl
end
end L2
namespace St2
open PySem PySem.Spec PyProof.Rows
section
variable {prog : Program} {w : World} {A : Around} {E : Value → Shared → Prop} {s : Shared}
theorem collect_src {T : String} {d : Addr} {n : Nat} {P : Nat → Value → Prop} {OK : Heap → Prop} {Q : List Value → Shared → Prop} (K : PySem.W.KdlSrc prog w T d d n P OK) (hh : A.handled = none) (hd : OK s.heap) (hz : n ≤ sizeLine)
    (h : ∀ h' tk (acc : Array Value) c, (∀ b o, s.heap.get? b = some o → h'.get? b = some o) → h'.get? s.heap.objs.size = some { cls := .type "list", dict := none, data := .seq acc c, slots := #[] } → ItemsOf P acc n → Q acc.toList { s with heap := h', toks := tk }) :
    wpAny (model prog w) A (collect (.ref d)) Q E s := by
  unfold collect
  refine wpAny_bind (wpAny_runValue (codeAny_builtin F.entry_proto_collect ?_))
  unfold Builtin.«proto.collect»
  show wpAny _ _ (newList [] >>= _) _ _ _
  refine wpAny_bind (wpAny_newList ?_ (by simp))
  refine wpAny_pure ⟨Code.quiet_builtin _ (by decide +kernel), codeAny_builtin F.entry_list_iadd ?_⟩
  have hn : (s.heap.push { cls := Value.type "list", data := Data.seq #[] }).get? s.heap.objs.size = some { cls := Value.type "list", data := Data.seq #[] } := Heap.get?_push_size _ rfl
  show wpAny _ _ (Builtin.List.listExtendWith (.ref s.heap.objs.size) (.ref d) (.ref s.heap.objs.size)) _ _ _
  have nd : s.heap.objs.size ≠ d := Nat.ne_of_gt (K.there _ hd).1
  have key := PySem.W.kdl_extend (A := A) (s := { s with heap := s.heap.push { cls := Value.type "list", data := Data.seq #[] } }) (R := fun r s' => ∃ h' tk acc c, r = .ok (.ret (.ref s.heap.objs.size)) ∧ s' = { s with heap := h', toks := tk } ∧ (∀ b o, s.heap.get? b = some o → h'.get? b = some o) ∧ h'.get? s.heap.objs.size = some { cls := .type "list", dict := none, data := .seq acc c, slots := #[] } ∧ ItemsOf P acc n)
    K hh (K.keep _ _ hd fun b _ o e => Heap.get?_push_of_some _ e) _ nd nd (.ref s.heap.objs.size) 0 hn (fun h' tk acc c keep hS items => ⟨h', tk, acc, c, rfl, rfl, fun b o e => keep b o (Nat.ne_of_lt (Heap.lt_size e)) (Heap.get?_push_of_some _ e), hS, items⟩) hz
  refine wpAny_mono key (fun f s' hf => ?_) (fun e s' he => ?_)
  · cases f with
    | done f =>
      obtain ⟨h', tk, acc, c, e1, rfl, keep, hS, items⟩ := hf
      cases e1
      show wpAny _ _ (load s.heap.objs.size >>= _) _ _ _
      refine wpAny_bind (wpAny_load hS ?_)
      show wpAny _ _ (pure acc.toList) _ _ _
      exact wpAny_pure (h h' tk acc c keep hS items)
    | again c' =>
      refine ⟨hf.1, codeAny_mono hf.2 fun r s' z => ?_⟩
      obtain ⟨h', tk, acc, c, e1, rfl, keep, hS, items⟩ := z
      cases e1
      show wpAny _ _ (load s.heap.objs.size >>= _) _ _ _
      refine wpAny_bind (wpAny_load hS ?_)
      show wpAny _ _ (pure acc.toList) _ _ _
      exact wpAny_pure (h h' tk acc c keep hS items)
  · obtain ⟨_, _, _, _, e1, _⟩ := he
    cases e1
end
end St2
namespace L2
open PySem PySem.Spec PyProof.Rows
section
variable {X : Cx}
def rSortDT : List V → Hp → VK → Prop := fun xs H Q => ∃ (a : Addr) (ks : List (List Int)) (vs : List V), xs = [V.ref a] ∧ H a = some (.dT ((ks.map fun k => k.map Sum.inl).zip vs)) ∧ ks.length = vs.length ∧ ks.length < 64 ∧ (∀ k ∈ ks, k ≠ []) ∧
    ∀ l (bs : List V), H l = none → bs.length = ks.length → (∀ (i : Nat) k, (Srt.lsort ks)[i]? = some k → ∃ b, bs[i]? = some (V.ref b) ∧ H b = some (.tup (k.map V.int))) → Q (.ref l) (upd H l (.lst bs))
theorem inl_kV (k : List Int) : (k.map (Sum.inl : Int → Key)).map kV = k.map V.int := by rw [List.map_map]; rfl
theorem call_sortedDT (hc : X.calm = true) : CallR X (.builtin "sorted") rSortDT := by
  intro pins s σ H xs us Q I r h
  obtain ⟨a, ks, vs, rfl, ha, hlv, h64, hne, q⟩ := h
  obtain ⟨u, rfl, ru⟩ := vals1 r
  cases ru
  obtain ⟨z, lo, nd, es, ep, x, hl, hk⟩ := raw_dT I.hok ha
  have lsz : sizeLine = 16777216 := sizeLine_eq
  have hlz : ((ks.map fun k => k.map (Sum.inl : Int → Key)).zip vs).length = ks.length := by rw [List.length_zip, List.length_map, hlv, Nat.min_self]
  have hes : es.size = ks.length := hl.trans hlz
  refine Calls.call_function_entry kind_sorted plain_sorted entry_sorted (args_sorted1 _) ?_
  unfold Builtin.«sorted»
  refine wpAny_bind (m := checkCount "sorted" 1 1 _) (wpAny_pure ?_)
  refine wpAny_bind (St2.collect_src (RawD.src (ep := ep) (es := es) lo) (I.ok.hd hc) x (by omega) fun h1 tk acc c keep hS items => wpAny_bind (wpAny_newList ?_ (by rw [Array.length_toList, items.1]; omega)))
  have hsz : s.heap.objs.size + 1 ≤ h1.objs.size := Heap.lt_size hS
  have lacc : acc.toList.length = ks.length := by rw [Array.length_toList, items.1, hes]
  -- the key at i
  have at_ : ∀ (i : Nat) (hi : i < acc.toList.length), ∃ b, acc.toList[i] = .ref b ∧ H b = some (.tup ((ks.getD i []).map V.int)) ∧ ks.getD i [] ≠ [] := fun i hi => by
    obtain ⟨hi', e⟩ := items.2 i acc.toList[i] (by rw [← Array.getElem?_toList]; exact List.getElem?_eq_getElem hi)
    obtain ⟨b, k, v, e1, e2, e3⟩ := hk i hi'
    have hi2 : i < ks.length := by omega
    have ek : k = (ks.getD i []).map Sum.inl := by
      rw [List.getElem?_zip_eq_some] at e2
      have := e2.1
      rw [List.getElem?_map, List.getElem?_eq_getElem hi2] at this
      have this : ks[i].map Sum.inl = k := Option.some.inj this
      rw [← this]
      simp [List.getD_eq_getElem?_getD, hi2]
    refine ⟨b, e.trans e1, by rw [e3, ek, inl_kV], hne _ ?_⟩
    rw [List.getD_eq_getElem?_getD, List.getElem?_eq_getElem hi2]
    exact List.getElem_mem _
  show wpAny _ _ _ _ _ { s with heap := h1.push (seqObj "list" acc.toList.toArray 0), toks := tk }
  have oL : (h1.push (seqObj "list" acc.toList.toArray 0)).get? h1.objs.size = some (seqObj "list" acc.toList.toArray 0) := Heap.get?_push_size _ rfl
  have tk1 : Srt.TupsK (h1.push (seqObj "list" acc.toList.toArray 0)) acc.toList ks := ⟨lacc, fun i hi => by
    obtain ⟨b, e1, e2, e3⟩ := at_ i hi
    obtain ⟨items', ri, ⟨o, g1, g2, n, g3⟩, _⟩ := I.tuple (X := X) (.inl (.inl e2))
    exact ⟨b, items'.toArray, e1, ⟨o, Heap.get?_push_of_some _ (keep b o g1), g2, n, g3⟩, intsAre_of ri, e3⟩⟩
  refine wpAny_bind (wpAny_holding (wpAny_call_entry slot_list_sort ⟨_, oL, rfl⟩ entry_list_sort (Srt.treeE oL tk1 (by omega) fun p hp hs => ⟨_, rfl, ?_⟩) (args_list_sort _)))
  have hle : s.heap.objs.size ≤ h1.objs.size := by omega
  have hf : H h1.objs.size = none := I.hok.fresh hle
  have hin : ∀ i ∈ p, i < acc.toList.length := fun i hi => by
    have := hp.mem_iff.mp hi
    rwa [List.mem_range] at this
  have refs : ∀ u ∈ (p.map fun i => acc.toList.getD i Value.none), ∃ b, u = .ref b := fun u hu => by
    obtain ⟨i, hi, rfl⟩ := List.mem_map.mp hu
    obtain ⟨b, e1, _⟩ := at_ i (hin i hi)
    exact ⟨b, by rw [List.getD_eq_getElem?_getD, List.getElem?_eq_getElem (hin i hi)]; exact e1⟩
  have es' : p.map (fun i => ks.getD i []) = Srt.lsort ks := by
    refine Srt.sorted_unique ?_ (Srt.lsort_sorted ks) (((hp.map _).trans (List.Perm.of_eq ?_)).trans (Srt.lsort_perm ks).symm)
    · rw [List.pairwise_map]
      exact hs.imp fun h => h
    · rw [lacc]
      apply List.ext_getElem
      · simp
      · intro i h1 h2
        simp [h2]
  obtain ⟨e, he⟩ := sortedHeap_at (out := (p.map fun i => acc.toList.getD i Value.none).toArray) oL
  have lp : p.length = ks.length := by rw [hp.length_eq, List.length_range, lacc]
  refine wpAny_pure ⟨_, rfl, .ref h1.objs.size, upd H h1.objs.size (.lst ((p.map fun i => acc.toList.getD i Value.none).map refV)), I.laid (t' := tk) (fun b o q => ?_) hle ⟨?_, _, e, vals_refs refs, by simpa using he⟩, rfl, q _ _ hf (by rw [List.length_map, List.length_map, lp]) fun i k hik => ?_⟩
  · have lb := Heap.lt_size (keep b o q)
    rw [sortedHeap_old (Nat.ne_of_lt lb) (by rw [Heap.size_push]; exact Nat.lt_succ_of_lt lb)]
    exact Heap.get?_push_of_some _ (keep b o q)
  · rw [List.length_map, List.length_map, lp]
    omega
  · rw [← es', List.getElem?_map] at hik
    obtain ⟨j, hj, rfl⟩ := Option.map_eq_some_iff.mp hik
    have hj' := hin j (List.mem_of_getElem? hj)
    obtain ⟨b, e1, e2, _⟩ := at_ j hj'
    refine ⟨b, ?_, e2⟩
    rw [List.getElem?_map, List.getElem?_map, hj]
    show some (refV (acc.toList.getD j Value.none)) = _
    rw [List.getD_eq_getElem?_getD, List.getElem?_eq_getElem hj']
    show some (refV acc.toList[j]) = _
    rw [e1]
    rfl
end
end L2
namespace L2
open PySem PySem.Spec PyProof.Rows
def keyI : List Key → Option (List Int)
  | [] => some []
  | .inl i :: ks => match keyI ks with
    | some l => some (i :: l)
    | none => none
  | .inr _ :: _ => none
def keysI : List (List Key) → Option (List (List Int))
  | [] => some []
  | k :: ks => match keyI k, keysI ks with
    | some (i :: l), some r => some ((i :: l) :: r)
    | _, _ => none
theorem keyI_eq : ∀ {k : List Key} {l : List Int}, keyI k = some l → k = l.map Sum.inl
  | [], _, h => by cases h; rfl
  | .inl i :: ks, l, h => by
    unfold keyI at h
    split at h
    · rename_i l' e
      cases h
      rw [keyI_eq e]
      rfl
    · cases h
  | .inr _ :: _, _, h => by cases h
theorem keysI_eq : ∀ {ks : List (List Key)} {r : List (List Int)}, keysI ks = some r → ks = (r.map fun k => k.map Sum.inl) ∧ ∀ k ∈ r, k ≠ []
  | [], _, h => by cases h; exact ⟨rfl, fun k hk => by cases hk⟩
  | k :: ks, r, h => by
    unfold keysI at h
    split at h
    · rename_i i l r' e1 e2
      cases h
      obtain ⟨g1, g2⟩ := keysI_eq e2
      exact ⟨by rw [g1, keyI_eq e1]; rfl, fun k hk => (List.mem_cons.mp hk).elim (fun e => by rw [e]; simp) (g2 k)⟩
    · cases h
def gSortB (ds : List D) : Option (D × Bool) := match ds with
  | [.dT ks _] => match keysI ks with
    | some r => if decide (r.length < 64) = true then some (.lst ((Srt.lsort r).map tupD), true) else none
    | none => none
  | ds => gSortA ds
theorem os_sortB {K : PySem.W.Frag} : OpS K (fun xs H Q => ((rSortI K xs H Q ∨ rSortU K xs H Q) ∨ rSortT K xs H Q) ∨ rSortDT xs H Q) gSortB := by
  intro vs ds H L Q d nw hm r e q
  unfold gSortB at e
  split at e
  · rename_i ks es
    split at e
    · rename_i ns hk
      split at e
      · rename_i h64
        cases e
        have h64 := of_decide_eq_true h64
        obtain ⟨g1, g2⟩ := keysI_eq hk
        obtain ⟨x, rfl, ⟨p, xs, rfl, h1, hl, h2⟩⟩ := repBs1 r
        have ll : ns.length = xs.length := by rw [← hl, g1, List.length_map]
        refine .inr ⟨p, ns, xs, rfl, by rw [← g1]; exact h1, ll, h64, g2, fun l bs hf hb hk' => q _ _ (Same.upd hf) (new_lst (reps_at ?_ fun i d hd => ?_) hf)⟩
        · rw [List.length_map, hb, (Srt.lsort_perm ns).length_eq]
        · rw [List.getElem?_map] at hd
          obtain ⟨k, hk1, rfl⟩ := Option.map_eq_some_iff.mp hd
          obtain ⟨b, e1, e2⟩ := hk' i k hk1
          refine ⟨_, e1, b, _, rfl, ?_, repDs_ints k⟩
          rw [hid_ne fun z => by have := hm b z; rw [e2] at this; exact this]
          exact e2
      · cases e
    · cases e
  · exact .inl (os_sortA vs ds H L Q d nw hm r e q)
theorem call_sortB {X : Cx} (hc : X.calm = true) : CallR X (.builtin "sorted") (fun xs H Q => ((rSortI X.K xs H Q ∨ rSortU X.K xs H Q) ∨ rSortT X.K xs H Q) ∨ rSortDT xs H Q) := call_sortA.or (call_sortedDT hc)
section
variable {X : Cx} {EX : EXT} {e : Expr} {es : List Expr} {pos p : Pos} {as : List Arg}
theorem b_sortB (he : starEach (e :: es) X.env = (false, eval e X.env) :: starEach es X.env := by rfl) (hpl : (backTo pos (starEach es X.env)).any (·.1) = false := by rfl) (m : X.mg "sorted" = none) (ha : JA X EX (e :: es) as) (hg : Gl X "sorted" := by rfl) (hc : X.calm = true := by rfl) : JE X EX (.Call (.Name "sorted" p) (e :: es) [] pos) (sOp gSortB as) := c_callB (call_sortB hc) os_sortB hg m PyProof.Rows.boot_sorted ha (by decide) (by decide) he hpl
end
end L2
namespace L2
open PySem PySem.Spec PyProof.Rows
end L2
namespace L2
open PySem
section
variable {ρ ρ1 ρ2 ρ3 : Rho} {d : D} {nw b : Bool} {f g : SE} {s t : SS} {C : Str} {nms : List Str} {i : Nat}
end
end L2
namespace L2
open PySem
abbrev nD (l : List Int) : List D := l.map D.int
abbrev bD (l : List Bool) : List D := l.map D.bl
abbrev tieD (t : Int × Int) : D := .tup [.int t.1, .int t.2]
abbrev tD (ts : List (Int × Int)) : List D := ts.map tieD
abbrev webD (n : Int) (ts : List (Int × Int)) : D := .tup [.int n, .tup (tD ts)]
def rgI (lo : Int) (n : Nat) : List Int := (List.range n).map fun k => lo + (k : Nat)
theorem rgI_len (lo : Int) (n : Nat) : (rgI lo n).length = n := by unfold rgI; simp
theorem mem_rgI {lo : Int} {n : Nat} {x : Int} : x ∈ rgI lo n ↔ lo ≤ x ∧ x < lo + n := by
  unfold rgI
  rw [List.mem_map]
  constructor
  · rintro ⟨k, hk, rfl⟩
    have := List.mem_range.mp hk
    omega
  · rintro ⟨a, b⟩
    exact ⟨(x - lo).toNat, List.mem_range.mpr (by omega), by omega⟩
theorem rgI_get {lo : Int} {n i : Nat} {x : Int} (h : (rgI lo n)[i]? = some x) : i < n ∧ x = lo + i := by
  unfold rgI at h
  rw [List.getElem?_map] at h
  obtain ⟨k, hk, rfl⟩ := Option.map_eq_some_iff.mp h
  obtain ⟨a, b⟩ := List.getElem?_eq_some_iff.mp hk
  simp at a b
  subst b
  exact ⟨a, rfl⟩
theorem rgI_at {lo : Int} {n i : Nat} (h : i < n) : (rgI lo n)[i]? = some (lo + (i : Nat)) := by
  unfold rgI
  rw [List.getElem?_map, List.getElem?_range h]
  rfl
theorem rgI_succ (lo : Int) (n : Nat) : rgI lo (n + 1) = rgI lo n ++ [lo + (n : Nat)] := by unfold rgI; rw [List.range_succ, List.map_append]; rfl
theorem rgI_cons (lo : Int) (n : Nat) : rgI lo (n + 1) = lo :: rgI (lo + 1) n := by
  unfold rgI
  rw [List.range_succ_eq_map, List.map_cons, List.map_map]
  congr 1
  · simp
  · refine List.map_congr_left fun k _ => ?_
    show lo + ((k + 1 : Nat) : Int) = lo + 1 + (k : Nat)
    omega
theorem rngL_nD (lo : Int) (n : Nat) : rngL lo n = nD (rgI lo n) := by unfold rngL rgI; rw [nD, List.map_map]; rfl
section
variable {ρ ρ1 ρ2 ρ3 ρ4 : Rho} {d y : D} {ds ys : List D} {nw b : Bool} {f g : SE} {p : ST} {s : SS} {T : Tg} {k : Nat}
theorem r_rng1M {x : Arg} {j : Int} (h : evA [x] ρ = some (.ok [.int j], ρ1)) (h1 : -1000000 ≤ j) (h2 : j ≤ 1000000) : sRng1 x ρ = some (.ok (nD (rgI 0 j.toNat)), ρ1) := by rw [r_rng1 h (okR_of (by omega) (by omega) h1 h2 (by omega)), rngL_nD]
theorem r_rng1N {x : Arg} {n : Nat} (h : evA [x] ρ = some (.ok [.int (n : Nat)], ρ1)) (h2 : n ≤ 1000000) : sRng1 x ρ = some (.ok (nD (rgI 0 n)), ρ1) := by rw [r_rng1M h (by omega) (by omega), Int.toNat_natCast]
theorem r_ieI {x z : Int} (h : p ρ = some (.ok b, ρ1)) (h1 : f ρ1 = some (.ok (.int x) false, ρ1)) (h2 : g ρ1 = some (.ok (.int z) false, ρ1)) : sIf p f g ρ = some (.ok (.int (if b = true then x else z)) false, ρ1) := by
  unfold sIf
  rw [h]
  cases b with
  | true => exact h1
  | false => exact h2
theorem r_compC (h1 : asgT T d (ρ ++ List.replicate k none) = some ρ1) (h2 : f ρ1 = some (.ok y nw, ρ2)) (h3 : ρ2.take ρ.length = ρ3) (h4 : sCompL k T none f ds ρ3 = some (ys, ρ4)) : sCompL k T none f (d :: ds) ρ = some (y :: ys, ρ4) := by
  subst h3
  unfold sCompL
  simp only [h1, evC, h2, h4]
theorem r_loopN : sLoop T s [] ρ = some (.nx, ρ) := rfl
theorem r_loopC {r : Option (Out × Rho)} (h1 : asgT T d ρ = some ρ1) (h2 : s ρ1 = some (.nx, ρ2)) (h3 : sLoop T s ds ρ2 = r) : sLoop T s (d :: ds) ρ = r := by
  unfold sLoop
  simp only [h1, h2]
  exact h3
end
section
variable {α : Type} {k : Nat} {T : Tg} {f : SE} {c : ST} {ρ : Rho} {inj : α → D} {q : α → Bool}
theorem sCompL_ofI {g : α → Int} (xs : List α) (h : ∀ x ∈ xs, ∃ ρ1 ρ3 nw, asgT T (inj x) (ρ ++ List.replicate k none) = some ρ1 ∧ f ρ1 = some (.ok (.int (g x)) nw, ρ3) ∧ ρ3.take ρ.length = ρ) : sCompL k T none f (xs.map inj) ρ = some (nD (xs.map g), ρ) := by
  rw [sCompL_of (g := fun x => D.int (g x)) xs h, nD, List.map_map]; rfl
theorem sCompL_ofB {g : α → Bool} (xs : List α) (h : ∀ x ∈ xs, ∃ ρ1 ρ3 nw, asgT T (inj x) (ρ ++ List.replicate k none) = some ρ1 ∧ f ρ1 = some (.ok (.bl (g x)) nw, ρ3) ∧ ρ3.take ρ.length = ρ) : sCompL k T none f (xs.map inj) ρ = some (bD (xs.map g), ρ) := by
  rw [sCompL_of (g := fun x => D.bl (g x)) xs h, bD, List.map_map]; rfl
theorem sCompL_any {I : Rho → Prop} {P : D → Prop} : ∀ (ds : List D) (ρ : Rho), I ρ → (∀ d ∈ ds, ∀ ρ, I ρ → ∃ ρ1 ρ2 y nw, asgT T d (ρ ++ List.replicate k none) = some ρ1 ∧ f ρ1 = some (.ok y nw, ρ2) ∧ P y ∧ I (ρ2.take ρ.length)) → ∃ ys ρ', sCompL k T none f ds ρ = some (ys, ρ') ∧ I ρ' ∧ ys.length = ds.length ∧ ∀ y ∈ ys, P y
  | [], ρ, hI, _ => ⟨[], ρ, rfl, hI, rfl, fun _ h => absurd h List.not_mem_nil⟩
  | d :: ds, ρ, hI, h => by
    obtain ⟨ρ1, ρ2, y, nw, e1, e2, hP, hI2⟩ := h d List.mem_cons_self ρ hI
    obtain ⟨ys, ρ', e3, hI3, hl, hA⟩ := sCompL_any ds _ hI2 fun d hd => h d (List.mem_cons_of_mem _ hd)
    exact ⟨y :: ys, ρ', r_compC e1 e2 rfl e3, hI3, by rw [List.length_cons, List.length_cons, hl], fun z hz => by
      rcases List.mem_cons.mp hz with rfl | hz
      · exact hP
      · exact hA z hz⟩
end
def EndsQ (o : Option (Out × Rho)) (Q : Rho → Prop) : Prop := ∃ ρ', o = some (.nx, ρ') ∧ Q ρ'
theorem ex_seq {s t : SS} {ρ ρ1 : Rho} {Q : Rho → Prop} (h1 : s ρ = some (.nx, ρ1)) (h2 : EndsQ (t ρ1) Q) : EndsQ (sSeq s t ρ) Q := by obtain ⟨ρ', e, q⟩ := h2; exact ⟨ρ', r_seq h1 e, q⟩
theorem ex_one {s : SS} {ρ ρ1 : Rho} {Q : Rho → Prop} (h1 : s ρ = some (.nx, ρ1)) (h2 : Q ρ1) : EndsQ (s ρ) Q := ⟨ρ1, h1, h2⟩
theorem ex_compAny {j n : Nat} {it : SI} {ds : List D} {T : Tg} {f : SE} {s : SS} {ρ ρ1 : Rho} {Q : Rho → Prop} (I : Rho → Prop) (P : D → Prop) (hit : it ρ = some (.ok ds, ρ1)) (hg : Tg.ge ρ1.length T = true) (hI : I ρ1)
    (hs : ∀ d ∈ ds, ∀ ρ, I ρ → ∃ ρ1 ρ2 y nw, asgT T d (ρ ++ List.replicate n none) = some ρ1 ∧ f ρ1 = some (.ok y nw, ρ2) ∧ P y ∧ I (ρ2.take ρ.length))
    (go : ∀ ys ρ', I ρ' → ys.length = ds.length → (∀ y ∈ ys, P y) → ∃ x, ρ'[j]? = some x ∧ EndsQ (s (ρ'.set j (some (.lst ys, .ow)))) Q) : EndsQ (sSeq (sSet j (sComp n it T none f)) s ρ) Q := by
  obtain ⟨ys, ρ', e, h1, h2, h3⟩ := sCompL_any (k := n) (T := T) (f := f) (I := I) (P := P) ds ρ1 hI hs
  obtain ⟨x, hx, hr⟩ := go ys ρ' h1 h2 h3
  exact ex_seq (r_set (r_comp hit hg e) hx rfl) hr
theorem elA_mk {k : Nat} {T : Tg} {f : SE} {ρ ρ1 ρ2 : Rho} {d y : D} {nw : Bool} {P : D → Prop} {J : Rho → Prop} (h1 : asgT T d (ρ ++ List.replicate k none) = some ρ1) (h2 : f ρ1 = some (.ok y nw, ρ2)) (h3 : P y) (h4 : J ρ2) : ∃ ρ1 ρ2 y nw, asgT T d (ρ ++ List.replicate k none) = some ρ1 ∧ f ρ1 = some (.ok y nw, ρ2) ∧ P y ∧ J ρ2 := ⟨ρ1, ρ2, y, nw, h1, h2, h3, h4⟩
section
variable {α σ : Type} {T : Tg} {f : SS} {inj : α → D}
theorem sLoop_foldE (R : σ → Rho → Prop) (step : σ → α → σ) : ∀ (xs : List α) (s : σ) (ρ : Rho), R s ρ → (∀ x ∈ xs, ∀ s ρ, R s ρ → ∃ ρ1 ρ2, asgT T (inj x) ρ = some ρ1 ∧ f ρ1 = some (.nx, ρ2) ∧ R (step s x) ρ2) → ∃ ρ', sLoop T f (xs.map inj) ρ = some (.nx, ρ') ∧ R (xs.foldl step s) ρ'
  | [], s, ρ, h, _ => ⟨ρ, rfl, h⟩
  | x :: xs, s, ρ, h, hs => by
    obtain ⟨ρ1, ρ2, e1, e2, h2⟩ := hs x List.mem_cons_self s ρ h
    obtain ⟨ρ', e3, h3⟩ := sLoop_foldE R step xs _ ρ2 h2 fun x hx => hs x (List.mem_cons_of_mem _ hx)
    exact ⟨ρ', r_loopC e1 e2 e3, h3⟩
theorem sLoop_rng {lo : Int} (I : Nat → Rho → Prop) (n : Nat) (ρ : Rho) (h0 : I 0 ρ) (hs : ∀ i, i < n → ∀ ρ, I i ρ → ∃ ρ1 ρ2, asgT T (.int (lo + (i : Nat))) ρ = some ρ1 ∧ f ρ1 = some (.nx, ρ2) ∧ I (i + 1) ρ2) : ∃ ρ', sLoop T f (nD (rgI lo n)) ρ = some (.nx, ρ') ∧ I n ρ' := by
  obtain ⟨ρ', e, h⟩ := sLoop_inv (T := T) (f := f) I (nD (rgI lo n)) 0 ρ h0 fun i d ρ hd hI => by
    rw [nD, List.getElem?_map] at hd
    obtain ⟨x, hx, rfl⟩ := Option.map_eq_some_iff.mp hd
    obtain ⟨h1, rfl⟩ := rgI_get hx
    rw [Nat.zero_add] at hI ⊢
    exact hs i h1 ρ hI
  rw [List.length_map, rgI_len, Nat.zero_add] at h
  exact ⟨ρ', e, h⟩
theorem sLoop_rng0 (I : Nat → Rho → Prop) (n : Nat) (ρ : Rho) (h0 : I 0 ρ) (hs : ∀ i, i < n → ∀ ρ, I i ρ → ∃ ρ1 ρ2, asgT T (.int (i : Nat)) ρ = some ρ1 ∧ f ρ1 = some (.nx, ρ2) ∧ I (i + 1) ρ2) : ∃ ρ', sLoop T f (nD (rgI 0 n)) ρ = some (.nx, ρ') ∧ I n ρ' :=
  sLoop_rng I n ρ h0 fun i hi ρ hI => by rw [Int.zero_add]; exact hs i hi ρ hI
theorem sLoop_foldI (R : Nat → σ → Rho → Prop) (step : σ → α → σ) : ∀ (xs : List α) (n : Nat) (s : σ) (ρ : Rho), R n s ρ → (∀ i x, xs[i]? = some x → ∀ s ρ, R (n + i) s ρ → ∃ ρ1 ρ2, asgT T (inj x) ρ = some ρ1 ∧ f ρ1 = some (.nx, ρ2) ∧ R (n + i + 1) (step s x) ρ2) → ∃ ρ', sLoop T f (xs.map inj) ρ = some (.nx, ρ') ∧ R (n + xs.length) (xs.foldl step s) ρ'
  | [], n, s, ρ, h, _ => ⟨ρ, rfl, h⟩
  | x :: xs, n, s, ρ, h, hs => by
    obtain ⟨ρ1, ρ2, e1, e2, h2⟩ := hs 0 x rfl s ρ h
    obtain ⟨ρ', e3, h3⟩ := sLoop_foldI R step xs (n + 1) _ ρ2 h2 fun i x hx s ρ hR => by
      have := hs (i + 1) x (by simpa using hx) s ρ (by rw [show n + (i + 1) = n + 1 + i by omega]; exact hR)
      rw [show n + (i + 1) + 1 = n + 1 + i + 1 by omega] at this
      exact this
    refine ⟨ρ', r_loopC e1 e2 e3, ?_⟩
    rw [List.length_cons, show n + (xs.length + 1) = n + 1 + xs.length by omega]
    exact h3
end
section
variable {α : Type} {inj : α → D} {xs ys : List α} {ns ms : List Int} {i a b : Int}
theorem gLen_lstM : gLen [.lst (xs.map inj)] = some (.int (xs.length : Nat), false) := by show some (D.int ((xs.map inj).length : Nat), false) = _; rw [List.length_map]
theorem gLen_tupM : gLen [.tup (xs.map inj)] = some (.int (xs.length : Nat), false) := by show some (D.int ((xs.map inj).length : Nat), false) = _; rw [List.length_map]
theorem gIx_tupI (h0 : 0 ≤ i) (h1 : i < ns.length) : gIx [.tup (nD ns), .int i] = some (.int (ns.getD i.toNat 0), false) := gIx_tup (atI_ints h0 h1)
theorem gIx_lstI (h0 : 0 ≤ i) (h1 : i < ns.length) : gIx [.lst (nD ns), .int i] = some (.int (ns.getD i.toNat 0), false) := gIx_lst (atI_ints h0 h1)
theorem gIx_pick {c : Bool} : gIx [.lst [.int a, .int b], .int (if c = true then 1 else 0)] = some (.int (if c = true then b else a), false) := by cases c <;> rfl
theorem gSum_lstI : gSum [.lst (nD ns)] = some (.int ns.sum, false) := by unfold gSum; simp only [intsOf_map]
theorem gMaxA_lstI (h : ns ≠ []) : gMaxA [.lst (nD ns)] = some (.int (maxI ns), false) := gMaxA_lst ns h
theorem gMinA_lstI (h : ns ≠ []) : gMinA [.lst (nD ns)] = some (.int (minI ns), false) := gMinA_lst ns h
theorem gMaxA_2 : gMaxA [.int a, .int b] = some (.int (max a b), false) := by
  show some (D.int (if b > a then b else a), false) = _
  congr 3
  rw [Int.max_def]
  split <;> split <;> omega
theorem gMinA_2 : gMinA [.int a, .int b] = some (.int (min a b), false) := by
  show some (D.int (if b < a then b else a), false) = _
  congr 3
  rw [Int.min_def]
  split <;> split <;> omega
theorem gAbs_eq : gAbs [.int a] = some (.int (a.natAbs : Nat), false) := by
  show some (D.int (if a < 0 then -a else a), false) = _
  congr 3
  split <;> omega
theorem rngOk_of (h : -1000000 ≤ a) (h2 : b ≤ 1000000) (h3 : a ≤ 1000000) (h4 : -1000000 ≤ b) (h5 : b - a ≤ 1000) : rngOk a b = true := by
  unfold rngOk
  refine decide_eq_true ⟨?_, ?_, ?_, ?_, ?_⟩ <;> omega
theorem gList_rng (h : -1000000 ≤ a) (h2 : b ≤ 1000000) (h3 : a ≤ 1000000) (h4 : -1000000 ≤ b) (h5 : b - a ≤ 1000) : gListA [.rng a b] = some (.lst (nD (rgI a (b - a).toNat)), true) := by
  show (if rngOk a b = true then some (D.lst (rngL a (b - a).toNat), true) else none) = _
  rw [if_pos (rngOk_of h h2 h3 h4 h5), rngL_nD]
theorem gList_rng0 {n : Nat} (h : n ≤ 1000) : gListA [.rng 0 (n : Nat)] = some (.lst (nD (rgI 0 n)), true) := by rw [gList_rng (by omega) (by omega) (by omega) (by omega) (by omega), show ((n : Int) - 0).toNat = n by omega]
theorem gList_rng1 {n : Nat} (h : n ≤ 1000) : gListA [.rng 1 ((n : Nat) + 1)] = some (.lst (nD (rgI 1 n)), true) := by rw [gList_rng (by omega) (by omega) (by omega) (by omega) (by omega), show ((n : Int) + 1 - 1).toNat = n by omega]
theorem gSortB_lstI (h : ns.length < 64) : gSortB [.lst (nD ns)] = some (.lst (nD (isort ns)), true) := by
  have : gSorted [.lst (nD ns)] = some (.lst (nD (isort ns)), true) := by unfold gSorted; simp only [intsOf_map, h, decide_true, if_true]
  show gSortA _ = _
  unfold gSortA
  rw [this]
def psort (ts : List (Int × Int)) : List (Int × Int) := (Srt.lsort (ts.map fun t => [t.1, t.2])).map fun k => (k.getD 0 0, k.getD 1 0)
theorem psort_perm (ts : List (Int × Int)) : (psort ts).Perm ts := by
  unfold psort
  refine ((Srt.lsort_perm _).map _).trans ?_
  rw [List.map_map]
  refine List.Perm.of_eq ?_
  exact (List.map_congr_left (fun t _ => rfl)).trans (List.map_id' _)
theorem psort_back (ts : List (Int × Int)) : (psort ts).map (fun t => [t.1, t.2]) = Srt.lsort (ts.map fun t => [t.1, t.2]) := by
  unfold psort
  rw [List.map_map]
  refine (List.map_congr_left fun k hk => ?_).trans (List.map_id' _)
  obtain ⟨t, _, rfl⟩ := List.mem_map.mp ((Srt.lsort_perm _).mem_iff.mp hk)
  rfl
theorem tD_tup (ts : List (Int × Int)) : tD ts = (ts.map fun t => [t.1, t.2]).map tupD := by rw [tD, List.map_map]; rfl
theorem tupsI_map : ∀ (ks : List (List Int)), (∀ k ∈ ks, k ≠ []) → tupsI (ks.map tupD) = some ks
  | [], _ => rfl
  | k :: ks, h => by
    have e : tupI (tupD k) = some k := by
      cases k with
      | nil => exact absurd rfl (h _ List.mem_cons_self)
      | cons n ns => show (match intsOf ((n :: ns).map D.int) with | some (n :: ns) => some (n :: ns) | _ => none) = _; rw [intsOf_map]
    rw [List.map_cons]
    unfold tupsI
    rw [e, tupsI_map ks fun k hk => h k (List.mem_cons_of_mem _ hk)]
theorem gSortB_tD {ts : List (Int × Int)} (h : ts.length < 64) : gSortB [.lst (tD ts)] = some (.lst (tD (psort ts)), true) := by
  cases hts : ts with
  | nil => rfl
  | cons t r =>
    rw [← hts]
    have e0 : gSorted [.lst (tD ts)] = none := by rw [hts]; rfl
    have e1 : tupsI (tD ts) = some (ts.map fun t => [t.1, t.2]) := by
      rw [tD_tup]
      refine tupsI_map _ fun k hk => ?_
      obtain ⟨t, _, rfl⟩ := List.mem_map.mp hk
      exact fun z => nomatch z
    show gSortA _ = _
    unfold gSortA
    rw [e0]
    show gSortT _ = _
    unfold gSortT
    simp only [e1, List.length_map, h, decide_true, if_true]
    rw [← psort_back, tD_tup]
theorem eqNs_int : ∀ (a b : List Int), eqNs (a.map D.int) (b.map D.int) = decide (a = b)
  | [], [] => rfl
  | [], _ :: _ => rfl
  | _ :: _, [] => rfl
  | x :: a, y :: b => by
    show ((x == y) && eqNs (a.map D.int) (b.map D.int)) = _
    rw [eqNs_int a b, Bool.eq_iff_iff]
    simp
theorem nrmL_int : ∀ (a : List Int), nrmL (a.map D.int) = a.map D.int
  | [] => rfl
  | x :: a => by show nrm (.int x) :: nrmL (a.map D.int) = _; rw [nrmL_int a]; rfl
theorem all_eqable_int (n : Nat) : ∀ (a : List Int), (a.map D.int).all (eqable n) = true
  | [] => rfl
  | x :: a => by rw [List.map_cons, List.all_cons, all_eqable_int n a]; unfold eqable; rfl
theorem eqable_tupI (n : Nat) (a : List Int) : eqable (n + 1) (.tup (nD a)) = true := by unfold eqable; exact all_eqable_int n a
theorem eqable_lstI (n : Nat) (a : List Int) : eqable (n + 1) (.lst (nD a)) = true := by unfold eqable; exact all_eqable_int n a
theorem eqD_tupI (a b : List Int) : eqD (.tup (nD a)) (.tup (nD b)) = decide (a = b) := by unfold eqD nrm; rw [nrmL_int, nrmL_int]; show eqNs _ _ = _; exact eqNs_int a b
theorem eqD_lstI (a b : List Int) : eqD (.lst (nD a)) (.lst (nD b)) = decide (a = b) := by unfold eqD nrm; rw [nrmL_int, nrmL_int]; show eqNs _ _ = _; exact eqNs_int a b
theorem gEq_lstI : gEq [.lst (nD ns), .lst (nD ms)] = some (.bl (decide (ns = ms)), false) := by unfold gEq; simp only [eqable_lstI, Bool.and_self, if_true, eqD_lstI]
theorem gNe_tupI : gNe [.tup (nD ns), .tup (nD ms)] = some (.bl (!decide (ns = ms)), false) := by unfold gNe; simp only [eqable_tupI, Bool.and_self, if_true, eqD_tupI]
theorem gAdd_lstM (h : xs.length + ys.length ≤ 1000) : gAdd [.lst (xs.map inj), .lst (ys.map inj)] = some (.lst ((xs ++ ys).map inj), true) := by
  unfold gAdd
  simp only [small_of (show (xs.map inj).length + (ys.map inj).length ≤ 1000 by rw [List.length_map, List.length_map]; exact h), if_true, List.map_append]
theorem gAdd_lstX (h : ns.length ≤ 999) : gAdd [.lst (nD ns), .lst [.int a]] = some (.lst (nD (ns ++ [a])), true) := gAdd_lstM (inj := D.int) (xs := ns) (ys := [a]) (by simp; omega)
theorem gAdd_lstX' (h : ns.length ≤ 999) : gAdd [.lst [.int a], .lst (nD ns)] = some (.lst (nD (a :: ns)), true) := gAdd_lstM (inj := D.int) (xs := [a]) (ys := ns) (by simp; omega)
theorem uAppendI (h : ns.length ≤ 1000) : uAppend (.lst (nD ns)) [.int a] = some (.lst (nD (ns ++ [a])), .non) := by
  show (if small (nD ns).length = true then some (D.lst (nD ns ++ [.int a]), D.non) else none) = _
  rw [if_pos (small_of (by rw [List.length_map]; exact h)), nD, nD, List.map_append]
  rfl
theorem uAppendT {ts : List (Int × Int)} (h : ts.length ≤ 1000) : uAppend (.lst (tD ts)) [.tup [.int a, .int b]] = some (.lst (tD (ts ++ [(a, b)])), .non) := by
  show (if small (tD ts).length = true then some (D.lst (tD ts ++ [.tup [.int a, .int b]]), D.non) else none) = _
  rw [if_pos (small_of (by rw [List.length_map]; exact h)), tD, tD, List.map_append]
  rfl
theorem truD_tupM : truD (.tup (xs.map inj)) = some (!xs.isEmpty) := by cases xs <;> rfl
theorem gMul_l (h1 : -(2 ^ 64) < a) (h2 : a < 2 ^ 64) : gMul [.int a, .int b] = some (.int (a * b), false) := by
  show (if okMul a b = true then some (D.int (a * b), false) else none) = _
  rw [if_pos (okMul_l h1 h2)]
theorem repL_one (d : D) : ∀ n, repL n [d] = List.replicate n d
  | 0 => rfl
  | n + 1 => by
    have := repL_one d n
    unfold repL at this ⊢
    rw [List.replicate_succ, List.flatten_cons, this]
    rfl
theorem gMul_rep (h1 : -1000000 ≤ b) (h2 : b ≤ 1000000) : gMul [.lst [.int a], .int b] = some (.lst (nD (List.replicate b.toNat a)), true) := by
  show (if (decide (-1000000 ≤ b ∧ b ≤ 1000000) && small ([D.int a].length * b.toNat)) = true then some (D.lst (repL b.toNat [.int a]), true) else none) = _
  have : small ([D.int a].length * b.toNat) = true := decide_eq_true (by simp; omega)
  rw [if_pos (by rw [this, decide_eq_true ⟨h1, h2⟩]; rfl), repL_one, nD, List.map_replicate]
end
def cutI (xs : List Int) (lo hi : Option Int) : List Int := (xs.drop (HT.sIx xs.length 0 lo)).take (HT.sIx xs.length xs.length hi - HT.sIx xs.length 0 lo)
theorem cut_nD (ns : List Int) (lo hi : Option Int) : cutD (nD ns) lo hi = nD (cutI ns lo hi) := by
  unfold cutD cutI
  rw [List.length_map, nD, nD, List.map_take, List.map_drop]
theorem sIx_le {n d : Nat} {i : Int} (h : 0 ≤ i) : HT.sIx n d (some i) ≤ i.toNat := by
  unfold HT.sIx
  simp
  split <;> omega
theorem cut_len {ns : List Int} {lo : Option Int} {j : Int} (h : 0 ≤ j) : (cutI ns lo (some j)).length ≤ j.toNat := by
  unfold cutI
  rw [List.length_take]
  have := sIx_le (n := ns.length) (d := ns.length) h
  omega
theorem gS11_script {ns : List Int} {i j : Int} : gS11 i j [.klst (nD ns)] = some (.lst (nD (cutI ns (some i) (some j))), true) := by
  show some (D.lst (cutD (nD ns) _ _), true) = _
  rw [cut_nD]
theorem gAdd_cells {ns : List Int} {a i j : Int} (h : 0 ≤ j) (h2 : j < 100) : gAdd [.lst [.int a], .lst (nD (cutI ns (some i) (some j)))] = some (.lst (nD (a :: cutI ns (some i) (some j))), true) := gAdd_lstX' (by have := cut_len (ns := ns) (lo := some i) h; omega)
structure Pn where
  a : Int
  f : Int
  s : Int
abbrev pD (P : Pn) : D := penD P.a P.f P.s
theorem draw_ex (P : Pn) (m : Int) : ∃ q : Int × Pn, (0 < m → m < 1073741824 → f__law_draw [pD P, .int m] = some (.ok (.int q.1) false, pD q.2)) ∧ (0 < m → m < 1073741824 → 0 ≤ q.1 ∧ q.1 < m) := by
  by_cases h : 0 < m ∧ m < 1073741824
  · obtain ⟨r, a, f, s, e, h1, h2⟩ := fDraw_eq P.a P.f P.s m h.1 h.2
    exact ⟨(r, ⟨a, f, s⟩), fun _ _ => e, fun _ _ => ⟨h1, h2⟩⟩
  · exact ⟨(0, P), fun a b => absurd ⟨a, b⟩ h, fun a b => absurd ⟨a, b⟩ h⟩
noncomputable def dr (P : Pn) (m : Int) : Int := (Classical.choose (draw_ex P m)).1
noncomputable def nx (P : Pn) (m : Int) : Pn := (Classical.choose (draw_ex P m)).2
theorem tDraw {P : Pn} {m : Int} (h : 0 < m) (h2 : m < 1073741824) : f__law_draw [pD P, .int m] = some (.ok (.int (dr P m)) false, pD (nx P m)) := (Classical.choose_spec (draw_ex P m)).1 h h2
theorem dr_le (P : Pn) {m : Int} (h : 0 < m) (h2 : m < 1073741824) : 0 ≤ dr P m ∧ dr P m < m := (Classical.choose_spec (draw_ex P m)).2 h h2
theorem pen_ex (c : Int) : ∃ P : Pn, f__law_pen_of [.int c] = some (.ok (pD P) true, .non) := by
  obtain ⟨a, f, s, e⟩ := fPen_eq c
  exact ⟨⟨a, f, s⟩, e⟩
noncomputable def pen0 (c : Int) : Pn := Classical.choose (pen_ex c)
theorem tPen {c : Int} : f__law_pen_of [.int c] = some (.ok (pD (pen0 c)) true, .non) := Classical.choose_spec (pen_ex c)
noncomputable def cell0 (ns : List Int) (k : Nat) : Int := Classical.choose (fCell_eq ns k)
theorem tCell {ns : List Int} {k : Nat} : f__law_cell_at [.klst (nD ns), .int k] = some (.ok (.int (cell0 ns k)) false, .non) := Classical.choose_spec (fCell_eq ns k)
theorem tCell0 {ns : List Int} : f__law_cell_at [.klst (nD ns), .int 0] = some (.ok (.int (cell0 ns 0)) false, .non) := tCell (k := 0)
end L2
namespace L2
open PyProof.Rows
theorem sorted_uniqueI : ∀ {a b : List Int}, a.Pairwise (· ≤ ·) → b.Pairwise (· ≤ ·) → a.Perm b → a = b
  | [], b, _, _, p => by rw [p.nil_eq]
  | x :: a, [], _, _, p => absurd p.symm.nil_eq (by simp)
  | x :: a, y :: b, ha, hb, p => by
    have ha' := List.pairwise_cons.mp ha
    have hb' := List.pairwise_cons.mp hb
    have e : x = y := by
      have h1 : x ∈ y :: b := p.mem_iff.mp List.mem_cons_self
      have h2 : y ∈ x :: a := p.mem_iff.mpr List.mem_cons_self
      rcases List.mem_cons.mp h1 with h | h
      · exact h
      · rcases List.mem_cons.mp h2 with g | g
        · exact g.symm
        · have := hb'.1 x h
          have := ha'.1 y g
          omega
    subst e
    rw [sorted_uniqueI ha'.2 hb'.2 (List.Perm.cons_inv p)]
theorem rgI_sorted (lo : Int) : ∀ n, (rgI lo n).Pairwise (· ≤ ·)
  | 0 => List.Pairwise.nil
  | n + 1 => by
    rw [rgI_succ, List.pairwise_append]
    refine ⟨rgI_sorted lo n, List.pairwise_singleton _ _, fun a ha b hb => ?_⟩
    rw [List.mem_singleton.mp hb]
    have := mem_rgI.mp ha
    omega
theorem rgI_nodup (lo : Int) : ∀ n, (rgI lo n).Nodup
  | 0 => List.nodup_nil
  | n + 1 => by
    rw [rgI_succ, List.nodup_append]
    refine ⟨rgI_nodup lo n, List.pairwise_singleton _ _, fun a ha b hb => ?_⟩
    rw [List.mem_singleton.mp hb]
    have := mem_rgI.mp ha
    omega
theorem rgI_add (lo : Int) (m : Nat) : ∀ n, rgI lo (m + n) = rgI lo m ++ rgI (lo + (m : Nat)) n
  | 0 => by simp [rgI]
  | n + 1 => by
    rw [← Nat.add_assoc, rgI_succ, rgI_add lo m n, rgI_succ, List.append_assoc]
    congr 3
    omega
theorem isort_of_perm {l m : List Int} (h : l.Perm m) (hm : m.Pairwise (· ≤ ·)) : isort l = m := sorted_uniqueI (isort_sorted l) hm ((isort_perm l).trans h)
theorem isort_rgI {l : List Int} {lo : Int} {n : Nat} (h : l.Perm (rgI lo n)) : isort l = rgI lo n := isort_of_perm h (rgI_sorted lo n)
theorem dedup_nodup : ∀ (l acc : List Int), (l ++ acc).Nodup → (l.foldl step_dedup acc).length = acc.length + l.length
  | [], acc, _ => rfl
  | x :: l, acc, h => by
    have h' := List.nodup_cons.mp h
    have e : (step_dedup acc x).length = acc.length + 1 ∧ (step_dedup acc x).Perm (x :: acc) := by
      unfold step_dedup
      rw [if_neg]
      · exact ⟨by simp, by first | exact List.Perm.refl _ | exact List.perm_append_singleton x acc⟩
      · intro z
        refine h'.1 (List.mem_append_right _ ?_)
        first
          | (obtain ⟨y, hy, e⟩ := List.any_eq_true.mp z; rw [← eq_of_beq e]; exact hy)
          | simpa using z
    have nd : (l ++ step_dedup acc x).Nodup := by
      refine ((List.Perm.append_left l e.2).trans ?_).nodup_iff.mpr h
      exact List.perm_middle
    rw [List.foldl_cons, dedup_nodup l _ nd, e.1, List.length_cons]
    omega
theorem dd_nodup_len {l : List Int} (h : l.Nodup) : (dd l).length = l.length := by
  have := dedup_nodup l [] (by simpa using h)
  unfold dd
  simpa using this
theorem dedup_nd : ∀ (l acc : List Int), acc.Nodup → (l.foldl step_dedup acc).Nodup
  | [], acc, h => h
  | x :: l, acc, h => by
    rw [List.foldl_cons]
    refine dedup_nd l _ ?_
    unfold step_dedup
    split
    · exact h
    · rename_i hn
      have hx : x ∉ acc := fun z => hn (by
        first
          | exact List.any_eq_true.mpr ⟨x, z, beq_self_eq_true x⟩
          | simpa using z)
      first
        | exact List.nodup_cons.mpr ⟨hx, h⟩
        | exact (List.perm_append_singleton x acc).nodup_iff.mpr (List.nodup_cons.mpr ⟨hx, h⟩)
theorem dd_nd (l : List Int) : (dd l).Nodup := dedup_nd l [] List.nodup_nil
theorem dd_len_of {l m : List Int} (hm : m.Nodup) (h : ∀ x, x ∈ l ↔ x ∈ m) : (dd l).length = m.length := by
  have h1 : (dd l).length ≤ m.length := by
    have : (dd l).Subset m := fun x hx => (h x).mp ((dd_mem l x).mp hx)
    exact List.Nodup.length_le_of_subset (dd_nd l) this
  have h2 : m.length ≤ (dd l).length := by
    have : m.Subset (dd l) := fun x hx => (dd_mem l x).mpr ((h x).mpr hx)
    exact List.Nodup.length_le_of_subset hm this
  omega
theorem perm_rgI {l : List Int} {lo : Int} {n : Nat} (nd : l.Nodup) (hl : l.length = n) (hb : ∀ x ∈ l, lo ≤ x ∧ x < lo + n) : l.Perm (rgI lo n) := by
  refine (List.perm_ext_iff_of_nodup nd (rgI_nodup lo n)).mpr fun a => ⟨fun ha => mem_rgI.mpr (hb a ha), fun ha => ?_⟩
  by_cases h : a ∈ l
  · exact h
  · have sub : (a :: l) ⊆ rgI lo n := fun x hx => by
      rcases List.mem_cons.mp hx with rfl | hx
      · exact ha
      · exact mem_rgI.mpr (hb x hx)
    have := List.Nodup.length_le_of_subset (List.nodup_cons.mpr ⟨h, nd⟩) sub
    rw [List.length_cons, rgI_len] at this
    omega
end L2
namespace L2
def dnI (hi : Int) (n : Nat) : List Int := (List.range n).map fun k => hi - (k : Nat)
theorem dnI_len (hi : Int) (n : Nat) : (dnI hi n).length = n := by unfold dnI; simp
theorem dnI_cons (hi : Int) (n : Nat) : dnI hi (n + 1) = hi :: dnI (hi - 1) n := by
  unfold dnI
  rw [List.range_succ_eq_map, List.map_cons, List.map_map]
  congr 1
  · simp
  · refine List.map_congr_left fun k _ => ?_
    show hi - ((k + 1 : Nat) : Int) = hi - 1 - (k : Nat)
    omega
theorem dnI_succ (hi : Int) (n : Nat) : dnI hi (n + 1) = dnI hi n ++ [hi - (n : Nat)] := by unfold dnI; rw [List.range_succ, List.map_append]; rfl
theorem dnI_add (hi : Int) (m : Nat) : ∀ n, dnI hi (m + n) = dnI hi m ++ dnI (hi - (m : Nat)) n
  | 0 => by simp [dnI]
  | n + 1 => by
    rw [← Nat.add_assoc, dnI_succ, dnI_add hi m n, dnI_succ, List.append_assoc]
    congr 3
    omega
theorem dnI_perm (hi : Int) : ∀ n : Nat, (dnI hi n).Perm (rgI (hi - (n : Nat) + 1) n)
  | 0 => List.Perm.refl _
  | n + 1 => by
    rw [dnI_succ, rgI_cons]
    refine (List.perm_append_singleton _ _).trans ?_
    have e : hi - ((n + 1 : Nat) : Int) + 1 = hi - (n : Nat) := by omega
    rw [e]
    exact (dnI_perm hi n).cons _
theorem dnI_at {hi : Int} {n i : Nat} (h : i < n) : (dnI hi n)[i]? = some (hi - (i : Nat)) := by
  unfold dnI
  rw [List.getElem?_map, List.getElem?_range h]
  rfl
def rem (legs : List Nat) : Nat := legs.sum + legs.length - 1
def cS (b : Bool) (lo hi : Int) : List Nat → List Int
  | [] => []
  | l :: r => if r = [] then [] else if b then (hi - l) :: cS false lo (hi - l - 1) r else (lo + l) :: cS true (lo + l + 1) hi r
def cL (b : Bool) (lo hi : Int) : List Nat → List Int
  | [] => []
  | l :: r => if b then dnI hi l ++ cL false lo (hi - l - 1) r else rgI lo l ++ cL true (lo + l + 1) hi r
def cP (b : Bool) (lo hi : Int) : List Nat → Int
  | [] => lo - 1
  | l :: r => if r = [] then (if b then lo - 1 else lo + l - 1) else if b then cP false lo (hi - l - 1) r else cP true (lo + l + 1) hi r
def cT (k fr : Int) : List Nat → List (Int × Int)
  | [] => []
  | l :: r => (rgI fr l).map (fun x => (k, x)) ++ (if r = [] then [] else (k, k + 1) :: cT (k + 1) (fr + l) r)
theorem rem_cons {l : Nat} {r : List Nat} (h : r ≠ []) : rem (l :: r) = l + 1 + rem r := by
  unfold rem
  have := List.length_pos_iff.mpr h
  rw [List.sum_cons, List.length_cons]
  omega
theorem rem_one {l : Nat} : rem [l] = l := by unfold rem; simp
theorem cS_len : ∀ (legs : List Nat) (b : Bool) (lo hi : Int), (cS b lo hi legs).length = legs.length - 1
  | [], _, _, _ => rfl
  | l :: r, b, lo, hi => by
    unfold cS
    split
    · rename_i h; rw [h]; rfl
    · rename_i h
      have := List.length_pos_iff.mpr h
      split
      · rw [List.length_cons, cS_len r, List.length_cons]; omega
      · rw [List.length_cons, cS_len r, List.length_cons]; omega
theorem cL_len : ∀ (legs : List Nat) (b : Bool) (lo hi : Int), (cL b lo hi legs).length = legs.sum
  | [], _, _, _ => rfl
  | l :: r, b, lo, hi => by
    unfold cL
    split
    · rw [List.length_append, dnI_len, cL_len r, List.sum_cons]
    · rw [List.length_append, rgI_len, cL_len r, List.sum_cons]
theorem cat_perm : ∀ (legs : List Nat) (b : Bool) (lo hi : Int), legs ≠ [] → hi - lo + 1 = (rem legs : Nat) → (cS b lo hi legs ++ cL b lo hi legs).Perm (rgI lo (rem legs))
  | [], _, _, _, h, _ => absurd rfl h
  | l :: r, b, lo, hi, _, e => by
    by_cases hr : r = []
    · subst hr
      rw [rem_one] at e ⊢
      unfold cS cL
      rw [if_pos rfl, List.nil_append]
      show (if b = true then dnI hi l ++ [] else rgI lo l ++ []).Perm _
      split
      · rw [List.append_nil]
        have := dnI_perm hi l
        rw [show hi - (l : Nat) + 1 = lo by omega] at this
        exact this
      · rw [List.append_nil]
    · rw [rem_cons hr] at e ⊢
      unfold cS cL
      rw [if_neg hr]
      cases b with
      | true =>
        have ih := cat_perm r false lo (hi - l - 1) hr (by omega)
        show (((hi - l) :: cS false lo (hi - l - 1) r) ++ (dnI hi l ++ cL false lo (hi - l - 1) r)).Perm _
        have p1 : (((hi - l) :: cS false lo (hi - l - 1) r) ++ (dnI hi l ++ cL false lo (hi - l - 1) r)).Perm ((dnI hi l ++ [hi - l]) ++ (cS false lo (hi - l - 1) r ++ cL false lo (hi - l - 1) r)) := by
          rw [List.perm_iff_count]
          intro a
          simp only [List.count_append, List.count_cons, List.count_nil]
          omega
        refine p1.trans ?_
        rw [show l + 1 + rem r = rem r + (l + 1) by omega, rgI_add, ← dnI_succ]
        have p2 := dnI_perm hi (l + 1)
        rw [show hi - ((l + 1 : Nat) : Int) + 1 = lo + (rem r : Nat) by omega] at p2
        exact (List.Perm.append p2 ih).trans List.perm_append_comm
      | false =>
        have ih := cat_perm r true (lo + l + 1) hi hr (by omega)
        show (((lo + l) :: cS true (lo + l + 1) hi r) ++ (rgI lo l ++ cL true (lo + l + 1) hi r)).Perm _
        have p1 : (((lo + l) :: cS true (lo + l + 1) hi r) ++ (rgI lo l ++ cL true (lo + l + 1) hi r)).Perm ((rgI lo l ++ [lo + l]) ++ (cS true (lo + l + 1) hi r ++ cL true (lo + l + 1) hi r)) := by
          rw [List.perm_iff_count]
          intro a
          simp only [List.count_append, List.count_cons, List.count_nil]
          omega
        refine p1.trans ?_
        rw [rgI_add, ← rgI_succ, show lo + ((l + 1 : Nat) : Int) = lo + l + 1 by omega]
        exact List.Perm.append_left _ ih
theorem cP_le : ∀ (legs : List Nat) (b : Bool) (lo hi : Int), legs ≠ [] → hi - lo + 1 = (rem legs : Nat) → lo - 1 ≤ cP b lo hi legs ∧ cP b lo hi legs ≤ hi
  | [], _, _, _, h, _ => absurd rfl h
  | l :: r, b, lo, hi, _, e => by
    by_cases hr : r = []
    · subst hr
      rw [rem_one] at e
      unfold cP
      rw [if_pos rfl]
      split <;> omega
    · rw [rem_cons hr] at e
      unfold cP
      rw [if_neg hr]
      split
      · have := cP_le r false lo (hi - l - 1) hr (by omega)
        omega
      · have := cP_le r true (lo + l + 1) hi hr (by omega)
        omega
theorem cat_steps (N : Int → Int) : ∀ (legs : List Nat) (b : Bool) (lo hi k fr : Int), legs ≠ [] → hi - lo + 1 = (rem legs : Nat) → N k = (if b then lo - 1 else hi + 1) →
    (∀ (j : Nat) x, (cS b lo hi legs)[j]? = some x → N (k + 1 + j) = x) → (∀ (j : Nat) x, (cL b lo hi legs)[j]? = some x → N (fr + j) = x) →
    (cT k fr legs).map (fun t => ((N t.1 - N t.2).natAbs : Int)) = dnI (rem legs : Nat) (rem legs) ∧ ∀ t ∈ cT k fr legs, min (N t.1) (N t.2) ≤ cP b lo hi legs ∧ cP b lo hi legs < max (N t.1) (N t.2)
  | [], _, _, _, _, _, h, _, _, _, _ => absurd rfl h
  | l :: r, b, lo, hi, k, fr, _, e, hk, hs, hl => by
    -- the legs of this place
    have legN : ∀ j : Nat, j < l → N (fr + j) = if b then hi - j else lo + j := fun j hj => by
      refine hl j _ ?_
      unfold cL
      cases b with
      | true => show (dnI hi l ++ _)[j]? = _; rw [List.getElem?_append_left (by rw [dnI_len]; exact hj), dnI_at hj]; rfl
      | false => show (rgI lo l ++ _)[j]? = _; rw [List.getElem?_append_left (by rw [rgI_len]; exact hj), rgI_at hj]; rfl
    have here : ((rgI fr l).map (fun x => (k, x))).map (fun t => ((N t.1 - N t.2).natAbs : Int)) = dnI (rem (l :: r) : Nat) l := by
      unfold rgI dnI
      rw [List.map_map, List.map_map]
      refine List.map_congr_left fun j hj => ?_
      have hj := List.mem_range.mp hj
      show ((N k - N (fr + (j : Nat))).natAbs : Int) = _
      rw [hk, legN j hj]
      have : l ≤ rem (l :: r) := by unfold rem; rw [List.sum_cons, List.length_cons]; omega
      split <;> omega
    have bnd := cP_le (l :: r) b lo hi (by simp) e
    by_cases hr : r = []
    · subst hr
      refine ⟨?_, ?_⟩
      · unfold cT
        rw [if_pos rfl, List.append_nil, here, rem_one]
      · intro t ht
        unfold cT at ht
        rw [if_pos rfl, List.append_nil] at ht
        obtain ⟨x, hx, rfl⟩ := List.mem_map.mp ht
        obtain ⟨h1, h2⟩ := mem_rgI.mp hx
        have hx2 := legN (x - fr).toNat (by omega)
        rw [show fr + ((x - fr).toNat : Nat) = x by omega] at hx2
        rw [rem_one] at e
        show min (N k) (N x) ≤ _ ∧ _ < max (N k) (N x)
        rw [hk, hx2]
        unfold cP
        rw [if_pos rfl]
        split <;> omega
    · have er := rem_cons (l := l) hr
      have nxt : N (k + 1) = if b then hi - l else lo + l := by
        have := hs 0 (if b then hi - l else lo + l) (by
          unfold cS
          rw [if_neg hr]
          cases b <;> rfl)
        simpa using this
      have ih := cat_steps N r (!b) (if b then lo else lo + l + 1) (if b then hi - l - 1 else hi) (k + 1) (fr + l) hr (by rw [er] at e; cases b <;> simp <;> omega) (by rw [nxt]; cases b <;> simp <;> omega)
        (fun j x hx => by
          have := hs (j + 1) x (by
            unfold cS
            rw [if_neg hr]
            cases b <;> simpa using hx)
          rw [← this]
          congr 1
          omega)
        (fun j x hx => by
          have := hl (l + j) x (by
            unfold cL
            cases b with
            | true => show (dnI hi l ++ _)[l + j]? = _; rw [List.getElem?_append_right (by rw [dnI_len]; omega), dnI_len, Nat.add_sub_cancel_left]; simpa using hx
            | false => show (rgI lo l ++ _)[l + j]? = _; rw [List.getElem?_append_right (by rw [rgI_len]; omega), rgI_len, Nat.add_sub_cancel_left]; simpa using hx)
          rw [← this]
          congr 1
          omega)
      have cp : cP b lo hi (l :: r) = cP (!b) (if b then lo else lo + l + 1) (if b then hi - l - 1 else hi) r := by
        conv => lhs; unfold cP
        rw [if_neg hr]
        cases b <;> rfl
      refine ⟨?_, ?_⟩
      · unfold cT
        rw [if_neg hr, List.map_append, here, List.map_cons, ih.1]
        show _ ++ ((N k - N (k + 1)).natAbs : Int) :: _ = _
        rw [hk, nxt, er, show l + 1 + rem r = l + (rem r + 1) by omega, dnI_add, dnI_cons]
        congr 2
        · rw [er] at e
          split <;> omega
        · congr 1
          omega
      · intro t ht
        unfold cT at ht
        rw [if_neg hr] at ht
        have bnd2 := cP_le r (!b) (if b then lo else lo + l + 1) (if b then hi - l - 1 else hi) hr (by rw [er] at e; cases b <;> simp <;> omega)
        rw [cp]
        rw [er] at e
        rcases List.mem_append.mp ht with ht | ht
        · obtain ⟨x, hx, rfl⟩ := List.mem_map.mp ht
          obtain ⟨h1, h2⟩ := mem_rgI.mp hx
          have hx2 := legN (x - fr).toNat (by omega)
          rw [show fr + ((x - fr).toNat : Nat) = x by omega] at hx2
          show min (N k) (N x) ≤ _ ∧ _ < max (N k) (N x)
          rw [hk, hx2]
          cases b <;> simp at bnd2 ⊢ <;> omega
        · rcases List.mem_cons.mp ht with rfl | ht
          · show min (N k) (N (k + 1)) ≤ _ ∧ _ < max (N k) (N (k + 1))
            rw [hk, nxt]
            cases b <;> simp at bnd2 ⊢ <;> omega
          · exact ih.2 t ht
theorem cT_snd : ∀ (legs : List Nat) (k fr : Int), legs ≠ [] → ((cT k fr legs).map Prod.snd).Perm (rgI (k + 1) (legs.length - 1) ++ rgI fr legs.sum)
  | [], _, _, h => absurd rfl h
  | l :: r, k, fr, _ => by
    have e0 : ((rgI fr l).map (fun x => (k, x))).map Prod.snd = rgI fr l := by rw [List.map_map]; exact (List.map_congr_left fun x _ => rfl).trans (List.map_id' _)
    unfold cT
    by_cases hr : r = []
    · subst hr
      rw [if_pos rfl, List.append_nil, e0]
      simp [rgI]
    · have := List.length_pos_iff.mpr hr
      rw [if_neg hr, List.map_append, e0, List.map_cons, List.length_cons, List.sum_cons, rgI_add, show r.length + 1 - 1 = (r.length - 1) + 1 by omega, rgI_cons]
      have ih := cT_snd r (k + 1) (fr + l) hr
      show (rgI fr l ++ (k + 1) :: (cT (k + 1) (fr + l) r).map Prod.snd).Perm ((k + 1) :: rgI (k + 1 + 1) (r.length - 1) ++ (rgI fr l ++ rgI (fr + (l : Nat)) r.sum))
      rw [List.perm_iff_count]
      intro a
      have := List.perm_iff_count.mp ih a
      simp only [List.count_append, List.count_cons] at this ⊢
      omega
theorem cT_len {legs : List Nat} (h : legs ≠ []) (k fr : Int) : (cT k fr legs).length = rem legs := by
  have := (cT_snd legs k fr h).length_eq
  rw [List.length_map, List.length_append, rgI_len, rgI_len] at this
  have := List.length_pos_iff.mpr h
  unfold rem
  omega
theorem cT_fst : ∀ (legs : List Nat) (k fr : Int), k + legs.length ≤ fr → ∀ t ∈ cT k fr legs, k ≤ t.1 ∧ t.1 < k + legs.length ∧ t.1 < t.2 ∧ t.2 < fr + legs.sum
  | [], _, _, _, t, ht => by unfold cT at ht; exact absurd ht List.not_mem_nil
  | l :: r, k, fr, hf, t, ht => by
    rw [List.length_cons] at hf ⊢
    rw [List.sum_cons]
    unfold cT at ht
    rcases List.mem_append.mp ht with ht | ht
    · obtain ⟨x, hx, rfl⟩ := List.mem_map.mp ht
      obtain ⟨h1, h2⟩ := mem_rgI.mp hx
      show k ≤ k ∧ k < _ ∧ k < x ∧ x < _
      omega
    · split at ht
      · exact absurd ht List.not_mem_nil
      · rename_i hr
        have := List.length_pos_iff.mpr hr
        rcases List.mem_cons.mp ht with rfl | ht
        · show k ≤ k ∧ k < _ ∧ k < k + 1 ∧ k + 1 < _
          omega
        · have := cT_fst r (k + 1) (fr + l) (by omega) t ht
          omega
def cN (legs : List Nat) : List Int := (0 :: cS true 1 (rem legs : Nat) legs) ++ cL true 1 (rem legs : Nat) legs
theorem cN_perm {legs : List Nat} (h : legs ≠ []) : (cN legs).Perm (rgI 0 (rem legs + 1)) := by
  unfold cN
  rw [rgI_cons, List.cons_append]
  exact (cat_perm legs true 1 _ h (by omega)).cons 0
theorem getD_of {l : List Int} {i : Nat} {x : Int} (h : l[i]? = some x) : l.getD i 0 = x := by rw [List.getD_eq_getElem?_getD, h]; rfl
theorem cN_steps {legs : List Nat} (h : legs ≠ []) : (cT 0 (legs.length : Nat) legs).map (fun t => (((cN legs).getD t.1.toNat 0 - (cN legs).getD t.2.toNat 0).natAbs : Int)) = dnI (rem legs : Nat) (rem legs) ∧ ∀ t ∈ cT 0 (legs.length : Nat) legs, min ((cN legs).getD t.1.toNat 0) ((cN legs).getD t.2.toNat 0) ≤ cP true 1 (rem legs : Nat) legs ∧ cP true 1 (rem legs : Nat) legs < max ((cN legs).getD t.1.toNat 0) ((cN legs).getD t.2.toNat 0) := by
  have hl := List.length_pos_iff.mpr h
  refine cat_steps (fun i => (cN legs).getD i.toNat 0) legs true 1 (rem legs : Nat) 0 (legs.length : Nat) h (by omega) rfl (fun j x hx => ?_) (fun j x hx => ?_)
  · refine getD_of ?_
    rw [show ((0 : Int) + 1 + (j : Nat)).toNat = j + 1 by omega]
    unfold cN
    rw [List.getElem?_append_left (by rw [List.length_cons, cS_len]; have := (List.getElem?_eq_some_iff.mp hx).1; rw [cS_len] at this; omega), List.getElem?_cons_succ]
    exact hx
  · refine getD_of ?_
    rw [show ((legs.length : Int) + (j : Nat)).toNat = legs.length + j by omega]
    unfold cN
    have e : (0 :: cS true 1 (rem legs : Nat) legs).length = legs.length := by rw [List.length_cons, cS_len]; omega
    rw [List.getElem?_append_right (by rw [e]; omega), e, Nat.add_sub_cancel_left]
    exact hx
end L2
namespace L2
theorem mod_inj {q a b : Int} (hq : 0 < q) (h : a % q = b % q) (h1 : a - b < q) (h2 : b - a < q) : a = b := by
  have h3 := Int.emod_eq_emod_iff_emod_sub_eq_zero.mp h
  obtain ⟨c, hc⟩ := Int.dvd_of_emod_eq_zero h3
  have c0 : c = 0 := by
    by_cases c1 : 1 ≤ c
    · have := Int.mul_le_mul_of_nonneg_left c1 (Int.le_of_lt hq)
      omega
    · by_cases c2 : c ≤ -1
      · have := Int.mul_le_mul_of_nonneg_left c2 (Int.le_of_lt hq)
        omega
      · omega
  rw [c0] at hc
  omega
theorem nodup_map_on {α β : Type} {f : α → β} : ∀ {l : List α}, l.Nodup → (∀ x ∈ l, ∀ y ∈ l, f x = f y → x = y) → (l.map f).Nodup
  | [], _, _ => List.nodup_nil
  | x :: l, nd, h => by
    have nd := List.nodup_cons.mp nd
    rw [List.map_cons, List.nodup_cons]
    refine ⟨fun z => ?_, nodup_map_on nd.2 fun a ha b hb => h a (List.mem_cons_of_mem _ ha) b (List.mem_cons_of_mem _ hb)⟩
    obtain ⟨y, hy, e⟩ := List.mem_map.mp z
    have := h y (List.mem_cons_of_mem _ hy) x List.mem_cons_self e
    subst this
    exact nd.1 hy
abbrev stG (ps : List Int) (t : Int × Int) : Int := ((ps.getD t.1.toNat 0 - ps.getD t.2.toNat 0).natAbs : Nat)
structure Prt (ts : List (Int × Int)) (q : Nat) (ps : List Int) (P : Int) : Prop where
  p : ps.Perm (rgI 0 (q + 1))
  s : (ts.map (stG ps)).Perm (rgI 1 q)
  m : ∀ t ∈ ts, min (ps.getD t.1.toNat 0) (ps.getD t.2.toNat 0) ≤ P ∧ P < max (ps.getD t.1.toNat 0) (ps.getD t.2.toNat 0)
  r : ∀ t ∈ ts, 0 ≤ t.1 ∧ t.1 < (q : Int) + 1 ∧ 0 ≤ t.2 ∧ t.2 < (q : Int) + 1
  q0 : 0 < q
theorem Prt.len {ts : List (Int × Int)} {q : Nat} {ps : List Int} {P : Int} (h : Prt ts q ps P) : ps.length = q + 1 := by rw [h.p.length_eq, rgI_len]
theorem getD_mem {l : List Int} {i : Nat} (h : i < l.length) : l.getD i 0 ∈ l := by rw [List.getD_eq_getElem?_getD, List.getElem?_eq_getElem h]; exact List.getElem_mem h
theorem Prt.at {ts : List (Int × Int)} {q : Nat} {ps : List Int} {P : Int} (h : Prt ts q ps P) {i : Int} (h0 : 0 ≤ i) (h1 : i < (q : Int) + 1) : 0 ≤ ps.getD i.toNat 0 ∧ ps.getD i.toNat 0 ≤ q := by
  have := mem_rgI.mp (h.p.mem_iff.mp (getD_mem (l := ps) (i := i.toNat) (by rw [h.len]; omega)))
  omega
theorem Prt.one {ts : List (Int × Int)} {q : Nat} {ps : List Int} {P : Int} (h : Prt ts q ps P) : ∃ t ∈ ts, min (ps.getD t.1.toNat 0) (ps.getD t.2.toNat 0) = P ∧ max (ps.getD t.1.toNat 0) (ps.getD t.2.toNat 0) = P + 1 := by
  have : (1 : Int) ∈ ts.map (stG ps) := h.s.mem_iff.mpr (mem_rgI.mpr (by have := h.q0; omega))
  obtain ⟨t, ht, e⟩ := List.mem_map.mp this
  have := h.m t ht
  have e : (((ps.getD t.1.toNat 0 - ps.getD t.2.toNat 0).natAbs : Nat) : Int) = 1 := e
  exact ⟨t, ht, by omega, by omega⟩
theorem Prt.P0 {ts : List (Int × Int)} {q : Nat} {ps : List Int} {P : Int} (h : Prt ts q ps P) : 0 ≤ P ∧ P < q := by
  obtain ⟨t, ht, e1, e2⟩ := h.one
  obtain ⟨r1, r2, r3, r4⟩ := h.r t ht
  have a1 := h.at r1 r2
  have a2 := h.at r3 r4
  omega
theorem Prt.max {ts : List (Int × Int)} {q : Nat} {ps : List Int} {P : Int} (h : Prt ts q ps P) : maxI (ts.map fun t => min (ps.getD t.1.toNat 0) (ps.getD t.2.toNat 0)) = P := by
  obtain ⟨t, ht, e1, e2⟩ := h.one
  have ne : (ts.map fun t => min (ps.getD t.1.toNat 0) (ps.getD t.2.toNat 0)) ≠ [] := fun z => by rw [List.map_eq_nil_iff] at z; rw [z] at ht; exact absurd ht List.not_mem_nil
  obtain ⟨m1, m2⟩ := maxI_is ne
  have := m2 P (List.mem_map.mpr ⟨t, ht, e1⟩)
  obtain ⟨u, hu, e⟩ := List.mem_map.mp m1
  have := h.m u hu
  omega
theorem Prt.min {ts : List (Int × Int)} {q : Nat} {ps : List Int} {P : Int} (h : Prt ts q ps P) : P < minI (ts.map fun t => Max.max (ps.getD t.1.toNat 0) (ps.getD t.2.toNat 0)) := by
  obtain ⟨t, ht, e1, e2⟩ := h.one
  have ne : (ts.map fun t => Max.max (ps.getD t.1.toNat 0) (ps.getD t.2.toNat 0)) ≠ [] := fun z => by rw [List.map_eq_nil_iff] at z; rw [z] at ht; exact absurd ht List.not_mem_nil
  obtain ⟨m1, m2⟩ := minI_is ne
  obtain ⟨u, hu, e⟩ := List.mem_map.mp m1
  have := h.m u hu
  omega
theorem Prt.unl {ts : List (Int × Int)} {q : Nat} {ps : List Int} {P : Int} (h : Prt ts q ps P) : ((ps.map fun i => decide ((0 : Int) ≤ i) && decide (i ≤ (q : Nat))).all id && decide (((dd ps).length : Int) = ps.length)) = true := by
  rw [dd_nodup_len (h.p.nodup_iff.mpr (rgI_nodup _ _)), decide_eq_true rfl, Bool.and_true, List.all_map, List.all_eq_true]
  intro x hx
  have := mem_rgI.mp (h.p.mem_iff.mp hx)
  show (decide _ && decide _) = true
  rw [decide_eq_true (by omega), decide_eq_true (by omega)]
  rfl
theorem getD_mapI {f : Int → Int} {l : List Int} {i : Nat} (h : i < l.length) : (l.map f).getD i 0 = f (l.getD i 0) := by
  simp [List.getD_eq_getElem?_getD, List.getElem?_map, List.getElem?_eq_getElem h]
theorem Prt.mirror {ts : List (Int × Int)} {q : Nat} {ps : List Int} {P : Int} (h : Prt ts q ps P) : Prt ts q (ps.map fun x => (q : Int) - x) ((q : Int) - 1 - P) := by
  have g : ∀ t ∈ ts, (ps.map fun x => (q : Int) - x).getD t.1.toNat 0 = q - ps.getD t.1.toNat 0 ∧ (ps.map fun x => (q : Int) - x).getD t.2.toNat 0 = q - ps.getD t.2.toNat 0 := fun t ht => by
    have := h.r t ht
    have := h.len
    exact ⟨getD_mapI (by omega), getD_mapI (by omega)⟩
  refine ⟨?_, ?_, fun t ht => ?_, h.r, h.q0⟩
  · refine perm_rgI (nodup_map_on (h.p.nodup_iff.mpr (rgI_nodup _ _)) fun x _ y _ e => by omega) (by rw [List.length_map, h.len]) fun x hx => ?_
    obtain ⟨y, hy, rfl⟩ := List.mem_map.mp hx
    have := mem_rgI.mp (h.p.mem_iff.mp hy)
    omega
  · refine List.Perm.trans (List.Perm.of_eq ?_) h.s
    refine List.map_congr_left fun t ht => ?_
    have := g t ht
    show ((_ : Nat) : Int) = ((_ : Nat) : Int)
    rw [this.1, this.2]
    omega
  · have := g t ht
    rw [this.1, this.2]
    have := h.m t ht
    omega
def upR (q P x : Int) : Int := (if x ≤ P then x else q + P + 1 - x) % q
theorem Prt.sums {ts : List (Int × Int)} {q : Nat} {ps : List Int} {P : Int} (h : Prt ts q ps P) : isort (ts.map fun t => ((ps.map (upR q P)).getD t.1.toNat 0 + (ps.map (upR q P)).getD t.2.toNat 0) % (q : Nat)) = rgI 0 q := by
  have q0 := h.q0
  have e : (ts.map fun t => ((ps.map (upR q P)).getD t.1.toNat 0 + (ps.map (upR q P)).getD t.2.toNat 0) % ((q : Nat) : Int)) = (ts.map (stG ps)).map fun s => ((q : Int) + P + 1 - s) % (q : Nat) := by
    rw [List.map_map]
    refine List.map_congr_left fun t ht => ?_
    obtain ⟨r1, r2, r3, r4⟩ := h.r t ht
    have hl := h.len
    rw [getD_mapI (by omega), getD_mapI (by omega)]
    unfold upR
    rw [← Int.add_emod]
    show _ = ((q : Int) + P + 1 - (((ps.getD t.1.toNat 0 - ps.getD t.2.toNat 0).natAbs : Nat) : Int)) % (q : Nat)
    congr 1
    have := h.m t ht
    split <;> split <;> omega
  rw [e]
  refine isort_rgI ((h.s.map _).trans ?_)
  refine perm_rgI (nodup_map_on (rgI_nodup _ _) fun x hx y hy z => ?_) (by rw [List.length_map, rgI_len]) fun x hx => ?_
  · have hx := mem_rgI.mp hx
    have hy := mem_rgI.mp hy
    have := mod_inj (by omega) z (by omega) (by omega)
    omega
  · obtain ⟨y, hy, rfl⟩ := List.mem_map.mp hx
    have := Int.emod_nonneg ((q : Int) + P + 1 - y) (b := (q : Nat)) (by omega)
    have := Int.emod_lt_of_pos ((q : Int) + P + 1 - y) (b := (q : Nat)) (by omega)
    omega
theorem Prt.bnd {ts : List (Int × Int)} {q : Nat} {ps : List Int} {P : Int} (h : Prt ts q ps P) : ∀ x ∈ ps.map (upR q P), 0 ≤ x ∧ x < q := fun x hx => by
  obtain ⟨y, hy, rfl⟩ := List.mem_map.mp hx
  have q0 := h.q0
  unfold upR
  exact ⟨Int.emod_nonneg _ (by omega), Int.emod_lt_of_pos _ (by omega)⟩
theorem Prt.kinds {ts : List (Int × Int)} {q : Nat} {ps : List Int} {P : Int} (h : Prt ts q ps P) : (dd (ps.map (upR q P))).length = q := by
  have P0 := h.P0
  have := dd_len_of (l := ps.map (upR q P)) (rgI_nodup 0 q) fun x => ⟨fun hx => mem_rgI.mpr (by have := h.bnd x hx; omega), fun hx => by
    have hx := mem_rgI.mp hx
    by_cases hP : x ≤ P
    · exact List.mem_map.mpr ⟨x, h.p.mem_iff.mpr (mem_rgI.mpr (by omega)), by unfold upR; rw [if_pos hP]; exact Int.emod_eq_of_lt (by omega) (by omega)⟩
    · refine List.mem_map.mpr ⟨(q : Int) + P + 1 - x, h.p.mem_iff.mpr (mem_rgI.mpr (by omega)), ?_⟩
      unfold upR
      rw [if_neg (by omega), show (q : Int) + P + 1 - ((q : Int) + P + 1 - x) = x by omega]
      exact Int.emod_eq_of_lt (by omega) (by omega)⟩
  rw [this, rgI_len]
theorem cat_prt {legs : List Nat} (h0 : 0 < rem legs) (h : legs ≠ []) : Prt (psort (cT 0 (legs.length : Nat) legs)) (rem legs) (cN legs) (cP true 1 (rem legs : Nat) legs) := by
  obtain ⟨s1, s2⟩ := cN_steps h
  have pm := psort_perm (cT 0 (legs.length : Nat) legs)
  refine ⟨cN_perm h, (pm.map _).trans ?_, fun t ht => s2 t (pm.mem_iff.mp ht), fun t ht => ?_, h0⟩
  · refine (List.Perm.of_eq s1).trans ?_
    have := dnI_perm (rem legs : Nat) (rem legs)
    rw [show ((rem legs : Nat) : Int) - (rem legs : Nat) + 1 = 1 by omega] at this
    exact this
  · have := cT_fst legs 0 (legs.length : Nat) (by omega) t (pm.mem_iff.mp ht)
    unfold rem
    have := List.length_pos_iff.mpr h
    omega
end L2
namespace K41
open PySem L2 PyProof.Rows
def top (i : Nat) : Stmt := PySem.Challenge.pw_tienumbers_k41_round_sums_from_parted.main.body.getD i (.Pass ⟨0, 0, 0, 0⟩)
structure Txt (K : PySem.W.Frag) (mg : Str → Option Value) : Prop where
  abs : mg "abs" = none
  all : mg "all" = none
  bool : mg "bool" = none
  int : mg "int" = none
  isi : mg "isinstance" = none
  len : mg "len" = none
  list : mg "list" = none
  max : mg "max" = none
  min : mg "min" = none
  range : mg "range" = none
  set : mg "set" = none
  sorted : mg "sorted" = none
  sum : mg "sum" = none
  tuple : mg "tuple" = none
section
variable {P : Program} {w : World} {K : PySem.W.Frag} {mg : Str → Option Value} {base : Heap}
def s_is_whole : SS := (sRet (sAndV (sOp (gIsi "int") [.bor 0]) (sNotV (sOp (gIsi "bool") [.bor 0]))))
def f_is_whole : FS := fnRun 1 1 none s_is_whole
theorem sc_is_whole : FnScope ["thing"] ["thing"] (defScope (top 1)) := ⟨rfl, rfl, rfl, by decide +kernel, rfl, by decide +kernel, by decide +kernel⟩
theorem ok_is_whole (h : Has K mg "is_whole" (top 1) ["thing"]) (T : Txt K mg) : OkX P w K mg base "is_whole" ["thing"] 1 (spF K none f_is_whole) := by
  refine fn_ok h sc_is_whole (fun f cdv A outer s H E hr => ?_)
  exact (s_one (s_ret (c_and (b_isi_int (vb 0) T.isi T.int) (c_one (c_not (b_isi_bool (vb 0) T.isi T.bool))))))
def s_places_numbered : SS := (sRet (sAndV (sOp (gIsi "tuple") [.bor 1]) (sOp gEq [.ex (sOp gLen [.bor 1]), .ex (sOp gIx [.bor 0, .ex (sC (.int 0))])])))
def f_places_numbered : FS := fnRun 2 2 none s_places_numbered
theorem sc_places_numbered : FnScope ["web", "thing"] ["web", "thing"] (defScope (top 9)) := ⟨rfl, rfl, rfl, by decide +kernel, rfl, by decide +kernel, by decide +kernel⟩
theorem ok_places_numbered (h : Has K mg "places_numbered" (top 9) ["web", "thing"]) (T : Txt K mg) : OkX P w K mg base "places_numbered" ["web", "thing"] 1 (spF K none f_places_numbered) := by
  refine fn_ok h sc_places_numbered (fun f cdv A outer s H E hr => ?_)
  have hu : (cxOf (CXr P w) P w K mg base ["web", "thing"] "places_numbered" (defScope (top 9)) f cdv A outer s H E).A.units + 10 < cLine := by have := hr.units; show (A.deeper _).units + 10 < cLine; omega
  exact (s_one (s_ret (c_and (b_isi_tuple (vb 1) T.isi T.tuple) (c_one (q_eq hu (cb_ex (b_len (m := T.len) (ha := (ca_cons (vb 1) ca_nil)))) (cb_ex (b_ix (vb 0) (cb_ex c_int))))))))
def s_steps_by : SS := (sRet (sComp 2 (sSeqI (sOp gIx [.bor 0, .ex (sC (.int 1))])) (.tp [(.nm 2), (.nm 3)]) none (sOp gAbs [.ex (sOp gMin1 [.ex (sOp gIx [.bor 1, .bor 2]), .ex (sOp gIx [.bor 1, .bor 3])])])))
def f_steps_by : FS := fnRun 2 2 none s_steps_by
theorem sc_steps_by : FnScope ["web", "numbers"] ["web", "numbers"] (defScope (top 10)) := ⟨rfl, rfl, rfl, by decide +kernel, rfl, by decide +kernel, by decide +kernel⟩
theorem ok_steps_by (h : Has K mg "steps_by" (top 10) ["web", "numbers"]) (T : Txt K mg) : OkX P w K mg base "steps_by" ["web", "numbers"] 1 (spF K none f_steps_by) := by
  refine fn_ok h sc_steps_by (fun f cdv A outer s H E hr => ?_)
  exact (s_one (s_ret (c_comp (M := ["web", "numbers"]) (tgs := ["a", "b"]) (T := (.tp [(.nm 2), (.nm 3)])) (c := none) (f := (sOp gAbs [.ex (sOp gMin1 [.ex (sOp gIx [.bor 1, .bor 2]), .ex (sOp gIx [.bor 1, .bor 3])])])) rfl (BlkD.ok (osc := defScope (top 10)) (N := ["web", "numbers"]) ⟨rfl, by decide +kernel, by decide +kernel, by decide +kernel, rfl, by decide +kernel, by decide +kernel, by decide +kernel, by decide +kernel⟩) (i_seq (b_ix (vb 0) (cb_ex c_int))) (fun _ _ _ _ _ => (g_tup rfl (g_cons (g_name (i := 2) (by decide +kernel : (["web", "numbers", "a", "b"] : List Str).Nodup) rfl (Or.inl rfl)) (g_cons (g_name (i := 3) (by decide +kernel : (["web", "numbers", "a", "b"] : List Str).Nodup) rfl (Or.inl rfl)) g_nil)))) (fun _ _ _ _ _ => .no) (fun _ _ _ _ _ => (b_abs (m := T.abs) (ha := (ca_cons (cb_ex (b_sub (cb_ex (b_ix (vb 1) (vb 2))) (cb_ex (b_ix (vb 1) (vb 3))))) ca_nil)))))))
theorem sc__law_cell_at : FnScope ["script", "k"] ["script", "k"] (defScope (top 18)) := ⟨rfl, rfl, rfl, by decide +kernel, rfl, by decide +kernel, by decide +kernel⟩
theorem ok__law_cell_at (h : Has K mg "_law_cell_at" (top 18) ["script", "k"]) (T : Txt K mg) : OkX P w K mg base "_law_cell_at" ["script", "k"] 1 (spF K none f__law_cell_at) := by
  refine fn_ok h sc__law_cell_at (fun f cdv A outer s H E hr => ?_)
  exact (s_cons (s_if (t_lt (vb 1) (cb_ex (b_len (m := T.len) (ha := (ca_cons (vb 0) ca_nil))))) (s_one (s_ret (b_ix (vb 0) (vb 1)))) s_nil)
      (s_one (s_ret c_int)))
theorem sc__law_next : FnScope ["seed"] ["seed"] (defScope (top 19)) := ⟨rfl, rfl, rfl, by decide +kernel, rfl, by decide +kernel, by decide +kernel⟩
theorem ok__law_next (h : Has K mg "_law_next" (top 19) ["seed"]) (T : Txt K mg) : OkX P w K mg base "_law_next" ["seed"] 1 (spF K none f__law_next) := by
  refine fn_ok h sc__law_next (fun f cdv A outer s H E hr => ?_)
  exact (s_cons (s_set (i := 0) sc__law_next.nd rfl (Or.inl rfl) (b_mod (cb_ex (b_add (vb 0) (cb_ex c_int))) (cb_ex c_int)))
      (s_one (s_ret (b_mod (cb_ex (b_add (cb_ex (b_add (cb_ex (b_mul (vb 0) (vb 0))) (cb_ex (b_mul (cb_ex c_int) (vb 0))))) (cb_ex c_int))) (cb_ex c_int)))))
theorem sc__law_pen_of : FnScope ["cell", "left"] ["cell"] (defScope (top 20)) := ⟨rfl, rfl, rfl, by decide +kernel, rfl, by decide +kernel, by decide +kernel⟩
theorem ok__law_pen_of (h : Has K mg "_law_pen_of" (top 20) ["cell"]) (T : Txt K mg) : OkX P w K mg base "_law_pen_of" ["cell"] 1 (spF K none f__law_pen_of) := by
  refine fn_ok h sc__law_pen_of (fun f cdv A outer s H E hr => ?_)
  exact (s_cons (s_set (i := 1) sc__law_pen_of.nd rfl (Or.inl rfl) (b_max (m := T.max) (ha := (ca_cons (vb 0) (ca_cons (cb_ex (b_sub (cb_ex c_int) (vb 0))) ca_nil)))))
      (s_one (s_ret (c_lst (.cons (v 1) (.cons (b_int (m := T.int) (ha := (ca_cons (cb_ex (q_ge (vb 1) (cb_ex (b_pow (cb_ex c_int) (cb_ex c_int))))) ca_nil))) (.cons (b_mod (vb 1) (cb_ex c_int)) .nil)))))))
def s__law_whole : SS := (sRet (sAndV (sOp (gIsi "int") [.bor 0]) (sNotV (sOp (gIsi "bool") [.bor 0]))))
def f__law_whole : FS := fnRun 1 1 none s__law_whole
theorem sc__law_whole : FnScope ["found"] ["found"] (defScope (top 22)) := ⟨rfl, rfl, rfl, by decide +kernel, rfl, by decide +kernel, by decide +kernel⟩
theorem ok__law_whole (h : Has K mg "_law_whole" (top 22) ["found"]) (T : Txt K mg) : OkX P w K mg base "_law_whole" ["found"] 1 (spF K none f__law_whole) := by
  refine fn_ok h sc__law_whole (fun f cdv A outer s H E hr => ?_)
  exact (s_one (s_ret (c_and (b_isi_int (vb 0) T.isi T.int) (c_one (c_not (b_isi_bool (vb 0) T.isi T.bool))))))
def s__law_spine_ties_1 : SS := (sSeq (sExpr (sMeth 1 uAppend [(sTup [(sVar 3), (sVar 2)])])) (sSet 2 (sOp gAdd [.bor 2, .ex (sC (.int 1))])))
def s__law_spine_ties_2 : SS := (sSeq (sIfS (sOpT gGt [.bor 3, .ex (sC (.int 0))]) (sExpr (sMeth 1 uAppend [(sTup [(sOp gMin1 [.bor 3, .ex (sC (.int 1))]), (sVar 3)])])) sNil) (sFor (sRng1 (.ex (sOp gIx [.bor 0, .bor 3]))) (.nm 4) s__law_spine_ties_1))
def s__law_spine_ties : SS := (sSeq (sSet 1 (sLst [])) (sSeq (sSet 2 (sOp gLen [.bor 0])) (sSeq (sFor (sRng1 (.ex (sOp gLen [.bor 0]))) (.nm 3) s__law_spine_ties_2) (sRet (sTup [(sVar 2), (sVar 1)])))))
def f__law_spine_ties : FS := fnRun 1 5 none s__law_spine_ties
theorem sc__law_spine_ties : FnScope ["legs", "ties", "fresh", "place", "leg"] ["legs"] (defScope (top 23)) := ⟨rfl, rfl, rfl, by decide +kernel, rfl, by decide +kernel, by decide +kernel⟩
theorem ok__law_spine_ties (h : Has K mg "_law_spine_ties" (top 23) ["legs"]) (T : Txt K mg) : OkX P w K mg base "_law_spine_ties" ["legs"] 1 (spF K none f__law_spine_ties) := by
  refine fn_ok h sc__law_spine_ties (fun f cdv A outer s H E hr => ?_)
  exact (s_cons (s_set (i := 1) sc__law_spine_ties.nd rfl (Or.inl rfl) (c_lst .nil))
      (s_cons (s_set (i := 2) sc__law_spine_ties.nd rfl (Or.inl rfl) (b_len (m := T.len) (ha := (ca_cons (vb 0) ca_nil))))
      (s_cons (s_for rfl (i_rng1 (by rfl) T.range (ca_cons (cb_ex (b_len (m := T.len) (ha := (ca_cons (vb 0) ca_nil)))) ca_nil)) (g_name (i := 3) sc__law_spine_ties.nd rfl (Or.inl rfl)) (s_cons (s_if (t_gt (vb 3) (cb_ex c_int)) (s_one (s_expr (m_append 1 (c_tup (.cons (b_sub (vb 3) (cb_ex c_int)) (.cons (v 3) .nil)))))) s_nil)
      (s_one (s_for rfl (i_rng1 (by rfl) T.range (ca_cons (cb_ex (b_ix (vb 0) (vb 3))) ca_nil)) (g_name (i := 4) sc__law_spine_ties.nd rfl (Or.inl rfl)) (s_cons (s_expr (m_append 1 (c_tup (.cons (v 3) (.cons (v 2) .nil)))))
      (s_one (s_set (i := 2) sc__law_spine_ties.nd rfl (Or.inl rfl) (b_add (vb 2) (cb_ex c_int)))))))))
      (s_one (s_ret (c_tup (.cons (v 2) (.cons (v 1) .nil))))))))
def s__law_connected_1 : SS := (sSeq (sSet 4 (sOp gMinA [.ex (sOp gIx [.bor 1, .bor 2]), .ex (sOp gIx [.bor 1, .bor 3])])) (sSeq (sSet 5 (sOp gMaxA [.ex (sOp gIx [.bor 1, .bor 2]), .ex (sOp gIx [.bor 1, .bor 3])])) (sSet 1 (sComp 1 (sSeqI (sVar 1)) (.nm 6) none (sOp gIx [.ex (sLst [(sVar 6), (sVar 4)]), .ex (sOp gInt [.ex (sOp gEq [.bor 6, .bor 5])])])))))
def s__law_connected : SS := (sSeq (sSet 1 (sOp gListA [.ex (sOp gRange [.ex (sOp gIx [.bor 0, .ex (sC (.int 0))])])])) (sSeq (sFor (sSeqI (sOp gIx [.bor 0, .ex (sC (.int 1))])) (.tp [(.nm 2), (.nm 3)]) s__law_connected_1) (sRet (sOp gEq [.ex (sOp gMaxA [.bor 1]), .ex (sC (.int 0))]))))
def f__law_connected : FS := fnRun 1 6 none s__law_connected
theorem sc__law_connected : FnScope ["web", "marks", "one", "other", "least", "great"] ["web"] (defScope (top 25)) := ⟨rfl, rfl, rfl, by decide +kernel, rfl, by decide +kernel, by decide +kernel⟩
theorem ok__law_connected (h : Has K mg "_law_connected" (top 25) ["web"]) (T : Txt K mg) : OkX P w K mg base "_law_connected" ["web"] 1 (spF K none f__law_connected) := by
  refine fn_ok h sc__law_connected (fun f cdv A outer s H E hr => ?_)
  have hu : (cxOf (CXr P w) P w K mg base ["web", "marks", "one", "other", "least", "great"] "_law_connected" (defScope (top 25)) f cdv A outer s H E).A.units + 10 < cLine := by have := hr.units; show (A.deeper _).units + 10 < cLine; omega
  exact (s_cons (s_set (i := 1) sc__law_connected.nd rfl (Or.inl rfl) (b_listA (m := T.list) (ha := (ca_cons (cb_ex (b_range (m := T.range) (ha := (ca_cons (cb_ex (b_ix (vb 0) (cb_ex c_int))) ca_nil)))) ca_nil))))
      (s_cons (s_for rfl (i_seq (b_ix (vb 0) (cb_ex c_int))) (g_tup rfl (g_cons (g_name (i := 2) sc__law_connected.nd rfl (Or.inl rfl)) (g_cons (g_name (i := 3) sc__law_connected.nd rfl (Or.inl rfl)) g_nil))) (s_cons (s_set (i := 4) sc__law_connected.nd rfl (Or.inr rfl) (b_min (m := T.min) (ha := (ca_cons (cb_ex (b_ix (vb 1) (vb 2))) (ca_cons (cb_ex (b_ix (vb 1) (vb 3))) ca_nil)))))
      (s_cons (s_set (i := 5) sc__law_connected.nd rfl (Or.inr rfl) (b_max (m := T.max) (ha := (ca_cons (cb_ex (b_ix (vb 1) (vb 2))) (ca_cons (cb_ex (b_ix (vb 1) (vb 3))) ca_nil)))))
      (s_one (s_compSet (j := 1) (M := ["web", "marks", "one", "other", "least", "great"]) (tgs := ["mark"]) (T := (.nm 6)) (c := none) (f := (sOp gIx [.ex (sLst [(sVar 6), (sVar 4)]), .ex (sOp gInt [.ex (sOp gEq [.bor 6, .bor 5])])])) rfl (BlkD.ok (osc := defScope (top 25)) (N := ["web", "marks", "one", "other", "least", "great"]) ⟨rfl, by decide +kernel, by decide +kernel, by decide +kernel, rfl, by decide +kernel, by decide +kernel, by decide +kernel, by decide +kernel⟩) (i_seq (v 1)) (fun _ _ _ _ _ => (g_name (i := 6) (by decide +kernel : (["web", "marks", "one", "other", "least", "great", "mark"] : List Str).Nodup) rfl (Or.inl rfl))) (fun _ _ _ _ _ => .no) (fun _ _ _ _ _ => (b_ix (cb_ex (c_lst (.cons (v 6) (.cons (v 4) .nil)))) (cb_ex (b_int (m := T.int) (ha := (ca_cons (cb_ex (q_eq hu (vb 6) (vb 5))) ca_nil)))))) sc__law_connected.nd rfl rfl)))))
      (s_one (s_ret (q_eq hu (cb_ex (b_max (m := T.max) (ha := (ca_cons (vb 1) ca_nil)))) (cb_ex c_int))))))
def s__law_parted_by_1 : SS := (sSeq (sIfS (sOpT gEq [.bor 7, .ex (sOp gIx [.bor 0, .bor 5])]) (sExpr (sMeth 3 uAppend [(sOp gIx [.bor 2, .bor 6])])) (sExpr (sMeth 4 uAppend [(sOp gIx [.bor 2, .bor 6])]))) (sItem uSetL 2 (sOp gMin1 [.ex (sOp gAdd [.ex (sOp gIx [.bor 2, .bor 6]), .ex (sC (.int 1))]), .ex (sOp gMul [.ex (sC (.int 2)), .bor 6])]) (sVar 6)))
def s__law_parted_by_2 : SS := (sSeq (sSet 6 (sOp gMin1 [.ex (sC (.int 1)), .ex (sOp gMod [.bor 5, .ex (sC (.int 2))])])) (sFor (sRng1 (.ex (sOp gAdd [.ex (sOp gIx [.bor 0, .bor 5]), .ex (sOp gInt [.ex (sOp gLt [.ex (sOp gAdd [.bor 5, .ex (sC (.int 1))]), .ex (sOp gLen [.bor 0])])])]))) (.nm 7) s__law_parted_by_1))
def s__law_parted_by : SS := (sSeq (sSet 1 (sOp gMin1 [.ex (sOp gAdd [.ex (sOp gLen [.bor 0]), .ex (sOp gSum [.bor 0])]), .ex (sC (.int 1))])) (sSeq (sSet 2 (sLst [(sC (.int 0)), (sVar 1)])) (sSeq (sSet 3 (sLst [(sC (.int 0))])) (sSeq (sSet 4 (sLst [])) (sSeq (sItem uSetL 2 (sC (.int 1)) (sC (.int 0))) (sSeq (sFor (sRng1 (.ex (sOp gLen [.bor 0]))) (.nm 5) s__law_parted_by_2) (sRet (sTup [(sOp gTuple [.ex (sOp gAdd [.bor 3, .bor 4])]), (sOp gMin1 [.ex (sOp gIx [.bor 2, .ex (sC (.int 0))]), .ex (sC (.int 1))])]))))))))
def f__law_parted_by : FS := fnRun 1 8 none s__law_parted_by
theorem sc__law_parted_by : FnScope ["legs", "count", "ends", "spine", "leaves", "k", "other", "leg"] ["legs"] (defScope (top 28)) := ⟨rfl, rfl, rfl, by decide +kernel, rfl, by decide +kernel, by decide +kernel⟩
theorem ok__law_parted_by (h : Has K mg "_law_parted_by" (top 28) ["legs"]) (T : Txt K mg) : OkX P w K mg base "_law_parted_by" ["legs"] 1 (spF K none f__law_parted_by) := by
  refine fn_ok h sc__law_parted_by (fun f cdv A outer s H E hr => ?_)
  have hu : (cxOf (CXr P w) P w K mg base ["legs", "count", "ends", "spine", "leaves", "k", "other", "leg"] "_law_parted_by" (defScope (top 28)) f cdv A outer s H E).A.units + 10 < cLine := by have := hr.units; show (A.deeper _).units + 10 < cLine; omega
  exact (s_cons (s_set (i := 1) sc__law_parted_by.nd rfl (Or.inl rfl) (b_sub (cb_ex (b_add (cb_ex (b_len (m := T.len) (ha := (ca_cons (vb 0) ca_nil)))) (cb_ex (b_sum (m := T.sum) (ha := (ca_cons (vb 0) ca_nil)))))) (cb_ex c_int)))
      (s_cons (s_set (i := 2) sc__law_parted_by.nd rfl (Or.inl rfl) (c_lst (.cons c_int (.cons (v 1) .nil))))
      (s_cons (s_set (i := 3) sc__law_parted_by.nd rfl (Or.inl rfl) (c_lst (.cons c_int .nil)))
      (s_cons (s_set (i := 4) sc__law_parted_by.nd rfl (Or.inl rfl) (c_lst .nil))
      (s_cons (s_item (j := 2) c_int c_int rfl (by first | exact Or.inl rfl | exact Or.inr (Or.inl rfl) | exact Or.inr (Or.inr rfl)))
      (s_cons (s_for rfl (i_rng1 (by rfl) T.range (ca_cons (cb_ex (b_len (m := T.len) (ha := (ca_cons (vb 0) ca_nil)))) ca_nil)) (g_name (i := 5) sc__law_parted_by.nd rfl (Or.inl rfl)) (s_cons (s_set (i := 6) sc__law_parted_by.nd rfl (Or.inl rfl) (b_sub (cb_ex c_int) (cb_ex (b_mod (vb 5) (cb_ex c_int)))))
      (s_one (s_for rfl (i_rng1 (by rfl) T.range (ca_cons (cb_ex (b_add (cb_ex (b_ix (vb 0) (vb 5))) (cb_ex (b_int (m := T.int) (ha := (ca_cons (cb_ex (q_lt (cb_ex (b_add (vb 5) (cb_ex c_int))) (cb_ex (b_len (m := T.len) (ha := (ca_cons (vb 0) ca_nil)))))) ca_nil)))))) ca_nil)) (g_name (i := 7) sc__law_parted_by.nd rfl (Or.inl rfl)) (s_cons (s_if (t_eq hu (vb 7) (cb_ex (b_ix (vb 0) (vb 5)))) (s_one (s_expr (m_append 3 (b_ix (vb 2) (vb 6))))) (s_one (s_expr (m_append 4 (b_ix (vb 2) (vb 6))))))
      (s_one (s_item (j := 2) (b_sub (cb_ex (b_add (cb_ex (b_ix (vb 2) (vb 6))) (cb_ex c_int))) (cb_ex (b_mul (cb_ex c_int) (vb 6)))) (v 6) rfl (by first | exact Or.inl rfl | exact Or.inr (Or.inl rfl) | exact Or.inr (Or.inr rfl)))))))))
      (s_one (s_ret (c_tup (.cons (b_tuple (m := T.tuple) (ha := (ca_cons (cb_ex (b_add (vb 3) (vb 4))) ca_nil))) (.cons (b_sub (cb_ex (b_ix (vb 2) (cb_ex c_int))) (cb_ex c_int)) .nil)))))))))))
def s_whole_within : SS := (sRet (sAndV (sCall none none f_is_whole [.bor 0]) (sChain gLe gLe (sVar 1) (sVar 0) (sVar 2))))
def f_whole_within : FS := fnRun 3 3 none s_whole_within
theorem sc_whole_within : FnScope ["thing", "least", "most"] ["thing", "least", "most"] (defScope (top 2)) := ⟨rfl, rfl, rfl, by decide +kernel, rfl, by decide +kernel, by decide +kernel⟩
theorem ok_whole_within (h : Has K mg "whole_within" (top 2) ["thing", "least", "most"]) (T : Txt K mg) (G_is_whole : OkX P w K mg base "is_whole" ["thing"] 1 (spF K none f_is_whole)) : OkX P w K mg base "whole_within" ["thing", "least", "most"] 2 (spF K none f_whole_within) := by
  refine fn_ok h sc_whole_within (fun f cdv A outer s H E hr => ?_)
  exact (s_one (s_ret (c_and (c_call (io := none) (slot := none) callable_f G_is_whole hr (by decide) (by rfl) (ca_cons (vb 0) ca_nil)) (c_one (c_chain op_le op_le os_le os_le (v 1) (v 0) (v 2))))))
theorem sc__law_draw : FnScope ["pen", "many", "found"] ["pen", "many"] (defScope (top 21)) := ⟨rfl, rfl, rfl, by decide +kernel, rfl, by decide +kernel, by decide +kernel⟩
theorem ok__law_draw (h : Has K mg "_law_draw" (top 21) ["pen", "many"]) (T : Txt K mg) (G__law_next : OkX P w K mg base "_law_next" ["seed"] 1 (spF K none f__law_next)) : OkX P w K mg base "_law_draw" ["pen", "many"] 2 (spF K (some 0) f__law_draw) := by
  refine fn_ok h sc__law_draw (fun f cdv A outer s H E hr => ?_)
  have hu : (cxOf (CXr P w) P w K mg base ["pen", "many", "found"] "_law_draw" (defScope (top 21)) f cdv A outer s H E).A.units + 10 < cLine := by have := hr.units; show (A.deeper _).units + 10 < cLine; omega
  exact (s_cons (s_if (t_eq hu (cb_ex (b_ix (vb 0) (cb_ex c_int))) (cb_ex c_int)) (s_cons (s_set (i := 2) sc__law_draw.nd rfl (Or.inl rfl) (b_mod (cb_ex (b_ix (vb 0) (cb_ex c_int))) (vb 1)))
      (s_cons (s_item (j := 0) (b_fdiv (cb_ex (b_ix (vb 0) (cb_ex c_int))) (vb 1)) c_int rfl (by first | exact Or.inl rfl | exact Or.inr (Or.inl rfl) | exact Or.inr (Or.inr rfl)))
      (s_one (s_retV (i := 2) rfl (by first | exact Or.inl rfl | exact Or.inr (Or.inl rfl) | exact Or.inr (Or.inr rfl)))))) s_nil)
      (s_cons (s_item (j := 0) (c_call (io := none) (slot := none) callable_f G__law_next hr (by decide) (by rfl) (ca_cons (cb_ex (b_add (cb_ex (c_call (io := none) (slot := none) callable_f G__law_next hr (by decide) (by rfl) (ca_cons (cb_ex (b_ix (vb 0) (cb_ex c_int))) ca_nil))) (cb_ex c_int))) ca_nil)) c_int rfl (by first | exact Or.inl rfl | exact Or.inr (Or.inl rfl) | exact Or.inr (Or.inr rfl)))
      (s_one (s_ret (b_mod (cb_ex (b_fdiv (cb_ex (b_ix (vb 0) (cb_ex c_int))) (cb_ex c_int))) (vb 1))))))
def s__law_tree : SS := (sRet (sAndV (sOp gEq [.ex (sOp gAdd [.ex (sOp gLen [.ex (sOp gIx [.bor 0, .ex (sC (.int 1))])]), .ex (sC (.int 1))]), .ex (sOp gIx [.bor 0, .ex (sC (.int 0))])]) (sCall none none f__law_connected [.bor 0])))
def f__law_tree : FS := fnRun 1 1 none s__law_tree
theorem sc__law_tree : FnScope ["web"] ["web"] (defScope (top 26)) := ⟨rfl, rfl, rfl, by decide +kernel, rfl, by decide +kernel, by decide +kernel⟩
theorem ok__law_tree (h : Has K mg "_law_tree" (top 26) ["web"]) (T : Txt K mg) (G__law_connected : OkX P w K mg base "_law_connected" ["web"] 1 (spF K none f__law_connected)) : OkX P w K mg base "_law_tree" ["web"] 2 (spF K none f__law_tree) := by
  refine fn_ok h sc__law_tree (fun f cdv A outer s H E hr => ?_)
  have hu : (cxOf (CXr P w) P w K mg base ["web"] "_law_tree" (defScope (top 26)) f cdv A outer s H E).A.units + 10 < cLine := by have := hr.units; show (A.deeper _).units + 10 < cLine; omega
  exact (s_one (s_ret (c_and (q_eq hu (cb_ex (b_add (cb_ex (b_len (m := T.len) (ha := (ca_cons (cb_ex (b_ix (vb 0) (cb_ex c_int))) ca_nil)))) (cb_ex c_int))) (cb_ex (b_ix (vb 0) (cb_ex c_int)))) (c_one (c_call (io := none) (slot := none) callable_f G__law_connected hr (by decide) (by rfl) (ca_cons (vb 0) ca_nil))))))
def s_unlike_within : SS := (sRet (sAndV (sOp gAll [.ex (sComp 1 (sSeqI (sVar 0)) (.nm 3) none (sCall none none f_whole_within [.bor 3, .bor 1, .bor 2]))]) (sOp gEq [.ex (sOp gLen [.ex (sOp gSet [.bor 0])]), .ex (sOp gLen [.bor 0])])))
def f_unlike_within : FS := fnRun 3 3 none s_unlike_within
theorem sc_unlike_within : FnScope ["things", "least", "most"] ["things", "least", "most"] (defScope (top 3)) := ⟨rfl, rfl, rfl, by decide +kernel, rfl, by decide +kernel, by decide +kernel⟩
theorem ok_unlike_within (h : Has K mg "unlike_within" (top 3) ["things", "least", "most"]) (T : Txt K mg) (G_whole_within : OkX P w K mg base "whole_within" ["thing", "least", "most"] 2 (spF K none f_whole_within)) : OkX P w K mg base "unlike_within" ["things", "least", "most"] 3 (spF K none f_unlike_within) := by
  refine fn_ok h sc_unlike_within (fun f cdv A outer s H E hr => ?_)
  have hu : (cxOf (CXr P w) P w K mg base ["things", "least", "most"] "unlike_within" (defScope (top 3)) f cdv A outer s H E).A.units + 10 < cLine := by have := hr.units; show (A.deeper _).units + 10 < cLine; omega
  exact (s_one (s_ret (c_and (b_all (m := T.all) (ha := (ca_cons (cb_ex (c_comp (M := ["things", "least", "most"]) (tgs := ["thing"]) (T := (.nm 3)) (c := none) (f := (sCall none none f_whole_within [.bor 3, .bor 1, .bor 2])) rfl (BlkD.ok (osc := defScope (top 3)) (N := ["things", "least", "most"]) ⟨rfl, by decide +kernel, by decide +kernel, by decide +kernel, rfl, by decide +kernel, by decide +kernel, by decide +kernel, by decide +kernel⟩) (i_seq (v 0)) (fun _ _ _ _ _ => (g_name (i := 3) (by decide +kernel : (["things", "least", "most", "thing"] : List Str).Nodup) rfl (Or.inl rfl))) (fun _ _ _ _ _ => .no) (fun _ _ _ _ _ => (c_call (io := none) (slot := none) callable_n G_whole_within hr (by decide) (by rfl) (ca_cons (vb 3) (ca_cons (vb 1) (ca_cons (vb 2) ca_nil))))))) ca_nil))) (c_one (q_eq hu (cb_ex (b_len (m := T.len) (ha := (ca_cons (cb_ex (b_set (m := T.set) (ha := (ca_cons (vb 0) ca_nil)))) ca_nil)))) (cb_ex (b_len (m := T.len) (ha := (ca_cons (vb 0) ca_nil)))))))))
def s__law_round_good : SS := (sSeq (sSet 2 (sOp gLen [.ex (sOp gIx [.bor 0, .ex (sC (.int 1))])])) (sSeq (sIfS (sOr (sOpT gEq [.bor 2, .ex (sC (.int 0))]) (sOr (sNot (sTru (.ex (sOp (gIsi "tuple") [.bor 1])))) (sOpT gNe [.ex (sOp gLen [.bor 1]), .ex (sOp gIx [.bor 0, .ex (sC (.int 0))])]))) (sRet (sC (.bl false))) sNil) (sSeq (sIfS (sNot (sTru (.ex (sOp gAll [.ex (sComp 1 (sSeqI (sVar 1)) (.nm 4) none (sAndV (sCall none none f__law_whole [.bor 4]) (sOp gIn [.bor 4, .ex (sOp gRange [.bor 2])])))])))) (sRet (sC (.bl false))) sNil) (sSeq (sIfS (sOpT gNe [.ex (sOp gAdd [.ex (sOp gLen [.ex (sOp gSet [.bor 1])]), .ex (sOp gInt [.ex (sCall none none f__law_tree [.bor 0])])]), .ex (sOp gIx [.bor 0, .ex (sC (.int 0))])]) (sRet (sC (.bl false))) sNil) (sSeq (sSet 3 (sOp gSortB [.ex (sComp 2 (sSeqI (sOp gIx [.bor 0, .ex (sC (.int 1))])) (.tp [(.nm 4), (.nm 5)]) none (sOp gMod [.ex (sOp gAdd [.ex (sOp gIx [.bor 1, .bor 4]), .ex (sOp gIx [.bor 1, .bor 5])]), .bor 2]))])) (sRet (sOp gEq [.bor 3, .ex (sOp gListA [.ex (sOp gRange [.bor 2])])])))))))
def f__law_round_good : FS := fnRun 2 4 none s__law_round_good
theorem sc__law_round_good : FnScope ["web", "thing", "count", "sums"] ["web", "thing"] (defScope (top 27)) := ⟨rfl, rfl, rfl, by decide +kernel, rfl, by decide +kernel, by decide +kernel⟩
theorem ok__law_round_good (h : Has K mg "_law_round_good" (top 27) ["web", "thing"]) (T : Txt K mg) (G__law_whole : OkX P w K mg base "_law_whole" ["found"] 1 (spF K none f__law_whole)) (G__law_tree : OkX P w K mg base "_law_tree" ["web"] 2 (spF K none f__law_tree)) : OkX P w K mg base "_law_round_good" ["web", "thing"] 3 (spF K none f__law_round_good) := by
  refine fn_ok h sc__law_round_good (fun f cdv A outer s H E hr => ?_)
  have hu : (cxOf (CXr P w) P w K mg base ["web", "thing", "count", "sums"] "_law_round_good" (defScope (top 27)) f cdv A outer s H E).A.units + 10 < cLine := by have := hr.units; show (A.deeper _).units + 10 < cLine; omega
  exact (s_cons (s_set (i := 2) sc__law_round_good.nd rfl (Or.inr rfl) (b_len (m := T.len) (ha := (ca_cons (cb_ex (b_ix (vb 0) (cb_ex c_int))) ca_nil))))
      (s_cons (s_if (JW.t (w_or (t_eq hu (vb 2) (cb_ex c_int)) (w_or (k_not (k_tru (cb_ex (b_isi_tuple (vb 1) T.isi T.tuple)))) (w_or1 (t_ne hu (cb_ex (b_len (m := T.len) (ha := (ca_cons (vb 1) ca_nil)))) (cb_ex (b_ix (vb 0) (cb_ex c_int)))))))) (s_one (s_ret c_bl)) s_nil)
      (s_cons (s_if (k_not (k_tru (cb_ex (b_all (m := T.all) (ha := (ca_cons (cb_ex (c_comp (M := ["web", "thing", "count", "sums"]) (tgs := ["number"]) (T := (.nm 4)) (c := none) (f := (sAndV (sCall none none f__law_whole [.bor 4]) (sOp gIn [.bor 4, .ex (sOp gRange [.bor 2])]))) rfl (BlkD.ok (osc := defScope (top 27)) (N := ["web", "thing", "count", "sums"]) ⟨rfl, by decide +kernel, by decide +kernel, by decide +kernel, rfl, by decide +kernel, by decide +kernel, by decide +kernel, by decide +kernel⟩) (i_seq (v 1)) (fun _ _ _ _ _ => (g_name (i := 4) (by decide +kernel : (["web", "thing", "count", "sums", "number"] : List Str).Nodup) rfl (Or.inl rfl))) (fun _ _ _ _ _ => .no) (fun _ _ _ _ _ => (c_and (c_call (io := none) (slot := none) callable_n G__law_whole hr (by decide) (by rfl) (ca_cons (vb 4) ca_nil)) (c_one (q_in hu (vb 4) (cb_ex (b_range (m := T.range) (ha := (ca_cons (vb 2) ca_nil)))))))))) ca_nil)))))) (s_one (s_ret c_bl)) s_nil)
      (s_cons (s_if (t_ne hu (cb_ex (b_add (cb_ex (b_len (m := T.len) (ha := (ca_cons (cb_ex (b_set (m := T.set) (ha := (ca_cons (vb 1) ca_nil)))) ca_nil)))) (cb_ex (b_int (m := T.int) (ha := (ca_cons (cb_ex (c_call (io := none) (slot := none) callable_f G__law_tree hr (by decide) (by rfl) (ca_cons (vb 0) ca_nil))) ca_nil)))))) (cb_ex (b_ix (vb 0) (cb_ex c_int)))) (s_one (s_ret c_bl)) s_nil)
      (s_cons (s_set (i := 3) sc__law_round_good.nd rfl (Or.inl rfl) (b_sortB (m := T.sorted) (ha := (ca_cons (cb_ex (c_comp (M := ["web", "thing", "count", "sums"]) (tgs := ["a", "b"]) (T := (.tp [(.nm 4), (.nm 5)])) (c := none) (f := (sOp gMod [.ex (sOp gAdd [.ex (sOp gIx [.bor 1, .bor 4]), .ex (sOp gIx [.bor 1, .bor 5])]), .bor 2])) rfl (BlkD.ok (osc := defScope (top 27)) (N := ["web", "thing", "count", "sums"]) ⟨rfl, by decide +kernel, by decide +kernel, by decide +kernel, rfl, by decide +kernel, by decide +kernel, by decide +kernel, by decide +kernel⟩) (i_seq (b_ix (vb 0) (cb_ex c_int))) (fun _ _ _ _ _ => (g_tup rfl (g_cons (g_name (i := 4) (by decide +kernel : (["web", "thing", "count", "sums", "a", "b"] : List Str).Nodup) rfl (Or.inl rfl)) (g_cons (g_name (i := 5) (by decide +kernel : (["web", "thing", "count", "sums", "a", "b"] : List Str).Nodup) rfl (Or.inl rfl)) g_nil)))) (fun _ _ _ _ _ => .no) (fun _ _ _ _ _ => (b_mod (cb_ex (b_add (cb_ex (b_ix (vb 1) (vb 4))) (cb_ex (b_ix (vb 1) (vb 5))))) (vb 2))))) ca_nil))))
      (s_one (s_ret (q_eq hu (vb 3) (cb_ex (b_listA (m := T.list) (ha := (ca_cons (cb_ex (b_range (m := T.range) (ha := (ca_cons (vb 2) ca_nil)))) ca_nil))))))))))))
def s_steps_good : SS := (sSeq (sSet 2 (sOp gLen [.ex (sOp gIx [.bor 0, .ex (sC (.int 1))])])) (sSeq (sIfS (sOr (sNot (sTru (.ex (sCall none none f_places_numbered [.bor 0, .bor 1])))) (sNot (sTru (.ex (sCall none none f_unlike_within [.bor 1, .ex (sC (.int 0)), .bor 2]))))) (sRet (sC (.bl false))) sNil) (sRet (sOp gEq [.ex (sOp gSortB [.ex (sCall none none f_steps_by [.bor 0, .bor 1])]), .ex (sOp gListA [.ex (sOp gRange [.ex (sC (.int 1)), .ex (sOp gAdd [.bor 2, .ex (sC (.int 1))])])])]))))
def f_steps_good : FS := fnRun 2 3 none s_steps_good
theorem sc_steps_good : FnScope ["web", "thing", "q"] ["web", "thing"] (defScope (top 8)) := ⟨rfl, rfl, rfl, by decide +kernel, rfl, by decide +kernel, by decide +kernel⟩
theorem ok_steps_good (h : Has K mg "steps_good" (top 8) ["web", "thing"]) (T : Txt K mg) (G_places_numbered : OkX P w K mg base "places_numbered" ["web", "thing"] 1 (spF K none f_places_numbered)) (G_unlike_within : OkX P w K mg base "unlike_within" ["things", "least", "most"] 3 (spF K none f_unlike_within)) (G_steps_by : OkX P w K mg base "steps_by" ["web", "numbers"] 1 (spF K none f_steps_by)) : OkX P w K mg base "steps_good" ["web", "thing"] 4 (spF K none f_steps_good) := by
  refine fn_ok h sc_steps_good (fun f cdv A outer s H E hr => ?_)
  have hu : (cxOf (CXr P w) P w K mg base ["web", "thing", "q"] "steps_good" (defScope (top 8)) f cdv A outer s H E).A.units + 10 < cLine := by have := hr.units; show (A.deeper _).units + 10 < cLine; omega
  exact (s_cons (s_set (i := 2) sc_steps_good.nd rfl (Or.inl rfl) (b_len (m := T.len) (ha := (ca_cons (cb_ex (b_ix (vb 0) (cb_ex c_int))) ca_nil))))
      (s_cons (s_if (JW.t (w_or (k_not (k_tru (cb_ex (c_call (io := none) (slot := none) callable_f G_places_numbered hr (by decide) (by rfl) (ca_cons (vb 0) (ca_cons (vb 1) ca_nil)))))) (w_or1 (k_not (k_tru (cb_ex (c_call (io := none) (slot := none) callable_f G_unlike_within hr (by decide) (by rfl) (ca_cons (vb 1) (ca_cons (cb_ex c_int) (ca_cons (vb 2) ca_nil)))))))))) (s_one (s_ret c_bl)) s_nil)
      (s_one (s_ret (q_eq hu (cb_ex (b_sortB (m := T.sorted) (ha := (ca_cons (cb_ex (c_call (io := none) (slot := none) callable_f G_steps_by hr (by decide) (by rfl) (ca_cons (vb 0) (ca_cons (vb 1) ca_nil)))) ca_nil)))) (cb_ex (b_listA (m := T.list) (ha := (ca_cons (cb_ex (b_range (m := T.range) (ha := (ca_cons (cb_ex c_int) (ca_cons (cb_ex (b_add (vb 2) (cb_ex c_int))) ca_nil))))) ca_nil)))))))))
def s_check_steps : SS := (sIfS (sNot (sTru (.ex (sCall none none f_steps_good [.bor 0, .bor 1])))) (sRaise "NoNumber") sNil)
def f_check_steps : FS := fnRun 2 2 none s_check_steps
theorem sc_check_steps : FnScope ["web", "thing"] ["web", "thing"] (defScope (top 11)) := ⟨rfl, rfl, rfl, by decide +kernel, rfl, by decide +kernel, by decide +kernel⟩
theorem ok_check_steps (h : Has K mg "check_steps" (top 11) ["web", "thing"]) (T : Txt K mg) (G_steps_good : OkX P w K mg base "steps_good" ["web", "thing"] 4 (spF K none f_steps_good)) {A_NoNumber : Addr} {bm_NoNumber : List Value} {B_NoNumber nI_NoNumber iI_NoNumber : String} (O_NoNumber : OwnCls "NoNumber" A_NoNumber bm_NoNumber nI_NoNumber mg base) (FB_NoNumber : ExcBaseFacts B_NoNumber nI_NoNumber iI_NoNumber bm_NoNumber) (C_NoNumber : clsK K "NoNumber" A_NoNumber) : OkX P w K mg base "check_steps" ["web", "thing"] 5 (spF K none f_check_steps) := by
  refine fn_ok h sc_check_steps (fun f cdv A outer s H E hr => ?_)
  exact (s_one (s_if (k_not (k_tru (cb_ex (c_call (io := none) (slot := none) callable_f G_steps_good hr (by decide) (by rfl) (ca_cons (vb 0) (ca_cons (vb 1) ca_nil)))))) (s_one (s_raise O_NoNumber FB_NoNumber C_NoNumber hr (by rfl))) s_nil))
def s_parted_at : SS := (sSeq (sExpr (sCall none none f_check_steps [.bor 0, .bor 1])) (sSeq (sIfS (sNot (sTru (.ex (sOp gIx [.bor 0, .ex (sC (.int 1))])))) (sRet (sC .non)) sNil) (sSeq (sSet 2 (sOp gMaxA [.ex (sComp 2 (sSeqI (sOp gIx [.bor 0, .ex (sC (.int 1))])) (.tp [(.nm 4), (.nm 5)]) none (sOp gMinA [.ex (sOp gIx [.bor 1, .bor 4]), .ex (sOp gIx [.bor 1, .bor 5])]))])) (sSeq (sSet 3 (sOp gMinA [.ex (sComp 2 (sSeqI (sOp gIx [.bor 0, .ex (sC (.int 1))])) (.tp [(.nm 4), (.nm 5)]) none (sOp gMaxA [.ex (sOp gIx [.bor 1, .bor 4]), .ex (sOp gIx [.bor 1, .bor 5])]))])) (sRet (sIf (sOpT gLt [.bor 2, .bor 3]) (sVar 2) (sC .non)))))))
def f_parted_at : FS := fnRun 2 4 none s_parted_at
theorem sc_parted_at : FnScope ["web", "numbers", "lesser", "greater"] ["web", "numbers"] (defScope (top 12)) := ⟨rfl, rfl, rfl, by decide +kernel, rfl, by decide +kernel, by decide +kernel⟩
theorem ok_parted_at (h : Has K mg "parted_at" (top 12) ["web", "numbers"]) (T : Txt K mg) (G_check_steps : OkX P w K mg base "check_steps" ["web", "thing"] 5 (spF K none f_check_steps)) : OkX P w K mg base "parted_at" ["web", "numbers"] 6 (spF K none f_parted_at) := by
  refine fn_ok h sc_parted_at (fun f cdv A outer s H E hr => ?_)
  exact (s_cons (s_expr (c_call (io := none) (slot := none) callable_f G_check_steps hr (by decide) (by rfl) (ca_cons (vb 0) (ca_cons (vb 1) ca_nil))))
      (s_cons (s_if (k_not (k_tru (cb_ex (b_ix (vb 0) (cb_ex c_int))))) (s_one (s_ret c_non)) s_nil)
      (s_cons (s_set (i := 2) sc_parted_at.nd rfl (Or.inl rfl) (b_max (m := T.max) (ha := (ca_cons (cb_ex (c_comp (M := ["web", "numbers", "lesser", "greater"]) (tgs := ["a", "b"]) (T := (.tp [(.nm 4), (.nm 5)])) (c := none) (f := (sOp gMinA [.ex (sOp gIx [.bor 1, .bor 4]), .ex (sOp gIx [.bor 1, .bor 5])])) rfl (BlkD.ok (osc := defScope (top 12)) (N := ["web", "numbers", "lesser", "greater"]) ⟨rfl, by decide +kernel, by decide +kernel, by decide +kernel, rfl, by decide +kernel, by decide +kernel, by decide +kernel, by decide +kernel⟩) (i_seq (b_ix (vb 0) (cb_ex c_int))) (fun _ _ _ _ _ => (g_tup rfl (g_cons (g_name (i := 4) (by decide +kernel : (["web", "numbers", "lesser", "greater", "a", "b"] : List Str).Nodup) rfl (Or.inl rfl)) (g_cons (g_name (i := 5) (by decide +kernel : (["web", "numbers", "lesser", "greater", "a", "b"] : List Str).Nodup) rfl (Or.inl rfl)) g_nil)))) (fun _ _ _ _ _ => .no) (fun _ _ _ _ _ => (b_min (m := T.min) (ha := (ca_cons (cb_ex (b_ix (vb 1) (vb 4))) (ca_cons (cb_ex (b_ix (vb 1) (vb 5))) ca_nil))))))) ca_nil))))
      (s_cons (s_set (i := 3) sc_parted_at.nd rfl (Or.inl rfl) (b_min (m := T.min) (ha := (ca_cons (cb_ex (c_comp (M := ["web", "numbers", "lesser", "greater"]) (tgs := ["a", "b"]) (T := (.tp [(.nm 4), (.nm 5)])) (c := none) (f := (sOp gMaxA [.ex (sOp gIx [.bor 1, .bor 4]), .ex (sOp gIx [.bor 1, .bor 5])])) rfl (BlkD.ok (osc := defScope (top 12)) (N := ["web", "numbers", "lesser", "greater"]) ⟨rfl, by decide +kernel, by decide +kernel, by decide +kernel, rfl, by decide +kernel, by decide +kernel, by decide +kernel, by decide +kernel⟩) (i_seq (b_ix (vb 0) (cb_ex c_int))) (fun _ _ _ _ _ => (g_tup rfl (g_cons (g_name (i := 4) (by decide +kernel : (["web", "numbers", "lesser", "greater", "a", "b"] : List Str).Nodup) rfl (Or.inl rfl)) (g_cons (g_name (i := 5) (by decide +kernel : (["web", "numbers", "lesser", "greater", "a", "b"] : List Str).Nodup) rfl (Or.inl rfl)) g_nil)))) (fun _ _ _ _ _ => .no) (fun _ _ _ _ _ => (b_max (m := T.max) (ha := (ca_cons (cb_ex (b_ix (vb 1) (vb 4))) (ca_cons (cb_ex (b_ix (vb 1) (vb 5))) ca_nil))))))) ca_nil))))
      (s_one (s_ret (c_if (t_lt (vb 2) (vb 3)) (v 2) c_non)))))))
def s_parting_number : SS := (sSeq (sSet 2 (sCall none none f_parted_at [.bor 0, .bor 1])) (sSeq (sIfS (sOpT gIs [.bor 2, .ex (sC .non)]) (sRaise "NoNumber") sNil) (sRetV 2)))
def f_parting_number : FS := fnRun 2 3 none s_parting_number
theorem sc_parting_number : FnScope ["web", "numbers", "parting"] ["web", "numbers"] (defScope (top 13)) := ⟨rfl, rfl, rfl, by decide +kernel, rfl, by decide +kernel, by decide +kernel⟩
theorem ok_parting_number (h : Has K mg "parting_number" (top 13) ["web", "numbers"]) (T : Txt K mg) (G_parted_at : OkX P w K mg base "parted_at" ["web", "numbers"] 6 (spF K none f_parted_at)) {A_NoNumber : Addr} {bm_NoNumber : List Value} {B_NoNumber nI_NoNumber iI_NoNumber : String} (O_NoNumber : OwnCls "NoNumber" A_NoNumber bm_NoNumber nI_NoNumber mg base) (FB_NoNumber : ExcBaseFacts B_NoNumber nI_NoNumber iI_NoNumber bm_NoNumber) (C_NoNumber : clsK K "NoNumber" A_NoNumber) : OkX P w K mg base "parting_number" ["web", "numbers"] 7 (spF K none f_parting_number) := by
  refine fn_ok h sc_parting_number (fun f cdv A outer s H E hr => ?_)
  exact (s_cons (s_set (i := 2) sc_parting_number.nd rfl (Or.inl rfl) (c_call (io := none) (slot := none) callable_f G_parted_at hr (by decide) (by rfl) (ca_cons (vb 0) (ca_cons (vb 1) ca_nil))))
      (s_cons (s_if (t_is (vb 2) (cb_ex c_non)) (s_one (s_raise O_NoNumber FB_NoNumber C_NoNumber hr (by rfl))) s_nil)
      (s_one (s_retV (i := 2) rfl (by first | exact Or.inl rfl | exact Or.inr (Or.inl rfl) | exact Or.inr (Or.inr rfl))))))
def s_upper_turned : SS := (sSeq (sSet 2 (sCall none none f_parting_number [.bor 0, .bor 1])) (sSeq (sSet 3 (sOp gAdd [.ex (sOp gAdd [.ex (sOp gLen [.ex (sOp gIx [.bor 0, .ex (sC (.int 1))])]), .bor 2]), .ex (sC (.int 1))])) (sRet (sOp gTuple [.ex (sComp 1 (sSeqI (sVar 1)) (.nm 4) none (sIf (sOpT gLe [.bor 4, .bor 2]) (sVar 4) (sOp gMin1 [.bor 3, .bor 4])))]))))
def f_upper_turned : FS := fnRun 2 4 none s_upper_turned
theorem sc_upper_turned : FnScope ["web", "numbers", "t", "above"] ["web", "numbers"] (defScope (top 14)) := ⟨rfl, rfl, rfl, by decide +kernel, rfl, by decide +kernel, by decide +kernel⟩
theorem ok_upper_turned (h : Has K mg "upper_turned" (top 14) ["web", "numbers"]) (T : Txt K mg) (G_parting_number : OkX P w K mg base "parting_number" ["web", "numbers"] 7 (spF K none f_parting_number)) : OkX P w K mg base "upper_turned" ["web", "numbers"] 8 (spF K none f_upper_turned) := by
  refine fn_ok h sc_upper_turned (fun f cdv A outer s H E hr => ?_)
  exact (s_cons (s_set (i := 2) sc_upper_turned.nd rfl (Or.inr rfl) (c_call (io := none) (slot := none) callable_f G_parting_number hr (by decide) (by rfl) (ca_cons (vb 0) (ca_cons (vb 1) ca_nil))))
      (s_cons (s_set (i := 3) sc_upper_turned.nd rfl (Or.inr rfl) (b_add (cb_ex (b_add (cb_ex (b_len (m := T.len) (ha := (ca_cons (cb_ex (b_ix (vb 0) (cb_ex c_int))) ca_nil)))) (vb 2))) (cb_ex c_int)))
      (s_one (s_ret (b_tuple (m := T.tuple) (ha := (ca_cons (cb_ex (c_comp (M := ["web", "numbers", "t", "above"]) (tgs := ["number"]) (T := (.nm 4)) (c := none) (f := (sIf (sOpT gLe [.bor 4, .bor 2]) (sVar 4) (sOp gMin1 [.bor 3, .bor 4]))) rfl (BlkD.ok (osc := defScope (top 14)) (N := ["web", "numbers", "t", "above"]) ⟨rfl, by decide +kernel, by decide +kernel, by decide +kernel, rfl, by decide +kernel, by decide +kernel, by decide +kernel, by decide +kernel⟩) (i_seq (v 1)) (fun _ _ _ _ _ => (g_name (i := 4) (by decide +kernel : (["web", "numbers", "t", "above", "number"] : List Str).Nodup) rfl (Or.inl rfl))) (fun _ _ _ _ _ => .no) (fun _ _ _ _ _ => (c_if (t_le (vb 4) (vb 2)) (v 4) (b_sub (vb 3) (vb 4)))))) ca_nil)))))))
def s_round_from : SS := (sRet (sOp gTuple [.ex (sComp 1 (sSeqI (sCall none none f_upper_turned [.bor 0, .bor 1])) (.nm 2) none (sOp gMod [.bor 2, .ex (sOp gLen [.ex (sOp gIx [.bor 0, .ex (sC (.int 1))])])]))]))
def f_round_from : FS := fnRun 2 2 none s_round_from
theorem sc_round_from : FnScope ["web", "numbering"] ["web", "numbering"] (defScope (top 16)) := ⟨rfl, rfl, rfl, by decide +kernel, rfl, by decide +kernel, by decide +kernel⟩
theorem ok_round_from (h : Has K mg "round_from" (top 16) ["web", "numbering"]) (T : Txt K mg) (G_upper_turned : OkX P w K mg base "upper_turned" ["web", "numbers"] 8 (spF K none f_upper_turned)) : OkX P w K mg base "round_from" ["web", "numbering"] 9 (spF K none f_round_from) := by
  refine fn_ok h sc_round_from (fun f cdv A outer s H E hr => ?_)
  exact (s_one (s_ret (b_tuple (m := T.tuple) (ha := (ca_cons (cb_ex (c_comp (M := ["web", "numbering"]) (tgs := ["number"]) (T := (.nm 2)) (c := none) (f := (sOp gMod [.bor 2, .ex (sOp gLen [.ex (sOp gIx [.bor 0, .ex (sC (.int 1))])])])) rfl (BlkD.ok (osc := defScope (top 16)) (N := ["web", "numbering"]) ⟨rfl, by decide +kernel, by decide +kernel, by decide +kernel, rfl, by decide +kernel, by decide +kernel, by decide +kernel, by decide +kernel⟩) (i_seq (c_call (io := none) (slot := none) callable_f G_upper_turned hr (by decide) (by rfl) (ca_cons (vb 0) (ca_cons (vb 1) ca_nil)))) (fun _ _ _ _ _ => (g_name (i := 2) (by decide +kernel : (["web", "numbering", "number"] : List Str).Nodup) rfl (Or.inl rfl))) (fun _ _ _ _ _ => .no) (fun _ _ _ _ _ => (b_mod (vb 2) (cb_ex (b_len (m := T.len) (ha := (ca_cons (cb_ex (b_ix (vb 0) (cb_ex c_int))) ca_nil)))))))) ca_nil)))))
def s_law_1 : SS := (sSeq (sIfS (sOpT gGt [.bor 11, .bor 8]) (sSet 11 (sOp gMin1 [.ex (sOp gAdd [.ex (sOp gAdd [.bor 8, .ex (sC (.int 1))]), .ex (sOp gLen [.bor 5])]), .bor 11])) sNil) (sExpr (sMeth 10 uAppend [(sOp gMod [.bor 11, .ex (sOp gLen [.bor 5])])])))
def s_law_t2 : SS := (sSeq (sSet 9 (sCall none none f_round_from [.bor 6, .bor 7])) (sSeq (sSet 10 (sLst [])) (sSeq (sFor (sSeqI (sVar 7)) (.nm 11) s_law_1) (sIfS (sOr (sNot (sTru (.ex (sCall none none f__law_round_good [.bor 6, .bor 9])))) (sOpT gNe [.bor 9, .ex (sOp gTuple [.bor 10])])) (sRet (sC (.bl false))) sNil))))
def s_law_t1 : SS := (sSeq (sAsg (.tp [(.nm 4), (.nm 5)]) (sCall none none f__law_spine_ties [.ex (sVar 3)])) (sSeq (sSet 6 (sTup [(sVar 4), (sOp gTuple [.ex (sOp gSortB [.bor 5])])])) (sSeq (sAsg (.tp [(.nm 7), (.nm 8)]) (sCall none none f__law_parted_by [.bor 3])) (sSeq (sIfS (sOpT gEq [.ex (sCall (some 0) (some 2) f__law_draw [.bor 2, .ex (sC (.int 2))]), .ex (sC (.int 1))]) (sSeq (sSet 7 (sOp gTuple [.ex (sComp 1 (sSeqI (sVar 7)) (.nm 12) none (sOp gMin1 [.ex (sOp gLen [.bor 5]), .bor 12]))])) (sSet 8 (sOp gMin1 [.ex (sOp gMin1 [.ex (sOp gLen [.bor 5]), .ex (sC (.int 1))]), .bor 8]))) sNil) s_law_t2))))
def s_law_2 : SS := (sSeq (sSet 2 (sCall none none f__law_pen_of [.bor 1])) (sSeq (sSet 3 (sComp 1 (sRng1 (.ex (sOp gAdd [.ex (sC (.int 2)), .ex (sCall (some 0) (some 2) f__law_draw [.bor 2, .ex (sC (.int 9))])]))) (.nm 12) none (sOp gIx [.ex (sLst [(sC (.int 0)), (sC (.int 0)), (sC (.int 1)), (sC (.int 2)), (sC (.int 0)), (sC (.int 3))]), .ex (sCall (some 0) (some 2) f__law_draw [.bor 2, .ex (sC (.int 6))])]))) (sSeq (sIfS (sOpT gEq [.ex (sCall (some 0) (some 2) f__law_draw [.bor 2, .ex (sC (.int 6))]), .ex (sC (.int 0))]) (sSet 3 (sOp gIx [.ex (sLst [(sOp gMul [.ex (sLst [(sC (.int 0))]), .ex (sC (.int 40))]), (sLst [(sC (.int 39))]), (sOp gAdd [.ex (sOp gMul [.ex (sLst [(sC (.int 0))]), .ex (sC (.int 20))]), .ex (sLst [(sC (.int 19))])]), (sOp gMul [.ex (sLst [(sC (.int 1))]), .ex (sC (.int 20))]), (sLst [(sC (.int 9)), (sC (.int 9)), (sC (.int 9)), (sC (.int 9))]), (sLst [(sC (.int 0)), (sC (.int 0))])]), .ex (sCall (some 0) (some 2) f__law_draw [.bor 2, .ex (sC (.int 6))])])) sNil) s_law_t1)))
def s_law : SS := (sSeq (sFor (sSeqI (sOp gAdd [.ex (sLst [(sCall none none f__law_cell_at [.bor 0, .ex (sC (.int 0))])]), .ex (sOp (gS11 1 5) [.bor 0])])) (.nm 1) s_law_2) (sRet (sC (.bl true))))
def f_law : FS := fnRun 1 12 none s_law
theorem sc_law : FnScope ["script", "cell", "pen", "legs", "many", "ties", "web", "numbering", "parting", "found", "due", "number"] ["script"] (defScope (top 29)) := ⟨rfl, rfl, rfl, by decide +kernel, rfl, by decide +kernel, by decide +kernel⟩
theorem ok_law {f0 : Addr} {fd0 : FuncData} (h : Fun K "law" "law" (top 29) f0 fd0) (T : Txt K mg) (G__law_cell_at : OkX P w K mg base "_law_cell_at" ["script", "k"] 1 (spF K none f__law_cell_at)) (G__law_pen_of : OkX P w K mg base "_law_pen_of" ["cell"] 1 (spF K none f__law_pen_of)) (G__law_draw : OkX P w K mg base "_law_draw" ["pen", "many"] 2 (spF K (some 0) f__law_draw)) (G__law_spine_ties : OkX P w K mg base "_law_spine_ties" ["legs"] 1 (spF K none f__law_spine_ties)) (G__law_parted_by : OkX P w K mg base "_law_parted_by" ["legs"] 1 (spF K none f__law_parted_by)) (G_round_from : OkX P w K mg base "round_from" ["web", "numbering"] 9 (spF K none f_round_from)) (G__law_round_good : OkX P w K mg base "_law_round_good" ["web", "thing"] 3 (spF K none f__law_round_good)) : FnOk P w K mg base (CXr P w) 10 f0 fd0 ["script"] (spF K none f_law) := by
  refine fn_okF h sc_law (fun f cdv A outer s H E hr => ?_)
  have hu : (cxOf (CXr P w) P w K mg base ["script", "cell", "pen", "legs", "many", "ties", "web", "numbering", "parting", "found", "due", "number"] "law" (defScope (top 29)) f cdv A outer s H E).A.units + 10 < cLine := by have := hr.units; show (A.deeper _).units + 10 < cLine; omega
  exact (s_cons (s_for rfl (i_seq (b_add (cb_ex (c_lst (.cons (c_call (io := none) (slot := none) callable_n G__law_cell_at hr (by decide) (by rfl) (ca_cons (vb 0) (ca_cons (cb_ex c_int) ca_nil))) .nil))) (cb_ex (c_sl11 sl_any os_s11 (vb 0))))) (g_name (i := 1) sc_law.nd rfl (Or.inl rfl)) (s_cons (s_set (i := 2) sc_law.nd rfl (Or.inr rfl) (c_call (io := none) (slot := none) callable_n G__law_pen_of hr (by decide) (by rfl) (ca_cons (vb 1) ca_nil)))
      (s_cons (s_compSet (j := 3) (M := ["script", "cell", "pen", "legs", "many", "ties", "web", "numbering", "parting", "found", "due", "number"]) (tgs := ["k"]) (T := (.nm 12)) (c := none) (f := (sOp gIx [.ex (sLst [(sC (.int 0)), (sC (.int 0)), (sC (.int 1)), (sC (.int 2)), (sC (.int 0)), (sC (.int 3))]), .ex (sCall (some 0) (some 2) f__law_draw [.bor 2, .ex (sC (.int 6))])])) rfl (BlkD.ok (osc := defScope (top 29)) (N := ["script", "cell", "pen", "legs", "many", "ties", "web", "numbering", "parting", "found", "due", "number"]) ⟨rfl, by decide +kernel, by decide +kernel, by decide +kernel, rfl, by decide +kernel, by decide +kernel, by decide +kernel, by decide +kernel⟩) (i_rng1 (by rfl) T.range (ca_cons (cb_ex (b_add (cb_ex c_int) (cb_ex (c_call (io := (some 0)) (slot := (some 2)) callable_n G__law_draw hr (by decide) (by rfl) (ca_cons (vb 2) (ca_cons (cb_ex c_int) ca_nil)))))) ca_nil)) (fun _ _ _ _ _ => (g_name (i := 12) (by decide +kernel : (["script", "cell", "pen", "legs", "many", "ties", "web", "numbering", "parting", "found", "due", "number", "k"] : List Str).Nodup) rfl (Or.inl rfl))) (fun _ _ _ _ _ => .no) (fun _ _ _ _ _ => (b_ix (cb_ex (c_lst (.cons c_int (.cons c_int (.cons c_int (.cons c_int (.cons c_int (.cons c_int .nil)))))))) (cb_ex (c_call (io := (some 0)) (slot := (some 2)) callable_n G__law_draw hr (by decide) (by rfl) (ca_cons (vb 2) (ca_cons (cb_ex c_int) ca_nil)))))) sc_law.nd rfl rfl)
      (s_cons (s_if (t_eq hu (cb_ex (c_call (io := (some 0)) (slot := (some 2)) callable_n G__law_draw hr (by decide) (by rfl) (ca_cons (vb 2) (ca_cons (cb_ex c_int) ca_nil)))) (cb_ex c_int)) (s_one (s_set (i := 3) sc_law.nd rfl (Or.inl rfl) (b_ix (cb_ex (c_lst (.cons (b_mul (cb_ex (c_lst (.cons c_int .nil))) (cb_ex c_int)) (.cons (c_lst (.cons c_int .nil)) (.cons (b_add (cb_ex (b_mul (cb_ex (c_lst (.cons c_int .nil))) (cb_ex c_int))) (cb_ex (c_lst (.cons c_int .nil)))) (.cons (b_mul (cb_ex (c_lst (.cons c_int .nil))) (cb_ex c_int)) (.cons (c_lst (.cons c_int (.cons c_int (.cons c_int (.cons c_int .nil))))) (.cons (c_lst (.cons c_int (.cons c_int .nil))) .nil)))))))) (cb_ex (c_call (io := (some 0)) (slot := (some 2)) callable_n G__law_draw hr (by decide) (by rfl) (ca_cons (vb 2) (ca_cons (cb_ex c_int) ca_nil))))))) s_nil)
      (s_cons (s_asg (c_call (io := none) (slot := none) callable_n G__law_spine_ties hr (by decide) (by rfl) (ca_cons (cb_ex (v 3)) ca_nil)) (g_tup rfl (g_cons (g_name (i := 4) sc_law.nd rfl (Or.inl rfl)) (g_cons (g_name (i := 5) sc_law.nd rfl (Or.inr rfl)) g_nil))))
      (s_cons (s_set (i := 6) sc_law.nd rfl (Or.inl rfl) (c_tup (.cons (v 4) (.cons (b_tuple (m := T.tuple) (ha := (ca_cons (cb_ex (b_sortB (m := T.sorted) (ha := (ca_cons (vb 5) ca_nil)))) ca_nil))) .nil))))
      (s_cons (s_asg (c_call (io := none) (slot := none) callable_n G__law_parted_by hr (by decide) (by rfl) (ca_cons (vb 3) ca_nil)) (g_tup rfl (g_cons (g_name (i := 7) sc_law.nd rfl (Or.inl rfl)) (g_cons (g_name (i := 8) sc_law.nd rfl (Or.inl rfl)) g_nil))))
      (s_cons (s_if (t_eq hu (cb_ex (c_call (io := (some 0)) (slot := (some 2)) callable_n G__law_draw hr (by decide) (by rfl) (ca_cons (vb 2) (ca_cons (cb_ex c_int) ca_nil)))) (cb_ex c_int)) (s_cons (s_set (i := 7) sc_law.nd rfl (Or.inl rfl) (b_tuple (m := T.tuple) (ha := (ca_cons (cb_ex (c_comp (M := ["script", "cell", "pen", "legs", "many", "ties", "web", "numbering", "parting", "found", "due", ""]) (tgs := ["number"]) (T := (.nm 12)) (c := none) (f := (sOp gMin1 [.ex (sOp gLen [.bor 5]), .bor 12])) rfl (BlkD.ok (osc := defScope (top 29)) (N := ["script", "cell", "pen", "legs", "many", "ties", "web", "numbering", "parting", "found", "due", "number"]) ⟨rfl, by decide +kernel, by decide +kernel, by decide +kernel, rfl, by decide +kernel, by decide +kernel, by decide +kernel, by decide +kernel⟩) (i_seq (v 7)) (fun _ _ _ _ _ => (g_name (i := 12) (by decide +kernel : (["script", "cell", "pen", "legs", "many", "ties", "web", "numbering", "parting", "found", "due", "", "number"] : List Str).Nodup) rfl (Or.inl rfl))) (fun _ _ _ _ _ => .no) (fun _ _ _ _ _ => (b_sub (cb_ex (b_len (m := T.len) (ha := (ca_cons (vb 5) ca_nil)))) (vb 12))))) ca_nil))))
      (s_one (s_set (i := 8) sc_law.nd rfl (Or.inl rfl) (b_sub (cb_ex (b_sub (cb_ex (b_len (m := T.len) (ha := (ca_cons (vb 5) ca_nil)))) (cb_ex c_int))) (vb 8))))) s_nil)
      (s_cons (s_set (i := 9) sc_law.nd rfl (Or.inl rfl) (c_call (io := none) (slot := none) callable_n G_round_from hr (by decide) (by rfl) (ca_cons (vb 6) (ca_cons (vb 7) ca_nil))))
      (s_cons (s_set (i := 10) sc_law.nd rfl (Or.inl rfl) (c_lst .nil))
      (s_cons (s_for rfl (i_seq (v 7)) (g_name (i := 11) sc_law.nd rfl (Or.inl rfl)) (s_cons (s_if (t_gt (vb 11) (vb 8)) (s_one (s_set (i := 11) sc_law.nd rfl (Or.inl rfl) (b_sub (cb_ex (b_add (cb_ex (b_add (vb 8) (cb_ex c_int))) (cb_ex (b_len (m := T.len) (ha := (ca_cons (vb 5) ca_nil)))))) (vb 11)))) s_nil)
      (s_one (s_expr (m_append 10 (b_mod (vb 11) (cb_ex (b_len (m := T.len) (ha := (ca_cons (vb 5) ca_nil))))))))))
      (s_one (s_if (JW.t (w_or (k_not (k_tru (cb_ex (c_call (io := none) (slot := none) callable_n G__law_round_good hr (by decide) (by rfl) (ca_cons (vb 6) (ca_cons (vb 9) ca_nil)))))) (w_or1 (t_ne hu (vb 9) (cb_ex (b_tuple (m := T.tuple) (ha := (ca_cons (vb 10) ca_nil)))))))) (s_one (s_ret c_bl)) s_nil)))))))))))))
      (s_one (s_ret c_bl)))
end
end K41
namespace K41
open PySem L2
theorem t_whole {i : Int} : f_is_whole [.int i] = some (.ok (.bl true) false, .non) := by
  unfold f_is_whole s_is_whole
  (apply Eq.trans; apply r_fn; exact rfl; apply r_ret; apply r_andVT; apply r_op; apply r_borA; exact rfl; apply r_nilA; exact rfl; exact rfl; exact rfl; apply r_notV; apply r_op; apply r_borA; exact rfl; apply r_nilA; exact rfl; exact rfl; exact rfl; exact rfl; exact rfl)
theorem t_lwhole {i : Int} : f__law_whole [.int i] = some (.ok (.bl true) false, .non) := by
  unfold f__law_whole s__law_whole
  (apply Eq.trans; apply r_fn; exact rfl; apply r_ret; apply r_andVT; apply r_op; apply r_borA; exact rfl; apply r_nilA; exact rfl; exact rfl; exact rfl; apply r_notV; apply r_op; apply r_borA; exact rfl; apply r_nilA; exact rfl; exact rfl; exact rfl; exact rfl; exact rfl)
theorem t_within {i lo hi : Int} : f_whole_within [.int i, .int lo, .int hi] = some (.ok (.bl (decide (lo ≤ i) && decide (i ≤ hi))) false, .non) := by
  have h := @t_whole
  unfold f_whole_within s_whole_within
  (apply Eq.trans; apply r_fn; exact rfl; apply r_ret; apply r_andVT; apply r_call; apply r_borA; exact rfl; apply r_nilA; exact rfl; apply h; exact rfl; exact rfl; apply r_chain; apply r_exA; apply r_varF; exact rfl; apply r_exA; apply r_varF; exact rfl; apply r_nilA; exact rfl; apply r_varF; exact rfl; exact rfl; exact rfl; exact rfl; exact rfl)
def unlike (ns : List Int) (lo hi : Int) : Bool := (ns.map fun i => decide (lo ≤ i) && decide (i ≤ hi)).all id && decide (((dd ns).length : Int) = ns.length)
theorem t_unlike {ns : List Int} {lo hi : Int} (hl : ns.length ≤ 1000) : f_unlike_within [.tup (nD ns), .int lo, .int hi] = some (.ok (.bl (unlike ns lo hi)) false, .non) := by
  have h := @t_within
  unfold f_unlike_within s_unlike_within
  (apply Eq.trans; apply r_fn; exact rfl; apply r_ret; apply r_andV; apply r_op; apply r_exA; apply r_comp; apply r_seqI; apply r_varF; exact rfl; exact rfl; exact rfl; apply sCompL_ofB; intro x0 hx0; apply el_mk; (simp only [asgT, asgTs, tieD, List.getElem?_cons_zero, List.getElem?_cons_succ, List.set_cons_zero, List.set_cons_succ, List.replicate, List.cons_append, List.nil_append, Nat.zero_add]; exact rfl); apply r_call; apply r_borA; exact rfl; apply r_borA; exact rfl; apply r_borA; exact rfl; apply r_nilA; exact rfl; exact rfl; exact rfl; apply h; exact rfl; exact rfl; exact rfl; apply r_nilA; apply gAll_bls _; apply r_op; apply r_exA; apply r_op; apply r_exA; apply r_op; apply r_borA; exact rfl; apply r_nilA; exact rfl; apply gSet_ints _; (with_reducible assumption); apply r_nilA; apply gLen_set _; (with_reducible assumption); apply r_exA; apply r_op; apply r_borA; exact rfl; apply r_nilA; exact rfl; apply gLen_tupM; apply r_nilA; apply gEq_int _ _; exact rfl; exact rfl; exact rfl)
theorem t_num {n : Int} {ts : List (Int × Int)} {ns : List Int} : f_places_numbered [webD n ts, .tup (nD ns)] = some (.ok (.bl (decide ((ns.length : Int) = n))) false, .non) := by
  unfold f_places_numbered s_places_numbered
  (apply Eq.trans; apply r_fn; exact rfl; apply r_ret; apply r_andVT; apply r_op; apply r_borA; exact rfl; apply r_nilA; exact rfl; exact rfl; exact rfl; apply r_op; apply r_exA; apply r_op; apply r_borA; exact rfl; apply r_nilA; exact rfl; apply gLen_tupM; apply r_exA; apply r_op; apply r_borA; exact rfl; apply r_exA; apply r_c; apply r_nilA; exact rfl; apply gIx_tup; exact rfl; apply r_nilA; apply gEq_int _ _; exact rfl; exact rfl; exact rfl)
structure Wb (n : Nat) (ts : List (Int × Int)) : Prop where
  r : ∀ t ∈ ts, 0 ≤ t.1 ∧ t.1 < n ∧ 0 ≤ t.2 ∧ t.2 < n
  l : ts.length < 60
  n : n ≤ 40
def st (ps : List Int) (t : Int × Int) : Int := (ps.getD t.1.toNat 0 - ps.getD t.2.toNat 0).natAbs
theorem t_steps {n : Nat} {m : Int} {ts : List (Int × Int)} (W : Wb n ts) {ps : List Int} (hp : ps.length = n) : f_steps_by [webD m ts, .tup (nD ps)] = some (.ok (.lst (nD (ts.map (st ps)))) true, .non) := by
  have h1 : ∀ t ∈ ts, gIx [.tup (nD ps), .int t.1] = some (.int (ps.getD t.1.toNat 0), false) := fun t ht => gIx_tupI (W.r t ht).1 (by have := W.r t ht; omega)
  have h2 : ∀ t ∈ ts, gIx [.tup (nD ps), .int t.2] = some (.int (ps.getD t.2.toNat 0), false) := fun t ht => gIx_tupI (W.r t ht).2.2.1 (by have := W.r t ht; omega)
  unfold f_steps_by s_steps_by
  (apply Eq.trans; apply r_fn; exact rfl; apply r_ret; apply r_comp; apply r_seqI; apply r_op; apply r_borA; exact rfl; apply r_exA; apply r_c; apply r_nilA; exact rfl; apply gIx_tup; exact rfl; exact rfl; exact rfl; apply sCompL_ofI; intro x0 hx0; apply el_mk; (simp only [asgT, asgTs, tieD, List.getElem?_cons_zero, List.getElem?_cons_succ, List.set_cons_zero, List.set_cons_succ, List.replicate, List.cons_append, List.nil_append, Nat.zero_add]; exact rfl); apply r_op; apply r_exA; apply r_op; apply r_exA; apply r_op; apply r_borA; exact rfl; apply r_borA; exact rfl; apply r_nilA; exact rfl; exact rfl; apply h1; (with_reducible assumption); apply r_exA; apply r_op; apply r_borA; exact rfl; apply r_borA; exact rfl; apply r_nilA; exact rfl; exact rfl; apply h2; (with_reducible assumption); apply r_nilA; exact rfl; apply r_nilA; apply gAbs_eq; exact rfl; exact rfl; exact rfl; exact rfl; exact rfl)
structure Good (n : Nat) (ts : List (Int × Int)) (ps : List Int) : Prop where
  l : ps.length = n
  u : unlike ps 0 (ts.length : Nat) = true
  s : isort (ts.map (st ps)) = rgI 1 ts.length
theorem t_good {n : Nat} {ts : List (Int × Int)} (W : Wb n ts) {ps : List Int} (G : Good n ts ps) : f_steps_good [webD n ts, .tup (nD ps)] = some (.ok (.bl true) false, .non) := by
  have h1 := @t_num
  have h2 := @t_unlike
  have h3 := t_steps (m := n) W G.l
  have l1 := W.l
  have l2 := W.n
  have l3 := G.l
  have u := G.u
  unfold f_steps_good s_steps_good
  (apply Eq.trans; apply r_fn; exact rfl; apply r_seq; apply r_set; apply r_op; apply r_exA; apply r_op; apply r_borA; exact rfl; apply r_exA; apply r_c; apply r_nilA; exact rfl; apply gIx_tup; exact rfl; apply r_nilA; apply gLen_tupM; exact rfl; exact rfl; apply r_seq; apply r_ifF; apply r_orF; apply r_not; apply r_tru; apply r_exA; apply r_call; apply r_borA; exact rfl; apply r_borA; exact rfl; apply r_nilA; exact rfl; exact rfl; apply h1; exact rfl; apply r_nilA; exact rfl; (simp only [Bool.not_eq_true', Bool.not_eq_false', decide_eq_true_eq, decide_eq_false_iff_not]; omega); apply r_not; apply r_tru; apply r_exA; apply r_call; apply r_borA; exact rfl; apply r_exA; apply r_c; apply r_borA; exact rfl; apply r_nilA; exact rfl; exact rfl; apply h2; omega; exact rfl; apply r_nilA; exact rfl; (simp only [Bool.not_eq_true', Bool.not_eq_false', decide_eq_true_eq, decide_eq_false_iff_not]; omega); apply r_nil; apply r_ret; apply r_op; apply r_exA; apply r_op; apply r_exA; apply r_call; apply r_borA; exact rfl; apply r_borA; exact rfl; apply r_nilA; exact rfl; exact rfl; exact h3; exact rfl; apply r_nilA; apply gSortB_lstI; (simp only [List.length_map, List.length_append, List.length_range, List.length_cons, List.length_nil, List.length_replicate, List.length_set, rgI_len, List.length_zipIdx, List.length_zip, List.length_reverse] at *; omega); apply r_exA; apply r_op; apply r_exA; apply r_op; apply r_exA; apply r_c; apply r_exA; apply r_op; apply r_borA; exact rfl; apply r_exA; apply r_c; apply r_nilA; exact rfl; exact rfl; apply r_nilA; exact rfl; apply r_nilA; apply gList_rng1; omega; apply r_nilA; apply gEq_lstI; exact rfl; exact rfl)
  rw [decide_eq_true G.s]
theorem t_check {n : Nat} {ts : List (Int × Int)} (W : Wb n ts) {ps : List Int} (G : Good n ts ps) : f_check_steps [webD n ts, .tup (nD ps)] = some (.ok .non false, .non) := by
  have h1 := t_good W G
  unfold f_check_steps s_check_steps
  (apply Eq.trans; apply r_fnN; exact rfl; apply r_ifF; apply r_not; apply r_tru; apply r_exA; apply r_call; apply r_borA; exact rfl; apply r_borA; exact rfl; apply r_nilA; exact rfl; exact rfl; exact h1; exact rfl; apply r_nilA; exact rfl; exact rfl; apply r_nil; exact rfl; exact rfl; exact rfl)
abbrev loE (ps : List Int) (t : Int × Int) : Int := min (ps.getD t.1.toNat 0) (ps.getD t.2.toNat 0)
abbrev hiE (ps : List Int) (t : Int × Int) : Int := max (ps.getD t.1.toNat 0) (ps.getD t.2.toNat 0)
theorem t_part {n : Nat} {ts : List (Int × Int)} (W : Wb n ts) {ps : List Int} (G : Good n ts ps) (ne : ts ≠ []) {p : Int} (hp : maxI (ts.map (loE ps)) = p) (hq : p < minI (ts.map (hiE ps))) : f_parted_at [webD n ts, .tup (nD ps)] = some (.ok (.int p) false, .non) := by
  have h0 := t_check W G
  have l3 := G.l
  have h1 : ∀ t ∈ ts, gIx [.tup (nD ps), .int t.1] = some (.int (ps.getD t.1.toNat 0), false) := fun t ht => gIx_tupI (W.r t ht).1 (by have := W.r t ht; omega)
  have h2 : ∀ t ∈ ts, gIx [.tup (nD ps), .int t.2] = some (.int (ps.getD t.2.toNat 0), false) := fun t ht => gIx_tupI (W.r t ht).2.2.1 (by have := W.r t ht; omega)
  have n1 : ts.map (loE ps) ≠ [] := by simpa using ne
  have n2 : ts.map (hiE ps) ≠ [] := by simpa using ne
  have m1 : gMaxA [.lst (nD (ts.map (loE ps)))] = some (.int p, false) := by rw [gMaxA_lstI n1, hp]
  have m2 := gMinA_lstI n2
  have ne' : (!ts.isEmpty) = true := by simpa using ne
  have tr : truD (.tup (tD ts)) = some true := by rw [truD_tupM, ne']
  unfold f_parted_at s_parted_at
  (apply Eq.trans; apply r_fn; exact rfl; apply r_seq; apply r_expr; apply r_call; apply r_borA; exact rfl; apply r_borA; exact rfl; apply r_nilA; exact rfl; exact rfl; exact h0; exact rfl; apply r_seq; apply r_ifF; apply r_not; apply r_tru; apply r_exA; apply r_op; apply r_borA; exact rfl; apply r_exA; apply r_c; apply r_nilA; exact rfl; apply gIx_tup; exact rfl; apply r_nilA; exact tr; exact rfl; apply r_nil; apply r_seq; apply r_set; apply r_op; apply r_exA; apply r_comp; apply r_seqI; apply r_op; apply r_borA; exact rfl; apply r_exA; apply r_c; apply r_nilA; exact rfl; apply gIx_tup; exact rfl; exact rfl; exact rfl; apply sCompL_ofI; intro x0 hx0; apply el_mk; (simp only [asgT, asgTs, tieD, List.getElem?_cons_zero, List.getElem?_cons_succ, List.set_cons_zero, List.set_cons_succ, List.replicate, List.cons_append, List.nil_append, Nat.zero_add]; exact rfl); apply r_op; apply r_exA; apply r_op; apply r_borA; exact rfl; apply r_borA; exact rfl; apply r_nilA; exact rfl; exact rfl; apply h1; (with_reducible assumption); apply r_exA; apply r_op; apply r_borA; exact rfl; apply r_borA; exact rfl; apply r_nilA; exact rfl; exact rfl; apply h2; (with_reducible assumption); apply r_nilA; apply gMinA_2; exact rfl; exact rfl; apply r_nilA; exact m1; exact rfl; exact rfl; apply r_seq; apply r_set; apply r_op; apply r_exA; apply r_comp; apply r_seqI; apply r_op; apply r_borA; exact rfl; apply r_exA; apply r_c; apply r_nilA; exact rfl; apply gIx_tup; exact rfl; exact rfl; exact rfl; apply sCompL_ofI; intro x0 hx0; apply el_mk; (simp only [asgT, asgTs, tieD, List.getElem?_cons_zero, List.getElem?_cons_succ, List.set_cons_zero, List.set_cons_succ, List.replicate, List.cons_append, List.nil_append, Nat.zero_add]; exact rfl); apply r_op; apply r_exA; apply r_op; apply r_borA; exact rfl; apply r_borA; exact rfl; apply r_nilA; exact rfl; exact rfl; apply h1; (with_reducible assumption); apply r_exA; apply r_op; apply r_borA; exact rfl; apply r_borA; exact rfl; apply r_nilA; exact rfl; exact rfl; apply h2; (with_reducible assumption); apply r_nilA; apply gMaxA_2; exact rfl; exact rfl; apply r_nilA; exact m2; exact rfl; exact rfl; apply r_ret; apply r_ieT; apply r_opT; apply r_borA; exact rfl; apply r_borA; exact rfl; apply r_nilA; exact rfl; exact rfl; exact rfl; exact decide_eq_true (by omega); apply r_varF; exact rfl; exact rfl; exact rfl; exact rfl)
theorem t_parting {n : Nat} {ts : List (Int × Int)} (W : Wb n ts) {ps : List Int} (G : Good n ts ps) (ne : ts ≠ []) {p : Int} (hp : maxI (ts.map (loE ps)) = p) (hq : p < minI (ts.map (hiE ps))) : f_parting_number [webD n ts, .tup (nD ps)] = some (.ok (.int p) false, .non) := by
  have h0 := t_part W G ne hp hq
  unfold f_parting_number s_parting_number
  (apply Eq.trans; apply r_fn; exact rfl; apply r_seq; apply r_set; apply r_call; apply r_borA; exact rfl; apply r_borA; exact rfl; apply r_nilA; exact rfl; exact rfl; exact h0; exact rfl; exact rfl; exact rfl; apply r_seq; apply r_ifF; apply r_opT; apply r_borA; exact rfl; apply r_exA; apply r_c; apply r_nilA; exact rfl; exact rfl; exact rfl; apply r_nil; apply r_retF; exact rfl; exact rfl; exact rfl; exact rfl)
def up (q p x : Int) : Int := if x ≤ p then x else q + p + 1 - x
theorem t_upper {n : Nat} {ts : List (Int × Int)} (W : Wb n ts) {ps : List Int} (G : Good n ts ps) (ne : ts ≠ []) {p : Int} (hp : maxI (ts.map (loE ps)) = p) (hq : p < minI (ts.map (hiE ps))) : f_upper_turned [webD n ts, .tup (nD ps)] = some (.ok (.tup (nD (ps.map (up (ts.length : Nat) p)))) false, .non) := by
  have h0 := t_parting W G ne hp hq
  unfold f_upper_turned s_upper_turned
  (apply Eq.trans; apply r_fn; exact rfl; apply r_seq; apply r_set; apply r_call; apply r_borA; exact rfl; apply r_borA; exact rfl; apply r_nilA; exact rfl; exact rfl; exact h0; exact rfl; exact rfl; exact rfl; apply r_seq; apply r_set; apply r_op; apply r_exA; apply r_op; apply r_exA; apply r_op; apply r_exA; apply r_op; apply r_borA; exact rfl; apply r_exA; apply r_c; apply r_nilA; exact rfl; apply gIx_tup; exact rfl; apply r_nilA; apply gLen_tupM; apply r_borA; exact rfl; apply r_nilA; exact rfl; exact rfl; apply r_exA; apply r_c; apply r_nilA; exact rfl; exact rfl; exact rfl; apply r_ret; apply r_op; apply r_exA; apply r_comp; apply r_seqI; apply r_varF; exact rfl; exact rfl; exact rfl; apply sCompL_ofI; intro x0 hx0; apply el_mk; (simp only [asgT, asgTs, tieD, List.getElem?_cons_zero, List.getElem?_cons_succ, List.set_cons_zero, List.set_cons_succ, List.replicate, List.cons_append, List.nil_append, Nat.zero_add]; exact rfl); apply r_ieI; apply r_opT; apply r_borA; exact rfl; apply r_borA; exact rfl; apply r_nilA; exact rfl; exact rfl; exact rfl; apply r_varF; exact rfl; apply r_op; apply r_borA; exact rfl; apply r_borA; exact rfl; apply r_nilA; exact rfl; exact rfl; exact rfl; exact rfl; exact rfl; apply r_nilA; exact rfl; exact rfl; exact rfl)
  simp only [decide_eq_true_eq]
  rfl
theorem t_round {n : Nat} {ts : List (Int × Int)} (W : Wb n ts) {ps : List Int} (G : Good n ts ps) (ne : ts ≠ []) {p : Int} (hp : maxI (ts.map (loE ps)) = p) (hq : p < minI (ts.map (hiE ps))) : f_round_from [webD n ts, .tup (nD ps)] = some (.ok (.tup (nD (ps.map fun x => up (ts.length : Nat) p x % (ts.length : Nat)))) false, .non) := by
  have h0 := t_upper W G ne hp hq
  have : 0 < ts.length := List.length_pos_iff.mpr ne
  unfold f_round_from s_round_from
  (apply Eq.trans; apply r_fn; exact rfl; apply r_ret; apply r_op; apply r_exA; apply r_comp; apply r_seqI; apply r_call; apply r_borA; exact rfl; apply r_borA; exact rfl; apply r_nilA; exact rfl; exact rfl; exact h0; exact rfl; exact rfl; exact rfl; apply sCompL_ofI; intro x0 hx0; apply el_mk; (simp only [asgT, asgTs, tieD, List.getElem?_cons_zero, List.getElem?_cons_succ, List.set_cons_zero, List.set_cons_succ, List.replicate, List.cons_append, List.nil_append, Nat.zero_add]; exact rfl); apply r_op; apply r_borA; exact rfl; apply r_exA; apply r_op; apply r_exA; apply r_op; apply r_borA; exact rfl; apply r_exA; apply r_c; apply r_nilA; exact rfl; apply gIx_tup; exact rfl; apply r_nilA; apply gLen_tupM; apply r_nilA; exact rfl; apply gMod_eq; omega; exact rfl; exact rfl; apply r_nilA; exact rfl; exact rfl; exact rfl)
  rw [List.map_map]
  rfl
end K41
namespace K41
open PySem L2
abbrev mkM (ms : List Int) (t : Int × Int) (m : Int) : Int := if decide (m = max (ms.getD t.1.toNat 0) (ms.getD t.2.toNat 0)) = true then min (ms.getD t.1.toNat 0) (ms.getD t.2.toNat 0) else m
def mk (ms : List Int) (t : Int × Int) : List Int := ms.map (mkM ms t)
theorem t_conn {n : Nat} {ts : List (Int × Int)} (W : Wb n ts) (h0 : 0 < n) : f__law_connected [webD n ts] = some (.ok (.bl (decide (maxI (ts.foldl mk (rgI 0 n)) = 0))) false, .non) := by
  have l2 := W.n
  obtain ⟨ρ', e, hl, a, b, c, d, rfl⟩ := sLoop_foldE (T := .tp [.nm 2, .nm 3]) (f := s__law_connected_1) (inj := tieD) (fun ms ρ => ms.length = n ∧ ∃ a b c d, ρ = [some (webD n ts, .fz), some (.lst (nD ms), .ow), a, b, c, d]) mk ts (rgI 0 n) [some (webD n ts, .fz), some (.lst (nD (rgI 0 n)), .ow), none, none, none, none] ⟨rgI_len 0 n, none, none, none, none, rfl⟩ (by
    rintro t ht ms ρ ⟨hl, a, b, c, d, rfl⟩
    have := W.r t ht
    unfold s__law_connected_1
    (apply lp_mk; (simp only [asgT, asgTs, tieD, List.getElem?_cons_zero, List.getElem?_cons_succ, List.set_cons_zero, List.set_cons_succ, List.replicate, List.cons_append, List.nil_append, Nat.zero_add]; exact rfl); apply r_seq; apply r_set; apply r_op; apply r_exA; apply r_op; apply r_borA; exact rfl; apply r_borA; exact rfl; apply r_nilA; exact rfl; exact rfl; apply gIx_lstI; omega; omega; apply r_exA; apply r_op; apply r_borA; exact rfl; apply r_borA; exact rfl; apply r_nilA; exact rfl; exact rfl; apply gIx_lstI; omega; omega; apply r_nilA; apply gMinA_2; exact rfl; exact rfl; apply r_seq; apply r_set; apply r_op; apply r_exA; apply r_op; apply r_borA; exact rfl; apply r_borA; exact rfl; apply r_nilA; exact rfl; exact rfl; apply gIx_lstI; omega; omega; apply r_exA; apply r_op; apply r_borA; exact rfl; apply r_borA; exact rfl; apply r_nilA; exact rfl; exact rfl; apply gIx_lstI; omega; omega; apply r_nilA; apply gMaxA_2; exact rfl; exact rfl; apply r_set; apply r_comp; apply r_seqI; apply r_varO; exact rfl; exact rfl; exact rfl; exact rfl; apply sCompL_ofI; intro x0 hx0; apply el_mk; (simp only [asgT, asgTs, tieD, List.getElem?_cons_zero, List.getElem?_cons_succ, List.set_cons_zero, List.set_cons_succ, List.replicate, List.cons_append, List.nil_append, Nat.zero_add]; exact rfl); apply r_op; apply r_exA; apply r_lst; apply r_exM; apply r_varF; exact rfl; apply r_exM; apply r_varF; exact rfl; apply r_nilM; apply r_exA; apply r_op; apply r_exA; apply r_op; apply r_borA; exact rfl; apply r_borA; exact rfl; apply r_nilA; exact rfl; exact rfl; apply gEq_int _ _; apply r_nilA; exact rfl; apply r_nilA; apply gIx_pick; exact rfl; exact rfl; exact rfl; exact rfl)
    exact ⟨by unfold mk; rw [List.length_map]; exact hl, _, _, _, _, rfl⟩)
  have ne : ts.foldl mk (rgI 0 n) ≠ [] := fun z => by rw [z] at hl; simp at hl; omega
  unfold f__law_connected s__law_connected
  (apply Eq.trans; apply r_fn; exact rfl; apply r_seq; apply r_set; apply r_op; apply r_exA; apply r_op; apply r_exA; apply r_op; apply r_borA; exact rfl; apply r_exA; apply r_c; apply r_nilA; exact rfl; apply gIx_tup; exact rfl; apply r_nilA; exact rfl; apply r_nilA; apply gList_rng0; omega; exact rfl; exact rfl; apply r_seq; apply r_for; apply r_seqI; apply r_op; apply r_borA; exact rfl; apply r_exA; apply r_c; apply r_nilA; exact rfl; apply gIx_tup; exact rfl; exact rfl; exact e; apply r_ret; apply r_op; apply r_exA; apply r_op; apply r_borA; exact rfl; apply r_nilA; exact rfl; apply gMaxA_lstI; (with_reducible assumption); apply r_exA; apply r_c; apply r_nilA; apply gEq_int _ _; exact rfl; exact rfl; exact rfl)
theorem getD_map {f : Int → Int} {l : List Int} {i : Nat} (h : i < l.length) : (l.map f).getD i 0 = f (l.getD i 0) := by
  simp [List.getD_eq_getElem?_getD, List.getElem?_map, List.getElem?_eq_getElem h]
theorem mk_eq (a b : Int) : (if decide (a = max a b) = true then min a b else a) = (if decide (b = max a b) = true then min a b else b) := by
  rcases Int.le_total a b with h | h
  · rw [Int.max_eq_right h, Int.min_eq_left h]
    by_cases e : a = b <;> simp [e]
  · rw [Int.max_eq_left h, Int.min_eq_right h]
    by_cases e : b = a <;> simp [e]
structure Mrk (n : Nat) (ms : List Int) (done : List (Int × Int)) : Prop where
  l : ms.length = n
  b : ∀ i, i < n → 0 ≤ ms.getD i 0 ∧ ms.getD i 0 ≤ i
  e : ∀ t ∈ done, ms.getD t.1.toNat 0 = ms.getD t.2.toNat 0
theorem mrk_all {n : Nat} : ∀ (ts done : List (Int × Int)) (ms : List Int), (∀ t ∈ done ++ ts, 0 ≤ t.1 ∧ t.1 < n ∧ 0 ≤ t.2 ∧ t.2 < n) → Mrk n ms done → Mrk n (ts.foldl mk ms) (done ++ ts)
  | [], done, ms, _, h => by rw [List.append_nil]; exact h
  | t :: ts, done, ms, hb, h => by
    rw [List.foldl_cons]
    have := mrk_all ts (done ++ [t]) (mk ms t) (by simpa using hb) ?_
    · simpa using this
    · obtain ⟨t1, t2, t3, t4⟩ := hb t (by simp)
      have hm : ∀ i, i < n → (mk ms t).getD i 0 = mkM ms t (ms.getD i 0) := fun i hi => by unfold mk; exact getD_map (by rw [h.l]; exact hi)
      refine ⟨by unfold mk; rw [List.length_map]; exact h.l, fun i hi => ?_, fun u hu => ?_⟩
      · rw [hm i hi]
        have h0 := h.b i hi
        have h1 := h.b t.1.toNat (by omega)
        have h2 := h.b t.2.toNat (by omega)
        unfold mkM
        split
        · rename_i z
          have z := of_decide_eq_true z
          omega
        · exact h0
      · rcases List.mem_append.mp hu with hu | hu
        · obtain ⟨u1, u2, u3, u4⟩ := hb u (by simp [hu])
          rw [hm _ (by omega), hm _ (by omega), h.e u hu]
        · rw [List.mem_singleton.mp hu, hm _ (by omega), hm _ (by omega)]
          exact mk_eq _ _
theorem conn_zero {n : Nat} {ts : List (Int × Int)} (h0 : 0 < n) (hb : ∀ t ∈ ts, 0 ≤ t.1 ∧ t.1 < n ∧ 0 ≤ t.2 ∧ t.2 < n) (par : ∀ p : Nat, 0 < p → p < n → ∃ t ∈ ts, t.2 = p ∧ t.1 < t.2) : maxI (ts.foldl mk (rgI 0 n)) = 0 := by
  have M := mrk_all ts [] (rgI 0 n) (by simpa using hb) ⟨rgI_len 0 n, fun i hi => by rw [List.getD_eq_getElem?_getD, rgI_at hi]; simp, fun t ht => absurd ht List.not_mem_nil⟩
  rw [List.nil_append] at M
  have z : ∀ p, p < n → (ts.foldl mk (rgI 0 n)).getD p 0 = 0 := fun p => by
    induction p using Nat.strongRecOn with
    | _ p ih =>
      intro hp
      by_cases p0 : p = 0
      · have := M.b p hp
        omega
      · obtain ⟨t, ht, e1, e2⟩ := par p (by omega) hp
        have h1 := M.e t ht
        have h2 := hb t ht
        rw [e1, ih t.1.toNat (by omega) (by omega)] at h1
        simpa using h1.symm
  have ne : ts.foldl mk (rgI 0 n) ≠ [] := fun z => by have := M.l; rw [z] at this; simp at this; omega
  obtain ⟨h1, _⟩ := maxI_is ne
  obtain ⟨i, hi, e⟩ := List.mem_iff_getElem.mp h1
  rw [← e]
  have := z i (by rw [← M.l]; exact hi)
  rw [List.getD_eq_getElem?_getD, List.getElem?_eq_getElem hi] at this
  exact this
theorem t_tree {n : Nat} {ts : List (Int × Int)} (W : Wb n ts) (hl : ts.length + 1 = n) (par : ∀ p : Nat, 0 < p → p < n → ∃ t ∈ ts, t.2 = p ∧ t.1 < t.2) : f__law_tree [webD n ts] = some (.ok (.bl true) false, .non) := by
  have h := t_conn W (by omega)
  rw [decide_eq_true (conn_zero (by omega) W.r par)] at h
  unfold f__law_tree s__law_tree
  (apply Eq.trans; apply r_fn; exact rfl; apply r_ret; apply r_andVT; apply r_op; apply r_exA; apply r_op; apply r_exA; apply r_op; apply r_exA; apply r_op; apply r_borA; exact rfl; apply r_exA; apply r_c; apply r_nilA; exact rfl; apply gIx_tup; exact rfl; apply r_nilA; apply gLen_tupM; apply r_exA; apply r_c; apply r_nilA; exact rfl; apply r_exA; apply r_op; apply r_borA; exact rfl; apply r_exA; apply r_c; apply r_nilA; exact rfl; apply gIx_tup; exact rfl; apply r_nilA; apply gEq_int _ _; exact decide_eq_true (by omega); apply r_call; apply r_borA; exact rfl; apply r_nilA; exact rfl; exact h; exact rfl; exact rfl; exact rfl; exact rfl)
theorem t_rgood {n : Nat} {ts : List (Int × Int)} (W : Wb n ts) (hl : ts.length + 1 = n) (par : ∀ p : Nat, 0 < p → p < n → ∃ t ∈ ts, t.2 = p ∧ t.1 < t.2) (ne : 0 < ts.length) {fs : List Int} (fl : fs.length = n) (fb : ∀ x ∈ fs, 0 ≤ x ∧ x < ts.length) (fd : (dd fs).length = ts.length)
    (fsum : isort (ts.map fun t => (fs.getD t.1.toNat 0 + fs.getD t.2.toNat 0) % (ts.length : Nat)) = rgI 0 ts.length) : f__law_round_good [webD n ts, .tup (nD fs)] = some (.ok (.bl true) false, .non) := by
  have h := t_tree W hl par
  have l1 := W.l
  have l2 := W.n
  have w := @t_lwhole
  have h1 : ∀ t ∈ ts, gIx [.tup (nD fs), .int t.1] = some (.int (fs.getD t.1.toNat 0), false) := fun t ht => gIx_tupI (W.r t ht).1 (by have := W.r t ht; omega)
  have h2 : ∀ t ∈ ts, gIx [.tup (nD fs), .int t.2] = some (.int (fs.getD t.2.toNat 0), false) := fun t ht => gIx_tupI (W.r t ht).2.2.1 (by have := W.r t ht; omega)
  have ha : (fs.map fun x => decide (0 ≤ x ∧ x < ((ts.length : Nat) : Int))).all id = true := by
    rw [List.all_map, List.all_eq_true]
    exact fun x hx => decide_eq_true (fb x hx)
  unfold f__law_round_good s__law_round_good
  (apply Eq.trans; apply r_fn; exact rfl; apply r_seq; apply r_set; apply r_op; apply r_exA; apply r_op; apply r_borA; exact rfl; apply r_exA; apply r_c; apply r_nilA; exact rfl; apply gIx_tup; exact rfl; apply r_nilA; apply gLen_tupM; exact rfl; exact rfl; apply r_seq; apply r_ifF; apply r_orF; apply r_opT; apply r_borA; exact rfl; apply r_exA; apply r_c; apply r_nilA; exact rfl; apply gEq_int _ _; exact decide_eq_false (by omega); apply r_orF; apply r_not; apply r_tru; apply r_exA; apply r_op; apply r_borA; exact rfl; apply r_nilA; exact rfl; exact rfl; apply r_nilA; exact rfl; exact rfl; apply r_opT; apply r_exA; apply r_op; apply r_borA; exact rfl; apply r_nilA; exact rfl; apply gLen_tupM; apply r_exA; apply r_op; apply r_borA; exact rfl; apply r_exA; apply r_c; apply r_nilA; exact rfl; apply gIx_tup; exact rfl; apply r_nilA; apply gNe_int _ _; (simp only [Bool.not_eq_true', Bool.not_eq_false', decide_eq_true_eq, decide_eq_false_iff_not]; omega); apply r_nil; apply r_seq; apply r_ifF; apply r_not; apply r_tru; apply r_exA; apply r_op; apply r_exA; apply r_comp; apply r_seqI; apply r_varF; exact rfl; exact rfl; exact rfl; apply sCompL_ofB; intro x0 hx0; apply el_mk; (simp only [asgT, asgTs, tieD, List.getElem?_cons_zero, List.getElem?_cons_succ, List.set_cons_zero, List.set_cons_succ, List.replicate, List.cons_append, List.nil_append, Nat.zero_add]; exact rfl); apply r_andVT; apply r_call; apply r_borA; exact rfl; apply r_nilA; exact rfl; apply w; exact rfl; exact rfl; apply r_op; apply r_borA; exact rfl; apply r_exA; apply r_op; apply r_borA; exact rfl; apply r_nilA; exact rfl; exact rfl; apply r_nilA; exact rfl; exact rfl; exact rfl; exact rfl; apply r_nilA; apply gAll_bls _; apply r_nilA; exact rfl; (simp only [Bool.not_eq_true', Bool.not_eq_false', decide_eq_true_eq, decide_eq_false_iff_not]; omega); apply r_nil; apply r_seq; apply r_ifF; apply r_opT; apply r_exA; apply r_op; apply r_exA; apply r_op; apply r_exA; apply r_op; apply r_borA; exact rfl; apply r_nilA; exact rfl; apply gSet_ints _; omega; apply r_nilA; apply gLen_set _; omega; apply r_exA; apply r_op; apply r_exA; apply r_call; apply r_borA; exact rfl; apply r_nilA; exact rfl; exact h; exact rfl; apply r_nilA; exact rfl; apply r_nilA; exact rfl; apply r_exA; apply r_op; apply r_borA; exact rfl; apply r_exA; apply r_c; apply r_nilA; exact rfl; apply gIx_tup; exact rfl; apply r_nilA; apply gNe_int _ _; (simp only [Bool.not_eq_true', Bool.not_eq_false', decide_eq_true_eq, decide_eq_false_iff_not, reduceIte, Bool.false_eq_true]; omega); apply r_nil; apply r_seq; apply r_set; apply r_op; apply r_exA; apply r_comp; apply r_seqI; apply r_op; apply r_borA; exact rfl; apply r_exA; apply r_c; apply r_nilA; exact rfl; apply gIx_tup; exact rfl; exact rfl; exact rfl; apply sCompL_ofI; intro x0 hx0; apply el_mk; (simp only [asgT, asgTs, tieD, List.getElem?_cons_zero, List.getElem?_cons_succ, List.set_cons_zero, List.set_cons_succ, List.replicate, List.cons_append, List.nil_append, Nat.zero_add]; exact rfl); apply r_op; apply r_exA; apply r_op; apply r_exA; apply r_op; apply r_borA; exact rfl; apply r_borA; exact rfl; apply r_nilA; exact rfl; exact rfl; apply h1; (with_reducible assumption); apply r_exA; apply r_op; apply r_borA; exact rfl; apply r_borA; exact rfl; apply r_nilA; exact rfl; exact rfl; apply h2; (with_reducible assumption); apply r_nilA; exact rfl; apply r_borA; exact rfl; apply r_nilA; exact rfl; apply gMod_eq; omega; exact rfl; exact rfl; apply r_nilA; apply gSortB_lstI; (simp only [List.length_map, List.length_append, List.length_range, List.length_cons, List.length_nil, List.length_replicate, List.length_set, rgI_len, List.length_zipIdx, List.length_zip, List.length_reverse] at *; omega); exact rfl; exact rfl; apply r_ret; apply r_op; apply r_borA; exact rfl; apply r_exA; apply r_op; apply r_exA; apply r_op; apply r_borA; exact rfl; apply r_nilA; exact rfl; exact rfl; apply r_nilA; apply gList_rng0; omega; apply r_nilA; exact rfl; apply gEq_lstI; exact rfl; exact rfl)
  rw [decide_eq_true fsum]
end K41
namespace K41
open PySem L2
abbrev iL (legs : List Nat) : List Int := legs.map fun (n : Nat) => (n : Int)
theorem drop_at {legs r : List Nat} {k l : Nat} (h : legs.drop k = l :: r) : legs[k]? = some l ∧ legs.drop (k + 1) = r ∧ k < legs.length := by
  have h1 : legs[k]? = some l := by
    have := congrArg (fun x => x[0]?) h
    simpa using this
  refine ⟨h1, ?_, (List.getElem?_eq_some_iff.mp h1).1⟩
  have := congrArg List.tail h
  simpa using this
theorem ix_at {legs : List Nat} {k l : Nat} (h : legs[k]? = some l) : gIx [.lst (nD (iL legs)), .int (k : Nat)] = some (.int (l : Nat), false) := by
  refine gIx_lst (atI_of ?_)
  rw [nD, iL, List.getElem?_map, List.getElem?_map, h]
  rfl
theorem rg_next (k n : Nat) : rgI (k : Nat) (n + 1) = (k : Int) :: rgI ((k + 1 : Nat) : Int) n := by rw [rgI_cons]; rfl
theorem map_snoc (k fr : Int) (ts : List (Int × Int)) (i : Nat) : ts ++ (rgI fr (i + 1)).map (fun x => (k, x)) = (ts ++ (rgI fr i).map (fun x => (k, x))) ++ [(k, fr + (i : Nat))] := by
  rw [rgI_succ, List.map_append, List.append_assoc]; rfl
theorem spine_in {k l : Nat} {fr : Int} {ts : List (Int × Int)} {L c : Option (D × Md)} (h : ts.length + l ≤ 1000) : ∃ c', sLoop (.nm 4) s__law_spine_ties_1 (nD (rgI 0 l)) [L, some (.lst (tD ts), .ow), some (.int fr, .fz), some (.int (k : Nat), .fz), c] = some (.nx, [L, some (.lst (tD (ts ++ (rgI fr l).map (fun x => ((k : Int), x)))), .ow), some (.int (fr + (l : Nat)), .fz), some (.int (k : Nat), .fz), c']) := by
  obtain ⟨ρ', e, c', rfl⟩ := sLoop_rng0 (T := .nm 4) (f := s__law_spine_ties_1) (fun i ρ => ∃ c, ρ = [L, some (.lst (tD (ts ++ (rgI fr i).map (fun x => ((k : Int), x)))), .ow), some (.int (fr + (i : Nat)), .fz), some (.int (k : Nat), .fz), c]) l [L, some (.lst (tD ts), .ow), some (.int fr, .fz), some (.int (k : Nat), .fz), c] ⟨c, by simp [rgI]⟩ (by
    rintro i hi ρ ⟨c, rfl⟩
    have hb : (ts ++ (rgI fr i).map (fun x => ((k : Int), x))).length ≤ 1000 := by rw [List.length_append, List.length_map, rgI_len]; omega
    unfold s__law_spine_ties_1
    (apply lp_mk; (simp only [asgT, asgTs, tieD, List.getElem?_cons_zero, List.getElem?_cons_succ, List.set_cons_zero, List.set_cons_succ, List.replicate, List.cons_append, List.nil_append, Nat.zero_add]; exact rfl); apply r_seq; apply r_expr; apply r_methO; exact rfl; apply r_exM; apply r_tup; apply r_exM; apply r_varF; exact rfl; apply r_exM; apply r_varF; exact rfl; apply r_nilM; apply r_nilM; exact rfl; apply uAppendT; (with_reducible assumption); exact rfl; apply r_set; apply r_op; apply r_borA; exact rfl; apply r_exA; apply r_c; apply r_nilA; exact rfl; exact rfl; exact rfl; exact rfl)
    rw [map_snoc, show fr + ((i + 1 : Nat) : Int) = fr + (i : Nat) + 1 by omega]
    exact ⟨_, rfl⟩)
  exact ⟨c', e⟩
theorem spine_out (legs : List Nat) : ∀ (r : List Nat) (k : Nat) (fr : Int) (ts : List (Int × Int)) (a c : Option (D × Md)), legs.drop k = r → ts.length + r.length + r.sum ≤ 1000 →
    ∃ a' c' : Option (D × Md), sLoop (.nm 3) s__law_spine_ties_2 (nD (rgI (k : Nat) r.length)) [some (.lst (nD (iL legs)), .fz), some (.lst (tD ts), .ow), some (.int fr, .fz), a, c] = some (.nx, [some (.lst (nD (iL legs)), .fz), some (.lst (tD (ts ++ (if 0 < k ∧ r ≠ [] then [((k : Int) - 1, (k : Int))] else []) ++ cT k fr r)), .ow), some (.int (fr + (r.sum : Nat)), .fz), a', c'])
  | [], k, fr, ts, a, c, h, hb => ⟨a, c, by simp [cT]; rfl⟩
  | l :: r, k, fr, ts, a, c, h, hb => by
    obtain ⟨h1, h2, h3⟩ := drop_at h
    rw [List.length_cons, List.sum_cons] at hb
    have ix := ix_at h1
    rw [List.length_cons, rg_next, nD, List.map_cons]
    by_cases k0 : 0 < k
    · obtain ⟨c1, e1⟩ := spine_in (k := k) (l := l) (fr := fr) (ts := ts ++ [((k : Int) - 1, (k : Int))]) (L := some (.lst (nD (iL legs)), .fz)) (c := c) (by simp; omega)
      obtain ⟨a', c', e2⟩ := spine_out legs r (k + 1) (fr + (l : Nat)) (ts ++ [((k : Int) - 1, (k : Int))] ++ (rgI fr l).map (fun x => ((k : Int), x))) (some (.int (k : Nat), .fz)) c1 h2 (by simp [rgI_len]; omega)
      refine ⟨a', c', ?_⟩
      have eT : ts ++ [((k : Int) - 1, (k : Int))] ++ (rgI fr l).map (fun x => ((k : Int), x)) ++ (if 0 < k + 1 ∧ r ≠ [] then [(((k + 1 : Nat) : Int) - 1, ((k + 1 : Nat) : Int))] else []) ++ cT ((k + 1 : Nat) : Int) (fr + (l : Nat)) r = ts ++ (if 0 < k ∧ (l :: r) ≠ [] then [((k : Int) - 1, (k : Int))] else []) ++ cT k fr (l :: r) := by
        rw [if_pos (show 0 < k ∧ (l :: r) ≠ [] from ⟨k0, by simp⟩)]
        conv => rhs; unfold cT
        by_cases hr : r = []
        · subst hr; simp [cT]
        · rw [if_pos ⟨by omega, hr⟩, if_neg hr]
          simp only [List.append_assoc, List.cons_append, List.nil_append]
          rw [show (((k + 1 : Nat) : Int) - 1) = k by omega]
          rfl
      rw [eT, show fr + (l : Nat) + (r.sum : Nat) = fr + ((l :: r).sum : Nat) by rw [List.sum_cons]; omega] at e2
      have hb2 : ts.length ≤ 1000 := by omega
      have hl : l ≤ 1000000 := by omega
      have e0 : s__law_spine_ties_2 [some (.lst (nD (iL legs)), .fz), some (.lst (tD ts), .ow), some (.int fr, .fz), some (.int (k : Nat), .fz), c] = some (.nx, [some (.lst (nD (iL legs)), .fz), some (.lst (tD (ts ++ [((k : Int) - 1, (k : Int))] ++ (rgI fr l).map (fun x => ((k : Int), x)))), .ow), some (.int (fr + (l : Nat)), .fz), some (.int (k : Nat), .fz), c1]) := by
        unfold s__law_spine_ties_2
        (apply Eq.trans; apply r_seq; apply r_ifT; apply r_opT; apply r_borA; exact rfl; apply r_exA; apply r_c; apply r_nilA; exact rfl; exact rfl; exact decide_eq_true (by omega); apply r_expr; apply r_methO; exact rfl; apply r_exM; apply r_tup; apply r_exM; apply r_op; apply r_borA; exact rfl; apply r_exA; apply r_c; apply r_nilA; exact rfl; exact rfl; apply r_exM; apply r_varF; exact rfl; apply r_nilM; apply r_nilM; exact rfl; apply uAppendT; (with_reducible assumption); exact rfl; apply r_for; apply r_rng1N; apply r_exA; apply r_op; apply r_borA; exact rfl; apply r_borA; exact rfl; apply r_nilA; exact rfl; exact rfl; exact ix; apply r_nilA; exact hl; exact e1; exact rfl)
      (apply Eq.trans; apply r_loopC; (simp only [asgT, asgTs, tieD, List.getElem?_cons_zero, List.getElem?_cons_succ, List.set_cons_zero, List.set_cons_succ, List.replicate, List.cons_append, List.nil_append, Nat.zero_add]; exact rfl); exact e0; exact e2; exact rfl)
    · obtain ⟨c1, e1⟩ := spine_in (k := k) (l := l) (fr := fr) (ts := ts) (L := some (.lst (nD (iL legs)), .fz)) (c := c) (by omega)
      obtain ⟨a', c', e2⟩ := spine_out legs r (k + 1) (fr + (l : Nat)) (ts ++ (rgI fr l).map (fun x => ((k : Int), x))) (some (.int (k : Nat), .fz)) c1 h2 (by simp [rgI_len]; omega)
      refine ⟨a', c', ?_⟩
      have eT : ts ++ (rgI fr l).map (fun x => ((k : Int), x)) ++ (if 0 < k + 1 ∧ r ≠ [] then [(((k + 1 : Nat) : Int) - 1, ((k + 1 : Nat) : Int))] else []) ++ cT ((k + 1 : Nat) : Int) (fr + (l : Nat)) r = ts ++ (if 0 < k ∧ (l :: r) ≠ [] then [((k : Int) - 1, (k : Int))] else []) ++ cT k fr (l :: r) := by
        rw [if_neg (show ¬ (0 < k ∧ (l :: r) ≠ []) from fun z => k0 z.1)]
        conv => rhs; unfold cT
        by_cases hr : r = []
        · subst hr; simp [cT]
        · rw [if_pos ⟨by omega, hr⟩, if_neg hr]
          simp only [List.append_assoc, List.cons_append, List.nil_append]
          rw [show (((k + 1 : Nat) : Int) - 1) = k by omega]
          rfl
      rw [eT, show fr + (l : Nat) + (r.sum : Nat) = fr + ((l :: r).sum : Nat) by rw [List.sum_cons]; omega] at e2
      have hl : l ≤ 1000000 := by omega
      have e0 : s__law_spine_ties_2 [some (.lst (nD (iL legs)), .fz), some (.lst (tD ts), .ow), some (.int fr, .fz), some (.int (k : Nat), .fz), c] = some (.nx, [some (.lst (nD (iL legs)), .fz), some (.lst (tD (ts ++ (rgI fr l).map (fun x => ((k : Int), x)))), .ow), some (.int (fr + (l : Nat)), .fz), some (.int (k : Nat), .fz), c1]) := by
        unfold s__law_spine_ties_2
        (apply Eq.trans; apply r_seq; apply r_ifF; apply r_opT; apply r_borA; exact rfl; apply r_exA; apply r_c; apply r_nilA; exact rfl; exact rfl; exact decide_eq_false (by omega); apply r_nil; apply r_for; apply r_rng1N; apply r_exA; apply r_op; apply r_borA; exact rfl; apply r_borA; exact rfl; apply r_nilA; exact rfl; exact rfl; exact ix; apply r_nilA; exact hl; exact e1; exact rfl)
      (apply Eq.trans; apply r_loopC; (simp only [asgT, asgTs, tieD, List.getElem?_cons_zero, List.getElem?_cons_succ, List.set_cons_zero, List.set_cons_succ, List.replicate, List.cons_append, List.nil_append, Nat.zero_add]; exact rfl); exact e0; exact e2; exact rfl)
theorem t_spine {legs : List Nat} (hb : legs.length + legs.sum ≤ 1000) : f__law_spine_ties [.lst (nD (iL legs))] = some (.ok (.tup [.int ((legs.length : Int) + (legs.sum : Nat)), .lst (tD (cT 0 (legs.length : Nat) legs))]) false, .non) := by
  obtain ⟨a', c', e⟩ := spine_out legs legs 0 (legs.length : Nat) [] none none rfl (by simpa using hb)
  have e0 : ([] : List (Int × Int)) ++ (if 0 < 0 ∧ legs ≠ [] then [(((0 : Nat) : Int) - 1, ((0 : Nat) : Int))] else []) ++ cT ((0 : Nat) : Int) (legs.length : Nat) legs = cT 0 (legs.length : Nat) legs := by
    rw [if_neg (fun z => absurd z.1 (by omega))]; rfl
  rw [e0] at e
  have e1 : sLoop (.nm 3) s__law_spine_ties_2 (nD (rgI 0 legs.length)) [some (.lst (nD (iL legs)), .fz), some (.lst [], .ow), some (.int (legs.length : Nat), .fz), none, none] = some (.nx, [some (.lst (nD (iL legs)), .fz), some (.lst (tD (cT 0 (legs.length : Nat) legs)), .ow), some (.int ((legs.length : Int) + (legs.sum : Nat)), .fz), a', c']) := e
  have ln : gLen [.lst (nD (iL legs))] = some (.int (legs.length : Nat), false) := by rw [gLen_lstM, List.length_map]
  have hl : legs.length ≤ 1000000 := by omega
  unfold f__law_spine_ties s__law_spine_ties
  (apply Eq.trans; apply r_fn; exact rfl; apply r_seq; apply r_set; apply r_lst; apply r_nilM; exact rfl; exact rfl; apply r_seq; apply r_set; apply r_op; apply r_borA; exact rfl; apply r_nilA; exact rfl; exact ln; exact rfl; exact rfl; apply r_seq; apply r_for; apply r_rng1N; apply r_exA; apply r_op; apply r_borA; exact rfl; apply r_nilA; exact rfl; exact ln; apply r_nilA; exact hl; exact e1; apply r_ret; apply r_tup; apply r_exM; apply r_varF; exact rfl; apply r_exM; apply r_varO; exact rfl; exact rfl; apply r_nilM; exact rfl; exact rfl; exact rfl)
end K41
namespace K41
open PySem L2
theorem sLoop_rngX {T : Tg} {f : SS} (I : Nat → Rho → Prop) (J : Rho → Prop) (n : Nat) (ρ : Rho) (h0 : I 0 ρ) (hs : ∀ i, i < n → ∀ ρ, I i ρ → ∃ ρ1 ρ2, asgT T (.int (i : Nat)) ρ = some ρ1 ∧ f ρ1 = some (.nx, ρ2) ∧ I (i + 1) ρ2)
    (hl : ∀ ρ, I n ρ → ∃ ρ1 ρ2, asgT T (.int (n : Nat)) ρ = some ρ1 ∧ f ρ1 = some (.nx, ρ2) ∧ J ρ2) : ∃ ρ', sLoop T f (nD (rgI 0 (n + 1))) ρ = some (.nx, ρ') ∧ J ρ' := by
  obtain ⟨ρ', e, h⟩ := sLoop_rng0 (T := T) (f := f) (fun i ρ => (i ≤ n ∧ I i ρ) ∨ (i = n + 1 ∧ J ρ)) (n + 1) ρ (.inl ⟨by omega, h0⟩) fun i hi ρ hI => by
    rcases hI with ⟨h1, h2⟩ | ⟨h1, h2⟩
    · by_cases hn : i < n
      · obtain ⟨ρ1, ρ2, e1, e2, h3⟩ := hs i hn ρ h2
        exact ⟨ρ1, ρ2, e1, e2, .inl ⟨by omega, h3⟩⟩
      · obtain rfl : i = n := by omega
        obtain ⟨ρ1, ρ2, e1, e2, h3⟩ := hl ρ h2
        exact ⟨ρ1, ρ2, e1, e2, .inr ⟨rfl, h3⟩⟩
    · omega
  rcases h with ⟨h1, h2⟩ | ⟨h1, h2⟩
  · omega
  · exact ⟨ρ', e, h2⟩
section
variable {legs : List Nat} {k l : Nat} {lo hi : Int} {sp lv : List Int} {q c : Option (D × Md)}
abbrev I_in_t (legs : List Nat) (k : Nat) (lo hi : Int) (sp lv : List Int) (q : Option (D × Md)) : Nat → Rho → Prop := fun i ρ => ∃ c, ρ = [some (.lst (nD (iL legs)), .fz), q, some (.lst [.int lo, .int (hi - (i : Nat))], .ow), some (.lst (nD sp), .ow), some (.lst (nD (lv ++ dnI hi i)), .ow), some (.int (k : Nat), .fz), some (.int 1, .fz), c]
theorem st_in_t (hx : gIx [.lst (nD (iL legs)), .int (k : Nat)] = some (.int (l : Nat), false)) (h : lv.length + l ≤ 1000) : ∀ i, i < l → ∀ ρ, I_in_t legs k lo hi sp lv q i ρ → ∃ ρ1 ρ2, asgT (.nm 7) (.int (i : Nat)) ρ = some ρ1 ∧ s__law_parted_by_1 ρ1 = some (.nx, ρ2) ∧ I_in_t legs k lo hi sp lv q (i + 1) ρ2 := by
  rintro i hi' ρ ⟨c, rfl⟩
  have hb : (lv ++ dnI hi i).length ≤ 1000 := by rw [List.length_append, dnI_len]; omega
  unfold s__law_parted_by_1
  (apply lp_mk; (simp only [asgT, asgTs, tieD, List.getElem?_cons_zero, List.getElem?_cons_succ, List.set_cons_zero, List.set_cons_succ, List.replicate, List.cons_append, List.nil_append, Nat.zero_add]; exact rfl); apply r_seq; apply r_ifF; apply r_opT; apply r_borA; exact rfl; apply r_exA; apply r_op; apply r_borA; exact rfl; apply r_borA; exact rfl; apply r_nilA; exact rfl; exact rfl; exact hx; apply r_nilA; exact rfl; apply gEq_int _ _; exact decide_eq_false (by omega); apply r_expr; apply r_methO; exact rfl; apply r_exM; apply r_op; apply r_borA; exact rfl; apply r_borA; exact rfl; apply r_nilA; exact rfl; exact rfl; apply gIx_lst; exact rfl; apply r_nilM; exact rfl; apply uAppendI; (with_reducible assumption); exact rfl; apply r_itemO; apply r_op; apply r_exA; apply r_op; apply r_exA; apply r_op; apply r_borA; exact rfl; apply r_borA; exact rfl; apply r_nilA; exact rfl; exact rfl; apply gIx_lst; exact rfl; apply r_exA; apply r_c; apply r_nilA; exact rfl; apply r_exA; apply r_op; apply r_exA; apply r_c; apply r_borA; exact rfl; apply r_nilA; exact rfl; apply gMul_l; omega; omega; apply r_nilA; exact rfl; exact rfl; apply r_varF; exact rfl; exact rfl; exact rfl; exact rfl)
  unfold I_in_t
  rw [dnI_succ, ← List.append_assoc, show hi - ((i + 1 : Nat) : Int) = hi - (i : Nat) + 1 - 2 * 1 by omega]
  exact ⟨_, rfl⟩
theorem in_t (hx : gIx [.lst (nD (iL legs)), .int (k : Nat)] = some (.int (l : Nat), false)) (h : lv.length + l ≤ 1000) : ∃ c', sLoop (.nm 7) s__law_parted_by_1 (nD (rgI 0 l)) [some (.lst (nD (iL legs)), .fz), q, some (.lst [.int lo, .int hi], .ow), some (.lst (nD sp), .ow), some (.lst (nD lv), .ow), some (.int (k : Nat), .fz), some (.int 1, .fz), c] = some (.nx, [some (.lst (nD (iL legs)), .fz), q, some (.lst [.int lo, .int (hi - (l : Nat))], .ow), some (.lst (nD sp), .ow), some (.lst (nD (lv ++ dnI hi l)), .ow), some (.int (k : Nat), .fz), some (.int 1, .fz), c']) := by
  obtain ⟨ρ', e, c', rfl⟩ := sLoop_rng0 (T := .nm 7) (f := s__law_parted_by_1) (I_in_t legs k lo hi sp lv q) l [some (.lst (nD (iL legs)), .fz), q, some (.lst [.int lo, .int hi], .ow), some (.lst (nD sp), .ow), some (.lst (nD lv), .ow), some (.int (k : Nat), .fz), some (.int 1, .fz), c] ⟨c, by simp [dnI]⟩ (st_in_t hx h)
  exact ⟨c', e⟩
abbrev I_in_f (legs : List Nat) (k : Nat) (lo hi : Int) (sp lv : List Int) (q : Option (D × Md)) : Nat → Rho → Prop := fun i ρ => ∃ c, ρ = [some (.lst (nD (iL legs)), .fz), q, some (.lst [.int (lo + (i : Nat)), .int hi], .ow), some (.lst (nD sp), .ow), some (.lst (nD (lv ++ rgI lo i)), .ow), some (.int (k : Nat), .fz), some (.int 0, .fz), c]
theorem st_in_f (hx : gIx [.lst (nD (iL legs)), .int (k : Nat)] = some (.int (l : Nat), false)) (h : lv.length + l ≤ 1000) : ∀ i, i < l → ∀ ρ, I_in_f legs k lo hi sp lv q i ρ → ∃ ρ1 ρ2, asgT (.nm 7) (.int (i : Nat)) ρ = some ρ1 ∧ s__law_parted_by_1 ρ1 = some (.nx, ρ2) ∧ I_in_f legs k lo hi sp lv q (i + 1) ρ2 := by
  rintro i hi' ρ ⟨c, rfl⟩
  have hb : (lv ++ rgI lo i).length ≤ 1000 := by rw [List.length_append, rgI_len]; omega
  unfold s__law_parted_by_1
  (apply lp_mk; (simp only [asgT, asgTs, tieD, List.getElem?_cons_zero, List.getElem?_cons_succ, List.set_cons_zero, List.set_cons_succ, List.replicate, List.cons_append, List.nil_append, Nat.zero_add]; exact rfl); apply r_seq; apply r_ifF; apply r_opT; apply r_borA; exact rfl; apply r_exA; apply r_op; apply r_borA; exact rfl; apply r_borA; exact rfl; apply r_nilA; exact rfl; exact rfl; exact hx; apply r_nilA; exact rfl; apply gEq_int _ _; exact decide_eq_false (by omega); apply r_expr; apply r_methO; exact rfl; apply r_exM; apply r_op; apply r_borA; exact rfl; apply r_borA; exact rfl; apply r_nilA; exact rfl; exact rfl; apply gIx_lst; exact rfl; apply r_nilM; exact rfl; apply uAppendI; (with_reducible assumption); exact rfl; apply r_itemO; apply r_op; apply r_exA; apply r_op; apply r_exA; apply r_op; apply r_borA; exact rfl; apply r_borA; exact rfl; apply r_nilA; exact rfl; exact rfl; apply gIx_lst; exact rfl; apply r_exA; apply r_c; apply r_nilA; exact rfl; apply r_exA; apply r_op; apply r_exA; apply r_c; apply r_borA; exact rfl; apply r_nilA; exact rfl; apply gMul_l; omega; omega; apply r_nilA; exact rfl; exact rfl; apply r_varF; exact rfl; exact rfl; exact rfl; exact rfl)
  unfold I_in_f
  rw [rgI_succ, ← List.append_assoc, show lo + ((i + 1 : Nat) : Int) = lo + (i : Nat) + 1 - 2 * 0 by omega]
  exact ⟨_, rfl⟩
theorem in_f (hx : gIx [.lst (nD (iL legs)), .int (k : Nat)] = some (.int (l : Nat), false)) (h : lv.length + l ≤ 1000) : ∃ c', sLoop (.nm 7) s__law_parted_by_1 (nD (rgI 0 l)) [some (.lst (nD (iL legs)), .fz), q, some (.lst [.int lo, .int hi], .ow), some (.lst (nD sp), .ow), some (.lst (nD lv), .ow), some (.int (k : Nat), .fz), some (.int 0, .fz), c] = some (.nx, [some (.lst (nD (iL legs)), .fz), q, some (.lst [.int (lo + (l : Nat)), .int hi], .ow), some (.lst (nD sp), .ow), some (.lst (nD (lv ++ rgI lo l)), .ow), some (.int (k : Nat), .fz), some (.int 0, .fz), c']) := by
  obtain ⟨ρ', e, c', rfl⟩ := sLoop_rng0 (T := .nm 7) (f := s__law_parted_by_1) (I_in_f legs k lo hi sp lv q) l [some (.lst (nD (iL legs)), .fz), q, some (.lst [.int lo, .int hi], .ow), some (.lst (nD sp), .ow), some (.lst (nD lv), .ow), some (.int (k : Nat), .fz), some (.int 0, .fz), c] ⟨c, by simp [rgI]⟩ (st_in_f hx h)
  exact ⟨c', e⟩
theorem in_t1 (hx : gIx [.lst (nD (iL legs)), .int (k : Nat)] = some (.int (l : Nat), false)) (h : lv.length + l ≤ 1000) (h2 : sp.length ≤ 1000) : ∃ c', sLoop (.nm 7) s__law_parted_by_1 (nD (rgI 0 (l + 1))) [some (.lst (nD (iL legs)), .fz), q, some (.lst [.int lo, .int hi], .ow), some (.lst (nD sp), .ow), some (.lst (nD lv), .ow), some (.int (k : Nat), .fz), some (.int 1, .fz), c] = some (.nx, [some (.lst (nD (iL legs)), .fz), q, some (.lst [.int lo, .int (hi - (l : Nat) - 1)], .ow), some (.lst (nD (sp ++ [hi - (l : Nat)])), .ow), some (.lst (nD (lv ++ dnI hi l)), .ow), some (.int (k : Nat), .fz), some (.int 1, .fz), c']) := by
  obtain ⟨ρ', e, c', rfl⟩ := sLoop_rngX (T := .nm 7) (f := s__law_parted_by_1) (I_in_t legs k lo hi sp lv q) (fun ρ => ∃ c, ρ = [some (.lst (nD (iL legs)), .fz), q, some (.lst [.int lo, .int (hi - (l : Nat) - 1)], .ow), some (.lst (nD (sp ++ [hi - (l : Nat)])), .ow), some (.lst (nD (lv ++ dnI hi l)), .ow), some (.int (k : Nat), .fz), some (.int 1, .fz), c]) l [some (.lst (nD (iL legs)), .fz), q, some (.lst [.int lo, .int hi], .ow), some (.lst (nD sp), .ow), some (.lst (nD lv), .ow), some (.int (k : Nat), .fz), some (.int 1, .fz), c] ⟨c, by simp [dnI]⟩ (st_in_t hx h) (by
    rintro ρ ⟨c, rfl⟩
    have hb : (lv ++ dnI hi l).length ≤ 1000 := by rw [List.length_append, dnI_len]; omega
    unfold s__law_parted_by_1
    (apply lp_mk; (simp only [asgT, asgTs, tieD, List.getElem?_cons_zero, List.getElem?_cons_succ, List.set_cons_zero, List.set_cons_succ, List.replicate, List.cons_append, List.nil_append, Nat.zero_add]; exact rfl); apply r_seq; apply r_ifT; apply r_opT; apply r_borA; exact rfl; apply r_exA; apply r_op; apply r_borA; exact rfl; apply r_borA; exact rfl; apply r_nilA; exact rfl; exact rfl; exact hx; apply r_nilA; exact rfl; apply gEq_int _ _; exact decide_eq_true (by omega); apply r_expr; apply r_methO; exact rfl; apply r_exM; apply r_op; apply r_borA; exact rfl; apply r_borA; exact rfl; apply r_nilA; exact rfl; exact rfl; apply gIx_lst; exact rfl; apply r_nilM; exact rfl; apply uAppendI; (with_reducible assumption); exact rfl; apply r_itemO; apply r_op; apply r_exA; apply r_op; apply r_exA; apply r_op; apply r_borA; exact rfl; apply r_borA; exact rfl; apply r_nilA; exact rfl; exact rfl; apply gIx_lst; exact rfl; apply r_exA; apply r_c; apply r_nilA; exact rfl; apply r_exA; apply r_op; apply r_exA; apply r_c; apply r_borA; exact rfl; apply r_nilA; exact rfl; apply gMul_l; omega; omega; apply r_nilA; exact rfl; exact rfl; apply r_varF; exact rfl; exact rfl; exact rfl; exact rfl)
    rw [show hi - (l : Nat) - 1 = hi - (l : Nat) + 1 - 2 * 1 by omega]
    exact ⟨_, rfl⟩)
  exact ⟨c', e⟩
theorem in_f1 (hx : gIx [.lst (nD (iL legs)), .int (k : Nat)] = some (.int (l : Nat), false)) (h : lv.length + l ≤ 1000) (h2 : sp.length ≤ 1000) : ∃ c', sLoop (.nm 7) s__law_parted_by_1 (nD (rgI 0 (l + 1))) [some (.lst (nD (iL legs)), .fz), q, some (.lst [.int lo, .int hi], .ow), some (.lst (nD sp), .ow), some (.lst (nD lv), .ow), some (.int (k : Nat), .fz), some (.int 0, .fz), c] = some (.nx, [some (.lst (nD (iL legs)), .fz), q, some (.lst [.int (lo + (l : Nat) + 1), .int hi], .ow), some (.lst (nD (sp ++ [lo + (l : Nat)])), .ow), some (.lst (nD (lv ++ rgI lo l)), .ow), some (.int (k : Nat), .fz), some (.int 0, .fz), c']) := by
  obtain ⟨ρ', e, c', rfl⟩ := sLoop_rngX (T := .nm 7) (f := s__law_parted_by_1) (I_in_f legs k lo hi sp lv q) (fun ρ => ∃ c, ρ = [some (.lst (nD (iL legs)), .fz), q, some (.lst [.int (lo + (l : Nat) + 1), .int hi], .ow), some (.lst (nD (sp ++ [lo + (l : Nat)])), .ow), some (.lst (nD (lv ++ rgI lo l)), .ow), some (.int (k : Nat), .fz), some (.int 0, .fz), c]) l [some (.lst (nD (iL legs)), .fz), q, some (.lst [.int lo, .int hi], .ow), some (.lst (nD sp), .ow), some (.lst (nD lv), .ow), some (.int (k : Nat), .fz), some (.int 0, .fz), c] ⟨c, by simp [rgI]⟩ (st_in_f hx h) (by
    rintro ρ ⟨c, rfl⟩
    have hb : (lv ++ rgI lo l).length ≤ 1000 := by rw [List.length_append, rgI_len]; omega
    unfold s__law_parted_by_1
    (apply lp_mk; (simp only [asgT, asgTs, tieD, List.getElem?_cons_zero, List.getElem?_cons_succ, List.set_cons_zero, List.set_cons_succ, List.replicate, List.cons_append, List.nil_append, Nat.zero_add]; exact rfl); apply r_seq; apply r_ifT; apply r_opT; apply r_borA; exact rfl; apply r_exA; apply r_op; apply r_borA; exact rfl; apply r_borA; exact rfl; apply r_nilA; exact rfl; exact rfl; exact hx; apply r_nilA; exact rfl; apply gEq_int _ _; exact decide_eq_true (by omega); apply r_expr; apply r_methO; exact rfl; apply r_exM; apply r_op; apply r_borA; exact rfl; apply r_borA; exact rfl; apply r_nilA; exact rfl; exact rfl; apply gIx_lst; exact rfl; apply r_nilM; exact rfl; apply uAppendI; (with_reducible assumption); exact rfl; apply r_itemO; apply r_op; apply r_exA; apply r_op; apply r_exA; apply r_op; apply r_borA; exact rfl; apply r_borA; exact rfl; apply r_nilA; exact rfl; exact rfl; apply gIx_lst; exact rfl; apply r_exA; apply r_c; apply r_nilA; exact rfl; apply r_exA; apply r_op; apply r_exA; apply r_c; apply r_borA; exact rfl; apply r_nilA; exact rfl; apply gMul_l; omega; omega; apply r_nilA; exact rfl; exact rfl; apply r_varF; exact rfl; exact rfl; exact rfl; exact rfl)
    rw [show lo + (l : Nat) + 1 - 2 * 0 = lo + (l : Nat) + 1 by omega]
    exact ⟨_, rfl⟩)
  exact ⟨c', e⟩
theorem part_out : ∀ (r : List Nat) (k : Nat) (b : Bool) (lo hi : Int) (sp lv : List Int) (x5 x6 x7 : Option (D × Md)), legs.drop k = r → (b = true ↔ k % 2 = 0) → sp.length + lv.length + r.length + r.sum ≤ 1000 → 0 < legs.length →
    ∃ lo' hi' x5' x6' x7', sLoop (.nm 5) s__law_parted_by_2 (nD (rgI (k : Nat) r.length)) [some (.lst (nD (iL legs)), .fz), q, some (.lst [.int lo, .int hi], .ow), some (.lst (nD sp), .ow), some (.lst (nD lv), .ow), x5, x6, x7] = some (.nx, [some (.lst (nD (iL legs)), .fz), q, some (.lst [.int lo', .int hi'], .ow), some (.lst (nD (sp ++ cS b lo hi r)), .ow), some (.lst (nD (lv ++ cL b lo hi r)), .ow), x5', x6', x7']) ∧ lo' - 1 = cP b lo hi r
  | [], k, b, lo, hi, sp, lv, x5, x6, x7, h, hb, hl, h0 => ⟨lo, hi, x5, x6, x7, by simp [cS, cL, rgI]; rfl, rfl⟩
  | l :: r, k, b, lo, hi, sp, lv, x5, x6, x7, h, hb, hl, h0 => by
    obtain ⟨h1, h2, h3⟩ := drop_at h
    have hx := ix_at h1
    rw [List.length_cons, List.sum_cons] at hl
    have lr : r.length = legs.length - (k + 1) := by rw [← h2, List.length_drop]
    have ln : gLen [.lst (nD (iL legs))] = some (.int (legs.length : Nat), false) := by rw [gLen_lstM, List.length_map]
    rw [List.length_cons, rg_next, nD, List.map_cons]
    have md : gMod [.int (k : Nat), .int 2] = some (.int ((k : Int) % 2), false) := gMod_eq (by omega)
    cases b with
    | true =>
      have hk : (k : Int) % 2 = 0 := by have := hb.mp rfl; omega
      have o1 : gMin1 [.int 1, .int ((k : Int) % 2)] = some (.int 1, false) := by rw [hk]; rfl
      by_cases hr : r = []
      · subst hr
        have hk2 : legs.length = k + 1 := by simp at lr; omega
        have lt : gLt [.int ((k : Nat) + 1), .int (legs.length : Nat)] = some (.bl false, false) := by
          show some (D.bl (decide ((k : Int) + 1 < (legs.length : Nat))), false) = _
          rw [decide_eq_false (by omega)]
        obtain ⟨c', e⟩ := in_t (lo := lo) (hi := hi) (sp := sp) (lv := lv) (q := q) (c := x7) hx (by omega)
        refine ⟨lo, hi - (l : Nat), some (.int (k : Nat), .fz), some (.int 1, .fz), c', ?_, rfl⟩
        have rg : gAdd [.int (l : Nat), .int (if false = true then 1 else 0)] = some (.int (l : Nat), false) := by
          show some (D.int ((l : Int) + 0), false) = _
          rw [Int.add_zero]
        have hl' : l ≤ 1000000 := by omega
        have e0 : s__law_parted_by_2 [some (.lst (nD (iL legs)), .fz), q, some (.lst [.int lo, .int hi], .ow), some (.lst (nD sp), .ow), some (.lst (nD lv), .ow), some (.int (k : Nat), .fz), x6, x7] = some (.nx, [some (.lst (nD (iL legs)), .fz), q, some (.lst [.int lo, .int (hi - (l : Nat))], .ow), some (.lst (nD sp), .ow), some (.lst (nD (lv ++ dnI hi l)), .ow), some (.int (k : Nat), .fz), some (.int 1, .fz), c']) := by
          unfold s__law_parted_by_2
          (apply Eq.trans; apply r_seq; apply r_set; apply r_op; apply r_exA; apply r_c; apply r_exA; apply r_op; apply r_borA; exact rfl; apply r_exA; apply r_c; apply r_nilA; exact rfl; exact md; apply r_nilA; exact o1; exact rfl; exact rfl; apply r_for; apply r_rng1N; apply r_exA; apply r_op; apply r_exA; apply r_op; apply r_borA; exact rfl; apply r_borA; exact rfl; apply r_nilA; exact rfl; exact rfl; exact hx; apply r_exA; apply r_op; apply r_exA; apply r_op; apply r_exA; apply r_op; apply r_borA; exact rfl; apply r_exA; apply r_c; apply r_nilA; exact rfl; exact rfl; apply r_exA; apply r_op; apply r_borA; exact rfl; apply r_nilA; exact rfl; exact ln; apply r_nilA; exact lt; apply r_nilA; exact rfl; apply r_nilA; exact rg; apply r_nilA; exact hl'; exact e; exact rfl)
        have e2 : cS true lo hi [l] = [] := rfl
        have e3 : cL true lo hi [l] = dnI hi l := by show dnI hi l ++ [] = _; rw [List.append_nil]
        rw [e2, e3, List.append_nil]
        show sLoop (.nm 5) s__law_parted_by_2 [.int (k : Nat)] _ = _
        (apply Eq.trans; apply r_loopC; (simp only [asgT, asgTs, tieD, List.getElem?_cons_zero, List.getElem?_cons_succ, List.set_cons_zero, List.set_cons_succ, List.replicate, List.cons_append, List.nil_append, Nat.zero_add]; exact rfl); exact e0; apply r_loopN; exact rfl)
      · have hlt : k + 1 < legs.length := by have := List.length_pos_iff.mpr hr; omega
        have lt : gLt [.int ((k : Nat) + 1), .int (legs.length : Nat)] = some (.bl true, false) := by
          show some (D.bl (decide ((k : Int) + 1 < (legs.length : Nat))), false) = _
          rw [decide_eq_true (by omega)]
        obtain ⟨c', e⟩ := in_t1 (lo := lo) (hi := hi) (sp := sp) (lv := lv) (q := q) (c := x7) hx (by omega) (by omega)
        have rg : gAdd [.int (l : Nat), .int (if true = true then 1 else 0)] = some (.int ((l + 1 : Nat) : Int), false) := rfl
        have hl' : l + 1 ≤ 1000000 := by omega
        have e0 : s__law_parted_by_2 [some (.lst (nD (iL legs)), .fz), q, some (.lst [.int lo, .int hi], .ow), some (.lst (nD sp), .ow), some (.lst (nD lv), .ow), some (.int (k : Nat), .fz), x6, x7] = some (.nx, [some (.lst (nD (iL legs)), .fz), q, some (.lst [.int lo, .int (hi - (l : Nat) - 1)], .ow), some (.lst (nD (sp ++ [hi - (l : Nat)])), .ow), some (.lst (nD (lv ++ dnI hi l)), .ow), some (.int (k : Nat), .fz), some (.int 1, .fz), c']) := by
          unfold s__law_parted_by_2
          (apply Eq.trans; apply r_seq; apply r_set; apply r_op; apply r_exA; apply r_c; apply r_exA; apply r_op; apply r_borA; exact rfl; apply r_exA; apply r_c; apply r_nilA; exact rfl; exact md; apply r_nilA; exact o1; exact rfl; exact rfl; apply r_for; apply r_rng1N; apply r_exA; apply r_op; apply r_exA; apply r_op; apply r_borA; exact rfl; apply r_borA; exact rfl; apply r_nilA; exact rfl; exact rfl; exact hx; apply r_exA; apply r_op; apply r_exA; apply r_op; apply r_exA; apply r_op; apply r_borA; exact rfl; apply r_exA; apply r_c; apply r_nilA; exact rfl; exact rfl; apply r_exA; apply r_op; apply r_borA; exact rfl; apply r_nilA; exact rfl; exact ln; apply r_nilA; exact lt; apply r_nilA; exact rfl; apply r_nilA; exact rg; apply r_nilA; exact hl'; exact e; exact rfl)
        obtain ⟨lo', hi', y5, y6, y7, e2, hp⟩ := part_out r (k + 1) false lo (hi - (l : Nat) - 1) (sp ++ [hi - (l : Nat)]) (lv ++ dnI hi l) (some (.int (k : Nat), .fz)) (some (.int 1, .fz)) c' h2 (by constructor <;> intro z <;> first | cases z | omega) (by simp [dnI_len]; omega) h0
        refine ⟨lo', hi', y5, y6, y7, ?_, ?_⟩
        · have e3 : cS true lo hi (l :: r) = (hi - (l : Nat)) :: cS false lo (hi - (l : Nat) - 1) r := by rw [cS, if_neg hr]; rfl
          have e4 : cL true lo hi (l :: r) = dnI hi l ++ cL false lo (hi - (l : Nat) - 1) r := rfl
          rw [e3, e4, show sp ++ (hi - (l : Nat)) :: cS false lo (hi - (l : Nat) - 1) r = sp ++ [hi - (l : Nat)] ++ cS false lo (hi - (l : Nat) - 1) r by simp, ← List.append_assoc]
          (apply Eq.trans; apply r_loopC; (simp only [asgT, asgTs, tieD, List.getElem?_cons_zero, List.getElem?_cons_succ, List.set_cons_zero, List.set_cons_succ, List.replicate, List.cons_append, List.nil_append, Nat.zero_add]; exact rfl); exact e0; exact e2; exact rfl)
        · rw [hp, show cP true lo hi (l :: r) = cP false lo (hi - (l : Nat) - 1) r by rw [cP, if_neg hr]; rfl]
    | false =>
      have hk : (k : Int) % 2 = 1 := by
        have : ¬ k % 2 = 0 := fun z => by have := hb.mpr z; cases this
        omega
      have o1 : gMin1 [.int 1, .int ((k : Int) % 2)] = some (.int 0, false) := by rw [hk]; rfl
      by_cases hr : r = []
      · subst hr
        have hk2 : legs.length = k + 1 := by simp at lr; omega
        have lt : gLt [.int ((k : Nat) + 1), .int (legs.length : Nat)] = some (.bl false, false) := by
          show some (D.bl (decide ((k : Int) + 1 < (legs.length : Nat))), false) = _
          rw [decide_eq_false (by omega)]
        obtain ⟨c', e⟩ := in_f (lo := lo) (hi := hi) (sp := sp) (lv := lv) (q := q) (c := x7) hx (by omega)
        refine ⟨lo + (l : Nat), hi, some (.int (k : Nat), .fz), some (.int 0, .fz), c', ?_, rfl⟩
        have rg : gAdd [.int (l : Nat), .int (if false = true then 1 else 0)] = some (.int (l : Nat), false) := by
          show some (D.int ((l : Int) + 0), false) = _
          rw [Int.add_zero]
        have hl' : l ≤ 1000000 := by omega
        have e0 : s__law_parted_by_2 [some (.lst (nD (iL legs)), .fz), q, some (.lst [.int lo, .int hi], .ow), some (.lst (nD sp), .ow), some (.lst (nD lv), .ow), some (.int (k : Nat), .fz), x6, x7] = some (.nx, [some (.lst (nD (iL legs)), .fz), q, some (.lst [.int (lo + (l : Nat)), .int hi], .ow), some (.lst (nD sp), .ow), some (.lst (nD (lv ++ rgI lo l)), .ow), some (.int (k : Nat), .fz), some (.int 0, .fz), c']) := by
          unfold s__law_parted_by_2
          (apply Eq.trans; apply r_seq; apply r_set; apply r_op; apply r_exA; apply r_c; apply r_exA; apply r_op; apply r_borA; exact rfl; apply r_exA; apply r_c; apply r_nilA; exact rfl; exact md; apply r_nilA; exact o1; exact rfl; exact rfl; apply r_for; apply r_rng1N; apply r_exA; apply r_op; apply r_exA; apply r_op; apply r_borA; exact rfl; apply r_borA; exact rfl; apply r_nilA; exact rfl; exact rfl; exact hx; apply r_exA; apply r_op; apply r_exA; apply r_op; apply r_exA; apply r_op; apply r_borA; exact rfl; apply r_exA; apply r_c; apply r_nilA; exact rfl; exact rfl; apply r_exA; apply r_op; apply r_borA; exact rfl; apply r_nilA; exact rfl; exact ln; apply r_nilA; exact lt; apply r_nilA; exact rfl; apply r_nilA; exact rg; apply r_nilA; exact hl'; exact e; exact rfl)
        have e2 : cS false lo hi [l] = [] := rfl
        have e3 : cL false lo hi [l] = rgI lo l := by show rgI lo l ++ [] = _; rw [List.append_nil]
        rw [e2, e3, List.append_nil]
        show sLoop (.nm 5) s__law_parted_by_2 [.int (k : Nat)] _ = _
        (apply Eq.trans; apply r_loopC; (simp only [asgT, asgTs, tieD, List.getElem?_cons_zero, List.getElem?_cons_succ, List.set_cons_zero, List.set_cons_succ, List.replicate, List.cons_append, List.nil_append, Nat.zero_add]; exact rfl); exact e0; apply r_loopN; exact rfl)
      · have hlt : k + 1 < legs.length := by have := List.length_pos_iff.mpr hr; omega
        have lt : gLt [.int ((k : Nat) + 1), .int (legs.length : Nat)] = some (.bl true, false) := by
          show some (D.bl (decide ((k : Int) + 1 < (legs.length : Nat))), false) = _
          rw [decide_eq_true (by omega)]
        obtain ⟨c', e⟩ := in_f1 (lo := lo) (hi := hi) (sp := sp) (lv := lv) (q := q) (c := x7) hx (by omega) (by omega)
        have rg : gAdd [.int (l : Nat), .int (if true = true then 1 else 0)] = some (.int ((l + 1 : Nat) : Int), false) := rfl
        have hl' : l + 1 ≤ 1000000 := by omega
        have e0 : s__law_parted_by_2 [some (.lst (nD (iL legs)), .fz), q, some (.lst [.int lo, .int hi], .ow), some (.lst (nD sp), .ow), some (.lst (nD lv), .ow), some (.int (k : Nat), .fz), x6, x7] = some (.nx, [some (.lst (nD (iL legs)), .fz), q, some (.lst [.int (lo + (l : Nat) + 1), .int hi], .ow), some (.lst (nD (sp ++ [lo + (l : Nat)])), .ow), some (.lst (nD (lv ++ rgI lo l)), .ow), some (.int (k : Nat), .fz), some (.int 0, .fz), c']) := by
          unfold s__law_parted_by_2
          (apply Eq.trans; apply r_seq; apply r_set; apply r_op; apply r_exA; apply r_c; apply r_exA; apply r_op; apply r_borA; exact rfl; apply r_exA; apply r_c; apply r_nilA; exact rfl; exact md; apply r_nilA; exact o1; exact rfl; exact rfl; apply r_for; apply r_rng1N; apply r_exA; apply r_op; apply r_exA; apply r_op; apply r_borA; exact rfl; apply r_borA; exact rfl; apply r_nilA; exact rfl; exact rfl; exact hx; apply r_exA; apply r_op; apply r_exA; apply r_op; apply r_exA; apply r_op; apply r_borA; exact rfl; apply r_exA; apply r_c; apply r_nilA; exact rfl; exact rfl; apply r_exA; apply r_op; apply r_borA; exact rfl; apply r_nilA; exact rfl; exact ln; apply r_nilA; exact lt; apply r_nilA; exact rfl; apply r_nilA; exact rg; apply r_nilA; exact hl'; exact e; exact rfl)
        obtain ⟨lo', hi', y5, y6, y7, e2, hp⟩ := part_out r (k + 1) true (lo + (l : Nat) + 1) hi (sp ++ [lo + (l : Nat)]) (lv ++ rgI lo l) (some (.int (k : Nat), .fz)) (some (.int 0, .fz)) c' h2 (by constructor <;> intro z <;> first | rfl | omega) (by simp [rgI_len]; omega) h0
        refine ⟨lo', hi', y5, y6, y7, ?_, ?_⟩
        · have e3 : cS false lo hi (l :: r) = (lo + (l : Nat)) :: cS true (lo + (l : Nat) + 1) hi r := by rw [cS, if_neg hr]; rfl
          have e4 : cL false lo hi (l :: r) = rgI lo l ++ cL true (lo + (l : Nat) + 1) hi r := rfl
          rw [e3, e4, show sp ++ (lo + (l : Nat)) :: cS true (lo + (l : Nat) + 1) hi r = sp ++ [lo + (l : Nat)] ++ cS true (lo + (l : Nat) + 1) hi r by simp, ← List.append_assoc]
          (apply Eq.trans; apply r_loopC; (simp only [asgT, asgTs, tieD, List.getElem?_cons_zero, List.getElem?_cons_succ, List.set_cons_zero, List.set_cons_succ, List.replicate, List.cons_append, List.nil_append, Nat.zero_add]; exact rfl); exact e0; exact e2; exact rfl)
        · rw [hp, show cP false lo hi (l :: r) = cP true (lo + (l : Nat) + 1) hi r by rw [cP, if_neg hr]; rfl]
theorem sum_iL : ∀ legs : List Nat, (iL legs).sum = ((legs.sum : Nat) : Int)
  | [] => rfl
  | l :: r => by show ((l : Nat) : Int) + (iL r).sum = _; rw [sum_iL r, List.sum_cons]; omega
theorem t_part_by {legs : List Nat} (h0 : 0 < legs.length) (hb : legs.length + legs.sum ≤ 900) : f__law_parted_by [.lst (nD (iL legs))] = some (.ok (.tup [.tup (nD (cN legs)), .int (cP true 1 (rem legs : Nat) legs)]) false, .non) := by
  have hq : (legs.length : Int) + (legs.sum : Nat) - 1 = (rem legs : Nat) := by unfold rem; omega
  obtain ⟨lo', hi', x5, x6, x7, e, hp⟩ := part_out (legs := legs) (q := some (.int (rem legs : Nat), .fz)) legs 0 true 1 (rem legs : Nat) [0] [] none none none rfl (by simp) (by simp; omega) h0
  have e1 : sLoop (.nm 5) s__law_parted_by_2 (nD (rgI 0 legs.length)) [some (.lst (nD (iL legs)), .fz), some (.int (rem legs : Nat), .fz), some (.lst [.int 1, .int (rem legs : Nat)], .ow), some (.lst [.int 0], .ow), some (.lst [], .ow), none, none, none] = some (.nx, [some (.lst (nD (iL legs)), .fz), some (.int (rem legs : Nat), .fz), some (.lst [.int lo', .int hi'], .ow), some (.lst (nD (0 :: cS true 1 (rem legs : Nat) legs)), .ow), some (.lst (nD (cL true 1 (rem legs : Nat) legs)), .ow), x5, x6, x7]) := e
  have ln : gLen [.lst (nD (iL legs))] = some (.int (legs.length : Nat), false) := by rw [gLen_lstM, List.length_map]
  have sm : gSum [.lst (nD (iL legs))] = some (.int (legs.sum : Nat), false) := by rw [gSum_lstI, sum_iL]
  have mi : gMin1 [.int ((legs.length : Int) + (legs.sum : Nat)), .int 1] = some (.int (rem legs : Nat), false) := by show some (D.int (_ - 1), false) = _; rw [hq]
  have hl : legs.length ≤ 1000000 := by omega
  have s1 := cS_len legs true 1 (rem legs : Nat)
  have s2 := cL_len legs true 1 (rem legs : Nat)
  have ad : gAdd [.lst (nD (0 :: cS true 1 (rem legs : Nat) legs)), .lst (nD (cL true 1 (rem legs : Nat) legs))] = some (.lst (nD (cN legs)), true) := gAdd_lstM (by rw [List.length_cons]; omega)
  have us : uSetL (.lst [.int 0, .int (rem legs : Nat)]) (.int 0) (.int 1) = some (.lst [.int 1, .int (rem legs : Nat)]) := rfl
  rw [← hp]
  unfold f__law_parted_by s__law_parted_by
  (apply Eq.trans; apply r_fn; exact rfl; apply r_seq; apply r_set; apply r_op; apply r_exA; apply r_op; apply r_exA; apply r_op; apply r_borA; exact rfl; apply r_nilA; exact rfl; exact ln; apply r_exA; apply r_op; apply r_borA; exact rfl; apply r_nilA; exact rfl; exact sm; apply r_nilA; exact rfl; apply r_exA; apply r_c; apply r_nilA; exact mi; exact rfl; exact rfl; apply r_seq; apply r_set; apply r_lst; apply r_exM; apply r_c; apply r_exM; apply r_varF; exact rfl; apply r_nilM; exact rfl; exact rfl; apply r_seq; apply r_set; apply r_lst; apply r_exM; apply r_c; apply r_nilM; exact rfl; exact rfl; apply r_seq; apply r_set; apply r_lst; apply r_nilM; exact rfl; exact rfl; apply r_seq; apply r_itemO; apply r_c; exact rfl; apply r_c; exact rfl; exact us; exact rfl; apply r_seq; apply r_for; apply r_rng1N; apply r_exA; apply r_op; apply r_borA; exact rfl; apply r_nilA; exact rfl; exact ln; apply r_nilA; exact hl; exact e1; apply r_ret; apply r_tup; apply r_exM; apply r_op; apply r_exA; apply r_op; apply r_borA; exact rfl; apply r_borA; exact rfl; apply r_nilA; exact rfl; exact rfl; exact ad; apply r_nilA; exact rfl; apply r_exM; apply r_op; apply r_exA; apply r_op; apply r_borA; exact rfl; apply r_exA; apply r_c; apply r_nilA; exact rfl; apply gIx_lst; exact rfl; apply r_exA; apply r_c; apply r_nilA; exact rfl; apply r_nilM; exact rfl; exact rfl; exact rfl)
end
end K41
namespace K41
open PySem L2
structure LegOk (legs : List Nat) : Prop where
  n : 2 ≤ legs.length + legs.sum
  m : legs.length + legs.sum ≤ 40
  l : legs ≠ []
section
variable {legs : List Nat}
abbrev tsO (legs : List Nat) : List (Int × Int) := psort (cT 0 (legs.length : Nat) legs)
theorem tsO_len (h : LegOk legs) : (tsO legs).length = rem legs := by rw [(psort_perm _).length_eq, cT_len h.l]
theorem LegOk.q (h : LegOk legs) : rem legs + 1 = legs.length + legs.sum ∧ 0 < rem legs := by
  have := List.length_pos_iff.mpr h.l
  have := h.n
  unfold rem
  omega
theorem LegOk.W (h : LegOk legs) : Wb (rem legs + 1) (tsO legs) := by
  have q := h.q
  have m := h.m
  refine ⟨fun t ht => ?_, by rw [tsO_len h]; omega, by omega⟩
  have := (cat_prt q.2 h.l).r t ht
  omega
theorem LegOk.par (h : LegOk legs) : ∀ p : Nat, 0 < p → p < rem legs + 1 → ∃ t ∈ tsO legs, t.2 = p ∧ t.1 < t.2 := fun p h0 h1 => by
  have q := h.q
  have : (p : Int) ∈ (cT 0 (legs.length : Nat) legs).map Prod.snd := (cT_snd legs 0 _ h.l).mem_iff.mpr (by
    rw [List.mem_append, mem_rgI, mem_rgI]
    have := List.length_pos_iff.mpr h.l
    omega)
  obtain ⟨t, ht, e⟩ := List.mem_map.mp this
  exact ⟨t, (psort_perm _).mem_iff.mpr ht, e, (cT_fst legs 0 _ (by omega) t ht).2.2.1⟩
theorem main {ps : List Int} {P : Int} (h : LegOk legs) (R : Prt (tsO legs) (rem legs) ps P) :
    f_round_from [webD ((rem legs + 1 : Nat) : Int) (tsO legs), .tup (nD ps)] = some (.ok (.tup (nD (ps.map (upR (rem legs : Nat) P)))) false, .non) ∧
    f__law_round_good [webD ((rem legs + 1 : Nat) : Int) (tsO legs), .tup (nD (ps.map (upR (rem legs : Nat) P)))] = some (.ok (.bl true) false, .non) := by
  have q := h.q
  have tl := tsO_len h
  have ne : tsO legs ≠ [] := fun z => by rw [z] at tl; simp at tl; omega
  have G : Good (rem legs + 1) (tsO legs) ps := ⟨R.len, by unfold unlike; rw [tl]; exact R.unl, by rw [tl]; exact isort_rgI R.s⟩
  have r := t_round h.W G ne R.max R.min
  rw [tl] at r
  refine ⟨r, t_rgood h.W (by omega) h.par (by omega) (by rw [List.length_map, R.len]) (fun x hx => by rw [tl]; exact R.bnd x hx) (by rw [tl]; exact R.kinds) (by rw [tl]; exact R.sums)⟩
end
end K41
namespace K41
open PySem L2
theorem nats_of {m : Nat} : ∀ (ys : List D), (∀ y ∈ ys, ∃ n : Nat, n ≤ m ∧ y = .int (n : Nat)) → ∃ legs : List Nat, ys = nD (iL legs) ∧ legs.length = ys.length ∧ ∀ l ∈ legs, l ≤ m
  | [], _ => ⟨[], rfl, rfl, fun _ h => absurd h List.not_mem_nil⟩
  | y :: ys, h => by
    obtain ⟨n, hn, rfl⟩ := h _ List.mem_cons_self
    obtain ⟨legs, rfl, e, hl⟩ := nats_of ys fun y hy => h y (List.mem_cons_of_mem _ hy)
    exact ⟨n :: legs, rfl, by rw [List.length_cons, List.length_cons, e], fun l hl' => by
      rcases List.mem_cons.mp hl' with rfl | hl'
      · exact hn
      · exact hl l hl'⟩
theorem sum_le {m : Nat} : ∀ (legs : List Nat), (∀ l ∈ legs, l ≤ m) → legs.sum ≤ m * legs.length
  | [], _ => by simp
  | l :: r, h => by
    have := sum_le r fun x hx => h x (List.mem_cons_of_mem _ hx)
    have := h l List.mem_cons_self
    rw [List.sum_cons, List.length_cons, Nat.mul_add]
    omega
def Sh (ns : List Int) (ρ : Rho) : Prop := ∃ x1 x2 x3 x4 x5 x6 x7 x8 x9 x10 x11, ρ = [some (.klst (nD ns), .fz), x1, x2, x3, x4, x5, x6, x7, x8, x9, x10, x11]
def upL (q P x : Int) : Int := (if x > P then P + 1 + q - x else x) % q
theorem upL_eq (q P : Int) (ps : List Int) : ps.map (upL q P) = ps.map (upR q P) := by
  refine List.map_congr_left fun x _ => ?_
  unfold upL upR
  congr 1
  split <;> split <;> omega
theorem due_ok {ps : List Int} {P : Int} {n : Nat} (hl : ps.length ≤ 100) (hn : 0 < n) {ts : List (Int × Int)} (ht : ts.length = n) (x0 x1 x2 x3 x4 : Option (D × Md)) (x6 x7 x9 x11 : Option (D × Md)) : ∃ y, sLoop (.nm 11) s_law_1 (nD ps) [x0, x1, x2, x3, x4, some (.lst (tD ts), .fz), x6, x7, some (.int P, .fz), x9, some (.lst [], .ow), x11] = some (.nx, [x0, x1, x2, x3, x4, some (.lst (tD ts), .fz), x6, x7, some (.int P, .fz), x9, some (.lst (nD (ps.map (upL (n : Nat) P))), .ow), y]) := by
  obtain ⟨ρ', e, hll, y, rfl⟩ := sLoop_foldI (T := .nm 11) (f := s_law_1) (inj := D.int) (fun i (l : List Int) ρ => l.length = i ∧ ∃ y, ρ = [x0, x1, x2, x3, x4, some (.lst (tD ts), .fz), x6, x7, some (.int P, .fz), x9, some (.lst (nD l), .ow), y]) (fun l x => l ++ [upL (n : Nat) P x]) ps 0 [] [x0, x1, x2, x3, x4, some (.lst (tD ts), .fz), x6, x7, some (.int P, .fz), x9, some (.lst [], .ow), x11] ⟨rfl, x11, rfl⟩ (by
    rintro i x hx l ρ ⟨hll, y, rfl⟩
    have hi := (List.getElem?_eq_some_iff.mp hx).1
    have ln : gLen [.lst (tD ts)] = some (.int (n : Nat), false) := by rw [gLen_lstM, ht]
    unfold s_law_1 upL
    by_cases h : x > P
    · rw [if_pos h]
      (apply lp_mk; (simp only [asgT, asgTs, tieD, List.getElem?_cons_zero, List.getElem?_cons_succ, List.set_cons_zero, List.set_cons_succ, List.replicate, List.cons_append, List.nil_append, Nat.zero_add]; exact rfl); apply r_seq; apply r_ifT; apply r_opT; apply r_borA; exact rfl; apply r_borA; exact rfl; apply r_nilA; exact rfl; exact rfl; exact rfl; exact decide_eq_true (by omega); apply r_set; apply r_op; apply r_exA; apply r_op; apply r_exA; apply r_op; apply r_borA; exact rfl; apply r_exA; apply r_c; apply r_nilA; exact rfl; exact rfl; apply r_exA; apply r_op; apply r_borA; exact rfl; apply r_nilA; exact rfl; exact ln; apply r_nilA; exact rfl; apply r_borA; exact rfl; apply r_nilA; exact rfl; exact rfl; exact rfl; exact rfl; apply r_expr; apply r_methO; exact rfl; apply r_exM; apply r_op; apply r_borA; exact rfl; apply r_exA; apply r_op; apply r_borA; exact rfl; apply r_nilA; exact rfl; exact ln; apply r_nilA; exact rfl; apply gMod_eq; omega; apply r_nilM; exact rfl; apply uAppendI; omega; exact rfl)
      exact ⟨by rw [List.length_append]; simp; omega, _, rfl⟩
    · rw [if_neg h]
      (apply lp_mk; (simp only [asgT, asgTs, tieD, List.getElem?_cons_zero, List.getElem?_cons_succ, List.set_cons_zero, List.set_cons_succ, List.replicate, List.cons_append, List.nil_append, Nat.zero_add]; exact rfl); apply r_seq; apply r_ifF; apply r_opT; apply r_borA; exact rfl; apply r_borA; exact rfl; apply r_nilA; exact rfl; exact rfl; exact rfl; exact decide_eq_false (by omega); apply r_nil; apply r_expr; apply r_methO; exact rfl; apply r_exM; apply r_op; apply r_borA; exact rfl; apply r_exA; apply r_op; apply r_borA; exact rfl; apply r_nilA; exact rfl; exact ln; apply r_nilA; exact rfl; apply gMod_eq; omega; apply r_nilM; exact rfl; apply uAppendI; omega; exact rfl)
      exact ⟨by rw [List.length_append]; simp; omega, _, rfl⟩)
  refine ⟨y, ?_⟩
  have : ∀ (ps l : List Int), ps.foldl (fun l x => l ++ [upL (n : Nat) P x]) l = l ++ ps.map (upL (n : Nat) P) := by
    intro ps
    induction ps with
    | nil => intro l; simp
    | cons x ps ih => intro l; rw [List.foldl_cons, ih]; simp
  rw [this, List.nil_append] at e
  exact e
end K41
namespace K41
open PySem L2
theorem pick6 {d : Int} (h0 : 0 ≤ d) (h1 : d < 6) : ∃ n : Nat, n ≤ 3 ∧ gIx [.lst [.int 0, .int 0, .int 1, .int 2, .int 0, .int 3], .int d] = some (.int (n : Nat), false) := by
  obtain rfl | rfl | rfl | rfl | rfl | rfl : d = 0 ∨ d = 1 ∨ d = 2 ∨ d = 3 ∨ d = 4 ∨ d = 5 := by omega
  · exact ⟨0, by omega, rfl⟩
  · exact ⟨0, by omega, rfl⟩
  · exact ⟨1, by omega, rfl⟩
  · exact ⟨2, by omega, rfl⟩
  · exact ⟨0, by omega, rfl⟩
  · exact ⟨3, by omega, rfl⟩
theorem pickL {d : Int} (h0 : 0 ≤ d) (h1 : d < 6) : ∃ legs : List Nat, LegOk legs ∧ gIx [.lst [.lst (nD (List.replicate (40 : Int).toNat 0)), .lst [.int 39], .lst (nD (List.replicate (20 : Int).toNat 0 ++ [19])), .lst (nD (List.replicate (20 : Int).toNat 1)), .lst [.int 9, .int 9, .int 9, .int 9], .lst [.int 0, .int 0]], .int d] = some (.lst (nD (iL legs)), false) := by
  obtain rfl | rfl | rfl | rfl | rfl | rfl : d = 0 ∨ d = 1 ∨ d = 2 ∨ d = 3 ∨ d = 4 ∨ d = 5 := by omega
  · exact ⟨List.replicate 40 0, ⟨by decide, by decide, by decide⟩, rfl⟩
  · exact ⟨[39], ⟨by decide, by decide, by decide⟩, rfl⟩
  · exact ⟨List.replicate 20 0 ++ [19], ⟨by decide, by decide, by decide⟩, rfl⟩
  · exact ⟨List.replicate 20 1, ⟨by decide, by decide, by decide⟩, rfl⟩
  · exact ⟨[9, 9, 9, 9], ⟨by decide, by decide, by decide⟩, rfl⟩
  · exact ⟨[0, 0], ⟨by decide, by decide, by decide⟩, rfl⟩
theorem fin2 {ns : List Int} {x1 x2 x3 x4 x9 x10 x11 : Option (D × Md)} (legs : List Nat) (ps : List Int) (P : Int) (L0 : LegOk legs) (R : Prt (tsO legs) (rem legs) ps P) : EndsQ (s_law_t2 [some (.klst (nD ns), .fz), x1, x2, x3, x4, some (.lst (tD (cT 0 (legs.length : Nat) legs)), .fz), some (webD ((rem legs + 1 : Nat) : Int) (tsO legs), .fz), some (.tup (nD ps), .fz), some (.int P, .fz), x9, x10, x11]) (Sh ns) := by
  obtain ⟨m1, m2⟩ := main L0 R
  have q := L0.q
  have m := L0.m
  have pl := R.len
  obtain ⟨y, e⟩ := due_ok (ps := ps) (P := P) (n := rem legs) (by omega) q.2 (cT_len L0.l 0 (legs.length : Nat)) (some (.klst (nD ns), .fz)) x1 x2 x3 x4 (some (webD ((rem legs + 1 : Nat) : Int) (tsO legs), .fz)) (some (.tup (nD ps), .fz)) (some (.tup (nD (ps.map (upR (rem legs : Nat) P))), .fz)) x11
  rw [upL_eq] at e
  unfold s_law_t2
  (apply ex_seq; apply r_set; apply r_call; apply r_borA; exact rfl; apply r_borA; exact rfl; apply r_nilA; exact rfl; exact rfl; exact m1; exact rfl; exact rfl; exact rfl)
  (apply ex_seq; apply r_set; apply r_lst; apply r_nilM; exact rfl; exact rfl)
  (apply ex_seq; apply r_for; apply r_seqI; apply r_varF; exact rfl; exact rfl; exact e)
  (apply ex_one; apply r_ifF; apply r_orF; apply r_not; apply r_tru; apply r_exA; apply r_call; apply r_borA; exact rfl; apply r_borA; exact rfl; apply r_nilA; exact rfl; exact rfl; exact m2; exact rfl; apply r_nilA; exact rfl; exact rfl; apply r_opT; apply r_borA; exact rfl; apply r_exA; apply r_op; apply r_borA; exact rfl; apply r_nilA; exact rfl; exact rfl; apply r_nilA; exact rfl; apply gNe_tupI; (simp only [eq_self, decide_true, Bool.not_true]); apply r_nil)
  exact ⟨_, _, _, _, _, _, _, _, _, _, _, rfl⟩
theorem fin {ns : List Int} {c : Int} {x4 x5 x6 x7 x8 x9 x10 x11 : Option (D × Md)} (legs : List Nat) (P : Pn) (md : Md) (L0 : LegOk legs) (hm : md = .fz ∨ md = .ow) : EndsQ (s_law_t1 [some (.klst (nD ns), .fz), some (.int c, .fz), some (pD P, .ow), some (.lst (nD (iL legs)), md), x4, x5, x6, x7, x8, x9, x10, x11]) (Sh ns) := by
  have q := L0.q
  have m := L0.m
  have sp := t_spine (legs := legs) (by omega)
  rw [show (legs.length : Int) + (legs.sum : Nat) = ((rem legs + 1 : Nat) : Int) by omega] at sp
  have pb := t_part_by (legs := legs) (List.length_pos_iff.mpr L0.l) (by omega)
  have tl := tsO_len L0
  have cl := cT_len L0.l 0 (legs.length : Nat)
  have ln : gLen [.lst (tD (cT 0 (legs.length : Nat) legs))] = some (.int (rem legs : Nat), false) := by rw [gLen_lstM, cl]
  have pr := cat_prt q.2 L0.l
  have pl := pr.len
  have lt : (cT 0 (legs.length : Nat) legs).length < 64 := by omega
  unfold s_law_t1
  obtain rfl | rfl := hm
  · by_cases h2 : dr P 2 = 1
    · (apply ex_seq; apply r_asg; apply r_call; apply r_exA; apply r_varF; exact rfl; apply r_nilA; exact sp; exact rfl; (simp only [asgT, asgTs, tieD, List.getElem?_cons_zero, List.getElem?_cons_succ, List.set_cons_zero, List.set_cons_succ, List.replicate, List.cons_append, List.nil_append, Nat.zero_add]; exact rfl))
      (apply ex_seq; apply r_set; apply r_tup; apply r_exM; apply r_varF; exact rfl; apply r_exM; apply r_op; apply r_exA; apply r_op; apply r_borA; exact rfl; apply r_nilA; exact rfl; apply gSortB_tD; (with_reducible assumption); apply r_nilA; exact rfl; apply r_nilM; exact rfl; exact rfl)
      (apply ex_seq; apply r_asg; apply r_call; apply r_borA; exact rfl; apply r_nilA; exact rfl; exact pb; exact rfl; (simp only [asgT, asgTs, tieD, List.getElem?_cons_zero, List.getElem?_cons_succ, List.set_cons_zero, List.set_cons_succ, List.replicate, List.cons_append, List.nil_append, Nat.zero_add]; exact rfl))
      (apply ex_seq; apply r_ifT; apply r_opT; apply r_exA; apply r_callIo; apply r_borA; exact rfl; apply r_exA; apply r_c; apply r_nilA; exact rfl; apply tDraw; omega; omega; exact rfl; exact rfl; apply r_exA; apply r_c; apply r_nilA; apply gEq_int _ _; exact decide_eq_true (by omega); apply r_seq; apply r_set; apply r_op; apply r_exA; apply r_comp; apply r_seqI; apply r_varF; exact rfl; exact rfl; exact rfl; apply sCompL_ofI; intro x0 hx0; apply el_mk; (simp only [asgT, asgTs, tieD, List.getElem?_cons_zero, List.getElem?_cons_succ, List.set_cons_zero, List.set_cons_succ, List.replicate, List.cons_append, List.nil_append, Nat.zero_add]; exact rfl); apply r_op; apply r_exA; apply r_op; apply r_borA; exact rfl; apply r_nilA; exact rfl; exact ln; apply r_borA; exact rfl; apply r_nilA; exact rfl; exact rfl; exact rfl; exact rfl; apply r_nilA; exact rfl; exact rfl; exact rfl; apply r_set; apply r_op; apply r_exA; apply r_op; apply r_exA; apply r_op; apply r_borA; exact rfl; apply r_nilA; exact rfl; exact ln; apply r_exA; apply r_c; apply r_nilA; exact rfl; apply r_borA; exact rfl; apply r_nilA; exact rfl; exact rfl; exact rfl; exact rfl)
      exact fin2 legs _ _ L0 pr.mirror
    · (apply ex_seq; apply r_asg; apply r_call; apply r_exA; apply r_varF; exact rfl; apply r_nilA; exact sp; exact rfl; (simp only [asgT, asgTs, tieD, List.getElem?_cons_zero, List.getElem?_cons_succ, List.set_cons_zero, List.set_cons_succ, List.replicate, List.cons_append, List.nil_append, Nat.zero_add]; exact rfl))
      (apply ex_seq; apply r_set; apply r_tup; apply r_exM; apply r_varF; exact rfl; apply r_exM; apply r_op; apply r_exA; apply r_op; apply r_borA; exact rfl; apply r_nilA; exact rfl; apply gSortB_tD; (with_reducible assumption); apply r_nilA; exact rfl; apply r_nilM; exact rfl; exact rfl)
      (apply ex_seq; apply r_asg; apply r_call; apply r_borA; exact rfl; apply r_nilA; exact rfl; exact pb; exact rfl; (simp only [asgT, asgTs, tieD, List.getElem?_cons_zero, List.getElem?_cons_succ, List.set_cons_zero, List.set_cons_succ, List.replicate, List.cons_append, List.nil_append, Nat.zero_add]; exact rfl))
      (apply ex_seq; apply r_ifF; apply r_opT; apply r_exA; apply r_callIo; apply r_borA; exact rfl; apply r_exA; apply r_c; apply r_nilA; exact rfl; apply tDraw; omega; omega; exact rfl; exact rfl; apply r_exA; apply r_c; apply r_nilA; apply gEq_int _ _; exact decide_eq_false (by omega); apply r_nil)
      exact fin2 legs _ _ L0 pr
  · by_cases h2 : dr P 2 = 1
    · (apply ex_seq; apply r_asg; apply r_call; apply r_exA; apply r_varO; exact rfl; exact rfl; apply r_nilA; exact sp; exact rfl; (simp only [asgT, asgTs, tieD, List.getElem?_cons_zero, List.getElem?_cons_succ, List.set_cons_zero, List.set_cons_succ, List.replicate, List.cons_append, List.nil_append, Nat.zero_add]; exact rfl))
      (apply ex_seq; apply r_set; apply r_tup; apply r_exM; apply r_varF; exact rfl; apply r_exM; apply r_op; apply r_exA; apply r_op; apply r_borA; exact rfl; apply r_nilA; exact rfl; apply gSortB_tD; (with_reducible assumption); apply r_nilA; exact rfl; apply r_nilM; exact rfl; exact rfl)
      (apply ex_seq; apply r_asg; apply r_call; apply r_borA; exact rfl; apply r_nilA; exact rfl; exact pb; exact rfl; (simp only [asgT, asgTs, tieD, List.getElem?_cons_zero, List.getElem?_cons_succ, List.set_cons_zero, List.set_cons_succ, List.replicate, List.cons_append, List.nil_append, Nat.zero_add]; exact rfl))
      (apply ex_seq; apply r_ifT; apply r_opT; apply r_exA; apply r_callIo; apply r_borA; exact rfl; apply r_exA; apply r_c; apply r_nilA; exact rfl; apply tDraw; omega; omega; exact rfl; exact rfl; apply r_exA; apply r_c; apply r_nilA; apply gEq_int _ _; exact decide_eq_true (by omega); apply r_seq; apply r_set; apply r_op; apply r_exA; apply r_comp; apply r_seqI; apply r_varF; exact rfl; exact rfl; exact rfl; apply sCompL_ofI; intro x0 hx0; apply el_mk; (simp only [asgT, asgTs, tieD, List.getElem?_cons_zero, List.getElem?_cons_succ, List.set_cons_zero, List.set_cons_succ, List.replicate, List.cons_append, List.nil_append, Nat.zero_add]; exact rfl); apply r_op; apply r_exA; apply r_op; apply r_borA; exact rfl; apply r_nilA; exact rfl; exact ln; apply r_borA; exact rfl; apply r_nilA; exact rfl; exact rfl; exact rfl; exact rfl; apply r_nilA; exact rfl; exact rfl; exact rfl; apply r_set; apply r_op; apply r_exA; apply r_op; apply r_exA; apply r_op; apply r_borA; exact rfl; apply r_nilA; exact rfl; exact ln; apply r_exA; apply r_c; apply r_nilA; exact rfl; apply r_borA; exact rfl; apply r_nilA; exact rfl; exact rfl; exact rfl; exact rfl)
      exact fin2 legs _ _ L0 pr.mirror
    · (apply ex_seq; apply r_asg; apply r_call; apply r_exA; apply r_varO; exact rfl; exact rfl; apply r_nilA; exact sp; exact rfl; (simp only [asgT, asgTs, tieD, List.getElem?_cons_zero, List.getElem?_cons_succ, List.set_cons_zero, List.set_cons_succ, List.replicate, List.cons_append, List.nil_append, Nat.zero_add]; exact rfl))
      (apply ex_seq; apply r_set; apply r_tup; apply r_exM; apply r_varF; exact rfl; apply r_exM; apply r_op; apply r_exA; apply r_op; apply r_borA; exact rfl; apply r_nilA; exact rfl; apply gSortB_tD; (with_reducible assumption); apply r_nilA; exact rfl; apply r_nilM; exact rfl; exact rfl)
      (apply ex_seq; apply r_asg; apply r_call; apply r_borA; exact rfl; apply r_nilA; exact rfl; exact pb; exact rfl; (simp only [asgT, asgTs, tieD, List.getElem?_cons_zero, List.getElem?_cons_succ, List.set_cons_zero, List.set_cons_succ, List.replicate, List.cons_append, List.nil_append, Nat.zero_add]; exact rfl))
      (apply ex_seq; apply r_ifF; apply r_opT; apply r_exA; apply r_callIo; apply r_borA; exact rfl; apply r_exA; apply r_c; apply r_nilA; exact rfl; apply tDraw; omega; omega; exact rfl; exact rfl; apply r_exA; apply r_c; apply r_nilA; apply gEq_int _ _; exact decide_eq_false (by omega); apply r_nil)
      exact fin2 legs _ _ L0 pr
theorem body (ns : List Int) (c : Int) (x2 x3 x4 x5 x6 x7 x8 x9 x10 x11 : Option (D × Md)) : EndsQ (s_law_2 [some (.klst (nD ns), .fz), some (.int c, .fz), x2, x3, x4, x5, x6, x7, x8, x9, x10, x11]) (Sh ns) := by
  unfold s_law_2
  have d9 := dr_le (pen0 c) (m := 9) (by omega) (by omega)
  (apply ex_seq; apply r_set; apply r_call; apply r_borA; exact rfl; apply r_nilA; exact rfl; apply tPen; exact rfl; exact rfl; exact rfl)
  refine ex_compAny (fun ρ => ∃ P : Pn, ρ = [some (.klst (nD ns), .fz), some (.int c, .fz), some (pD P, .ow), x3, x4, x5, x6, x7, x8, x9, x10, x11]) (fun y => ∃ n : Nat, n ≤ 3 ∧ y = .int (n : Nat)) (by (apply r_rng1M; apply r_exA; apply r_op; apply r_exA; apply r_c; apply r_exA; apply r_callIo; apply r_borA; exact rfl; apply r_exA; apply r_c; apply r_nilA; exact rfl; apply tDraw; omega; omega; exact rfl; exact rfl; apply r_nilA; exact rfl; apply r_nilA; omega; omega)) rfl ⟨_, rfl⟩ ?_ ?_
  · rintro d hd ρ ⟨P, rfl⟩
    have b := dr_le P (m := 6) (by omega) (by omega)
    obtain ⟨n, hn, hx⟩ := pick6 b.1 b.2
    (apply elA_mk; (simp only [asgT, asgTs, tieD, List.getElem?_cons_zero, List.getElem?_cons_succ, List.set_cons_zero, List.set_cons_succ, List.replicate, List.cons_append, List.nil_append, Nat.zero_add]; exact rfl); apply r_op; apply r_exA; apply r_lst; apply r_exM; apply r_c; apply r_exM; apply r_c; apply r_exM; apply r_c; apply r_exM; apply r_c; apply r_exM; apply r_c; apply r_exM; apply r_c; apply r_nilM; apply r_exA; apply r_callIo; apply r_borA; exact rfl; apply r_exA; apply r_c; apply r_nilA; exact rfl; apply tDraw; omega; omega; exact rfl; exact rfl; apply r_nilA; exact hx)
    · exact ⟨n, hn, rfl⟩
    · exact ⟨_, rfl⟩
  · rintro ys ρ ⟨P, rfl⟩ hl hy
    obtain ⟨legs, rfl, hl2, hl3⟩ := nats_of ys hy
    refine ⟨x3, rfl, ?_⟩
    have hs := sum_le legs hl3
    rw [List.length_map, List.length_map, List.length_map, rgI_len] at hl
    have L0 : LegOk legs := ⟨by omega, by omega, List.ne_nil_of_length_pos (by omega)⟩
    by_cases h6 : dr P 6 = 0
    · have b := dr_le (nx P 6) (m := 6) (by omega) (by omega)
      obtain ⟨legs', L1, hx⟩ := pickL b.1 b.2
      (apply ex_seq; apply r_ifT; apply r_opT; apply r_exA; apply r_callIo; apply r_borA; exact rfl; apply r_exA; apply r_c; apply r_nilA; exact rfl; apply tDraw; omega; omega; exact rfl; exact rfl; apply r_exA; apply r_c; apply r_nilA; apply gEq_int _ _; exact decide_eq_true (by omega); apply r_set; apply r_op; apply r_exA; apply r_lst; apply r_exM; apply r_op; apply r_exA; apply r_lst; apply r_exM; apply r_c; apply r_nilM; apply r_exA; apply r_c; apply r_nilA; apply gMul_rep; omega; omega; apply r_exM; apply r_lst; apply r_exM; apply r_c; apply r_nilM; apply r_exM; apply r_op; apply r_exA; apply r_op; apply r_exA; apply r_lst; apply r_exM; apply r_c; apply r_nilM; apply r_exA; apply r_c; apply r_nilA; apply gMul_rep; omega; omega; apply r_exA; apply r_lst; apply r_exM; apply r_c; apply r_nilM; apply r_nilA; apply gAdd_lstX; (simp only [List.length_map, List.length_append, List.length_range, List.length_cons, List.length_nil, List.length_replicate, List.length_set, rgI_len, List.length_zipIdx, List.length_zip, List.length_reverse] at *; omega); apply r_exM; apply r_op; apply r_exA; apply r_lst; apply r_exM; apply r_c; apply r_nilM; apply r_exA; apply r_c; apply r_nilA; apply gMul_rep; omega; omega; apply r_exM; apply r_lst; apply r_exM; apply r_c; apply r_exM; apply r_c; apply r_exM; apply r_c; apply r_exM; apply r_c; apply r_nilM; apply r_exM; apply r_lst; apply r_exM; apply r_c; apply r_exM; apply r_c; apply r_nilM; apply r_nilM; apply r_exA; apply r_callIo; apply r_borA; exact rfl; apply r_exA; apply r_c; apply r_nilA; exact rfl; apply tDraw; omega; omega; exact rfl; exact rfl; apply r_nilA; exact hx; exact rfl; exact rfl)
      exact fin legs' _ .fz L1 (.inl rfl)
    · (apply ex_seq; apply r_ifF; apply r_opT; apply r_exA; apply r_callIo; apply r_borA; exact rfl; apply r_exA; apply r_c; apply r_nilA; exact rfl; apply tDraw; omega; omega; exact rfl; exact rfl; apply r_exA; apply r_c; apply r_nilA; apply gEq_int _ _; exact decide_eq_false (by omega); apply r_nil)
      exact fin legs _ .ow L0 (.inr rfl)
theorem law_ok (ns : List Int) : f_law [.klst (nD ns)] = some (.ok (.bl true) false, .non) := by
  obtain ⟨ρ', e, x1, x2, x3, x4, x5, x6, x7, x8, x9, x10, x11, rfl⟩ := sLoop_foldE (T := .nm 1) (f := s_law_2) (inj := D.int) (fun (_ : Unit) ρ => Sh ns ρ) (fun _ _ => ()) (cell0 ns 0 :: cutI ns (some 1) (some 5)) () [some (.klst (nD ns), .fz), none, none, none, none, none, none, none, none, none, none, none] ⟨_, _, _, _, _, _, _, _, _, _, _, rfl⟩ (by
    rintro c hc _ ρ ⟨x1, x2, x3, x4, x5, x6, x7, x8, x9, x10, x11, rfl⟩
    obtain ⟨ρ', e, h⟩ := body ns c x2 x3 x4 x5 x6 x7 x8 x9 x10 x11
    exact ⟨_, ρ', rfl, e, h⟩)
  unfold f_law s_law
  (apply Eq.trans; apply r_fn; exact rfl; apply r_seq; apply r_for; apply r_seqI; apply r_op; apply r_exA; apply r_lst; apply r_exM; apply r_call; apply r_borA; exact rfl; apply r_exA; apply r_c; apply r_nilA; exact rfl; apply tCell0; exact rfl; apply r_nilM; apply r_exA; apply r_op; apply r_borA; exact rfl; apply r_nilA; exact rfl; apply gS11_script; apply r_nilA; apply gAdd_cells; omega; omega; exact rfl; exact e; apply r_ret; apply r_c; exact rfl; exact rfl; exact rfl)
end K41
namespace K41
open PySem L2 PyProof.Rows
theorem has_of {K : PySem.W.Frag} {mg : Str → Option Value} {h : Heap} (X : K.In h) (G : h.Ns mainGlobals mg) {x : Str} {st : Stmt} {ps : List Str} {f : Addr} {oc : Value} {od an : Option Addr} {osl : Array (Option Value)} {kV doc pm cdv ct : Value} (a : PySem.W.nsIn K mainGlobals x = some (some (.ref f)))
    (l : K.lookup f = some ⟨oc, od, .func (PySem.W.fnOf x x (defArgs st) (defBody st) (defScope st) .none kV doc pm an cdv ct), osl⟩) (c : PySem.W.codeIn K cdv x = true) (k : PySem.W.keepIn K (.ref f) = true)
    (hb : ∀ (kV doc pm : Value) (an : Option Addr) (cdv ct : Value) (us : List Value), us.length = ps.length → bindArgs (PySem.W.fnOf x x (defArgs st) (defBody st) (defScope st) .none kV doc pm an cdv ct) ⟨us, []⟩ = pure (ps.zip us)) : Has K mg x st ps :=
  ⟨f, _, fun_mk l c k, PySem.W.mg_of X G a, (fun_mk (st := st) l c k).binds hb⟩
theorem own_of {K : PySem.W.Frag} {mg : Str → Option Value} {h : Heap} {x : Str} {C : Addr} {bs : List Value} {ni : String} (X : K.In h) (G : h.Ns mainGlobals mg) (e : PySem.W.nsIn K mainGlobals x = some (some (.ref C))) (q : PySem.W.excIn K C bs ni = true) : OwnCls x C bs ni mg h where
  bound := PySem.W.mg_of X G e
  obj := by
    unfold PySem.W.excIn at q
    split at q
    case h_2 => cases q
    case h_1 d1 cl ss look =>
      split at q
      case h_2 => cases q
      case h_1 C2 rest a0 a1 a2 a3 nw a5 hmro hslots =>
        rcases cl with ⟨c1, c2, c3, c4, c5, c6, c7, c8, c9, c10, c11⟩
        rcases ss with ⟨ss⟩
        simp only [Bool.and_eq_true, beq_iff_eq, Bool.not_eq_true'] at q
        rcases q with ⟨⟨⟨⟨⟨w1, w2⟩, w3⟩, w4⟩, w5⟩, w6⟩
        dsimp only at hmro hslots w3 w5 w6
        cases w1; cases w2; cases hmro; cases w3; cases hslots
        exact ⟨rest, c4, c1, c5, c2, c6, c7, c8, c9, c10, d1, a0, a1, a2, a3, a5, _, X _ _ look, .of_isNs (PySem.W.isNs_of_in X w5), PySem.W.nsMap_none_of_in X w5 w6, PySem.W.tail_of_in X w4⟩
theorem all_mk {l : PySem.W.OpenLaw} {w : World} {K : PySem.W.Frag} {h : Heap} {mg : Str → Option Value} {fa : Addr} (X : K.In h) (G : h.Ns mainGlobals mg) (hfa : mg "law" = some (.ref fa))
    {f0 : Addr} {od0 an0 : Option Addr} {sl0 : Array (Option Value)} {oc0 kV0 dc0 pm0 cd0 ct0 : Value}
    {f1 : Addr} {od1 an1 : Option Addr} {sl1 : Array (Option Value)} {oc1 kV1 dc1 pm1 cd1 ct1 : Value}
    {f2 : Addr} {od2 an2 : Option Addr} {sl2 : Array (Option Value)} {oc2 kV2 dc2 pm2 cd2 ct2 : Value}
    {f3 : Addr} {od3 an3 : Option Addr} {sl3 : Array (Option Value)} {oc3 kV3 dc3 pm3 cd3 ct3 : Value}
    {f4 : Addr} {od4 an4 : Option Addr} {sl4 : Array (Option Value)} {oc4 kV4 dc4 pm4 cd4 ct4 : Value}
    {f5 : Addr} {od5 an5 : Option Addr} {sl5 : Array (Option Value)} {oc5 kV5 dc5 pm5 cd5 ct5 : Value}
    {f6 : Addr} {od6 an6 : Option Addr} {sl6 : Array (Option Value)} {oc6 kV6 dc6 pm6 cd6 ct6 : Value}
    {f7 : Addr} {od7 an7 : Option Addr} {sl7 : Array (Option Value)} {oc7 kV7 dc7 pm7 cd7 ct7 : Value}
    {f8 : Addr} {od8 an8 : Option Addr} {sl8 : Array (Option Value)} {oc8 kV8 dc8 pm8 cd8 ct8 : Value}
    {f9 : Addr} {od9 an9 : Option Addr} {sl9 : Array (Option Value)} {oc9 kV9 dc9 pm9 cd9 ct9 : Value}
    {f10 : Addr} {od10 an10 : Option Addr} {sl10 : Array (Option Value)} {oc10 kV10 dc10 pm10 cd10 ct10 : Value}
    {f11 : Addr} {od11 an11 : Option Addr} {sl11 : Array (Option Value)} {oc11 kV11 dc11 pm11 cd11 ct11 : Value}
    {f12 : Addr} {od12 an12 : Option Addr} {sl12 : Array (Option Value)} {oc12 kV12 dc12 pm12 cd12 ct12 : Value}
    {f13 : Addr} {od13 an13 : Option Addr} {sl13 : Array (Option Value)} {oc13 kV13 dc13 pm13 cd13 ct13 : Value}
    {f14 : Addr} {od14 an14 : Option Addr} {sl14 : Array (Option Value)} {oc14 kV14 dc14 pm14 cd14 ct14 : Value}
    {f15 : Addr} {od15 an15 : Option Addr} {sl15 : Array (Option Value)} {oc15 kV15 dc15 pm15 cd15 ct15 : Value}
    {f16 : Addr} {od16 an16 : Option Addr} {sl16 : Array (Option Value)} {oc16 kV16 dc16 pm16 cd16 ct16 : Value}
    {f17 : Addr} {od17 an17 : Option Addr} {sl17 : Array (Option Value)} {oc17 kV17 dc17 pm17 cd17 ct17 : Value}
    {f18 : Addr} {od18 an18 : Option Addr} {sl18 : Array (Option Value)} {oc18 kV18 dc18 pm18 cd18 ct18 : Value}
    {f19 : Addr} {od19 an19 : Option Addr} {sl19 : Array (Option Value)} {oc19 kV19 dc19 pm19 cd19 ct19 : Value}
    {f20 : Addr} {od20 an20 : Option Addr} {sl20 : Array (Option Value)} {oc20 kV20 dc20 pm20 cd20 ct20 : Value}
    {f21 : Addr} {od21 an21 : Option Addr} {sl21 : Array (Option Value)} {oc21 kV21 dc21 pm21 cd21 ct21 : Value}
    {A_NoNumber : Addr}
    (a0 : PySem.W.nsIn K mainGlobals "is_whole" = some (some (.ref f0)))
    (l0 : K.lookup f0 = some ⟨oc0, od0, .func (PySem.W.fnOf "is_whole" "is_whole" (defArgs (top 1)) (defBody (top 1)) (defScope (top 1)) .none kV0 dc0 pm0 an0 cd0 ct0), sl0⟩)
    (c0 : PySem.W.codeIn K cd0 "is_whole" = true)
    (k0 : PySem.W.keepIn K (.ref f0) = true)
    (a1 : PySem.W.nsIn K mainGlobals "whole_within" = some (some (.ref f1)))
    (l1 : K.lookup f1 = some ⟨oc1, od1, .func (PySem.W.fnOf "whole_within" "whole_within" (defArgs (top 2)) (defBody (top 2)) (defScope (top 2)) .none kV1 dc1 pm1 an1 cd1 ct1), sl1⟩)
    (c1 : PySem.W.codeIn K cd1 "whole_within" = true)
    (k1 : PySem.W.keepIn K (.ref f1) = true)
    (a2 : PySem.W.nsIn K mainGlobals "unlike_within" = some (some (.ref f2)))
    (l2 : K.lookup f2 = some ⟨oc2, od2, .func (PySem.W.fnOf "unlike_within" "unlike_within" (defArgs (top 3)) (defBody (top 3)) (defScope (top 3)) .none kV2 dc2 pm2 an2 cd2 ct2), sl2⟩)
    (c2 : PySem.W.codeIn K cd2 "unlike_within" = true)
    (k2 : PySem.W.keepIn K (.ref f2) = true)
    (a3 : PySem.W.nsIn K mainGlobals "steps_good" = some (some (.ref f3)))
    (l3 : K.lookup f3 = some ⟨oc3, od3, .func (PySem.W.fnOf "steps_good" "steps_good" (defArgs (top 8)) (defBody (top 8)) (defScope (top 8)) .none kV3 dc3 pm3 an3 cd3 ct3), sl3⟩)
    (c3 : PySem.W.codeIn K cd3 "steps_good" = true)
    (k3 : PySem.W.keepIn K (.ref f3) = true)
    (a4 : PySem.W.nsIn K mainGlobals "places_numbered" = some (some (.ref f4)))
    (l4 : K.lookup f4 = some ⟨oc4, od4, .func (PySem.W.fnOf "places_numbered" "places_numbered" (defArgs (top 9)) (defBody (top 9)) (defScope (top 9)) .none kV4 dc4 pm4 an4 cd4 ct4), sl4⟩)
    (c4 : PySem.W.codeIn K cd4 "places_numbered" = true)
    (k4 : PySem.W.keepIn K (.ref f4) = true)
    (a5 : PySem.W.nsIn K mainGlobals "steps_by" = some (some (.ref f5)))
    (l5 : K.lookup f5 = some ⟨oc5, od5, .func (PySem.W.fnOf "steps_by" "steps_by" (defArgs (top 10)) (defBody (top 10)) (defScope (top 10)) .none kV5 dc5 pm5 an5 cd5 ct5), sl5⟩)
    (c5 : PySem.W.codeIn K cd5 "steps_by" = true)
    (k5 : PySem.W.keepIn K (.ref f5) = true)
    (a6 : PySem.W.nsIn K mainGlobals "check_steps" = some (some (.ref f6)))
    (l6 : K.lookup f6 = some ⟨oc6, od6, .func (PySem.W.fnOf "check_steps" "check_steps" (defArgs (top 11)) (defBody (top 11)) (defScope (top 11)) .none kV6 dc6 pm6 an6 cd6 ct6), sl6⟩)
    (c6 : PySem.W.codeIn K cd6 "check_steps" = true)
    (k6 : PySem.W.keepIn K (.ref f6) = true)
    (a7 : PySem.W.nsIn K mainGlobals "parted_at" = some (some (.ref f7)))
    (l7 : K.lookup f7 = some ⟨oc7, od7, .func (PySem.W.fnOf "parted_at" "parted_at" (defArgs (top 12)) (defBody (top 12)) (defScope (top 12)) .none kV7 dc7 pm7 an7 cd7 ct7), sl7⟩)
    (c7 : PySem.W.codeIn K cd7 "parted_at" = true)
    (k7 : PySem.W.keepIn K (.ref f7) = true)
    (a8 : PySem.W.nsIn K mainGlobals "parting_number" = some (some (.ref f8)))
    (l8 : K.lookup f8 = some ⟨oc8, od8, .func (PySem.W.fnOf "parting_number" "parting_number" (defArgs (top 13)) (defBody (top 13)) (defScope (top 13)) .none kV8 dc8 pm8 an8 cd8 ct8), sl8⟩)
    (c8 : PySem.W.codeIn K cd8 "parting_number" = true)
    (k8 : PySem.W.keepIn K (.ref f8) = true)
    (a9 : PySem.W.nsIn K mainGlobals "upper_turned" = some (some (.ref f9)))
    (l9 : K.lookup f9 = some ⟨oc9, od9, .func (PySem.W.fnOf "upper_turned" "upper_turned" (defArgs (top 14)) (defBody (top 14)) (defScope (top 14)) .none kV9 dc9 pm9 an9 cd9 ct9), sl9⟩)
    (c9 : PySem.W.codeIn K cd9 "upper_turned" = true)
    (k9 : PySem.W.keepIn K (.ref f9) = true)
    (a10 : PySem.W.nsIn K mainGlobals "round_from" = some (some (.ref f10)))
    (l10 : K.lookup f10 = some ⟨oc10, od10, .func (PySem.W.fnOf "round_from" "round_from" (defArgs (top 16)) (defBody (top 16)) (defScope (top 16)) .none kV10 dc10 pm10 an10 cd10 ct10), sl10⟩)
    (c10 : PySem.W.codeIn K cd10 "round_from" = true)
    (k10 : PySem.W.keepIn K (.ref f10) = true)
    (a11 : PySem.W.nsIn K mainGlobals "_law_cell_at" = some (some (.ref f11)))
    (l11 : K.lookup f11 = some ⟨oc11, od11, .func (PySem.W.fnOf "_law_cell_at" "_law_cell_at" (defArgs (top 18)) (defBody (top 18)) (defScope (top 18)) .none kV11 dc11 pm11 an11 cd11 ct11), sl11⟩)
    (c11 : PySem.W.codeIn K cd11 "_law_cell_at" = true)
    (k11 : PySem.W.keepIn K (.ref f11) = true)
    (a12 : PySem.W.nsIn K mainGlobals "_law_next" = some (some (.ref f12)))
    (l12 : K.lookup f12 = some ⟨oc12, od12, .func (PySem.W.fnOf "_law_next" "_law_next" (defArgs (top 19)) (defBody (top 19)) (defScope (top 19)) .none kV12 dc12 pm12 an12 cd12 ct12), sl12⟩)
    (c12 : PySem.W.codeIn K cd12 "_law_next" = true)
    (k12 : PySem.W.keepIn K (.ref f12) = true)
    (a13 : PySem.W.nsIn K mainGlobals "_law_pen_of" = some (some (.ref f13)))
    (l13 : K.lookup f13 = some ⟨oc13, od13, .func (PySem.W.fnOf "_law_pen_of" "_law_pen_of" (defArgs (top 20)) (defBody (top 20)) (defScope (top 20)) .none kV13 dc13 pm13 an13 cd13 ct13), sl13⟩)
    (c13 : PySem.W.codeIn K cd13 "_law_pen_of" = true)
    (k13 : PySem.W.keepIn K (.ref f13) = true)
    (a14 : PySem.W.nsIn K mainGlobals "_law_draw" = some (some (.ref f14)))
    (l14 : K.lookup f14 = some ⟨oc14, od14, .func (PySem.W.fnOf "_law_draw" "_law_draw" (defArgs (top 21)) (defBody (top 21)) (defScope (top 21)) .none kV14 dc14 pm14 an14 cd14 ct14), sl14⟩)
    (c14 : PySem.W.codeIn K cd14 "_law_draw" = true)
    (k14 : PySem.W.keepIn K (.ref f14) = true)
    (a15 : PySem.W.nsIn K mainGlobals "_law_whole" = some (some (.ref f15)))
    (l15 : K.lookup f15 = some ⟨oc15, od15, .func (PySem.W.fnOf "_law_whole" "_law_whole" (defArgs (top 22)) (defBody (top 22)) (defScope (top 22)) .none kV15 dc15 pm15 an15 cd15 ct15), sl15⟩)
    (c15 : PySem.W.codeIn K cd15 "_law_whole" = true)
    (k15 : PySem.W.keepIn K (.ref f15) = true)
    (a16 : PySem.W.nsIn K mainGlobals "_law_spine_ties" = some (some (.ref f16)))
    (l16 : K.lookup f16 = some ⟨oc16, od16, .func (PySem.W.fnOf "_law_spine_ties" "_law_spine_ties" (defArgs (top 23)) (defBody (top 23)) (defScope (top 23)) .none kV16 dc16 pm16 an16 cd16 ct16), sl16⟩)
    (c16 : PySem.W.codeIn K cd16 "_law_spine_ties" = true)
    (k16 : PySem.W.keepIn K (.ref f16) = true)
    (a17 : PySem.W.nsIn K mainGlobals "_law_connected" = some (some (.ref f17)))
    (l17 : K.lookup f17 = some ⟨oc17, od17, .func (PySem.W.fnOf "_law_connected" "_law_connected" (defArgs (top 25)) (defBody (top 25)) (defScope (top 25)) .none kV17 dc17 pm17 an17 cd17 ct17), sl17⟩)
    (c17 : PySem.W.codeIn K cd17 "_law_connected" = true)
    (k17 : PySem.W.keepIn K (.ref f17) = true)
    (a18 : PySem.W.nsIn K mainGlobals "_law_tree" = some (some (.ref f18)))
    (l18 : K.lookup f18 = some ⟨oc18, od18, .func (PySem.W.fnOf "_law_tree" "_law_tree" (defArgs (top 26)) (defBody (top 26)) (defScope (top 26)) .none kV18 dc18 pm18 an18 cd18 ct18), sl18⟩)
    (c18 : PySem.W.codeIn K cd18 "_law_tree" = true)
    (k18 : PySem.W.keepIn K (.ref f18) = true)
    (a19 : PySem.W.nsIn K mainGlobals "_law_round_good" = some (some (.ref f19)))
    (l19 : K.lookup f19 = some ⟨oc19, od19, .func (PySem.W.fnOf "_law_round_good" "_law_round_good" (defArgs (top 27)) (defBody (top 27)) (defScope (top 27)) .none kV19 dc19 pm19 an19 cd19 ct19), sl19⟩)
    (c19 : PySem.W.codeIn K cd19 "_law_round_good" = true)
    (k19 : PySem.W.keepIn K (.ref f19) = true)
    (a20 : PySem.W.nsIn K mainGlobals "_law_parted_by" = some (some (.ref f20)))
    (l20 : K.lookup f20 = some ⟨oc20, od20, .func (PySem.W.fnOf "_law_parted_by" "_law_parted_by" (defArgs (top 28)) (defBody (top 28)) (defScope (top 28)) .none kV20 dc20 pm20 an20 cd20 ct20), sl20⟩)
    (c20 : PySem.W.codeIn K cd20 "_law_parted_by" = true)
    (k20 : PySem.W.keepIn K (.ref f20) = true)
    (a21 : PySem.W.nsIn K mainGlobals "law" = some (some (.ref f21)))
    (l21 : K.lookup f21 = some ⟨oc21, od21, .func (PySem.W.fnOf "law" "law" (defArgs (top 29)) (defBody (top 29)) (defScope (top 29)) .none kV21 dc21 pm21 an21 cd21 ct21), sl21⟩)
    (c21 : PySem.W.codeIn K cd21 "law" = true)
    (k21 : PySem.W.keepIn K (.ref f21) = true)
    (z_abs : PySem.W.nsIn K mainGlobals "abs" = some none)
    (z_all : PySem.W.nsIn K mainGlobals "all" = some none)
    (z_bool : PySem.W.nsIn K mainGlobals "bool" = some none)
    (z_int : PySem.W.nsIn K mainGlobals "int" = some none)
    (z_isinstance : PySem.W.nsIn K mainGlobals "isinstance" = some none)
    (z_len : PySem.W.nsIn K mainGlobals "len" = some none)
    (z_list : PySem.W.nsIn K mainGlobals "list" = some none)
    (z_max : PySem.W.nsIn K mainGlobals "max" = some none)
    (z_min : PySem.W.nsIn K mainGlobals "min" = some none)
    (z_range : PySem.W.nsIn K mainGlobals "range" = some none)
    (z_set : PySem.W.nsIn K mainGlobals "set" = some none)
    (z_sorted : PySem.W.nsIn K mainGlobals "sorted" = some none)
    (z_sum : PySem.W.nsIn K mainGlobals "sum" = some none)
    (z_tuple : PySem.W.nsIn K mainGlobals "tuple" = some none)
    (n_NoNumber : PySem.W.nsIn K mainGlobals "NoNumber" = some (some (.ref A_NoNumber)))
    (x_NoNumber : PySem.W.excIn K A_NoNumber [.type "ValueError", .type "Exception", .type "BaseException", .type "object"] "ValueError.__new__" = true)
    : ∃ fd : FuncData, (∀ (s : Shared) (v : Value), BindsTo s fd ⟨[v], []⟩ [("script", v)]) ∧ ∀ base : Heap, K.In base → base.Ns mainGlobals mg → FnOk l.prog w K mg base (CXr l.prog w) 10 fa fd ["script"] (spF K none f_law) := by
  cases hfa.symm.trans (PySem.W.mg_of X G a21)
  have T : Txt K mg := ⟨PySem.W.mg_none_of X G z_abs, PySem.W.mg_none_of X G z_all, PySem.W.mg_none_of X G z_bool, PySem.W.mg_none_of X G z_int, PySem.W.mg_none_of X G z_isinstance, PySem.W.mg_none_of X G z_len, PySem.W.mg_none_of X G z_list, PySem.W.mg_none_of X G z_max, PySem.W.mg_none_of X G z_min, PySem.W.mg_none_of X G z_range, PySem.W.mg_none_of X G z_set, PySem.W.mg_none_of X G z_sorted, PySem.W.mg_none_of X G z_sum, PySem.W.mg_none_of X G z_tuple⟩
  have D0 : Has K mg "is_whole" (top 1) ["thing"] := has_of X G a0 l0 c0 k0 fun _ _ _ _ _ _ us hl => match us, hl with | [_], _ => rfl
  have D1 : Has K mg "whole_within" (top 2) ["thing", "least", "most"] := has_of X G a1 l1 c1 k1 fun _ _ _ _ _ _ us hl => match us, hl with | [_, _, _], _ => rfl
  have D2 : Has K mg "unlike_within" (top 3) ["things", "least", "most"] := has_of X G a2 l2 c2 k2 fun _ _ _ _ _ _ us hl => match us, hl with | [_, _, _], _ => rfl
  have D3 : Has K mg "steps_good" (top 8) ["web", "thing"] := has_of X G a3 l3 c3 k3 fun _ _ _ _ _ _ us hl => match us, hl with | [_, _], _ => rfl
  have D4 : Has K mg "places_numbered" (top 9) ["web", "thing"] := has_of X G a4 l4 c4 k4 fun _ _ _ _ _ _ us hl => match us, hl with | [_, _], _ => rfl
  have D5 : Has K mg "steps_by" (top 10) ["web", "numbers"] := has_of X G a5 l5 c5 k5 fun _ _ _ _ _ _ us hl => match us, hl with | [_, _], _ => rfl
  have D6 : Has K mg "check_steps" (top 11) ["web", "thing"] := has_of X G a6 l6 c6 k6 fun _ _ _ _ _ _ us hl => match us, hl with | [_, _], _ => rfl
  have D7 : Has K mg "parted_at" (top 12) ["web", "numbers"] := has_of X G a7 l7 c7 k7 fun _ _ _ _ _ _ us hl => match us, hl with | [_, _], _ => rfl
  have D8 : Has K mg "parting_number" (top 13) ["web", "numbers"] := has_of X G a8 l8 c8 k8 fun _ _ _ _ _ _ us hl => match us, hl with | [_, _], _ => rfl
  have D9 : Has K mg "upper_turned" (top 14) ["web", "numbers"] := has_of X G a9 l9 c9 k9 fun _ _ _ _ _ _ us hl => match us, hl with | [_, _], _ => rfl
  have D10 : Has K mg "round_from" (top 16) ["web", "numbering"] := has_of X G a10 l10 c10 k10 fun _ _ _ _ _ _ us hl => match us, hl with | [_, _], _ => rfl
  have D11 : Has K mg "_law_cell_at" (top 18) ["script", "k"] := has_of X G a11 l11 c11 k11 fun _ _ _ _ _ _ us hl => match us, hl with | [_, _], _ => rfl
  have D12 : Has K mg "_law_next" (top 19) ["seed"] := has_of X G a12 l12 c12 k12 fun _ _ _ _ _ _ us hl => match us, hl with | [_], _ => rfl
  have D13 : Has K mg "_law_pen_of" (top 20) ["cell"] := has_of X G a13 l13 c13 k13 fun _ _ _ _ _ _ us hl => match us, hl with | [_], _ => rfl
  have D14 : Has K mg "_law_draw" (top 21) ["pen", "many"] := has_of X G a14 l14 c14 k14 fun _ _ _ _ _ _ us hl => match us, hl with | [_, _], _ => rfl
  have D15 : Has K mg "_law_whole" (top 22) ["found"] := has_of X G a15 l15 c15 k15 fun _ _ _ _ _ _ us hl => match us, hl with | [_], _ => rfl
  have D16 : Has K mg "_law_spine_ties" (top 23) ["legs"] := has_of X G a16 l16 c16 k16 fun _ _ _ _ _ _ us hl => match us, hl with | [_], _ => rfl
  have D17 : Has K mg "_law_connected" (top 25) ["web"] := has_of X G a17 l17 c17 k17 fun _ _ _ _ _ _ us hl => match us, hl with | [_], _ => rfl
  have D18 : Has K mg "_law_tree" (top 26) ["web"] := has_of X G a18 l18 c18 k18 fun _ _ _ _ _ _ us hl => match us, hl with | [_], _ => rfl
  have D19 : Has K mg "_law_round_good" (top 27) ["web", "thing"] := has_of X G a19 l19 c19 k19 fun _ _ _ _ _ _ us hl => match us, hl with | [_, _], _ => rfl
  have D20 : Has K mg "_law_parted_by" (top 28) ["legs"] := has_of X G a20 l20 c20 k20 fun _ _ _ _ _ _ us hl => match us, hl with | [_], _ => rfl
  refine ⟨PySem.W.fnOf "law" "law" (defArgs (top 29)) (defBody (top 29)) (defScope (top 29)) .none kV21 dc21 pm21 an21 cd21 ct21, fun s v => .of_eq rfl, fun base KB GB => ?_⟩
  have O_NoNumber : OwnCls "NoNumber" A_NoNumber [.type "ValueError", .type "Exception", .type "BaseException", .type "object"] "ValueError.__new__" mg base := own_of KB GB n_NoNumber x_NoNumber
  have G_is_whole := ok_is_whole (P := l.prog) (w := w) (base := base) D0 T 
  have G_places_numbered := ok_places_numbered (P := l.prog) (w := w) (base := base) D4 T 
  have G_steps_by := ok_steps_by (P := l.prog) (w := w) (base := base) D5 T 
  have G__law_cell_at := ok__law_cell_at (P := l.prog) (w := w) (base := base) D11 T 
  have G__law_next := ok__law_next (P := l.prog) (w := w) (base := base) D12 T 
  have G__law_pen_of := ok__law_pen_of (P := l.prog) (w := w) (base := base) D13 T 
  have G__law_whole := ok__law_whole (P := l.prog) (w := w) (base := base) D15 T 
  have G__law_spine_ties := ok__law_spine_ties (P := l.prog) (w := w) (base := base) D16 T 
  have G__law_connected := ok__law_connected (P := l.prog) (w := w) (base := base) D17 T 
  have G__law_parted_by := ok__law_parted_by (P := l.prog) (w := w) (base := base) D20 T 
  have G_whole_within := ok_whole_within (P := l.prog) (w := w) (base := base) D1 T G_is_whole
  have G__law_draw := ok__law_draw (P := l.prog) (w := w) (base := base) D14 T G__law_next
  have G__law_tree := ok__law_tree (P := l.prog) (w := w) (base := base) D18 T G__law_connected
  have G_unlike_within := ok_unlike_within (P := l.prog) (w := w) (base := base) D2 T G_whole_within
  have G__law_round_good := ok__law_round_good (P := l.prog) (w := w) (base := base) D19 T G__law_whole G__law_tree
  have G_steps_good := ok_steps_good (P := l.prog) (w := w) (base := base) D3 T G_places_numbered G_unlike_within G_steps_by
  have G_check_steps := ok_check_steps (P := l.prog) (w := w) (base := base) D6 T G_steps_good O_NoNumber PySem.F.excBase_ValueError n_NoNumber
  have G_parted_at := ok_parted_at (P := l.prog) (w := w) (base := base) D7 T G_check_steps
  have G_parting_number := ok_parting_number (P := l.prog) (w := w) (base := base) D8 T G_parted_at O_NoNumber PySem.F.excBase_ValueError n_NoNumber
  have G_upper_turned := ok_upper_turned (P := l.prog) (w := w) (base := base) D9 T G_parting_number
  have G_round_from := ok_round_from (P := l.prog) (w := w) (base := base) D10 T G_upper_turned
  exact ok_law (P := l.prog) (w := w) (base := base) (fun_mk l21 c21 k21) T G__law_cell_at G__law_pen_of G__law_draw G__law_spine_ties G__law_parted_by G_round_from G__law_round_good
end K41
open PySem PySem.W PyProof.Rows
set_option maxRecDepth 100000 in
set_option maxHeartbeats 0 in
theorem PySem.Challenge.cw_tienumbers_k41_round_sums_from_parted_holds : PySem.Challenge.rw_tienumbers_k41_round_sums_from_parted.Holds := by
  w_on; o_law; k_head; (case hw => w_witness2)
  k_fill
  refine L2.walk_of (l := PySem.Challenge.rw_tienumbers_k41_round_sums_from_parted) (n := 63) (k := 10) (x := "script") (CX := fun w => L2.CXr (PySem.Challenge.rw_tienumbers_k41_round_sums_from_parted).prog w) (sp := fun w => L2.spF _ none K41.f_law) rfl (by decide) rfl ⟨rfl, by decide, by decide, rfl⟩ (fun w h Y => PySem.W.kIn_of Y) ?F (fun _ _ a ns hl _ hS => L2.spF_law ⟨_, K41.law_ok ns⟩ hS) fun _ _ _ _ _ z => L2.cxr_false z
  case F =>
    intro w mg fa h KX G hmg
    refine' K41.all_mk KX G hmg ?a0 ?l0 ?c0 ?k0 ?a1 ?l1 ?c1 ?k1 ?a2 ?l2 ?c2 ?k2 ?a3 ?l3 ?c3 ?k3 ?a4 ?l4 ?c4 ?k4 ?a5 ?l5 ?c5 ?k5 ?a6 ?l6 ?c6 ?k6 ?a7 ?l7 ?c7 ?k7 ?a8 ?l8 ?c8 ?k8 ?a9 ?l9 ?c9 ?k9 ?a10 ?l10 ?c10 ?k10 ?a11 ?l11 ?c11 ?k11 ?a12 ?l12 ?c12 ?k12 ?a13 ?l13 ?c13 ?k13 ?a14 ?l14 ?c14 ?k14 ?a15 ?l15 ?c15 ?k15 ?a16 ?l16 ?c16 ?k16 ?a17 ?l17 ?c17 ?k17 ?a18 ?l18 ?c18 ?k18 ?a19 ?l19 ?c19 ?k19 ?a20 ?l20 ?c20 ?k20 ?a21 ?l21 ?c21 ?k21 ?z_abs ?z_all ?z_bool ?z_int ?z_isinstance ?z_len ?z_list ?z_max ?z_min ?z_range ?z_set ?z_sorted ?z_sum ?z_tuple ?n_NoNumber ?x_NoNumber
    (case a0 => k_is)
    (case l0 => k_is)
    (case c0 => k_is)
    (case k0 => k_is)
    (case a1 => k_is)
    (case l1 => k_is)
    (case c1 => k_is)
    (case k1 => k_is)
    (case a2 => k_is)
    (case l2 => k_is)
    (case c2 => k_is)
    (case k2 => k_is)
    (case a3 => k_is)
    (case l3 => k_is)
    (case c3 => k_is)
    (case k3 => k_is)
    (case a4 => k_is)
    (case l4 => k_is)
    (case c4 => k_is)
    (case k4 => k_is)
    (case a5 => k_is)
    (case l5 => k_is)
    (case c5 => k_is)
    (case k5 => k_is)
    (case a6 => k_is)
    (case l6 => k_is)
    (case c6 => k_is)
    (case k6 => k_is)
    (case a7 => k_is)
    (case l7 => k_is)
    (case c7 => k_is)
    (case k7 => k_is)
    (case a8 => k_is)
    (case l8 => k_is)
    (case c8 => k_is)
    (case k8 => k_is)
    (case a9 => k_is)
    (case l9 => k_is)
    (case c9 => k_is)
    (case k9 => k_is)
    (case a10 => k_is)
    (case l10 => k_is)
    (case c10 => k_is)
    (case k10 => k_is)
    (case a11 => k_is)
    (case l11 => k_is)
    (case c11 => k_is)
    (case k11 => k_is)
    (case a12 => k_is)
    (case l12 => k_is)
    (case c12 => k_is)
    (case k12 => k_is)
    (case a13 => k_is)
    (case l13 => k_is)
    (case c13 => k_is)
    (case k13 => k_is)
    (case a14 => k_is)
    (case l14 => k_is)
    (case c14 => k_is)
    (case k14 => k_is)
    (case a15 => k_is)
    (case l15 => k_is)
    (case c15 => k_is)
    (case k15 => k_is)
    (case a16 => k_is)
    (case l16 => k_is)
    (case c16 => k_is)
    (case k16 => k_is)
    (case a17 => k_is)
    (case l17 => k_is)
    (case c17 => k_is)
    (case k17 => k_is)
    (case a18 => k_is)
    (case l18 => k_is)
    (case c18 => k_is)
    (case k18 => k_is)
    (case a19 => k_is)
    (case l19 => k_is)
    (case c19 => k_is)
    (case k19 => k_is)
    (case a20 => k_is)
    (case l20 => k_is)
    (case c20 => k_is)
    (case k20 => k_is)
    (case a21 => k_is)
    (case l21 => k_is)
    (case c21 => k_is)
    (case k21 => k_is)
    (case z_abs => k_is)
    (case z_all => k_is)
    (case z_bool => k_is)
    (case z_int => k_is)
    (case z_isinstance => k_is)
    (case z_len => k_is)
    (case z_list => k_is)
    (case z_max => k_is)
    (case z_min => k_is)
    (case z_range => k_is)
    (case z_set => k_is)
    (case z_sorted => k_is)
    (case z_sum => k_is)
    (case z_tuple => k_is)
    (case n_NoNumber => k_is)
    (case x_NoNumber => k_exc)
