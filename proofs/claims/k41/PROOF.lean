import PyProof.Rows.All
import Wide.All
import OpenK.AllK
import Wide.FinOn
import Lean
import PyProof.EqAt
import PyProof.EqKinds
import PyProof.TupleCall
import PyProof.NeKinds
import PyProof.ListMulRoad
import PyProof.MaxThree
import PyProof.Rows.StrJoinMade
import PyProof.ListStr
import PyProof.Rows.MinMaxN
import PyProof.Rows.Range3
import PyProof.ListRange
import PyProof.Rows.SetFrom
import PyProof.Rows.StrCase
import PyProof.SumAny
import PyProof.AutoIntG2
import PyProof.AutoListH
import PyProof.EnumStmt
import PyProof.EnumFor
import PyProof.EnumMake
import PyProof.Rows.EnumRows
import PyProof.ConsumeS
import PyProof.ZipIter
import PyProof.Rows.SortWalk
import KE.KDictSum
import KE.KEqDict
import PySem.Challenge.RW_wireparley_k41_states_reached_and_ending
noncomputable section
set_option Elab.async false
set_option linter.all false
set_option maxRecDepth 100000
/-! THE HAND LAYER, for ints, bools, texts, own classes, LISTS and tuples (index, slices, in, append, pop ..), calls, loops. Paste it whole ahead of your own text; what your proof does not reach may be deleted. -/
namespace L2
open PySem PySem.Spec PyProof.Rows

/-- a key: an int or a str -/
abbrev Key := Sum Int Str
noncomputable def keyIs : Key → Value → Bool
  | .inl k, v => Value.isInt k v
  | .inr x, v => Value.isStrOf x v
noncomputable def keyH (w : World) : Key → Int
  | .inl k => hashInt k
  | .inr x => hashStr w x
theorem keyIs_shape : ∀ {k : Key} {v : Value}, keyIs k v = true → (∃ i t, k = Sum.inl i ∧ v = Value.int i t) ∨ (∃ x t, k = Sum.inr x ∧ v = Value.str x t)
  | .inl i, v, h => by
    obtain ⟨t, e⟩ := Value.isInt_shape (k := i) (v := v) h
    exact .inl ⟨i, t, rfl, e⟩
  | .inr x, v, h => by
    obtain ⟨t, e⟩ := Value.isStrOf_shape (x := x) (v := v) h
    exact .inr ⟨x, t, rfl, e⟩
theorem keyIs_int (i : Int) (t : Tok) : keyIs (.inl i) (.int i t) = true := by simp [keyIs, Value.isInt]
theorem keyIs_str (x : Str) (t : Tok) : keyIs (.inr x) (.str x t) = true := by simp [keyIs, Value.isStrOf]
theorem key_ll (a b : Int) : decide ((Sum.inl a : Key) = Sum.inl b) = (a == b) := by
  by_cases e : a = b
  · subst e; simp
  · have h : ¬ (Sum.inl a : Key) = Sum.inl b := fun q => e (Sum.inl.inj q)
    rw [decide_eq_false h]
    exact (beq_eq_false_iff_ne.mpr e).symm
theorem key_rr (a b : Str) : decide ((Sum.inr a : Key) = Sum.inr b) = decide (a = b) := by
  by_cases e : a = b
  · subst e; simp
  · have h : ¬ (Sum.inr a : Key) = Sum.inr b := fun q => e (Sum.inr.inj q)
    rw [decide_eq_false h, decide_eq_false e]
theorem key_lr (a : Int) (b : Str) : decide ((Sum.inl a : Key) = Sum.inr b) = false := decide_eq_false (fun q => nomatch q)
theorem key_rl (a : Str) (b : Int) : decide ((Sum.inr a : Key) = Sum.inl b) = false := decide_eq_false (fun q => nomatch q)

noncomputable def mixKind (prog : Program) (w : World) : PySem.KeyKind prog w Key where
  is := keyIs
  hash := keyH w
  inj := fun v a b ha hb => by
    rcases keyIs_shape ha with ⟨i, t, rfl, rfl⟩ | ⟨x, t, rfl, rfl⟩
    · rcases keyIs_shape hb with ⟨j, u, rfl, e⟩ | ⟨y, u, rfl, e⟩
      · injection e with e1 _; rw [e1]
      · exact nomatch e
    · rcases keyIs_shape hb with ⟨j, u, rfl, e⟩ | ⟨y, u, rfl, e⟩
      · exact nomatch e
      · injection e with e1 _; rw [e1]
  byValue := fun k v h => by
    rcases keyIs_shape h with ⟨i, t, rfl, rfl⟩ | ⟨x, t, rfl, rfl⟩ <;> rfl
  pyHash := fun hv h => by
    rcases keyIs_shape hv with ⟨i, t, rfl, rfl⟩ | ⟨x, t, rfl, rfl⟩
    · exact wpAny_pyHash_int h
    · exact wpAny_pyHash_str h
  eqBool := fun hu hv h => by
    rcases keyIs_shape hu with ⟨i, t, rfl, rfl⟩ | ⟨x, t, rfl, rfl⟩
    · rcases keyIs_shape hv with ⟨j, u, rfl, rfl⟩ | ⟨y, u, rfl, rfl⟩
      · rw [key_ll] at h; exact wpAny_eqBool_int h
      · rw [key_lr] at h; exact SeqAt.EqAt.int_str i t y u _ _ _ _ h
    · rcases keyIs_shape hv with ⟨j, u, rfl, rfl⟩ | ⟨y, u, rfl, rfl⟩
      · rw [key_rl] at h; exact SeqAt.EqAt.str_int x t j u _ _ _ _ h
      · rw [key_rr] at h; exact wpAny_eqBool_str h
  «strs» := fun k x t v h => by
    rcases keyIs_shape h with ⟨i, u, rfl, e⟩ | ⟨y, u, rfl, e⟩
    · exact nomatch e
    · injection e with e1 _
      subst e1
      cases v <;> rfl

theorem mixKind_is (prog : Program) (w : World) (k : Key) (v : Value) : (mixKind prog w).is k v = keyIs k v := rfl
theorem mixKind_int (prog : Program) (w : World) (i : Int) (t : Tok) : (mixKind prog w).is (.inl i) (.int i t) = true := keyIs_int i t
theorem mixKind_str (prog : Program) (w : World) (x : Str) (t : Tok) : (mixKind prog w).is (.inr x) (.str x t) = true := keyIs_str x t
end L2

namespace L2
open PySem PySem.Spec PyProof.Rows

/-- a value, without the heap -/
inductive V where
  | non | bl (b : Bool) | int (i : Int) | str (x : Str) | byt (b : Array UInt8) | flt (b : UInt64) | ref (a : Addr) | ty (n : String)
  deriving DecidableEq

noncomputable def RelV : V → Value → Prop
  | .non, u => u = Value.none
  | .bl b, u => u = Value.bool b
  | .int i, u => ∃ t, u = Value.int i t
  | .str x, u => ∃ t, u = Value.str x t
  | .byt b, u => ∃ t, u = Value.bytes b t
  | .flt b, u => ∃ t, u = Value.float b t
  | .ref a, u => u = Value.ref a
  | .ty n, u => u = Value.type n

abbrev Vals : List V → List Value → Prop := Paired RelV
theorem Vals.length {xs : List V} {us : List Value} (r : Vals xs us) : xs.length = us.length := Paired.length r
theorem Vals.get : ∀ {xs : List V} {us : List Value} {i : Nat} {x : V}, Vals xs us → xs[i]? = some x → ∃ u, us[i]? = some u ∧ RelV x u
  | _, _, _, _, .nil, e => by simp at e
  | _, _, 0, _, .cons r _, e => by simp at e; subst e; exact ⟨_, rfl, r⟩
  | _, _, i + 1, x, .cons _ t, e => by
    obtain ⟨u, h1, h2⟩ := Vals.get (i := i) (x := x) t (by simpa using e)
    exact ⟨u, by simpa using h1, h2⟩
theorem Vals.set {x : V} {u : Value} (r : RelV x u) : ∀ {xs : List V} {us : List Value} (i : Nat), Vals xs us → Vals (xs.set i x) (us.set i u)
  | _, _, _, .nil => .nil
  | _, _, 0, .cons _ t => .cons r t
  | _, _, i + 1, .cons q t => .cons q (Vals.set r i t)
theorem Vals.append : ∀ {xs ys : List V} {us ws : List Value}, Vals xs us → Vals ys ws → Vals (xs ++ ys) (us ++ ws)
  | _, _, _, _, .nil, s => s
  | _, _, _, _, .cons r t, s => .cons r (Vals.append t s)
theorem Vals.take : ∀ {xs : List V} {us : List Value} (n : Nat), Vals xs us → Vals (xs.take n) (us.take n)
  | _, _, 0, _ => .nil
  | _, _, _ + 1, .nil => .nil
  | _, _, n + 1, .cons r t => .cons r (Vals.take n t)
noncomputable def RelO : Option V → Option Value → Prop
  | some v, some u => RelV v u
  | none, none => True
  | _, _ => False
noncomputable def KV {κ : Type} : List (κ × V) → List (κ × Value) → Prop := Paired fun (p : κ × V) (q : κ × Value) => p.1 = q.1 ∧ RelV p.2 q.2

/-- a key of a dict (00_mix): an int or a text -/
noncomputable def kV : Key → V
  | .inl i => .int i
  | .inr x => .str x

/-- what stands at a tracked address -/
inductive HO where
  /-- a list -/
  | lst (xs : List V)
  /-- a tuple (never changes) -/
  | tup (xs : List V)
  /-- a dict whose keys are ints and texts; one whose keys are tuples of ints and texts (the empty one is both) -/
  | dK (kvs : List (Key × V)) | dT (kvs : List (List Key × V))
  /-- a set of ints: its members, its size -/
  | set (S : Int → Bool) (n : Nat)
  /-- an instance of the class at C, its dict at dx, its attributes -/
  | ins (C dx : Addr) (fs : List (Str × V))
  /-- the dict of the instance at x -/
  | own (x : Addr)
  /-- the dict of an exception -/
  | xd (fs : List (Str × V))
  /-- a bound method, f of x -/
  | met (f x : Addr)
  /-- a range object lo, lo + 1, .. below hi -/
  | rng (lo hi : Int)
  /-- a thing that is known to the object (the script; a dict while a loop walks it): read, never written while it is so -/
  | frz (o : Obj) (u : HO)
  /-- a code object's table -/
  | tbl (ps : Array Value)
  /-- any other thing, by what is true of its one object (a def of one's own: SetO a S n := HO.ext fun h => ..) -/
  | ext (φ : Heap → Prop)

abbrev Hp := Addr → Option HO
noncomputable def upd (H : Hp) (a : Addr) (o : HO) : Hp := fun b => if b = a then some o else H b
theorem upd_same {H : Hp} {a : Addr} {o : HO} : upd H a o a = some o := by unfold upd; rw [if_pos rfl]
theorem upd_ne {H : Hp} {a b : Addr} {o : HO} (h : b ≠ a) : upd H a o b = H b := by unfold upd; rw [if_neg h]
theorem ne_of_none {H : Hp} {a b : Addr} {o : HO} (h : H a = some o) (h' : H b = none) : a ≠ b := by
  intro e; subst e; rw [h] at h'; cases h'

section
variable (P : Program) (w : World)
noncomputable def ObjOk (H : Hp) (h : Heap) (a : Addr) : HO → Prop
  | .lst xs => xs.length ≤ sizeLine ∧ ∃ (its : List Value) (n : Nat), Vals xs its ∧ h.get? a = some { cls := .type "list", data := .seq its.toArray n }
  | .tup xs => xs.length ≤ sizeLine ∧ ∃ its : List Value, Vals xs its ∧ IsTup h a its.toArray
  | .dK kvs => kvs.length ≤ sizeLine ∧ (a == sysModules) = false ∧ ∃ vs, KV kvs vs ∧ h.DictOf (mixKind P w) a vs
  | .dT kvs => kvs.length ≤ sizeLine ∧ (a == sysModules) = false ∧ ∃ xs : List (List Key × Addr × Value),
      Paired (fun (p : List Key × V) (q : List Key × Addr × Value) => p.1 = q.1 ∧ H q.2.1 = some (.tup (p.1.map kV)) ∧ RelV p.2 q.2.2) kvs xs ∧
      ∃ o es ep, h.get? a = some o ∧ o.ExactDict ∧ o.data = .dict es ep ∧ es.toList = xs.map (entryOfKey (tupleKind (mixKind P w))) ∧ (xs.map (·.1)).Nodup
  | .set S n => h.SetOf (intKind P w) a S n
  | .ins C dx fs => H dx = some (.own a) ∧ fs.length ≤ 1000 ∧ dx ≠ a ∧ h.get? a = some (PySem.W.instObj C dx) ∧
      ∃ mA, h.Ns1 dx mA ∧ (∀ f, RelO (fs.lookup f) (mA f)) ∧ PySem.Within mA (fs.map (·.1))
  | .own _ => ∃ o, h.get? a = some o
  | .xd fs => ∃ mA, h.Ns1 a mA ∧ ∀ f, RelO (fs.lookup f) (mA f)
  | .rng lo hi => ∃ t u v, h.get? a = some { cls := .type "range", data := .fields #[.int lo t, .int hi u, .int 1 v] }
  | .frz o u => h.get? a = some o ∧ ObjOk H h a u
  | .tbl ps => h.get? a = some { cls := .none, data := .fields ps }
  | .met f x => h.get? a = some (PySem.W.methodObj (.ref f) (.ref x))
  | .ext φ => φ h ∧ (∃ o, h.get? a = some o) ∧ ∀ h1 h2 : Heap, φ h1 → (∀ o, h1.get? a = some o → h2.get? a = some o) → φ h2
/-- the abstract heap is held -/
noncomputable def HOk (H : Hp) (h : Heap) : Prop := ∀ a o, H a = some o → ObjOk P w H h a o
end

section
variable {P : Program} {w : World} {H H' : Hp} {h h' : Heap} {a : Addr} {o : HO}
theorem ObjOk.lt (x : ObjOk P w H h a o) : a < h.objs.size := by
  cases o with
  | lst xs => obtain ⟨_, _, _, _, e⟩ := x; exact Heap.lt_size e
  | tup xs => obtain ⟨_, _, _, p⟩ := x; exact p.lt
  | dK kvs => obtain ⟨_, _, _, _, o, _, _, e, _⟩ := x; exact Heap.lt_size e
  | dT kvs => obtain ⟨_, _, _, _, o, _, _, e, _⟩ := x; exact Heap.lt_size e
  | set S n => obtain ⟨o, _, _, _, e, _⟩ := x; exact Heap.lt_size e
  | ins C dx fs => obtain ⟨_, _, _, e, _⟩ := x; exact Heap.lt_size e
  | own y => obtain ⟨_, e⟩ := x; exact Heap.lt_size e
  | xd fs => obtain ⟨_, ⟨_, _, _, e, _⟩, _⟩ := x; exact Heap.lt_size e
  | rng lo hi => obtain ⟨_, _, _, e⟩ := x; exact Heap.lt_size e
  | frz ob u => obtain ⟨e, _⟩ := x; exact Heap.lt_size e
  | tbl ps => exact Heap.lt_size (show h.get? a = some _ from x)
  | met f y => exact Heap.lt_size (show h.get? a = some _ from x)
  | ext φ => obtain ⟨_, ⟨_, e⟩, _⟩ := x; exact Heap.lt_size e
theorem Paired.mapP {α β : Type} {F G : α → β → Prop} : ∀ {l₁ : List α} {l₂ : List β}, Paired F l₁ l₂ → (∀ a b, F a b → G a b) → Paired G l₁ l₂
  | _, _, .nil, _ => .nil
  | _, _, .cons r t, f => .cons (f _ _ r) (Paired.mapP t f)
/-- what an object's description leans on: its own object, its own dict, the tuples -/
theorem ObjOk.stay (x : ObjOk P w H h a o) (k : ∀ b u, (b = a ∨ H b = some (.own a)) → h.get? b = some u → h'.get? b = some u)
    (ho : ∀ b, H b = some (.own a) → H' b = some (.own a)) (ht : ∀ b xs, H b = some (.tup xs) → H' b = some (.tup xs)) : ObjOk P w H' h' a o := by
  induction o with
  | lst xs => obtain ⟨z, its, n, r, e⟩ := x; exact ⟨z, its, n, r, k _ _ (.inl rfl) e⟩
  | tup xs => obtain ⟨z, its, r, ob, e, c⟩ := x; exact ⟨z, its, r, ob, k _ _ (.inl rfl) e, c⟩
  | dK kvs => obtain ⟨z, y, vs, r, ob, es, ep, e, c⟩ := x; exact ⟨z, y, vs, r, ob, es, ep, k _ _ (.inl rfl) e, c⟩
  | dT kvs =>
    obtain ⟨z, y, xs, r, ob, es, ep, e, c⟩ := x
    exact ⟨z, y, xs, Paired.mapP r fun p q z => ⟨z.1, ht _ _ z.2.1, z.2.2⟩, ob, es, ep, k _ _ (.inl rfl) e, c⟩
  | set S n => obtain ⟨ob, es, ep, t, e, c⟩ := x; exact ⟨ob, es, ep, t, k _ _ (.inl rfl) e, c⟩
  | ins C dx fs =>
    obtain ⟨d, z, ne, e, mA, ⟨od, es, ep, e2, c⟩, r⟩ := x
    exact ⟨ho _ d, z, ne, k _ _ (.inl rfl) e, mA, ⟨od, es, ep, k _ _ (.inr d) e2, c⟩, r⟩
  | own y => obtain ⟨ob, e⟩ := x; exact ⟨ob, k _ _ (.inl rfl) e⟩
  | xd fs => obtain ⟨mA, ⟨od, es, ep, e, c⟩, r⟩ := x; exact ⟨mA, ⟨od, es, ep, k _ _ (.inl rfl) e, c⟩, r⟩
  | rng lo hi => obtain ⟨t, u, v, e⟩ := x; exact ⟨t, u, v, k _ _ (.inl rfl) e⟩
  | frz ob u ih => obtain ⟨e, q⟩ := x; exact ⟨k _ _ (.inl rfl) e, ih q⟩
  | tbl ps =>
    have e : h.get? a = some { cls := .none, data := .fields ps } := x
    show h'.get? a = some { cls := .none, data := .fields ps }
    exact k a _ (.inl rfl) e
  | met f y =>
    have e : h.get? a = some (PySem.W.methodObj (.ref f) (.ref y)) := x
    show h'.get? a = some (PySem.W.methodObj (.ref f) (.ref y))
    exact k a _ (.inl rfl) e
  | ext φ => obtain ⟨p, ⟨o, e⟩, st⟩ := x; exact ⟨st _ _ p fun o q => k _ _ (.inl rfl) q, ⟨o, k _ _ (.inl rfl) e⟩, st⟩
theorem HOk.lt (x : HOk P w H h) (e : H a = some o) : a < h.objs.size := (x a o e).lt
theorem HOk.fresh (x : HOk P w H h) (e : h.objs.size ≤ a) : H a = none := by
  cases q : H a with
  | none => rfl
  | some u => exact absurd (Nat.lt_of_lt_of_le (x.lt q) e) (Nat.lt_irrefl _)
/-- every object of the heap is kept -/
theorem HOk.kept (x : HOk P w H h) (k : ∀ b u, h.get? b = some u → h'.get? b = some u) : HOk P w H h' := fun a o e =>
  (x a o e).stay (fun b u _ q => k b u q) (fun _ q => q) fun _ _ q => q
/-- a new object is laid and tracked -/
theorem HOk.laid (x : HOk P w H h) (k : ∀ b u, h.get? b = some u → h'.get? b = some u) (hp : h.objs.size ≤ a) (new : ObjOk P w (upd H a o) h' a o) : HOk P w (upd H a o) h' := fun b u e => by
  have hn := x.fresh hp
  by_cases hb : b = a
  · subst hb; rw [upd_same] at e; cases e; exact new
  · rw [upd_ne hb] at e
    exact (x b u e).stay (fun c v _ q => k c v q) (fun c q => by rw [upd_ne (ne_of_none q hn)]; exact q) fun c xs q => by rw [upd_ne (ne_of_none q hn)]; exact q
end

/-- what may be read as u: it is u, or a known u -/
noncomputable def Rd (H : Hp) (a : Addr) (u : HO) : Prop := H a = some u ∨ ∃ o, H a = some (.frz o u)
theorem Rd.of {H : Hp} {a : Addr} {u : HO} (h : H a = some u) : Rd H a u := .inl h
theorem Rd.ok {P : Program} {w : World} {H : Hp} {h : Heap} {a : Addr} {u : HO} (r : Rd H a u) (x : HOk P w H h) : ObjOk P w H h a u := by
  rcases r with r | ⟨o, r⟩
  · exact x a u r
  · obtain ⟨_, q⟩ := x a _ r
    exact q
/-- what may be written -/
noncomputable def Mut : Option HO → Prop
  | some (.lst _) => True
  | some (.dK _) => True
  | some (.dT _) => True
  | some (.set _ _) => True
  | some (.ins _ _ _) => True
  | some (.ext _) => True
  | _ => False
section
variable {P : Program} {w : World} {H : Hp} {h h' : Heap} {x e : Addr} {o' : HO}
/-- the object at e is changed: x itself, or the dict of the instance x -/
theorem HOk.write (ok : HOk P w H h) (mu : Mut (H x)) (he : e = x ∨ H e = some (.own x)) (k : ∀ b u, b ≠ e → h.get? b = some u → h'.get? b = some u) (heo : ∃ u, h'.get? e = some u)
    (new : ObjOk P w (upd H x o') h' x o') : HOk P w (upd H x o') h' := fun b u q => by
  have nown : ∀ c y, H c = some (.own y) → c ≠ x := fun c y r z => by subst z; rw [r] at mu; exact mu
  have ntup : ∀ c xs, H c = some (.tup xs) → c ≠ x := fun c xs r z => by subst z; rw [r] at mu; exact mu
  by_cases hb : b = x
  · subst hb; rw [upd_same] at q; cases q; exact new
  · rw [upd_ne hb] at q
    by_cases hbe : b = e
    · have q' : H b = some (.own x) := by
        rcases he with z | z
        · exact absurd (hbe.trans z) hb
        · rw [hbe]; exact z
      rw [q] at q'; cases q'
      obtain ⟨v, hv⟩ := heo
      exact ⟨v, by rw [hbe]; exact hv⟩
    · refine (ok b u q).stay (fun c v hc r => k c v ?_ r) (fun c r => by rw [upd_ne (nown c b r)]; exact r) fun c xs r => by rw [upd_ne (ntup c xs r)]; exact r
      rcases hc with rfl | hc
      · exact hbe
      · rintro rfl
        rcases he with z | z
        · exact nown c b hc z
        · rw [hc] at z; cases z; exact hb rfl
end

/-! ### kept unless tracked; of the frames at fs (the callers') the slots may change (an exception that passes writes there); of the records at ex (iterators) nothing is said -/
structure Un (fs ex : List Addr) (H H' : Hp) (h h' : Heap) : Prop where
  keep : ∀ b o, h.get? b = some o → H b = none → b ∉ fs → b ∉ ex → h'.get? b = some o
  slot : ∀ b o, h.get? b = some o → H b = none → b ∈ fs → b ∉ ex → ∃ sl, h'.get? b = some { o with slots := sl }
  free : ∀ b o, h.get? b = some o → H b = none → b ∉ ex → H' b = none
  there : ∀ b o, h.get? b = some o → b ∉ ex → ∃ o', h'.get? b = some o'
  tups : ∀ b xs, H b = some (.tup xs) → H' b = some (.tup xs)
  frzs : ∀ b o u, H b = some (.frz o u) → H' b = some (.frz o u)
  tbls : ∀ b ps, H b = some (.tbl ps) → ∃ more, H' b = some (.tbl (ps ++ more))
section
variable {fs fs' ex ex' : List Addr} {H H1 H2 : Hp} {h h1 h2 h' : Heap} {a x e : Addr} {o : HO}
theorem Un.any (u : Un fs ex H H1 h h1) {b : Addr} {ob : Obj} (q : h.get? b = some ob) (n : H b = none) (hx : b ∉ ex) : ∃ sl, h1.get? b = some { ob with slots := sl } := by
  by_cases hb : b ∈ fs
  · exact u.slot b ob q n hb hx
  · exact ⟨ob.slots, u.keep b ob q n hb hx⟩
theorem Un.trans (a : Un fs ex H H1 h h1) (b : Un fs ex H1 H2 h1 h2) : Un fs ex H H2 h h2 where
  keep := fun c ob q n hc hx => b.keep c ob (a.keep c ob q n hc hx) (a.free c ob q n hx) hc hx
  slot := fun c ob q n hc hx => by
    obtain ⟨sl, e1⟩ := a.slot c ob q n hc hx
    obtain ⟨sl', e2⟩ := b.slot c _ e1 (a.free c ob q n hx) hc hx
    exact ⟨sl', e2⟩
  free := fun c ob q n hx => by
    obtain ⟨o', e1⟩ := a.there c ob q hx
    exact b.free c o' e1 (a.free c ob q n hx) hx
  there := fun c ob q hx => by
    obtain ⟨o', e1⟩ := a.there c ob q hx
    exact b.there c o' e1 hx
  tups := fun c xs q => b.tups c xs (a.tups c xs q)
  frzs := fun c ob xs q => b.frzs c ob xs (a.frzs c ob xs q)
  tbls := fun c ps q => by
    obtain ⟨m1, e1⟩ := a.tbls c ps q
    obtain ⟨m2, e2⟩ := b.tbls c _ e1
    exact ⟨m1 ++ m2, by rw [e2, Array.append_assoc]⟩
theorem Un.kept (k : ∀ b u, h.get? b = some u → h'.get? b = some u) : Un fs ex H H h h' :=
  ⟨fun b ob q _ _ _ => k b ob q, fun b ob q _ _ _ => ⟨ob.slots, k b ob q⟩, fun _ _ _ n _ => n, fun b ob q _ => ⟨ob, k b ob q⟩, fun _ _ q => q, fun _ _ _ q => q, fun _ ps q => ⟨#[], by rw [q]; simp⟩⟩
theorem Un.refl : Un fs ex H H h h := Un.kept fun _ _ q => q
theorem Un.laid (k : ∀ b u, h.get? b = some u → h'.get? b = some u) (hp : h.objs.size ≤ a) (hn : H a = none) : Un fs ex H (upd H a o) h h' where
  keep := fun b u q _ _ _ => k b u q
  slot := fun b u q _ _ _ => ⟨u.slots, k b u q⟩
  free := fun b u q n _ => by rw [upd_ne (Nat.ne_of_lt (Nat.lt_of_lt_of_le (Heap.lt_size q) hp))]; exact n
  there := fun b u q _ => ⟨u, k b u q⟩
  tups := fun b xs q => by rw [upd_ne (ne_of_none q hn)]; exact q
  frzs := fun b u xs q => by rw [upd_ne (ne_of_none q hn)]; exact q
  tbls := fun b ps q => ⟨#[], by rw [upd_ne (ne_of_none q hn), q]; simp⟩
theorem Un.write (mu : Mut (H x)) (he : e = x ∨ H e = some (.own x)) (k : ∀ b u, b ≠ e → h.get? b = some u → h'.get? b = some u) (heo : ∃ u, h'.get? e = some u) : Un fs ex H (upd H x o) h h' := by
  have hx : ∀ b, H b = none → b ≠ x := fun b n z => by subst z; rw [n] at mu; exact mu
  have hb : ∀ b, H b = none → b ≠ e := fun b n z => by
    subst z
    rcases he with r | r
    · exact hx b n r
    · rw [n] at r; cases r
  have hm : ∀ b u, H b = some u → ¬ Mut (some u) → b ≠ x := fun b u q nm z => by subst z; rw [q] at mu; exact nm mu
  refine ⟨fun b u q n _ _ => k b u (hb b n) q, fun b u q n _ _ => ⟨u.slots, k b u (hb b n) q⟩, fun b u q n _ => by rw [upd_ne (hx b n)]; exact n, fun b u q _ => ?_,
    fun b xs q => by rw [upd_ne (hm b _ q fun z => z)]; exact q, fun b u xs q => by rw [upd_ne (hm b _ q fun z => z)]; exact q, fun b ps q => ⟨#[], by rw [upd_ne (hm b _ q fun z => z), q]; simp⟩⟩
  by_cases hbe : b = e
  · subst hbe; exact heo
  · exact ⟨u, k b u hbe q⟩
theorem Un.mono (u : Un fs ex H H1 h h1) (hs : ∀ b ∈ fs, b ∈ fs') (hx : ∀ b ∈ ex, b ∈ ex') : Un fs' ex' H H1 h h1 :=
  ⟨fun b ob q n hb he => u.keep b ob q n (fun z => hb (hs b z)) fun z => he (hx b z), fun _ _ q n _ he => u.any q n fun z => he (hx _ z), fun b ob q n he => u.free b ob q n fun z => he (hx b z), fun b ob q he => u.there b ob q fun z => he (hx b z), u.tups, u.frzs, u.tbls⟩
end

/-! ### the heap without what is tracked -/
noncomputable def trk (h : Heap) (H : Hp) : List Addr := (List.range h.objs.size).filter fun a => (H a).isSome
noncomputable def hidT (h : Heap) (H : Hp) : Heap := PySem.W.hideAll h (trk h H)
theorem hidT_size (h : Heap) (H : Hp) : (hidT h H).objs.size = h.objs.size := PySem.W.hideAll_size _ _
theorem hidT_get {h : Heap} {H : Hp} {b : Addr} {o : Obj} (e : h.get? b = some o) (n : H b = none) : (hidT h H).get? b = some o :=
  PySem.W.hideAll_get _ e fun hm => by
    have q : (H b).isSome = true := (List.mem_filter.mp hm).2
    rw [n] at q; simp at q
theorem of_hidT {h : Heap} {H : Hp} {b : Addr} {o : Obj} (e : (hidT h H).get? b = some o) : h.get? b = some o ∧ H b = none := by
  have e' : h.get? b = some o := PySem.W.of_hideAll (trk h H) e
  refine ⟨e', ?_⟩
  cases q : H b with
  | none => rfl
  | some x =>
    have hm : b ∈ trk h H := List.mem_filter.mpr ⟨List.mem_range.mpr (Heap.lt_size e'), by simp [q]⟩
    have z : (hidT h H).get? b = none := PySem.W.hideAll_none (trk h H) hm
    rw [z] at e; cases e

/-! ### OpenK's ledger, filled with every new object but one -/
noncomputable def allNews (g h : Heap) (L : Addr) : List (Addr × Obj) := (List.range h.objs.size).filterMap fun a => if a = L ∨ (g.get? a).isSome = true then none else (h.get? a).map fun o => (a, o)
noncomputable def rest (g h : Heap) (L d : Addr) : List (Addr × Obj) := (allNews g h L).filter fun p => decide (p.1 ≠ d)
end L2

namespace L2
open PySem PySem.Spec PyProof.Rows

/-- the module's facts, over the base: the heap at the law's entry without what is tracked there -/
structure Mod (K : PySem.W.Frag) (mg : Str → Option Value) (base : Heap) : Prop where
  kin : K.In base
  glob : base.Ns mainGlobals mg
  blt : ∃ mb, base.Ns builtinsNs mb ∧ ∀ x : Str, x ≠ "__name__" → mb x = bootBuiltins x
  nolimit : base.NoLimit

/-- the context: a def's body (or a comprehension's block) running. base: fixed through the whole law; s₀, H₀: the entry; outer: the frames whose slots others may change (a def's callers); stack: all frames that run;
   ex: iterators that were made ahead of the entry and are walked here (a comprehension's); fn: the names whose cells were made at the entry (a def: all; a comprehension's block: its own); calm: not within an except suite; pn: pins that every state bears; xe: what is wanted of an exception that leaves the code -/
structure Cx where
  prog : Program
  w : World
  K : PySem.W.Frag
  mg : Str → Option Value
  base : Heap
  A : Around
  N : List Str
  s₀ : Shared
  H₀ : Hp
  env : Env
  outer : List Env
  stack : List Env
  ex : List Addr
  fn : Str → Bool
  calm : Bool
  pn : List (Addr × Obj)
  xe : Value → Shared → Prop
/-- the callers' frames -/
noncomputable def frs (l : List Env) : List Addr := l.filterMap (·.frame)
abbrev Cx.fs (X : Cx) : List Addr := frs X.outer

noncomputable def Vis (sc : Scope) (x : Str) : Prop := sc.names.lookup x = some .local ∨ sc.names.lookup x = some .cell ∨ sc.names.lookup x = some .free
noncomputable def Loc (sc : Scope) (x : Str) : Prop := sc.names.lookup x = some .local ∨ sc.names.lookup x = some .cell
noncomputable def Look (env : Env) (h : Heap) (m : Str → Option Value) (x : Str) (u : Value) : Prop :=
  (env.kindOf x = some .local ∧ m x = some u) ∨ ((env.kindOf x = some .cell ∨ env.kindOf x = some .free) ∧ ∃ c, env.cells.lookup x = some c ∧ h.IsCell c (some u))

structure Cx.Ok (X : Cx) : Prop where
  mod : Mod X.K X.mg X.base
  kind : X.env.scope.kind = .function
  glob : X.env.globals = mainGlobals
  blt : X.env.builtins = builtinsNs
  above : X.s₀.heap.objs.size ≤ X.env.locals
  inj : ∀ x y c, X.env.cells.lookup x = some c → X.env.cells.lookup y = some c → x = y
  has : ∀ x, (X.env.kindOf x = some .cell ∨ X.env.kindOf x = some .free) → ∃ c, X.env.cells.lookup x = some c
  cab : ∀ x c, X.fn x = true → X.env.cells.lookup x = some c → X.s₀.heap.objs.size ≤ c
  hd : X.calm = true → X.A.handled = none
  frames : X.A.frames = some X.stack
  stk : X.stack = X.outer ∨ (X.stack = X.env :: X.outer ∧ X.env.frame = some X.env.locals)
  exf : ∀ b ∈ X.ex, b ≠ X.env.locals ∧ ∀ x c, X.env.cells.lookup x = some c → c ≠ b
  bs : ∀ b o, X.base.get? b = some o → X.s₀.heap.get? b = some o ∧ X.H₀ b = none
  bsz : X.base.objs.size ≤ X.s₀.heap.objs.size
  noex : ∀ b o, X.base.get? b = some o → b ∉ X.ex
  exfs : ∀ b ∈ X.ex, b ∉ X.fs
  funs : X.s₀.heap.FunFrames X.base X.outer
  frf : ∀ b ∈ X.fs, X.H₀ b = none

structure Inv (X : Cx) (pins : List (Addr × Obj)) (σ : List (Option V)) (H : Hp) (s : Shared) : Prop where
  ok : X.Ok
  os : s.os = X.s₀.os
  bare : AllBare s.gens
  base : Un X.fs X.ex X.H₀ H X.s₀.heap s.heap
  loc : ∃ m, s.heap.Ns X.env.locals m ∧ ∀ (i : Nat) (x : Str) (v : V), X.N[i]? = some x → σ[i]? = some (some v) → Vis X.env.scope x → ∃ u, RelV v u ∧ Look X.env s.heap m x u
  cell : ∀ x c, X.env.cells.lookup x = some c → ∃ v, s.heap.IsCell c v
  free : H X.env.locals = none
  freeC : ∀ x c, X.env.cells.lookup x = some c → H c = none
  pin : ∀ p ∈ X.pn ++ pins, s.heap.get? p.1 = some p.2 ∧ H p.1 = none ∧ p.1 ≠ X.env.locals ∧ p.1 ∉ X.fs ∧ ∀ v, p.2.data ≠ .cell v
  hok : HOk X.prog X.w H s.heap
  len : σ.length = X.N.length

section
variable {X : Cx} {pins : List (Addr × Obj)} {σ : List (Option V)} {H H' : Hp} {s : Shared} {h' : Heap}

theorem Cx.Ok.nofr (ok : X.Ok) {b : Addr} {o : Obj} (e : X.base.get? b = some o) : b ∉ X.fs := fun hb => by
  have := (ok.funs.mem hb).1
  rw [e] at this; cases this
theorem Inv.bs (I : Inv X pins σ H s) : ∀ b o, X.base.get? b = some o → s.heap.get? b = some o ∧ H b = none := fun b o e =>
  ⟨I.base.keep b o (I.ok.bs b o e).1 (I.ok.bs b o e).2 (I.ok.nofr e) (I.ok.noex b o e), I.base.free b o (I.ok.bs b o e).1 (I.ok.bs b o e).2 (I.ok.noex b o e)⟩
theorem Inv.bk (I : Inv X pins σ H s) : ∀ b o, X.base.get? b = some o → s.heap.get? b = some o := fun b o e => (I.bs b o e).1
theorem Inv.mod (I : Inv X pins σ H s) : Mod X.K X.mg X.base := I.ok.mod
theorem Inv.kIn (I : Inv X pins σ H s) : X.K.In s.heap := I.ok.mod.kin.keeps I.bk
theorem Inv.nolimit (I : Inv X pins σ H s) : s.heap.NoLimit := I.ok.mod.nolimit.keeps I.bk
/-- the frame over the base: for OpenK's rules (K.In X.base is I.mod.kin) -/
theorem Inv.fr (I : Inv X pins σ H s) : ∃ m, Fr X.base X.env.locals s.heap m :=
  let ⟨m, hn, _⟩ := I.loc
  ⟨m, hn, I.bk, Nat.le_trans I.ok.bsz I.ok.above⟩
theorem Inv.lt (I : Inv X pins σ H s) : X.env.locals < s.heap.objs.size := let ⟨_, hn, _⟩ := I.loc; hn.lt
theorem Inv.sz (I : Inv X pins σ H s) : X.s₀.heap.objs.size ≤ s.heap.objs.size := Nat.le_trans I.ok.above (Nat.le_of_lt I.lt)
theorem Inv.nofs (I : Inv X pins σ H s) {a : Addr} (h : s.heap.objs.size ≤ a) : a ∉ X.fs := fun hb => by
  obtain ⟨_, o, ho, _⟩ := I.ok.funs.mem hb
  exact absurd (Nat.lt_of_lt_of_le (Heap.lt_size ho) (Nat.le_trans I.sz h)) (Nat.lt_irrefl _)
theorem Inv.cne (I : Inv X pins σ H s) : ∀ x c, X.env.cells.lookup x = some c → c ≠ X.env.locals := fun x c e z => by
  obtain ⟨v, o, ho, hd⟩ := I.cell x c e
  obtain ⟨m, ⟨o', es, ep, ho', hd', _⟩, _⟩ := I.loc
  rw [z, ho'] at ho; cases ho; rw [hd'] at hd; cases hd
theorem Inv.funs (I : Inv X pins σ H s) : s.heap.FunFrames X.base X.outer := by
  have all : ∀ (l : List Env), (∀ b ∈ frs l, b ∈ X.fs) → X.s₀.heap.FunFrames X.base l → s.heap.FunFrames X.base l := by
    intro l
    induction l with
    | nil => intro _ _; trivial
    | cons env r ih =>
      intro hs hl
      obtain ⟨hk, ⟨L, o, hf, hn, ho, hd⟩, hr⟩ := hl
      have hL : L ∈ X.fs := hs L (by unfold frs; rw [List.filterMap_cons, hf]; exact List.mem_cons_self)
      obtain ⟨sl, e⟩ := I.base.slot L o ho (I.ok.frf L hL) hL fun z => I.ok.exfs L z hL
      exact ⟨hk, ⟨L, _, hf, hn, e, hd⟩, ih (fun b hb => hs b (by unfold frs; rw [List.filterMap_cons, hf]; exact List.mem_cons_of_mem _ hb)) hr⟩
  exact all X.outer (fun _ hb => hb) I.ok.funs

/-- the frames that run, for a call -/
theorem Inv.stack (I : Inv X pins σ H s) : s.heap.FunFrames X.base X.stack := by
  rcases I.ok.stk with e | ⟨e, hf⟩
  · rw [e]; exact I.funs
  · rw [e]
    obtain ⟨m, hn, _⟩ := I.loc
    refine .cons (by rw [I.ok.kind]; decide) hf hn ?_ I.funs
    exact Heap.get?_none_of_le (Nat.le_trans I.ok.bsz I.ok.above)
theorem Inv.stkSub (I : Inv X pins σ H s) : ∀ b ∈ frs X.stack, b ∈ X.env.locals :: X.fs := fun b hb => by
  rcases I.ok.stk with e | ⟨e, hf⟩
  · rw [e] at hb; exact List.mem_cons_of_mem _ hb
  · rw [e] at hb
    unfold frs at hb
    rw [List.filterMap_cons, hf] at hb
    exact hb
theorem Inv.stkFree (I : Inv X pins σ H s) : ∀ b ∈ frs X.stack, H b = none := fun b hb => by
  rcases List.mem_cons.mp (I.stkSub b hb) with e | hb
  · rw [e]; exact I.free
  · obtain ⟨_, o, ho, _⟩ := I.ok.funs.mem hb
    exact I.base.free b o ho (I.ok.frf b hb) fun z => I.ok.exfs b z hb

/-- THE STEP: the untracked objects but the frame and the records at ch are kept (the callers' frames up to slots), the frame's map is kept, the new abstract heap is held -/
theorem Inv.step {g' : Array GenState} {t' : Nat} {d' : Drawn} {ch : List Addr} (I : Inv X pins σ H s)
    (hch : ∀ b ∈ ch, (b ∈ X.ex ∨ X.s₀.heap.objs.size ≤ b) ∧ b ≠ X.env.locals ∧ (∀ x c, X.env.cells.lookup x = some c → c ≠ b) ∧ ∀ p ∈ X.pn ++ pins, p.1 ≠ b)
    (keep : ∀ b o, b ≠ X.env.locals → b ∉ X.fs → b ∉ ch → s.heap.get? b = some o → H b = none → h'.get? b = some o)
    (slot : ∀ b o, b ≠ X.env.locals → b ∈ X.fs → b ∉ ch → s.heap.get? b = some o → H b = none → ∃ sl, h'.get? b = some { o with slots := sl }) (free : ∀ b o, b ∉ ch → s.heap.get? b = some o → H b = none → H' b = none)
    (there : ∀ b o, b ∉ ch → s.heap.get? b = some o → ∃ o', h'.get? b = some o')
    (tups : ∀ b xs, H b = some (.tup xs) → H' b = some (.tup xs)) (frzs : ∀ b o u, H b = some (.frz o u) → H' b = some (.frz o u)) (tbls : ∀ b ps, H b = some (.tbl ps) → ∃ more, H' b = some (.tbl (ps ++ more)))
    (ns : ∀ m, s.heap.Ns X.env.locals m → h'.Ns X.env.locals m) (hok : HOk X.prog X.w H' h') (hg : AllBare g') :
    Inv X pins σ H' { s with heap := h', gens := g', drawn := d', toks := t' } := by
  have neL : ∀ b o, X.s₀.heap.get? b = some o → b ≠ X.env.locals := fun b o e => Nat.ne_of_lt (Nat.lt_of_lt_of_le (Heap.lt_size e) I.ok.above)
  have neC : ∀ b o, X.s₀.heap.get? b = some o → b ∉ X.ex → b ∉ ch := fun b o e hx hb => by
    rcases (hch b hb).1 with z | z
    · exact hx z
    · exact absurd (Nat.lt_of_lt_of_le (Heap.lt_size e) z) (Nat.lt_irrefl _)
  have cellK : ∀ x c, X.env.cells.lookup x = some c → ∀ v, s.heap.IsCell c v → h'.IsCell c v := fun x c e v ⟨o, ho, hd⟩ => by
    have nch : c ∉ ch := fun z => (hch c z).2.2.1 x c e rfl
    by_cases hc : c ∈ X.fs
    · obtain ⟨sl, q⟩ := slot c o (I.cne x c e) hc nch ho (I.freeC x c e)
      exact ⟨_, q, hd⟩
    · exact ⟨o, keep c o (I.cne x c e) hc nch ho (I.freeC x c e), hd⟩
  refine ⟨I.ok, I.os, hg, ⟨fun b o e n hb hx => ?_, fun b o e n hb hx => ?_, fun b o e n hx => ?_, fun b o e hx => ?_, fun b xs e => tups b xs (I.base.tups b xs e), fun b o xs e => frzs b o xs (I.base.frzs b o xs e), fun b ps e => ?_⟩, ?_, fun x c e => ?_, ?_, fun x c e => ?_, fun p hp => ?_, hok, I.len⟩
  · exact keep b o (neL b o e) hb (neC b o e hx) (I.base.keep b o e n hb hx) (I.base.free b o e n hx)
  · obtain ⟨sl, e1⟩ := I.base.slot b o e n hb hx
    obtain ⟨sl', e2⟩ := slot b _ (neL b o e) hb (neC b o e hx) e1 (I.base.free b o e n hx)
    exact ⟨sl', e2⟩
  · obtain ⟨o', e1⟩ := I.base.there b o e hx
    exact free b o' (neC b o e hx) e1 (I.base.free b o e n hx)
  · obtain ⟨o', e1⟩ := I.base.there b o e hx
    exact there b o' (neC b o e hx) e1
  · obtain ⟨m1, e1⟩ := I.base.tbls b ps e
    obtain ⟨m2, e2⟩ := tbls b _ e1
    exact ⟨m1 ++ m2, by rw [e2, Array.append_assoc]⟩
  · obtain ⟨m, hn, hl⟩ := I.loc
    refine ⟨m, ns m hn, fun i x v e1 e2 e3 => ?_⟩
    obtain ⟨u, r, l⟩ := hl i x v e1 e2 e3
    refine ⟨u, r, ?_⟩
    rcases l with l | ⟨k, c, e, z⟩
    · exact .inl l
    · exact .inr ⟨k, c, e, cellK x c e _ z⟩
  · obtain ⟨v, z⟩ := I.cell x c e
    exact ⟨v, cellK x c e v z⟩
  · obtain ⟨m, ⟨o, _, _, ho, _⟩, _⟩ := I.loc
    exact free _ o (fun z => (hch _ z).2.1 rfl) ho I.free
  · obtain ⟨v, o, ho, hd⟩ := I.cell x c e
    exact free c o (fun z => (hch c z).2.2.1 x c e rfl) ho (I.freeC x c e)
  · obtain ⟨e, n, ne, nf, d⟩ := I.pin p hp
    have nch : p.1 ∉ ch := fun z => (hch p.1 z).2.2.2 p hp rfl
    exact ⟨keep p.1 p.2 ne nf nch e n, free p.1 p.2 nch e n, ne, nf, d⟩
/-- .. where the frame's own object is kept too -/
theorem Inv.un {t' : Nat} (I : Inv X pins σ H s) (u : Un X.fs [] H H' s.heap h') (hok : HOk X.prog X.w H' h') : Inv X pins σ H' { s with heap := h', toks := t' } := by
  obtain ⟨m, ⟨o, es, ep, ho, r⟩, _⟩ := id I.loc
  obtain ⟨sl, hL⟩ := u.any ho I.free (by simp)
  exact I.step (g' := s.gens) (d' := s.drawn) (ch := []) (fun _ z => nomatch z) (fun b o _ hb _ e n => u.keep b o e n hb (by simp)) (fun b o _ hb _ e n => u.slot b o e n hb (by simp)) (fun b o _ e n => u.free b o e n (by simp)) (fun b o _ e => u.there b o e (by simp)) u.tups u.frzs u.tbls (fun m' hm => by
    obtain ⟨o', es', ep', ho', r'⟩ := hm
    rw [ho] at ho'; cases ho'
    exact ⟨_, es', ep', hL, r'⟩) hok I.bare
/-- behind a call (or a comprehension's block): the slots of this frame may have changed too, the records at ch may have turned -/
theorem Inv.call {g' : Array GenState} {t' : Nat} {d' : Drawn} {ch : List Addr} (I : Inv X pins σ H s) (u : Un (frs X.stack) ch H H' s.heap h') (hok : HOk X.prog X.w H' h') (hg : AllBare g')
    (hch : ∀ b ∈ ch, (b ∈ X.ex ∨ X.s₀.heap.objs.size ≤ b) ∧ b ≠ X.env.locals ∧ (∀ x c, X.env.cells.lookup x = some c → c ≠ b) ∧ ∀ p ∈ X.pn ++ pins, p.1 ≠ b) :
    Inv X pins σ H' { s with heap := h', gens := g', drawn := d', toks := t' } := by
  obtain ⟨m, ⟨o, es, ep, ho, r⟩, _⟩ := id I.loc
  obtain ⟨sl, hL⟩ := u.any ho I.free fun z => (hch _ z).2.1 rfl
  exact I.step (ch := ch) hch (fun b o hL hb hc e n => u.keep b o e n (fun z => (List.mem_cons.mp (I.stkSub b z)).elim hL hb) hc) (fun b o _ _ hc e n => u.any e n hc) (fun b o hc e n => u.free b o e n hc) (fun b o hc e => u.there b o e hc) u.tups u.frzs u.tbls (fun m' hm => by
    obtain ⟨o', es', ep', ho', r'⟩ := hm
    rw [ho] at ho'; cases ho'
    exact ⟨_, es', ep', hL, r'⟩) hok hg
/-- an untracked record of ours (an iterator) has turned -/
theorem Inv.turned {t' : Nat} {it : Addr} (I : Inv X pins σ H s) (k : ∀ b o, b ≠ it → s.heap.get? b = some o → h'.get? b = some o) (hn : H it = none) (hL : it ≠ X.env.locals)
    (h1 : it ∈ X.ex ∨ X.s₀.heap.objs.size ≤ it) (h2 : ∀ x c, X.env.cells.lookup x = some c → c ≠ it) (h3 : ∀ p ∈ X.pn ++ pins, p.1 ≠ it) : Inv X pins σ H { s with heap := h', toks := t' } := by
  have nit : ∀ b u, H b = some u → b ≠ it := fun b u e z => by rw [z, hn] at e; cases e
  refine I.step (g' := s.gens) (d' := s.drawn) (ch := [it]) (fun b hb => ?_) (fun b o _ _ hc e _ => k b o (fun z => hc (by simp [z])) e) (fun b o _ _ hc e _ => ⟨o.slots, k b o (fun z => hc (by simp [z])) e⟩) (fun _ _ _ _ n => n)
    (fun b o hc e => ⟨o, k b o (fun z => hc (by simp [z])) e⟩) (fun _ _ e => e) (fun _ _ _ e => e) (fun b ps e => ⟨#[], by rw [e]; simp⟩) (fun m hm => ?_) (fun b u e => ?_) I.bare
  · have e : b = it := by simpa using hb
    subst e
    exact ⟨h1, hL, h2, h3⟩
  · obtain ⟨o, es, ep, ho, r⟩ := hm
    exact ⟨o, es, ep, k _ o (Ne.symm hL) ho, r⟩
  · refine (I.hok b u e).stay (fun c v hc q => k c v ?_ q) (fun _ q => q) fun _ _ q => q
    rcases hc with z | z
    · rw [z]; exact nit b u e
    · exact nit c _ z
theorem Inv.tok (I : Inv X pins σ H s) (t : Nat) : Inv X pins σ H { s with toks := t } := I.un (h' := s.heap) (t' := t) Un.refl I.hok
/-- all objects kept -/
theorem Inv.kept {t' : Nat} (I : Inv X pins σ H s) (k : ∀ b u, s.heap.get? b = some u → h'.get? b = some u) : Inv X pins σ H { s with heap := h', toks := t' } := I.un (Un.kept k) (I.hok.kept k)
/-- a new object laid and tracked -/
theorem Inv.laid {a : Addr} {o : HO} {t' : Nat} (I : Inv X pins σ H s) (k : ∀ b u, s.heap.get? b = some u → h'.get? b = some u) (hp : s.heap.objs.size ≤ a) (new : ObjOk X.prog X.w (upd H a o) h' a o) :
    Inv X pins σ (upd H a o) { s with heap := h', toks := t' } := I.un (Un.laid k hp (I.hok.fresh hp)) (I.hok.laid k hp new)
/-- an object written -/
theorem Inv.write {x e : Addr} {o : HO} {t' : Nat} (I : Inv X pins σ H s) (mu : Mut (H x)) (he : e = x ∨ H e = some (.own x)) (k : ∀ b u, b ≠ e → s.heap.get? b = some u → h'.get? b = some u) (heo : ∃ u, h'.get? e = some u)
    (new : ObjOk X.prog X.w (upd H x o) h' x o) : Inv X pins σ (upd H x o) { s with heap := h', toks := t' } := I.un (Un.write mu he k heo) (I.hok.write mu he k heo new)
theorem Inv.pins_of {pins' : List (Addr × Obj)} (I : Inv X pins σ H s) (h : ∀ p ∈ pins', s.heap.get? p.1 = some p.2 ∧ H p.1 = none ∧ p.1 ≠ X.env.locals ∧ p.1 ∉ X.fs ∧ ∀ v, p.2.data ≠ .cell v) : Inv X pins' σ H s :=
  ⟨I.ok, I.os, I.bare, I.base, I.loc, I.cell, I.free, I.freeC, fun p hp => (List.mem_append.mp hp).elim (fun z => I.pin p (List.mem_append_left _ z)) (h p), I.hok, I.len⟩

theorem nodup_ix {N : List Str} (hN : N.Nodup) {i j : Nat} {x : Str} (a : N[i]? = some x) (b : N[j]? = some x) : i = j := by
  obtain ⟨h1, e1⟩ := List.getElem?_eq_some_iff.mp a
  obtain ⟨h2, e2⟩ := List.getElem?_eq_some_iff.mp b
  exact (List.getElem_inj hN).mp (e1.trans e2.symm)

/-- a name is stored; what changed -/
theorem store_ok2 {M : Model} {A : Around} {E : Value → Shared → Prop} {i : Nat} {x : Str} {v : V} {u : Value} {Q : Unit → Shared → Prop} (I : Inv X pins σ H s) (hN : X.N.Nodup) (hi : X.N[i]? = some x) (hx : Loc X.env.scope x) (r : RelV v u)
    (h : ∀ s', Inv X pins (σ.set i (some v)) H s' → (∃ a, Heap.SameBut a s.heap s'.heap ∧ (a = X.env.locals ∨ X.env.cells.lookup x = some a)) → Q () s') (hf : X.fn x = true ∨ X.env.scope.names.lookup x = some .local := by first | exact .inl rfl | exact .inr rfl | assumption) : wpAny M A (storeName X.env x u) Q E s := by
  obtain ⟨m, hn, hl⟩ := id I.loc
  have hcls : (X.env.scope.kind == .class || (X.env.scope.kind == .module && X.env.locals != X.env.globals)) = false := by rw [I.ok.kind]; rfl
  have hiσ : i < σ.length := by rw [I.len]; exact (List.getElem?_eq_some_iff.mp hi).1
  have cne := I.cne
  have tracked : ∀ {a : Addr} {h' : Heap}, (∃ o, s.heap.get? a = some o ∧ H a = none) → Heap.SameBut a s.heap h' → HOk X.prog X.w H h' := fun {a h'} ha hs b ob e => by
    obtain ⟨_, _, hfree⟩ := ha
    refine (I.hok b ob e).stay (fun c w' hc q => (hs.2 c ?_).trans q) (fun _ q => q) fun _ _ q => q
    rintro rfl
    rcases hc with rfl | hc
    · rw [hfree] at e; cases e
    · rw [hfree] at hc; cases hc
  rcases hx with hk | hk
  · refine wpAny_storeName_local hk hn (fun h' hn' hs => ?_) hcls
    obtain ⟨oL, _, _, hoL, _⟩ := id hn
    refine h _ ⟨I.ok, I.os, I.bare, ⟨fun b o e n hb hx => ?_, fun b o e n hb hx => ?_, I.base.free, fun b o e hx => ?_, I.base.tups, I.base.frzs, I.base.tbls⟩, ⟨_, hn', fun j y v' e1 e2 e3 => ?_⟩, fun y c e => ?_, I.free, I.freeC, fun p hp => ?_, tracked ⟨oL, hoL, I.free⟩ hs, by simpa using I.len⟩ ⟨_, hs, .inl rfl⟩
    · exact (hs.2 b (Nat.ne_of_lt (Nat.lt_of_lt_of_le (Heap.lt_size e) I.ok.above))).trans (I.base.keep b o e n hb hx)
    · obtain ⟨sl, e1⟩ := I.base.slot b o e n hb hx
      exact ⟨sl, (hs.2 b (Nat.ne_of_lt (Nat.lt_of_lt_of_le (Heap.lt_size e) I.ok.above))).trans e1⟩
    · obtain ⟨o', e1⟩ := I.base.there b o e hx
      exact ⟨o', (hs.2 b (Nat.ne_of_lt (Nat.lt_of_lt_of_le (Heap.lt_size e) I.ok.above))).trans e1⟩
    · by_cases hj : j = i
      · subst hj
        rw [hi] at e1; cases e1
        rw [List.getElem?_set_self hiσ] at e2
        cases e2
        exact ⟨u, r, .inl ⟨hk, by simp⟩⟩
      · rw [List.getElem?_set_ne (Ne.symm hj)] at e2
        obtain ⟨u', r', q⟩ := hl j y v' e1 e2 e3
        refine ⟨u', r', ?_⟩
        rcases q with ⟨k, e⟩ | ⟨k, c, e, z⟩
        · refine .inl ⟨k, ?_⟩
          have : y ≠ x := fun e => hj (nodup_ix hN e1 (e ▸ hi))
          simp [this, e]
        · exact .inr ⟨k, c, e, z.sameBut hs (cne y c e)⟩
    · obtain ⟨w', z⟩ := I.cell y c e
      exact ⟨w', z.sameBut hs (cne y c e)⟩
    · obtain ⟨e, n, ne, nf, d⟩ := I.pin p hp
      exact ⟨(hs.2 p.1 ne).trans e, n, ne, nf, d⟩
  · have hfn : X.fn x = true := by
      rcases hf with z | z
      · exact z
      · rw [z] at hk; cases hk
    obtain ⟨c, hc⟩ := I.ok.has x (.inl hk)
    obtain ⟨w', z⟩ := I.cell x c hc
    refine wpAny_storeName_cell I.ok.kind hk hc z (fun h' hc' hs => ?_)
    obtain ⟨oc, hoc, hocd⟩ := id z
    refine h { s with heap := h' } ⟨I.ok, I.os, I.bare, ⟨fun b o e n hb hx => ?_, fun b o e n hb hx => ?_, I.base.free, fun b o e hx => ?_, I.base.tups, I.base.frzs, I.base.tbls⟩, ⟨m, hn.sameBut hs (Ne.symm (cne x c hc)), fun j y v' e1 e2 e3 => ?_⟩, fun y c' e => ?_, I.free, I.freeC, fun p hp => ?_, tracked ⟨oc, hoc, I.freeC x c hc⟩ hs, by simpa using I.len⟩ ⟨c, hs, .inr hc⟩
    · exact (hs.2 b (Nat.ne_of_lt (Nat.lt_of_lt_of_le (Heap.lt_size e) (I.ok.cab x c hfn hc)))).trans (I.base.keep b o e n hb hx)
    · obtain ⟨sl, e1⟩ := I.base.slot b o e n hb hx
      exact ⟨sl, (hs.2 b (Nat.ne_of_lt (Nat.lt_of_lt_of_le (Heap.lt_size e) (I.ok.cab x c hfn hc)))).trans e1⟩
    · obtain ⟨o', e1⟩ := I.base.there b o e hx
      exact ⟨o', (hs.2 b (Nat.ne_of_lt (Nat.lt_of_lt_of_le (Heap.lt_size e) (I.ok.cab x c hfn hc)))).trans e1⟩
    · by_cases hj : j = i
      · subst hj
        rw [hi] at e1; cases e1
        rw [List.getElem?_set_self hiσ] at e2
        cases e2
        exact ⟨u, r, .inr ⟨.inl hk, c, hc, hc'⟩⟩
      · rw [List.getElem?_set_ne (Ne.symm hj)] at e2
        obtain ⟨u', r', q⟩ := hl j y v' e1 e2 e3
        refine ⟨u', r', ?_⟩
        rcases q with q | ⟨k, c', e, z'⟩
        · exact .inl q
        · refine .inr ⟨k, c', e, z'.sameBut hs ?_⟩
          rintro rfl
          exact hj (nodup_ix hN e1 (I.ok.inj _ _ _ e hc ▸ hi))
    · by_cases hcc : c' = c
      · subst hcc; exact ⟨_, hc'⟩
      · obtain ⟨w2, z2⟩ := I.cell y c' e
        exact ⟨w2, z2.sameBut hs hcc⟩
    · obtain ⟨e, n, ne, nf, d⟩ := I.pin p hp
      refine ⟨(hs.2 p.1 ?_).trans e, n, ne, nf, d⟩
      intro q
      rw [q, hoc] at e
      have q' : oc = p.2 := Option.some.inj e
      exact d w' (by rw [← q']; exact hocd)
theorem store_ok {M : Model} {A : Around} {E : Value → Shared → Prop} {i : Nat} {x : Str} {v : V} {u : Value} {Q : Unit → Shared → Prop} (I : Inv X pins σ H s) (hN : X.N.Nodup) (hi : X.N[i]? = some x) (hx : Loc X.env.scope x) (r : RelV v u)
    (h : ∀ s', Inv X pins (σ.set i (some v)) H s' → Q () s') (hf : X.fn x = true ∨ X.env.scope.names.lookup x = some .local := by first | exact .inl rfl | exact .inr rfl | assumption) : wpAny M A (storeName X.env x u) Q E s :=
  store_ok2 I hN hi hx r (fun s' I' _ => h s' I') hf
/-- behind a call or a block, the state as it is -/
theorem Inv.call' {s' : Shared} {ch : List Addr} (I : Inv X pins σ H s) (ho : s'.os = s.os) (u : Un (frs X.stack) ch H H' s.heap s'.heap) (hok : HOk X.prog X.w H' s'.heap) (hg : AllBare s'.gens)
    (hch : ∀ b ∈ ch, (b ∈ X.ex ∨ X.s₀.heap.objs.size ≤ b) ∧ b ≠ X.env.locals ∧ (∀ x c, X.env.cells.lookup x = some c → c ≠ b) ∧ ∀ p ∈ X.pn ++ pins, p.1 ≠ b) : Inv X pins σ H' s' := by
  obtain ⟨h', g', d', t', o'⟩ := s'
  have e : o' = s.os := ho
  subst e
  exact I.call (g' := g') (t' := t') (d' := d') u hok hg hch
end

/-! ### the judgements -/
/-- an exception: its class, its own dict's address (where it has one), the abstract heap behind it -/
abbrev XK := Value → Option Addr → Hp → Prop
abbrev St := List (Option V)
abbrev VK := V → Hp → Prop
/-- an expression's reading; a test's; an argument list's -/
abbrev TE := St → Hp → VK → Prop
abbrev TT := St → Hp → (Bool → Hp → Prop) → Prop
abbrev TA := St → Hp → (List V → Hp → Prop) → Prop
/-- what is wanted behind a statement -/
structure Ends where
  nx : St → Hp → Prop
  rt : VK
  bk : St → Hp → Prop := fun _ _ => False
  ct : St → Hp → Prop := fun _ _ => False
abbrev TS := Ends → St → Hp → Prop

noncomputable def EP (X : Cx) (pins : List (Addr × Obj)) (σ : St) (Q : VK) (u : Value) (s' : Shared) : Prop := ∃ v H', Inv X pins σ H' s' ∧ RelV v u ∧ Q v H'
noncomputable def TP (X : Cx) (pins : List (Addr × Obj)) (σ : St) (Q : Bool → Hp → Prop) (b : Bool) (s' : Shared) : Prop := ∃ H', Inv X pins σ H' s' ∧ Q b H'
noncomputable def AP (X : Cx) (pins : List (Addr × Obj)) (σ : St) (Q : List V → Hp → Prop) (us : List Value) (s' : Shared) : Prop := ∃ vs H', Inv X pins σ H' s' ∧ Vals vs us ∧ Q vs H'
noncomputable def SP (X : Cx) (pins : List (Addr × Obj)) (D : Ends) (f : Flow) (s' : Shared) : Prop :=
  match f with
  | .next => ∃ σ' H', Inv X pins σ' H' s' ∧ D.nx σ' H'
  | .brk => ∃ σ' H', Inv X pins σ' H' s' ∧ D.bk σ' H'
  | .cont => ∃ σ' H', Inv X pins σ' H' s' ∧ D.ct σ' H'
  | .ret u => ∃ v σ' H', Inv X pins σ' H' s' ∧ RelV v u ∧ D.rt v H'

noncomputable def PE (X : Cx) (e : Expr) (t : TE) : Prop :=
  ∀ (pins : List (Addr × Obj)) (s : Shared) (σ : St) (H : Hp) (Q : VK), Inv X pins σ H s → t σ H Q → wpAny (model X.prog X.w) X.A (eval e X.env) (EP X pins σ Q) X.xe s
noncomputable def PT (X : Cx) (e : Expr) (t : TT) : Prop :=
  ∀ (pins : List (Addr × Obj)) (s : Shared) (σ : St) (H : Hp) (Q : Bool → Hp → Prop), Inv X pins σ H s → t σ H Q → wpAny (model X.prog X.w) X.A (isTrue e X.env (eval e X.env)) (TP X pins σ Q) X.xe s
/-- a test whatever its 'whole' is (and, or) -/
noncomputable def PW (X : Cx) (e : Expr) (t : TT) : Prop :=
  ∀ (whole : Sem Value) (pins : List (Addr × Obj)) (s : Shared) (σ : St) (H : Hp) (Q : Bool → Hp → Prop), Inv X pins σ H s → t σ H Q → wpAny (model X.prog X.w) X.A (isTrue e X.env whole) (TP X pins σ Q) X.xe s
theorem PW.pt {X : Cx} {e : Expr} {t : TT} (h : PW X e t) : PT X e t := h _
/-- an argument list (no star), from the left -/
noncomputable def PA (X : Cx) (es : List Expr) (t : TA) : Prop :=
  ∀ (pos : Pos) (pins : List (Addr × Obj)) (s : Shared) (σ : St) (H : Hp) (Q : List V → Hp → Prop), Inv X pins σ H s → t σ H Q → wpAny (model X.prog X.w) X.A (spliced (backTo pos (starEach es X.env))) (AP X pins σ Q) X.xe s
noncomputable def PS (X : Cx) (st : Stmt) (t : TS) : Prop :=
  ∀ (pins : List (Addr × Obj)) (s : Shared) (σ : St) (H : Hp) (D : Ends), Inv X pins σ H s → t D σ H → wpAny (model X.prog X.w) X.A (exec st X.env) (SP X pins D) X.xe s
noncomputable def PSs (X : Cx) (st : List Stmt) (t : TS) : Prop :=
  ∀ (pins : List (Addr × Obj)) (s : Shared) (σ : St) (H : Hp) (D : Ends), Inv X pins σ H s → t D σ H → wpAny (model X.prog X.w) X.A (execs st X.env) (SP X pins D) X.xe s
/-- weaken the end -/
theorem thn {α : Type} {t : Sem α} {Q Q' : α → Shared → Prop} {M : Model} {A : Around} {E : Value → Shared → Prop} {s : Shared} (h : wpAny M A t Q E s) (hQ : ∀ a s, Q a s → Q' a s) : wpAny M A t Q' E s := wpAny_mono h hQ fun _ _ x => x
end L2

namespace L2
open PySem PySem.Spec PyProof.Rows
section
variable {X : Cx}

/-! ### names and constants -/
noncomputable def tVar (i : Nat) : TE := fun σ H Q => ∃ v, σ[i]? = some (some v) ∧ Q v H
noncomputable def tC (v : V) : TE := fun _ H Q => Q v H
theorem pe_var {i : Nat} {x : Str} {pos : Pos} (hN : X.N[i]? = some x) (hv : Vis X.env.scope x) (hd : (x == ("__debug__" : Str)) = false := by decide) (hcd : (x == ("__classdict__" : Str)) = false := by decide) : PE X (.Name x pos) (tVar i) := by
  intro pins s σ H Q I h
  obtain ⟨v, e, h⟩ := h
  obtain ⟨m, hn, hl⟩ := I.loc
  obtain ⟨u, r, l⟩ := hl i x v hN e hv
  have fin : EP X pins σ Q u s := ⟨v, H, I, r, h⟩
  rcases l with ⟨hk, hm⟩ | ⟨hk, c, hc, hcell⟩
  · exact wpAny_Name (wpAny_loadName_local I.ok.kind hk hn hm fin) hd
  · rcases hk with hk | hk
    · exact wpAny_Name (wpAny_loadName_cell I.ok.kind hk hc hcell fin) hd
    · exact wpAny_Name (wpAny_loadName_free I.ok.kind hk hc hcell fin hcd) hd
theorem pe_int {i j pos} : PE X (.Constant (.int i) j pos) (tC (.int i)) := fun _ _ _ H _ I h => wpAny_Constant_int ⟨.int i, H, I.tok _, ⟨_, rfl⟩, h⟩
theorem pe_bl {b j pos} : PE X (.Constant (.bool b) j pos) (tC (.bl b)) := fun _ _ _ H _ I h => Constant_bool ⟨.bl b, H, I, rfl, h⟩
theorem pe_str {x j pos} : PE X (.Constant (.str x) j pos) (tC (.str x)) := fun _ _ _ H _ I h => Calls.Constant_str ⟨.str x, H, I.tok _, ⟨_, rfl⟩, h⟩

/-- a global name of the def -/
noncomputable def Gl (X : Cx) (x : Str) : Prop := X.env.kindOf x = some .globalImplicit
theorem ld_glob {E : Value → Shared → Prop} {pins : List (Addr × Obj)} {s : Shared} {σ : St} {H : Hp} {x : Str} {u : Value} {pos : Pos} {Q : Value → Shared → Prop} (I : Inv X pins σ H s) (hg : Gl X x) (hm : X.mg x = some u) (h : Q u s)
    (hd : (x == ("__debug__" : Str)) = false := by decide) : wpAny (model X.prog X.w) X.A (eval (.Name x pos) X.env) Q E s :=
  Calls.Name_function_global I.ok.kind hg (Calls.loadGlobal_global (by rw [I.ok.glob]; exact I.mod.glob.keeps I.bk) hm h) hd
theorem ld_blt {E : Value → Shared → Prop} {pins : List (Addr × Obj)} {s : Shared} {σ : St} {H : Hp} {x : Str} {u : Value} {pos : Pos} {Q : Value → Shared → Prop} (I : Inv X pins σ H s) (hg : Gl X x) (hm : X.mg x = none) (hv : bootBuiltins x = some u) (h : Q u s)
    (hn : x ≠ "__name__" := by decide) (hd : (x == ("__debug__" : Str)) = false := by decide) : wpAny (model X.prog X.w) X.A (eval (.Name x pos) X.env) Q E s := by
  obtain ⟨mb, h1, h2⟩ := I.mod.blt
  exact Calls.Name_function_global I.ok.kind hg (Calls.loadGlobal_builtin (by rw [I.ok.glob]; exact I.mod.glob.keeps I.bk) hm (by rw [I.ok.blt]; exact h1.keeps I.bk) ((h2 x hn).trans hv) h) hd
/-! ### arithmetic -/
variable {a b : Expr} {ta tb : TE} {pos : Pos}
/-! ### comparisons -/
/-- a comparison as a value, as a test -/
noncomputable def tB (t : TE) : TT := fun σ H Q => t σ H fun x H1 => ∃ c, x = .bl c ∧ Q c H1
/-- an expression whose value is a bool, as a test -/
theorem pt_val {e : Expr} {t : TE} (h : PE X e t) (he : ∀ whole, isTrue e X.env whole = (do let v ← whole; standAt e.pos; holding [v] (truthy v)) := by intro _; rfl) : PT X e (tB t) := by
  intro pins s σ H Q I hw
  refine isTrue_plain (thn (h pins s σ H _ I hw) fun v s1 ⟨x, H1, I1, r1, q1⟩ => ?_) (he _)
  obtain ⟨d, rfl, q⟩ := q1
  cases r1
  exact wpAny_truthy_bool ⟨H1, I1, q⟩

/-! ### and, or, not -/
variable {tA tB' : TT} {rest : List Expr}
noncomputable def tOr (t u : TT) : TT := fun σ H Q => t σ H fun c H1 => if c = true then Q true H1 else u σ H1 Q
noncomputable def tNot (t : TT) : TT := fun σ H Q => t σ H fun c H1 => Q (!c) H1
theorem pw_or1 (ha : PT X a tA) : PW X (.BoolOp .Or [a] pos) tA := by
  intro wh pins s σ H Q I h
  refine isTrue_or (thn (ha pins s σ H Q I h) fun c s1 e => ?_)
  cases c with
  | false => exact isTrue_or_nil e
  | true => exact e
theorem pw_or (ha : PT X a tA) (hb : PW X (.BoolOp .Or (b :: rest) pos) tB') : PW X (.BoolOp .Or (a :: b :: rest) pos) (tOr tA tB') := by
  intro wh pins s σ H Q I h
  refine isTrue_or (thn (ha pins s σ H _ I h) fun c s1 ⟨H1, I1, q1⟩ => ?_)
  cases c with
  | true => exact ⟨H1, I1, q1⟩
  | false => exact hb wh pins s1 σ H1 Q I1 q1
theorem pt_not (ha : PT X a tA) : PT X (.UnaryOp .Not a pos) (tNot tA) := by
  intro pins s σ H Q I h
  exact isTrue_not (ha pins s σ H (fun c H1 => Q (!c) H1) I h)
noncomputable def tOrV (ta tb : TE) : TE := fun σ H Q => ta σ H fun x H1 => ∃ c, x = .bl c ∧ if c = true then Q (.bl true) H1 else tb σ H1 Q
theorem pe_one {op} {t : TE} (h : PE X a t) : PE X (.BoolOp op [a] pos) t := fun pins s σ H Q I hw => BoolOp_one (h pins s σ H Q I hw)
theorem pe_or (ha : PE X a ta) (hb : PE X (.BoolOp .Or (b :: rest) pos) tb) : PE X (.BoolOp .Or (a :: b :: rest) pos) (tOrV ta tb) := by
  intro pins s σ H Q I h
  refine BoolOp_or (thn (ha pins s σ H _ I h) fun v s1 ⟨x, H1, I1, r1, q1⟩ => ?_)
  obtain ⟨c, rfl, q1⟩ := q1
  cases r1
  refine wpAny_truthy_bool ?_
  cases c with
  | false => exact hb pins s1 σ H1 Q I1 q1
  | true => exact ⟨.bl true, H1, I1, rfl, q1⟩
/-- a if t else b -/
noncomputable def tIf (t : TT) (ta tb : TE) : TE := fun σ H Q => t σ H fun c H1 => if c = true then ta σ H1 Q else tb σ H1 Q
theorem pe_ifExp {c : Expr} (hc : PT X c tA) (ha : PE X a ta) (hb : PE X b tb) : PE X (.IfExp c a b pos) (tIf tA ta tb) := by
  intro pins s σ H Q I h
  refine wpAny_IfExp (thn (hc pins s σ H _ I h) fun d s1 ⟨H1, I1, q1⟩ => ?_)
  cases d with
  | true => exact ha pins s1 σ H1 Q I1 q1
  | false => exact hb pins s1 σ H1 Q I1 q1
end
end L2

namespace L2
open PySem PySem.Spec PyProof.Rows

/-! ### a list, a tuple that is read: tracked, frozen, or an object of the module -/
noncomputable def SqL (K : PySem.W.Frag) (H : Hp) (a : Addr) (xs : List V) : Prop :=
  Rd H a (.lst xs) ∨
    ∃ (o : Obj) (its : Array Value) (n : Nat), K.lookup a = some o ∧ o.cls = .type "list" ∧ o.dict = none ∧ o.data = .seq its n ∧ its.size ≤ sizeLine ∧ Vals xs its.toList
noncomputable def SqT (K : PySem.W.Frag) (H : Hp) (a : Addr) (xs : List V) : Prop :=
  Rd H a (.tup xs) ∨
    ∃ (o : Obj) (its : Array Value) (n : Nat), K.lookup a = some o ∧ o.cls = .type "tuple" ∧ o.data = .seq its n ∧ its.size ≤ sizeLine ∧ Vals xs its.toList
noncomputable def absV : Value → Option V
  | .none => some .non
  | .bool b => some (.bl b)
  | .int i _ => some (.int i)
  | .str x _ => some (.str x)
  | .bytes b _ => some (.byt b)
  | .float b _ => some (.flt b)
  | .ref a => some (.ref a)
  | .type n => some (.ty n)
  | _ => none
theorem RelV.abs {x : V} {u : Value} (r : RelV x u) : absV u = some x := by
  cases x with
  | non => cases r; rfl
  | bl _ => cases r; rfl
  | int _ => obtain ⟨t, rfl⟩ := r; rfl
  | str _ => obtain ⟨t, rfl⟩ := r; rfl
  | byt _ => obtain ⟨t, rfl⟩ := r; rfl
  | flt _ => obtain ⟨t, rfl⟩ := r; rfl
  | ref _ => cases r; rfl
  | ty _ => cases r; rfl
theorem RelV.inj {x y : V} {u : Value} (r : RelV x u) (q : RelV y u) : x = y := Option.some.inj (r.abs.symm.trans q.abs)
theorem Vals.inj : ∀ {xs ys : List V} {us : List Value}, Vals xs us → Vals ys us → xs = ys
  | _, _, _, .nil, .nil => rfl
  | _, _, _, .cons r t, .cons r' t' => by rw [r.inj r', Vals.inj t t']
section
variable {X : Cx} {pins : List (Addr × Obj)} {σ : St} {H : Hp} {s : Shared} {a : Addr} {xs ys : List V}
theorem SqL.of {K : PySem.W.Frag} (h : H a = some (.lst xs)) : SqL K H a xs := .inl (.inl h)
theorem SqT.of {K : PySem.W.Frag} (h : H a = some (.tup xs)) : SqT K H a xs := .inl (.inl h)
theorem Inv.list (I : Inv X pins σ H s) (h : SqL X.K H a xs) : ∃ its : List Value, Vals xs its ∧ PlainL s.heap a its.toArray ∧ xs.length ≤ sizeLine := by
  rcases h with h | ⟨o, its, n, hk, hc, hd, hs, hz, r⟩
  · obtain ⟨z, its, n, r, e⟩ := h.ok I.hok
    exact ⟨its, r, ⟨_, n, e, rfl, rfl, rfl⟩, z⟩
  · refine ⟨its.toList, r, ⟨o, n, I.kIn a o hk, hc, hd, by simpa using hs⟩, ?_⟩
    have e := r.length
    simp only [Array.length_toList] at e
    omega
theorem Inv.tuple (I : Inv X pins σ H s) (h : SqT X.K H a xs) : ∃ its : List Value, Vals xs its ∧ IsTup s.heap a its.toArray ∧ xs.length ≤ sizeLine := by
  rcases h with h | ⟨o, its, n, hk, hc, hs, hz, r⟩
  · obtain ⟨z, its, r, p⟩ := h.ok I.hok
    exact ⟨its, r, p, z⟩
  · refine ⟨its.toList, r, ⟨o, I.kIn a o hk, hc, n, by simpa using hs⟩, ?_⟩
    have e := r.length
    simp only [Array.length_toList] at e
    omega
theorem Inv.list_inj (I : Inv X pins σ H s) (h : SqL X.K H a xs) (h' : SqL X.K H a ys) : xs = ys := by
  obtain ⟨its, r, ⟨o, n, e, _, _, d⟩, _⟩ := I.list h
  obtain ⟨its', r', ⟨o', n', e', _, _, d'⟩, _⟩ := I.list h'
  rw [e] at e'; cases e'
  rw [d] at d'
  injection d' with d1 _
  have : its = its' := by simpa using congrArg Array.toList d1
  subst this
  exact r.inj r'
theorem Inv.tuple_inj (I : Inv X pins σ H s) (h : SqT X.K H a xs) (h' : SqT X.K H a ys) : xs = ys := by
  obtain ⟨its, r, ⟨o, e, _, n, d⟩, _⟩ := I.tuple h
  obtain ⟨its', r', ⟨o', e', _, n', d'⟩, _⟩ := I.tuple h'
  rw [e] at e'; cases e'
  rw [d] at d'
  injection d' with d1 _
  have : its = its' := by simpa using congrArg Array.toList d1
  subst this
  exact r.inj r'
end

/-! ### another wish about exceptions -/
abbrev Cx.wish (X : Cx) (E : Value → Shared → Prop) : Cx := { X with xe := E }
/-- no exception leaves -/
abbrev Cx.nox (X : Cx) : Cx := X.wish fun _ _ => False
theorem Cx.Ok.wish {X : Cx} (ok : X.Ok) (E : Value → Shared → Prop) : (X.wish E).Ok :=
  ⟨ok.mod, ok.kind, ok.glob, ok.blt, ok.above, ok.inj, ok.has, ok.cab, ok.hd, ok.frames, ok.stk, ok.exf, ok.bs, ok.bsz, ok.noex, ok.exfs, ok.funs, ok.frf⟩
theorem Cx.Ok.unwish {X : Cx} {E : Value → Shared → Prop} (ok : (X.wish E).Ok) : X.Ok :=
  ⟨ok.mod, ok.kind, ok.glob, ok.blt, ok.above, ok.inj, ok.has, ok.cab, ok.hd, ok.frames, ok.stk, ok.exf, ok.bs, ok.bsz, ok.noex, ok.exfs, ok.funs, ok.frf⟩
section
variable {X : Cx} {pins : List (Addr × Obj)} {σ : St} {H : Hp} {s : Shared} {E : Value → Shared → Prop}
theorem Inv.wish (I : Inv X pins σ H s) (E : Value → Shared → Prop) : Inv (X.wish E) pins σ H s := ⟨I.ok.wish E, I.os, I.bare, I.base, I.loc, I.cell, I.free, I.freeC, I.pin, I.hok, I.len⟩
theorem Inv.unwish (I : Inv (X.wish E) pins σ H s) : Inv X pins σ H s := ⟨I.ok.unwish, I.os, I.bare, I.base, I.loc, I.cell, I.free, I.freeC, I.pin, I.hok, I.len⟩
theorem SP.unwish {D : Ends} {f : Flow} {s' : Shared} (h : SP (X.wish E) pins D f s') : SP X pins D f s' := by
  cases f with
  | next => obtain ⟨σ', H', I, q⟩ := h; exact ⟨σ', H', I.unwish, q⟩
  | brk => obtain ⟨σ', H', I, q⟩ := h; exact ⟨σ', H', I.unwish, q⟩
  | cont => obtain ⟨σ', H', I, q⟩ := h; exact ⟨σ', H', I.unwish, q⟩
  | ret u => obtain ⟨v, σ', H', I, r, q⟩ := h; exact ⟨v, σ', H', I.unwish, r, q⟩
theorem PSs.nox {st : List Stmt} {t : TS} (h : PSs X.nox st t) : PSs X st t := fun pins s σ H D I hw =>
  wpAny_mono (h pins s σ H D (I.wish _) hw) (fun _ _ q => q.unwish) fun _ _ z => False.elim z
end

/-! ### blocks and small statements -/
section
variable {X : Cx} {st : Stmt} {rest : List Stmt} {t u : TS} {e : Expr} {te : TE} {pos : Pos}
noncomputable def tNext : TS := fun D σ H => D.nx σ H
noncomputable def tSeq (t u : TS) : TS := fun D σ H => t { D with nx := u D } σ H
theorem pss_nil : PSs X [] tNext := fun _ _ σ H _ I h => wpAny_execs_nil ⟨σ, H, I, h⟩
theorem pss_cons (h1 : PS X st t) (h2 : PSs X rest u) : PSs X (st :: rest) (tSeq t u) := by
  intro pins s σ H D I h
  refine wpAny_execs_cons (thn (h1 pins s σ H { D with nx := u D } I h) fun f s1 q => ?_)
  cases f with
  | next =>
    obtain ⟨σ', H', I', q⟩ := q
    exact h2 pins s1 σ' H' D I' q
  | ret v => exact q
  | brk => exact q
  | cont => exact q
theorem pss_one (h1 : PS X st t) : PSs X [st] t := by
  intro pins s σ H D I h
  refine wpAny_execs_cons (thn (h1 pins s σ H D I h) fun f s1 q => ?_)
  cases f with
  | next => exact wpAny_execs_nil q
  | ret v => exact q
  | brk => exact q
  | cont => exact q
noncomputable def tCont : TS := fun D σ H => D.ct σ H
theorem ps_continue : PS X (.Continue pos) tCont := fun _ _ σ H _ I h => wpAny_Continue ⟨σ, H, I, h⟩
/-- in a def's body nothing is shown -/
theorem Inv.quiet {pins : List (Addr × Obj)} {σ : St} {H : Hp} {s : Shared} (I : Inv X pins σ H s) : interactive X.env = false := by simp [interactive, I.ok.kind]
/-- an expression whose value is dropped -/
noncomputable def tDrop (te : TE) : TS := fun D σ H => te σ H fun _ H1 => D.nx σ H1
theorem ps_expr (he : PE X e te) (hs : swapsWith e none pos.line X.env = pure false := by rfl) : PS X (.Expr e pos) (tDrop te) := by
  intro pins s σ H D I h
  exact wpAny_Expr_any (thn (he pins s σ H _ I h) fun v s1 ⟨x, H1, I1, r1, q1⟩ => ⟨σ, H1, I1, q1⟩) I.quiet hs
noncomputable def tRet (te : TE) : TS := fun D σ H => te σ H D.rt
theorem ps_ret (he : PE X e te) : PS X (.Return (some e) pos) (tRet te) := by
  intro pins s σ H D I h
  exact wpAny_Return_some (thn (he pins s σ H _ I h) fun v s1 ⟨x, H1, I1, r1, q1⟩ => ⟨x, σ, H1, I1, r1, q1⟩)
noncomputable def tIfS (c : TT) (t u : TS) : TS := fun D σ H => c σ H fun b H1 => if b = true then t D σ H1 else u D σ H1
theorem ps_if {c : Expr} {a b : List Stmt} {tc : TT} (hc : PT X c tc) (ha : PSs X a t) (hb : PSs X b u) : PS X (.If c a b pos) (tIfS tc t u) := by
  intro pins s σ H D I h
  refine wpAny_If (thn (hc pins s σ H _ I h) fun d s1 ⟨H1, I1, q1⟩ => ?_)
  cases d with
  | true => exact ha pins s1 σ H1 D I1 q1
  | false => exact hb pins s1 σ H1 D I1 q1
end

/-! ### targets -/
abbrev TG := V → St → Hp → (St → Hp → Prop) → Prop
abbrev TGs := List V → St → Hp → (St → Hp → Prop) → Prop
noncomputable def PG (X : Cx) (target : Expr) (t : TG) : Prop :=
  ∀ (pins : List (Addr × Obj)) (s : Shared) (σ : St) (H : Hp) (v : V) (u : Value) (Q : St → Hp → Prop), Inv X pins σ H s → RelV v u → t v σ H Q →
    wpAny (model X.prog X.w) X.A (assign target X.env u) (fun _ s' => ∃ σ' H', Inv X pins σ' H' s' ∧ Q σ' H') X.xe s
/-- several targets, one after another -/
noncomputable def PGs (X : Cx) (ts : List Expr) (t : TGs) : Prop :=
  ∀ (pins : List (Addr × Obj)) (s : Shared) (σ : St) (H : Hp) (vs : List V) (us : List Value) (Q : St → Hp → Prop), Inv X pins σ H s → Vals vs us → t vs σ H Q →
    wpAny (model X.prog X.w) X.A (assignInOrder ((assignEach ts X.env).map (·.2)) us) (fun _ s' => ∃ σ' H', Inv X pins σ' H' s' ∧ Q σ' H') X.xe s
/-- o[i] = v, by values -/
abbrev TSet := V → V → V → Hp → (Hp → Prop) → Prop
noncomputable def PSet (X : Cx) (t : TSet) : Prop :=
  ∀ (pins : List (Addr × Obj)) (s : Shared) (σ : St) (H : Hp) (o i v : V) (ov iv u : Value) (Q : Hp → Prop), Inv X pins σ H s → RelV o ov → RelV i iv → RelV v u → t o i v H Q →
    wpAny (model X.prog X.w) X.A (setItem ov iv u) (fun _ s' => ∃ H', Inv X pins σ H' s' ∧ Q H') X.xe s
section
variable {X : Cx} {pos : Pos}
noncomputable def gName (i : Nat) : TG := fun v σ H Q => Q (σ.set i (some v)) H
theorem pg_name {i : Nat} {x : Str} (hN : X.N.Nodup) (hi : X.N[i]? = some x) (hx : Loc X.env.scope x) (hf : X.fn x = true ∨ X.env.scope.names.lookup x = some .local := by first | exact .inl rfl | exact .inr rfl | assumption) : PG X (.Name x pos) (gName i) := by
  intro pins s σ H v u Q I r h
  exact wpAny_assign_Name (store_ok I hN hi hx r (fun s' I' => ⟨_, H, I', h⟩) hf)
noncomputable def gNil : TGs := fun vs σ H Q => vs = [] ∧ Q σ H
noncomputable def gCons (t : TG) (u : TGs) : TGs := fun vs σ H Q => ∃ v r, vs = v :: r ∧ t v σ H fun σ' H' => u r σ' H' Q
theorem pgs_nil : PGs X [] gNil := by
  intro pins s σ H vs us Q I r h
  obtain ⟨e, h⟩ := h
  subst e
  cases r
  exact assignInOrder_nil ⟨σ, H, I, h⟩
theorem pgs_cons {e : Expr} {es : List Expr} {t : TG} {u : TGs} (h1 : PG X e t) (h2 : PGs X es u)
    (hs : (assignEach (e :: es) X.env).map (·.2) = assign e X.env :: (assignEach es X.env).map (·.2) := by rfl) : PGs X (e :: es) (gCons t u) := by
  intro pins s σ H vs us Q I r h
  obtain ⟨v, vr, e1, h⟩ := h
  subst e1
  cases r with
  | cons r rr =>
    rw [hs]
    refine assignInOrder_cons (thn (h1 pins s σ H _ _ _ I r h) fun _ s1 ⟨σ1, H1, I1, q1⟩ => ?_)
    exact h2 pins s1 σ1 H1 _ _ Q I1 rr q1
/-- (a, b, ..) = a tuple of that length -/
noncomputable def gTup (K : PySem.W.Frag) (n : Nat) (t : TGs) : TG := fun v σ H Q => ∃ a xs, v = .ref a ∧ SqT K H a xs ∧ xs.length = n ∧ t xs σ H Q
theorem pg_tup {es : List Expr} {k : Nat} {t : TGs} {n : Nat} (hc : X.calm = true) (h : PGs X es t)
    (hn : (assignEach es X.env).length = n := by rfl) (hst : (assignEach es X.env).findIdx? (·.1) = none := by rfl) : PG X (.Tuple es k pos) (gTup X.K n t) := by
  intro pins s σ H v u Q I r hw
  obtain ⟨a, xs, e1, hq, hl, hw⟩ := hw
  subst e1
  cases r
  obtain ⟨its, rv, ht, hz⟩ := I.tuple hq
  refine assign_Tuple_tuple (I.ok.hd hc) ht (by simp [hn, ← hl, rv.length]) hst fun h' hx => ?_
  have I1 : Inv X pins σ H { s with heap := h' } := I.kept (t' := s.toks) fun b o e => hx b o (Nat.ne_of_lt (Heap.lt_size e)) e
  exact h pins _ σ H xs _ Q I1 (by simpa using rv) hw
/-- o[i] = .. -/
noncomputable def gSub (to ti : TE) (t : TSet) : TG := fun v σ H Q => to σ H fun o H1 => ti σ H1 fun i H2 => t o i v H2 fun H3 => Q σ H3
theorem pg_sub {o i : Expr} {to ti : TE} {t : TSet} (ho : PE X o to) (hi : PE X i ti) (hs : PSet X t)
    (ha : ∀ v, assign (.Subscript o i pos) X.env v = (do
      let ov ← holding [v] (eval o X.env)
      let iv ← holding [v, ov] (eval i X.env)
      standAt pos
      holding [v, ov, iv] (setItem ov iv v)
      release [v, ov, iv] []) := by intro _; rfl) : PG X (.Subscript o i pos) (gSub to ti t) := by
  intro pins s σ H v u Q I r h
  rw [ha]
  refine wpAny_bind (wpAny_holding (thn (ho pins s σ H _ I h) fun ov s1 ⟨x, H1, I1, r1, q1⟩ => ?_))
  refine wpAny_bind (wpAny_holding (thn (hi pins s1 σ H1 _ I1 q1) fun iv s2 ⟨y, H2, I2, r2, q2⟩ => ?_))
  refine wpAny_bind (wpAny_standAt (wpAny_bind (wpAny_holding (thn (hs pins s2 σ H2 x y v ov iv u _ I2 r1 r2 r q2) fun _ s3 ⟨H3, I3, q3⟩ => ?_))))
  exact wpAny_release ⟨σ, H3, I3, q3⟩
/-- target = value -/
noncomputable def tAsg (te : TE) (g : TG) : TS := fun D σ H => te σ H fun x H1 => g x σ H1 D.nx
theorem ps_asg {tg e : Expr} {te : TE} {g : TG} (he : PE X e te) (hg : PG X tg g) (hs : swapsWithSole [tg] e pos.line X.env = pure false := by rfl) (hw : swappedStores [tg] e X.env = pure none := by rfl)
    (h1 : (assignEach [tg] X.env).map (·.2) = [assign tg X.env] := by rfl) : PS X (.Assign [tg] e pos) (tAsg te g) := by
  intro pins s σ H D I h
  refine wpAny_Assign_stores (thn (he pins s σ H _ I h) fun v s1 ⟨x, H1, I1, r1, q1⟩ => ?_) hs hw
  rw [h1]
  exact thn (hg pins s1 σ H1 x v _ I1 r1 q1) fun _ s2 q => q
/-- name = value -/
theorem ps_set {i : Nat} {x : Str} {e : Expr} {te : TE} {pos' : Pos} (hN : X.N.Nodup) (hi : X.N[i]? = some x) (hx : Loc X.env.scope x) (he : PE X e te) (hs : swapsWith e (some (.Name x pos')) pos.line X.env = pure false := by rfl) (hf : X.fn x = true ∨ X.env.scope.names.lookup x = some .local := by first | exact .inl rfl | exact .inr rfl | assumption) :
    PS X (.Assign [.Name x pos'] e pos) (tAsg te (gName i)) := by
  intro pins s σ H D I h
  refine wpAny_Assign_Name (thn (he pins s σ H _ I h) fun v s1 ⟨y, H1, I1, r1, q1⟩ => ?_) hs
  exact store_ok I1 hN hi hx r1 (fun s2 I2 => ⟨_, H1, I2, q1⟩) hf
end

/-! ### while -/
section
variable {X : Cx} {pos : Pos}
/-- the invariant W with its measure -/
noncomputable def tWhile (c : TT) (tb : TS) : TS := fun D σ H => ∃ W : Nat → St → Hp → Prop, (∃ m, W m σ H) ∧ ∀ m σ H, W m σ H →
  c σ H fun b H1 => if b = true then ∃ N : St → Hp → Prop, (∀ σ' H', N σ' H' → ∃ m', m' < m ∧ W m' σ' H') ∧ tb { D with nx := N, ct := N, bk := D.nx } σ H1 else D.nx σ H1
theorem ps_while {c : Expr} {body : List Stmt} {tc : TT} {tb : TS} (hp : PassesOwn (model X.prog X.w) X.A X.env X.xe) (hc : PT X c tc) (hb : PSs X body tb) : PS X (.While c body [] pos) (tWhile tc tb) := by
  intro pins s σ H D I h
  obtain ⟨W, ⟨m0, w0⟩, turn⟩ := h
  refine wpAny_While (codeAny_whileLoop (fun n s' => ∃ σ' H', Inv X pins σ' H' s' ∧ W n σ' H') ?_ m0 ⟨σ, H, I, w0⟩)
  rintro n s1 ⟨σ1, H1, I1, w1⟩
  refine wpAny_passesOwn hp (thn (hc pins s1 σ1 H1 _ I1 (turn n σ1 H1 w1)) fun b s2 ⟨H2, I2, q2⟩ => ?_)
  cases b with
  | true =>
    obtain ⟨N, hN, q2⟩ := q2
    rw [if_pos rfl]
    refine wpAny_passesOwn hp (thn (hb pins s2 σ1 H2 _ I2 q2) fun f s3 q3 => ?_)
    cases f with
    | next =>
      obtain ⟨σ3, H3, I3, n3⟩ := q3
      obtain ⟨m', hm, w3⟩ := hN σ3 H3 n3
      exact ⟨m', hm, σ3, H3, I3, w3⟩
    | cont =>
      obtain ⟨σ3, H3, I3, n3⟩ := q3
      obtain ⟨m', hm, w3⟩ := hN σ3 H3 n3
      exact ⟨m', hm, σ3, H3, I3, w3⟩
    | brk => exact q3
    | ret v => exact q3
  | false =>
    rw [if_neg Bool.false_ne_true]
    exact wpAny_execs_nil ⟨σ1, H2, I2, q2⟩
end

/-! ### what a loop or a comprehension walks -/
/-- at turn i: it yields x (the heap may grow), or it stops -/
structure It where
  go : Nat → Hp → Prop
  yld : Nat → Hp → V → Hp → Prop
  stop : Nat → Hp → Prop
/-- the iterator's own objects may turn: they are not the frame's, not pinned, younger than the entry (or a comprehension's own) -/
noncomputable def FpOk (X : Cx) (pins : List (Addr × Obj)) (H : Hp) (b : Addr) : Prop :=
  H b = none ∧ b ≠ X.env.locals ∧ b ∉ X.fs ∧ (b ∈ X.ex ∨ X.s₀.heap.objs.size ≤ b) ∧ (∀ x c, X.env.cells.lookup x = some c → c ≠ b) ∧ ∀ p ∈ X.pn ++ pins, p.1 ≠ b
theorem Inv.fpOk {X : Cx} {pins : List (Addr × Obj)} {σ : St} {H H' : Hp} {s : Shared} {b : Addr} (I : Inv X pins σ H s) (hb : s.heap.objs.size ≤ b) (hn : H' b = none) : FpOk X pins H' b := by
  refine ⟨hn, Nat.ne_of_gt (Nat.lt_of_lt_of_le I.lt hb), I.nofs hb, .inr (Nat.le_trans I.sz hb), fun x c e z => ?_, fun p hp z => ?_⟩
  · obtain ⟨v, q⟩ := I.cell x c e
    exact absurd (Nat.lt_of_lt_of_le q.lt (by rw [z]; exact hb)) (Nat.lt_irrefl _)
  · exact absurd (Nat.lt_of_lt_of_le (Heap.lt_size (I.pin p hp).1) (by rw [z]; exact hb)) (Nat.lt_irrefl _)
structure Turn (P : Program) (w : World) (K : PySem.W.Frag) (tg : Expr) (J : It) (fp : List Addr) (it : Addr) (tn : Nat → Heap → Prop) : Prop where
  mem : it ∈ fp
  obj : ∀ i h, tn i h → ∀ b ∈ fp, ∃ o, h.get? b = some o ∧ ∀ v, o.data ≠ .cell v
  keep : ∀ i h h', tn i h → (∀ b ∈ fp, ∀ o, h.get? b = some o → h'.get? b = some o) → tn i h'
  item : ∀ (X : Cx), X.prog = P → X.w = w → X.K = K → X.calm = true → ∀ (i : Nat) (pins : List (Addr × Obj)) (s : Shared) (σ : St) (H : Hp) (E : Value → Shared → Prop), Inv X pins σ H s → (∀ b ∈ fp, FpOk X pins H b) → tn i s.heap → J.go i H →
    wpAny (model P w) X.A (pyNext (.ref it)) (fun r s1 => ∃ u, r = some u ∧
      wpAny (model P w) X.A (letOwnedTupleGo tg (.ref it) u) (fun _ s2 => ∃ x H', Inv X pins σ H' s2 ∧ RelV x u ∧ J.yld i H x H' ∧ tn (i + 1) s2.heap ∧ ∀ b ∈ fp, H' b = none) E s1) E s
  done : ∀ (X : Cx), X.prog = P → X.w = w → X.K = K → X.calm = true → ∀ (i : Nat) (pins : List (Addr × Obj)) (s : Shared) (σ : St) (H : Hp) (E : Value → Shared → Prop), Inv X pins σ H s → (∀ b ∈ fp, FpOk X pins H b) → tn i s.heap → J.stop i H →
    wpAny (model P w) X.A (pyNext (.ref it)) (fun r s1 => r = none ∧ Inv X pins σ H s1) E s
  self : ∀ (A : Around) (i : Nat) (s : Shared) (Q : Value → Shared → Prop) (E : Value → Shared → Prop), tn i s.heap → Q (.ref it) s → wpAny (model P w) A (pyIter (.ref it)) Q E s
abbrev TI := St → Hp → (It → Hp → Prop) → Prop
/-- an iterator has come -/
noncomputable def PIE (X : Cx) (pins : List (Addr × Obj)) (σ : St) (tg : Expr) (R : It → Hp → Prop) (itv : Value) (s2 : Shared) : Prop :=
  ∃ (it : Addr) (fp : List Addr) (tn : Nat → Heap → Prop) (J : It) (H' : Hp), itv = .ref it ∧ Inv X pins σ H' s2 ∧ Turn X.prog X.w X.K tg J fp it tn ∧ tn 0 s2.heap ∧ (∀ b ∈ fp, FpOk X pins H' b) ∧ R J H'
noncomputable def PI (X : Cx) (tg iter : Expr) (wi : TI) : Prop :=
  ∀ (pins : List (Addr × Obj)) (s : Shared) (σ : St) (H : Hp) (R : It → Hp → Prop), Inv X pins σ H s → wi σ H R →
    wpAny (model X.prog X.w) X.A (eval iter X.env) (fun v s1 => wpAny (model X.prog X.w) X.A (pyIter v) (PIE X pins σ tg R) X.xe s1) X.xe s

/-- the step ahead of the store is nothing for an iterator that keeps no tuple -/
theorem go_of {M : Model} {A : Around} {E : Value → Shared → Prop} {s : Shared} {tg : Expr} {it : Addr} {u : Value} {o : Obj} {n : String} {vs : Array Value} {Q : Unit → Shared → Prop} (ho : s.heap.get? it = some o) (hc : o.cls = .type n) (hd : o.data = .fields vs)
    (hn : ["enumerate", "zip", "dict_itemiterator", "dict_reverseitemiterator", "odict_iterator", "itertools.zip_longest", "itertools.pairwise"].contains n = false) (hQ : Q () s) : wpAny M A (letOwnedTupleGo tg (.ref it) u) Q E s := by
  unfold letOwnedTupleGo
  cases tg <;> first
    | exact wpAny_pure hQ
    | (cases u <;> first
        | exact wpAny_pure hQ
        | (refine wpAny_bind (wpAny_load ho ?_)
           rw [hc, hd]
           show wpAny M A (if (["enumerate", "zip", "dict_itemiterator", "dict_reverseitemiterator", "odict_iterator", "itertools.zip_longest", "itertools.pairwise"].contains n && vs[0]? == some (rawInt _)) = true then _ else _) Q E s
           rw [if_neg (by intro h; rw [hn, Bool.false_and] at h; cases h)]
           exact wpAny_pure hQ))

/-- the list at a, as it stands at each turn (a loop may append to it) -/
noncomputable def Itl (K : PySem.W.Frag) (a : Addr) : It :=
  ⟨fun i H => ∃ xs x, SqL K H a xs ∧ xs[i]? = some x, fun i H x H' => H' = H ∧ ∀ xs, SqL K H a xs → xs[i]? = some x, fun i H => ∃ xs, SqL K H a xs ∧ xs.length ≤ i⟩
noncomputable def Itt (K : PySem.W.Frag) (a : Addr) : It :=
  ⟨fun i H => ∃ xs x, SqT K H a xs ∧ xs[i]? = some x, fun i H x H' => H' = H ∧ ∀ xs, SqT K H a xs → xs[i]? = some x, fun i H => ∃ xs, SqT K H a xs ∧ xs.length ≤ i⟩
/-- lo, lo + 1, .. (n of them) -/
noncomputable def Itr (lo : Int) (n : Nat) : It := ⟨fun i _ => i < n, fun i H x H' => H' = H ∧ x = .int (lo + i), fun i _ => n ≤ i⟩
theorem turn_list {P : Program} {w : World} {K : PySem.W.Frag} {tg : Expr} (a it : Addr) : Turn P w K tg (Itl K a) [it] it (fun i h => h.IsListIter it a i) where
  mem := by simp
  obj := fun i h st b hb => by
    have e : b = it := by simpa using hb
    subst e
    obtain ⟨o, e, c, d⟩ := st
    exact ⟨o, e, fun v z => by rw [d] at z; cases z⟩
  keep := fun i h h' st k => st.at fun o e => k it (by simp) o e
  item := by
    intro X hP hw hK hc i pins s σ H E I hf st hg
    subst hP hw hK
    obtain ⟨xs, x, hq, hx⟩ := hg
    obtain ⟨its, rv, p, hz⟩ := I.list hq
    obtain ⟨u, hu, ru⟩ := rv.get hx
    obtain ⟨f0, f1, f2, f3, f4, f5⟩ := hf it (by simp)
    refine wpAny_pyNext_list_item st p.isList (x := u) (by simpa using hu) fun h' st' sb => ?_
    have I1 : Inv X pins σ H { s with heap := h' } := I.turned (t' := s.toks) (fun b o hb e => (sb.2 b hb).trans e) f0 f1 f3 f4 f5
    obtain ⟨o, e, c, d⟩ := id st'
    exact ⟨u, rfl, go_of (s := { s with heap := h' }) e c d (by decide) ⟨x, H, I1, ru, ⟨rfl, fun ys hy => by rw [I.list_inj hy hq]; exact hx⟩, st', fun b hb => (hf b hb).1⟩⟩
  done := by
    intro X hP hw hK hc i pins s σ H E I hf st hg
    subst hP hw hK
    obtain ⟨xs, hq, hx⟩ := hg
    obtain ⟨its, rv, p, hz⟩ := I.list hq
    obtain ⟨f0, f1, f2, f3, f4, f5⟩ := hf it (by simp)
    have hl := rv.length
    exact wpAny_pyNext_list_end (I.ok.hd hc) st p.isList (by simp; omega) fun h' eb => ⟨rfl, I.turned (t' := s.toks) (fun b o hb e => eb b o hb e) f0 f1 f3 f4 f5⟩
  self := fun _ _ _ _ _ st h => wpAny_pyIter_listiter st h
theorem turn_tuple {P : Program} {w : World} {K : PySem.W.Frag} {tg : Expr} (a it : Addr) : Turn P w K tg (Itt K a) [it] it (fun i h => h.IsTupleIter it a i) where
  mem := by simp
  obj := fun i h st b hb => by
    have e : b = it := by simpa using hb
    subst e
    obtain ⟨o, e, c, d⟩ := st
    exact ⟨o, e, fun v z => by rw [d] at z; cases z⟩
  keep := fun i h h' st k => st.at fun o e => k it (by simp) o e
  item := by
    intro X hP hw hK hc i pins s σ H E I hf st hg
    subst hP hw hK
    obtain ⟨xs, x, hq, hx⟩ := hg
    obtain ⟨its, rv, p, hz⟩ := I.tuple hq
    obtain ⟨u, hu, ru⟩ := rv.get hx
    obtain ⟨f0, f1, f2, f3, f4, f5⟩ := hf it (by simp)
    refine wpAny_pyNext_tuple_item st (show s.heap.IsTuple a its.toArray from p) (x := u) (by simpa using hu) fun h' st' sb => ?_
    have I1 : Inv X pins σ H { s with heap := h' } := I.turned (t' := s.toks) (fun b o hb e => (sb.2 b hb).trans e) f0 f1 f3 f4 f5
    obtain ⟨o, e, c, d⟩ := id st'
    exact ⟨u, rfl, go_of (s := { s with heap := h' }) e c d (by decide) ⟨x, H, I1, ru, ⟨rfl, fun ys hy => by rw [I.tuple_inj hy hq]; exact hx⟩, st', fun b hb => (hf b hb).1⟩⟩
  done := by
    intro X hP hw hK hc i pins s σ H E I hf st hg
    subst hP hw hK
    obtain ⟨xs, hq, hx⟩ := hg
    obtain ⟨its, rv, p, hz⟩ := I.tuple hq
    obtain ⟨f0, f1, f2, f3, f4, f5⟩ := hf it (by simp)
    have hl := rv.length
    exact wpAny_pyNext_tuple_end (I.ok.hd hc) st (show s.heap.IsTuple a its.toArray from p) (by simp; omega) fun h' eb => ⟨rfl, I.turned (t' := s.toks) (fun b o hb e => eb b o hb e) f0 f1 f3 f4 f5⟩
  self := fun _ _ _ _ _ st h => wpAny_pyIter_tupleiter st h
theorem turn_range {P : Program} {w : World} {K : PySem.W.Frag} {tg : Expr} (it : Addr) (lo : Int) (n : Nat) : Turn P w K tg (Itr lo n) [it] it (fun i h => IsRangeIter h it (lo + (i : Nat) * 1) ((n : Int) - (i : Nat)) 1) where
  mem := by simp
  obj := fun i h st b hb => by
    have e : b = it := by simpa using hb
    subst e
    exact ⟨_, st, fun v z => by
      have z' : Data.fields _ = Data.cell v := z
      cases z'⟩
  keep := fun i h h' st k => k it (by simp) _ st
  item := by
    intro X hP hw hK hc i pins s σ H E I hf st hg
    subst hP hw hK
    obtain ⟨f0, f1, f2, f3, f4, f5⟩ := hf it (by simp)
    have W := Walks.range (prog := X.prog) (w := X.w) (I.ok.hd hc) it lo 1 n
    refine W.item i s _ _ hg st fun v h' tk hv st' kk => ?_
    obtain ⟨t, rfl⟩ := hv
    have I1 : Inv X pins σ H { s with heap := h', toks := tk } := I.turned (fun b o hb e => kk b o (by simpa using hb) e) f0 f1 f3 f4 f5
    refine ⟨_, rfl, go_of (s := { s with heap := h', toks := tk }) (n := "range_iterator") st' rfl rfl (by decide) ⟨.int (lo + i), H, I1, ⟨t, ?_⟩, ⟨rfl, rfl⟩, st', fun b hb => (hf b hb).1⟩⟩
    rw [Int.mul_one]
  done := by
    intro X hP hw hK hc i pins s σ H E I hf st hg
    subst hP hw hK
    obtain ⟨f0, f1, f2, f3, f4, f5⟩ := hf it (by simp)
    exact wpAny_pyNext_range_end (I.ok.hd hc) st (by have : n ≤ i := hg; omega) fun h' eb => ⟨rfl, I.turned (t' := s.toks) (fun b o hb e => eb b o hb e) f0 f1 f3 f4 f5⟩
  self := fun _ _ _ _ _ st h => wpAny_pyIter_rangeiter st h
end L2

namespace L2
open PySem PySem.Spec PyProof.Rows
section
variable {X : Cx} {tg : Expr}
/-- a range object just made, walked -/
theorem range_it {pins : List (Addr × Obj)} {σ : St} {H : Hp} {s : Shared} {R : It → Hp → Prop} {E : Value → Shared → Prop} {lo hi : Int} {t u v : Tok} {tk : Nat} (I : Inv X pins σ H s) (h1 : -(2 ^ 62) ≤ lo) (h2 : lo < 2 ^ 62) (h3 : -(2 ^ 62) ≤ hi) (h4 : hi < 2 ^ 62)
    (q : R (Itr lo (hi - lo).toNat) H) : wpAny (model X.prog X.w) X.A (pyIter (.ref s.heap.objs.size)) (PIE X pins σ tg R) E { s with heap := s.heap.push { cls := .type "range", data := .fields #[.int lo t, .int hi u, .int 1 v] }, toks := tk } := by
  refine wpAny_pyIter_range (IsRange.new ..) (small_one h1 h2 h3 h4) ?_
  have I1 : Inv X pins σ H { s with heap := s.heap.push { cls := .type "range", data := .fields #[.int lo t, .int hi u, .int 1 v] }, toks := tk } := I.kept fun b o e => Heap.get?_push_of_some _ e
  refine ⟨(s.heap.push { cls := .type "range", data := .fields #[.int lo t, .int hi u, .int 1 v] }).objs.size, [(s.heap.push { cls := .type "range", data := .fields #[.int lo t, .int hi u, .int 1 v] }).objs.size], _, _, H, rfl,
    I1.kept (t' := tk) fun b o e => Heap.get?_push_of_some _ e, turn_range _ lo (hi - lo).toNat, ?_, fun b hb => ?_, q⟩
  · have e1 : lo + ((0 : Nat) : Int) * 1 = lo := by simp
    have e2 : (((hi - lo).toNat : Nat) : Int) - ((0 : Nat) : Int) = Builtin.Range.rangeSize lo hi 1 := by rw [rangeSize_one]; split <;> omega
    show IsRangeIter _ _ (lo + ((0 : Nat) : Int) * 1) ((((hi - lo).toNat : Nat) : Int) - ((0 : Nat) : Int)) 1
    rw [e1, e2]
    exact Heap.get?_push_size _ rfl
  · have e : b = (s.heap.push { cls := .type "range", data := .fields #[.int lo t, .int hi u, .int 1 v] }).objs.size := by simpa using hb
    subst e
    exact I1.fpOk (Nat.le_refl _) (I1.hok.fresh (Nat.le_refl _))
noncomputable def iRng1 (ta : TA) : TI := fun σ H R => ta σ H fun vs H1 => ∃ j : Int, vs = [.int j] ∧ -(2 ^ 62) ≤ j ∧ j < 2 ^ 62 ∧ R (Itr 0 j.toNat) H1
theorem pi_range1 {a : Expr} {ta : TA} {p pos : Pos} (hg : Gl X "range") (hm : X.mg "range" = none) (ha : PA X [a] ta) (hs : starEach [a] X.env = [(false, eval a X.env)] := by rfl) : PI X tg (.Call (.Name "range" p) [a] [] pos) (iRng1 ta) := by
  intro pins s σ H R I h
  refine Call_ (ld_blt I hg hm boot_range (PyProof.Rows.callWith_type1 (thn (ha pos pins s σ H _ I h) fun us s1 ⟨vs, H1, I1, r1, q1⟩ => ?_) hs rfl))
  obtain ⟨j, e, q1, q2, q⟩ := q1
  subst e
  cases r1 with
  | cons r rr =>
    cases rr
    obtain ⟨t, rfl⟩ := r
    exact call_range_1 (range_it I1 (by omega) (by omega) q1 q2 (by simpa using q))
/-! ### for -/
/-- W: the invariant by the turn and a measure; N: what the body is to reach -/
noncomputable def tFor (wi : TI) (g : TG) (tb : TS) : TS := fun D σ H => wi σ H fun J H1 => ∃ W : Nat → Nat → St → Hp → Prop, (∃ m, W 0 m σ H1) ∧ ∀ i m σ H, W i m σ H →
  (J.stop i H ∧ D.nx σ H) ∨ (J.go i H ∧ ∃ N : St → Hp → Prop, (∀ σ' H', N σ' H' → ∃ m', m' < m ∧ W (i + 1) m' σ' H') ∧ ∀ x H', J.yld i H x H' → g x σ H' fun σ2 H2 => tb { D with nx := N, ct := N, bk := D.nx } σ2 H2)
/-- the records at fp as they stand -/
noncomputable def pinsAt (fp : List Addr) (h : Heap) : List (Addr × Obj) := fp.filterMap fun b => (h.get? b).map fun o => (b, o)
theorem mem_pinsAt {fp : List Addr} {h : Heap} {b : Addr} {o : Obj} (hb : b ∈ fp) (e : h.get? b = some o) : (b, o) ∈ pinsAt fp h := List.mem_filterMap.mpr ⟨b, hb, by rw [e]; rfl⟩
theorem of_pinsAt {fp : List Addr} {h : Heap} {p : Addr × Obj} (hp : p ∈ pinsAt fp h) : p.1 ∈ fp ∧ h.get? p.1 = some p.2 := by
  obtain ⟨b, hb, e⟩ := List.mem_filterMap.mp hp
  cases q : h.get? b with
  | none => rw [q] at e; cases e
  | some o =>
    rw [q] at e
    have e' : (b, o) = p := Option.some.inj e
    subst e'
    exact ⟨hb, q⟩
theorem Inv.pinned {pins : List (Addr × Obj)} {σ : St} {H : Hp} {s : Shared} {fp : List Addr} (I : Inv X pins σ H s) (hf : ∀ b ∈ fp, FpOk X pins H b) (ho : ∀ b ∈ fp, ∃ o, s.heap.get? b = some o ∧ ∀ v, o.data ≠ .cell v) : Inv X (pins ++ pinsAt fp s.heap) σ H s :=
  I.pins_of fun p hp => (List.mem_append.mp hp).elim (fun z => I.pin p (List.mem_append_right _ z)) fun z => by
    obtain ⟨hb, e⟩ := of_pinsAt z
    obtain ⟨f0, f1, f2, _⟩ := hf p.1 hb
    obtain ⟨o, e', d⟩ := ho p.1 hb
    rw [e] at e'; cases e'
    exact ⟨e, f0, f1, f2, d⟩
theorem Inv.unpinned {pins pl : List (Addr × Obj)} {σ : St} {H : Hp} {s : Shared} (I : Inv X (pins ++ pl) σ H s) : Inv X pins σ H s := I.pins_of fun p hp => I.pin p (List.mem_append_right _ (List.mem_append_left _ hp))
theorem ps_for {iter : Expr} {body : List Stmt} {wi : TI} {g : TG} {tb : TS} {pos : Pos} (hp : PassesOwn (model X.prog X.w) X.A X.env X.xe) (hc : X.calm = true) (hi : PI X tg iter wi) (hg : PG X tg g) (hb : PSs X body tb)
    (hs : ∀ x, foldedSetIterable iter X.env x = pure x := by intro _; rfl) : PS X (.For tg iter body [] pos) (tFor wi g tb) := by
  intro pins s σ H D I h
  refine wpAny_For (thn (hi pins s σ H _ I h) fun v s1 h1 => thn h1 fun itv s2 h2 => ?_) hs
  obtain ⟨it, fp, tn, J, H2, e, I2, T, st2, f2, W, ⟨m0, w0⟩, turn⟩ := h2
  subst e
  -- what stays true of the iterator's objects through the loop
  have stat : ∀ {H' : Hp}, (∀ b ∈ fp, H' b = none) → ∀ b ∈ fp, FpOk X pins H' b := fun hn b hb => ⟨hn b hb, (f2 b hb).2⟩
  refine codeAny_forLoop_any (fun n s' => ∃ i σ' H', Inv X pins σ' H' s' ∧ tn i s'.heap ∧ (∀ b ∈ fp, H' b = none) ∧ W i n σ' H') ?_ m0 ⟨0, σ, H2, I2, st2, fun b hb => (f2 b hb).1, w0⟩
  rintro n s3 ⟨i, σ3, H3, I3, st3, fr3, w3⟩
  rcases turn i n σ3 H3 w3 with ⟨stop, qn⟩ | ⟨go, N, hN, step⟩
  · refine wpAny_passesOwn hp (thn (T.done X rfl rfl rfl hc i pins s3 σ3 H3 X.xe I3 (stat fr3) st3 stop) fun r s4 ⟨hr, I4⟩ => ?_)
    subst hr
    exact wpAny_execs_nil ⟨σ3, H3, I4, qn⟩
  · refine wpAny_passesOwn hp (thn (T.item X rfl rfl rfl hc i pins s3 σ3 H3 X.xe I3 (stat fr3) st3 go) fun r s4 ⟨u, hr, h4⟩ => ?_)
    subst hr
    refine wpAny_passesOwn hp (thn h4 fun _ s5 ⟨x, H5, I5, r5, y5, st5, fr5⟩ => ?_)
    have I5' := I5.pinned (stat fr5) (T.obj _ _ st5)
    refine wpAny_passesOwn hp (thn (hg _ s5 σ3 H5 x u _ I5' r5 (step x H5 y5)) fun _ s6 ⟨σ6, H6, I6, q6⟩ => ?_)
    refine wpAny_passesOwn hp (thn (hb _ s6 σ6 H6 _ I6 q6) fun f s7 q7 => ?_)
    have again : ∀ {σ7 : St} {H7 : Hp}, Inv X (pins ++ pinsAt fp s5.heap) σ7 H7 s7 → N σ7 H7 → ∃ m, m < n ∧ ∃ i σ' H', Inv X pins σ' H' s7 ∧ tn i s7.heap ∧ (∀ b ∈ fp, H' b = none) ∧ W i m σ' H' := fun {σ7 H7} I7 n7 => by
      obtain ⟨m', hm, w7⟩ := hN σ7 H7 n7
      refine ⟨m', hm, i + 1, σ7, H7, I7.unpinned, T.keep _ _ _ st5 fun b hb o e => (I7.pin (b, o) (List.mem_append_right _ (List.mem_append_right _ (mem_pinsAt hb e)))).1, fun b hb => ?_, w7⟩
      obtain ⟨o, e, d⟩ := T.obj _ _ st5 b hb
      exact (I7.pin (b, o) (List.mem_append_right _ (List.mem_append_right _ (mem_pinsAt hb e)))).2.1
    cases f with
    | next => obtain ⟨σ7, H7, I7, n7⟩ := q7; exact again I7 n7
    | cont => obtain ⟨σ7, H7, I7, n7⟩ := q7; exact again I7 n7
    | brk => obtain ⟨σ7, H7, I7, q7⟩ := q7; exact ⟨σ7, H7, I7.unpinned, q7⟩
    | ret v => obtain ⟨x7, σ7, H7, I7, r7, q7⟩ := q7; exact ⟨x7, σ7, H7, I7.unpinned, r7, q7⟩
end

/-! ### the forms one uses -/
end L2

namespace L2
open PySem PySem.Spec PyProof.Rows

abbrev R2 := V → V → Hp → VK → Prop
/-- a two-place operation on values: f is binaryOp op, inplaceOp op or compareOp op -/
noncomputable def OpR (X : Cx) (f : Value → Value → Sem Value) (r : R2) : Prop :=
  ∀ (pins : List (Addr × Obj)) (s : Shared) (σ : St) (H : Hp) (x y : V) (v u : Value) (Q : VK), Inv X pins σ H s → RelV x v → RelV y u → r x y H Q →
    wpAny (model X.prog X.w) X.A (f v u) (EP X pins σ Q) X.xe s
/-- a call of a value that is known (a builtin, a type) with values -/
noncomputable def CallR (X : Cx) (f : Value) (r : List V → Hp → VK → Prop) : Prop :=
  ∀ (pins : List (Addr × Obj)) (s : Shared) (σ : St) (H : Hp) (xs : List V) (us : List Value) (Q : VK), Inv X pins σ H s → Vals xs us → r xs H Q →
    wpAny (model X.prog X.w) X.A (call f us) (EP X pins σ Q) X.xe s
noncomputable def tOp (r : R2) (ta tb : TE) : TE := fun σ H Q => ta σ H fun x H1 => tb σ H1 fun y H2 => r x y H2 Q
/-- ints in, under C, and a value out -/
noncomputable def rI (C : Int → Int → Prop) (g : Int → Int → V) : R2 := fun x y H Q => ∃ i j, x = .int i ∧ y = .int j ∧ C i j ∧ Q (g i j) H
noncomputable def rI0 (g : Int → Int → V) : R2 := fun x y H Q => ∃ i j, x = .int i ∧ y = .int j ∧ Q (g i j) H
section
variable {X : Cx} {a b c : Expr} {ta tb tc : TE} {pos : Pos}

theorem binT (ha : PE X a ta) (hb : PE X b tb) {pins : List (Addr × Obj)} {s : Shared} {σ : St} {H : Hp} {R : V → V → Hp → Prop} (I : Inv X pins σ H s)
    (h : ta σ H fun x H1 => tb σ H1 fun y H2 => R x y H2) {Q : Value → Shared → Prop} {f : Value → Value → Sem Value}
    (hf : ∀ v u s2 x y H2, Inv X pins σ H2 s2 → RelV x v → RelV y u → R x y H2 → wpAny (model X.prog X.w) X.A (f v u) Q X.xe s2) :
    wpAny (model X.prog X.w) X.A (eval a X.env) (fun v s₁ => wpAny (model X.prog X.w) X.A (eval b X.env) (fun u s₂ => wpAny (model X.prog X.w) X.A (f v u) Q X.xe s₂) X.xe s₁) X.xe s := by
  refine thn (ha pins s σ H _ I h) fun v s1 ⟨x, H1, I1, r1, q1⟩ => ?_
  refine thn (hb pins s1 σ H1 _ I1 q1) fun u s2 ⟨y, H2, I2, r2, q2⟩ => ?_
  exact hf v u s2 x y H2 I2 r1 r2 q2

theorem pe_op {op : Operator} {r : R2} (ho : OpR X (binaryOp op) r) (ha : PE X a ta) (hb : PE X b tb) : PE X (.BinOp a op b pos) (tOp r ta tb) := by
  intro pins s σ H Q I h
  exact wpAny_BinOp (binT ha hb I h fun v u s2 x y H2 I2 rx ry q => ho pins s2 σ H2 x y v u Q I2 rx ry q)
/-! ### ints -/
theorem opI {f : Value → Value → Sem Value} {C : Int → Int → Prop} {g : Int → Int → Int}
    (rule : ∀ (i j : Int) (t u : Tok) (s : Shared) (Q : Value → Shared → Prop) (E : Value → Shared → Prop), C i j → Q (.int (g i j) s.toks) { s with toks := s.toks + 1 } → wpAny (model X.prog X.w) X.A (f (.int i t) (.int j u)) Q E s) :
    OpR X f (rI C fun i j => .int (g i j)) := by
  intro pins s σ H x y v u Q I rx ry h
  obtain ⟨i, j, rfl, rfl, hc, q⟩ := h
  obtain ⟨t, rfl⟩ := rx
  obtain ⟨t', rfl⟩ := ry
  exact rule i j t t' s _ _ hc ⟨.int (g i j), H, I.tok _, ⟨_, rfl⟩, q⟩
theorem opI0 {f : Value → Value → Sem Value} {g : Int → Int → Int}
    (rule : ∀ (i j : Int) (t u : Tok) (s : Shared) (Q : Value → Shared → Prop) (E : Value → Shared → Prop), Q (.int (g i j) s.toks) { s with toks := s.toks + 1 } → wpAny (model X.prog X.w) X.A (f (.int i t) (.int j u)) Q E s) :
    OpR X f (rI0 fun i j => .int (g i j)) := by
  intro pins s σ H x y v u Q I rx ry h
  obtain ⟨i, j, rfl, rfl, q⟩ := h
  obtain ⟨t, rfl⟩ := rx
  obtain ⟨t', rfl⟩ := ry
  exact rule i j t t' s _ _ ⟨.int (g i j), H, I.tok _, ⟨_, rfl⟩, q⟩
theorem opB0 {f : Value → Value → Sem Value} {g : Int → Int → Bool}
    (rule : ∀ (i j : Int) (t u : Tok) (s : Shared) (Q : Value → Shared → Prop) (E : Value → Shared → Prop), Q (.bool (g i j)) s → wpAny (model X.prog X.w) X.A (f (.int i t) (.int j u)) Q E s) :
    OpR X f (rI0 fun i j => .bl (g i j)) := by
  intro pins s σ H x y v u Q I rx ry h
  obtain ⟨i, j, rfl, rfl, q⟩ := h
  obtain ⟨t, rfl⟩ := rx
  obtain ⟨t', rfl⟩ := ry
  exact rule i j t t' s _ _ ⟨.bl (g i j), H, I, rfl, q⟩

noncomputable def CDiv (i j : Int) : Prop := 0 < j ∧ j < 1073741824
noncomputable def CMul (i j : Int) : Prop := (-(2 ^ 64) < i ∧ i < 2 ^ 64) ∨ (-(2 ^ 64) < j ∧ j < 2 ^ 64)
theorem CMul.ok {i j : Int} (h : CMul i j) : IntMulOk i j := by
  rcases h with ⟨h1, h2⟩ | ⟨h1, h2⟩
  · exact .of_left (intBits_le_64 h1 h2)
  · exact .of_right (intBits_le_64 h1 h2)
theorem op_add : OpR X (binaryOp .Add) (rI0 fun i j => .int (i + j)) := opI0 fun _ _ _ _ _ _ _ q => add_int q
theorem op_mul : OpR X (binaryOp .Mult) (rI CMul fun i j => .int (i * j)) := opI fun _ _ _ _ _ _ _ hc q => mul_int q hc.ok
/-- // by a positive divisor -/
theorem op_fdiv : OpR X (binaryOp .FloorDiv) (rI CDiv fun i j => .int (i / j)) := opI fun i j _ _ _ _ _ hc q => by
  have h1 : (0 : Int) < j := hc.1
  have h2 : j < 1073741824 := hc.2
  exact floordiv_int (by omega) (by rw [Int.fdiv_eq_ediv_of_nonneg i (by omega)]; exact q) (.inl (PyProof.noPylong_small (by omega)))
/-- % by a positive divisor of any size -/
theorem op_mod : OpR X (binaryOp .Mod) (rI (fun _ j => 0 < j) fun i j => .int (i % j)) := opI fun i j _ _ _ _ _ hc q => by
  have h1 : (0 : Int) < j := hc
  exact mod_int' (by omega) (by rw [Int.fmod_eq_emod_of_nonneg i (by omega)]; exact q)
/-! ### bools among ints: n += (a < b) -/
end

/-! ### comparisons -/
section
variable {X : Cx} {a b c : Expr} {ta tb tc : TE} {pos : Pos}
theorem op_lt : OpR X (compareOp .Lt) (rI0 fun i j => .bl (decide (i < j))) := opB0 fun _ _ _ _ _ _ _ q => lt_int q
theorem op_gt : OpR X (compareOp .Gt) (rI0 fun i j => .bl (decide (j < i))) := opB0 fun _ _ _ _ _ _ _ q => gt_int q
/-- two rules for one operation: by cases -/
theorem OpR.or {f : Value → Value → Sem Value} {r r' : R2} (h : OpR X f r) (h' : OpR X f r') : OpR X f (fun x y H Q => r x y H Q ∨ r' x y H Q) := by
  intro pins s σ H x y v u Q I rx ry q
  rcases q with q | q
  · exact h pins s σ H x y v u Q I rx ry q
  · exact h' pins s σ H x y v u Q I rx ry q

theorem nomark (b : Expr) {op : CmpOp} (h : op ≠ .In := by decide) (h2 : op ≠ .NotIn := by decide) : behindInMarks op b = false := by
  have e1 : (op == CmpOp.In) = false := by cases op <;> first | rfl | exact absurd rfl h
  have e2 : (op == CmpOp.NotIn) = false := by cases op <;> first | rfl | exact absurd rfl h2
  cases b <;> simp [behindInMarks, e1, e2]
/-- a comparison as a value; hm: nomark b, or (for in, not in) by with_unfolding_all rfl -/
theorem pe_cmpR {op : CmpOp} {r : R2} (ho : OpR X (compareOp op) r) (ha : PE X a ta) (hb : PE X b tb) (hm : behindInMarks op b = false) : PE X (.Compare a [op] [b] pos) (tOp r ta tb) := by
  intro pins s σ H Q I h
  exact wpAny_Compare1 (binT ha hb I h fun v u s2 x y H2 I2 rx ry q => ho pins s2 σ H2 x y v u Q I2 rx ry q) hm
/-- a reading of a value as a test -/
noncomputable def tTest (t : TE) : TT := fun σ H Q => t σ H fun x H' => ∃ k, x = .bl k ∧ Q k H'
theorem pt_cmpR {op : CmpOp} {r : R2} (ho : OpR X (compareOp op) r) (ha : PE X a ta) (hb : PE X b tb) (hm : behindInMarks op b = false) : PT X (.Compare a [op] [b] pos) (tTest (tOp r ta tb)) := by
  intro pins s σ H Q I h
  refine wpAny_isTrue_Compare1 (thn (ha pins s σ H _ I h) fun v s1 ⟨x, H1, I1, r1, q1⟩ => thn (hb pins s1 σ H1 _ I1 q1) fun u s2 ⟨y, H2, I2, r2, q2⟩ =>
    thn (ho pins s2 σ H2 x y v u _ I2 r1 r2 q2) fun c s3 ⟨z, H3, I3, r3, k, e, q3⟩ => ?_) hm
  subst e
  cases r3
  exact wpAny_truthy_bool ⟨H3, I3, q3⟩
/-! ### truth -/
theorem line63 : (sizeLine : Nat) < 2 ^ 63 := by rw [sizeLine_eq]; decide
/-! ### strs and bytes -/
theorem op_add_str : OpR X (binaryOp .Add) (fun x y H Q => ∃ i j, x = .str i ∧ y = .str j ∧ i.length + j.length ≤ sizeLine ∧ Q (.str (i ++ j)) H) := by
  intro pins s σ H x y v u Q I rx ry h
  obtain ⟨i, j, rfl, rfl, hz, q⟩ := h
  obtain ⟨t, rfl⟩ := rx
  obtain ⟨t', rfl⟩ := ry
  exact add_str (fun t' tk => ⟨.str (i ++ j), H, I.tok _, ⟨_, rfl⟩, q⟩) hz
/-! ### scalar builtins, by CallR -/
theorem vals1 {x : V} {us : List Value} (r : Vals [x] us) : ∃ u, us = [u] ∧ RelV x u := by
  cases r with
  | cons r1 r2 => cases r2; exact ⟨_, rfl, r1⟩
/-- len of a str, a bytes, a list, a tuple -/
noncomputable def LenV (K : PySem.W.Frag) (x : V) (H : Hp) (n : Nat) : Prop :=
  match x with
  | .str y => y.length ≤ sizeLine ∧ n = y.length
  | .byt y => y.size ≤ sizeLine ∧ n = y.size
  | .ref p => (∃ xs, SqL K H p xs ∧ n = xs.length) ∨ ∃ xs, SqT K H p xs ∧ n = xs.length
  | _ => False
theorem call_len : CallR X (.builtin "len") (fun xs H Q => ∃ x n, xs = [x] ∧ LenV X.K x H n ∧ Q (.int n) H) := by
  intro pins s σ H xs us Q I r h
  obtain ⟨x, n, rfl, e, q⟩ := h
  obtain ⟨u, rfl, rx⟩ := vals1 r
  have hl := line63
  have hs : sizeLine = 16777216 := sizeLine_eq
  cases x with
  | str y =>
    obtain ⟨t, rfl⟩ := rx
    obtain ⟨hy, e'⟩ : y.length ≤ sizeLine ∧ n = y.length := e
    subst e'
    exact len_str (by omega) ⟨.int _, H, I.tok _, ⟨_, rfl⟩, q⟩
  | byt y =>
    obtain ⟨t, rfl⟩ := rx
    obtain ⟨hy, e'⟩ : y.size ≤ sizeLine ∧ n = y.size := e
    subst e'
    exact PySem.W.len_bytes (by omega) ⟨.int _, H, I.tok _, ⟨_, rfl⟩, q⟩
  | ref p =>
    cases rx
    have e' : (∃ xs, SqL X.K H p xs ∧ n = xs.length) ∨ ∃ xs, SqT X.K H p xs ∧ n = xs.length := e
    rcases e' with ⟨xs, hx, e'⟩ | ⟨xs, hx, e'⟩
    · subst e'
      obtain ⟨its, r', pl, hz⟩ := I.list hx
      have hlen := r'.length
      exact Calls.call_len_list pl.isList (by simp only [List.size_toArray]; omega) ⟨.int xs.length, H, I.tok _, ⟨_, by simp only [List.size_toArray]; rw [hlen]⟩, q⟩
    · subst e'
      obtain ⟨its, r', pl, hz⟩ := I.tuple hx
      have hlen := r'.length
      exact len_tuple pl (by simp only [List.size_toArray]; omega) ⟨.int xs.length, H, I.tok _, ⟨_, by simp only [List.size_toArray]; rw [hlen]⟩, q⟩
  | _ => exact (show False from e).elim
end
end L2

namespace L2
open PySem PySem.Spec PyProof.Rows

/-! ### an instance, its attributes a map -/
structure ObjM (h : Heap) (x dx C : Addr) (mA : Str → Option Value) : Prop where
  obj : h.get? x = some (PySem.W.instObj C dx)
  ns : h.Ns1 dx mA
  ne : dx ≠ x

theorem lookIn_ns {h : Heap} {dx : Addr} {mA : Str → Option Value} (n : h.Ns1 dx mA) : ∃ od, h.get? dx = some od ∧ ∀ name, PySem.W.lookIn name od = some (mA name) := by
  obtain ⟨o, es, ep, ho, hd, hk, _, hm⟩ := n
  refine ⟨o, ho, fun name => ?_⟩
  have e := hm name
  unfold nsFind findBy at e
  rw [← Array.find?_toList] at e
  unfold PySem.W.lookIn
  rw [hd]
  dsimp only
  split
  · rename_i y q
    rw [q] at e
    exact congrArg some e
  · rename_i q
    rw [q] at e
    have a : es.toList.any (·.refKey) = false := by
      rw [List.any_eq_false]
      intro y hy
      obtain ⟨z, t, hkey⟩ := hk y (Array.mem_toList_iff.mp hy)
      simp [DictEntry.refKey, hkey]
    have a' : ¬ es.toList.any (·.refKey) = true := by rw [a]; exact Bool.false_ne_true
    rw [if_neg a']
    exact congrArg some e

theorem ObjM.look {h : Heap} {x dx C : Addr} {mA : Str → Option Value} (I : ObjM h x dx C mA) : ∃ od, PySem.W.InstAt h x (PySem.W.instObj C dx) C (some od) ∧ ∀ name, PySem.W.lookIn name od = some (mA name) :=
  let ⟨od, ho, hl⟩ := lookIn_ns I.ns
  ⟨od, ⟨I.obj, rfl, rfl, ho⟩, hl⟩

section
variable {prog : Program} {w : World} {A : Around} {E : Value → Shared → Prop} {s : Shared} {K : PySem.W.Frag} {x dx C f : Addr} {mA : Str → Option Value} {name : Str} {v : Value}

end

/-! ### the attributes as a list of pairs -/
theorem RelO.some_of {v : V} {o : Option Value} (r : RelO (some v) o) : ∃ u, o = some u ∧ RelV v u := by
  cases o with
  | none => exact (show False from r).elim
  | some u => exact ⟨u, rfl, r⟩
section
variable {P : Program} {w : World} {H H' : Hp} {h h' : Heap} {a C dx : Addr} {fs fs' : List (Str × V)}
end

/-! ### what of the text a class must have -/
structure Cls (K : PySem.W.Frag) (C : Addr) : Prop where
  pg : PySem.W.plainGet K C Str.empty = true
  hd : PySem.W.hasDictIn K C = true
  po : PySem.W.plainOver K C = true
  sa : PySem.W.findIn K (.ref C) "__setattr__" = some (some (.builtin "object.__setattr__"))
theorem Cls.get {K : PySem.W.Frag} {C : Addr} (c : Cls K C) (f : Str) : PySem.W.plainGet K C f = true := c.pg
/-- a constant of the class -/
structure Con (K : PySem.W.Frag) (C : Addr) (f : Str) (v : V) (u : Value) : Prop where
  at_ : PySem.W.findIn K (.ref C) f = some (some u)
  rel : RelV v u
  get : PySem.W.specialIn K u "__get__" = some none
  cp : PySem.W.copiedNames.contains f = false
/-- a method: a plain def of the class or of one above it -/
structure Meth (K : PySem.W.Frag) (C : Addr) (m : Str) (f : Addr) : Prop where
  at_ : PySem.W.findIn K (.ref C) m = some (some (.ref f))
  fn : PySem.W.isFn K (.ref f) = true
  kp : PySem.W.keepIn K (.ref f) = true

section
variable {X : Cx} {pins : List (Addr × Obj)} {σ : St} {H : Hp} {s : Shared} {a C dx : Addr} {fs : List (Str × V)} {f : Str} {v : V} {A : Around} {E : Value → Shared → Prop}

/-- a new instance, tracked, without attributes -/
theorem Inv.made (I : Inv X pins σ H s) : Inv X pins σ (upd (upd H s.heap.objs.size (.own (s.heap.objs.size + 1))) (s.heap.objs.size + 1) (.ins C s.heap.objs.size []))
    { s with heap := (s.heap.push PySem.W.emptyDict).push (PySem.W.instObj C s.heap.objs.size) } := by
  have e1 : (s.heap.push PySem.W.emptyDict).get? s.heap.objs.size = some PySem.W.emptyDict := Heap.get?_push_size s.heap rfl
  have e2 : ((s.heap.push PySem.W.emptyDict).push (PySem.W.instObj C s.heap.objs.size)).get? (s.heap.objs.size + 1) = some (PySem.W.instObj C s.heap.objs.size) := by
    have := Heap.get?_push_size (s.heap.push PySem.W.emptyDict) (o := PySem.W.instObj C s.heap.objs.size) rfl
    rwa [Heap.size_push] at this
  have e3 : (s.heap.push PySem.W.emptyDict).Ns s.heap.objs.size (fun _ => none) := ⟨PySem.W.emptyDict, #[], _, e1, rfl, (fun e he => absurd he (by simp)), fun _ => rfl⟩
  have I1 := I.laid (a := s.heap.objs.size) (o := .own (s.heap.objs.size + 1)) (h' := s.heap.push PySem.W.emptyDict) (t' := s.toks) (fun b u q => Heap.get?_push_of_some _ q) (Nat.le_refl _) ⟨_, e1⟩
  refine I1.laid (a := s.heap.objs.size + 1) (o := .ins C s.heap.objs.size []) (t' := s.toks) (fun b u q => Heap.get?_push_of_some _ q) (Nat.le_of_eq (Heap.size_push _ _)) ?_
  have ne : s.heap.objs.size ≠ s.heap.objs.size + 1 := Nat.ne_of_lt (Nat.lt_succ_self _)
  refine ⟨by rw [upd_ne ne, upd_same], Nat.zero_le _, ne, e2, fun _ => none, (Heap.Ns1.of_empty e3).at fun o q => Heap.get?_push_of_some _ q, fun _ => True.intro, fun y hy => absurd rfl hy⟩

end

/-! ### readings and rules -/
section
variable {X : Cx} {o e value : Expr} {f : Str} {pos pos' tpos : Pos} {ta tv : TE}
end

/-! ### isinstance -/
section
variable {X : Cx} {pins : List (Addr × Obj)} {σ : St} {H : Hp} {s : Shared} {A : Around} {E : Value → Shared → Prop} {Q : Value → Shared → Prop} {c : Value} {b : Bool}
/-- the type of a value, as the fragment's deciders take it; for an instance its class -/
inductive TyOf (K : PySem.W.Frag) (H : Hp) : V → Value → Prop where
  | non : TyOf K H .non (.type "NoneType")
  | bl (x : Bool) : TyOf K H (.bl x) (.type "bool")
  | int (i : Int) : TyOf K H (.int i) (.type "int")
  | str (x : Str) : TyOf K H (.str x) (.type "str")
  | flt (x : UInt64) : TyOf K H (.flt x) (.type "float")
  | lst {a : Addr} {xs : List V} (e : H a = some (.lst xs)) : TyOf K H (.ref a) (.type "list")
  | frz {a : Addr} {o : Obj} {xs : List V} (e : H a = some (.frz o (.lst xs))) : TyOf K H (.ref a) (.type "list")
  | tup {a : Addr} {xs : List V} (e : H a = some (.tup xs)) : TyOf K H (.ref a) (.type "tuple")
  | dK {a : Addr} {kvs : List (Key × V)} (e : H a = some (.dK kvs)) : TyOf K H (.ref a) (.type "dict")
  | dT {a : Addr} {kvs : List (List Key × V)} (e : H a = some (.dT kvs)) : TyOf K H (.ref a) (.type "dict")
  | ins {a C dx : Addr} {fs : List (Str × V)} (e : H a = some (.ins C dx fs)) (cl : Cls K C) (ha : PySem.W.findIn K (.ref C) "__class__" = some (some (.builtin "object.__class__")))
      (hn : PySem.W.specialIn K (.builtin "object.__class__") "__get__" = some (some (.builtin "getset_descriptor.__get__"))) (htk : PySem.W.takesIn K (.builtin "object.__class__") = some true)
      (hm : PySem.W.mroIn K C (.type "object") = some true) : TyOf K H (.ref a) (.ref C)
end
end L2

namespace L2
open PySem PySem.Spec PyProof.Rows

/-! ### room -/
structure Room (k : Nat) (A : Around) : Prop where
  hd : A.handled = none
  dp : A.depth + 3 * k + 5 < recursionLimit
  un : A.units + 16 * k + 200 < cLine
theorem Room.mono {j k : Nat} {A : Around} (r : Room k A) (h : j ≤ k) : Room j A := ⟨r.hd, by have := r.dp; omega, by have := r.un; omega⟩
theorem Room.deeper {k : Nat} {A : Around} (r : Room (k + 1) A) (env : Env) : Room k (A.deeper env) :=
  ⟨r.hd, by have := r.dp; show A.depth + 1 + 3 * k + 5 < _; omega, by have := r.un; show A.units + 3 + 16 * k + 200 < _; omega⟩
theorem Room.depth {k : Nat} {A : Around} (r : Room k A) : A.depth < recursionLimit := by have := r.dp; omega
theorem Room.units {k : Nat} {A : Around} (r : Room k A) : A.units + 64 < cLine := by have := r.un; omega
/-! ### argument lists and displays -/
noncomputable def tNil : TA := fun _ H Q => Q [] H
noncomputable def tCons (ta : TE) (tr : TA) : TA := fun σ H Q => ta σ H fun x H1 => tr σ H1 fun xs H2 => Q (x :: xs) H2
section
variable {X : Cx} {e : Expr} {es : List Expr} {te : TE} {t : TA} {pos : Pos}
theorem pa_nil : PA X [] tNil := fun _ _ _ _ H Q I h => Calls.spliced_nil ⟨[], H, I, .nil, h⟩
theorem pa_cons (ha : PE X e te) (hr : PA X es t) (hs : starEach (e :: es) X.env = (false, eval e X.env) :: starEach es X.env := by rfl) : PA X (e :: es) (tCons te t) := by
  intro pos pins s σ H Q I h
  rw [hs]
  show wpAny _ _ (spliced ((false, eval e X.env) :: backTo pos (starEach es X.env))) _ _ s
  refine Calls.spliced_cons (thn (ha pins s σ H _ I h) fun u s1 ⟨x, H1, I1, r1, q1⟩ => ?_)
  exact thn (hr pos pins s1 σ H1 _ I1 q1) fun us s2 ⟨xs, H2, I2, r2, q2⟩ => ⟨x :: xs, H2, I2, .cons r1 r2, q2⟩

/-- a tuple, a list of written items -/
noncomputable def tTup (t : TA) : TE := fun σ H Q => t σ H fun xs H1 => xs.length ≤ sizeLine ∧ ∀ p, H1 p = none → Q (.ref p) (upd H1 p (.tup xs))
noncomputable def tLst (t : TA) : TE := fun σ H Q => t σ H fun xs H1 => xs.length ≤ sizeLine ∧ ∀ p, H1 p = none → Q (.ref p) (upd H1 p (.lst xs))
theorem pe_tup {x1} (h : PA X es t) : PE X (.Tuple es x1 pos) (tTup t) := by
  intro pins s σ H Q I hq
  refine wpAny_Tuple_spliced (thn (h pos pins s σ H _ I hq) fun us s1 ⟨xs, H1, I1, r, z, q⟩ => ⟨by rw [← r.length]; exact z, ?_⟩)
  have hf : H1 s1.heap.objs.size = none := I1.hok.fresh (Nat.le_refl _)
  refine ⟨.ref s1.heap.objs.size, upd H1 s1.heap.objs.size (.tup xs), I1.laid (t' := s1.toks) (fun b u e => Heap.get?_push_of_some _ e) (Nat.le_refl _) ?_, rfl, q _ hf⟩
  exact ⟨z, us, r, ⟨_, Heap.get?_push_size _ rfl, rfl, _, rfl⟩⟩
theorem pe_lst (h : PA X es t) : PE X (.List es pos) (tLst t) := by
  intro pins s σ H Q I hq
  refine wpAny_List_spliced (thn (h pos pins s σ H _ I hq) fun us s1 ⟨xs, H1, I1, r, z, q⟩ => ⟨by rw [← r.length]; exact z, ?_⟩)
  have hf : H1 s1.heap.objs.size = none := I1.hok.fresh (Nat.le_refl _)
  refine ⟨.ref s1.heap.objs.size, upd H1 s1.heap.objs.size (.lst xs), I1.laid (t' := s1.toks) (fun b u e => Heap.get?_push_of_some _ e) (Nat.le_refl _) ?_, rfl, q _ hf⟩
  exact ⟨z, us, 0, r, Heap.get?_push_size _ rfl⟩
end

/-! ### what a def promises -/
/-- a def's promise: the bound arguments in the parameters' order, the heap, the wanted end, the wanted exception -/
abbrev Sp := List V → Hp → VK → XK → Prop
/-- how an exception lies behind a call (file 08 gives it): the callers' frames, abstract heap and state ahead of the call, the wish, the exception, the state -/
abbrev CXT := List Env → Hp → Shared → XK → Value → Shared → Prop

/-- the state at a call -/
structure Env0 (P : Program) (w : World) (K : PySem.W.Frag) (mg : Str → Option Value) (base : Heap) (A : Around) (outer : List Env) (s : Shared) (H : Hp) : Prop where
  frames : A.frames = some outer
  mod : Mod K mg base
  bs : ∀ b o, base.get? b = some o → s.heap.get? b = some o ∧ H b = none
  bsz : base.objs.size ≤ s.heap.objs.size
  funs : s.heap.FunFrames base outer
  frf : ∀ b ∈ frs outer, H b = none
  hok : HOk P w H s.heap
  bare : AllBare s.gens
/-- a call's end -/
noncomputable def CE (outer : List Env) (P : Program) (w : World) (H : Hp) (s : Shared) (Q : VK) (u : Value) (s' : Shared) : Prop :=
  ∃ v H', s'.os = s.os ∧ AllBare s'.gens ∧ Un (frs outer) [] H H' s.heap s'.heap ∧ HOk P w H' s'.heap ∧ RelV v u ∧ Q v H'
noncomputable def CR (CX : CXT) (outer : List Env) (P : Program) (w : World) (H : Hp) (s : Shared) (Q : VK) (E : XK) (r : Result) (s' : Shared) : Prop :=
  match r with
  | .ok (.ret u) => CE outer P w H s Q u s'
  | .ok _ => False
  | .error e => CX outer H s E e s'
structure FnOk (P : Program) (w : World) (K : PySem.W.Frag) (mg : Str → Option Value) (base : Heap) (CX : CXT) (k : Nat) (f : Addr) (fd : FuncData) (ps : List Str) (sp : Sp) : Prop where
  len : ∀ vs H Q E, sp vs H Q E → vs.length = ps.length
  run : ∀ (A : Around) (outer : List Env) (s : Shared) (H : Hp) (args : Args) (us : List Value) (vs : List V) (Q : VK) (E : XK), Room k A → Env0 P w K mg base A outer s H → BindsTo s fd args (ps.zip us) → Vals vs us → sp vs H Q E →
    codeAny (model P w) A (.call (.ref f) args) (CR CX outer P w H s Q E) s
theorem FnOk.mono {P : Program} {w : World} {K : PySem.W.Frag} {mg : Str → Option Value} {base : Heap} {CX : CXT} {j k : Nat} {f : Addr} {fd : FuncData} {ps : List Str} {sp : Sp} (F : FnOk P w K mg base CX j f fd ps sp) (h : j ≤ k) :
    FnOk P w K mg base CX k f fd ps sp := ⟨F.len, fun A outer s H args us vs Q E hr => F.run A outer s H args us vs Q E (hr.mono h)⟩
section
variable {X : Cx} {pins : List (Addr × Obj)} {σ : St} {H : Hp} {s s' : Shared}
/-- from a body: what a callee wants -/
theorem Inv.env0 (I : Inv X pins σ H s) : Env0 X.prog X.w X.K X.mg X.base X.A X.stack s H :=
  ⟨I.ok.frames, I.ok.mod, I.bs, Nat.le_trans I.ok.bsz I.sz, I.stack, I.stkFree, I.hok, I.bare⟩
/-- behind a call -/
theorem Inv.after {Q : VK} {u : Value} (I : Inv X pins σ H s) (h : CE X.stack X.prog X.w H s Q u s') : EP X pins σ Q u s' := by
  obtain ⟨v, H', os, bare, un, hok, r, q⟩ := h
  obtain ⟨hh, g, d, t, os'⟩ := s'
  obtain rfl : os' = s.os := os
  exact ⟨v, H', I.call (h' := hh) (g' := g) (d' := d) (t' := t) (ch := []) un hok bare (fun b z => absurd z (by simp)), r, q⟩
end

/-! ### calls -/
/-- f(..): the written arguments, then the defaults dvs; E: what is wanted of an exception -/
noncomputable def tCall (sp : Sp) (dvs : List V) (E : XK) (t : TA) : TE := fun σ H Q => t σ H fun vs H1 => sp (vs ++ dvs) H1 Q E
/-- how the parameters are bound: us the positional arguments, kw the keywords' values by name, ds the defaults that fill up -/
noncomputable def Binds (K : PySem.W.Frag) (fd : FuncData) (ps : List Str) (ds : List Value) : Prop :=
  ∀ (s : Shared) (us : List Value), K.In s.heap → (us ++ ds).length = ps.length → BindsTo s fd ⟨us, []⟩ (ps.zip (us ++ ds))
/-- every parameter is given -/
theorem Binds.all {K : PySem.W.Frag} {fd : FuncData} {ps : List Str} (h : ∀ us : List Value, us.length = ps.length → bindArgs fd ⟨us, []⟩ = pure (ps.zip us)) : Binds K fd ps [] := fun s us _ hl => by
  rw [List.append_nil] at hl ⊢
  exact .of_eq (h us hl)

/-- an exception of a callee reaches what this body wants of exceptions -/
noncomputable def Passes (CX : CXT) (X : Cx) (E : XK) : Prop := ∀ (pins : List (Addr × Obj)) (σ : St) (H : Hp) (s : Shared) (e : Value) (s' : Shared), Inv X pins σ H s → CX X.stack H s E e s' → X.xe e s'

section
variable {X : Cx} {CX : CXT} {k : Nat} {f C : Addr} {fd : FuncData} {ps : List Str} {sp : Sp} {dvs : List V} {ds : List Value} {E : XK} {x m : Str} {p pos apos : Pos} {e o : Expr} {es : List Expr} {ta : TE} {t : TA}

/-- the callee runs -/
theorem run_fn {pins : List (Addr × Obj)} {σ : St} {H : Hp} {s : Shared} {Q : VK} {us : List Value} {vs : List V} (F : FnOk X.prog X.w X.K X.mg X.base CX k f fd ps sp) (hr : Room k X.A) (hb : Binds X.K fd ps ds) (hd : Vals dvs ds) (hx : Passes CX X E)
    (I : Inv X pins σ H s) (r : Vals vs us) (h : sp (vs ++ dvs) H Q E) : wpAny (model X.prog X.w) X.A (call (.ref f) us) (EP X pins σ Q) X.xe s := by
  have r2 : Vals (vs ++ dvs) (us ++ ds) := r.append hd
  have hl : (us ++ ds).length = ps.length := by rw [← r2.length]; exact F.len _ _ _ _ h
  refine wpAny_call (codeAny_mono (F.run X.A X.stack s H ⟨us, []⟩ (us ++ ds) (vs ++ dvs) Q E hr I.env0 (hb s us I.kIn hl) r2 h) fun r s' hq => ?_)
  cases r with
  | error e => exact hx pins σ H s e s' I hq
  | ok fl =>
    cases fl with
    | ret u => exact I.after hq
    | next => exact False.elim hq
    | brk => exact False.elim hq
    | cont => exact False.elim hq

theorem pe_call (F : FnOk X.prog X.w X.K X.mg X.base CX k f fd ps sp) (hr : Room k X.A) (hg : Gl X x) (hm : X.mg x = some (.ref f)) (hk : PySem.W.keepIn X.K (.ref f) = true) (hb : Binds X.K fd ps ds) (hd : Vals dvs ds) (hx : Passes CX X E)
    (ha : PA X (e :: es) t) (hdb : (x == ("__debug__" : Str)) = false := by decide) (he : starEach (e :: es) X.env = (false, eval e X.env) :: starEach es X.env := by rfl) (hpl : (backTo pos (starEach es X.env)).any (·.1) = false := by rfl) :
    PE X (.Call (.Name x p) (e :: es) [] pos) (tCall sp dvs E t) := by
  intro pins s σ H Q I h
  refine wpAny_Call_Name_kw (ld_glob I hg hm ?_ hdb)
  refine PySem.W.callWith_K (h₀ := X.base) I.ok.mod.kin hk (thn (ha pos pins s σ H _ I h) fun us s1 ⟨vs, H1, I1, r, q⟩ => ⟨I1.kIn, ?_⟩) he hpl
  exact run_fn F hr hb hd hx I1 r q
/-- what a class must have to be made -/
structure Mk (K : PySem.W.Frag) (C f : Addr) : Prop where
  makes : PySem.W.makesIn K C = true
  init : PySem.W.findIn K (.ref C) "__init__" = some (some (.ref f))
  fn : PySem.W.isFn K (.ref f) = true
  kp : PySem.W.keepIn K (.ref C) = true

end

/-! ### keywords -/
section
variable {X : Cx} {CX : CXT} {k : Nat} {f C : Addr} {fd : FuncData} {ps ks : List Str} {sp : Sp} {E : XK} {x m : Str} {p pos apos kpos : Pos} {e o : Expr} {es : List Expr} {kws : List Keyword} {te ta : TE} {t tk : TA} {nm : Option Str}
/-- how a call with keywords binds: g puts the positional values us and the keywords' values ws (names ks) in the parameters' order, defaults among them -/
structure KBinds (K : PySem.W.Frag) (fd : FuncData) (ps ks : List Str) (g : List Value → List Value → List Value) (gV : List V → List V → List V) : Prop where
  to : ∀ (s : Shared) (us ws : List Value), K.In s.heap → (g us ws).length = ps.length → BindsTo s fd ⟨us, ks.zip ws⟩ (ps.zip (g us ws))
  rel : ∀ {vs : List V} {us : List Value} {zs : List V} {ws : List Value}, Vals vs us → Vals zs ws → Vals (gV vs zs) (g us ws)
variable {g : List Value → List Value → List Value} {gV : List V → List V → List V}
end

/-! ### a def's body keeps its promise -/
/-- names: the parameters first -/
structure FnScope (N P : List Str) (sc : Scope) : Prop where
  kind : sc.kind = .function
  co : sc.isCoroutine = false
  gen : sc.isGenerator = false
  nd : N.Nodup
  pre : N.take P.length = P
  par : ∀ x ∈ P, sc.names.lookup x = some .local ∨ sc.names.lookup x = some .cell
  nofree : ∀ y ∈ sc.names, y.2 ≠ .free

theorem bindL_out {kindOf : Str → Option NameKind} {x : Str} : ∀ {binds : List (Str × Value)} {m : Str → Option Value}, (∀ v, (x, v) ∉ binds) → bindL kindOf binds m x = m x
  | [], _, _ => rfl
  | (n, v) :: r, m, h => by
    unfold bindL
    rw [bindL_out fun w hw => h w (List.mem_cons_of_mem _ hw)]
    split
    · have : x ≠ n := by rintro rfl; exact h v List.mem_cons_self
      simp [this]
    · rfl
theorem bindC_out {kindOf : Str → Option NameKind} {x : Str} : ∀ {binds : List (Str × Value)} {m : Str → Option Value}, (∀ v, (x, v) ∉ binds) → bindC kindOf binds m x = m x
  | [], _, _ => rfl
  | (n, v) :: r, m, h => by
    unfold bindC
    rw [bindC_out fun w hw => h w (List.mem_cons_of_mem _ hw)]
    split
    · rfl
    · have : x ≠ n := by rintro rfl; exact h v List.mem_cons_self
      simp [this]
theorem bindL_get {kindOf : Str → Option NameKind} {x : Str} {v : Value} : ∀ {P : List Str} {vs : List Value} {i : Nat} {m : Str → Option Value}, P.Nodup → P[i]? = some x → vs[i]? = some v → kindOf x = some .local →
    bindL kindOf (P.zip vs) m x = some v
  | [], _, _, _, _, h, _, _ => by simp at h
  | _ :: _, [], _, _, _, _, h, _ => by simp at h
  | p :: P, w :: vs, 0, m, nd, h1, h2, hk => by
    simp at h1 h2; subst h1; subst h2
    show bindL kindOf ((p, w) :: P.zip vs) m p = _
    unfold bindL
    rw [bindL_out fun v hv => (List.nodup_cons.mp nd).1 (List.of_mem_zip hv).1, if_pos hk]
    simp
  | p :: P, w :: vs, i + 1, m, nd, h1, h2, hk => by
    show bindL kindOf ((p, w) :: P.zip vs) m x = _
    unfold bindL
    exact bindL_get (i := i) (List.nodup_cons.mp nd).2 (by simpa using h1) (by simpa using h2) hk
theorem bindC_get {kindOf : Str → Option NameKind} {x : Str} {v : Value} : ∀ {P : List Str} {vs : List Value} {i : Nat} {m : Str → Option Value}, P.Nodup → P[i]? = some x → vs[i]? = some v → kindOf x ≠ some .local →
    bindC kindOf (P.zip vs) m x = some v
  | [], _, _, _, _, h, _, _ => by simp at h
  | _ :: _, [], _, _, _, _, h, _ => by simp at h
  | p :: P, w :: vs, 0, m, nd, h1, h2, hk => by
    simp at h1 h2; subst h1; subst h2
    show bindC kindOf ((p, w) :: P.zip vs) m p = _
    unfold bindC
    rw [bindC_out fun v hv => (List.nodup_cons.mp nd).1 (List.of_mem_zip hv).1, if_neg hk]
    simp
  | p :: P, w :: vs, i + 1, m, nd, h1, h2, hk => by
    show bindC kindOf ((p, w) :: P.zip vs) m x = _
    unfold bindC
    exact bindC_get (i := i) (List.nodup_cons.mp nd).2 (by simpa using h1) (by simpa using h2) hk

/-- the names' values at the entry -/
noncomputable def start (N : List Str) (vs : List V) : St := vs.map some ++ List.replicate (N.length - vs.length) none

/-- the context of a def's body, at its entry; an exception leaves the frame, then lies as CX says -/
noncomputable def cxOf (CX : CXT) (P : Program) (w : World) (K : PySem.W.Frag) (mg : Str → Option Value) (base : Heap) (N : List Str) (qual : Str) (scope : Scope) (f : Addr) (cd : Value) (A : Around) (outer : List Env) (s : Shared) (H : Hp) (E : XK) : Cx where
  prog := P
  w := w
  K := K
  mg := mg
  base := base
  A := A.deeper (envOfC qual scope s.heap.objs.size f cd)
  N := N
  s₀ := s
  H₀ := H
  env := envOfC qual scope s.heap.objs.size f cd
  outer := outer
  stack := envOfC qual scope s.heap.objs.size f cd :: outer
  ex := []
  calm := true
  fn := fun _ => true
  pn := []
  xe := fun e s' => wpAny (model P w) (A.deeper (envOfC qual scope s.heap.objs.size f cd)) (leaving (envOfC qual scope s.heap.objs.size f cd) e) (fun _ s'' => CX outer H s E e s'') (fun e' s'' => CX outer H s E e' s'') s'

theorem cell_has {sc : Scope} {n : Nat} {x : Str} (h : sc.names.lookup x = some .cell) : ∃ c, (cellsFrom n sc.names []).lookup x = some c := by
  have q := PySem.W.cellsFrom_some sc.names n [] (.inl h)
  exact Option.isSome_iff_exists.mp q

theorem inv_start {CX : CXT} {P : Program} {w : World} {K : PySem.W.Frag} {mg : Str → Option Value} {base : Heap} {N ps : List Str} {qual : Str} {scope : Scope} {f : Addr} {cd : Value} {A : Around} {outer : List Env} {s s1 : Shared} {H : Hp} {E : XK} {us : List Value} {vs : List V}
    (S : FnScope N ps scope) (hd : A.handled = none) (e0 : Env0 P w K mg base A outer s H) (hl : vs.length = ps.length) (r : Vals vs us)
    (x : InCallC s s.heap.objs.size (bindL (envOfC qual scope s.heap.objs.size f cd).kindOf (ps.zip us) fun _ => none) (cellsFrom (s.heap.objs.size + 1) scope.names []) (bindC (envOfC qual scope s.heap.objs.size f cd).kindOf (ps.zip us) fun _ => none) s1) :
    Inv (cxOf CX P w K mg base N qual scope f cd A outer s H E) [] (start N vs) H s1 := by
  have hpl : ps.length ≤ N.length := by have := congrArg List.length S.pre; rw [List.length_take] at this; omega
  obtain ⟨h1, tk, rfl, hk⟩ := x.done
  have noA : ∀ b : Addr, b ∉ (cxOf CX P w K mg base N qual scope f cd A outer s H E).ex := fun b z => absurd (show b ∈ ([] : List Addr) from z) (by simp)
  refine ⟨⟨e0.mod, S.kind, rfl, rfl, Nat.le_refl _, fun y z c h1 h2 => ?_, fun y hy => ?_, fun y c _ h => ?_, fun _ => hd, Around.frames_deeper e0.frames, .inr ⟨rfl, rfl⟩, fun b z => absurd z (noA b), e0.bs, e0.bsz, fun b _ _ => noA b, fun b z => absurd z (noA b), e0.funs, e0.frf⟩,
    rfl, e0.bare, Un.kept hk, ⟨_, x.toInCall.ns, fun i y v h1 h2 h3 => ?_⟩, fun y c h => ⟨_, x.cell y c h⟩, e0.hok.fresh (Nat.le_refl _), fun y c h => ?_, fun p hp => absurd (show p ∈ ([] : List (Addr × Obj)) from hp) (by simp), e0.hok.kept hk, ?_⟩
  · exact name_of_addr x.apart (PySem.mem_of_lookup h1) (PySem.mem_of_lookup h2)
  · have hy : scope.names.lookup y = some .cell ∨ scope.names.lookup y = some .free := hy
    rcases hy with hy | hy
    · exact cell_has hy
    · exact absurd rfl (S.nofree _ (PySem.mem_of_lookup hy))
  · exact Nat.le_of_lt (x.above y c (PySem.mem_of_lookup h))
  · have hi : i < vs.length := by
      unfold start at h2
      by_cases hi : i < vs.length
      · exact hi
      · rw [List.getElem?_append_right (by simpa using hi)] at h2
        rw [List.getElem?_replicate] at h2
        split at h2 <;> cases h2
    have ha : vs[i]? = some v := by
      unfold start at h2
      rw [List.getElem?_append_left (by simpa using hi), List.getElem?_map] at h2
      cases e : vs[i]? with
      | none => rw [e] at h2; cases h2
      | some a => rw [e] at h2; cases h2; rfl
    obtain ⟨u, hu, rv⟩ := r.get ha
    have hp : ps[i]? = some y := by
      rw [← S.pre, List.getElem?_take_of_lt (by omega)]; exact h1
    have ndP : ps.Nodup := by rw [← S.pre]; exact S.nd.sublist (List.take_sublist _ _)
    refine ⟨u, rv, ?_⟩
    rcases S.par y (List.mem_of_getElem? hp) with k | k
    · exact .inl ⟨k, bindL_get ndP hp hu k⟩
    · obtain ⟨c, e⟩ := cell_has (n := s.heap.objs.size + 1) k
      refine .inr ⟨.inl k, c, e, ?_⟩
      have q := x.cell y c e
      rw [bindC_get ndP hp hu (by show scope.names.lookup y ≠ _; rw [k]; decide)] at q
      exact q
  · exact e0.hok.fresh (Nat.le_of_lt (x.above y c (PySem.mem_of_lookup h)))
  · unfold start
    show _ = N.length
    rw [List.length_append, List.length_map, List.length_replicate]
    omega

/-- THE RULE: a def (or a method) of the text, by its body. The body's reading t is chosen for each entry; it is run at the parameters' values -/
theorem fn_of {CX : CXT} {P : Program} {w : World} {K : PySem.W.Frag} {mg : Str → Option Value} {base : Heap} {k : Nat} {f : Addr} {name qual : Str} {params : Arguments} {body : List Stmt} {scope : Scope} {dV kV doc pm cdv ct oc : Value} {an od : Option Addr}
    {osl : Array (Option Value)} {N ps : List Str} {sp : Sp} (lk : K.lookup f = some ⟨oc, od, .func (PySem.W.fnOf name qual params body scope dV kV doc pm an cdv ct), osl⟩) (hcd : PySem.W.codeIn K cdv qual = true) (S : FnScope N ps scope)
    (len : ∀ vs H Q E, sp vs H Q E → vs.length = ps.length)
    (hbody : ∀ (A : Around) (outer : List Env) (s : Shared) (H : Hp) (vs : List V) (Q : VK) (E : XK), Room k (A.deeper (envOfC qual scope s.heap.objs.size f cdv)) → sp vs H Q E →
      ∃ t, PSs (cxOf CX P w K mg base N qual scope f cdv A outer s H E) body t ∧ t { nx := fun _ H' => Q .non H', rt := Q } (start N vs) H) :
    FnOk P w K mg base CX (k + 1) f (PySem.W.fnOf name qual params body scope dV kV doc pm an cdv ct) ps sp := by
  refine ⟨len, fun A outer s H args us vs Q E hr e0 hb r hsp => ?_⟩
  have hl := len _ _ _ _ hsp
  have KX : K.In s.heap := e0.mod.kin.keeps fun b o e => (e0.bs b o e).1
  have lim : s.heap.NoLimit := e0.mod.nolimit.keeps fun b o e => (e0.bs b o e).1
  have hkind : ∀ y ∈ ps.zip us, scope.names.lookup y.1 = some .local ∨ (scope.names.lookup y.1 = some .cell ∧ ((cellsFrom (s.heap.objs.size + 1) scope.names []).lookup y.1).isSome = true) := fun ⟨n, v⟩ hy => by
    rcases S.par n (List.of_mem_zip hy).1 with q | q
    · exact .inl q
    · exact .inr ⟨q, PySem.W.cellsFrom_some _ _ _ (.inl q)⟩
  refine codeAny_call_function hr.depth (KX _ _ lk) rfl S.co S.gen rfl (PySem.W.codeRec_of KX hcd) (hb _ _ _ _ ?_)
  refine wpAny_newFunctionEnv_cells S.kind hkind fun env he s1 x => ?_
  subst he
  refine ⟨lim.keeps x.toInCall.keep, codeAny_func ?_⟩
  obtain ⟨t, ht, hq⟩ := hbody A outer s H vs Q E (hr.deeper _) hsp
  have I : Inv (cxOf CX P w K mg base N qual scope f cdv A outer s H E) [] (start N vs) H s1 := inv_start S hr.hd e0 hl r x
  refine wpAny_mono (ht [] s1 (start N vs) H _ I hq) (fun fl s' hs => ?_) fun e s' hs => hs
  have fin : ∀ {σ' : St} {H' : Hp} {v : V} {u : Value}, Inv (cxOf CX P w K mg base N qual scope f cdv A outer s H E) [] σ' H' s' → RelV v u → Q v H' → CE outer P w H s Q u s' :=
    fun {σ' H' v u} J rv q => ⟨v, H', J.os, J.bare, J.base, J.hok, rv, q⟩
  cases fl with
  | ret u =>
    obtain ⟨v, σ', H', J, rv, q⟩ := hs
    exact fin J rv q
  | next =>
    obtain ⟨σ', H', J, q⟩ := hs
    exact fin (v := V.non) (u := Value.none) J rfl q
  | brk =>
    obtain ⟨_, _, _, q⟩ := hs
    exact False.elim q
  | cont =>
    obtain ⟨_, _, _, q⟩ := hs
    exact False.elim q
end L2

namespace L2
open PySem PySem.Spec PyProof.Rows
section
variable {X : Cx} {x : Str} {p pos : Pos} {e : Expr} {es : List Expr} {t : TA} {id T : String} {r : List V → Hp → VK → Prop}

noncomputable def tCB (r : List V → Hp → VK → Prop) (t : TA) : TE := fun σ H Q => t σ H fun vs H1 => r vs H1 Q
/-- f(e, ..), f a built-in function -/
theorem pe_callB (hc : CallR X (.builtin id) r) (hg : Gl X x) (hm : X.mg x = none) (hv : bootBuiltins x = some (.builtin id)) (ha : PA X (e :: es) t) (hn : x ≠ "__name__" := by decide) (hdb : (x == ("__debug__" : Str)) = false := by decide)
    (he : starEach (e :: es) X.env = (false, eval e X.env) :: starEach es X.env := by rfl) (hpl : (backTo pos (starEach es X.env)).any (·.1) = false := by rfl) : PE X (.Call (.Name x p) (e :: es) [] pos) (tCB r t) := by
  intro pins s σ H Q I h
  refine wpAny_Call_Name_kw (ld_blt I hg hm hv ?_ hn hdb)
  exact PyProof.Rows.callWith_builtin1 (thn (ha pos pins s σ H _ I h) fun us s1 ⟨vs, H1, I1, r1, q1⟩ => hc pins s1 σ H1 vs us Q I1 r1 q1) he hpl
/-- T(e, ..), T a built-in type -/
theorem pe_callTy (hc : CallR X (.type T) r) (hg : Gl X x) (hm : X.mg x = none) (hv : bootBuiltins x = some (.type T)) (ha : PA X (e :: es) t) (hn : x ≠ "__name__" := by decide) (hdb : (x == ("__debug__" : Str)) = false := by decide)
    (he : starEach (e :: es) X.env = (false, eval e X.env) :: starEach es X.env := by rfl) (hpl : (backTo pos (starEach es X.env)).any (·.1) = false := by rfl) : PE X (.Call (.Name x p) (e :: es) [] pos) (tCB r t) := by
  intro pins s σ H Q I h
  refine wpAny_Call_Name_kw (ld_blt I hg hm hv ?_ hn hdb)
  exact PyProof.Rows.callWith_type1 (thn (ha pos pins s σ H _ I h) fun us s1 ⟨vs, H1, I1, r1, q1⟩ => hc pins s1 σ H1 vs us Q I1 r1 q1) he hpl
end
end L2

namespace HT
open PySem PyProof.Rows

section
open PySem.SeqAt
open PySem.AutoSeq1 (wpAny_loadPart')
open PySem.MeetsSeq PySem.MeetsSeq2 PySem.MeetsSeq3

end

section
variable {prog : Program} {w : World} {A : Around} {E : Value → Shared → Prop} {s : Shared}

/-- t + u, t not empty -/
theorem cat_tup {t b : Addr} {vs ws : List Value} {Q : Value → Shared → Prop} (ht : IsTup s.heap t vs.toArray) (hb : IsTup s.heap b ws.toArray) (hv : vs ≠ [])
    (h1 : ws = [] → Q (.ref t) s) (h2 : ws ≠ [] → Q (.ref s.heap.objs.size) { s with heap := s.heap.push { cls := .type "tuple", data := .seq (vs ++ ws).toArray } })
    (hsz : vs.length + ws.length ≤ sizeLine) : wpAny (model prog w) A (binaryOp .Add (.ref t) (.ref b)) Q E s := by
  obtain ⟨⟨cls, dd, data, sl⟩, ho, hc, n, hd⟩ := id ht
  obtain ⟨⟨cls2, dd2, data2, sl2⟩, ho2, hc2, n2, hd2⟩ := id hb
  simp only at hc hd hc2 hd2
  subst hc hd hc2 hd2
  have e : vs.toArray ++ ws.toArray = (vs ++ ws).toArray := by simp
  by_cases hw : ws = []
  · exact concat_meets ⟨_, ho, rfl⟩ ⟨_, ho2, rfl⟩ noFill_tuple_add seq_tuple_add PySem.F.slot_tuple_add PySem.F.entry_tuple_add (PySem.F.args_tuple_add_2 _ _)
      (tuple_addW1 t b vs.toArray ws.toArray n n2 dd dd2 sl sl2 (by simpa using hv) (by simp [hw])) ⟨ho, ho2, h1 hw⟩
  · refine concat_meets ⟨_, ho, rfl⟩ ⟨_, ho2, rfl⟩ noFill_tuple_add seq_tuple_add PySem.F.slot_tuple_add PySem.F.entry_tuple_add (PySem.F.args_tuple_add_2 _ _)
      (tuple_addW2 t b vs.toArray ws.toArray n n2 dd dd2 sl sl2 (by simpa using hv) (by simpa using hw) (by rw [List.size_toArray, List.size_toArray]; exact hsz)) ⟨ho, ho2, ?_⟩
    rw [e]
    exact h2 hw

/-! ### t[a:b], not the whole -/
/-- a slice's bound as a place among n (d where it is left out) -/
noncomputable def sIx (n d : Nat) : Option Int → Nat
  | none => d
  | some v => if v < 0 then (v + (n : Int)).toNat else min v.toNat n
end
end HT

namespace L2
open PySem PySem.Spec PyProof.Rows

/-! ### the parts of a slice -/
abbrev TO := St → Hp → (Option Int → Hp → Prop) → Prop
section
variable {X : Cx} {e : Expr} {te : TE} {lo hi : Option Expr} {tl th : TO} {pos p2 : Pos}

/-- what a slice of a value is, by values: the slice object stands at sl -/
noncomputable def SlR (X : Cx) (r : V → Option Int → Option Int → Hp → VK → Prop) : Prop :=
  ∀ (pins : List (Addr × Obj)) (s : Shared) (σ : St) (H : Hp) (x : V) (v vl vu : Value) (lo hi : Option Int) (sl : Addr) (Q : VK), Inv X pins σ H s → RelV x v → s.heap.IsSliceOf sl vl vu .none → IsPart vl lo → IsPart vu hi → r x lo hi H Q →
    ∃ T id, typeLookup (.type T) "__getitem__" = pure (some (.builtin id)) ∧ s.TypeIs v T ∧ wpAny (model X.prog X.w) X.A (getItem v (.ref sl)) (EP X pins σ Q) X.xe s
theorem SlR.or {r r' : V → Option Int → Option Int → Hp → VK → Prop} (h : SlR X r) (h' : SlR X r') : SlR X (fun x lo hi H Q => r x lo hi H Q ∨ r' x lo hi H Q) := by
  intro pins s σ H x v vl vu lo hi sl Q I rx hs pl pu q
  rcases q with q | q
  · exact h pins s σ H x v vl vu lo hi sl Q I rx hs pl pu q
  · exact h' pins s σ H x v vl vu lo hi sl Q I rx hs pl pu q
/-! ### t < u, t + u -/
/-- t + u, t not empty: u empty gives t itself -/
noncomputable def rCatT (K : PySem.W.Frag) : R2 := fun x y H Q => ∃ a b xs ys, x = .ref a ∧ y = .ref b ∧ SqT K H a xs ∧ SqT K H b ys ∧ xs ≠ [] ∧ xs.length + ys.length ≤ sizeLine ∧
  (ys = [] → Q (.ref a) H) ∧ (ys ≠ [] → ∀ p, H p = none → Q (.ref p) (upd H p (.tup (xs ++ ys))))
theorem Vals.nil_iff {xs : List V} {us : List Value} (r : Vals xs us) : us = [] ↔ xs = [] := by
  cases r with
  | nil => simp
  | cons _ _ => simp
theorem op_catT : OpR X (binaryOp .Add) (rCatT X.K) := by
  intro pins s σ H x y v u Q I rx ry h
  obtain ⟨a, b, xs, ys, rfl, rfl, ha, hb, hx, hz, q1, q2⟩ := h
  cases rx
  cases ry
  obtain ⟨its, r1, p1, _⟩ := I.tuple ha
  obtain ⟨its2, r2, p2, _⟩ := I.tuple hb
  refine HT.cat_tup p1 p2 (fun z => hx (r1.nil_iff.mp z)) (fun z => ⟨.ref a, H, I, rfl, q1 (r2.nil_iff.mp z)⟩) (fun z => ?_) (by rw [← r1.length, ← r2.length]; exact hz)
  refine ⟨.ref s.heap.objs.size, _, I.laid (t' := s.toks) (o := .tup (xs ++ ys)) (fun b ob q => Heap.get?_push_of_some _ q) (Nat.le_refl _) ?_, rfl, q2 (fun w => z (r2.nil_iff.mpr w)) _ (I.hok.fresh (Nat.le_refl _))⟩
  exact ⟨by rw [List.length_append]; exact hz, _, r1.append r2, IsTup.new _ _⟩
end
end L2

namespace L2
open PySem PySem.Spec PyProof.Rows

/-! ### places -/
/-- the place that an index of any sign means -/
noncomputable def ixN (n : Nat) (i : Int) : Option Nat := if 0 ≤ i then (if i < n then some i.toNat else none) else if -(n : Int) ≤ i then some (i + n).toNat else none
noncomputable def atI {α : Type} (xs : List α) (i : Int) : Option α := (ixN xs.length i).bind fun j => xs[j]?
theorem ixN_seq {n : Nat} {i : Int} {j : Nat} (h : ixN n i = some j) : seqIndex? i n = some j ∧ j < n ∧ -(n : Int) ≤ i ∧ i < n := by
  unfold ixN at h
  by_cases h0 : 0 ≤ i
  · rw [if_pos h0] at h
    by_cases h1 : i < n
    · rw [if_pos h1] at h
      have e : i.toNat = j := Option.some.inj h
      exact ⟨by rw [seqIndex_of h0 h1, e], by omega, by omega, h1⟩
    · rw [if_neg h1] at h; cases h
  · rw [if_neg h0] at h
    by_cases h1 : -(n : Int) ≤ i
    · rw [if_pos h1] at h
      have e : (i + n).toNat = j := Option.some.inj h
      exact ⟨by rw [seqIndex_neg (by omega) h1, e], by omega, h1, by omega⟩
    · rw [if_neg h1] at h; cases h
theorem atI_get {α : Type} {xs : List α} {i : Int} {v : α} (h : atI xs i = some v) : ∃ j, seqIndex? i xs.length = some j ∧ xs[j]? = some v ∧ j < xs.length ∧ -(xs.length : Int) ≤ i ∧ i < xs.length := by
  unfold atI at h
  cases e : ixN xs.length i with
  | none => rw [e] at h; cases h
  | some j =>
    rw [e] at h
    obtain ⟨h1, h2, h3, h4⟩ := ixN_seq e
    exact ⟨j, h1, h, h2, h3, h4⟩
/-! ### what may be subscripted -/
/-- what stands as an index of a plain subscript -/
noncomputable def PlainIx (b : Expr) : Prop := ∀ o i, subscripted b false o i = operate [o, i] (getItem o i)
/-- a subscript by values -/
noncomputable def IxR (X : Cx) (r : R2) : Prop :=
  ∀ (value slice : Expr) (pins : List (Addr × Obj)) (s : Shared) (σ : St) (H : Hp) (x y : V) (v u : Value) (Q : VK), Inv X pins σ H s → RelV x v → RelV y u → r x y H Q →
    subscripted slice false v u = operate [v, u] (getItem v u) → wpAny (model X.prog X.w) X.A (subscriptTail value slice v u) (EP X pins σ Q) X.xe s
/-- a call of a builtin's method by values: the receiver, the arguments -/
noncomputable def MtR (X : Cx) (id : String) (r : V → List V → Hp → VK → Prop) : Prop :=
  ∀ (pins : List (Addr × Obj)) (s : Shared) (σ : St) (H : Hp) (x : V) (xs : List V) (v : Value) (us : List Value) (Q : VK), Inv X pins σ H s → RelV x v → Vals xs us → r x xs H Q →
    wpAny (model X.prog X.w) X.A (call (.builtin id) (v :: us)) (EP X pins σ Q) X.xe s
section
variable {X : Cx} {a b : Expr} {ta tb : TE} {pos : Pos}
theorem IxR.or {r r' : R2} (h : IxR X r) (h' : IxR X r') : IxR X (fun x y H Q => r x y H Q ∨ r' x y H Q) := by
  intro value slice pins s σ H x y v u Q I rx ry q hs
  rcases q with q | q
  · exact h value slice pins s σ H x y v u Q I rx ry q hs
  · exact h' value slice pins s σ H x y v u Q I rx ry q hs
theorem MtR.or {id : String} {r r' : V → List V → Hp → VK → Prop} (h : MtR X id r) (h' : MtR X id r') : MtR X id (fun x xs H Q => r x xs H Q ∨ r' x xs H Q) := by
  intro pins s σ H x xs v us Q I rx rs q
  rcases q with q | q
  · exact h pins s σ H x xs v us Q I rx rs q
  · exact h' pins s σ H x xs v us Q I rx rs q
/-- a[b] -/
theorem pe_ix {r : R2} (hr : IxR X r) (ha : PE X a ta) (hb : PE X b tb) (hs : PlainIx b) : PE X (.Subscript a b pos) (tOp r ta tb) := by
  intro pins s σ H Q I h
  exact Subscript_ (binT ha hb I h fun v u s2 x y H2 I2 rx ry q => hr a b pins s2 σ H2 x y v u Q I2 rx ry q (hs _ _))

noncomputable def rIxL (K : PySem.W.Frag) : R2 := fun x y H Q => ∃ p xs i v, x = .ref p ∧ y = .int i ∧ SqL K H p xs ∧ atI xs i = some v ∧ Q v H
noncomputable def rIxT (K : PySem.W.Frag) : R2 := fun x y H Q => ∃ p xs i v, x = .ref p ∧ y = .int i ∧ SqT K H p xs ∧ atI xs i = some v ∧ Q v H
noncomputable def rIxS : R2 := fun x y H Q => ∃ z i c, x = .str z ∧ y = .int i ∧ z.length ≤ sizeLine ∧ atI z.cps.toList i = some c ∧ Q (.str ⟨#[c]⟩) H
theorem ix_list : IxR X (rIxL X.K) := by
  intro value slice pins s σ H x y v u Q I rx ry h hs
  obtain ⟨p, xs, i, z, rfl, rfl, hq, he, q⟩ := h
  cases rx
  obtain ⟨t, rfl⟩ := ry
  obtain ⟨its, r, pl, hz⟩ := I.list hq
  obtain ⟨j, h1, h2, h3, h4, h5⟩ := atI_get he
  obtain ⟨w, ew, rw'⟩ := r.get h2
  have hl := r.length
  have hn := line63
  have fin : EP X pins σ Q w s := ⟨z, H, I, rw', q⟩
  by_cases h0 : 0 ≤ i
  · have hj : i.toNat = j := by
      rw [seqIndex_of h0 h5] at h1
      exact Option.some.inj h1
    exact item_listR pl.isList h0 (by omega) (by rw [hj]; simpa using ew) fin hs
  · have hj : (i + (its.toArray.size : Int)).toNat = j := by
      rw [seqIndex_neg (by omega) h4] at h1
      rw [List.size_toArray, ← hl]
      exact Option.some.inj h1
    exact subscriptTail_builtinR (x := w) pl.isList.typeIs slot_list_getitem.lookup
      (wpAny_getItem_list_neg (Q := fun r s' => r = w ∧ EP X pins σ Q r s') pl.isList (by omega) (by rw [List.size_toArray] <;> omega) (by omega) (by rw [hj]; simpa using ew) ⟨rfl, fin⟩) hs
theorem ix_tup : IxR X (rIxT X.K) := by
  intro value slice pins s σ H x y v u Q I rx ry h hs
  obtain ⟨p, xs, i, z, rfl, rfl, hq, he, q⟩ := h
  cases rx
  obtain ⟨t, rfl⟩ := ry
  obtain ⟨its, r, pl, hz⟩ := I.tuple hq
  obtain ⟨j, h1, h2, h3, h4, h5⟩ := atI_get he
  obtain ⟨w, ew, rw'⟩ := r.get h2
  have hl := r.length
  have hn := line63
  have fin : EP X pins σ Q w s := ⟨z, H, I, rw', q⟩
  exact subscriptTail_builtinR (x := w) pl.typeIs slot_tuple_getitem.lookup
    (getItem_tuple (j := j) (Q := fun r s' => r = w ∧ EP X pins σ Q r s') pl (by omega) (by omega) (by rw [List.size_toArray, ← hl]; exact h1) (by simpa using ew) ⟨rfl, fin⟩) hs
theorem ix_str : IxR X rIxS := by
  intro value slice pins s σ H x y v u Q I rx ry h hs
  obtain ⟨z, i, c, rfl, rfl, hz, he, q⟩ := h
  obtain ⟨t, rfl⟩ := rx
  obtain ⟨t', rfl⟩ := ry
  obtain ⟨j, h1, h2, h3, h4, h5⟩ := atI_get he
  have hl : z.cps.toList.length = z.length := by simp [Str.length]
  rw [hl] at h1 h4 h5
  have hn := line63
  exact tail_any (typeIs_str s z t) slot_str_getitem.lookup (getItem_str (c := c) (by
    have e1 : decide (i < -(2 ^ 63 : Int)) = false := decide_eq_false (by omega)
    have e2 : decide (i ≥ 2 ^ 63) = false := decide_eq_false (by omega)
    rw [e1, e2, Bool.or_false]) (by rw [h1]; simpa using h2) ⟨.str ⟨#[c]⟩, H, I.tok _, ⟨_, rfl⟩, q⟩) hs
/-- list, tuple or str -/
noncomputable def rIx (K : PySem.W.Frag) : R2 := fun x y H Q => rIxL K x y H Q ∨ rIxT K x y H Q ∨ rIxS x y H Q
theorem ix_seq : IxR X (rIx X.K) := ix_list.or (ix_tup.or ix_str)

/-! ### xs[i] = v, any sign -/
/-- the list's object behind a store -/
theorem mapSeq_set (its : List Value) (n j : Nat) (u : Value) : Obj.mapSeq (·.setIfInBounds j u) { cls := .type "list", data := .seq its.toArray n } = { cls := .type "list", data := .seq (its.set j u).toArray n } := by
  simp [Obj.mapSeq]
theorem Inv.lst {pins : List (Addr × Obj)} {σ : St} {H : Hp} {s : Shared} {p : Addr} {xs : List V} (I : Inv X pins σ H s) (h : H p = some (.lst xs)) :
    ∃ (its : List Value) (n : Nat), Vals xs its ∧ s.heap.get? p = some { cls := .type "list", data := .seq its.toArray n } ∧ xs.length ≤ sizeLine := by
  obtain ⟨z, its, n, r, e⟩ := I.hok p _ h
  exact ⟨its, n, r, e, z⟩
/-- the list at p is written by an update of its object -/
theorem Inv.lstUpd {pins : List (Addr × Obj)} {σ : St} {H : Hp} {s : Shared} {p : Addr} {xs ys : List V} {its its' : List Value} {n n' : Nat} {f : Obj → Obj} (I : Inv X pins σ H s) (h : H p = some (.lst xs))
    (ho : s.heap.get? p = some { cls := .type "list", data := .seq its.toArray n }) (hf : f { cls := .type "list", data := .seq its.toArray n } = { cls := .type "list", data := .seq its'.toArray n' }) (r : Vals ys its') (hz : ys.length ≤ sizeLine) (t : Nat) :
    Inv X pins σ (upd H p (.lst ys)) { s with heap := s.heap.update p f, toks := t } := by
  have e : (s.heap.update p f).get? p = some { cls := .type "list", data := .seq its'.toArray n' } := by
    rw [Heap.get?_update_self f ho (by rw [hf] <;> rfl), hf]
  refine I.write (x := p) (e := p) (by rw [h]; trivial) (.inl rfl) (fun b u hb q => (Heap.get?_update_other _ _ (Ne.symm hb)).trans q) ⟨_, e⟩ ?_
  exact ⟨hz, its', n', r, e⟩
noncomputable def rSetL : V → V → V → Hp → (Hp → Prop) → Prop := fun o i v H Q => ∃ p xs k j, o = .ref p ∧ i = .int k ∧ H p = some (.lst xs) ∧ ixN xs.length k = some j ∧ Q (upd H p (.lst (xs.set j v)))
theorem set_list : PSet X rSetL := by
  intro pins s σ H o i v ov iv u Q I ro ri rv h
  obtain ⟨p, xs, k, j, rfl, rfl, hp, hj, q⟩ := h
  cases ro
  obtain ⟨t, rfl⟩ := ri
  obtain ⟨its, n, r, ho, hz⟩ := I.lst hp
  obtain ⟨h1, h2, h3, h4⟩ := ixN_seq hj
  have hl := r.length
  have hn := line63
  have I' : Inv X pins σ (upd H p (.lst (xs.set j v))) { s with heap := s.heap.update p (Obj.mapSeq (·.setIfInBounds j u)) } :=
    I.lstUpd hp ho (mapSeq_set its n j u) (r.set rv j) (by rw [List.length_set]; exact hz) s.toks
  by_cases h0 : 0 ≤ k
  · have hk : k.toNat = j := by
      rw [seqIndex_of h0 h4] at h1
      exact Option.some.inj h1
    exact PySem.W.ki_setAt ho h0 (by omega) (by rw [List.size_toArray, ← hl]; exact h4) (by rw [hk]; exact ⟨_, I', q⟩)
  · have hk : (k + (its.toArray.size : Int)).toNat = j := by
      rw [seqIndex_neg (by omega) h3] at h1
      rw [List.size_toArray, ← hl]
      exact Option.some.inj h1
    exact PySem.W.ki_setBack ho (by omega) (by rw [List.size_toArray, ← hl]; exact h3) (by omega) (by rw [hk]; exact ⟨_, I', q⟩)

/-! ### slices -/
/-! ### in, not in: flat items -/
/-! ### len, list(x), tuple(x) of any list or tuple that is read -/
theorem CallR.or {f : Value} {r r' : List V → Hp → VK → Prop} (h : CallR X f r) (h' : CallR X f r') : CallR X f (fun xs H Q => r xs H Q ∨ r' xs H Q) := by
  intro pins s σ H xs us Q I rs q
  rcases q with q | q
  · exact h pins s σ H xs us Q I rs q
  · exact h' pins s σ H xs us Q I rs q
theorem call_list_of : CallR X (.type "list") (fun xs H Q => ∃ p ys, xs = [.ref p] ∧ (SqL X.K H p ys ∨ SqT X.K H p ys) ∧ ∀ l, H l = none → Q (.ref l) (upd H l (.lst ys))) := by
  intro pins s σ H xs us Q I r h
  obtain ⟨p, ys, rfl, hq, q⟩ := h
  obtain ⟨u, rfl, rx⟩ := vals1 r
  cases rx
  have fin : ∀ (its : List Value), Vals ys its → ys.length ≤ sizeLine → ∀ (h' : Heap) (c' : Nat), (∀ b o', s.heap.get? b = some o' → h'.get? b = some o') →
      h'.get? s.heap.objs.size = some { cls := .type "list", dict := none, data := .seq its.toArray c', slots := #[] } → EP X pins σ Q (.ref s.heap.objs.size) { s with heap := h' } := fun its r' hz h' c' kp e =>
    ⟨.ref s.heap.objs.size, _, I.laid (t' := s.toks) kp (Nat.le_refl _) (show ObjOk X.prog X.w _ h' _ (.lst ys) from ⟨hz, its, c', r', e⟩), rfl, q _ (I.hok.fresh (Nat.le_refl _))⟩
  rcases hq with hq | hq
  · obtain ⟨its, r', pl, hz⟩ := I.list hq
    have hlen := r'.length
    obtain ⟨o, ho, hc, n, hd⟩ := pl.isList
    exact call_list_seq p (.inl rfl) ho hc hd (fun h' c' kp e => fin its r' hz h' c' kp e) (by simp only [List.size_toArray] <;> omega)
  · obtain ⟨its, r', pl, hz⟩ := I.tuple hq
    have hlen := r'.length
    obtain ⟨o, ho, hc, n, hd⟩ := pl
    exact call_list_seq p (.inr rfl) ho hc hd (fun h' c' kp e => fin its r' hz h' c' kp e) (by simp only [List.size_toArray] <;> omega)
/-! ### the call of a builtin's method: o.m(..) -/
/-- the value is of that builtin type -/
noncomputable def tyV (K : PySem.W.Frag) (T : String) (x : V) (H : Hp) : Prop := match x with
  | .str _ => T = "str"
  | .int _ => T = "int"
  | .ref p => (T = "list" ∧ ∃ xs, SqL K H p xs) ∨ (T = "tuple" ∧ ∃ o, K.lookup p = some o ∧ o.cls = .type "tuple" ∧ o.dict = none) ∨
      (T = "dict" ∧ ((∃ kvs, H p = some (.dK kvs)) ∨ ∃ kvs, H p = some (.dT kvs))) ∨ (T = "set" ∧ ∃ S n, H p = some (.set S n))
  | _ => False
theorem tyV_is {pins : List (Addr × Obj)} {σ : St} {H : Hp} {s : Shared} {T : String} {x : V} {v : Value} (I : Inv X pins σ H s) (r : RelV x v) (ty : tyV X.K T x H) :
    s.TypeIs v T ∧ ∀ a, v = .ref a → ∃ ob, s.heap.get? a = some ob ∧ ob.dict = none := by
  cases x with
  | str z =>
    obtain ⟨t, rfl⟩ := r
    cases (show T = "str" from ty)
    exact ⟨typeIs_str s z t, fun _ e => nomatch e⟩
  | int i =>
    obtain ⟨t, rfl⟩ := r
    cases (show T = "int" from ty)
    exact ⟨typeIs_int s i t, fun _ e => nomatch e⟩
  | ref p =>
    cases r
    rcases ty with ⟨rfl, xs, hq⟩ | ⟨rfl, o, hk, hc, hd⟩ | ⟨rfl, hk⟩ | ⟨rfl, S, n, hk⟩
    · obtain ⟨its, _, pl, _⟩ := I.list hq
      refine ⟨pl.isList.typeIs, fun a e => ?_⟩
      cases e
      obtain ⟨o, n, e, c, hd, _⟩ := pl
      exact ⟨o, e, hd⟩
    · refine ⟨⟨o, I.kIn p o hk, hc⟩, fun a e => ?_⟩
      cases e
      exact ⟨o, I.kIn _ o hk, hd⟩
    · have z : ∃ o, s.heap.get? p = some o ∧ o.ExactDict := by
        rcases hk with ⟨kvs, hk⟩ | ⟨kvs, hk⟩
        · obtain ⟨_, _, _, _, o, _, _, e, ex, _⟩ := I.hok p _ hk
          exact ⟨o, e, ex⟩
        · obtain ⟨_, _, _, _, o, _, _, e, ex, _⟩ := I.hok p _ hk
          exact ⟨o, e, ex⟩
      obtain ⟨o, e, ex⟩ := z
      refine ⟨⟨o, e, ex.1⟩, fun a e2 => ?_⟩
      cases e2
      exact ⟨o, e, ex.2.1⟩
    · obtain ⟨o, _, _, _, e, ex, _⟩ := I.hok p _ hk
      refine ⟨⟨o, e, ex.1⟩, fun a e2 => ?_⟩
      cases e2
      exact ⟨o, e, ex.2.1⟩
  | _ => exact False.elim ty
noncomputable def tBM (K : PySem.W.Frag) (T : String) (r : V → List V → Hp → VK → Prop) (to : TE) (t : TA) : TE := fun σ H Q => to σ H fun x H1 => tyV K T x H1 ∧ t σ H1 fun xs H2 => r x xs H2 Q
variable {o e : Expr} {es : List Expr} {to : TE} {t : TA} {name : Str} {apos cpos : Pos} {T id : String} {r : V → List V → Hp → VK → Prop}
theorem pe_bm (pa : PlainAttrs T) (slot : Slot T name id) (hty : typeOf (.builtin id) = pure (.type "method_descriptor")) (hm : MtR X id r) (ho : PE X o to) (ha : PA X (e :: es) t)
    (hbase : attributeBase o name X.env (eval o X.env) = eval o X.env := by rfl)
    (hfew : ((backTo cpos (starEach (e :: es) X.env)).all (fun x => !x.1) && (backToKw cpos (keywordEach [] X.env)).all (fun x => x.1.isSome)
      && decide ((e :: es).length + ([] : List Keyword).length + (if ([] : List Keyword).isEmpty then 0 else 1) < 30)) = true := by rfl)
    (hline : (apos.endLine == cpos.line) = true := by rfl) (hs : starEach (e :: es) X.env = (false, eval e X.env) :: starEach es X.env := by rfl) (hplain : (backTo cpos (starEach es X.env)).any (·.1) = false := by rfl) :
    PE X (.Call (.Attribute o name apos) (e :: es) [] cpos) (tBM X.K T r to t) := by
  intro pins s σ H Q I h
  refine wpAny_Call_method_late hbase hfew hline rfl (thn (ho pins s σ H _ I h) fun v s1 ⟨x, H1, I1, r1, ty, q1⟩ => ?_)
  obtain ⟨h1, h2⟩ := tyV_is I1 r1 ty
  refine ⟨T, id, pa, slot, hty, h1, h2, ?_⟩
  have hA := ha cpos pins s1 σ H1 _ I1 q1
  rw [hs] at hA ⊢
  refine Calls.callWith_builtin (by show (false || (backTo cpos (starEach es X.env)).any (·.1)) = false; rw [hplain] <;> rfl) (Calls.evalArgs_plain ?_)
  exact thn hA fun us s2 ⟨vs, H2, I2, r2, q2⟩ => hm pins s2 σ H2 x vs v us Q I2 r1 r2 q2
/- xs.append(e), list.index on a module's tuple .. are MtR facts of 06m -/
end
end L2

namespace L2
open PySem PySem.Spec PyProof.Rows

noncomputable def MtM (X : Cx) (id : String) (r : V → List V → Hp → VK → Prop) : Prop :=
  ∀ (pins : List (Addr × Obj)) (s : Shared) (σ : St) (H : Hp) (x : V) (xs : List V) (v : Value) (us : List Value) (Q : VK), Inv X pins σ H s → RelV x v → Vals xs us → r x xs H Q →
    wpAny (model X.prog X.w) X.A (call (.builtin id) (v :: us)) (EP X pins σ Q) X.xe s

/-! ### lists of values -/
theorem Vals.one : ∀ {x : V} {us : List Value}, Vals [x] us → ∃ u, us = [u] ∧ RelV x u
  | _, _, .cons r .nil => ⟨_, rfl, r⟩
theorem Vals.two : ∀ {x y : V} {us : List Value}, Vals [x, y] us → ∃ u v, us = [u, v] ∧ RelV x u ∧ RelV y v
  | _, _, _, .cons r (.cons q .nil) => ⟨_, _, rfl, r, q⟩
theorem Vals.zero : ∀ {us : List Value}, Vals [] us → us = []
  | _, .nil => rfl
theorem Vals.rep {xs : List V} {us : List Value} (h : Vals xs us) : ∀ k : Nat, Vals (List.replicate k xs).flatten (List.replicate k us).flatten
  | 0 => .nil
  | k + 1 => by
    rw [List.replicate_succ, List.replicate_succ, List.flatten_cons, List.flatten_cons]
    exact Vals.append h (Vals.rep h k)
theorem foldl_rep (its : List Value) : ∀ (k : Nat) (acc : List Value),
    List.foldl (fun x1 x2 => x1 ++ x2) acc.toArray (List.replicate k its.toArray) = (acc ++ (List.replicate k its).flatten).toArray
  | 0, acc => by simp
  | k + 1, acc => by
    have e : acc.toArray ++ its.toArray = (acc ++ its).toArray := by simp
    have e2 : (acc ++ its) ++ (List.replicate k its).flatten = acc ++ (List.replicate (k + 1) its).flatten := by
      rw [List.replicate_succ, List.flatten_cons, List.append_assoc]
    rw [← e2, ← foldl_rep its k (acc ++ its), ← e, List.replicate_succ, List.foldl_cons]

section
variable {X : Cx} {pins : List (Addr × Obj)} {σ : St} {H : Hp} {s : Shared} {l b : Addr} {xs ys zs : List V}

/-! ### the two steps: a tracked list is rewritten, a new list is laid -/
theorem Inv.lset {its its' : List Value} {n : Nat} {f : Array Value → Array Value} {t' : Nat} (I : Inv X pins σ H s) (hH : H l = some (.lst xs))
    (e : s.heap.get? l = some { cls := .type "list", data := .seq its.toArray n }) (hf : f its.toArray = its'.toArray) (hv : Vals ys its') (hz : ys.length ≤ sizeLine) :
    Inv X pins σ (upd H l (.lst ys)) { s with heap := s.heap.update l (Obj.mapSeq f), toks := t' } := by
  have q := PySem.IsL.update e f
  rw [hf] at q
  refine I.write (x := l) (e := l) (by rw [hH]; exact trivial) (.inl rfl) (fun b' u hb hu => (Heap.get?_update_other s.heap (Obj.mapSeq f) (Ne.symm hb)).trans hu) ⟨_, q⟩ ?_
  exact ⟨hz, its', _, hv, q⟩
theorem Inv.lnew {its : List Value} {t' : Nat} (I : Inv X pins σ H s) (hv : Vals ys its) (hz : ys.length ≤ sizeLine) :
    Inv X pins σ (upd H s.heap.objs.size (.lst ys)) { s with heap := s.heap.push { cls := .type "list", data := .seq its.toArray }, toks := t' } :=
  I.laid (fun _ _ q => Heap.get?_push_of_some _ q) (Nat.le_refl _) ⟨hz, its, 0, hv, Heap.get?_push_size _ rfl⟩
theorem Inv.fresh (I : Inv X pins σ H s) : H s.heap.objs.size = none := I.hok.fresh (Nat.le_refl _)
theorem Inv.lstM (I : Inv X pins σ H s) (hH : H l = some (.lst xs)) : xs.length ≤ sizeLine ∧ ∃ (its : List Value) (n : Nat), Vals xs its ∧ xs.length = its.length ∧ s.heap.get? l = some { cls := .type "list", data := .seq its.toArray n } := by
  obtain ⟨z, its, n, r, e⟩ := I.hok l _ hH
  exact ⟨z, its, n, r, r.length, e⟩

theorem notLongL {n : Nat} (h : n ≤ sizeLine) : Builtin.List.listTooLong n = false := by
  unfold Builtin.List.listTooLong
  exact decide_eq_false (by omega)
end

section
variable {X : Cx}

/-! ### methods -/
noncomputable def rAppend : V → List V → Hp → VK → Prop := fun x vs H Q => ∃ l xs y, x = .ref l ∧ vs = [y] ∧ H l = some (.lst xs) ∧ xs.length < sizeLine ∧ Q .non (upd H l (.lst (xs ++ [y])))
theorem mt_append : MtM X "list.append" rAppend := by
  intro pins s σ H x vs v us Q I rx rv h
  obtain ⟨l, xs, y, rfl, rfl, hH, hz, q⟩ := h
  cases rx
  obtain ⟨u, rfl, ru⟩ := rv.one
  obtain ⟨z, its, n, r, hl, e⟩ := I.lstM hH
  refine call_meets F.slot_list_append ⟨_, e, rfl⟩ F.entry_list_append (F.args_list_append_2 _ _) (PySem.list_append l its.toArray n u (by rw [List.size_toArray]; omega)) ⟨e, ?_⟩
  refine ⟨.non, _, I.lset (its' := its ++ [u]) hH e (by simp) (r.append (.cons ru .nil)) ?_, rfl, q⟩
  rw [List.length_append, List.length_singleton]
  omega

/-! ### list + list, list += list, list * int -/
noncomputable def rCat : R2 := fun x y H Q => ∃ l b xs zs, x = .ref l ∧ y = .ref b ∧ H l = some (.lst xs) ∧ H b = some (.lst zs) ∧ xs.length + zs.length ≤ sizeLine ∧ ∀ p, H p = none → Q (.ref p) (upd H p (.lst (xs ++ zs)))
theorem op_cat : OpR X (binaryOp .Add) rCat := by
  intro pins s σ H x y v u Q I rx ry h
  obtain ⟨l, b, xs, zs, rfl, rfl, hH, hB, hz, q⟩ := h
  cases rx
  cases ry
  obtain ⟨z, its, n, r, hl, e⟩ := I.lstM hH
  obtain ⟨z2, its2, n2, r2, hl2, e2⟩ := I.lstM hB
  refine PySem.P.add_list e e2 ?_ (by rw [List.size_toArray, List.size_toArray]; omega)
  have ea : its.toArray ++ its2.toArray = (its ++ its2).toArray := by simp
  rw [ea]
  exact ⟨.ref _, _, I.lnew (t' := s.toks) (r.append r2) (by rw [List.length_append]; omega), rfl, q _ I.fresh⟩
/-- a list times an int (a negative one is nothing) -/
noncomputable def rRep : R2 := fun x y H Q => ∃ l k xs, x = .ref l ∧ y = .int k ∧ H l = some (.lst xs) ∧ -(2 ^ 63) ≤ k ∧ k < 2 ^ 63 ∧ xs.length * k.toNat ≤ sizeLine ∧
  ∀ p, H p = none → Q (.ref p) (upd H p (.lst (List.replicate k.toNat xs).flatten))
theorem len_rep {α : Type} (xs : List α) (k : Nat) : (List.replicate k xs).flatten.length = k * xs.length := by
  induction k with
  | zero => simp
  | succ k ih => rw [List.replicate_succ, List.flatten_cons, List.length_append, ih, Nat.succ_mul, Nat.add_comm]
theorem op_rep : OpR X (binaryOp .Mult) rRep := by
  intro pins s σ H x y v u Q I rx ry h
  obtain ⟨l, k, xs, rfl, rfl, hH, h1, h2, hz, q⟩ := h
  cases rx
  obtain ⟨t, rfl⟩ := ry
  obtain ⟨z, its, n, r, hl, e⟩ := I.lstM hH
  have hlen : its.toArray.size * k.toNat ≤ sizeLine := by rw [List.size_toArray, ← hl]; exact hz
  have hcap : ¬ its.toArray.size * k.toNat > (2 ^ 63 - 1) / 8 := by
    have : (sizeLine : Nat) ≤ (2 ^ 63 - 1) / 8 := by decide
    omega
  have hfit : ¬ (!Builtin.List.listFitsIndex k) = true := by
    rw [fitsIndex_both h1 h2]
    exact Bool.false_ne_true
  have hlong : ¬ Builtin.List.listTooLong (its.toArray.size * k.toNat) = true := by
    rw [notLongL hlen]
    exact Bool.false_ne_true
  have hnew : List.foldl (fun x1 x2 => x1 ++ x2) #[] (List.replicate (if its.toArray.isEmpty = true then 0 else k.toNat) its.toArray) = (List.replicate k.toNat its).flatten.toArray := by
    have f0 : ∀ m : Nat, List.foldl (fun x1 x2 => x1 ++ x2) #[] (List.replicate m its.toArray) = (List.replicate m its).flatten.toArray := fun m => by
      have := foldl_rep its m []
      rw [List.nil_append] at this
      exact this
    rw [f0]
    cases its with
    | nil => simp
    | cons a r' => rw [if_neg (by simp)]
  refine wpAny_binaryOp_repeat_ref (T := "list") (U := "int") (by decide) ⟨_, e, rfl⟩ (fun s' => typeIs_int s' k t) noFill_list_mul F.fills_int_mul F.slot_int_rmul repeat_list F.slot_int_index.lookup
    (call_meets F.slot_int_rmul (typeIs_int s k t) F.entry_int_rmul (F.args_int_rmul_2 _ _) (int___rmul___int_list k t l its.toArray n)
      ⟨e, rfl, ⟨_, e, rfl⟩, call_meets F.slot_list_mul ⟨_, e, rfl⟩ F.entry_list_mul (F.args_list_mul_2 _ _) (AutoListH.list___mul___list_int_3 l its.toArray n k t hfit hcap hlong) ⟨e, ?_⟩⟩)
  rw [hnew]
  exact ⟨.ref _, _, I.lnew (t' := s.toks) (r.rep k.toNat) (by rw [len_rep, Nat.mul_comm]; exact hz), rfl, q _ I.fresh⟩

/-! ### del xs[i] -/
end

/-! ### xs[a:b] = ys -/
section
variable {prog : Program} {w : World} {A : Around} {E : Value → Shared → Prop} {s : Shared}
end

section
variable {X : Cx}
end
end L2

namespace Att
open PySem PySem.W PySem.Calls PyProof.Rows

/-! ### the script -/
theorem ints_of_wellAll {P : Params} {h : Heap} : ∀ (ns : List Int) (vs : List Value), WellAll P h vs (ns.map WData.int) → IntsAre vs ns := by
  intro ns
  induction ns with
  | nil =>
    intro vs w
    rw [List.map_nil] at w
    cases w
    exact .nil
  | cons n ns ih =>
    intro vs w
    rw [List.map_cons] at w
    cases w with
    | cons a b =>
      cases a
      exact .cons _ _ (ih _ b)

theorem script_of {l : OpenLaw} {n : Nat} (hn : l.most = some n) {P : Params} {h : Heap} {args : List WData} {vals : List Value}
    (hpre : l.row.toRowW.claim.pre args = true) (hwl : WellAll P h vals args) :
    ∃ a vs ns, vals = [Value.ref a] ∧ args = [WData.list (ns.map WData.int)] ∧ h.get? a = some { cls := .type "list", data := .seq vs.toArray } ∧ IntsAre vs ns ∧ ns.length ≤ n := by
  have hsh : WShape.hasAll [] args [.list .int] = true := (pre_splitW hpre).1
  have hc : l.pre.holds [] { args := args } = true := (pre_splitW hpre).2
  obtain ⟨d, r, rfl, h1, h2⟩ := hasAllW_cons hsh
  obtain rfl := hasAllW_nil h2
  obtain ⟨xs, rfl, h3⟩ := hasW_list h1
  obtain ⟨ns, rfl⟩ := items_int h3
  have hlen : ns.length ≤ n := by
    unfold OpenLaw.pre at hc
    have h4 : (WTm.not (.lt (.lit (.int (n : Int))) (.len (.arg 0)))).holds [] { args := [.list (ns.map .int)] } = true := by
      have h4 := (holds_andW hc).1
      rw [hn] at h4
      exact h4
    have h5 := condW_of h4 (w_not (w_lt w_lit (w_len_list (w_arg rfl))))
    rw [List.length_map] at h5
    refine Nat.le_of_not_lt fun q => ?_
    have q' : (n : Int) < ((ns.length : Nat) : Int) := by omega
    first
      | (rw [decide_eq_true q'] at h5; exact absurd h5 (by decide))
      | (simp at h5; omega)
  cases hwl with
  | cons w1 w2 =>
    cases w2
    cases w1 with
    | list ho hall => exact ⟨_, _, ns, rfl, rfl, ho, ints_of_wellAll ns _ hall, hlen⟩

theorem post_true (l : OpenLaw) (args : List WData) : l.row.toRowW.claim.post args (.bool true) args = true :=
  postW_of (r := l.row.toRowW) (X := (true == true))
    (show WShape.has [] (.bool true) .bool = true by first | rfl | decide | simp [WShape.has, WShape.arms, WShape.armsAll])
    (show (WTm.eq .res (.lit (.bool true))).value [] { args := args, res := some (.bool true), after := args } = some (.bool (true == true)) from w_eq_bool (w_res rfl) w_lit) rfl

/-! ### the attachment: holds_open's last premise (the goal 'hc' behind k_head) from a wpAny of the law's body -/
/-- the same from a codeAny of the CALL (for a layer whose function contracts speak of calls) -/
theorem attach_call {l : OpenLaw} {n : Nat} {q : Program} {loose : List Str} {XP : (Str → Option Value) → Heap → Prop} {YP : World → Heap → Prop} {d : DefRec}
    (hn : l.most = some n) (hdf : d.params.defaults = [])
    (call : ∀ (w : World) (s₀ s₁ : Shared) (mg mb : Str → Option Value) (fa : Addr) (o : Obj) (pm cd doc : Value) (a : Addr) (vs : List Value) (ns : List Int),
      Ground q loose [] XP w s₀ mg mb s₁.heap → YP w s₁.heap →
      s₁.heap.get? fa = some o → o.data = .func (docDef d.name d.params d.body d.scope pm cd doc) → s₁.heap.CodeRec cd d.name → mg d.name = some (.ref fa) →
      s₁.heap.get? a = some { cls := .type "list", data := .seq vs.toArray } → IntsAre vs ns → ns.length ≤ n → s₁.gens = #[] →
      codeAny (model l.prog w) callerA (.call (.ref fa) ⟨[.ref a], []⟩) (fun r s' => r = .ok (.ret (.bool true)) ∧ OldK s₁.heap s'.heap ∧ s'.os = s₁.os ∧ AllBare s'.gens) s₁) :
    WalkO q loose XP YP l.row.toRowW d [] (fun f vs => PySem.call f vs) := by
  intro w s₀ s₁ mg mb G Y fa o pm cd doc dV kV ho hd hcd hD hmg hg args vals as hpre hlay hrd hwl hlo
  obtain rfl : dV = .none := Dflts.none hD hdf
  obtain rfl : kV = .none := Dflts.noKw hD
  obtain ⟨a, vs, ns, rfl, rfl, hobj, hints, hlen⟩ := script_of hn hpre hwl
  refine enter_call (codeAny_mono (call w s₀ s₁ mg mb fa o pm cd doc a vs ns G Y ho (fd_plain hd) hcd hmg hobj hints hlen hg) fun r s' hq => ?_)
  obtain ⟨rfl, h2, h3, h4⟩ := hq
  exact ⟨.inl ⟨.bool true, .bool true, [], rfl, fun _ => rfl, .bool true, post_true l _, fun _ => ⟨List.Pairwise.nil, fun _ hm => (nomatch hm)⟩⟩, h2, h3, h4⟩

/-! ### rules over ANY heap (no ledger) from facts about the written part K: the library's own take a ledger (News) for what they write -/
section
variable {prog : Program} {w : World} {A : Around} {E : Value → Shared → Prop} {s : Shared} {K : Frag}

/-! the whole heap as the ledger: makes every rule that writes through a ledger a rule over any heap -/
noncomputable def ledger (h : Heap) (L d : Addr) : List (Addr × Obj) := (List.range h.objs.size).filterMap fun a => if a = L ∨ a = d then none else (h.get? a).map fun o => (a, o)
end
end Att

namespace L2
open PySem PySem.Spec PyProof.Rows

theorem vals_ints : ∀ {vs : List Value} {ns : List Int}, IntsAre vs ns → Vals (ns.map V.int) vs
  | _, _, .nil => .nil
  | _, _, .cons n t h => .cons ⟨t, rfl⟩ (vals_ints h)

/-- nothing is tracked but the script, known to the object (or it is an object of the module) -/
noncomputable def Only (H : Hp) : Prop := ∀ b, H b = none ∨ ∃ o xs, H b = some (.frz o (.lst xs))

/-- THE HEAD: the law's promise, at the heap behind the top. F, the promise of the law's def, may use that base is part of the heap (so K.In base, base.Ns mainGlobals mg stand in Mod) -/
theorem law_call {P : Program} {w : World} {K : PySem.W.Frag} {mg mb : Str → Option Value} {CX : CXT} {k : Nat} {fa a : Addr} {fd : FuncData} {x : Str} {sp : Sp} {s₁ : Shared} {vs : List Value} {ns : List Int}
    (KX : K.In s₁.heap) (hns : s₁.heap.Ns mainGlobals mg) (hb : s₁.heap.Ns builtinsNs mb) (hbb : ∀ x : Str, x ≠ "__name__" → mb x = bootBuiltins x) (hlim : s₁.heap.NoLimit) (hg : s₁.gens = #[])
    (ha : s₁.heap.get? a = some { cls := .type "list", data := .seq vs.toArray }) (hi : IntsAre vs ns) (hl : ns.length ≤ sizeLine) (hr : Room k callerA)
    (F : ∀ base : Heap, K.In base → base.Ns mainGlobals mg → FnOk P w K mg base CX k fa fd [x] sp) (hbind : ∀ (s : Shared) (u : Value), BindsTo s fd ⟨[u], []⟩ [(x, u)])
    (hsp : ∀ H : Hp, Only H → SqL K H a (ns.map V.int) → sp [.ref a] H (fun v _ => v = .bl true) fun _ _ _ => False)
    (hCX : ∀ H e s', CX [] H s₁ (fun _ _ _ => False) e s' → False) :
    codeAny (model P w) callerA (.call (.ref fa) ⟨[.ref a], []⟩) (fun r s' => r = .ok (.ret (.bool true)) ∧ OldK s₁.heap s'.heap ∧ s'.os = s₁.os ∧ AllBare s'.gens) s₁ := by
  have rv := vals_ints hi
  have lenV := hi.length
  -- from an abstract heap in which nothing but the script may be tracked
  have core : ∀ H : Hp, Only H → SqL K H a (ns.map V.int) → HOk P w H s₁.heap → (∀ b, H b ≠ none → b = a) → (H a ≠ none → K.lookup a = none) →
      codeAny (model P w) callerA (.call (.ref fa) ⟨[.ref a], []⟩) (fun r s' => r = .ok (.ret (.bool true)) ∧ OldK s₁.heap s'.heap ∧ s'.os = s₁.os ∧ AllBare s'.gens) s₁ := by
    intro H hO hS hok hA hK
    have base_of : ∀ {b : Addr} {o : Obj}, s₁.heap.get? b = some o → H b = none → (hidT s₁.heap H).get? b = some o := fun e n => hidT_get e n
    have noA : ∀ {b : Addr} {o : Obj} {es : Array DictEntry} {ep : Nat}, s₁.heap.get? b = some o → o.data = .dict es ep → H b = none := fun {b o es ep} e d => by
      cases q : H b with
      | none => rfl
      | some u =>
        have e' : b = a := hA b (by rw [q]; simp)
        subst e'
        rw [ha] at e; cases e
        have d' : Data.seq vs.toArray _ = Data.dict es ep := d
        cases d'
    have nsK : ∀ {b : Addr} {m : Str → Option Value}, s₁.heap.Ns b m → (hidT s₁.heap H).Ns b m := fun {b m} ⟨o, es, ep, e, d, r⟩ => ⟨o, es, ep, base_of e (noA e d), d, r⟩
    have hKb : K.In (hidT s₁.heap H) := fun b o e => base_of (KX b o e) (by
      cases q : H b with
      | none => rfl
      | some u =>
        have e' : b = a := hA b (by rw [q]; simp)
        subst e'
        rw [hK (by rw [q]; simp)] at e; cases e)
    have hM : Mod K mg (hidT s₁.heap H) := ⟨hKb, nsK hns, ⟨mb, nsK hb, hbb⟩, let ⟨mc, h1, h2⟩ := hlim; ⟨mc, nsK h1, h2⟩⟩
    have e0 : Env0 P w K mg (hidT s₁.heap H) callerA [] s₁ H := ⟨rfl, hM, fun b o e => of_hidT e, Nat.le_of_eq (hidT_size _ _), trivial, fun b hb => absurd (show b ∈ ([] : List Addr) from hb) (by simp), hok, .of_eq hg⟩
    refine codeAny_mono ((F _ hKb (nsK hns)).run callerA [] s₁ H ⟨[.ref a], []⟩ [.ref a] [.ref a] _ _ hr e0 (hbind s₁ (.ref a)) (.cons rfl .nil) (hsp H hO hS)) fun r s' h => ?_
    cases r with
    | error e => exact (hCX H e s' h).elim
    | ok fl =>
      cases fl with
      | next => exact False.elim h
      | brk => exact False.elim h
      | cont => exact False.elim h
      | ret u =>
        obtain ⟨v, H', os, bare, un, hok', r', q⟩ := h
        have q' : v = .bl true := q
        subst q'
        obtain rfl : u = Value.bool true := r'
        refine ⟨rfl, OldK.of_keep fun b o e => ?_, os, bare⟩
        cases q : H b with
        | none => exact un.keep b o e q (by intro z; exact absurd (show b ∈ ([] : List Addr) from z) (by simp)) (by simp)
        | some u =>
          rcases hO b with z | ⟨ob, xs, z⟩
          · rw [q] at z; cases z
          · have z2 := un.frzs b ob _ z
            obtain ⟨e1, _⟩ := hok b _ z
            obtain ⟨e2, _⟩ := hok' b _ z2
            rw [e] at e1; cases e1
            exact e2
  cases hk : K.lookup a with
  | some o =>
    -- the script is one of the module's own objects
    have e := KX a o hk
    rw [ha] at e
    cases e
    refine core (fun _ => none) (fun _ => .inl rfl) (.inr ⟨_, vs.toArray, _, hk, rfl, rfl, rfl, by rw [List.size_toArray, lenV]; exact hl, by simpa using rv⟩) (fun b u z => by have z' : (none : Option HO) = some u := z; cases z') (fun b z => absurd rfl z) fun z => absurd rfl z
  | none =>
    refine core (fun b => if b = a then some (.frz { cls := .type "list", data := .seq vs.toArray } (.lst (ns.map V.int))) else none) (fun b => ?_) (.inl (.inr ⟨{ cls := .type "list", data := .seq vs.toArray }, if_pos rfl⟩)) (fun b u z => ?_) (fun b z => ?_) fun _ => hk
    · by_cases hb : b = a
      · exact .inr ⟨_, _, if_pos hb⟩
      · exact .inl (if_neg hb)
    · by_cases hb : b = a
      · have z' := (if_pos hb).symm.trans z
        cases z'
        subst hb
        exact ⟨ha, by rw [List.length_map]; exact hl, vs, _, rv, ha⟩
      · have z' := (if_neg hb).symm.trans z
        cases z'
    · by_cases hb : b = a
      · exact hb
      · exact absurd (if_neg hb) z
end L2

namespace L2
open PySem PySem.Spec PyProof.Rows

/-- the goal that k_head leaves (case hc), from the law's promise. F gives the function object fd (K's own) once, then the promise over every base -/
theorem walk_of {l : PySem.W.OpenLaw} {n k : Nat} {q : Program} {loose : List Str} {XP : (Str → Option Value) → Heap → Prop} {YP : World → Heap → Prop} {d : DefRec} {K : Params → PySem.W.Frag} {CX : World → CXT} {sp : World → Sp} {x : Str}
    (hn : l.most = some n) (hn2 : n ≤ sizeLine) (hdf : d.params.defaults = []) (hr : Room k callerA)
    (hY : ∀ (w : World) (h : Heap), YP w h → (K w.params).In h)
    (F : ∀ (w : World) (mg : Str → Option Value) (fa : Addr) (h : Heap), (K w.params).In h → h.Ns mainGlobals mg → mg d.name = some (.ref fa) →
      ∃ fd : FuncData, (∀ (s : Shared) (u : Value), BindsTo s fd ⟨[u], []⟩ [(x, u)]) ∧
        ∀ base : Heap, (K w.params).In base → base.Ns mainGlobals mg → FnOk l.prog w (K w.params) mg base (CX w) k fa fd [x] (sp w))
    (hsp : ∀ (w : World) (H : Hp) (a : Addr) (ns : List Int), ns.length ≤ n → Only H → SqL (K w.params) H a (ns.map V.int) → sp w [.ref a] H (fun v _ => v = .bl true) fun _ _ _ => False)
    (hCX : ∀ (w : World) (H : Hp) (s : Shared) (e : Value) (s' : Shared), CX w [] H s (fun _ _ _ => False) e s' → False) :
    PySem.W.WalkO q loose XP YP l.row.toRowW d [] (fun f vs => PySem.call f vs) := by
  refine Att.attach_call hn hdf fun w s₀ s₁ mg mb fa o pm cd doc a vs ns G Y ho hd hcd hmg hobj hints hlen hg => ?_
  have KX := hY w _ Y
  obtain ⟨fd, hb, hF⟩ := F w mg fa _ KX G.T.g hmg
  exact law_call KX G.T.g G.T.b G.T.builtins G.T.nolimit hg hobj hints (Nat.le_trans hlen hn2) hr hF hb (fun H hO hS => hsp w H a ns hlen hO hS) fun H e s' => hCX w H s₁ e s'
end L2

/-! SHORT WORDS over the layer: a def of the text, its body, what a loop and a test want. -/
namespace L2
open PySem PySem.Spec PyProof.Rows

/-! ### the text by places -/
noncomputable def defArgs (s : Stmt) : Arguments := match s with
  | .FunctionDef _ a _ _ _ _ _ _ _ _ => a
  | _ => { posonlyargs := [], args := [], vararg := none, kwonlyargs := [], kw_defaults := [], kwarg := none, defaults := [] }
noncomputable def defBody (s : Stmt) : List Stmt := match s with
  | .FunctionDef _ _ b _ _ _ _ _ _ _ => b
  | _ => []
noncomputable def defScope (s : Stmt) : Scope := match s with
  | .FunctionDef _ _ _ _ _ _ sc _ _ _ => sc
  | _ => { kind := .function, names := [], isGenerator := false, isCoroutine := false }

/-! ### no exception leaves a def -/
abbrev CX0 : CXT := fun _ _ _ _ _ _ => False
abbrev E0 : XK := fun _ _ _ => False
theorem pass0 {X : Cx} : Passes CX0 X E0 := fun _ _ _ _ _ _ _ h => h.elim

/-! ### a def (or method) of the text as it stands behind the top -/
structure Fun (K : PySem.W.Frag) (x qual : Str) (st : Stmt) (f : Addr) (fd : FuncData) : Prop where
  ex : ∃ (oc : Value) (od : Option Addr) (kV doc pm : Value) (an : Option Addr) (cdv ct : Value) (osl : Array (Option Value)),
    fd = PySem.W.fnOf x qual (defArgs st) (defBody st) (defScope st) .none kV doc pm an cdv ct ∧ K.lookup f = some ⟨oc, od, .func fd, osl⟩ ∧ PySem.W.codeIn K cdv qual = true
  kp : PySem.W.keepIn K (.ref f) = true
section
variable {P : Program} {w : World} {K : PySem.W.Frag} {mg : Str → Option Value} {base : Heap}
/-- THE RULE for a def: its body as a term of rules, and the reading of that term -/
theorem Fun.ok {x qual : Str} {st : Stmt} {f : Addr} {fd : FuncData} {N ps : List Str} {k : Nat} {sp : Sp} (F : Fun K x qual st f fd) (S : FnScope N ps (defScope st)) (len : ∀ vs H Q E, sp vs H Q E → vs.length = ps.length)
    (hbody : ∀ (cdv : Value) (A : Around) (outer : List Env) (s : Shared) (H : Hp) (vs : List V) (Q : VK) (E : XK), Room k (A.deeper (envOfC qual (defScope st) s.heap.objs.size f cdv)) → sp vs H Q E →
      ∃ t, PSs (cxOf CX0 P w K mg base N qual (defScope st) f cdv A outer s H E).nox (defBody st) t ∧ t { nx := fun _ H' => Q .non H', rt := Q } (start N vs) H) : FnOk P w K mg base CX0 (k + 1) f fd ps sp := by
  obtain ⟨oc, od, kV, doc, pm, an, cdv, ct, osl, rfl, lk, hcd⟩ := F.ex
  refine fn_of lk hcd S len fun A outer s H vs Q E hr hsp => ?_
  obtain ⟨t, h, q⟩ := hbody cdv A outer s H vs Q E hr hsp
  exact ⟨t, h.nox, q⟩
/-- how its arguments bind (no defaults): h is «fun _ _ _ _ _ _ us hl => match us, hl with | [_, _], _ => rfl», one _ a parameter -/
theorem Fun.binds {x qual : Str} {st : Stmt} {f : Addr} {fd : FuncData} {ps : List Str} (F : Fun K x qual st f fd)
    (h : ∀ (kV doc pm : Value) (an : Option Addr) (cdv ct : Value) (us : List Value), us.length = ps.length → bindArgs (PySem.W.fnOf x qual (defArgs st) (defBody st) (defScope st) .none kV doc pm an cdv ct) ⟨us, []⟩ = pure (ps.zip us)) : Binds K fd ps [] := by
  obtain ⟨oc, od, kV, doc, pm, an, cdv, ct, osl, rfl, lk, hcd⟩ := F.ex
  exact .all (h kV doc pm an cdv ct)
theorem fun_mk {x qual : Str} {st : Stmt} {f : Addr} {oc : Value} {od an : Option Addr} {osl : Array (Option Value)} {kV doc pm cdv ct : Value} (l : K.lookup f = some ⟨oc, od, .func (PySem.W.fnOf x qual (defArgs st) (defBody st) (defScope st) .none kV doc pm an cdv ct), osl⟩)
    (c : PySem.W.codeIn K cdv qual = true) (k : PySem.W.keepIn K (.ref f) = true) : Fun K x qual st f (PySem.W.fnOf x qual (defArgs st) (defBody st) (defScope st) .none kV doc pm an cdv ct) := ⟨⟨oc, od, kV, doc, pm, an, cdv, ct, osl, rfl, l, c⟩, k⟩
end
/-! ### expressions in short: the name that stands in the i-th slot -/
section
variable {X : Cx}
end

/-! ### tests -/
/-! ### heaps -/
/-- all that was tracked is as it was -/
noncomputable def Same (H H' : Hp) : Prop := ∀ b o, H b = some o → H' b = some o
theorem Same.trans {H H1 H2 : Hp} (a : Same H H1) (b : Same H1 H2) : Same H H2 := fun c o h => b c o (a c o h)
theorem Same.free {H H' : Hp} (e : Same H H') {l : Addr} (h : H' l = Option.none) : H l = Option.none := by
  cases q : H l with
  | none => rfl
  | some o =>
    rw [e l o q] at h
    cases h
end L2


set_option Elab.async false
set_option linter.all false
set_option maxRecDepth 100000
namespace L2
open PySem PySem.Spec PyProof.Rows

theorem closure_loop {env : Env} : ∀ (l : List (Str × NameKind)) (cs : List (Str × Addr)), (∀ x c, cs.lookup x = some c → env.cells.lookup x = some c) → (∀ y ∈ l, y.2 = .free → ∃ c, env.cells.lookup y.1 = some c) →
    ∃ cl, (forIn l cs fun (x : Str × NameKind) r => (match x with | (name, kind) => if (kind == NameKind.free) = true then do let c ← cellOf env name; pure (ForInStep.yield ((name, c) :: r)) else pure (ForInStep.yield r) : Sem (ForInStep (List (Str × Addr))))) = pure cl ∧
      (∀ x c, cl.lookup x = some c → env.cells.lookup x = some c) ∧ (∀ x c, cs.lookup x = some c → ∃ c', cl.lookup x = some c') ∧ ∀ y ∈ l, y.2 = .free → ∃ c, cl.lookup y.1 = some c
  | [], cs, h, _ => ⟨cs, rfl, h, fun _ c e => ⟨c, e⟩, fun _ z => nomatch z⟩
  | (n, k) :: l, cs, h, hf => by
    by_cases hk : k = .free
    · subst hk
      obtain ⟨c, hc⟩ := hf (n, .free) List.mem_cons_self rfl
      have hc' : env.cells.lookup n = some c := hc
      have e : cellOf env n = pure c := by unfold cellOf; rw [hc']
      obtain ⟨cl, e1, e2, e3, e4⟩ := closure_loop l ((n, c) :: cs) (fun x c' q => by
        rw [List.lookup_cons] at q
        by_cases hx : (x == n) = true
        · rw [hx] at q; cases q; rw [eq_of_beq hx]; exact hc'
        · rw [Bool.eq_false_iff.mpr hx] at q; exact h x c' q) (fun y hy => hf y (List.mem_cons_of_mem _ hy))
      have self : ((n, c) :: cs).lookup n = some c := by rw [List.lookup_cons, beq_self_eq_true]
      refine ⟨cl, ?_, e2, fun x c' q => ?_, fun y hy hyf => ?_⟩
      · rw [List.forIn_cons]
        simp only [beq_self_eq_true, if_true, e]
        exact e1
      · by_cases hx : (x == n) = true
        · rw [eq_of_beq hx]; exact e3 n c self
        · exact e3 x c' (by rw [List.lookup_cons, Bool.eq_false_iff.mpr hx]; exact q)
      · rcases List.mem_cons.mp hy with z | z
        · subst z; exact e3 n c self
        · exact e4 y z hyf
    · have hb : (k == NameKind.free) = false := by simpa using hk
      obtain ⟨cl, e1, e2, e3, e4⟩ := closure_loop l cs h (fun y hy => hf y (List.mem_cons_of_mem _ hy))
      refine ⟨cl, ?_, e2, e3, fun y hy hyf => ?_⟩
      · rw [List.forIn_cons]
        simp only [hb, Bool.false_eq_true, if_false]
        exact e1
      · rcases List.mem_cons.mp hy with z | z
        · subst z; exact absurd hyf hk
        · exact e4 y z hyf
theorem closure_of {scope : Scope} {env : Env} (h : ∀ y ∈ scope.names, y.2 = .free → ∃ c, env.cells.lookup y.1 = some c) :
    ∃ cl, closureFor scope env = pure cl ∧ (∀ x c, cl.lookup x = some c → env.cells.lookup x = some c) ∧ ∀ y ∈ scope.names, y.2 = .free → ∃ c, cl.lookup y.1 = some c := by
  obtain ⟨cl, e1, e2, _, e4⟩ := closure_loop (env := env) scope.names [] (fun _ _ q => nomatch q) h
  refine ⟨cl, ?_, e2, e4⟩
  simp only [closureFor]
  first | (rw [e1]; rfl) | (simp only [e1]; rfl) | (trace_state; exact e1)

/-- the turn of a comprehension of one clause -/
theorem compLoop_any {prog : Program} {w : World} {A : Around} {R : Result → Shared → Prop} {s : Shared} {elt target iter : Expr} {ifs : List Expr} {scope : Scope} {pos : Pos} {it acc : Value} {env : Env} (I : Nat → Shared → Prop)
    (turn : ∀ n s, I n s → wpAny (model prog w) A (pyNext it) (fun r s₁ => match r with
      | none => R (.ok .next) s₁
      | some v => wpAny (model prog w) A (letOwnedTupleGo target it v) (fun _ s₁' => wpAny (model prog w) A (assign target env v) (fun _ s₂ =>
          wpAny (model prog w) A (forIn ifs true fun c r => if r = true then do let ok ← isTrue c env (eval c env); pure (ForInStep.yield ok) else pure (ForInStep.yield r)) (fun ok s₃ =>
            if ok = true then wpAny (model prog w) A (eval elt env) (fun x s₄ =>
              wpAny (model prog w) A (call (.builtin "list.append") [acc, x]) (fun _ s₅ => ∃ m, m < n ∧ I m s₅) (fun _ _ => False) s₄) (fun _ _ => False) s₃
            else ∃ m, m < n ∧ I m s₃) (fun _ _ => False) s₂) (fun _ _ => False) s₁') (fun _ _ => False) s₁) (fun _ _ => False) s)
    (n : Nat) (h : I n s) :
    codeAny (model prog w) A (.compLoop (.ListComp elt [⟨target, iter, ifs, 0⟩] scope pos) 0 it acc env) R s := by
  refine codeAny_loop rfl I (fun n s hI => ?_) n h
  show wpAny _ A ((compTurn (.ListComp elt [⟨target, iter, ifs, 0⟩] scope pos) 0 it acc env).onRaise (fun x => do noteFrame x env; theTreesLotGoes x)) _ _ s
  refine wpAny_noted ?_
  rw [compTurn_list]
  refine wpAny_bind (wpAny_standAt (wpAny_bind (wpAny_mono (turn n s hI) (fun r s₁ h₁ => ?_) fun _ _ h' => h'.elim)))
  cases r with
  | none => exact wpAny_pure h₁
  | some v =>
    refine wpAny_bind (wpAny_mono h₁ (fun _ s₁' h₁' => ?_) fun _ _ h' => h'.elim)
    refine wpAny_bind (wpAny_mono h₁' (fun _ s₂ h₂ => wpAny_bind (wpAny_mono h₂ (fun ok s₃ h₃ => ?_) fun _ _ h' => h'.elim)) fun _ _ h' => h'.elim)
    cases ok with
    | false => exact wpAny_pure ⟨rfl, h₃⟩
    | true =>
      exact wpAny_bind (wpAny_bind (wpAny_mono h₃ (fun x s₄ h₄ => wpAny_bind (wpAny_mono h₄ (fun _ s₅ h₅ => wpAny_pure (wpAny_pure ⟨rfl, h₅⟩)) fun _ _ h' => h'.elim)) fun _ _ h' => h'.elim))
end L2

set_option Elab.async false
set_option linter.all false
set_option maxRecDepth 100000
set_option maxHeartbeats 2000000
namespace L2
open PySem PySem.Spec PyProof.Rows

/-- the context of a comprehension's block -/
noncomputable def cmpX (X : Cx) (N' : List Str) (scope : Scope) (cl : List (Str × Addr)) (C : Addr) (s2 : Shared) (H2 : Hp) (fp : List Addr) : Cx where
  prog := X.prog
  w := X.w
  K := X.K
  mg := X.mg
  base := X.base
  A := X.A
  N := N'
  s₀ := s2
  H₀ := H2
  env := compEnvC scope cl C X.env
  outer := X.stack
  stack := X.stack
  ex := fp
  fn := fun _ => false
  calm := X.calm
  pn := []
  xe := fun _ _ => False

theorem lookup_mapK (h : Str → NameKind → NameKind) (x : Str) : ∀ l : List (Str × NameKind), (l.map fun p => (p.1, h p.1 p.2)).lookup x = (l.lookup x).map (h x)
  | [] => rfl
  | (n, k) :: l => by
    show List.lookup x ((n, h n k) :: _) = _
    rw [List.lookup_cons, List.lookup_cons]
    by_cases hx : (x == n) = true
    · rw [hx, eq_of_beq hx]; rfl
    · rw [Bool.eq_false_iff.mpr hx]; exact lookup_mapK h x l
theorem relabel_lookup (scope : Scope) (env : Env) (x : Str) : (relabel scope env).names.lookup x = (scope.names.lookup x).map fun k => if (k == .free && env.scope.kind == .function && env.kindOf x == some .cell) = true then .cell else k := by
  rw [← lookup_mapK (fun n k => if (k == NameKind.free && env.scope.kind == .function && env.kindOf n == some .cell) = true then .cell else k) x scope.names]
  unfold relabel
  dsimp only
  congr 1
  apply List.map_congr_left
  intro p _
  obtain ⟨n, k⟩ := p
  dsimp only
  split <;> rfl
theorem mem_of_lookupK {x : Str} {k : NameKind} : ∀ {l : List (Str × NameKind)}, l.lookup x = some k → (x, k) ∈ l
  | (n, k') :: l, h => by
    rw [List.lookup_cons] at h
    by_cases hx : (x == n) = true
    · rw [hx] at h; cases h; rw [eq_of_beq hx]; exact List.mem_cons_self
    · rw [Bool.eq_false_iff.mpr hx] at h; exact List.mem_cons_of_mem _ (mem_of_lookupK h)
/-- a name that the block sees and doesn't own is one of the def's cells -/
theorem relabel_free {scope : Scope} {env : Env} {x : Str} (hcell : ∀ y ∈ scope.names, y.2 ≠ .cell) (h : (relabel scope env).names.lookup x = some .cell ∨ (relabel scope env).names.lookup x = some .free) : scope.names.lookup x = some .free := by
  rw [relabel_lookup] at h
  cases e : scope.names.lookup x with
  | none => rw [e] at h; rcases h with h | h <;> cases h
  | some k =>
    by_cases hk : k = .free
    · rw [hk]
    · have hb : (k == NameKind.free) = false := by simpa using hk
      rw [e] at h
      simp only [Option.map_some, hb, Bool.false_and, Bool.false_eq_true, if_false] at h
      rcases h with h | h
      · cases h; exact absurd rfl (hcell _ (mem_of_lookupK e))
      · cases h; exact absurd rfl hk

noncomputable def PIf (X : Cx) (ifs : List Expr) (t : TT) : Prop :=
  ∀ (pins : List (Addr × Obj)) (s : Shared) (σ : St) (H : Hp) (Q : Bool → Hp → Prop), Inv X pins σ H s → t σ H Q →
    wpAny (model X.prog X.w) X.A (forIn ifs true fun c r => if r = true then do let ok ← isTrue c X.env (eval c X.env); pure (ForInStep.yield ok) else pure (ForInStep.yield r)) (TP X pins σ Q) X.xe s
noncomputable def tTrue : TT := fun _ H Q => Q true H
theorem pif_nil {X : Cx} : PIf X [] tTrue := fun _ _ _ H _ I h => wpAny_tests_nil ⟨H, I, h⟩
theorem pif_one {X : Cx} {c : Expr} {t : TT} (h : PT X c t) : PIf X [c] t := fun pins s σ H Q I q => wpAny_tests_one (h pins s σ H Q I q)

/-- what a comprehension's block wants -/
noncomputable def tBlock (J : It) (g : TG) (tt : TT) (te : TE) (σ₀ : St) (H1 : Hp) (Fin : List V → Hp → Prop) : Prop :=
  ∃ W : Nat → Nat → List V → St → Hp → Prop, (∃ m, W 0 m [] σ₀ H1) ∧ ∀ i m acc σ' H', W i m acc σ' H' → acc.length ≤ sizeLine ∧
    ((J.stop i H' ∧ Fin acc H') ∨
      (J.go i H' ∧ ∀ x H2, J.yld i H' x H2 → g x σ' H2 fun σ3 H3 => tt σ3 H3 fun b H4 => if b = true then te σ3 H4 fun v H5 => ∃ m', m' < m ∧ W (i + 1) m' (acc ++ [v]) σ3 H5 else ∃ m', m' < m ∧ W (i + 1) m' acc σ3 H4))
noncomputable def tComp (wi : TI) (g : TG) (tt : TT) (te : TE) (σf : St → St) : TE := fun σ H Q => wi σ H fun J H1 => tBlock J g tt te (σf σ) H1 fun acc H' => ∀ p, H' p = none → acc.length ≤ sizeLine → Q (.ref p) (upd H' p (.lst acc))

/-- what is told of a comprehension's scope, and of the values that its block starts with -/
structure CmpOk (X : Cx) (scope : Scope) (N' : List Str) (σf : St → St) : Prop where
  kind : scope.kind = .function
  cell : ∀ y ∈ scope.names, y.2 ≠ .cell
  loc : ∀ y ∈ scope.names, y.2 = .local → scope.names.lookup y.1 = some .local
  free : ∀ y ∈ scope.names, y.2 = .free → X.env.kindOf y.1 = some .cell ∨ X.env.kindOf y.1 = some .free
  len : ∀ σ : St, σ.length = X.N.length → (σf σ).length = N'.length
  vals : ∀ (σ : St) (j : Nat) (x : Str) (v : V), N'[j]? = some x → (σf σ)[j]? = some (some v) → ∃ i : Nat, X.N[i]? = some x ∧ σ[i]? = some (some v) ∧ scope.names.lookup x = some .free

section
variable {X : Cx} {tg elt iter : Expr} {ifs : List Expr} {scope : Scope} {pos : Pos} {N' : List Str} {wi : TI} {g : TG} {tt : TT} {te : TE} {σf : St → St}

theorem cmp_ok {pins : List (Addr × Obj)} {σ : St} {H2 : Hp} {s2 : Shared} {cl : List (Str × Addr)} {C : Addr} {fp : List Addr} (O : CmpOk X scope N' σf) (I2 : Inv X pins σ H2 s2) (f2 : ∀ b ∈ fp, FpOk X pins H2 b) (hC : s2.heap.objs.size ≤ C)
    (hlt : ∀ b ∈ fp, b < s2.heap.objs.size) (e2 : ∀ x c, cl.lookup x = some c → X.env.cells.lookup x = some c) (e4 : ∀ y ∈ scope.names, y.2 = .free → ∃ c, cl.lookup y.1 = some c) : (cmpX X N' scope cl C s2 H2 fp).Ok where
  mod := I2.ok.mod
  kind := O.kind
  glob := I2.ok.glob
  blt := I2.ok.blt
  above := hC
  inj := fun x y c h1 h2 => I2.ok.inj x y c (e2 x c h1) (e2 y c h2)
  has := fun x h => by
    have q := relabel_free (env := X.env) (x := x) O.cell h
    exact e4 _ (mem_of_lookupK q) rfl
  cab := fun x c h _ => nomatch h
  hd := I2.ok.hd
  frames := I2.ok.frames
  stk := .inl rfl
  exf := fun b hb => ⟨Nat.ne_of_lt (Nat.lt_of_lt_of_le (hlt b hb) hC), fun x c e => (f2 b hb).2.2.2.2.1 x c (e2 x c e)⟩
  bs := I2.bs
  bsz := Nat.le_trans I2.ok.bsz I2.sz
  noex := fun b o e hb => by
    rcases (f2 b hb).2.2.2.1 with z | z
    · exact I2.ok.noex b o e z
    · exact absurd (Nat.lt_of_lt_of_le (Heap.lt_size (I2.ok.bs b o e).1) z) (Nat.lt_irrefl _)
  exfs := fun b hb z => by
    rcases List.mem_cons.mp (I2.stkSub b z) with q | q
    · exact (f2 b hb).2.1 q
    · exact (f2 b hb).2.2.1 q
  funs := I2.stack
  frf := I2.stkFree

theorem stk_lt {pins : List (Addr × Obj)} {σ : St} {H2 : Hp} {s2 : Shared} (I2 : Inv X pins σ H2 s2) {a : Addr} (h : s2.heap.objs.size ≤ a) : a ∉ frs X.stack := fun hb => by
  rcases List.mem_cons.mp (I2.stkSub a hb) with q | q
  · exact absurd (Nat.lt_of_lt_of_le I2.lt h) (by rw [q]; exact Nat.lt_irrefl _)
  · exact I2.nofs h q

/-- the block: from the iterator to its end. Post: what is wanted of the result and the block's namespace -/
theorem block_ok {pins : List (Addr × Obj)} {σ : St} {H2 : Hp} {s2 : Shared} {cl : List (Str × Addr)} {fp : List Addr} {it : Addr} {tn : Nat → Heap → Prop} {J : It} {Fin : List V → Hp → Prop} {RR : Value → Addr → Result → Shared → Prop} {E : Value → Shared → Prop} (O : CmpOk X scope N' σf) (hc : X.calm = true)
    (I2 : Inv X pins σ H2 s2) (T : Turn X.prog X.w X.K tg J fp it tn) (st2 : tn 0 s2.heap) (f2 : ∀ b ∈ fp, FpOk X pins H2 b)
    (e2 : ∀ x c, cl.lookup x = some c → X.env.cells.lookup x = some c) (e4 : ∀ y ∈ scope.names, y.2 = .free → ∃ c, cl.lookup y.1 = some c)
    (hg : ∀ C, PG (cmpX X N' scope cl C s2 H2 fp) tg g) (ht : ∀ C, PIf (cmpX X N' scope cl C s2 H2 fp) ifs tt) (he : ∀ C, PE (cmpX X N' scope cl C s2 H2 fp) elt te)
    (B : tBlock J g tt te (σf σ) H2 Fin)
    (fin : ∀ C s' σ' H' acc m, s2.heap.objs.size ≤ C → C ≠ s2.heap.objs.size → Inv (cmpX X N' scope cl C s2 H2 fp) [] σ' H' s' → H' s2.heap.objs.size = none → acc.length ≤ sizeLine → (∃ its n, Vals acc its ∧ s'.heap.get? s2.heap.objs.size = some { cls := .type "list", data := .seq its.toArray n }) → Fin acc H' → s'.heap.Ns C m →
      RR (.ref s2.heap.objs.size) C (.ok .next) s') :
    wpAny (model X.prog X.w) X.A (newList []) (fun acc s₃ => wpAny (model X.prog X.w) X.A (newFunctionEnv scope X.env.globals cl [] X.env.qual none .none (some X.env)) (fun cenv s₄ =>
      codeAny (model X.prog X.w) X.A (.compStart (.ListComp elt [⟨tg, iter, ifs, 0⟩] scope pos) 0 (.ref it) acc { cenv with scope := relabel scope X.env }) (RR acc cenv.locals) s₄) E s₃) E s2 := by
  refine wpAny_newObj_type (wpAny_newFunctionEnv O.cell (by intro y hy; simp at hy) (fun h₁ hns₁ hsb₁ => ?_) O.kind)
  dsimp only at hns₁ hsb₁ ⊢
  generalize hH2 : s2.heap.push { cls := .type "list", dict := none, data := .seq ([] : List Value).toArray } = HP at hns₁ hsb₁ ⊢
  have hC : HP.objs.size = s2.heap.objs.size + 1 := by rw [← hH2, Heap.size_push]
  generalize hDD : s2.heap.objs.size = DD at *
  generalize hCC : HP.objs.size = CC at *
  have hDC : DD ≠ CC := by rw [hC]; exact Nat.ne_of_lt (Nat.lt_succ_self _)
  have hCle : s2.heap.objs.size ≤ CC := by rw [hC, hDD]; exact Nat.le_succ _
  have hlt : ∀ b ∈ fp, b < s2.heap.objs.size := fun b hb => by obtain ⟨o, e, _⟩ := T.obj _ _ st2 b hb; exact Heap.lt_size e
  have hlt' : ∀ b ∈ fp, b < DD := fun b hb => by rw [← hDD]; exact hlt b hb
  have below : ∀ b, b < DD → b ≠ CC ∧ b ≠ DD := fun b hb => ⟨by rw [hC]; exact Nat.ne_of_lt (Nat.lt_succ_of_lt hb), Nat.ne_of_lt hb⟩
  have old : ∀ b o, s2.heap.get? b = some o → h₁.get? b = some o := fun b o e => hsb₁.extBut b o (below b (by rw [← hDD]; exact Heap.lt_size e)).1 (Heap.get?_push_of_some _ (hH2 ▸ Heap.get?_push_of_some _ e))
  have hacc : h₁.get? DD = some { cls := .type "list", data := .seq ([] : List Value).toArray } := by
    refine hsb₁.extBut _ _ hDC (Heap.get?_push_of_some _ ?_)
    rw [← hH2, ← hDD]
    exact Heap.get?_push_size _ rfl
  have ok := cmp_ok (cl := cl) (C := CC) O I2 f2 hCle hlt e2 e4
  have hfs : DD ∉ frs X.stack := stk_lt I2 (by rw [hDD]; exact Nat.le_refl _)
  obtain ⟨W, ⟨m0, w0⟩, turn⟩ := B
  let X' : Cx := cmpX X N' scope cl CC s2 H2 fp
  have I0 : Inv X' [] (σf σ) H2 { s2 with heap := h₁, toks := s2.toks + ([] : List (Str × Value)).length } := by
    refine ⟨ok, rfl, I2.bare, Un.kept old, ⟨_, hns₁, fun j x v q1 q2 q3 => ?_⟩, fun x c e => ?_, I2.hok.fresh hCle, fun x c e => I2.freeC x c (e2 x c e), (fun p hp => nomatch hp), I2.hok.kept old, O.len σ I2.len⟩
    · obtain ⟨i, n1, n2, n3⟩ := O.vals σ j x v q1 q2
      obtain ⟨m, _, hl⟩ := I2.loc
      have hfr := O.free _ (mem_of_lookupK n3) rfl
      obtain ⟨u, r, l⟩ := hl i x v n1 n2 (.inr hfr)
      refine ⟨u, r, ?_⟩
      rcases l with ⟨k, _⟩ | ⟨_, c, ec, hcell⟩
      · rcases hfr with z | z <;> (have z' := k.symm.trans z; cases z')
      · obtain ⟨c', ec'⟩ := e4 _ (mem_of_lookupK n3) rfl
        have z := e2 _ _ ec'
        have ez : X.env.cells.lookup x = some c' := z
        rw [ec] at ez
        cases ez
        refine .inr ⟨?_, c, ec', ?_⟩
        · show (relabel scope X.env).names.lookup x = some .cell ∨ (relabel scope X.env).names.lookup x = some .free
          rw [relabel_lookup, n3]
          simp only [Option.map_some]
          split
          · exact .inl rfl
          · exact .inr rfl
        · obtain ⟨o, ho, hd⟩ := hcell
          exact ⟨o, old _ _ ho, hd⟩
    · obtain ⟨v, o, ho, hd⟩ := I2.cell x c (e2 x c e)
      exact ⟨v, o, old _ _ ho, hd⟩
  have loop : ∀ s₃ : Shared, s₃ = { s2 with heap := h₁, toks := s2.toks + ([] : List (Str × Value)).length } →
      codeAny (model X.prog X.w) X.A (.compLoop (.ListComp elt [⟨tg, iter, ifs, 0⟩] scope pos) 0 (.ref it) (.ref DD) (compEnvC scope cl CC X.env)) (RR (.ref DD) CC) s₃ := by
    rintro s₃ rfl
    refine compLoop_any (fun n s' => ∃ i acc its nn σ' H', Inv X' [] σ' H' s' ∧ tn i s'.heap ∧ (∀ b ∈ fp, H' b = none) ∧ Vals acc its ∧ s'.heap.get? DD = some { cls := .type "list", data := .seq its.toArray nn } ∧ H' DD = none ∧ W i n acc σ' H') ?_ m0
      ⟨0, [], [], 0, σf σ, H2, I0, T.keep _ _ _ st2 (fun b _ o e => old b o e), fun b hb => (f2 b hb).1, .nil, hacc, I2.hok.fresh (by rw [hDD]; exact Nat.le_refl _), w0⟩
    rintro n s' ⟨i, acc, its, nn, σ3, H3, I3, st3, fr3, hv, hD, hDn, w3⟩
    have I3p : Inv X' [(DD, ({ cls := .type "list", data := .seq its.toArray nn } : Obj))] σ3 H3 s' := I3.pins_of fun p hp => by
      have e : p = (DD, ({ cls := .type "list", data := .seq its.toArray nn } : Obj)) := by simpa using hp
      subst e
      exact ⟨hD, hDn, hDC, hfs, fun v z => nomatch z⟩
    have stat : ∀ {pins' : List (Addr × Obj)} {H' : Hp}, (∀ p ∈ pins', p.1 = DD) → (∀ b ∈ fp, H' b = none) → ∀ b ∈ fp, FpOk X' pins' H' b := fun {pins' H'} hp hn b hb =>
      ⟨hn b hb, (ok.exf b hb).1, ok.exfs b hb, .inl hb, (ok.exf b hb).2, fun p hp' z => by
        have e : p.1 = DD := hp p (by simpa [X', cmpX] using hp')
        exact absurd (hlt' b hb) (by rw [← z, e]; exact Nat.lt_irrefl _)⟩
    have one : ∀ p ∈ [(DD, ({ cls := .type "list", data := .seq its.toArray nn } : Obj))], p.1 = DD := fun p hp => by
      have e : p = (DD, ({ cls := .type "list", data := .seq its.toArray nn } : Obj)) := by simpa using hp
      rw [e]
    obtain ⟨hz, tr⟩ := turn i n acc σ3 H3 w3
    rcases tr with ⟨stop, qf⟩ | ⟨go, step⟩
    · refine thn (T.done X' rfl rfl rfl hc i _ s' σ3 H3 (fun _ _ => False) I3p (stat one fr3) st3 stop) fun r s4 ⟨hr, I4⟩ => ?_
      subst hr
      obtain ⟨m4, hm4, _⟩ := I4.loc
      have pD := (I4.pin (DD, ({ cls := .type "list", data := .seq its.toArray nn } : Obj)) (by simp [X', cmpX])).1
      have I4' : Inv X' [] σ3 H3 s4 := I4.pins_of fun p hp => nomatch hp
      exact fin CC s4 σ3 H3 acc m4 (by rw [hDD] at hCle; exact hCle) (Ne.symm hDC) I4' hDn hz ⟨its, nn, hv, pD⟩ qf hm4
    · refine thn (T.item X' rfl rfl rfl hc i _ s' σ3 H3 (fun _ _ => False) I3p (stat one fr3) st3 go) fun r s4 ⟨u, hr, h4⟩ => ?_
      subst hr
      refine thn h4 fun _ s5 ⟨x, H5, I5, r5, y5, st5, fr5⟩ => ?_
      have I5' := I5.pinned (stat one fr5) (T.obj _ _ st5)
      refine thn (hg CC _ s5 σ3 H5 x u _ I5' r5 (step x H5 y5)) fun _ s6 ⟨σ6, H6, I6, q6⟩ => ?_
      refine thn (ht CC _ s6 σ6 H6 _ I6 q6) fun b s7 ⟨H7, I7, q7⟩ => ?_
      have back : ∀ {H8 : Hp} {s8 : Shared}, Inv X' ([(DD, ({ cls := .type "list", data := .seq its.toArray nn } : Obj))] ++ pinsAt fp s5.heap) σ6 H8 s8 →
          s8.heap.get? DD = some { cls := .type "list", data := .seq its.toArray nn } ∧ H8 DD = none ∧ tn (i + 1) s8.heap ∧ (∀ b ∈ fp, H8 b = none) ∧ Inv X' [] σ6 H8 s8 := fun {H8 s8} I8 => by
        have p1 := I8.pin (DD, ({ cls := .type "list", data := .seq its.toArray nn } : Obj)) (by simp [X', cmpX])
        refine ⟨p1.1, p1.2.1, T.keep _ _ _ st5 fun b hb o e => (I8.pin (b, o) (List.mem_append_right _ (List.mem_append_right _ (mem_pinsAt hb e)))).1, fun b hb => ?_, I8.pins_of fun p hp => nomatch hp⟩
        obtain ⟨o, e, _⟩ := T.obj _ _ st5 b hb
        exact (I8.pin (b, o) (List.mem_append_right _ (List.mem_append_right _ (mem_pinsAt hb e)))).2.1
      cases b with
      | false =>
        rw [if_neg Bool.false_ne_true] at q7 ⊢
        obtain ⟨m', hm, w7⟩ := q7
        obtain ⟨a1, a2, a3, a4, a5⟩ := back I7
        exact ⟨m', hm, i + 1, acc, its, nn, σ6, H7, a5, a3, a4, hv, a1, a2, w7⟩
      | true =>
        rw [if_pos rfl] at q7 ⊢
        refine thn (he CC _ s7 σ6 H7 _ I7 q7) fun y s8 ⟨v8, H8, I8, r8, m', hm, w8⟩ => ?_
        obtain ⟨a1, a2, a3, a4, a5⟩ := back I8
        have hsz : its.toArray.size ≤ sizeLine := by
          have e := hv.length
          simpa [e] using hz
        refine wpAny_list_append_plain (hsz := hsz) ⟨nn, a1⟩ fun h9 hl9 hs9 => ?_
        obtain ⟨n9, e9⟩ := hl9
        have e9' : h9.get? DD = some { cls := .type "list", data := .seq (its ++ [y]).toArray n9 } := by simpa using e9
        refine ⟨m', hm, i + 1, acc ++ [v8], its ++ [y], n9, σ6, H8, a5.turned (t' := s8.toks) (h' := h9) (it := DD) (fun b o hb e => hs9.extBut b o hb e) a2 hDC (.inr (show s2.heap.objs.size ≤ DD by rw [hDD]; exact Nat.le_refl _)) (fun x' c e z => ?_) (fun p hp => nomatch hp), T.keep _ _ _ a3 fun b hb o e => hs9.extBut b o (Nat.ne_of_lt (hlt' b hb)) e, a4, hv.append (.cons r8 .nil), e9', a2, w8⟩
        obtain ⟨v, o, ho, hd⟩ := I2.cell x' c (e2 x' c e)
        have := Heap.lt_size ho
        rw [hDD, z] at this
        exact Nat.lt_irrefl _ this
  exact codeAny_compStart_list (loop _ rfl) (T.self _ 0 _ _ _ (T.keep _ _ _ st2 fun b _ o e => old b o e) (loop _ rfl))
end
end L2

set_option Elab.async false
set_option linter.all false
set_option maxRecDepth 100000
set_option maxHeartbeats 2000000
namespace L2
open PySem PySem.Spec PyProof.Rows
section
variable {X : Cx} {tg elt iter : Expr} {ifs : List Expr} {scope : Scope} {pos : Pos} {N' : List Str} {wi : TI} {g : TG} {tt : TT} {te : TE} {σf : St → St}

theorem comp_back {pins : List (Addr × Obj)} {σ σ' : St} {H2 H' : Hp} {s2 s' : Shared} {cl : List (Str × Addr)} {fp : List Addr} {C : Addr} {acc : List V} {its : List Value} {n : Nat} {h' : Heap} (I2 : Inv X pins σ H2 s2) (f2 : ∀ b ∈ fp, FpOk X pins H2 b)
    (hC : s2.heap.objs.size ≤ C) (hCD : C ≠ s2.heap.objs.size) (I' : Inv (cmpX X N' scope cl C s2 H2 fp) [] σ' H' s') (hDn : H' s2.heap.objs.size = none) (hz : acc.length ≤ sizeLine) (hv : Vals acc its)
    (hD : s'.heap.get? s2.heap.objs.size = some { cls := .type "list", data := .seq its.toArray n }) (hs : Heap.SameBut C s'.heap h') :
    Inv X pins σ (upd H' s2.heap.objs.size (.lst acc)) { s' with heap := h' } := by
  have U := I'.base
  have lt : ∀ b o, s2.heap.get? b = some o → b ≠ C ∧ b ≠ s2.heap.objs.size := fun b o e => ⟨Nat.ne_of_lt (Nat.lt_of_lt_of_le (Heap.lt_size e) hC), Nat.ne_of_lt (Heap.lt_size e)⟩
  have neD : ∀ b u, H' b = some u → b ≠ s2.heap.objs.size := fun b u e => ne_of_none e hDn
  have neC : ∀ b u, H' b = some u → b ≠ C := fun b u e => ne_of_none e I'.free
  refine I2.call' (s' := { s' with heap := h' }) (ch := fp) I'.os ⟨fun b o e n hb hx => ?_, fun b o e n hb hx => ?_, fun b o e n hx => ?_, fun b o e hx => ?_, fun b xs e => ?_, fun b o u e => ?_, fun b ps e => ?_⟩ ?_ I'.bare fun b hb => ⟨(f2 b hb).2.2.2.1, (f2 b hb).2.1, (f2 b hb).2.2.2.2.1, (f2 b hb).2.2.2.2.2⟩
  · exact hs.extBut b o (lt b o e).1 (U.keep b o e n hb hx)
  · obtain ⟨sl, q⟩ := U.slot b o e n hb hx
    exact ⟨sl, hs.extBut b _ (lt b o e).1 q⟩
  · rw [upd_ne (lt b o e).2]; exact U.free b o e n hx
  · obtain ⟨o', q⟩ := U.there b o e hx
    exact ⟨o', hs.extBut b _ (lt b o e).1 q⟩
  · have q := U.tups b xs e; rw [upd_ne (neD b _ q)]; exact q
  · have q := U.frzs b o u e; rw [upd_ne (neD b _ q)]; exact q
  · obtain ⟨m, q⟩ := U.tbls b ps e
    exact ⟨m, by rw [upd_ne (neD b _ q)]; exact q⟩
  · intro b u e
    by_cases hb : b = s2.heap.objs.size
    · subst hb
      rw [upd_same] at e
      cases e
      exact ⟨hz, its, n, hv, hs.extBut _ _ (Ne.symm hCD) hD⟩
    · rw [upd_ne hb] at e
      refine (I'.hok b u e).stay (fun c v hc q => hs.extBut c v ?_ q) (fun c q => by rw [upd_ne (neD c _ q)]; exact q) fun c xs q => by rw [upd_ne (neD c _ q)]; exact q
      rcases hc with z | z
      · rw [z]; exact neC b u e
      · exact neC c _ z

theorem pe_comp (O : CmpOk X scope N' σf) (hc : X.calm = true) (hi : PI X tg iter wi)
    (hg : ∀ cl C s2 H2 fp, PG (cmpX X N' scope cl C s2 H2 fp) tg g) (ht : ∀ cl C s2 H2 fp, PIf (cmpX X N' scope cl C s2 H2 fp) ifs tt) (he : ∀ cl C s2 H2 fp, PE (cmpX X N' scope cl C s2 H2 fp) elt te)
    (hs : ∀ x, foldedSetIterable iter X.env x = pure x := by intro _; rfl) : PE X (.ListComp elt [⟨tg, iter, ifs, 0⟩] scope pos) (tComp wi g tt te σf) := by
  intro pins s σ H Q I h
  obtain ⟨cl, e1, e2, e4⟩ := closure_of (scope := scope) (env := X.env) fun y hy hf => I.ok.has y.1 (O.free y hy hf)
  rw [eval_ListComp]
  refine wpAny_comprehension_free (use := none) rfl hs e1 O.kind O.loc (thn (hi pins s σ H _ I h) fun v s1 h1 => thn h1 fun itv s2 h2 => ?_)
  obtain ⟨it, fp, tn, J, H2, rfl, I2, T, st2, f2, B⟩ := h2
  refine block_ok (RR := fun acc C => compPost (model X.prog X.w) X.A X.xe none (EP X pins σ Q) acc C) O hc I2 T st2 f2 e2 e4 (fun C => hg cl C s2 H2 fp) (fun C => ht cl C s2 H2 fp) (fun C => he cl C s2 H2 fp) B ?_
  intro C s' σ' H' acc m hC hCD I' hDn hz hL fin hn
  obtain ⟨its, n, hv, hD⟩ := hL
  refine ⟨m, hn, fun h' hs' => ?_⟩
  exact ⟨.ref s2.heap.objs.size, upd H' _ (.lst acc), comp_back I2 f2 hC hCD I' hDn hz hv hD hs', rfl, fin _ hDn hz⟩

end
end L2

set_option Elab.async false
set_option linter.all false
set_option maxRecDepth 100000
set_option maxHeartbeats 2000000
set_option autoImplicit false
/-! THE FUNCTIONAL LAYER: values as trees, long-lived lists by numbers, a def as a Lean function of its arguments and the store. -/
namespace F2
open PySem L2 PySem.Spec

inductive D where
  | non | bl (b : Bool) | int (i : Int) | str (x : Str) | tup (xs : List D) | lst (xs : List D) | scr (ns : List Int) | dic | obj (k : Nat) | ty (n : String)

/-- where the numbered objects stand; what else may be written (lists that a frame owns) -/
structure Cf where
  ι : List Addr
  O : Addr → Prop
noncomputable def Cf.A (c : Cf) (a : Addr) : Prop := a ∈ c.ι ∨ c.O a

noncomputable def Scr (K : PySem.W.Frag) (c : Cf) (H : Hp) (a : Addr) (vs : List V) : Prop :=
  ((∃ o, H a = some (.frz o (.lst vs))) ∧ ¬ c.A a) ∨
    ∃ (o : Obj) (its : Array Value) (n : Nat), K.lookup a = some o ∧ o.cls = .type "list" ∧ o.dict = none ∧ o.data = .seq its n ∧ its.size ≤ sizeLine ∧ Vals vs its.toList

mutual
inductive Rep (K : PySem.W.Frag) (c : Cf) (H : Hp) : V → D → Prop where
  | non : Rep K c H .non .non
  | bl (b : Bool) : Rep K c H (.bl b) (.bl b)
  | int (i : Int) : Rep K c H (.int i) (.int i)
  | str (x : Str) : Rep K c H (.str x) (.str x)
  | ty (n : String) : Rep K c H (.ty n) (.ty n)
  | tup {a : Addr} {vs : List V} {ds : List D} : H a = some (.tup vs) → ¬ c.A a → Reps K c H vs ds → Rep K c H (.ref a) (.tup ds)
  | lst {a : Addr} {vs : List V} {ds : List D} : H a = some (.lst vs) → ¬ c.A a → Reps K c H vs ds → Rep K c H (.ref a) (.lst ds)
  | scr {a : Addr} {ns : List Int} : Scr K c H a (ns.map V.int) → Rep K c H (.ref a) (.scr ns)
  | dic {a : Addr} : H a = some (.dK []) → ¬ c.A a → Rep K c H (.ref a) .dic
  | obj {a : Addr} {k : Nat} : c.ι[k]? = some a → Rep K c H (.ref a) (.obj k)
inductive Reps (K : PySem.W.Frag) (c : Cf) (H : Hp) : List V → List D → Prop where
  | nil : Reps K c H [] []
  | cons {v : V} {d : D} {vs : List V} {ds : List D} : Rep K c H v d → Reps K c H vs ds → Reps K c H (v :: vs) (d :: ds)
end

/-- a step: what is not to be written stays, what is new to be written was not there -/
structure Ext (c : Cf) (H : Hp) (c' : Cf) (H' : Hp) : Prop where
  keep : ∀ b o, H b = some o → ¬ c.A b → H' b = some o
  av : ∀ b o, H b = some o → c'.A b → c.A b
  io : ∀ (k : Nat) (a : Addr), c.ι[k]? = some a → c'.ι[k]? = some a
theorem Ext.refl {c : Cf} {H : Hp} : Ext c H c H := ⟨fun _ _ h _ => h, fun _ _ _ h => h, fun _ _ h => h⟩
theorem Ext.trans {c c1 c2 : Cf} {H H1 H2 : Hp} (a : Ext c H c1 H1) (b : Ext c1 H1 c2 H2) : Ext c H c2 H2 := by
  refine ⟨fun x o h n => ?_, fun x o h n => ?_, fun k x h => b.io k x (a.io k x h)⟩
  · exact b.keep x o (a.keep x o h n) fun z => n (a.av x o h z)
  · by_cases q : c.A x
    · exact q
    · exact a.av x o h (b.av x o (a.keep x o h q) n)
theorem Scr.mono {K : PySem.W.Frag} {c c' : Cf} {H H' : Hp} {a : Addr} {vs : List V} (e : Ext c H c' H') (h : Scr K c H a vs) : Scr K c' H' a vs := by
  rcases h with ⟨⟨o, h⟩, n⟩ | h
  · exact .inl ⟨⟨o, e.keep _ _ h n⟩, fun z => n (e.av _ _ h z)⟩
  · exact .inr h
theorem Scr.sq {K : PySem.W.Frag} {c : Cf} {H : Hp} {a : Addr} {vs : List V} (h : Scr K c H a vs) : SqL K H a vs := by
  rcases h with ⟨h, _⟩ | h
  · exact .inl (.inr h)
  · exact .inr h
mutual
theorem Rep.mono {K : PySem.W.Frag} {c c' : Cf} {H H' : Hp} (e : Ext c H c' H') : ∀ {v : V} {d : D}, Rep K c H v d → Rep K c' H' v d
  | _, _, .non => .non
  | _, _, .bl b => .bl b
  | _, _, .int i => .int i
  | _, _, .str x => .str x
  | _, _, .ty n => .ty n
  | _, _, .tup h n r => .tup (e.keep _ _ h n) (fun z => n (e.av _ _ h z)) (Reps.mono e r)
  | _, _, .lst h n r => .lst (e.keep _ _ h n) (fun z => n (e.av _ _ h z)) (Reps.mono e r)
  | _, _, .scr h => .scr (h.mono e)
  | _, _, .dic h n => .dic (e.keep _ _ h n) (fun z => n (e.av _ _ h z))
  | _, _, .obj h => .obj (e.io _ _ h)
theorem Reps.mono {K : PySem.W.Frag} {c c' : Cf} {H H' : Hp} (e : Ext c H c' H') : ∀ {vs : List V} {ds : List D}, Reps K c H vs ds → Reps K c' H' vs ds
  | _, _, .nil => .nil
  | _, _, .cons h t => .cons (Rep.mono e h) (Reps.mono e t)
end

section
variable {K : PySem.W.Frag} {c : Cf} {H : Hp}
theorem Reps.length : ∀ {vs : List V} {ds : List D}, Reps K c H vs ds → vs.length = ds.length
  | _, _, .nil => rfl
  | _, _, .cons _ t => by simp [Reps.length t]
theorem Reps.get : ∀ {vs : List V} {ds : List D} {i : Nat} {v : V} {d : D}, Reps K c H vs ds → vs[i]? = some v → ds[i]? = some d → Rep K c H v d
  | _, _, _, _, _, .nil, e, _ => by simp at e
  | _, _, 0, _, _, .cons r _, e, e' => by simp at e e'; subst e e'; exact r
  | _, _, i + 1, _, _, .cons _ t, e, e' => Reps.get (i := i) t (by simpa using e) (by simpa using e')
theorem Reps.at : ∀ {vs : List V} {ds : List D} {i : Nat} {d : D}, Reps K c H vs ds → ds[i]? = some d → ∃ v, vs[i]? = some v ∧ Rep K c H v d
  | _, _, _, _, .nil, e => by simp at e
  | _, _, 0, _, .cons r _, e => by simp at e; subst e; exact ⟨_, rfl, r⟩
  | _, _, i + 1, _, .cons _ t, e => by
    obtain ⟨v, h1, h2⟩ := Reps.at (i := i) t (by simpa using e)
    exact ⟨v, by simpa using h1, h2⟩
theorem Reps.append : ∀ {vs ws : List V} {ds es : List D}, Reps K c H vs ds → Reps K c H ws es → Reps K c H (vs ++ ws) (ds ++ es)
  | _, _, _, _, .nil, s => s
  | _, _, _, _, .cons r t, s => .cons r (Reps.append t s)
theorem Reps.take : ∀ {vs : List V} {ds : List D} (n : Nat), Reps K c H vs ds → Reps K c H (vs.take n) (ds.take n)
  | _, _, 0, _ => .nil
  | _, _, _ + 1, .nil => .nil
  | _, _, n + 1, .cons r t => .cons r (Reps.take n t)
theorem Reps.set {v : V} {d : D} (r : Rep K c H v d) : ∀ {vs : List V} {ds : List D} (i : Nat), Reps K c H vs ds → Reps K c H (vs.set i v) (ds.set i d)
  | _, _, _, .nil => .nil
  | _, _, 0, .cons _ t => .cons r t
  | _, _, i + 1, .cons q t => .cons q (Reps.set r i t)
theorem Reps.ints : ∀ ns : List Int, Reps K c H (ns.map V.int) (ns.map D.int)
  | [] => .nil
  | n :: r => .cons (.int n) (Reps.ints r)
theorem Reps.rep {vs : List V} {ds : List D} (h : Reps K c H vs ds) : ∀ k : Nat, Reps K c H (List.replicate k vs).flatten (List.replicate k ds).flatten
  | 0 => .nil
  | k + 1 => by
    rw [List.replicate_succ, List.replicate_succ, List.flatten_cons, List.flatten_cons]
    exact h.append (Reps.rep h k)
end

/-- a numbered object -/
inductive Ob where
  | lst (xs : List D)
  | dct (kvs : List (Key × D))
/-- what a name holds: a value, or a list of its own -/
inductive Sl where
  | val (d : D)
  | own (xs : List D)
structure T where
  env : List (Option Sl)
  S : List Ob

noncomputable def KVR (K : PySem.W.Frag) (c : Cf) (H : Hp) : List (Key × V) → List (Key × D) → Prop := Paired fun p q => p.1 = q.1 ∧ Rep K c H p.2 q.2
noncomputable def ObR (K : PySem.W.Frag) (c : Cf) (H : Hp) (a : Addr) : Ob → Prop
  | .lst ds => ∃ vs, H a = some (.lst vs) ∧ Reps K c H vs ds
  | .dct kvs => ∃ us, H a = some (.dK us) ∧ KVR K c H us kvs
theorem ObR.mono {K : PySem.W.Frag} {c c' : Cf} {H H' : Hp} {a : Addr} {o : Ob} (e : Ext c H c' H') (h : ObR K c H a o) (ha : H' a = H a) : ObR K c' H' a o := by
  cases o with
  | lst ds => obtain ⟨vs, h1, h2⟩ := h; exact ⟨vs, ha.trans h1, h2.mono e⟩
  | dct kvs => obtain ⟨us, h1, h2⟩ := h; exact ⟨us, ha.trans h1, Paired.mapP h2 fun _ _ z => ⟨z.1, z.2.mono e⟩⟩
theorem ObR.some {K : PySem.W.Frag} {c : Cf} {H : Hp} {a : Addr} {o : Ob} (h : ObR K c H a o) : ∃ u, H a = some u := by
  cases o with
  | lst ds => obtain ⟨vs, h1, _⟩ := h; exact ⟨_, h1⟩
  | dct kvs => obtain ⟨us, h1, _⟩ := h; exact ⟨_, h1⟩

structure SInv (K : PySem.W.Frag) (c : Cf) (S : List Ob) (H : Hp) : Prop where
  len : c.ι.length = S.length
  nd : c.ι.Nodup
  obs : ∀ (k : Nat) (a : Addr) (o : Ob), c.ι[k]? = some a → S[k]? = some o → ObR K c H a o
  trk : ∀ b, c.O b → ∃ o, H b = some o
  dis : ∀ b, c.O b → b ∉ c.ι
theorem SInv.trkA {K : PySem.W.Frag} {c : Cf} {S : List Ob} {H : Hp} (s : SInv K c S H) {b : Addr} (h : c.A b) : ∃ o, H b = some o := by
  rcases h with h | h
  · obtain ⟨k, hk, e⟩ := List.mem_iff_getElem.mp h
    have e1 : c.ι[k]? = some b := by rw [List.getElem?_eq_getElem hk, e]
    have hk' : k < S.length := by rw [← s.len]; exact hk
    exact (s.obs k b _ e1 (List.getElem?_eq_getElem hk')).some
  · exact s.trk b h
theorem SInv.free {K : PySem.W.Frag} {c : Cf} {S : List Ob} {H : Hp} (s : SInv K c S H) {b : Addr} (h : H b = none) : ¬ c.A b := fun z => by
  obtain ⟨o, e⟩ := s.trkA z
  rw [h] at e; cases e

structure FInv (K : PySem.W.Frag) (Oo : Addr → Prop) (c : Cf) (t : T) (σ : St) (H : Hp) : Prop where
  s : SInv K c t.S H
  len : t.env.length = σ.length
  sub : ∀ b, Oo b → c.O b
  val : ∀ (i : Nat) (d : D), t.env[i]? = some (some (.val d)) → ∃ v, σ[i]? = some (some v) ∧ Rep K c H v d
  own : ∀ (i : Nat) (ds : List D), t.env[i]? = some (some (.own ds)) → ∃ a vs, σ[i]? = some (some (.ref a)) ∧ c.O a ∧ ¬ Oo a ∧ H a = some (.lst vs) ∧ Reps K c H vs ds
  inj : ∀ (i j : Nat) (ds es : List D) (a : Addr), t.env[i]? = some (some (.own ds)) → t.env[j]? = some (some (.own es)) → σ[i]? = some (some (.ref a)) → σ[j]? = some (some (.ref a)) → i = j

structure Stp (Oo : Addr → Prop) (c : Cf) (H : Hp) (c' : Cf) (H' : Hp) : Prop where
  ext : Ext c H c' H'
  oo : ∀ b, Oo b → H' b = H b
theorem Stp.refl {Oo : Addr → Prop} {c : Cf} {H : Hp} : Stp Oo c H c H := ⟨.refl, fun _ _ => rfl⟩
theorem Stp.trans {Oo : Addr → Prop} {c c1 c2 : Cf} {H H1 H2 : Hp} (a : Stp Oo c H c1 H1) (b : Stp Oo c1 H1 c2 H2) : Stp Oo c H c2 H2 :=
  ⟨a.ext.trans b.ext, fun x h => (b.oo x h).trans (a.oo x h)⟩

section
variable {K : PySem.W.Frag} {Oo : Addr → Prop} {c : Cf} {t : T} {σ : St} {H : Hp}
/-- a new object that nothing numbers or owns -/
theorem Ext.laid {S : List Ob} (s : SInv K c S H) {p : Addr} {o : HO} (h : H p = none) : Ext c H c (upd H p o) :=
  ⟨fun b u e _ => by rw [upd_ne (ne_of_none e h)]; exact e, fun _ _ _ z => z, fun _ _ e => e⟩
theorem SInv.laid {S : List Ob} (s : SInv K c S H) {p : Addr} {o : HO} (h : H p = none) : SInv K c S (upd H p o) :=
  ⟨s.len, s.nd, fun k a u e1 e2 => by
      have q := s.obs k a u e1 e2
      obtain ⟨w, hw⟩ := q.some
      exact q.mono (Ext.laid s h) (upd_ne (ne_of_none hw h)),
    fun b z => by obtain ⟨u, e⟩ := s.trk b z; exact ⟨u, by rw [upd_ne (ne_of_none e h)]; exact e⟩, s.dis⟩
theorem FInv.laid (f : FInv K Oo c t σ H) {p : Addr} {o : HO} (h : H p = none) : FInv K Oo c t σ (upd H p o) := by
  have e := Ext.laid (o := o) f.s h
  refine ⟨f.s.laid h, f.len, f.sub, fun i d q => ?_, fun i ds q => ?_, f.inj⟩
  · obtain ⟨v, h1, h2⟩ := f.val i d q
    exact ⟨v, h1, h2.mono e⟩
  · obtain ⟨a, vs, h1, h2, h3, h4, h5⟩ := f.own i ds q
    exact ⟨a, vs, h1, h2, h3, by rw [upd_ne (ne_of_none h4 h)]; exact h4, h5.mono e⟩
theorem FInv.stp_laid (f : FInv K Oo c t σ H) {p : Addr} {o : HO} (h : H p = none) : Stp Oo c H c (upd H p o) :=
  ⟨Ext.laid f.s h, fun b z => by obtain ⟨u, e⟩ := f.s.trk b (f.sub b z); exact upd_ne (ne_of_none e h)⟩
/-- a name gets a value -/
theorem FInv.set (f : FInv K Oo c t σ H) {i : Nat} {v : V} {d : D} (r : Rep K c H v d) : FInv K Oo c { t with env := t.env.set i (some (.val d)) } (σ.set i (some v)) H := by
  have neq : ∀ {j : Nat} {x : Sl}, (t.env.set i (some (.val d)))[j]? = some (some x) → (j = i ∧ x = .val d ∧ j < t.env.length) ∨ (j ≠ i ∧ t.env[j]? = some (some x)) := fun {j x} q => by
    by_cases h : j = i
    · subst h
      rw [List.getElem?_set] at q
      split at q
      · split at q
        · next h1 => injection q with q; injection q with q; exact .inl ⟨rfl, q.symm, h1⟩
        · cases q
      · next h1 => exact absurd rfl h1
    · rw [List.getElem?_set_ne (Ne.symm h)] at q
      exact .inr ⟨h, q⟩
  refine ⟨f.s, by simp [f.len], f.sub, fun j e q => ?_, fun j ds q => ?_, fun j k ds es a q1 q2 q3 q4 => ?_⟩
  · rcases neq q with ⟨rfl, z, hl⟩ | ⟨h, q⟩
    · cases z
      exact ⟨v, by rw [List.getElem?_set_self (by rw [← f.len]; exact hl)], r⟩
    · obtain ⟨u, h1, h2⟩ := f.val j e q
      exact ⟨u, by rw [List.getElem?_set_ne (Ne.symm h)]; exact h1, h2⟩
  · rcases neq q with ⟨rfl, z, _⟩ | ⟨h, q⟩
    · cases z
    · obtain ⟨a, vs, h1, h2⟩ := f.own j ds q
      exact ⟨a, vs, by rw [List.getElem?_set_ne (Ne.symm h)]; exact h1, h2⟩
  · rcases neq q1 with ⟨_, z, _⟩ | ⟨h, q1⟩
    · cases z
    rcases neq q2 with ⟨_, z, _⟩ | ⟨h', q2⟩
    · cases z
    rw [List.getElem?_set_ne (Ne.symm h)] at q3
    rw [List.getElem?_set_ne (Ne.symm h')] at q4
    exact f.inj j k ds es a q1 q2 q3 q4
/-- a new list becomes a name's own -/
theorem FInv.setOwn (f : FInv K Oo c t σ H) {i : Nat} {p : Addr} {vs : List V} {ds : List D} (h : H p = none) (r : Reps K c H vs ds) :
    ∃ c', FInv K Oo c' { t with env := t.env.set i (some (.own ds)) } (σ.set i (some (.ref p))) (upd H p (.lst vs)) ∧ Stp Oo c H c' (upd H p (.lst vs)) := by
  let c' : Cf := ⟨c.ι, fun b => c.O b ∨ b = p⟩
  have nA : ¬ c.A p := f.s.free h
  have ext : Ext c H c' (upd H p (.lst vs)) := by
    refine ⟨fun b u e _ => by rw [upd_ne (ne_of_none e h)]; exact e, fun b u e z => ?_, fun _ _ e => e⟩
    rcases z with z | z | z
    · exact .inl z
    · exact .inr z
    · subst z; rw [h] at e; cases e
  have stp : Stp Oo c H c' (upd H p (.lst vs)) := ⟨ext, fun b z => by obtain ⟨u, e⟩ := f.s.trk b (f.sub b z); exact upd_ne (ne_of_none e h)⟩
  have sinv : SInv K c' t.S (upd H p (.lst vs)) := by
    refine ⟨f.s.len, f.s.nd, fun k a u e1 e2 => ?_, fun b z => ?_, fun b z hb => ?_⟩
    · have q := f.s.obs k a u e1 e2
      obtain ⟨w, hw⟩ := q.some
      exact q.mono ext (upd_ne (ne_of_none hw h))
    · rcases z with z | z
      · obtain ⟨u, e⟩ := f.s.trk b z; exact ⟨u, by rw [upd_ne (ne_of_none e h)]; exact e⟩
      · subst z; exact ⟨_, upd_same⟩
    · rcases z with z | z
      · exact f.s.dis b z hb
      · subst z; exact nA (.inl hb)
  have neq : ∀ {j : Nat} {x : Sl}, (t.env.set i (some (.own ds)))[j]? = some (some x) → (j = i ∧ x = .own ds ∧ j < t.env.length) ∨ (j ≠ i ∧ t.env[j]? = some (some x)) := fun {j x} q => by
    by_cases h : j = i
    · subst h
      rw [List.getElem?_set] at q
      split at q
      · split at q
        · next h1 => injection q with q; injection q with q; exact .inl ⟨rfl, q.symm, h1⟩
        · cases q
      · next h1 => exact absurd rfl h1
    · rw [List.getElem?_set_ne (Ne.symm h)] at q
      exact .inr ⟨h, q⟩
  have fresh : ∀ (j : Nat) (es : List D), t.env[j]? = some (some (.own es)) → σ[j]? ≠ some (some (.ref p)) := fun j es q z => by
    obtain ⟨a, vs', h1, _, _, h4, _⟩ := f.own j es q
    rw [h1] at z; injection z with z; injection z with z; injection z with z; subst z; rw [h] at h4; cases h4
  refine ⟨c', ⟨sinv, by simp [f.len], fun b z => .inl (f.sub b z), fun j e q => ?_, fun j es q => ?_, fun j k ds' es a q1 q2 q3 q4 => ?_⟩, stp⟩
  · rcases neq q with ⟨_, z, _⟩ | ⟨hn, q⟩
    · cases z
    · obtain ⟨u, h1, h2⟩ := f.val j e q
      exact ⟨u, by rw [List.getElem?_set_ne (Ne.symm hn)]; exact h1, h2.mono ext⟩
  · rcases neq q with ⟨rfl, z, hl⟩ | ⟨hn, q⟩
    · cases z
      refine ⟨p, vs, by rw [List.getElem?_set_self (by rw [← f.len]; exact hl)], .inr rfl, fun z => ?_, upd_same, r.mono ext⟩
      obtain ⟨u, e⟩ := f.s.trk p (f.sub p z)
      rw [h] at e; cases e
    · obtain ⟨a, ws, h1, h2, h3, h4, h5⟩ := f.own j es q
      exact ⟨a, ws, by rw [List.getElem?_set_ne (Ne.symm hn)]; exact h1, .inl h2, h3, by rw [upd_ne (ne_of_none h4 h)]; exact h4, h5.mono ext⟩
  · rcases neq q1 with ⟨z1, z2, l1⟩ | ⟨n1, r1⟩
    · rcases neq q2 with ⟨y1, _, _⟩ | ⟨n2, r2⟩
      · rw [z1, y1]
      · subst z1
        rw [List.getElem?_set_self (by rw [← f.len]; exact l1)] at q3
        injection q3 with q3; injection q3 with q3; injection q3 with q3; subst q3
        rw [List.getElem?_set_ne (Ne.symm n2)] at q4
        exact absurd q4 (fresh k es r2)
    · rcases neq q2 with ⟨y1, y2, l2⟩ | ⟨n2, r2⟩
      · subst y1
        rw [List.getElem?_set_self (by rw [← f.len]; exact l2)] at q4
        injection q4 with q4; injection q4 with q4; injection q4 with q4; subst q4
        rw [List.getElem?_set_ne (Ne.symm n1)] at q3
        exact absurd q3 (fresh j ds' r1)
      · rw [List.getElem?_set_ne (Ne.symm n1)] at q3
        rw [List.getElem?_set_ne (Ne.symm n2)] at q4
        exact f.inj j k ds' es a r1 r2 q3 q4
/-- a name's own list becomes a value -/
theorem FInv.frz (f : FInv K Oo c t σ H) {i : Nat} {ds : List D} (q : t.env[i]? = some (some (.own ds))) :
    ∃ c' v, FInv K Oo c' { t with env := t.env.set i (some (.val (.lst ds))) } σ H ∧ Stp Oo c H c' H ∧ σ[i]? = some (some v) ∧ Rep K c' H v (.lst ds) := by
  obtain ⟨a, vs, h1, h2, h3, h4, h5⟩ := f.own i ds q
  let c' : Cf := ⟨c.ι, fun b => c.O b ∧ b ≠ a⟩
  have ext : Ext c H c' H := ⟨fun _ _ e _ => e, fun b u e z => z.elim .inl fun w => .inr w.1, fun _ _ e => e⟩
  have sinv : SInv K c' t.S H := ⟨f.s.len, f.s.nd, fun k b u e1 e2 => (f.s.obs k b u e1 e2).mono ext rfl, fun b z => f.s.trk b z.1, fun b z => f.s.dis b z.1⟩
  have nA : ¬ c'.A a := fun z => z.elim (fun w => f.s.dis a h2 w) fun w => w.2 rfl
  have hσ : σ.set i (some (.ref a)) = σ := by
    apply List.ext_getElem?
    intro j
    by_cases hj : j = i
    · subst hj
      rw [List.getElem?_set_self (by have := (List.getElem?_eq_some_iff.mp h1).1; exact this), h1]
    · rw [List.getElem?_set_ne (Ne.symm hj)]
  have r : Rep K c' H (.ref a) (.lst ds) := .lst h4 nA (h5.mono ext)
  have f0 : FInv K Oo c' { t with env := t.env.set i (some (.val (.lst ds))) } σ H := by
    have neq : ∀ {j : Nat} {x : Sl}, (t.env.set i (some (.val (.lst ds))))[j]? = some (some x) → (j = i ∧ x = .val (.lst ds)) ∨ (j ≠ i ∧ t.env[j]? = some (some x)) := fun {j x} q => by
      by_cases h : j = i
      · subst h
        rw [List.getElem?_set] at q
        split at q
        · split at q
          · injection q with q; injection q with q; exact .inl ⟨rfl, q.symm⟩
          · cases q
        · next h1 => exact absurd rfl h1
      · rw [List.getElem?_set_ne (Ne.symm h)] at q
        exact .inr ⟨h, q⟩
    refine ⟨sinv, by simp [f.len], fun b z => ⟨f.sub b z, fun w => h3 (w ▸ z)⟩, fun j e q' => ?_, fun j es q' => ?_, fun j k ds' es b q1 q2 q3 q4 => ?_⟩
    · rcases neq q' with ⟨rfl, z⟩ | ⟨hn, q'⟩
      · cases z; exact ⟨_, h1, r⟩
      · obtain ⟨u, w1, w2⟩ := f.val j e q'
        exact ⟨u, w1, w2.mono ext⟩
    · rcases neq q' with ⟨_, z⟩ | ⟨hn, q'⟩
      · cases z
      · obtain ⟨b, ws, w1, w2, w3, w4, w5⟩ := f.own j es q'
        refine ⟨b, ws, w1, ⟨w2, fun z => ?_⟩, w3, w4, w5.mono ext⟩
        subst z
        exact hn (f.inj j i es ds b q' q w1 h1)
    · rcases neq q1 with ⟨_, z⟩ | ⟨_, q1⟩
      · cases z
      rcases neq q2 with ⟨_, z⟩ | ⟨_, q2⟩
      · cases z
      exact f.inj j k ds' es b q1 q2 q3 q4
  exact ⟨c', _, f0, ⟨ext, fun _ _ => rfl⟩, h1, r⟩
/-- a name's own list is written -/
theorem FInv.wrOwn (f : FInv K Oo c t σ H) {i : Nat} {ds ds' : List D} {vs' : List V} {a : Addr} (q : t.env[i]? = some (some (.own ds))) (h1 : σ[i]? = some (some (.ref a))) (r : Reps K c H vs' ds') :
    FInv K Oo c { t with env := t.env.set i (some (.own ds')) } σ (upd H a (.lst vs')) ∧ Stp Oo c H c (upd H a (.lst vs')) := by
  obtain ⟨a', vs, g1, h2, h3, h4, h5⟩ := f.own i ds q
  rw [h1] at g1; injection g1 with g1; injection g1 with g1; injection g1 with g1; subst g1
  have ext : Ext c H c (upd H a (.lst vs')) := ⟨fun b u e n => by rw [upd_ne (fun (z : b = a) => n (.inr (by rw [z]; exact h2)))]; exact e, fun _ _ _ z => z, fun _ _ e => e⟩
  have stp : Stp Oo c H c (upd H a (.lst vs')) := ⟨ext, fun b z => upd_ne fun w => h3 (w ▸ z)⟩
  have sinv : SInv K c t.S (upd H a (.lst vs')) := by
    refine ⟨f.s.len, f.s.nd, fun k b u e1 e2 => (f.s.obs k b u e1 e2).mono ext (upd_ne fun z => f.s.dis a h2 (z ▸ List.mem_of_getElem? e1)), fun b z => ?_, f.s.dis⟩
    by_cases hb : b = a
    · subst hb; exact ⟨_, upd_same⟩
    · obtain ⟨u, e⟩ := f.s.trk b z; exact ⟨u, by rw [upd_ne hb]; exact e⟩
  have neq : ∀ {j : Nat} {x : Sl}, (t.env.set i (some (.own ds')))[j]? = some (some x) → (j = i ∧ x = .own ds') ∨ (j ≠ i ∧ t.env[j]? = some (some x)) := fun {j x} q => by
    by_cases h : j = i
    · subst h
      rw [List.getElem?_set] at q
      split at q
      · split at q
        · injection q with q; injection q with q; exact .inl ⟨rfl, q.symm⟩
        · cases q
      · next h1 => exact absurd rfl h1
    · rw [List.getElem?_set_ne (Ne.symm h)] at q
      exact .inr ⟨h, q⟩
  refine ⟨⟨sinv, by simp [f.len], f.sub, fun j e q' => ?_, fun j es q' => ?_, fun j k es es' b q1 q2 q3 q4 => ?_⟩, stp⟩
  · rcases neq q' with ⟨_, z⟩ | ⟨_, q'⟩
    · cases z
    · obtain ⟨u, w1, w2⟩ := f.val j e q'
      exact ⟨u, w1, w2.mono ext⟩
  · rcases neq q' with ⟨rfl, z⟩ | ⟨hn, q'⟩
    · cases z; exact ⟨a, vs', h1, h2, h3, upd_same, r.mono ext⟩
    · obtain ⟨b, ws, w1, w2, w3, w4, w5⟩ := f.own j es q'
      have hb : b ≠ a := fun z => by subst z; exact hn (f.inj j i es ds b q' q w1 h1)
      exact ⟨b, ws, w1, w2, w3, by rw [upd_ne hb]; exact w4, w5.mono ext⟩
  · have old : ∀ {j : Nat} {x : List D}, (t.env.set i (some (.own ds')))[j]? = some (some (.own x)) → ∃ y, t.env[j]? = some (some (.own y)) := fun {j x} q' => by
      rcases neq q' with ⟨rfl, _⟩ | ⟨_, q'⟩
      · exact ⟨ds, q⟩
      · exact ⟨x, q'⟩
    obtain ⟨y1, z1⟩ := old q1
    obtain ⟨y2, z2⟩ := old q2
    exact f.inj j k y1 y2 b z1 z2 q3 q4
/-- a numbered object is written -/
theorem FInv.wrObj (f : FInv K Oo c t σ H) {k : Nat} {a : Addr} {o : Ob} {u : HO} (e : c.ι[k]? = some a) (r : ∀ c' H', Ext c H c' H' → H' a = some u → ObR K c' H' a o) :
    FInv K Oo c { t with S := t.S.set k o } σ (upd H a u) ∧ Stp Oo c H c (upd H a u) := by
  have hA : a ∈ c.ι := List.mem_of_getElem? e
  have ext : Ext c H c (upd H a u) := ⟨fun b w h n => by rw [upd_ne (fun (z : b = a) => n (.inl (by rw [z]; exact hA)))]; exact h, fun _ _ _ z => z, fun _ _ e => e⟩
  have neO : ∀ b, c.O b → b ≠ a := fun b z w => f.s.dis b z (w ▸ hA)
  have stp : Stp Oo c H c (upd H a u) := ⟨ext, fun b z => upd_ne (neO b (f.sub b z))⟩
  have sinv : SInv K c (t.S.set k o) (upd H a u) := by
    refine ⟨by simp [f.s.len], f.s.nd, fun j b o' e1 e2 => ?_, fun b z => ?_, f.s.dis⟩
    · by_cases hj : j = k
      · subst hj
        rw [e] at e1; cases e1
        have hl : j < t.S.length := by rw [← f.s.len]; exact (List.getElem?_eq_some_iff.mp e).1
        rw [List.getElem?_set_self hl] at e2; cases e2
        exact r c _ ext upd_same
      · rw [List.getElem?_set_ne (Ne.symm hj)] at e2
        refine (f.s.obs j b o' e1 e2).mono ext (upd_ne fun z => ?_)
        subst z
        obtain ⟨l1, g1⟩ := List.getElem?_eq_some_iff.mp e1
        obtain ⟨l2, g2⟩ := List.getElem?_eq_some_iff.mp e
        exact hj ((List.getElem_inj f.s.nd).mp (g1.trans g2.symm))
    · obtain ⟨w, h⟩ := f.s.trk b z; exact ⟨w, by rw [upd_ne (neO b z)]; exact h⟩
  refine ⟨⟨sinv, f.len, f.sub, fun i d q => ?_, fun i ds q => ?_, f.inj⟩, stp⟩
  · obtain ⟨v, h1, h2⟩ := f.val i d q
    exact ⟨v, h1, h2.mono ext⟩
  · obtain ⟨b, vs, h1, h2, h3, h4, h5⟩ := f.own i ds q
    exact ⟨b, vs, h1, h2, h3, by rw [upd_ne (neO b h2)]; exact h4, h5.mono ext⟩
/-- a new object gets the next number -/
theorem FInv.newObj (f : FInv K Oo c t σ H) {p : Addr} {o : Ob} {u : HO} (h : H p = none) (r : ∀ c' H', Ext c H c' H' → H' p = some u → ObR K c' H' p o) :
    ∃ c', FInv K Oo c' { t with S := t.S ++ [o] } σ (upd H p u) ∧ Stp Oo c H c' (upd H p u) ∧ c'.ι[t.S.length]? = some p := by
  let c' : Cf := ⟨c.ι ++ [p], c.O⟩
  have nA : ¬ c.A p := f.s.free h
  have ext : Ext c H c' (upd H p u) := by
    refine ⟨fun b w e _ => by rw [upd_ne (ne_of_none e h)]; exact e, fun b w e z => ?_, fun k a e => ?_⟩
    · rcases z with z | z
      · rcases List.mem_append.mp z with z | z
        · exact .inl z
        · rw [List.mem_singleton] at z; subst z; rw [h] at e; cases e
      · exact .inr z
    · show (c.ι ++ [p])[k]? = some a
      rw [List.getElem?_append_left (List.getElem?_eq_some_iff.mp e).1]; exact e
  have stp : Stp Oo c H c' (upd H p u) := ⟨ext, fun b z => by obtain ⟨w, e⟩ := f.s.trk b (f.sub b z); exact upd_ne (ne_of_none e h)⟩
  have at_ : (c.ι ++ [p])[t.S.length]? = some p := by rw [← f.s.len, List.getElem?_append_right (Nat.le_refl _)]; simp
  have sinv : SInv K c' (t.S ++ [o]) (upd H p u) := by
    refine ⟨by simp [c', f.s.len], ?_, fun j b o' e1 e2 => ?_, fun b z => ?_, fun b z hb => ?_⟩
    · show (c.ι ++ [p]).Nodup
      exact List.nodup_append.mpr ⟨f.s.nd, by simp, fun x hx y hy z => by rw [List.mem_singleton] at hy; subst z; subst hy; exact nA (.inl hx)⟩
    · have hlt : j < (t.S ++ [o]).length := (List.getElem?_eq_some_iff.mp e2).1
      by_cases hj : j < t.S.length
      · have e1' : c.ι[j]? = some b := by
          have q : (c.ι ++ [p])[j]? = some b := e1
          rw [List.getElem?_append_left (by rw [f.s.len]; exact hj)] at q; exact q
        rw [List.getElem?_append_left hj] at e2
        have q := f.s.obs j b o' e1' e2
        obtain ⟨w, hw⟩ := q.some
        exact q.mono ext (upd_ne (ne_of_none hw h))
      · have hj' : j = t.S.length := by simp at hlt; omega
        subst hj'
        rw [at_] at e1; cases e1
        rw [List.getElem?_append_right (Nat.le_refl _)] at e2
        simp at e2; subst e2
        exact r c' _ ext upd_same
    · obtain ⟨w, e⟩ := f.s.trk b z; exact ⟨w, by rw [upd_ne (ne_of_none e h)]; exact e⟩
    · rcases List.mem_append.mp hb with w | w
      · exact f.s.dis b z w
      · rw [List.mem_singleton] at w; subst w; exact nA (.inr z)
  refine ⟨c', ⟨sinv, f.len, f.sub, fun i d q => ?_, fun i ds q => ?_, f.inj⟩, stp, at_⟩
  · obtain ⟨v, h1, h2⟩ := f.val i d q
    exact ⟨v, h1, h2.mono ext⟩
  · obtain ⟨b, vs, h1, h2, h3, h4, h5⟩ := f.own i ds q
    exact ⟨b, vs, h1, h2, h3, by rw [upd_ne (ne_of_none h4 h)]; exact h4, h5.mono ext⟩
/-- behind a call -/
theorem FInv.after (f : FInv K Oo c t σ H) {c' : Cf} {S' : List Ob} {H' : Hp} (s : SInv K c' S' H') (st : Stp c.O c H c' H') (ho : ∀ b, c'.O b ↔ c.O b) : FInv K Oo c' { t with S := S' } σ H' ∧ Stp Oo c H c' H' := by
  refine ⟨⟨s, f.len, fun b z => (ho b).mpr (f.sub b z), fun i d q => ?_, fun i ds q => ?_, f.inj⟩, st.ext, fun b z => st.oo b (f.sub b z)⟩
  · obtain ⟨v, h1, h2⟩ := f.val i d q
    exact ⟨v, h1, h2.mono st.ext⟩
  · obtain ⟨b, vs, h1, h2, h3, h4, h5⟩ := f.own i ds q
    exact ⟨b, vs, h1, (ho b).mpr h2, h3, (st.oo b h2).trans h4, h5.mono st.ext⟩
end
end F2

set_option Elab.async false
set_option linter.all false
set_option maxRecDepth 100000
set_option maxHeartbeats 2000000
set_option autoImplicit false
namespace F2
open PySem L2 PySem.Spec

abbrev M (α : Type) := T → Option (α × T)
inductive Out where
  | next | brk | cont | ret (d : D)
noncomputable def ret {α : Type} (a : α) : M α := fun t => some (a, t)
noncomputable def fail {α : Type} : M α := fun _ => none
noncomputable def bnd {α β : Type} (f : M α) (g : α → M β) : M β := fun t => match f t with
  | some (a, t1) => g a t1
  | none => none
theorem bnd_some {α β : Type} {f : M α} {g : α → M β} {t : T} {z : β × T} (h : bnd f g t = some z) : ∃ a t1, f t = some (a, t1) ∧ g a t1 = some z := by
  unfold bnd at h
  cases e : f t with
  | none => rw [e] at h; cases h
  | some p => obtain ⟨a, t1⟩ := p; rw [e] at h; exact ⟨a, t1, rfl, h⟩

/-- lists, tuples and texts that are made keep below this -/
noncomputable def LIM : Nat := 100000
theorem LIM_le : LIM ≤ sizeLine := by unfold LIM; decide
theorem LIM_lt : LIM < sizeLine := by unfold LIM; decide

section
variable (K : PySem.W.Frag)
noncomputable def RE (f : M D) : TE := fun σ H Q => ∃ Oo c t, FInv K Oo c t σ H ∧ ∃ r t', f t = some (r, t') ∧ ∀ v H' c', FInv K Oo c' t' σ H' → Stp Oo c H c' H' → Rep K c' H' v r → Q v H'
noncomputable def RT (f : M Bool) : TT := fun σ H Q => ∃ Oo c t, FInv K Oo c t σ H ∧ ∃ r t', f t = some (r, t') ∧ ∀ H' c', FInv K Oo c' t' σ H' → Stp Oo c H c' H' → Q r H'
noncomputable def RA (f : M (List D)) : TA := fun σ H Q => ∃ Oo c t, FInv K Oo c t σ H ∧ ∃ r t', f t = some (r, t') ∧ ∀ vs H' c', FInv K Oo c' t' σ H' → Stp Oo c H c' H' → Reps K c' H' vs r → Q vs H'
/-- a list just made -/
noncomputable def RF (f : M (List D)) : TE := fun σ H Q => ∃ Oo c t, FInv K Oo c t σ H ∧ ∃ ds t', f t = some (ds, t') ∧ ∀ p vs H' c', FInv K Oo c' t' σ H' → Stp Oo c H c' H' → Reps K c' H' vs ds → H' p = none → Q (.ref p) (upd H' p (.lst vs))
/-- what a `return` means: the value stands there, or (μF) a list that nothing else names -/
noncomputable def RSg (μ : Cf → Hp → D → (V → Hp → Prop) → Prop) (f : M Out) : TS := fun E σ H => ∃ Oo c t, FInv K Oo c t σ H ∧ ∃ o t', f t = some (o, t') ∧ ∀ σ' H' c', FInv K Oo c' t' σ' H' → Stp Oo c H c' H' →
  match o with
  | .next => E.nx σ' H'
  | .brk => E.bk σ' H'
  | .cont => E.ct σ' H'
  | .ret r => μ c' H' r E.rt
noncomputable def μR : Cf → Hp → D → (V → Hp → Prop) → Prop := fun c H r rt => ∀ v, Rep K c H v r → rt v H
noncomputable def μF : Cf → Hp → D → (V → Hp → Prop) → Prop := fun c H r rt => match r with
  | .lst ds => ∀ p us, H p = none → Reps K c H us ds → rt (.ref p) (upd H p (.lst us))
  | _ => False
abbrev RS (f : M Out) : TS := RSg K (μR K) f
/-- a target -/
noncomputable def RG (f : D → M Unit) : TG := fun v σ H Q => ∃ Oo c t d, FInv K Oo c t σ H ∧ Rep K c H v d ∧ ∃ t', f d t = some ((), t') ∧ ∀ σ' H' c', FInv K Oo c' t' σ' H' → Stp Oo c H c' H' → Q σ' H'
/-- what is walked: its items, and that they come in any later heap -/
structure ItOk (J : It) (c : Cf) (H : Hp) (ds : List D) : Prop where
  go : ∀ c' H' (i : Nat), Ext c H c' H' → i < ds.length → J.go i H'
  yld : ∀ c' H' (i : Nat) x H'' d, Ext c H c' H' → ds[i]? = some d → J.yld i H' x H'' → H'' = H' ∧ Rep K c' H' x d
  stop : ∀ c' H', Ext c H c' H' → J.stop ds.length H'
noncomputable def RI (f : M (List D)) : TI := fun σ H R => ∃ Oo c t, FInv K Oo c t σ H ∧ ∃ ds t', f t = some (ds, t') ∧ ∀ J H' c', FInv K Oo c' t' σ H' → Stp Oo c H c' H' → ItOk K J c' H' ds → R J H'

noncomputable def Sem2 (R : R2) (h : D → D → M D) : Prop := ∀ {Oo : Addr → Prop} {c : Cf} {t : T} {σ : L2.St} {H : Hp} {x y : V} {dx dy r : D} {t' : T} {Q : VK}, FInv K Oo c t σ H → Rep K c H x dx → Rep K c H y dy → h dx dy t = some (r, t') →
  (∀ v H' c', FInv K Oo c' t' σ H' → Stp Oo c H c' H' → Rep K c' H' v r → Q v H') → R x y H Q
noncomputable def SemN (R : List V → Hp → VK → Prop) (h : List D → M D) : Prop := ∀ {Oo : Addr → Prop} {c : Cf} {t : T} {σ : L2.St} {H : Hp} {xs : List V} {ds : List D} {r : D} {t' : T} {Q : VK}, FInv K Oo c t σ H → Reps K c H xs ds → h ds t = some (r, t') →
  (∀ v H' c', FInv K Oo c' t' σ H' → Stp Oo c H c' H' → Rep K c' H' v r → Q v H') → R xs H Q
/-- .. that make a list -/
noncomputable def Sem2F (R : R2) (h : D → D → M (List D)) : Prop := ∀ {Oo : Addr → Prop} {c : Cf} {t : T} {σ : L2.St} {H : Hp} {x y : V} {dx dy : D} {r : List D} {t' : T} {Q : VK}, FInv K Oo c t σ H → Rep K c H x dx → Rep K c H y dy → h dx dy t = some (r, t') →
  (∀ p vs H' c', FInv K Oo c' t' σ H' → Stp Oo c H c' H' → Reps K c' H' vs r → H' p = none → Q (.ref p) (upd H' p (.lst vs))) → R x y H Q
noncomputable def SemNF (R : List V → Hp → VK → Prop) (h : List D → M (List D)) : Prop := ∀ {Oo : Addr → Prop} {c : Cf} {t : T} {σ : L2.St} {H : Hp} {xs : List V} {ds r : List D} {t' : T} {Q : VK}, FInv K Oo c t σ H → Reps K c H xs ds → h ds t = some (r, t') →
  (∀ p vs H' c', FInv K Oo c' t' σ H' → Stp Oo c H c' H' → Reps K c' H' vs r → H' p = none → Q (.ref p) (upd H' p (.lst vs))) → R xs H Q
end

section
variable {X : Cx} {e a b : Expr} {pos : Pos}
theorem PE_imp {t t' : TE} (h : PE X e t) (i : ∀ σ H Q, t' σ H Q → t σ H Q) : PE X e t' := fun pins s σ H Q I q => h pins s σ H Q I (i σ H Q q)
theorem PT_imp {t t' : TT} (h : PT X e t) (i : ∀ σ H Q, t' σ H Q → t σ H Q) : PT X e t' := fun pins s σ H Q I q => h pins s σ H Q I (i σ H Q q)
theorem PW_imp {t t' : TT} (h : PW X e t) (i : ∀ σ H Q, t' σ H Q → t σ H Q) : PW X e t' := fun w pins s σ H Q I q => h w pins s σ H Q I (i σ H Q q)
theorem PA_imp {es : List Expr} {t t' : TA} (h : PA X es t) (i : ∀ σ H Q, t' σ H Q → t σ H Q) : PA X es t' := fun pos pins s σ H Q I q => h pos pins s σ H Q I (i σ H Q q)
theorem PS_imp {st : Stmt} {t t' : TS} (h : PS X st t) (i : ∀ E σ H, t' E σ H → t E σ H) : PS X st t' := fun pins s σ H E I q => h pins s σ H E I (i E σ H q)
theorem PSs_imp {st : List Stmt} {t t' : TS} (h : PSs X st t) (i : ∀ E σ H, t' E σ H → t E σ H) : PSs X st t' := fun pins s σ H E I q => h pins s σ H E I (i E σ H q)
theorem PG_imp {t t' : TG} (h : PG X e t) (i : ∀ v σ H Q, t' v σ H Q → t v σ H Q) : PG X e t' := fun pins s σ H v u Q I r q => h pins s σ H v u Q I r (i v σ H Q q)
theorem PI_imp {tg : Expr} {t t' : TI} (h : PI X tg e t) (i : ∀ σ H R, t' σ H R → t σ H R) : PI X tg e t' := fun pins s σ H R I q => h pins s σ H R I (i σ H R q)

/-! ### names, constants -/
noncomputable def fC (d : D) : M D := ret d
theorem fe_c {v : V} {d : D} (h : PE X e (tC v)) (r : ∀ c H, Rep X.K c H v d) : PE X e (RE X.K (fC d)) :=
  PE_imp h fun σ H Q ⟨Oo, c, t, f, r', t', eq, k⟩ => by
    cases eq
    exact k v H c f .refl (r c H)
theorem fe_int {i : Int} {j : Nat} : PE X (.Constant (.int i) j pos) (RE X.K (fC (.int i))) := fe_c pe_int fun _ _ => .int i
theorem fe_bl {i : Bool} {j : Nat} : PE X (.Constant (.bool i) j pos) (RE X.K (fC (.bl i))) := fe_c pe_bl fun _ _ => .bl i
theorem fe_str {i : Str} {j : Nat} : PE X (.Constant (.str i) j pos) (RE X.K (fC (.str i))) := fe_c pe_str fun _ _ => .str i
noncomputable def fVar (i : Nat) : M D := fun t => match t.env[i]? with
  | some (some (.val d)) => some (d, t)
  | some (some (.own ds)) => some (.lst ds, { t with env := t.env.set i (some (.val (.lst ds))) })
  | _ => none
theorem fVar_cases {i : Nat} {t t' : T} {r : D} (h : fVar i t = some (r, t')) : (t.env[i]? = some (some (.val r)) ∧ t' = t) ∨ ∃ ds, t.env[i]? = some (some (.own ds)) ∧ r = .lst ds ∧ t' = { t with env := t.env.set i (some (.val (.lst ds))) } := by
  unfold fVar at h
  cases e : t.env[i]? with
  | none => rw [e] at h; cases h
  | some o =>
    cases o with
    | none => rw [e] at h; cases h
    | some sl =>
      cases sl with
      | val d => rw [e] at h; cases h; exact .inl ⟨rfl, rfl⟩
      | own ds => rw [e] at h; cases h; exact .inr ⟨ds, rfl, rfl, rfl⟩
theorem fe_var (i : Nat) {x : Str} (hN : X.N[i]? = some x := by rfl) (hv : Vis X.env.scope x := by first | exact Or.inl rfl | exact Or.inr (Or.inl rfl) | exact Or.inr (Or.inr rfl)) (hd : (x == ("__debug__" : Str)) = false := by decide)
    (hcd : (x == ("__classdict__" : Str)) = false := by decide) : PE X (.Name x pos) (RE X.K (fVar i)) :=
  PE_imp (pe_var hN hv hd hcd) fun σ H Q ⟨Oo, c, t, f, r, t', eq, k⟩ => by
    rcases fVar_cases eq with ⟨q, rfl⟩ | ⟨ds, q, rfl, rfl⟩
    · obtain ⟨v, h1, h2⟩ := f.val i r q
      exact ⟨v, h1, k v H c f .refl h2⟩
    · obtain ⟨c', v, f', st, h1, h2⟩ := f.frz q
      exact ⟨v, h1, k v H c' f' st h2⟩

/-! ### operations -/
noncomputable def fBin (f g : M D) (h : D → D → M D) : M D := bnd f fun x => bnd g fun y => h x y
theorem RE.two {K : PySem.W.Frag} {f g : M D} {h : D → D → M D} {R : R2} (s : Sem2 K R h) {σ : L2.St} {H : Hp} {Q : VK} (q : RE K (fBin f g h) σ H Q) : tOp R (RE K f) (RE K g) σ H Q := by
  obtain ⟨Oo, c, t, fi, r, t', eq, k⟩ := q
  obtain ⟨dx, t1, e1, eq⟩ := bnd_some eq
  obtain ⟨dy, t2, e2, eq⟩ := bnd_some eq
  exact ⟨Oo, c, t, fi, dx, t1, e1, fun x H1 c1 f1 s1 rx => ⟨Oo, c1, t1, f1, dy, t2, e2, fun y H2 c2 f2 s2 ry => s f2 (rx.mono s2.ext) ry eq fun v H' c' f' s' rv => k v H' c' f' ((s1.trans s2).trans s') rv⟩⟩
theorem fe_op {op : Operator} {R : R2} {f g : M D} {h : D → D → M D} (ho : OpR X (binaryOp op) R) (s : Sem2 X.K R h) (ha : PE X a (RE X.K f)) (hb : PE X b (RE X.K g)) : PE X (.BinOp a op b pos) (RE X.K (fBin f g h)) :=
  PE_imp (pe_op ho ha hb) fun _ _ _ q => RE.two s q
theorem fe_cmp {op : CmpOp} {R : R2} {f g : M D} {h : D → D → M D} (ho : OpR X (compareOp op) R) (s : Sem2 X.K R h) (ha : PE X a (RE X.K f)) (hb : PE X b (RE X.K g)) (hm : behindInMarks op b = false) : PE X (.Compare a [op] [b] pos) (RE X.K (fBin f g h)) :=
  PE_imp (pe_cmpR ho ha hb hm) fun _ _ _ q => RE.two s q
theorem fe_ix {R : R2} {f g : M D} {h : D → D → M D} (hr : IxR X R) (s : Sem2 X.K R h) (ha : PE X a (RE X.K f)) (hb : PE X b (RE X.K g)) (hs : PlainIx b) : PE X (.Subscript a b pos) (RE X.K (fBin f g h)) :=
  PE_imp (pe_ix hr ha hb hs) fun _ _ _ q => RE.two s q
noncomputable def fUn (f : M D) (h : D → M D) : M D := bnd f h
/-! ### tests -/
noncomputable def toB : D → M Bool
  | .bl b => ret b
  | _ => fail
noncomputable def fTst (f : M D) : M Bool := bnd f toB
theorem toB_some {d : D} {t : T} {z : Bool × T} (h : toB d t = some z) : ∃ b, d = .bl b ∧ z = (b, t) := by
  cases d with
  | bl b => cases h; exact ⟨b, rfl, rfl⟩
  | _ => cases h
theorem RT.val {K : PySem.W.Frag} {f : M D} {σ : L2.St} {H : Hp} {Q : Bool → Hp → Prop} (q : RT K (fTst f) σ H Q) : RE K f σ H fun x H1 => ∃ k, x = .bl k ∧ Q k H1 := by
  obtain ⟨Oo, c, t, fi, r, t', eq, k⟩ := q
  obtain ⟨d, t1, e1, eq⟩ := bnd_some eq
  obtain ⟨b, rfl, z⟩ := toB_some eq
  cases z
  refine ⟨Oo, c, t, fi, _, t', e1, fun v H1 c1 f1 s1 rv => ?_⟩
  cases rv
  exact ⟨r, rfl, k H1 c1 f1 s1⟩
theorem ft_val {f : M D} (h : PE X e (RE X.K f)) (he : ∀ whole, isTrue e X.env whole = (do let v ← whole; standAt e.pos; holding [v] (truthy v)) := by intro _; rfl) : PT X e (RT X.K (fTst f)) :=
  PT_imp (pt_val h he) fun _ _ _ q => RT.val q
theorem ft_cmp {op : CmpOp} {R : R2} {f g : M D} {h : D → D → M D} (ho : OpR X (compareOp op) R) (s : Sem2 X.K R h) (ha : PE X a (RE X.K f)) (hb : PE X b (RE X.K g)) (hm : behindInMarks op b = false) : PT X (.Compare a [op] [b] pos) (RT X.K (fTst (fBin f g h))) :=
  PT_imp (pt_cmpR ho ha hb hm) fun σ H Q q => RE.two s (RT.val q)
/-- a op b op' c -/
noncomputable def fChain (f g w : M D) (h h' : D → D → M D) : M D := bnd f fun x => bnd g fun y => bnd (fTst (h x y)) fun k => if k = true then bnd w fun z => h' y z else ret (.bl false)
noncomputable def fAnd (f g : M Bool) : M Bool := bnd f fun k => if k = true then g else ret false
noncomputable def fOr (f g : M Bool) : M Bool := bnd f fun k => if k = true then ret true else g
noncomputable def fNot (f : M Bool) : M Bool := bnd f fun k => ret (!k)
noncomputable def fAndV (f g : M D) : M D := bnd (fTst f) fun k => if k = true then g else ret (.bl false)
noncomputable def fOrV (f g : M D) : M D := bnd (fTst f) fun k => if k = true then ret (.bl true) else g
noncomputable def fNotV (f : M D) : M D := bnd (fTst f) fun k => ret (.bl (!k))
noncomputable def fIf (f : M Bool) (g h : M D) : M D := bnd f fun k => if k = true then g else h
variable {f g : M Bool} {u v w : M D} {rest : List Expr}
theorem ft_pw (h : PW X e (RT X.K f)) : PT X e (RT X.K f) := h.pt
theorem fw_or1 (ha : PT X a (RT X.K f)) : PW X (.BoolOp .Or [a] pos) (RT X.K f) := pw_or1 ha
theorem fw_or (ha : PT X a (RT X.K f)) (hb : PW X (.BoolOp .Or (b :: rest) pos) (RT X.K g)) : PW X (.BoolOp .Or (a :: b :: rest) pos) (RT X.K (fOr f g)) :=
  PW_imp (pw_or ha hb) fun σ H Q ⟨Oo, c, t, fi, r, t', eq, k⟩ => by
    obtain ⟨kb, t1, e1, eq⟩ := bnd_some eq
    refine ⟨Oo, c, t, fi, kb, t1, e1, fun H1 c1 f1 s1 => ?_⟩
    cases kb with
    | true => rw [if_pos rfl] at eq ⊢; cases eq; exact k H1 c1 f1 s1
    | false => rw [if_neg Bool.false_ne_true] at eq ⊢; exact ⟨Oo, c1, t1, f1, r, t', eq, fun H2 c2 f2 s2 => k H2 c2 f2 (s1.trans s2)⟩
theorem ft_not (ha : PT X a (RT X.K f)) : PT X (.UnaryOp .Not a pos) (RT X.K (fNot f)) :=
  PT_imp (pt_not ha) fun σ H Q ⟨Oo, c, t, fi, r, t', eq, k⟩ => by
    obtain ⟨kb, t1, e1, eq⟩ := bnd_some eq
    cases eq
    exact ⟨Oo, c, t, fi, kb, _, e1, fun H1 c1 f1 s1 => k H1 c1 f1 s1⟩
theorem tst_some {f : M D} {t : T} {kb : Bool} {t1 : T} (h : fTst f t = some (kb, t1)) : f t = some (.bl kb, t1) := by
  obtain ⟨d, t2, e1, e2⟩ := bnd_some h
  obtain ⟨b, rfl, z⟩ := toB_some e2
  cases z
  exact e1
theorem fe_one {op : PySem.BoolOp} (h : PE X a (RE X.K u)) : PE X (.BoolOp op [a] pos) (RE X.K u) := pe_one h
theorem fe_or (ha : PE X a (RE X.K u)) (hb : PE X (.BoolOp .Or (b :: rest) pos) (RE X.K v)) : PE X (.BoolOp .Or (a :: b :: rest) pos) (RE X.K (fOrV u v)) :=
  PE_imp (pe_or ha hb) fun σ H Q ⟨Oo, c, t, fi, r, t', eq, k⟩ => by
    obtain ⟨kb, t1, e1, eq⟩ := bnd_some eq
    refine ⟨Oo, c, t, fi, _, t1, tst_some e1, fun x H1 c1 f1 s1 rx => ?_⟩
    cases rx
    refine ⟨kb, rfl, ?_⟩
    cases kb with
    | true => rw [if_pos rfl] at eq ⊢; cases eq; exact k _ H1 c1 f1 s1 (.bl true)
    | false => rw [if_neg Bool.false_ne_true] at eq ⊢; exact ⟨Oo, c1, t1, f1, r, t', eq, fun y H2 c2 f2 s2 ry => k y H2 c2 f2 (s1.trans s2) ry⟩
theorem fe_ifExp {d : Expr} (hc : PT X d (RT X.K f)) (ha : PE X a (RE X.K u)) (hb : PE X b (RE X.K v)) : PE X (.IfExp d a b pos) (RE X.K (fIf f u v)) :=
  PE_imp (pe_ifExp hc ha hb) fun σ H Q ⟨Oo, c, t, fi, r, t', eq, k⟩ => by
    obtain ⟨kb, t1, e1, eq⟩ := bnd_some eq
    refine ⟨Oo, c, t, fi, kb, t1, e1, fun H1 c1 f1 s1 => ?_⟩
    cases kb with
    | false => rw [if_neg Bool.false_ne_true] at eq ⊢; exact ⟨Oo, c1, t1, f1, r, t', eq, fun y H2 c2 f2 s2 ry => k y H2 c2 f2 (s1.trans s2) ry⟩
    | true => rw [if_pos rfl] at eq ⊢; exact ⟨Oo, c1, t1, f1, r, t', eq, fun y H2 c2 f2 s2 ry => k y H2 c2 f2 (s1.trans s2) ry⟩
end

/-! ### arguments, displays, calls -/
section
variable {X : Cx} {e a b : Expr} {es : List Expr} {pos : Pos}
noncomputable def fNil : M (List D) := ret []
noncomputable def fCons (f : M D) (g : M (List D)) : M (List D) := bnd f fun d => bnd g fun ds => ret (d :: ds)
theorem fa_nil : PA X [] (RA X.K fNil) := PA_imp pa_nil fun σ H Q ⟨Oo, c, t, fi, r, t', eq, k⟩ => by
  cases eq
  exact k [] H c fi .refl .nil
theorem fa_cons {f : M D} {g : M (List D)} (ha : PE X e (RE X.K f)) (hr : PA X es (RA X.K g)) (hs : starEach (e :: es) X.env = (false, eval e X.env) :: starEach es X.env := by rfl) : PA X (e :: es) (RA X.K (fCons f g)) :=
  PA_imp (pa_cons ha hr hs) fun σ H Q ⟨Oo, c, t, fi, r, t', eq, k⟩ => by
    obtain ⟨d, t1, e1, eq⟩ := bnd_some eq
    obtain ⟨ds, t2, e2, eq⟩ := bnd_some eq
    cases eq
    exact ⟨Oo, c, t, fi, d, t1, e1, fun x H1 c1 f1 s1 rx => ⟨Oo, c1, t1, f1, ds, _, e2, fun xs H2 c2 f2 s2 rxs => k _ H2 c2 f2 (s1.trans s2) (.cons (rx.mono s2.ext) rxs)⟩⟩
noncomputable def lim {α : Type} (n : Nat) (a : α) : M α := fun t => if n ≤ LIM then some (a, t) else none
theorem lim_some {α : Type} {n : Nat} {a : α} {t : T} {z : α × T} (h : lim n a t = some z) : n ≤ LIM ∧ z = (a, t) := by
  unfold lim at h
  split at h
  · next h1 => cases h; exact ⟨h1, rfl⟩
  · cases h
noncomputable def fTup (f : M (List D)) : M D := bnd f fun ds => lim ds.length (.tup ds)
theorem fe_tup {x1 : Nat} {f : M (List D)} (h : PA X es (RA X.K f)) : PE X (.Tuple es x1 pos) (RE X.K (fTup f)) :=
  PE_imp (pe_tup h) fun σ H Q ⟨Oo, c, t, fi, r, t', eq, k⟩ => by
    obtain ⟨ds, t1, e1, eq⟩ := bnd_some eq
    obtain ⟨hl, z⟩ := lim_some eq
    cases z
    refine ⟨Oo, c, t, fi, ds, _, e1, fun xs H1 c1 f1 s1 rxs => ⟨by rw [rxs.length]; exact Nat.le_trans hl LIM_le, fun p hp => ?_⟩⟩
    exact k _ _ c1 (f1.laid hp) (s1.trans (f1.stp_laid hp)) (.tup upd_same (f1.s.free hp) (rxs.mono (Ext.laid f1.s hp)))
noncomputable def fLst (f : M (List D)) : M (List D) := bnd f fun ds => lim ds.length ds
theorem ff_lst {f : M (List D)} (h : PA X es (RA X.K f)) : PE X (.List es pos) (RF X.K (fLst f)) :=
  PE_imp (pe_lst h) fun σ H Q ⟨Oo, c, t, fi, r, t', eq, k⟩ => by
    obtain ⟨ds, t1, e1, eq⟩ := bnd_some eq
    obtain ⟨hl, z⟩ := lim_some eq
    cases z
    exact ⟨Oo, c, t, fi, _, _, e1, fun xs H1 c1 f1 s1 rxs => ⟨by rw [rxs.length]; exact Nat.le_trans hl LIM_le, fun p hp => k p xs H1 c1 f1 s1 rxs hp⟩⟩
/-- a list just made, as a value -/
noncomputable def fPure (f : M (List D)) : M D := bnd f fun ds => ret (.lst ds)
theorem fe_pure {f : M (List D)} (h : PE X e (RF X.K f)) : PE X e (RE X.K (fPure f)) :=
  PE_imp h fun σ H Q ⟨Oo, c, t, fi, r, t', eq, k⟩ => by
    obtain ⟨ds, t1, e1, eq⟩ := bnd_some eq
    cases eq
    exact ⟨Oo, c, t, fi, ds, _, e1, fun p xs H1 c1 f1 s1 rxs hp => k _ _ c1 (f1.laid hp) (s1.trans (f1.stp_laid hp)) (.lst upd_same (f1.s.free hp) (rxs.mono (Ext.laid f1.s hp)))⟩
/-- a list just made, numbered -/
noncomputable def newOb (o : Ob) : M D := fun t => some (.obj t.S.length, { t with S := t.S ++ [o] })
noncomputable def fObj (f : M (List D)) : M D := bnd f fun ds => newOb (.lst ds)
theorem fe_obj {f : M (List D)} (h : PE X e (RF X.K f)) : PE X e (RE X.K (fObj f)) :=
  PE_imp h fun σ H Q ⟨Oo, c, t, fi, r, t', eq, k⟩ => by
    obtain ⟨ds, t1, e1, eq⟩ := bnd_some eq
    cases eq
    refine ⟨Oo, c, t, fi, ds, _, e1, fun p xs H1 c1 f1 s1 rxs hp => ?_⟩
    obtain ⟨c2, f2, s2, e2⟩ := f1.newObj (o := .lst ds) (u := .lst xs) hp fun c' H' ex hu => ⟨xs, hu, rxs.mono ex⟩
    exact k _ _ c2 f2 (s1.trans s2) (.obj e2)

/-! ### calls -/
abbrev Fn := List D → List Ob → Option (D × List Ob)
noncomputable def spF (K : PySem.W.Frag) (f : Fn) : Sp := fun vs H Q _ => ∃ c ds S, SInv K c S H ∧ Reps K c H vs ds ∧ ∃ r S', f ds S = some (r, S') ∧
  ∀ v H' c', SInv K c' S' H' → Stp c.O c H c' H' → (∀ b, c'.O b ↔ c.O b) → Rep K c' H' v r → Q v H'
noncomputable def fCall (g : Fn) (f : M (List D)) : M D := bnd f fun ds t => match g ds t.S with
  | some (r, S') => some (r, { t with S := S' })
  | none => none
theorem call_some {g : Fn} {ds : List D} {t : T} {r : D} {t' : T} (h : (match g ds t.S with | some (r, S') => some (r, { t with S := S' }) | none => none : Option (D × T)) = some (r, t')) : ∃ S', g ds t.S = some (r, S') ∧ t' = { t with S := S' } := by
  cases e : g ds t.S with
  | none => rw [e] at h; cases h
  | some p => obtain ⟨r', S'⟩ := p; rw [e] at h; cases h; exact ⟨S', rfl, rfl⟩
theorem fe_call {k : Nat} {fa : Addr} {fd : FuncData} {ps : List Str} {g : Fn} {f : M (List D)} {x : Str} {p : Pos} (F : FnOk X.prog X.w X.K X.mg X.base CX0 k fa fd ps (spF X.K g)) (hr : Room k X.A) (hg : Gl X x) (hm : X.mg x = some (.ref fa)) (hk : PySem.W.keepIn X.K (.ref fa) = true) (hb : Binds X.K fd ps [])
    (ha : PA X (e :: es) (RA X.K f)) (hdb : (x == ("__debug__" : Str)) = false := by decide) (he : starEach (e :: es) X.env = (false, eval e X.env) :: starEach es X.env := by rfl) (hpl : (backTo pos (starEach es X.env)).any (·.1) = false := by rfl) :
    PE X (.Call (.Name x p) (e :: es) [] pos) (RE X.K (fCall g f)) :=
  PE_imp (pe_call F hr hg hm hk hb .nil pass0 ha hdb he hpl) fun σ H Q ⟨Oo, c, t, fi, r, t', eq, kk⟩ => by
    obtain ⟨ds, t1, e1, eq⟩ := bnd_some eq
    obtain ⟨S', e2, rfl⟩ := call_some eq
    refine ⟨Oo, c, t, fi, ds, t1, e1, fun vs H1 c1 f1 s1 rvs => ?_⟩
    show spF X.K g (vs ++ []) H1 Q E0
    rw [List.append_nil]
    refine ⟨c1, ds, t1.S, f1.s, rvs, r, S', e2, fun v H' c' si st ho rv => ?_⟩
    obtain ⟨f2, s2⟩ := f1.after si st ho
    exact kk v H' c' f2 (s1.trans s2) rv
/-- f(e, ..) of a built-in function or type -/
noncomputable def fB (f : M (List D)) (h : List D → M D) : M D := bnd f h
theorem RE.callB {K : PySem.W.Frag} {f : M (List D)} {h : List D → M D} {R : List V → Hp → VK → Prop} (s : SemN K R h) {σ : L2.St} {H : Hp} {Q : VK} (q : RE K (fB f h) σ H Q) : tCB R (RA K f) σ H Q := by
  obtain ⟨Oo, c, t, fi, r, t', eq, k⟩ := q
  obtain ⟨ds, t1, e1, eq⟩ := bnd_some eq
  exact ⟨Oo, c, t, fi, ds, t1, e1, fun xs H1 c1 f1 s1 rxs => s f1 rxs eq fun v H' c' f' s' rv => k v H' c' f' (s1.trans s') rv⟩
noncomputable def fBF (f : M (List D)) (h : List D → M (List D)) : M (List D) := bnd f h
theorem RF.callB {K : PySem.W.Frag} {f : M (List D)} {h : List D → M (List D)} {R : List V → Hp → VK → Prop} (s : SemNF K R h) {σ : L2.St} {H : Hp} {Q : VK} (q : RF K (fBF f h) σ H Q) : tCB R (RA K f) σ H Q := by
  obtain ⟨Oo, c, t, fi, r, t', eq, k⟩ := q
  obtain ⟨ds, t1, e1, eq⟩ := bnd_some eq
  exact ⟨Oo, c, t, fi, ds, t1, e1, fun xs H1 c1 f1 s1 rxs => s f1 rxs eq fun p vs H' c' f' s' rv hp => k p vs H' c' f' (s1.trans s') rv hp⟩
theorem RF.two {K : PySem.W.Frag} {f g : M D} {h : D → D → M (List D)} {R : R2} (s : Sem2F K R h) {σ : L2.St} {H : Hp} {Q : VK} (q : RF K (bnd f fun x => bnd g fun y => h x y) σ H Q) : tOp R (RE K f) (RE K g) σ H Q := by
  obtain ⟨Oo, c, t, fi, r, t', eq, k⟩ := q
  obtain ⟨dx, t1, e1, eq⟩ := bnd_some eq
  obtain ⟨dy, t2, e2, eq⟩ := bnd_some eq
  exact ⟨Oo, c, t, fi, dx, t1, e1, fun x H1 c1 f1 s1 rx => ⟨Oo, c1, t1, f1, dy, t2, e2, fun y H2 c2 f2 s2 ry => s f2 (rx.mono s2.ext) ry eq fun p vs H' c' f' s' rv hp => k p vs H' c' f' ((s1.trans s2).trans s') rv hp⟩⟩
end
end F2

set_option Elab.async false
set_option linter.all false
set_option maxRecDepth 100000
set_option maxHeartbeats 2000000
set_option autoImplicit false
namespace F2
open PySem L2 PySem.Spec

section
variable {X : Cx} {e a b : Expr} {pos : Pos} {st : Stmt} {sts : List Stmt}
noncomputable def seqS (f g : M Out) : M Out := fun t => match f t with
  | some (.next, t1) => g t1
  | z => z
noncomputable def skipS : M Out := ret .next
theorem fss_nil {μ : Cf → Hp → D → (V → Hp → Prop) → Prop} : PSs X [] (RSg X.K μ skipS) := PSs_imp pss_nil fun E σ H ⟨Oo, c, t, fi, o, t', eq, k⟩ => by
  cases eq
  exact k σ H c fi .refl
theorem fss_cons {μ : Cf → Hp → D → (V → Hp → Prop) → Prop} {f g : M Out} (h1 : PS X st (RSg X.K μ f)) (h2 : PSs X sts (RSg X.K μ g)) : PSs X (st :: sts) (RSg X.K μ (seqS f g)) :=
  PSs_imp (pss_cons h1 h2) fun E σ H ⟨Oo, c, t, fi, o, t', eq, k⟩ => by
    unfold seqS at eq
    cases e1 : f t with
    | none => rw [e1] at eq; cases eq
    | some p =>
      obtain ⟨o1, t1⟩ := p
      rw [e1] at eq
      refine ⟨Oo, c, t, fi, o1, t1, e1, fun σ1 H1 c1 f1 s1 => ?_⟩
      cases o1 with
      | next => exact ⟨Oo, c1, t1, f1, o, t', eq, fun σ2 H2 c2 f2 s2 => k σ2 H2 c2 f2 (s1.trans s2)⟩
      | brk => cases eq; exact k σ1 H1 c1 f1 s1
      | cont => cases eq; exact k σ1 H1 c1 f1 s1
      | ret d => cases eq; exact k σ1 H1 c1 f1 s1
theorem fss_one {μ : Cf → Hp → D → (V → Hp → Prop) → Prop} {f : M Out} (h1 : PS X st (RSg X.K μ f)) : PSs X [st] (RSg X.K μ f) := pss_one h1
noncomputable def retS (f : M D) : M Out := bnd f fun d => ret (.ret d)
theorem fs_ret {f : M D} (h : PE X e (RE X.K f)) : PS X (.Return (some e) pos) (RS X.K (retS f)) :=
  PS_imp (ps_ret h) fun E σ H ⟨Oo, c, t, fi, o, t', eq, k⟩ => by
    obtain ⟨d, t1, e1, eq⟩ := bnd_some eq
    cases eq
    exact ⟨Oo, c, t, fi, d, _, e1, fun v H1 c1 f1 s1 rv => k σ H1 c1 f1 s1 v rv⟩
theorem fs_continue {μ : Cf → Hp → D → (V → Hp → Prop) → Prop} : PS X (.Continue pos) (RSg X.K μ (ret .cont)) := PS_imp ps_continue fun E σ H ⟨Oo, c, t, fi, o, t', eq, k⟩ => by
  cases eq
  exact k σ H c fi .refl
noncomputable def dropS (f : M D) : M Out := bnd f fun _ => ret .next
theorem fs_expr {μ : Cf → Hp → D → (V → Hp → Prop) → Prop} {f : M D} (h : PE X e (RE X.K f)) (hs : swapsWith e none pos.line X.env = pure false := by rfl) : PS X (.Expr e pos) (RSg X.K μ (dropS f)) :=
  PS_imp (ps_expr h hs) fun E σ H ⟨Oo, c, t, fi, o, t', eq, k⟩ => by
    obtain ⟨d, t1, e1, eq⟩ := bnd_some eq
    cases eq
    exact ⟨Oo, c, t, fi, d, _, e1, fun v H1 c1 f1 s1 rv => k σ H1 c1 f1 s1⟩
noncomputable def ifS (f : M Bool) (g h : M Out) : M Out := bnd f fun k => if k = true then g else h
theorem fs_if {μ : Cf → Hp → D → (V → Hp → Prop) → Prop} {f : M Bool} {g h : M Out} {sa sb : List Stmt} (hc : PT X e (RT X.K f)) (ha : PSs X sa (RSg X.K μ g)) (hb : PSs X sb (RSg X.K μ h)) : PS X (.If e sa sb pos) (RSg X.K μ (ifS f g h)) :=
  PS_imp (ps_if hc ha hb) fun E σ H ⟨Oo, c, t, fi, o, t', eq, k⟩ => by
    obtain ⟨kb, t1, e1, eq⟩ := bnd_some eq
    refine ⟨Oo, c, t, fi, kb, t1, e1, fun H1 c1 f1 s1 => ?_⟩
    cases kb with
    | true => rw [if_pos rfl] at eq ⊢; exact ⟨Oo, c1, t1, f1, o, t', eq, fun σ2 H2 c2 f2 s2 => k σ2 H2 c2 f2 (s1.trans s2)⟩
    | false => rw [if_neg Bool.false_ne_true] at eq ⊢; exact ⟨Oo, c1, t1, f1, o, t', eq, fun σ2 H2 c2 f2 s2 => k σ2 H2 c2 f2 (s1.trans s2)⟩
/-! ### stores -/
noncomputable def putV (i : Nat) (d : D) : M Unit := fun t => some ((), { t with env := t.env.set i (some (.val d)) })
noncomputable def setS (i : Nat) (f : M D) : M Out := bnd f fun d => bnd (putV i d) fun _ => ret .next
theorem RS.set {μ : Cf → Hp → D → (V → Hp → Prop) → Prop} {K : PySem.W.Frag} {i : Nat} {f : M D} {E : Ends} {σ : L2.St} {H : Hp} (q : RSg K μ (setS i f) E σ H) : tAsg (RE K f) (gName i) E σ H := by
  obtain ⟨Oo, c, t, fi, o, t', eq, k⟩ := q
  obtain ⟨d, t1, e1, eq⟩ := bnd_some eq
  cases eq
  exact ⟨Oo, c, t, fi, d, t1, e1, fun v H1 c1 f1 s1 rv => k _ H1 c1 (f1.set rv) s1⟩
theorem fs_set {μ : Cf → Hp → D → (V → Hp → Prop) → Prop} {i : Nat} {x : Str} {f : M D} {pos' : Pos} (hN : X.N.Nodup) (hi : X.N[i]? = some x) (hx : Loc X.env.scope x) (he : PE X e (RE X.K f)) (hs : swapsWith e (some (.Name x pos')) pos.line X.env = pure false := by rfl) (hf : X.fn x = true ∨ X.env.scope.names.lookup x = some .local := by first | exact .inl rfl | exact .inr rfl | assumption) :
    PS X (.Assign [.Name x pos'] e pos) (RSg X.K μ (setS i f)) := PS_imp (ps_set hN hi hx he hs hf) fun _ _ _ q => RS.set q
noncomputable def ownS (i : Nat) (f : M (List D)) : M Out := bnd f fun ds t => some (.next, { t with env := t.env.set i (some (.own ds)) })
theorem RS.own {μ : Cf → Hp → D → (V → Hp → Prop) → Prop} {K : PySem.W.Frag} {i : Nat} {f : M (List D)} {E : Ends} {σ : L2.St} {H : Hp} (q : RSg K μ (ownS i f) E σ H) : tAsg (RF K f) (gName i) E σ H := by
  obtain ⟨Oo, c, t, fi, o, t', eq, k⟩ := q
  obtain ⟨ds, t1, e1, eq⟩ := bnd_some eq
  cases eq
  refine ⟨Oo, c, t, fi, ds, t1, e1, fun p vs H1 c1 f1 s1 rv hp => ?_⟩
  obtain ⟨c2, f2, s2⟩ := f1.setOwn (i := i) hp rv
  exact k _ _ c2 f2 (s1.trans s2)
theorem fs_own {μ : Cf → Hp → D → (V → Hp → Prop) → Prop} {i : Nat} {x : Str} {f : M (List D)} {pos' : Pos} (hN : X.N.Nodup) (hi : X.N[i]? = some x) (hx : Loc X.env.scope x) (he : PE X e (RF X.K f)) (hs : swapsWith e (some (.Name x pos')) pos.line X.env = pure false := by rfl) (hf : X.fn x = true ∨ X.env.scope.names.lookup x = some .local := by first | exact .inl rfl | exact .inr rfl | assumption) :
    PS X (.Assign [.Name x pos'] e pos) (RSg X.K μ (ownS i f)) := PS_imp (ps_set hN hi hx he hs hf) fun _ _ _ q => RS.own q
/-! ### targets -/
theorem fg_name {i : Nat} {x : Str} (hN : X.N.Nodup) (hi : X.N[i]? = some x) (hx : Loc X.env.scope x) (hf : X.fn x = true ∨ X.env.scope.names.lookup x = some .local := by first | exact .inl rfl | exact .inr rfl | assumption) : PG X (.Name x pos) (RG X.K (putV i)) :=
  PG_imp (pg_name hN hi hx hf) fun v σ H Q ⟨Oo, c, t, d, fi, rv, t', eq, k⟩ => by
    cases eq
    exact k _ H c (fi.set rv) .refl
noncomputable def asgS (f : M D) (g : D → M Unit) : M Out := bnd f fun d => bnd (g d) fun _ => ret .next
theorem fs_asg {μ : Cf → Hp → D → (V → Hp → Prop) → Prop} {tg : Expr} {f : M D} {g : D → M Unit} (he : PE X e (RE X.K f)) (hg : PG X tg (RG X.K g)) (hs : swapsWithSole [tg] e pos.line X.env = pure false := by rfl) (hw : swappedStores [tg] e X.env = pure none := by rfl) (hp : (assignEach [tg] X.env).map (·.2) = [assign tg X.env] := by rfl) :
    PS X (.Assign [tg] e pos) (RSg X.K μ (asgS f g)) :=
  PS_imp (by first | exact ps_asg he hg hs hw | exact ps_asg he hg hs hw hp) fun E σ H ⟨Oo, c, t, fi, o, t', eq, k⟩ => by
    obtain ⟨d, t1, e1, eq⟩ := bnd_some eq
    obtain ⟨u, t2, e2, eq⟩ := bnd_some eq
    cases eq
    exact ⟨Oo, c, t, fi, d, t1, e1, fun v H1 c1 f1 s1 rv => ⟨Oo, c1, t1, d, f1, rv, _, e2, fun σ2 H2 c2 f2 s2 => k σ2 H2 c2 f2 (s1.trans s2)⟩⟩
/-- several targets -/
noncomputable def RGs (K : PySem.W.Frag) (f : List D → M Unit) : TGs := fun vs σ H Q => ∃ Oo c t ds, FInv K Oo c t σ H ∧ Reps K c H vs ds ∧ ∃ t', f ds t = some ((), t') ∧ ∀ σ' H' c', FInv K Oo c' t' σ' H' → Stp Oo c H c' H' → Q σ' H'
theorem PGs_imp {ts : List Expr} {t t' : TGs} (h : PGs X ts t) (i : ∀ v σ H Q, t' v σ H Q → t v σ H Q) : PGs X ts t' := fun pins s σ H vs us Q I r q => h pins s σ H vs us Q I r (i vs σ H Q q)
noncomputable def putNil : List D → M Unit
  | [] => ret ()
  | _ => fail
noncomputable def putCons (f : D → M Unit) (g : List D → M Unit) : List D → M Unit
  | d :: ds => bnd (f d) fun _ => g ds
  | [] => fail
theorem fgs_nil : PGs X [] (RGs X.K putNil) := PGs_imp pgs_nil fun vs σ H Q ⟨Oo, c, t, ds, fi, rv, t', eq, k⟩ => by
  cases rv with
  | nil => cases eq; exact ⟨rfl, k σ H c fi .refl⟩
  | cons _ _ => cases eq
theorem RGs.cons {K : PySem.W.Frag} {f : D → M Unit} {g : List D → M Unit} {vs : List V} {σ : L2.St} {H : Hp} {Q : L2.St → Hp → Prop} (q : RGs K (putCons f g) vs σ H Q) : gCons (RG K f) (RGs K g) vs σ H Q := by
  obtain ⟨Oo, c, t, ds, fi, rv, t', eq, k⟩ := q
  cases rv with
  | nil => cases eq
  | cons r rs =>
    obtain ⟨u, t1, e1, eq⟩ := bnd_some eq
    exact ⟨_, _, rfl, Oo, c, t, _, fi, r, t1, e1, fun σ1 H1 c1 f1 s1 => ⟨Oo, c1, t1, _, f1, rs.mono s1.ext, t', eq, fun σ2 H2 c2 f2 s2 => k σ2 H2 c2 f2 (s1.trans s2)⟩⟩
noncomputable def unT (n : Nat) (g : List D → M Unit) : D → M Unit
  | .tup ds => if ds.length = n then g ds else fail
  | _ => fail
theorem RG.tup {K : PySem.W.Frag} {n : Nat} {g : List D → M Unit} {v : V} {σ : L2.St} {H : Hp} {Q : L2.St → Hp → Prop} (q : RG K (unT n g) v σ H Q) : gTup K n (RGs K g) v σ H Q := by
  obtain ⟨Oo, c, t, d, fi, rv, t', eq, k⟩ := q
  cases rv with
  | @tup a vs ds h1 h2 h3 =>
    unfold unT at eq
    by_cases hn : ds.length = n
    · dsimp only at eq
      rw [if_pos hn] at eq
      exact ⟨a, vs, rfl, SqT.of h1, by rw [h3.length]; exact hn, Oo, c, t, ds, fi, h3, t', eq, k⟩
    · dsimp only at eq
      rw [if_neg hn] at eq; cases eq
  | _ => cases eq

/-! ### loops -/
noncomputable def forL (st : D → M Unit) (b : M Out) : List D → M Out
  | [] => ret .next
  | d :: r => fun t => match st d t with
    | none => none
    | some (_, t1) => match b t1 with
      | some (.next, t2) => forL st b r t2
      | some (.cont, t2) => forL st b r t2
      | some (.brk, t2) => some (.next, t2)
      | some (.ret x, t2) => some (.ret x, t2)
      | none => none
noncomputable def forS (f : M (List D)) (st : D → M Unit) (b : M Out) : M Out := bnd f fun ds => forL st b ds
theorem RS.for {μ : Cf → Hp → D → (V → Hp → Prop) → Prop} {K : PySem.W.Frag} {f : M (List D)} {g : D → M Unit} {b : M Out} {E : Ends} {σ : L2.St} {H : Hp} (q : RSg K μ (forS f g b) E σ H) : tFor (RI K f) (RG K g) (RSg K μ b) E σ H := by
  obtain ⟨Oo, c, t, fi, o, t', eq, k⟩ := q
  obtain ⟨ds, t1, e1, eq⟩ := bnd_some eq
  refine ⟨Oo, c, t, fi, ds, t1, e1, fun J H1 c1 f1 s1 it => ?_⟩
  refine ⟨fun i m σ' H' => m = ds.length - i ∧ i ≤ ds.length ∧ ∃ c' t2, FInv K Oo c' t2 σ' H' ∧ Stp Oo c1 H1 c' H' ∧ forL g b (ds.drop i) t2 = some (o, t'), ⟨_, rfl, Nat.zero_le _, c1, t1, f1, .refl, by rw [List.drop_zero]; exact eq⟩, ?_⟩
  rintro i m σ' H' ⟨rfl, hi, c', t2, f2, s2, e2⟩
  by_cases hlt : i < ds.length
  · refine .inr ⟨it.go c' H' i s2.ext hlt, fun σ3 H3 => ∃ c3 t3, FInv K Oo c3 t3 σ3 H3 ∧ Stp Oo c1 H1 c3 H3 ∧ forL g b (ds.drop (i + 1)) t3 = some (o, t'), fun σ3 H3 h => ⟨ds.length - (i + 1), by omega, rfl, hlt, h⟩, fun x H'' hy => ?_⟩
    obtain ⟨rfl, rx⟩ := it.yld c' H' i x H'' _ s2.ext (List.getElem?_eq_getElem hlt) hy
    rw [List.drop_eq_getElem_cons hlt] at e2
    unfold forL at e2
    cases e3 : g ds[i] t2 with
    | none => rw [e3] at e2; cases e2
    | some p =>
      obtain ⟨u, t3⟩ := p
      rw [e3] at e2
      try dsimp only at e2
      refine ⟨Oo, c', t2, _, f2, rx, t3, e3, fun σ3 H3 c3 f3 s3 => ?_⟩
      cases e4 : b t3 with
      | none => rw [e4] at e2; cases e2
      | some p =>
        obtain ⟨o4, t4⟩ := p
        rw [e4] at e2
        try dsimp only at e2
        refine ⟨Oo, c3, t3, f3, o4, t4, e4, fun σ5 H5 c5 f5 s5 => ?_⟩
        have s' := (s2.trans s3).trans s5
        cases o4 with
        | next => exact ⟨c5, t4, f5, s', e2⟩
        | cont => exact ⟨c5, t4, f5, s', e2⟩
        | brk => cases e2; exact k σ5 H5 c5 f5 (s1.trans s')
        | ret r => cases e2; exact k σ5 H5 c5 f5 (s1.trans s')
  · have hi' : i = ds.length := by omega
    subst hi'
    rw [List.drop_length] at e2
    cases e2
    exact .inl ⟨it.stop c' H' s2.ext, k σ' H' c' f2 (s1.trans s2)⟩
theorem fs_for {μ : Cf → Hp → D → (V → Hp → Prop) → Prop} {tg iter : Expr} {body : List Stmt} {f : M (List D)} {g : D → M Unit} {b : M Out} (hp : PassesOwn (model X.prog X.w) X.A X.env X.xe) (hc : X.calm = true) (hi : PI X tg iter (RI X.K f)) (hg : PG X tg (RG X.K g)) (hb : PSs X body (RSg X.K μ b))
    (hs : ∀ x, foldedSetIterable iter X.env x = pure x := by intro _; rfl) : PS X (.For tg iter body [] pos) (RSg X.K μ (forS f g b)) :=
  PS_imp (ps_for hp hc hi hg hb hs) fun _ _ _ q => RS.for q
/-! what is walked -/
theorem ItOk.lst {K : PySem.W.Frag} {c : Cf} {H : Hp} {p : Addr} {ds : List D} (r : ∀ c' H', Ext c H c' H' → ∃ vs, SqL K H' p vs ∧ Reps K c' H' vs ds) : ItOk K (Itl K p) c H ds := by
  refine ⟨fun c' H' i ex hi => ?_, fun c' H' i x H'' d ex hd hy => ?_, fun c' H' ex => ?_⟩
  · obtain ⟨vs, h1, h2⟩ := r c' H' ex
    obtain ⟨v, e, _⟩ := h2.at (List.getElem?_eq_getElem hi)
    exact ⟨vs, v, h1, e⟩
  · obtain ⟨vs, h1, h2⟩ := r c' H' ex
    obtain ⟨rfl, h⟩ := hy
    exact ⟨rfl, h2.get (h vs h1) hd⟩
  · obtain ⟨vs, h1, h2⟩ := r c' H' ex
    exact ⟨vs, h1, by rw [h2.length]; exact Nat.le_refl _⟩
theorem ItOk.tup {K : PySem.W.Frag} {c : Cf} {H : Hp} {p : Addr} {ds : List D} (r : ∀ c' H', Ext c H c' H' → ∃ vs, SqT K H' p vs ∧ Reps K c' H' vs ds) : ItOk K (Itt K p) c H ds := by
  refine ⟨fun c' H' i ex hi => ?_, fun c' H' i x H'' d ex hd hy => ?_, fun c' H' ex => ?_⟩
  · obtain ⟨vs, h1, h2⟩ := r c' H' ex
    obtain ⟨v, e, _⟩ := h2.at (List.getElem?_eq_getElem hi)
    exact ⟨vs, v, h1, e⟩
  · obtain ⟨vs, h1, h2⟩ := r c' H' ex
    obtain ⟨rfl, h⟩ := hy
    exact ⟨rfl, h2.get (h vs h1) hd⟩
  · obtain ⟨vs, h1, h2⟩ := r c' H' ex
    exact ⟨vs, h1, by rw [h2.length]; exact Nat.le_refl _⟩
end
end F2

set_option Elab.async false
set_option linter.all false
set_option maxRecDepth 100000
set_option maxHeartbeats 2000000
set_option autoImplicit false
namespace F2
open PySem L2 PySem.Spec

theorem FInv.leave {K : PySem.W.Frag} {Oo : Addr → Prop} {c : Cf} {t : T} {σ : L2.St} {H : Hp} (f : FInv K Oo c t σ H) : SInv K ⟨c.ι, Oo⟩ t.S H ∧ Ext c H ⟨c.ι, Oo⟩ H := by
  have ext : Ext c H ⟨c.ι, Oo⟩ H := ⟨fun _ _ e _ => e, fun b o _ z => z.elim .inl fun w => .inr (f.sub b w), fun _ _ e => e⟩
  exact ⟨⟨f.s.len, f.s.nd, fun k a o e1 e2 => (f.s.obs k a o e1 e2).mono ext rfl, fun b z => f.s.trk b (f.sub b z), fun b z => f.s.dis b (f.sub b z)⟩, ext⟩

/-! ### a def -/
noncomputable def env0 (m : Nat) (ds : List D) : List (Option Sl) := ds.map (fun d => some (.val d)) ++ List.replicate (m - ds.length) none
noncomputable def fnOf (n m : Nat) (g : M Out) : Fn := fun ds S => if ds.length = n then (match g ⟨env0 m ds, S⟩ with
  | some (.ret r, t) => some (r, t.S)
  | some (.next, t) => some (.non, t.S)
  | _ => none) else none
theorem finv_start {K : PySem.W.Frag} {c : Cf} {S : List Ob} {H : Hp} {vs : List V} {ds : List D} {N : List Str} (s : SInv K c S H) (r : Reps K c H vs ds) : FInv K c.O c ⟨env0 N.length ds, S⟩ (L2.start N vs) H := by
  have hlen : vs.length = ds.length := r.length
  have none_ : ∀ {i : Nat} {x : Sl}, (env0 N.length ds)[i]? = some (some x) → ∃ d, ds[i]? = some d ∧ x = .val d := fun {i x} q => by
    unfold env0 at q
    by_cases hi : i < ds.length
    · rw [List.getElem?_append_left (by simpa using hi), List.getElem?_map, List.getElem?_eq_getElem hi] at q
      simp at q
      exact ⟨ds[i], List.getElem?_eq_getElem hi, q.symm⟩
    · rw [List.getElem?_append_right (by simpa using hi), List.getElem?_replicate] at q
      split at q <;> simp at q
  refine ⟨s, by simp [env0, L2.start, hlen], fun _ z => z, fun i d q => ?_, fun i es q => ?_, fun i j es _ a q _ _ _ => ?_⟩
  · obtain ⟨d', h1, h2⟩ := none_ q
    cases h2
    obtain ⟨v, h3, h4⟩ := r.at h1
    refine ⟨v, ?_, h4⟩
    unfold L2.start
    have hi := (List.getElem?_eq_some_iff.mp h3).1
    rw [List.getElem?_append_left (by simpa using hi), List.getElem?_map, h3]
    rfl
  · obtain ⟨_, _, h2⟩ := none_ q; cases h2
  · obtain ⟨_, _, h2⟩ := none_ q; cases h2
theorem fn_ok {P : Program} {w : World} {K : PySem.W.Frag} {mg : Str → Option Value} {base : Heap} {x qual : Str} {st : Stmt} {fa : Addr} {fd : FuncData} {N ps : List Str} {k : Nat} {g : M Out} (F : Fun K x qual st fa fd) (S : FnScope N ps (defScope st))
    (hb : ∀ (cdv : Value) (A : Around) (outer : List Env) (s : Shared) (H : Hp) (E : XK), Room k (A.deeper (PyProof.Rows.envOfC qual (defScope st) s.heap.objs.size fa cdv)) →
      PSs (cxOf CX0 P w K mg base N qual (defScope st) fa cdv A outer s H E).nox (defBody st) (RS K g)) : FnOk P w K mg base CX0 (k + 1) fa fd ps (spF K (fnOf ps.length N.length g)) := by
  have hlen : ∀ {ds : List D} {S : List Ob} {z : D × List Ob}, fnOf ps.length N.length g ds S = some z → ds.length = ps.length := fun {ds S z} h => by
    unfold fnOf at h
    split at h
    · next h1 => exact h1
    · cases h
  refine F.ok S (fun vs H Q E h => ?_) (fun cdv A outer s H vs Q E hr h => ?_)
  · obtain ⟨c, ds, S, si, rs, r, S', e, _⟩ := h
    rw [rs.length]; exact hlen e
  obtain ⟨c, ds, S0, si, rs, r, S', e, kk⟩ := h
  refine ⟨RS K g, hb cdv A outer s H E hr, ?_⟩
  have hl := hlen e
  unfold fnOf at e
  rw [if_pos hl] at e
  cases eg : g ⟨env0 N.length ds, S0⟩ with
  | none => rw [eg] at e; cases e
  | some p =>
    obtain ⟨o, t⟩ := p
    rw [eg] at e
    refine ⟨c.O, c, _, finv_start si rs, o, t, eg, fun σ' H' c' f' s' => ?_⟩
    obtain ⟨si', ext'⟩ := f'.leave
    have st' : Stp c.O c H ⟨c'.ι, c.O⟩ H' := ⟨s'.ext.trans ext', s'.oo⟩
    cases o with
    | next => cases e; exact kk .non H' _ si' st' (fun _ => Iff.rfl) .non
    | ret d => cases e; exact fun v rv => kk v H' _ si' st' (fun _ => Iff.rfl) (rv.mono ext')
    | brk => cases e
    | cont => cases e

section
variable {X : Cx} {e a b : Expr} {pos : Pos}
/-! ### walks -/
noncomputable def items : D → M (List D)
  | .lst ds => ret ds
  | .tup ds => ret ds
  | .scr ns => ret (ns.map .int)
  | _ => fail
noncomputable def rngL (lo : Int) (n : Nat) : List D := (List.range n).map fun i => .int (lo + (i : Nat))
theorem ItOk.rng {K : PySem.W.Frag} {c : Cf} {H : Hp} {lo : Int} {n : Nat} : ItOk K (Itr lo n) c H (rngL lo n) := by
  refine ⟨fun c' H' i ex hi => ?_, fun c' H' i x H'' d ex hd hy => ?_, fun c' H' ex => ?_⟩
  · have : i < n := by simpa [rngL] using hi
    exact this
  · obtain ⟨rfl, rfl⟩ := hy
    refine ⟨rfl, ?_⟩
    have hi : i < n := by
      have := (List.getElem?_eq_some_iff.mp hd).1
      simpa [rngL] using this
    have : d = .int (lo + (i : Nat)) := by
      rw [rngL, List.getElem?_map, List.getElem?_range hi] at hd
      simpa using hd.symm
    rw [this]
    exact .int _
  · show n ≤ (rngL lo n).length
    simp [rngL]
noncomputable def small (i : Int) : Bool := decide (-(2 ^ 62) ≤ i) && decide (i < 2 ^ 62)
noncomputable def rng1 : List D → M (List D)
  | [.int j] => fun t => if small j = true then some (rngL 0 j.toNat, t) else none
  | _ => fail
noncomputable def rng2 : List D → M (List D)
  | [.int i, .int j] => fun t => if (small i && small j) = true then some (rngL i (j - i).toNat, t) else none
  | _ => fail
noncomputable def fRng1 (f : M (List D)) : M (List D) := bnd f rng1
noncomputable def fRng2 (f : M (List D)) : M (List D) := bnd f rng2
theorem small_iff {i : Int} (h : small i = true) : -(2 ^ 62) ≤ i ∧ i < 2 ^ 62 := by
  unfold small at h
  rw [Bool.and_eq_true] at h
  exact ⟨of_decide_eq_true h.1, of_decide_eq_true h.2⟩
theorem fi_range1 {tg : Expr} {f : M (List D)} {p : Pos} (hg : Gl X "range") (hm : X.mg "range" = none) (ha : PA X [a] (RA X.K f)) (hs : starEach [a] X.env = [(false, eval a X.env)] := by rfl) : PI X tg (.Call (.Name "range" p) [a] [] pos) (RI X.K (fRng1 f)) :=
  PI_imp (pi_range1 hg hm ha hs) fun σ H R ⟨Oo, c, t, fi, ds, t', eq, k⟩ => by
    obtain ⟨xs, t1, e1, eq⟩ := bnd_some eq
    refine ⟨Oo, c, t, fi, xs, t1, e1, fun vs H1 c1 f1 s1 rv => ?_⟩
    unfold rng1 at eq
    split at eq
    · next j =>
      split at eq
      · next hs =>
        cases eq
        cases rv with
        | cons r rs =>
          cases rs
          cases r
          obtain ⟨h1, h2⟩ := small_iff hs
          exact ⟨j, rfl, h1, h2, k _ H1 c1 f1 s1 ItOk.rng⟩
      · cases eq
    · cases eq
/-! ### comprehensions -/
noncomputable def compL (st : D → M Unit) (tst : M Bool) (elt : M D) : List D → M (List D)
  | [] => ret []
  | d :: r => bnd (st d) fun _ => bnd tst fun k => if k = true then bnd elt fun x => bnd (compL st tst elt r) fun xs => ret (x :: xs) else compL st tst elt r
noncomputable def valOf : Option (Option Sl) → Option Sl
  | some (some (.val d)) => some (.val d)
  | _ => none
noncomputable def cenv (n : Nat) (fr : List Nat) (env : List (Option Sl)) : List (Option Sl) := List.replicate n none ++ fr.map fun i => valOf env[i]?
noncomputable def csig (n : Nat) (fr : List Nat) (σ : L2.St) : L2.St := List.replicate n none ++ fr.map fun i => (σ[i]?).join
noncomputable def fComp (n : Nat) (fr : List Nat) (f : M (List D)) (st : D → M Unit) (tst : M Bool) (elt : M D) : M (List D) := bnd f fun ds t => match compL st tst elt ds ⟨cenv n fr t.env, t.S⟩ with
  | some (xs, t') => if xs.length ≤ LIM then some (xs, { t with S := t'.S }) else none
  | none => none
theorem cenv_get {n : Nat} {fr : List Nat} {env : List (Option Sl)} {j : Nat} {x : Sl} (h : (cenv n fr env)[j]? = some (some x)) : ∃ i d, n ≤ j ∧ fr[j - n]? = some i ∧ env[i]? = some (some (.val d)) ∧ x = .val d := by
  unfold cenv at h
  by_cases hj : j < n
  · rw [List.getElem?_append_left (by simpa using hj), List.getElem?_replicate] at h
    split at h <;> simp at h
  · rw [List.getElem?_append_right (by simpa using hj), List.length_replicate, List.getElem?_map] at h
    cases e : fr[j - n]? with
    | none => rw [e] at h; simp at h
    | some i =>
      rw [e] at h
      simp only [Option.map_some, Option.some.injEq] at h
      cases e2 : env[i]? with
      | none => rw [e2] at h; cases h
      | some o =>
        cases o with
        | none => rw [e2] at h; cases h
        | some sl =>
          cases sl with
          | own _ => rw [e2] at h; cases h
          | val d => rw [e2] at h; cases h; exact ⟨i, d, by omega, rfl, e2, rfl⟩
theorem finv_block {K : PySem.W.Frag} {Oo : Addr → Prop} {c : Cf} {t : T} {σ : L2.St} {H : Hp} {n : Nat} {fr : List Nat} (f : FInv K Oo c t σ H) : FInv K c.O c ⟨cenv n fr t.env, t.S⟩ (csig n fr σ) H := by
  refine ⟨f.s, by simp [cenv, csig], fun _ z => z, fun j d q => ?_, fun j es q => ?_, fun j _ es _ _ q _ _ _ => ?_⟩
  · obtain ⟨i, d', h0, h1, h2, h3⟩ := cenv_get q
    cases h3
    obtain ⟨v, h4, h5⟩ := f.val i d h2
    refine ⟨v, ?_, h5⟩
    unfold csig
    rw [List.getElem?_append_right (by simpa using h0), List.length_replicate, List.getElem?_map, h1]
    simp [h4]
  · obtain ⟨_, _, _, _, _, h⟩ := cenv_get q; cases h
  · obtain ⟨_, _, _, _, _, h⟩ := cenv_get q; cases h
theorem RF.comp {K : PySem.W.Frag} {n : Nat} {fr : List Nat} {f : M (List D)} {st : D → M Unit} {tst : M Bool} {elt : M D} {σ : L2.St} {H : Hp} {Q : VK} (q : RF K (fComp n fr f st tst elt) σ H Q) : tComp (RI K f) (RG K st) (RT K tst) (RE K elt) (csig n fr) σ H Q := by
  obtain ⟨Oo, c, t, fi, xs, t', eq, k⟩ := q
  obtain ⟨ds, t1, e1, eq⟩ := bnd_some eq
  refine ⟨Oo, c, t, fi, ds, t1, e1, fun J H1 c1 f1 s1 it => ?_⟩
  cases e3 : compL st tst elt ds ⟨cenv n fr t1.env, t1.S⟩ with
  | none => rw [e3] at eq; cases eq
  | some p =>
    obtain ⟨ys, t3⟩ := p
    rw [e3] at eq
    dsimp only at eq
    split at eq
    case isFalse => cases eq
    next hl =>
    cases eq
    refine ⟨fun i m acc σ' H' => m = ds.length - i ∧ i ≤ ds.length ∧ ∃ c' t2 zs rest, FInv K c1.O c' t2 σ' H' ∧ Stp c1.O c1 H1 c' H' ∧ Reps K c' H' acc zs ∧ compL st tst elt (ds.drop i) t2 = some (rest, t3) ∧ xs = zs ++ rest,
      ⟨_, rfl, Nat.zero_le _, c1, _, [], xs, finv_block f1, .refl, .nil, by rw [List.drop_zero]; exact e3, rfl⟩, ?_⟩
    rintro i m acc σ' H' ⟨rfl, hi, c', t2, zs, rest, f2, s2, ra, e2, ez⟩
    have hacc : acc.length ≤ sizeLine := by
      have : zs.length ≤ xs.length := by rw [ez, List.length_append]; exact Nat.le_add_right _ _
      rw [ra.length]
      exact Nat.le_trans this (Nat.le_trans hl LIM_le)
    refine ⟨hacc, ?_⟩
    by_cases hlt : i < ds.length
    · refine .inr ⟨it.go c' H' i s2.ext hlt, fun x H'' hy => ?_⟩
      obtain ⟨rfl, rx⟩ := it.yld c' H' i x H'' _ s2.ext (List.getElem?_eq_getElem hlt) hy
      rw [List.drop_eq_getElem_cons hlt] at e2
      unfold compL at e2
      obtain ⟨u, t4, e4, e2⟩ := bnd_some e2
      obtain ⟨kb, t5, e5, e2⟩ := bnd_some e2
      refine ⟨c1.O, c', t2, _, f2, rx, t4, e4, fun σ3 H3 c3 f3 s3 => ⟨c1.O, c3, t4, f3, kb, t5, e5, fun H4 c4 f4 s4 => ?_⟩⟩
      cases kb with
      | false =>
        rw [if_neg Bool.false_ne_true] at e2 ⊢
        exact ⟨ds.length - (i + 1), by omega, rfl, hlt, c4, t5, zs, rest, f4, (s2.trans s3).trans s4, ra.mono (s3.trans s4).ext, e2, ez⟩
      | true =>
        rw [if_pos rfl] at e2 ⊢
        obtain ⟨x6, t6, e6, e2⟩ := bnd_some e2
        obtain ⟨r7, t7, e7, e2⟩ := bnd_some e2
        cases e2
        refine ⟨c1.O, c4, t5, f4, x6, t6, e6, fun v H5 c5 f5 s5 rv => ?_⟩
        exact ⟨ds.length - (i + 1), by omega, rfl, hlt, c5, t6, zs ++ [x6], r7, f5, ((s2.trans s3).trans s4).trans s5, (ra.mono ((s3.trans s4).trans s5).ext).append (.cons rv .nil), e7, by rw [ez, List.append_assoc]; rfl⟩
    · have hi' : i = ds.length := by omega
      subst hi'
      rw [List.drop_length] at e2
      cases e2
      refine .inl ⟨it.stop c' H' s2.ext, fun p hp _ => ?_⟩
      obtain ⟨si, ext⟩ := f2.leave
      obtain ⟨f6, s6⟩ := f1.after si ⟨s2.ext.trans ext, s2.oo⟩ (fun _ => Iff.rfl)
      rw [List.append_nil] at ez
      subst ez
      exact k p acc H' _ f6 (s1.trans s6) (ra.mono ext) hp
end
end F2

set_option Elab.async false
set_option linter.all false
set_option maxRecDepth 100000
set_option maxHeartbeats 2000000
set_option autoImplicit false
namespace F2
open PySem L2 PySem.Spec PySem.SeqAt

/-! ### == of trees -/
noncomputable def eq0 : D → D → Option Bool
  | .non, .non => some true
  | .bl a, .bl b => some (a == b)
  | .int a, .int b => some (a == b)
  | .str a, .str b => some (a == b)
  | .bl a, .int b => some ((if a then (1 : Int) else 0) == b)
  | .int a, .bl b => some (a == (if b then (1 : Int) else 0))
  | .non, .bl _ => some false | .non, .int _ => some false | .non, .str _ => some false | .non, .lst _ => some false | .non, .tup _ => some false
  | .bl _, .non => some false | .bl _, .str _ => some false | .bl _, .lst _ => some false | .bl _, .tup _ => some false
  | .int _, .non => some false | .int _, .str _ => some false | .int _, .lst _ => some false | .int _, .tup _ => some false
  | .str _, .non => some false | .str _, .bl _ => some false | .str _, .int _ => some false | .str _, .lst _ => some false | .str _, .tup _ => some false
  | .lst _, .non => some false | .lst _, .bl _ => some false | .lst _, .int _ => some false | .lst _, .str _ => some false | .lst _, .tup _ => some false
  | .tup _, .non => some false | .tup _, .bl _ => some false | .tup _, .int _ => some false | .tup _, .str _ => some false | .tup _, .lst _ => some false
  | _, _ => none
noncomputable def eqLs (f : D → D → Option Bool) : List D → List D → Option Bool
  | x :: xs, y :: ys => match f x y, eqLs f xs ys with
    | some a, some b => some (a && b)
    | _, _ => none
  | _, _ => some true
noncomputable def eqN : Nat → D → D → Option Bool
  | 0, x, y => eq0 x y
  | n + 1, .tup xs, .tup ys => (eqLs (eqN n) xs ys).map fun b => b && xs.length == ys.length
  | n + 1, .lst xs, .lst ys => if xs.length = ys.length then eqLs (eqN n) xs ys else some false
  | _ + 1, x, y => eq0 x y
noncomputable def ej (f : D → D → Option Bool) (xs ys : List D) (j : Nat) : Bool := match xs[j]?, ys[j]? with
  | some d, some e => (f d e).getD true
  | _, _ => true
theorem eqLs_all {f : D → D → Option Bool} : ∀ {xs ys : List D} {b : Bool}, eqLs f xs ys = some b → b = (List.range (min xs.length ys.length)).all (ej f xs ys) ∧ ∀ (j : Nat) d e, xs[j]? = some d → ys[j]? = some e → ∃ k, f d e = some k
  | [], ys, b, h => by
    have h : some true = some b := by simpa [eqLs] using h
    cases h
    refine ⟨by simp, fun j d e q _ => by simp at q⟩
  | x :: xs, [], b, h => by
    have h : some true = some b := by simpa [eqLs] using h
    cases h
    refine ⟨by simp, fun j d e _ q => by simp at q⟩
  | x :: xs, y :: ys, b, h => by
    unfold eqLs at h
    cases e1 : f x y with
    | none => rw [e1] at h; cases h
    | some a =>
      cases e2 : eqLs f xs ys with
      | none => rw [e1, e2] at h; cases h
      | some c =>
        rw [e1, e2] at h
        cases h
        obtain ⟨h1, h2⟩ := eqLs_all e2
        refine ⟨?_, fun j d e q1 q2 => ?_⟩
        · have hm : min (x :: xs).length (y :: ys).length = min xs.length ys.length + 1 := by simp [Nat.succ_min_succ]
          rw [hm, List.range_succ_eq_map, List.all_cons, List.all_map, h1]
          have : ej f (x :: xs) (y :: ys) 0 = a := by simp [ej, e1]
          rw [this]
          rfl
        · cases j with
          | zero => simp at q1 q2; subst q1 q2; exact ⟨a, e1⟩
          | succ j => exact h2 j d e (by simpa using q1) (by simpa using q2)
/-- what stands at an address, by the heap -/
theorem hok_list {P : Program} {w : World} {H : Hp} {h : Heap} {a : Addr} {vs : List V} (o : HOk P w H h) (e : H a = some (.lst vs)) : ∃ its : List Value, Vals vs its ∧ h.IsList a its.toArray := by
  obtain ⟨_, its, n, r, q⟩ := o a _ e
  exact ⟨its, r, _, q, rfl, n, rfl⟩
theorem hok_tup {P : Program} {w : World} {H : Hp} {h : Heap} {a : Addr} {vs : List V} (o : HOk P w H h) (e : H a = some (.tup vs)) : ∃ its : List Value, Vals vs its ∧ h.IsTuple a its.toArray := by
  obtain ⟨_, its, r, q⟩ := o a _ e
  exact ⟨its, r, q⟩
theorem val_at {vs : List V} {its : List Value} {j : Nat} (r : Vals vs its) (h : j < its.toArray.size) : ∃ v, vs[j]? = some v ∧ RelV v its.toArray[j] := by
  have h' : j < its.length := by simpa using h
  have hl : j < vs.length := by rw [r.length]; exact h'
  obtain ⟨u, e1, e2⟩ := r.get (List.getElem?_eq_getElem hl)
  refine ⟨vs[j], List.getElem?_eq_getElem hl, ?_⟩
  rw [List.getElem?_eq_getElem h'] at e1
  cases e1
  simpa using e2
theorem eqLs_true {f : D → D → Option Bool} {xs ys : List D} {b : Bool} (h : eqLs f xs ys = some b) (ht : ∀ (j : Nat) d e k, xs[j]? = some d → ys[j]? = some e → f d e = some k → k = true) : b = true := by
  obtain ⟨h1, h2⟩ := eqLs_all h
  rw [h1, List.all_eq_true]
  intro j hj
  have hj' := List.mem_range.mp hj
  have l1 : j < xs.length := by omega
  have l2 : j < ys.length := by omega
  obtain ⟨k, ek⟩ := h2 j _ _ (List.getElem?_eq_getElem l1) (List.getElem?_eq_getElem l2)
  have := ht j _ _ k (List.getElem?_eq_getElem l1) (List.getElem?_eq_getElem l2) ek
  unfold ej
  rw [List.getElem?_eq_getElem l1, List.getElem?_eq_getElem l2]
  simp [ek, this]
theorem eq_same {K : PySem.W.Frag} {c : Cf} {H : Hp} : ∀ (n : Nat) {v : V} {d e : D} {b : Bool}, Rep K c H v d → Rep K c H v e → eqN n d e = some b → b = true
  | n, v, d, e, b, rd, re, q => by
    have items : ∀ {m : Nat} {vs : List V} {ds es : List D} {b' : Bool}, n = m + 1 → Reps K c H vs ds → Reps K c H vs es → eqLs (eqN m) ds es = some b' → b' = true := fun {m vs ds es b'} hm r1 r2 e' =>
      eqLs_true e' fun j d e k q1 q2 ek => by
        obtain ⟨v, g1, g2⟩ := r1.at q1
        exact eq_same m g2 (r2.get g1 q2) ek
    cases rd with
    | non => cases re; cases n <;> cases q <;> rfl
    | bl k => cases re; cases n <;> cases q <;> simp
    | int k => cases re; cases n <;> cases q <;> simp
    | str k => cases re; cases n <;> cases q <;> simp
    | ty k => cases re; cases n <;> cases q
    | lst h1 h2 h3 =>
      cases re with
      | lst g1 g2 g3 =>
        rw [h1] at g1; cases g1
        cases n with
        | zero => cases q
        | succ m =>
          have hl : _ = _ := h3.length.symm.trans g3.length
          have q : (if _ then eqLs (eqN m) _ _ else some false) = some b := q
          rw [if_pos hl] at q
          exact items rfl h3 g3 q
      | tup g1 g2 g3 => rw [h1] at g1; cases g1
      | _ => cases n <;> cases q
    | tup h1 h2 h3 =>
      cases re with
      | tup g1 g2 g3 =>
        rw [h1] at g1; cases g1
        cases n with
        | zero => cases q
        | succ m =>
          have hl : _ = _ := h3.length.symm.trans g3.length
          have q : (eqLs (eqN m) _ _).map (fun b => b && _) = some b := q
          obtain ⟨b', e1, e2⟩ := Option.map_eq_some_iff.mp q
          rw [← e2, items rfl h3 g3 e1, hl]
          simp
      | lst g1 g2 g3 => rw [h1] at g1; cases g1
      | _ => cases n <;> cases q
    | _ => cases re <;> cases n <;> cases q
theorem eqAt_of {P : Program} {w : World} {K : PySem.W.Frag} {c : Cf} {H : Hp} {s : Shared} (hok : HOk P w H s.heap) : ∀ (n : Nat) {A : Around} {x y : V} {u v : Value} {dx dy : D} {b : Bool}, RelV x u → RelV y v → Rep K c H x dx → Rep K c H y dy → eqN n dx dy = some b → A.units + n < cLine →
    RcAt A s u v b ∧ (EqAt A s u v b)
  | n, A, x, y, u, v, dx, dy, b, ru, rv, rx, ry, e, hu => by
    have items : ∀ {m : Nat} {vs ws : List V} {is js : List Value} {ds es : List D} {b' : Bool}, n = m + 1 → Vals vs is → Vals ws js → Reps K c H vs ds → Reps K c H ws es → eqLs (eqN m) ds es = some b' →
        ∀ j (h1 : j < is.toArray.size) (h2 : j < js.toArray.size), EqAt A.in1 s is.toArray[j] js.toArray[j] (ej (eqN m) ds es j) := fun {m vs ws is js ds es b'} hm r1 r2 q1 q2 e' j h1 h2 => by
      obtain ⟨v1, a1, a2⟩ := val_at r1 h1
      obtain ⟨v2, b1, b2⟩ := val_at r2 h2
      obtain ⟨l1, g1⟩ := List.getElem?_eq_some_iff.mp a1
      obtain ⟨l2, g2⟩ := List.getElem?_eq_some_iff.mp b1
      have k1 : ds[j]? = some (ds[j]'(by rw [← q1.length]; exact l1)) := List.getElem?_eq_getElem _
      have k2 : es[j]? = some (es[j]'(by rw [← q2.length]; exact l2)) := List.getElem?_eq_getElem _
      obtain ⟨kk, ek⟩ := (eqLs_all e').2 j _ _ k1 k2
      have : ej (eqN m) ds es j = kk := by unfold ej; rw [k1, k2]; simp [ek]
      rw [this]
      have hu' : A.in1.units + m < cLine := by
        have : A.in1.units = A.units + 1 := by first | rfl | exact Around.units_in1 _ | simp [Around.in1, Around.units]
        omega
      exact (eqAt_of hok m a2 b2 (q1.get a1 k1) (q2.get b1 k2) ek hu').2
    have hu0 : A.units < cLine := by omega
    have conc : ∀ {p q : Addr} {k : Bool}, p ≠ q → RcAt A s (.ref p) (.ref q) k → RcAt A s (.ref p) (.ref q) k ∧ EqAt A s (.ref p) (.ref q) k := fun hn h => ⟨h, EqAt.of_refs hn h⟩
    cases rx with
    | non =>
      cases ru
      cases ry with
      | non => cases rv; cases n <;> cases e <;> exact ⟨RcAt.none_none, EqAt.same _⟩
      | bl k => cases rv; cases n <;> cases e <;> exact ⟨RcAt.none_bool _, EqAt.none_bool _⟩
      | int k => obtain ⟨t, rfl⟩ := rv; cases n <;> cases e <;> exact ⟨RcAt.none_int _ _, EqAt.none_int _ _⟩
      | str k => obtain ⟨t, rfl⟩ := rv; cases n <;> cases e <;> exact ⟨RcAt.none_str _ _, EqAt.none_str _ _⟩
      | lst h1 h2 h3 => cases rv; obtain ⟨its, r, l⟩ := hok_list hok h1; cases n <;> cases e <;> exact ⟨RcAt.none_list l hu0, EqAt.none_list l hu0⟩
      | tup h1 h2 h3 => cases rv; obtain ⟨its, r, l⟩ := hok_tup hok h1; cases n <;> cases e <;> exact ⟨RcAt.none_tuple l hu0, EqAt.none_tuple l hu0⟩
      | _ => cases n <;> cases e
    | bl k' =>
      cases ru
      cases ry with
      | non => cases rv; cases n <;> cases e <;> exact ⟨RcAt.bool_none _, EqAt.bool_none _⟩
      | bl k => cases rv; cases n <;> cases e <;> exact ⟨RcAt.bool_bool _ _, EqAt.bool_bool _ _⟩
      | int k => obtain ⟨t, rfl⟩ := rv; cases n <;> cases e <;> exact ⟨RcAt.bool_int _ _ _, EqAt.bool_int _ _ _⟩
      | str k => obtain ⟨t, rfl⟩ := rv; cases n <;> cases e <;> exact ⟨RcAt.bool_str _ _ _, EqAt.bool_str _ _ _⟩
      | lst h1 h2 h3 => cases rv; obtain ⟨its, r, l⟩ := hok_list hok h1; cases n <;> cases e <;> exact ⟨RcAt.bool_list _ l hu0, EqAt.bool_list _ l hu0⟩
      | tup h1 h2 h3 => cases rv; obtain ⟨its, r, l⟩ := hok_tup hok h1; cases n <;> cases e <;> exact ⟨RcAt.bool_tuple _ l hu0, EqAt.bool_tuple _ l hu0⟩
      | _ => cases n <;> cases e
    | int k' =>
      obtain ⟨t', rfl⟩ := ru
      cases ry with
      | non => cases rv; cases n <;> cases e <;> exact ⟨RcAt.int_none _ _, EqAt.int_none _ _⟩
      | bl k => cases rv; cases n <;> cases e <;> exact ⟨RcAt.int_bool _ _ _, EqAt.int_bool _ _ _⟩
      | int k => obtain ⟨t, rfl⟩ := rv; cases n <;> cases e <;> exact ⟨RcAt.int_int _ _ _ _, EqAt.int_int _ _ _ _⟩
      | str k => obtain ⟨t, rfl⟩ := rv; cases n <;> cases e <;> exact ⟨RcAt.int_str _ _ _ _, EqAt.int_str _ _ _ _⟩
      | lst h1 h2 h3 => cases rv; obtain ⟨its, r, l⟩ := hok_list hok h1; cases n <;> cases e <;> exact ⟨RcAt.int_list _ _ l hu0, EqAt.int_list _ _ l hu0⟩
      | tup h1 h2 h3 => cases rv; obtain ⟨its, r, l⟩ := hok_tup hok h1; cases n <;> cases e <;> exact ⟨RcAt.int_tuple _ _ l hu0, EqAt.int_tuple _ _ l hu0⟩
      | _ => cases n <;> cases e
    | str k' =>
      obtain ⟨t', rfl⟩ := ru
      cases ry with
      | non => cases rv; cases n <;> cases e <;> exact ⟨RcAt.str_none _ _, EqAt.str_none _ _⟩
      | bl k => cases rv; cases n <;> cases e <;> exact ⟨RcAt.str_bool _ _ _, EqAt.str_bool _ _ _⟩
      | int k => obtain ⟨t, rfl⟩ := rv; cases n <;> cases e <;> exact ⟨RcAt.str_int _ _ _ _, EqAt.str_int _ _ _ _⟩
      | str k => obtain ⟨t, rfl⟩ := rv; cases n <;> cases e <;> exact ⟨RcAt.str_str _ _ _ _, EqAt.str_str _ _ _ _⟩
      | lst h1 h2 h3 => cases rv; obtain ⟨its, r, l⟩ := hok_list hok h1; cases n <;> cases e <;> exact ⟨RcAt.str_list _ _ l hu0, EqAt.str_list _ _ l hu0⟩
      | tup h1 h2 h3 => cases rv; obtain ⟨its, r, l⟩ := hok_tup hok h1; cases n <;> cases e <;> exact ⟨RcAt.str_tuple _ _ l hu0, EqAt.str_tuple _ _ l hu0⟩
      | _ => cases n <;> cases e
    | @lst p vs ds g1 g2 g3 =>
      cases ru
      obtain ⟨is, r1, l1⟩ := hok_list hok g1
      cases ry with
      | non => cases rv; cases n <;> cases e <;> exact ⟨RcAt.list_none l1 hu0, EqAt.list_none l1 hu0⟩
      | bl k => cases rv; cases n <;> cases e <;> exact ⟨RcAt.list_bool _ l1 hu0, EqAt.list_bool _ l1 hu0⟩
      | int k => obtain ⟨t, rfl⟩ := rv; cases n <;> cases e <;> exact ⟨RcAt.list_int _ _ l1 hu0, EqAt.list_int _ _ l1 hu0⟩
      | str k => obtain ⟨t, rfl⟩ := rv; cases n <;> cases e <;> exact ⟨RcAt.list_str _ _ l1 hu0, EqAt.list_str _ _ l1 hu0⟩
      | @tup q ws es h1 h2 h3 => cases rv; obtain ⟨js, r2, l2⟩ := hok_tup hok h1; cases n <;> cases e <;> exact ⟨RcAt.list_tuple l1 l2 hu0, EqAt.list_tuple l1 l2 hu0⟩
      | @lst q ws es h1 h2 h3 =>
        cases rv
        obtain ⟨js, r2, l2⟩ := hok_list hok h1
        cases n with
        | zero => cases e
        | succ m =>
          have hs1 : is.toArray.size = ds.length := by rw [← g3.length, r1.length]; simp
          have hs2 : js.toArray.size = es.length := by rw [← h3.length, r2.length]; simp
          have e : (if ds.length = es.length then eqLs (eqN m) ds es else some false) = some b := e
          by_cases hl : ds.length = es.length
          · rw [if_pos hl] at e
            have hsz : is.toArray.size = js.toArray.size := by rw [hs1, hs2, hl]
            have rc := RcAt.lists l1 l2 hsz hu0 (items rfl r1 r2 g3 h3 e)
            have eb : (List.range is.toArray.size).all (ej (eqN m) ds es) = b := by rw [(eqLs_all e).1, hs1, ← hl, Nat.min_self]
            rw [eb] at rc
            by_cases hpq : p = q
            · refine ⟨rc, ?_⟩
              subst hpq
              have := eq_same (m + 1) (Rep.lst g1 g2 g3) (Rep.lst h1 h2 h3) (by show (if ds.length = es.length then eqLs (eqN m) ds es else some false) = some b; rw [if_pos hl]; exact e)
              rw [this]
              exact EqAt.same _
            · exact conc hpq rc
          · rw [if_neg hl] at e
            cases e
            have hsz : (is.toArray.size != js.toArray.size) = true := by rw [hs1, hs2]; simpa using hl
            refine conc (fun z => hl ?_) (RcAt.lists_lengths l1 l2 hsz hu0)
            subst z
            rw [g1] at h1; cases h1
            rw [← g3.length, ← h3.length]
      | _ => cases n <;> cases e
    | @tup p vs ds g1 g2 g3 =>
      cases ru
      obtain ⟨is, r1, l1⟩ := hok_tup hok g1
      cases ry with
      | non => cases rv; cases n <;> cases e <;> exact ⟨RcAt.tuple_none l1 hu0, EqAt.tuple_none l1 hu0⟩
      | bl k => cases rv; cases n <;> cases e <;> exact ⟨RcAt.tuple_bool _ l1 hu0, EqAt.tuple_bool _ l1 hu0⟩
      | int k => obtain ⟨t, rfl⟩ := rv; cases n <;> cases e <;> exact ⟨RcAt.tuple_int _ _ l1 hu0, EqAt.tuple_int _ _ l1 hu0⟩
      | str k => obtain ⟨t, rfl⟩ := rv; cases n <;> cases e <;> exact ⟨RcAt.tuple_str _ _ l1 hu0, EqAt.tuple_str _ _ l1 hu0⟩
      | @lst q ws es h1 h2 h3 => cases rv; obtain ⟨js, r2, l2⟩ := hok_list hok h1; cases n <;> cases e <;> exact ⟨RcAt.tuple_list l1 l2 hu0, EqAt.tuple_list l1 l2 hu0⟩
      | @tup q ws es h1 h2 h3 =>
        cases rv
        obtain ⟨js, r2, l2⟩ := hok_tup hok h1
        cases n with
        | zero => cases e
        | succ m =>
          have hs1 : is.toArray.size = ds.length := by rw [← g3.length, r1.length]; simp
          have hs2 : js.toArray.size = es.length := by rw [← h3.length, r2.length]; simp
          have e0 := e
          have e : (eqLs (eqN m) ds es).map (fun b => b && ds.length == es.length) = some b := e
          obtain ⟨b', e1, e2⟩ := Option.map_eq_some_iff.mp e
          have rc := RcAt.tuples l1 l2 hu0 (items rfl r1 r2 g3 h3 e1)
          have eb : ((List.range (min is.toArray.size js.toArray.size)).all (ej (eqN m) ds es) && is.toArray.size == js.toArray.size) = b := by rw [hs1, hs2, ← (eqLs_all e1).1]; exact e2
          rw [eb] at rc
          by_cases hpq : p = q
          · refine ⟨rc, ?_⟩
            subst hpq
            have := eq_same (m + 1) (Rep.tup g1 g2 g3) (Rep.tup h1 h2 h3) e0
            rw [this]
            exact EqAt.same _
          · exact conc hpq rc
      | _ => cases n <;> cases e
    | _ => cases ry <;> cases n <;> cases e
/-- the same of != -/
theorem neAt_of {P : Program} {w : World} {K : PySem.W.Frag} {c : Cf} {H : Hp} {s : Shared} (hok : HOk P w H s.heap) (n : Nat) {A : Around} {x y : V} {u v : Value} {dx dy : D} {b : Bool} (ru : RelV x u) (rv : RelV y v) (rx : Rep K c H x dx) (ry : Rep K c H y dy) (e : eqN n dx dy = some b) (hu : A.units + n < cLine) :
    RcNeAt A s u v (!b) := by
    have items : ∀ {m : Nat} {vs ws : List V} {is js : List Value} {ds es : List D} {b' : Bool}, n = m + 1 → Vals vs is → Vals ws js → Reps K c H vs ds → Reps K c H ws es → eqLs (eqN m) ds es = some b' →
        ∀ j (h1 : j < is.toArray.size) (h2 : j < js.toArray.size), EqAt A.in1 s is.toArray[j] js.toArray[j] (ej (eqN m) ds es j) := fun {m vs ws is js ds es b'} hm r1 r2 q1 q2 e' j h1 h2 => by
      obtain ⟨v1, a1, a2⟩ := val_at r1 h1
      obtain ⟨v2, b1, b2⟩ := val_at r2 h2
      obtain ⟨l1, g1⟩ := List.getElem?_eq_some_iff.mp a1
      obtain ⟨l2, g2⟩ := List.getElem?_eq_some_iff.mp b1
      have k1 : ds[j]? = some (ds[j]'(by rw [← q1.length]; exact l1)) := List.getElem?_eq_getElem _
      have k2 : es[j]? = some (es[j]'(by rw [← q2.length]; exact l2)) := List.getElem?_eq_getElem _
      obtain ⟨kk, ek⟩ := (eqLs_all e').2 j _ _ k1 k2
      have : ej (eqN m) ds es j = kk := by unfold ej; rw [k1, k2]; simp [ek]
      rw [this]
      have hu' : A.in1.units + m < cLine := by
        have : A.in1.units = A.units + 1 := rfl
        omega
      exact (eqAt_of hok m a2 b2 (q1.get a1 k1) (q2.get b1 k2) ek hu').2
    have hu0 : A.units < cLine := by omega
    cases rx with
    | non =>
      cases ru
      cases ry with
      | non => cases rv; cases n <;> cases e <;> exact RcNeAt.none_none
      | bl k => cases rv; cases n <;> cases e <;> exact RcNeAt.none_bool _
      | int k => obtain ⟨t, rfl⟩ := rv; cases n <;> cases e <;> exact RcNeAt.none_int _ _
      | str k => obtain ⟨t, rfl⟩ := rv; cases n <;> cases e <;> exact RcNeAt.none_str _ _
      | lst h1 h2 h3 => cases rv; obtain ⟨its, r, l⟩ := hok_list hok h1; cases n <;> cases e <;> exact RcNeAt.none_list l hu0
      | tup h1 h2 h3 => cases rv; obtain ⟨its, r, l⟩ := hok_tup hok h1; cases n <;> cases e <;> exact RcNeAt.none_tuple l hu0
      | _ => cases n <;> cases e
    | bl k' =>
      cases ru
      cases ry with
      | non => cases rv; cases n <;> cases e <;> exact RcNeAt.bool_none _
      | bl k => cases rv; cases n <;> cases e <;> exact RcNeAt.bool_bool _ _
      | int k => obtain ⟨t, rfl⟩ := rv; cases n <;> cases e <;> exact RcNeAt.bool_int _ _ _
      | str k => obtain ⟨t, rfl⟩ := rv; cases n <;> cases e <;> exact RcNeAt.bool_str _ _ _
      | lst h1 h2 h3 => cases rv; obtain ⟨its, r, l⟩ := hok_list hok h1; cases n <;> cases e <;> exact RcNeAt.bool_list _ l hu0
      | tup h1 h2 h3 => cases rv; obtain ⟨its, r, l⟩ := hok_tup hok h1; cases n <;> cases e <;> exact RcNeAt.bool_tuple _ l hu0
      | _ => cases n <;> cases e
    | int k' =>
      obtain ⟨t', rfl⟩ := ru
      cases ry with
      | non => cases rv; cases n <;> cases e <;> exact RcNeAt.int_none _ _
      | bl k => cases rv; cases n <;> cases e <;> exact RcNeAt.int_bool _ _ _
      | int k => obtain ⟨t, rfl⟩ := rv; cases n <;> cases e <;> exact RcNeAt.int_int _ _ _ _
      | str k => obtain ⟨t, rfl⟩ := rv; cases n <;> cases e <;> exact RcNeAt.int_str _ _ _ _
      | lst h1 h2 h3 => cases rv; obtain ⟨its, r, l⟩ := hok_list hok h1; cases n <;> cases e <;> exact RcNeAt.int_list _ _ l hu0
      | tup h1 h2 h3 => cases rv; obtain ⟨its, r, l⟩ := hok_tup hok h1; cases n <;> cases e <;> exact RcNeAt.int_tuple _ _ l hu0
      | _ => cases n <;> cases e
    | str k' =>
      obtain ⟨t', rfl⟩ := ru
      cases ry with
      | non => cases rv; cases n <;> cases e <;> exact RcNeAt.str_none _ _
      | bl k => cases rv; cases n <;> cases e <;> exact RcNeAt.str_bool _ _ _
      | int k => obtain ⟨t, rfl⟩ := rv; cases n <;> cases e <;> exact RcNeAt.str_int _ _ _ _
      | str k => obtain ⟨t, rfl⟩ := rv; cases n <;> cases e <;> exact RcNeAt.str_str _ _ _ _
      | lst h1 h2 h3 => cases rv; obtain ⟨its, r, l⟩ := hok_list hok h1; cases n <;> cases e <;> exact RcNeAt.str_list _ _ l hu0
      | tup h1 h2 h3 => cases rv; obtain ⟨its, r, l⟩ := hok_tup hok h1; cases n <;> cases e <;> exact RcNeAt.str_tuple _ _ l hu0
      | _ => cases n <;> cases e
    | @lst p vs ds g1 g2 g3 =>
      cases ru
      obtain ⟨is, r1, l1⟩ := hok_list hok g1
      cases ry with
      | non => cases rv; cases n <;> cases e <;> exact RcNeAt.list_none l1 hu0
      | bl k => cases rv; cases n <;> cases e <;> exact RcNeAt.list_bool _ l1 hu0
      | int k => obtain ⟨t, rfl⟩ := rv; cases n <;> cases e <;> exact RcNeAt.list_int _ _ l1 hu0
      | str k => obtain ⟨t, rfl⟩ := rv; cases n <;> cases e <;> exact RcNeAt.list_str _ _ l1 hu0
      | @tup q ws es h1 h2 h3 => cases rv; obtain ⟨js, r2, l2⟩ := hok_tup hok h1; cases n <;> cases e <;> exact RcNeAt.list_tuple l1 l2 hu0
      | @lst q ws es h1 h2 h3 =>
        cases rv
        obtain ⟨js, r2, l2⟩ := hok_list hok h1
        cases n with
        | zero => cases e
        | succ m =>
          have hs1 : is.toArray.size = ds.length := by rw [← g3.length, r1.length]; simp
          have hs2 : js.toArray.size = es.length := by rw [← h3.length, r2.length]; simp
          have e : (if ds.length = es.length then eqLs (eqN m) ds es else some false) = some b := e
          by_cases hl : ds.length = es.length
          · rw [if_pos hl] at e
            have hsz : is.toArray.size = js.toArray.size := by rw [hs1, hs2, hl]
            have rc := RcNeAt.lists l1 l2 hsz hu0 (items rfl r1 r2 g3 h3 e)
            have eb : (List.range is.toArray.size).all (ej (eqN m) ds es) = b := by rw [(eqLs_all e).1, hs1, ← hl, Nat.min_self]
            rw [eb] at rc
            exact rc
          · rw [if_neg hl] at e
            cases e
            exact RcNeAt.lists_lengths l1 l2 (by rw [hs1, hs2]; simpa using hl) hu0
      | _ => cases n <;> cases e
    | @tup p vs ds g1 g2 g3 =>
      cases ru
      obtain ⟨is, r1, l1⟩ := hok_tup hok g1
      cases ry with
      | non => cases rv; cases n <;> cases e <;> exact RcNeAt.tuple_none l1 hu0
      | bl k => cases rv; cases n <;> cases e <;> exact RcNeAt.tuple_bool _ l1 hu0
      | int k => obtain ⟨t, rfl⟩ := rv; cases n <;> cases e <;> exact RcNeAt.tuple_int _ _ l1 hu0
      | str k => obtain ⟨t, rfl⟩ := rv; cases n <;> cases e <;> exact RcNeAt.tuple_str _ _ l1 hu0
      | @lst q ws es h1 h2 h3 => cases rv; obtain ⟨js, r2, l2⟩ := hok_list hok h1; cases n <;> cases e <;> exact RcNeAt.tuple_list l1 l2 hu0
      | @tup q ws es h1 h2 h3 =>
        cases rv
        obtain ⟨js, r2, l2⟩ := hok_tup hok h1
        cases n with
        | zero => cases e
        | succ m =>
          have hs1 : is.toArray.size = ds.length := by rw [← g3.length, r1.length]; simp
          have hs2 : js.toArray.size = es.length := by rw [← h3.length, r2.length]; simp
          have e : (eqLs (eqN m) ds es).map (fun b => b && ds.length == es.length) = some b := e
          obtain ⟨b', e1, e2⟩ := Option.map_eq_some_iff.mp e
          have rc := RcNeAt.tuples l1 l2 hu0 (items rfl r1 r2 g3 h3 e1)
          have eb : ((List.range (min is.toArray.size js.toArray.size)).all (ej (eqN m) ds es) && is.toArray.size == js.toArray.size) = b := by rw [hs1, hs2, ← (eqLs_all e1).1]; exact e2
          rw [eb] at rc
          exact rc
      | _ => cases n <;> cases e
    | _ => cases ry <;> cases n <;> cases e
/-- as deep as a comparison goes here -/
noncomputable def EQD : Nat := 40
noncomputable def neD (x y : D) : M D := fun t => (eqN EQD x y).map fun b => (.bl (!b), t)
noncomputable def rEqD (K : PySem.W.Frag) (g : Bool → Bool) : R2 := fun x y H Q => ∃ c dx dy b, Rep K c H x dx ∧ Rep K c H y dy ∧ eqN EQD dx dy = some b ∧ Q (.bl (g b)) H
theorem op_eqD {X : Cx} (hu : X.A.units + 64 < cLine) : OpR X (compareOp .Eq) (rEqD X.K id) := by
  intro pins s σ H x y v u Q I rx ry h
  obtain ⟨c, dx, dy, b, q1, q2, e, q⟩ := h
  have hu' : X.A.units + EQD < cLine := by unfold EQD; omega
  exact (eqAt_of I.hok EQD rx ry q1 q2 e hu').1 X.prog X.w _ _ ⟨.bl b, H, I, rfl, q⟩
theorem op_neD {X : Cx} (hu : X.A.units + 64 < cLine) : OpR X (compareOp .NotEq) (rEqD X.K (!·)) := by
  intro pins s σ H x y v u Q I rx ry h
  obtain ⟨c, dx, dy, b, q1, q2, e, q⟩ := h
  have hu' : X.A.units + EQD < cLine := by unfold EQD; omega
  exact neAt_of I.hok EQD rx ry q1 q2 e hu' X.prog X.w _ _ ⟨.bl (!b), H, I, rfl, q⟩
end F2

set_option Elab.async false
set_option linter.all false
set_option maxRecDepth 100000
set_option maxHeartbeats 4000000
set_option autoImplicit false
namespace F2
open PySem L2 PySem.Spec

section
variable {K : PySem.W.Frag}
/-! ### ints -/
noncomputable def i2 (g : Int → Int → D) : D → D → M D
  | .int i, .int j => ret (g i j)
  | _, _ => fail
noncomputable def i2C (C : Int → Int → Bool) (g : Int → Int → D) : D → D → M D
  | .int i, .int j => fun t => if C i j = true then some (g i j, t) else none
  | _, _ => fail
theorem i2C_inv {C : Int → Int → Bool} {g : Int → Int → D} {x y : D} {t : T} {z : D × T} (h : i2C C g x y t = some z) : ∃ i j, x = .int i ∧ y = .int j ∧ C i j = true ∧ z = (g i j, t) := by
  cases x with
  | int i => cases y with
    | int j =>
      unfold i2C at h
      dsimp only at h
      by_cases hc : C i j = true
      · rw [if_pos hc] at h; cases h; exact ⟨i, j, rfl, rfl, hc, rfl⟩
      · rw [if_neg hc] at h; cases h
    | _ => cases h
  | _ => cases h
theorem sem_i2C {P : Int → Int → Prop} {C : Int → Int → Bool} {gV : Int → Int → V} {g : Int → Int → D} (hP : ∀ i j, C i j = true → P i j) (hr : ∀ i j c H, Rep K c H (gV i j) (g i j)) : Sem2 K (rI P gV) (i2C C g) := fun {Oo c t σ H x y dx dy r t' Q} f rx ry eq k => by
  obtain ⟨i, j, rfl, rfl, hc, z⟩ := i2C_inv eq
  cases z
  cases rx
  cases ry
  exact ⟨i, j, rfl, rfl, hP i j hc, k _ H c f .refl (hr i j c H)⟩
theorem Sem2.or {R R' : R2} {h h1 h2 : D → D → M D} (s1 : Sem2 K R h1) (s2 : Sem2 K R' h2) (he : ∀ x y, h x y = h1 x y ∨ h x y = h2 x y) : Sem2 K (fun x y H Q => R x y H Q ∨ R' x y H Q) h := fun {Oo c t σ H x y dx dy r t' Q} f rx ry eq k => by
  rcases he dx dy with z | z
  · rw [z] at eq; exact .inl (s1 f rx ry eq k)
  · rw [z] at eq; exact .inr (s2 f rx ry eq k)

noncomputable def subD := i2 fun i j => .int (i - j)
noncomputable def divOk (_ j : Int) : Bool := decide (0 < j) && decide (j < 1073741824)
noncomputable def fdivD := i2C divOk fun i j => .int (i / j)
noncomputable def modD := i2C (fun _ j => decide (0 < j)) fun i j => .int (i % j)
noncomputable def powOk (i j : Int) : Bool := decide (0 ≤ j) && decide (j ≤ 1000000) && decide (i.natAbs < 2 ^ 64)
noncomputable def powD := i2C powOk fun i j => .int (i ^ j.toNat)
noncomputable def mulOk (i j : Int) : Bool := (decide (-(2 ^ 64) < i) && decide (i < 2 ^ 64)) || (decide (-(2 ^ 64) < j) && decide (j < 2 ^ 64))
theorem sem_fdiv : Sem2 K (rI CDiv fun i j => .int (i / j)) fdivD := sem_i2C (fun i j h => by
  unfold divOk at h; rw [Bool.and_eq_true] at h; exact ⟨of_decide_eq_true h.1, of_decide_eq_true h.2⟩) fun i j _ _ => .int _
theorem sem_mod : Sem2 K (rI (fun _ j => 0 < j) fun i j => .int (i % j)) modD := sem_i2C (fun i j h => of_decide_eq_true h) fun i j _ _ => .int _
theorem mulOk_iff {i j : Int} (h : mulOk i j = true) : CMul i j := by
  unfold mulOk at h
  rw [Bool.or_eq_true, Bool.and_eq_true, Bool.and_eq_true] at h
  rcases h with h | h
  · exact .inl ⟨of_decide_eq_true h.1, of_decide_eq_true h.2⟩
  · exact .inr ⟨of_decide_eq_true h.1, of_decide_eq_true h.2⟩
noncomputable def negD : D → M D
  | .int i => ret (.int (-i))
  | _ => fail
/-! ### + -/
noncomputable def addD : D → D → M D
  | .int i, .int j => ret (.int (i + j))
  | .str x, .str y => lim (x.length + y.length) (.str (x ++ y))
  | .lst xs, .lst ys => lim (xs.length + ys.length) (.lst (xs ++ ys))
  | .tup xs, .tup ys => fun t => if xs.isEmpty = false ∧ xs.length + ys.length ≤ LIM then some (.tup (xs ++ ys), t) else none
  | _, _ => fail
noncomputable def rStrAdd : R2 := fun x y H Q => ∃ i j, x = .str i ∧ y = .str j ∧ i.length + j.length ≤ sizeLine ∧ Q (.str (i ++ j)) H
noncomputable def rAdd4 (K : PySem.W.Frag) : R2 := fun x y H Q => rI0 (fun i j => .int (i + j)) x y H Q ∨ (rStrAdd x y H Q ∨ (rCat x y H Q ∨ rCatT K x y H Q))
theorem op_add4 {X : Cx} : OpR X (binaryOp .Add) (rAdd4 X.K) := op_add.or (op_add_str.or (op_cat.or op_catT))
theorem sem_add : Sem2 K (rAdd4 K) addD := fun {Oo c t σ H x y dx dy r t' Q} f rx ry eq k => by
  cases rx with
  | int i =>
    cases ry with
    | int j => cases eq; exact .inl ⟨i, j, rfl, rfl, k _ H c f .refl (.int _)⟩
    | _ => cases eq
  | str i =>
    cases ry with
    | str j =>
      obtain ⟨h, z⟩ := lim_some eq
      cases z
      exact .inr (.inl ⟨i, j, rfl, rfl, Nat.le_trans h LIM_le, k _ H c f .refl (.str _)⟩)
    | _ => cases eq
  | @lst a vs ds h1 h2 h3 =>
    cases ry with
    | @lst b ws es g1 g2 g3 =>
      obtain ⟨h, z⟩ := lim_some eq
      cases z
      refine .inr (.inr (.inl ⟨a, b, vs, ws, rfl, rfl, h1, g1, ?_, fun p hp => ?_⟩))
      · rw [h3.length, g3.length]; exact Nat.le_trans h LIM_le
      · exact k _ _ c (f.laid hp) (f.stp_laid hp) (.lst upd_same (f.s.free hp) ((h3.append g3).mono (Ext.laid f.s hp)))
    | _ => cases eq
  | @tup a vs ds h1 h2 h3 =>
    cases ry with
    | @tup b ws es g1 g2 g3 =>
      unfold addD at eq
      dsimp only at eq
      split at eq
      · next h =>
        cases eq
        have hne : vs ≠ [] := fun z => by
          have := h3.length
          rw [z] at this
          have h0 : ds.length = 0 := this.symm
          have : ds = [] := List.length_eq_zero_iff.mp h0
          rw [this] at h
          simp at h
        refine .inr (.inr (.inr ⟨a, b, vs, ws, rfl, rfl, SqT.of h1, SqT.of g1, hne, ?_, fun z => ?_, fun z p hp => ?_⟩))
        · rw [h3.length, g3.length]; exact Nat.le_trans h.2 LIM_le
        · subst z
          have : es = [] := List.length_eq_zero_iff.mp g3.length.symm
          subst this
          rw [List.append_nil] at k
          exact k _ H c f .refl (.tup h1 h2 h3)
        · exact k _ _ c (f.laid hp) (f.stp_laid hp) (.tup upd_same (f.s.free hp) ((h3.append g3).mono (Ext.laid f.s hp)))
      · cases eq
    | _ => cases eq
  | _ => cases eq
/-- a list and a list, for a name of its own -/
noncomputable def catF : D → D → M (List D)
  | .lst xs, .lst ys => lim (xs.length + ys.length) (xs ++ ys)
  | _, _ => fail
/-! ### is -/
noncomputable def isC : D → D → M D
  | x, .non => fun t => some (.bl (match x with | .non => true | _ => false), t)
  | x, .bl b => fun t => some (.bl (match x with | .bl c => c == b | _ => false), t)
  | _, _ => fail
noncomputable def isNotC (x y : D) : M D := bnd (isC x y) fun d => match d with | .bl b => ret (.bl (!b)) | _ => fail
/-! ### in -/
/-! ### o[i] -/
noncomputable def ixD : D → D → M D
  | .lst ds, .int i => fun t => (atI ds i).map fun d => (d, t)
  | .tup ds, .int i => fun t => (atI ds i).map fun d => (d, t)
  | .scr ns, .int i => fun t => (atI ns i).map fun n => (.int n, t)
  | .str x, .int i => fun t => if x.length ≤ LIM then (atI x.cps.toList i).map fun n => (.str ⟨#[n]⟩, t) else none
  | .obj k, .int i => fun t => match t.S[k]? with
    | some (.lst ds) => (atI ds i).map fun d => (d, t)
    | _ => none
  | _, _ => fail
theorem atI_reps {c : Cf} {H : Hp} {vs : List V} {ds : List D} {i : Int} {d : D} (r : Reps K c H vs ds) (h : atI ds i = some d) : ∃ v, atI vs i = some v ∧ Rep K c H v d := by
  unfold atI at h ⊢
  obtain ⟨j, h1, h2⟩ := Option.bind_eq_some_iff.mp h
  obtain ⟨v, h3, h4⟩ := r.at h2
  exact ⟨v, by rw [r.length, h1]; exact h3, h4⟩
theorem atI_map {α β : Type} (g : α → β) (xs : List α) (i : Int) : atI (xs.map g) i = (atI xs i).map g := by
  unfold atI
  rw [List.length_map]
  cases ixN xs.length i with
  | none => rfl
  | some j => simp
theorem sem_ix : Sem2 K (rIx K) ixD := fun {Oo c t σ H x y dx dy r t' Q} f rx ry eq k => by
  cases ry with
  | int i =>
    cases rx with
    | @lst a vs ds h1 h2 h3 =>
      obtain ⟨d, e1, e2⟩ := Option.map_eq_some_iff.mp eq
      cases e2
      obtain ⟨v, e3, e4⟩ := atI_reps h3 e1
      exact .inl ⟨a, vs, i, v, rfl, rfl, SqL.of h1, e3, k _ H c f .refl e4⟩
    | @tup a vs ds h1 h2 h3 =>
      obtain ⟨d, e1, e2⟩ := Option.map_eq_some_iff.mp eq
      cases e2
      obtain ⟨v, e3, e4⟩ := atI_reps h3 e1
      exact .inr (.inl ⟨a, vs, i, v, rfl, rfl, SqT.of h1, e3, k _ H c f .refl e4⟩)
    | @scr a ns h1 =>
      obtain ⟨n, e1, e2⟩ := Option.map_eq_some_iff.mp eq
      cases e2
      exact .inl ⟨a, _, i, .int n, rfl, rfl, h1.sq, by rw [atI_map, e1]; rfl, k _ H c f .refl (.int n)⟩
    | str z =>
      unfold ixD at eq
      dsimp only at eq
      split at eq
      · next hl =>
        obtain ⟨n, e1, e2⟩ := Option.map_eq_some_iff.mp eq
        cases e2
        exact .inr (.inr ⟨z, i, n, rfl, rfl, Nat.le_trans hl LIM_le, e1, k _ H c f .refl (.str _)⟩)
      · cases eq
    | @obj a kk h1 =>
      unfold ixD at eq
      dsimp only at eq
      cases es : t.S[kk]? with
      | none => rw [es] at eq; cases eq
      | some o =>
        rw [es] at eq
        cases o with
        | dct _ => cases eq
        | lst ds =>
          obtain ⟨d, e1, e2⟩ := Option.map_eq_some_iff.mp eq
          cases e2
          obtain ⟨vs, g1, g2⟩ := f.s.obs kk a _ h1 es
          obtain ⟨v, e3, e4⟩ := atI_reps g2 e1
          exact .inl ⟨a, vs, i, v, rfl, rfl, SqL.of g1, e3, k _ H c f .refl e4⟩
    | _ => cases eq
  | _ => cases rx <;> cases eq
end
end F2

set_option Elab.async false
set_option linter.all false
set_option maxRecDepth 100000
set_option maxHeartbeats 4000000
set_option autoImplicit false
namespace F2
open PySem L2 PySem.Spec

section
variable {X : Cx} {e a b : Expr} {es : List Expr} {pos : Pos}
/-! ### slices -/
noncomputable def fNo : M (Option Int) := ret none
noncomputable def asI : D → M (Option Int)
  | .int i => ret (some i)
  | _ => fail
noncomputable def fPart (f : M D) : M (Option Int) := bnd f asI
noncomputable def fSl (f : M D) (l u : M (Option Int)) (h : D → Option Int → Option Int → M D) : M D := bnd f fun x => bnd l fun lo => bnd u fun hi => h x lo hi
noncomputable def cutD {α : Type} (xs : List α) (lo hi : Option Int) : List α := (xs.drop (HT.sIx xs.length 0 lo)).take (HT.sIx xs.length xs.length hi - HT.sIx xs.length 0 lo)
noncomputable def slD : D → Option Int → Option Int → M D
  | .lst ds, lo, hi => ret (.lst (cutD ds lo hi))
  | .scr ns, lo, hi => ret (.lst ((cutD ns lo hi).map .int))
  | .tup ds, lo, hi => fun t => if HT.sIx ds.length 0 lo = 0 ∧ HT.sIx ds.length ds.length hi = ds.length then none else some (.tup (cutD ds lo hi), t)
  | _, _, _ => fail
/-! ### built-in functions -/
theorem fe_B {id : String} {R : List V → Hp → VK → Prop} {h : List D → M D} {f : M (List D)} {x : Str} {p : Pos} (hc : CallR X (.builtin id) R) (s : SemN X.K R h) (hg : Gl X x) (hm : X.mg x = none) (hv : bootBuiltins x = some (.builtin id)) (ha : PA X (e :: es) (RA X.K f)) (hn : x ≠ "__name__" := by decide) (hdb : (x == ("__debug__" : Str)) = false := by decide)
    (he : starEach (e :: es) X.env = (false, eval e X.env) :: starEach es X.env := by rfl) (hpl : (backTo pos (starEach es X.env)).any (·.1) = false := by rfl) : PE X (.Call (.Name x p) (e :: es) [] pos) (RE X.K (fB f h)) :=
  PE_imp (pe_callB hc hg hm hv ha hn hdb he hpl) fun _ _ _ q => RE.callB s q
theorem ff_T {id : String} {R : List V → Hp → VK → Prop} {h : List D → M (List D)} {f : M (List D)} {x : Str} {p : Pos} (hc : CallR X (.type id) R) (s : SemNF X.K R h) (hg : Gl X x) (hm : X.mg x = none) (hv : bootBuiltins x = some (.type id)) (ha : PA X (e :: es) (RA X.K f)) (hn : x ≠ "__name__" := by decide) (hdb : (x == ("__debug__" : Str)) = false := by decide)
    (he : starEach (e :: es) X.env = (false, eval e X.env) :: starEach es X.env := by rfl) (hpl : (backTo pos (starEach es X.env)).any (·.1) = false := by rfl) : PE X (.Call (.Name x p) (e :: es) [] pos) (RF X.K (fBF f h)) :=
  PE_imp (pe_callTy hc hg hm hv ha hn hdb he hpl) fun _ _ _ q => RF.callB s q
theorem ff_op {op : Operator} {R : R2} {f g : M D} {h : D → D → M (List D)} (ho : OpR X (binaryOp op) R) (s : Sem2F X.K R h) (ha : PE X a (RE X.K f)) (hb : PE X b (RE X.K g)) : PE X (.BinOp a op b pos) (RF X.K (bnd f fun x => bnd g fun y => h x y)) :=
  PE_imp (pe_op ho ha hb) fun _ _ _ q => RF.two s q
end

section
variable {K : PySem.W.Frag}
theorem reps1 {c : Cf} {H : Hp} {xs : List V} {d : D} (r : Reps K c H xs [d]) : ∃ v, xs = [v] ∧ Rep K c H v d := by
  cases r with
  | cons r rs => cases rs; exact ⟨_, rfl, r⟩
noncomputable def lenD : List D → M D
  | [.lst ds] => ret (.int ds.length)
  | [.tup ds] => ret (.int ds.length)
  | [.scr ns] => ret (.int ns.length)
  | [.str x] => lim x.length (.int x.length)
  | [.obj k] => fun t => match t.S[k]? with
    | some (.lst ds) => some (.int ds.length, t)
    | _ => none
  | _ => fail
theorem sem_len : SemN K (fun xs H Q => ∃ x n, xs = [x] ∧ LenV K x H n ∧ Q (.int n) H) lenD := fun {Oo c t σ H xs ds r t' Q} f rx eq k => by
  match ds, rx, eq with
  | [], _, eq => cases eq
  | d0 :: _ :: _, _, eq => cases d0 <;> cases eq
  | [d], rx, eq =>
    obtain ⟨v, rfl, rv⟩ := reps1 rx
    cases rv with
    | @lst a vs ds h1 h2 h3 => cases eq; exact ⟨_, ds.length, rfl, .inl ⟨vs, SqL.of h1, h3.length.symm⟩, k _ H c f .refl (.int _)⟩
    | @tup a vs ds h1 h2 h3 => cases eq; exact ⟨_, ds.length, rfl, .inr ⟨vs, SqT.of h1, h3.length.symm⟩, k _ H c f .refl (.int _)⟩
    | @scr a ns h1 => cases eq; exact ⟨_, ns.length, rfl, .inl ⟨_, h1.sq, by simp⟩, k _ H c f .refl (.int _)⟩
    | str x =>
      obtain ⟨hl, z⟩ := lim_some eq
      cases z
      exact ⟨_, x.length, rfl, ⟨Nat.le_trans hl LIM_le, rfl⟩, k _ H c f .refl (.int _)⟩
    | @obj a kk h1 =>
      unfold lenD at eq
      dsimp only at eq
      cases es : t.S[kk]? with
      | none => rw [es] at eq; cases eq
      | some o =>
        rw [es] at eq
        cases o with
        | dct _ => cases eq
        | lst ds =>
          cases eq
          obtain ⟨vs, g1, g2⟩ := f.s.obs kk a _ h1 es
          exact ⟨_, ds.length, rfl, .inl ⟨vs, SqL.of g1, g2.length.symm⟩, k _ H c f .refl (.int _)⟩
    | _ => cases eq
/-! isinstance -/
noncomputable def tyD : D → Option String
  | .non => some "NoneType"
  | .bl _ => some "bool"
  | .int _ => some "int"
  | .str _ => some "str"
  | .lst _ => some "list"
  | .tup _ => some "tuple"
  | .dic => some "dict"
  | _ => none
noncomputable def isiT (n m : String) : Option Bool := match m with
  | "int" => some (n == "int" || n == "bool")
  | "bool" => some (n == "bool")
  | "str" => some (n == "str")
  | "list" => some (n == "list")
  | "tuple" => some (n == "tuple")
  | "dict" => some (n == "dict")
  | _ => none
noncomputable def isiD : List D → M D
  | [d, .ty m] => fun t => match tyD d with
    | some n => (isiT n m).map fun b => (.bl b, t)
    | none => none
  | _ => fail
/-! tuple(x), list(x), int(x), min, max, abs, ord -/
noncomputable def tupD : List D → M D
  | [.lst ds] => ret (.tup ds)
  | [.tup ds] => ret (.tup ds)
  | [.obj k] => fun t => match t.S[k]? with
    | some (.lst ds) => some (.tup ds, t)
    | _ => none
  | _ => fail
noncomputable def lstF : List D → M (List D)
  | [.lst ds] => ret ds
  | [.tup ds] => ret ds
  | [.scr ns] => ret (ns.map .int)
  | [.obj k] => fun t => match t.S[k]? with
    | some (.lst ds) => some (ds, t)
    | _ => none
  | _ => fail
theorem sem_lst : SemNF K (fun xs H Q => ∃ p ys, xs = [.ref p] ∧ (SqL K H p ys ∨ SqT K H p ys) ∧ ∀ l, H l = none → Q (.ref l) (upd H l (.lst ys))) lstF := fun {Oo c t σ H xs ds r t' Q} f rx eq k => by
  match ds, rx, eq with
  | [], _, eq => cases eq
  | d0 :: _ :: _, _, eq => cases d0 <;> cases eq
  | [d], rx, eq =>
    obtain ⟨v, rfl, rv⟩ := reps1 rx
    cases rv with
    | @lst a vs ds h1 h2 h3 => cases eq; exact ⟨a, vs, rfl, .inl (SqL.of h1), fun q hq => k q vs H c f .refl h3 hq⟩
    | @tup a vs ds h1 h2 h3 => cases eq; exact ⟨a, vs, rfl, .inr (SqT.of h1), fun q hq => k q vs H c f .refl h3 hq⟩
    | @scr a ns h1 => cases eq; exact ⟨a, _, rfl, .inl h1.sq, fun q hq => k q _ H c f .refl (Reps.ints ns) hq⟩
    | @obj a kk h1 =>
      unfold lstF at eq
      dsimp only at eq
      cases es : t.S[kk]? with
      | none => rw [es] at eq; cases eq
      | some o =>
        rw [es] at eq
        cases o with
        | dct _ => cases eq
        | lst ds =>
          cases eq
          obtain ⟨vs, g1, g2⟩ := f.s.obs kk a _ h1 es
          exact ⟨a, vs, rfl, .inl (SqL.of g1), fun q hq => k q vs H c f .refl g2 hq⟩
    | _ => cases eq
noncomputable def intD : List D → M D
  | [.int i] => ret (.int i)
  | [.bl b] => ret (.int (if b then 1 else 0))
  | _ => fail
noncomputable def strD : List D → M D
  | [.int i] => fun t => if i.natAbs.log2 < 1920 then some (.str (toString i), t) else none
  | _ => fail
noncomputable def absD : List D → M D
  | [.int i] => ret (.int (if i < 0 then -i else i))
  | _ => fail
noncomputable def minD : List D → M D
  | [.int i, .int j] => ret (.int (if j < i then j else i))
  | _ => fail
noncomputable def maxD : List D → M D
  | [.int i, .int j] => ret (.int (if j > i then j else i))
  | _ => fail
end
end F2

set_option Elab.async false
set_option linter.all false
set_option maxRecDepth 100000
set_option maxHeartbeats 4000000
namespace L2
open PySem PySem.Spec PyProof.Rows
open AutoSeq1 (wpAny_loadPart')

/-! () + t -/
noncomputable def rCat0 (K : PySem.W.Frag) : R2 := fun x y H Q => ∃ a b ys, x = .ref a ∧ y = .ref b ∧ SqT K H a [] ∧ SqT K H b ys ∧ Q (.ref b) H
theorem op_cat0 {X : Cx} : OpR X (binaryOp .Add) (rCat0 X.K) := by
  intro pins s σ H x y v u Q I rx ry h
  obtain ⟨a, b, ys, rfl, rfl, h1, h2, q⟩ := h
  cases rx
  cases ry
  obtain ⟨its, r, ⟨⟨cls, dd, data, sl⟩, ho, hc, n, hd⟩, z⟩ := I.tuple h1
  obtain ⟨its2, r2, ⟨⟨cls2, dd2, data2, sl2⟩, ho2, hc2, n2, hd2⟩, z2⟩ := I.tuple h2
  simp only at hc hd hc2 hd2
  subst hc hd hc2 hd2
  cases r
  exact concat_meets ⟨_, ho, rfl⟩ ⟨_, ho2, rfl⟩ noFill_tuple_add seq_tuple_add PySem.F.slot_tuple_add PySem.F.entry_tuple_add (PySem.F.args_tuple_add_2 _ _)
    (tuple_addW0 a b #[] its2.toArray n n2 dd dd2 sl sl2 rfl) ⟨ho, ho2, .ref b, H, I, rfl, q⟩

/-! t * n -/
theorem noFill_tuple_mul : fillsNumberSlot (.type "tuple") "mul" = pure false :=
  PySem.fillsNumberSlot_seq (id := "tuple.__mul__") (r := some (.builtin "tuple.__rmul__")) F.slot_tuple_mul.lookup (by decide +kernel) F.slot_tuple_rmul.lookup (by decide +kernel)
theorem repeat_tuple : seqRepeat? (.type "tuple") = pure (some (.builtin "tuple.__mul__")) := by
  unfold seqRepeat?
  rw [PySem.seqSlot_of (T := "tuple") (name := "__mul__") (id := "tuple.__mul__") F.slot_tuple_mul.lookup (by decide +kernel), PySem.seqSlot_of (T := "tuple") (name := "__rmul__") (id := "tuple.__rmul__") F.slot_tuple_rmul.lookup (by decide +kernel)]
  rfl
theorem rmul_int_tuple (a : Int) (t : Tok) (l : Addr) (items : Array Value) (n : Nat) (dd : Option Addr) (sl : Array (Option Value)) :
    Meets (Builtin.«int.__rmul__» ⟨[.int a t, .ref l], []⟩) (fun _ R s => s.heap.get? l = some { cls := .type "tuple", dict := dd, data := .seq items n, slots := sl } ∧ R (.ok (.ret Value.notImplemented)) s) :=
  .of_wp fun prog w A R s h => by obtain ⟨hp, g, d, tk, os⟩ := s; obtain ⟨hl, h⟩ := h; wp_walk; exact ⟨_, rfl, h⟩
theorem tuple_mulW1 (l : Addr) (items : Array Value) (n : Nat) (dd : Option Addr) (sl : Array (Option Value)) (x : Int) (u : Tok) (hc0 : (decide (x < -(2 ^ 63)) || decide (x ≥ 2 ^ 63)) = false) (hc1 : (items.isEmpty || x == 1) = true) :
    Meets (Builtin.«tuple.__mul__» ⟨[.ref l, .int x u], []⟩) (fun _ R s => s.heap.get? l = some { cls := .type "tuple", dict := dd, data := .seq items n, slots := sl } ∧ R (.ok (.ret (Value.ref l))) s) :=
  .of_wp fun prog w A R s h => by
    obtain ⟨hp, g, d, tk, os⟩ := s; obtain ⟨hl, h⟩ := h; have f1 := AutoSeq1.idx_int; have f2 := AutoSeq1.sub_tuple_tuple; have f3 := AutoSeq1.sub_list_list; have f4 := AutoSeq1.sub_tuple_list; have f5 := AutoSeq1.sub_list_tuple
    wp_walk using wpAny_loadPart' hl
    refine wpAny_ite_split (fun z => absurd z (by rw [hc0]; decide)) fun _ => ?_
    wp_walk using wpAny_loadPart' hl
    exact ⟨_, rfl, h⟩
theorem tuple_mulW2 (l : Addr) (items : Array Value) (n : Nat) (dd : Option Addr) (sl : Array (Option Value)) (x : Int) (u : Tok) (hc0 : (decide (x < -(2 ^ 63)) || decide (x ≥ 2 ^ 63)) = false) (hc1 : (items.isEmpty || x == 1) = false) (hc2 : (decide (x ≤ 0) || items.isEmpty) = true) :
    Meets (Builtin.«tuple.__mul__» ⟨[.ref l, .int x u], []⟩) (fun _ R s => s.heap.get? l = some { cls := .type "tuple", dict := dd, data := .seq items n, slots := sl } ∧ R (.ok (.ret (Value.ref s.heap.objs.size))) { s with heap := s.heap.push { cls := Value.type "tuple", data := Data.seq #[] }, toks := s.toks }) :=
  .of_wp fun prog w A R s h => by
    obtain ⟨hp, g, d, tk, os⟩ := s; obtain ⟨hl, h⟩ := h; have f1 := AutoSeq1.idx_int; have f2 := AutoSeq1.sub_tuple_tuple; have f3 := AutoSeq1.sub_list_list; have f4 := AutoSeq1.sub_tuple_list; have f5 := AutoSeq1.sub_list_tuple
    wp_walk using wpAny_loadPart' hl
    refine wpAny_ite_split (fun z => absurd z (by rw [hc0]; decide)) fun _ => ?_
    wp_walk using wpAny_loadPart' hl
    exact ⟨_, rfl, h⟩
theorem tuple_mulW3 (l : Addr) (items : Array Value) (n : Nat) (dd : Option Addr) (sl : Array (Option Value)) (x : Int) (u : Tok) (hc0 : (decide (x < -(2 ^ 63)) || decide (x ≥ 2 ^ 63)) = false) (hc1 : (items.isEmpty || x == 1) = false) (hc2 : (decide (x ≤ 0) || items.isEmpty) = false)
    (hc3 : ¬ (items.size : Int) * x > (2 ^ 63 - 1) / 8) (hc4 : Builtin.Tuple.tupleTooMany ((items.size : Int) * x) = false) (hsz : (List.foldl (fun x1 x2 => x1 ++ x2) #[] (List.replicate x.toNat items)).size ≤ sizeLine) :
    Meets (Builtin.«tuple.__mul__» ⟨[.ref l, .int x u], []⟩) (fun _ R s => s.heap.get? l = some { cls := .type "tuple", dict := dd, data := .seq items n, slots := sl } ∧ R (.ok (.ret (Value.ref s.heap.objs.size))) { s with heap := s.heap.push { cls := Value.type "tuple", data := Data.seq (List.foldl (fun x1 x2 => x1 ++ x2) #[] (List.replicate x.toNat items)) }, toks := s.toks }) :=
  .of_wp fun prog w A R s h => by
    obtain ⟨hp, g, d, tk, os⟩ := s; obtain ⟨hl, h⟩ := h; have f1 := AutoSeq1.idx_int; have f2 := AutoSeq1.sub_tuple_tuple; have f3 := AutoSeq1.sub_list_list; have f4 := AutoSeq1.sub_tuple_list; have f5 := AutoSeq1.sub_list_tuple
    wp_walk using wpAny_loadPart' hl
    refine wpAny_ite_split (fun z => absurd z (by rw [hc0]; decide)) fun _ => ?_
    wp_walk using wpAny_loadPart' hl
    refine wpAny_ite_split (fun z => absurd z hc3) fun _ => ?_
    wp_walk using wpAny_loadPart' hl
    exact ⟨_, rfl, h⟩
end L2

set_option Elab.async false
set_option linter.all false
set_option maxRecDepth 100000
set_option maxHeartbeats 4000000
namespace L2
open PySem PySem.Spec PyProof.Rows
open AutoSeq1 (wpAny_loadPart')

noncomputable def rMulT (K : PySem.W.Frag) : R2 := fun x y H Q => ∃ a k xs, x = .ref a ∧ y = .int k ∧ SqT K H a xs ∧ -(2 ^ 62) ≤ k ∧ k < 2 ^ 62 ∧ xs.length * k.toNat ≤ sizeLine ∧
  ((xs = [] ∨ k = 1) → Q (.ref a) H) ∧ (¬ (xs = [] ∨ k = 1) → ∀ p, H p = none → Q (.ref p) (upd H p (.tup (List.replicate k.toNat xs).flatten)))
theorem Inv.tnew {X : Cx} {pins : List (Addr × Obj)} {σ : L2.St} {H : Hp} {s : Shared} {ys : List V} {its : List Value} {t' : Nat} (I : Inv X pins σ H s) (hv : Vals ys its) (hz : ys.length ≤ sizeLine) :
    Inv X pins σ (upd H s.heap.objs.size (.tup ys)) { s with heap := s.heap.push { cls := .type "tuple", data := .seq its.toArray }, toks := t' } :=
  I.laid (fun b u e => Heap.get?_push_of_some _ e) (Nat.le_refl _) ⟨hz, its, hv, ⟨_, Heap.get?_push_size _ rfl, rfl, _, rfl⟩⟩
theorem op_mulT {X : Cx} : OpR X (binaryOp .Mult) (rMulT X.K) := by
  intro pins s σ H x y v u Q I rx ry h
  obtain ⟨a, k, xs, rfl, rfl, hq, h1, h2, hz, q1, q2⟩ := h
  cases rx
  obtain ⟨t, rfl⟩ := ry
  obtain ⟨its, r, ⟨⟨cls, dd, data, sl⟩, ho, hc, n, hd⟩, z⟩ := I.tuple hq
  simp only at hc hd
  subst hc hd
  have hl := r.length
  have hc0 : (decide (k < -(2 ^ 63)) || decide (k ≥ 2 ^ 63)) = false := by
    rw [Bool.or_eq_false_iff]; exact ⟨decide_eq_false (by omega), decide_eq_false (by omega)⟩
  refine wpAny_binaryOp_repeat_ref (T := "tuple") (U := "int") (by decide) ⟨_, ho, rfl⟩ (fun s' => typeIs_int s' k t) noFill_tuple_mul F.fills_int_mul F.slot_int_rmul repeat_tuple F.slot_int_index.lookup
    (call_meets F.slot_int_rmul (typeIs_int s k t) F.entry_int_rmul (F.args_int_rmul_2 _ _) (rmul_int_tuple k t a its.toArray n dd sl) ⟨ho, rfl, ⟨_, ho, rfl⟩, ?_⟩)
  by_cases hs : xs = [] ∨ k = 1
  · have hc1 : (its.toArray.isEmpty || k == 1) = true := by
      rw [Bool.or_eq_true]
      rcases hs with z | z
      · subst z; cases r; exact .inl rfl
      · exact .inr (by simp [z])
    exact call_meets F.slot_tuple_mul ⟨_, ho, rfl⟩ F.entry_tuple_mul (F.args_tuple_mul_2 _ _) (tuple_mulW1 a its.toArray n dd sl k t hc0 hc1) ⟨ho, .ref a, H, I, rfl, q1 hs⟩
  · have hne : its ≠ [] := fun z => hs (.inl (by subst z; cases r; rfl))
    have hk1 : k ≠ 1 := fun z => hs (.inr z)
    have hem : its.toArray.isEmpty = false := by cases its with | nil => exact absurd rfl hne | cons _ _ => rfl
    have hc1 : (its.toArray.isEmpty || k == 1) = false := by rw [hem]; simpa using hk1
    by_cases hk : k ≤ 0
    · have hc2 : (decide (k ≤ 0) || its.toArray.isEmpty) = true := by rw [decide_eq_true hk]; rfl
      refine call_meets F.slot_tuple_mul ⟨_, ho, rfl⟩ F.entry_tuple_mul (F.args_tuple_mul_2 _ _) (tuple_mulW2 a its.toArray n dd sl k t hc0 hc1 hc2) ⟨ho, ?_⟩
      have hk0 : k.toNat = 0 := by omega
      refine ⟨.ref _, _, I.tnew (t' := s.toks) (ys := []) (its := []) .nil (Nat.zero_le _), rfl, ?_⟩
      have := q2 hs _ I.fresh
      rw [hk0] at this
      exact this
    · have hc2 : (decide (k ≤ 0) || its.toArray.isEmpty) = false := by rw [decide_eq_false hk, hem]; rfl
      have hsz : its.length * k.toNat ≤ sizeLine := by rw [← hl]; exact hz
      have hmul : ((its.toArray.size : Nat) : Int) * k = ((its.length * k.toNat : Nat) : Int) := by
        rw [List.size_toArray, Int.natCast_mul, Int.toNat_of_nonneg (by omega)]
      have hline : (sizeLine : Nat) ≤ (2 ^ 63 - 1) / 8 := by decide
      have hc3 : ¬ (its.toArray.size : Int) * k > (2 ^ 63 - 1) / 8 := by rw [hmul]; omega
      have hc4 : Builtin.Tuple.tupleTooMany ((its.toArray.size : Int) * k) = false := by
        unfold Builtin.Tuple.tupleTooMany; rw [hmul]; exact decide_eq_false (by omega)
      have f0 : List.foldl (fun x1 x2 => x1 ++ x2) #[] (List.replicate k.toNat its.toArray) = (List.replicate k.toNat its).flatten.toArray := by
        have := foldl_rep its k.toNat []
        rw [List.nil_append] at this
        exact this
      have hfz : (List.foldl (fun x1 x2 => x1 ++ x2) #[] (List.replicate k.toNat its.toArray)).size ≤ sizeLine := by
        rw [f0, List.size_toArray, len_rep, Nat.mul_comm]; exact hsz
      refine call_meets F.slot_tuple_mul ⟨_, ho, rfl⟩ F.entry_tuple_mul (F.args_tuple_mul_2 _ _) (tuple_mulW3 a its.toArray n dd sl k t hc0 hc1 hc2 hc3 hc4 hfz) ⟨ho, ?_⟩
      rw [f0]
      exact ⟨.ref _, _, I.tnew (t' := s.toks) (r.rep k.toNat) (by rw [len_rep, Nat.mul_comm]; exact hz), rfl, q2 hs _ I.fresh⟩

/-! xs.extend(t) -/
theorem MtM.or {X : Cx} {id : String} {r r' : V → List V → Hp → VK → Prop} (h : MtM X id r) (h' : MtM X id r') : MtM X id (fun x xs H Q => r x xs H Q ∨ r' x xs H Q) := by
  intro pins s σ H x xs v us Q I rx rv q
  rcases q with q | q
  · exact h pins s σ H x xs v us Q I rx rv q
  · exact h' pins s σ H x xs v us Q I rx rv q

/-! a op b op' c op'' d -/
section
variable {X : Cx} {a b c d : Expr} {ta tb tc td : TE} {pos : Pos}
end
end L2

set_option Elab.async false
set_option linter.all false
set_option maxRecDepth 100000
set_option maxHeartbeats 4000000
set_option autoImplicit false
namespace F2
open PySem L2 PySem.Spec

section
variable {K : PySem.W.Frag}
/-! ### + with () on the left, * -/
noncomputable def add5 (x y : D) : M D := match x, y with
  | .tup [], .tup ys => ret (.tup ys)
  | x, y => addD x y
noncomputable def rAdd5 (K : PySem.W.Frag) : R2 := fun x y H Q => rAdd4 K x y H Q ∨ rCat0 K x y H Q
theorem op_add5 {X : Cx} : OpR X (binaryOp .Add) (rAdd5 X.K) := op_add4.or op_cat0
theorem sem_add5 : Sem2 K (rAdd5 K) add5 := fun {Oo c t σ H x y dx dy r t' Q} f rx ry eq k => by
  unfold add5 at eq
  split at eq
  · next ys =>
    cases eq
    cases rx with
    | tup h1 h2 h3 =>
      cases h3
      cases ry with
      | tup g1 g2 g3 => exact .inr ⟨_, _, _, rfl, rfl, SqT.of h1, SqT.of g1, k _ H c f .refl (.tup g1 g2 g3)⟩
  · exact .inl (sem_add f rx ry eq k)
noncomputable def mulD : D → D → M D
  | .int i, .int j => fun t => if mulOk i j = true then some (.int (i * j), t) else none
  | .tup xs, .int k => fun t => if small k = true ∧ xs.length * k.toNat ≤ LIM then some (.tup (List.replicate k.toNat xs).flatten, t) else none
  | .lst xs, .int k => fun t => if small k = true ∧ xs.length * k.toNat ≤ LIM then some (.lst (List.replicate k.toNat xs).flatten, t) else none
  | _, _ => fail
noncomputable def rMul3 (K : PySem.W.Frag) : R2 := fun x y H Q => rI CMul (fun i j => .int (i * j)) x y H Q ∨ (rMulT K x y H Q ∨ rRep x y H Q)
theorem op_mul3 {X : Cx} : OpR X (binaryOp .Mult) (rMul3 X.K) := op_mul.or (op_mulT.or op_rep)
theorem sem_mul : Sem2 K (rMul3 K) mulD := fun {Oo c t σ H x y dx dy r t' Q} f rx ry eq k => by
  cases ry with
  | int j =>
    cases rx with
    | int i =>
      unfold mulD at eq
      dsimp only at eq
      split at eq
      · next h => cases eq; exact .inl ⟨i, j, rfl, rfl, mulOk_iff h, k _ H c f .refl (.int _)⟩
      · cases eq
    | @tup a vs ds h1 h2 h3 =>
      unfold mulD at eq
      dsimp only at eq
      split at eq
      · next h =>
        cases eq
        obtain ⟨g1, g2⟩ := small_iff h.1
        refine .inr (.inl ⟨a, j, vs, rfl, rfl, SqT.of h1, g1, g2, by rw [h3.length]; exact Nat.le_trans h.2 LIM_le, fun hs => ?_, fun hs p hp => ?_⟩)
        · rcases hs with z | z
          · subst z
            have : ds = [] := List.length_eq_zero_iff.mp h3.length.symm
            subst this
            have e : (List.replicate j.toNat ([] : List D)).flatten = [] := by simp
            rw [e] at k
            exact k _ H c f .refl (.tup h1 h2 h3)
          · subst z
            have e : (List.replicate (1 : Int).toNat ds).flatten = ds := by simp
            rw [e] at k
            exact k _ H c f .refl (.tup h1 h2 h3)
        · exact k _ _ c (f.laid hp) (f.stp_laid hp) (.tup upd_same (f.s.free hp) ((h3.rep j.toNat).mono (Ext.laid f.s hp)))
      · cases eq
    | @lst a vs ds h1 h2 h3 =>
      unfold mulD at eq
      dsimp only at eq
      split at eq
      · next h =>
        cases eq
        obtain ⟨g1, g2⟩ := small_iff h.1
        refine .inr (.inr ⟨a, j, vs, rfl, rfl, h1, by omega, by omega, by rw [h3.length]; exact Nat.le_trans h.2 LIM_le, fun p hp => ?_⟩)
        exact k _ _ c (f.laid hp) (f.stp_laid hp) (.lst upd_same (f.s.free hp) ((h3.rep j.toNat).mono (Ext.laid f.s hp)))
      · cases eq
    | _ => cases eq
  | _ => cases rx <;> cases eq
end

section
variable {X : Cx} {e a b : Expr} {pos : Pos}
/-! ### a op b op' c op'' d -/
/-! ### x.append(..), x.extend(..) of a name's own list -/
noncomputable def app1 (xs : List D) : List D → Option (List D)
  | [d] => if xs.length < LIM then some (xs ++ [d]) else none
  | _ => none
noncomputable def ownM (i : Nat) (h : List D → List D → Option (List D)) (g : M (List D)) : M Out := fun t => match t.env[i]? with
  | some (some (.own _)) => bnd g (fun ds t1 => match t1.env[i]? with
    | some (some (.own xs)) => (h xs ds).map fun ys => (.next, { t1 with env := t1.env.set i (some (.own ys)) })
    | _ => none) t
  | _ => none
/-- what a method does to a list: its reading upon the lists' addresses -/
noncomputable def SemM (K : PySem.W.Frag) (R : V → List V → Hp → VK → Prop) (h : List D → List D → Option (List D)) : Prop := ∀ {c : Cf} {S : List Ob} {H : Hp} {a : Addr} {vs us : List V} {xs ds ys : List D} {Q : VK}, SInv K c S H → H a = some (.lst vs) → Reps K c H vs xs → Reps K c H us ds → h xs ds = some ys →
  (∀ ws, Reps K c H ws ys → Q .non (upd H a (.lst ws))) → R (.ref a) us H Q
theorem sem_app {K : PySem.W.Frag} : SemM K rAppend app1 := fun {c S H a vs us xs ds ys Q} s h r rs e k => by
  unfold app1 at e
  split at e
  · next d =>
    split at e
    · next hl =>
      cases e
      obtain ⟨v, rfl, rv⟩ := reps1 rs
      exact ⟨a, vs, v, rfl, rfl, h, by rw [r.length]; exact Nat.lt_of_lt_of_le hl LIM_le, k _ (r.append (.cons rv .nil))⟩
    · cases e
  · cases e
theorem RS.ownM {μ : Cf → Hp → D → (V → Hp → Prop) → Prop} {K : PySem.W.Frag} {i : Nat} {h : List D → List D → Option (List D)} {g : M (List D)} {R : V → List V → Hp → VK → Prop} (s : SemM K R h) {E : Ends} {σ : L2.St} {H : Hp} (q : RSg K μ (F2.ownM i h g) E σ H) : tDrop (tBM K "list" R (tVar i) (RA K g)) E σ H := by
  obtain ⟨Oo, c, t, fi, o, t', eq, k⟩ := q
  unfold F2.ownM at eq
  split at eq
  · next xs0 e0 =>
    obtain ⟨ds, t1, e1, eq⟩ := bnd_some eq
    obtain ⟨a, vs0, h1, h2, h3, h4, h5⟩ := fi.own i xs0 e0
    refine ⟨.ref a, h1, .inl ⟨rfl, vs0, SqL.of h4⟩, Oo, c, t, fi, ds, t1, e1, fun us H1 c1 f1 s1 rus => ?_⟩
    split at eq
    · next xs ex =>
      obtain ⟨ys, ey, ez⟩ := Option.map_eq_some_iff.mp eq
      cases ez
      obtain ⟨a', vs, g1, g2, g3, g4, g5⟩ := f1.own i xs ex
      rw [h1] at g1; injection g1 with g1; injection g1 with g1; injection g1 with g1; subst g1
      refine s f1.s g4 g5 rus ey fun ws rws => ?_
      obtain ⟨f2, s2⟩ := f1.wrOwn ex h1 rws
      exact k σ _ c1 f2 (s1.trans s2)
    · cases eq
  · cases eq
theorem fs_appOwn {μ : Cf → Hp → D → (V → Hp → Prop) → Prop} (i : Nat) {x : Str} {es : List Expr} {g : M (List D)} {px apos cpos : Pos} (ha : PA X (e :: es) (RA X.K g)) (hN : X.N[i]? = some x := by rfl) (hv : Vis X.env.scope x := by first | exact Or.inl rfl | exact Or.inr (Or.inl rfl) | exact Or.inr (Or.inr rfl)) (hd : (x == ("__debug__" : Str)) = false := by decide)
    (hcd : (x == ("__classdict__" : Str)) = false := by decide)
    (hbase : attributeBase (.Name x px) "append" X.env (eval (.Name x px) X.env) = eval (.Name x px) X.env := by rfl)
    (hfew : ((backTo cpos (starEach (e :: es) X.env)).all (fun x => !x.1) && (backToKw cpos (keywordEach [] X.env)).all (fun x => x.1.isSome) && decide ((e :: es).length + ([] : List Keyword).length + (if ([] : List Keyword).isEmpty then 0 else 1) < 30)) = true := by rfl)
    (hline : (apos.endLine == cpos.line) = true := by rfl) (hs : starEach (e :: es) X.env = (false, eval e X.env) :: starEach es X.env := by rfl) (hplain : (backTo cpos (starEach es X.env)).any (·.1) = false := by rfl) :
    PS X (.Expr (.Call (.Attribute (.Name x px) "append" apos) (e :: es) [] cpos) pos) (RSg X.K μ (ownM i app1 g)) :=
  PS_imp (ps_expr (pe_bm PySem.F.plainAttrs_list PySem.F.slot_list_append PySem.F.type_list_append mt_append (pe_var hN hv hd hcd) ha hbase hfew hline hs hplain)) fun _ _ _ q => RS.ownM sem_app q
/-! ### of a numbered list -/
noncomputable def objM (h : List D → List D → Option (List D)) (f : M D) (g : M (List D)) : M D := bnd f fun o => match o with
  | .obj k => fun t => match t.S[k]? with
    | some (.lst _) => bnd g (fun ds t1 => match t1.S[k]? with
      | some (.lst xs) => (h xs ds).map fun ys => (.non, { t1 with S := t1.S.set k (.lst ys) })
      | _ => none) t
    | _ => none
  | _ => fail
theorem RE.objM {K : PySem.W.Frag} {h : List D → List D → Option (List D)} {f : M D} {g : M (List D)} {R : V → List V → Hp → VK → Prop} (s : SemM K R h) {σ : L2.St} {H : Hp} {Q : VK} (q : RE K (F2.objM h f g) σ H Q) : tBM K "list" R (RE K f) (RA K g) σ H Q := by
  obtain ⟨Oo, c, t, fi, r, t', eq, k⟩ := q
  obtain ⟨o, t0, e0, eq⟩ := bnd_some eq
  refine ⟨Oo, c, t, fi, o, t0, e0, fun x H0 c0 f0 s0 rx => ?_⟩
  cases rx with
  | @obj a kk hk =>
    dsimp only at eq
    split at eq
    · next xs0 ex0 =>
      obtain ⟨ds, t1, e1, eq⟩ := bnd_some eq
      obtain ⟨vs0, g0, g0'⟩ := f0.s.obs kk a _ hk ex0
      refine ⟨.inl ⟨rfl, vs0, SqL.of g0⟩, Oo, c0, t0, f0, ds, t1, e1, fun us H1 c1 f1 s1 rus => ?_⟩
      split at eq
      · next xs ex =>
        obtain ⟨ys, ey, ez⟩ := Option.map_eq_some_iff.mp eq
        cases ez
        have hk1 := s1.ext.io _ _ hk
        obtain ⟨vs, g1, g2⟩ := f1.s.obs kk a _ hk1 ex
        refine s f1.s g1 g2 rus ey fun ws rws => ?_
        obtain ⟨f2, s2⟩ := f1.wrObj (o := .lst ys) (u := .lst ws) hk1 fun c' H' ext hu => ⟨ws, hu, rws.mono ext⟩
        exact k _ _ c1 f2 ((s0.trans s1).trans s2) .non
      · cases eq
    · cases eq
  | _ => cases eq
theorem fe_appObj {o : Expr} {es : List Expr} {f : M D} {g : M (List D)} {apos cpos : Pos} (ho : PE X o (RE X.K f)) (ha : PA X (e :: es) (RA X.K g))
    (hbase : attributeBase o "append" X.env (eval o X.env) = eval o X.env := by rfl)
    (hfew : ((backTo cpos (starEach (e :: es) X.env)).all (fun x => !x.1) && (backToKw cpos (keywordEach [] X.env)).all (fun x => x.1.isSome) && decide ((e :: es).length + ([] : List Keyword).length + (if ([] : List Keyword).isEmpty then 0 else 1) < 30)) = true := by rfl)
    (hline : (apos.endLine == cpos.line) = true := by rfl) (hs : starEach (e :: es) X.env = (false, eval e X.env) :: starEach es X.env := by rfl) (hplain : (backTo cpos (starEach es X.env)).any (·.1) = false := by rfl) :
    PE X (.Call (.Attribute o "append" apos) (e :: es) [] cpos) (RE X.K (objM app1 f g)) :=
  PE_imp (pe_bm PySem.F.plainAttrs_list PySem.F.slot_list_append PySem.F.type_list_append mt_append ho ha hbase hfew hline hs hplain) fun _ _ _ q => RE.objM sem_app q
/-! ### o[i] = v of a numbered list -/
noncomputable def stOb (o i d : D) : M Unit := match o, i with
  | .obj k, .int j => fun t => match t.S[k]? with
    | some (.lst xs) => (ixN xs.length j).map fun n => ((), { t with S := t.S.set k (.lst (xs.set n d)) })
    | _ => none
  | _, _ => fail
noncomputable def stD (f g : M D) (d : D) : M Unit := bnd f fun o => bnd g fun i => stOb o i d
theorem fg_sub {o i : Expr} {f g : M D} (ho : PE X o (RE X.K f)) (hi : PE X i (RE X.K g))
    (ha : ∀ v, assign (.Subscript o i pos) X.env v = (do
      let ov ← holding [v] (eval o X.env)
      let iv ← holding [v, ov] (eval i X.env)
      standAt pos
      holding [v, ov, iv] (setItem ov iv v)
      release [v, ov, iv] []) := by intro _; rfl) : PG X (.Subscript o i pos) (RG X.K (stD f g)) :=
  PG_imp (pg_sub ho hi set_list ha) fun v σ H Q ⟨Oo, c, t, d, fi, rv, t', eq, k⟩ => by
    obtain ⟨d0, t1, e1, eq⟩ := bnd_some eq
    obtain ⟨di, t2, e2, eq⟩ := bnd_some eq
    refine ⟨Oo, c, t, fi, _, t1, e1, fun x H1 c1 f1 s1 rx => ⟨Oo, c1, t1, f1, di, t2, e2, fun y H2 c2 f2 s2 ry => ?_⟩⟩
    unfold stOb at eq
    split at eq
    · cases ry with
      | int j =>
      cases rx with
      | @obj a kk hk =>
        split at eq
        · next xs ex =>
          obtain ⟨n, en, ez⟩ := Option.map_eq_some_iff.mp eq
          cases ez
          have hk2 := s2.ext.io _ _ hk
          obtain ⟨vs, g1, g2⟩ := f2.s.obs _ a _ hk2 ex
          refine ⟨a, vs, _, n, rfl, rfl, g1, by rw [g2.length]; exact en, ?_⟩
          have rv2 := rv.mono (s1.trans s2).ext
          obtain ⟨f3, s3⟩ := f2.wrObj (o := .lst (xs.set n d)) (u := .lst (vs.set n v)) hk2 fun c' H' ext hu => ⟨_, hu, (Reps.set rv2 n g2).mono ext⟩
          exact k σ _ c2 f3 ((s1.trans s2).trans s3)
        · cases eq
    · cases eq
end
end F2

set_option Elab.async false
set_option linter.all false
set_option maxRecDepth 100000
set_option maxHeartbeats 4000000
set_option autoImplicit false
namespace F2
open PySem L2 PySem.Spec

section
variable {X : Cx} {e a b tg iter elt : Expr} {ifs : List Expr} {pos : Pos} {scope : Scope} {N' : List Str} {n : Nat} {fr : List Nat} {f : M (List D)} {st : D → M Unit} {tst : M Bool} {el : M D}
/-! ### comprehensions -/
noncomputable def tTru : M Bool := ret true
theorem fif_nil : PIf X [] (RT X.K tTru) := fun pins s σ H Q I ⟨Oo, c, t, fi, r, t', eq, k⟩ => pif_nil pins s σ H Q I (by cases eq; exact k H c fi .refl)
theorem fif_one {g : M Bool} (h : PT X e (RT X.K g)) : PIf X [e] (RT X.K g) := pif_one h
theorem ff_comp (O : CmpOk X scope N' (csig n fr)) (hc : X.calm = true) (hi : PI X tg iter (RI X.K f))
    (hg : ∀ cl C s2 H2 fp, PG (cmpX X N' scope cl C s2 H2 fp) tg (RG X.K st)) (ht : ∀ cl C s2 H2 fp, PIf (cmpX X N' scope cl C s2 H2 fp) ifs (RT X.K tst)) (he : ∀ cl C s2 H2 fp, PE (cmpX X N' scope cl C s2 H2 fp) elt (RE X.K el))
    (hs : ∀ x, foldedSetIterable iter X.env x = pure x := by intro _; rfl) : PE X (.ListComp elt [⟨tg, iter, ifs, 0⟩] scope pos) (RF X.K (fComp n fr f st tst el)) :=
  PE_imp (pe_comp O hc hi hg ht he hs) fun _ _ _ q => RF.comp q
/-- a comprehension's scope, by looks that compute -/
theorem cmp_mk (tgs : List Str) (frn : List (Nat × Str)) (hk : scope.kind = .function) (hcell : (scope.names.all fun y => y.2 != .cell) = true) (hloc : (scope.names.all fun y => y.2 != .local || scope.names.lookup y.1 == some .local) = true)
    (hfree : (scope.names.all fun y => y.2 != .free || X.env.kindOf y.1 == some .cell || X.env.kindOf y.1 == some .free) = true)
    (hf : (frn.all fun p => X.N[p.1]? == some p.2 && scope.names.lookup p.2 == some .free) = true) : CmpOk X scope (tgs ++ frn.map (·.2)) (csig tgs.length (frn.map (·.1))) := by
  rw [List.all_eq_true] at hcell hloc hfree hf
  refine ⟨hk, fun y hy => by simpa using hcell y hy, fun y hy hl => ?_, fun y hy hl => ?_, fun σ _ => by simp [csig], fun σ j x v h1 h2 => ?_⟩
  · have := hloc y hy
    simpa [hl] using this
  · have := hfree y hy
    simpa [hl] using this
  · unfold csig at h2
    by_cases hj : j < tgs.length
    · rw [List.getElem?_append_left (by simpa using hj), List.getElem?_replicate] at h2
      split at h2 <;> simp at h2
    · rw [List.getElem?_append_right (by simpa using hj), List.length_replicate, List.getElem?_map, List.getElem?_map] at h2
      rw [List.getElem?_append_right (by simpa using hj), List.getElem?_map] at h1
      cases e : frn[j - tgs.length]? with
      | none => rw [e] at h1; cases h1
      | some p =>
        rw [e] at h1 h2
        simp only [Option.map_some, Option.some.injEq] at h1 h2
        have hp := hf p (List.mem_of_getElem? e)
        rw [Bool.and_eq_true] at hp
        refine ⟨p.1, by rw [← h1]; simpa using hp.1, ?_, by rw [← h1]; simpa using hp.2⟩
        cases e2 : σ[p.1]? with
        | none => rw [e2] at h2; cases h2
        | some o => rw [e2] at h2; simpa using h2
end

/-! ### == where one side is a numbered list -/
mutual
noncomputable def pureD : D → Bool
  | .tup xs => purs xs
  | .lst xs => purs xs
  | .obj _ => false
  | .scr _ => false
  | _ => true
noncomputable def purs : List D → Bool
  | [] => true
  | d :: r => pureD d && purs r
end
noncomputable def c0 : Cf := ⟨[], fun _ => False⟩
theorem c0_A (a : Addr) : ¬ c0.A a := fun h => h.elim (fun z => nomatch z) fun z => z
mutual
theorem rep_c0 {K : PySem.W.Frag} {c : Cf} {H : Hp} : ∀ {v : V} {d : D}, Rep K c H v d → pureD d = true → Rep K c0 H v d
  | _, _, .non, _ => .non
  | _, _, .bl b, _ => .bl b
  | _, _, .int i, _ => .int i
  | _, _, .str x, _ => .str x
  | _, _, .ty n, _ => .ty n
  | _, _, .tup h n r, p => .tup h (c0_A _) (reps_c0 r (by simpa [pureD] using p))
  | _, _, .lst h n r, p => .lst h (c0_A _) (reps_c0 r (by simpa [pureD] using p))
  | _, _, .scr h, p => by simp [pureD] at p
  | _, _, .dic h n, _ => .dic h (c0_A _)
  | _, _, .obj h, p => by simp [pureD] at p
theorem reps_c0 {K : PySem.W.Frag} {c : Cf} {H : Hp} : ∀ {vs : List V} {ds : List D}, Reps K c H vs ds → purs ds = true → Reps K c0 H vs ds
  | _, _, .nil, _ => .nil
  | _, _, .cons h t, p => by
    simp only [purs, Bool.and_eq_true] at p
    exact .cons (rep_c0 h p.1) (reps_c0 t p.2)
end
noncomputable def res1 (S : List Ob) : D → D
  | .obj k => match S[k]? with
    | some (.lst ds) => .lst ds
    | _ => .obj k
  | d => d
noncomputable def isOb : D → Bool
  | .obj _ => true
  | _ => false
noncomputable def eqS (g : Bool → Bool) (x y : D) : M D := fun t =>
  if (isOb x || isOb y) = true then (if (pureD (res1 t.S x) && pureD (res1 t.S y)) = true then (eqN EQD (res1 t.S x) (res1 t.S y)).map fun b => (.bl (g b), t) else none)
  else (eqN EQD x y).map fun b => (.bl (g b), t)
theorem rep_res1 {K : PySem.W.Frag} {c : Cf} {S : List Ob} {H : Hp} {v : V} {d : D} (s : SInv K c S H) (r : Rep K c H v d) (p : pureD (res1 S d) = true) : Rep K c0 H v (res1 S d) := by
  cases r with
  | @obj a k hk =>
    unfold res1 at p ⊢
    dsimp only at p ⊢
    split
    · next ds e =>
      rw [e] at p
      obtain ⟨vs, h1, h2⟩ := s.obs k a _ hk e
      exact .lst h1 (c0_A _) (reps_c0 h2 (by simpa [pureD] using p))
    · next h =>
      split at p
      · next ds e => exact absurd e (h ds)
      · simp [pureD] at p
  | non => exact .non
  | bl b => exact .bl b
  | int b => exact .int b
  | str b => exact .str b
  | ty b => exact .ty b
  | tup h n q => exact rep_c0 (.tup h n q) p
  | lst h n q => exact rep_c0 (.lst h n q) p
  | scr h => exact rep_c0 (c := c) (.scr h) p
  | dic h n => exact rep_c0 (.dic h n) p
theorem sem_eqS {K : PySem.W.Frag} {g : Bool → Bool} : Sem2 K (rEqD K g) (eqS g) := fun {Oo c t σ H x y dx dy r t' Q} f rx ry eq k => by
  unfold eqS at eq
  split at eq
  · split at eq
    · next hp =>
      rw [Bool.and_eq_true] at hp
      obtain ⟨b, e1, e2⟩ := Option.map_eq_some_iff.mp eq
      cases e2
      exact ⟨c0, _, _, b, rep_res1 f.s rx hp.1, rep_res1 f.s ry hp.2, e1, k _ H c f .refl (.bl (g b))⟩
    · cases eq
  · obtain ⟨b, e1, e2⟩ := Option.map_eq_some_iff.mp eq
    cases e2
    exact ⟨c, dx, dy, b, rx, ry, e1, k _ H c f .refl (.bl (g b))⟩

/-! ### the law's own call -/
theorem law_start {K : PySem.W.Frag} {H : Hp} {a : Addr} {ns : List Int} {f : Fn} {S' : List Ob} (hO : Only H) (hS : SqL K H a (ns.map V.int)) (e : f [.scr ns] [] = some (.bl true, S')) : spF K f [.ref a] H (fun v _ => v = .bl true) fun _ _ _ => False := by
  refine ⟨c0, [.scr ns], [], ⟨rfl, List.Pairwise.nil, fun k a o h => by simp [c0] at h, fun b z => z.elim, fun b z => z.elim⟩, .cons (.scr ?_) .nil, .bl true, S', e, fun v H' c' _ _ _ rv => by cases rv; rfl⟩
  rcases hS with (h | h) | h
  · rcases hO a with z | ⟨o, xs, z⟩
    · rw [z] at h; cases h
    · rw [z] at h; cases h
  · exact .inl ⟨h, c0_A _⟩
  · exact .inr h
end F2

set_option Elab.async false
set_option linter.all false
set_option maxRecDepth 100000
set_option maxHeartbeats 4000000
set_option autoImplicit false
namespace L2
open PySem PySem.Spec PyProof.Rows

/-! ### a list unpacked -/
section
variable {prog : Program} {w : World} {A : Around} {E : Value → Shared → Prop} {s : Shared}
theorem draw_listU {it l : Addr} {items : Array Value} (hne : l ≠ it) : ∀ (n i : Nat) (s : Shared) (Q : List Value → Shared → Prop), s.heap.IsListIter it l i → s.heap.IsList l items → i + n ≤ items.size →
    (∀ h', h'.IsListIter it l (i + n) → Heap.SameBut it s.heap h' → Q ((items.toList.drop i).take n) { s with heap := h' }) → wpAny (model prog w) A (draw (.ref it) n) Q E s
  | 0, i, s, Q, hit, _, _, hQ => wpAny_pure (by simpa using hQ s.heap hit (Heap.SameBut.refl ..))
  | n + 1, i, s, Q, hit, ht, hle, hQ => by
    have hlt : i < items.size := by omega
    refine wpAny_bind (wpAny_pyNext_list_item hit ht (x := items[i]) (by simp [hlt]) fun h1 hit1 hs1 => ?_)
    refine wpAny_bind (wpAny_holding (draw_listU hne n (i + 1) _ _ hit1 (ht.extBut hs1.extBut hne) (by omega) fun h2 hit2 hs2 => wpAny_pure ?_))
    have hd : items.toList.drop i = items[i] :: items.toList.drop (i + 1) := by simp [List.drop_eq_getElem_cons, hlt]
    have := hQ h2 (by rw [show i + (n + 1) = i + 1 + n by omega]; exact hit2) (hs1.trans hs2)
    rw [hd, List.take_succ_cons] at this
    exact this
theorem unpack_listU {l : Addr} {items : Array Value} {targets : List (Bool × (Value → Sem Unit))} {Q : Unit → Shared → Prop} (hh : A.handled = none) (ht : s.heap.IsList l items) (hn : targets.length = items.size) (hstar : targets.findIdx? (·.1) = none)
    (h : ∀ h', Heap.ExtBut s.heap.objs.size s.heap h' → wpAny (model prog w) A (assignInOrder (targets.map (·.2)) items.toList) Q E { s with heap := h' }) : wpAny (model prog w) A (unpack (.ref l) targets) Q E s := by
  have hlt : l ≠ s.heap.objs.size := by obtain ⟨o, ho, _⟩ := ht; exact Nat.ne_of_lt (Heap.lt_size ho)
  unfold unpack
  rw [hn, hstar]
  refine wpAny_bind (wpAny_holding ?_)
  unfold unpackItems
  refine wpAny_bind ?_
  unfold notIterableAtAll
  refine wpAny_bind (wpAny_specialOf ht.typeIs PySem.F.slot_list_iter.lookup ?_)
  refine wpAny_pure ?_
  simp only [Bool.false_eq_true, if_false]
  refine wpAny_bind (wpAny_holding (wpAny_pyIter_list ht ?_))
  have hp : Heap.IsList (s.heap.push { cls := .type "list_iterator", data := .fields #[.ref l, .int 0 0] }) l items := by
    obtain ⟨o, ho, r⟩ := ht
    exact ⟨o, Heap.get?_push_of_some _ ho, r⟩
  refine wpAny_bind (wpAny_holding (draw_listU hlt items.size 0 _ _ ⟨_, Heap.get?_push_size _ rfl, rfl, rfl⟩ hp (by omega) fun h1 hit1 hs1 => ?_))
  have hall : List.take items.size (List.drop 0 items.toList) = items.toList := by
    rw [List.drop_zero]; exact List.take_of_length_le (by simp)
  rw [hall]
  rw [if_neg (by simp)]
  have ht1 : Heap.IsList h1 l items := hp.extBut hs1.extBut hlt
  refine wpAny_bind (wpAny_holding (wpAny_pyNext_list_end hh hit1 ht1 (by simp) fun h2 he2 => ?_))
  simp only [Option.isSome_none, Bool.false_eq_true, if_false]
  exact wpAny_pure (h h2 fun b o hb e => he2 b o hb (hs1.extBut b o hb (Heap.get?_push_of_some _ e)))
end
section
variable {X : Cx} {pos : Pos}
noncomputable def gUn (K : PySem.W.Frag) (n : Nat) (t : TGs) : TG := fun v σ H Q => ∃ a xs, v = .ref a ∧ (SqT K H a xs ∨ SqL K H a xs) ∧ xs.length = n ∧ t xs σ H Q
theorem pg_un {es : List Expr} {k : Nat} {t : TGs} {n : Nat} (hc : X.calm = true) (h : PGs X es t)
    (hn : (assignEach es X.env).length = n := by rfl) (hst : (assignEach es X.env).findIdx? (·.1) = none := by rfl) : PG X (.Tuple es k pos) (gUn X.K n t) := by
  intro pins s σ H v u Q I r hw
  obtain ⟨a, xs, e1, hq | hq, hl, hw⟩ := hw
  · exact pg_tup hc h hn hst pins s σ H v u Q I r ⟨a, xs, e1, hq, hl, hw⟩
  · subst e1
    cases r
    obtain ⟨its, rv, ht, hz⟩ := I.list hq
    rw [assign_Tuple]
    refine wpAny_bind (wpAny_standAt (unpack_listU (I.ok.hd hc) ht.isList (by simp [hn, ← hl, rv.length]) hst fun h' hx => ?_))
    have I1 : Inv X pins σ H { s with heap := h' } := I.kept (t' := s.toks) fun b o e => hx b o (Nat.ne_of_lt (Heap.lt_size e)) e
    exact h pins _ σ H xs _ Q I1 (by simpa using rv) hw
end

/-! ### t[lo:hi], the whole of it: t itself -/
section
open HT
variable {prog : Program} {w : World} {A : Around} {E : Value → Shared → Prop} {s : Shared}
end
section
variable {X : Cx}
end
/-! ### a text walked -/
noncomputable def Its (z : Str) : It := ⟨fun i _ => i < z.cps.size, fun i H x H' => H' = H ∧ ∃ c, z.cps[i]? = some c ∧ x = .str ⟨#[c]⟩, fun i _ => i = z.cps.size⟩
theorem turn_str {P : Program} {w : World} {K : PySem.W.Frag} {tg : Expr} {T : String} {x : Str} {t : Tok} (it : Addr) (hT : ["enumerate", "zip", "dict_itemiterator", "dict_reverseitemiterator", "odict_iterator", "itertools.zip_longest", "itertools.pairwise"].contains T = false)
    (W : ∀ A : Around, A.handled = none → Walks P w A it [it] [it] x.cps.size (SignAt x) (fun i h => h.IsStrIter it T x t i))
    (self : ∀ (A : Around) (i : Nat) (s : Shared) (Q : Value → Shared → Prop) (E : Value → Shared → Prop), s.heap.IsStrIter it T x t i → Q (.ref it) s → wpAny (model P w) A (pyIter (.ref it)) Q E s) :
    Turn P w K tg (Its x) [it] it (fun i h => h.IsStrIter it T x t i) where
  mem := by simp
  obj := fun i h st b hb => by
    have e : b = it := by simpa using hb
    subst e
    obtain ⟨o, e, c, d⟩ := st
    exact ⟨o, e, fun v z => by rw [d] at z; cases z⟩
  keep := fun i h h' st k => by
    obtain ⟨o, e, r⟩ := st
    exact ⟨o, k it (by simp) o e, r⟩
  item := by
    intro X hP hw hK hc i pins s σ H E I hf st hg
    subst hP hw hK
    obtain ⟨f0, f1, f2, f3, f4, f5⟩ := hf it (by simp)
    refine (W X.A (I.ok.hd hc)).item i s _ _ hg st fun v h' tk hv st' kk => ?_
    obtain ⟨c, u, hcc, rfl⟩ := hv
    have I1 : Inv X pins σ H { s with heap := h', toks := tk } := I.turned (fun b o hb e => kk b o (by simpa using hb) e) f0 f1 f3 f4 f5
    obtain ⟨o, e, ec, ed⟩ := id st'
    exact ⟨_, rfl, go_of (s := { s with heap := h', toks := tk }) e ec ed hT ⟨.str ⟨#[c]⟩, H, I1, ⟨u, rfl⟩, ⟨rfl, c, hcc, rfl⟩, st', fun b hb => (hf b hb).1⟩⟩
  done := by
    intro X hP hw hK hc i pins s σ H E I hf st hg
    subst hP hw hK
    obtain ⟨f0, f1, f2, f3, f4, f5⟩ := hf it (by simp)
    have hg' : i = x.cps.size := hg
    subst hg'
    exact (W X.A (I.ok.hd hc)).done s _ _ st fun h' tk kk => ⟨rfl, I.turned (fun b o hb e => kk b o (by simpa using hb) e) f0 f1 f3 f4 f5⟩
  self := fun A i s Q E st h => self A i s Q E st h
section
variable {X : Cx} {tg : Expr} {pos : Pos}
noncomputable def iAny (K : PySem.W.Frag) (tl : TE) : TI := fun σ H R => tl σ H fun x H1 => (∃ a, x = .ref a ∧ (∃ xs, SqL K H1 a xs) ∧ R (Itl K a) H1) ∨ (∃ a, x = .ref a ∧ (∃ xs, SqT K H1 a xs) ∧ R (Itt K a) H1) ∨ ∃ z, x = .str z ∧ R (Its z) H1
theorem pi_any {l : Expr} {tl : TE} (hl : PE X l tl) : PI X tg l (iAny X.K tl) := by
  intro pins s σ H R I h
  refine thn (hl pins s σ H _ I h) fun v s1 ⟨x, H1, I1, r1, q1⟩ => ?_
  have fp : ∀ b ∈ [s1.heap.objs.size], FpOk X pins H1 b := fun b hb => by
    have e : b = s1.heap.objs.size := by simpa using hb
    subst e
    exact I1.fpOk (Nat.le_refl _) (I1.hok.fresh (Nat.le_refl _))
  rcases q1 with ⟨a, rfl, ⟨xs, hq⟩, q⟩ | ⟨a, rfl, ⟨xs, hq⟩, q⟩ | ⟨z, rfl, q⟩
  · cases r1
    obtain ⟨its, rv, p, hz⟩ := I1.list hq
    refine wpAny_pyIter_list p.isList ?_
    exact ⟨s1.heap.objs.size, [s1.heap.objs.size], _, _, H1, rfl, I1.kept (t' := s1.toks) fun b o e => Heap.get?_push_of_some _ e, turn_list a _, ⟨_, Heap.get?_push_size _ rfl, rfl, rfl⟩, fp, q⟩
  · cases r1
    obtain ⟨its, rv, p, hz⟩ := I1.tuple hq
    refine wpAny_pyIter_tuple (show s1.heap.IsTuple a its.toArray from p) ?_
    exact ⟨s1.heap.objs.size, [s1.heap.objs.size], _, _, H1, rfl, I1.kept (t' := s1.toks) fun b o e => Heap.get?_push_of_some _ e, turn_tuple a _, ⟨_, Heap.get?_push_size _ rfl, rfl, rfl⟩, fp, q⟩
  · obtain ⟨t, rfl⟩ := r1
    cases ha : z.cps.all (· < 128)
    · refine wpAny_pyIter_wide ha ?_
      exact ⟨s1.heap.objs.size, [s1.heap.objs.size], _, _, H1, rfl, I1.kept (t' := s1.toks) fun b o e => Heap.get?_push_of_some _ e, turn_str (T := "str_iterator") (x := z) (t := t) _ (by decide) (fun A hA => Walks.strWide hA _ z t) (fun _ _ _ _ _ st h => wpAny_pyIter_striter_wide st h), ⟨_, Heap.get?_push_size _ rfl, rfl, rfl⟩, fp, q⟩
    · refine wpAny_pyIter_ascii ha ?_
      exact ⟨s1.heap.objs.size, [s1.heap.objs.size], _, _, H1, rfl, I1.kept (t' := s1.toks) fun b o e => Heap.get?_push_of_some _ e, turn_str (T := "str_ascii_iterator") (x := z) (t := t) _ (by decide) (fun A hA => Walks.strAscii hA _ z t) (fun _ _ _ _ _ st h => wpAny_pyIter_striter_ascii st h), ⟨_, Heap.get?_push_size _ rfl, rfl, rfl⟩, fp, q⟩
/-! ### {} -/
/-! ### texts: *, a cut, < -/
noncomputable def rMulS : R2 := fun x y H Q => ∃ z k, x = .str z ∧ y = .int k ∧ MulOk z k ∧ Q (.str (Txt.mul z k)) H
theorem op_mulS : OpR X (binaryOp .Mult) rMulS := by
  intro pins s σ H x y v u Q I rx ry h
  obtain ⟨z, k, rfl, rfl, hk, q⟩ := h
  obtain ⟨t, rfl⟩ := rx
  obtain ⟨t', rfl⟩ := ry
  exact SB.mul hk fun t2 tk => ⟨.str _, H, I.tok tk, ⟨t2, rfl⟩, q⟩
noncomputable def rCmp (g : Int → Int → Bool) (h : List Nat → List Nat → Bool) : R2 := fun x y H Q => (∃ i j, x = .int i ∧ y = .int j ∧ Q (.bl (g i j)) H) ∨ ∃ i j, x = .str i ∧ y = .str j ∧ Q (.bl (h i.cps.toList j.cps.toList)) H
theorem op_ltA : OpR X (compareOp .Lt) (rCmp (fun i j => decide (i < j)) fun i j => decide (i < j)) := op_lt.or fun pins s σ H x y v u Q I rx ry h => by
  obtain ⟨i, j, rfl, rfl, q⟩ := h
  obtain ⟨t, rfl⟩ := rx
  obtain ⟨t', rfl⟩ := ry
  exact P.lt_str ⟨.bl _, H, I, rfl, q⟩
theorem op_gtA : OpR X (compareOp .Gt) (rCmp (fun i j => decide (j < i)) fun i j => decide (j < i)) := op_gt.or fun pins s σ H x y v u Q I rx ry h => by
  obtain ⟨i, j, rfl, rfl, q⟩ := h
  obtain ⟨t, rfl⟩ := rx
  obtain ⟨t', rfl⟩ := ry
  exact P.gt_str ⟨.bl _, H, I, rfl, q⟩
end
end L2
namespace F2
open PySem L2 PySem.Spec
/-! ### walks of any kind, more of *, slices, < -/
noncomputable def itemsA : D → M (List D)
  | .lst ds => ret ds
  | .scr ns => ret (ns.map .int)
  | .tup ds => ret ds
  | .str x => ret (x.cps.toList.map fun c => .str ⟨#[c]⟩)
  | _ => fail
noncomputable def fItA (f : M D) : M (List D) := bnd f itemsA
noncomputable def mul4 : D → D → M D
  | .str x, .int k => fun t => if small k = true ∧ x.length * k.toNat ≤ LIM ∧ k ≤ LIM ∧ x.length ≤ LIM then some (.str (Txt.mul x k), t) else none
  | x, y => mulD x y
noncomputable def sl3D : D → Option Int → Option Int → M D
  | .str x, lo, hi => lim x.length (.str (Txt.slice x lo hi))
  | .tup ds, lo, hi => ret (.tup (cutD ds lo hi))
  | x, lo, hi => slD x lo hi
noncomputable def cmpA (g : Int → Int → Bool) (h : List Nat → List Nat → Bool) : D → D → M D
  | .int i, .int j => ret (.bl (g i j))
  | .str x, .str y => ret (.bl (h x.cps.toList y.cps.toList))
  | _, _ => fail
noncomputable def ltA := cmpA (fun i j => decide (i < j)) (fun i j => decide (i < j))
noncomputable def leA := cmpA (fun i j => decide (i ≤ j)) (fun i j => !(decide (j < i)))
noncomputable def gtA := cmpA (fun i j => decide (j < i)) (fun i j => decide (j < i))
noncomputable def geA := cmpA (fun i j => decide (j ≤ i)) (fun i j => !(decide (i < j)))
noncomputable def unS (n : Nat) (g : List D → M Unit) : D → M Unit
  | .tup ds => if ds.length = n then g ds else fail
  | .lst ds => if ds.length = n then g ds else fail
  | _ => fail
noncomputable def fDic : M D := fC .dic
section
variable {X : Cx} {e a b : Expr} {pos : Pos} {st : Stmt}
theorem ItOk.str {K : PySem.W.Frag} {c : Cf} {H : Hp} {x : Str} : ItOk K (Its x) c H (x.cps.toList.map fun c => .str ⟨#[c]⟩) := by
  refine ⟨fun c' H' i ex hi => ?_, fun c' H' i y H'' d ex hd hy => ?_, fun c' H' ex => ?_⟩
  · show i < x.cps.size
    simpa using hi
  · obtain ⟨rfl, n, hn, rfl⟩ := hy
    refine ⟨rfl, ?_⟩
    have : d = .str ⟨#[n]⟩ := by
      rw [List.getElem?_map] at hd
      have hn' : x.cps.toList[i]? = some n := by simpa using hn
      rw [hn'] at hd
      simpa using hd.symm
    rw [this]
    exact .str _
  · show _ = x.cps.size
    simp
theorem fi_any {tg : Expr} {f : M D} (h : PE X e (RE X.K f)) : PI X tg e (RI X.K (fItA f)) :=
  PI_imp (pi_any h) fun σ H R ⟨Oo, c, t, fi, ds, t', eq, k⟩ => by
    obtain ⟨d, t1, e1, eq⟩ := bnd_some eq
    refine ⟨Oo, c, t, fi, d, t1, e1, fun v H1 c1 f1 s1 rv => ?_⟩
    cases rv with
    | @lst p vs ds' h1 h2 h3 =>
      cases eq
      exact .inl ⟨p, rfl, ⟨vs, SqL.of h1⟩, k _ H1 c1 f1 s1 (ItOk.lst fun c' H' ex => ⟨vs, SqL.of (ex.keep _ _ h1 h2), h3.mono ex⟩)⟩
    | @scr p ns h1 =>
      cases eq
      exact .inl ⟨p, rfl, ⟨_, h1.sq⟩, k _ H1 c1 f1 s1 (ItOk.lst fun c' H' ex => ⟨_, (h1.mono ex).sq, Reps.ints ns⟩)⟩
    | @tup p vs ds' h1 h2 h3 =>
      cases eq
      exact .inr (.inl ⟨p, rfl, ⟨vs, SqT.of h1⟩, k _ H1 c1 f1 s1 (ItOk.tup fun c' H' ex => ⟨vs, SqT.of (ex.keep _ _ h1 h2), h3.mono ex⟩)⟩)
    | str x =>
      cases eq
      exact .inr (.inr ⟨x, rfl, k _ H1 c1 f1 s1 ItOk.str⟩)
    | _ => cases eq
theorem RG.un {K : PySem.W.Frag} {n : Nat} {g : List D → M Unit} {v : V} {σ : L2.St} {H : Hp} {Q : L2.St → Hp → Prop} (q : RG K (unS n g) v σ H Q) : gUn K n (RGs K g) v σ H Q := by
  obtain ⟨Oo, c, t, d, fi, rv, t', eq, k⟩ := q
  cases rv with
  | @tup a vs ds h1 h2 h3 =>
    unfold unS at eq
    by_cases hn : ds.length = n
    · dsimp only at eq
      rw [if_pos hn] at eq
      exact ⟨a, vs, rfl, .inl (SqT.of h1), by rw [h3.length]; exact hn, Oo, c, t, ds, fi, h3, t', eq, k⟩
    · dsimp only at eq
      rw [if_neg hn] at eq; cases eq
  | @lst a vs ds h1 h2 h3 =>
    unfold unS at eq
    by_cases hn : ds.length = n
    · dsimp only at eq
      rw [if_pos hn] at eq
      exact ⟨a, vs, rfl, .inr (SqL.of h1), by rw [h3.length]; exact hn, Oo, c, t, ds, fi, h3, t', eq, k⟩
    · dsimp only at eq
      rw [if_neg hn] at eq; cases eq
  | _ => cases eq
theorem fg_un {es : List Expr} {k n : Nat} {g : List D → M Unit} (hc : X.calm = true) (h : PGs X es (RGs X.K g)) (hn : (assignEach es X.env).length = n := by rfl) (hst : (assignEach es X.env).findIdx? (·.1) = none := by rfl) : PG X (.Tuple es k pos) (RG X.K (unS n g)) :=
  PG_imp (pg_un hc h hn hst) fun _ _ _ _ q => RG.un q
theorem fgs_cons {es : List Expr} {f : D → M Unit} {g : List D → M Unit} (h1 : PG X e (RG X.K f)) (h2 : PGs X es (RGs X.K g)) (hs : (assignEach (e :: es) X.env).map (·.2) = assign e X.env :: (assignEach es X.env).map (·.2) := by rfl) : PGs X (e :: es) (RGs X.K (putCons f g)) :=
  PGs_imp (pgs_cons h1 h2 hs) fun _ _ _ _ q => RGs.cons q
end
section
variable {K : PySem.W.Frag}
noncomputable def rMul4 (K : PySem.W.Frag) : R2 := fun x y H Q => rMul3 K x y H Q ∨ rMulS x y H Q
theorem op_mul4 {X : Cx} : OpR X (binaryOp .Mult) (rMul4 X.K) := op_mul3.or op_mulS
theorem mulOk_small {x : Str} {k : Int} (h : small k = true ∧ x.length * k.toNat ≤ LIM ∧ k ≤ LIM ∧ x.length ≤ LIM) : MulOk x k := by
  obtain ⟨g1, g2⟩ := small_iff h.1
  have hL : LIM = 100000 := rfl
  refine ⟨?_, fun h1 _ => ?_, fun h1 _ => ?_⟩
  · rw [Bool.or_eq_false_iff]; exact ⟨decide_eq_false (by omega), decide_eq_false (by omega)⟩
  · have h2 : k ≤ 100000 := by have := h.2.2.1; rw [hL] at this; exact this
    have h3 : x.length ≤ 100000 := by have := h.2.2.2; rw [hL] at this; exact this
    have h4 : (92233720368547 : Int) ≤ (2 ^ 63 - 1) / k := by
      rw [Int.le_ediv_iff_mul_le (by omega)]
      omega
    omega
  · have h5 := h.2.1
    rw [hL] at h5
    unfold Builtin.Str.tooLong
    first | exact decide_eq_false (by unfold sizeLine; omega) | (unfold sizeLine; exact decide_eq_false (by omega))
theorem sem_mul4 : Sem2 K (rMul4 K) mul4 := fun {Oo c t σ H x y dx dy r t' Q} f rx ry eq k => by
  unfold mul4 at eq
  split at eq
  · next z kk =>
    split at eq
    · next h =>
      cases eq
      cases rx
      cases ry
      exact .inr ⟨z, kk, rfl, rfl, mulOk_small h, k _ H c f .refl (.str _)⟩
    · cases eq
  · exact .inl (sem_mul f rx ry eq k)
theorem sem_cmp {g : Int → Int → Bool} {h : List Nat → List Nat → Bool} : Sem2 K (rCmp g h) (cmpA g h) := fun {Oo c t σ H x y dx dy r t' Q} f rx ry eq k => by
  cases rx with
  | int i => cases ry with
    | int j => cases eq; exact .inl ⟨i, j, rfl, rfl, k _ H c f .refl (.bl _)⟩
    | _ => cases eq
  | str i => cases ry with
    | str j => cases eq; exact .inr ⟨i, j, rfl, rfl, k _ H c f .refl (.bl _)⟩
    | _ => cases eq
  | _ => cases eq
theorem sem_ltA : Sem2 K (rCmp (fun i j => decide (i < j)) fun i j => decide (i < j)) ltA := sem_cmp
theorem sem_gtA : Sem2 K (rCmp (fun i j => decide (j < i)) fun i j => decide (j < i)) gtA := sem_cmp
end
theorem fn_ok2 {P : Program} {w : World} {K : PySem.W.Frag} {mg : Str → Option Value} {base : Heap} {x qual : Str} {st : Stmt} {fa : Addr} {fd : FuncData} {N ps : List Str} {k n m : Nat} {g : M Out} (e1 : ps.length = n) (e2 : N.length = m) (F : Fun K x qual st fa fd) (S : FnScope N ps (defScope st))
    (hb : ∀ (cdv : Value) (A : Around) (outer : List Env) (s : Shared) (H : Hp) (E : XK), Room k (A.deeper (PyProof.Rows.envOfC qual (defScope st) s.heap.objs.size fa cdv)) →
      PSs (cxOf CX0 P w K mg base N qual (defScope st) fa cdv A outer s H E).nox (defBody st) (RS K g)) : FnOk P w K mg base CX0 (k + 1) fa fd ps (spF K (fnOf n m g)) := by
  subst e1 e2
  exact fn_ok F S hb
theorem run_ok {P : Program} {w : World} {K : PySem.W.Frag} {mg : Str → Option Value} {base : Heap} {fa : Addr} {fd : FuncData} {ps : List Str} {k : Nat} {f g : Fn} (e : f = g) (h : FnOk P w K mg base CX0 k fa fd ps (spF K g)) : FnOk P w K mg base CX0 k fa fd ps (spF K f) := by rw [e]; exact h
theorem bt_len : bootBuiltins "len" = some (.builtin "len") := by decide +kernel
theorem bt_sorted : bootBuiltins "sorted" = some (.builtin "sorted") := by decide +kernel
theorem bt_list : bootBuiltins "list" = some (.type "list") := by decide +kernel
/-! ### arguments without stars, by a look that is cheap -/
noncomputable def isStar : Expr → Bool
  | .Starred _ _ => true
  | _ => false
theorem star_ne {e : Expr} {es : List Expr} {env : Env} (h : isStar e = false) : starEach (e :: es) env = (false, eval e env) :: starEach es env := by
  cases e <;> first | rfl | cases h
noncomputable def noStars (es : List Expr) : Bool := es.all fun e => !isStar e
theorem stars_false : ∀ {es : List Expr} {env : Env} {p : Pos}, noStars es = true → (backTo p (starEach es env)).any (·.1) = false ∧ (backTo p (starEach es env)).all (fun x => !x.1) = true
  | [], env, p, _ => ⟨rfl, rfl⟩
  | e :: es, env, p, h => by
    have h' : isStar e = false ∧ noStars es = true := by
      rw [noStars, List.all_cons, Bool.and_eq_true] at h
      exact ⟨by simpa using h.1, h.2⟩
    obtain ⟨h1, h2⟩ := stars_false (es := es) (env := env) (p := p) h'.2
    rw [star_ne h'.1]
    refine ⟨?_, ?_⟩
    · show (false || (backTo p (starEach es env)).any (·.1)) = false
      rw [h1]; rfl
    · show (!false && (backTo p (starEach es env)).all (fun x => !x.1)) = true
      rw [h2]; rfl
section
variable {X : Cx} {e a b : Expr} {es : List Expr} {pos : Pos}
theorem fa_consP {f : M D} {g : M (List D)} (ha : PE X e (RE X.K f)) (hr : PA X es (RA X.K g)) (hs : isStar e = false := by rfl) : PA X (e :: es) (RA X.K (fCons f g)) := fa_cons ha hr (star_ne hs)
theorem fe_callP {k : Nat} {fa : Addr} {fd : FuncData} {ps : List Str} {g : Fn} {f : M (List D)} {x : Str} {p : Pos} (F : FnOk X.prog X.w X.K X.mg X.base CX0 k fa fd ps (spF X.K g)) (hr : Room k X.A) (hg : Gl X x) (hm : X.mg x = some (.ref fa)) (hk : PySem.W.keepIn X.K (.ref fa) = true) (hb : Binds X.K fd ps [])
    (ha : PA X (e :: es) (RA X.K f)) (hdb : (x == ("__debug__" : Str)) = false := by decide) (h1 : isStar e = false := by rfl) (h2 : noStars es = true := by rfl) :
    PE X (.Call (.Name x p) (e :: es) [] pos) (RE X.K (fCall g f)) := fe_call F hr hg hm hk hb ha hdb (star_ne h1) (stars_false h2).1
theorem fe_BP {id : String} {R : List V → Hp → VK → Prop} {h : List D → M D} {f : M (List D)} {x : Str} {p : Pos} (hc : CallR X (.builtin id) R) (s : SemN X.K R h) (hg : Gl X x) (hm : X.mg x = none) (hv : bootBuiltins x = some (.builtin id)) (ha : PA X (e :: es) (RA X.K f)) (hn : x ≠ "__name__" := by decide) (hdb : (x == ("__debug__" : Str)) = false := by decide)
    (h1 : isStar e = false := by rfl) (h2 : noStars es = true := by rfl) : PE X (.Call (.Name x p) (e :: es) [] pos) (RE X.K (fB f h)) := fe_B hc s hg hm hv ha hn hdb (star_ne h1) (stars_false h2).1
theorem ff_TP {id : String} {R : List V → Hp → VK → Prop} {h : List D → M (List D)} {f : M (List D)} {x : Str} {p : Pos} (hc : CallR X (.type id) R) (s : SemNF X.K R h) (hg : Gl X x) (hm : X.mg x = none) (hv : bootBuiltins x = some (.type id)) (ha : PA X (e :: es) (RA X.K f)) (hn : x ≠ "__name__" := by decide) (hdb : (x == ("__debug__" : Str)) = false := by decide)
    (h1 : isStar e = false := by rfl) (h2 : noStars es = true := by rfl) : PE X (.Call (.Name x p) (e :: es) [] pos) (RF X.K (fBF f h)) := ff_T hc s hg hm hv ha hn hdb (star_ne h1) (stars_false h2).1
theorem fi_range1P {tg : Expr} {f : M (List D)} {p : Pos} (hg : Gl X "range") (hm : X.mg "range" = none) (ha : PA X [a] (RA X.K f)) (h1 : isStar a = false := by rfl) : PI X tg (.Call (.Name "range" p) [a] [] pos) (RI X.K (fRng1 f)) := fi_range1 hg hm ha (star_ne h1)
theorem few_of {cpos : Pos} (h1 : isStar e = false) (h2 : noStars es = true) (h3 : es.length < 20) : ((backTo cpos (starEach (e :: es) X.env)).all (fun x => !x.1) && (backToKw cpos (keywordEach [] X.env)).all (fun x => x.1.isSome) && decide ((e :: es).length + ([] : List Keyword).length + (if ([] : List Keyword).isEmpty then 0 else 1) < 30)) = true := by
  rw [(stars_false (es := e :: es) (env := X.env) (p := cpos) (by rw [noStars, List.all_cons, h1]; exact h2)).2]
  show (true && true && decide (es.length + 1 + 0 + 0 < 30)) = true
  simp; omega
theorem fs_appOwnP {μ : Cf → Hp → D → (V → Hp → Prop) → Prop} (i : Nat) {x : Str} {g : M (List D)} {px apos cpos : Pos} (ha : PA X (e :: es) (RA X.K g)) (hN : X.N[i]? = some x := by rfl) (hv : Vis X.env.scope x := by first | exact Or.inl rfl | exact Or.inr (Or.inl rfl) | exact Or.inr (Or.inr rfl)) (hd : (x == ("__debug__" : Str)) = false := by decide)
    (hcd : (x == ("__classdict__" : Str)) = false := by decide) (hline : (apos.endLine == cpos.line) = true := by rfl) (h1 : isStar e = false := by rfl) (h2 : noStars es = true := by rfl) (h3 : es.length < 20 := by decide) :
    PS X (.Expr (.Call (.Attribute (.Name x px) "append" apos) (e :: es) [] cpos) pos) (RSg X.K μ (ownM i app1 g)) := fs_appOwn i ha hN hv hd hcd rfl (few_of h1 h2 h3) hline (star_ne h1) (stars_false h2).1
end
end F2

set_option Elab.async false
set_option linter.all false
set_option maxRecDepth 100000
set_option maxHeartbeats 4000000
set_option autoImplicit false
namespace HT
open PySem PySem.Spec L2 PyProof.Rows
section
variable {prog : Program} {w : World} {A : Around} {E : Value → Shared → Prop} {s : Shared}
/-! ### t[::-1] -/
end
end HT
namespace L2
open PySem PySem.Spec PyProof.Rows
section
variable {X : Cx} {e ek : Expr} {p2 pos : Pos} {te : TE} {tk : TO}
end
/-! ### x.join(list of short texts) -/
section
variable {X : Cx}
end
/-! ### list(text) -/
section
variable {X : Cx}
end
/-! ### max of a list of ints -/
section
variable {X : Cx}
end
end L2
namespace F2
open PySem L2 PySem.Spec
section
variable {X : Cx} {K : PySem.W.Frag}
/-! ### min of three -/
/-! ### t[::-1] -/
/-! ### x.join(list) -/
/-! ### list(text) -/
/-! ### max of a list of ints -/
end
end F2

set_option Elab.async false
set_option linter.all false
set_option maxRecDepth 100000
namespace L2
open PySem PySem.Spec PyProof.Rows
/-! ### lists of pairs as tables -/
section
variable {κ : Type} [DecidableEq κ]
noncomputable def valV (kvs : List (κ × V)) (k : κ) : Option V := (kvs.find? fun kv => decide (kv.1 = k)).map (·.2)
/-- in its place, or at the end -/
noncomputable def putK (kvs : List (κ × V)) (k : κ) (v : V) : List (κ × V) :=
  if (kvs.any fun kv => decide (kv.1 = k)) = true then kvs.map (fun kv => if kv.1 = k then (kv.1, v) else kv) else kvs ++ [(k, v)]
theorem valV_pos {p : κ × V} {r : List (κ × V)} {k : κ} (e : p.1 = k) : valV (p :: r) k = some p.2 := by simp [valV, List.find?_cons, e]
theorem valV_neg {p : κ × V} {r : List (κ × V)} {k : κ} (e : ¬ p.1 = k) : valV (p :: r) k = valV r k := by simp [valV, List.find?_cons, e]
theorem length_putK (kvs : List (κ × V)) (k : κ) (v : V) : (putK kvs k v).length ≤ kvs.length + 1 := by
  unfold putK
  split
  · rw [List.length_map]; omega
  · rw [List.length_append, List.length_cons, List.length_nil]; omega
theorem RelO.isSome_eq {o : Option V} {u : Option Value} (r : RelO o u) : o.isSome = u.isSome := by
  cases o with
  | none => cases u with
    | none => rfl
    | some _ => exact (show False from r).elim
  | some _ => cases u with
    | none => exact (show False from r).elim
    | some _ => rfl
/-- raw tables of the same keys -/
theorem KV.val {kvs : List (κ × V)} {vs : List (κ × Value)} (r : KV kvs vs) (k : κ) : RelO (valV kvs k) (valueAt vs k) := by
  unfold KV at r
  induction r with
  | nil => exact True.intro
  | @cons p q ps qs h t ih =>
    obtain ⟨h1, h2⟩ := h
    by_cases e : p.1 = k
    · have e' : q.1 = k := h1.symm.trans e
      have b : valueAt (q :: qs) k = some q.2 := by simp [valueAt, List.find?_cons, e']
      rw [valV_pos e, b]; exact h2
    · have e' : ¬ q.1 = k := fun z => e (h1.trans z)
      have b : valueAt (q :: qs) k = valueAt qs k := by simp [valueAt, List.find?_cons, e']
      rw [valV_neg e, b]; exact ih
theorem KV.any {kvs : List (κ × V)} {vs : List (κ × Value)} (r : KV kvs vs) (k : κ) : (kvs.any fun kv => decide (kv.1 = k)) = vs.any fun kv => decide (kv.1 = k) := by
  unfold KV at r
  induction r with
  | nil => rfl
  | cons h t ih => rw [List.any_cons, List.any_cons, ih, h.1]
theorem KV.repl {kvs : List (κ × V)} {vs : List (κ × Value)} (r : KV kvs vs) (k : κ) {y : V} {u : Value} (ry : RelV y u) :
    KV (kvs.map fun kv => if kv.1 = k then (kv.1, y) else kv) (vs.map fun kv => if kv.1 = k then (kv.1, u) else kv) := by
  unfold KV at r ⊢
  induction r with
  | nil => exact .nil
  | @cons p q ps qs h t ih =>
    rw [List.map_cons, List.map_cons]
    refine .cons ?_ ih
    obtain ⟨h1, h2⟩ := h
    by_cases e : p.1 = k
    · rw [if_pos e, if_pos (h1.symm.trans e)]; exact ⟨h1, ry⟩
    · rw [if_neg e, if_neg (fun z => e (h1.trans z))]; exact ⟨h1, h2⟩
theorem KV.put {kvs : List (κ × V)} {vs : List (κ × Value)} (r : KV kvs vs) (k : κ) {y : V} {u : Value} (ry : RelV y u) : KV (putK kvs k y) (stored vs k u) := by
  unfold putK stored
  rw [r.any k]
  by_cases e : (vs.any fun kv => decide (kv.1 = k)) = true
  · rw [if_pos e, if_pos e]; exact r.repl k ry
  · rw [if_neg e, if_neg e]; exact Paired.snoc r ⟨rfl, ry⟩
theorem KV.keys {kvs : List (κ × V)} {vs : List (κ × Value)} (r : KV kvs vs) : kvs.map (·.1) = vs.map (·.1) := by
  unfold KV at r
  induction r with
  | nil => rfl
  | cons h t ih => rw [List.map_cons, List.map_cons, ih, h.1]
theorem KV.length {kvs : List (κ × V)} {vs : List (κ × Value)} (r : KV kvs vs) : kvs.length = vs.length := Paired.length r
end


/-! ### a tracked dict, its keys ints and texts or tuples of these -/
theorem kV_is {P : Program} {w : World} {k : Key} {u : Value} (r : RelV (kV k) u) : (mixKind P w).is k u = true := by
  cases k with
  | inl i => obtain ⟨t, e⟩ := (show ∃ t, u = Value.int i t from r); subst e; exact mixKind_int P w i t
  | inr x => obtain ⟨t, e⟩ := (show ∃ t, u = Value.str x t from r); subst e; exact mixKind_str P w x t
theorem items_are {P : Program} {w : World} : ∀ {ks : List Key} {us : List Value}, Vals (ks.map kV) us → ItemsAre (mixKind P w) ks us
  | [], _, r => by rw [List.map_nil] at r; cases r; exact .nil
  | k :: ks, _, r => by
    rw [List.map_cons] at r
    cases r with
    | cons h t => exact .cons (kV_is h) (items_are t)

/-- raw entries of a dict with tuple keys -/
abbrev KT (H : Hp) : List (List Key × V) → List (List Key × Addr × Value) → Prop := Paired fun p q => p.1 = q.1 ∧ H q.2.1 = some (.tup (p.1.map kV)) ∧ RelV p.2 q.2.2
theorem KT.val {H : Hp} {kvs : List (List Key × V)} {xs : List (List Key × Addr × Value)} (r : KT H kvs xs) (k : List Key) : RelO (valV kvs k) ((atKey xs k).map (·.2)) := by
  induction r with
  | nil => exact True.intro
  | @cons p q ps qs h t ih =>
    obtain ⟨h1, _, h2⟩ := h
    by_cases e : p.1 = k
    · have e' : q.1 = k := h1.symm.trans e
      have b : atKey (q :: qs) k = some q.2 := by simp [atKey, List.find?_cons, e']
      rw [valV_pos e, b]; exact h2
    · have e' : ¬ q.1 = k := fun z => e (h1.trans z)
      have b : atKey (q :: qs) k = atKey qs k := by simp [atKey, List.find?_cons, e']
      rw [valV_neg e, b]; exact ih
theorem KT.keeps {H H' : Hp} {kvs : List (List Key × V)} {xs : List (List Key × Addr × Value)} (r : KT H kvs xs) (ht : ∀ b ys, H b = some (.tup ys) → H' b = some (.tup ys)) : KT H' kvs xs :=
  Paired.mapP r fun _ _ z => ⟨z.1, ht _ _ z.2.1, z.2.2⟩

section
variable {P : Program} {w : World} {H : Hp} {h : Heap} {a : Addr}
theorem rd_of {u : HO} (ok : HOk P w H h) (e : Rd H a u) : ObjOk P w H h a u := e.ok ok
theorem dk_rd {kvs : List (Key × V)} (ok : HOk P w H h) (e : Rd H a (.dK kvs)) : kvs.length ≤ sizeLine ∧ (a == sysModules) = false ∧ ∃ vs, KV kvs vs ∧ h.DictOf (mixKind P w) a vs :=
  show ObjOk P w H h a (.dK kvs) from rd_of ok e
theorem dk_of {kvs : List (Key × V)} (ok : HOk P w H h) (e : H a = some (.dK kvs)) : kvs.length ≤ sizeLine ∧ (a == sysModules) = false ∧ ∃ vs, KV kvs vs ∧ h.DictOf (mixKind P w) a vs := dk_rd ok (.inl e)
/-- a tracked tuple of ints and texts is a key -/
theorem key_of {ks : List Key} (ok : HOk P w H h) (e : H a = some (.tup (ks.map kV))) : (tupleKind (mixKind P w)).is h ks a := by
  obtain ⟨_, its, r, o, h1, h2, n, h3⟩ := (show ObjOk P w H h a (.tup (ks.map kV)) from ok a _ e)
  exact ⟨o, its.toArray, n, h1, h2, h3, by simpa using items_are r⟩
theorem dt_rd {kvs : List (List Key × V)} (ok : HOk P w H h) (e : Rd H a (.dT kvs)) : kvs.length ≤ sizeLine ∧ (a == sysModules) = false ∧
    ∃ xs, KT H kvs xs ∧ h.DictOfH (tupleKind (mixKind P w)) a xs := by
  obtain ⟨z, y, xs, r, o, es, ep, h1, h2, h3, h4, h5⟩ := (show ObjOk P w H h a (.dT kvs) from rd_of ok e)
  refine ⟨z, y, xs, r, o, es, ep, h1, h2, h3, h4, fun x hx => ?_, h5⟩
  have all : ∀ {l : List (List Key × V)} {m : List (List Key × Addr × Value)}, KT H l m → ∀ x ∈ m, (tupleKind (mixKind P w)).is h x.1 x.2.1 := by
    intro l m q
    induction q with
    | nil => intro x hx; exact nomatch hx
    | @cons p q ps qs hq t ih =>
      intro x hx
      rcases List.mem_cons.mp hx with e | hx
      · subst e
        exact key_of ok (by rw [← hq.1]; exact hq.2.1)
      · exact ih x hx
  exact all r x hx
end

/-- what the dict at a holds at the key y -/
noncomputable def DGet (H : Hp) (a : Addr) (y : V) (r : Option V) : Prop :=
  (∃ kvs k, Rd H a (.dK kvs) ∧ y = kV k ∧ r = valV kvs k) ∨ ∃ kvs k b, Rd H a (.dT kvs) ∧ y = .ref b ∧ H b = some (.tup (k.map kV)) ∧ r = valV kvs k
/-- the heap behind a[y] = v -/
noncomputable def DPut (H : Hp) (a : Addr) (y v : V) (H' : Hp) : Prop :=
  (∃ kvs k, H a = some (.dK kvs) ∧ y = kV k ∧ kvs.length < sizeLine ∧ H' = upd H a (.dK (putK kvs k v))) ∨
  ∃ kvs k b, H a = some (.dT kvs) ∧ y = .ref b ∧ H b = some (.tup (k.map kV)) ∧ kvs.length < sizeLine ∧ H' = upd H a (.dT (putK kvs k v))
theorem DGet.k {H : Hp} {a : Addr} {kvs : List (Key × V)} {k : Key} (e : H a = some (.dK kvs)) : DGet H a (kV k) (valV kvs k) := .inl ⟨kvs, k, .inl e, rfl, rfl⟩
theorem DGet.t {H : Hp} {a b : Addr} {kvs : List (List Key × V)} {k : List Key} (e : H a = some (.dT kvs)) (eb : H b = some (.tup (k.map kV))) : DGet H a (.ref b) (valV kvs k) := .inr ⟨kvs, k, b, .inl e, rfl, eb, rfl⟩
theorem DPut.k {H : Hp} {a : Addr} {kvs : List (Key × V)} {k : Key} {v : V} (e : H a = some (.dK kvs)) (hl : kvs.length < sizeLine) : DPut H a (kV k) v (upd H a (.dK (putK kvs k v))) := .inl ⟨kvs, k, e, rfl, hl, rfl⟩
theorem DPut.t {H : Hp} {a b : Addr} {kvs : List (List Key × V)} {k : List Key} {v : V} (e : H a = some (.dT kvs)) (eb : H b = some (.tup (k.map kV))) (hl : kvs.length < sizeLine) :
    DPut H a (.ref b) v (upd H a (.dT (putK kvs k v))) := .inr ⟨kvs, k, b, e, rfl, eb, hl, rfl⟩


section
variable {X : Cx} {pins : List (Addr × Obj)} {σ : St} {H : Hp} {s : Shared} {a : Addr} {y v : V} {u r : Value} {o : Option V} {A : Around} {E : Value → Shared → Prop}

theorem Inv.big (I : Inv X pins σ H s) : sysModules < s.heap.objs.size := by
  have h : mainGlobals < s.heap.objs.size := (I.mod.glob.keeps I.bk).lt
  exact Nat.lt_trans (by decide) h

theorem d_notIn {Q : Value → Shared → Prop} (hu : A.units + 1 < cLine) (I : Inv X pins σ H s) (g : DGet H a y o) (ry : RelV y u) (h : ∀ s', Inv X pins σ H s' → Q (.bool (!o.isSome)) s') :
    wpAny (model X.prog X.w) A (compareOp .NotIn u (.ref a)) Q E s := by
  rcases g with ⟨kvs, k, e, ey, l⟩ | ⟨kvs, k, b, e, ey, eb, l⟩
  · subst ey
    obtain ⟨z, hd, vs, rel, dd⟩ := dk_rd I.hok e
    refine wpAny_notIn_of (kV_is ry) hd dd.mapOf ?_
    rw [← (rel.val k).isSome_eq, ← l]
    exact h _ (I.tok _)
  · subst ey
    cases (show u = Value.ref b from ry)
    obtain ⟨z, hd, xs, rel, dd⟩ := dt_rd I.hok e
    refine wpAny_notIn_heap (tupleKind_room_in1 hu) (key_of I.hok eb) hd dd ?_
    have q := (rel.val k).isSome_eq
    rw [Option.isSome_map] at q
    rw [← q, ← l]
    exact h _ (I.tok _)
/-- a dict's object is replaced -/
theorem d_write {h' : Heap} {t' : Nat} {ob : HO} (I : Inv X pins σ H s) (mu : Mut (H a)) (hs : Heap.SameBut a s.heap h') (he : ∃ q, h'.get? a = some q) (new : ObjOk X.prog X.w (upd H a ob) h' a ob) :
    Inv X pins σ (upd H a ob) { s with heap := h', toks := t' } :=
  I.write (x := a) (e := a) mu (.inl rfl) (fun b q hb z => (hs.2 b hb).trans z) he new
theorem dk_new {P : Program} {w : World} {H' : Hp} {h' : Heap} {kvs : List (Key × V)} {vs : List (Key × Value)} (z : kvs.length ≤ sizeLine) (hd : (a == sysModules) = false) (rel : KV kvs vs) (dd : h'.DictOf (mixKind P w) a vs) :
    ObjOk P w H' h' a (.dK kvs) := ⟨z, hd, vs, rel, dd⟩
end

section
variable {X : Cx} {pins : List (Addr × Obj)} {σ : St} {H : Hp} {s : Shared} {a : Addr} {kvs : List (Key × V)} {k : Key} {u : Value} {A : Around} {E : Value → Shared → Prop}
end


/-! ### readings and rules -/
section
variable {X : Cx} {o i e value : Expr} {pos pos' tpos : Pos} {td ty tv : TE}
end


/-! ### displays -/
theorem dk_empty {P : Program} {w : World} {H : Hp} (h : Heap) (hb : sysModules < h.objs.size) : ObjOk P w H (h.push { cls := .type "dict", data := .dict #[] }) h.objs.size (.dK []) :=
  ⟨Nat.zero_le _, beq_eq_false_iff_ne.mpr (Ne.symm (Nat.ne_of_lt hb)), [], .nil, Heap.DictOf.new h⟩
section
variable {X : Cx} {pos : Pos}
end

/-- the pairs of a display, from the left -/
noncomputable def tPairs : List (TE × TE) → St → Hp → (List (V × V) → Hp → Prop) → Prop
  | [], _, H, Q => Q [] H
  | (tk, tv) :: r, σ, H, Q => tk σ H fun x H1 => tv σ H1 fun y H2 => tPairs r σ H2 fun ps H3 => Q ((x, y) :: ps) H3
abbrev VV : List (V × V) → List (Value × Value) → Prop := Paired fun p q => RelV p.1 q.1 ∧ RelV p.2 q.2
noncomputable def PPs (X : Cx) (pos : Pos) (keys : List (Option Expr)) (values : List Expr) (trs : List (TE × TE)) : Prop :=
  ∀ (pins : List (Addr × Obj)) (s : Shared) (σ : St) (H : Hp) (Q : List (V × V) → Hp → Prop), Inv X pins σ H s → tPairs trs σ H Q →
    wpAny (model X.prog X.w) X.A (evalPairs (pairTrees keys values X.env pos)) (fun vs s' => ∃ ps H', Inv X pins σ H' s' ∧ VV ps vs ∧ Q ps H') X.xe s
theorem pps_nil {X : Cx} {pos : Pos} : PPs X pos [] [] [] := fun pins s σ H Q I h => pairTrees_nil_walk ⟨[], H, I, .nil, h⟩
theorem pps_cons {X : Cx} {pos : Pos} {k v : Expr} {ks : List (Option Expr)} {vs : List Expr} {tk tv : TE} {trs : List (TE × TE)} (hk : PE X k tk) (hv : PE X v tv) (hr : PPs X pos ks vs trs) :
    PPs X pos (some k :: ks) (v :: vs) ((tk, tv) :: trs) := fun pins s σ H Q I h =>
  pairTrees_cons_walk (thn (hk pins s σ H _ I h) fun u s1 ⟨x, H1, I1, rx, q1⟩ => thn (hv pins s1 σ H1 _ I1 q1) fun w2 s2 ⟨y, H2, I2, ry, q2⟩ =>
    thn (hr pins s2 σ H2 _ I2 q2) fun ws s3 ⟨ps, H3, I3, rel, q3⟩ => ⟨(x, y) :: ps, H3, I3, .cons ⟨rx, ry⟩ rel, q3⟩)

noncomputable def mergeK (kvs more : List (Key × V)) : List (Key × V) := more.foldl (fun acc kv => putK acc kv.1 kv.2) kvs
theorem KV.merge : ∀ {more : List (Key × V)} {rs : List (Key × Value)} {kvs : List (Key × V)} {vs : List (Key × Value)}, KV more rs → KV kvs vs → KV (mergeK kvs more) (merged vs rs) := by
  intro more rs kvs vs r
  unfold KV at r
  induction r generalizing kvs vs with
  | nil => intro q; exact q
  | @cons p q ps qs h t ih =>
    intro r0
    have e : KV (putK kvs p.1 p.2) (stored vs q.1 q.2) := by
      have := r0.put p.1 h.2
      rw [← h.1]; exact this
    exact ih e
theorem length_mergeK : ∀ (more kvs : List (Key × V)), (mergeK kvs more).length ≤ kvs.length + more.length
  | [], kvs => by show kvs.length ≤ kvs.length + 0; omega
  | p :: r, kvs => by
    have h1 := length_mergeK r (putK kvs p.1 p.2)
    have h2 := length_putK kvs p.1 p.2
    show (mergeK (putK kvs p.1 p.2) r).length ≤ _
    rw [List.length_cons]; omega
theorem carries_of {P : Program} {w : World} : ∀ {kvs : List (Key × V)} {ws : List (Value × Value)}, VV (kvs.map fun kv => (kV kv.1, kv.2)) ws → ∃ rs, Carries (mixKind P w) ws rs ∧ KV kvs rs
  | [], _, r => by rw [List.map_nil] at r; cases r; exact ⟨[], True.intro, .nil⟩
  | p :: kvs, _, r => by
    rw [List.map_cons] at r
    cases r with
    | @cons a b as bs h t =>
      obtain ⟨rs, c, q⟩ := carries_of (P := P) (w := w) t
      obtain ⟨b1, b2⟩ := b
      exact ⟨(p.1, b2) :: rs, ⟨kV_is h.1, rfl, c⟩, .cons ⟨rfl, h.2⟩ q⟩
/-- {k: v, ..} with keys ints and texts; the new dict stands empty while the pairs are made -/
noncomputable def tDisp (trs : List (TE × TE)) : TE := fun σ H Q => ∀ p, H p = none → tPairs trs σ (upd H p (.dK [])) fun ps H2 => H2 p = some (.dK []) ∧ ∃ kvs : List (Key × V), ps = kvs.map (fun kv => (kV kv.1, kv.2)) ∧ kvs.length ≤ 15 ∧ Q (.ref p) (upd H2 p (.dK (mergeK [] kvs)))
theorem pe_disp {X : Cx} {pos : Pos} {keys : List (Option Expr)} {values : List Expr} {trs : List (TE × TE)} (h : PPs X pos keys values trs) (hall : keys.all (·.isSome) = true) (hl : keys.length = values.length) (h0 : keys ≠ [])
    (h15 : keys.length ≤ 15) : PE X (.Dict keys values pos) (tDisp trs) := by
  intro pins s σ H Q I q
  have hn := I.hok.fresh (Nat.le_refl s.heap.objs.size)
  have I1 := I.laid (a := s.heap.objs.size) (o := .dK []) (h' := s.heap.push { cls := .type "dict", data := .dict #[] }) (t' := s.toks) (fun _ _ q => Heap.get?_push_of_some _ q) (Nat.le_refl _) (dk_empty s.heap I.big)
  refine wpAny_Dict_walk (knd := mixKind X.prog X.w) hall hl h0 h15 (thn (h pins _ σ _ _ I1 (q _ hn)) fun ws s2 ⟨ps, H2, I2, rel, e, kvs, ep, lk, q2⟩ => ?_)
  subst ep
  obtain ⟨rs, c, rk⟩ := carries_of (P := X.prog) (w := X.w) rel
  obtain ⟨z, hd, vs0, r0, dd⟩ := dk_of I2.hok e
  cases r0
  refine ⟨rs, c, dd, fun h' dd' hs => ⟨.ref s.heap.objs.size, _, ?_, rfl, q2⟩⟩
  have hz : (mergeK [] kvs).length ≤ sizeLine := by
    have h1 := length_mergeK kvs []
    rw [List.length_nil] at h1
    rw [sizeLine_eq]; omega
  have he : ∃ q, h'.get? s.heap.objs.size = some q := let ⟨q, _, _, hq, _⟩ := dd'; ⟨q, hq⟩
  exact d_write I2 (by rw [e]; exact True.intro) hs he (dk_new hz hd (rk.merge .nil) dd')


end L2

set_option Elab.async false
set_option linter.all false
set_option maxRecDepth 100000
set_option maxHeartbeats 4000000
set_option autoImplicit false
namespace L2
open PySem PySem.Spec PyProof.Rows
/-! ### a dict with text keys, read and written by values -/
section
variable {X : Cx}
end
end L2
namespace F2
open PySem L2 PySem.Spec
/-! ### dicts with text keys, numbered -/
noncomputable def kvGet (kvs : List (Key × D)) (k : Key) : Option D := (kvs.find? fun kv => decide (kv.1 = k)).map (·.2)
noncomputable def kvPut (kvs : List (Key × D)) (k : Key) (d : D) : List (Key × D) :=
  if (kvs.any fun kv => decide (kv.1 = k)) = true then kvs.map (fun kv => if kv.1 = k then (kv.1, d) else kv) else kvs ++ [(k, d)]
noncomputable def kvMerge (ps : List (Key × D)) : List (Key × D) := ps.foldl (fun acc kv => kvPut acc kv.1 kv.2) []
noncomputable def dispEnd (n : Nat) (ps : List (Key × D)) : M D := fun t => match t.S[n]? with
  | some (.dct []) => if ps.length ≤ 15 then some (.obj n, { t with S := t.S.set n (.dct (kvMerge ps)) }) else none
  | _ => none
/-! ### name[i] of a name's own list -/
section
variable {K : PySem.W.Frag} {c : Cf} {H : Hp}
theorem KVR.get {us : List (Key × V)} {kvs : List (Key × D)} (r : KVR K c H us kvs) (k : Key) {d : D} (e : kvGet kvs k = some d) : ∃ v, valV us k = some v ∧ Rep K c H v d := by
  unfold KVR at r
  induction r with
  | nil => simp [kvGet] at e
  | @cons p q ps qs h t ih =>
    by_cases hk : p.1 = k
    · have hq : q.1 = k := h.1.symm.trans hk
      have : kvGet (q :: qs) k = some q.2 := by simp [kvGet, List.find?_cons, hq]
      rw [this] at e; cases e
      exact ⟨p.2, valV_pos hk, h.2⟩
    · have hq : ¬ q.1 = k := fun z => hk (h.1.trans z)
      have : kvGet (q :: qs) k = kvGet qs k := by simp [kvGet, List.find?_cons, hq]
      rw [this] at e
      rw [valV_neg hk]
      exact ih e
theorem KVR.any {us : List (Key × V)} {kvs : List (Key × D)} (r : KVR K c H us kvs) (k : Key) : (us.any fun kv => decide (kv.1 = k)) = (kvs.any fun kv => decide (kv.1 = k)) := by
  unfold KVR at r
  induction r with
  | nil => rfl
  | @cons p q ps qs h t ih => rw [List.any_cons, List.any_cons, ih, h.1]
theorem KVR.put {us : List (Key × V)} {kvs : List (Key × D)} (r : KVR K c H us kvs) (k : Key) {v : V} {d : D} (rv : Rep K c H v d) : KVR K c H (putK us k v) (kvPut kvs k d) := by
  unfold putK kvPut
  rw [r.any k]
  by_cases q : (kvs.any fun kv => decide (kv.1 = k)) = true
  · rw [if_pos q, if_pos q]
    clear q
    unfold KVR at r ⊢
    induction r with
    | nil => exact .nil
    | @cons p q ps qs h t ih =>
      rw [List.map_cons, List.map_cons]
      refine .cons ?_ ih
      by_cases e : p.1 = k
      · rw [if_pos e, if_pos (h.1.symm.trans e)]; exact ⟨h.1, rv⟩
      · rw [if_neg e, if_neg (fun z => e (h.1.trans z))]; exact h
  · rw [if_neg q, if_neg q]
    exact Paired.snoc r ⟨rfl, rv⟩
theorem KVR.length {us : List (Key × V)} {kvs : List (Key × D)} (r : KVR K c H us kvs) : us.length = kvs.length := Paired.length r
theorem KVR.mono {c' : Cf} {H' : Hp} {us : List (Key × V)} {kvs : List (Key × D)} (e : Ext c H c' H') (r : KVR K c H us kvs) : KVR K c' H' us kvs := Paired.mapP r fun _ _ z => ⟨z.1, z.2.mono e⟩
theorem KVR.merge : ∀ {ps : List (Key × D)} {us : List (Key × V)} {acc : List (Key × D)} {ua : List (Key × V)}, KVR K c H us ps → KVR K c H ua acc → KVR K c H (mergeK ua us) (ps.foldl (fun acc kv => kvPut acc kv.1 kv.2) acc) := by
  intro ps us acc ua r
  unfold KVR at r
  induction r generalizing acc ua with
  | nil => intro q; exact q
  | @cons p q ps qs h t ih =>
    intro r0
    refine ih ?_
    show KVR K c H (putK ua p.1 p.2) (kvPut acc q.1 q.2)
    have := KVR.put r0 p.1 h.2
    rw [← h.1]
    exact this
end
section
variable {X : Cx} {pos : Pos} {e : Expr}
/-- the pairs of a display -/
noncomputable def RP (K : PySem.W.Frag) (f : M (List (Key × D))) (σ : St) (H : Hp) (Q : List (V × V) → Hp → Prop) : Prop :=
  ∃ Oo c t, FInv K Oo c t σ H ∧ ∃ ps t', f t = some (ps, t') ∧ ∀ us H' c', FInv K Oo c' t' σ H' → Stp Oo c H c' H' → KVR K c' H' us ps → Q (us.map fun kv => (kV kv.1, kv.2)) H'
noncomputable def PPf (X : Cx) (pos : Pos) (keys : List (Option Expr)) (values : List Expr) (f : M (List (Key × D))) : Prop :=
  ∃ trs, PPs X pos keys values trs ∧ ∀ σ H Q, RP X.K f σ H Q → tPairs trs σ H Q
end
end F2

set_option Elab.async false
set_option linter.all false
set_option maxRecDepth 100000
set_option maxHeartbeats 4000000
set_option autoImplicit false
namespace L2
open PySem PySem.Spec PyProof.Rows
/-! ### list(range(a, b, c)), c above 0 -/
section
variable {X : Cx}
end
end L2
namespace F2
open PySem L2 PySem.Spec
theorem Reps.rng {K : PySem.W.Frag} {c : Cf} {H : Hp} (f : Nat → Int) : ∀ l : List Nat, Reps K c H (l.map fun i => V.int (f i)) (l.map fun i => D.int (f i))
  | [] => .nil
  | n :: r => .cons (.int _) (Reps.rng f r)
section
variable {X : Cx} {pos : Pos} {e : Expr} {es : List Expr}
end
end F2

set_option Elab.async false
set_option linter.all false
set_option maxRecDepth 100000
set_option maxHeartbeats 4000000
set_option autoImplicit false
namespace L2
open PySem PySem.Spec PyProof.Rows
/-! ### a set of texts, made of a list, and its length -/
section
variable {prog : Program} {w : World} {A : Around} {I : Addr} {fp wr : List Addr} {G : Array GenState → Array GenState → Prop} {n : Nat} {P : Nat → Value → Prop} {St : Nat → Shared → Prop}
end
end L2
namespace L2
open PySem PySem.Spec PyProof.Rows
section
variable {X : Cx}
/-! ### text.upper() -/
end
end L2
namespace F2
open PySem L2 PySem.Spec PyProof.Rows
section
variable {X : Cx} {pos : Pos} {e : Expr}
end
end F2

set_option Elab.async false
set_option linter.all false
set_option maxRecDepth 100000
set_option maxHeartbeats 4000000
set_option autoImplicit false
namespace F2
open PySem L2 PySem.Spec
/-! ### while -/
noncomputable def whileN (f : M Bool) (b : M Out) : Nat → M Out
  | 0 => fun _ => none
  | n + 1 => fun t => match f t with
    | none => none
    | some (false, t1) => some (.next, t1)
    | some (true, t1) => match b t1 with
      | some (.next, t2) => whileN f b n t2
      | some (.cont, t2) => whileN f b n t2
      | some (.brk, t2) => some (.next, t2)
      | some (.ret x, t2) => some (.ret x, t2)
      | none => none
noncomputable def WFUEL : Nat := 1000000
noncomputable def whileS (f : M Bool) (b : M Out) : M Out := whileN f b WFUEL
theorem RS.while {μ : Cf → Hp → D → (V → Hp → Prop) → Prop} {K : PySem.W.Frag} {f : M Bool} {b : M Out} {E : Ends} {σ : L2.St} {H : Hp} (q : RSg K μ (whileS f b) E σ H) : tWhile (RT K f) (RSg K μ b) E σ H := by
  obtain ⟨Oo, c, t, fi, o, t', eq, k⟩ := q
  refine ⟨fun m σ' H' => ∃ c' t2, FInv K Oo c' t2 σ' H' ∧ Stp Oo c H c' H' ∧ whileN f b m t2 = some (o, t'), ⟨WFUEL, c, t, fi, .refl, eq⟩, ?_⟩
  rintro m σ' H' ⟨c', t2, f2, s2, e2⟩
  cases m with
  | zero => cases e2
  | succ m =>
  rw [whileN] at e2
  dsimp only at e2
  cases ef : f t2 with
  | none => rw [ef] at e2; cases e2
  | some p =>
  obtain ⟨r, t3⟩ := p
  rw [ef] at e2
  refine ⟨Oo, c', t2, f2, r, t3, ef, fun H3 c3 f3 s3 => ?_⟩
  cases r with
  | false =>
    cases e2
    exact k σ' H3 c3 f3 (s2.trans s3)
  | true =>
    rw [if_pos rfl]
    dsimp only at e2
    refine ⟨fun σ4 H4 => ∃ c4 t4, FInv K Oo c4 t4 σ4 H4 ∧ Stp Oo c H c4 H4 ∧ whileN f b m t4 = some (o, t'), fun σ4 H4 h => ⟨m, Nat.lt_succ_self m, h⟩, ?_⟩
    cases eb : b t3 with
    | none => rw [eb] at e2; cases e2
    | some p =>
    obtain ⟨ob, t4⟩ := p
    rw [eb] at e2
    refine ⟨Oo, c3, t3, f3, ob, t4, eb, fun σ4 H4 c4 f4 s4 => ?_⟩
    cases ob with
    | next => exact ⟨c4, t4, f4, (s2.trans s3).trans s4, e2⟩
    | cont => exact ⟨c4, t4, f4, (s2.trans s3).trans s4, e2⟩
    | brk =>
      cases e2
      exact k σ4 H4 c4 f4 ((s2.trans s3).trans s4)
    | ret x =>
      cases e2
      exact k σ4 H4 c4 f4 ((s2.trans s3).trans s4)
section
variable {X : Cx} {pos : Pos}
theorem fs_while {μ : Cf → Hp → D → (V → Hp → Prop) → Prop} {e : Expr} {body : List Stmt} {f : M Bool} {b : M Out} (hp : PassesOwn (model X.prog X.w) X.A X.env X.xe) (hc : PT X e (RT X.K f)) (hb : PSs X body (RSg X.K μ b)) : PS X (.While e body [] pos) (RSg X.K μ (whileS f b)) :=
  PS_imp (ps_while hp hc hb) fun _ _ _ q => RS.while q
end
end F2
namespace L2
open PySem PySem.Spec PyProof.Rows
/-! ### sum of a list of ints -/
end L2
namespace F2
open PySem L2 PySem.Spec
end F2

set_option Elab.async false
set_option linter.all false
set_option maxRecDepth 100000
set_option maxHeartbeats 4000000
set_option autoImplicit false
namespace L2
open PySem PySem.Spec PyProof.Rows
/-! ### for k in range(a, b, c), c not 0 -/
section
variable {X : Cx} {tg : Expr}
end
end L2
namespace F2
open PySem L2 PySem.Spec
section
variable {X : Cx} {pos : Pos} {e : Expr} {es : List Expr}
end
end F2

set_option Elab.async false
set_option linter.all false
set_option maxRecDepth 100000
set_option maxHeartbeats 4000000
set_option autoImplicit false
namespace F2
open PySem L2 PySem.Spec
/-! ### defs that tell a list of their own: nothing else names it -/
/-- an own list is given away: it is taken out of the heap, nothing else names it -/
noncomputable def outH (H : Hp) (a : Addr) : Hp := fun b => if b = a then none else H b
section
variable {K : PySem.W.Frag} {Oo : Addr → Prop} {c : Cf} {t : T} {σ : L2.St} {H : Hp}
theorem FInv.out (f : FInv K Oo c t σ H) {i : Nat} {ds : List D} (e : t.env[i]? = some (some (.own ds))) {a : Addr} (ha : σ[i]? = some (some (.ref a))) :
    FInv K Oo ⟨c.ι, fun b => c.O b ∧ b ≠ a⟩ { t with env := t.env.set i none } σ (outH H a) ∧ Stp Oo c H ⟨c.ι, fun b => c.O b ∧ b ≠ a⟩ (outH H a) := by
  obtain ⟨a', vs, g1, g2, g3, g4, g5⟩ := f.own i ds e
  rw [ha] at g1; injection g1 with g1; injection g1 with g1; injection g1 with g1; subst g1
  have ni : a ∉ c.ι := f.s.dis a g2
  have ext : Ext c H ⟨c.ι, fun b => c.O b ∧ b ≠ a⟩ (outH H a) := by
    refine ⟨fun b o hb hn => ?_, fun b o hb z => ?_, fun k b h => h⟩
    · unfold outH; rw [if_neg fun z => hn (by rw [z]; exact .inr g2)]; exact hb
    · rcases z with z | z
      · exact .inl z
      · exact .inr z.1
  have stp : Stp Oo c H ⟨c.ι, fun b => c.O b ∧ b ≠ a⟩ (outH H a) := ⟨ext, fun b hb => by unfold outH; rw [if_neg fun z => g3 (by rw [← z]; exact hb)]⟩
  have old : ∀ {j : Nat} {x : Sl}, (t.env.set i none)[j]? = some (some x) → j ≠ i ∧ t.env[j]? = some (some x) := fun {j x} q => by
    by_cases h : j = i
    · subst h
      rw [List.getElem?_set] at q
      split at q
      · split at q <;> simp at q
      · contradiction
    · exact ⟨h, by rw [List.getElem?_set_ne (Ne.symm h)] at q; exact q⟩
  refine ⟨⟨⟨f.s.len, f.s.nd, fun k b o e1 e2 => ?_, fun b hb => ?_, fun b hb => f.s.dis b hb.1⟩, by simpa using f.len, fun b hb => ⟨f.sub b hb, fun z => g3 (by rw [← z]; exact hb)⟩, fun j d q => ?_, fun j es q => ?_, fun j k es fs b q1 q2 q3 q4 => ?_⟩, stp⟩
  · refine (f.s.obs k b o e1 e2).mono ext ?_
    unfold outH
    rw [if_neg fun z => ni (by rw [← z]; exact List.mem_of_getElem? e1)]
  · obtain ⟨o, ho⟩ := f.s.trk b hb.1
    exact ⟨o, by unfold outH; rw [if_neg hb.2]; exact ho⟩
  · obtain ⟨v, h1, h2⟩ := f.val j d (old q).2
    exact ⟨v, h1, h2.mono ext⟩
  · obtain ⟨nj, q'⟩ := old q
    obtain ⟨b, us, k1, k2, k3, k4, k5⟩ := f.own j es q'
    have nb : b ≠ a := fun z => nj (f.inj j i es ds a q' e (by rw [k1, z]) ha)
    exact ⟨b, us, k1, ⟨k2, nb⟩, k3, by unfold outH; rw [if_neg nb]; exact k4, k5.mono ext⟩
  · exact f.inj j k es fs b (old q1).2 (old q2).2 q3 q4
end
noncomputable def retF (f : M (List D)) : M Out := bnd f fun ds => ret (.ret (.lst ds))
section
variable {X : Cx} {pos : Pos} {e : Expr} {es : List Expr}
theorem fs_retF {f : M (List D)} (h : PE X e (RF X.K f)) : PS X (.Return (some e) pos) (RSg X.K (μF X.K) (retF f)) :=
  PS_imp (ps_ret h) fun E σ H ⟨Oo, c, t, fi, o, t', eq, k⟩ => by
    obtain ⟨ds, t1, e1, eq⟩ := bnd_some eq
    cases eq
    exact ⟨Oo, c, t, fi, ds, _, e1, fun p us H1 c1 f1 s1 ru hp => k σ H1 c1 f1 s1 p us hp ru⟩
/-! ### their promise, and their calls -/
noncomputable def spFF (K : PySem.W.Frag) (f : Fn) : Sp := fun vs H Q _ => ∃ c ds S, SInv K c S H ∧ Reps K c H vs ds ∧ ∃ rs S', f ds S = some (.lst rs, S') ∧
  ∀ p us H' c', SInv K c' S' H' → Stp c.O c H c' H' → (∀ b, c'.O b ↔ c.O b) → Reps K c' H' us rs → H' p = none → Q (.ref p) (upd H' p (.lst us))
abbrev spB (b : Bool) (K : PySem.W.Frag) (f : Fn) : Sp := match b with
  | true => spFF K f
  | false => spF K f
noncomputable def fCallF (g : Fn) (f : M (List D)) : M (List D) := bnd f fun ds t => match g ds t.S with
  | some (.lst rs, S') => some (rs, { t with S := S' })
  | _ => none
theorem callF_some {g : Fn} {ds : List D} {t : T} {rs : List D} {t' : T} (h : (match g ds t.S with | some (.lst rs, S') => some (rs, { t with S := S' }) | _ => none : Option (List D × T)) = some (rs, t')) : ∃ S', g ds t.S = some (.lst rs, S') ∧ t' = { t with S := S' } := by
  split at h
  · next rs' S' e => cases h; exact ⟨S', e, rfl⟩
  · cases h
theorem ff_callP {k : Nat} {fa : Addr} {fd : FuncData} {ps : List Str} {g : Fn} {f : M (List D)} {x : Str} {p : Pos} (F : FnOk X.prog X.w X.K X.mg X.base CX0 k fa fd ps (spFF X.K g)) (hr : Room k X.A) (hg : Gl X x) (hm : X.mg x = some (.ref fa)) (hk : PySem.W.keepIn X.K (.ref fa) = true) (hb : Binds X.K fd ps [])
    (ha : PA X (e :: es) (RA X.K f)) (hdb : (x == ("__debug__" : Str)) = false := by decide) (h1 : isStar e = false := by rfl) (h2 : noStars es = true := by rfl) :
    PE X (.Call (.Name x p) (e :: es) [] pos) (RF X.K (fCallF g f)) :=
  PE_imp (pe_call F hr hg hm hk hb .nil pass0 ha hdb (star_ne h1) (stars_false h2).1) fun σ H Q ⟨Oo, c, t, fi, rs, t', eq, kk⟩ => by
    obtain ⟨ds, t1, e1, eq⟩ := bnd_some eq
    obtain ⟨S', e2, rfl⟩ := callF_some eq
    refine ⟨Oo, c, t, fi, ds, t1, e1, fun vs H1 c1 f1 s1 rvs => ?_⟩
    show spFF X.K g (vs ++ []) H1 Q E0
    rw [List.append_nil]
    refine ⟨c1, ds, t1.S, f1.s, rvs, rs, S', e2, fun p us H' c' si st ho ru hp => ?_⟩
    obtain ⟨f2, s2⟩ := f1.after si st ho
    exact kk p us H' c' f2 (s1.trans s2) ru hp
end
theorem fnF_ok2 {P : Program} {w : World} {K : PySem.W.Frag} {mg : Str → Option Value} {base : Heap} {x qual : Str} {st : Stmt} {fa : Addr} {fd : FuncData} {N ps : List Str} {k n m : Nat} {g : M Out} (e1 : ps.length = n) (e2 : N.length = m) (F : Fun K x qual st fa fd) (S : FnScope N ps (defScope st))
    (hb : ∀ (cdv : Value) (A : Around) (outer : List Env) (s : Shared) (H : Hp) (E : XK), Room k (A.deeper (PyProof.Rows.envOfC qual (defScope st) s.heap.objs.size fa cdv)) →
      PSs (cxOf CX0 P w K mg base N qual (defScope st) fa cdv A outer s H E).nox (defBody st) (RSg K (μF K) g)) : FnOk P w K mg base CX0 (k + 1) fa fd ps (spFF K (fnOf n m g)) := by
  subst e1 e2
  have hlen : ∀ {ds : List D} {S : List Ob} {z : D × List Ob}, fnOf ps.length N.length g ds S = some z → ds.length = ps.length := fun {ds S z} h => by
    unfold fnOf at h
    split at h
    · next h1 => exact h1
    · cases h
  refine F.ok S (fun vs H Q E h => ?_) (fun cdv A outer s H vs Q E hr h => ?_)
  · obtain ⟨c, ds, S, si, rs, r, S', e, _⟩ := h
    rw [rs.length]; exact hlen e
  obtain ⟨c, ds, S0, si, rs, r, S', e, kk⟩ := h
  refine ⟨RSg K (μF K) g, hb cdv A outer s H E hr, ?_⟩
  have hl := hlen e
  unfold fnOf at e
  rw [if_pos hl] at e
  cases eg : g ⟨env0 N.length ds, S0⟩ with
  | none => rw [eg] at e; cases e
  | some p =>
    obtain ⟨o, t⟩ := p
    rw [eg] at e
    refine ⟨c.O, c, _, finv_start si rs, o, t, eg, fun σ' H' c' f' s' => ?_⟩
    obtain ⟨si', ext'⟩ := f'.leave
    have st' : Stp c.O c H ⟨c'.ι, c.O⟩ H' := ⟨s'.ext.trans ext', s'.oo⟩
    cases o with
    | next => cases e
    | ret d =>
      cases e
      exact fun p us hp ru => kk p us H' _ si' st' (fun _ => Iff.rfl) (ru.mono ext') hp
    | brk => cases e
    | cont => cases e
theorem runF_ok {P : Program} {w : World} {K : PySem.W.Frag} {mg : Str → Option Value} {base : Heap} {fa : Addr} {fd : FuncData} {ps : List Str} {k : Nat} {f g : Fn} (e : f = g) (h : FnOk P w K mg base CX0 k fa fd ps (spFF K g)) : FnOk P w K mg base CX0 k fa fd ps (spFF K f) := by rw [e]; exact h
end F2

set_option Elab.async false
set_option linter.all false
set_option maxRecDepth 100000
set_option maxHeartbeats 4000000
set_option autoImplicit false
namespace L2
open PySem PySem.Spec PyProof.Rows
/-! ### int.bit_length(), list.insert(0, x) -/
section
variable {X : Cx}
end
end L2
namespace F2
open PySem L2 PySem.Spec
section
variable {X : Cx} {pos : Pos} {e : Expr} {es : List Expr}
end
end F2

set_option Elab.async false
set_option linter.all false
set_option maxRecDepth 100000
set_option maxHeartbeats 4000000
set_option autoImplicit false
namespace F2
open PySem L2 PySem.Spec
/-! ### a name's own list looked at whole, and not given away: == and !=, a comprehension over it -/
section
variable {X : Cx} {b elt : Expr} {pos : Pos}
end
end F2

set_option Elab.async false
set_option linter.all false
set_option maxRecDepth 100000
set_option maxHeartbeats 4000000
set_option autoImplicit false
namespace L2
open PySem PySem.Spec PyProof.Rows
/-! ### for a, b in enumerate(list): each turn's tuple is a new one -/
end L2
namespace F2
open PySem L2 PySem.Spec
/-- what is walked, each turn's item a new tuple -/
structure ItOk2 (K : PySem.W.Frag) (J : It) (c : Cf) (H : Hp) (ds : List D) : Prop where
  go : ∀ c' H' (i : Nat), Ext c H c' H' → i < ds.length → J.go i H'
  yld : ∀ c' H' (i : Nat) x H'' d, Ext c H c' H' → ds[i]? = some d → J.yld i H' x H'' → ∃ p vs es, x = .ref p ∧ H' p = none ∧ H'' = upd H' p (.tup vs) ∧ d = .tup es ∧ Reps K c' H' vs es
  stop : ∀ c' H', Ext c H c' H' → J.stop ds.length H'
section
variable {X : Cx} {pos : Pos} {e : Expr}
end
end F2

set_option Elab.async false
set_option linter.all false
set_option maxRecDepth 100000
set_option maxHeartbeats 4000000
set_option autoImplicit false
namespace F2
open PySem L2 PySem.Spec
/-! ### a list so many times, for a name of its own -/
end F2
namespace L2
open PySem PySem.Spec PyProof.Rows
/-! ### list(range(b)), list(range(a, b)) -/
section
variable {X : Cx}
end
end L2
namespace F2
open PySem L2 PySem.Spec
section
variable {X : Cx} {pos : Pos} {e : Expr} {es : List Expr}
end
end F2

set_option Elab.async false
set_option linter.all false
set_option maxRecDepth 100000
set_option maxHeartbeats 4000000
set_option autoImplicit false
namespace L2
open PySem PySem.Spec PyProof.Rows
/-! ### xs[::-1] of a list -/
section
variable {X : Cx} {e ek : Expr} {p2 pos : Pos} {te : TE} {tk : TO}
end
end L2
namespace F2
open PySem L2 PySem.Spec
section
variable {X : Cx}
end
end F2

set_option Elab.async false
set_option linter.all false
set_option maxRecDepth 100000
set_option maxHeartbeats 4000000
set_option autoImplicit false
namespace L2
open PySem PySem.Spec PyProof.Rows
/-! ### [f, g][i](e, ..) -/
section
variable {X : Cx}
/-! ### all of a list of truths -/
end
end L2
namespace F2
open PySem L2 PySem.Spec
noncomputable def blsOf : List D → Option (List Bool)
  | [] => some []
  | .bl b :: r => (blsOf r).map (b :: ·)
  | _ => none
theorem bls_rep {K : PySem.W.Frag} {c : Cf} {H : Hp} : ∀ {ds : List D} {vs : List V} {bs : List Bool}, Reps K c H vs ds → blsOf ds = some bs → vs = bs.map V.bl
  | [], _, bs, r, e => by cases r; cases e; rfl
  | d :: ds, _, bs, r, e => by
    cases r with
    | cons r1 r2 =>
      cases r1 with
      | bl b =>
        rw [blsOf] at e
        obtain ⟨bs', e1, rfl⟩ := Option.map_eq_some_iff.mp e
        rw [List.map_cons, bls_rep r2 e1]
      | _ => cases e
section
variable {X : Cx} {pos : Pos}
end
end F2

set_option Elab.async false
set_option linter.all false
set_option maxRecDepth 100000
set_option maxHeartbeats 4000000
set_option autoImplicit false
namespace L2
open PySem PySem.Spec PyProof.Rows
/-! ### // by a positive divisor below 2 ** 64 -/
section
variable {X : Cx}
end
end L2
namespace F2
open PySem L2 PySem.Spec
end F2

set_option Elab.async false
set_option linter.all false
set_option maxRecDepth 100000
set_option maxHeartbeats 4000000
set_option autoImplicit false
namespace L2
open PySem PySem.Spec PyProof.Rows
section
variable {P : Program} {w : World} {A : Around} {E : Value → Shared → Prop} {s : Shared}
structure ZT (h : Heap) (z TI TO i1 i2 t1 t2 : Addr) (n : Nat) : Prop where
  zz : IsZip h z TI TO .none
  ti : IsPair h TI (.ref i1) (.ref i2)
  ot : ∃ a b, IsPair h TO a b
  p1 : h.IsTupleIter i1 t1 n
  p2 : h.IsTupleIter i2 t2 n
end
section
variable {P : Program} {w : World} {A : Around} {E : Value → Shared → Prop} {s : Shared}
end
end L2
namespace F2
open PySem L2 PySem.Spec
/-! ### pairs of two tuples' items -/
section
variable {X : Cx} {e a b tg iter elt : Expr} {ifs : List Expr} {pos : Pos} {scope : Scope} {N' : List Str} {n : Nat} {fr : List Nat} {f : M (List D)} {st : D → M Unit} {tst : M Bool} {el : M D}
end
end F2

set_option Elab.async false
set_option linter.all false
set_option maxRecDepth 100000
set_option maxHeartbeats 4000000
set_option autoImplicit false
namespace L2
open PySem PySem.Spec PyProof.Rows
/-! ### products of long numbers -/
section
variable {X : Cx}
end
/-! ### sorted of a list of ints -/
noncomputable def insZ (n : Int) : List Int → List Int
  | [] => [n]
  | m :: r => if n ≤ m then n :: m :: r else m :: insZ n r
noncomputable def srtZ : List Int → List Int
  | [] => []
  | n :: r => insZ n (srtZ r)
theorem insZ_perm (n : Int) : ∀ l : List Int, (insZ n l).Perm (n :: l)
  | [] => .refl _
  | m :: r => by
    rw [insZ]
    split
    · exact .refl _
    · exact ((insZ_perm n r).cons m).trans (.swap n m r)
theorem srtZ_perm : ∀ l : List Int, (srtZ l).Perm l
  | [] => .refl _
  | n :: r => (insZ_perm n _).trans ((srtZ_perm r).cons n)
theorem insZ_srt (n : Int) : ∀ l : List Int, l.Pairwise (· ≤ ·) → (insZ n l).Pairwise (· ≤ ·)
  | [], _ => by simp [insZ]
  | m :: r, h => by
    rw [List.pairwise_cons] at h
    rw [insZ]
    split
    · next z =>
      rw [List.pairwise_cons, List.pairwise_cons]
      refine ⟨fun a ha => ?_, h.1, h.2⟩
      rcases List.mem_cons.mp ha with rfl | ha
      · exact z
      · exact Int.le_trans z (h.1 a ha)
    · next z =>
      rw [List.pairwise_cons]
      refine ⟨fun a ha => ?_, insZ_srt n r h.2⟩
      rcases List.mem_cons.mp ((insZ_perm n r).mem_iff.mp ha) with rfl | ha
      · omega
      · exact h.1 a ha
theorem srtZ_srt : ∀ l : List Int, (srtZ l).Pairwise (· ≤ ·)
  | [] => .nil
  | n :: r => insZ_srt n _ (srtZ_srt r)
theorem srt_one : ∀ {a b : List Int}, a.Perm b → a.Pairwise (· ≤ ·) → b.Pairwise (· ≤ ·) → a = b
  | [], b, p, _, _ => p.nil_eq
  | x :: a, [], p, _, _ => absurd p.length_eq (by simp)
  | x :: a, y :: b, p, h1, h2 => by
    rw [List.pairwise_cons] at h1 h2
    have e : x = y := by
      rcases List.mem_cons.mp (p.mem_iff.mp List.mem_cons_self) with e | m1
      · exact e
      · rcases List.mem_cons.mp (p.mem_iff.mpr List.mem_cons_self) with e | m2
        · exact e.symm
        · exact Int.le_antisymm (h1.1 y m2) (h2.1 x m1)
    subst e
    rw [srt_one ((List.perm_cons x).mp p) h1.2 h2.2]
section
variable {X : Cx}
/-! ### list.index of a flat thing -/
/-! ### > of two lists of ints, as long as one another -/
end
end L2
namespace L2
open PySem PySem.Spec PyProof.Rows
section
variable {X : Cx}
end
end L2
namespace F2
open PySem L2 PySem.Spec
section
variable {X : Cx} {pos : Pos} {e : Expr} {es : List Expr}
theorem ff_BP {id : String} {R : List V → Hp → VK → Prop} {h : List D → M (List D)} {f : M (List D)} {x : Str} {p : Pos} (hc : CallR X (.builtin id) R) (s : SemNF X.K R h) (hg : Gl X x) (hm : X.mg x = none) (hv : bootBuiltins x = some (.builtin id)) (ha : PA X (e :: es) (RA X.K f)) (hn : x ≠ "__name__" := by decide) (hdb : (x == ("__debug__" : Str)) = false := by decide)
    (h1 : isStar e = false := by rfl) (h2 : noStars es = true := by rfl) : PE X (.Call (.Name x p) (e :: es) [] pos) (RF X.K (fBF f h)) :=
  PE_imp (pe_callB hc hg hm hv ha hn hdb (star_ne h1) (stars_false h2).1) fun _ _ _ q => RF.callB s q
end
end F2

set_option Elab.async false
set_option linter.all false
set_option maxRecDepth 100000
set_option maxHeartbeats 4000000
set_option autoImplicit false
namespace L2
open PySem PySem.Spec PyProof.Rows
/-! ### a dict with int keys, read and written by values -/
noncomputable def rDGetI : R2 := fun x y H Q => ∃ a kvs k v, x = .ref a ∧ y = .int k ∧ H a = some (.dK kvs) ∧ valV kvs (Sum.inl k : Key) = some v ∧ Q v H
noncomputable def rDSetI : V → V → V → Hp → (Hp → Prop) → Prop := fun o i v H Q => ∃ a kvs k, o = .ref a ∧ i = .int k ∧ H a = some (.dK kvs) ∧ kvs.length < sizeLine ∧ Q (upd H a (.dK (putK kvs (Sum.inl k : Key) v)))
noncomputable def rInK (neg : Bool) : R2 := fun x y H Q => ∃ a kvs k, x = .int k ∧ y = .ref a ∧ H a = some (.dK kvs) ∧ Q (.bl (if neg then !(valV kvs (Sum.inl k : Key)).isSome else (valV kvs (Sum.inl k : Key)).isSome)) H
section
variable {X : Cx}
theorem ix_dkI : IxR X rDGetI := by
  intro value slice pins s σ H x y v u Q I rx ry h hs
  obtain ⟨a, kvs, k, z, rfl, rfl, e, l, q⟩ := h
  cases rx
  obtain ⟨_, _, vs, rel, dd⟩ := dk_of I.hok e
  have g : DGet H a (kV (Sum.inl k : Key)) (some z) := by rw [← l]; exact DGet.k e
  have hT := dd.typeIs
  unfold subscriptTail
  refine wpAny_bind ?_
  rw [getitemInPython_of_ne hT.not_modules]
  refine wpAny_bind (wpAny_specialOf hT PySem.F.slot_dict_getitem.lookup ?_)
  have get : wpAny (model X.prog X.w) X.A (getItem (.ref a) u) (EP X pins σ Q) X.xe s := by
    obtain ⟨w', hw, rw'⟩ := RelO.some_of (v := z) (o := valueAt vs (Sum.inl k : Key)) (by rw [← l]; exact rel.val _)
    exact wpAny_getItem_of (kV_is (k := (Sum.inl k : Key)) ry) dd.mapOf hw ⟨z, H, I.tok _, rw', q⟩
  have fin : wpAny (model X.prog X.w) X.A (subscripted slice false (.ref a) u) (fun r s₃ => wpAny (model X.prog X.w) X.A (letTemporaryGo value (.ref a) r >>= fun _ => pure r) (EP X pins σ Q) X.xe s₃) X.xe s := by
    rw [hs]
    exact wpAny_operating (wpAny_mono get (fun r s₃ h₃ => wpAny_bind (wpAny_letTemporaryGo (wpAny_pure h₃))) fun _ _ x => x)
  first
    | exact wpAny_pure (wpAny_bind fin)
    | exact wpAny_bind (wpAny_pure (wpAny_bind fin))
    | exact wpAny_bind fin
theorem set_dkI : PSet X rDSetI := by
  intro pins s σ H o i v ov iv u Q I ro ri rv h
  obtain ⟨a, kvs, k, rfl, rfl, e, l, q⟩ := h
  cases ro
  obtain ⟨z, hd, vs, rel, dd⟩ := dk_of I.hok e
  have hz : vs.length ≤ sizeLine := by rw [← rel.length]; exact z
  have hl : (putK kvs (Sum.inl k : Key) v).length ≤ sizeLine := by have := length_putK kvs (Sum.inl k : Key) v; omega
  refine wpAny_setItem_pairs (hsz := hz) (kV_is (k := (Sum.inl k : Key)) ri) dd fun h' dd' hs => ⟨_, ?_, q⟩
  have he : ∃ q, h'.get? a = some q := let ⟨q, _, _, hq, _⟩ := dd'; ⟨q, hq⟩
  exact d_write I (by rw [e]; exact True.intro) hs he (dk_new hl hd (rel.put _ rv) dd')
theorem op_notinK (hu : X.A.units + 64 < cLine) : OpR X (compareOp .NotIn) (rInK true) := by
  intro pins s σ H x y v u Q I rx ry h
  obtain ⟨a, kvs, k, rfl, rfl, e, q⟩ := h
  cases ry
  exact d_notIn (by omega) I (DGet.k (k := (Sum.inl k : Key)) e) rx fun s' I' => ⟨.bl _, H, I', rfl, q⟩
/-! ### min of a list of ints -/
/-! ### sorted of a dict's keys -/
open PySem.W PySem.Calls in
/-- what is walked, collected into a list; how large the heap is behind it -/
theorem collectK {P : Program} {w : World} {A : Around} {E : Value → Shared → Prop} {s : Shared} {T : String} {r d : Addr} {n : Nat} {Pr : Nat → Value → Prop} {OK : Heap → Prop} {R : List Value → Shared → Prop} (K : KdlSrc P w T r d n Pr OK) (hh : A.handled = none) (ok : OK s.heap) (hn : n ≤ sizeLine)
    (go : ∀ (h' : Heap) (tk : Nat) (acc : Array Value), (∀ b o, s.heap.get? b = some o → h'.get? b = some o) → s.heap.objs.size ≤ h'.objs.size → ItemsOf Pr acc n → R acc.toList { s with heap := h', toks := tk }) : wpAny (model P w) A (collect (.ref r)) R E s := by
  have lt := K.there _ ok
  unfold collect; refine wpAny_bind (wpAny_runValue (codeAny_builtin entry_proto_collect' ?_)); rw [Around.under_plainId PySem.F.plain_proto_collect _]
  show wpAny _ A.in1 (newList [] >>= fun x => again (.builtin "list.__iadd__" ⟨[x, .ref r], []⟩)) _ _ s
  refine wpAny_bind (wpAny_newObj_type ?_); refine wpAny_pure ⟨plainId_quiet PySem.F.plain_list_iadd _, codeAny_builtin entry_list_iadd' ?_⟩; rw [Around.under_plainId PySem.F.plain_list_iadd _]
  have h1 : (s.heap.push { cls := .type "list", data := .seq ([] : List Value).toArray }).get? s.heap.objs.size = some { cls := .type "list", data := .seq #[] } := Heap.get?_push_size _ rfl
  show wpAny _ A.in1 (Builtin.List.listExtendWith (.ref s.heap.objs.size) (.ref r) (.ref s.heap.objs.size)) _ _ _
  have main := kdl_extend (A := A) (s := { s with heap := s.heap.push { cls := .type "list", data := .seq ([] : List Value).toArray } })
    (R := fun (q : Result) (s' : Shared) => ∃ (h' : Heap) (tk : Nat) (acc' : Array Value) (c' : Nat), q = .ok (.ret (.ref s.heap.objs.size)) ∧ s' = { s with heap := h', toks := tk } ∧ (∀ b o, s.heap.get? b = some o → h'.get? b = some o) ∧
      h'.get? s.heap.objs.size = some { cls := .type "list", dict := none, data := .seq acc' c', slots := #[] } ∧ ItemsOf Pr acc' n)
    K hh (K.keep _ _ ok fun b _ o e => Heap.get?_push_of_some _ e) s.heap.objs.size (Nat.ne_of_gt lt.1) (Nat.ne_of_gt lt.2) (.ref s.heap.objs.size) 0 h1
    (fun h' tk acc' c' kp at' it => ⟨h', tk, acc', c', rfl, rfl, fun b o e => kp b o (Nat.ne_of_lt (Heap.lt_size e)) (Heap.get?_push_of_some _ e), at', it⟩) hn
  refine wpAny_mono main (fun fin s' x => ?_) fun e s' x => (by obtain ⟨_, _, _, _, e', _⟩ := x; cases e')
  cases fin with
  | done f =>
    obtain ⟨h', tk, acc', c', e, rfl, kp, at', it⟩ := x
    cases e
    show wpAny _ A (load s.heap.objs.size >>= _) _ _ _; refine wpAny_bind (wpAny_load at' ?_)
    exact wpAny_pure (go h' tk acc' kp (Nat.le_of_lt (Heap.lt_size at')) it)
  | again c₁ =>
    refine ⟨x.1, codeAny_mono x.2 fun q s₂ y => ?_⟩
    obtain ⟨h', tk, acc', c', rfl, rfl, kp, at', it⟩ := y
    show wpAny _ A (load s.heap.objs.size >>= _) _ _ _; refine wpAny_bind (wpAny_load at' ?_)
    exact wpAny_pure (go h' tk acc' kp (Nat.le_of_lt (Heap.lt_size at')) it)
theorem key_int {P : Program} {w : World} {k : Int} {v : Value} (h : (mixKind P w).is (.inl k) v = true) : ∃ t, v = .int k t := by
  rw [mixKind_is] at h
  rcases keyIs_shape h with ⟨i, t, e1, e2⟩ | ⟨x, t, e1, e2⟩
  · cases e1; exact ⟨t, e2⟩
  · cases e1
theorem intsAre_list : ∀ {ns : List Int} {vs : List Value}, vs.length = ns.length → (∀ (i : Nat) v, vs[i]? = some v → ∃ t, v = .int (ns.getD i 0) t) → IntsAre vs ns
  | [], [], _, _ => .nil
  | [], _ :: _, h, _ => by cases h
  | _ :: _, [], h, _ => by cases h
  | n :: ns, v :: vs, h, g => by
    obtain ⟨t, rfl⟩ := g 0 v rfl
    exact .cons n t (intsAre_list (by simpa using h) fun i v e => by simpa using g (i + 1) v (by simpa using e))
theorem call_sortK (hc : X.calm = true) : CallR X (.builtin "sorted") (fun xs H Q => ∃ (p : Addr) (kvs : List (Key × V)) (ns : List Int), xs = [.ref p] ∧ H p = some (.dK kvs) ∧ kvs.map (·.1) = ns.map (fun n => (Sum.inl n : Key)) ∧ ns.length < 64 ∧ ∀ l, H l = none → Q (.ref l) (upd H l (.lst ((srtZ ns).map V.int)))) := by
  intro pins s σ H xs us Q I r h
  obtain ⟨p, kvs, ns, rfl, hq, hk, h64, q⟩ := h
  obtain ⟨u, rfl, rx⟩ := vals1 r
  cases rx
  obtain ⟨hz, lo, vs, rel, dd⟩ := dk_of I.hok hq
  obtain ⟨ep, hat⟩ := dd.dictAt
  have hln : kvs.length = ns.length := by have := congrArg List.length hk; rwa [List.length_map, List.length_map] at this
  have hlv : vs.length = ns.length := by rw [← rel.length]; exact hln
  have hkv : vs.map (·.1) = ns.map (fun n => (Sum.inl n : Key)) := by
    rw [← hk]
    clear hk hln hlv hat dd hq hz
    unfold KV at rel
    induction rel with
    | nil => rfl
    | @cons a b as bs h1 _ ih => rw [List.map_cons, List.map_cons, ih, h1.1]
  have h63 : ns.length ≤ sizeLine := by have : 64 ≤ sizeLine := by decide
                                        omega
  refine Calls.call_function_entry kind_sorted plain_sorted entry_sorted (args_sorted1 _) ?_
  unfold Builtin.«sorted»; refine wpAny_bind (m := checkCount "sorted" 1 1 _) (wpAny_pure ?_)
  refine wpAny_bind (collectK (PySem.W.kdl_dict (knd := mixKind X.prog X.w) lo) (I.ok.hd hc) hat (by omega) fun h' tk acc kp szl hacc => ?_)
  have hI : IntsAre acc.toList ns := by
    refine intsAre_list (by rw [Array.length_toList, hacc.1, hlv]) fun i v e => ?_
    obtain ⟨k, x, e1, e2⟩ := hacc.2 i v (by rw [← Array.getElem?_toList]; exact e)
    have e3 : (vs.map (·.1))[i]? = some k := by rw [List.getElem?_map, e1]; rfl
    rw [hkv, List.getElem?_map] at e3
    obtain ⟨n, e4, e5⟩ := Option.map_eq_some_iff.mp e3
    subst e5
    rw [List.getD_eq_getElem?_getD, e4]
    exact key_int e2
  have hla : acc.toList.length = ns.length := IntsAre.length hI
  refine wpAny_bind (wpAny_newList ?_ (by omega))
  have atN : (h'.push (seqObj "list" acc.toList.toArray 0)).get? h'.objs.size = some (seqObj "list" acc.toList.toArray 0) := Heap.get?_push_size _ rfl
  refine wpAny_bind (wpAny_holding (wpAny_call_entry slot_list_sort ⟨_, atN, rfl⟩ entry_list_sort (list_sort_tree atN hI (by omega) fun out ns' a1 a2 a3 => ⟨_, rfl, ?_⟩) (args_list_sort _)))
  obtain ⟨e, he⟩ := sortedHeap_at (vs := acc.toList) (out := out) atN
  have es : ns' = srtZ ns := srt_one (a2.trans (srtZ_perm ns).symm) a3 (srtZ_srt ns)
  subst es
  have hlen : (srtZ ns).length = ns.length := (srtZ_perm ns).length_eq
  have kp2 : ∀ b o, s.heap.get? b = some o → (sortedHeap (h'.push (seqObj "list" acc.toList.toArray 0)) h'.objs.size acc.toList out).get? b = some o := fun b o eb => by
    have lb := Heap.lt_size (kp b o eb)
    rw [sortedHeap_old (Nat.ne_of_lt lb) (by rw [Heap.size_push]; exact Nat.lt_succ_of_lt lb)]
    exact Heap.get?_push_of_some _ (kp b o eb)
  refine wpAny_pure ⟨_, rfl, .ref h'.objs.size, _, I.laid (t' := tk) kp2 szl (show ObjOk X.prog X.w _ _ _ (.lst ((srtZ ns).map V.int)) from ⟨?_, out.toList, e, vals_ints a1, he⟩), rfl, q _ (I.hok.fresh szl)⟩
  rw [List.length_map, hlen]
  exact h63
end
end L2
namespace F2
open PySem L2 PySem.Spec
/-! ### dicts with int keys, numbered -/
noncomputable def dgetI : D → D → M D
  | .obj n, .int k => fun t => match t.S[n]? with
    | some (.dct kvs) => (kvGet kvs (.inl k)).map fun d => (d, t)
    | _ => none
  | _, _ => fail
noncomputable def stKeyObI : D → D → D → M Unit
  | .obj n, .int k, d => fun t => match t.S[n]? with
    | some (.dct kvs) => if kvs.length < LIM then some ((), { t with S := t.S.set n (.dct (kvPut kvs (.inl k) d)) }) else none
    | _ => none
  | _, _, _ => fail
noncomputable def stKeyI (f g : M D) (d : D) : M Unit := bnd f fun o => bnd g fun i => stKeyObI o i d
noncomputable def fPairsI : List (Int × M D) → M (List (Key × D))
  | [] => ret []
  | (k, f) :: r => bnd f fun d => bnd (fPairsI r) fun ps => ret ((.inl k, d) :: ps)
noncomputable def fDispI (l : List (Int × M D)) : M D := fun t => bnd (fPairsI l) (dispEnd t.S.length) { t with S := t.S ++ [.dct []] }
noncomputable def inK (neg : Bool) : D → D → M D
  | .int k, .obj n => fun t => match t.S[n]? with
    | some (.dct kvs) => some (.bl (if neg then !(kvGet kvs (.inl k)).isSome else (kvGet kvs (.inl k)).isSome), t)
    | _ => none
  | _, _ => fail
noncomputable def keysI : List (Key × D) → Option (List Int)
  | [] => some []
  | (.inl k, _) :: r => (keysI r).map (k :: ·)
  | _ => none
noncomputable def sortKF : List D → M (List D)
  | [.obj n] => fun t => match t.S[n]? with
    | some (.dct kvs) => match keysI kvs with
      | some ns => if ns.length < 64 then some ((srtZ ns).map D.int, t) else none
      | none => none
    | _ => none
  | _ => fail
section
variable {K : PySem.W.Frag} {c : Cf} {H : Hp}
theorem KVR.has {us : List (Key × V)} {kvs : List (Key × D)} (r : KVR K c H us kvs) (k : Key) : (valV us k).isSome = (kvGet kvs k).isSome := by
  unfold KVR at r
  induction r with
  | nil => rfl
  | @cons p q ps qs h t ih =>
    by_cases hk : p.1 = k
    · have hq : q.1 = k := h.1.symm.trans hk
      rw [valV_pos hk]
      simp [kvGet, List.find?_cons, hq]
    · have hq : ¬ q.1 = k := fun z => hk (h.1.trans z)
      have : kvGet (q :: qs) k = kvGet qs k := by simp [kvGet, List.find?_cons, hq]
      rw [this, valV_neg hk]
      exact ih
theorem KVR.keys {us : List (Key × V)} {kvs : List (Key × D)} (r : KVR K c H us kvs) {ns : List Int} (e : keysI kvs = some ns) : us.map (·.1) = ns.map (fun n => (Sum.inl n : Key)) := by
  unfold KVR at r
  induction r generalizing ns with
  | nil => cases e; rfl
  | @cons p q ps qs h t ih =>
    obtain ⟨qk, qd⟩ := q
    cases qk with
    | inr x => cases e
    | inl k =>
      rw [keysI] at e
      obtain ⟨ms, e1, e2⟩ := Option.map_eq_some_iff.mp e
      subst e2
      rw [List.map_cons, List.map_cons, ih e1]
      congr 1
      exact h.1
theorem sem_dgetI : Sem2 K rDGetI dgetI := fun {Oo c t σ H x y dx dy r t' Q} f rx ry eq k => by
  unfold dgetI at eq
  split at eq
  · next n z =>
    cases ry
    cases rx with
    | @obj a kk hk =>
      split at eq
      · next kvs es =>
        obtain ⟨d, e1, e2⟩ := Option.map_eq_some_iff.mp eq
        cases e2
        obtain ⟨us, g1, g2⟩ := f.s.obs _ a _ hk es
        obtain ⟨v, e3, e4⟩ := g2.get _ e1
        exact ⟨a, us, z, v, rfl, rfl, g1, e3, k _ H c f .refl e4⟩
      · cases eq
  · cases eq
theorem sem_inK {neg : Bool} : Sem2 K (rInK neg) (inK neg) := fun {Oo c t σ H x y dx dy r t' Q} f rx ry eq k => by
  unfold inK at eq
  split at eq
  · next z n =>
    cases rx
    cases ry with
    | @obj a kk hk =>
      split at eq
      · next kvs es =>
        cases eq
        obtain ⟨us, g1, g2⟩ := f.s.obs _ a _ hk es
        refine ⟨a, us, z, rfl, rfl, g1, ?_⟩
        rw [g2.has]
        exact k _ H c f .refl (.bl _)
      · cases eq
  · cases eq
theorem sem_sortK : SemNF K (fun xs H Q => ∃ (p : Addr) (kvs : List (Key × V)) (ns : List Int), xs = [.ref p] ∧ H p = some (.dK kvs) ∧ kvs.map (·.1) = ns.map (fun n => (Sum.inl n : Key)) ∧ ns.length < 64 ∧ ∀ l, H l = none → Q (.ref l) (upd H l (.lst ((srtZ ns).map V.int)))) sortKF := fun {Oo c t σ H xs ds r t' Q} f rx eq k => by
  unfold sortKF at eq
  split at eq
  · next n =>
    split at eq
    · next kvs es =>
      split at eq
      · next ns ek =>
        split at eq
        · next h64 =>
          cases eq
          obtain ⟨v, rfl, rv⟩ := reps1 rx
          cases rv with
          | @obj a kk hk =>
          obtain ⟨us, g1, g2⟩ := f.s.obs _ a _ hk es
          exact ⟨a, us, ns, rfl, g1, g2.keys ek, h64, fun q hq => k q _ H c f .refl (Reps.ints _) hq⟩
        · cases eq
      · cases eq
    · cases eq
  · cases eq
end
section
variable {X : Cx} {pos : Pos} {e b : Expr}
theorem fg_subKeyI {o i : Expr} {f g : M D} (ho : PE X o (RE X.K f)) (hi : PE X i (RE X.K g))
    (ha : ∀ v, assign (.Subscript o i pos) X.env v = (do
      let ov ← holding [v] (eval o X.env)
      let iv ← holding [v, ov] (eval i X.env)
      standAt pos
      holding [v, ov, iv] (setItem ov iv v)
      release [v, ov, iv] []) := by intro _; rfl) : PG X (.Subscript o i pos) (RG X.K (stKeyI f g)) :=
  PG_imp (pg_sub ho hi set_dkI ha) fun v σ H Q ⟨Oo, c, t, d, fi, rv, t', eq, k⟩ => by
    obtain ⟨d0, t1, e1, eq⟩ := bnd_some eq
    obtain ⟨di, t2, e2, eq⟩ := bnd_some eq
    refine ⟨Oo, c, t, fi, _, t1, e1, fun x H1 c1 f1 s1 rx => ⟨Oo, c1, t1, f1, di, t2, e2, fun y H2 c2 f2 s2 ry => ?_⟩⟩
    unfold stKeyObI at eq
    split at eq
    · next n z dd =>
      cases ry
      cases rx with
      | @obj a kk hk =>
        split at eq
        · next kvs es =>
          split at eq
          · next hl =>
            cases eq
            have hk2 := s2.ext.io _ _ hk
            obtain ⟨us, g1, g2⟩ := f2.s.obs _ a _ hk2 es
            refine ⟨a, us, z, rfl, rfl, g1, by rw [g2.length]; exact Nat.lt_trans hl LIM_lt, ?_⟩
            have rv2 := rv.mono (s1.trans s2).ext
            obtain ⟨f3, s3⟩ := f2.wrObj (o := .dct (kvPut kvs (.inl z) d)) (u := .dK (putK us (.inl z) v)) hk2 fun c' H' ext hu => ⟨_, hu, (g2.put _ rv2).mono ext⟩
            exact k σ _ c2 f3 ((s1.trans s2).trans s3)
          · cases eq
        · cases eq
    · cases eq
theorem fpi_nil : PPf X pos [] [] (fPairsI []) := ⟨[], pps_nil, fun σ H Q ⟨Oo, c, t, fi, ps, t', eq, k⟩ => by
  cases eq
  exact k [] H c fi .refl .nil⟩
theorem fpi_cons {k : Int} {j : Nat} {kp : Pos} {v : Expr} {ks : List (Option Expr)} {vs : List Expr} {f : M D} {r : List (Int × M D)} (hv : PE X v (RE X.K f)) (hr : PPf X pos ks vs (fPairsI r)) :
    PPf X pos (some (.Constant (.int k) j kp) :: ks) (v :: vs) (fPairsI ((k, f) :: r)) := by
  obtain ⟨trs, h1, h2⟩ := hr
  refine ⟨_, pps_cons pe_int hv h1, fun σ H Q ⟨Oo, c, t, fi, ps, t', eq, kk⟩ => ?_⟩
  obtain ⟨d, t1, e1, eq⟩ := bnd_some eq
  obtain ⟨qs, t2, e2, eq⟩ := bnd_some eq
  cases eq
  refine ⟨Oo, c, t, fi, d, t1, e1, fun y H1 c1 f1 s1 ry => ?_⟩
  refine h2 σ H1 _ ⟨Oo, c1, t1, f1, qs, _, e2, fun us H2 c2 f2 s2 ru => ?_⟩
  exact kk ((.inl k, y) :: us) H2 c2 f2 (s1.trans s2) (.cons ⟨rfl, ry.mono s2.ext⟩ ru)
theorem fe_dispI {keys : List (Option Expr)} {values : List Expr} {l : List (Int × M D)} (h : PPf X pos keys values (fPairsI l)) (hall : keys.all (·.isSome) = true := by rfl) (hl : keys.length = values.length := by rfl) (h0 : keys ≠ [] := by exact List.cons_ne_nil _ _)
    (h15 : keys.length ≤ 15 := by exact Nat.le_of_ble_eq_true rfl) : PE X (.Dict keys values pos) (RE X.K (fDispI l)) := by
  obtain ⟨trs, h1, h2⟩ := h
  refine PE_imp (pe_disp h1 hall hl h0 h15) fun σ H Q ⟨Oo, c, t, fi, r, t', eq, k⟩ => ?_
  intro p hp
  obtain ⟨c1, f1, s1, e1⟩ := fi.newObj (o := .dct []) (u := .dK []) hp fun c' H' ex hu => ⟨[], hu, .nil⟩
  obtain ⟨ps, t2, e2, eq⟩ := bnd_some eq
  refine h2 σ _ _ ⟨Oo, c1, _, f1, ps, t2, e2, fun us H2 c2 f2 s2 ru => ?_⟩
  unfold dispEnd at eq
  split at eq
  · next es =>
    split at eq
    · next hl15 =>
      cases eq
      have hk2 := s2.ext.io _ _ e1
      obtain ⟨u0, g1, g2⟩ := f2.s.obs _ p _ hk2 es
      cases g2
      refine ⟨g1, us, rfl, by rw [ru.length]; exact hl15, ?_⟩
      obtain ⟨f3, s3⟩ := f2.wrObj (o := .dct (kvMerge ps)) (u := .dK (mergeK [] us)) hk2 fun c' H' ext hu => ⟨_, hu, (KVR.merge ru .nil).mono ext⟩
      exact k _ _ c2 f3 (s1.trans (s2.trans s3)) (.obj hk2)
    · cases eq
  · cases eq
end
end F2

set_option Elab.async false
set_option linter.all false
set_option maxRecDepth 100000
set_option maxHeartbeats 4000000
set_option autoImplicit false
namespace L2
open PySem PySem.Spec PyProof.Rows
/-! ### sets of up to three ints below 30: their tables, one by one -/
noncomputable def tb (led : Bool) (pl : List Nat) : SetTable := { mask := 7, place := pl.toArray, dummies := #[], finger := 0, led := led, moves := 0, plain := true }
end L2

set_option Elab.async false
set_option linter.all false
set_option maxRecDepth 100000
set_option maxHeartbeats 4000000
set_option autoImplicit false
namespace L2
open PySem PySem.Spec PyProof.Rows
/-! ### a set of up to three ints, filled -/
section
variable {P : Program} {w : World} {A : Around} {E : Value → Shared → Prop} {s : Shared}
end
end L2

set_option Elab.async false
set_option linter.all false
set_option maxRecDepth 100000
set_option maxHeartbeats 4000000
set_option autoImplicit false
namespace L2
open PySem PySem.Spec PyProof.Rows
/-! ### set(..) of up to three ints -/
section
variable {P : Program} {w : World} {A : Around} {I : Addr} {fp wr : List Addr} {G : Array GenState → Array GenState → Prop} {n : Nat} {Pr : Nat → Value → Prop} {St : Nat → Shared → Prop}
end
end L2

set_option Elab.async false
set_option linter.all false
set_option maxRecDepth 100000
set_option maxHeartbeats 4000000
set_option autoImplicit false
namespace L2
open PySem PySem.Spec PyProof.Rows
/-! ### a set of up to three ints, walked -/
end L2

set_option Elab.async false
set_option linter.all false
set_option maxRecDepth 100000
set_option maxHeartbeats 4000000
set_option autoImplicit false
namespace L2
open PySem PySem.Spec PyProof.Rows
section
variable {P : Program} {w : World} {A : Around} {E : Value → Shared → Prop} {s : Shared}
end
end L2

set_option Elab.async false
set_option linter.all false
set_option maxRecDepth 100000
set_option maxHeartbeats 4000000
set_option autoImplicit false
namespace L2
open PySem PySem.Spec PyProof.Rows
section
variable {prog : Program} {w : World} {A : Around}
end
end L2

set_option Elab.async false
set_option linter.all false
set_option maxRecDepth 100000
set_option maxHeartbeats 4000000
set_option autoImplicit false
namespace L2
open PySem PySem.Spec PyProof.Rows
/-! ### sorted(set(..)) -/
section
variable {X : Cx}
/-! ### len(set(..)) of ints, none of them twice -/
end
end L2
namespace F2
open PySem L2 PySem.Spec PyProof.Rows
section
variable {X : Cx} {pos : Pos} {e : Expr}
end
end F2

set_option Elab.async false
set_option linter.all false
set_option maxRecDepth 100000
set_option maxHeartbeats 4000000
set_option autoImplicit false
namespace F2
open PySem L2 PySem.Spec
/-! ### numbered lists: extend, isinstance, == within a tuple, a comprehension over one -/
section
variable {X : Cx} {elt : Expr} {pos : Pos} {e : Expr} {es : List Expr}
end
end F2

set_option Elab.async false
set_option linter.all false
set_option maxRecDepth 100000
set_option maxHeartbeats 4000000
set_option autoImplicit false
namespace L2
open PySem PySem.Spec PyProof.Rows
/-! ### a dict while a loop walks it -/
section
variable {X : Cx} {pins : List (Addr × Obj)} {σ : St} {H : Hp} {s : Shared} {a : Addr} {kvs : List (Key × V)} {o : Obj}
theorem dk_any {P : Program} {w : World} {H H' : Hp} {h : Heap} {a : Addr} {kvs : List (Key × V)} (x : ObjOk P w H h a (.dK kvs)) : ObjOk P w H' h a (.dK kvs) := x
theorem Inv.freeze (I : Inv X pins σ H s) (e : H a = some (.dK kvs)) (ho : s.heap.get? a = some o) : Inv X pins σ (upd H a (.frz o (.dK kvs))) s :=
  d_write (h' := s.heap) (t' := s.toks) I (by rw [e]; exact True.intro) ⟨rfl, fun _ _ => rfl⟩ ⟨o, ho⟩ ⟨ho, dk_any (I.hok a _ e)⟩
theorem Inv.nofrz (I : Inv X pins σ H s) (e : H a = some (.dK kvs)) : ∀ ob u, X.H₀ a ≠ some (.frz ob u) := fun ob u z => by
  have := I.base.frzs a ob u z
  rw [e] at this; cases this
theorem Inv.thaw (I : Inv X pins σ H s) (e : H a = some (.frz o (.dK kvs))) (hn : ∀ ob u, X.H₀ a ≠ some (.frz ob u)) : Inv X pins σ (upd H a (.dK kvs)) s := by
  have nn : ∀ b, H b = none → upd H a (.dK kvs) b = none := fun b q => by
    rw [upd_ne (fun z => by subst z; rw [e] at q; cases q)]; exact q
  refine ⟨I.ok, I.os, I.bare, ⟨I.base.keep, I.base.slot, fun b ob q n hx => nn b (I.base.free b ob q n hx), I.base.there, fun b xs q => ?_, fun b ob u q => ?_, fun b ps q => ?_⟩, I.loc, I.cell, nn _ I.free, fun x c q => nn c (I.freeC x c q), fun p hp => ?_, fun b u q => ?_, I.len⟩
  · have := I.base.tups b xs q
    rw [upd_ne (fun z => by subst z; rw [e] at this; cases this)]; exact this
  · rw [upd_ne (fun z => by subst z; exact hn ob u q)]; exact I.base.frzs b ob u q
  · obtain ⟨more, this⟩ := I.base.tbls b ps q
    exact ⟨more, by rw [upd_ne (fun z => by subst z; rw [e] at this; cases this)]; exact this⟩
  · obtain ⟨q1, q2, q3⟩ := I.pin p hp
    exact ⟨q1, nn _ q2, q3⟩
  · by_cases hb : b = a
    · subst hb
      rw [upd_same] at q; cases q
      obtain ⟨_, q2⟩ := I.hok b _ e
      exact dk_any q2
    · rw [upd_ne hb] at q
      exact (I.hok b u q).stay (fun _ _ _ z => z) (fun c z => by rw [upd_ne (fun y => by subst y; rw [e] at z; cases z)]; exact z) fun c xs z => by rw [upd_ne (fun y => by subst y; rw [e] at z; cases z)]; exact z
end
noncomputable def rDGetZ : R2 := fun x y H Q => ∃ a kvs k v, x = .ref a ∧ y = .int k ∧ Rd H a (.dK kvs) ∧ valV kvs (Sum.inl k : Key) = some v ∧ Q v H
section
variable {X : Cx}
theorem ix_dkZ : IxR X rDGetZ := by
  intro value slice pins s σ H x y v u Q I rx ry h hs
  obtain ⟨a, kvs, k, z, rfl, rfl, e, l, q⟩ := h
  cases rx
  obtain ⟨_, _, vs, rel, dd⟩ := dk_rd I.hok e
  have hT := dd.typeIs
  unfold subscriptTail
  refine wpAny_bind ?_
  rw [getitemInPython_of_ne hT.not_modules]
  refine wpAny_bind (wpAny_specialOf hT PySem.F.slot_dict_getitem.lookup ?_)
  have get : wpAny (model X.prog X.w) X.A (getItem (.ref a) u) (EP X pins σ Q) X.xe s := by
    obtain ⟨w', hw, rw'⟩ := RelO.some_of (v := z) (o := valueAt vs (Sum.inl k : Key)) (by rw [← l]; exact rel.val _)
    exact wpAny_getItem_of (kV_is (k := (Sum.inl k : Key)) ry) dd.mapOf hw ⟨z, H, I.tok _, rw', q⟩
  have fin : wpAny (model X.prog X.w) X.A (subscripted slice false (.ref a) u) (fun r s₃ => wpAny (model X.prog X.w) X.A (letTemporaryGo value (.ref a) r >>= fun _ => pure r) (EP X pins σ Q) X.xe s₃) X.xe s := by
    rw [hs]
    exact wpAny_operating (wpAny_mono get (fun r s₃ h₃ => wpAny_bind (wpAny_letTemporaryGo (wpAny_pure h₃))) fun _ _ x => x)
  first
    | exact wpAny_pure (wpAny_bind fin)
    | exact wpAny_bind (wpAny_pure (wpAny_bind fin))
    | exact wpAny_bind fin
theorem kv_keys {us : List (Key × V)} {vs : List (Key × Value)} (rel : KV us vs) : vs.map (·.1) = us.map (·.1) := by
  unfold KV at rel
  induction rel with
  | nil => rfl
  | @cons a b as bs h1 _ ih => rw [List.map_cons, List.map_cons, ih, h1.1]
/-- for k in d: the body leaves d as it is -/
noncomputable def tForD (te : TE) (g : TG) (tb : TS) : TS := fun D σ H => te σ H fun x H1 => ∃ (a : Addr) (kvs : List (Key × V)) (ns : List Int), x = .ref a ∧ H1 a = some (.dK kvs) ∧ kvs.map (·.1) = ns.map (fun n : Int => (Sum.inl n : Key)) ∧
  ∃ W : Nat → St → Hp → Prop, W 0 σ H1 ∧ (∀ i σ H, W i σ H → H a = some (.dK kvs)) ∧ (∀ σ H, W ns.length σ H → D.nx σ H) ∧
    ∀ (i : Nat) σ H k, W i σ H → ns[i]? = some k → ∀ o, g (.int k) σ (upd H a (.frz o (.dK kvs))) fun σ2 H2 =>
      tb ⟨fun σ' H' => H' a = some (.frz o (.dK kvs)) ∧ W (i + 1) σ' (upd H' a (.dK kvs)), fun _ _ => False, fun _ _ => False, fun _ _ => False⟩ σ2 H2
theorem ps_forD {tg iter : Expr} {body : List Stmt} {te : TE} {g : TG} {tb : TS} {pos : Pos} (hp : PassesOwn (model X.prog X.w) X.A X.env X.xe) (hc : X.calm = true) (hi : PE X iter te) (hg : PG X tg g) (hb : PSs X body tb)
    (hs : ∀ x, foldedSetIterable iter X.env x = pure x := by intro _; rfl) : PS X (.For tg iter body [] pos) (tForD te g tb) := by
  intro pins s σ H D I h
  refine wpAny_For (thn (hi pins s σ H _ I h) fun v s1 ⟨x, H1, I1, r1, q1⟩ => ?_) hs
  obtain ⟨a, kvs, ns, rfl, ha, hk, W, w0, wa, wn, turn⟩ := q1
  cases r1
  obtain ⟨hz, lo, vs, rel, dd⟩ := dk_of I1.hok ha
  obtain ⟨ep, hat⟩ := dd.dictAt
  obtain ⟨od, hod⟩ : ∃ od, s1.heap.get? a = some od := let ⟨q, _, hq, _⟩ := hat; ⟨q, hq⟩
  have hfz := I1.nofrz ha
  have hln : vs.length = ns.length := by
    rw [← rel.length]
    have := congrArg List.length hk
    rwa [List.length_map, List.length_map] at this
  have hkv : ∀ {i : Nat} {k : Key} {x : Value}, vs[i]? = some (k, x) → (ns[i]?).map (fun n : Int => (Sum.inl n : Key)) = some k := fun {i k x} e => by
    have e1 : vs.map (·.1) = ns.map (fun n : Int => (Sum.inl n : Key)) := by
      rw [← hk]; exact kv_keys rel
    rw [← List.getElem?_map, ← e1, List.getElem?_map, e]
    rfl
  refine wpAny_pyIter_dict lo hat ?_
  have hlt : a < s1.heap.objs.size := Heap.lt_size hod
  generalize hit : s1.heap.objs.size = it at *
  have f2 : FpOk X pins H1 it := I1.fpOk (by rw [hit]; exact Nat.le_refl _) (I1.hok.fresh (by rw [hit]; exact Nat.le_refl _))
  have I2 : Inv X pins σ H1 { s1 with heap := s1.heap.push { cls := .type "dict_keyiterator", data := .fields #[.ref a, .int 0 0, .int vs.length 0, .int ep 0] } } := I1.kept (t' := s1.toks) fun b o e => Heap.get?_push_of_some _ e
  have ne : a ≠ it := Nat.ne_of_lt hlt
  have atK : ∀ h' : Heap, h'.get? a = some od → h'.DictAt (mixKind X.prog X.w) a vs ep := fun h' e => by
    obtain ⟨o', es, e1, r⟩ := hat
    rw [hod] at e1; cases e1
    exact ⟨od, es, e, r⟩
  refine codeAny_forLoop_any (fun n s' => ∃ i σ' H', n = ns.length - i ∧ i ≤ ns.length ∧ Inv X pins σ' H' s' ∧ s'.heap.IsKeyIter it a i vs.length ep ∧ s'.heap.get? a = some od ∧ H' it = none ∧ W i σ' H') ?_ ns.length ⟨0, σ, H1, rfl, Nat.zero_le _, I2, ⟨_, by rw [← hit]; exact Heap.get?_push_size _ rfl, rfl, rfl⟩, Heap.get?_push_of_some _ hod, f2.1, w0⟩
  rintro n s3 ⟨i, σ3, H3, rfl, hi3, I3, st3, od3, fr3, w3⟩
  have hf3 : FpOk X pins H3 it := ⟨fr3, f2.2⟩
  obtain ⟨f0, f1, f2', f3, f4, f5⟩ := hf3
  by_cases hlti : i < ns.length
  · obtain ⟨k, hki⟩ : ∃ k, ns[i]? = some k := ⟨_, List.getElem?_eq_getElem hlti⟩
    obtain ⟨kx, hkx⟩ : ∃ kx, vs[i]? = some kx := ⟨_, List.getElem?_eq_getElem (by omega)⟩
    obtain ⟨kk, xx⟩ := kx
    have hkk := hkv hkx
    rw [hki] at hkk
    cases hkk
    refine wpAny_passesOwn hp (wpAny_pyNext_dict_item st3 (atK _ od3) hkx fun key h4 hkey st4 sb => ?_)
    obtain ⟨t, rfl⟩ := key_int hkey
    have od4 : h4.get? a = some od := (sb.2 a ne).trans od3
    have I4 : Inv X pins σ3 H3 { s3 with heap := h4 } := I3.turned (t' := s3.toks) (fun b o hb e => (sb.2 b hb).trans e) f0 f1 f3 f4 f5
    obtain ⟨oi, ei, ci, di⟩ := id st4
    refine wpAny_passesOwn hp (go_of (s := { s3 with heap := h4 }) ei ci di (by decide) ?_)
    have I5 := I4.freeze (wa i σ3 H3 w3) od4
    have fr5 : upd H3 a (.frz od (.dK kvs)) it = none := by rw [upd_ne (Ne.symm ne)]; exact fr3
    have fo5 : ∀ b ∈ [it], FpOk X pins (upd H3 a (.frz od (.dK kvs))) b := fun b hb => by
      have e : b = it := by simpa using hb
      subst e
      exact ⟨fr5, f1, f2', f3, f4, f5⟩
    have ho5 : ∀ b ∈ [it], ∃ o, h4.get? b = some o ∧ ∀ v, o.data ≠ .cell v := fun b hb => by
      have e : b = it := by simpa using hb
      subst e
      exact ⟨oi, ei, fun v z => by rw [di] at z; cases z⟩
    have I5' := I5.pinned fo5 ho5
    refine wpAny_passesOwn hp (thn (hg _ _ σ3 _ (.int k) (.int k t) _ I5' ⟨t, rfl⟩ (turn i σ3 H3 k w3 hki od)) fun _ s6 ⟨σ6, H6, I6, q6⟩ => ?_)
    refine wpAny_passesOwn hp (thn (hb _ s6 σ6 H6 _ I6 q6) fun f s7 q7 => ?_)
    cases f with
    | next =>
      obtain ⟨σ7, H7, I7, n7, w7⟩ := q7
      obtain ⟨od7, _⟩ := I7.hok a _ n7
      have pin := I7.pin (it, oi) (List.mem_append_right _ (List.mem_append_right _ (mem_pinsAt (by simp) ei)))
      refine ⟨ns.length - (i + 1), by omega, i + 1, σ7, _, rfl, hlti, I7.unpinned.thaw n7 hfz, ⟨oi, pin.1, ci, di⟩, od7, ?_, w7⟩
      rw [upd_ne (Ne.symm ne)]; exact pin.2.1
    | cont => obtain ⟨_, _, _, z⟩ := q7; exact z.elim
    | brk => obtain ⟨_, _, _, z⟩ := q7; exact z.elim
    | ret v => obtain ⟨_, _, _, _, _, z⟩ := q7; exact z.elim
  · have e : i = ns.length := by omega
    subst e
    refine wpAny_passesOwn hp (wpAny_pyNext_dict_end (I3.ok.hd hc) st3 (atK _ od3) (List.getElem?_eq_none (by omega)) fun h' ex => ?_)
    exact wpAny_execs_nil ⟨σ3, H3, I3.turned (t' := s3.toks) (fun b o hb e => ex b o hb e) f0 f1 f3 f4 f5, wn σ3 H3 w3⟩
end
end L2

set_option Elab.async false
set_option linter.all false
set_option maxRecDepth 100000
set_option maxHeartbeats 4000000
set_option autoImplicit false
namespace L2
open PySem PySem.Spec PyProof.Rows
section
variable {X : Cx}
/-! ### any of a list of truths -/
theorem call_anyL (hc : X.calm = true) : CallR X (.builtin "any") (fun xs H Q => ∃ (p : Addr) (bs : List Bool), xs = [.ref p] ∧ SqL X.K H p (bs.map V.bl) ∧ Q (.bl (bs.any id)) H) := by
  intro pins s σ H xs us Q I r h
  obtain ⟨p, bs, rfl, hq, q⟩ := h
  obtain ⟨u, rfl, rx⟩ := vals1 r
  cases rx
  obtain ⟨its, rv, pl, hz⟩ := I.list hq
  have hl := rv.length
  rw [List.length_map] at hl
  have hlist := pl.isList
  have lp : p < s.heap.objs.size := by obtain ⟨o, ho, _⟩ := hlist; exact Heap.lt_size ho
  refine call_any_walkS (wpAny_pyIter_list hlist ?_)
  refine ⟨s.heap.objs.size, _, _, _, _, _, _, fun i => bs.getD i false, rfl, (Walks.list (by simp [I.ok.hd hc]) s.heap.objs.size p (Nat.ne_of_lt lp) its.toArray).toS, ⟨⟨_, Heap.get?_push_size _ rfl, rfl, rfl⟩, hlist.push _⟩, ?_, ?_⟩
  · intro i v s2 Q2 E2 e hQ
    have e' : its[i]? = some v := by simpa using e
    obtain ⟨hi, _⟩ := List.getElem?_eq_some_iff.mp e'
    have hy : (bs.map V.bl)[i]? = some (.bl (bs.getD i false)) := by
      rw [List.getElem?_map, List.getD_eq_getElem?_getD, List.getElem?_eq_getElem (by omega)]; rfl
    obtain ⟨w', ew, rw'⟩ := rv.get hy
    rw [e'] at ew; cases ew
    cases rw'
    exact wpAny_truthy_bool hQ
  · intro s' mv
    obtain ⟨h', g', d', tk', os'⟩ := s'
    obtain rfl : g' = s.gens := mv.gens
    obtain rfl : d' = s.drawn := mv.drawn
    obtain rfl : os' = s.os := mv.os
    have e : (List.range its.toArray.size).any (fun i => bs.getD i false) = bs.any id := by
      rw [List.size_toArray, ← hl]
      clear q hq rv hl hz
      rw [Bool.eq_iff_iff, List.any_eq_true, List.any_eq_true]
      constructor
      · rintro ⟨i, hi, h⟩
        rw [List.mem_range] at hi
        rw [List.getD_eq_getElem?_getD, List.getElem?_eq_getElem hi] at h
        exact ⟨_, List.getElem_mem hi, h⟩
      · rintro ⟨b, hb, h⟩
        obtain ⟨i, hi, rfl⟩ := List.mem_iff_getElem.mp hb
        refine ⟨i, List.mem_range.mpr hi, ?_⟩
        rw [List.getD_eq_getElem?_getD, List.getElem?_eq_getElem hi]
        exact h
    refine ⟨.bl (bs.any id), H, I.kept (t' := tk') fun b o e => ?_, by rw [e]; rfl, q⟩
    have lb := Heap.lt_size e
    exact mv.heap b o (by simp only [List.mem_cons, List.not_mem_nil, or_false]; exact Nat.ne_of_lt lb) (Heap.get?_push_of_some _ e)
end
/-! ### == of dicts with int keys -/
theorem pairs_any {P P' : Program} {w w' : World} {es : List DictEntry} {vs : List (Key × Value)} (h : Pairs (mixKind P w) es vs) : Pairs (mixKind P' w') es vs := by
  induction h with
  | nil => exact .nil
  | cons h1 h2 _ ih => exact .cons h1 h2 ih
theorem pairs_mem {P : Program} {w : World} {es : List DictEntry} {vs : List (Key × Value)} (h : Pairs (mixKind P w) es vs) : ∀ e ∈ es, ∃ kv ∈ vs, (mixKind P w).is kv.1 e.key = true := by
  induction h with
  | nil => intro e he; cases he
  | @cons e' kv _ _ h1 h2 _ ih =>
    intro e he
    rcases List.mem_cons.mp he with rfl | he
    · exact ⟨kv, List.mem_cons_self, h1⟩
    · obtain ⟨kv', m, q⟩ := ih e he
      exact ⟨kv', List.mem_cons_of_mem _ m, q⟩
theorem dict_any {P P' : Program} {w w' : World} {h : Heap} {a : Addr} {vs : List (Key × Value)} (d : h.DictOf (mixKind P w) a vs) (hk : ∀ kv ∈ vs, ∃ n : Int, kv.1 = Sum.inl n) : h.DictOf (mixKind P' w') a vs := by
  obtain ⟨o, es, ep, h1, h2, h3, h4, h5, h6⟩ := d
  refine ⟨o, es, ep, h1, h2, h3, fun e he => ?_, pairs_any h5, h6⟩
  obtain ⟨k, q1, q2⟩ := h4 e he
  obtain ⟨kv, m1, m2⟩ := pairs_mem h5 e (by simpa using he)
  obtain ⟨n, en⟩ := hk kv m1
  have ek : k = kv.1 := (mixKind P w).inj _ _ _ q1 m2
  rw [en] at ek
  subst ek
  exact ⟨.inl n, q1, q2⟩
end L2
namespace F2
open PySem L2 PySem.Spec SeqAt
noncomputable def AlikeL (K : PySem.W.Frag) (H : Hp) (v w : V) : Prop := ∃ c dv dw, Rep K c H v dv ∧ Rep K c H w dw ∧ eqN EQD dv dw = some true
noncomputable def AlikeV (K : PySem.W.Frag) (H : Hp) (v w : V) : Prop := AlikeL K H v w ∨ ∃ a b us ts, v = .ref a ∧ w = .ref b ∧ H a = some (.dK us) ∧ H b = some (.dK ts) ∧ us.length = ts.length ∧ (∀ kv ∈ us, ∃ n : Int, kv.1 = Sum.inl n) ∧ (∀ kv ∈ ts, ∃ n : Int, kv.1 = Sum.inl n) ∧ ∀ kv ∈ us, ∃ z, valV ts kv.1 = some z ∧ AlikeL K H kv.2 z
noncomputable def rEqK (K : PySem.W.Frag) (b : Bool) : R2 := fun x y H Q => ∃ p q vs ws, x = .ref p ∧ y = .ref q ∧ H p = some (.lst vs) ∧ H q = some (.lst ws) ∧ vs.length = ws.length ∧ (∀ (j : Nat) v w, vs[j]? = some v → ws[j]? = some w → AlikeV K H v w) ∧ Q (.bl b) H
theorem AlikeV.at {P : Program} {w : World} {K : PySem.W.Frag} {H : Hp} {s : Shared} {A : Around} (hok : HOk P w H s.heap) {x y : V} {u v : Value} (h : AlikeV K H x y) (ru : RelV x u) (rv : RelV y v) (hu : A.units + 60 < cLine) : EqAt A s u v true := by
  rcases h with ⟨c, dv, dw, r1, r2, e⟩ | ⟨a, b, us, ts, rfl, rfl, ha, hb, hl, k1, k2, h⟩
  · exact (eqAt_of hok EQD ru rv r1 r2 e (by unfold EQD; omega)).2
  · cases ru; cases rv
    by_cases hab : a = b
    · subst hab; exact EqAt.same _
    refine EqAt.of_refs hab fun P' w' E Q hq => ?_
    obtain ⟨_, lo1, vs, rel1, d1⟩ := dk_of hok ha
    obtain ⟨_, lo2, ws, rel2, d2⟩ := dk_of hok hb
    have kk : ∀ {us : List (Key × V)} {vs : List (Key × Value)}, KV us vs → (∀ kv ∈ us, ∃ n : Int, kv.1 = Sum.inl n) → ∀ kv ∈ vs, ∃ n : Int, kv.1 = Sum.inl n := fun {us vs} rel k kv hkv => by
      have e := kv_keys rel
      have m : kv.1 ∈ vs.map (·.1) := List.mem_map_of_mem hkv
      rw [e] at m
      obtain ⟨q, q1, q2⟩ := List.mem_map.mp m
      rw [← q2]; exact k q q1
    have hlen : vs.length = ws.length := by rw [← rel1.length, ← rel2.length]; exact hl
    have hits : PySem.W.KeqHits A.in1 s ws vs true := by
      have gen : ∀ {us : List (Key × V)} {vs : List (Key × Value)}, KV us vs → (∀ kv ∈ us, ∃ z, valV ts kv.1 = some z ∧ AlikeL K H kv.2 z) → PySem.W.KeqHits A.in1 s ws vs true := fun {us vs} rel hh => by
        unfold KV at rel
        induction rel with
        | nil => exact .nil
        | @cons p q ps qs h1 _ ih =>
          obtain ⟨z, ez, c, dz, dz', r1, r2, e⟩ := hh p List.mem_cons_self
          obtain ⟨k, v⟩ := q
          obtain ⟨u', hu', ru'⟩ := RelO.some_of (v := z) (o := valueAt ws p.1) (by rw [← ez]; exact rel2.val _)
          have := PySem.W.KeqHits.hit (k := k) (v := v) (y := u') (e := true) (b := true) (by rw [show k = p.1 from h1.1.symm]; exact hu') (eqAt_of hok EQD h1.2 ru' r1 r2 e (by rw [show A.in1.units = A.units + 1 from rfl]; unfold EQD; omega)).2 (ih fun kv m => hh kv (List.mem_cons_of_mem _ m))
          exact this
      exact gen rel1 h
    refine PySem.W.keq_eq (knd := mixKind P' w') lo1 lo2 (dict_any d1 (kk rel1 k1)) (dict_any d2 (kk rel2 k2)) (by omega) (fun _ => hits) ?_
    rw [hlen, beq_self_eq_true]
    exact hq
theorem rEqK.items {P : Program} {w : World} {K : PySem.W.Frag} {H : Hp} {s : Shared} {A : Around} (hok : HOk P w H s.heap) {vs ws : List V} {is js : List Value} (h : ∀ (j : Nat) v w, vs[j]? = some v → ws[j]? = some w → AlikeV K H v w) (r1 : Vals vs is) (r2 : Vals ws js) (hu : A.units + 60 < cLine) :
    ∀ j (h1 : j < is.toArray.size) (h2 : j < js.toArray.size), EqAt A s is.toArray[j] js.toArray[j] true := fun j h1 h2 => by
  obtain ⟨v1, a1, a2⟩ := val_at r1 h1
  obtain ⟨v2, b1, b2⟩ := val_at r2 h2
  exact (h j v1 v2 a1 b1).at hok a2 b2 hu
theorem all_true : ∀ n : Nat, (List.range n).all (fun _ => true) = true := fun n => by simp
theorem op_eqK {X : Cx} (hu : X.A.units + 64 < cLine) : OpR X (compareOp .Eq) (rEqK X.K true) := by
  intro pins s σ H x y v u Q I rx ry h
  obtain ⟨p, q, vs, ws, rfl, rfl, h1, h2, hl, hh, k⟩ := h
  cases rx; cases ry
  obtain ⟨is, r1, l1⟩ := hok_list I.hok h1
  obtain ⟨js, r2, l2⟩ := hok_list I.hok h2
  have hsz : is.toArray.size = js.toArray.size := by simp [← r1.length, ← r2.length, hl]
  have rc := RcAt.lists (e := fun _ => true) l1 l2 hsz (by omega) (rEqK.items (A := X.A.in1) I.hok hh r1 r2 (by rw [show X.A.in1.units = X.A.units + 1 from rfl]; omega))
  rw [all_true] at rc
  exact rc X.prog X.w _ _ ⟨.bl true, H, I, rfl, k⟩
theorem op_neK {X : Cx} (hu : X.A.units + 64 < cLine) : OpR X (compareOp .NotEq) (rEqK X.K false) := by
  intro pins s σ H x y v u Q I rx ry h
  obtain ⟨p, q, vs, ws, rfl, rfl, h1, h2, hl, hh, k⟩ := h
  cases rx; cases ry
  obtain ⟨is, r1, l1⟩ := hok_list I.hok h1
  obtain ⟨js, r2, l2⟩ := hok_list I.hok h2
  have hsz : is.toArray.size = js.toArray.size := by simp [← r1.length, ← r2.length, hl]
  have rc := RcNeAt.lists (e := fun _ => true) l1 l2 hsz (by omega) (rEqK.items (A := X.A.in1) I.hok hh r1 r2 (by rw [show X.A.in1.units = X.A.units + 1 from rfl]; omega))
  rw [all_true] at rc
  exact rc X.prog X.w _ _ ⟨.bl false, H, I, rfl, k⟩
noncomputable def alike1 (S : List Ob) (x y : D) : Bool := pureD (res1 S x) && pureD (res1 S y) && decide (eqN EQD (res1 S x) (res1 S y) = some true)
noncomputable def alikeK (S : List Ob) (x y : D) : Bool := match x, y with
  | .obj m, .obj n => match S[m]?, S[n]? with
    | some (.dct kvs), some (.dct lvs) => kvs.length == lvs.length && (keysI kvs).isSome && (keysI lvs).isSome && kvs.all (fun kv => match kvGet lvs kv.1 with | some e => alike1 S kv.2 e | none => false)
    | _, _ => alike1 S x y
  | _, _ => alike1 S x y
noncomputable def eqK (b : Bool) (x y : D) : M D := match x, y with
  | .lst xs, .lst ys => fun t => if xs.length = ys.length ∧ (xs.zip ys).all (fun p => alikeK t.S p.1 p.2) = true then some (.bl b, t) else none
  | _, _ => fail
theorem alike1.to {K : PySem.W.Frag} {c : Cf} {S : List Ob} {H : Hp} (s : SInv K c S H) {v w : V} {x y : D} (rx : Rep K c H v x) (ry : Rep K c H w y) (h : alike1 S x y = true) : AlikeL K H v w := by
  unfold alike1 at h
  rw [Bool.and_eq_true, Bool.and_eq_true] at h
  exact ⟨c0, _, _, rep_res1 s rx h.1.1, rep_res1 s ry h.1.2, of_decide_eq_true h.2⟩
theorem keysI_all : ∀ {kvs : List (Key × D)}, (keysI kvs).isSome = true → ∀ kv ∈ kvs, ∃ n : Int, kv.1 = Sum.inl n
  | [], _, kv, h => by cases h
  | (.inl k, d) :: r, e, kv, h => by
    rw [keysI, Option.isSome_map] at e
    rcases List.mem_cons.mp h with rfl | h
    · exact ⟨k, rfl⟩
    · exact keysI_all e kv h
  | (.inr x, d) :: r, e, kv, h => by cases e
theorem KVR.allK {K : PySem.W.Frag} {c : Cf} {H : Hp} {us : List (Key × V)} {kvs : List (Key × D)} (r : KVR K c H us kvs) : ∀ kv ∈ us, ∃ q ∈ kvs, kv.1 = q.1 ∧ Rep K c H kv.2 q.2 := by
  unfold KVR at r
  induction r with
  | nil => intro kv h; cases h
  | @cons p q ps qs h _ ih =>
    intro kv hk
    rcases List.mem_cons.mp hk with rfl | hk
    · exact ⟨q, List.mem_cons_self, h⟩
    · obtain ⟨q', m, z⟩ := ih kv hk
      exact ⟨q', List.mem_cons_of_mem _ m, z⟩
theorem alikeK.to {K : PySem.W.Frag} {c : Cf} {S : List Ob} {H : Hp} (s : SInv K c S H) {v w : V} {x y : D} (rx : Rep K c H v x) (ry : Rep K c H w y) (h : alikeK S x y = true) : AlikeV K H v w := by
  unfold alikeK at h
  split at h
  · next m n =>
    split at h
    · next kvs lvs e1 e2 =>
      cases rx with
      | @obj a _ ha =>
      cases ry with
      | @obj b _ hb =>
      simp only [Bool.and_eq_true, beq_iff_eq] at h
      obtain ⟨⟨⟨hl, k1⟩, k2⟩, hh⟩ := h
      obtain ⟨us, g1, g2⟩ := s.obs _ a _ ha e1
      obtain ⟨ts, g3, g4⟩ := s.obs _ b _ hb e2
      refine .inr ⟨a, b, us, ts, rfl, rfl, g1, g3, by rw [g2.length, g4.length]; exact hl, fun kv m => ?_, fun kv m => ?_, fun kv m => ?_⟩
      · obtain ⟨q, q1, q2, _⟩ := g2.allK kv m
        rw [q2]; exact keysI_all k1 q q1
      · obtain ⟨q, q1, q2, _⟩ := g4.allK kv m
        rw [q2]; exact keysI_all k2 q q1
      · obtain ⟨q, q1, q2, q3⟩ := g2.allK kv m
        have hq := List.all_eq_true.mp hh q q1
        split at hq
        · next e ee =>
          obtain ⟨z, z1, z2⟩ := g4.get _ ee
          exact ⟨z, by rw [q2]; exact z1, alike1.to s q3 z2 hq⟩
        · cases hq
    · exact .inl (alike1.to s rx ry h)
  · exact .inl (alike1.to s rx ry h)
theorem sem_eqK {K : PySem.W.Frag} {b : Bool} : Sem2 K (rEqK K b) (eqK b) := fun {Oo c t σ H x y dx dy r t' Q} f rx ry eq k => by
  unfold eqK at eq
  split at eq
  · next xs ys =>
    split at eq
    · next hp =>
      cases eq
      cases rx with
      | @lst p vs _ g1 g2 g3 =>
      cases ry with
      | @lst q ws _ h1 h2 h3 =>
      refine ⟨p, q, vs, ws, rfl, rfl, g1, h1, by rw [g3.length, h3.length]; exact hp.1, fun j v w e1 e2 => ?_, k _ H c f .refl (.bl b)⟩
      obtain ⟨l1, _⟩ := List.getElem?_eq_some_iff.mp e1
      obtain ⟨l2, _⟩ := List.getElem?_eq_some_iff.mp e2
      have k1 : xs[j]? = some (xs[j]'(by rw [← g3.length]; exact l1)) := List.getElem?_eq_getElem _
      have k2 : ys[j]? = some (ys[j]'(by rw [← h3.length]; exact l2)) := List.getElem?_eq_getElem _
      have hz : (xs.zip ys)[j]? = some (xs[j]'(by rw [← g3.length]; exact l1), ys[j]'(by rw [← h3.length]; exact l2)) := by
        rw [List.getElem?_zip_eq_some]; exact ⟨k1, k2⟩
      exact alikeK.to f.s (g3.get e1 k1) (h3.get e2 k2) (List.all_eq_true.mp hp.2 _ (List.mem_of_getElem? hz))
    · cases eq
  · cases eq
/-! ### any, a numbered list + a list -/
noncomputable def anyD : List D → M D
  | [.lst ds] => fun t => match blsOf ds with
    | some bs => some (.bl (bs.any id), t)
    | none => none
  | _ => fail
theorem sem_anyL {K : PySem.W.Frag} : SemN K (fun xs H Q => ∃ (p : Addr) (bs : List Bool), xs = [.ref p] ∧ SqL K H p (bs.map V.bl) ∧ Q (.bl (bs.any id)) H) anyD := fun {Oo c t σ H xs ds r t' Q} f rx eq k => by
  unfold anyD at eq
  split at eq
  · next es =>
    split at eq
    · next bs e =>
      cases eq
      obtain ⟨v, rfl, rv⟩ := reps1 rx
      cases rv with
      | @lst a ws es g1 g2 g3 =>
      have := bls_rep g3 e
      subst this
      exact ⟨a, bs, rfl, SqL.of g1, k _ H c f .refl (.bl _)⟩
    · cases eq
  · cases eq
theorem bt_any : bootBuiltins "any" = some (.builtin "any") := by decide +kernel
noncomputable def catO (x y : D) : M (List D) := fun t => match res1 t.S x, y with
  | .lst xs, .lst ys => lim (xs.length + ys.length) (xs ++ ys) t
  | _, _ => none
theorem sem_catO {K : PySem.W.Frag} : Sem2F K rCat catO := fun {Oo c t σ H x y dx dy r t' Q} f rx ry eq k => by
  unfold catO at eq
  split at eq
  · next xs ys e1 =>
    obtain ⟨h, z⟩ := lim_some eq
    cases z
    cases ry with
    | @lst b ws es g1 g2 g3 =>
    cases rx with
    | @lst a vs ds h1 h2 h3 =>
      cases e1
      refine ⟨a, b, vs, ws, rfl, rfl, h1, g1, ?_, fun p hp => k p _ H c f .refl (h3.append g3) hp⟩
      rw [h3.length, g3.length]; exact Nat.le_trans h LIM_le
    | @obj a kk hk =>
      unfold res1 at e1
      dsimp only at e1
      split at e1
      · next es =>
        cases e1
        obtain ⟨vs, q1, q2⟩ := f.s.obs _ a _ hk es
        refine ⟨a, b, vs, ws, rfl, rfl, q1, g1, ?_, fun p hp => k p _ H c f .refl (q2.append g3) hp⟩
        rw [q2.length, g3.length]; exact Nat.le_trans h LIM_le
      · cases e1
    | _ => cases e1
  · cases eq
end F2

set_option Elab.async false
set_option linter.all false
set_option maxRecDepth 100000
set_option maxHeartbeats 4000000
set_option autoImplicit false
namespace F2
open PySem L2 PySem.Spec
/-! ### for k in d[q]: d[q][k].append(text), of a dict with int keys whose values are numbered lists -/
noncomputable def appK (j : Nat) (v : D) (kvs : List (Key × D)) : List Int → M Unit
  | [] => ret ()
  | k :: r => fun t => match kvGet kvs (.inl k) with
    | some (.obj m) => match t.S[m]? with
      | some (.lst xs) => if xs.length < LIM then appK j v kvs r ⟨t.env.set j (some (.val (.int k))), t.S.set m (.lst (xs ++ [v]))⟩ else none
      | _ => none
    | _ => none
noncomputable def appAll (i : Nat) (q : Int) (j : Nat) (v : D) : M Out := fun t => match t.env[i]? with
  | some (some (.val (.lst ds))) => match atI ds q with
    | some (.obj n) => match t.S[n]? with
      | some (.dct kvs) => match keysI kvs with
        | some ns => if i ≠ j ∧ j < t.env.length then (appK j v kvs ns t).map fun p => (.next, p.2) else none
        | none => none
      | _ => none
    | _ => none
  | _ => none
theorem Reps.atI {K : PySem.W.Frag} {c : Cf} {H : Hp} {vs : List V} {ds : List D} {q : Int} {d : D} (r : Reps K c H vs ds) (e : L2.atI ds q = some d) : ∃ v, L2.atI vs q = some v ∧ Rep K c H v d := by
  unfold L2.atI at e ⊢
  rw [r.length]
  cases h : ixN ds.length q with
  | none => rw [h] at e; cases e
  | some k =>
    rw [h] at e
    exact r.at e
section
variable {X : Cx} {pos : Pos}
theorem fs_dictApp {μ : Cf → Hp → D → (V → Hp → Prop) → Prop} (i j : Nat) {x y : Str} {q : Int} {z : Str} {j1 j2 j3 : Nat} {p1 p2 p3 p4 p5 p6 p7 p8 p9 p10 py apos cpos pos2 : Pos} (hp : PassesOwn (model X.prog X.w) X.A X.env X.xe) (hc : X.calm = true) (hnd : X.N.Nodup)
    (hN : X.N[i]? = some x := by rfl) (hv : Vis X.env.scope x := by first | exact Or.inl rfl | exact Or.inr (Or.inl rfl) | exact Or.inr (Or.inr rfl)) (hd : (x == ("__debug__" : Str)) = false := by decide) (hcd : (x == ("__classdict__" : Str)) = false := by decide)
    (hN2 : X.N[j]? = some y := by rfl) (hv2 : Vis X.env.scope y := by first | exact Or.inl rfl | exact Or.inr (Or.inl rfl) | exact Or.inr (Or.inr rfl)) (hd2 : (y == ("__debug__" : Str)) = false := by decide) (hcd2 : (y == ("__classdict__" : Str)) = false := by decide)
    (hx : Loc X.env.scope y := by exact .inl rfl) (hf : X.fn y = true ∨ X.env.scope.names.lookup y = some .local := by first | exact .inl rfl | exact .inr rfl | assumption)
    (hs : ∀ v, foldedSetIterable (.Subscript (.Name x p1) (.Constant (.int q) j1 p2) p3) X.env v = pure v := by intro _; rfl)
    (hs2 : swapsWith (.Call (.Attribute (.Subscript (.Subscript (.Name x p4) (.Constant (.int q) j2 p5) p6) (.Name y p7) p8) "append" apos) [.Constant (.str z) j3 p9] [] cpos) none p10.line X.env = pure false := by rfl)
    (hbase : attributeBase (.Subscript (.Subscript (.Name x p4) (.Constant (.int q) j2 p5) p6) (.Name y p7) p8) "append" X.env (eval (.Subscript (.Subscript (.Name x p4) (.Constant (.int q) j2 p5) p6) (.Name y p7) p8) X.env) = eval (.Subscript (.Subscript (.Name x p4) (.Constant (.int q) j2 p5) p6) (.Name y p7) p8) X.env := by rfl)
    (hfew : ((backTo cpos (starEach [.Constant (.str z) j3 p9] X.env)).all (fun x => !x.1) && (backToKw cpos (keywordEach [] X.env)).all (fun x => x.1.isSome) && decide (([Expr.Constant (.str z) j3 p9]).length + ([] : List Keyword).length + (if ([] : List Keyword).isEmpty then 0 else 1) < 30)) = true := by rfl)
    (hline : (apos.endLine == cpos.line) = true := by rfl) (hst : starEach [.Constant (.str z) j3 p9] X.env = (false, eval (.Constant (.str z) j3 p9) X.env) :: starEach [] X.env := by rfl) (hplain : (backTo cpos (starEach [] X.env)).any (·.1) = false := by rfl) :
    PS X (.For (.Name y py) (.Subscript (.Name x p1) (.Constant (.int q) j1 p2) p3) [.Expr (.Call (.Attribute (.Subscript (.Subscript (.Name x p4) (.Constant (.int q) j2 p5) p6) (.Name y p7) p8) "append" apos) [.Constant (.str z) j3 p9] [] cpos) p10] [] pos2) (RSg X.K μ (appAll i q j (.str z))) :=
  PS_imp (ps_forD hp hc (pe_ix ix_seq (pe_var hN hv hd hcd) pe_int (fun _ _ => rfl)) (pg_name hnd hN2 hx hf)
    (pss_one (ps_expr (pe_bm PySem.F.plainAttrs_list PySem.F.slot_list_append PySem.F.type_list_append mt_append (pe_ix ix_dkZ (pe_ix ix_seq (pe_var hN hv hd hcd) pe_int (fun _ _ => rfl)) (pe_var hN2 hv2 hd2 hcd2) (fun _ _ => rfl)) (pa_cons pe_str pa_nil hst) hbase hfew hline hst hplain) hs2)) hs) fun E σ H ⟨Oo, c, t, fi, o, t', eq, k⟩ => by
    unfold appAll at eq
    split at eq
    case h_2 => cases eq
    next ds e0 =>
    split at eq
    case h_2 => cases eq
    next n e1 =>
    split at eq
    case h_2 => cases eq
    next kvs e2 =>
    split at eq
    case h_2 => cases eq
    next ns e3 =>
    split at eq
    case isFalse => cases eq
    next hij0 =>
    obtain ⟨hij, hj0⟩ := hij0
    obtain ⟨⟨u, t1⟩, e4, e5⟩ := Option.map_eq_some_iff.mp eq
    cases e5
    obtain ⟨v, h1, h2⟩ := fi.val i _ e0
    cases h2 with
    | @lst p vs _ g1 g2 g3 =>
    obtain ⟨va, ea, ra⟩ := g3.atI e1
    cases ra with
    | @obj a _ hk =>
    obtain ⟨us, u1, u2⟩ := fi.s.obs n a _ hk e2
    have hl1 : X.N[i]? = some x := hN
    refine ⟨.ref p, h1, .inl ⟨p, vs, q, .ref a, rfl, rfl, SqL.of g1, ea, ?_⟩⟩
    refine ⟨a, us, ns, rfl, u1, u2.keys e3, fun m σ' H' => ∃ c' t2, FInv X.K Oo c' t2 σ' H' ∧ Stp Oo c H c' H' ∧ appK j (.str z) kvs (ns.drop m) t2 = some (u, t1) ∧ j < t2.env.length ∧ t2.S[n]? = some (.dct kvs) ∧ t2.env[i]? = some (some (.val (.lst ds))) ∧ H' a = some (.dK us),
      ⟨c, t, fi, .refl, e4, hj0, e2, e0, u1⟩, fun m σ' H' ⟨_, _, _, _, _, _, _, _, w⟩ => w, fun σ' H' ⟨c', t2, f2, s2, w1, _⟩ => ?_, ?_⟩
    · rw [List.drop_length] at w1
      cases w1
      exact k σ' H' c' f2 s2
    · rintro m σ' H' kk ⟨c', t2, f2, s2, w1, w0, w2, w3, w4⟩ hm ob
      obtain ⟨hlt, hge⟩ := List.getElem?_eq_some_iff.mp hm
      rw [List.drop_eq_getElem_cons hlt, hge] at w1
      rw [appK] at w1
      dsimp only at w1
      split at w1
      case h_2 => cases w1
      next mm ek =>
      split at w1
      case h_2 => cases w1
      next xs em =>
      split at w1
      case isFalse => cases w1
      next hlim =>
      have hk2 := s2.ext.io _ _ hk
      obtain ⟨us', v1, v2⟩ := f2.s.obs n a _ hk2 w2
      rw [w4] at v1; cases v1
      obtain ⟨vv, ev, rv⟩ := v2.get _ ek
      cases rv with
      | @obj am _ hkm =>
      obtain ⟨zs, z1, z2⟩ := f2.s.obs mm am _ hkm em
      have neA : am ≠ a := fun ee => by subst ee; rw [w4] at z1; cases z1
      obtain ⟨v', h1', h2'⟩ := f2.val i _ w3
      cases h2' with
      | @lst p' vs' _ g1' g2' g3' =>
      obtain ⟨va', ea', ra'⟩ := g3'.atI e1
      cases ra' with
      | @obj a' _ hk' =>
      rw [hk2] at hk'; cases hk'
      have neP : p' ≠ a := fun ee => by subst ee; rw [w4] at g1'; cases g1'
      refine ⟨.ref p', by rw [List.getElem?_set_ne (Ne.symm hij)]; exact h1', .inl ⟨p', vs', q, .ref a, rfl, rfl, SqL.of (by rw [upd_ne neP]; exact g1'), ea', ?_⟩⟩
      have hj : j < σ'.length := by rw [← f2.len]; exact w0
      refine ⟨.int kk, by rw [List.getElem?_set_self hj], a, us, kk, .ref am, rfl, rfl, .inr ⟨ob, upd_same⟩, ev, ?_⟩
      refine ⟨.inl ⟨rfl, zs, SqL.of (by rw [upd_ne neA]; exact z1)⟩, ?_⟩
      refine ⟨am, zs, .str z, rfl, rfl, by rw [upd_ne neA]; exact z1, by rw [z2.length]; exact Nat.lt_trans hlim LIM_lt, ?_⟩
      refine ⟨by rw [upd_ne (Ne.symm neA)]; exact upd_same, ?_⟩
      have eH : upd (upd (upd H' a (.frz ob (.dK us))) am (.lst (zs ++ [.str z]))) a (.dK us) = upd H' am (.lst (zs ++ [.str z])) := by
        funext b
        unfold upd
        by_cases hba : b = a
        · subst hba; rw [if_pos rfl, if_neg (Ne.symm neA)]; exact w4.symm
        · rw [if_neg hba]
          by_cases hbm : b = am
          · rw [if_pos hbm, if_pos hbm]
          · rw [if_neg hbm, if_neg hbm, if_neg hba]
      rw [eH]
      have f3 := f2.set (i := j) (v := .int kk) (d := .int kk) (.int kk)
      obtain ⟨f4, s4⟩ := f3.wrObj (o := .lst (xs ++ [.str z])) (u := .lst (zs ++ [.str z])) hkm fun c'' H'' ext hu => ⟨_, hu, (z2.append (.cons (.str z) .nil)).mono ext⟩
      refine ⟨c', _, f4, s2.trans s4, w1, ?_, ?_, ?_, ?_⟩
      · rw [List.length_set]; exact w0
      · have hne : mm ≠ n := fun ee => by subst ee; rw [w2] at em; cases em
        rw [List.getElem?_set_ne hne]; exact w2
      · rw [List.getElem?_set_ne (Ne.symm hij)]; exact w3
      · rw [upd_ne (Ne.symm neA)]; exact w4
end
end F2

set_option Elab.async false
set_option linter.all false
set_option maxRecDepth 100000
set_option maxHeartbeats 4000000
set_option autoImplicit false
namespace LW
open PySem L2 F2
noncomputable def m_words_of (c_is_end_ : Fn) : M Out :=
  (retS (fIf (fTst (fCall c_is_end_ (fCons (fVar 0) fNil))) (fTup fNil) (fBin (fVar 0) (fC (.int 1)) ixD)))
noncomputable def m_is_end : M Out :=
  (retS (fBin (fBin (fVar 0) (fC (.int 0)) ixD) (fC (.str "end")) (eqS id)))
end LW

set_option Elab.async false
set_option linter.all false
set_option maxRecDepth 100000
set_option maxHeartbeats 4000000
set_option autoImplicit false
namespace LW
open PySem L2 F2
end LW

set_option Elab.async false
set_option linter.all false
set_option maxRecDepth 100000
set_option maxHeartbeats 4000000
set_option autoImplicit false
namespace LW
open PySem L2 F2
noncomputable def m_f_law_cell_v2 : M Out :=
  (seqS (ifS (fTst (fBin (fVar 1) (fB (fCons (fVar 0) fNil) lenD) ltA))
    (retS (fBin (fVar 0) (fVar 1) ixD))
    skipS)
  (retS (fBin (fBin (fBin (fBin (fC (.int 23)) (fVar 1) mul4) (fVar 1) mul4) (fBin (fC (.int 13)) (fVar 1) mul4) add5) (fC (.int 5)) add5)))
noncomputable def m_f_law_mixed : M Out :=
  (seqS (setS 2 (fBin (fBin (fBin (fBin (fBin (fVar 0) (fC (.int 48271)) mul4) (fBin (fBin (fC (.int 7919)) (fVar 1) mul4) (fVar 1) mul4) add5) (fBin (fC (.int 104729)) (fVar 1) mul4) add5) (fC (.int 11)) add5) (fC (.int 2147483647)) modD))
  (seqS (setS 2 (fBin (fBin (fVar 2) (fVar 2) mul4) (fC (.int 2147483629)) modD))
  (retS (fBin (fBin (fBin (fVar 2) (fVar 2) mul4) (fBin (fVar 2) (fC (.int 1000003)) mul4) add5) (fVar 0) add5))))
noncomputable def m_law_K42 (c_f_law_states c_f_law_good c_f_law_cell : Fn) : M Out :=
  (seqS (ifS (fNot (fTst (fCall c_f_law_good (fCons (fCall c_f_law_states (fCons (fVar 0) (fCons (fC (.int 2)) (fCons (fBin (fC (.int 1)) (fBin (fCall c_f_law_cell (fCons (fVar 0) (fCons (fC (.int 0)) fNil))) (fC (.int 6)) modD) add5) fNil)))) fNil))))
    (retS (fC (.bl false)))
    skipS)
  (seqS (forS (fRng1 (fCons (fC (.int 2)) fNil)) (putV 1)
    (seqS (setS 2 (fBin (fC (.int 1)) (fBin (fBin (fCall c_f_law_cell (fCons (fVar 0) (fCons (fC (.int 1)) fNil))) (fBin (fC (.int 1)) (fBin (fC (.int 29)) (fVar 1) mul4) add5) fdivD) (fC (.int 30)) modD) add5))
  (ifS (fNot (fTst (fCall c_f_law_good (fCons (fCall c_f_law_states (fCons (fVar 0) (fCons (fBin (fC (.int 3)) (fBin (fC (.int 29)) (fVar 1) mul4) add5) (fCons (fVar 2) fNil)))) fNil))))
    (retS (fC (.bl false)))
    skipS)))
  (retS (fC (.bl true)))))
end LW

set_option Elab.async false
set_option linter.all false
set_option maxRecDepth 100000
set_option maxHeartbeats 4000000
set_option autoImplicit false
namespace LW
open PySem L2 F2
noncomputable def m_reached_v2 (c_rows_to_ : Fn) : M Out :=
  (retF (fBF (fCons (fCall c_rows_to_ (fCons (fVar 0) fNil)) fNil) sortKF))
noncomputable def m_rows_to_v2 (c_words_of_ : Fn) : M Out :=
  (seqS (setS 1 (fDispI [(0, (fObj (fLst fNil)))]))
  (seqS (setS 2 (fPure (fLst (fCons (fC (.int 0)) fNil))))
  (seqS (whileS (fTst (fBin (fB (fCons (fVar 2) fNil) lenD) (fC (.int 0)) gtA))
    (seqS (ownS 3 (fLst fNil))
  (seqS (forS (fItA (fVar 2)) (putV 4)
    (forS (fItA (fCall c_words_of_ (fCons (fBin (fVar 0) (fVar 4) ixD) fNil))) (putV 5)
    (ifS (fTst (fBin (fBin (fVar 5) (fC (.int 2)) ixD) (fVar 1) (inK true)))
    (seqS (asgS (fObj (bnd (fBin (fVar 1) (fVar 4) dgetI) fun x => bnd (fPure (fLst (fCons (fBin (fVar 5) (fC (.int 0)) ixD) fNil))) fun y => catO x y)) (stKeyI (fVar 1) (fBin (fVar 5) (fC (.int 2)) ixD)))
  (ownM 3 app1 (fCons (fBin (fVar 5) (fC (.int 2)) ixD) fNil)))
    skipS)))
  (setS 2 (fVar 3)))))
  (retS (fVar 1)))))
noncomputable def m_ending (c_is_end_ c_leads_to_ : Fn) : M Out :=
  (seqS (setS 1 (fPure (fComp 1 [] (fItA (fVar 0)) (putV 0) tTru (fCall c_is_end_ (fCons (fVar 0) fNil)))))
  (seqS (forS (fRng1 (fCons (fB (fCons (fVar 0) fNil) lenD) fNil)) (putV 2)
    (setS 1 (fPure (fComp 1 [1] (fItA (fVar 0)) (putV 0) tTru (fOrV (fCall c_is_end_ (fCons (fVar 0) fNil)) (fCall c_leads_to_ (fCons (fVar 0) (fCons (fVar 1) fNil))))))))
  (retF (fComp 1 [1] (fRng1 (fCons (fB (fCons (fVar 0) fNil) lenD) fNil)) (putV 0) (fTst (fBin (fVar 1) (fVar 0) ixD)) (fVar 0)))))
noncomputable def m_leads_to (c_words_of_ : Fn) : M Out :=
  (retS (fB (fCons (fPure (fComp 1 [1] (fItA (fCall c_words_of_ (fCons (fVar 0) fNil))) (putV 0) tTru (fBin (fVar 1) (fBin (fVar 0) (fC (.int 2)) ixD) ixD))) fNil) anyD))
noncomputable def m_f_law_states_v2 (c_f_law_mixed c_f_law_cell : Fn) : M Out :=
  (seqS (ownS 3 (fLst fNil))
  (seqS (forS (fRng1 (fCons (fVar 2) fNil)) (putV 4)
    (seqS (setS 5 (fCall c_f_law_cell (fCons (fVar 0) (fCons (fBin (fVar 1) (fVar 4) add5) fNil))))
  (seqS (ifS (fTst (fBin (fVar 1) (fC (.int 2)) gtA))
    (setS 5 (fCall c_f_law_mixed (fCons (fVar 5) (fCons (fVar 4) fNil))))
    skipS)
  (seqS (setS 6 (fBin (fVar 5) (fC (.int 6)) modD))
  (seqS (setS 5 (fBin (fVar 5) (fC (.int 6)) fdivD))
  (seqS (ifS (fTst (fBin (fVar 6) (fC (.int 0)) (eqS id)))
    (seqS (ownM 3 app1 (fCons (fTup (fCons (fC (.str "end")) fNil)) fNil))
  (ret .cont))
    skipS)
  (seqS (ownS 7 (fLst fNil))
  (seqS (forS (fRng1 (fCons (fBin (fC (.int 1)) (fBin (fVar 5) (fC (.int 3)) modD) add5) fNil)) (putV 8)
    (seqS (setS 5 (fBin (fVar 5) (fC (.int 3)) fdivD))
  (seqS (ownM 7 app1 (fCons (fTup (fCons (fBin (fBin (fC (.str "abc")) (fBin (fBin (fVar 8) (fVar 6) add5) (fC (.int 3)) modD) ixD) (fBin (fC (.int 1)) (fBin (fVar 4) (fC (.int 8)) modD) add5) mul4) (fCons (fTup (fCons (fC (.str "nothing")) fNil)) (fCons (fBin (fVar 5) (fVar 2) modD) fNil)))) fNil))
  (setS 5 (fBin (fVar 5) (fVar 2) fdivD)))))
  (ownM 3 app1 (fCons (fTup (fCons (fBin (fPure (fLst (fCons (fC (.str "left")) (fCons (fC (.str "right")) fNil)))) (fBin (fVar 6) (fC (.int 2)) modD) ixD) (fCons (fVar 7) fNil))) fNil))))))))))
  (retS (fVar 3))))
noncomputable def m_f_law_words : M Out :=
  (seqS (ifS (fTst (fBin (fBin (fVar 0) (fC (.int 0)) ixD) (fC (.str "end")) (eqS id)))
    (retS (fPure (fLst fNil)))
    skipS)
  (retS (fBin (fVar 0) (fC (.int 1)) ixD)))
noncomputable def m_f_law_rows (c_f_law_words : Fn) : M Out :=
  (seqS (setS 1 (fDispI [(0, (fPure (fLst fNil)))]))
  (seqS (setS 2 (fPure (fLst (fCons (fTup (fCons (fC (.int 0)) (fCons (fPure (fLst fNil)) fNil))) fNil))))
  (seqS (whileS (fTst (fBin (fVar 2) (fPure (fLst fNil)) (eqS fun b => !b)))
    (seqS (ownS 3 (fLst fNil))
  (seqS (forS (fItA (fVar 2)) (unS 2 (putCons (putV 4) (putCons (putV 5) putNil)))
    (forS (fItA (fCall c_f_law_words (fCons (fBin (fVar 0) (fVar 4) ixD) fNil))) (unS 3 (putCons (putV 6) (putCons (putV 7) (putCons (putV 8) putNil))))
    (ifS (fTst (fBin (fVar 8) (fVar 1) (inK true)))
    (seqS (asgS (fBin (fVar 5) (fPure (fLst (fCons (fVar 6) fNil))) add5) (stKeyI (fVar 1) (fVar 8)))
  (ownM 3 app1 (fCons (fTup (fCons (fVar 8) (fCons (fBin (fVar 5) (fPure (fLst (fCons (fVar 6) fNil))) add5) fNil))) fNil)))
    skipS)))
  (setS 2 (fVar 3)))))
  (retS (fVar 1)))))
noncomputable def m_f_law_ending (c_f_law_words : Fn) : M Out :=
  (seqS (setS 1 (fObj (fComp 1 [] (fItA (fVar 0)) (putV 0) tTru (fBin (fBin (fVar 0) (fC (.int 0)) ixD) (fC (.str "end")) (eqS id)))))
  (seqS (forS (fRng1 (fCons (fB (fCons (fVar 0) fNil) lenD) fNil)) (putV 2)
    (forS (fRng1 (fCons (fB (fCons (fVar 0) fNil) lenD) fNil)) (putV 3)
    (forS (fItA (fCall c_f_law_words (fCons (fBin (fVar 0) (fVar 3) ixD) fNil))) (unS 3 (putCons (putV 4) (putCons (putV 5) (putCons (putV 6) putNil))))
    (asgS (fOrV (fBin (fVar 1) (fVar 3) ixD) (fBin (fVar 1) (fVar 6) ixD)) (stD (fVar 1) (fVar 3))))))
  (retS (fPure (fComp 1 [1] (fRng1 (fCons (fB (fCons (fVar 0) fNil) lenD) fNil)) (putV 0) (fTst (fBin (fVar 1) (fVar 0) ixD)) (fVar 0))))))
noncomputable def m_f_law_good_v2 (c_rows_to_ c_ending_ c_reached_ c_f_law_ending c_f_law_rows : Fn) : M Out :=
  (seqS (setS 1 (fPure (fBF (fCons (fVar 0) fNil) lstF)))
  (seqS (setS 2 (fCall c_f_law_rows (fCons (fVar 0) fNil)))
  (seqS (setS 3 (fPure (fLst (fCons (fPure (fBF (fCons (fVar 2) fNil) sortKF)) (fCons (fCall c_f_law_ending (fCons (fVar 0) fNil)) (fCons (fVar 2) fNil))))))
  (seqS (setS 4 (fPure (fLst (fCons (fObj (fCallF c_reached_ (fCons (fVar 1) fNil))) (fCons (fObj (fCallF c_ending_ (fCons (fVar 1) fNil))) (fCons (fCall c_rows_to_ (fCons (fVar 1) fNil)) fNil))))))
  (seqS (ifS (fOr (fTst (fBin (fVar 4) (fVar 3) (eqK false))) (fTst (fBin (fVar 1) (fVar 0) (eqS fun b => !b))))
    (retS (fC (.bl false)))
    skipS)
  (seqS (dropS (objM app1 (fBin (fVar 4) (fC (.int 0)) ixD) (fCons (fC (.int 99)) fNil)))
  (seqS (dropS (objM app1 (fBin (fVar 4) (fC (.int 1)) ixD) (fCons (fC (.int 99)) fNil)))
  (seqS (appAll 4 2 5 (.str "z"))
  (retS (fBin (fPure (fLst (fCons (fObj (fCallF c_reached_ (fCons (fVar 1) fNil))) (fCons (fObj (fCallF c_ending_ (fCons (fVar 1) fNil))) (fCons (fCall c_rows_to_ (fCons (fVar 1) fNil)) fNil))))) (fVar 3) (eqK true)))))))))))
end LW

set_option linter.all false
set_option autoImplicit false
set_option maxRecDepth 100000
namespace F2
open PySem L2

/-! ### what is wanted of a reading -/
noncomputable def W {α : Type} (m : M α) (t : T) (P : α → T → Prop) : Prop := ∃ a t', m t = some (a, t') ∧ P a t'
noncomputable def Wf (g : Fn) (ds : List D) (S : List Ob) (P : D → List Ob → Prop) : Prop := ∃ r S', g ds S = some (r, S') ∧ P r S'
theorem W.mono {α : Type} {m : M α} {t : T} {P Q : α → T → Prop} (h : W m t P) (i : ∀ a t', P a t' → Q a t') : W m t Q := by
  obtain ⟨a, t', e, p⟩ := h
  exact ⟨a, t', e, i a t' p⟩
theorem Wf.mono {g : Fn} {ds : List D} {S : List Ob} {P Q : D → List Ob → Prop} (h : Wf g ds S P) (i : ∀ r S', P r S' → Q r S') : Wf g ds S Q := by
  obtain ⟨a, t', e, p⟩ := h
  exact ⟨a, t', e, i a t' p⟩
section
variable {α β : Type}
theorem W_some {m : M α} {t : T} {P : α → T → Prop} {a : α} {t' : T} (e : m t = some (a, t')) : W m t P ↔ P a t' := by
  constructor
  · rintro ⟨a', t1, e', p⟩; rw [e] at e'; cases e'; exact p
  · exact fun p => ⟨a, t', e, p⟩
theorem W_none {m : M α} {t : T} {P : α → T → Prop} (e : m t = none) : W m t P ↔ False := by
  constructor
  · rintro ⟨a', t1, e', p⟩; rw [e] at e'; cases e'
  · exact False.elim
@[simp] theorem W_ret {a : α} {t : T} {P : α → T → Prop} : W (ret a) t P ↔ P a t := W_some rfl
@[simp] theorem W_fail {t : T} {P : α → T → Prop} : W (fail : M α) t P ↔ False := W_none rfl
@[simp] theorem W_bnd {f : M α} {g : α → M β} {t : T} {P : β → T → Prop} : W (bnd f g) t P ↔ W f t fun a t1 => W (g a) t1 P := by
  constructor
  · rintro ⟨b, t', e, p⟩
    obtain ⟨a, t1, e1, e2⟩ := bnd_some e
    exact ⟨a, t1, e1, b, t', e2, p⟩
  · rintro ⟨a, t1, e1, b, t', e2, p⟩
    exact ⟨b, t', by unfold bnd; rw [e1]; exact e2, p⟩
@[simp] theorem W_ite {c : Prop} [Decidable c] {f g : M α} {t : T} {P : α → T → Prop} : W (if c then f else g) t P ↔ if c then W f t P else W g t P := by split <;> rfl
@[simp] theorem W_lim {n : Nat} {a : α} {t : T} {P : α → T → Prop} : W (lim n a) t P ↔ n ≤ LIM ∧ P a t := by
  unfold lim
  constructor
  · rintro ⟨a', t', e, p⟩
    split at e
    · cases e; exact ⟨by assumption, p⟩
    · cases e
  · rintro ⟨h, p⟩
    exact ⟨a, t, by simp only [h, if_true], p⟩
end
variable {t : T} {env : List (Option Sl)} {S : List Ob}
@[simp] theorem W_fC {d : D} {P : D → T → Prop} : W (fC d) t P ↔ P d t := W_some rfl
@[simp] theorem W_fVar {i : Nat} {P : D → T → Prop} : W (fVar i) t P ↔ match t.env[i]? with
    | some (some (.val d)) => P d t
    | some (some (.own ds)) => P (.lst ds) ⟨t.env.set i (some (.val (.lst ds))), t.S⟩
    | _ => False := by
  cases e : t.env[i]? with
  | none => exact W_none (by unfold fVar; simp [e])
  | some o =>
    cases o with
    | none => exact W_none (by unfold fVar; simp [e])
    | some sl =>
      cases sl with
      | val d => exact W_some (by unfold fVar; simp [e])
      | own ds => exact W_some (by unfold fVar; simp [e])
@[simp] theorem W_fBin {f g : M D} {h : D → D → M D} {P : D → T → Prop} : W (fBin f g h) t P ↔ W f t fun x t1 => W g t1 fun y t2 => W (h x y) t2 P := by simp [fBin]
@[simp] theorem W_fUn {f : M D} {h : D → M D} {P : D → T → Prop} : W (fUn f h) t P ↔ W f t fun x t1 => W (h x) t1 P := by simp [fUn]
@[simp] theorem W_toB {b : Bool} {P : Bool → T → Prop} : W (toB (.bl b)) t P ↔ P b t := W_some rfl
@[simp] theorem W_fTst {f : M D} {P : Bool → T → Prop} : W (fTst f) t P ↔ W f t fun x t1 => W (toB x) t1 P := by simp [fTst]
@[simp] theorem W_fChain {f g w : M D} {h h' : D → D → M D} {P : D → T → Prop} : W (fChain f g w h h') t P ↔ W f t fun x t1 => W g t1 fun y t2 => W (h x y) t2 fun k t3 => W (toB k) t3 fun k t4 => if k = true then W w t4 fun z t5 => W (h' y z) t5 P else P (.bl false) t4 := by
  simp [fChain]
@[simp] theorem W_fAnd {f g : M Bool} {P : Bool → T → Prop} : W (fAnd f g) t P ↔ W f t fun k t1 => if k = true then W g t1 P else P false t1 := by simp [fAnd]
@[simp] theorem W_fOr {f g : M Bool} {P : Bool → T → Prop} : W (fOr f g) t P ↔ W f t fun k t1 => if k = true then P true t1 else W g t1 P := by simp [fOr]
@[simp] theorem W_fNot {f : M Bool} {P : Bool → T → Prop} : W (fNot f) t P ↔ W f t fun k t1 => P (!k) t1 := by simp [fNot]
@[simp] theorem W_fAndV {f g : M D} {P : D → T → Prop} : W (fAndV f g) t P ↔ W f t fun x t1 => W (toB x) t1 fun k t2 => if k = true then W g t2 P else P (.bl false) t2 := by simp [fAndV]
@[simp] theorem W_fOrV {f g : M D} {P : D → T → Prop} : W (fOrV f g) t P ↔ W f t fun x t1 => W (toB x) t1 fun k t2 => if k = true then P (.bl true) t2 else W g t2 P := by simp [fOrV]
@[simp] theorem W_fNotV {f : M D} {P : D → T → Prop} : W (fNotV f) t P ↔ W f t fun x t1 => W (toB x) t1 fun k t2 => P (.bl (!k)) t2 := by simp [fNotV]
@[simp] theorem W_fIf {f : M Bool} {g h : M D} {P : D → T → Prop} : W (fIf f g h) t P ↔ W f t fun k t1 => if k = true then W g t1 P else W h t1 P := by simp [fIf]
@[simp] theorem W_fNil {P : List D → T → Prop} : W fNil t P ↔ P [] t := W_some rfl
@[simp] theorem W_fCons {f : M D} {g : M (List D)} {P : List D → T → Prop} : W (fCons f g) t P ↔ W f t fun d t1 => W g t1 fun ds t2 => P (d :: ds) t2 := by simp [fCons]
@[simp] theorem W_fTup {f : M (List D)} {P : D → T → Prop} : W (fTup f) t P ↔ W f t fun ds t1 => ds.length ≤ LIM ∧ P (.tup ds) t1 := by simp [fTup]
@[simp] theorem W_fLst {f : M (List D)} {P : List D → T → Prop} : W (fLst f) t P ↔ W f t fun ds t1 => ds.length ≤ LIM ∧ P ds t1 := by simp [fLst]
@[simp] theorem W_fPure {f : M (List D)} {P : D → T → Prop} : W (fPure f) t P ↔ W f t fun ds t1 => P (.lst ds) t1 := by simp [fPure]
@[simp] theorem W_newOb {o : Ob} {P : D → T → Prop} : W (newOb o) t P ↔ P (.obj t.S.length) ⟨t.env, t.S ++ [o]⟩ := W_some rfl
@[simp] theorem W_fObj {f : M (List D)} {P : D → T → Prop} : W (fObj f) t P ↔ W f t fun ds t1 => W (newOb (.lst ds)) t1 P := by simp [fObj]
@[simp] theorem W_fCall {g : Fn} {f : M (List D)} {P : D → T → Prop} : W (fCall g f) t P ↔ W f t fun ds t1 => Wf g ds t1.S fun r S' => P r ⟨t1.env, S'⟩ := by
  unfold fCall
  rw [W_bnd]
  constructor
  · rintro ⟨ds, t1, e1, r, t', e2, p⟩
    refine ⟨ds, t1, e1, ?_⟩
    dsimp only at e2
    cases e : g ds t1.S with
    | none => rw [e] at e2; cases e2
    | some z => obtain ⟨r', S'⟩ := z; rw [e] at e2; cases e2; exact ⟨r, _, e, p⟩
  · rintro ⟨ds, t1, e1, r, S', e2, p⟩
    exact ⟨ds, t1, e1, r, _, by simp only [e2], p⟩
@[simp] theorem W_fB {f : M (List D)} {h : List D → M D} {P : D → T → Prop} : W (fB f h) t P ↔ W f t fun ds t1 => W (h ds) t1 P := by simp [fB]
@[simp] theorem W_fBF {f : M (List D)} {h : List D → M (List D)} {P : List D → T → Prop} : W (fBF f h) t P ↔ W f t fun ds t1 => W (h ds) t1 P := by simp [fBF]
/-! statements -/
@[simp] theorem W_seqS {f g : M Out} {P : Out → T → Prop} : W (seqS f g) t P ↔ W f t fun o t1 => match o with
    | .next => W g t1 P
    | .brk => P .brk t1
    | .cont => P .cont t1
    | .ret d => P (.ret d) t1 := by
  unfold seqS
  constructor
  · rintro ⟨o, t', e, p⟩
    dsimp only at e
    cases e1 : f t with
    | none => rw [e1] at e; cases e
    | some z =>
      obtain ⟨o1, t1⟩ := z
      rw [e1] at e
      refine ⟨o1, t1, e1, ?_⟩
      cases o1 with
      | next => exact ⟨o, t', e, p⟩
      | brk => cases e; exact p
      | cont => cases e; exact p
      | ret d => cases e; exact p
  · rintro ⟨o, t1, e, p⟩
    cases o with
    | next => obtain ⟨o, t', e', p⟩ := p; exact ⟨o, t', by simp only [e]; exact e', p⟩
    | brk => exact ⟨_, _, by simp only [e], p⟩
    | cont => exact ⟨_, _, by simp only [e], p⟩
    | ret d => exact ⟨_, _, by simp only [e], p⟩
@[simp] theorem W_skipS {P : Out → T → Prop} : W skipS t P ↔ P .next t := W_some rfl
@[simp] theorem W_retS {f : M D} {P : Out → T → Prop} : W (retS f) t P ↔ W f t fun d t1 => P (.ret d) t1 := by simp [retS]
@[simp] theorem W_dropS {f : M D} {P : Out → T → Prop} : W (dropS f) t P ↔ W f t fun d t1 => P .next t1 := by simp [dropS]
@[simp] theorem W_ifS {f : M Bool} {g h : M Out} {P : Out → T → Prop} : W (ifS f g h) t P ↔ W f t fun k t1 => if k = true then W g t1 P else W h t1 P := by simp [ifS]
@[simp] theorem W_putV {i : Nat} {d : D} {P : Unit → T → Prop} : W (putV i d) t P ↔ P () ⟨t.env.set i (some (.val d)), t.S⟩ := W_some rfl
@[simp] theorem W_setS {i : Nat} {f : M D} {P : Out → T → Prop} : W (setS i f) t P ↔ W f t fun d t1 => P .next ⟨t1.env.set i (some (.val d)), t1.S⟩ := by
  simp only [setS, W_bnd, W_ret, W_putV]
@[simp] theorem W_ownS {i : Nat} {f : M (List D)} {P : Out → T → Prop} : W (ownS i f) t P ↔ W f t fun ds t1 => P .next ⟨t1.env.set i (some (.own ds)), t1.S⟩ := by
  unfold ownS; rw [W_bnd]
  have : ∀ (ds : List D) (t1 : T), W (fun t : T => some (Out.next, ({ t with env := t.env.set i (some (.own ds)) } : T))) t1 P ↔ P .next ⟨t1.env.set i (some (.own ds)), t1.S⟩ := fun ds t1 => W_some rfl
  simp only [this]
@[simp] theorem W_asgS {f : M D} {g : D → M Unit} {P : Out → T → Prop} : W (asgS f g) t P ↔ W f t fun d t1 => W (g d) t1 fun _ t2 => P .next t2 := by simp [asgS]
@[simp] theorem W_putNil {P : Unit → T → Prop} : W (putNil []) t P ↔ P () t := W_some rfl
@[simp] theorem W_putCons {f : D → M Unit} {g : List D → M Unit} {d : D} {ds : List D} {P : Unit → T → Prop} : W (putCons f g (d :: ds)) t P ↔ W (f d) t fun _ t1 => W (g ds) t1 P := by simp [putCons]
@[simp] theorem W_unS_lst {n : Nat} {g : List D → M Unit} {ds : List D} {P : Unit → T → Prop} : W (unS n g (.lst ds)) t P ↔ ds.length = n ∧ W (g ds) t P := by
  unfold unS; simp only [W_ite, W_fail]; split <;> simp [*]
@[simp] theorem W_unS_tup {n : Nat} {g : List D → M Unit} {ds : List D} {P : Unit → T → Prop} : W (unS n g (.tup ds)) t P ↔ ds.length = n ∧ W (g ds) t P := by
  unfold unS; simp only [W_ite, W_fail]; split <;> simp [*]
/-! walks -/
@[simp] theorem W_forS {f : M (List D)} {st : D → M Unit} {b : M Out} {P : Out → T → Prop} : W (forS f st b) t P ↔ W f t fun ds t1 => W (forL st b ds) t1 P := by simp [forS]
@[simp] theorem W_forL_nil {st : D → M Unit} {b : M Out} {P : Out → T → Prop} : W (forL st b []) t P ↔ P .next t := W_some rfl
theorem W_forL_cons {st : D → M Unit} {b : M Out} {d : D} {r : List D} {P : Out → T → Prop} : W (forL st b (d :: r)) t P ↔ W (st d) t fun _ t1 => W b t1 fun o t2 => match o with
    | .next => W (forL st b r) t2 P
    | .cont => W (forL st b r) t2 P
    | .brk => P .next t2
    | .ret x => P (.ret x) t2 := by
  constructor
  · rintro ⟨o, t', e, p⟩
    unfold forL at e
    cases e1 : st d t with
    | none => rw [e1] at e; cases e
    | some z =>
      obtain ⟨u, t1⟩ := z
      rw [e1] at e
      try dsimp only at e
      refine ⟨u, t1, e1, ?_⟩
      cases e2 : b t1 with
      | none => rw [e2] at e; cases e
      | some z =>
        obtain ⟨o2, t2⟩ := z
        rw [e2] at e
        try dsimp only at e
        refine ⟨o2, t2, e2, ?_⟩
        cases o2 with
        | next => exact ⟨o, t', e, p⟩
        | cont => exact ⟨o, t', e, p⟩
        | brk => cases e; exact p
        | ret x => cases e; exact p
  · rintro ⟨u, t1, e1, o, t2, e2, p⟩
    cases o with
    | next => obtain ⟨o, t', e', p⟩ := p; exact ⟨o, t', by unfold forL; simp only [e1, e2]; exact e', p⟩
    | cont => obtain ⟨o, t', e', p⟩ := p; exact ⟨o, t', by unfold forL; simp only [e1, e2]; exact e', p⟩
    | brk => exact ⟨_, _, by unfold forL; simp only [e1, e2], p⟩
    | ret x => exact ⟨_, _, by unfold forL; simp only [e1, e2], p⟩
/-- a loop by what holds between its turns -/
theorem W_for {st : D → M Unit} {b : M Out} {P : Out → T → Prop} (I : List D → T → Prop) : ∀ (ds : List D) (t : T), I ds t →
    (∀ d r t, I (d :: r) t → d ∈ ds → W (st d) t fun _ t1 => W b t1 fun o t2 => match o with
      | .next => I r t2
      | .cont => I r t2
      | .brk => P .next t2
      | .ret x => P (.ret x) t2) → (∀ t, I [] t → P .next t) → W (forL st b ds) t P
  | [], t, h, _, fin => W_forL_nil.mpr (fin t h)
  | d :: r, t, h, turn, fin => by
    rw [W_forL_cons]
    refine (turn d r t h List.mem_cons_self).mono fun _ t1 h1 => h1.mono fun o t2 h2 => ?_
    cases o with
    | next => exact W_for I r t2 h2 (fun d' r' t' h' m => turn d' r' t' h' (List.mem_cons_of_mem _ m)) fin
    | cont => exact W_for I r t2 h2 (fun d' r' t' h' m => turn d' r' t' h' (List.mem_cons_of_mem _ m)) fin
    | brk => exact h2
    | ret x => exact h2
@[simp] theorem W_fComp {n : Nat} {fr : List Nat} {f : M (List D)} {st : D → M Unit} {tst : M Bool} {elt : M D} {P : List D → T → Prop} : W (fComp n fr f st tst elt) t P ↔ W f t fun ds t1 => W (compL st tst elt ds) ⟨cenv n fr t1.env, t1.S⟩ fun xs t' => xs.length ≤ LIM ∧ P xs ⟨t1.env, t'.S⟩ := by
  unfold fComp
  rw [W_bnd]
  constructor
  · rintro ⟨ds, t1, e1, xs, t', e2, p⟩
    refine ⟨ds, t1, e1, ?_⟩
    dsimp only at e2
    cases e : compL st tst elt ds ⟨cenv n fr t1.env, t1.S⟩ with
    | none => rw [e] at e2; cases e2
    | some z =>
      obtain ⟨ys, t3⟩ := z
      rw [e] at e2
      dsimp only at e2
      split at e2
      · cases e2; exact ⟨_, _, e, by assumption, p⟩
      · cases e2
  · rintro ⟨ds, t1, e1, xs, t', e2, h, p⟩
    exact ⟨ds, t1, e1, xs, _, by simp only [e2, h, if_true], p⟩
@[simp] theorem W_compL_nil {st : D → M Unit} {tst : M Bool} {elt : M D} {P : List D → T → Prop} : W (compL st tst elt []) t P ↔ P [] t := W_some rfl
theorem W_compL_cons {st : D → M Unit} {tst : M Bool} {elt : M D} {d : D} {r : List D} {P : List D → T → Prop} : W (compL st tst elt (d :: r)) t P ↔ W (st d) t fun _ t1 => W tst t1 fun k t2 =>
    if k = true then W elt t2 fun x t3 => W (compL st tst elt r) t3 fun xs t4 => P (x :: xs) t4 else W (compL st tst elt r) t2 P := by
  rw [compL]; simp
/-! a def -/
theorem Wf_fnOf {n m : Nat} {g : M Out} {ds : List D} {P : D → List Ob → Prop} (h : ds.length = n) (w : W g ⟨env0 m ds, S⟩ fun o t => match o with
    | .ret r => P r t.S
    | .next => P .non t.S
    | _ => False) : Wf (fnOf n m g) ds S P := by
  obtain ⟨o, t, e, p⟩ := w
  cases o with
  | ret r => exact ⟨r, t.S, by unfold fnOf; rw [if_pos h, e], p⟩
  | next => exact ⟨.non, t.S, by unfold fnOf; rw [if_pos h, e], p⟩
  | brk => exact p.elim
  | cont => exact p.elim
@[simp] theorem W_tTru {P : Bool → T → Prop} : W tTru t P ↔ P true t := W_some rfl
@[simp] theorem W_fDic {P : D → T → Prop} : W fDic t P ↔ P .dic t := W_some rfl
end F2

set_option linter.all false
set_option autoImplicit false
set_option maxRecDepth 100000
namespace F2
open PySem L2
variable {t : T} {P : D → T → Prop}
theorem W_map {α β : Type} {o : Option β} {g : β → α × T} {Q : α → T → Prop} {m : M α} (e : m t = o.map g) : W m t Q ↔ ∃ b, o = some b ∧ Q (g b).1 (g b).2 := by
  constructor
  · rintro ⟨a, t', e', p⟩
    rw [e] at e'
    obtain ⟨b, h1, h2⟩ := Option.map_eq_some_iff.mp e'
    exact ⟨b, h1, by rw [h2]; exact p⟩
  · rintro ⟨b, h, p⟩
    exact ⟨_, _, by rw [e, h]; rfl, p⟩
theorem W_if {α : Type} {c : Prop} [Decidable c] {z : α × T} {Q : α → T → Prop} {m : M α} (e : m t = if c then some z else none) : W m t Q ↔ c ∧ Q z.1 z.2 := by
  constructor
  · rintro ⟨a, t', e', p⟩
    rw [e] at e'
    split at e'
    · cases e'; exact ⟨by assumption, p⟩
    · cases e'
  · rintro ⟨h, p⟩
    exact ⟨_, _, by rw [e, if_pos h], p⟩
theorem W_map2 {α β : Type} {o : Option β} (f : β → α) {Q : α → T → Prop} {m : M α} (e : m t = o.map fun b => (f b, t)) : W m t Q ↔ ∃ b, o = some b ∧ Q (f b) t := W_map (g := fun b => (f b, t)) e
theorem W_if2 {α : Type} {c : Prop} [Decidable c] {a : α} {Q : α → T → Prop} {m : M α} (e : m t = if c then some (a, t) else none) : W m t Q ↔ c ∧ Q a t := W_if (z := (a, t)) e
/-! o[i] -/
@[simp] theorem W_ix_tup {ds : List D} {i : Int} : W (ixD (.tup ds) (.int i)) t P ↔ ∃ d, atI ds i = some d ∧ P d t := W_map2 id rfl
@[simp] theorem W_ix_lst {ds : List D} {i : Int} : W (ixD (.lst ds) (.int i)) t P ↔ ∃ d, atI ds i = some d ∧ P d t := W_map2 id rfl
@[simp] theorem W_ix_scr {ns : List Int} {i : Int} : W (ixD (.scr ns) (.int i)) t P ↔ ∃ n, atI ns i = some n ∧ P (.int n) t := W_map2 D.int rfl
@[simp] theorem W_ix_str {x : Str} {i : Int} : W (ixD (.str x) (.int i)) t P ↔ x.length ≤ LIM ∧ ∃ n, atI x.cps.toList i = some n ∧ P (.str ⟨#[n]⟩) t := by
  by_cases h : x.length ≤ LIM
  · have : ixD (.str x) (.int i) t = (atI x.cps.toList i).map fun n => (.str ⟨#[n]⟩, t) := by simp only [ixD, h, if_true]
    rw [W_map this]; simp [h]
  · rw [W_none (by simp only [ixD, h, if_false])]; simp [h]
@[simp] theorem W_ix_obj {k : Nat} {i : Int} : W (ixD (.obj k) (.int i)) t P ↔ ∃ ds, t.S[k]? = some (.lst ds) ∧ ∃ d, atI ds i = some d ∧ P d t := by
  cases e : t.S[k]? with
  | none => rw [W_none (by simp only [ixD, e])]; simp
  | some o =>
    cases o with
    | dct _ => rw [W_none (by simp only [ixD, e])]; simp
    | lst ds =>
      have : ixD (.obj k) (.int i) t = (atI ds i).map fun d => (d, t) := by simp only [ixD, e]
      rw [W_map this]; simp
@[simp] theorem atI_0 {α : Type} {a : α} {r : List α} : atI (a :: r) 0 = some a := by simp [atI, ixN]
@[simp] theorem atI_1 {α : Type} {a b : α} {r : List α} : atI (a :: b :: r) 1 = some b := by
  have : (1 : Int) < ((a :: b :: r).length : Nat) := by simp; omega
  simp only [atI, ixN, this, if_true, show (0 : Int) ≤ 1 by decide]; rfl
@[simp] theorem atI_2 {α : Type} {a b c : α} {r : List α} : atI (a :: b :: c :: r) 2 = some c := by
  have : (2 : Int) < ((a :: b :: c :: r).length : Nat) := by simp; omega
  simp only [atI, ixN, this, if_true, show (0 : Int) ≤ 2 by decide]; rfl
/-! len, isinstance -/
@[simp] theorem W_len_lst {ds : List D} : W (lenD [.lst ds]) t P ↔ P (.int ds.length) t := W_some rfl
@[simp] theorem W_len_tup {ds : List D} : W (lenD [.tup ds]) t P ↔ P (.int ds.length) t := W_some rfl
@[simp] theorem W_len_scr {ds : List Int} : W (lenD [.scr ds]) t P ↔ P (.int ds.length) t := W_some rfl
@[simp] theorem W_isi {d : D} {m : String} : W (isiD [d, .ty m]) t P ↔ ∃ n, tyD d = some n ∧ ∃ b, isiT n m = some b ∧ P (.bl b) t := by
  cases e : tyD d with
  | none => rw [W_none (by simp only [isiD, e])]; simp
  | some n =>
    have : isiD [d, .ty m] t = (isiT n m).map fun b => (.bl b, t) := by simp only [isiD, e]
    rw [W_map this]; simp
/-! is -/
noncomputable def isNon : D → Bool
  | .non => true
  | _ => false
noncomputable def isBl (b : Bool) : D → Bool
  | .bl c => c == b
  | _ => false
@[simp] theorem W_is_non {x : D} : W (isC x .non) t P ↔ P (.bl (isNon x)) t := W_some (by cases x <;> rfl)
@[simp] theorem W_is_bl {x : D} {b : Bool} : W (isC x (.bl b)) t P ↔ P (.bl (isBl b x)) t := W_some (by cases x <;> rfl)
@[simp] theorem W_isNot {x y : D} : W (isNotC x y) t P ↔ W (isC x y) t fun d t1 => W (toB d) t1 fun b t2 => P (.bl (!b)) t2 := by
  unfold isNotC
  rw [W_bnd]
  constructor
  · exact fun h => h.mono fun d t1 h1 => by
      cases d with
      | bl b => simpa using h1
      | _ => exact (W_fail.mp h1).elim
  · exact fun h => h.mono fun d t1 h1 => by
      cases d with
      | bl b => simpa using h1
      | _ => obtain ⟨_, _, e, _⟩ := h1; cases e
/-! ints -/
@[simp] theorem W_add_int {i j : Int} : W (add5 (.int i) (.int j)) t P ↔ P (.int (i + j)) t := W_some rfl
@[simp] theorem W_sub_int {i j : Int} : W (subD (.int i) (.int j)) t P ↔ P (.int (i - j)) t := W_some rfl
@[simp] theorem W_lt_int {i j : Int} : W (ltA (.int i) (.int j)) t P ↔ P (.bl (decide (i < j))) t := W_some rfl
@[simp] theorem W_le_int {i j : Int} : W (leA (.int i) (.int j)) t P ↔ P (.bl (decide (i ≤ j))) t := W_some rfl
@[simp] theorem W_gt_int {i j : Int} : W (gtA (.int i) (.int j)) t P ↔ P (.bl (decide (j < i))) t := W_some rfl
@[simp] theorem W_ge_int {i j : Int} : W (geA (.int i) (.int j)) t P ↔ P (.bl (decide (j ≤ i))) t := W_some rfl
@[simp] theorem W_lt_str {i j : Str} : W (ltA (.str i) (.str j)) t P ↔ P (.bl (decide (i.cps.toList < j.cps.toList))) t := W_some rfl
@[simp] theorem W_gt_str {i j : Str} : W (gtA (.str i) (.str j)) t P ↔ P (.bl (decide (j.cps.toList < i.cps.toList))) t := W_some rfl
@[simp] theorem W_neg {i : Int} : W (negD (.int i)) t P ↔ P (.int (-i)) t := W_some rfl
@[simp] theorem W_fdiv {i j : Int} : W (fdivD (.int i) (.int j)) t P ↔ (0 < j ∧ j < 1073741824) ∧ P (.int (i / j)) t := by
  rw [W_if (m := fdivD (.int i) (.int j)) (c := divOk i j = true) (z := (.int (i / j), t)) rfl]; simp [divOk]
@[simp] theorem W_mod {i j : Int} : W (modD (.int i) (.int j)) t P ↔ 0 < j ∧ P (.int (i % j)) t := by
  rw [W_if (m := modD (.int i) (.int j)) (c := decide (0 < j) = true) (z := (.int (i % j), t)) rfl]; simp
@[simp] theorem W_pow {i j : Int} : W (powD (.int i) (.int j)) t P ↔ powOk i j = true ∧ P (.int (i ^ j.toNat)) t := W_if2 rfl
@[simp] theorem W_mul_int {i j : Int} : W (mul4 (.int i) (.int j)) t P ↔ mulOk i j = true ∧ P (.int (i * j)) t := W_if2 rfl
@[simp] theorem W_mul_str {x : Str} {k : Int} : W (mul4 (.str x) (.int k)) t P ↔ (small k = true ∧ x.length * k.toNat ≤ LIM ∧ k ≤ LIM ∧ x.length ≤ LIM) ∧ P (.str (Txt.mul x k)) t := W_if2 rfl
theorem mulOk_l {i j : Int} (h1 : -18446744073709551616 < i) (h2 : i < 18446744073709551616) : mulOk i j = true := by simp [mulOk, h1, h2]
theorem mulOk_r {i j : Int} (h1 : -18446744073709551616 < j) (h2 : j < 18446744073709551616) : mulOk i j = true := by simp [mulOk, h1, h2]
theorem small_of {k : Int} (h1 : -4611686018427387904 ≤ k) (h2 : k < 4611686018427387904) : small k = true := by simp [small, h1, h2]
@[simp] theorem W_add_str {x y : Str} : W (add5 (.str x) (.str y)) t P ↔ x.length + y.length ≤ LIM ∧ P (.str (x ++ y)) t := by
  have : add5 (.str x) (.str y) = lim (x.length + y.length) (.str (x ++ y)) := rfl
  rw [this]; simp
@[simp] theorem W_add_lst {x y : List D} : W (add5 (.lst x) (.lst y)) t P ↔ x.length + y.length ≤ LIM ∧ P (.lst (x ++ y)) t := by
  have : add5 (.lst x) (.lst y) = lim (x.length + y.length) (.lst (x ++ y)) := rfl
  rw [this]; simp
@[simp] theorem W_add_tup {d : D} {x y : List D} : W (add5 (.tup (d :: x)) (.tup y)) t P ↔ x.length + 1 + y.length ≤ LIM ∧ P (.tup (d :: x ++ y)) t := by
  have : add5 (.tup (d :: x)) (.tup y) t = if (d :: x).isEmpty = false ∧ (d :: x).length + y.length ≤ LIM then some (.tup (d :: x ++ y), t) else none := rfl
  rw [W_if this]; simp
@[simp] theorem W_add_tup0 {y : List D} : W (add5 (.tup []) (.tup y)) t P ↔ P (.tup y) t := W_some rfl
@[simp] theorem W_cat {x y : List D} {Q : List D → T → Prop} : W (catF (.lst x) (.lst y)) t Q ↔ x.length + y.length ≤ LIM ∧ Q (x ++ y) t := by
  have : catF (.lst x) (.lst y) = lim (x.length + y.length) (x ++ y) := rfl
  rw [this]; simp
/-! built-ins -/
@[simp] theorem W_abs {i : Int} : W (absD [.int i]) t P ↔ P (.int (if i < 0 then -i else i)) t := W_some rfl
@[simp] theorem W_min {i j : Int} : W (minD [.int i, .int j]) t P ↔ P (.int (if j < i then j else i)) t := W_some rfl
@[simp] theorem W_max {i j : Int} : W (maxD [.int i, .int j]) t P ↔ P (.int (if j > i then j else i)) t := W_some rfl
@[simp] theorem W_int_int {i : Int} : W (intD [.int i]) t P ↔ P (.int i) t := W_some rfl
@[simp] theorem W_int_bl {b : Bool} : W (intD [.bl b]) t P ↔ P (.int (if b then 1 else 0)) t := W_some rfl
@[simp] theorem W_tup_lst {ds : List D} : W (tupD [.lst ds]) t P ↔ P (.tup ds) t := W_some rfl
@[simp] theorem W_lst_lst {ds : List D} {Q : List D → T → Prop} : W (lstF [.lst ds]) t Q ↔ Q ds t := W_some rfl
@[simp] theorem W_lst_tup {ds : List D} {Q : List D → T → Prop} : W (lstF [.tup ds]) t Q ↔ Q ds t := W_some rfl
/-! == -/
@[simp] theorem W_eq_str {g : Bool → Bool} {x y : Str} : W (eqS g (.str x) (.str y)) t P ↔ P (.bl (g (x == y))) t := W_some rfl
@[simp] theorem W_eq_int {g : Bool → Bool} {x y : Int} : W (eqS g (.int x) (.int y)) t P ↔ P (.bl (g (x == y))) t := W_some rfl
@[simp] theorem W_eq_bl {g : Bool → Bool} {x y : Bool} : W (eqS g (.bl x) (.bl y)) t P ↔ P (.bl (g (x == y))) t := W_some rfl
@[simp] theorem W_eq_nil {g : Bool → Bool} {x : List D} : W (eqS g (.lst x) (.lst [])) t P ↔ P (.bl (g x.isEmpty)) t := by
  refine W_some ?_
  cases x <;> rfl
theorem ofString_inj {a b : String} : Str.ofString a = Str.ofString b ↔ a = b := by
  constructor
  · intro h
    rw [Str.ofString_eq_toList, Str.ofString_eq_toList] at h
    injection h with h
    have h := congrArg Array.toList h
    simp only at h
    have hinj : ∀ xs ys : List Char, xs.map Char.toNat = ys.map Char.toNat → xs = ys := by
      intro xs
      induction xs with
      | nil => intro ys h; cases ys with | nil => rfl | cons _ _ => simp at h
      | cons x xs ih =>
        intro ys h
        cases ys with
        | nil => simp at h
        | cons y ys =>
          simp only [List.map_cons, List.cons.injEq] at h
          rw [ih ys h.2, Char.toNat_inj.mp h.1]
    exact String.toList_inj.mp (hinj _ _ (by simpa using h))
  · exact fun h => by rw [h]
@[simp] theorem ofString_beq {a b : String} : (Str.ofString a == Str.ofString b) = (a == b) := by
  rw [Bool.eq_iff_iff, beq_iff_eq, beq_iff_eq, ofString_inj]
/-! slices, walks -/
@[simp] theorem W_sl_lst {ds : List D} {lo hi : Option Int} : W (sl3D (.lst ds) lo hi) t P ↔ P (.lst (cutD ds lo hi)) t := W_some rfl
@[simp] theorem W_sl_scr {ds : List Int} {lo hi : Option Int} : W (sl3D (.scr ds) lo hi) t P ↔ P (.lst ((cutD ds lo hi).map .int)) t := W_some rfl
@[simp] theorem W_sl_str {x : Str} {lo hi : Option Int} : W (sl3D (.str x) lo hi) t P ↔ x.length ≤ LIM ∧ P (.str (Txt.slice x lo hi)) t := by
  have : sl3D (.str x) lo hi = lim x.length (.str (Txt.slice x lo hi)) := rfl
  rw [this]; simp
@[simp] theorem W_sl_tup {ds : List D} {lo hi : Option Int} : W (sl3D (.tup ds) lo hi) t P ↔ P (.tup (cutD ds lo hi)) t := W_some rfl
@[simp] theorem W_fSl {f : M D} {l u : M (Option Int)} {h : D → Option Int → Option Int → M D} : W (fSl f l u h) t P ↔ W f t fun x t1 => W l t1 fun lo t2 => W u t2 fun hi t3 => W (h x lo hi) t3 P := by simp [fSl]
@[simp] theorem W_fNo {Q : Option Int → T → Prop} : W fNo t Q ↔ Q none t := W_some rfl
@[simp] theorem W_asI {i : Int} {Q : Option Int → T → Prop} : W (asI (.int i)) t Q ↔ Q (some i) t := W_some rfl
@[simp] theorem W_fPart {f : M D} {Q : Option Int → T → Prop} : W (fPart f) t Q ↔ W f t fun x t1 => W (asI x) t1 Q := by simp [fPart]
@[simp] theorem W_fItA {f : M D} {Q : List D → T → Prop} : W (fItA f) t Q ↔ W f t fun x t1 => W (itemsA x) t1 Q := by simp [fItA]
@[simp] theorem W_it_lst {ds : List D} {Q : List D → T → Prop} : W (itemsA (.lst ds)) t Q ↔ Q ds t := W_some rfl
@[simp] theorem W_it_tup {ds : List D} {Q : List D → T → Prop} : W (itemsA (.tup ds)) t Q ↔ Q ds t := W_some rfl
@[simp] theorem W_it_scr {ds : List Int} {Q : List D → T → Prop} : W (itemsA (.scr ds)) t Q ↔ Q (ds.map .int) t := W_some rfl
@[simp] theorem W_it_str {x : Str} {Q : List D → T → Prop} : W (itemsA (.str x)) t Q ↔ Q (x.cps.toList.map fun c => .str ⟨#[c]⟩) t := W_some rfl
@[simp] theorem W_fRng1 {f : M (List D)} {Q : List D → T → Prop} : W (fRng1 f) t Q ↔ W f t fun x t1 => W (rng1 x) t1 Q := by simp [fRng1]
@[simp] theorem W_fRng2 {f : M (List D)} {Q : List D → T → Prop} : W (fRng2 f) t Q ↔ W f t fun x t1 => W (rng2 x) t1 Q := by simp [fRng2]
@[simp] theorem W_rng1 {j : Int} {Q : List D → T → Prop} : W (rng1 [.int j]) t Q ↔ small j = true ∧ Q (rngL 0 j.toNat) t := W_if2 rfl
@[simp] theorem W_rng2 {i j : Int} {Q : List D → T → Prop} : W (rng2 [.int i, .int j]) t Q ↔ (small i && small j) = true ∧ Q (rngL i (j - i).toNat) t := W_if2 rfl
/-! in -/
/-! writes -/
@[simp] theorem W_ownM {i : Nat} {h : List D → List D → Option (List D)} {g : M (List D)} {Q : Out → T → Prop} : W (ownM i h g) t Q ↔ (∃ xs, t.env[i]? = some (some (.own xs))) ∧ W g t fun ds t1 => ∃ xs, t1.env[i]? = some (some (.own xs)) ∧ ∃ ys, h xs ds = some ys ∧ Q .next ⟨t1.env.set i (some (.own ys)), t1.S⟩ := by
  constructor
  · rintro ⟨o, t', e, p⟩
    unfold ownM at e
    split at e
    · next xs e0 =>
      refine ⟨⟨xs, e0⟩, ?_⟩
      obtain ⟨ds, t1, e1, e⟩ := bnd_some e
      refine ⟨ds, t1, e1, ?_⟩
      split at e
      · next ys e2 =>
        obtain ⟨zs, e3, e4⟩ := Option.map_eq_some_iff.mp e
        cases e4
        exact ⟨ys, e2, zs, e3, p⟩
      · cases e
    · cases e
  · rintro ⟨⟨xs, e0⟩, ds, t1, e1, ys, e2, zs, e3, p⟩
    exact ⟨_, _, by unfold ownM bnd; simp only [e0, e1, e2, e3, Option.map_some], p⟩
@[simp] theorem app1_one {xs : List D} {d : D} {ys : List D} : app1 xs [d] = some ys ↔ xs.length < LIM ∧ xs ++ [d] = ys := by
  unfold app1; split <;> simp [*]
@[simp] theorem W_stD {f g : M D} {d : D} {Q : Unit → T → Prop} : W (stD f g d) t Q ↔ W f t fun o t1 => W g t1 fun i t2 => W (stOb o i d) t2 Q := by simp [stD]
@[simp] theorem W_stOb {k : Nat} {j : Int} {d : D} {Q : Unit → T → Prop} : W (stOb (.obj k) (.int j) d) t Q ↔ ∃ xs, t.S[k]? = some (.lst xs) ∧ ∃ n, ixN xs.length j = some n ∧ Q () ⟨t.env, t.S.set k (.lst (xs.set n d))⟩ := by
  cases e : t.S[k]? with
  | none => rw [W_none (by simp only [stOb, e])]; simp
  | some o =>
    cases o with
    | dct _ => rw [W_none (by simp only [stOb, e])]; simp
    | lst ds =>
      have : stOb (.obj k) (.int j) d t = (ixN ds.length j).map fun n => ((), { t with S := t.S.set k (.lst (ds.set n d)) }) := by simp only [stOb, e]
      rw [W_map this]; simp
end F2

set_option linter.all false
set_option autoImplicit false
set_option maxRecDepth 100000
namespace F2
open PySem L2
variable {t : T} {P : D → T → Prop} {Q : List D → T → Prop} {R : Out → T → Prop} {B : Bool → T → Prop} {U : Unit → T → Prop}
/-! ### the same, to be laid from behind -/
noncomputable def iteK (k : Bool) (A B : Prop) : Prop := if k = true then A else B
theorem kIfT {k : Bool} {A B : Prop} (h : k = true) (a : A) : iteK k A B := by unfold iteK; rw [if_pos h]; exact a
theorem kIfF {k : Bool} {A B : Prop} (h : k = false) (b : B) : iteK k A B := by unfold iteK; rw [if_neg (by rw [h]; exact Bool.false_ne_true)]; exact b
noncomputable def seqK (g : M Out) (R : Out → T → Prop) (o : Out) (t1 : T) : Prop := match o with
  | .next => W g t1 R
  | o => R o t1
theorem seqK_next {g : M Out} {t1 : T} (h : W g t1 R) : seqK g R .next t1 := h
theorem seqK_ret {g : M Out} {t1 : T} {d : D} (h : R (.ret d) t1) : seqK g R (.ret d) t1 := h
theorem wSeq {f g : M Out} (h : W f t (seqK g R)) : W (seqS f g) t R := W_seqS.mpr (h.mono fun o t1 h1 => by cases o <;> exact h1)
theorem wSkip (h : R .next t) : W skipS t R := W_skipS.mpr h
theorem wRet {f : M D} (h : W f t fun d t1 => R (.ret d) t1) : W (retS f) t R := W_retS.mpr h
theorem wDrop {f : M D} (h : W f t fun d t1 => R .next t1) : W (dropS f) t R := W_dropS.mpr h
theorem wIf {f : M Bool} {g h : M Out} (w : W f t fun k t1 => iteK k (W g t1 R) (W h t1 R)) : W (ifS f g h) t R := W_ifS.mpr w
theorem wSet {i : Nat} {f : M D} (h : W f t fun d t1 => R .next ⟨t1.env.set i (some (.val d)), t1.S⟩) : W (setS i f) t R := W_setS.mpr h
theorem wOwn {i : Nat} {f : M (List D)} (h : W f t fun d t1 => R .next ⟨t1.env.set i (some (.own d)), t1.S⟩) : W (ownS i f) t R := W_ownS.mpr h
theorem wAsg {f : M D} {g : D → M Unit} (h : W f t fun d t1 => W (g d) t1 fun _ t2 => R .next t2) : W (asgS f g) t R := W_asgS.mpr h
theorem wFor {f : M (List D)} {st : D → M Unit} {b : M Out} (h : W f t fun ds t1 => W (forL st b ds) t1 R) : W (forS f st b) t R := W_forS.mpr h
theorem wC {d : D} (h : P d t) : W (fC d) t P := W_fC.mpr h
theorem wVar {i : Nat} {d : D} (e : t.env[i]? = some (some (.val d))) (h : P d t) : W (fVar i) t P := by rw [W_fVar, e]; exact h
theorem wVarO {i : Nat} {ds : List D} (e : t.env[i]? = some (some (.own ds))) (h : P (.lst ds) ⟨t.env.set i (some (.val (.lst ds))), t.S⟩) : W (fVar i) t P := by rw [W_fVar, e]; exact h
theorem wBin {f g : M D} {h : D → D → M D} (w : W f t fun x t1 => W g t1 fun y t2 => W (h x y) t2 P) : W (fBin f g h) t P := W_fBin.mpr w
theorem wUn {f : M D} {h : D → M D} (w : W f t fun x t1 => W (h x) t1 P) : W (fUn f h) t P := W_fUn.mpr w
theorem wBnd {α β : Type} {f : M α} {g : α → M β} {K : β → T → Prop} (w : W f t fun x t1 => W (g x) t1 K) : W (bnd f g) t K := W_bnd.mpr w
theorem wToB {b : Bool} (h : B b t) : W (toB (.bl b)) t B := W_toB.mpr h
theorem wTst {f : M D} (h : W f t fun x t1 => W (toB x) t1 B) : W (fTst f) t B := W_fTst.mpr h
theorem wChain {f g w : M D} {h h' : D → D → M D} (q : W f t fun x t1 => W g t1 fun y t2 => W (h x y) t2 fun k t3 => W (toB k) t3 fun k t4 => iteK k (W w t4 fun z t5 => W (h' y z) t5 P) (P (.bl false) t4)) : W (fChain f g w h h') t P := W_fChain.mpr q
theorem wAnd {f g : M Bool} (h : W f t fun k t1 => iteK k (W g t1 B) (B false t1)) : W (fAnd f g) t B := W_fAnd.mpr h
theorem wOr {f g : M Bool} (h : W f t fun k t1 => iteK k (B true t1) (W g t1 B)) : W (fOr f g) t B := W_fOr.mpr h
theorem wNot {f : M Bool} (h : W f t fun k t1 => B (!k) t1) : W (fNot f) t B := W_fNot.mpr h
theorem wAndV {f g : M D} (h : W f t fun x t1 => W (toB x) t1 fun k t2 => iteK k (W g t2 P) (P (.bl false) t2)) : W (fAndV f g) t P := W_fAndV.mpr h
theorem wOrV {f g : M D} (h : W f t fun x t1 => W (toB x) t1 fun k t2 => iteK k (P (.bl true) t2) (W g t2 P)) : W (fOrV f g) t P := W_fOrV.mpr h
theorem wNotV {f : M D} (h : W f t fun x t1 => W (toB x) t1 fun k t2 => P (.bl (!k)) t2) : W (fNotV f) t P := W_fNotV.mpr h
theorem wIfE {f : M Bool} {g h : M D} (w : W f t fun k t1 => iteK k (W g t1 P) (W h t1 P)) : W (fIf f g h) t P := W_fIf.mpr w
theorem wNil (h : Q [] t) : W fNil t Q := W_fNil.mpr h
theorem wCons {f : M D} {g : M (List D)} (h : W f t fun d t1 => W g t1 fun ds t2 => Q (d :: ds) t2) : W (fCons f g) t Q := W_fCons.mpr h
noncomputable def limK (n : Nat) (A : Prop) : Prop := n ≤ LIM ∧ A
theorem limI {n : Nat} {A : Prop} (h : n ≤ LIM) (a : A) : limK n A := ⟨h, a⟩
theorem wTup {f : M (List D)} (h : W f t fun ds t1 => limK ds.length (P (.tup ds) t1)) : W (fTup f) t P := W_fTup.mpr h
theorem wLst {f : M (List D)} (h : W f t fun ds t1 => limK ds.length (Q ds t1)) : W (fLst f) t Q := W_fLst.mpr h
theorem wPure {f : M (List D)} (h : W f t fun ds t1 => P (.lst ds) t1) : W (fPure f) t P := W_fPure.mpr h
theorem wObj {f : M (List D)} (h : W f t fun ds t1 => P (.obj t1.S.length) ⟨t1.env, t1.S ++ [.lst ds]⟩) : W (fObj f) t P := by rw [W_fObj]; exact h.mono fun ds t1 h => W_newOb.mpr h
theorem wCall {g : Fn} {f : M (List D)} (h : W f t fun ds t1 => Wf g ds t1.S fun r S' => P r ⟨t1.env, S'⟩) : W (fCall g f) t P := W_fCall.mpr h
theorem wB {f : M (List D)} {h : List D → M D} (w : W f t fun ds t1 => W (h ds) t1 P) : W (fB f h) t P := W_fB.mpr w
theorem wBF {f : M (List D)} {h : List D → M (List D)} (w : W f t fun ds t1 => W (h ds) t1 Q) : W (fBF f h) t Q := W_fBF.mpr w
theorem wPut {i : Nat} {d : D} (h : U () ⟨t.env.set i (some (.val d)), t.S⟩) : W (putV i d) t U := W_putV.mpr h
theorem wPutNil (h : U () t) : W (putNil []) t U := W_putNil.mpr h
theorem wPutCons {f : D → M Unit} {g : List D → M Unit} {d : D} {ds : List D} (h : W (f d) t fun _ t1 => W (g ds) t1 U) : W (putCons f g (d :: ds)) t U := W_putCons.mpr h
theorem wUnL {n : Nat} {g : List D → M Unit} {ds : List D} (e : ds.length = n) (h : W (g ds) t U) : W (unS n g (.lst ds)) t U := W_unS_lst.mpr ⟨e, h⟩
theorem wUnT {n : Nat} {g : List D → M Unit} {ds : List D} (e : ds.length = n) (h : W (g ds) t U) : W (unS n g (.tup ds)) t U := W_unS_tup.mpr ⟨e, h⟩
theorem wComp {n : Nat} {fr : List Nat} {f : M (List D)} {st : D → M Unit} {tst : M Bool} {elt : M D} (h : W f t fun ds t1 => W (compL st tst elt ds) ⟨cenv n fr t1.env, t1.S⟩ fun xs t' => limK xs.length (Q xs ⟨t1.env, t'.S⟩)) : W (fComp n fr f st tst elt) t Q := W_fComp.mpr h
theorem wTru (h : B true t) : W tTru t B := W_tTru.mpr h
theorem wDic (h : P .dic t) : W fDic t P := W_fDic.mpr h
theorem wIxT {ds : List D} {i : Int} {d : D} (e : atI ds i = some d) (h : P d t) : W (ixD (.tup ds) (.int i)) t P := W_ix_tup.mpr ⟨d, e, h⟩
theorem wIxL {ds : List D} {i : Int} {d : D} (e : atI ds i = some d) (h : P d t) : W (ixD (.lst ds) (.int i)) t P := W_ix_lst.mpr ⟨d, e, h⟩
theorem wIxO {k : Nat} {ds : List D} {i : Int} {d : D} (e0 : t.S[k]? = some (.lst ds)) (e : atI ds i = some d) (h : P d t) : W (ixD (.obj k) (.int i)) t P := W_ix_obj.mpr ⟨ds, e0, d, e, h⟩
theorem wLenL {ds : List D} (h : P (.int ds.length) t) : W (lenD [.lst ds]) t P := W_len_lst.mpr h
theorem wLenT {ds : List D} (h : P (.int ds.length) t) : W (lenD [.tup ds]) t P := W_len_tup.mpr h
theorem wLenR {ds : List Int} (h : P (.int ds.length) t) : W (lenD [.scr ds]) t P := W_len_scr.mpr h
theorem wIsi {d : D} {m n : String} {b : Bool} (e : tyD d = some n) (e' : isiT n m = some b) (h : P (.bl b) t) : W (isiD [d, .ty m]) t P := W_isi.mpr ⟨n, e, b, e', h⟩
theorem wIsN {x : D} (h : P (.bl (isNon x)) t) : W (isC x .non) t P := W_is_non.mpr h
theorem wIsB {x : D} {b : Bool} (h : P (.bl (isBl b x)) t) : W (isC x (.bl b)) t P := W_is_bl.mpr h
theorem wIsNot {x y : D} (h : W (isC x y) t fun d t1 => W (toB d) t1 fun b t2 => P (.bl (!b)) t2) : W (isNotC x y) t P := W_isNot.mpr h
theorem wAddI {i j : Int} (h : P (.int (i + j)) t) : W (add5 (.int i) (.int j)) t P := W_add_int.mpr h
theorem wSubI {i j : Int} (h : P (.int (i - j)) t) : W (subD (.int i) (.int j)) t P := W_sub_int.mpr h
theorem wLtI {i j : Int} (h : P (.bl (decide (i < j))) t) : W (ltA (.int i) (.int j)) t P := W_lt_int.mpr h
theorem wLeI {i j : Int} (h : P (.bl (decide (i ≤ j))) t) : W (leA (.int i) (.int j)) t P := W_le_int.mpr h
theorem wGtI {i j : Int} (h : P (.bl (decide (j < i))) t) : W (gtA (.int i) (.int j)) t P := W_gt_int.mpr h
theorem wGeI {i j : Int} (h : P (.bl (decide (j ≤ i))) t) : W (geA (.int i) (.int j)) t P := W_ge_int.mpr h
theorem wLtS {i j : Str} (h : P (.bl (decide (i.cps.toList < j.cps.toList))) t) : W (ltA (.str i) (.str j)) t P := W_lt_str.mpr h
theorem wGtS {i j : Str} (h : P (.bl (decide (j.cps.toList < i.cps.toList))) t) : W (gtA (.str i) (.str j)) t P := W_gt_str.mpr h
theorem wNeg {i : Int} (h : P (.int (-i)) t) : W (negD (.int i)) t P := W_neg.mpr h
theorem wDiv {i j : Int} (h1 : 0 < j) (h2 : j < 1073741824) (h : P (.int (i / j)) t) : W (fdivD (.int i) (.int j)) t P := W_fdiv.mpr ⟨⟨h1, h2⟩, h⟩
theorem wMod {i j : Int} (h1 : 0 < j) (h : P (.int (i % j)) t) : W (modD (.int i) (.int j)) t P := W_mod.mpr ⟨h1, h⟩
theorem wPow {i j : Int} (h1 : powOk i j = true) (h : P (.int (i ^ j.toNat)) t) : W (powD (.int i) (.int j)) t P := W_pow.mpr ⟨h1, h⟩
theorem wMulI {i j : Int} (h1 : mulOk i j = true) (h : P (.int (i * j)) t) : W (mul4 (.int i) (.int j)) t P := W_mul_int.mpr ⟨h1, h⟩
theorem wMulS {x : Str} {k : Int} (h1 : small k = true ∧ x.length * k.toNat ≤ LIM ∧ k ≤ LIM ∧ x.length ≤ LIM) (h : P (.str (Txt.mul x k)) t) : W (mul4 (.str x) (.int k)) t P := W_mul_str.mpr ⟨h1, h⟩
theorem wAddS {x y : Str} (h : limK (x.length + y.length) (P (.str (x ++ y)) t)) : W (add5 (.str x) (.str y)) t P := W_add_str.mpr h
theorem wAddL {x y : List D} (h : limK (x.length + y.length) (P (.lst (x ++ y)) t)) : W (add5 (.lst x) (.lst y)) t P := W_add_lst.mpr h
theorem wAddT {d : D} {x y : List D} (h : limK (x.length + 1 + y.length) (P (.tup (d :: x ++ y)) t)) : W (add5 (.tup (d :: x)) (.tup y)) t P := W_add_tup.mpr h
theorem wAddT0 {y : List D} (h : P (.tup y) t) : W (add5 (.tup []) (.tup y)) t P := W_add_tup0.mpr h
theorem wCat {x y : List D} (h : limK (x.length + y.length) (Q (x ++ y) t)) : W (catF (.lst x) (.lst y)) t Q := W_cat.mpr h
theorem wAbs {i : Int} (h : P (.int (if i < 0 then -i else i)) t) : W (absD [.int i]) t P := W_abs.mpr h
theorem wMin {i j : Int} (h : P (.int (if j < i then j else i)) t) : W (minD [.int i, .int j]) t P := W_min.mpr h
theorem wMax {i j : Int} (h : P (.int (if j > i then j else i)) t) : W (maxD [.int i, .int j]) t P := W_max.mpr h
theorem wInt {i : Int} (h : P (.int i) t) : W (intD [.int i]) t P := W_int_int.mpr h
theorem wIntB {i : Bool} (h : P (.int (if i then 1 else 0)) t) : W (intD [.bl i]) t P := W_int_bl.mpr h
theorem wTupL {ds : List D} (h : P (.tup ds) t) : W (tupD [.lst ds]) t P := W_tup_lst.mpr h
theorem wLstL {ds : List D} (h : Q ds t) : W (lstF [.lst ds]) t Q := W_lst_lst.mpr h
theorem wLstT {ds : List D} (h : Q ds t) : W (lstF [.tup ds]) t Q := W_lst_tup.mpr h
theorem wEqS {g : Bool → Bool} {x y : Str} (h : P (.bl (g (x == y))) t) : W (eqS g (.str x) (.str y)) t P := W_eq_str.mpr h
theorem wEqI {g : Bool → Bool} {x y : Int} (h : P (.bl (g (x == y))) t) : W (eqS g (.int x) (.int y)) t P := W_eq_int.mpr h
theorem wEqB {g : Bool → Bool} {x y : Bool} (h : P (.bl (g (x == y))) t) : W (eqS g (.bl x) (.bl y)) t P := W_eq_bl.mpr h
theorem wEqNil {g : Bool → Bool} {x : List D} (h : P (.bl (g x.isEmpty)) t) : W (eqS g (.lst x) (.lst [])) t P := W_eq_nil.mpr h
theorem wSlL {ds : List D} {lo hi : Option Int} (h : P (.lst (cutD ds lo hi)) t) : W (sl3D (.lst ds) lo hi) t P := W_sl_lst.mpr h
theorem wSlR {ds : List Int} {lo hi : Option Int} (h : P (.lst ((cutD ds lo hi).map .int)) t) : W (sl3D (.scr ds) lo hi) t P := W_sl_scr.mpr h
theorem wSlT {ds : List D} {lo hi : Option Int} (h : P (.tup (cutD ds lo hi)) t) : W (sl3D (.tup ds) lo hi) t P := W_sl_tup.mpr h
theorem wSlS {x : Str} {lo hi : Option Int} (h : limK x.length (P (.str (Txt.slice x lo hi)) t)) : W (sl3D (.str x) lo hi) t P := W_sl_str.mpr h
theorem wSl {f : M D} {l u : M (Option Int)} {h : D → Option Int → Option Int → M D} (w : W f t fun x t1 => W l t1 fun lo t2 => W u t2 fun hi t3 => W (h x lo hi) t3 P) : W (fSl f l u h) t P := W_fSl.mpr w
theorem wNo {K : Option Int → T → Prop} (h : K none t) : W fNo t K := W_fNo.mpr h
theorem wAsI {i : Int} {K : Option Int → T → Prop} (h : K (some i) t) : W (asI (.int i)) t K := W_asI.mpr h
theorem wPart {f : M D} {K : Option Int → T → Prop} (h : W f t fun x t1 => W (asI x) t1 K) : W (fPart f) t K := W_fPart.mpr h
theorem wItA {f : M D} (h : W f t fun x t1 => W (itemsA x) t1 Q) : W (fItA f) t Q := W_fItA.mpr h
theorem wItL {ds : List D} (h : Q ds t) : W (itemsA (.lst ds)) t Q := W_it_lst.mpr h
theorem wItT {ds : List D} (h : Q ds t) : W (itemsA (.tup ds)) t Q := W_it_tup.mpr h
theorem wItR {ds : List Int} (h : Q (ds.map .int) t) : W (itemsA (.scr ds)) t Q := W_it_scr.mpr h
theorem wItS {x : Str} (h : Q (x.cps.toList.map fun c => .str ⟨#[c]⟩) t) : W (itemsA (.str x)) t Q := W_it_str.mpr h
theorem wRng1 {f : M (List D)} (h : W f t fun x t1 => W (rng1 x) t1 Q) : W (fRng1 f) t Q := W_fRng1.mpr h
theorem wRng2 {f : M (List D)} (h : W f t fun x t1 => W (rng2 x) t1 Q) : W (fRng2 f) t Q := W_fRng2.mpr h
theorem wRg1 {j : Int} (e : small j = true) (h : Q (rngL 0 j.toNat) t) : W (rng1 [.int j]) t Q := W_rng1.mpr ⟨e, h⟩
theorem wRg2 {i j : Int} (e : (small i && small j) = true) (h : Q (rngL i (j - i).toNat) t) : W (rng2 [.int i, .int j]) t Q := W_rng2.mpr ⟨e, h⟩
theorem wOwnM {i : Nat} {xs : List D} {h : List D → List D → Option (List D)} {g : M (List D)} (e : t.env[i]? = some (some (.own xs))) (w : W g t fun ds t1 => ∃ xs, t1.env[i]? = some (some (.own xs)) ∧ ∃ ys, h xs ds = some ys ∧ R .next ⟨t1.env.set i (some (.own ys)), t1.S⟩) : W (ownM i h g) t R := W_ownM.mpr ⟨⟨xs, e⟩, w⟩
theorem wApp {i : Nat} {xs : List D} {d : D} {t1 : T} {A : List D → Prop} (e : t1.env[i]? = some (some (.own xs))) (w : limK (xs.length + 1) (A (xs ++ [d]))) : ∃ xs, t1.env[i]? = some (some (.own xs)) ∧ ∃ ys, app1 xs [d] = some ys ∧ A ys :=
  ⟨xs, e, _, app1_one.mpr ⟨w.1, rfl⟩, w.2⟩
theorem wStD {f g : M D} {d : D} (h : W f t fun o t1 => W g t1 fun i t2 => W (stOb o i d) t2 U) : W (stD f g d) t U := W_stD.mpr h
theorem wStOb {k : Nat} {j : Int} {d : D} {xs : List D} {n : Nat} (e : t.S[k]? = some (.lst xs)) (e' : ixN xs.length j = some n) (h : U () ⟨t.env, t.S.set k (.lst (xs.set n d))⟩) : W (stOb (.obj k) (.int j) d) t U := W_stOb.mpr ⟨xs, e, n, e', h⟩
end F2
namespace F2
open PySem L2
section
variable {t : T} {P : D → T → Prop} {B : Bool → T → Prop} {Q : List D → T → Prop}
theorem wVIxT {i : Nat} {n : Int} {ds : List D} {d : D} (e : t.env[i]? = some (some (.val (.tup ds)))) (a : atI ds n = some d) (h : P d t) : W (fBin (fVar i) (fC (.int n)) ixD) t P := wBin (wVar e (wC (wIxT a h)))
theorem wKind {i : Nat} {x y : Str} {ds : List D} {g : Bool → Bool} (e : t.env[i]? = some (some (.val (.tup (.str y :: ds))))) (h : B (g (y == x)) t) : W (fTst (fBin (fBin (fVar i) (fC (.int 0)) ixD) (fC (.str x)) (eqS g))) t B := wTst (wBin (wBin (wVar e (wC (wIxT atI_0 (wC (wEqS (wToB h))))))))
theorem wTstVS {i : Nat} {x y : Str} {g : Bool → Bool} (e : t.env[i]? = some (some (.val (.str y)))) (h : B (g (y == x)) t) : W (fTst (fBin (fVar i) (fC (.str x)) (eqS g))) t B := wTst (wBin (wVar e (wC (wEqS (wToB h)))))
theorem wTstVI {i : Nat} {x y : Int} {g : Bool → Bool} (e : t.env[i]? = some (some (.val (.int y)))) (h : B (g (y == x)) t) : W (fTst (fBin (fVar i) (fC (.int x)) (eqS g))) t B := wTst (wBin (wVar e (wC (wEqI (wToB h)))))
theorem wCallV1 {g : Fn} {i : Nat} {d : D} (e : t.env[i]? = some (some (.val d))) (h : Wf g [d] t.S fun r S' => P r ⟨t.env, S'⟩) : W (fCall g (fCons (fVar i) fNil)) t P := wCall (wCons (wVar e (wNil h)))
theorem wCallV2 {g : Fn} {i j : Nat} {d d' : D} (e : t.env[i]? = some (some (.val d))) (e' : t.env[j]? = some (some (.val d'))) (h : Wf g [d, d'] t.S fun r S' => P r ⟨t.env, S'⟩) : W (fCall g (fCons (fVar i) (fCons (fVar j) fNil))) t P := wCall (wCons (wVar e (wCons (wVar e' (wNil h)))))
theorem wCallVC {g : Fn} {i : Nat} {d d' : D} (e : t.env[i]? = some (some (.val d))) (h : Wf g [d, d'] t.S fun r S' => P r ⟨t.env, S'⟩) : W (fCall g (fCons (fVar i) (fCons (fC d') fNil))) t P := wCall (wCons (wVar e (wCons (wC (wNil h)))))
theorem wCallV3 {g : Fn} {i j k : Nat} {d d' d'' : D} (e : t.env[i]? = some (some (.val d))) (e' : t.env[j]? = some (some (.val d'))) (e'' : t.env[k]? = some (some (.val d''))) (h : Wf g [d, d', d''] t.S fun r S' => P r ⟨t.env, S'⟩) : W (fCall g (fCons (fVar i) (fCons (fVar j) (fCons (fVar k) fNil)))) t P := wCall (wCons (wVar e (wCons (wVar e' (wCons (wVar e'' (wNil h)))))))
end
end F2

set_option linter.all false
set_option autoImplicit false
set_option maxRecDepth 100000
set_option maxHeartbeats 1000000
namespace LW
open PySem L2 F2
local macro_rules | `(tactic| walk_at "w1") => `(tactic| first
  | ((with_reducible refine' wKind ?wv ?_); (case wv => exact rfl)) | ((with_reducible refine' wVIxT ?wv ?wu ?_); (case wv => exact rfl); (case wu => first | exact rfl | exact atI_0 | exact atI_1 | exact atI_2)) | ((with_reducible refine' wTstVS ?wv ?_); (case wv => exact rfl)) | ((with_reducible refine' wTstVI ?wv ?_); (case wv => exact rfl))
  | ((with_reducible refine' wCallV1 ?wv ?_); (case wv => exact rfl)) | ((with_reducible refine' wCallV2 ?wv ?wu ?_); (case wv => exact rfl); (case wu => exact rfl)) | ((with_reducible refine' wCallVC ?wv ?_); (case wv => exact rfl)) | ((with_reducible refine' wCallV3 ?wv ?wu ?wt ?_); (case wv => exact rfl); (case wu => exact rfl); (case wt => exact rfl))
  | with_reducible refine wSeq ?_ | with_reducible refine seqK_next ?_ | with_reducible refine seqK_ret ?_ | with_reducible refine wSet ?_ | with_reducible refine wBin ?_ | with_reducible refine wC ?_
  | ((with_reducible refine' wVar ?wv ?_); (case wv => exact rfl)) | with_reducible refine wCons ?_ | with_reducible refine wNil ?_ | with_reducible refine wIf ?_ | with_reducible refine wTst ?_ | with_reducible refine wToB ?_ | with_reducible refine wRet ?_ | with_reducible refine wCall ?_
  | ((with_reducible refine' wIxT ?wv ?_); (case wv => first | exact rfl | exact atI_0 | exact atI_1 | exact atI_2)) | ((with_reducible refine' wIxL ?wv ?_); (case wv => first | exact rfl | exact atI_0 | exact atI_1 | exact atI_2)) | with_reducible refine wEqS ?_ | with_reducible refine wEqI ?_ | with_reducible refine wEqB ?_ | with_reducible refine wAddI ?_ | with_reducible refine wSubI ?_
  | with_reducible refine wSkip ?_ | with_reducible refine wB ?_ | with_reducible refine wBF ?_ | with_reducible refine wPure ?_ | with_reducible refine wTup ?_ | with_reducible refine wLst ?_ | ((with_reducible refine limI ?wv ?_); (case wv => exact Nat.le_of_ble_eq_true rfl)) | with_reducible refine wObj ?_ | with_reducible refine wAsg ?_ | with_reducible refine wFor ?_
  | ((with_reducible refine kIfT ?wv ?_); (case wv => exact rfl)) | ((with_reducible refine kIfF ?wv ?_); (case wv => exact rfl)) | with_reducible refine wAnd ?_ | with_reducible refine wOr ?_ | with_reducible refine wNot ?_ | with_reducible refine wAndV ?_ | with_reducible refine wOrV ?_ | with_reducible refine wNotV ?_ | with_reducible refine wIfE ?_ | with_reducible refine wChain ?_
  | ((with_reducible refine' wVarO ?wv ?_); (case wv => exact rfl)) | with_reducible refine wUn ?_ | with_reducible refine wNeg ?_ | with_reducible refine wIsN ?_ | with_reducible refine wIsB ?_ | with_reducible refine wIsNot ?_
  | with_reducible refine wLtI ?_ | with_reducible refine wLeI ?_ | with_reducible refine wGtI ?_ | with_reducible refine wGeI ?_ | with_reducible refine wLtS ?_ | with_reducible refine wGtS ?_
  | with_reducible refine wLenL ?_ | with_reducible refine wLenT ?_ | with_reducible refine wLenR ?_ | ((with_reducible refine' wIsi ?wv ?wu ?_); (case wv => exact rfl); (case wu => exact rfl))
  | ((with_reducible refine wPow ?wv ?_); (case wv => decide)) | ((with_reducible refine wDiv ?wv ?wu ?_); (case wv => decide); (case wu => decide)) | ((with_reducible refine wMod ?wv ?_); (case wv => decide))
  | with_reducible refine wAbs ?_ | with_reducible refine wMin ?_ | with_reducible refine wMax ?_ | with_reducible refine wInt ?_ | with_reducible refine wIntB ?_ | with_reducible refine wTupL ?_ | with_reducible refine wLstL ?_ | with_reducible refine wLstT ?_
  | with_reducible refine wAddS ?_ | with_reducible refine wAddL ?_ | with_reducible refine wAddT ?_ | with_reducible refine wAddT0 ?_ | with_reducible refine wCat ?_ | with_reducible refine wEqNil ?_
  | with_reducible refine wSl ?_ | with_reducible refine wNo ?_ | with_reducible refine wPart ?_ | with_reducible refine wAsI ?_ | with_reducible refine wSlL ?_ | with_reducible refine wSlR ?_ | with_reducible refine wSlS ?_ | with_reducible refine wSlT ?_
  | with_reducible refine wItA ?_ | with_reducible refine wItL ?_ | with_reducible refine wItT ?_ | with_reducible refine wItR ?_ | with_reducible refine wItS ?_ | with_reducible refine wRng1 ?_ | with_reducible refine wRng2 ?_ | ((with_reducible refine wRg1 ?wv ?_); (case wv => decide)) | ((with_reducible refine wRg2 ?wv ?_); (case wv => decide))
  | with_reducible refine wPut ?_ | with_reducible refine wPutNil ?_ | with_reducible refine wPutCons ?_ | ((with_reducible refine wUnL ?wv ?_); (case wv => exact rfl)) | ((with_reducible refine wUnT ?wv ?_); (case wv => exact rfl)) | with_reducible refine wComp ?_ | with_reducible refine wTru ?_ | with_reducible refine wDic ?_ | with_reducible refine wOwn ?_ | with_reducible refine wBnd ?_ | with_reducible refine wDrop ?_
  | ((with_reducible refine' wOwnM ?wv ?_); (case wv => exact rfl)) | ((with_reducible refine' wApp ?wv ?_); (case wv => exact rfl)) | with_reducible refine wStD ?_)
local macro_rules | `(tactic| walk_at "w") => `(tactic| repeat (walk_at "w1"))
/-! ### the deck -/
structure DeckAt (k c : Nat) (S : List Ob) : Prop where
  ne : k ≠ c
  at_ : ∃ (cells : List Int) (par pos : Int), S[k]? = some (.lst [.obj c, .int par, .int pos]) ∧ S[c]? = some (.lst (cells.map .int)) ∧ cells ≠ [] ∧ 0 ≤ pos
noncomputable def Keep (k c : Nat) (S S' : List Ob) : Prop := S'.length = S.length ∧ ∀ j : Nat, j ≠ k → j ≠ c → S'[j]? = S[j]?
theorem Keep.trans {k c : Nat} {S S' S'' : List Ob} (a : Keep k c S S') (b : Keep k c S' S'') : Keep k c S S'' := ⟨b.1.trans a.1, fun j h1 h2 => (b.2 j h1 h2).trans (a.2 j h1 h2)⟩
theorem ixN_nat {n : Nat} {i : Int} (h0 : 0 ≤ i) (h1 : i < n) : ixN n i = some i.toNat := by simp [ixN, h0, h1]
/-! ### shapes, and what fits -/
inductive Sh where
  | nothing | number (lo hi : Int) | text (m : Int) | list (s : Sh) (m : Int) | pair (s r : Sh) | choice (ss : List Sh)
mutual
noncomputable def Sh.d : Sh → D
  | .nothing => .tup [.str "nothing"]
  | .number lo hi => .tup [.str "number", .int lo, .int hi]
  | .text m => .tup [.str "text", .int m]
  | .list s m => .tup [.str "list", s.d, .int m]
  | .pair s r => .tup [.str "pair", s.d, r.d]
  | .choice ss => .tup [.str "choice", .tup (shD ss)]
noncomputable def shD : List Sh → List D
  | [] => []
  | s :: r => s.d :: shD r
end
mutual
noncomputable def Sh.depth : Sh → Nat
  | .nothing => 1
  | .number _ _ => 1
  | .text _ => 1
  | .list s _ => s.depth + 1
  | .pair s r => max s.depth r.depth + 1
  | .choice ss => shDep ss + 1
noncomputable def shDep : List Sh → Nat
  | [] => 0
  | s :: r => max s.depth (shDep r)
end
noncomputable def signB (n : Nat) : Bool := decide (32 ≤ n) && decide (n ≤ 126) && decide (n ≠ 37)
noncomputable def isOf : Str → Bool := fun o => o == ("of" : Str)
mutual
noncomputable def fitsB : Sh → D → Bool
  | .nothing, d => isNon d
  | .number lo hi, d => match d with
    | .int i => decide (lo ≤ i) && decide (i ≤ hi)
    | _ => false
  | .text m, d => match d with
    | .str x => decide ((x.length : Int) ≤ m) && x.cps.toList.all signB
    | _ => false
  | .list s m, d => match d with
    | .lst ds => decide ((ds.length : Int) ≤ m) && ds.all fun e => fitsB s e
    | _ => false
  | .pair s r, d => match d with
    | .tup [a, b] => fitsB s a && fitsB r b
    | _ => false
  | .choice ss, d => match d with
    | .tup [.str o, .int k, x] => isOf o && (decide (0 ≤ k) && decide (k < ss.length)) && fitsN ss k.toNat x
    | _ => false
noncomputable def fitsN : List Sh → Nat → D → Bool
  | [], _, _ => false
  | s :: _, 0, d => fitsB s d
  | _ :: r, k + 1, d => fitsN r k d
end
mutual
noncomputable def okD : D → Bool
  | .str x => decide (x.length ≤ 90000)
  | .tup xs => oks xs
  | .lst xs => oks xs
  | .obj _ => false
  | .scr _ => false
  | .ty _ => false
  | _ => true
noncomputable def oks : List D → Bool
  | [] => true
  | d :: r => okD d && oks r
end
theorem oks_of : ∀ {xs : List D}, (∀ d ∈ xs, okD d = true) → oks xs = true
  | [], _ => rfl
  | x :: r, h => by
    rw [oks, Bool.and_eq_true]
    exact ⟨h x List.mem_cons_self, oks_of fun d m => h d (List.mem_cons_of_mem _ m)⟩
abbrev Pure1 (f : Fn) (ds : List D) (r : D) : Prop := ∀ S, Wf f ds S fun v S' => v = r ∧ S' = S
theorem Pure1.use {f : Fn} {ds : List D} {r : D} (h : Pure1 f ds r) {S : List Ob} {P : D → List Ob → Prop} (p : P r S) : Wf f ds S P := (h S).mono fun _ _ ⟨e1, e2⟩ => by subst e1 e2; exact p

/-! ### draws -/
/-! ### texts -/
/-! ### comprehensions of one name -/
/-! ### the deck made -/
theorem purs_ints : ∀ ns : List Int, purs (ns.map D.int) = true
  | [] => rfl
  | n :: r => by rw [List.map_cons, purs, purs_ints r]; rfl
theorem DeckAt.keep {k c k' c' : Nat} {S S' : List Ob} (d : DeckAt k' c' S) (kp : Keep k c S S') (h1 : k' ≠ k) (h2 : k' ≠ c) (h3 : c' ≠ k) (h4 : c' ≠ c) : DeckAt k' c' S' := by
  obtain ⟨ne, cells, par, pos, e1, e2, r⟩ := d
  exact ⟨ne, cells, par, pos, (kp.2 k' h1 h2).trans e1, (kp.2 c' h3 h4).trans e2, r⟩
theorem DeckAt.more {k c : Nat} {S ex : List Ob} (d : DeckAt k c S) : DeckAt k c (S ++ ex) := by
  obtain ⟨ne, cells, par, pos, e1, e2, r⟩ := d
  refine ⟨ne, cells, par, pos, ?_, ?_, r⟩
  · rw [List.getElem?_append_left (List.getElem?_eq_some_iff.mp e1).1]; exact e1
  · rw [List.getElem?_append_left (List.getElem?_eq_some_iff.mp e2).1]; exact e2

/-! ### the rows of k04 -/
/-! ### k04 -/
structure Sep (ks : List (Nat × Nat)) : Prop where
  sep : ∀ p ∈ ks, ∀ q ∈ ks, p = q ∨ (q.1 ≠ p.1 ∧ q.1 ≠ p.2 ∧ q.2 ≠ p.1 ∧ q.2 ≠ p.2)
theorem Sep.keep {ks : List (Nat × Nat)} (sp : Sep ks) {p : Nat × Nat} (hp : p ∈ ks) {S S' : List Ob} (h : ∀ q ∈ ks, DeckAt q.1 q.2 S) (d : DeckAt p.1 p.2 S') (k : Keep p.1 p.2 S S') : ∀ q ∈ ks, DeckAt q.1 q.2 S' := fun q hq => by
  rcases sp.sep p hp q hq with e | ⟨h1, h2, h3, h4⟩
  · rw [← e]; exact d
  · exact (h q hq).keep k h1 h2 h3 h4
/-! ### what is a shape -/
/-! ### the law's own reckoning of shapes -/
mutual
noncomputable def sz : D → Nat
  | .tup xs => szs xs + 1
  | .lst xs => szs xs + 1
  | _ => 1
noncomputable def szs : List D → Nat
  | [] => 0
  | d :: r => sz d + szs r
end
theorem ok_w {s : String} (h : (Str.ofString s).length ≤ 90000 := by decide +kernel) : okD (.str (Str.ofString s)) = true := by rw [okD]; exact decide_eq_true h
theorem ok_t {xs : List D} (h : ∀ d ∈ xs, okD d = true) : okD (.tup xs) = true := by rw [okD]; exact oks_of h
theorem ok_t2 {x y : D} (h1 : okD x = true) (h2 : okD y = true) : okD (.tup [x, y]) = true := ok_t (by simp only [List.forall_mem_cons]; exact ⟨h1, h2, fun _ z => nomatch z⟩)
theorem ok_t3 {x y z : D} (h1 : okD x = true) (h2 : okD y = true) (h3 : okD z = true) : okD (.tup [x, y, z]) = true := ok_t (by simp only [List.forall_mem_cons]; exact ⟨h1, h2, h3, fun _ z => nomatch z⟩)

/-! ### drawn shapes -/
mutual
noncomputable def wf : Sh → Bool
  | .nothing => true
  | .number lo hi => decide (-1000000000000000000 < lo) && decide (lo ≤ hi) && decide (hi < 1000000000000000000)
  | .text m => decide (0 ≤ m) && decide (m ≤ 250)
  | .list s m => decide (0 ≤ m) && decide (m ≤ 250) && wf s
  | .pair s r => wf s && wf r
  | .choice ss => decide (1 ≤ ss.length) && decide (ss.length ≤ 9) && wfs ss
noncomputable def wfs : List Sh → Bool
  | [] => true
  | s :: r => wf s && wfs r
end
mutual
noncomputable def cnt : Sh → Nat
  | .list s _ => cnt s + 1
  | .pair s r => cnt s + cnt r + 1
  | .choice ss => cnts ss + 1
  | _ => 1
noncomputable def cnts : List Sh → Nat
  | [] => 0
  | s :: r => cnt s + cnts r
end
mutual
theorem sh_ok : ∀ s : Sh, okD s.d = true
  | .nothing => by rw [Sh.d]; decide +kernel
  | .number _ _ => by rw [Sh.d]; exact ok_t3 ok_w rfl rfl
  | .text _ => by rw [Sh.d]; exact ok_t2 ok_w rfl
  | .list s _ => by rw [Sh.d]; exact ok_t3 ok_w (sh_ok s) rfl
  | .pair s r => by rw [Sh.d]; exact ok_t3 ok_w (sh_ok s) (sh_ok r)
  | .choice ss => by rw [Sh.d]; exact ok_t2 ok_w (by rw [okD]; exact shs_ok ss)
theorem shs_ok : ∀ ss : List Sh, oks (shD ss) = true
  | [] => rfl
  | s :: r => by rw [shD, oks, sh_ok s, shs_ok r]; rfl
end
mutual
theorem sh_sz : ∀ s : Sh, sz s.d ≤ 4 * cnt s
  | .nothing => by rw [Sh.d]; simp [sz, szs, cnt]
  | .number _ _ => by rw [Sh.d]; simp [sz, szs, cnt]
  | .text _ => by rw [Sh.d]; simp [sz, szs, cnt]
  | .list s _ => by rw [Sh.d]; have := sh_sz s; simp [sz, szs, cnt]; omega
  | .pair s r => by rw [Sh.d]; have := sh_sz s; have := sh_sz r; simp [sz, szs, cnt]; omega
  | .choice ss => by rw [Sh.d]; have := shs_sz ss; simp [sz, szs, cnt]; omega
theorem shs_sz : ∀ ss : List Sh, szs (shD ss) ≤ 4 * cnts ss
  | [] => by simp [shD, szs, cnts]
  | s :: r => by have := sh_sz s; have := shs_sz r; simp [shD, szs, cnts]; omega
end

/-! a shape -/
noncomputable def KeepL (k c l : Nat) (S S' : List Ob) : Prop := S'.length = S.length ∧ ∀ j : Nat, j ≠ k → j ≠ c → j ≠ l → S'[j]? = S[j]?
theorem KeepL.trans {k c l : Nat} {S S' S'' : List Ob} (a : KeepL k c l S S') (b : KeepL k c l S' S'') : KeepL k c l S S'' := ⟨b.1.trans a.1, fun j h1 h2 h3 => (b.2 j h1 h2 h3).trans (a.2 j h1 h2 h3)⟩
noncomputable def slack (deep : Int) : Int := if deep < 2 then 0 else 2 * deep + 4
noncomputable def bd (deep x : Int) : Int := if deep < 2 then 1 else max x 1 + slack deep - (if deep + 1 ≤ x then 1 else 0)
noncomputable def tb (deep y i : Int) : Int := if deep = 2 then i else if i = 0 then 0 else y + slack (deep - 1) + i - 1 - (if deep ≤ y then 1 else 0)
structure ShapeRes (k c l : Nat) (S : List Ob) (deep x : Int) (s : Sh) (S' : List Ob) : Prop where
  w : wf s = true
  dep : (s.depth : Int) ≤ max deep 1
  lft : S'[l]? = some (.lst [.int (x - cnt s)])
  one : x ≤ 1 → cnt s = 1
  few : (cnt s : Int) ≤ max x 1 + slack deep
  deck : DeckAt k c S'
  kp : KeepL k c l S S'
  few2 : (cnt s : Int) ≤ bd deep x
/-! ### k01 -/
/-! ### rules for min of three, max of a list, t[::-1], join, list(text) -/
/-! ### _law_copy -/
mutual
noncomputable def dpt : D → Nat
  | .lst ds => dpts ds + 1
  | .tup ds => dpts ds + 1
  | _ => 1
noncomputable def dpts : List D → Nat
  | [] => 0
  | d :: r => max (dpt d) (dpts r)
end
mutual
noncomputable def smD : D → Bool
  | .str x => decide (x.length ≤ 300)
  | .int i => decide (-1000000000000000000000000 < i) && decide (i < 1000000000000000000000000)
  | .tup xs => decide (xs.length ≤ 300) && sms xs
  | .lst xs => decide (xs.length ≤ 300) && sms xs
  | .obj _ => false
  | .scr _ => false
  | .ty _ => false
  | _ => true
noncomputable def sms : List D → Bool
  | [] => true
  | d :: r => smD d && sms r
end
mutual
theorem sm_ok : ∀ {d : D}, smD d = true → okD d = true
  | .str x, h => by rw [smD, decide_eq_true_eq] at h; rw [okD, decide_eq_true_eq]; omega
  | .tup xs, h => by rw [smD, Bool.and_eq_true] at h; rw [okD]; exact sms_ok h.2
  | .lst xs, h => by rw [smD, Bool.and_eq_true] at h; rw [okD]; exact sms_ok h.2
  | .obj _, h => by simp [smD] at h
  | .scr _, h => by simp [smD] at h
  | .ty _, h => by simp [smD] at h
  | .non, _ => by simp [okD]
  | .bl _, _ => by simp [okD]
  | .int _, _ => by simp [okD]
  | .dic, _ => by simp [okD]
theorem sms_ok : ∀ {xs : List D}, sms xs = true → oks xs = true
  | [], _ => by simp [oks]
  | d :: r, h => by rw [sms, Bool.and_eq_true] at h; rw [oks, Bool.and_eq_true]; exact ⟨sm_ok h.1, sms_ok h.2⟩
end
/-! ### equal things are equal -/
theorem eqLs_refl {f : D → D → Option Bool} : ∀ {xs : List D}, (∀ d ∈ xs, f d d = some true) → eqLs f xs xs = some true
  | [], _ => rfl
  | x :: r, h => by
    rw [eqLs, h x List.mem_cons_self, eqLs_refl fun d m => h d (List.mem_cons_of_mem _ m)]
    rfl
/-! ### what fits is small -/
theorem wEqRefl {d : D} {g : Bool → Bool} {t : T} {P : D → T → Prop} (h0 : isOb d = false) (h : eqN EQD d d = some true) (p : P (.bl (g true)) t) : W (eqS g d d) t P := ⟨_, _, by simp [eqS, h0, h], p⟩
/-! ### _law_count -/
/-! ### values -/
structure ValueRes (k c l : Nat) (S : List Ob) (s : Sh) (r : D) (S' : List Ob) : Prop where
  fit : fitsB s r = true
  lft : ∃ a b : Int, S'[l]? = some (.lst [.int a, .int b])
  deck : DeckAt k c S'
  kp : KeepL k c l S S'
theorem Keep.at {k c l : Nat} {S S' : List Ob} {o : Option Ob} (a : Keep k c S S') (h1 : l ≠ k) (h2 : l ≠ c) (e : S[l]? = o) : S'[l]? = o := (a.2 l h1 h2).trans e
/-! ### fresh results, while, bits -/
theorem wRetF {f : M (List D)} {t : T} {P : Out → T → Prop} (h : W f t fun ds t1 => P (.ret (.lst ds)) t1) : W (retF f) t P := W_bnd.mpr (h.mono fun _ _ p => W_ret.mpr p)
theorem wCallF {g : Fn} {f : M (List D)} {t : T} {P : List D → T → Prop} (h : W f t fun ds t1 => Wf g ds t1.S fun r S' => ∃ rs, r = .lst rs ∧ P rs ⟨t1.env, S'⟩) : W (fCallF g f) t P := by
  refine W_bnd.mpr (h.mono fun ds t1 ⟨r, S', e, rs, er, p⟩ => ?_)
  subst er
  exact ⟨rs, ⟨t1.env, S'⟩, by simp only [e], p⟩
theorem W_whileN {f : M Bool} {b : M Out} {P : Out → T → Prop} (I : Nat → T → Prop) (turn : ∀ n t, I n t → W f t fun k t1 => match k with
      | true => ∃ m, n = m + 1 ∧ W b t1 fun o t2 => match o with
        | .next => I m t2
        | .cont => I m t2
        | .brk => P .next t2
        | .ret x => P (.ret x) t2
      | false => P .next t1) : ∀ (fuel n : Nat) (t : T), n < fuel → I n t → W (whileN f b fuel) t P
  | 0, n, t, h, _ => absurd h (Nat.not_lt_zero _)
  | fuel + 1, n, t, h, i => by
    obtain ⟨k, t1, e1, p⟩ := turn n t i
    cases k with
    | false => exact ⟨_, _, by simp only [whileN, e1], p⟩
    | true =>
      obtain ⟨m, rfl, o, t2, e2, p⟩ := p
      cases o with
      | next => obtain ⟨o, t', e', p⟩ := W_whileN I turn fuel m t2 (by omega) p; exact ⟨o, t', by simp only [whileN, e1, e2]; exact e', p⟩
      | cont => obtain ⟨o, t', e', p⟩ := W_whileN I turn fuel m t2 (by omega) p; exact ⟨o, t', by simp only [whileN, e1, e2]; exact e', p⟩
      | brk => exact ⟨_, _, by simp only [whileN, e1, e2], p⟩
      | ret x => exact ⟨_, _, by simp only [whileN, e1, e2], p⟩
/-! ### how many bytes a number takes -/
noncomputable def nb : Nat → Nat → List D
  | 0, _ => []
  | w + 1, n => nb w (n / 256) ++ [.int ((n % 256 : Nat) : Int)]
/-! ### rules for dicts with text keys, a name's own list read -/
/-! ### the drawing state -/
structure St where
  rest : Int
  mixed : Bool
  turn : Int
noncomputable def St.ob (s : St) : Ob := .dct [(.inr (Str.ofString "rest"), .int s.rest), (.inr (Str.ofString "mixed"), .bl s.mixed), (.inr (Str.ofString "turn"), .int s.turn)]
noncomputable def take (s : St) (m : Int) : Int × St :=
  if s.mixed = false then (s.rest % m, ⟨s.rest / m, s.mixed, s.turn⟩)
  else
    let stir := (s.rest % 2147483579 + 70001 * (s.turn + 1)) % 2147483579
    let rest := (stir * stir % 2147483563 * 50021 + 7) % 2147483579
    (rest / 5 % m, ⟨rest, s.mixed, s.turn + 1⟩)
/-! ### cells, states, maps with a state -/
/-! ### shapes -/
theorem rngL_len (a : Int) (n : Nat) : (rngL a n).length = n := by simp [rngL]
/-! ### names, grammars -/
inductive GS where
  | fin
  | st (side : Str) (ws : List (Str × Sh × Int))
noncomputable def wdD (w : Str × Sh × Int) : D := .tup [.str w.1, w.2.1.d, .int w.2.2]
noncomputable def GS.d : GS → D
  | .fin => .tup [.str (Str.ofString "end")]
  | .st side ws => .tup [.str side, .lst (ws.map wdD)]
noncomputable def GS.isFin : GS → Bool
  | .fin => true
  | _ => false
theorem rng_drop {a : Int} {n j : Nat} {d : D} {r : List D} (e : d :: r = (rngL a n).drop j) : d = .int (a + j) ∧ r = (rngL a n).drop (j + 1) ∧ j < n := by
  have hj : j < (rngL a n).length := by
    rcases Nat.lt_or_ge j (rngL a n).length with h | h
    · exact h
    · rw [List.drop_eq_nil_of_le h] at e; cases e
  rw [List.drop_eq_getElem_cons hj] at e
  injection e with e1 e2
  rw [rngL_len] at hj
  refine ⟨?_, e2, hj⟩
  rw [e1]
  simp [rngL]
/-! ### what a drawn grammar is -/
mutual
noncomputable def narrow : Sh → Bool
  | .number lo hi => decide (hi - lo < 1000000000)
  | .list s _ => narrow s
  | .pair s r => narrow s && narrow r
  | .choice ss => narrows ss
  | _ => true
noncomputable def narrows : List Sh → Bool
  | [] => true
  | s :: r => narrow s && narrows r
end
noncomputable def nmB (x : Str) : Bool := decide (1 ≤ x.length) && decide (x.length ≤ 8) && x.cps.toList.all fun c => decide (97 ≤ c) && decide (c ≤ 122)
structure WOk (n : Int) (w : Str × Sh × Int) : Prop where
  ok : wf w.2.1 = true
  dep : w.2.1.depth ≤ 3
  nar : narrow w.2.1 = true
  few : cnt w.2.1 ≤ 13
  lo : 0 ≤ w.2.2
  hi : w.2.2 < n
  nm : w.1.length ≤ 90000
  isn : nmB w.1 = true
inductive GSOk (n : Int) : GS → Prop
  | fin : GSOk n .fin
  | st {side : Str} {ws : List (Str × Sh × Int)} : (side = Str.ofString "left" ∨ side = Str.ofString "right") → 0 < ws.length → ws.length ≤ 9 → (ws.map (·.1)).Nodup → (∀ w ∈ ws, WOk n w) → GSOk n (.st side ws)
structure GOk (g : List GS) : Prop where
  ne : 0 < g.length
  le : g.length ≤ 30
  all : ∀ x ∈ g, GSOk g.length x
/-! ### the program's own parts: ends, words, places -/
noncomputable def GS.words : GS → D
  | .fin => .tup []
  | .st _ ws => .lst (ws.map wdD)
noncomputable def GS.ws : GS → List (Str × Sh × Int)
  | .fin => []
  | .st _ ws => ws
/-! ### the same is the same -/
theorem eqN_str {n : Nat} {x : Str} : eqN n (.str x) (.str x) = some true := by
  cases n <;> (show some (x == x) = some true; rw [beq_self_eq_true])
theorem eqN_int {n : Nat} {x : Int} : eqN n (.int x) (.int x) = some true := by
  cases n <;> (show some (x == x) = some true; rw [beq_self_eq_true])
theorem eqN_tup {n : Nat} {xs : List D} (h : ∀ x ∈ xs, eqN n x x = some true) : eqN (n + 1) (.tup xs) (.tup xs) = some true := by
  rw [eqN, eqLs_refl h]; simp
theorem eqN_lst {n : Nat} {xs : List D} (h : ∀ x ∈ xs, eqN n x x = some true) : eqN (n + 1) (.lst xs) (.lst xs) = some true := by
  rw [eqN, if_pos rfl, eqLs_refl h]
/-! ### moves along a grammar -/
noncomputable def GS.side : GS → Str
  | .fin => Str.ofString "end"
  | .st s _ => s
noncomputable def gsAt (g : List GS) (q : Nat) : GS := g.getD q .fin
noncomputable def wdAt (g : List GS) (q p : Nat) : Str × Sh × Int := (gsAt g q).ws.getD p (Str.ofString "", .nothing, 0)
structure MvOk (g : List GS) (q : Nat) (p : Nat) (v : D) : Prop where
  lt : q < g.length
  pl : p < (gsAt g q).ws.length
  fit : fitsB (wdAt g q p).2.1 v = true
/-! ### places, steps, states -/
theorem gsAt_get {g : List GS} {q : Nat} (hq : q < g.length) : atI (g.map GS.d) q = some (gsAt g q).d := by
  unfold atI
  rw [ixN_nat (by omega) (by rw [List.length_map]; omega)]
  show (g.map GS.d)[(q : Int).toNat]? = _
  unfold gsAt
  rw [Int.toNat_natCast, List.getElem?_map, List.getD_eq_getElem?_getD, List.getElem?_eq_getElem hq]
  rfl
/-! ### ranges of three, sums, comprehensions over a list of drawn things -/
theorem W_compMapG {α : Type} {l : List α} {ι f : α → D} {fr : List (Option Sl)} {S : List Ob} {elt : M D} {z : Option Sl} (h : ∀ a ∈ l, W elt ⟨some (.val (ι a)) :: fr, S⟩ fun x t' => x = f a ∧ t' = ⟨some (.val (ι a)) :: fr, S⟩) :
    W (compL (putV 0) tTru elt (l.map ι)) ⟨z :: fr, S⟩ fun xs t' => xs = l.map f ∧ t'.S = S := by
  induction l generalizing z with
  | nil => exact W_compL_nil.mpr ⟨rfl, rfl⟩
  | cons a r ih =>
    rw [List.map_cons, W_compL_cons]
    refine wPut (wTru ?_)
    rw [if_pos rfl]
    refine (h a List.mem_cons_self).mono fun x t' ⟨e1, e2⟩ => ?_
    subst e1 e2
    refine (ih (z := some (.val (ι a))) fun b hb => h b (List.mem_cons_of_mem _ hb)).mono fun xs t' ⟨e1, e2⟩ => ?_
    subst e1
    exact ⟨rfl, e2⟩
noncomputable def sq (b : Bool) (ds : List D) : D := if b then .tup ds else .lst ds
theorem wItSq {b : Bool} {ds : List D} {t : T} {Q : List D → T → Prop} (h : Q ds t) : W (itemsA (sq b ds)) t Q := by cases b; exact wItL h; exact wItT h
theorem words_sq (x : GS) : x.words = sq x.isFin (x.ws.map wdD) := by cases x <;> rfl
/-! ### ways, and how many -/
abbrev Wd := Str × Sh × Int
noncomputable def ways (g : List GS) : Nat → Nat → List (List Str)
  | 0, s => if (gsAt g s).isFin then [[]] else []
  | n + 1, s => ((gsAt g s).ws.map fun w => (ways g n w.2.2.toNat).map (w.1 :: ·)).flatten
noncomputable def cb (ws : List Wd) (row : List Int) : Int := (ws.map fun w => row.getD w.2.2.toNat 0).sum
noncomputable def row0 (g : List GS) : List Int := g.map fun x => if x.isFin then 1 else 0
noncomputable def row1 (g : List GS) (row : List Int) : List Int := g.map fun x => cb x.ws row
noncomputable def rowG (g : List GS) : Nat → List Int
  | 0 => row0 g
  | n + 1 => row1 g (rowG g n)
/-! ### a way's steps, and its number -/
inductive Tr (g : List GS) : Nat → List Str → List (Nat × Nat) → Nat → Prop
  | nil {s : Nat} : s < g.length → Tr g s [] [] s
  | cons {s p : Nat} {w : Wd} {r : List Str} {st : List (Nat × Nat)} {e : Nat} : s < g.length → (gsAt g s).ws[p]? = some w → Tr g w.2.2.toNat r st e → Tr g s (w.1 :: r) ((s, p) :: st) e
noncomputable def rank (g : List GS) : List (Nat × Nat) → Int
  | [] => 0
  | (s, p) :: r => rank g r + cb ((gsAt g s).ws.take p) (rowG g r.length)
/-! ### counts told -/
abbrev gD (g : List GS) : D := .lst (g.map GS.d)
abbrev rowD (row : List Int) : D := .lst (row.map .int)
/-! ### the place of a number -/
/-! ### the way of a number -/
/-! ### the number of a way -/
/-! ### the law's own ways -/
/-! ### k20 -/
/-! ### rules: sorted, index, > of lists, long products -/
/-! ### the law's own steps -/
noncomputable def plZ (st : List (Nat × Nat)) : List Int := st.map fun sp => (sp.2 : Int)
/-! ### numbers, and places in order -/
/-! ### k22 -/
/-- what stands in `last` -/
inductive Last (g : List GS) (n : Nat) : Option Int → D → Prop
  | none : Last g n none .non
  | some {k : Int} {x : List Str} {st : List (Nat × Nat)} {e : Nat} : Tr g 0 x st e → (gsAt g e).isFin = true → rank g st = k → st.length = n → Last g n (some k) (.tup [.int k, rowD (plZ st)])
/-! ### grammars whose words have no values -/
inductive GSW (n : Int) : GS → Prop
  | fin : GSW n .fin
  | st {side : Str} {ws : List (Str × Sh × Int)} : (side = Str.ofString "left" ∨ side = Str.ofString "right") → ws.length ≤ 3 → (∀ w ∈ ws, w.2.1 = .nothing ∧ 0 ≤ w.2.2 ∧ w.2.2 < n) → GSW n (.st side ws)
structure GWk (g : List GS) : Prop where
  ne : 0 < g.length
  le : g.length ≤ 30
  all : ∀ x ∈ g, GSW g.length x
theorem gsAt_w {g : List GS} (hg : GWk g) {s : Nat} (hs : s < g.length) : GSW g.length (gsAt g s) := by
  refine hg.all _ ?_
  unfold gsAt
  rw [List.getD_eq_getElem?_getD, List.getElem?_eq_getElem hs]
  exact List.getElem_mem hs
theorem eqN_gw {g : List GS} (h : GWk g) : eqN EQD (gD g) (gD g) = some true := by
  show eqN (36 + 4) _ _ = _
  refine eqN_lst fun x hx => ?_
  obtain ⟨y, hy, rfl⟩ := List.mem_map.mp hx
  cases h.all y hy with
  | fin => rw [GS.d]; exact eqN_tup (by simp [eqN_str])
  | @st side ws h1 h2 h3 =>
    have hw : eqN 38 (.lst (ws.map wdD)) (.lst (ws.map wdD)) = some true := eqN_lst fun x hx => by
      obtain ⟨w, hw, rfl⟩ := List.mem_map.mp hx
      have hn : eqN 36 (.tup [.str (Str.ofString "nothing")]) (.tup [.str (Str.ofString "nothing")]) = some true := eqN_tup (by simp [eqN_str])
      unfold wdD
      rw [(h3 w hw).1, Sh.d]
      exact eqN_tup (by simp [eqN_str, eqN_int, hn])
    rw [GS.d]; exact eqN_tup (by simp [eqN_str, hw])
noncomputable def IsEndW (f : Fn) : Prop := ∀ (n : Int) (x : GS), GSW n x → Pure1 f [x.d] (.bl x.isFin)
theorem is_endW : IsEndW (fnOf 1 1 m_is_end) := by
  intro n x hx S
  refine Wf_fnOf rfl ?_
  unfold m_is_end
  cases hx with
  | fin =>
    rw [GS.d]
    walk_at "w"
    exact ⟨by simp [GS.isFin], rfl⟩
  | st hs _ _ =>
    rw [GS.d]
    walk_at "w"
    refine ⟨?_, rfl⟩
    rcases hs with rfl | rfl <;> simp [GS.isFin]
noncomputable def WordsW (f : Fn) : Prop := ∀ (n : Int) (x : GS), GSW n x → Pure1 f [x.d] x.words
theorem wordsW {ce : Fn} (he : IsEndW ce) : WordsW (fnOf 1 1 (m_words_of ce)) := by
  intro n x hx S
  refine Wf_fnOf rfl ?_
  unfold m_words_of
  cases x with
  | fin =>
    walk_at "w"
    refine (he n .fin hx).use ?_
    walk_at "w"
    exact ⟨rfl, rfl⟩
  | st side ws =>
    walk_at "w"
    refine (he n (.st side ws) hx).use ?_
    rw [GS.d]
    walk_at "w"
    exact ⟨rfl, rfl⟩
/-! ### the law's own grammars -/
noncomputable def Cell2Ok (f : Fn) : Prop := ∀ (ns : List Int) (k : Nat), k ≤ 1000 → ∃ c : Int, Pure1 f [.scr ns, .int k] (.int c)
theorem cell2_ok : Cell2Ok (fnOf 2 2 m_f_law_cell_v2) := by
  intro ns k hk
  by_cases q : k < ns.length
  · refine ⟨ns.getD k 0, fun S => ?_⟩
    refine Wf_fnOf rfl ?_
    unfold m_f_law_cell_v2
    walk_at "w"
    refine kIfT (by rw [decide_eq_true_eq]; omega) ?_
    walk_at "w"
    refine W_ix_scr.mpr ⟨ns.getD k 0, ?_, rfl, rfl⟩
    unfold atI
    rw [ixN_nat (by omega) (by omega)]
    show ns[(k : Int).toNat]? = _
    rw [Int.toNat_natCast, List.getElem?_eq_getElem q, List.getD_eq_getElem?_getD, List.getElem?_eq_getElem q]
    rfl
  · refine ⟨23 * (k : Int) * k + 13 * k + 5, fun S => ?_⟩
    refine Wf_fnOf rfl ?_
    unfold m_f_law_cell_v2
    walk_at "w"
    refine kIfF (by rw [decide_eq_false_iff_not]; omega) ?_
    walk_at "w"
    refine wMulI (mulOk_l (by decide) (by decide)) ?_
    walk_at "w"
    refine wMulI (mulOk_r (by omega) (by omega)) ?_
    walk_at "w"
    refine wMulI (mulOk_l (by decide) (by decide)) ?_
    walk_at "w"
    exact ⟨rfl, rfl⟩
noncomputable def mixA (c : Int) (k : Nat) : Int := (c * 48271 + 7919 * (k : Int) * k + 104729 * k + 11) % 2147483647
noncomputable def mixB (c : Int) (k : Nat) : Int := mixA c k * mixA c k % 2147483629
noncomputable def MixedOk (f : Fn) : Prop := ∀ (c : Int) (k : Nat), k ≤ 1000 → Pure1 f [.int c, .int k] (.int (mixB c k * mixB c k + mixB c k * 1000003 + c))
theorem mixed_ok : MixedOk (fnOf 2 3 m_f_law_mixed) := by
  intro c k hk S
  refine Wf_fnOf rfl ?_
  unfold m_f_law_mixed
  walk_at "w"
  refine wMulI (mulOk_r (by decide) (by decide)) ?_
  walk_at "w"
  refine wMulI (mulOk_l (by decide) (by decide)) ?_
  walk_at "w"
  refine wMulI (mulOk_r (by omega) (by omega)) ?_
  walk_at "w"
  refine wMulI (mulOk_l (by decide) (by decide)) ?_
  walk_at "w"
  rw [show (c * 48271 + 7919 * (k : Int) * k + 104729 * k + 11) % 2147483647 = mixA c k from rfl]
  have z0 : 0 ≤ mixA c k := Int.emod_nonneg _ (by decide)
  have z1 : mixA c k < 2147483647 := Int.emod_lt_of_pos _ (by decide)
  refine wMulI (mulOk_r (by omega) (by omega)) ?_
  walk_at "w"
  rw [show mixA c k * mixA c k % 2147483629 = mixB c k from rfl]
  have y0 : 0 ≤ mixB c k := Int.emod_nonneg _ (by decide)
  have y1 : mixB c k < 2147483629 := Int.emod_lt_of_pos _ (by decide)
  refine wMulI (mulOk_r (by omega) (by omega)) ?_
  walk_at "w"
  refine wMulI (mulOk_r (by decide) (by decide)) ?_
  walk_at "w"
  exact ⟨rfl, rfl⟩
theorem iteK_to {b : Bool} {m1 m2 : M Out} {t : T} {K : Out → T → Prop} (Pm : Out → T → Prop) (h1 : b = true → W m1 t Pm) (h2 : b = false → W m2 t Pm) (h : ∀ o t', Pm o t' → K o t') : iteK b (W m1 t K) (W m2 t K) := by
  cases b with
  | true => exact kIfT rfl ((h1 rfl).mono h)
  | false => exact kIfF rfl ((h2 rfl).mono h)
theorem nm_at {i : Int} : ∃ n, atI (Str.ofString "abc").cps.toList (i % 3) = some n := by
  have h0 := Int.emod_nonneg i (b := 3) (by decide)
  have h1 := Int.emod_lt_of_pos i (b := 3) (by decide)
  generalize i % 3 = z at h0 h1
  obtain ⟨k, rfl⟩ : ∃ k : Nat, z = k := ⟨z.toNat, by omega⟩
  match k, h1 with
  | 0, _ => exact ⟨97, by decide +kernel⟩
  | 1, _ => exact ⟨98, by decide +kernel⟩
  | 2, _ => exact ⟨99, by decide +kernel⟩
  | k + 3, h => omega
theorem sd_at {i : Int} : ∃ x, (x = Str.ofString "left" ∨ x = Str.ofString "right") ∧ atI [D.str (Str.ofString "left"), D.str (Str.ofString "right")] (i % 2) = some (.str x) := by
  have h0 := Int.emod_nonneg i (b := 2) (by decide)
  have h1 := Int.emod_lt_of_pos i (b := 2) (by decide)
  generalize i % 2 = z at h0 h1
  obtain ⟨k, rfl⟩ : ∃ k : Nat, z = k := ⟨z.toNat, by omega⟩
  match k, h1 with
  | 0, _ => exact ⟨_, .inl rfl, rfl⟩
  | 1, _ => exact ⟨_, .inr rfl, rfl⟩
  | k + 2, h => omega
noncomputable def StatesOk (f : Fn) : Prop := ∀ (ns : List Int) (start many : Nat) (S : List Ob), start ≤ 100 → 1 ≤ many → many ≤ 30 → Wf f [.scr ns, .int start, .int many] S fun r S' => (∃ g : List GS, GWk g ∧ r = gD g) ∧ S' = S
/-! ### rules: dicts with int keys, numbered -/
theorem wDispI {l : List (Int × M D)} {t : T} {P : D → T → Prop} (h : W (fPairsI l) ⟨t.env, t.S ++ [.dct []]⟩ fun ps t1 => t1.S[t.S.length]? = some (.dct []) ∧ ps.length ≤ 15 ∧ P (.obj t.S.length) ⟨t1.env, t1.S.set t.S.length (.dct (kvMerge ps))⟩) : W (fDispI l) t P := by
  obtain ⟨ps, t1, e1, e2, e3, p⟩ := h
  refine ⟨_, _, ?_, p⟩
  unfold fDispI bnd
  simp only [e1]
  unfold dispEnd
  simp only [e2, if_pos e3]
theorem wPairsINil {t : T} {Q : List (Key × D) → T → Prop} (h : Q [] t) : W (fPairsI []) t Q := ⟨_, _, rfl, h⟩
theorem wPairsICons {k : Int} {f : M D} {r : List (Int × M D)} {t : T} {Q : List (Key × D) → T → Prop} (h : W f t fun d t1 => W (fPairsI r) t1 fun ps t2 => Q ((.inl k, d) :: ps) t2) : W (fPairsI ((k, f) :: r)) t Q :=
  wBnd (h.mono fun d t1 h1 => wBnd (h1.mono fun ps t2 h2 => ⟨_, _, rfl, h2⟩))
theorem wStKeyI {f g : M D} {d : D} {t : T} {U : Unit → T → Prop} (h : W f t fun o t1 => W g t1 fun i t2 => W (stKeyObI o i d) t2 U) : W (stKeyI f g d) t U := wBnd (h.mono fun o t1 h1 => wBnd h1)
theorem wStKeyObI {n : Nat} {x : Int} {d : D} {kvs : List (Key × D)} {t : T} {U : Unit → T → Prop} (e : t.S[n]? = some (.dct kvs)) (hl : kvs.length < LIM) (h : U () ⟨t.env, t.S.set n (.dct (kvPut kvs (.inl x) d))⟩) : W (stKeyObI (.obj n) (.int x) d) t U :=
  ⟨(), _, by simp only [stKeyObI, e, if_pos hl], h⟩
theorem wGetI {n : Nat} {x : Int} {d : D} {kvs : List (Key × D)} {t : T} {P : D → T → Prop} (e : t.S[n]? = some (.dct kvs)) (e2 : kvGet kvs (.inl x) = some d) (h : P d t) : W (dgetI (.obj n) (.int x)) t P :=
  ⟨_, _, by simp only [dgetI, e, e2, Option.map_some], h⟩
theorem wInK {neg : Bool} {n : Nat} {x : Int} {kvs : List (Key × D)} {t : T} {P : D → T → Prop} (e : t.S[n]? = some (.dct kvs)) (h : P (.bl (if neg then !(kvGet kvs (.inl x)).isSome else (kvGet kvs (.inl x)).isSome)) t) : W (inK neg (.int x) (.obj n)) t P :=
  ⟨_, _, by simp only [inK, e], h⟩
theorem wSortK {n : Nat} {kvs : List (Key × D)} {ns : List Int} {t : T} {P : List D → T → Prop} (e : t.S[n]? = some (.dct kvs)) (e2 : keysI kvs = some ns) (hl : ns.length < 64) (h : P ((srtZ ns).map D.int) t) : W (sortKF [.obj n]) t P :=
  ⟨_, _, by simp only [sortKF, e, e2, if_pos hl], h⟩
/-! ### what is reached -/
noncomputable def nx (g : List GS) (s : Nat) : List Nat := (gsAt g s).ws.map fun w => w.2.2.toNat
inductive Reach (g : List GS) : Nat → Prop
  | zero : Reach g 0
  | step {s t : Nat} : Reach g s → t ∈ nx g s → Reach g t
theorem ws_w {g : List GS} (hg : GWk g) {s : Nat} (hs : s < g.length) : (gsAt g s).ws.length ≤ 3 ∧ ∀ w ∈ (gsAt g s).ws, w.2.1 = .nothing ∧ 0 ≤ w.2.2 ∧ w.2.2 < (g.length : Int) := by
  have := gsAt_w hg hs
  cases e : gsAt g s with
  | fin => exact ⟨Nat.zero_le _, fun _ z => nomatch z⟩
  | st side ws =>
    rw [e] at this
    cases this with
    | st _ h2 h3 => exact ⟨h2, h3⟩
/-- the keys of a dict of lists -/
structure KVs (N : Nat) (kvs : List (Key × D)) (ks : List Nat) : Prop where
  keys : kvs.map (·.1) = ks.map fun k : Nat => (Sum.inl (k : Int) : Key)
  nd : ks.Nodup
  lt : ∀ k ∈ ks, k < N
  val : ∀ kv ∈ kvs, ∃ ds, kv.2 = .lst ds ∧ ds.length ≤ ks.length
theorem KVs.len {N : Nat} {kvs : List (Key × D)} {ks : List Nat} (h : KVs N kvs ks) : kvs.length = ks.length := by
  have := congrArg List.length h.keys
  rwa [List.length_map, List.length_map] at this
theorem nodup_le : ∀ {N : Nat} {l : List Nat}, l.Nodup → (∀ k ∈ l, k < N) → l.length ≤ N
  | 0, [], _, _ => Nat.le_refl _
  | 0, a :: l, _, h => absurd (h a List.mem_cons_self) (by omega)
  | N + 1, l, nd, h => by
    have h1 : (l.erase N).length ≤ N := nodup_le (nd.erase N) fun k hk => by
      have := (nd.mem_erase_iff).mp hk
      have := h k this.2
      omega
    have h2 : l.length ≤ (l.erase N).length + 1 := by rw [List.length_erase]; split <;> omega
    omega
theorem kv_find {kvs : List (Key × D)} {k : Key} (h : k ∈ kvs.map (·.1)) : ∃ kv ∈ kvs, kvGet kvs k = some kv.2 := by
  induction kvs with
  | nil => cases h
  | cons p r ih =>
    by_cases e : p.1 = k
    · exact ⟨p, List.mem_cons_self, by simp [kvGet, e]⟩
    · rw [List.map_cons] at h
      rcases List.mem_cons.mp h with z | z
      · exact absurd z.symm e
      · obtain ⟨kv, hkv, e2⟩ := ih z
        refine ⟨kv, List.mem_cons_of_mem _ hkv, ?_⟩
        rw [← e2]
        simp [kvGet, e]
theorem kv_none {kvs : List (Key × D)} {k : Key} (h : k ∉ kvs.map (·.1)) : kvGet kvs k = none ∧ (kvs.any fun kv => decide (kv.1 = k)) = false := by
  induction kvs with
  | nil => exact ⟨rfl, rfl⟩
  | cons p r ih =>
    rw [List.map_cons] at h
    have e : ¬ p.1 = k := fun z => h (by rw [z]; exact List.mem_cons_self)
    obtain ⟨h1, h2⟩ := ih fun z => h (List.mem_cons_of_mem _ z)
    refine ⟨?_, by rw [List.any_cons, decide_eq_false e, h2]; rfl⟩
    rw [← h1]
    simp [kvGet, e]
theorem KVs.mem {N : Nat} {kvs : List (Key × D)} {ks : List Nat} (h : KVs N kvs ks) (k : Nat) : (Sum.inl (k : Int) : Key) ∈ kvs.map (·.1) ↔ k ∈ ks := by
  rw [h.keys]
  constructor
  · intro m
    obtain ⟨j, hj, e⟩ := List.mem_map.mp m
    have : (j : Int) = k := Sum.inl.inj e
    have : j = k := by omega
    subst this; exact hj
  · exact fun m => List.mem_map.mpr ⟨k, m, rfl⟩
theorem KVs.get {N : Nat} {kvs : List (Key × D)} {ks : List Nat} (h : KVs N kvs ks) {k : Nat} (hk : k ∈ ks) : ∃ ds, kvGet kvs (.inl (k : Int)) = some (.lst ds) ∧ ds.length ≤ ks.length := by
  obtain ⟨kv, hkv, e⟩ := kv_find ((h.mem k).mpr hk)
  obtain ⟨ds, e2, hl⟩ := h.val kv hkv
  exact ⟨ds, by rw [e, e2], hl⟩
theorem KVs.has {N : Nat} {kvs : List (Key × D)} {ks : List Nat} (h : KVs N kvs ks) (k : Nat) : (kvGet kvs (.inl (k : Int))).isSome = decide (k ∈ ks) := by
  by_cases hk : k ∈ ks
  · obtain ⟨ds, e, _⟩ := h.get hk
    rw [e, decide_eq_true hk]; rfl
  · rw [(kv_none fun z => hk ((h.mem k).mp z)).1, decide_eq_false hk]; rfl
theorem KVs.keysI {N : Nat} {kvs : List (Key × D)} {ks : List Nat} (h : KVs N kvs ks) : F2.keysI kvs = some (ks.map fun k : Nat => (k : Int)) := by
  have key : ∀ {kvs : List (Key × D)} {ks : List Nat}, kvs.map (·.1) = ks.map (fun k : Nat => (Sum.inl (k : Int) : Key)) → F2.keysI kvs = some (ks.map fun k : Nat => (k : Int)) := fun {kvs} => by
    induction kvs with
    | nil =>
      intro ks e
      cases ks with
      | nil => rfl
      | cons _ _ => cases e
    | cons p r ih =>
      intro ks e
      cases ks with
      | nil => cases e
      | cons k ks =>
        obtain ⟨pk, pd⟩ := p
        rw [List.map_cons, List.map_cons] at e
        injection e with e1 e2
        have e1 : pk = .inl (k : Int) := e1
        subst e1
        rw [F2.keysI, ih e2]; rfl
  exact key h.keys

/-! ### rows_to, reached -/
/-- what is known between the turns -/
structure Vis (g : List GS) (V L : List Nat) : Prop where
  z : 0 ∈ V
  nd : V.Nodup
  sub : ∀ s ∈ L, s ∈ V
  re : ∀ s ∈ V, Reach g s
  cl : ∀ s ∈ V, s ∉ L → ∀ t ∈ nx g s, t ∈ V
noncomputable def natD (l : List Nat) : List D := l.map fun k : Nat => D.int (k : Int)
theorem natD_len (l : List Nat) : (natD l).length = l.length := by unfold natD; rw [List.length_map]
theorem set_last {S : List Ob} {a b : Ob} : (S ++ [a]).set S.length b = S ++ [b] := by
  rw [List.set_append_right _ _ (Nat.le_refl _), Nat.sub_self]
  rfl
theorem get_last {S : List Ob} {a : Ob} : (S ++ [a])[S.length]? = some a := by simp
/-! ### a graph whose steps keep a side; the states that have a walk of so many steps -/
section
variable (sm : Nat → List Nat) (C0 : List Nat)
end
/-! ### sorted lists -/
/-! ### comprehensions with a test -/
theorem W_compFil {α : Type} {l : List α} {ι f : α → D} {p : α → Bool} {fr : List (Option Sl)} {S : List Ob} {tst : M Bool} {elt : M D} {z : Option Sl} (h : ∀ a ∈ l, W tst ⟨some (.val (ι a)) :: fr, S⟩ fun b t' => b = p a ∧ t' = ⟨some (.val (ι a)) :: fr, S⟩) (h2 : ∀ a ∈ l, W elt ⟨some (.val (ι a)) :: fr, S⟩ fun x t' => x = f a ∧ t' = ⟨some (.val (ι a)) :: fr, S⟩) :
    W (compL (putV 0) tst elt (l.map ι)) ⟨z :: fr, S⟩ fun xs t' => xs = (l.filter p).map f ∧ t'.S = S := by
  induction l generalizing z with
  | nil => exact W_compL_nil.mpr ⟨rfl, rfl⟩
  | cons a r ih =>
    rw [List.map_cons, W_compL_cons]
    refine wPut ?_
    refine (h a List.mem_cons_self).mono fun b t' ⟨e1, e2⟩ => ?_
    subst e1 e2
    have ih' := ih (z := some (.val (ι a))) (fun b hb => h b (List.mem_cons_of_mem _ hb)) (fun b hb => h2 b (List.mem_cons_of_mem _ hb))
    cases e : p a with
    | true =>
      rw [if_pos rfl]
      refine (h2 a List.mem_cons_self).mono fun x t' ⟨e1, e2⟩ => ?_
      subst e1 e2
      refine ih'.mono fun xs t' ⟨e1, e2⟩ => ?_
      subst e1
      exact ⟨by rw [List.filter_cons_of_pos e, List.map_cons], e2⟩
    | false =>
      rw [if_neg Bool.false_ne_true]
      refine ih'.mono fun xs t' ⟨e1, e2⟩ => ?_
      subst e1
      exact ⟨by rw [List.filter_cons_of_neg (by rw [e]; exact Bool.false_ne_true)], e2⟩
/-! ### followers -/
noncomputable def sm (g : List GS) (s : Nat) : List Nat := (nx g s).filter fun t => decide ((gsAt g t).side = (gsAt g s).side)
/-! ### k41's own grammars -/
noncomputable def m_states_words2 : M Out :=
  (seqS (ownS 7 (fLst fNil))
  (seqS (forS (fRng1 (fCons (fBin (fC (.int 1)) (fBin (fVar 5) (fC (.int 3)) modD) add5) fNil)) (putV 8)
    (seqS (setS 5 (fBin (fVar 5) (fC (.int 3)) fdivD))
  (seqS (ownM 7 app1 (fCons (fTup (fCons (fBin (fBin (fC (.str "abc")) (fBin (fBin (fVar 8) (fVar 6) add5) (fC (.int 3)) modD) ixD) (fBin (fC (.int 1)) (fBin (fVar 4) (fC (.int 8)) modD) add5) mul4) (fCons (fTup (fCons (fC (.str "nothing")) fNil)) (fCons (fBin (fVar 5) (fVar 2) modD) fNil)))) fNil))
  (setS 5 (fBin (fVar 5) (fVar 2) fdivD)))))
  (ownM 3 app1 (fCons (fTup (fCons (fBin (fPure (fLst (fCons (fC (.str "left")) (fCons (fC (.str "right")) fNil)))) (fBin (fVar 6) (fC (.int 2)) modD) ixD) (fCons (fVar 7) fNil))) fNil))))
theorem states_words2 {a0 a1 e7 e8 : Option Sl} {many j : Nat} {a : List GS} {c kind : Int} {S : List Ob} (h1 : many ≤ 30) (hj : j < many) (ha : a.length = j) :
    W m_states_words2 ⟨[a0, a1, some (.val (.int many)), some (.own (a.map GS.d)), some (.val (.int j)), some (.val (.int c)), some (.val (.int kind)), e7, e8], S⟩ fun o t => o = .next ∧ ∃ (x : GS) (e5 e7 e8 : Option Sl), GSW many x ∧ t = ⟨[a0, a1, some (.val (.int many)), some (.own ((a ++ [x]).map GS.d)), some (.val (.int j)), e5, some (.val (.int kind)), e7, e8], S⟩ := by
  have hL : LIM = 100000 := rfl
  unfold m_states_words2
  walk_at "w"
  have q0 := Int.emod_nonneg c (b := 3) (by decide)
  have q1 := Int.emod_lt_of_pos c (b := 3) (by decide)
  refine wRg1 (small_of (by omega) (by omega)) ?_
  generalize hN : (1 + c % 3).toNat = N
  have hN3 : N ≤ 3 := by omega
  refine W_for (fun r t => ∃ (i : Nat) (ws : List (Str × Sh × Int)) (c' : Int) (e8 : Option Sl), i ≤ N ∧ ws.length = i ∧ (∀ w ∈ ws, w.2.1 = .nothing ∧ 0 ≤ w.2.2 ∧ w.2.2 < (many : Int)) ∧ r = (rngL 0 N).drop i ∧ t = ⟨[a0, a1, some (.val (.int many)), some (.own (a.map GS.d)), some (.val (.int j)), some (.val (.int c')), some (.val (.int kind)), some (.own (ws.map wdD)), e8], S⟩) _ _ ⟨0, [], c, e8, by omega, rfl, (fun _ z => nomatch z), rfl, rfl⟩ ?_ ?_
  · rintro d r t ⟨i, ws, c', e8, hi, hw, hall, hr', rfl⟩ _
    obtain ⟨rfl, hr'', hin⟩ := rng_drop hr'
    rw [Int.zero_add]
    walk_at "w"
    obtain ⟨n, hn⟩ := nm_at (i := (i : Int) + kind)
    refine W_ix_str.mpr ⟨by decide +kernel, n, hn, ?_⟩
    walk_at "w"
    have u0 := Int.emod_nonneg (j : Int) (b := 8) (by decide)
    have u1 := Int.emod_lt_of_pos (j : Int) (b := 8) (by decide)
    refine wMulS ⟨small_of (by omega) (by omega), ?_, by rw [hL]; omega, ?_⟩ ?_
    · show 1 * _ ≤ _
      rw [hL]; omega
    · show 1 ≤ _
      rw [hL]; decide
    walk_at "w"
    have v0 := Int.emod_nonneg (c' / 3) (b := (many : Int)) (by omega)
    have v1 := Int.emod_lt_of_pos (c' / 3) (b := (many : Int)) (by omega)
    refine wMod (by omega) ?_
    walk_at "w"
    refine limI (by rw [List.length_map, hL]; omega) ?_
    walk_at "w"
    refine wDiv (by omega) (by omega) ?_
    walk_at "w"
    refine ⟨i + 1, ws ++ [(_, .nothing, c' / 3 % many)], _, _, hin, by rw [List.length_append, hw]; rfl, fun w hw' => ?_, hr'', by rw [List.map_append]; rfl⟩
    rcases List.mem_append.mp hw' with h | h
    · exact hall w h
    · rw [List.mem_singleton] at h; subst h; exact ⟨rfl, v0, v1⟩
  · rintro t ⟨i, ws, c', e8, hi, hw, hall, hr', rfl⟩
    have hi' : i ≤ 3 := by omega
    walk_at "w"
    obtain ⟨sd, hsd, hat⟩ := sd_at (i := kind)
    refine wIxL hat ?_
    walk_at "w"
    refine limI (by rw [List.length_map, hL]; omega) ?_
    exact ⟨rfl, .st sd ws, _, _, _, .st hsd (by omega) hall, by rw [List.map_append]; rfl⟩
theorem states2_ok {cm cc : Fn} (hm : MixedOk cm) (hc : Cell2Ok cc) : StatesOk (fnOf 3 9 (m_f_law_states_v2 cm cc)) := by
  intro ns start many S hs h1 h2
  have hL : LIM = 100000 := rfl
  refine Wf_fnOf rfl ?_
  unfold m_f_law_states_v2
  walk_at "w"
  refine wRg1 (small_of (by omega) (by omega)) ?_
  refine W_for (fun r t => ∃ (j : Nat) (a : List GS) (e4 e5 e6 e7 e8 : Option Sl), j ≤ many ∧ a.length = j ∧ (∀ x ∈ a, GSW many x) ∧ r = (rngL 0 (many : Int).toNat).drop j ∧ t = ⟨[some (.val (.scr ns)), some (.val (.int start)), some (.val (.int many)), some (.own (a.map GS.d)), e4, e5, e6, e7, e8], S⟩) _ _ ⟨0, [], none, none, none, none, none, by omega, rfl, (fun _ z => nomatch z), rfl, rfl⟩ ?_ ?_
  · rintro d r t ⟨j, a, e4, e5, e6, e7, e8, hj, ha, hall, hr, rfl⟩ _
    obtain ⟨rfl, hr', hjn⟩ := rng_drop hr
    rw [Int.toNat_natCast] at hjn
    rw [Int.zero_add]
    walk_at "w"
    rw [show (start : Int) + (j : Int) = ((start + j : Nat) : Int) by omega]
    obtain ⟨c, hcc⟩ := hc ns (start + j) (by omega)
    refine hcc.use ?_
    walk_at "w"
    refine iteK_to (fun o t' => o = .next ∧ ∃ c' : Int, t' = ⟨[some (.val (.scr ns)), some (.val (.int start)), some (.val (.int many)), some (.own (a.map GS.d)), some (.val (.int j)), some (.val (.int c')), e6, e7, e8], S⟩) (fun _ => ?_) (fun _ => ?_) ?_
    · walk_at "w"
      refine (hm c j (by omega)).use ?_
      walk_at "w"
      exact ⟨rfl, _, rfl⟩
    · walk_at "w"
      exact ⟨rfl, _, rfl⟩
    rintro o t ⟨rfl, c', rfl⟩
    walk_at "w"
    by_cases hk0 : (c' % 6 == 0) = true
    · refine kIfT hk0 ?_
      walk_at "w"
      refine limI (by rw [List.length_map, hL]; omega) ?_
      walk_at "w"
      refine ⟨_, _, rfl, j + 1, a ++ [.fin], _, _, _, _, _, hjn, by rw [List.length_append, ha]; rfl, fun x hx => ?_, hr', by rw [List.map_append]; rfl⟩
      rcases List.mem_append.mp hx with h | h
      · exact hall x h
      · rw [List.mem_singleton] at h; subst h; exact .fin
    · refine kIfF (by simpa using hk0) ?_
      refine wSkip (seqK_next ?_)
      refine W.mono (m := m_states_words2) (states_words2 h2 hjn ha) ?_
      rintro o t ⟨rfl, x, e5, e7, e8, hx, rfl⟩
      refine ⟨j + 1, a ++ [x], _, _, _, _, _, hjn, by rw [List.length_append, ha]; rfl, fun y hy => ?_, hr', rfl⟩
      rcases List.mem_append.mp hy with h | h
      · exact hall y h
      · rw [List.mem_singleton] at h; subst h; exact hx
  · rintro t ⟨j, a, e4, e5, e6, e7, e8, hj, ha, hall, hr, rfl⟩
    have hj' : j = many := by
      have := congrArg List.length hr
      rw [List.length_nil, List.length_drop, rngL_len, Int.toNat_natCast] at this
      omega
    subst hj'
    walk_at "w"
    exact ⟨⟨a, ⟨by omega, by omega, by rw [ha]; exact hall⟩, rfl⟩, rfl⟩

/-! ### the rows, breadth first -/
abbrev RowP := Nat × List Str
noncomputable def stepW (row : List Str) (st : List RowP × List RowP) (w : Str × Sh × Int) : List RowP × List RowP :=
  if w.2.2.toNat ∈ st.1.map (·.1) then st else (st.1 ++ [(w.2.2.toNat, row ++ [w.1])], st.2 ++ [(w.2.2.toNat, row ++ [w.1])])
noncomputable def stepL (g : List GS) (st : List RowP × List RowP) (p : RowP) : List RowP × List RowP := (gsAt g p.1).ws.foldl (stepW p.2) st
noncomputable def bfs (g : List GS) : Nat → List RowP → List RowP → List RowP
  | 0, _, R => R
  | _ + 1, [], R => R
  | f + 1, p :: L, R => bfs g f ((p :: L).foldl (stepL g) (R, [])).2 ((p :: L).foldl (stepL g) (R, [])).1
noncomputable def rowsOf (g : List GS) : List RowP := bfs g 100 [(0, [])] [(0, [])]
theorem bfs_nil (g : List GS) (f : Nat) (R : List RowP) : bfs g f [] R = R := by cases f <;> rfl
structure RIn (N : Nat) (R : List RowP) : Prop where
  nd : (R.map (·.1)).Nodup
  lt : ∀ p ∈ R, p.1 < N
  le : ∀ p ∈ R, p.2.length ≤ R.length
structure Lay (N : Nat) (L R0 R B : List RowP) : Prop where
  i : RIn N R
  l : ∀ p ∈ L, p ∈ R
  b : ∀ p ∈ B, p ∈ R
  n : R.length = R0.length + B.length
theorem RIn.len {N : Nat} {R : List RowP} (h : RIn N R) : R.length ≤ N := by
  have := nodup_le h.nd fun k hk => by
    obtain ⟨p, hp, rfl⟩ := List.mem_map.mp hk
    exact h.lt p hp
  rwa [List.length_map] at this
theorem RIn.put {N : Nat} {R : List RowP} (h : RIn N R) {n : Nat} {row : List Str} (hn : n ∉ R.map (·.1)) (hl : n < N) (hr : row.length ≤ R.length + 1) : RIn N (R ++ [(n, row)]) := by
  refine ⟨?_, fun p hp => ?_, fun p hp => ?_⟩
  · rw [List.map_append, List.nodup_append]
    refine ⟨h.nd, by simp, fun a ha b hb => ?_⟩
    have : b = n := by simpa using hb
    subst this
    exact fun z => hn (by rw [← z]; exact ha)
  · rcases List.mem_append.mp hp with z | z
    · exact h.lt p z
    · rw [List.mem_singleton] at z; subst z; exact hl
  · rw [List.length_append, List.length_singleton]
    rcases List.mem_append.mp hp with z | z
    · have := h.le p z; omega
    · rw [List.mem_singleton] at z; subst z; exact hr
theorem Lay.put {N : Nat} {L R0 R B : List RowP} (h : Lay N L R0 R B) {n : Nat} {row : List Str} (hn : n ∉ R.map (·.1)) (hl : n < N) (hr : row.length ≤ R.length + 1) : Lay N L R0 (R ++ [(n, row)]) (B ++ [(n, row)]) :=
  ⟨h.i.put hn hl hr, fun p hp => List.mem_append_left _ (h.l p hp), fun p hp => by
    rcases List.mem_append.mp hp with z | z
    · exact List.mem_append_left _ (h.b p z)
    · exact List.mem_append_right _ z, by rw [List.length_append, List.length_append, h.n]; simp only [List.length_singleton]; omega⟩
/-! ### the store of rows_to -/
noncomputable def strD (l : List Str) : List D := l.map D.str
theorem strD_len (l : List Str) : (strD l).length = l.length := by unfold strD; rw [List.length_map]
noncomputable def rowOb (p : RowP) : Ob := .lst (strD p.2)
noncomputable def kvsO : Nat → List RowP → List (Key × D)
  | _, [] => []
  | b, p :: r => (.inl (p.1 : Int), .obj b) :: kvsO (b + 1) r
noncomputable def kvsL (R : List RowP) : List (Key × D) := R.map fun p => (.inl (p.1 : Int), .lst (strD p.2))
noncomputable def stO (S : List Ob) (R : List RowP) : List Ob := S ++ (Ob.dct (kvsO (S.length + 1) R) :: R.map rowOb)
theorem kvsO_keys : ∀ (b : Nat) (R : List RowP), (kvsO b R).map (·.1) = (R.map (·.1)).map fun k : Nat => (Sum.inl (k : Int) : Key)
  | _, [] => rfl
  | b, p :: r => by rw [kvsO, List.map_cons, kvsO_keys]; rfl
theorem kvsL_keys (R : List RowP) : (kvsL R).map (·.1) = (R.map (·.1)).map fun k : Nat => (Sum.inl (k : Int) : Key) := by
  unfold kvsL; rw [List.map_map, List.map_map]; rfl
theorem key_mem {l : List Nat} {n : Nat} : (Sum.inl (n : Int) : Key) ∈ l.map (fun k : Nat => (Sum.inl (k : Int) : Key)) ↔ n ∈ l := by
  constructor
  · intro h
    obtain ⟨k, hk, e⟩ := List.mem_map.mp h
    have : (k : Int) = n := Sum.inl.inj e
    have : k = n := by omega
    subst this; exact hk
  · exact fun h => List.mem_map.mpr ⟨n, h, rfl⟩
theorem kv_has {kvs : List (Key × D)} {l : List Nat} (e : kvs.map (·.1) = l.map fun k : Nat => (Sum.inl (k : Int) : Key)) (n : Nat) : (kvGet kvs (.inl (n : Int))).isSome = decide (n ∈ l) := by
  by_cases hn : n ∈ l
  · obtain ⟨kv, _, e2⟩ := kv_find (kvs := kvs) (k := .inl (n : Int)) (by rw [e]; exact key_mem.mpr hn)
    rw [e2, decide_eq_true hn]; rfl
  · rw [(kv_none (kvs := kvs) (k := .inl (n : Int)) (by rw [e]; exact fun z => hn (key_mem.mp z))).1, decide_eq_false hn]; rfl
theorem kv_put {kvs : List (Key × D)} {l : List Nat} (e : kvs.map (·.1) = l.map fun k : Nat => (Sum.inl (k : Int) : Key)) {n : Nat} (hn : n ∉ l) (d : D) : kvPut kvs (.inl (n : Int)) d = kvs ++ [(.inl (n : Int), d)] := by
  unfold kvPut
  rw [if_neg (by rw [(kv_none (kvs := kvs) (k := .inl (n : Int)) (by rw [e]; exact fun z => hn (key_mem.mp z))).2]; exact Bool.false_ne_true)]
theorem kvsO_snoc : ∀ (b : Nat) (R : List RowP) (p : RowP), kvsO b (R ++ [p]) = kvsO b R ++ [(.inl (p.1 : Int), .obj (b + R.length))]
  | b, [], p => rfl
  | b, q :: r, p => by
    rw [List.cons_append, kvsO, kvsO, kvsO_snoc, List.cons_append, List.length_cons]
    congr 5
    omega
theorem kvsL_snoc (R : List RowP) (p : RowP) : kvsL (R ++ [p]) = kvsL R ++ [(.inl (p.1 : Int), .lst (strD p.2))] := by unfold kvsL; rw [List.map_append]; rfl
theorem kvGet_cons {p : Key × D} {r : List (Key × D)} {k : Key} : kvGet (p :: r) k = if p.1 = k then some p.2 else kvGet r k := by
  by_cases h : p.1 = k
  · rw [if_pos h]; simp [kvGet, h]
  · rw [if_neg h]; simp [kvGet, h]
theorem kvsO_get : ∀ {b : Nat} {R : List RowP} {i : Nat} {p : RowP}, (R.map (·.1)).Nodup → R[i]? = some p → kvGet (kvsO b R) (.inl (p.1 : Int)) = some (.obj (b + i))
  | b, [], i, p, _, h => by cases h
  | b, q :: r, 0, p, _, h => by
    have : q = p := by simpa using h
    subst this
    rw [kvsO, kvGet_cons, if_pos rfl]; rfl
  | b, q :: r, i + 1, p, nd, h => by
    have h : r[i]? = some p := by simpa using h
    rw [List.map_cons, List.nodup_cons] at nd
    have hne : ¬ (Sum.inl (q.1 : Int) : Key) = .inl (p.1 : Int) := fun z => by
      have z : (q.1 : Int) = p.1 := Sum.inl.inj z
      have z : q.1 = p.1 := by omega
      exact nd.1 (List.mem_map.mpr ⟨p, List.mem_of_getElem? h, z.symm⟩)
    rw [kvsO, kvGet_cons, if_neg hne, kvsO_get nd.2 h]
    congr 2
    omega
theorem kvsL_get : ∀ {R : List RowP} {p : RowP}, (R.map (·.1)).Nodup → p ∈ R → kvGet (kvsL R) (.inl (p.1 : Int)) = some (.lst (strD p.2))
  | [], p, _, h => by cases h
  | q :: r, p, nd, h => by
    rw [List.map_cons, List.nodup_cons] at nd
    unfold kvsL
    rw [List.map_cons, kvGet_cons]
    rcases List.mem_cons.mp h with rfl | h
    · rw [if_pos rfl]
    · have hne : ¬ (Sum.inl (q.1 : Int) : Key) = .inl (p.1 : Int) := fun z => by
        have z : (q.1 : Int) = p.1 := Sum.inl.inj z
        have z : q.1 = p.1 := by omega
        exact nd.1 (List.mem_map.mpr ⟨p, h, z.symm⟩)
      rw [if_neg hne]
      exact kvsL_get nd.2 h
theorem stO_d {S : List Ob} {R : List RowP} {X : List Ob} : (stO S R ++ X)[S.length]? = some (.dct (kvsO (S.length + 1) R)) := by
  unfold stO
  rw [List.append_assoc, List.getElem?_append_right (Nat.le_refl _), Nat.sub_self]; rfl
theorem stO_o {S : List Ob} {R : List RowP} {X : List Ob} {i : Nat} {p : RowP} (h : R[i]? = some p) : (stO S R ++ X)[S.length + 1 + i]? = some (.lst (strD p.2)) := by
  unfold stO
  rw [List.append_assoc, List.getElem?_append_right (by omega), show S.length + 1 + i - S.length = i + 1 by omega, List.cons_append, List.getElem?_cons_succ]
  obtain ⟨hi, _⟩ := List.getElem?_eq_some_iff.mp h
  rw [List.getElem?_append_left (by rw [List.length_map]; exact hi), List.getElem?_map, h]
  rfl
theorem stO_len {S : List Ob} {R : List RowP} : (stO S R).length = S.length + 1 + R.length := by
  unfold stO; rw [List.length_append, List.length_cons, List.length_map]; omega
theorem stO_put {S : List Ob} {R : List RowP} {n : Nat} {row : List Str} (hn : n ∉ R.map (·.1)) : (stO S R ++ [Ob.lst (strD row)]).set S.length (Ob.dct (kvPut (kvsO (S.length + 1) R) (.inl (n : Int)) (.obj (stO S R).length))) = stO S (R ++ [(n, row)]) := by
  rw [kv_put (kvsO_keys _ _) hn, stO_len, ← kvsO_snoc (S.length + 1) R (n, row)]
  unfold stO
  rw [List.append_assoc, List.set_append_right _ _ (Nat.le_refl _), Nat.sub_self, List.cons_append, List.set_cons_zero, List.map_append]
  rfl
theorem wCatO {k : Nat} {xs ys : List D} {t : T} {P : List D → T → Prop} (e : t.S[k]? = some (.lst xs)) (h : xs.length + ys.length ≤ LIM) (p : P (xs ++ ys) t) : W (catO (.obj k) (.lst ys)) t P :=
  ⟨_, _, by simp only [catO, res1, e]; unfold lim; rw [if_pos h], p⟩
noncomputable def lyD (L : List RowP) : List D := natD (L.map (·.1))
theorem lyD_len (L : List RowP) : (lyD L).length = L.length := by unfold lyD; rw [natD_len, List.length_map]
noncomputable def RowsOk2 (f : Fn) : Prop := ∀ (g : List GS) (S : List Ob), GWk g → Wf f [gD g] S fun r S' => r = .obj S.length ∧ S' = stO S (rowsOf g) ∧ RIn g.length (rowsOf g)
theorem rows2_ok {cw : Fn} (hw : WordsW cw) : RowsOk2 (fnOf 1 6 (m_rows_to_v2 cw)) := by
  intro g S hg
  have hL : LIM = 100000 := rfl
  have hle := hg.le
  refine Wf_fnOf rfl ?_
  unfold m_rows_to_v2
  walk_at "w"
  refine wDispI ?_
  refine wPairsICons ?_
  walk_at "w"
  refine wPairsINil ?_
  refine ⟨by rw [List.append_assoc, List.getElem?_append_right (Nat.le_refl _), Nat.sub_self]; rfl, by simp, ?_⟩
  have e0 : (S ++ [Ob.dct []] ++ [Ob.lst []]).set S.length (.dct (kvMerge [((Sum.inl 0 : Key), D.obj (S ++ [Ob.dct []]).length)])) = stO S [(0, [])] := by
    rw [List.append_assoc, List.set_append_right _ _ (Nat.le_refl _), Nat.sub_self, List.length_append]; rfl
  rw [e0]
  walk_at "w"
  refine W_whileN (fun m t => ∃ (L R : List RowP) (f : Nat) (e3 e4 e5 : Option Sl), RIn g.length R ∧ (∀ p ∈ L, p ∈ R) ∧ bfs g f L R = rowsOf g ∧ (L = [] ∨ (g.length - R.length + 1 ≤ f ∧ 2 * (g.length - R.length) + 1 ≤ m)) ∧ t = ⟨[some (.val (gD g)), some (.val (.obj S.length)), some (.val (.lst (lyD L))), e3, e4, e5], stO S R⟩) ?_ WFUEL 100 _ (by decide) ⟨[(0, [])], [(0, [])], 100, none, none, none, ⟨by simp, fun p hp => ?_, fun p hp => ?_⟩, fun p h => h, rfl, .inr ⟨by omega, by omega⟩, rfl⟩
  · rintro m t ⟨L, R, f, e3, e4, e5, hR, hLR, hb, hm, rfl⟩
    walk_at "w"
    rw [lyD_len]
    cases hLL : L with
    | nil =>
      subst hLL
      rw [bfs_nil] at hb
      subst hb
      show seqK _ _ _ _
      walk_at "w"
      exact ⟨rfl, rfl, hR⟩
    | cons l0 L0 =>
      have hLn : L ≠ [] := by rw [hLL]; exact List.cons_ne_nil _ _
      obtain ⟨hm1, hm2⟩ := hm.resolve_left hLn
      obtain ⟨f, rfl⟩ : ∃ f', f = f' + 1 := ⟨f - 1, by omega⟩
      have hb' : bfs g f (L.foldl (stepL g) (R, [])).2 (L.foldl (stepL g) (R, [])).1 = rowsOf g := by rw [← hb, hLL]; rfl
      rw [← hLL]
      rw [show decide ((0 : Int) < (L.length : Nat)) = true by rw [decide_eq_true_eq, hLL, List.length_cons]; omega]
      refine ⟨m - 1, by omega, ?_⟩
      walk_at "w"
      generalize hst : L.foldl (stepL g) (R, []) = fin at hb'
      refine (W_for (P := fun o t => o = .next ∧ ∃ (e4 e5 : Option Sl), Lay g.length L R fin.1 fin.2 ∧ t = ⟨[some (.val (gD g)), some (.val (.obj S.length)), some (.val (.lst (lyD L))), some (.own (lyD fin.2)), e4, e5], stO S fin.1⟩) (fun r t => ∃ (Y R1 B1 : List RowP) (e4 e5 : Option Sl), r = lyD Y ∧ (∀ p ∈ Y, p ∈ L) ∧ Y.foldl (stepL g) (R1, B1) = fin ∧ Lay g.length L R R1 B1 ∧ t = ⟨[some (.val (gD g)), some (.val (.obj S.length)), some (.val (.lst (lyD L))), some (.own (lyD B1)), e4, e5], stO S R1⟩) _ _ ⟨L, R, [], e4, e5, rfl, fun _ h => h, hst, ⟨hR, hLR, (fun _ z => nomatch z), by simp⟩, rfl⟩ ?_ ?_).mono ?_
      · rintro d r t ⟨Y, R1, B1, e4, e5, hr, hYL, hf, hy, rfl⟩ _
        cases Y with
        | nil => cases hr
        | cons p Y =>
          unfold lyD natD at hr
          rw [List.map_cons, List.map_cons] at hr
          injection hr with h1 h2
          subst h1 h2
          have hpL := hYL p List.mem_cons_self
          have hsg : p.1 < g.length := hy.i.lt p (hy.l p hpL)
          have hws := ws_w hg hsg
          walk_at "w"
          refine wIxL (gsAt_get hsg) ?_
          walk_at "w"
          refine (hw _ _ (gsAt_w hg hsg)).use ?_
          rw [words_sq]
          refine wItSq ?_
          rw [List.foldl_cons] at hf
          generalize hst2 : stepL g (R1, B1) p = mid at hf
          refine (W_for (P := fun o t => o = .next ∧ ∃ (e5 : Option Sl), Lay g.length L R mid.1 mid.2 ∧ t = ⟨[some (.val (gD g)), some (.val (.obj S.length)), some (.val (.lst (lyD L))), some (.own (lyD mid.2)), some (.val (.int p.1)), e5], stO S mid.1⟩) (fun r t => ∃ (Z : List (Str × Sh × Int)) (R2 B2 : List RowP) (e5 : Option Sl), r = Z.map wdD ∧ (∀ w ∈ Z, w ∈ (gsAt g p.1).ws) ∧ Z.foldl (stepW p.2) (R2, B2) = mid ∧ Lay g.length L R R2 B2 ∧ t = ⟨[some (.val (gD g)), some (.val (.obj S.length)), some (.val (.lst (lyD L))), some (.own (lyD B2)), some (.val (.int p.1)), e5], stO S R2⟩) _ _ ⟨_, R1, B1, e5, rfl, fun _ h => h, hst2, hy, rfl⟩ ?_ ?_).mono ?_
          · rintro d r t ⟨Z, R2, B2, e5, hr, hZ, hf2, hy2, rfl⟩ _
            cases Z with
            | nil => cases hr
            | cons w Z =>
              rw [List.map_cons] at hr
              injection hr with h1 h2
              subst h1 h2
              obtain ⟨hw1, hw2, hw3⟩ := hws.2 w (hZ w List.mem_cons_self)
              obtain ⟨n, hn⟩ : ∃ n : Nat, w.2.2 = n := ⟨w.2.2.toNat, by omega⟩
              have hnt : w.2.2.toNat = n := by omega
              rw [List.foldl_cons] at hf2
              unfold stepW at hf2
              rw [hnt] at hf2
              have hRl := hy2.i.len
              unfold wdD
              rw [hn]
              walk_at "w"
              have hd : (stO S R2)[S.length]? = some (.dct (kvsO (S.length + 1) R2)) := by have := stO_d (S := S) (R := R2) (X := []); rwa [List.append_nil] at this
              refine wInK hd ?_
              rw [kv_has (kvsO_keys _ _)]
              by_cases hin : n ∈ R2.map (·.1)
              · rw [decide_eq_true hin]
                rw [if_pos hin] at hf2
                walk_at "w"
                exact ⟨Z, R2, B2, _, rfl, fun x hx => hZ x (List.mem_cons_of_mem _ hx), hf2, hy2, rfl⟩
              · rw [decide_eq_false hin]
                rw [if_neg hin] at hf2
                walk_at "w"
                obtain ⟨i, hi⟩ := List.mem_iff_getElem?.mp (hy2.l p hpL)
                refine wGetI hd (kvsO_get hy2.i.nd hi) ?_
                walk_at "w"
                have ho : (stO S R2)[S.length + 1 + i]? = some (.lst (strD p.2)) := by have := stO_o (S := S) (X := []) hi; rwa [List.append_nil] at this
                have hpl := hy2.i.le p (hy2.l p hpL)
                refine wCatO ho (by rw [hL, strD_len]; simp only [List.length_cons, List.length_nil]; omega) ?_
                walk_at "w"
                refine wStKeyI ?_
                walk_at "w"
                refine wStKeyObI stO_d (by rw [hL]; have := congrArg List.length (kvsO_keys (S.length + 1) R2); rw [List.length_map, List.length_map, List.length_map] at this; omega) ?_
                have ers : strD p.2 ++ [D.str w.1] = strD (p.2 ++ [w.1]) := by unfold strD; rw [List.map_append]; rfl
                rw [ers, stO_put hin]
                walk_at "w"
                have hB := hy2.n
                refine limI (by rw [lyD_len, hL]; omega) ?_
                have hp := hy2.put hin (by omega) (row := p.2 ++ [w.1]) (by rw [List.length_append]; simp only [List.length_cons, List.length_nil]; omega)
                refine ⟨Z, R2 ++ [(n, p.2 ++ [w.1])], B2 ++ [(n, p.2 ++ [w.1])], some (.val (.tup [.str w.1, w.2.1.d, .int n])), rfl, fun x hx => hZ x (List.mem_cons_of_mem _ hx), hf2, hp, ?_⟩
                unfold lyD natD
                rw [List.map_append, List.map_append]
                rfl
          · rintro t ⟨Z, R2, B2, e5, hr, hZ, hf2, hy2, rfl⟩
            cases Z with
            | cons _ _ => cases hr
            | nil =>
              have hf2 : (R2, B2) = mid := hf2
              subst hf2
              exact ⟨rfl, e5, hy2, rfl⟩
          · rintro o t ⟨rfl, e5, hy2, rfl⟩
            exact ⟨Y, mid.1, mid.2, _, _, rfl, fun x hx => hYL x (List.mem_cons_of_mem _ hx), hf, hy2, rfl⟩
      · rintro t ⟨Y, R1, B1, e4, e5, hr, hYL, hf, hy, rfl⟩
        cases Y with
        | cons _ _ => cases hr
        | nil =>
          have hf : (R1, B1) = fin := hf
          subst hf
          exact ⟨rfl, e4, e5, hy, rfl⟩
      · rintro o t ⟨rfl, e4, e5, hy, rfl⟩
        walk_at "w"
        refine ⟨fin.2, fin.1, f, _, _, _, hy.i, hy.b, hb', ?_, rfl⟩
        have h1 := hy.n
        have h2 := hy.i.len
        cases hB : fin.2 with
        | nil => exact .inl rfl
        | cons b B =>
          rw [hB, List.length_cons] at h1
          exact .inr ⟨by omega, by omega⟩
  · rw [List.mem_singleton] at hp; subst hp; exact hg.ne
  · rw [List.mem_singleton] at hp; subst hp; exact Nat.zero_le _
noncomputable def ReachedOk2 (f : Fn) : Prop := ∀ (g : List GS) (S : List Ob), GWk g → Wf f [gD g] S fun r S' => r = .lst ((srtZ ((rowsOf g).map fun p => (p.1 : Int))).map D.int) ∧ S' = stO S (rowsOf g)
theorem keysI_of {kvs : List (Key × D)} {ks : List Nat} (h : kvs.map (·.1) = ks.map (fun k : Nat => (Sum.inl (k : Int) : Key))) : F2.keysI kvs = some (ks.map fun k : Nat => (k : Int)) := by
  induction kvs generalizing ks with
  | nil =>
    cases ks with
    | nil => rfl
    | cons _ _ => cases h
  | cons p r ih =>
    cases ks with
    | nil => cases h
    | cons k ks =>
      obtain ⟨pk, pd⟩ := p
      rw [List.map_cons, List.map_cons] at h
      injection h with e1 e2
      have e1 : pk = .inl (k : Int) := e1
      subst e1
      rw [F2.keysI, ih e2]; rfl
theorem reached2_ok {cr : Fn} (hr : RowsOk2 cr) : ReachedOk2 (fnOf 1 1 (m_reached_v2 cr)) := by
  intro g S hg
  have hle := hg.le
  refine Wf_fnOf rfl ?_
  unfold m_reached_v2
  refine wRetF ?_
  walk_at "w"
  refine (hr g S hg).mono ?_
  rintro r S' ⟨rfl, rfl, hR⟩
  walk_at "w"
  have hd : (stO S (rowsOf g))[S.length]? = some (.dct (kvsO (S.length + 1) (rowsOf g))) := by have := stO_d (S := S) (R := rowsOf g) (X := []); rwa [List.append_nil] at this
  have hRl := hR.len
  refine wSortK hd (keysI_of (kvsO_keys _ _)) (by rw [List.length_map, List.length_map]; omega) ?_
  exact ⟨by rw [List.map_map]; rfl, rfl⟩

/-! ### the law's rows -/
noncomputable def LWordsOk (f : Fn) : Prop := ∀ (n : Int) (x : GS), GSW n x → Pure1 f [x.d] (.lst (x.ws.map wdD))
theorem lwords_ok : LWordsOk (fnOf 1 1 m_f_law_words) := by
  intro n x hx S
  refine Wf_fnOf rfl ?_
  unfold m_f_law_words
  cases hx with
  | fin =>
    rw [GS.d]
    walk_at "w"
    exact ⟨rfl, rfl⟩
  | @st side ws hs _ _ =>
    rw [GS.d]
    walk_at "w"
    refine kIfF ?_ ?_
    · rcases hs with rfl | rfl <;> simp
    · walk_at "w"
      exact ⟨rfl, rfl⟩
noncomputable def prD (p : RowP) : D := .tup [.int (p.1 : Int), .lst (strD p.2)]
noncomputable def LRowsOk (f : Fn) : Prop := ∀ (g : List GS) (S : List Ob), GWk g → Wf f [gD g] S fun r S' => r = .obj S.length ∧ S' = S ++ [.dct (kvsL (rowsOf g))] ∧ RIn g.length (rowsOf g)
theorem lrows_ok {cw : Fn} (hw : LWordsOk cw) : LRowsOk (fnOf 1 9 (m_f_law_rows cw)) := by
  intro g S hg
  have hL : LIM = 100000 := rfl
  have hle := hg.le
  refine Wf_fnOf rfl ?_
  unfold m_f_law_rows
  walk_at "w"
  refine wDispI ?_
  refine wPairsICons ?_
  walk_at "w"
  refine wPairsINil ?_
  refine ⟨get_last, by simp, ?_⟩
  rw [set_last]
  have e0 : kvMerge [((Sum.inl 0 : Key), D.lst [])] = kvsL [(0, [])] := rfl
  rw [e0]
  walk_at "w"
  refine W_whileN (fun m t => ∃ (L R : List RowP) (f : Nat) (e3 e4 e5 e6 e7 e8 : Option Sl), RIn g.length R ∧ (∀ p ∈ L, p ∈ R) ∧ bfs g f L R = rowsOf g ∧ (L = [] ∨ (g.length - R.length + 1 ≤ f ∧ 2 * (g.length - R.length) + 1 ≤ m)) ∧ t = ⟨[some (.val (gD g)), some (.val (.obj S.length)), some (.val (.lst (L.map prD))), e3, e4, e5, e6, e7, e8], S ++ [.dct (kvsL R)]⟩) ?_ WFUEL 100 _ (by decide) ⟨[(0, [])], [(0, [])], 100, none, none, none, none, none, none, ⟨by simp, fun p hp => ?_, fun p hp => ?_⟩, fun p h => h, rfl, .inr ⟨by omega, by omega⟩, rfl⟩
  · rintro m t ⟨L, R, f, e3, e4, e5, e6, e7, e8, hR, hLR, hb, hm, rfl⟩
    walk_at "w"
    cases hLL : L with
    | nil =>
      subst hLL
      rw [bfs_nil] at hb
      subst hb
      show seqK _ _ _ _
      walk_at "w"
      exact ⟨rfl, rfl, hR⟩
    | cons l0 L0 =>
      have hLn : L ≠ [] := by rw [hLL]; exact List.cons_ne_nil _ _
      obtain ⟨hm1, hm2⟩ := hm.resolve_left hLn
      obtain ⟨f, rfl⟩ : ∃ f', f = f' + 1 := ⟨f - 1, by omega⟩
      have hb' : bfs g f (L.foldl (stepL g) (R, [])).2 (L.foldl (stepL g) (R, [])).1 = rowsOf g := by rw [← hb, hLL]; rfl
      have hemp : (L.map prD).isEmpty = false := by rw [hLL]; rfl
      rw [← hLL, hemp]
      refine ⟨m - 1, by omega, ?_⟩
      walk_at "w"
      generalize hst : L.foldl (stepL g) (R, []) = fin at hb'
      refine (W_for (P := fun o t => o = .next ∧ ∃ (e4 e5 e6 e7 e8 : Option Sl), Lay g.length L R fin.1 fin.2 ∧ t = ⟨[some (.val (gD g)), some (.val (.obj S.length)), some (.val (.lst (L.map prD))), some (.own (fin.2.map prD)), e4, e5, e6, e7, e8], S ++ [.dct (kvsL fin.1)]⟩) (fun r t => ∃ (Y R1 B1 : List RowP) (e4 e5 e6 e7 e8 : Option Sl), r = Y.map prD ∧ (∀ p ∈ Y, p ∈ L) ∧ Y.foldl (stepL g) (R1, B1) = fin ∧ Lay g.length L R R1 B1 ∧ t = ⟨[some (.val (gD g)), some (.val (.obj S.length)), some (.val (.lst (L.map prD))), some (.own (B1.map prD)), e4, e5, e6, e7, e8], S ++ [.dct (kvsL R1)]⟩) _ _ ⟨L, R, [], e4, e5, e6, e7, e8, rfl, fun _ h => h, hst, ⟨hR, hLR, (fun _ z => nomatch z), by simp⟩, rfl⟩ ?_ ?_).mono ?_
      · rintro d r t ⟨Y, R1, B1, e4, e5, e6, e7, e8, hr, hYL, hf, hy, rfl⟩ _
        cases Y with
        | nil => cases hr
        | cons p Y =>
          rw [List.map_cons] at hr
          injection hr with h1 h2
          subst h1 h2
          have hpL := hYL p List.mem_cons_self
          have hsg : p.1 < g.length := hy.i.lt p (hy.l p hpL)
          have hws := ws_w hg hsg
          unfold prD
          walk_at "w"
          refine wIxL (gsAt_get hsg) ?_
          walk_at "w"
          refine (hw _ _ (gsAt_w hg hsg)).use ?_
          walk_at "w"
          rw [List.foldl_cons] at hf
          generalize hst2 : stepL g (R1, B1) p = mid at hf
          refine (W_for (P := fun o t => o = .next ∧ ∃ (e6 e7 e8 : Option Sl), Lay g.length L R mid.1 mid.2 ∧ t = ⟨[some (.val (gD g)), some (.val (.obj S.length)), some (.val (.lst (L.map prD))), some (.own (mid.2.map prD)), some (.val (.int p.1)), some (.val (.lst (strD p.2))), e6, e7, e8], S ++ [.dct (kvsL mid.1)]⟩) (fun r t => ∃ (Z : List (Str × Sh × Int)) (R2 B2 : List RowP) (e6 e7 e8 : Option Sl), r = Z.map wdD ∧ (∀ w ∈ Z, w ∈ (gsAt g p.1).ws) ∧ Z.foldl (stepW p.2) (R2, B2) = mid ∧ Lay g.length L R R2 B2 ∧ t = ⟨[some (.val (gD g)), some (.val (.obj S.length)), some (.val (.lst (L.map prD))), some (.own (B2.map prD)), some (.val (.int p.1)), some (.val (.lst (strD p.2))), e6, e7, e8], S ++ [.dct (kvsL R2)]⟩) _ _ ⟨_, R1, B1, e6, e7, e8, rfl, fun _ h => h, hst2, hy, rfl⟩ ?_ ?_).mono ?_
          · rintro d r t ⟨Z, R2, B2, e6, e7, e8, hr, hZ, hf2, hy2, rfl⟩ _
            cases Z with
            | nil => cases hr
            | cons w Z =>
              rw [List.map_cons] at hr
              injection hr with h1 h2
              subst h1 h2
              obtain ⟨hw1, hw2, hw3⟩ := hws.2 w (hZ w List.mem_cons_self)
              obtain ⟨n, hn⟩ : ∃ n : Nat, w.2.2 = n := ⟨w.2.2.toNat, by omega⟩
              have hnt : w.2.2.toNat = n := by omega
              rw [List.foldl_cons] at hf2
              unfold stepW at hf2
              rw [hnt] at hf2
              have hRl := hy2.i.len
              unfold wdD
              rw [hn]
              walk_at "w"
              refine wInK get_last ?_
              rw [kv_has (kvsL_keys _)]
              by_cases hin : n ∈ R2.map (·.1)
              · rw [decide_eq_true hin]
                rw [if_pos hin] at hf2
                walk_at "w"
                exact ⟨Z, R2, B2, _, _, _, rfl, fun x hx => hZ x (List.mem_cons_of_mem _ hx), hf2, hy2, rfl⟩
              · rw [decide_eq_false hin]
                rw [if_neg hin] at hf2
                walk_at "w"
                have hpl := hy2.i.le p (hy2.l p hpL)
                have ers : strD p.2 ++ [D.str w.1] = strD (p.2 ++ [w.1]) := by unfold strD; rw [List.map_append]; rfl
                refine limI (by rw [hL, strD_len]; simp only [List.length_cons, List.length_nil]; omega) ?_
                walk_at "w"
                refine wStKeyI ?_
                walk_at "w"
                refine wStKeyObI get_last (by rw [hL]; unfold kvsL; rw [List.length_map]; omega) ?_
                rw [set_last, kv_put (kvsL_keys _) hin, ers, ← kvsL_snoc R2 (n, p.2 ++ [w.1])]
                walk_at "w"
                have hB := hy2.n
                refine limI (by rw [hL, strD_len]; simp only [List.length_cons, List.length_nil]; omega) ?_
                walk_at "w"
                rw [ers]
                refine limI (by rw [List.length_map, hL]; omega) ?_
                have hp := hy2.put hin (by omega) (row := p.2 ++ [w.1]) (by rw [List.length_append]; simp only [List.length_cons, List.length_nil]; omega)
                refine ⟨Z, R2 ++ [(n, p.2 ++ [w.1])], B2 ++ [(n, p.2 ++ [w.1])], some (.val (.str w.1)), some (.val w.2.1.d), some (.val (.int n)), rfl, fun x hx => hZ x (List.mem_cons_of_mem _ hx), hf2, hp, ?_⟩
                rw [List.map_append]
                rfl
          · rintro t ⟨Z, R2, B2, e6, e7, e8, hr, hZ, hf2, hy2, rfl⟩
            cases Z with
            | cons _ _ => cases hr
            | nil =>
              have hf2 : (R2, B2) = mid := hf2
              subst hf2
              exact ⟨rfl, e6, e7, e8, hy2, rfl⟩
          · rintro o t ⟨rfl, e6, e7, e8, hy2, rfl⟩
            exact ⟨Y, mid.1, mid.2, _, _, _, _, _, rfl, fun x hx => hYL x (List.mem_cons_of_mem _ hx), hf, hy2, rfl⟩
      · rintro t ⟨Y, R1, B1, e4, e5, e6, e7, e8, hr, hYL, hf, hy, rfl⟩
        cases Y with
        | cons _ _ => cases hr
        | nil =>
          have hf : (R1, B1) = fin := hf
          subst hf
          exact ⟨rfl, e4, e5, e6, e7, e8, hy, rfl⟩
      · rintro o t ⟨rfl, e4, e5, e6, e7, e8, hy, rfl⟩
        walk_at "w"
        refine ⟨fin.2, fin.1, f, _, _, _, _, _, _, hy.i, hy.b, hb', ?_, rfl⟩
        have h1 := hy.n
        have h2 := hy.i.len
        cases hB : fin.2 with
        | nil => exact .inl rfl
        | cons b B =>
          rw [hB, List.length_cons] at h1
          exact .inr ⟨by omega, by omega⟩
  · rw [List.mem_singleton] at hp; subst hp; exact hg.ne
  · rw [List.mem_singleton] at hp; subst hp; exact Nat.zero_le _
/-! ### from which an end can be come to -/
noncomputable def jac (g : List GS) (e : List Bool) : List Bool := g.map fun x => x.isFin || (x.ws.map fun w => e.getD w.2.2.toNat false).any id
noncomputable def jacN (g : List GS) : Nat → List Bool
  | 0 => g.map GS.isFin
  | k + 1 => jac g (jacN g k)
theorem jacN_len (g : List GS) : ∀ k, (jacN g k).length = g.length
  | 0 => by rw [jacN, List.length_map]
  | k + 1 => by rw [jacN, jac, List.length_map]
noncomputable def cntB : List Bool → Nat
  | [] => 0
  | b :: r => (if b then 1 else 0) + cntB r
theorem cntB_le : ∀ l, cntB l ≤ l.length
  | [] => Nat.le_refl _
  | b :: r => by have := cntB_le r; rw [cntB, List.length_cons]; cases b <;> simp <;> omega
noncomputable def Sub (a b : List Bool) : Prop := ∀ i, a.getD i false = true → b.getD i false = true
theorem cntB_sub : ∀ {a b : List Bool}, a.length = b.length → Sub a b → cntB a ≤ cntB b ∧ (a ≠ b → cntB a < cntB b)
  | [], [], _, _ => ⟨Nat.le_refl _, fun z => absurd rfl z⟩
  | [], _ :: _, h, _ => by cases h
  | _ :: _, [], h, _ => by cases h
  | x :: a, y :: b, h, s => by
    obtain ⟨h1, h2⟩ := cntB_sub (a := a) (b := b) (by simpa using h) fun i hi => by have := s (i + 1); simpa using this (by simpa using hi)
    have h0 : x = true → y = true := by have := s 0; simpa using this
    rw [cntB, cntB]
    cases x with
    | true =>
      rw [h0 rfl]
      refine ⟨by omega, fun z => ?_⟩
      have := h2 fun e => z (by rw [e])
      omega
    | false =>
      cases y with
      | true => exact ⟨by simp; omega, fun _ => by simp; omega⟩
      | false =>
        refine ⟨by omega, fun z => ?_⟩
        have := h2 fun e => z (by rw [e])
        omega
theorem getD_map {α : Type} (l : List α) (f : α → Bool) (i : Nat) : (l.map f).getD i false = match l[i]? with | some x => f x | none => false := by
  rw [List.getD_eq_getElem?_getD, List.getElem?_map]
  cases l[i]? <;> rfl
theorem jac_sub {g : List GS} {a b : List Bool} (s : Sub a b) : Sub (jac g a) (jac g b) := fun i h => by
  unfold jac at h ⊢
  rw [getD_map] at h ⊢
  cases e : g[i]? with
  | none => rw [e] at h; cases h
  | some x =>
    rw [e] at h
    simp only [Bool.or_eq_true] at h ⊢
    rcases h with h | h
    · exact .inl h
    · refine .inr ?_
      rw [List.any_map, List.any_eq_true] at h ⊢
      obtain ⟨w, hw, hh⟩ := h
      exact ⟨w, hw, s _ hh⟩
theorem jac_up (g : List GS) : ∀ k, Sub (jacN g k) (jacN g (k + 1))
  | 0 => fun i h => by
    rw [jacN, getD_map] at h
    rw [jacN, jac, getD_map]
    cases e : g[i]? with
    | none => rw [e] at h; cases h
    | some x =>
      rw [e] at h
      have h : x.isFin = true := h
      show (x.isFin || _) = true
      rw [h]; rfl
  | k + 1 => jac_sub (jac_up g k)
theorem jac_grow (g : List GS) : ∀ k, jacN g k = jacN g (k + 1) ∨ k + 1 ≤ cntB (jacN g (k + 1))
  | 0 => by
    by_cases e : jacN g 0 = jacN g 1
    · exact .inl e
    · have := (cntB_sub (by rw [jacN_len, jacN_len]) (jac_up g 0)).2 e
      exact .inr (by omega)
  | k + 1 => by
    rcases jac_grow g k with e | e
    · exact .inl (show jac g (jacN g k) = jac g (jacN g (k + 1)) by rw [e])
    · by_cases e2 : jacN g (k + 1) = jacN g (k + 2)
      · exact .inl e2
      · have := (cntB_sub (by rw [jacN_len, jacN_len]) (jac_up g (k + 1))).2 e2
        exact .inr (by omega)
theorem jac_end (g : List GS) : jac g (jacN g g.length) = jacN g g.length := by
  rcases jac_grow g g.length with e | e
  · exact e.symm
  · have h1 := cntB_le (jacN g (g.length + 1))
    rw [jacN_len] at h1
    omega
noncomputable def blD (l : List Bool) : List D := l.map D.bl
theorem blD_len (l : List Bool) : (blD l).length = l.length := by unfold blD; rw [List.length_map]
theorem bl_at {l : List Bool} {i : Nat} (h : i < l.length) : atI (blD l) (i : Int) = some (.bl (l.getD i false)) := by
  unfold atI
  rw [ixN_nat (by omega) (by rw [blD_len]; omega)]
  show (blD l)[(i : Int).toNat]? = _
  rw [Int.toNat_natCast]
  unfold blD
  rw [List.getElem?_map, List.getElem?_eq_getElem h, List.getD_eq_getElem?_getD, List.getElem?_eq_getElem h]
  rfl
theorem bls_of : ∀ l : List Bool, blsOf (blD l) = some l
  | [] => rfl
  | b :: r => by
    show (blsOf (blD r)).map (b :: ·) = _
    rw [bls_of r]; rfl
theorem wAny {ds : List D} {bs : List Bool} {t : T} {P : D → T → Prop} (e : blsOf ds = some bs) (h : P (.bl (bs.any id)) t) : W (anyD [.lst ds]) t P := ⟨_, _, by simp only [anyD, e], h⟩
noncomputable def LeadsOk (f : Fn) : Prop := ∀ (n : Nat) (x : GS) (e : List Bool), GSW n x → e.length = n → n ≤ 30 → Pure1 f [x.d, .lst (blD e)] (.bl ((x.ws.map fun w => e.getD w.2.2.toNat false).any id))
theorem ws_gs {n : Nat} {x : GS} (h : GSW n x) : x.ws.length ≤ 3 ∧ ∀ w ∈ x.ws, w.2.1 = .nothing ∧ 0 ≤ w.2.2 ∧ w.2.2 < (n : Int) := by
  cases h with
  | fin => exact ⟨Nat.zero_le _, fun _ z => nomatch z⟩
  | st _ h2 h3 => exact ⟨h2, h3⟩
theorem leads_ok {cw : Fn} (hw : WordsW cw) : LeadsOk (fnOf 2 2 (m_leads_to cw)) := by
  intro n x e hx he hn S
  have hL : LIM = 100000 := rfl
  obtain ⟨hl3, hws⟩ := ws_gs hx
  refine Wf_fnOf rfl ?_
  unfold m_leads_to
  walk_at "w"
  refine (hw _ x hx).use ?_
  rw [words_sq]
  refine wItSq ?_
  refine (W_compMapG (l := x.ws) (ι := wdD) (f := fun w => D.bl (e.getD w.2.2.toNat false)) (fr := [some (.val (.lst (blD e)))]) fun w hw => ?_).mono ?_
  · obtain ⟨_, h2, h3⟩ := hws w hw
    obtain ⟨k, hk⟩ : ∃ k : Nat, w.2.2 = k := ⟨w.2.2.toNat, by omega⟩
    unfold wdD
    rw [hk]
    walk_at "w"
    refine wIxL (bl_at (by omega)) ?_
    exact ⟨by rw [Int.toNat_natCast], rfl⟩
  · rintro xs t' ⟨rfl, hS⟩
    refine limI (by rw [List.length_map, hL]; omega) ?_
    walk_at "w"
    have eb : (x.ws.map fun w => D.bl (e.getD w.2.2.toNat false)) = blD (x.ws.map fun w => e.getD w.2.2.toNat false) := by unfold blD; rw [List.map_map]; rfl
    rw [eb]
    refine wAny (bls_of _) ?_
    exact ⟨rfl, hS⟩
noncomputable def endsD (g : List GS) : List D := ((List.range g.length).filter fun k => (jacN g g.length).getD k false).map fun k : Nat => D.int (k : Int)
noncomputable def EndingOk (f : Fn) : Prop := ∀ (g : List GS), GWk g → Pure1 f [gD g] (.lst (endsD g))
theorem rng_map (N : Nat) : rngL 0 N = (List.range N).map fun k : Nat => D.int (k : Int) := by
  unfold rngL
  refine List.map_congr_left fun k _ => ?_
  rw [Int.zero_add]
theorem ending_ok {ce cl : Fn} (he : IsEndW ce) (hl : LeadsOk cl) : EndingOk (fnOf 1 3 (m_ending ce cl)) := by
  intro g hg S
  have hL : LIM = 100000 := rfl
  have hle := hg.le
  refine Wf_fnOf rfl ?_
  unfold m_ending
  walk_at "w"
  refine (W_compMapG (l := g) (ι := GS.d) (f := fun x => D.bl x.isFin) (fr := []) fun x hx => ?_).mono ?_
  · walk_at "w"
    refine (he _ x (hg.all x hx)).use ?_
    exact ⟨rfl, rfl⟩
  rintro xs t' ⟨rfl, hS⟩
  refine limI (by rw [List.length_map, hL]; omega) ?_
  have e0 : (g.map fun x => D.bl x.isFin) = blD (jacN g 0) := by unfold blD jacN; rw [List.map_map]; rfl
  rw [e0]
  walk_at "w"
  rw [hS]
  rw [List.length_map]
  refine wRg1 (small_of (by omega) (by omega)) ?_
  rw [Int.toNat_natCast]
  refine W_for (fun r t => ∃ (j : Nat) (e2 : Option Sl), j ≤ g.length ∧ r = (rngL 0 g.length).drop j ∧ t = ⟨[some (.val (gD g)), some (.val (.lst (blD (jacN g j)))), e2], S⟩) _ _ ⟨0, none, by omega, rfl, rfl⟩ ?_ ?_
  · rintro d r t ⟨j, e2, hj, hr, rfl⟩ _
    obtain ⟨rfl, hr', hjn⟩ := rng_drop hr
    walk_at "w"
    refine (W_compMapG (l := g) (ι := GS.d) (f := fun x => D.bl (x.isFin || (x.ws.map fun w => (jacN g j).getD w.2.2.toNat false).any id)) (fr := [some (.val (.lst (blD (jacN g j))))]) fun x hx => ?_).mono ?_
    · walk_at "w"
      refine (he _ x (hg.all x hx)).use ?_
      cases hf : x.isFin with
      | true =>
        walk_at "w"
        exact ⟨rfl, rfl⟩
      | false =>
        walk_at "w"
        refine (hl _ x _ (hg.all x hx) (jacN_len g j) hle).use ?_
        exact ⟨by rw [Bool.false_or], rfl⟩
    · rintro xs t' ⟨rfl, hS'⟩
      refine limI (by rw [List.length_map, hL]; omega) ?_
      walk_at "w"
      have e1 : (g.map fun x => D.bl (x.isFin || (x.ws.map fun w => (jacN g j).getD w.2.2.toNat false).any id)) = blD (jacN g (j + 1)) := by unfold blD; rw [jacN, jac, List.map_map]; rfl
      rw [e1, hS']
      exact ⟨j + 1, _, hjn, hr', rfl⟩
  · rintro t ⟨j, e2, hj, hr, rfl⟩
    have hj' : j = g.length := by
      have := congrArg List.length hr
      rw [List.length_nil, List.length_drop, rngL_len] at this
      omega
    subst hj'
    refine wRetF ?_
    walk_at "w"
    rw [List.length_map]
    refine wRg1 (small_of (by omega) (by omega)) ?_
    rw [Int.toNat_natCast, rng_map]
    refine (W_compFil (l := List.range g.length) (ι := fun k : Nat => D.int (k : Int)) (f := fun k : Nat => D.int (k : Int)) (p := fun k => (jacN g g.length).getD k false) (fr := [some (.val (.lst (blD (jacN g g.length))))]) (fun k hk => ?_) fun k hk => ?_).mono ?_
    · have := List.mem_range.mp hk
      walk_at "w"
      refine wIxL (bl_at (by rw [jacN_len]; omega)) ?_
      walk_at "w"
      exact ⟨rfl, rfl⟩
    · walk_at "w"
      exact ⟨rfl, rfl⟩
    · rintro xs t' ⟨rfl, hS'⟩
      have hfl := List.length_filter_le (fun k => (jacN g g.length).getD k false) (List.range g.length)
      rw [List.length_range] at hfl
      refine limI (by rw [List.length_map, hL]; omega) ?_
      exact ⟨rfl, hS'⟩

/-! ### the law's ending -/
theorem gs_at {g : List GS} {s : Nat} (hs : s < g.length) : g[s]? = some (gsAt g s) := by
  unfold gsAt
  rw [List.getD_eq_getElem?_getD, List.getElem?_eq_getElem hs]; rfl
theorem jac_at {g : List GS} {a : List Bool} {s : Nat} (hs : s < g.length) : (jac g a).getD s false = ((gsAt g s).isFin || ((gsAt g s).ws.map fun w => a.getD w.2.2.toNat false).any id) := by
  unfold jac
  rw [getD_map, gs_at hs]
theorem fin_jac {g : List GS} {s : Nat} (hs : s < g.length) (h : (gsAt g s).isFin = true) : ∀ k, (jacN g k).getD s false = true
  | 0 => by rw [jacN, getD_map, gs_at hs]; exact h
  | k + 1 => by rw [jacN, jac_at hs, h]; rfl
theorem set_getD {e : List Bool} {h s : Nat} {b : Bool} (hh : h < e.length) : (e.set h b).getD s false = if s = h then b else e.getD s false := by
  rw [List.getD_eq_getElem?_getD, List.getD_eq_getElem?_getD]
  by_cases q : s = h
  · subst q; rw [List.getElem?_set_self hh, if_pos rfl]; rfl
  · rw [List.getElem?_set_ne (fun z => q z.symm), if_neg q]
structure GSi (g : List GS) (k : Nat) (e : List Bool) : Prop where
  len : e.length = g.length
  lo : Sub (jacN g k) e
  hi : Sub e (jacN g g.length)
theorem gsi_set {g : List GS} {k : Nat} {e : List Bool} (i : GSi g k e) {h n : Nat} (hh : h < g.length) {w : Str × Sh × Int} (hw : w ∈ (gsAt g h).ws) (hn : w.2.2.toNat = n) : GSi g k (e.set h (e.getD h false || e.getD n false)) ∧ Sub e (e.set h (e.getD h false || e.getD n false)) := by
  have hl : h < e.length := by rw [i.len]; exact hh
  have up : Sub e (e.set h (e.getD h false || e.getD n false)) := fun s hs => by
    rw [set_getD hl]
    by_cases q : s = h
    · subst q; rw [if_pos rfl, hs]; rfl
    · rw [if_neg q]; exact hs
  refine ⟨⟨by rw [List.length_set]; exact i.len, fun s hs => up s (i.lo s hs), fun s hs => ?_⟩, up⟩
  rw [set_getD hl] at hs
  by_cases q : s = h
  · rw [if_pos q] at hs
    subst q
    rcases (Bool.or_eq_true _ _).mp hs with z | z
    · exact i.hi s z
    · rw [← jac_end, jac_at hh, Bool.or_eq_true]
      refine .inr ?_
      rw [List.any_map, List.any_eq_true]
      exact ⟨w, hw, by show (jacN g g.length).getD w.2.2.toNat false = true; rw [hn]; exact i.hi n z⟩
  · rw [if_neg q] at hs; exact i.hi s hs
theorem same_of_sub {a b : List Bool} (hl : a.length = b.length) (h1 : Sub a b) (h2 : Sub b a) : a = b := by
  refine List.ext_getElem hl fun i q1 q2 => ?_
  have e1 := h1 i
  have e2 := h2 i
  rw [List.getD_eq_getElem?_getD, List.getD_eq_getElem?_getD, List.getElem?_eq_getElem q1, List.getElem?_eq_getElem q2] at e1 e2
  have e1 : a[i] = true → b[i] = true := e1
  have e2 : b[i] = true → a[i] = true := e2
  cases ha : a[i] <;> cases hb : b[i] <;> simp_all
theorem blD_set (e : List Bool) (h : Nat) (b : Bool) : (blD e).set h (.bl b) = blD (e.set h b) := by unfold blD; rw [List.map_set]
noncomputable def LEndOk (f : Fn) : Prop := ∀ (g : List GS) (S : List Ob), GWk g → Wf f [gD g] S fun r S' => r = .lst (endsD g) ∧ ∃ o, S' = S ++ [o]
theorem lend_ok {cw : Fn} (hw : LWordsOk cw) : LEndOk (fnOf 1 7 (m_f_law_ending cw)) := by
  intro g S hg
  have hL : LIM = 100000 := rfl
  have hle := hg.le
  refine Wf_fnOf rfl ?_
  unfold m_f_law_ending
  walk_at "w"
  refine (W_compMapG (l := g) (ι := GS.d) (f := fun x => D.bl x.isFin) (fr := []) fun x hx => ?_).mono ?_
  · cases hg.all x hx with
    | fin =>
      rw [GS.d]
      walk_at "w"
      exact ⟨rfl, rfl⟩
    | @st side ws hs _ _ =>
      rw [GS.d]
      walk_at "w"
      refine ⟨?_, rfl⟩
      rcases hs with rfl | rfl <;> simp [GS.isFin]
  rintro xs t' ⟨rfl, hS⟩
  refine limI (by rw [List.length_map, hL]; omega) ?_
  have e0 : (g.map fun x => D.bl x.isFin) = blD (jacN g 0) := by unfold blD jacN; rw [List.map_map]; rfl
  rw [e0]
  walk_at "w"
  rw [hS]
  rw [List.length_map]
  refine wRg1 (small_of (by omega) (by omega)) ?_
  rw [Int.toNat_natCast]
  refine W_for (fun r t => ∃ (j : Nat) (e : List Bool) (e2 e3 e4 e5 e6 : Option Sl), j ≤ g.length ∧ r = (rngL 0 g.length).drop j ∧ GSi g j e ∧ t = ⟨[some (.val (gD g)), some (.val (.obj S.length)), e2, e3, e4, e5, e6], S ++ [.lst (blD e)]⟩) _ _ ⟨0, jacN g 0, none, none, none, none, none, by omega, rfl, ⟨jacN_len g 0, fun _ h => h, ?_⟩, rfl⟩ ?_ ?_
  · have : ∀ k, Sub (jacN g 0) (jacN g k) := fun k => by
      induction k with
      | zero => exact fun _ h => h
      | succ k ih => exact fun i h => jac_up g k i (ih i h)
    exact this _
  · rintro d r t ⟨j, e, e2, e3, e4, e5, e6, hj, hr, hi, rfl⟩ _
    obtain ⟨rfl, hr', hjn⟩ := rng_drop hr
    walk_at "w"
    rw [List.length_map]
    refine wRg1 (small_of (by omega) (by omega)) ?_
    rw [Int.toNat_natCast]
    refine (W_for (P := fun o t => o = .next ∧ ∃ (e : List Bool) (e3 e4 e5 e6 : Option Sl), GSi g (j + 1) e ∧ t = ⟨[some (.val (gD g)), some (.val (.obj S.length)), some (.val (.int (0 + (j : Int)))), e3, e4, e5, e6], S ++ [.lst (blD e)]⟩) (fun r t => ∃ (h : Nat) (e : List Bool) (e3 e4 e5 e6 : Option Sl), h ≤ g.length ∧ r = (rngL 0 g.length).drop h ∧ GSi g j e ∧ (∀ s, s < h → (jacN g (j + 1)).getD s false = true → e.getD s false = true) ∧ t = ⟨[some (.val (gD g)), some (.val (.obj S.length)), some (.val (.int (0 + (j : Int)))), e3, e4, e5, e6], S ++ [.lst (blD e)]⟩) _ _ ⟨0, e, e3, e4, e5, e6, by omega, rfl, hi, (fun s z => nomatch z), rfl⟩ ?_ ?_).mono ?_
    · rintro d r t ⟨h, e, e3, e4, e5, e6, hh, hr2, hi, hlo, rfl⟩ _
      obtain ⟨rfl, hr3, hhn⟩ := rng_drop hr2
      have hws := ws_w hg hhn
      rw [Int.zero_add, Int.zero_add]
      walk_at "w"
      refine wIxL (gsAt_get hhn) ?_
      walk_at "w"
      refine (hw _ _ (gsAt_w hg hhn)).use ?_
      walk_at "w"
      refine (W_for (P := fun o t => o = .next ∧ ∃ (e : List Bool) (e4 e5 e6 : Option Sl), GSi g j e ∧ (∀ s, s < h + 1 → (jacN g (j + 1)).getD s false = true → e.getD s false = true) ∧ t = ⟨[some (.val (gD g)), some (.val (.obj S.length)), some (.val (.int (j : Int))), some (.val (.int (h : Int))), e4, e5, e6], S ++ [.lst (blD e)]⟩) (fun r t => ∃ (Z : List (Str × Sh × Int)) (e : List Bool) (e4 e5 e6 : Option Sl), r = Z.map wdD ∧ (∀ w ∈ Z, w ∈ (gsAt g h).ws) ∧ (∀ w ∈ (gsAt g h).ws, w ∈ Z ∨ ((jacN g j).getD w.2.2.toNat false = true → e.getD h false = true)) ∧ GSi g j e ∧ (∀ s, s < h → (jacN g (j + 1)).getD s false = true → e.getD s false = true) ∧ t = ⟨[some (.val (gD g)), some (.val (.obj S.length)), some (.val (.int (j : Int))), some (.val (.int (h : Int))), e4, e5, e6], S ++ [.lst (blD e)]⟩) _ _ ⟨_, e, e4, e5, e6, rfl, fun _ z => z, fun _ z => .inl z, hi, hlo, rfl⟩ ?_ ?_).mono ?_
      · rintro d r t ⟨Z, e, e4, e5, e6, hr4, hZ, hd, hi, hlo, rfl⟩ _
        cases Z with
        | nil => cases hr4
        | cons w Z =>
          rw [List.map_cons] at hr4
          injection hr4 with h1 h2
          subst h1 h2
          have hwm := hZ w List.mem_cons_self
          obtain ⟨hw1, hw2, hw3⟩ := hws.2 w hwm
          obtain ⟨n, hn⟩ : ∃ n : Nat, w.2.2 = n := ⟨w.2.2.toNat, by omega⟩
          have hnt : w.2.2.toNat = n := by omega
          obtain ⟨hi', hup⟩ := gsi_set hi hhn hwm hnt
          have hel := hi.len
          have fin : ∀ {q : Option Sl} {q5 : Option Sl}, ∃ (Z' : List (Str × Sh × Int)) (e' : List Bool) (e4 e5 e6 : Option Sl), Z.map wdD = Z'.map wdD ∧ (∀ w ∈ Z', w ∈ (gsAt g h).ws) ∧ (∀ w ∈ (gsAt g h).ws, w ∈ Z' ∨ ((jacN g j).getD w.2.2.toNat false = true → e'.getD h false = true)) ∧ GSi g j e' ∧ (∀ s, s < h → (jacN g (j + 1)).getD s false = true → e'.getD s false = true) ∧ (⟨[some (.val (gD g)), some (.val (.obj S.length)), some (.val (.int (j : Int))), some (.val (.int (h : Int))), q, q5, some (.val (.int (n : Int)))], S ++ [Ob.lst (blD (e.set h (e.getD h false || e.getD n false)))]⟩ : T) = ⟨[some (.val (gD g)), some (.val (.obj S.length)), some (.val (.int (j : Int))), some (.val (.int (h : Int))), e4, e5, e6], S ++ [.lst (blD e')]⟩ := fun {q q5} => by
            refine ⟨Z, e.set h (e.getD h false || e.getD n false), q, q5, some (.val (.int (n : Int))), rfl, fun x hx => hZ x (List.mem_cons_of_mem _ hx), fun x hx => ?_, hi', fun s hs z => hup s (hlo s hs z), rfl⟩
            rcases hd x hx with z | z
            · rcases List.mem_cons.mp z with z | z
              · subst z
                refine .inr fun z => ?_
                rw [set_getD (by omega), if_pos rfl, Bool.or_eq_true]
                rw [hnt] at z
                exact .inr (hi.lo n z)
              · exact .inl z
            · exact .inr fun y => hup h (z y)
          unfold wdD
          rw [hn]
          walk_at "w"
          refine wIxO get_last (bl_at (by omega)) ?_
          walk_at "w"
          cases hb : e.getD h false with
          | true =>
            walk_at "w"
            refine wStOb get_last (n := h) (by rw [blD_len, ixN_nat (by omega) (by omega)]; simp) ?_
            rw [set_last, blD_set]
            have := fin (q := some (.val (.str w.1))) (q5 := some (.val w.2.1.d))
            rw [hb, Bool.true_or] at this
            exact this
          | false =>
            walk_at "w"
            refine wIxO get_last (bl_at (by omega)) ?_
            walk_at "w"
            refine wStOb get_last (n := h) (by rw [blD_len, ixN_nat (by omega) (by omega)]; simp) ?_
            rw [set_last, blD_set]
            have := fin (q := some (.val (.str w.1))) (q5 := some (.val w.2.1.d))
            rw [hb, Bool.false_or] at this
            exact this
      · rintro t ⟨Z, e, e4, e5, e6, hr4, hZ, hd, hi, hlo, rfl⟩
        cases Z with
        | cons _ _ => cases hr4
        | nil =>
          refine ⟨rfl, e, e4, e5, e6, hi, fun s hs z => ?_, rfl⟩
          rcases Nat.lt_or_ge s h with q | q
          · exact hlo s q z
          · have q : s = h := by omega
            subst q
            have z' := z
            rw [jacN, jac_at hhn, Bool.or_eq_true] at z'
            rcases z' with z' | z'
            · exact hi.lo s (fin_jac hhn z' j)
            · rw [List.any_map, List.any_eq_true] at z'
              obtain ⟨w, hw, hz⟩ := z'
              exact (hd w hw).resolve_left (fun y => nomatch y) hz
      · rintro o t ⟨rfl, e, e4, e5, e6, hi, hlo, rfl⟩
        exact ⟨h + 1, e, _, _, _, _, hhn, hr3, hi, hlo, rfl⟩
    · rintro t ⟨h, e, e3, e4, e5, e6, hh, hr2, hi, hlo, rfl⟩
      have hh' : h = g.length := by
        have := congrArg List.length hr2
        rw [List.length_nil, List.length_drop, rngL_len] at this
        omega
      subst hh'
      refine ⟨rfl, e, e3, e4, e5, e6, ⟨hi.len, fun s z => ?_, hi.hi⟩, rfl⟩
      rcases Nat.lt_or_ge s g.length with q | q
      · exact hlo s q z
      · rw [List.getD_eq_getElem?_getD, List.getElem?_eq_none (by rw [jacN_len]; exact q)] at z
        cases z
    · rintro o t ⟨rfl, e, e3, e4, e5, e6, hi, rfl⟩
      exact ⟨j + 1, e, _, _, _, _, _, hjn, hr', hi, rfl⟩
  · rintro t ⟨j, e, e2, e3, e4, e5, e6, hj, hr, hi, rfl⟩
    have hj' : j = g.length := by
      have := congrArg List.length hr
      rw [List.length_nil, List.length_drop, rngL_len] at this
      omega
    subst hj'
    have ee : e = jacN g g.length := same_of_sub (by rw [hi.len, jacN_len]) hi.hi hi.lo
    walk_at "w"
    rw [List.length_map]
    refine wRg1 (small_of (by omega) (by omega)) ?_
    rw [Int.toNat_natCast, rng_map]
    refine (W_compFil (l := List.range g.length) (ι := fun k : Nat => D.int (k : Int)) (f := fun k : Nat => D.int (k : Int)) (p := fun k => (jacN g g.length).getD k false) (fr := [some (.val (.obj S.length))]) (fun k hk => ?_) fun k hk => ?_).mono ?_
    · have := List.mem_range.mp hk
      walk_at "w"
      refine wIxO get_last (bl_at (by rw [hi.len]; omega)) ?_
      rw [ee]
      walk_at "w"
      exact ⟨rfl, rfl⟩
    · walk_at "w"
      exact ⟨rfl, rfl⟩
    · rintro xs t' ⟨rfl, hS'⟩
      have hfl := List.length_filter_le (fun k => (jacN g g.length).getD k false) (List.range g.length)
      rw [List.length_range] at hfl
      refine limI (by rw [List.length_map, hL]; omega) ?_
      exact ⟨rfl, _, hS'⟩

/-! ### k41's good -/
theorem wAppO2 {k : Nat} {g : M (List D)} {f : M D} {t : T} {P : D → T → Prop} (w : W f t fun o t1 => o = .obj k ∧ ∃ xs0, t1.S[k]? = some (.lst xs0) ∧ W g t1 fun ds t2 => ∃ xs ys, t2.S[k]? = some (.lst xs) ∧ app1 xs ds = some ys ∧ P .non ⟨t2.env, t2.S.set k (.lst ys)⟩) : W (objM app1 f g) t P := by
  unfold objM
  refine W_bnd.mpr (w.mono fun o t1 ⟨e, xs0, e0, w1⟩ => ?_)
  subst e
  obtain ⟨ds, t2, e2, xs, ys, e3, e4, p⟩ := w1
  refine ⟨.non, ⟨t2.env, t2.S.set k (.lst ys)⟩, ?_, p⟩
  simp only [e0, bnd, e2, e3, e4, Option.map_some]
theorem wEqK {b : Bool} {xs ys : List D} {t : T} {P : D → T → Prop} (h : xs.length = ys.length ∧ (xs.zip ys).all (fun p => alikeK t.S p.1 p.2) = true) (p : P (.bl b) t) : W (eqK b (.lst xs) (.lst ys)) t P :=
  ⟨_, _, by simp only [eqK, if_pos h], p⟩
theorem purs_strs : ∀ l : List Str, purs (strD l) = true
  | [] => rfl
  | n :: r => by unfold strD; rw [List.map_cons, purs]; show (true && purs (strD r)) = true; rw [purs_strs r]; rfl
theorem eqN_ints (l : List Int) : eqN EQD (.lst (l.map D.int)) (.lst (l.map D.int)) = some true := by
  show eqN (39 + 1) _ _ = _
  refine eqN_lst fun x hx => ?_
  obtain ⟨i, _, rfl⟩ := List.mem_map.mp hx
  exact eqN_int
theorem eqN_strs (l : List Str) : eqN EQD (.lst (strD l)) (.lst (strD l)) = some true := by
  show eqN (39 + 1) _ _ = _
  refine eqN_lst fun x hx => ?_
  obtain ⟨i, _, rfl⟩ := List.mem_map.mp hx
  exact eqN_str
theorem alike_ints {S : List Ob} {a : Nat} {l : List Int} (h : S[a]? = some (.lst (l.map D.int))) : alikeK S (.obj a) (.lst (l.map D.int)) = true := by
  show alike1 S (.obj a) (.lst (l.map D.int)) = true
  unfold alike1
  have e : res1 S (.obj a) = .lst (l.map D.int) := by simp only [res1, h]
  rw [e, show res1 S (.lst (l.map D.int)) = .lst (l.map D.int) from rfl, pureD, purs_ints, decide_eq_true (eqN_ints l)]
  rfl
theorem alike_strs {S : List Ob} {a : Nat} {l : List Str} (h : S[a]? = some (.lst (strD l))) : alike1 S (.obj a) (.lst (strD l)) = true := by
  unfold alike1
  have e : res1 S (.obj a) = .lst (strD l) := by simp only [res1, h]
  rw [e, show res1 S (.lst (strD l)) = .lst (strD l) from rfl, pureD, purs_strs, decide_eq_true (eqN_strs l)]
  rfl
theorem kvsO_mem : ∀ {b : Nat} {R : List RowP} {kv : Key × D}, kv ∈ kvsO b R → ∃ (i : Nat) (p : RowP), R[i]? = some p ∧ kv = (.inl (p.1 : Int), .obj (b + i))
  | b, [], kv, h => by cases h
  | b, q :: r, kv, h => by
    rw [kvsO] at h
    rcases List.mem_cons.mp h with h | h
    · exact ⟨0, q, rfl, h⟩
    · obtain ⟨i, p, h1, h2⟩ := kvsO_mem h
      exact ⟨i + 1, p, by simpa using h1, by rw [h2]; congr 2; omega⟩
theorem alike_rows {S : List Ob} {n b m : Nat} {R : List RowP} {N : Nat} (hR : RIn N R) (h1 : S[n]? = some (.dct (kvsO b R))) (h2 : ∀ (i : Nat) p, R[i]? = some p → S[b + i]? = some (.lst (strD p.2))) (h3 : S[m]? = some (.dct (kvsL R))) : alikeK S (.obj n) (.obj m) = true := by
  unfold alikeK
  simp only [h1, h3]
  have hl : (kvsO b R).length = (kvsL R).length := by
    have e1 := congrArg List.length (kvsO_keys b R)
    have e2 := congrArg List.length (kvsL_keys R)
    simp only [List.length_map] at e1 e2
    omega
  rw [hl, keysI_of (kvsO_keys b R), keysI_of (kvsL_keys R)]
  simp only [beq_self_eq_true, Option.isSome_some, Bool.true_and]
  rw [List.all_eq_true]
  intro kv hkv
  obtain ⟨i, p, hp, rfl⟩ := kvsO_mem hkv
  rw [kvsL_get hR.nd (List.mem_of_getElem? hp)]
  exact alike_strs (h2 i p hp)
theorem wAppK {j lo : Nat} {v : D} {kvs : List (Key × D)} : ∀ {ns : List Int} {c : Nat} {t : T} {P : Unit → T → Prop}, (∀ k ∈ ns, ∃ m, kvGet kvs (.inl k) = some (.obj m) ∧ lo ≤ m ∧ m < t.S.length) → (∀ m, lo ≤ m → m < t.S.length → ∃ xs, t.S[m]? = some (.lst xs) ∧ xs.length ≤ c) → c + ns.length < LIM →
    (∀ t', (t'.env = t.env ∨ ∃ y, t'.env = t.env.set j y) → t'.S.length = t.S.length → (∀ i, i < lo → t'.S[i]? = t.S[i]?) → P () t') → W (appK j v kvs ns) t P
  | [], c, t, P, _, _, _, p => ⟨(), t, rfl, p t (.inl rfl) rfl fun _ _ => rfl⟩
  | k :: r, c, t, P, h1, h2, h3, p => by
    obtain ⟨m, e1, q1, q2⟩ := h1 k List.mem_cons_self
    obtain ⟨xs, e2, q3⟩ := h2 m q1 q2
    rw [List.length_cons] at h3
    have hlen : ∀ ys, (t.S.set m (Ob.lst ys)).length = t.S.length := fun ys => List.length_set
    obtain ⟨u, t2, e4, e5⟩ := wAppK (ns := r) (c := c + 1) (t := ⟨t.env.set j (some (.val (.int k))), t.S.set m (.lst (xs ++ [v]))⟩) (P := P) (fun k' hk' => by
        obtain ⟨m', a1, a2, a3⟩ := h1 k' (List.mem_cons_of_mem _ hk')
        exact ⟨m', a1, a2, by show m' < (t.S.set m _).length; rw [hlen]; exact a3⟩) (fun m' a1 a2 => by
        have a2 : m' < (t.S.set m (Ob.lst (xs ++ [v]))).length := a2
        rw [hlen] at a2
        by_cases e : m' = m
        · subst e
          exact ⟨xs ++ [v], List.getElem?_set_self q2, by rw [List.length_append]; simp only [List.length_singleton]; omega⟩
        · obtain ⟨ys, b1, b2⟩ := h2 m' a1 a2
          exact ⟨ys, by show (t.S.set m _)[m']? = _; rw [List.getElem?_set_ne (fun z => e z.symm)]; exact b1, by omega⟩) (by omega) (fun t' he hl hs => by
        refine p t' ?_ (hl.trans (hlen _)) fun i hi => ?_
        · rcases he with he | ⟨y, he⟩
          · exact .inr ⟨_, he⟩
          · refine .inr ⟨y, he.trans ?_⟩
            show (t.env.set j _).set j y = _
            rw [List.set_set]
        · rw [hs i hi]
          show (t.S.set m _)[i]? = _
          rw [List.getElem?_set_ne (by omega)])
    refine ⟨u, t2, ?_, e5⟩
    rw [appK]
    simp only [e1, e2, if_pos (show xs.length < LIM by omega)]
    exact e4
theorem wAppAll {i j : Nat} {q : Int} {v : D} {ds : List D} {n : Nat} {kvs : List (Key × D)} {ns : List Int} {t : T} {P : Out → T → Prop} (e0 : t.env[i]? = some (some (.val (.lst ds)))) (e1 : atI ds q = some (.obj n)) (e2 : t.S[n]? = some (.dct kvs)) (e3 : keysI kvs = some ns) (e4 : i ≠ j ∧ j < t.env.length) (h : W (appK j v kvs ns) t fun _ t' => P .next t') : W (appAll i q j v) t P := by
  obtain ⟨u, t', e5, p⟩ := h
  exact ⟨.next, t', by simp only [appAll, e0, e1, e2, e3, if_pos e4, e5, Option.map_some], p⟩
noncomputable def GoodOk2 (f : Fn) : Prop := ∀ (g : List GS) (S : List Ob), GWk g → Wf f [gD g] S fun r _ => r = .bl true
noncomputable def srtOf (g : List GS) : List Int := srtZ ((rowsOf g).map fun p => (p.1 : Int))
noncomputable def endI (g : List GS) : List Int := ((List.range g.length).filter fun k => (jacN g g.length).getD k false).map fun k : Nat => (k : Int)
theorem endsD_eq (g : List GS) : endsD g = (endI g).map D.int := by unfold endsD endI; rw [List.map_map]; rfl
/-- what is told, and that it is as due -/
theorem told_ok {g : List GS} {S2 X : List Ob} {m : Nat} {R : List RowP} {N : Nat} (hR : RIn N R) (hm : S2[m]? = some (.dct (kvsL R))) {zs es : List Int} :
    ([D.obj (stO S2 R).length, D.obj ((stO S2 R).length + 1), D.obj ((stO S2 R).length + 2)].zip [D.lst (zs.map D.int), .lst (es.map D.int), .obj m]).all (fun p => alikeK (stO (stO S2 R ++ [Ob.lst (zs.map D.int), .lst (es.map D.int)]) R) p.1 p.2) = true := by
  generalize hA : stO S2 R = A
  have hA2 : (stO (A ++ [Ob.lst (zs.map D.int), .lst (es.map D.int)]) R)[A.length]? = some (.lst (zs.map D.int)) := by
    unfold stO; rw [List.append_assoc, List.getElem?_append_right (Nat.le_refl _), Nat.sub_self]; rfl
  have hA3 : (stO (A ++ [Ob.lst (zs.map D.int), .lst (es.map D.int)]) R)[A.length + 1]? = some (.lst (es.map D.int)) := by
    unfold stO; rw [List.append_assoc, List.getElem?_append_right (by omega), show A.length + 1 - A.length = 1 by omega]; rfl
  have hl : (A ++ [Ob.lst (zs.map D.int), .lst (es.map D.int)]).length = A.length + 2 := by rw [List.length_append]; rfl
  have hA4 : (stO (A ++ [Ob.lst (zs.map D.int), .lst (es.map D.int)]) R)[A.length + 2]? = some (.dct (kvsO (A.length + 2 + 1) R)) := by
    have := stO_d (S := A ++ [Ob.lst (zs.map D.int), .lst (es.map D.int)]) (R := R) (X := [])
    rw [List.append_nil, hl] at this
    exact this
  have hA5 : ∀ (i : Nat) p, R[i]? = some p → (stO (A ++ [Ob.lst (zs.map D.int), .lst (es.map D.int)]) R)[A.length + 2 + 1 + i]? = some (.lst (strD p.2)) := fun i p hp => by
    have := stO_o (S := A ++ [Ob.lst (zs.map D.int), .lst (es.map D.int)]) (X := []) hp
    rw [List.append_nil, hl] at this
    exact this
  have hmS : m < S2.length := by
    rcases Nat.lt_or_ge m S2.length with z | z
    · exact z
    · rw [List.getElem?_eq_none z] at hm; cases hm
  have hmA : A[m]? = some (.dct (kvsL R)) := by
    rw [← hA]; unfold stO; rw [List.getElem?_append_left hmS]; exact hm
  have hA6 : (stO (A ++ [Ob.lst (zs.map D.int), .lst (es.map D.int)]) R)[m]? = some (.dct (kvsL R)) := by
    have hmA2 : m < A.length := by rw [← hA, stO_len]; omega
    unfold stO
    rw [List.getElem?_append_left (by rw [hl]; omega), List.getElem?_append_left hmA2]
    exact hmA
  rw [List.all_eq_true]
  intro p hp
  simp only [List.zip_cons_cons, List.zip_nil_right, List.mem_cons, List.not_mem_nil, or_false] at hp
  rcases hp with rfl | rfl | rfl
  · exact alike_ints hA2
  · exact alike_ints hA3
  · exact alike_rows hR hA4 hA5 hA6
noncomputable def m_good_tail (crt ced crd : Fn) : M Out := (retS (fBin (fPure (fLst (fCons (fObj (fCallF crd (fCons (fVar 1) fNil))) (fCons (fObj (fCallF ced (fCons (fVar 1) fNil))) (fCons (fCall crt (fCons (fVar 1) fNil)) fNil))))) (fVar 3) (eqK true)))
theorem good_tail {crt ced crd : Fn} (hrt : RowsOk2 crt) (hed : EndingOk ced) (hrd : ReachedOk2 crd) {g : List GS} {S2 : List Ob} {m : Nat} {e0 e2 e4 e5 : Option Sl} (hg : GWk g) (hR : RIn g.length (rowsOf g)) (hm2 : S2[m]? = some (.dct (kvsL (rowsOf g)))) :
    W (m_good_tail crt ced crd) ⟨[e0, some (.val (gD g)), e2, some (.val (.lst [.lst ((srtOf g).map D.int), .lst ((endI g).map D.int), .obj m])), e4, e5], S2⟩ fun o _ => o = .ret (.bl true) := by
  unfold m_good_tail
  walk_at "w"
  refine wCallF ?_
  walk_at "w"
  refine (hrd g _ hg).mono ?_
  rintro r S3 ⟨rfl, rfl⟩
  refine ⟨_, rfl, ?_⟩
  rw [show srtZ ((rowsOf g).map fun p => (p.1 : Int)) = srtOf g from rfl]
  walk_at "w"
  refine wCallF ?_
  walk_at "w"
  refine (hed g hg).use ?_
  refine ⟨_, rfl, ?_⟩
  rw [endsD_eq]
  walk_at "w"
  refine (hrt g _ hg).mono ?_
  rintro r S4 ⟨rfl, rfl, _⟩
  rw [List.append_assoc, List.singleton_append]
  walk_at "w"
  have hlen2 : (stO S2 (rowsOf g) ++ [Ob.lst ((srtOf g).map D.int)]).length = (stO S2 (rowsOf g)).length + 1 := by rw [List.length_append]; rfl
  have hlen3 : (stO S2 (rowsOf g) ++ [Ob.lst ((srtOf g).map D.int), .lst ((endI g).map D.int)]).length = (stO S2 (rowsOf g)).length + 2 := by rw [List.length_append]; rfl
  rw [hlen2, hlen3]
  refine wEqK ⟨rfl, told_ok (g := g) (X := []) hR hm2⟩ ?_
  rfl
noncomputable def m_good_mid (crt ced crd : Fn) : M Out :=
  (seqS (dropS (objM app1 (fBin (fVar 4) (fC (.int 0)) ixD) (fCons (fC (.int 99)) fNil)))
  (seqS (dropS (objM app1 (fBin (fVar 4) (fC (.int 1)) ixD) (fCons (fC (.int 99)) fNil)))
  (seqS (appAll 4 2 5 (.str "z"))
  (m_good_tail crt ced crd))))
theorem good_mid {crt ced crd : Fn} (hrt : RowsOk2 crt) (hed : EndingOk ced) (hrd : ReachedOk2 crd) {g : List GS} {S5 : List Ob} {m a : Nat} {zs es : List Int} {e0 e2 e5 : Option Sl} (hg : GWk g) (hR : RIn g.length (rowsOf g)) (hma : m < a) (hm2 : S5[m]? = some (.dct (kvsL (rowsOf g)))) (hz : zs.length ≤ 60) (he : es.length ≤ 60)
    (h0 : S5[a]? = some (.lst (zs.map D.int))) (h1 : S5[a + 1]? = some (.lst (es.map D.int))) (h2 : S5[a + 2]? = some (.dct (kvsO (a + 2 + 1) (rowsOf g)))) (h3 : ∀ i p, (rowsOf g)[i]? = some p → S5[a + 2 + 1 + i]? = some (.lst (strD p.2))) (h4 : S5.length = a + 2 + 1 + (rowsOf g).length) :
    W (m_good_mid crt ced crd) ⟨[e0, some (.val (gD g)), e2, some (.val (.lst [.lst ((srtOf g).map D.int), .lst ((endI g).map D.int), .obj m])), some (.val (.lst [.obj a, .obj (a + 1), .obj (a + 2)])), e5], S5⟩ fun o _ => o = .ret (.bl true) := by
  have hL : LIM = 100000 := rfl
  have hle := hg.le
  have hRl := hR.len
  unfold m_good_mid
  walk_at "w"
  refine wAppO2 (k := a) ?_
  walk_at "w"
  refine ⟨rfl, _, h0, ?_⟩
  walk_at "w"
  refine ⟨_, zs.map D.int ++ [.int 99], h0, by show (if _ then _ else _) = _; rw [if_pos (by rw [List.length_map, hL]; omega)], ?_⟩
  walk_at "w"
  refine wAppO2 (k := a + 1) ?_
  walk_at "w"
  have g1 : (S5.set a (Ob.lst (zs.map D.int ++ [.int 99])))[a + 1]? = some (.lst (es.map D.int)) := by rw [List.getElem?_set_ne (by omega)]; exact h1
  refine ⟨rfl, _, g1, ?_⟩
  walk_at "w"
  refine ⟨_, es.map D.int ++ [.int 99], g1, by show (if _ then _ else _) = _; rw [if_pos (by rw [List.length_map, hL]; omega)], ?_⟩
  walk_at "w"
  have hlen : ((S5.set a (Ob.lst (zs.map D.int ++ [.int 99]))).set (a + 1) (Ob.lst (es.map D.int ++ [.int 99]))).length = a + 2 + 1 + (rowsOf g).length := by rw [List.length_set, List.length_set]; exact h4
  have g2 : ∀ i, i ≠ a → i ≠ a + 1 → ((S5.set a (Ob.lst (zs.map D.int ++ [.int 99]))).set (a + 1) (Ob.lst (es.map D.int ++ [.int 99])))[i]? = S5[i]? := fun i q1 q2 => by rw [List.getElem?_set_ne (fun z => q2 z.symm), List.getElem?_set_ne (fun z => q1 z.symm)]
  generalize (S5.set a (Ob.lst (zs.map D.int ++ [.int 99]))).set (a + 1) (Ob.lst (es.map D.int ++ [.int 99])) = S7 at hlen g2
  refine wAppAll rfl rfl (n := a + 2) (kvs := kvsO (a + 2 + 1) (rowsOf g)) ((g2 _ (by omega) (by omega)).trans h2) (keysI_of (kvsO_keys _ _)) ⟨by decide, by show 5 < 6; decide⟩ ?_
  refine wAppK (lo := a + 2 + 1) (c := 40) (fun k hk => ?_) (fun i q1 q2 => ?_) (by rw [List.length_map, List.length_map, hL]; omega) ?_
  · obtain ⟨n, hn, rfl⟩ := List.mem_map.mp hk
    obtain ⟨p, hp, rfl⟩ := List.mem_map.mp hn
    obtain ⟨i, hi⟩ := List.mem_iff_getElem?.mp hp
    obtain ⟨hil, _⟩ := List.getElem?_eq_some_iff.mp hi
    exact ⟨_, kvsO_get hR.nd hi, by omega, by show _ < S7.length; rw [hlen]; omega⟩
  · have q2 : i < S7.length := q2
    rw [hlen] at q2
    obtain ⟨p, hp⟩ : ∃ p, (rowsOf g)[i - (a + 2 + 1)]? = some p := ⟨_, List.getElem?_eq_getElem (by omega)⟩
    have := h3 _ p hp
    rw [show a + 2 + 1 + (i - (a + 2 + 1)) = i by omega] at this
    refine ⟨_, (g2 i (by omega) (by omega)).trans this, ?_⟩
    rw [strD_len]
    have := hR.le p (List.mem_of_getElem? hp)
    omega
  · rintro ⟨env, S8⟩ hen _ hpre
    have hm8 : S8[m]? = some (.dct (kvsL (rowsOf g))) := (hpre m (by omega)).trans ((g2 m (by omega) (by omega)).trans hm2)
    refine seqK_next ?_
    rcases hen with rfl | ⟨y, rfl⟩
    · exact good_tail hrt hed hrd hg hR hm8
    · exact good_tail hrt hed hrd hg hR hm8
theorem good2_ok {crt ced crd cle clr : Fn} (hrt : RowsOk2 crt) (hed : EndingOk ced) (hrd : ReachedOk2 crd) (hle' : LEndOk cle) (hlr : LRowsOk clr) : GoodOk2 (fnOf 1 6 (m_f_law_good_v2 crt ced crd cle clr)) := by
  intro g S hg
  have hL : LIM = 100000 := rfl
  have hle := hg.le
  refine Wf_fnOf rfl ?_
  unfold m_f_law_good_v2
  walk_at "w"
  refine (hlr g S hg).mono ?_
  rintro r S1 ⟨rfl, rfl, hR⟩
  have hRl := hR.len
  walk_at "w"
  refine wSortK get_last (keysI_of (kvsL_keys _)) (by rw [List.length_map, List.length_map]; omega) ?_
  rw [List.map_map, show srtZ ((rowsOf g).map ((fun k : Nat => (k : Int)) ∘ fun x => x.1)) = srtOf g from rfl]
  walk_at "w"
  refine (hle' g _ hg).mono ?_
  rintro r S2 ⟨rfl, o2, rfl⟩
  rw [endsD_eq]
  walk_at "w"
  have hm2 : (S ++ [Ob.dct (kvsL (rowsOf g))] ++ [o2])[S.length]? = some (.dct (kvsL (rowsOf g))) := by
    rw [List.append_assoc, List.getElem?_append_right (Nat.le_refl _), Nat.sub_self]; rfl
  generalize S ++ [Ob.dct (kvsL (rowsOf g))] ++ [o2] = S2 at hm2
  refine wCallF ?_
  walk_at "w"
  refine (hrd g _ hg).mono ?_
  rintro r S3 ⟨rfl, rfl⟩
  refine ⟨_, rfl, ?_⟩
  rw [show srtZ ((rowsOf g).map fun p => (p.1 : Int)) = srtOf g from rfl]
  walk_at "w"
  refine wCallF ?_
  walk_at "w"
  refine (hed g hg).use ?_
  refine ⟨_, rfl, ?_⟩
  rw [endsD_eq]
  walk_at "w"
  refine (hrt g _ hg).mono ?_
  rintro r S4 ⟨rfl, rfl, _⟩
  rw [List.append_assoc, List.singleton_append]
  walk_at "w"
  have hlen2 : (stO S2 (rowsOf g) ++ [Ob.lst ((srtOf g).map D.int)]).length = (stO S2 (rowsOf g)).length + 1 := by rw [List.length_append]; rfl
  have hlen3 : (stO S2 (rowsOf g) ++ [Ob.lst ((srtOf g).map D.int), .lst ((endI g).map D.int)]).length = (stO S2 (rowsOf g)).length + 2 := by rw [List.length_append]; rfl
  rw [hlen2, hlen3]
  refine wEqK ⟨rfl, told_ok (g := g) (X := []) hR hm2⟩ ?_
  walk_at "w"
  refine wEqRefl (d := gD g) rfl (eqN_gw hg) ?_
  refine wToB ?_
  refine kIfF rfl ?_
  refine wSkip (seqK_next ?_)
  have hmS : S.length < S2.length := by
    rcases Nat.lt_or_ge S.length S2.length with z | z
    · exact z
    · rw [List.getElem?_eq_none z] at hm2; cases hm2
  refine W.mono (m := m_good_mid crt ced crd) (good_mid hrt hed hrd (S5 := stO (stO S2 (rowsOf g) ++ [Ob.lst ((srtOf g).map D.int), .lst ((endI g).map D.int)]) (rowsOf g)) (m := S.length) (a := (stO S2 (rowsOf g)).length) (zs := srtOf g) (es := endI g) hg hR (by rw [stO_len]; omega) ?_ ?_ ?_ ?_ ?_ ?_ ?_ ?_) ?_
  · unfold stO
    rw [List.append_assoc, List.append_assoc, List.getElem?_append_left hmS]; exact hm2
  · unfold srtOf; rw [(srtZ_perm _).length_eq, List.length_map]; omega
  · unfold endI
    rw [List.length_map]
    have hfl := List.length_filter_le (fun k => (jacN g g.length).getD k false) (List.range g.length)
    rw [List.length_range] at hfl
    omega
  · generalize stO S2 (rowsOf g) = A
    unfold stO; rw [List.append_assoc, List.getElem?_append_right (Nat.le_refl _), Nat.sub_self]; rfl
  · generalize stO S2 (rowsOf g) = A
    unfold stO; rw [List.append_assoc, List.getElem?_append_right (by omega), show A.length + 1 - A.length = 1 by omega]; rfl
  · have := stO_d (S := stO S2 (rowsOf g) ++ [Ob.lst ((srtOf g).map D.int), .lst ((endI g).map D.int)]) (R := rowsOf g) (X := [])
    rw [List.append_nil, hlen3] at this
    exact this
  · intro i p hp
    have := stO_o (S := stO S2 (rowsOf g) ++ [Ob.lst ((srtOf g).map D.int), .lst ((endI g).map D.int)]) (X := []) hp
    rw [List.append_nil, hlen3] at this
    exact this
  · rw [stO_len, hlen3]
  · rintro o t rfl
    rfl
/-! ### k41 -/
theorem k41_ok {cs cg cc : Fn} (hst : StatesOk cs) (hg : GoodOk2 cg) (hc : Cell2Ok cc) {ns : List Int} :
    Wf (fnOf 1 3 (m_law_K42 cs cg cc)) [.scr ns] [] fun r _ => r = .bl true := by
  have hL : LIM = 100000 := rfl
  refine Wf_fnOf rfl ?_
  unfold m_law_K42
  walk_at "w"
  obtain ⟨z0, hz0⟩ := hc ns 0 (by decide)
  refine hz0.use ?_
  walk_at "w"
  have q0 := Int.emod_nonneg z0 (b := 6) (by decide)
  have q1 := Int.emod_lt_of_pos z0 (b := 6) (by decide)
  obtain ⟨n, hn⟩ : ∃ n : Nat, 1 + z0 % 6 = n := ⟨(1 + z0 % 6).toNat, by omega⟩
  rw [hn]
  refine (hst ns 2 n [] (by decide) (by omega) (by omega)).mono ?_
  rintro r S1 ⟨⟨g, hgw, rfl⟩, rfl⟩
  walk_at "w"
  refine (hg g _ hgw).mono ?_
  rintro r S1 rfl
  walk_at "w"
  refine W_for (fun r t => ∃ (j : Nat) (e1 e2 : Option Sl) (S : List Ob), j ≤ 2 ∧ r = (rngL 0 2).drop j ∧ t = ⟨[some (.val (.scr ns)), e1, e2], S⟩) _ _ ⟨0, none, none, _, by omega, rfl, rfl⟩ ?_ ?_
  · rintro d r t ⟨j, e1, e2, S, hj, hr, rfl⟩ _
    obtain ⟨rfl, hr', hjn⟩ := rng_drop hr
    rw [Int.zero_add]
    walk_at "w"
    obtain ⟨z1, hz1⟩ := hc ns 1 (by decide)
    refine hz1.use ?_
    walk_at "w"
    refine wMulI (mulOk_l (by decide) (by decide)) ?_
    walk_at "w"
    refine wDiv (by omega) (by omega) ?_
    walk_at "w"
    generalize z1 / (1 + 29 * (j : Int)) = z2
    have p0 := Int.emod_nonneg z2 (b := 30) (by decide)
    have p1 := Int.emod_lt_of_pos z2 (b := 30) (by decide)
    obtain ⟨m, hm⟩ : ∃ m : Nat, 1 + z2 % 30 = m := ⟨(1 + z2 % 30).toNat, by omega⟩
    rw [hm]
    refine wMulI (mulOk_l (by decide) (by decide)) ?_
    walk_at "w"
    rw [show (3 : Int) + 29 * (j : Int) = ((3 + 29 * j : Nat) : Int) by omega]
    refine (hst ns (3 + 29 * j) m _ (by omega) (by omega) (by omega)).mono ?_
    rintro r S1 ⟨⟨g, hgw, rfl⟩, rfl⟩
    walk_at "w"
    refine (hg g _ hgw).mono ?_
    rintro r S1 rfl
    walk_at "w"
    exact ⟨j + 1, _, _, _, hjn, hr', rfl⟩
  · rintro t ⟨j, e1, e2, S, hj, hr, rfl⟩
    walk_at "w"
    rfl
end LW

set_option Elab.async false
set_option linter.all false
set_option maxRecDepth 100000
set_option maxHeartbeats 4000000
set_option autoImplicit false
namespace K41
open PySem L2 F2 LW
inductive Fx where
  | words_of_ | is_end_ | reached_ | rows_to_ | ending_ | leads_to_ | f_law_cell | f_law_mixed | f_law_states | f_law_words | f_law_rows | f_law_ending | f_law_good | law_
noncomputable def top (i : Nat) : Stmt := PySem.Challenge.pw_wireparley_k41_states_reached_and_ending.main.body.getD i (.Pass ⟨0, 0, 0, 0⟩)
abbrev nm : Fx → Str
  | .words_of_ => "words_of"
  | .is_end_ => "is_end"
  | .reached_ => "reached"
  | .rows_to_ => "rows_to"
  | .ending_ => "ending"
  | .leads_to_ => "leads_to"
  | .f_law_cell => "_law_cell"
  | .f_law_mixed => "_law_mixed"
  | .f_law_states => "_law_states"
  | .f_law_words => "_law_words"
  | .f_law_rows => "_law_rows"
  | .f_law_ending => "_law_ending"
  | .f_law_good => "_law_good"
  | .law_ => "law"
abbrev st : Fx → Stmt
  | .words_of_ => top 1
  | .is_end_ => top 2
  | .reached_ => top 4
  | .rows_to_ => top 5
  | .ending_ => top 6
  | .leads_to_ => top 7
  | .f_law_cell => top 9
  | .f_law_mixed => top 10
  | .f_law_states => top 11
  | .f_law_words => top 12
  | .f_law_rows => top 13
  | .f_law_ending => top 14
  | .f_law_good => top 15
  | .law_ => top 16
abbrev ps : Fx → List Str
  | .words_of_ => ["state"]
  | .is_end_ => ["state"]
  | .reached_ => ["g"]
  | .rows_to_ => ["g"]
  | .ending_ => ["g"]
  | .leads_to_ => ["state", "ends"]
  | .f_law_cell => ["script", "k"]
  | .f_law_mixed => ["cell", "k"]
  | .f_law_states => ["script", "start", "many"]
  | .f_law_words => ["state"]
  | .f_law_rows => ["grammar"]
  | .f_law_ending => ["grammar"]
  | .f_law_good => ["grammar"]
  | .law_ => ["script"]
abbrev ns : Fx → List Str
  | .words_of_ => ["state"]
  | .is_end_ => ["state"]
  | .reached_ => ["g"]
  | .rows_to_ => ["g", "rows", "layer", "behind", "state", "word"]
  | .ending_ => ["g", "ends", "step"]
  | .leads_to_ => ["state", "ends"]
  | .f_law_cell => ["script", "k"]
  | .f_law_mixed => ["cell", "k", "number"]
  | .f_law_states => ["script", "start", "many", "grammar", "k", "cell", "kind", "words", "j"]
  | .f_law_words => ["state"]
  | .f_law_rows => ["grammar", "found", "last", "rows", "here", "row", "name", "shape", "then"]
  | .f_law_ending => ["grammar", "found", "k", "here", "name", "shape", "then"]
  | .f_law_good => ["grammar", "handed", "rows", "due", "told", "state"]
  | .law_ => ["script", "k", "many"]
noncomputable def body (Φ : Fx → Fn) : Fx → Fn
  | .words_of_ => fnOf 1 1 (m_words_of (Φ .is_end_))
  | .is_end_ => fnOf 1 1 (m_is_end)
  | .reached_ => fnOf 1 1 (m_reached_v2 (Φ .rows_to_))
  | .rows_to_ => fnOf 1 6 (m_rows_to_v2 (Φ .words_of_))
  | .ending_ => fnOf 1 3 (m_ending (Φ .is_end_) (Φ .leads_to_))
  | .leads_to_ => fnOf 2 2 (m_leads_to (Φ .words_of_))
  | .f_law_cell => fnOf 2 2 (m_f_law_cell_v2)
  | .f_law_mixed => fnOf 2 3 (m_f_law_mixed)
  | .f_law_states => fnOf 3 9 (m_f_law_states_v2 (Φ .f_law_mixed) (Φ .f_law_cell))
  | .f_law_words => fnOf 1 1 (m_f_law_words)
  | .f_law_rows => fnOf 1 9 (m_f_law_rows (Φ .f_law_words))
  | .f_law_ending => fnOf 1 7 (m_f_law_ending (Φ .f_law_words))
  | .f_law_good => fnOf 1 6 (m_f_law_good_v2 (Φ .rows_to_) (Φ .ending_) (Φ .reached_) (Φ .f_law_ending) (Φ .f_law_rows))
  | .law_ => fnOf 1 3 (m_law_K42 (Φ .f_law_states) (Φ .f_law_good) (Φ .f_law_cell))
noncomputable def run : Nat → Fx → Fn
  | 0 => fun _ _ _ => none
  | n + 1 => body (run n)
structure Md (K : PySem.W.Frag) (mg : Str → Option Value) (A : Fx → Addr) (fd : Fx → FuncData) : Prop where
  fn : ∀ x, Fun K (nm x) (nm x) (st x) (A x) (fd x)
  mgs : ∀ x, mg (nm x) = some (.ref (A x))
  bd : ∀ x, Binds K (fd x) (ps x) []
  z_any : mg "any" = none
  z_len : mg "len" = none
  z_list : mg "list" = none
  z_range : mg "range" = none
  z_sorted : mg "sorted" = none
abbrev fr : Fx → Bool
  | .reached_ => true
  | .ending_ => true
  | _ => false
section
variable {P : Program} {w : World} {K : PySem.W.Frag} {mg : Str → Option Value} {base : Heap} {A : Fx → Addr} {fd : Fx → FuncData} {n : Nat}
theorem sc_words_of_ : FnScope (ns .words_of_) (ps .words_of_) (defScope (st .words_of_)) := ⟨rfl, rfl, rfl, by decide +kernel, rfl, by decide +kernel, by decide +kernel⟩
theorem ok_words_of_ (M : Md K mg A fd) (ih : ∀ x, FnOk P w K mg base CX0 n (A x) (fd x) (ps x) (spB (fr x) K (run n x))) : FnOk P w K mg base CX0 (n + 1) (A .words_of_) (fd .words_of_) (ps .words_of_) (spF K (run (n + 1) .words_of_)) := by
  refine run_ok (g := fnOf 1 1 (m_words_of (run n .is_end_))) rfl (fn_ok2 rfl rfl (M.fn .words_of_) sc_words_of_ (fun cdv A' outer s H E hr => ?_))
  refine @fss_one _ _ _ _ ?_
  refine @fs_ret _ _ _ _ ?_
  refine fe_ifExp ?_ ?_ ?_
  refine @ft_val _ _ _ ?_ (by intro _; rfl)
  refine @fe_callP _ _ _ _ _ _ _ _ _ _ _ _ (ih .is_end_) hr rfl (M.mgs .is_end_) (Fun.kp (M.fn .is_end_)) (M.bd .is_end_) ?_ (by decide) (by rfl) (by rfl)
  refine @fa_consP _ _ _ _ _ ?_ fa_nil rfl
  exact (fe_var 0)
  exact (fe_tup fa_nil)
  refine @fe_ix _ _ _ _ _ _ _ _ ix_seq sem_ix ?_ fe_int (fun _ _ => rfl)
  exact (fe_var 0)
theorem sc_is_end_ : FnScope (ns .is_end_) (ps .is_end_) (defScope (st .is_end_)) := ⟨rfl, rfl, rfl, by decide +kernel, rfl, by decide +kernel, by decide +kernel⟩
theorem ok_is_end_ (M : Md K mg A fd) (ih : ∀ x, FnOk P w K mg base CX0 n (A x) (fd x) (ps x) (spB (fr x) K (run n x))) : FnOk P w K mg base CX0 (n + 1) (A .is_end_) (fd .is_end_) (ps .is_end_) (spF K (run (n + 1) .is_end_)) := by
  refine run_ok (g := fnOf 1 1 (m_is_end)) rfl (fn_ok2 rfl rfl (M.fn .is_end_) sc_is_end_ (fun cdv A' outer s H E hr => ?_))
  refine @fss_one _ _ _ _ ?_
  refine @fs_ret _ _ _ _ ?_
  refine @fe_cmp _ _ _ _ _ _ _ _ _ (op_eqD hr.units) (sem_eqS (g := id)) ?_ fe_str (nomark _)
  refine @fe_ix _ _ _ _ _ _ _ _ ix_seq sem_ix ?_ fe_int (fun _ _ => rfl)
  exact (fe_var 0)
theorem sc_reached_ : FnScope (ns .reached_) (ps .reached_) (defScope (st .reached_)) := ⟨rfl, rfl, rfl, by decide +kernel, rfl, by decide +kernel, by decide +kernel⟩
theorem ok_reached_ (M : Md K mg A fd) (ih : ∀ x, FnOk P w K mg base CX0 n (A x) (fd x) (ps x) (spB (fr x) K (run n x))) : FnOk P w K mg base CX0 (n + 1) (A .reached_) (fd .reached_) (ps .reached_) (spFF K (run (n + 1) .reached_)) := by
  refine runF_ok (g := fnOf 1 1 (m_reached_v2 (run n .rows_to_))) rfl (fnF_ok2 rfl rfl (M.fn .reached_) sc_reached_ (fun cdv A' outer s H E hr => ?_))
  refine @fss_one _ _ _ _ ?_
  refine fs_retF ?_
  refine @ff_BP _ _ _ _ _ _ _ _ _ _ (call_sortK rfl) sem_sortK rfl M.z_sorted bt_sorted ?_ (by decide) (by decide) (by rfl) (by rfl)
  refine @fa_consP _ _ _ _ _ ?_ fa_nil rfl
  refine @fe_callP _ _ _ _ _ _ _ _ _ _ _ _ (ih .rows_to_) hr rfl (M.mgs .rows_to_) (Fun.kp (M.fn .rows_to_)) (M.bd .rows_to_) ?_ (by decide) (by rfl) (by rfl)
  refine @fa_consP _ _ _ _ _ ?_ fa_nil rfl
  exact (fe_var 0)
theorem sc_rows_to_ : FnScope (ns .rows_to_) (ps .rows_to_) (defScope (st .rows_to_)) := ⟨rfl, rfl, rfl, by decide +kernel, rfl, by decide +kernel, by decide +kernel⟩
theorem ok_rows_to_ (M : Md K mg A fd) (ih : ∀ x, FnOk P w K mg base CX0 n (A x) (fd x) (ps x) (spB (fr x) K (run n x))) : FnOk P w K mg base CX0 (n + 1) (A .rows_to_) (fd .rows_to_) (ps .rows_to_) (spF K (run (n + 1) .rows_to_)) := by
  refine run_ok (g := fnOf 1 6 (m_rows_to_v2 (run n .words_of_))) rfl (fn_ok2 rfl rfl (M.fn .rows_to_) sc_rows_to_ (fun cdv A' outer s H E hr => ?_))
  refine @fss_cons _ _ _ _ _ _ ?_ ?_
  refine @fs_set _ _ _ _ 1 _ _ _ sc_rows_to_.nd rfl (.inl rfl) ?_ (by rfl) (by first | exact .inl rfl | exact .inr rfl | assumption)
  refine fe_dispI ?_
  refine fpi_cons ?_ fpi_nil
  refine @fe_obj _ _ _ ?_
  exact (ff_lst fa_nil)
  refine @fss_cons _ _ _ _ _ _ ?_ ?_
  refine @fs_set _ _ _ _ 2 _ _ _ sc_rows_to_.nd rfl (.inl rfl) ?_ (by rfl) (by first | exact .inl rfl | exact .inr rfl | assumption)
  refine @fe_pure _ _ _ ?_
  refine @ff_lst _ _ _ _ ?_
  exact (@fa_consP _ _ _ _ _ fe_int fa_nil rfl)
  refine @fss_cons _ _ _ _ _ _ ?_ ?_
  refine fs_while PassesOwn.never ?_ ?_
  refine @ft_cmp _ _ _ _ _ _ _ _ _ op_gtA sem_gtA ?_ fe_int (nomark _)
  refine @fe_BP _ _ _ _ _ _ _ _ _ _ call_len sem_len rfl M.z_len bt_len ?_ (by decide) (by decide) (by rfl) (by rfl)
  refine @fa_consP _ _ _ _ _ ?_ fa_nil rfl
  exact (fe_var 2)
  refine @fss_cons _ _ _ _ _ _ ?_ ?_
  refine @fs_own _ _ _ _ 3 _ _ _ sc_rows_to_.nd rfl (.inl rfl) ?_ (by rfl) (by first | exact .inl rfl | exact .inr rfl | assumption)
  exact (ff_lst fa_nil)
  refine @fss_cons _ _ _ _ _ _ ?_ ?_
  refine @fs_for _ _ _ _ _ _ _ _ _ PassesOwn.never rfl ?_ ?_ ?_ (by intro _; rfl)
  refine @fi_any _ _ _ _ ?_
  exact (fe_var 2)
  exact (fg_name sc_rows_to_.nd rfl (.inl rfl))
  refine @fss_one _ _ _ _ ?_
  refine @fs_for _ _ _ _ _ _ _ _ _ PassesOwn.never rfl ?_ ?_ ?_ (by intro _; rfl)
  refine @fi_any _ _ _ _ ?_
  refine @fe_callP _ _ _ _ _ _ _ _ _ _ _ _ (ih .words_of_) hr rfl (M.mgs .words_of_) (Fun.kp (M.fn .words_of_)) (M.bd .words_of_) ?_ (by decide) (by rfl) (by rfl)
  refine @fa_consP _ _ _ _ _ ?_ fa_nil rfl
  refine @fe_ix _ _ _ _ _ _ _ _ ix_seq sem_ix ?_ ?_ (fun _ _ => rfl)
  exact (fe_var 0)
  exact (fe_var 4)
  exact (fg_name sc_rows_to_.nd rfl (.inl rfl))
  refine @fss_one _ _ _ _ ?_
  refine @fs_if _ _ _ _ _ _ _ _ _ ?_ ?_ fss_nil
  refine @ft_cmp _ _ _ _ _ _ _ _ _ (op_notinK hr.units) sem_inK ?_ ?_ (by with_unfolding_all rfl)
  refine @fe_ix _ _ _ _ _ _ _ _ ix_seq sem_ix ?_ fe_int (fun _ _ => rfl)
  exact (fe_var 5)
  exact (fe_var 1)
  refine @fss_cons _ _ _ _ _ _ ?_ ?_
  refine fs_asg ?_ ?_
  refine @fe_obj _ _ _ ?_
  refine @ff_op _ _ _ _ _ _ _ _ _ op_cat sem_catO ?_ ?_
  refine @fe_ix _ _ _ _ _ _ _ _ ix_dkI sem_dgetI ?_ ?_ (fun _ _ => rfl)
  exact (fe_var 1)
  exact (fe_var 4)
  refine @fe_pure _ _ _ ?_
  refine @ff_lst _ _ _ _ ?_
  refine @fa_consP _ _ _ _ _ ?_ fa_nil rfl
  refine @fe_ix _ _ _ _ _ _ _ _ ix_seq sem_ix ?_ fe_int (fun _ _ => rfl)
  exact (fe_var 5)
  refine fg_subKeyI ?_ ?_
  exact (fe_var 1)
  refine @fe_ix _ _ _ _ _ _ _ _ ix_seq sem_ix ?_ fe_int (fun _ _ => rfl)
  exact (fe_var 5)
  refine @fss_one _ _ _ _ ?_
  refine fs_appOwnP 3 ?_
  refine @fa_consP _ _ _ _ _ ?_ fa_nil rfl
  refine @fe_ix _ _ _ _ _ _ _ _ ix_seq sem_ix ?_ fe_int (fun _ _ => rfl)
  exact (fe_var 5)
  refine @fss_one _ _ _ _ ?_
  refine @fs_set _ _ _ _ 2 _ _ _ sc_rows_to_.nd rfl (.inl rfl) ?_ (by rfl) (by first | exact .inl rfl | exact .inr rfl | assumption)
  exact (fe_var 3)
  refine @fss_one _ _ _ _ ?_
  refine @fs_ret _ _ _ _ ?_
  exact (fe_var 1)
theorem sc_ending_ : FnScope (ns .ending_) (ps .ending_) (defScope (st .ending_)) := ⟨rfl, rfl, rfl, by decide +kernel, rfl, by decide +kernel, by decide +kernel⟩
theorem ok_ending_ (M : Md K mg A fd) (ih : ∀ x, FnOk P w K mg base CX0 n (A x) (fd x) (ps x) (spB (fr x) K (run n x))) : FnOk P w K mg base CX0 (n + 1) (A .ending_) (fd .ending_) (ps .ending_) (spFF K (run (n + 1) .ending_)) := by
  refine runF_ok (g := fnOf 1 3 (m_ending (run n .is_end_) (run n .leads_to_))) rfl (fnF_ok2 rfl rfl (M.fn .ending_) sc_ending_ (fun cdv A' outer s H E hr => ?_))
  refine @fss_cons _ _ _ _ _ _ ?_ ?_
  refine @fs_set _ _ _ _ 1 _ _ _ sc_ending_.nd rfl (.inr rfl) ?_ (by rfl) (by first | exact .inl rfl | exact .inr rfl | assumption)
  refine @fe_pure _ _ _ ?_
  refine ff_comp (cmp_mk ["state"] [] rfl rfl rfl rfl rfl) rfl ?_ ?_ ?_ ?_
  refine @fi_any _ _ _ _ ?_
  exact (fe_var 0)
  intro _ _ _ _ _
  exact (fg_name (by show List.Nodup [("state" : Str)] ; decide +kernel) rfl (.inl rfl))
  intro _ _ _ _ _
  exact fif_nil
  intro _ _ _ _ _
  refine @fe_callP _ _ _ _ _ _ _ _ _ _ _ _ (ih .is_end_) hr rfl (M.mgs .is_end_) (Fun.kp (M.fn .is_end_)) (M.bd .is_end_) ?_ (by decide) (by rfl) (by rfl)
  refine @fa_consP _ _ _ _ _ ?_ fa_nil rfl
  exact (fe_var 0)
  refine @fss_cons _ _ _ _ _ _ ?_ ?_
  refine @fs_for _ _ _ _ _ _ _ _ _ PassesOwn.never rfl ?_ ?_ ?_ (by intro _; rfl)
  refine fi_range1P rfl M.z_range ?_
  refine @fa_consP _ _ _ _ _ ?_ fa_nil rfl
  refine @fe_BP _ _ _ _ _ _ _ _ _ _ call_len sem_len rfl M.z_len bt_len ?_ (by decide) (by decide) (by rfl) (by rfl)
  refine @fa_consP _ _ _ _ _ ?_ fa_nil rfl
  exact (fe_var 0)
  exact (fg_name sc_ending_.nd rfl (.inl rfl))
  refine @fss_one _ _ _ _ ?_
  refine @fs_set _ _ _ _ 1 _ _ _ sc_ending_.nd rfl (.inr rfl) ?_ (by rfl) (by first | exact .inl rfl | exact .inr rfl | assumption)
  refine @fe_pure _ _ _ ?_
  refine ff_comp (cmp_mk ["state"] [(1 , "ends")] rfl rfl rfl rfl rfl) rfl ?_ ?_ ?_ ?_
  refine @fi_any _ _ _ _ ?_
  exact (fe_var 0)
  intro _ _ _ _ _
  exact (fg_name (by show List.Nodup [("state" : Str) , ("ends" : Str)] ; decide +kernel) rfl (.inl rfl))
  intro _ _ _ _ _
  exact fif_nil
  intro _ _ _ _ _
  refine @fe_or _ _ _ _ _ _ _ ?_ ?_
  refine @fe_callP _ _ _ _ _ _ _ _ _ _ _ _ (ih .is_end_) hr rfl (M.mgs .is_end_) (Fun.kp (M.fn .is_end_)) (M.bd .is_end_) ?_ (by decide) (by rfl) (by rfl)
  refine @fa_consP _ _ _ _ _ ?_ fa_nil rfl
  exact (fe_var 0)
  refine @fe_one _ _ _ _ _ ?_
  refine @fe_callP _ _ _ _ _ _ _ _ _ _ _ _ (ih .leads_to_) hr rfl (M.mgs .leads_to_) (Fun.kp (M.fn .leads_to_)) (M.bd .leads_to_) ?_ (by decide) (by rfl) (by rfl)
  refine @fa_consP _ _ _ _ _ ?_ ?_ rfl
  exact (fe_var 0)
  refine @fa_consP _ _ _ _ _ ?_ fa_nil rfl
  exact (fe_var 1)
  refine @fss_one _ _ _ _ ?_
  refine fs_retF ?_
  refine ff_comp (cmp_mk ["number"] [(1 , "ends")] rfl rfl rfl rfl rfl) rfl ?_ ?_ ?_ ?_
  refine fi_range1P rfl M.z_range ?_
  refine @fa_consP _ _ _ _ _ ?_ fa_nil rfl
  refine @fe_BP _ _ _ _ _ _ _ _ _ _ call_len sem_len rfl M.z_len bt_len ?_ (by decide) (by decide) (by rfl) (by rfl)
  refine @fa_consP _ _ _ _ _ ?_ fa_nil rfl
  exact (fe_var 0)
  intro _ _ _ _ _
  exact (fg_name (by show List.Nodup [("number" : Str) , ("ends" : Str)] ; decide +kernel) rfl (.inl rfl))
  intro _ _ _ _ _
  refine fif_one ?_
  refine @ft_val _ _ _ ?_ (by intro _; rfl)
  refine @fe_ix _ _ _ _ _ _ _ _ ix_seq sem_ix ?_ ?_ (fun _ _ => rfl)
  exact (fe_var 1)
  exact (fe_var 0)
  intro _ _ _ _ _
  exact (fe_var 0)
theorem sc_leads_to_ : FnScope (ns .leads_to_) (ps .leads_to_) (defScope (st .leads_to_)) := ⟨rfl, rfl, rfl, by decide +kernel, rfl, by decide +kernel, by decide +kernel⟩
theorem ok_leads_to_ (M : Md K mg A fd) (ih : ∀ x, FnOk P w K mg base CX0 n (A x) (fd x) (ps x) (spB (fr x) K (run n x))) : FnOk P w K mg base CX0 (n + 1) (A .leads_to_) (fd .leads_to_) (ps .leads_to_) (spF K (run (n + 1) .leads_to_)) := by
  refine run_ok (g := fnOf 2 2 (m_leads_to (run n .words_of_))) rfl (fn_ok2 rfl rfl (M.fn .leads_to_) sc_leads_to_ (fun cdv A' outer s H E hr => ?_))
  refine @fss_one _ _ _ _ ?_
  refine @fs_ret _ _ _ _ ?_
  refine @fe_BP _ _ _ _ _ _ _ _ _ _ (call_anyL rfl) sem_anyL rfl M.z_any bt_any ?_ (by decide) (by decide) (by rfl) (by rfl)
  refine @fa_consP _ _ _ _ _ ?_ fa_nil rfl
  refine @fe_pure _ _ _ ?_
  refine ff_comp (cmp_mk ["word"] [(1 , "ends")] rfl rfl rfl rfl rfl) rfl ?_ ?_ ?_ ?_
  refine @fi_any _ _ _ _ ?_
  refine @fe_callP _ _ _ _ _ _ _ _ _ _ _ _ (ih .words_of_) hr rfl (M.mgs .words_of_) (Fun.kp (M.fn .words_of_)) (M.bd .words_of_) ?_ (by decide) (by rfl) (by rfl)
  refine @fa_consP _ _ _ _ _ ?_ fa_nil rfl
  exact (fe_var 0)
  intro _ _ _ _ _
  exact (fg_name (by show List.Nodup [("word" : Str) , ("ends" : Str)] ; decide +kernel) rfl (.inl rfl))
  intro _ _ _ _ _
  exact fif_nil
  intro _ _ _ _ _
  refine @fe_ix _ _ _ _ _ _ _ _ ix_seq sem_ix ?_ ?_ (fun _ _ => rfl)
  exact (fe_var 1)
  refine @fe_ix _ _ _ _ _ _ _ _ ix_seq sem_ix ?_ fe_int (fun _ _ => rfl)
  exact (fe_var 0)
theorem sc_f_law_cell : FnScope (ns .f_law_cell) (ps .f_law_cell) (defScope (st .f_law_cell)) := ⟨rfl, rfl, rfl, by decide +kernel, rfl, by decide +kernel, by decide +kernel⟩
theorem ok_f_law_cell (M : Md K mg A fd) (ih : ∀ x, FnOk P w K mg base CX0 n (A x) (fd x) (ps x) (spB (fr x) K (run n x))) : FnOk P w K mg base CX0 (n + 1) (A .f_law_cell) (fd .f_law_cell) (ps .f_law_cell) (spF K (run (n + 1) .f_law_cell)) := by
  refine run_ok (g := fnOf 2 2 (m_f_law_cell_v2)) rfl (fn_ok2 rfl rfl (M.fn .f_law_cell) sc_f_law_cell (fun cdv A' outer s H E hr => ?_))
  refine @fss_cons _ _ _ _ _ _ ?_ ?_
  refine @fs_if _ _ _ _ _ _ _ _ _ ?_ ?_ fss_nil
  refine @ft_cmp _ _ _ _ _ _ _ _ _ op_ltA sem_ltA ?_ ?_ (nomark _)
  exact (fe_var 1)
  refine @fe_BP _ _ _ _ _ _ _ _ _ _ call_len sem_len rfl M.z_len bt_len ?_ (by decide) (by decide) (by rfl) (by rfl)
  refine @fa_consP _ _ _ _ _ ?_ fa_nil rfl
  exact (fe_var 0)
  refine @fss_one _ _ _ _ ?_
  refine @fs_ret _ _ _ _ ?_
  refine @fe_ix _ _ _ _ _ _ _ _ ix_seq sem_ix ?_ ?_ (fun _ _ => rfl)
  exact (fe_var 0)
  exact (fe_var 1)
  refine @fss_one _ _ _ _ ?_
  refine @fs_ret _ _ _ _ ?_
  refine @fe_op _ _ _ _ _ _ _ _ _ op_add5 sem_add5 ?_ fe_int
  refine @fe_op _ _ _ _ _ _ _ _ _ op_add5 sem_add5 ?_ ?_
  refine @fe_op _ _ _ _ _ _ _ _ _ op_mul4 sem_mul4 ?_ ?_
  refine @fe_op _ _ _ _ _ _ _ _ _ op_mul4 sem_mul4 fe_int ?_
  exact (fe_var 1)
  exact (fe_var 1)
  refine @fe_op _ _ _ _ _ _ _ _ _ op_mul4 sem_mul4 fe_int ?_
  exact (fe_var 1)
theorem sc_f_law_mixed : FnScope (ns .f_law_mixed) (ps .f_law_mixed) (defScope (st .f_law_mixed)) := ⟨rfl, rfl, rfl, by decide +kernel, rfl, by decide +kernel, by decide +kernel⟩
theorem ok_f_law_mixed (M : Md K mg A fd) (ih : ∀ x, FnOk P w K mg base CX0 n (A x) (fd x) (ps x) (spB (fr x) K (run n x))) : FnOk P w K mg base CX0 (n + 1) (A .f_law_mixed) (fd .f_law_mixed) (ps .f_law_mixed) (spF K (run (n + 1) .f_law_mixed)) := by
  refine run_ok (g := fnOf 2 3 (m_f_law_mixed)) rfl (fn_ok2 rfl rfl (M.fn .f_law_mixed) sc_f_law_mixed (fun cdv A' outer s H E hr => ?_))
  refine @fss_cons _ _ _ _ _ _ ?_ ?_
  refine @fs_set _ _ _ _ 2 _ _ _ sc_f_law_mixed.nd rfl (.inl rfl) ?_ (by rfl) (by first | exact .inl rfl | exact .inr rfl | assumption)
  refine @fe_op _ _ _ _ _ _ _ _ _ op_mod sem_mod ?_ fe_int
  refine @fe_op _ _ _ _ _ _ _ _ _ op_add5 sem_add5 ?_ fe_int
  refine @fe_op _ _ _ _ _ _ _ _ _ op_add5 sem_add5 ?_ ?_
  refine @fe_op _ _ _ _ _ _ _ _ _ op_add5 sem_add5 ?_ ?_
  refine @fe_op _ _ _ _ _ _ _ _ _ op_mul4 sem_mul4 ?_ fe_int
  exact (fe_var 0)
  refine @fe_op _ _ _ _ _ _ _ _ _ op_mul4 sem_mul4 ?_ ?_
  refine @fe_op _ _ _ _ _ _ _ _ _ op_mul4 sem_mul4 fe_int ?_
  exact (fe_var 1)
  exact (fe_var 1)
  refine @fe_op _ _ _ _ _ _ _ _ _ op_mul4 sem_mul4 fe_int ?_
  exact (fe_var 1)
  refine @fss_cons _ _ _ _ _ _ ?_ ?_
  refine @fs_set _ _ _ _ 2 _ _ _ sc_f_law_mixed.nd rfl (.inl rfl) ?_ (by rfl) (by first | exact .inl rfl | exact .inr rfl | assumption)
  refine @fe_op _ _ _ _ _ _ _ _ _ op_mod sem_mod ?_ fe_int
  refine @fe_op _ _ _ _ _ _ _ _ _ op_mul4 sem_mul4 ?_ ?_
  exact (fe_var 2)
  exact (fe_var 2)
  refine @fss_one _ _ _ _ ?_
  refine @fs_ret _ _ _ _ ?_
  refine @fe_op _ _ _ _ _ _ _ _ _ op_add5 sem_add5 ?_ ?_
  refine @fe_op _ _ _ _ _ _ _ _ _ op_add5 sem_add5 ?_ ?_
  refine @fe_op _ _ _ _ _ _ _ _ _ op_mul4 sem_mul4 ?_ ?_
  exact (fe_var 2)
  exact (fe_var 2)
  refine @fe_op _ _ _ _ _ _ _ _ _ op_mul4 sem_mul4 ?_ fe_int
  exact (fe_var 2)
  exact (fe_var 0)
theorem sc_f_law_states : FnScope (ns .f_law_states) (ps .f_law_states) (defScope (st .f_law_states)) := ⟨rfl, rfl, rfl, by decide +kernel, rfl, by decide +kernel, by decide +kernel⟩
theorem ok_f_law_states (M : Md K mg A fd) (ih : ∀ x, FnOk P w K mg base CX0 n (A x) (fd x) (ps x) (spB (fr x) K (run n x))) : FnOk P w K mg base CX0 (n + 1) (A .f_law_states) (fd .f_law_states) (ps .f_law_states) (spF K (run (n + 1) .f_law_states)) := by
  refine run_ok (g := fnOf 3 9 (m_f_law_states_v2 (run n .f_law_mixed) (run n .f_law_cell))) rfl (fn_ok2 rfl rfl (M.fn .f_law_states) sc_f_law_states (fun cdv A' outer s H E hr => ?_))
  refine @fss_cons _ _ _ _ _ _ ?_ ?_
  refine @fs_own _ _ _ _ 3 _ _ _ sc_f_law_states.nd rfl (.inl rfl) ?_ (by rfl) (by first | exact .inl rfl | exact .inr rfl | assumption)
  exact (ff_lst fa_nil)
  refine @fss_cons _ _ _ _ _ _ ?_ ?_
  refine @fs_for _ _ _ _ _ _ _ _ _ PassesOwn.never rfl ?_ ?_ ?_ (by intro _; rfl)
  refine fi_range1P rfl M.z_range ?_
  refine @fa_consP _ _ _ _ _ ?_ fa_nil rfl
  exact (fe_var 2)
  exact (fg_name sc_f_law_states.nd rfl (.inl rfl))
  refine @fss_cons _ _ _ _ _ _ ?_ ?_
  refine @fs_set _ _ _ _ 5 _ _ _ sc_f_law_states.nd rfl (.inl rfl) ?_ (by rfl) (by first | exact .inl rfl | exact .inr rfl | assumption)
  refine @fe_callP _ _ _ _ _ _ _ _ _ _ _ _ (ih .f_law_cell) hr rfl (M.mgs .f_law_cell) (Fun.kp (M.fn .f_law_cell)) (M.bd .f_law_cell) ?_ (by decide) (by rfl) (by rfl)
  refine @fa_consP _ _ _ _ _ ?_ ?_ rfl
  exact (fe_var 0)
  refine @fa_consP _ _ _ _ _ ?_ fa_nil rfl
  refine @fe_op _ _ _ _ _ _ _ _ _ op_add5 sem_add5 ?_ ?_
  exact (fe_var 1)
  exact (fe_var 4)
  refine @fss_cons _ _ _ _ _ _ ?_ ?_
  refine @fs_if _ _ _ _ _ _ _ _ _ ?_ ?_ fss_nil
  refine @ft_cmp _ _ _ _ _ _ _ _ _ op_gtA sem_gtA ?_ fe_int (nomark _)
  exact (fe_var 1)
  refine @fss_one _ _ _ _ ?_
  refine @fs_set _ _ _ _ 5 _ _ _ sc_f_law_states.nd rfl (.inl rfl) ?_ (by rfl) (by first | exact .inl rfl | exact .inr rfl | assumption)
  refine @fe_callP _ _ _ _ _ _ _ _ _ _ _ _ (ih .f_law_mixed) hr rfl (M.mgs .f_law_mixed) (Fun.kp (M.fn .f_law_mixed)) (M.bd .f_law_mixed) ?_ (by decide) (by rfl) (by rfl)
  refine @fa_consP _ _ _ _ _ ?_ ?_ rfl
  exact (fe_var 5)
  refine @fa_consP _ _ _ _ _ ?_ fa_nil rfl
  exact (fe_var 4)
  refine @fss_cons _ _ _ _ _ _ ?_ ?_
  refine @fs_set _ _ _ _ 6 _ _ _ sc_f_law_states.nd rfl (.inl rfl) ?_ (by rfl) (by first | exact .inl rfl | exact .inr rfl | assumption)
  refine @fe_op _ _ _ _ _ _ _ _ _ op_mod sem_mod ?_ fe_int
  exact (fe_var 5)
  refine @fss_cons _ _ _ _ _ _ ?_ ?_
  refine @fs_set _ _ _ _ 5 _ _ _ sc_f_law_states.nd rfl (.inl rfl) ?_ (by rfl) (by first | exact .inl rfl | exact .inr rfl | assumption)
  refine @fe_op _ _ _ _ _ _ _ _ _ op_fdiv sem_fdiv ?_ fe_int
  exact (fe_var 5)
  refine @fss_cons _ _ _ _ _ _ ?_ ?_
  refine @fs_if _ _ _ _ _ _ _ _ _ ?_ ?_ fss_nil
  refine @ft_cmp _ _ _ _ _ _ _ _ _ (op_eqD hr.units) (sem_eqS (g := id)) ?_ fe_int (nomark _)
  exact (fe_var 6)
  refine @fss_cons _ _ _ _ _ _ ?_ ?_
  refine fs_appOwnP 3 ?_
  refine @fa_consP _ _ _ _ _ ?_ fa_nil rfl
  refine @fe_tup _ _ _ _ _ ?_
  exact (@fa_consP _ _ _ _ _ fe_str fa_nil rfl)
  exact (fss_one fs_continue)
  refine @fss_cons _ _ _ _ _ _ ?_ ?_
  refine @fs_own _ _ _ _ 7 _ _ _ sc_f_law_states.nd rfl (.inl rfl) ?_ (by rfl) (by first | exact .inl rfl | exact .inr rfl | assumption)
  exact (ff_lst fa_nil)
  refine @fss_cons _ _ _ _ _ _ ?_ ?_
  refine @fs_for _ _ _ _ _ _ _ _ _ PassesOwn.never rfl ?_ ?_ ?_ (by intro _; rfl)
  refine fi_range1P rfl M.z_range ?_
  refine @fa_consP _ _ _ _ _ ?_ fa_nil rfl
  refine @fe_op _ _ _ _ _ _ _ _ _ op_add5 sem_add5 fe_int ?_
  refine @fe_op _ _ _ _ _ _ _ _ _ op_mod sem_mod ?_ fe_int
  exact (fe_var 5)
  exact (fg_name sc_f_law_states.nd rfl (.inl rfl))
  refine @fss_cons _ _ _ _ _ _ ?_ ?_
  refine @fs_set _ _ _ _ 5 _ _ _ sc_f_law_states.nd rfl (.inl rfl) ?_ (by rfl) (by first | exact .inl rfl | exact .inr rfl | assumption)
  refine @fe_op _ _ _ _ _ _ _ _ _ op_fdiv sem_fdiv ?_ fe_int
  exact (fe_var 5)
  refine @fss_cons _ _ _ _ _ _ ?_ ?_
  refine fs_appOwnP 7 ?_
  refine @fa_consP _ _ _ _ _ ?_ fa_nil rfl
  refine @fe_tup _ _ _ _ _ ?_
  refine @fa_consP _ _ _ _ _ ?_ ?_ rfl
  refine @fe_op _ _ _ _ _ _ _ _ _ op_mul4 sem_mul4 ?_ ?_
  refine @fe_ix _ _ _ _ _ _ _ _ ix_seq sem_ix fe_str ?_ (fun _ _ => rfl)
  refine @fe_op _ _ _ _ _ _ _ _ _ op_mod sem_mod ?_ fe_int
  refine @fe_op _ _ _ _ _ _ _ _ _ op_add5 sem_add5 ?_ ?_
  exact (fe_var 8)
  exact (fe_var 6)
  refine @fe_op _ _ _ _ _ _ _ _ _ op_add5 sem_add5 fe_int ?_
  refine @fe_op _ _ _ _ _ _ _ _ _ op_mod sem_mod ?_ fe_int
  exact (fe_var 4)
  refine @fa_consP _ _ _ _ _ ?_ ?_ rfl
  refine @fe_tup _ _ _ _ _ ?_
  exact (@fa_consP _ _ _ _ _ fe_str fa_nil rfl)
  refine @fa_consP _ _ _ _ _ ?_ fa_nil rfl
  refine @fe_op _ _ _ _ _ _ _ _ _ op_mod sem_mod ?_ ?_
  exact (fe_var 5)
  exact (fe_var 2)
  refine @fss_one _ _ _ _ ?_
  refine @fs_set _ _ _ _ 5 _ _ _ sc_f_law_states.nd rfl (.inl rfl) ?_ (by rfl) (by first | exact .inl rfl | exact .inr rfl | assumption)
  refine @fe_op _ _ _ _ _ _ _ _ _ op_fdiv sem_fdiv ?_ ?_
  exact (fe_var 5)
  exact (fe_var 2)
  refine @fss_one _ _ _ _ ?_
  refine fs_appOwnP 3 ?_
  refine @fa_consP _ _ _ _ _ ?_ fa_nil rfl
  refine @fe_tup _ _ _ _ _ ?_
  refine @fa_consP _ _ _ _ _ ?_ ?_ rfl
  refine @fe_ix _ _ _ _ _ _ _ _ ix_seq sem_ix ?_ ?_ (fun _ _ => rfl)
  refine @fe_pure _ _ _ ?_
  refine @ff_lst _ _ _ _ ?_
  refine @fa_consP _ _ _ _ _ fe_str ?_ rfl
  exact (@fa_consP _ _ _ _ _ fe_str fa_nil rfl)
  refine @fe_op _ _ _ _ _ _ _ _ _ op_mod sem_mod ?_ fe_int
  exact (fe_var 6)
  refine @fa_consP _ _ _ _ _ ?_ fa_nil rfl
  exact (fe_var 7)
  refine @fss_one _ _ _ _ ?_
  refine @fs_ret _ _ _ _ ?_
  exact (fe_var 3)
theorem sc_f_law_words : FnScope (ns .f_law_words) (ps .f_law_words) (defScope (st .f_law_words)) := ⟨rfl, rfl, rfl, by decide +kernel, rfl, by decide +kernel, by decide +kernel⟩
theorem ok_f_law_words (M : Md K mg A fd) (ih : ∀ x, FnOk P w K mg base CX0 n (A x) (fd x) (ps x) (spB (fr x) K (run n x))) : FnOk P w K mg base CX0 (n + 1) (A .f_law_words) (fd .f_law_words) (ps .f_law_words) (spF K (run (n + 1) .f_law_words)) := by
  refine run_ok (g := fnOf 1 1 (m_f_law_words)) rfl (fn_ok2 rfl rfl (M.fn .f_law_words) sc_f_law_words (fun cdv A' outer s H E hr => ?_))
  refine @fss_cons _ _ _ _ _ _ ?_ ?_
  refine @fs_if _ _ _ _ _ _ _ _ _ ?_ ?_ fss_nil
  refine @ft_cmp _ _ _ _ _ _ _ _ _ (op_eqD hr.units) (sem_eqS (g := id)) ?_ fe_str (nomark _)
  refine @fe_ix _ _ _ _ _ _ _ _ ix_seq sem_ix ?_ fe_int (fun _ _ => rfl)
  exact (fe_var 0)
  refine @fss_one _ _ _ _ ?_
  refine @fs_ret _ _ _ _ ?_
  refine @fe_pure _ _ _ ?_
  exact (ff_lst fa_nil)
  refine @fss_one _ _ _ _ ?_
  refine @fs_ret _ _ _ _ ?_
  refine @fe_ix _ _ _ _ _ _ _ _ ix_seq sem_ix ?_ fe_int (fun _ _ => rfl)
  exact (fe_var 0)
theorem sc_f_law_rows : FnScope (ns .f_law_rows) (ps .f_law_rows) (defScope (st .f_law_rows)) := ⟨rfl, rfl, rfl, by decide +kernel, rfl, by decide +kernel, by decide +kernel⟩
theorem ok_f_law_rows (M : Md K mg A fd) (ih : ∀ x, FnOk P w K mg base CX0 n (A x) (fd x) (ps x) (spB (fr x) K (run n x))) : FnOk P w K mg base CX0 (n + 1) (A .f_law_rows) (fd .f_law_rows) (ps .f_law_rows) (spF K (run (n + 1) .f_law_rows)) := by
  refine run_ok (g := fnOf 1 9 (m_f_law_rows (run n .f_law_words))) rfl (fn_ok2 rfl rfl (M.fn .f_law_rows) sc_f_law_rows (fun cdv A' outer s H E hr => ?_))
  refine @fss_cons _ _ _ _ _ _ ?_ ?_
  refine @fs_set _ _ _ _ 1 _ _ _ sc_f_law_rows.nd rfl (.inl rfl) ?_ (by rfl) (by first | exact .inl rfl | exact .inr rfl | assumption)
  refine fe_dispI ?_
  refine fpi_cons ?_ fpi_nil
  refine @fe_pure _ _ _ ?_
  exact (ff_lst fa_nil)
  refine @fss_cons _ _ _ _ _ _ ?_ ?_
  refine @fs_set _ _ _ _ 2 _ _ _ sc_f_law_rows.nd rfl (.inl rfl) ?_ (by rfl) (by first | exact .inl rfl | exact .inr rfl | assumption)
  refine @fe_pure _ _ _ ?_
  refine @ff_lst _ _ _ _ ?_
  refine @fa_consP _ _ _ _ _ ?_ fa_nil rfl
  refine @fe_tup _ _ _ _ _ ?_
  refine @fa_consP _ _ _ _ _ fe_int ?_ rfl
  refine @fa_consP _ _ _ _ _ ?_ fa_nil rfl
  refine @fe_pure _ _ _ ?_
  exact (ff_lst fa_nil)
  refine @fss_cons _ _ _ _ _ _ ?_ ?_
  refine fs_while PassesOwn.never ?_ ?_
  refine @ft_cmp _ _ _ _ _ _ _ _ _ (op_neD hr.units) (sem_eqS (g := fun b => !b)) ?_ ?_ (nomark _)
  exact (fe_var 2)
  refine @fe_pure _ _ _ ?_
  exact (ff_lst fa_nil)
  refine @fss_cons _ _ _ _ _ _ ?_ ?_
  refine @fs_own _ _ _ _ 3 _ _ _ sc_f_law_rows.nd rfl (.inl rfl) ?_ (by rfl) (by first | exact .inl rfl | exact .inr rfl | assumption)
  exact (ff_lst fa_nil)
  refine @fss_cons _ _ _ _ _ _ ?_ ?_
  refine @fs_for _ _ _ _ _ _ _ _ _ PassesOwn.never rfl ?_ ?_ ?_ (by intro _; rfl)
  refine @fi_any _ _ _ _ ?_
  exact (fe_var 2)
  refine fg_un rfl ?_
  refine fgs_cons ?_ ?_
  exact (fg_name sc_f_law_rows.nd rfl (.inl rfl))
  refine fgs_cons ?_ fgs_nil
  exact (fg_name sc_f_law_rows.nd rfl (.inl rfl))
  refine @fss_one _ _ _ _ ?_
  refine @fs_for _ _ _ _ _ _ _ _ _ PassesOwn.never rfl ?_ ?_ ?_ (by intro _; rfl)
  refine @fi_any _ _ _ _ ?_
  refine @fe_callP _ _ _ _ _ _ _ _ _ _ _ _ (ih .f_law_words) hr rfl (M.mgs .f_law_words) (Fun.kp (M.fn .f_law_words)) (M.bd .f_law_words) ?_ (by decide) (by rfl) (by rfl)
  refine @fa_consP _ _ _ _ _ ?_ fa_nil rfl
  refine @fe_ix _ _ _ _ _ _ _ _ ix_seq sem_ix ?_ ?_ (fun _ _ => rfl)
  exact (fe_var 0)
  exact (fe_var 4)
  refine fg_un rfl ?_
  refine fgs_cons ?_ ?_
  exact (fg_name sc_f_law_rows.nd rfl (.inl rfl))
  refine fgs_cons ?_ ?_
  exact (fg_name sc_f_law_rows.nd rfl (.inl rfl))
  refine fgs_cons ?_ fgs_nil
  exact (fg_name sc_f_law_rows.nd rfl (.inl rfl))
  refine @fss_one _ _ _ _ ?_
  refine @fs_if _ _ _ _ _ _ _ _ _ ?_ ?_ fss_nil
  refine @ft_cmp _ _ _ _ _ _ _ _ _ (op_notinK hr.units) sem_inK ?_ ?_ (by with_unfolding_all rfl)
  exact (fe_var 8)
  exact (fe_var 1)
  refine @fss_cons _ _ _ _ _ _ ?_ ?_
  refine fs_asg ?_ ?_
  refine @fe_op _ _ _ _ _ _ _ _ _ op_add5 sem_add5 ?_ ?_
  exact (fe_var 5)
  refine @fe_pure _ _ _ ?_
  refine @ff_lst _ _ _ _ ?_
  refine @fa_consP _ _ _ _ _ ?_ fa_nil rfl
  exact (fe_var 6)
  refine fg_subKeyI ?_ ?_
  exact (fe_var 1)
  exact (fe_var 8)
  refine @fss_one _ _ _ _ ?_
  refine fs_appOwnP 3 ?_
  refine @fa_consP _ _ _ _ _ ?_ fa_nil rfl
  refine @fe_tup _ _ _ _ _ ?_
  refine @fa_consP _ _ _ _ _ ?_ ?_ rfl
  exact (fe_var 8)
  refine @fa_consP _ _ _ _ _ ?_ fa_nil rfl
  refine @fe_op _ _ _ _ _ _ _ _ _ op_add5 sem_add5 ?_ ?_
  exact (fe_var 5)
  refine @fe_pure _ _ _ ?_
  refine @ff_lst _ _ _ _ ?_
  refine @fa_consP _ _ _ _ _ ?_ fa_nil rfl
  exact (fe_var 6)
  refine @fss_one _ _ _ _ ?_
  refine @fs_set _ _ _ _ 2 _ _ _ sc_f_law_rows.nd rfl (.inl rfl) ?_ (by rfl) (by first | exact .inl rfl | exact .inr rfl | assumption)
  exact (fe_var 3)
  refine @fss_one _ _ _ _ ?_
  refine @fs_ret _ _ _ _ ?_
  exact (fe_var 1)
theorem sc_f_law_ending : FnScope (ns .f_law_ending) (ps .f_law_ending) (defScope (st .f_law_ending)) := ⟨rfl, rfl, rfl, by decide +kernel, rfl, by decide +kernel, by decide +kernel⟩
theorem ok_f_law_ending (M : Md K mg A fd) (ih : ∀ x, FnOk P w K mg base CX0 n (A x) (fd x) (ps x) (spB (fr x) K (run n x))) : FnOk P w K mg base CX0 (n + 1) (A .f_law_ending) (fd .f_law_ending) (ps .f_law_ending) (spF K (run (n + 1) .f_law_ending)) := by
  refine run_ok (g := fnOf 1 7 (m_f_law_ending (run n .f_law_words))) rfl (fn_ok2 rfl rfl (M.fn .f_law_ending) sc_f_law_ending (fun cdv A' outer s H E hr => ?_))
  refine @fss_cons _ _ _ _ _ _ ?_ ?_
  refine @fs_set _ _ _ _ 1 _ _ _ sc_f_law_ending.nd rfl (.inr rfl) ?_ (by rfl) (by first | exact .inl rfl | exact .inr rfl | assumption)
  refine @fe_obj _ _ _ ?_
  refine ff_comp (cmp_mk ["state"] [] rfl rfl rfl rfl rfl) rfl ?_ ?_ ?_ ?_
  refine @fi_any _ _ _ _ ?_
  exact (fe_var 0)
  intro _ _ _ _ _
  exact (fg_name (by show List.Nodup [("state" : Str)] ; decide +kernel) rfl (.inl rfl))
  intro _ _ _ _ _
  exact fif_nil
  intro _ _ _ _ _
  refine @fe_cmp _ _ _ _ _ _ _ _ _ (op_eqD hr.units) (sem_eqS (g := id)) ?_ fe_str (nomark _)
  refine @fe_ix _ _ _ _ _ _ _ _ ix_seq sem_ix ?_ fe_int (fun _ _ => rfl)
  exact (fe_var 0)
  refine @fss_cons _ _ _ _ _ _ ?_ ?_
  refine @fs_for _ _ _ _ _ _ _ _ _ PassesOwn.never rfl ?_ ?_ ?_ (by intro _; rfl)
  refine fi_range1P rfl M.z_range ?_
  refine @fa_consP _ _ _ _ _ ?_ fa_nil rfl
  refine @fe_BP _ _ _ _ _ _ _ _ _ _ call_len sem_len rfl M.z_len bt_len ?_ (by decide) (by decide) (by rfl) (by rfl)
  refine @fa_consP _ _ _ _ _ ?_ fa_nil rfl
  exact (fe_var 0)
  exact (fg_name sc_f_law_ending.nd rfl (.inl rfl))
  refine @fss_one _ _ _ _ ?_
  refine @fs_for _ _ _ _ _ _ _ _ _ PassesOwn.never rfl ?_ ?_ ?_ (by intro _; rfl)
  refine fi_range1P rfl M.z_range ?_
  refine @fa_consP _ _ _ _ _ ?_ fa_nil rfl
  refine @fe_BP _ _ _ _ _ _ _ _ _ _ call_len sem_len rfl M.z_len bt_len ?_ (by decide) (by decide) (by rfl) (by rfl)
  refine @fa_consP _ _ _ _ _ ?_ fa_nil rfl
  exact (fe_var 0)
  exact (fg_name sc_f_law_ending.nd rfl (.inl rfl))
  refine @fss_one _ _ _ _ ?_
  refine @fs_for _ _ _ _ _ _ _ _ _ PassesOwn.never rfl ?_ ?_ ?_ (by intro _; rfl)
  refine @fi_any _ _ _ _ ?_
  refine @fe_callP _ _ _ _ _ _ _ _ _ _ _ _ (ih .f_law_words) hr rfl (M.mgs .f_law_words) (Fun.kp (M.fn .f_law_words)) (M.bd .f_law_words) ?_ (by decide) (by rfl) (by rfl)
  refine @fa_consP _ _ _ _ _ ?_ fa_nil rfl
  refine @fe_ix _ _ _ _ _ _ _ _ ix_seq sem_ix ?_ ?_ (fun _ _ => rfl)
  exact (fe_var 0)
  exact (fe_var 3)
  refine fg_un rfl ?_
  refine fgs_cons ?_ ?_
  exact (fg_name sc_f_law_ending.nd rfl (.inl rfl))
  refine fgs_cons ?_ ?_
  exact (fg_name sc_f_law_ending.nd rfl (.inl rfl))
  refine fgs_cons ?_ fgs_nil
  exact (fg_name sc_f_law_ending.nd rfl (.inl rfl))
  refine @fss_one _ _ _ _ ?_
  refine fs_asg ?_ ?_
  refine @fe_or _ _ _ _ _ _ _ ?_ ?_
  refine @fe_ix _ _ _ _ _ _ _ _ ix_seq sem_ix ?_ ?_ (fun _ _ => rfl)
  exact (fe_var 1)
  exact (fe_var 3)
  refine @fe_one _ _ _ _ _ ?_
  refine @fe_ix _ _ _ _ _ _ _ _ ix_seq sem_ix ?_ ?_ (fun _ _ => rfl)
  exact (fe_var 1)
  exact (fe_var 6)
  refine fg_sub ?_ ?_
  exact (fe_var 1)
  exact (fe_var 3)
  refine @fss_one _ _ _ _ ?_
  refine @fs_ret _ _ _ _ ?_
  refine @fe_pure _ _ _ ?_
  refine ff_comp (cmp_mk ["k"] [(1 , "found")] rfl rfl rfl rfl rfl) rfl ?_ ?_ ?_ ?_
  refine fi_range1P rfl M.z_range ?_
  refine @fa_consP _ _ _ _ _ ?_ fa_nil rfl
  refine @fe_BP _ _ _ _ _ _ _ _ _ _ call_len sem_len rfl M.z_len bt_len ?_ (by decide) (by decide) (by rfl) (by rfl)
  refine @fa_consP _ _ _ _ _ ?_ fa_nil rfl
  exact (fe_var 0)
  intro _ _ _ _ _
  exact (fg_name (by show List.Nodup [("k" : Str) , ("found" : Str)] ; decide +kernel) rfl (.inl rfl))
  intro _ _ _ _ _
  refine fif_one ?_
  refine @ft_val _ _ _ ?_ (by intro _; rfl)
  refine @fe_ix _ _ _ _ _ _ _ _ ix_seq sem_ix ?_ ?_ (fun _ _ => rfl)
  exact (fe_var 1)
  exact (fe_var 0)
  intro _ _ _ _ _
  exact (fe_var 0)
theorem sc_f_law_good : FnScope (ns .f_law_good) (ps .f_law_good) (defScope (st .f_law_good)) := ⟨rfl, rfl, rfl, by decide +kernel, rfl, by decide +kernel, by decide +kernel⟩
theorem ok_f_law_good (M : Md K mg A fd) (ih : ∀ x, FnOk P w K mg base CX0 n (A x) (fd x) (ps x) (spB (fr x) K (run n x))) : FnOk P w K mg base CX0 (n + 1) (A .f_law_good) (fd .f_law_good) (ps .f_law_good) (spF K (run (n + 1) .f_law_good)) := by
  refine run_ok (g := fnOf 1 6 (m_f_law_good_v2 (run n .rows_to_) (run n .ending_) (run n .reached_) (run n .f_law_ending) (run n .f_law_rows))) rfl (fn_ok2 rfl rfl (M.fn .f_law_good) sc_f_law_good (fun cdv A' outer s H E hr => ?_))
  refine @fss_cons _ _ _ _ _ _ ?_ ?_
  refine @fs_set _ _ _ _ 1 _ _ _ sc_f_law_good.nd rfl (.inl rfl) ?_ (by rfl) (by first | exact .inl rfl | exact .inr rfl | assumption)
  refine @fe_pure _ _ _ ?_
  refine @ff_TP _ _ _ _ _ _ _ _ _ _ call_list_of sem_lst rfl M.z_list bt_list ?_ (by decide) (by decide) (by rfl) (by rfl)
  refine @fa_consP _ _ _ _ _ ?_ fa_nil rfl
  exact (fe_var 0)
  refine @fss_cons _ _ _ _ _ _ ?_ ?_
  refine @fs_set _ _ _ _ 2 _ _ _ sc_f_law_good.nd rfl (.inl rfl) ?_ (by rfl) (by first | exact .inl rfl | exact .inr rfl | assumption)
  refine @fe_callP _ _ _ _ _ _ _ _ _ _ _ _ (ih .f_law_rows) hr rfl (M.mgs .f_law_rows) (Fun.kp (M.fn .f_law_rows)) (M.bd .f_law_rows) ?_ (by decide) (by rfl) (by rfl)
  refine @fa_consP _ _ _ _ _ ?_ fa_nil rfl
  exact (fe_var 0)
  refine @fss_cons _ _ _ _ _ _ ?_ ?_
  refine @fs_set _ _ _ _ 3 _ _ _ sc_f_law_good.nd rfl (.inl rfl) ?_ (by rfl) (by first | exact .inl rfl | exact .inr rfl | assumption)
  refine @fe_pure _ _ _ ?_
  refine @ff_lst _ _ _ _ ?_
  refine @fa_consP _ _ _ _ _ ?_ ?_ rfl
  refine @fe_pure _ _ _ ?_
  refine @ff_BP _ _ _ _ _ _ _ _ _ _ (call_sortK rfl) sem_sortK rfl M.z_sorted bt_sorted ?_ (by decide) (by decide) (by rfl) (by rfl)
  refine @fa_consP _ _ _ _ _ ?_ fa_nil rfl
  exact (fe_var 2)
  refine @fa_consP _ _ _ _ _ ?_ ?_ rfl
  refine @fe_callP _ _ _ _ _ _ _ _ _ _ _ _ (ih .f_law_ending) hr rfl (M.mgs .f_law_ending) (Fun.kp (M.fn .f_law_ending)) (M.bd .f_law_ending) ?_ (by decide) (by rfl) (by rfl)
  refine @fa_consP _ _ _ _ _ ?_ fa_nil rfl
  exact (fe_var 0)
  refine @fa_consP _ _ _ _ _ ?_ fa_nil rfl
  exact (fe_var 2)
  refine @fss_cons _ _ _ _ _ _ ?_ ?_
  refine @fs_set _ _ _ _ 4 _ _ _ sc_f_law_good.nd rfl (.inl rfl) ?_ (by rfl) (by first | exact .inl rfl | exact .inr rfl | assumption)
  refine @fe_pure _ _ _ ?_
  refine @ff_lst _ _ _ _ ?_
  refine @fa_consP _ _ _ _ _ ?_ ?_ rfl
  refine @fe_obj _ _ _ ?_
  refine ff_callP (ih .reached_) hr rfl (M.mgs .reached_) (Fun.kp (M.fn .reached_)) (M.bd .reached_) ?_
  refine @fa_consP _ _ _ _ _ ?_ fa_nil rfl
  exact (fe_var 1)
  refine @fa_consP _ _ _ _ _ ?_ ?_ rfl
  refine @fe_obj _ _ _ ?_
  refine ff_callP (ih .ending_) hr rfl (M.mgs .ending_) (Fun.kp (M.fn .ending_)) (M.bd .ending_) ?_
  refine @fa_consP _ _ _ _ _ ?_ fa_nil rfl
  exact (fe_var 1)
  refine @fa_consP _ _ _ _ _ ?_ fa_nil rfl
  refine @fe_callP _ _ _ _ _ _ _ _ _ _ _ _ (ih .rows_to_) hr rfl (M.mgs .rows_to_) (Fun.kp (M.fn .rows_to_)) (M.bd .rows_to_) ?_ (by decide) (by rfl) (by rfl)
  refine @fa_consP _ _ _ _ _ ?_ fa_nil rfl
  exact (fe_var 1)
  refine @fss_cons _ _ _ _ _ _ ?_ ?_
  refine @fs_if _ _ _ _ _ _ _ _ _ ?_ ?_ fss_nil
  refine @ft_pw _ _ _ ?_
  refine @fw_or _ _ _ _ _ _ _ ?_ ?_
  refine @ft_cmp _ _ _ _ _ _ _ _ _ (op_neK hr.units) (sem_eqK (b := false)) ?_ ?_ (nomark _)
  exact (fe_var 4)
  exact (fe_var 3)
  refine @fw_or1 _ _ _ _ ?_
  refine @ft_cmp _ _ _ _ _ _ _ _ _ (op_neD hr.units) (sem_eqS (g := fun b => !b)) ?_ ?_ (nomark _)
  exact (fe_var 1)
  exact (fe_var 0)
  refine @fss_one _ _ _ _ ?_
  exact (fs_ret fe_bl)
  refine @fss_cons _ _ _ _ _ _ ?_ ?_
  refine fs_expr ?_
  refine fe_appObj ?_ ?_
  refine @fe_ix _ _ _ _ _ _ _ _ ix_seq sem_ix ?_ fe_int (fun _ _ => rfl)
  exact (fe_var 4)
  exact (@fa_consP _ _ _ _ _ fe_int fa_nil rfl)
  refine @fss_cons _ _ _ _ _ _ ?_ ?_
  refine fs_expr ?_
  refine fe_appObj ?_ ?_
  refine @fe_ix _ _ _ _ _ _ _ _ ix_seq sem_ix ?_ fe_int (fun _ _ => rfl)
  exact (fe_var 4)
  exact (@fa_consP _ _ _ _ _ fe_int fa_nil rfl)
  refine @fss_cons _ _ _ _ _ _ ?_ ?_
  exact (fs_dictApp 4 5 PassesOwn.never rfl sc_f_law_good.nd)
  refine @fss_one _ _ _ _ ?_
  refine @fs_ret _ _ _ _ ?_
  refine @fe_cmp _ _ _ _ _ _ _ _ _ (op_eqK hr.units) (sem_eqK (b := true)) ?_ ?_ (nomark _)
  refine @fe_pure _ _ _ ?_
  refine @ff_lst _ _ _ _ ?_
  refine @fa_consP _ _ _ _ _ ?_ ?_ rfl
  refine @fe_obj _ _ _ ?_
  refine ff_callP (ih .reached_) hr rfl (M.mgs .reached_) (Fun.kp (M.fn .reached_)) (M.bd .reached_) ?_
  refine @fa_consP _ _ _ _ _ ?_ fa_nil rfl
  exact (fe_var 1)
  refine @fa_consP _ _ _ _ _ ?_ ?_ rfl
  refine @fe_obj _ _ _ ?_
  refine ff_callP (ih .ending_) hr rfl (M.mgs .ending_) (Fun.kp (M.fn .ending_)) (M.bd .ending_) ?_
  refine @fa_consP _ _ _ _ _ ?_ fa_nil rfl
  exact (fe_var 1)
  refine @fa_consP _ _ _ _ _ ?_ fa_nil rfl
  refine @fe_callP _ _ _ _ _ _ _ _ _ _ _ _ (ih .rows_to_) hr rfl (M.mgs .rows_to_) (Fun.kp (M.fn .rows_to_)) (M.bd .rows_to_) ?_ (by decide) (by rfl) (by rfl)
  refine @fa_consP _ _ _ _ _ ?_ fa_nil rfl
  exact (fe_var 1)
  exact (fe_var 3)
theorem sc_law_ : FnScope (ns .law_) (ps .law_) (defScope (st .law_)) := ⟨rfl, rfl, rfl, by decide +kernel, rfl, by decide +kernel, by decide +kernel⟩
theorem ok_law_ (M : Md K mg A fd) (ih : ∀ x, FnOk P w K mg base CX0 n (A x) (fd x) (ps x) (spB (fr x) K (run n x))) : FnOk P w K mg base CX0 (n + 1) (A .law_) (fd .law_) (ps .law_) (spF K (run (n + 1) .law_)) := by
  refine run_ok (g := fnOf 1 3 (m_law_K42 (run n .f_law_states) (run n .f_law_good) (run n .f_law_cell))) rfl (fn_ok2 rfl rfl (M.fn .law_) sc_law_ (fun cdv A' outer s H E hr => ?_))
  refine @fss_cons _ _ _ _ _ _ ?_ ?_
  refine @fs_if _ _ _ _ _ _ _ _ _ ?_ ?_ fss_nil
  refine @ft_not _ _ _ _ ?_
  refine @ft_val _ _ _ ?_ (by intro _; rfl)
  refine @fe_callP _ _ _ _ _ _ _ _ _ _ _ _ (ih .f_law_good) hr rfl (M.mgs .f_law_good) (Fun.kp (M.fn .f_law_good)) (M.bd .f_law_good) ?_ (by decide) (by rfl) (by rfl)
  refine @fa_consP _ _ _ _ _ ?_ fa_nil rfl
  refine @fe_callP _ _ _ _ _ _ _ _ _ _ _ _ (ih .f_law_states) hr rfl (M.mgs .f_law_states) (Fun.kp (M.fn .f_law_states)) (M.bd .f_law_states) ?_ (by decide) (by rfl) (by rfl)
  refine @fa_consP _ _ _ _ _ ?_ ?_ rfl
  exact (fe_var 0)
  refine @fa_consP _ _ _ _ _ fe_int ?_ rfl
  refine @fa_consP _ _ _ _ _ ?_ fa_nil rfl
  refine @fe_op _ _ _ _ _ _ _ _ _ op_add5 sem_add5 fe_int ?_
  refine @fe_op _ _ _ _ _ _ _ _ _ op_mod sem_mod ?_ fe_int
  refine @fe_callP _ _ _ _ _ _ _ _ _ _ _ _ (ih .f_law_cell) hr rfl (M.mgs .f_law_cell) (Fun.kp (M.fn .f_law_cell)) (M.bd .f_law_cell) ?_ (by decide) (by rfl) (by rfl)
  refine @fa_consP _ _ _ _ _ ?_ ?_ rfl
  exact (fe_var 0)
  exact (@fa_consP _ _ _ _ _ fe_int fa_nil rfl)
  refine @fss_one _ _ _ _ ?_
  exact (fs_ret fe_bl)
  refine @fss_cons _ _ _ _ _ _ ?_ ?_
  refine @fs_for _ _ _ _ _ _ _ _ _ PassesOwn.never rfl ?_ ?_ ?_ (by intro _; rfl)
  refine fi_range1P rfl M.z_range ?_
  exact (@fa_consP _ _ _ _ _ fe_int fa_nil rfl)
  exact (fg_name sc_law_.nd rfl (.inl rfl))
  refine @fss_cons _ _ _ _ _ _ ?_ ?_
  refine @fs_set _ _ _ _ 2 _ _ _ sc_law_.nd rfl (.inl rfl) ?_ (by rfl) (by first | exact .inl rfl | exact .inr rfl | assumption)
  refine @fe_op _ _ _ _ _ _ _ _ _ op_add5 sem_add5 fe_int ?_
  refine @fe_op _ _ _ _ _ _ _ _ _ op_mod sem_mod ?_ fe_int
  refine @fe_op _ _ _ _ _ _ _ _ _ op_fdiv sem_fdiv ?_ ?_
  refine @fe_callP _ _ _ _ _ _ _ _ _ _ _ _ (ih .f_law_cell) hr rfl (M.mgs .f_law_cell) (Fun.kp (M.fn .f_law_cell)) (M.bd .f_law_cell) ?_ (by decide) (by rfl) (by rfl)
  refine @fa_consP _ _ _ _ _ ?_ ?_ rfl
  exact (fe_var 0)
  exact (@fa_consP _ _ _ _ _ fe_int fa_nil rfl)
  refine @fe_op _ _ _ _ _ _ _ _ _ op_add5 sem_add5 fe_int ?_
  refine @fe_op _ _ _ _ _ _ _ _ _ op_mul4 sem_mul4 fe_int ?_
  exact (fe_var 1)
  refine @fss_one _ _ _ _ ?_
  refine @fs_if _ _ _ _ _ _ _ _ _ ?_ ?_ fss_nil
  refine @ft_not _ _ _ _ ?_
  refine @ft_val _ _ _ ?_ (by intro _; rfl)
  refine @fe_callP _ _ _ _ _ _ _ _ _ _ _ _ (ih .f_law_good) hr rfl (M.mgs .f_law_good) (Fun.kp (M.fn .f_law_good)) (M.bd .f_law_good) ?_ (by decide) (by rfl) (by rfl)
  refine @fa_consP _ _ _ _ _ ?_ fa_nil rfl
  refine @fe_callP _ _ _ _ _ _ _ _ _ _ _ _ (ih .f_law_states) hr rfl (M.mgs .f_law_states) (Fun.kp (M.fn .f_law_states)) (M.bd .f_law_states) ?_ (by decide) (by rfl) (by rfl)
  refine @fa_consP _ _ _ _ _ ?_ ?_ rfl
  exact (fe_var 0)
  refine @fa_consP _ _ _ _ _ ?_ ?_ rfl
  refine @fe_op _ _ _ _ _ _ _ _ _ op_add5 sem_add5 fe_int ?_
  refine @fe_op _ _ _ _ _ _ _ _ _ op_mul4 sem_mul4 fe_int ?_
  exact (fe_var 1)
  refine @fa_consP _ _ _ _ _ ?_ fa_nil rfl
  exact (fe_var 2)
  refine @fss_one _ _ _ _ ?_
  exact (fs_ret fe_bl)
  refine @fss_one _ _ _ _ ?_
  exact (fs_ret fe_bl)
theorem all_ok (M : Md K mg A fd) : ∀ (n : Nat) (x : Fx), FnOk P w K mg base CX0 n (A x) (fd x) (ps x) (spB (fr x) K (run n x))
  | 0, x => by cases x <;> exact ⟨fun vs H Q E h => (by obtain ⟨c, ds, S, _, _, r, S', e, _⟩ := h; cases e), fun A' outer s H args us vs Q E _ _ _ _ h => (by obtain ⟨c, ds, S, _, _, r, S', e, _⟩ := h; cases e)⟩
  | n + 1, x => by
    have ih := all_ok M n
    cases x with
    | words_of_ => exact ok_words_of_ M ih
    | is_end_ => exact ok_is_end_ M ih
    | reached_ => exact ok_reached_ M ih
    | rows_to_ => exact ok_rows_to_ M ih
    | ending_ => exact ok_ending_ M ih
    | leads_to_ => exact ok_leads_to_ M ih
    | f_law_cell => exact ok_f_law_cell M ih
    | f_law_mixed => exact ok_f_law_mixed M ih
    | f_law_states => exact ok_f_law_states M ih
    | f_law_words => exact ok_f_law_words M ih
    | f_law_rows => exact ok_f_law_rows M ih
    | f_law_ending => exact ok_f_law_ending M ih
    | f_law_good => exact ok_f_law_good M ih
    | law_ => exact ok_law_ M ih
end
theorem ln1 {α : Type} {us : List α} (h : us.length = 1) : ∃ a, us = [a] := (by cases us with | nil => cases h | cons a r => cases r with | nil => exact ⟨a, rfl⟩ | cons _ _ => cases h)
theorem ln2 {α : Type} {us : List α} (h : us.length = 2) : ∃ a b, us = [a, b] := (by cases us with | nil => cases h | cons a r => obtain ⟨b, rfl⟩ := ln1 (Nat.succ.inj h); exact ⟨a, b, rfl⟩)
theorem ln3 {α : Type} {us : List α} (h : us.length = 3) : ∃ a b c, us = [a, b, c] := (by cases us with | nil => cases h | cons a r => obtain ⟨b, c, rfl⟩ := ln2 (Nat.succ.inj h); exact ⟨a, b, c, rfl⟩)
theorem md_mk {K : PySem.W.Frag} {h : Heap} {mg : Str → Option Value} (X : K.In h) (G : h.Ns mainGlobals mg)
    {f0 : Addr} {od0 an0 : Option Addr} {sl0 : Array (Option Value)} {oc0 kV0 dc0 pm0 cd0 ct0 : Value} (a0 : PySem.W.nsIn K mainGlobals (nm .words_of_) = some (some (.ref f0))) (l0 : K.lookup f0 = some ⟨oc0, od0, .func (PySem.W.fnOf (nm .words_of_) (nm .words_of_) (defArgs (st .words_of_)) (defBody (st .words_of_)) (defScope (st .words_of_)) .none kV0 dc0 pm0 an0 cd0 ct0), sl0⟩) (c0 : PySem.W.codeIn K cd0 (nm .words_of_) = true) (k0 : PySem.W.keepIn K (.ref f0) = true)
    {f1 : Addr} {od1 an1 : Option Addr} {sl1 : Array (Option Value)} {oc1 kV1 dc1 pm1 cd1 ct1 : Value} (a1 : PySem.W.nsIn K mainGlobals (nm .is_end_) = some (some (.ref f1))) (l1 : K.lookup f1 = some ⟨oc1, od1, .func (PySem.W.fnOf (nm .is_end_) (nm .is_end_) (defArgs (st .is_end_)) (defBody (st .is_end_)) (defScope (st .is_end_)) .none kV1 dc1 pm1 an1 cd1 ct1), sl1⟩) (c1 : PySem.W.codeIn K cd1 (nm .is_end_) = true) (k1 : PySem.W.keepIn K (.ref f1) = true)
    {f2 : Addr} {od2 an2 : Option Addr} {sl2 : Array (Option Value)} {oc2 kV2 dc2 pm2 cd2 ct2 : Value} (a2 : PySem.W.nsIn K mainGlobals (nm .reached_) = some (some (.ref f2))) (l2 : K.lookup f2 = some ⟨oc2, od2, .func (PySem.W.fnOf (nm .reached_) (nm .reached_) (defArgs (st .reached_)) (defBody (st .reached_)) (defScope (st .reached_)) .none kV2 dc2 pm2 an2 cd2 ct2), sl2⟩) (c2 : PySem.W.codeIn K cd2 (nm .reached_) = true) (k2 : PySem.W.keepIn K (.ref f2) = true)
    {f3 : Addr} {od3 an3 : Option Addr} {sl3 : Array (Option Value)} {oc3 kV3 dc3 pm3 cd3 ct3 : Value} (a3 : PySem.W.nsIn K mainGlobals (nm .rows_to_) = some (some (.ref f3))) (l3 : K.lookup f3 = some ⟨oc3, od3, .func (PySem.W.fnOf (nm .rows_to_) (nm .rows_to_) (defArgs (st .rows_to_)) (defBody (st .rows_to_)) (defScope (st .rows_to_)) .none kV3 dc3 pm3 an3 cd3 ct3), sl3⟩) (c3 : PySem.W.codeIn K cd3 (nm .rows_to_) = true) (k3 : PySem.W.keepIn K (.ref f3) = true)
    {f4 : Addr} {od4 an4 : Option Addr} {sl4 : Array (Option Value)} {oc4 kV4 dc4 pm4 cd4 ct4 : Value} (a4 : PySem.W.nsIn K mainGlobals (nm .ending_) = some (some (.ref f4))) (l4 : K.lookup f4 = some ⟨oc4, od4, .func (PySem.W.fnOf (nm .ending_) (nm .ending_) (defArgs (st .ending_)) (defBody (st .ending_)) (defScope (st .ending_)) .none kV4 dc4 pm4 an4 cd4 ct4), sl4⟩) (c4 : PySem.W.codeIn K cd4 (nm .ending_) = true) (k4 : PySem.W.keepIn K (.ref f4) = true)
    {f5 : Addr} {od5 an5 : Option Addr} {sl5 : Array (Option Value)} {oc5 kV5 dc5 pm5 cd5 ct5 : Value} (a5 : PySem.W.nsIn K mainGlobals (nm .leads_to_) = some (some (.ref f5))) (l5 : K.lookup f5 = some ⟨oc5, od5, .func (PySem.W.fnOf (nm .leads_to_) (nm .leads_to_) (defArgs (st .leads_to_)) (defBody (st .leads_to_)) (defScope (st .leads_to_)) .none kV5 dc5 pm5 an5 cd5 ct5), sl5⟩) (c5 : PySem.W.codeIn K cd5 (nm .leads_to_) = true) (k5 : PySem.W.keepIn K (.ref f5) = true)
    {f6 : Addr} {od6 an6 : Option Addr} {sl6 : Array (Option Value)} {oc6 kV6 dc6 pm6 cd6 ct6 : Value} (a6 : PySem.W.nsIn K mainGlobals (nm .f_law_cell) = some (some (.ref f6))) (l6 : K.lookup f6 = some ⟨oc6, od6, .func (PySem.W.fnOf (nm .f_law_cell) (nm .f_law_cell) (defArgs (st .f_law_cell)) (defBody (st .f_law_cell)) (defScope (st .f_law_cell)) .none kV6 dc6 pm6 an6 cd6 ct6), sl6⟩) (c6 : PySem.W.codeIn K cd6 (nm .f_law_cell) = true) (k6 : PySem.W.keepIn K (.ref f6) = true)
    {f7 : Addr} {od7 an7 : Option Addr} {sl7 : Array (Option Value)} {oc7 kV7 dc7 pm7 cd7 ct7 : Value} (a7 : PySem.W.nsIn K mainGlobals (nm .f_law_mixed) = some (some (.ref f7))) (l7 : K.lookup f7 = some ⟨oc7, od7, .func (PySem.W.fnOf (nm .f_law_mixed) (nm .f_law_mixed) (defArgs (st .f_law_mixed)) (defBody (st .f_law_mixed)) (defScope (st .f_law_mixed)) .none kV7 dc7 pm7 an7 cd7 ct7), sl7⟩) (c7 : PySem.W.codeIn K cd7 (nm .f_law_mixed) = true) (k7 : PySem.W.keepIn K (.ref f7) = true)
    {f8 : Addr} {od8 an8 : Option Addr} {sl8 : Array (Option Value)} {oc8 kV8 dc8 pm8 cd8 ct8 : Value} (a8 : PySem.W.nsIn K mainGlobals (nm .f_law_states) = some (some (.ref f8))) (l8 : K.lookup f8 = some ⟨oc8, od8, .func (PySem.W.fnOf (nm .f_law_states) (nm .f_law_states) (defArgs (st .f_law_states)) (defBody (st .f_law_states)) (defScope (st .f_law_states)) .none kV8 dc8 pm8 an8 cd8 ct8), sl8⟩) (c8 : PySem.W.codeIn K cd8 (nm .f_law_states) = true) (k8 : PySem.W.keepIn K (.ref f8) = true)
    {f9 : Addr} {od9 an9 : Option Addr} {sl9 : Array (Option Value)} {oc9 kV9 dc9 pm9 cd9 ct9 : Value} (a9 : PySem.W.nsIn K mainGlobals (nm .f_law_words) = some (some (.ref f9))) (l9 : K.lookup f9 = some ⟨oc9, od9, .func (PySem.W.fnOf (nm .f_law_words) (nm .f_law_words) (defArgs (st .f_law_words)) (defBody (st .f_law_words)) (defScope (st .f_law_words)) .none kV9 dc9 pm9 an9 cd9 ct9), sl9⟩) (c9 : PySem.W.codeIn K cd9 (nm .f_law_words) = true) (k9 : PySem.W.keepIn K (.ref f9) = true)
    {f10 : Addr} {od10 an10 : Option Addr} {sl10 : Array (Option Value)} {oc10 kV10 dc10 pm10 cd10 ct10 : Value} (a10 : PySem.W.nsIn K mainGlobals (nm .f_law_rows) = some (some (.ref f10))) (l10 : K.lookup f10 = some ⟨oc10, od10, .func (PySem.W.fnOf (nm .f_law_rows) (nm .f_law_rows) (defArgs (st .f_law_rows)) (defBody (st .f_law_rows)) (defScope (st .f_law_rows)) .none kV10 dc10 pm10 an10 cd10 ct10), sl10⟩) (c10 : PySem.W.codeIn K cd10 (nm .f_law_rows) = true) (k10 : PySem.W.keepIn K (.ref f10) = true)
    {f11 : Addr} {od11 an11 : Option Addr} {sl11 : Array (Option Value)} {oc11 kV11 dc11 pm11 cd11 ct11 : Value} (a11 : PySem.W.nsIn K mainGlobals (nm .f_law_ending) = some (some (.ref f11))) (l11 : K.lookup f11 = some ⟨oc11, od11, .func (PySem.W.fnOf (nm .f_law_ending) (nm .f_law_ending) (defArgs (st .f_law_ending)) (defBody (st .f_law_ending)) (defScope (st .f_law_ending)) .none kV11 dc11 pm11 an11 cd11 ct11), sl11⟩) (c11 : PySem.W.codeIn K cd11 (nm .f_law_ending) = true) (k11 : PySem.W.keepIn K (.ref f11) = true)
    {f12 : Addr} {od12 an12 : Option Addr} {sl12 : Array (Option Value)} {oc12 kV12 dc12 pm12 cd12 ct12 : Value} (a12 : PySem.W.nsIn K mainGlobals (nm .f_law_good) = some (some (.ref f12))) (l12 : K.lookup f12 = some ⟨oc12, od12, .func (PySem.W.fnOf (nm .f_law_good) (nm .f_law_good) (defArgs (st .f_law_good)) (defBody (st .f_law_good)) (defScope (st .f_law_good)) .none kV12 dc12 pm12 an12 cd12 ct12), sl12⟩) (c12 : PySem.W.codeIn K cd12 (nm .f_law_good) = true) (k12 : PySem.W.keepIn K (.ref f12) = true)
    {f13 : Addr} {od13 an13 : Option Addr} {sl13 : Array (Option Value)} {oc13 kV13 dc13 pm13 cd13 ct13 : Value} (a13 : PySem.W.nsIn K mainGlobals (nm .law_) = some (some (.ref f13))) (l13 : K.lookup f13 = some ⟨oc13, od13, .func (PySem.W.fnOf (nm .law_) (nm .law_) (defArgs (st .law_)) (defBody (st .law_)) (defScope (st .law_)) .none kV13 dc13 pm13 an13 cd13 ct13), sl13⟩) (c13 : PySem.W.codeIn K cd13 (nm .law_) = true) (k13 : PySem.W.keepIn K (.ref f13) = true)
    (z_any : PySem.W.nsIn K mainGlobals "any" = some none)
    (z_len : PySem.W.nsIn K mainGlobals "len" = some none)
    (z_list : PySem.W.nsIn K mainGlobals "list" = some none)
    (z_range : PySem.W.nsIn K mainGlobals "range" = some none)
    (z_sorted : PySem.W.nsIn K mainGlobals "sorted" = some none)
    : ∃ (A : Fx → Addr) (fd : Fx → FuncData), Md K mg A fd ∧ A .law_ = f13 ∧ fd .law_ = PySem.W.fnOf (nm .law_) (nm .law_) (defArgs (st .law_)) (defBody (st .law_)) (defScope (st .law_)) .none kV13 dc13 pm13 an13 cd13 ct13 := by
  refine ⟨fun | .words_of_ => f0 | .is_end_ => f1 | .reached_ => f2 | .rows_to_ => f3 | .ending_ => f4 | .leads_to_ => f5 | .f_law_cell => f6 | .f_law_mixed => f7 | .f_law_states => f8 | .f_law_words => f9 | .f_law_rows => f10 | .f_law_ending => f11 | .f_law_good => f12 | .law_ => f13,
    fun | .words_of_ => PySem.W.fnOf (nm .words_of_) (nm .words_of_) (defArgs (st .words_of_)) (defBody (st .words_of_)) (defScope (st .words_of_)) .none kV0 dc0 pm0 an0 cd0 ct0 | .is_end_ => PySem.W.fnOf (nm .is_end_) (nm .is_end_) (defArgs (st .is_end_)) (defBody (st .is_end_)) (defScope (st .is_end_)) .none kV1 dc1 pm1 an1 cd1 ct1 | .reached_ => PySem.W.fnOf (nm .reached_) (nm .reached_) (defArgs (st .reached_)) (defBody (st .reached_)) (defScope (st .reached_)) .none kV2 dc2 pm2 an2 cd2 ct2 | .rows_to_ => PySem.W.fnOf (nm .rows_to_) (nm .rows_to_) (defArgs (st .rows_to_)) (defBody (st .rows_to_)) (defScope (st .rows_to_)) .none kV3 dc3 pm3 an3 cd3 ct3 | .ending_ => PySem.W.fnOf (nm .ending_) (nm .ending_) (defArgs (st .ending_)) (defBody (st .ending_)) (defScope (st .ending_)) .none kV4 dc4 pm4 an4 cd4 ct4 | .leads_to_ => PySem.W.fnOf (nm .leads_to_) (nm .leads_to_) (defArgs (st .leads_to_)) (defBody (st .leads_to_)) (defScope (st .leads_to_)) .none kV5 dc5 pm5 an5 cd5 ct5 | .f_law_cell => PySem.W.fnOf (nm .f_law_cell) (nm .f_law_cell) (defArgs (st .f_law_cell)) (defBody (st .f_law_cell)) (defScope (st .f_law_cell)) .none kV6 dc6 pm6 an6 cd6 ct6 | .f_law_mixed => PySem.W.fnOf (nm .f_law_mixed) (nm .f_law_mixed) (defArgs (st .f_law_mixed)) (defBody (st .f_law_mixed)) (defScope (st .f_law_mixed)) .none kV7 dc7 pm7 an7 cd7 ct7 | .f_law_states => PySem.W.fnOf (nm .f_law_states) (nm .f_law_states) (defArgs (st .f_law_states)) (defBody (st .f_law_states)) (defScope (st .f_law_states)) .none kV8 dc8 pm8 an8 cd8 ct8 | .f_law_words => PySem.W.fnOf (nm .f_law_words) (nm .f_law_words) (defArgs (st .f_law_words)) (defBody (st .f_law_words)) (defScope (st .f_law_words)) .none kV9 dc9 pm9 an9 cd9 ct9 | .f_law_rows => PySem.W.fnOf (nm .f_law_rows) (nm .f_law_rows) (defArgs (st .f_law_rows)) (defBody (st .f_law_rows)) (defScope (st .f_law_rows)) .none kV10 dc10 pm10 an10 cd10 ct10 | .f_law_ending => PySem.W.fnOf (nm .f_law_ending) (nm .f_law_ending) (defArgs (st .f_law_ending)) (defBody (st .f_law_ending)) (defScope (st .f_law_ending)) .none kV11 dc11 pm11 an11 cd11 ct11 | .f_law_good => PySem.W.fnOf (nm .f_law_good) (nm .f_law_good) (defArgs (st .f_law_good)) (defBody (st .f_law_good)) (defScope (st .f_law_good)) .none kV12 dc12 pm12 an12 cd12 ct12 | .law_ => PySem.W.fnOf (nm .law_) (nm .law_) (defArgs (st .law_)) (defBody (st .law_)) (defScope (st .law_)) .none kV13 dc13 pm13 an13 cd13 ct13, ?_, rfl, rfl⟩
  refine { fn := fun x => ?_, mgs := fun x => ?_, bd := fun x => ?_, z_any := PySem.W.mg_none_of X G z_any, z_len := PySem.W.mg_none_of X G z_len, z_list := PySem.W.mg_none_of X G z_list, z_range := PySem.W.mg_none_of X G z_range, z_sorted := PySem.W.mg_none_of X G z_sorted }
  · cases x with
    | words_of_ => exact fun_mk (st := st .words_of_) l0 c0 k0
    | is_end_ => exact fun_mk (st := st .is_end_) l1 c1 k1
    | reached_ => exact fun_mk (st := st .reached_) l2 c2 k2
    | rows_to_ => exact fun_mk (st := st .rows_to_) l3 c3 k3
    | ending_ => exact fun_mk (st := st .ending_) l4 c4 k4
    | leads_to_ => exact fun_mk (st := st .leads_to_) l5 c5 k5
    | f_law_cell => exact fun_mk (st := st .f_law_cell) l6 c6 k6
    | f_law_mixed => exact fun_mk (st := st .f_law_mixed) l7 c7 k7
    | f_law_states => exact fun_mk (st := st .f_law_states) l8 c8 k8
    | f_law_words => exact fun_mk (st := st .f_law_words) l9 c9 k9
    | f_law_rows => exact fun_mk (st := st .f_law_rows) l10 c10 k10
    | f_law_ending => exact fun_mk (st := st .f_law_ending) l11 c11 k11
    | f_law_good => exact fun_mk (st := st .f_law_good) l12 c12 k12
    | law_ => exact fun_mk (st := st .law_) l13 c13 k13
  · cases x with
    | words_of_ => exact PySem.W.mg_of X G a0
    | is_end_ => exact PySem.W.mg_of X G a1
    | reached_ => exact PySem.W.mg_of X G a2
    | rows_to_ => exact PySem.W.mg_of X G a3
    | ending_ => exact PySem.W.mg_of X G a4
    | leads_to_ => exact PySem.W.mg_of X G a5
    | f_law_cell => exact PySem.W.mg_of X G a6
    | f_law_mixed => exact PySem.W.mg_of X G a7
    | f_law_states => exact PySem.W.mg_of X G a8
    | f_law_words => exact PySem.W.mg_of X G a9
    | f_law_rows => exact PySem.W.mg_of X G a10
    | f_law_ending => exact PySem.W.mg_of X G a11
    | f_law_good => exact PySem.W.mg_of X G a12
    | law_ => exact PySem.W.mg_of X G a13
  · cases x with
    | words_of_ => exact (fun_mk (st := st .words_of_) l0 c0 k0).binds (ps := ps .words_of_) fun _ _ _ _ _ _ us hl => by obtain ⟨_, rfl⟩ := ln1 hl; rfl
    | is_end_ => exact (fun_mk (st := st .is_end_) l1 c1 k1).binds (ps := ps .is_end_) fun _ _ _ _ _ _ us hl => by obtain ⟨_, rfl⟩ := ln1 hl; rfl
    | reached_ => exact (fun_mk (st := st .reached_) l2 c2 k2).binds (ps := ps .reached_) fun _ _ _ _ _ _ us hl => by obtain ⟨_, rfl⟩ := ln1 hl; rfl
    | rows_to_ => exact (fun_mk (st := st .rows_to_) l3 c3 k3).binds (ps := ps .rows_to_) fun _ _ _ _ _ _ us hl => by obtain ⟨_, rfl⟩ := ln1 hl; rfl
    | ending_ => exact (fun_mk (st := st .ending_) l4 c4 k4).binds (ps := ps .ending_) fun _ _ _ _ _ _ us hl => by obtain ⟨_, rfl⟩ := ln1 hl; rfl
    | leads_to_ => exact (fun_mk (st := st .leads_to_) l5 c5 k5).binds (ps := ps .leads_to_) fun _ _ _ _ _ _ us hl => by obtain ⟨_, _, rfl⟩ := ln2 hl; rfl
    | f_law_cell => exact (fun_mk (st := st .f_law_cell) l6 c6 k6).binds (ps := ps .f_law_cell) fun _ _ _ _ _ _ us hl => by obtain ⟨_, _, rfl⟩ := ln2 hl; rfl
    | f_law_mixed => exact (fun_mk (st := st .f_law_mixed) l7 c7 k7).binds (ps := ps .f_law_mixed) fun _ _ _ _ _ _ us hl => by obtain ⟨_, _, rfl⟩ := ln2 hl; rfl
    | f_law_states => exact (fun_mk (st := st .f_law_states) l8 c8 k8).binds (ps := ps .f_law_states) fun _ _ _ _ _ _ us hl => by obtain ⟨_, _, _, rfl⟩ := ln3 hl; rfl
    | f_law_words => exact (fun_mk (st := st .f_law_words) l9 c9 k9).binds (ps := ps .f_law_words) fun _ _ _ _ _ _ us hl => by obtain ⟨_, rfl⟩ := ln1 hl; rfl
    | f_law_rows => exact (fun_mk (st := st .f_law_rows) l10 c10 k10).binds (ps := ps .f_law_rows) fun _ _ _ _ _ _ us hl => by obtain ⟨_, rfl⟩ := ln1 hl; rfl
    | f_law_ending => exact (fun_mk (st := st .f_law_ending) l11 c11 k11).binds (ps := ps .f_law_ending) fun _ _ _ _ _ _ us hl => by obtain ⟨_, rfl⟩ := ln1 hl; rfl
    | f_law_good => exact (fun_mk (st := st .f_law_good) l12 c12 k12).binds (ps := ps .f_law_good) fun _ _ _ _ _ _ us hl => by obtain ⟨_, rfl⟩ := ln1 hl; rfl
    | law_ => exact (fun_mk (st := st .law_) l13 c13 k13).binds (ps := ps .law_) fun _ _ _ _ _ _ us hl => by obtain ⟨_, rfl⟩ := ln1 hl; rfl
theorem fin_mk {K : PySem.W.Frag} {h : Heap} {mg : Str → Option Value} {fa : Addr} (X : K.In h) (G : h.Ns mainGlobals mg) (hmg : mg "law" = some (.ref fa))
    {f0 : Addr} {od0 an0 : Option Addr} {sl0 : Array (Option Value)} {oc0 kV0 dc0 pm0 cd0 ct0 : Value} (a0 : PySem.W.nsIn K mainGlobals (nm .words_of_) = some (some (.ref f0))) (l0 : K.lookup f0 = some ⟨oc0, od0, .func (PySem.W.fnOf (nm .words_of_) (nm .words_of_) (defArgs (st .words_of_)) (defBody (st .words_of_)) (defScope (st .words_of_)) .none kV0 dc0 pm0 an0 cd0 ct0), sl0⟩) (c0 : PySem.W.codeIn K cd0 (nm .words_of_) = true) (k0 : PySem.W.keepIn K (.ref f0) = true)
    {f1 : Addr} {od1 an1 : Option Addr} {sl1 : Array (Option Value)} {oc1 kV1 dc1 pm1 cd1 ct1 : Value} (a1 : PySem.W.nsIn K mainGlobals (nm .is_end_) = some (some (.ref f1))) (l1 : K.lookup f1 = some ⟨oc1, od1, .func (PySem.W.fnOf (nm .is_end_) (nm .is_end_) (defArgs (st .is_end_)) (defBody (st .is_end_)) (defScope (st .is_end_)) .none kV1 dc1 pm1 an1 cd1 ct1), sl1⟩) (c1 : PySem.W.codeIn K cd1 (nm .is_end_) = true) (k1 : PySem.W.keepIn K (.ref f1) = true)
    {f2 : Addr} {od2 an2 : Option Addr} {sl2 : Array (Option Value)} {oc2 kV2 dc2 pm2 cd2 ct2 : Value} (a2 : PySem.W.nsIn K mainGlobals (nm .reached_) = some (some (.ref f2))) (l2 : K.lookup f2 = some ⟨oc2, od2, .func (PySem.W.fnOf (nm .reached_) (nm .reached_) (defArgs (st .reached_)) (defBody (st .reached_)) (defScope (st .reached_)) .none kV2 dc2 pm2 an2 cd2 ct2), sl2⟩) (c2 : PySem.W.codeIn K cd2 (nm .reached_) = true) (k2 : PySem.W.keepIn K (.ref f2) = true)
    {f3 : Addr} {od3 an3 : Option Addr} {sl3 : Array (Option Value)} {oc3 kV3 dc3 pm3 cd3 ct3 : Value} (a3 : PySem.W.nsIn K mainGlobals (nm .rows_to_) = some (some (.ref f3))) (l3 : K.lookup f3 = some ⟨oc3, od3, .func (PySem.W.fnOf (nm .rows_to_) (nm .rows_to_) (defArgs (st .rows_to_)) (defBody (st .rows_to_)) (defScope (st .rows_to_)) .none kV3 dc3 pm3 an3 cd3 ct3), sl3⟩) (c3 : PySem.W.codeIn K cd3 (nm .rows_to_) = true) (k3 : PySem.W.keepIn K (.ref f3) = true)
    {f4 : Addr} {od4 an4 : Option Addr} {sl4 : Array (Option Value)} {oc4 kV4 dc4 pm4 cd4 ct4 : Value} (a4 : PySem.W.nsIn K mainGlobals (nm .ending_) = some (some (.ref f4))) (l4 : K.lookup f4 = some ⟨oc4, od4, .func (PySem.W.fnOf (nm .ending_) (nm .ending_) (defArgs (st .ending_)) (defBody (st .ending_)) (defScope (st .ending_)) .none kV4 dc4 pm4 an4 cd4 ct4), sl4⟩) (c4 : PySem.W.codeIn K cd4 (nm .ending_) = true) (k4 : PySem.W.keepIn K (.ref f4) = true)
    {f5 : Addr} {od5 an5 : Option Addr} {sl5 : Array (Option Value)} {oc5 kV5 dc5 pm5 cd5 ct5 : Value} (a5 : PySem.W.nsIn K mainGlobals (nm .leads_to_) = some (some (.ref f5))) (l5 : K.lookup f5 = some ⟨oc5, od5, .func (PySem.W.fnOf (nm .leads_to_) (nm .leads_to_) (defArgs (st .leads_to_)) (defBody (st .leads_to_)) (defScope (st .leads_to_)) .none kV5 dc5 pm5 an5 cd5 ct5), sl5⟩) (c5 : PySem.W.codeIn K cd5 (nm .leads_to_) = true) (k5 : PySem.W.keepIn K (.ref f5) = true)
    {f6 : Addr} {od6 an6 : Option Addr} {sl6 : Array (Option Value)} {oc6 kV6 dc6 pm6 cd6 ct6 : Value} (a6 : PySem.W.nsIn K mainGlobals (nm .f_law_cell) = some (some (.ref f6))) (l6 : K.lookup f6 = some ⟨oc6, od6, .func (PySem.W.fnOf (nm .f_law_cell) (nm .f_law_cell) (defArgs (st .f_law_cell)) (defBody (st .f_law_cell)) (defScope (st .f_law_cell)) .none kV6 dc6 pm6 an6 cd6 ct6), sl6⟩) (c6 : PySem.W.codeIn K cd6 (nm .f_law_cell) = true) (k6 : PySem.W.keepIn K (.ref f6) = true)
    {f7 : Addr} {od7 an7 : Option Addr} {sl7 : Array (Option Value)} {oc7 kV7 dc7 pm7 cd7 ct7 : Value} (a7 : PySem.W.nsIn K mainGlobals (nm .f_law_mixed) = some (some (.ref f7))) (l7 : K.lookup f7 = some ⟨oc7, od7, .func (PySem.W.fnOf (nm .f_law_mixed) (nm .f_law_mixed) (defArgs (st .f_law_mixed)) (defBody (st .f_law_mixed)) (defScope (st .f_law_mixed)) .none kV7 dc7 pm7 an7 cd7 ct7), sl7⟩) (c7 : PySem.W.codeIn K cd7 (nm .f_law_mixed) = true) (k7 : PySem.W.keepIn K (.ref f7) = true)
    {f8 : Addr} {od8 an8 : Option Addr} {sl8 : Array (Option Value)} {oc8 kV8 dc8 pm8 cd8 ct8 : Value} (a8 : PySem.W.nsIn K mainGlobals (nm .f_law_states) = some (some (.ref f8))) (l8 : K.lookup f8 = some ⟨oc8, od8, .func (PySem.W.fnOf (nm .f_law_states) (nm .f_law_states) (defArgs (st .f_law_states)) (defBody (st .f_law_states)) (defScope (st .f_law_states)) .none kV8 dc8 pm8 an8 cd8 ct8), sl8⟩) (c8 : PySem.W.codeIn K cd8 (nm .f_law_states) = true) (k8 : PySem.W.keepIn K (.ref f8) = true)
    {f9 : Addr} {od9 an9 : Option Addr} {sl9 : Array (Option Value)} {oc9 kV9 dc9 pm9 cd9 ct9 : Value} (a9 : PySem.W.nsIn K mainGlobals (nm .f_law_words) = some (some (.ref f9))) (l9 : K.lookup f9 = some ⟨oc9, od9, .func (PySem.W.fnOf (nm .f_law_words) (nm .f_law_words) (defArgs (st .f_law_words)) (defBody (st .f_law_words)) (defScope (st .f_law_words)) .none kV9 dc9 pm9 an9 cd9 ct9), sl9⟩) (c9 : PySem.W.codeIn K cd9 (nm .f_law_words) = true) (k9 : PySem.W.keepIn K (.ref f9) = true)
    {f10 : Addr} {od10 an10 : Option Addr} {sl10 : Array (Option Value)} {oc10 kV10 dc10 pm10 cd10 ct10 : Value} (a10 : PySem.W.nsIn K mainGlobals (nm .f_law_rows) = some (some (.ref f10))) (l10 : K.lookup f10 = some ⟨oc10, od10, .func (PySem.W.fnOf (nm .f_law_rows) (nm .f_law_rows) (defArgs (st .f_law_rows)) (defBody (st .f_law_rows)) (defScope (st .f_law_rows)) .none kV10 dc10 pm10 an10 cd10 ct10), sl10⟩) (c10 : PySem.W.codeIn K cd10 (nm .f_law_rows) = true) (k10 : PySem.W.keepIn K (.ref f10) = true)
    {f11 : Addr} {od11 an11 : Option Addr} {sl11 : Array (Option Value)} {oc11 kV11 dc11 pm11 cd11 ct11 : Value} (a11 : PySem.W.nsIn K mainGlobals (nm .f_law_ending) = some (some (.ref f11))) (l11 : K.lookup f11 = some ⟨oc11, od11, .func (PySem.W.fnOf (nm .f_law_ending) (nm .f_law_ending) (defArgs (st .f_law_ending)) (defBody (st .f_law_ending)) (defScope (st .f_law_ending)) .none kV11 dc11 pm11 an11 cd11 ct11), sl11⟩) (c11 : PySem.W.codeIn K cd11 (nm .f_law_ending) = true) (k11 : PySem.W.keepIn K (.ref f11) = true)
    {f12 : Addr} {od12 an12 : Option Addr} {sl12 : Array (Option Value)} {oc12 kV12 dc12 pm12 cd12 ct12 : Value} (a12 : PySem.W.nsIn K mainGlobals (nm .f_law_good) = some (some (.ref f12))) (l12 : K.lookup f12 = some ⟨oc12, od12, .func (PySem.W.fnOf (nm .f_law_good) (nm .f_law_good) (defArgs (st .f_law_good)) (defBody (st .f_law_good)) (defScope (st .f_law_good)) .none kV12 dc12 pm12 an12 cd12 ct12), sl12⟩) (c12 : PySem.W.codeIn K cd12 (nm .f_law_good) = true) (k12 : PySem.W.keepIn K (.ref f12) = true)
    {f13 : Addr} {od13 an13 : Option Addr} {sl13 : Array (Option Value)} {oc13 kV13 dc13 pm13 cd13 ct13 : Value} (a13 : PySem.W.nsIn K mainGlobals (nm .law_) = some (some (.ref f13))) (l13 : K.lookup f13 = some ⟨oc13, od13, .func (PySem.W.fnOf (nm .law_) (nm .law_) (defArgs (st .law_)) (defBody (st .law_)) (defScope (st .law_)) .none kV13 dc13 pm13 an13 cd13 ct13), sl13⟩) (c13 : PySem.W.codeIn K cd13 (nm .law_) = true) (k13 : PySem.W.keepIn K (.ref f13) = true)
    (z_any : PySem.W.nsIn K mainGlobals "any" = some none)
    (z_len : PySem.W.nsIn K mainGlobals "len" = some none)
    (z_list : PySem.W.nsIn K mainGlobals "list" = some none)
    (z_range : PySem.W.nsIn K mainGlobals "range" = some none)
    (z_sorted : PySem.W.nsIn K mainGlobals "sorted" = some none)
    : ∃ (A : Fx → Addr) (fd : Fx → FuncData), Md K mg A fd ∧ A .law_ = fa ∧ ∀ (s : Shared) (u : Value), BindsTo s (fd .law_) ⟨[u], []⟩ [("script", u)] := by
  obtain ⟨A, fd, M, e1, e2⟩ := md_mk X G a0 l0 c0 k0 a1 l1 c1 k1 a2 l2 c2 k2 a3 l3 c3 k3 a4 l4 c4 k4 a5 l5 c5 k5 a6 l6 c6 k6 a7 l7 c7 k7 a8 l8 c8 k8 a9 l9 c9 k9 a10 l10 c10 k10 a11 l11 c11 k11 a12 l12 c12 k12 a13 l13 c13 k13 z_any z_len z_list z_range z_sorted
  have e := hmg.symm.trans (PySem.W.mg_of X G a13)
  cases e
  exact ⟨A, fd, M, e1, fun s u => by rw [e2]; exact .of_eq rfl⟩
theorem walk {l : PySem.W.OpenLaw} {q : Program} {loose : List Str} {XP : (Str → Option Value) → Heap → Prop} {YP : World → Heap → Prop} {d : DefRec} {K : Params → PySem.W.Frag} (m : Nat) (hm : Room m callerA) (hn : l.most = some 63) (hdf : d.params.defaults = [])
    (hY : ∀ (w : World) (h : Heap), YP w h → (K w.params).In h) (lt : ∀ ns : List Int, ns.length ≤ 63 → ∃ S', run m .law_ [.scr ns] [] = some (.bl true, S'))
    (F : ∀ (w : World) (mg : Str → Option Value) (fa : Addr) (h : Heap), (K w.params).In h → h.Ns mainGlobals mg → mg d.name = some (.ref fa) →
      ∃ (A : Fx → Addr) (fd : Fx → FuncData), Md (K w.params) mg A fd ∧ A .law_ = fa ∧ ∀ (s : Shared) (u : Value), BindsTo s (fd .law_) ⟨[u], []⟩ [("script", u)]) :
    PySem.W.WalkO q loose XP YP l.row.toRowW d [] (fun f vs => PySem.call f vs) :=
  L2.walk_of (n := 63) (k := m) (x := "script") (CX := fun _ => CX0) (sp := fun w => spF (K w.params) (run m .law_)) hn (by decide) hdf hm hY
    (fun w mg fa h KX G hmg => by obtain ⟨A, fd, M, e, b⟩ := F w mg fa h KX G hmg; subst e; exact ⟨fd .law_, b, fun base _ _ => all_ok M m .law_⟩)
    (fun w H a ns hl hO hS => by obtain ⟨S', e⟩ := lt ns hl; exact law_start hO hS e) fun _ _ _ _ _ z => z
theorem end_all (k : Nat) : IsEndW (run (k + 1) .is_end_) := is_endW
theorem words_all (k : Nat) : WordsW (run (k + 2) .words_of_) := wordsW (end_all k)
theorem rows_all (k : Nat) : RowsOk2 (run (k + 3) .rows_to_) := rows2_ok (words_all k)
theorem reached_all (k : Nat) : ReachedOk2 (run (k + 4) .reached_) := reached2_ok (rows_all k)
theorem leads_all (k : Nat) : LeadsOk (run (k + 3) .leads_to_) := leads_ok (words_all k)
theorem ending_all (k : Nat) : EndingOk (run (k + 4) .ending_) := ending_ok (end_all (k + 2)) (leads_all k)
theorem cell_all (k : Nat) : Cell2Ok (run (k + 1) .f_law_cell) := cell2_ok
theorem mixed_all (k : Nat) : MixedOk (run (k + 1) .f_law_mixed) := mixed_ok
theorem states_all (k : Nat) : StatesOk (run (k + 2) .f_law_states) := states2_ok (mixed_all k) (cell_all k)
theorem lwords_all (k : Nat) : LWordsOk (run (k + 1) .f_law_words) := lwords_ok
theorem lrows_all (k : Nat) : LRowsOk (run (k + 2) .f_law_rows) := lrows_ok (lwords_all k)
theorem lend_all (k : Nat) : LEndOk (run (k + 2) .f_law_ending) := lend_ok (lwords_all k)
theorem good_all (k : Nat) : GoodOk2 (run (k + 5) .f_law_good) := good2_ok (rows_all (k + 1)) (ending_all k) (reached_all k) (lend_all (k + 2)) (lrows_all (k + 2))
theorem law_true (ns : List Int) (h : ns.length ≤ 63) : ∃ S', run 100 .law_ [.scr ns] [] = some (.bl true, S') := by
  obtain ⟨r, S', e, p⟩ := k41_ok (states_all 97) (good_all 94) (cell_all 98) (ns := ns)
  subst p
  exact ⟨S', e⟩
end K41
open PySem PySem.W PyProof.Rows
set_option maxRecDepth 100000 in
set_option maxHeartbeats 0 in
theorem PySem.Challenge.cw_wireparley_k41_states_reached_and_ending_holds : PySem.Challenge.rw_wireparley_k41_states_reached_and_ending.Holds := by
  w_on; o_law; k_head; (case hw => w_witness2)
  k_fill
  refine K41.walk (l := PySem.Challenge.rw_wireparley_k41_states_reached_and_ending) 100 ⟨rfl, by decide, by decide⟩ rfl rfl (fun w h Y => PySem.W.kIn_of Y) K41.law_true ?F
  case F =>
    intro w mg fa h KX G hmg
    refine' K41.fin_mk KX G hmg ?a0 ?l0 ?c0 ?k0 ?a1 ?l1 ?c1 ?k1 ?a2 ?l2 ?c2 ?k2 ?a3 ?l3 ?c3 ?k3 ?a4 ?l4 ?c4 ?k4 ?a5 ?l5 ?c5 ?k5 ?a6 ?l6 ?c6 ?k6 ?a7 ?l7 ?c7 ?k7 ?a8 ?l8 ?c8 ?k8 ?a9 ?l9 ?c9 ?k9 ?a10 ?l10 ?c10 ?k10 ?a11 ?l11 ?c11 ?k11 ?a12 ?l12 ?c12 ?k12 ?a13 ?l13 ?c13 ?k13 ?z_any ?z_len ?z_list ?z_range ?z_sorted
    (case a0 => k_is)
    (case l0 => k_is)
    (case c0 => k_is)
    (case k0 => k_is)
    (case a1 => k_is)
    (case l1 => k_is)
    (case c1 => k_is)
    (case k1 => k_is)
    (case a2 => k_is)
    (case l2 => k_is)
    (case c2 => k_is)
    (case k2 => k_is)
    (case a3 => k_is)
    (case l3 => k_is)
    (case c3 => k_is)
    (case k3 => k_is)
    (case a4 => k_is)
    (case l4 => k_is)
    (case c4 => k_is)
    (case k4 => k_is)
    (case a5 => k_is)
    (case l5 => k_is)
    (case c5 => k_is)
    (case k5 => k_is)
    (case a6 => k_is)
    (case l6 => k_is)
    (case c6 => k_is)
    (case k6 => k_is)
    (case a7 => k_is)
    (case l7 => k_is)
    (case c7 => k_is)
    (case k7 => k_is)
    (case a8 => k_is)
    (case l8 => k_is)
    (case c8 => k_is)
    (case k8 => k_is)
    (case a9 => k_is)
    (case l9 => k_is)
    (case c9 => k_is)
    (case k9 => k_is)
    (case a10 => k_is)
    (case l10 => k_is)
    (case c10 => k_is)
    (case k10 => k_is)
    (case a11 => k_is)
    (case l11 => k_is)
    (case c11 => k_is)
    (case k11 => k_is)
    (case a12 => k_is)
    (case l12 => k_is)
    (case c12 => k_is)
    (case k12 => k_is)
    (case a13 => k_is)
    (case l13 => k_is)
    (case c13 => k_is)
    (case k13 => k_is)
    (case z_any => k_is)
    (case z_len => k_is)
    (case z_list => k_is)
    (case z_range => k_is)
    (case z_sorted => k_is)
#print axioms PySem.Challenge.cw_wireparley_k41_states_reached_and_ending_holds
